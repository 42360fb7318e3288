import PyProof.Rows.All
import Wide.All
import OpenK.AllK
import Wide.FinOn
import Lean
import PyProof.EqAt
import PyProof.EqKinds
import PyProof.TupleCall
import PyProof.AttrMissSeq
import KE.KDictList
import PyProof.WalksEnum
import PyProof.EnumMake
import PyProof.ZipIter
import PyProof.Rows.ZipGen
import PyProof.Rows.SumAny
import PyProof.DictUpdate
import KE.KRevSl
import PySem.Challenge.RW_hushrow_k28_whole_runs
set_option Elab.async false
set_option linter.all false
set_option maxRecDepth 100000
namespace Hd
open PySem PySem.W PySem.Calls PyProof.Rows
def tG (tb:String->Option Builtin) (p:Program) (w:World) (n₀:Nat) (ann:Option Value):Nat->SharedT->Thread->Option SharedT
 | 0,_,_=>none
 | n + 1,s,t=>match through t with
  | true=>some s
  | false=>match stepOk n₀ ann t with
   | false=>none
   | true=>match stepT (denote tb) p w s t with
    | some (s',t')=>tG tb p w n₀ ann n s' t'
    | none=>none
theorem yf {tb:String->Option Builtin}{p:Program}{w:World}{n₀:Nat}{ann:Option Value}:∀{n:Nat}{s s':SharedT}{t:Thread},
  tG tb p w n₀ ann n s t=some s'->topRun tb p w n₀ ann n s.abs t=some s'.abs
 | 0,_,_,_,h=>by cases h
 | n + 1,s,s',t,h=>by
  unfold tG at h
  unfold topRun
  cases he:through t with
  | true=>rw [he] at h;cases h;rfl
  | false =>
   rw [he] at h
   cases hk:stepOk n₀ ann t with
   | false=>rw [hk] at h;cases h
   | true =>
    rw [hk] at h
    cases hs:stepT (denote tb) p w s t with
    | none=>rw [hs] at h;cases h
    | some r=>obtain ⟨s₂,t₂⟩:=r;rw [hs] at h;rw [stepT_spec hs];exact yf h
def Ds (p q:Program) (loose:List Str) (Xt:Shared->Bool) {α:Type} (Yf:Shared->α) (g0:Bool) (H:Heap) (s:Shared) :=
 (staticsOk (importedModules p.main.body) H s.heap && namesBound p s.heap && gensDone s && laidKept H s.heap,openSeen q loose (importedModules p.main.body) Xt g0 s,Yf s)
def y4 (p q:Program) (loose:List Str) (Xt:Shared->Bool) (g0:Bool) (H:Heap) (s:Shared) :=
 (staticsOk (importedModules p.main.body) H s.heap && namesBound p s.heap && gensDone s && laidKept H s.heap,openSeen q loose (importedModules p.main.body) Xt g0 s)
def treeOf:List Obj->Nat->BT->BT
 | [],_,t=>t
 | o :: r,i,t=>treeOf r (i + 1) (t.ins i o)
theorem Ao {p q:Program}{loose:List Str}{Xt:Shared->Bool}{α:Type}{Yf:Shared->α}{Ya:World->α}{N:Nat}{g0:Bool}{H₀:Params->Heap}{gs₀:Array GenState}{d₀:Drawn}{k₀ m₀ n₀:Nat}{ann:Option Value}{T₀:Params->BT}{life:Life}
  (opn:∀w:World,(fencedOpening treeTable p w N).map (fun s=>(s.heap,s.gens,s.drawn,s.toks))=some (H₀ w.params,gs₀,d₀,k₀))
  (size:∀w:World,((H₀ w.params).isNs mainGlobals && gs₀.size == 0,(H₀ w.params).objs.size,(H₀ w.params).nsMap mainGlobals "__annotations__")=(true,m₀,ann))
  (tree:∀P:Params,absHeap (T₀ P) n₀ life=H₀ P)
  (look:∀(w:World) (os:OsState),(tG treeTable p w m₀ ann N ⟨T₀ w.params,n₀,life,gs₀,d₀,k₀,os⟩ (topStub p)).map (fun s=>Ds p q loose Xt Yf g0 (H₀ w.params) s.abs)=some (true,openGood q loose,Ya w)) :
  LeftO p q loose Xt Yf Ya N g0:=fun w=>by
 obtain ⟨⟨h,gs,d,k,os⟩,e,e'⟩:=Option.map_eq_some_iff.mp (opn w)
 obtain ⟨rfl,rfl,rfl,rfl⟩:h=H₀ w.params/\gs=gs₀/\d=d₀/\k=k₀:=by simpa using e'
 obtain ⟨z1,z2,z3⟩:_/\_/\_:=by simpa only [Prod.mk.injEq] using size w
 obtain ⟨s,hs,hl⟩:=Option.map_eq_some_iff.mp (look w os)
 obtain ⟨l1,l23⟩:=Prod.mk.inj hl
 obtain ⟨l2,l3⟩:=Prod.mk.inj l23
 have r:=yf hs
 have t:topFrom treeTable p w N ⟨H₀ w.params,gs,d,k,os⟩=some s.abs:=by
  unfold topFrom
  dsimp only
  rw [z1,z2,z3]
  unfold SharedT.abs at r
  dsimp only at r
  rw [tree w.params] at r
  show (topRun treeTable p w m₀ ann N ⟨H₀ w.params,gs,d,k,os⟩ (topStub p)).bind _=_
  rw [r]
  show (match staticsOk (importedModules p.main.body) (H₀ w.params) s.abs.heap && namesBound p s.abs.heap && gensDone s.abs && laidKept (H₀ w.params) s.abs.heap with | true=>_ | false=>_)=_
  rw [l1]
  rfl
 unfold openEnds
 rw [e]
 show (topFrom treeTable p w N _).map _=_
 rw [t]
 exact congrArg some (Prod.ext l2 l3)
theorem yc {p q:Program}{loose:List Str}{Xt:Shared->Bool}{α:Type}{Yf:Shared->α}{Ya:World->α}{N:Nat}{g0:Bool}{H₀:Params->Heap}{gs₀:Array GenState}{d₀:Drawn}{k₀ m₀ n₀:Nat}{ann:Option Value}{T₀:Params->BT}{life:Life}
  (opn:∀w:World,(fencedOpening treeTable p w N).map (fun s=>(s.heap,s.gens,s.drawn,s.toks))=some (H₀ w.params,gs₀,d₀,k₀))
  (size:∀w:World,((H₀ w.params).isNs mainGlobals && gs₀.size == 0,(H₀ w.params).objs.size,(H₀ w.params).nsMap mainGlobals "__annotations__")=(true,m₀,ann))
  (tree:∀P:Params,absHeap (T₀ P) n₀ life=H₀ P)
  (look1:∀(w:World) (os:OsState),(tG treeTable p w m₀ ann N ⟨T₀ w.params,n₀,life,gs₀,d₀,k₀,os⟩ (topStub p)).map (fun s=>y4 p q loose Xt g0 (H₀ w.params) s.abs)=some (true,openGood q loose))
  (look2:∀(w:World) (os:OsState),(tG treeTable p w m₀ ann N ⟨T₀ w.params,n₀,life,gs₀,d₀,k₀,os⟩ (topStub p)).map (fun s=>Yf s.abs)=some (Ya w)) :
  LeftO p q loose Xt Yf Ya N g0:=Ao opn size tree fun w os=>by
 obtain ⟨s,hs,h1⟩:=Option.map_eq_some_iff.mp (look1 w os)
 have h2:=look2 w os
 rw [hs] at h2 ⊢
 exact congrArg some (Prod.ext (Prod.mk.inj h1).1 (Prod.ext (Prod.mk.inj h1).2 (Option.some.inj h2)))
end Hd
namespace L2
open PySem PySem.Spec PyProof.Rows
def inClass (s:Stmt) (j:Nat):Stmt:=match s with
 | .ClassDef _ _ _ body _ _ _ _ _ _ _=>body.getD j (.Pass ⟨0,0,0,0⟩)
 | _=>.Pass ⟨0,0,0,0⟩
def eh (s:Stmt):Arguments:=match s with
 | .FunctionDef _ a _ _ _ _ _ _ _ _=>a
 | _=>{ posonlyargs:=[],args:=[],vararg:=none,kwonlyargs:=[],kw_defaults:=[],kwarg:=none,defaults:=[] }
def cO (s:Stmt):List Stmt:=match s with
 | .FunctionDef _ _ b _ _ _ _ _ _ _=>b
 | _=>[]
def au (s:Stmt):Scope:=match s with
 | .FunctionDef _ _ _ _ _ _ sc _ _ _=>sc
 | _=>{ kind:=.function,names:=[],isGenerator:=false,isCoroutine:=false }
end L2
namespace K28
open PySem
def top (i:Nat):Stmt:=PySem.Challenge.pw_hushrow_k28_whole_runs.main.body.getD i (.Pass ⟨0,0,0,0⟩)
end K28
set_option maxHeartbeats 0
namespace K28
open PySem L2 PySem.W
noncomputable abbrev E (P:Params) (x:Str) (t:Nat) (v:Value):DictEntry:=⟨PyData.keyHash P x,.str x t,v⟩
noncomputable abbrev CO (n q:Str) (t:Nat) (l a:Int) (r:Nat) (m:Nat):Obj:=⟨.type "code",none,.fields #[.str n t,.str q (t + 1),.str "/claim/cut.py" (t + 2),.int l 0,.int a 0,.int 0 0,.int 0 0,.int 3 0,.ref r,.bool true,.int 181 0,.ref (r + 1),.none,.ref (r + 2),.ref (r + 3),.ref (r + 4),.int m 0,.int l 0,.str "/claim/cut.py" (m + 1)],#[]⟩
noncomputable abbrev FU (n q:Str) (s:Stmt) (m:Str) (t c:Nat):Obj:=⟨.type "function",none,.func (W.fnOf n q (eh s) (cO s) (au s) .none .none .none (.str m t) none (.ref c) .none),#[]⟩
noncomputable def heapK (P:Params):W.Frag :=
 (nat_lit 2,⟨.none,none,.dict #[] 0,#[]⟩) ::
 (nat_lit 3,⟨(.type "dict"),none,.dict #[E P "__name__" 165 (.str "law_hushrow_k28_whole_runs" 1091),E P "__doc__" 166 .none,E P "__package__" 167 .none,E P "__loader__" 168 (.builtin "__main__.__loader__#opaque"),E P "__spec__" 169 .none,E P "__annotations__" 170 (.ref 6),E P "__builtins__" 171 (.ref 4),E P "__file__" 173 (.str "/claim/cut.py" 172),E P "__cached__" 174 .none,E P "_wall" 193 (.ref 21),E P "Book" 227 (.ref 38),E P "HushError" 247 (.ref 52),E P "NoGift" 272 (.ref 72),E P "Row" 317 (.ref 105),E P "HandRow" 352 (.ref 133),E P "GivenRow" 389 (.ref 159),E P "OwnRow" 424 (.ref 185),E P "LetRow" 459 (.ref 211),E P "SetRow" 508 (.ref 251),E P "PutRow" 559 (.ref 291),E P "SendRow" 601 (.ref 324),E P "SayRow" 652 (.ref 364),E P "CallRow" 694 (.ref 397),E P "LastRow" 717 (.ref 416),E P "IfRow" 765 (.ref 449),E P "LoopRow" 813 (.ref 482),E P "DeedRow" 850 (.ref 508),E P "Program" 883 (.ref 527),E P "MOST_NUMBER" 887 (.int (999999999999) 886),E P "is_number" 894 (.ref 538),E P "is_good" 900 (.ref 543),E P "given_cell" 909 (.ref 550),E P "own_cell" 916 (.ref 557),E P "cells_of" 928 (.ref 564),E P "ROUND" 932 (.int (1000000000000) 931),E P "reckon" 941 (.ref 571),E P "round_place" 949 (.ref 578),E P "Run" 1074 (.ref 663),E P "ends_of" 1080 (.ref 672),E P "run" 1090 (.ref 679),E P "_law_cell_at" 1100 (.ref 686),E P "_law_mix" 1111 (.ref 693),E P "_law_name" 1125 (.ref 700),E P "_law_number" 1132 (.ref 707),E P "_law_thing" 1140 (.ref 714),E P "_law_value" 1151 (.ref 721),E P "_law_kind" 1163 (.ref 728),E P "_law_plain" 1169 (.ref 733),E P "_law_block" 1187 (.ref 740),E P "_law_nodes" 1199 (.ref 747),E P "_law_made" 1209 (.ref 754),E P "_law_heads" 1219 (.ref 761),E P "_law_drawn" 1225 (.ref 766),E P "_law_program" 1237 (.ref 773),E P "_law_gifts" 1243 (.ref 778),E P "_law_taken" 1251 (.ref 785),E P "_law_reckoned" 1261 (.ref 792),E P "_law_do" 1267 (.ref 797),E P "_law_do_block" 1279 (.ref 804),E P "_law_do_all" 1289 (.ref 811),E P "_law_due" 1295 (.ref 816),E P "_law_same" 1304 (.ref 823),E P "_law_book" 1314 (.ref 830),E P "law" 1329 (.ref 837)] 64,#[]⟩) ::
 (nat_lit 34,CO "__init__" "Book.__init__" 208 7 1 29 212) ::
 (nat_lit 35,FU "__init__" "Book.__init__" (inClass (top 2) 0) "hushrow.books" 194 34) ::
 (nat_lit 37,⟨(.type "dict"),none,.dict #[E P "__module__" 203 (.str "hushrow.books" 194),E P "__firstlineno__" 207 (.int (5) 206),E P "__init__" 214 (.ref 35),E P "__static_attributes__" 220 (.ref 36),E P "__dict__" 222 (.ref 39),E P "__weakref__" 224 (.ref 40),E P "__doc__" 225 .none] 4,#[]⟩) ::
 (nat_lit 38,⟨(.type "type"),none,.cls { name:="Book",bases:=[(.type "object")],mro:=[(.ref 38),(.type "object")],ns:=37,qualname:="Book",hasDict:=true,slotNames:=[],subclasses:=[],abstract:=false,collection:=none,hasDel:=false },#[none,none,(some (.str "Book" 196)),(some (.str "Book" 204)),(some (.builtin "object.__new__")),(some (.bool true))]⟩) ::
 (nat_lit 39,⟨(.type "getset_descriptor"),none,.fields #[(.str "__dict__" 221),(.ref 38),(.builtin "function.__dict__"),(.builtin "function.__dict__#set")],#[]⟩) ::
 (nat_lit 40,⟨(.type "getset_descriptor"),none,.fields #[(.str "__weakref__" 223),(.ref 38),(.builtin "ExceptionGroup.__weakref__"),.none],#[]⟩) ::
 (nat_lit 51,⟨(.type "dict"),none,.dict #[E P "__module__" 237 (.str "hushrow.errors" 228),E P "__firstlineno__" 241 (.int (14) 240),E P "__static_attributes__" 242 (.ref 50),E P "__weakref__" 244 (.ref 53),E P "__doc__" 245 .none] 3,#[]⟩) ::
 (nat_lit 52,⟨(.type "type"),none,.cls { name:="HushError",bases:=[(.type "ValueError")],mro:=[(.ref 52),(.type "ValueError"),(.type "Exception"),(.type "BaseException"),(.type "object")],ns:=51,qualname:="HushError",hasDict:=true,slotNames:=[],subclasses:=[(.ref 72)],abstract:=false,collection:=none,hasDel:=false },#[(some (.ref 43)),none,(some (.str "HushError" 230)),(some (.str "HushError" 238)),(some (.builtin "ValueError.__new__")),(some (.bool true))]⟩) ::
 (nat_lit 53,⟨(.type "getset_descriptor"),none,.fields #[(.str "__weakref__" 243),(.ref 52),(.builtin "ExceptionGroup.__weakref__"),.none],#[]⟩) ::
 (nat_lit 71,⟨(.type "dict"),none,.dict #[E P "__module__" 255 (.str "hushrow.errors" 228),E P "__firstlineno__" 259 (.int (16) 258),E P "__init__" 267 (.ref 69),E P "__static_attributes__" 269 (.ref 70),E P "__doc__" 270 .none] 2,#[]⟩) ::
 (nat_lit 72,⟨(.type "type"),none,.cls { name:="NoGift",bases:=[(.ref 52)],mro:=[(.ref 72),(.ref 52),(.type "ValueError"),(.type "Exception"),(.type "BaseException"),(.type "object")],ns:=71,qualname:="NoGift",hasDict:=true,slotNames:=[],subclasses:=[],abstract:=false,collection:=none,hasDel:=false },#[(some (.ref 56)),none,(some (.str "NoGift" 248)),(some (.str "NoGift" 256)),(some (.builtin "ValueError.__new__")),(some (.bool true))]⟩) ::
 (nat_lit 87,CO "__init__" "Row.__init__" 287 23 2 82 292) ::
 (nat_lit 88,FU "__init__" "Row.__init__" (inClass (top 7) 0) "hushrow.rows" 273 87) ::
 (nat_lit 104,⟨(.type "dict"),none,.dict #[E P "__module__" 282 (.str "hushrow.rows" 273),E P "__firstlineno__" 286 (.int (21) 285),E P "__init__" 294 (.ref 88),E P "reads" 301 (.ref 95),E P "target" 308 (.ref 102),E P "__static_attributes__" 310 (.ref 103),E P "__dict__" 312 (.ref 106),E P "__weakref__" 314 (.ref 107),E P "__doc__" 315 .none] 4,#[]⟩) ::
 (nat_lit 105,⟨(.type "type"),none,.cls { name:="Row",bases:=[(.type "object")],mro:=[(.ref 105),(.type "object")],ns:=104,qualname:="Row",hasDict:=true,slotNames:=[],subclasses:=[(.ref 133),(.ref 159),(.ref 185),(.ref 211),(.ref 251),(.ref 291),(.ref 324),(.ref 364),(.ref 397),(.ref 416),(.ref 449),(.ref 482),(.ref 508)],abstract:=false,collection:=none,hasDel:=false },#[none,none,(some (.str "Row" 275)),(some (.str "Row" 283)),(some (.builtin "object.__new__")),(some (.bool true))]⟩) ::
 (nat_lit 106,⟨(.type "getset_descriptor"),none,.fields #[(.str "__dict__" 311),(.ref 105),(.builtin "function.__dict__"),(.builtin "function.__dict__#set")],#[]⟩) ::
 (nat_lit 107,⟨(.type "getset_descriptor"),none,.fields #[(.str "__weakref__" 313),(.ref 105),(.builtin "ExceptionGroup.__weakref__"),.none],#[]⟩) ::
 (nat_lit 122,CO "__init__" "HandRow.__init__" 330 33 4 117 337) ::
 (nat_lit 123,FU "__init__" "HandRow.__init__" (inClass (top 8) 0) "hushrow.rows" 273 122) ::
 (nat_lit 132,⟨(.type "dict"),none,.dict #[E P "__module__" 325 (.str "hushrow.rows" 273),E P "__firstlineno__" 329 (.int (31) 328),E P "__init__" 339 (.ref 123),E P "shown" 346 (.ref 130),E P "__static_attributes__" 349 (.ref 131),E P "__doc__" 350 .none] 2,#[]⟩) ::
 (nat_lit 133,⟨(.type "type"),none,.cls { name:="HandRow",bases:=[(.ref 105)],mro:=[(.ref 133),(.ref 105),(.type "object")],ns:=132,qualname:="HandRow",hasDict:=true,slotNames:=[],subclasses:=[],abstract:=false,collection:=none,hasDel:=false },#[(some (.ref 110)),none,(some (.str "HandRow" 318)),(some (.str "HandRow" 326)),(some (.builtin "object.__new__")),(some (.bool true))]⟩) ::
 (nat_lit 148,CO "__init__" "GivenRow.__init__" 365 42 5 143 373) ::
 (nat_lit 149,FU "__init__" "GivenRow.__init__" (inClass (top 9) 0) "hushrow.rows" 273 148) ::
 (nat_lit 158,⟨(.type "dict"),none,.dict #[E P "__module__" 360 (.str "hushrow.rows" 273),E P "__firstlineno__" 364 (.int (40) 363),E P "__init__" 375 (.ref 149),E P "shown" 382 (.ref 156),E P "__static_attributes__" 386 (.ref 157),E P "__doc__" 387 .none] 2,#[]⟩) ::
 (nat_lit 159,⟨(.type "type"),none,.cls { name:="GivenRow",bases:=[(.ref 105)],mro:=[(.ref 159),(.ref 105),(.type "object")],ns:=158,qualname:="GivenRow",hasDict:=true,slotNames:=[],subclasses:=[],abstract:=false,collection:=none,hasDel:=false },#[(some (.ref 136)),none,(some (.str "GivenRow" 353)),(some (.str "GivenRow" 361)),(some (.builtin "object.__new__")),(some (.bool true))]⟩) ::
 (nat_lit 174,CO "__init__" "OwnRow.__init__" 402 52 4 169 409) ::
 (nat_lit 175,FU "__init__" "OwnRow.__init__" (inClass (top 10) 0) "hushrow.rows" 273 174) ::
 (nat_lit 184,⟨(.type "dict"),none,.dict #[E P "__module__" 397 (.str "hushrow.rows" 273),E P "__firstlineno__" 401 (.int (50) 400),E P "__init__" 411 (.ref 175),E P "shown" 418 (.ref 182),E P "__static_attributes__" 421 (.ref 183),E P "__doc__" 422 .none] 2,#[]⟩) ::
 (nat_lit 185,⟨(.type "type"),none,.cls { name:="OwnRow",bases:=[(.ref 105)],mro:=[(.ref 185),(.ref 105),(.type "object")],ns:=184,qualname:="OwnRow",hasDict:=true,slotNames:=[],subclasses:=[],abstract:=false,collection:=none,hasDel:=false },#[(some (.ref 162)),none,(some (.str "OwnRow" 390)),(some (.str "OwnRow" 398)),(some (.builtin "object.__new__")),(some (.bool true))]⟩) ::
 (nat_lit 200,CO "__init__" "LetRow.__init__" 437 61 4 195 444) ::
 (nat_lit 201,FU "__init__" "LetRow.__init__" (inClass (top 11) 0) "hushrow.rows" 273 200) ::
 (nat_lit 210,⟨(.type "dict"),none,.dict #[E P "__module__" 432 (.str "hushrow.rows" 273),E P "__firstlineno__" 436 (.int (59) 435),E P "__init__" 446 (.ref 201),E P "shown" 453 (.ref 208),E P "__static_attributes__" 456 (.ref 209),E P "__doc__" 457 .none] 2,#[]⟩) ::
 (nat_lit 211,⟨(.type "type"),none,.cls { name:="LetRow",bases:=[(.ref 105)],mro:=[(.ref 211),(.ref 105),(.type "object")],ns:=210,qualname:="LetRow",hasDict:=true,slotNames:=[],subclasses:=[],abstract:=false,collection:=none,hasDel:=false },#[(some (.ref 188)),none,(some (.str "LetRow" 425)),(some (.str "LetRow" 433)),(some (.builtin "object.__new__")),(some (.bool true))]⟩) ::
 (nat_lit 226,CO "__init__" "SetRow.__init__" 472 70 4 221 479) ::
 (nat_lit 227,FU "__init__" "SetRow.__init__" (inClass (top 12) 0) "hushrow.rows" 273 226) ::
 (nat_lit 250,⟨(.type "dict"),none,.dict #[E P "__module__" 467 (.str "hushrow.rows" 273),E P "__firstlineno__" 471 (.int (68) 470),E P "__init__" 481 (.ref 227),E P "shown" 488 (.ref 234),E P "reads" 495 (.ref 241),E P "target" 502 (.ref 248),E P "__static_attributes__" 505 (.ref 249),E P "__doc__" 506 .none] 2,#[]⟩) ::
 (nat_lit 251,⟨(.type "type"),none,.cls { name:="SetRow",bases:=[(.ref 105)],mro:=[(.ref 251),(.ref 105),(.type "object")],ns:=250,qualname:="SetRow",hasDict:=true,slotNames:=[],subclasses:=[],abstract:=false,collection:=none,hasDel:=false },#[(some (.ref 214)),none,(some (.str "SetRow" 460)),(some (.str "SetRow" 468)),(some (.builtin "object.__new__")),(some (.bool true))]⟩) ::
 (nat_lit 266,CO "__init__" "PutRow.__init__" 521 85 5 261 529) ::
 (nat_lit 267,FU "__init__" "PutRow.__init__" (inClass (top 13) 0) "hushrow.rows" 273 266) ::
 (nat_lit 290,⟨(.type "dict"),none,.dict #[E P "__module__" 516 (.str "hushrow.rows" 273),E P "__firstlineno__" 520 (.int (83) 519),E P "__init__" 531 (.ref 267),E P "shown" 538 (.ref 274),E P "reads" 545 (.ref 281),E P "target" 552 (.ref 288),E P "__static_attributes__" 556 (.ref 289),E P "__doc__" 557 .none] 2,#[]⟩) ::
 (nat_lit 291,⟨(.type "type"),none,.cls { name:="PutRow",bases:=[(.ref 105)],mro:=[(.ref 291),(.ref 105),(.type "object")],ns:=290,qualname:="PutRow",hasDict:=true,slotNames:=[],subclasses:=[],abstract:=false,collection:=none,hasDel:=false },#[(some (.ref 254)),none,(some (.str "PutRow" 509)),(some (.str "PutRow" 517)),(some (.builtin "object.__new__")),(some (.bool true))]⟩) ::
 (nat_lit 306,CO "__init__" "SendRow.__init__" 572 101 4 301 579) ::
 (nat_lit 307,FU "__init__" "SendRow.__init__" (inClass (top 14) 0) "hushrow.rows" 273 306) ::
 (nat_lit 323,⟨(.type "dict"),none,.dict #[E P "__module__" 567 (.str "hushrow.rows" 273),E P "__firstlineno__" 571 (.int (99) 570),E P "__init__" 581 (.ref 307),E P "shown" 588 (.ref 314),E P "reads" 595 (.ref 321),E P "__static_attributes__" 598 (.ref 322),E P "__doc__" 599 .none] 2,#[]⟩) ::
 (nat_lit 324,⟨(.type "type"),none,.cls { name:="SendRow",bases:=[(.ref 105)],mro:=[(.ref 324),(.ref 105),(.type "object")],ns:=323,qualname:="SendRow",hasDict:=true,slotNames:=[],subclasses:=[],abstract:=false,collection:=none,hasDel:=false },#[(some (.ref 294)),none,(some (.str "SendRow" 560)),(some (.str "SendRow" 568)),(some (.builtin "object.__new__")),(some (.bool true))]⟩) ::
 (nat_lit 339,CO "__init__" "SayRow.__init__" 614 113 5 334 622) ::
 (nat_lit 340,FU "__init__" "SayRow.__init__" (inClass (top 15) 0) "hushrow.rows" 273 339) ::
 (nat_lit 363,⟨(.type "dict"),none,.dict #[E P "__module__" 609 (.str "hushrow.rows" 273),E P "__firstlineno__" 613 (.int (111) 612),E P "__init__" 624 (.ref 340),E P "shown" 631 (.ref 347),E P "reads" 638 (.ref 354),E P "target" 645 (.ref 361),E P "__static_attributes__" 649 (.ref 362),E P "__doc__" 650 .none] 2,#[]⟩) ::
 (nat_lit 364,⟨(.type "type"),none,.cls { name:="SayRow",bases:=[(.ref 105)],mro:=[(.ref 364),(.ref 105),(.type "object")],ns:=363,qualname:="SayRow",hasDict:=true,slotNames:=[],subclasses:=[],abstract:=false,collection:=none,hasDel:=false },#[(some (.ref 327)),none,(some (.str "SayRow" 602)),(some (.str "SayRow" 610)),(some (.builtin "object.__new__")),(some (.bool true))]⟩) ::
 (nat_lit 379,CO "__init__" "CallRow.__init__" 665 129 4 374 672) ::
 (nat_lit 380,FU "__init__" "CallRow.__init__" (inClass (top 16) 0) "hushrow.rows" 273 379) ::
 (nat_lit 396,⟨(.type "dict"),none,.dict #[E P "__module__" 660 (.str "hushrow.rows" 273),E P "__firstlineno__" 664 (.int (127) 663),E P "__init__" 674 (.ref 380),E P "shown" 681 (.ref 387),E P "reads" 688 (.ref 394),E P "__static_attributes__" 691 (.ref 395),E P "__doc__" 692 .none] 2,#[]⟩) ::
 (nat_lit 397,⟨(.type "type"),none,.cls { name:="CallRow",bases:=[(.ref 105)],mro:=[(.ref 397),(.ref 105),(.type "object")],ns:=396,qualname:="CallRow",hasDict:=true,slotNames:=[],subclasses:=[],abstract:=false,collection:=none,hasDel:=false },#[(some (.ref 367)),none,(some (.str "CallRow" 653)),(some (.str "CallRow" 661)),(some (.builtin "object.__new__")),(some (.bool true))]⟩) ::
 (nat_lit 415,⟨(.type "dict"),none,.dict #[E P "__module__" 702 (.str "hushrow.rows" 273),E P "__firstlineno__" 706 (.int (139) 705),E P "shown" 713 (.ref 413),E P "__static_attributes__" 714 (.ref 414),E P "__doc__" 715 .none] 2,#[]⟩) ::
 (nat_lit 416,⟨(.type "type"),none,.cls { name:="LastRow",bases:=[(.ref 105)],mro:=[(.ref 416),(.ref 105),(.type "object")],ns:=415,qualname:="LastRow",hasDict:=true,slotNames:=[],subclasses:=[],abstract:=false,collection:=none,hasDel:=false },#[(some (.ref 400)),none,(some (.str "LastRow" 695)),(some (.str "LastRow" 703)),(some (.builtin "object.__new__")),(some (.bool true))]⟩) ::
 (nat_lit 431,CO "__init__" "IfRow.__init__" 730 145 7 426 740) ::
 (nat_lit 432,FU "__init__" "IfRow.__init__" (inClass (top 18) 0) "hushrow.rows" 273 431) ::
 (nat_lit 448,⟨(.type "dict"),none,.dict #[E P "__module__" 725 (.str "hushrow.rows" 273),E P "__firstlineno__" 729 (.int (143) 728),E P "__init__" 742 (.ref 432),E P "shown" 749 (.ref 439),E P "reads" 756 (.ref 446),E P "__static_attributes__" 762 (.ref 447),E P "__doc__" 763 .none] 2,#[]⟩) ::
 (nat_lit 449,⟨(.type "type"),none,.cls { name:="IfRow",bases:=[(.ref 105)],mro:=[(.ref 449),(.ref 105),(.type "object")],ns:=448,qualname:="IfRow",hasDict:=true,slotNames:=[],subclasses:=[],abstract:=false,collection:=none,hasDel:=false },#[(some (.ref 419)),none,(some (.str "IfRow" 718)),(some (.str "IfRow" 726)),(some (.builtin "object.__new__")),(some (.bool true))]⟩) ::
 (nat_lit 464,CO "__init__" "LoopRow.__init__" 778 160 7 459 788) ::
 (nat_lit 465,FU "__init__" "LoopRow.__init__" (inClass (top 19) 0) "hushrow.rows" 273 464) ::
 (nat_lit 481,⟨(.type "dict"),none,.dict #[E P "__module__" 773 (.str "hushrow.rows" 273),E P "__firstlineno__" 777 (.int (158) 776),E P "__init__" 790 (.ref 465),E P "shown" 797 (.ref 472),E P "reads" 804 (.ref 479),E P "__static_attributes__" 810 (.ref 480),E P "__doc__" 811 .none] 2,#[]⟩) ::
 (nat_lit 482,⟨(.type "type"),none,.cls { name:="LoopRow",bases:=[(.ref 105)],mro:=[(.ref 482),(.ref 105),(.type "object")],ns:=481,qualname:="LoopRow",hasDict:=true,slotNames:=[],subclasses:=[],abstract:=false,collection:=none,hasDel:=false },#[(some (.ref 452)),none,(some (.str "LoopRow" 766)),(some (.str "LoopRow" 774)),(some (.builtin "object.__new__")),(some (.bool true))]⟩) ::
 (nat_lit 497,CO "__init__" "DeedRow.__init__" 826 175 5 492 834) ::
 (nat_lit 498,FU "__init__" "DeedRow.__init__" (inClass (top 20) 0) "hushrow.rows" 273 497) ::
 (nat_lit 507,⟨(.type "dict"),none,.dict #[E P "__module__" 821 (.str "hushrow.rows" 273),E P "__firstlineno__" 825 (.int (173) 824),E P "__init__" 836 (.ref 498),E P "shown" 843 (.ref 505),E P "__static_attributes__" 847 (.ref 506),E P "__doc__" 848 .none] 2,#[]⟩) ::
 (nat_lit 508,⟨(.type "type"),none,.cls { name:="DeedRow",bases:=[(.ref 105)],mro:=[(.ref 508),(.ref 105),(.type "object")],ns:=507,qualname:="DeedRow",hasDict:=true,slotNames:=[],subclasses:=[],abstract:=false,collection:=none,hasDel:=false },#[(some (.ref 485)),none,(some (.str "DeedRow" 814)),(some (.str "DeedRow" 822)),(some (.builtin "object.__new__")),(some (.bool true))]⟩) ::
 (nat_lit 523,CO "__init__" "Program.__init__" 863 185 4 518 870) ::
 (nat_lit 524,FU "__init__" "Program.__init__" (inClass (top 21) 0) "hushrow.rows" 273 523) ::
 (nat_lit 526,⟨(.type "dict"),none,.dict #[E P "__module__" 858 (.str "hushrow.rows" 273),E P "__firstlineno__" 862 (.int (183) 861),E P "__init__" 872 (.ref 524),E P "__static_attributes__" 876 (.ref 525),E P "__dict__" 878 (.ref 528),E P "__weakref__" 880 (.ref 529),E P "__doc__" 881 .none] 4,#[]⟩) ::
 (nat_lit 527,⟨(.type "type"),none,.cls { name:="Program",bases:=[(.type "object")],mro:=[(.ref 527),(.type "object")],ns:=526,qualname:="Program",hasDict:=true,slotNames:=[],subclasses:=[],abstract:=false,collection:=none,hasDel:=false },#[none,none,(some (.str "Program" 851)),(some (.str "Program" 859)),(some (.builtin "object.__new__")),(some (.bool true))]⟩) ::
 (nat_lit 528,⟨(.type "getset_descriptor"),none,.fields #[(.str "__dict__" 877),(.ref 527),(.builtin "function.__dict__"),(.builtin "function.__dict__#set")],#[]⟩) ::
 (nat_lit 529,⟨(.type "getset_descriptor"),none,.fields #[(.str "__weakref__" 879),(.ref 527),(.builtin "ExceptionGroup.__weakref__"),.none],#[]⟩) ::
 (nat_lit 537,CO "is_number" "is_number" 888 191 1 532 892) ::
 (nat_lit 538,FU "is_number" "is_number" (top 24) "hushrow.gifts" 884 537) ::
 (nat_lit 542,⟨(.type "code"),none,.fields #[(.str "is_good" 895),(.str "is_good" 896),(.str "/claim/cut.py" 897),(.int (195) 0),(.int (2) 0),(.int (0) 0),(.int (0) 0),(.int (3) 0),(.ref 539),(.bool true),(.int (181) 0),(.ref 540),.none,.none,.none,(.ref 541),(.int (898) 0),(.int (195) 0),(.str "/claim/cut.py" 899)],#[]⟩) ::
 (nat_lit 543,FU "is_good" "is_good" (top 25) "hushrow.gifts" 884 542) ::
 (nat_lit 549,CO "given_cell" "given_cell" 901 199 2 544 907) ::
 (nat_lit 550,FU "given_cell" "given_cell" (top 26) "hushrow.gifts" 884 549) ::
 (nat_lit 556,CO "own_cell" "own_cell" 910 204 1 551 914) ::
 (nat_lit 557,FU "own_cell" "own_cell" (top 27) "hushrow.gifts" 884 556) ::
 (nat_lit 563,CO "cells_of" "cells_of" 917 206 2 558 926) ::
 (nat_lit 564,FU "cells_of" "cells_of" (top 28) "hushrow.gifts" 884 563) ::
 (nat_lit 570,CO "reckon" "reckon" 933 219 3 565 939) ::
 (nat_lit 571,FU "reckon" "reckon" (top 31) "hushrow.sums" 929 570) ::
 (nat_lit 577,CO "round_place" "round_place" 942 233 2 572 947) ::
 (nat_lit 578,FU "round_place" "round_place" (top 32) "hushrow.sums" 929 577) ::
 (nat_lit 591,CO "__init__" "Run.__init__" 964 238 3 586 971) ::
 (nat_lit 592,FU "__init__" "Run.__init__" (inClass (top 34) 0) "hushrow.runner" 950 591) ::
 (nat_lit 598,CO "number_at" "Run.number_at" 974 245 2 593 979) ::
 (nat_lit 599,FU "number_at" "Run.number_at" (inClass (top 34) 1) "hushrow.runner" 950 598) ::
 (nat_lit 605,CO "number_for" "Run.number_for" 982 248 2 600 989) ::
 (nat_lit 606,FU "number_for" "Run.number_for" (inClass (top 34) 2) "hushrow.runner" 950 605) ::
 (nat_lit 612,CO "number_told" "Run.number_told" 992 257 2 607 997) ::
 (nat_lit 613,FU "number_told" "Run.number_told" (inClass (top 34) 3) "hushrow.runner" 950 612) ::
 (nat_lit 619,CO "pass_steps" "Run.pass_steps" 1000 262 2 614 1006) ::
 (nat_lit 620,FU "pass_steps" "Run.pass_steps" (inClass (top 34) 4) "hushrow.runner" 950 619) ::
 (nat_lit 626,CO "do_rows" "Run.do_rows" 1009 266 2 621 1016) ::
 (nat_lit 627,FU "do_rows" "Run.do_rows" (inClass (top 34) 5) "hushrow.runner" 950 626) ::
 (nat_lit 633,CO "do_row" "Run.do_row" 1019 273 2 628 1026) ::
 (nat_lit 634,FU "do_row" "Run.do_row" (inClass (top 34) 6) "hushrow.runner" 950 633) ::
 (nat_lit 640,CO "do_put" "Run.do_put" 1029 295 2 635 1035) ::
 (nat_lit 641,FU "do_put" "Run.do_put" (inClass (top 34) 7) "hushrow.runner" 950 640) ::
 (nat_lit 645,⟨(.type "code"),none,.fields #[(.str "do_call" 1038),(.str "Run.do_call" 1039),(.str "/claim/cut.py" 1040),(.int (299) 0),(.int (2) 0),(.int (0) 0),(.int (0) 0),(.int (3) 0),(.ref 642),(.bool true),(.int (181) 0),(.ref 643),.none,.none,.none,(.ref 644),(.int (1041) 0),(.int (299) 0),(.str "/claim/cut.py" 1042)],#[]⟩) ::
 (nat_lit 646,FU "do_call" "Run.do_call" (inClass (top 34) 8) "hushrow.runner" 950 645) ::
 (nat_lit 652,CO "do_if" "Run.do_if" 1044 306 2 647 1050) ::
 (nat_lit 653,FU "do_if" "Run.do_if" (inClass (top 34) 9) "hushrow.runner" 950 652) ::
 (nat_lit 659,CO "do_loop" "Run.do_loop" 1053 315 2 654 1061) ::
 (nat_lit 660,FU "do_loop" "Run.do_loop" (inClass (top 34) 10) "hushrow.runner" 950 659) ::
 (nat_lit 662,⟨(.type "dict"),none,.dict #[E P "__module__" 959 (.str "hushrow.runner" 950),E P "__firstlineno__" 963 (.int (236) 962),E P "__init__" 973 (.ref 592),E P "number_at" 981 (.ref 599),E P "number_for" 991 (.ref 606),E P "number_told" 999 (.ref 613),E P "pass_steps" 1008 (.ref 620),E P "do_rows" 1018 (.ref 627),E P "do_row" 1028 (.ref 634),E P "do_put" 1037 (.ref 641),E P "do_call" 1043 (.ref 646),E P "do_if" 1052 (.ref 653),E P "do_loop" 1063 (.ref 660),E P "__static_attributes__" 1067 (.ref 661),E P "__dict__" 1069 (.ref 664),E P "__weakref__" 1071 (.ref 665),E P "__doc__" 1072 .none] 4,#[]⟩) ::
 (nat_lit 663,⟨(.type "type"),none,.cls { name:="Run",bases:=[(.type "object")],mro:=[(.ref 663),(.type "object")],ns:=662,qualname:="Run",hasDict:=true,slotNames:=[],subclasses:=[],abstract:=false,collection:=none,hasDel:=false },#[none,none,(some (.str "Run" 952)),(some (.str "Run" 960)),(some (.builtin "object.__new__")),(some (.bool true))]⟩) ::
 (nat_lit 664,⟨(.type "getset_descriptor"),none,.fields #[(.str "__dict__" 1068),(.ref 663),(.builtin "function.__dict__"),(.builtin "function.__dict__#set")],#[]⟩) ::
 (nat_lit 665,⟨(.type "getset_descriptor"),none,.fields #[(.str "__weakref__" 1070),(.ref 663),(.builtin "ExceptionGroup.__weakref__"),.none],#[]⟩) ::
 (nat_lit 671,⟨(.type "code"),none,.fields #[(.str "ends_of" 1075),(.str "ends_of" 1076),(.str "/claim/cut.py" 1077),(.int (325) 0),(.int (2) 0),(.int (0) 0),(.int (0) 0),(.int (3) 0),(.ref 668),(.bool true),(.int (181) 0),(.ref 669),.none,.none,.none,(.ref 670),(.int (1078) 0),(.int (325) 0),(.str "/claim/cut.py" 1079)],#[]⟩) ::
 (nat_lit 672,FU "ends_of" "ends_of" (top 35) "hushrow.runner" 950 671) ::
 (nat_lit 678,CO "run" "run" 1081 327 2 673 1088) ::
 (nat_lit 679,FU "run" "run" (top 36) "hushrow.runner" 950 678) ::
 (nat_lit 685,CO "_law_cell_at" "_law_cell_at" 1093 334 2 680 1098) ::
 (nat_lit 686,FU "_law_cell_at" "_law_cell_at" (top 38) "law_hushrow_k28_whole_runs" 1091 685) ::
 (nat_lit 692,CO "_law_mix" "_law_mix" 1101 338 2 687 1109) ::
 (nat_lit 693,FU "_law_mix" "_law_mix" (top 39) "law_hushrow_k28_whole_runs" 1091 692) ::
 (nat_lit 699,CO "_law_name" "_law_name" 1112 348 2 694 1123) ::
 (nat_lit 700,FU "_law_name" "_law_name" (top 40) "law_hushrow_k28_whole_runs" 1091 699) ::
 (nat_lit 706,CO "_law_number" "_law_number" 1126 361 1 701 1130) ::
 (nat_lit 707,FU "_law_number" "_law_number" (top 41) "law_hushrow_k28_whole_runs" 1091 706) ::
 (nat_lit 713,CO "_law_thing" "_law_thing" 1133 367 2 708 1138) ::
 (nat_lit 714,FU "_law_thing" "_law_thing" (top 42) "law_hushrow_k28_whole_runs" 1091 713) ::
 (nat_lit 720,CO "_law_value" "_law_value" 1141 373 3 715 1149) ::
 (nat_lit 721,FU "_law_value" "_law_value" (top 43) "law_hushrow_k28_whole_runs" 1091 720) ::
 (nat_lit 727,CO "_law_kind" "_law_kind" 1152 381 4 722 1161) ::
 (nat_lit 728,FU "_law_kind" "_law_kind" (top 44) "law_hushrow_k28_whole_runs" 1091 727) ::
 (nat_lit 732,⟨(.type "code"),none,.fields #[(.str "_law_plain" 1164),(.str "_law_plain" 1165),(.str "/claim/cut.py" 1166),(.int (391) 0),(.int (3) 0),(.int (0) 0),(.int (0) 0),(.int (3) 0),(.ref 729),(.bool true),(.int (181) 0),(.ref 730),.none,.none,.none,(.ref 731),(.int (1167) 0),(.int (391) 0),(.str "/claim/cut.py" 1168)],#[]⟩) ::
 (nat_lit 733,FU "_law_plain" "_law_plain" (top 45) "law_hushrow_k28_whole_runs" 1091 732) ::
 (nat_lit 739,CO "_law_block" "_law_block" 1170 409 5 734 1185) ::
 (nat_lit 740,FU "_law_block" "_law_block" (top 46) "law_hushrow_k28_whole_runs" 1091 739) ::
 (nat_lit 746,CO "_law_nodes" "_law_nodes" 1188 424 3 741 1197) ::
 (nat_lit 747,FU "_law_nodes" "_law_nodes" (top 47) "law_hushrow_k28_whole_runs" 1091 746) ::
 (nat_lit 753,CO "_law_made" "_law_made" 1200 436 1 748 1207) ::
 (nat_lit 754,FU "_law_made" "_law_made" (top 48) "law_hushrow_k28_whole_runs" 1091 753) ::
 (nat_lit 760,CO "_law_heads" "_law_heads" 1210 457 2 755 1217) ::
 (nat_lit 761,FU "_law_heads" "_law_heads" (top 49) "law_hushrow_k28_whole_runs" 1091 760) ::
 (nat_lit 765,⟨(.type "code"),none,.fields #[(.str "_law_drawn" 1220),(.str "_law_drawn" 1221),(.str "/claim/cut.py" 1222),(.int (468) 0),(.int (1) 0),(.int (0) 0),(.int (0) 0),(.int (3) 0),(.ref 762),(.bool true),(.int (181) 0),(.ref 763),.none,.none,.none,(.ref 764),(.int (1223) 0),(.int (468) 0),(.str "/claim/cut.py" 1224)],#[]⟩) ::
 (nat_lit 766,FU "_law_drawn" "_law_drawn" (top 50) "law_hushrow_k28_whole_runs" 1091 765) ::
 (nat_lit 772,CO "_law_program" "_law_program" 1226 489 2 767 1235) ::
 (nat_lit 773,FU "_law_program" "_law_program" (top 51) "law_hushrow_k28_whole_runs" 1091 772) ::
 (nat_lit 777,⟨(.type "code"),none,.fields #[(.str "_law_gifts" 1238),(.str "_law_gifts" 1239),(.str "/claim/cut.py" 1240),(.int (494) 0),(.int (3) 0),(.int (0) 0),(.int (0) 0),(.int (3) 0),(.ref 774),(.bool true),(.int (181) 0),(.ref 775),.none,.none,.none,(.ref 776),(.int (1241) 0),(.int (494) 0),(.str "/claim/cut.py" 1242)],#[]⟩) ::
 (nat_lit 778,FU "_law_gifts" "_law_gifts" (top 52) "law_hushrow_k28_whole_runs" 1091 777) ::
 (nat_lit 784,CO "_law_taken" "_law_taken" 1244 502 2 779 1249) ::
 (nat_lit 785,FU "_law_taken" "_law_taken" (top 53) "law_hushrow_k28_whole_runs" 1091 784) ::
 (nat_lit 791,CO "_law_reckoned" "_law_reckoned" 1252 506 2 786 1259) ::
 (nat_lit 792,FU "_law_reckoned" "_law_reckoned" (top 54) "law_hushrow_k28_whole_runs" 1091 791) ::
 (nat_lit 796,⟨(.type "code"),none,.fields #[(.str "_law_do" 1262),(.str "_law_do" 1263),(.str "/claim/cut.py" 1264),(.int (520) 0),(.int (2) 0),(.int (0) 0),(.int (0) 0),(.int (3) 0),(.ref 793),(.bool true),(.int (181) 0),(.ref 794),.none,.none,.none,(.ref 795),(.int (1265) 0),(.int (520) 0),(.str "/claim/cut.py" 1266)],#[]⟩) ::
 (nat_lit 797,FU "_law_do" "_law_do" (top 55) "law_hushrow_k28_whole_runs" 1091 796) ::
 (nat_lit 803,CO "_law_do_block" "_law_do_block" 1268 544 2 798 1277) ::
 (nat_lit 804,FU "_law_do_block" "_law_do_block" (top 56) "law_hushrow_k28_whole_runs" 1091 803) ::
 (nat_lit 810,CO "_law_do_all" "_law_do_all" 1280 561 2 805 1287) ::
 (nat_lit 811,FU "_law_do_all" "_law_do_all" (top 57) "law_hushrow_k28_whole_runs" 1091 810) ::
 (nat_lit 815,⟨(.type "code"),none,.fields #[(.str "_law_due" 1290),(.str "_law_due" 1291),(.str "/claim/cut.py" 1292),(.int (569) 0),(.int (3) 0),(.int (0) 0),(.int (0) 0),(.int (3) 0),(.ref 812),(.bool true),(.int (181) 0),(.ref 813),.none,.none,.none,(.ref 814),(.int (1293) 0),(.int (569) 0),(.str "/claim/cut.py" 1294)],#[]⟩) ::
 (nat_lit 816,FU "_law_due" "_law_due" (top 58) "law_hushrow_k28_whole_runs" 1091 815) ::
 (nat_lit 822,CO "_law_same" "_law_same" 1296 580 2 817 1302) ::
 (nat_lit 823,FU "_law_same" "_law_same" (top 59) "law_hushrow_k28_whole_runs" 1091 822) ::
 (nat_lit 829,CO "_law_book" "_law_book" 1305 595 3 824 1312) ::
 (nat_lit 830,FU "_law_book" "_law_book" (top 60) "law_hushrow_k28_whole_runs" 1091 829) ::
 (nat_lit 836,CO "law" "law" 1315 606 1 831 1327) ::
 (nat_lit 837,FU "law" "law" (top 61) "law_hushrow_k28_whole_runs" 1091 836) :: []
noncomputable def nc:List Addr:=[2,3,34,35,37,38,39,40,51,52,53,71,72,87,88,104,105,106,107,122,123,132,133,148,149,158,159,174,175,184,185,200,201,210,211,226,227,250,251,266,267,290,291,306,307,323,324,339,340,363,364,379,380,396,397,415,416,431,432,448,449,464,465,481,482,497,498,507,508,523,524,526,527,528,529,537,538,542,543,549,550,556,557,563,564,570,571,577,578,591,592,598,599,605,606,612,613,619,620,626,627,633,634,640,641,645,646,652,653,659,660,662,663,664,665,671,672,678,679,685,686,692,693,699,700,706,707,713,714,720,721,727,728,732,733,739,740,746,747,753,754,760,761,765,766,772,773,777,778,784,785,791,792,796,797,803,804,810,811,815,816,822,823,829,830,836,837]
theorem iW (P:Params):nc=(heapK P).map (·.1):=by kernel_rfl
noncomputable abbrev prog:Program:=PySem.Challenge.pw_hushrow_k28_whole_runs
noncomputable abbrev law:W.OpenLaw:=PySem.Challenge.rw_hushrow_k28_whole_runs
noncomputable def mw:Program:={ prog with main:={ prog.main with body:=[top 0,top 2,top 4,top 5,top 7,top 8,top 9,top 10,top 11,top 12,top 13,top 14,top 15,top 16,top 17,top 18,top 19,top 20,top 21,top 23,top 24,top 25,top 26,top 27,top 28,top 30,top 31,top 32,top 34,top 35,top 36,top 38,top 39,top 40,top 41,top 42,top 43,top 44,top 45,top 46,top 47,top 48,top 49,top 50,top 51,top 52,top 53,top 54,top 55,top 56,top 57,top 58,top 59,top 60,top 61] } }
noncomputable abbrev hook:W.Hook:=W.kHook heapK nc iW
noncomputable abbrev test:Shared->Bool:=fun s=>xlAt mw [] s && recOk (RowW.records law.row.toRowW) s
noncomputable abbrev Cd:Shared->List (Option Obj):=fun s=>nc.map s.heap.get?
noncomputable abbrev Dw:World->List (Option Obj):=fun w=>(heapK w.params).map fun p=>some p.2
noncomputable def T₀ (P:Params):BT:=Hd.treeOf (boot_heap P).objs.toList 0 .nil
noncomputable def lookL (w:World) (os:OsState):=(Hd.tG treeTable prog w 11 (some (.ref 6)) 13674 ⟨T₀ w.params,11,{},Array.mk [],boot_drawn,boot_toks,os⟩ (topStub prog)).map fun s=>Hd.y4 prog mw [] test true (boot_heap w.params) s.abs
noncomputable def lookR (w:World) (os:OsState):=some (true,openGood mw [])
noncomputable def lookM (w:World) (os:OsState):=(Hd.tG treeTable prog w 11 (some (.ref 6)) 13674 ⟨T₀ w.params,11,{},Array.mk [],boot_drawn,boot_toks,os⟩ (topStub prog)).map fun s=>Cd s.abs
noncomputable def lookS (w:World) (os:OsState):=some (Dw w)
theorem lookL_self:lookL=lookL:=rfl
theorem lookR_self:lookR=lookR:=rfl
theorem lookM_self:lookM=lookM:=rfl
theorem lookS_self:lookS=lookS:=rfl
end K28
noncomputable def PySem.W.Fast.tw14598715356260435866:PySem.Params->PySem.Obj:=PySem.W.boot_o_0
theorem PySem.W.Fast.te14598715356260435866:PySem.W.boot_o_0=PySem.W.Fast.tw14598715356260435866:=rfl
noncomputable def PySem.W.Fast.tw12005170788105732549:PySem.Program:=PySem.Challenge.pw_hushrow_k28_whole_runs
theorem PySem.W.Fast.te12005170788105732549:PySem.Challenge.pw_hushrow_k28_whole_runs=PySem.W.Fast.tw12005170788105732549:=rfl
lay_quick K28.lookL K28.lookR K28.lookM K28.lookS
name_quick K28lookL for K28.lookL by K28.lookL_self
name_quick K28lookR for K28.lookR by K28.lookR_self
name_quick K28lookM for K28.lookM by K28.lookM_self
name_quick K28lookS for K28.lookS by K28.lookS_self
namespace K28
open PySem L2 PySem.W
theorem sO:W.Fast.K28lookL=W.Fast.K28lookR:=by kernel_rfl
theorem rb:W.Fast.K28lookM=W.Fast.K28lookS:=by kernel_rfl
theorem uI:lookL=lookR:=W.Fast.K28lookL_eq.trans (sO.trans W.Fast.K28lookR_eq.symm)
theorem sW:lookM=lookS:=W.Fast.K28lookM_eq.trans (rb.trans W.Fast.K28lookS_eq.symm)
theorem zw (P:Params):absHeap (T₀ P) 11 {}=boot_heap P:=by kernel_rfl
theorem zm (w:World):((boot_heap w.params).isNs mainGlobals && (Array.mk []:Array GenState).size == 0,(boot_heap w.params).objs.size,(boot_heap w.params).nsMap mainGlobals "__annotations__")=(true,11,some (.ref 6)):=by kernel_rfl
theorem left:LeftO prog mw [] test hook.obs hook.val 13674:=Hd.yc (boot_open (p:=prog) (N:=13674) (by kernel_rfl) rfl (fun _=>rfl)) zm zw (fun w os=>congrFun (congrFun uI w) os) (fun w os=>congrFun (congrFun sW w) os)
end K28
namespace L2
open PySem PySem.Spec PyProof.Rows
abbrev Key:=Sum Int Str
def qv:Key->Value->Bool
 | .inl k,v=>Value.isInt k v
 | .inr x,v=>Value.isStrOf x v
def DU (w:World):Key->Int
 | .inl k=>hashInt k
 | .inr x=>hashStr w x
theorem cL:∀{k:Key}{v:Value},qv k v=true->(∃i t,k=Sum.inl i/\v=Value.int i t) \/ (∃x t,k=Sum.inr x/\v=Value.str x t)
 | .inl i,v,h=>by
  obtain ⟨t,e⟩:=Value.isInt_shape (k:=i) (v:=v) h
  exact .inl ⟨i,t,rfl,e⟩
 | .inr x,v,h=>by
  obtain ⟨t,e⟩:=Value.isStrOf_shape (x:=x) (v:=v) h
  exact .inr ⟨x,t,rfl,e⟩
theorem wx (i:Int) (t:Tok):qv (.inl i) (.int i t)=true:=by simp [qv,Value.isInt]
theorem wI (x:Str) (t:Tok):qv (.inr x) (.str x t)=true:=by simp [qv,Value.isStrOf]
theorem AQ (a b:Int):decide ((Sum.inl a:Key)=Sum.inl b)=(a == b):=by
 by_cases e:a=b
 ·subst e;simp
 ·have h:¬ (Sum.inl a:Key)=Sum.inl b:=fun q=>e (Sum.inl.inj q)
  rw [decide_eq_false h]
  exact (beq_eq_false_iff_ne.mpr e).symm
theorem BM (a b:Str):decide ((Sum.inr a:Key)=Sum.inr b)=decide (a=b):=by
 by_cases e:a=b
 ·subst e;simp
 ·have h:¬ (Sum.inr a:Key)=Sum.inr b:=fun q=>e (Sum.inr.inj q)
  rw [decide_eq_false h,decide_eq_false e]
theorem Bf (a:Int) (b:Str):decide ((Sum.inl a:Key)=Sum.inr b)=false:=decide_eq_false (fun q=>nomatch q)
theorem AF (a:Str) (b:Int):decide ((Sum.inr a:Key)=Sum.inl b)=false:=decide_eq_false (fun q=>nomatch q)
def ck (prog:Program) (w:World):PySem.KeyKind prog w Key where
 is:=qv
 hash:=DU w
 inj:=fun v a b ha hb=>by
  rcases cL ha with ⟨i,t,rfl,rfl⟩ | ⟨x,t,rfl,rfl⟩
  ·rcases cL hb with ⟨j,u,rfl,e⟩ | ⟨y,u,rfl,e⟩
   ·injection e with e1 _;rw [e1]
   ·exact nomatch e
  ·rcases cL hb with ⟨j,u,rfl,e⟩ | ⟨y,u,rfl,e⟩
   ·exact nomatch e
   ·injection e with e1 _;rw [e1]
 byValue:=fun k v h=>by
  rcases cL h with ⟨i,t,rfl,rfl⟩ | ⟨x,t,rfl,rfl⟩ <;> rfl
 pyHash:=fun hv h=>by
  rcases cL hv with ⟨i,t,rfl,rfl⟩ | ⟨x,t,rfl,rfl⟩
  ·exact wpAny_pyHash_int h
  ·exact wpAny_pyHash_str h
 eqBool:=fun hu hv h=>by
  rcases cL hu with ⟨i,t,rfl,rfl⟩ | ⟨x,t,rfl,rfl⟩
  ·rcases cL hv with ⟨j,u,rfl,rfl⟩ | ⟨y,u,rfl,rfl⟩
   ·rw [AQ] at h;exact wpAny_eqBool_int h
   ·rw [Bf] at h;exact SeqAt.EqAt.int_str i t y u _ _ _ _ h
  ·rcases cL hv with ⟨j,u,rfl,rfl⟩ | ⟨y,u,rfl,rfl⟩
   ·rw [AF] at h;exact SeqAt.EqAt.str_int x t j u _ _ _ _ h
   ·rw [BM] at h;exact wpAny_eqBool_str h
 «strs»:=fun k x t v h=>by
  rcases cL h with ⟨i,u,rfl,e⟩ | ⟨y,u,rfl,e⟩
  ·exact nomatch e
  ·injection e with e1 _
   subst e1
   cases v <;> rfl
theorem tH (prog:Program) (w:World) (i:Int) (t:Tok):(ck prog w).is (.inl i) (.int i t)=true:=wx i t
theorem sq (prog:Program) (w:World) (x:Str) (t:Tok):(ck prog w).is (.inr x) (.str x t)=true:=wI x t
end L2
namespace L2
open PySem PySem.Spec PyProof.Rows
inductive V where
 | non | bl (b:Bool) | int (i:Int) | str (x:Str) | byt (b:Array UInt8) | flt (b:UInt64) | ref (a:Addr) | ty (n:String)
 deriving DecidableEq
def RelV:V->Value->Prop
 | .non,u=>u=Value.none
 | .bl b,u=>u=Value.bool b
 | .int i,u=>∃t,u=Value.int i t
 | .str x,u=>∃t,u=Value.str x t
 | .byt b,u=>∃t,u=Value.bytes b t
 | .flt b,u=>∃t,u=Value.float b t
 | .ref a,u=>u=Value.ref a
 | .ty n,u=>u=Value.type n
abbrev Vals:List V->List Value->Prop:=Paired RelV
theorem Vals.length {xs:List V}{us:List Value} (r:Vals xs us):xs.length=us.length:=Paired.length r
theorem Vals.get:∀{xs:List V}{us:List Value}{i:Nat}{x:V},Vals xs us->xs[i]?=some x->∃u,us[i]?=some u/\RelV x u
 | _,_,_,_,.nil,e=>by simp at e
 | _,_,0,_,.cons r _,e=>by simp at e;subst e;exact ⟨_,rfl,r⟩
 | _,_,i + 1,x,.cons _ t,e=>by
  obtain ⟨u,h1,h2⟩:=Vals.get (i:=i) (x:=x) t (by simpa using e)
  exact ⟨u,by simpa using h1,h2⟩
theorem Vals.set {x:V}{u:Value} (r:RelV x u):∀{xs:List V}{us:List Value} (i:Nat),Vals xs us->Vals (xs.set i x) (us.set i u)
 | _,_,_,.nil=>.nil
 | _,_,0,.cons _ t=>.cons r t
 | _,_,i + 1,.cons q t=>.cons q (Vals.set r i t)
theorem Vals.append:∀{xs ys:List V}{us ws:List Value},Vals xs us->Vals ys ws->Vals (xs ++ ys) (us ++ ws)
 | _,_,_,_,.nil,s=>s
 | _,_,_,_,.cons r t,s=>.cons r (Vals.append t s)
theorem Vals.take:∀{xs:List V}{us:List Value} (n:Nat),Vals xs us->Vals (xs.take n) (us.take n)
 | _,_,0,_=>.nil
 | _,_,_ + 1,.nil=>.nil
 | _,_,n + 1,.cons r t=>.cons r (Vals.take n t)
theorem Vals.drop:∀{xs:List V}{us:List Value} (n:Nat),Vals xs us->Vals (xs.drop n) (us.drop n)
 | _,_,0,r=>r
 | _,_,_ + 1,.nil=>.nil
 | _,_,n + 1,.cons _ t=>Vals.drop n t
def jH:Option V->Option Value->Prop
 | some v,some u=>RelV v u
 | none,none=>True
 | _,_=>False
def KV {κ:Type}:List (κ × V)->List (κ × Value)->Prop:=Paired fun (p:κ × V) (q:κ × Value)=>p.1=q.1/\RelV p.2 q.2
def kV:Key->V
 | .inl i=>.int i
 | .inr x=>.str x
inductive HO where
 | lst (xs:List V)
 | tup (xs:List V)
 | dK (kvs:List (Key × V)) | dT (kvs:List (List Key × V))
 | set (S:Int->Bool) (n:Nat)
 | ins (C dx:Addr) (fs:List (Str × V))
 | own (x:Addr)
 | xd (fs:List (Str × V))
 | met (f x:Addr)
 | rng (lo hi:Int)
 | frz (o:Obj) (u:HO)
 | tbl (ps:Array Value)
 | ext (φ:Heap->Prop)
abbrev Hp:=Addr->Option HO
def upd (H:Hp) (a:Addr) (o:HO):Hp:=fun b=>if b=a then some o else H b
theorem aq {H:Hp}{a:Addr}{o:HO}:upd H a o a=some o:=by unfold upd;rw [if_pos rfl]
theorem aI {H:Hp}{a b:Addr}{o:HO} (h:b ≠ a):upd H a o b=H b:=by unfold upd;rw [if_neg h]
theorem zq {H:Hp}{a:Addr}{o u:HO}:upd (upd H a o) a u=upd H a u:=by
 funext b;unfold upd;split <;> rfl
theorem C6 {H:Hp}{a b:Addr}{o u:HO} (h:H a=some o) (h':H b=some u) (d:o ≠ u):a ≠ b:=by
 intro e;subst e;rw [h] at h';exact d (Option.some.inj h')
theorem dR {H:Hp}{a b:Addr}{o:HO} (h:H a=some o) (h':H b=none):a ≠ b:=by
 intro e;subst e;rw [h] at h';cases h'
section
variable (P:Program) (w:World)
def cW (H:Hp) (h:Heap) (a:Addr):HO->Prop
 | .lst xs=>xs.length <= sizeLine/\∃(its:List Value) (n:Nat),Vals xs its/\h.get? a=some { cls:=.type "list",data:=.seq its.toArray n }
 | .tup xs=>xs.length <= sizeLine/\∃its:List Value,Vals xs its/\IsTup h a its.toArray
 | .dK kvs=>kvs.length <= sizeLine/\(a == sysModules)=false/\∃vs,KV kvs vs/\h.DictOf (ck P w) a vs
 | .dT kvs=>kvs.length <= sizeLine/\(a == sysModules)=false/\∃xs:List (List Key × Addr × Value),
   Paired (fun (p:List Key × V) (q:List Key × Addr × Value)=>p.1=q.1/\H q.2.1=some (.tup (p.1.map kV))/\RelV p.2 q.2.2) kvs xs /\
   ∃o es ep,h.get? a=some o/\o.ExactDict/\o.data=.dict es ep/\es.toList=xs.map (entryOfKey (tupleKind (ck P w)))/\(xs.map (·.1)).Nodup
 | .set S n=>h.SetOf (intKind P w) a S n
 | .ins C dx fs=>H dx=some (.own a)/\fs.length <= 1000/\dx ≠ a/\h.get? a=some (W.instObj C dx) /\
   ∃mA,h.Ns1 dx mA/\(∀f,jH (fs.lookup f) (mA f))/\PySem.Within mA (fs.map (·.1))
 | .own _=>∃o,h.get? a=some o
 | .xd fs=>∃mA,h.Ns1 a mA/\∀f,jH (fs.lookup f) (mA f)
 | .rng lo hi=>∃t u v,h.get? a=some { cls:=.type "range",data:=.fields #[.int lo t,.int hi u,.int 1 v] }
 | .frz o u=>h.get? a=some o/\cW H h a u
 | .tbl ps=>h.get? a=some { cls:=.none,data:=.fields ps }
 | .met f x=>h.get? a=some (W.methodObj (.ref f) (.ref x))
 | .ext φ=>φ h/\(∃o,h.get? a=some o)/\∀h1 h2:Heap,φ h1->(∀o,h1.get? a=some o->h2.get? a=some o)->φ h2
def HOk (H:Hp) (h:Heap):Prop:=∀a o,H a=some o->cW P w H h a o
end
section
variable {P:Program}{w:World}{H H':Hp}{h h':Heap}{a:Addr}{o:HO}
theorem cW.lt (x:cW P w H h a o):a < h.objs.size:=by
 cases o with
 | lst xs=>obtain ⟨_,_,_,_,e⟩:=x;exact Heap.lt_size e
 | tup xs=>obtain ⟨_,_,_,p⟩:=x;exact p.lt
 | dK kvs=>obtain ⟨_,_,_,_,o,_,_,e,_⟩:=x;exact Heap.lt_size e
 | dT kvs=>obtain ⟨_,_,_,_,o,_,_,e,_⟩:=x;exact Heap.lt_size e
 | set S n=>obtain ⟨o,_,_,_,e,_⟩:=x;exact Heap.lt_size e
 | ins C dx fs=>obtain ⟨_,_,_,e,_⟩:=x;exact Heap.lt_size e
 | own y=>obtain ⟨_,e⟩:=x;exact Heap.lt_size e
 | xd fs=>obtain ⟨_,⟨_,_,_,e,_⟩,_⟩:=x;exact Heap.lt_size e
 | rng lo hi=>obtain ⟨_,_,_,e⟩:=x;exact Heap.lt_size e
 | frz ob u=>obtain ⟨e,_⟩:=x;exact Heap.lt_size e
 | tbl ps=>exact Heap.lt_size (show h.get? a=some _ from x)
 | met f y=>exact Heap.lt_size (show h.get? a=some _ from x)
 | ext φ=>obtain ⟨_,⟨_,e⟩,_⟩:=x;exact Heap.lt_size e
theorem Paired.cm {α β:Type}{F G:α->β->Prop}:∀{l₁:List α}{l₂:List β},Paired F l₁ l₂->(∀a b,F a b->G a b)->Paired G l₁ l₂
 | _,_,.nil,_=>.nil
 | _,_,.cons r t,f=>.cons (f _ _ r) (Paired.cm t f)
theorem cW.uL (x:cW P w H h a o) (k:∀b u,(b=a \/ H b=some (.own a))->h.get? b=some u->h'.get? b=some u)
  (ho:∀b,H b=some (.own a)->H' b=some (.own a)) (ht:∀b xs,H b=some (.tup xs)->H' b=some (.tup xs)):cW P w H' h' a o:=by
 induction o with
 | lst xs=>obtain ⟨z,its,n,r,e⟩:=x;exact ⟨z,its,n,r,k _ _ (.inl rfl) e⟩
 | tup xs=>obtain ⟨z,its,r,ob,e,c⟩:=x;exact ⟨z,its,r,ob,k _ _ (.inl rfl) e,c⟩
 | dK kvs=>obtain ⟨z,y,vs,r,ob,es,ep,e,c⟩:=x;exact ⟨z,y,vs,r,ob,es,ep,k _ _ (.inl rfl) e,c⟩
 | dT kvs =>
  obtain ⟨z,y,xs,r,ob,es,ep,e,c⟩:=x
  exact ⟨z,y,xs,Paired.cm r fun p q z=>⟨z.1,ht _ _ z.2.1,z.2.2⟩,ob,es,ep,k _ _ (.inl rfl) e,c⟩
 | set S n=>obtain ⟨ob,es,ep,t,e,c⟩:=x;exact ⟨ob,es,ep,t,k _ _ (.inl rfl) e,c⟩
 | ins C dx fs =>
  obtain ⟨d,z,ne,e,mA,⟨od,es,ep,e2,c⟩,r⟩:=x
  exact ⟨ho _ d,z,ne,k _ _ (.inl rfl) e,mA,⟨od,es,ep,k _ _ (.inr d) e2,c⟩,r⟩
 | own y=>obtain ⟨ob,e⟩:=x;exact ⟨ob,k _ _ (.inl rfl) e⟩
 | xd fs=>obtain ⟨mA,⟨od,es,ep,e,c⟩,r⟩:=x;exact ⟨mA,⟨od,es,ep,k _ _ (.inl rfl) e,c⟩,r⟩
 | rng lo hi=>obtain ⟨t,u,v,e⟩:=x;exact ⟨t,u,v,k _ _ (.inl rfl) e⟩
 | frz ob u ih=>obtain ⟨e,q⟩:=x;exact ⟨k _ _ (.inl rfl) e,ih q⟩
 | tbl ps =>
  have e:h.get? a=some { cls:=.none,data:=.fields ps }:=x
  show h'.get? a=some { cls:=.none,data:=.fields ps }
  exact k a _ (.inl rfl) e
 | met f y =>
  have e:h.get? a=some (W.methodObj (.ref f) (.ref y)):=x
  show h'.get? a=some (W.methodObj (.ref f) (.ref y))
  exact k a _ (.inl rfl) e
 | ext φ=>obtain ⟨p,⟨o,e⟩,st⟩:=x;exact ⟨st _ _ p fun o q=>k _ _ (.inl rfl) q,⟨o,k _ _ (.inl rfl) e⟩,st⟩
theorem HOk.lt (x:HOk P w H h) (e:H a=some o):a < h.objs.size:=(x a o e).lt
theorem HOk.fresh (x:HOk P w H h) (e:h.objs.size <= a):H a=none:=by
 cases q:H a with
 | none=>rfl
 | some u=>exact absurd (Nat.lt_of_lt_of_le (x.lt q) e) (Nat.lt_irrefl _)
theorem HOk.kept (x:HOk P w H h) (k:∀b u,h.get? b=some u->h'.get? b=some u):HOk P w H h':=fun a o e =>
 (x a o e).uL (fun b u _ q=>k b u q) (fun _ q=>q) fun _ _ q=>q
theorem HOk.laid (x:HOk P w H h) (k:∀b u,h.get? b=some u->h'.get? b=some u) (hp:h.objs.size <= a) (new:cW P w (upd H a o) h' a o):HOk P w (upd H a o) h':=fun b u e=>by
 have hn:=x.fresh hp
 by_cases hb:b=a
 ·subst hb;rw [aq] at e;cases e;exact new
 ·rw [aI hb] at e
  exact (x b u e).uL (fun c v _ q=>k c v q) (fun c q=>by rw [aI (dR q hn)];exact q) fun c xs q=>by rw [aI (dR q hn)];exact q
end
def Rd (H:Hp) (a:Addr) (u:HO):Prop:=H a=some u \/ ∃o,H a=some (.frz o u)
theorem Rd.ok {P:Program}{w:World}{H:Hp}{h:Heap}{a:Addr}{u:HO} (r:Rd H a u) (x:HOk P w H h):cW P w H h a u:=by
 rcases r with r | ⟨o,r⟩
 ·exact x a u r
 ·obtain ⟨_,q⟩:=x a _ r
  exact q
def Mut:Option HO->Prop
 | some (.lst _)=>True
 | some (.dK _)=>True
 | some (.dT _)=>True
 | some (.set _ _)=>True
 | some (.ins _ _ _)=>True
 | some (.ext _)=>True
 | _=>False
section
variable {P:Program}{w:World}{H:Hp}{h h':Heap}{x e:Addr}{o':HO}
theorem HOk.write (ok:HOk P w H h) (mu:Mut (H x)) (he:e=x \/ H e=some (.own x)) (k:∀b u,b ≠ e->h.get? b=some u->h'.get? b=some u) (heo:∃u,h'.get? e=some u)
  (new:cW P w (upd H x o') h' x o'):HOk P w (upd H x o') h':=fun b u q=>by
 have nown:∀c y,H c=some (.own y)->c ≠ x:=fun c y r z=>by subst z;rw [r] at mu;exact mu
 have ntup:∀c xs,H c=some (.tup xs)->c ≠ x:=fun c xs r z=>by subst z;rw [r] at mu;exact mu
 by_cases hb:b=x
 ·subst hb;rw [aq] at q;cases q;exact new
 ·rw [aI hb] at q
  by_cases hbe:b=e
  ·have q':H b=some (.own x):=by
    rcases he with z | z
    ·exact absurd (hbe.trans z) hb
    ·rw [hbe];exact z
   rw [q] at q';cases q'
   obtain ⟨v,hv⟩:=heo
   exact ⟨v,by rw [hbe];exact hv⟩
  ·refine (ok b u q).uL (fun c v hc r=>k c v ?_ r) (fun c r=>by rw [aI (nown c b r)];exact r) fun c xs r=>by rw [aI (ntup c xs r)];exact r
   rcases hc with rfl | hc
   ·exact hbe
   ·rintro rfl
    rcases he with z | z
    ·exact nown c b hc z
    ·rw [hc] at z;cases z;exact hb rfl
end
structure Un (fs ex:List Addr) (H H':Hp) (h h':Heap):Prop where
 keep:∀b o,h.get? b=some o->H b=none->b ∉ fs->b ∉ ex->h'.get? b=some o
 slot:∀b o,h.get? b=some o->H b=none->b ∈ fs->b ∉ ex->∃sl,h'.get? b=some { o with slots:=sl }
 free:∀b o,h.get? b=some o->H b=none->b ∉ ex->H' b=none
 there:∀b o,h.get? b=some o->b ∉ ex->∃o',h'.get? b=some o'
 qN:∀b xs,H b=some (.tup xs)->H' b=some (.tup xs)
 pU:∀b o u,H b=some (.frz o u)->H' b=some (.frz o u)
 qX:∀b ps,H b=some (.tbl ps)->∃more,H' b=some (.tbl (ps ++ more))
section
variable {fs fs' ex ex':List Addr}{H H1 H2:Hp}{h h1 h2 h':Heap}{a x e:Addr}{o:HO}
theorem Un.any (u:Un fs ex H H1 h h1) {b:Addr}{ob:Obj} (q:h.get? b=some ob) (n:H b=none) (hx:b ∉ ex):∃sl,h1.get? b=some { ob with slots:=sl }:=by
 by_cases hb:b ∈ fs
 ·exact u.slot b ob q n hb hx
 ·exact ⟨ob.slots,u.keep b ob q n hb hx⟩
theorem Un.kept (k:∀b u,h.get? b=some u->h'.get? b=some u):Un fs ex H H h h' :=
 ⟨fun b ob q _ _ _=>k b ob q,fun b ob q _ _ _=>⟨ob.slots,k b ob q⟩,fun _ _ _ n _=>n,fun b ob q _=>⟨ob,k b ob q⟩,fun _ _ q=>q,fun _ _ _ q=>q,fun _ ps q=>⟨#[],by rw [q];simp⟩⟩
theorem Un.refl:Un fs ex H H h h:=Un.kept fun _ _ q=>q
theorem Un.laid (k:∀b u,h.get? b=some u->h'.get? b=some u) (hp:h.objs.size <= a) (hn:H a=none):Un fs ex H (upd H a o) h h' where
 keep:=fun b u q _ _ _=>k b u q
 slot:=fun b u q _ _ _=>⟨u.slots,k b u q⟩
 free:=fun b u q n _=>by rw [aI (Nat.ne_of_lt (Nat.lt_of_lt_of_le (Heap.lt_size q) hp))];exact n
 there:=fun b u q _=>⟨u,k b u q⟩
 qN:=fun b xs q=>by rw [aI (dR q hn)];exact q
 pU:=fun b u xs q=>by rw [aI (dR q hn)];exact q
 qX:=fun b ps q=>⟨#[],by rw [aI (dR q hn),q];simp⟩
theorem Un.write (mu:Mut (H x)) (he:e=x \/ H e=some (.own x)) (k:∀b u,b ≠ e->h.get? b=some u->h'.get? b=some u) (heo:∃u,h'.get? e=some u):Un fs ex H (upd H x o) h h':=by
 have hx:∀b,H b=none->b ≠ x:=fun b n z=>by subst z;rw [n] at mu;exact mu
 have hb:∀b,H b=none->b ≠ e:=fun b n z=>by
  subst z
  rcases he with r | r
  ·exact hx b n r
  ·rw [n] at r;cases r
 have hm:∀b u,H b=some u->¬ Mut (some u)->b ≠ x:=fun b u q nm z=>by subst z;rw [q] at mu;exact nm mu
 refine ⟨fun b u q n _ _=>k b u (hb b n) q,fun b u q n _ _=>⟨u.slots,k b u (hb b n) q⟩,fun b u q n _=>by rw [aI (hx b n)];exact n,fun b u q _=>?_,
  fun b xs q=>by rw [aI (hm b _ q fun z=>z)];exact q,fun b u xs q=>by rw [aI (hm b _ q fun z=>z)];exact q,fun b ps q=>⟨#[],by rw [aI (hm b _ q fun z=>z),q];simp⟩⟩
 by_cases hbe:b=e
 ·subst hbe;exact heo
 ·exact ⟨u,k b u hbe q⟩
end
def trk (h:Heap) (H:Hp):List Addr:=(List.range h.objs.size).filter fun a=>(H a).isSome
def rG (h:Heap) (H:Hp):Heap:=W.hideAll h (trk h H)
theorem vO (h:Heap) (H:Hp):(rG h H).objs.size=h.objs.size:=W.hideAll_size _ _
theorem xR {h:Heap}{H:Hp}{b:Addr}{o:Obj} (e:h.get? b=some o) (n:H b=none):(rG h H).get? b=some o :=
 W.hideAll_get _ e fun hm=>by
  have q:(H b).isSome=true:=(List.mem_filter.mp hm).2
  rw [n] at q;simp at q
theorem Af {h:Heap}{H:Hp}{b:Addr}{o:Obj} (e:(rG h H).get? b=some o):h.get? b=some o/\H b=none:=by
 have e':h.get? b=some o:=W.of_hideAll (trk h H) e
 refine ⟨e',?_⟩
 cases q:H b with
 | none=>rfl
 | some x =>
  have hm:b ∈ trk h H:=List.mem_filter.mpr ⟨List.mem_range.mpr (Heap.lt_size e'),by simp [q]⟩
  have z:(rG h H).get? b=none:=W.hideAll_none (trk h H) hm
  rw [z] at e;cases e
end L2
namespace L2
open PySem PySem.Spec PyProof.Rows
structure Mod (K:W.Frag) (mg:Str->Option Value) (base:Heap):Prop where
 kin:K.In base
 glob:base.Ns mainGlobals mg
 blt:∃mb,base.Ns builtinsNs mb/\∀x:Str,x ≠ "__name__"->mb x=bootBuiltins x
 nolimit:base.NoLimit
structure Cx where
 prog:Program
 w:World
 K:W.Frag
 mg:Str->Option Value
 base:Heap
 A:Around
 N:List Str
 s₀:Shared
 H₀:Hp
 env:Env
 outer:List Env
 stack:List Env
 ex:List Addr
 fn:Str->Bool
 calm:Bool
 pn:List (Addr × Obj)
 xe:Value->Shared->Prop
def frs (l:List Env):List Addr:=l.filterMap (·.frame)
abbrev Cx.fs (X:Cx):List Addr:=frs X.outer
def Vis (sc:Scope) (x:Str):Prop:=sc.names.lookup x=some .local \/ sc.names.lookup x=some .cell \/ sc.names.lookup x=some .free
def Loc (sc:Scope) (x:Str):Prop:=sc.names.lookup x=some .local \/ sc.names.lookup x=some .cell
def Look (env:Env) (h:Heap) (m:Str->Option Value) (x:Str) (u:Value):Prop :=
 (env.kindOf x=some .local/\m x=some u) \/ ((env.kindOf x=some .cell \/ env.kindOf x=some .free)/\∃c,env.cells.lookup x=some c/\h.IsCell c (some u))
structure Cx.Ok (X:Cx):Prop where
 mod:Mod X.K X.mg X.base
 kind:X.env.scope.kind=.function
 glob:X.env.globals=mainGlobals
 blt:X.env.builtins=builtinsNs
 above:X.s₀.heap.objs.size <= X.env.locals
 inj:∀x y c,X.env.cells.lookup x=some c->X.env.cells.lookup y=some c->x=y
 has:∀x,(X.env.kindOf x=some .cell \/ X.env.kindOf x=some .free)->∃c,X.env.cells.lookup x=some c
 cab:∀x c,X.fn x=true->X.env.cells.lookup x=some c->X.s₀.heap.objs.size <= c
 hd:X.calm=true->X.A.handled=none
 frames:X.A.frames=some X.stack
 stk:X.stack=X.outer \/ (X.stack=X.env :: X.outer/\X.env.frame=some X.env.locals)
 exf:∀b ∈ X.ex,b ≠ X.env.locals/\∀x c,X.env.cells.lookup x=some c->c ≠ b
 bs:∀b o,X.base.get? b=some o->X.s₀.heap.get? b=some o/\X.H₀ b=none
 bsz:X.base.objs.size <= X.s₀.heap.objs.size
 yA:∀b o,X.base.get? b=some o->b ∉ X.ex
 xr:∀b ∈ X.ex,b ∉ X.fs
 nv:X.s₀.heap.FunFrames X.base X.outer
 frf:∀b ∈ X.fs,X.H₀ b=none
structure Inv (X:Cx) (pins:List (Addr × Obj)) (σ:List (Option V)) (H:Hp) (s:Shared):Prop where
 ok:X.Ok
 os:s.os=X.s₀.os
 bare:AllBare s.gens
 base:Un X.fs X.ex X.H₀ H X.s₀.heap s.heap
 loc:∃m,s.heap.Ns X.env.locals m/\∀(i:Nat) (x:Str) (v:V),X.N[i]?=some x->σ[i]?=some (some v)->Vis X.env.scope x->∃u,RelV v u/\Look X.env s.heap m x u
 cell:∀x c,X.env.cells.lookup x=some c->∃v,s.heap.IsCell c v
 free:H X.env.locals=none
 jK:∀x c,X.env.cells.lookup x=some c->H c=none
 pin:∀p ∈ X.pn ++ pins,s.heap.get? p.1=some p.2/\H p.1=none/\p.1 ≠ X.env.locals/\p.1 ∉ X.fs/\∀v,p.2.data ≠ .cell v
 hok:HOk X.prog X.w H s.heap
 len:σ.length=X.N.length
section
variable {X:Cx}{pins:List (Addr × Obj)}{σ:List (Option V)}{H H':Hp}{s:Shared}{h':Heap}
theorem Cx.Ok.DF (ok:X.Ok) {b:Addr}{o:Obj} (e:X.base.get? b=some o):b ∉ X.fs:=fun hb=>by
 have:=(ok.nv.mem hb).1
 rw [e] at this;cases this
theorem Inv.bs (I:Inv X pins σ H s):∀b o,X.base.get? b=some o->s.heap.get? b=some o/\H b=none:=fun b o e =>
 ⟨I.base.keep b o (I.ok.bs b o e).1 (I.ok.bs b o e).2 (I.ok.DF e) (I.ok.yA b o e),I.base.free b o (I.ok.bs b o e).1 (I.ok.bs b o e).2 (I.ok.yA b o e)⟩
theorem Inv.bk (I:Inv X pins σ H s):∀b o,X.base.get? b=some o->s.heap.get? b=some o:=fun b o e=>(I.bs b o e).1
theorem Inv.mod (I:Inv X pins σ H s):Mod X.K X.mg X.base:=I.ok.mod
theorem Inv.kIn (I:Inv X pins σ H s):X.K.In s.heap:=I.ok.mod.kin.keeps I.bk
theorem Inv.lt (I:Inv X pins σ H s):X.env.locals < s.heap.objs.size:=let ⟨_,hn,_⟩:=I.loc;hn.lt
theorem Inv.sz (I:Inv X pins σ H s):X.s₀.heap.objs.size <= s.heap.objs.size:=Nat.le_trans I.ok.above (Nat.le_of_lt I.lt)
theorem Inv.CS (I:Inv X pins σ H s) {a:Addr} (h:s.heap.objs.size <= a):a ∉ X.fs:=fun hb=>by
 obtain ⟨_,o,ho,_⟩:=I.ok.nv.mem hb
 exact absurd (Nat.lt_of_lt_of_le (Heap.lt_size ho) (Nat.le_trans I.sz h)) (Nat.lt_irrefl _)
theorem Inv.cne (I:Inv X pins σ H s):∀x c,X.env.cells.lookup x=some c->c ≠ X.env.locals:=fun x c e z=>by
 obtain ⟨v,o,ho,hd⟩:=I.cell x c e
 obtain ⟨m,⟨o',es,ep,ho',hd',_⟩,_⟩:=I.loc
 rw [z,ho'] at ho;cases ho;rw [hd'] at hd;cases hd
theorem Inv.nv (I:Inv X pins σ H s):s.heap.FunFrames X.base X.outer:=by
 have all:∀(l:List Env),(∀b ∈ frs l,b ∈ X.fs)->X.s₀.heap.FunFrames X.base l->s.heap.FunFrames X.base l:=by
  intro l
  induction l with
  | nil=>intro _ _;trivial
  | cons env r ih =>
   intro hs hl
   obtain ⟨hk,⟨L,o,hf,hn,ho,hd⟩,hr⟩:=hl
   have hL:L ∈ X.fs:=hs L (by unfold frs;rw [List.filterMap_cons,hf];exact List.mem_cons_self)
   obtain ⟨sl,e⟩:=I.base.slot L o ho (I.ok.frf L hL) hL fun z=>I.ok.xr L z hL
   exact ⟨hk,⟨L,_,hf,hn,e,hd⟩,ih (fun b hb=>hs b (by unfold frs;rw [List.filterMap_cons,hf];exact List.mem_cons_of_mem _ hb)) hr⟩
 exact all X.outer (fun _ hb=>hb) I.ok.nv
theorem Inv.stack (I:Inv X pins σ H s):s.heap.FunFrames X.base X.stack:=by
 rcases I.ok.stk with e | ⟨e,hf⟩
 ·rw [e];exact I.nv
 ·rw [e]
  obtain ⟨m,hn,_⟩:=I.loc
  refine .cons (by rw [I.ok.kind];decide) hf hn ?_ I.nv
  exact Heap.get?_none_of_le (Nat.le_trans I.ok.bsz I.ok.above)
theorem Inv.tY (I:Inv X pins σ H s):∀b ∈ frs X.stack,b ∈ X.env.locals :: X.fs:=fun b hb=>by
 rcases I.ok.stk with e | ⟨e,hf⟩
 ·rw [e] at hb;exact List.mem_cons_of_mem _ hb
 ·rw [e] at hb
  unfold frs at hb
  rw [List.filterMap_cons,hf] at hb
  exact hb
theorem Inv.vx (I:Inv X pins σ H s):∀b ∈ frs X.stack,H b=none:=fun b hb=>by
 rcases List.mem_cons.mp (I.tY b hb) with e | hb
 ·rw [e];exact I.free
 ·obtain ⟨_,o,ho,_⟩:=I.ok.nv.mem hb
  exact I.base.free b o ho (I.ok.frf b hb) fun z=>I.ok.xr b z hb
theorem Inv.step {g':Array GenState}{t':Nat}{d':Drawn}{ch:List Addr} (I:Inv X pins σ H s)
  (hch:∀b ∈ ch,(b ∈ X.ex \/ X.s₀.heap.objs.size <= b)/\b ≠ X.env.locals/\(∀x c,X.env.cells.lookup x=some c->c ≠ b)/\∀p ∈ X.pn ++ pins,p.1 ≠ b)
  (keep:∀b o,b ≠ X.env.locals->b ∉ X.fs->b ∉ ch->s.heap.get? b=some o->H b=none->h'.get? b=some o)
  (slot:∀b o,b ≠ X.env.locals->b ∈ X.fs->b ∉ ch->s.heap.get? b=some o->H b=none->∃sl,h'.get? b=some { o with slots:=sl }) (free:∀b o,b ∉ ch->s.heap.get? b=some o->H b=none->H' b=none)
  (there:∀b o,b ∉ ch->s.heap.get? b=some o->∃o',h'.get? b=some o')
  (qN:∀b xs,H b=some (.tup xs)->H' b=some (.tup xs)) (pU:∀b o u,H b=some (.frz o u)->H' b=some (.frz o u)) (qX:∀b ps,H b=some (.tbl ps)->∃more,H' b=some (.tbl (ps ++ more)))
  (ns:∀m,s.heap.Ns X.env.locals m->h'.Ns X.env.locals m) (hok:HOk X.prog X.w H' h') (hg:AllBare g') :
  Inv X pins σ H' { s with heap:=h',gens:=g',drawn:=d',toks:=t' }:=by
 have neL:∀b o,X.s₀.heap.get? b=some o->b ≠ X.env.locals:=fun b o e=>Nat.ne_of_lt (Nat.lt_of_lt_of_le (Heap.lt_size e) I.ok.above)
 have neC:∀b o,X.s₀.heap.get? b=some o->b ∉ X.ex->b ∉ ch:=fun b o e hx hb=>by
  rcases (hch b hb).1 with z | z
  ·exact hx z
  ·exact absurd (Nat.lt_of_lt_of_le (Heap.lt_size e) z) (Nat.lt_irrefl _)
 have cellK:∀x c,X.env.cells.lookup x=some c->∀v,s.heap.IsCell c v->h'.IsCell c v:=fun x c e v ⟨o,ho,hd⟩=>by
  have nch:c ∉ ch:=fun z=>(hch c z).2.2.1 x c e rfl
  by_cases hc:c ∈ X.fs
  ·obtain ⟨sl,q⟩:=slot c o (I.cne x c e) hc nch ho (I.jK x c e)
   exact ⟨_,q,hd⟩
  ·exact ⟨o,keep c o (I.cne x c e) hc nch ho (I.jK x c e),hd⟩
 refine ⟨I.ok,I.os,hg,⟨fun b o e n hb hx=>?_,fun b o e n hb hx=>?_,fun b o e n hx=>?_,fun b o e hx=>?_,fun b xs e=>qN b xs (I.base.qN b xs e),fun b o xs e=>pU b o xs (I.base.pU b o xs e),fun b ps e=>?_⟩,?_,fun x c e=>?_,?_,fun x c e=>?_,fun p hp=>?_,hok,I.len⟩
 ·exact keep b o (neL b o e) hb (neC b o e hx) (I.base.keep b o e n hb hx) (I.base.free b o e n hx)
 ·obtain ⟨sl,e1⟩:=I.base.slot b o e n hb hx
  obtain ⟨sl',e2⟩:=slot b _ (neL b o e) hb (neC b o e hx) e1 (I.base.free b o e n hx)
  exact ⟨sl',e2⟩
 ·obtain ⟨o',e1⟩:=I.base.there b o e hx
  exact free b o' (neC b o e hx) e1 (I.base.free b o e n hx)
 ·obtain ⟨o',e1⟩:=I.base.there b o e hx
  exact there b o' (neC b o e hx) e1
 ·obtain ⟨m1,e1⟩:=I.base.qX b ps e
  obtain ⟨m2,e2⟩:=qX b _ e1
  exact ⟨m1 ++ m2,by rw [e2,Array.append_assoc]⟩
 ·obtain ⟨m,hn,hl⟩:=I.loc
  refine ⟨m,ns m hn,fun i x v e1 e2 e3=>?_⟩
  obtain ⟨u,r,l⟩:=hl i x v e1 e2 e3
  refine ⟨u,r,?_⟩
  rcases l with l | ⟨k,c,e,z⟩
  ·exact .inl l
  ·exact .inr ⟨k,c,e,cellK x c e _ z⟩
 ·obtain ⟨v,z⟩:=I.cell x c e
  exact ⟨v,cellK x c e v z⟩
 ·obtain ⟨m,⟨o,_,_,ho,_⟩,_⟩:=I.loc
  exact free _ o (fun z=>(hch _ z).2.1 rfl) ho I.free
 ·obtain ⟨v,o,ho,hd⟩:=I.cell x c e
  exact free c o (fun z=>(hch c z).2.2.1 x c e rfl) ho (I.jK x c e)
 ·obtain ⟨e,n,ne,nf,d⟩:=I.pin p hp
  have nch:p.1 ∉ ch:=fun z=>(hch p.1 z).2.2.2 p hp rfl
  exact ⟨keep p.1 p.2 ne nf nch e n,free p.1 p.2 nch e n,ne,nf,d⟩
theorem Inv.un {t':Nat} (I:Inv X pins σ H s) (u:Un X.fs [] H H' s.heap h') (hok:HOk X.prog X.w H' h'):Inv X pins σ H' { s with heap:=h',toks:=t' }:=by
 obtain ⟨m,⟨o,es,ep,ho,r⟩,_⟩:=id I.loc
 obtain ⟨sl,hL⟩:=u.any ho I.free (by simp)
 exact I.step (g':=s.gens) (d':=s.drawn) (ch:=[]) (fun _ z=>nomatch z) (fun b o _ hb _ e n=>u.keep b o e n hb (by simp)) (fun b o _ hb _ e n=>u.slot b o e n hb (by simp)) (fun b o _ e n=>u.free b o e n (by simp)) (fun b o _ e=>u.there b o e (by simp)) u.qN u.pU u.qX (fun m' hm=>by
  obtain ⟨o',es',ep',ho',r'⟩:=hm
  rw [ho] at ho';cases ho'
  exact ⟨_,es',ep',hL,r'⟩) hok I.bare
theorem Inv.call {g':Array GenState}{t':Nat}{d':Drawn}{ch:List Addr} (I:Inv X pins σ H s) (u:Un (frs X.stack) ch H H' s.heap h') (hok:HOk X.prog X.w H' h') (hg:AllBare g')
  (hch:∀b ∈ ch,(b ∈ X.ex \/ X.s₀.heap.objs.size <= b)/\b ≠ X.env.locals/\(∀x c,X.env.cells.lookup x=some c->c ≠ b)/\∀p ∈ X.pn ++ pins,p.1 ≠ b) :
  Inv X pins σ H' { s with heap:=h',gens:=g',drawn:=d',toks:=t' }:=by
 obtain ⟨m,⟨o,es,ep,ho,r⟩,_⟩:=id I.loc
 obtain ⟨sl,hL⟩:=u.any ho I.free fun z=>(hch _ z).2.1 rfl
 exact I.step (ch:=ch) hch (fun b o hL hb hc e n=>u.keep b o e n (fun z=>(List.mem_cons.mp (I.tY b z)).elim hL hb) hc) (fun b o _ _ hc e n=>u.any e n hc) (fun b o hc e n=>u.free b o e n hc) (fun b o hc e=>u.there b o e hc) u.qN u.pU u.qX (fun m' hm=>by
  obtain ⟨o',es',ep',ho',r'⟩:=hm
  rw [ho] at ho';cases ho'
  exact ⟨_,es',ep',hL,r'⟩) hok hg
theorem Inv.turned {t':Nat}{it:Addr} (I:Inv X pins σ H s) (k:∀b o,b ≠ it->s.heap.get? b=some o->h'.get? b=some o) (hn:H it=none) (hL:it ≠ X.env.locals)
  (h1:it ∈ X.ex \/ X.s₀.heap.objs.size <= it) (h2:∀x c,X.env.cells.lookup x=some c->c ≠ it) (h3:∀p ∈ X.pn ++ pins,p.1 ≠ it):Inv X pins σ H { s with heap:=h',toks:=t' }:=by
 have nit:∀b u,H b=some u->b ≠ it:=fun b u e z=>by rw [z,hn] at e;cases e
 refine I.step (g':=s.gens) (d':=s.drawn) (ch:=[it]) (fun b hb=>?_) (fun b o _ _ hc e _=>k b o (fun z=>hc (by simp [z])) e) (fun b o _ _ hc e _=>⟨o.slots,k b o (fun z=>hc (by simp [z])) e⟩) (fun _ _ _ _ n=>n)
  (fun b o hc e=>⟨o,k b o (fun z=>hc (by simp [z])) e⟩) (fun _ _ e=>e) (fun _ _ _ e=>e) (fun b ps e=>⟨#[],by rw [e];simp⟩) (fun m hm=>?_) (fun b u e=>?_) I.bare
 ·have e:b=it:=by simpa using hb
  subst e
  exact ⟨h1,hL,h2,h3⟩
 ·obtain ⟨o,es,ep,ho,r⟩:=hm
  exact ⟨o,es,ep,k _ o (Ne.symm hL) ho,r⟩
 ·refine (I.hok b u e).uL (fun c v hc q=>k c v ?_ q) (fun _ q=>q) fun _ _ q=>q
  rcases hc with z | z
  ·rw [z];exact nit b u e
  ·exact nit c _ z
theorem Inv.tok (I:Inv X pins σ H s) (t:Nat):Inv X pins σ H { s with toks:=t }:=I.un (h':=s.heap) (t':=t) Un.refl I.hok
theorem Inv.kept {t':Nat} (I:Inv X pins σ H s) (k:∀b u,s.heap.get? b=some u->h'.get? b=some u):Inv X pins σ H { s with heap:=h',toks:=t' }:=I.un (Un.kept k) (I.hok.kept k)
theorem Inv.laid {a:Addr}{o:HO}{t':Nat} (I:Inv X pins σ H s) (k:∀b u,s.heap.get? b=some u->h'.get? b=some u) (hp:s.heap.objs.size <= a) (new:cW X.prog X.w (upd H a o) h' a o) :
  Inv X pins σ (upd H a o) { s with heap:=h',toks:=t' }:=I.un (Un.laid k hp (I.hok.fresh hp)) (I.hok.laid k hp new)
theorem Inv.write {x e:Addr}{o:HO}{t':Nat} (I:Inv X pins σ H s) (mu:Mut (H x)) (he:e=x \/ H e=some (.own x)) (k:∀b u,b ≠ e->s.heap.get? b=some u->h'.get? b=some u) (heo:∃u,h'.get? e=some u)
  (new:cW X.prog X.w (upd H x o) h' x o):Inv X pins σ (upd H x o) { s with heap:=h',toks:=t' }:=I.un (Un.write mu he k heo) (I.hok.write mu he k heo new)
theorem Inv.qM {pins':List (Addr × Obj)} (I:Inv X pins σ H s) (h:∀p ∈ pins',s.heap.get? p.1=some p.2/\H p.1=none/\p.1 ≠ X.env.locals/\p.1 ∉ X.fs/\∀v,p.2.data ≠ .cell v):Inv X pins' σ H s :=
 ⟨I.ok,I.os,I.bare,I.base,I.loc,I.cell,I.free,I.jK,fun p hp=>(List.mem_append.mp hp).elim (fun z=>I.pin p (List.mem_append_left _ z)) (h p),I.hok,I.len⟩
theorem sj {N:List Str} (hN:N.Nodup) {i j:Nat}{x:Str} (a:N[i]?=some x) (b:N[j]?=some x):i=j:=by
 obtain ⟨h1,e1⟩:=List.getElem?_eq_some_iff.mp a
 obtain ⟨h2,e2⟩:=List.getElem?_eq_some_iff.mp b
 exact (List.getElem_inj hN).mp (e1.trans e2.symm)
theorem wQ {M:Model}{A:Around}{E:Value->Shared->Prop}{i:Nat}{x:Str}{v:V}{u:Value}{Q:Unit->Shared->Prop} (I:Inv X pins σ H s) (hN:X.N.Nodup) (hi:X.N[i]?=some x) (hx:Loc X.env.scope x) (r:RelV v u)
  (h:∀s',Inv X pins (σ.set i (some v)) H s'->(∃a,Heap.SameBut a s.heap s'.heap/\(a=X.env.locals \/ X.env.cells.lookup x=some a))->Q () s') (hf:X.fn x=true \/ X.env.scope.names.lookup x=some .local:=by first | exact .inl rfl | exact .inr rfl | assumption):wpAny M A (storeName X.env x u) Q E s:=by
 obtain ⟨m,hn,hl⟩:=id I.loc
 have hcls:(X.env.scope.kind == .class || (X.env.scope.kind == .module && X.env.locals != X.env.globals))=false:=by rw [I.ok.kind];rfl
 have hiσ:i < σ.length:=by rw [I.len];exact (List.getElem?_eq_some_iff.mp hi).1
 have cne:=I.cne
 have tracked:∀{a:Addr}{h':Heap},(∃o,s.heap.get? a=some o/\H a=none)->Heap.SameBut a s.heap h'->HOk X.prog X.w H h':=fun {a h'} ha hs b ob e=>by
  obtain ⟨_,_,hfree⟩:=ha
  refine (I.hok b ob e).uL (fun c w' hc q=>(hs.2 c ?_).trans q) (fun _ q=>q) fun _ _ q=>q
  rintro rfl
  rcases hc with rfl | hc
  ·rw [hfree] at e;cases e
  ·rw [hfree] at hc;cases hc
 rcases hx with hk | hk
 ·refine wpAny_storeName_local hk hn (fun h' hn' hs=>?_) hcls
  obtain ⟨oL,_,_,hoL,_⟩:=id hn
  refine h _ ⟨I.ok,I.os,I.bare,⟨fun b o e n hb hx=>?_,fun b o e n hb hx=>?_,I.base.free,fun b o e hx=>?_,I.base.qN,I.base.pU,I.base.qX⟩,⟨_,hn',fun j y v' e1 e2 e3=>?_⟩,fun y c e=>?_,I.free,I.jK,fun p hp=>?_,tracked ⟨oL,hoL,I.free⟩ hs,by simpa using I.len⟩ ⟨_,hs,.inl rfl⟩
  ·exact (hs.2 b (Nat.ne_of_lt (Nat.lt_of_lt_of_le (Heap.lt_size e) I.ok.above))).trans (I.base.keep b o e n hb hx)
  ·obtain ⟨sl,e1⟩:=I.base.slot b o e n hb hx
   exact ⟨sl,(hs.2 b (Nat.ne_of_lt (Nat.lt_of_lt_of_le (Heap.lt_size e) I.ok.above))).trans e1⟩
  ·obtain ⟨o',e1⟩:=I.base.there b o e hx
   exact ⟨o',(hs.2 b (Nat.ne_of_lt (Nat.lt_of_lt_of_le (Heap.lt_size e) I.ok.above))).trans e1⟩
  ·by_cases hj:j=i
   ·subst hj
    rw [hi] at e1;cases e1
    rw [List.getElem?_set_self hiσ] at e2
    cases e2
    exact ⟨u,r,.inl ⟨hk,by simp⟩⟩
   ·rw [List.getElem?_set_ne (Ne.symm hj)] at e2
    obtain ⟨u',r',q⟩:=hl j y v' e1 e2 e3
    refine ⟨u',r',?_⟩
    rcases q with ⟨k,e⟩ | ⟨k,c,e,z⟩
    ·refine .inl ⟨k,?_⟩
     have:y ≠ x:=fun e=>hj (sj hN e1 (e ▸ hi))
     simp [this,e]
    ·exact .inr ⟨k,c,e,z.sameBut hs (cne y c e)⟩
  ·obtain ⟨w',z⟩:=I.cell y c e
   exact ⟨w',z.sameBut hs (cne y c e)⟩
  ·obtain ⟨e,n,ne,nf,d⟩:=I.pin p hp
   exact ⟨(hs.2 p.1 ne).trans e,n,ne,nf,d⟩
 ·have hfn:X.fn x=true:=by
   rcases hf with z | z
   ·exact z
   ·rw [z] at hk;cases hk
  obtain ⟨c,hc⟩:=I.ok.has x (.inl hk)
  obtain ⟨w',z⟩:=I.cell x c hc
  refine wpAny_storeName_cell I.ok.kind hk hc z (fun h' hc' hs=>?_)
  obtain ⟨oc,hoc,hocd⟩:=id z
  refine h { s with heap:=h' } ⟨I.ok,I.os,I.bare,⟨fun b o e n hb hx=>?_,fun b o e n hb hx=>?_,I.base.free,fun b o e hx=>?_,I.base.qN,I.base.pU,I.base.qX⟩,⟨m,hn.sameBut hs (Ne.symm (cne x c hc)),fun j y v' e1 e2 e3=>?_⟩,fun y c' e=>?_,I.free,I.jK,fun p hp=>?_,tracked ⟨oc,hoc,I.jK x c hc⟩ hs,by simpa using I.len⟩ ⟨c,hs,.inr hc⟩
  ·exact (hs.2 b (Nat.ne_of_lt (Nat.lt_of_lt_of_le (Heap.lt_size e) (I.ok.cab x c hfn hc)))).trans (I.base.keep b o e n hb hx)
  ·obtain ⟨sl,e1⟩:=I.base.slot b o e n hb hx
   exact ⟨sl,(hs.2 b (Nat.ne_of_lt (Nat.lt_of_lt_of_le (Heap.lt_size e) (I.ok.cab x c hfn hc)))).trans e1⟩
  ·obtain ⟨o',e1⟩:=I.base.there b o e hx
   exact ⟨o',(hs.2 b (Nat.ne_of_lt (Nat.lt_of_lt_of_le (Heap.lt_size e) (I.ok.cab x c hfn hc)))).trans e1⟩
  ·by_cases hj:j=i
   ·subst hj
    rw [hi] at e1;cases e1
    rw [List.getElem?_set_self hiσ] at e2
    cases e2
    exact ⟨u,r,.inr ⟨.inl hk,c,hc,hc'⟩⟩
   ·rw [List.getElem?_set_ne (Ne.symm hj)] at e2
    obtain ⟨u',r',q⟩:=hl j y v' e1 e2 e3
    refine ⟨u',r',?_⟩
    rcases q with q | ⟨k,c',e,z'⟩
    ·exact .inl q
    ·refine .inr ⟨k,c',e,z'.sameBut hs ?_⟩
     rintro rfl
     exact hj (sj hN e1 (I.ok.inj _ _ _ e hc ▸ hi))
  ·by_cases hcc:c'=c
   ·subst hcc;exact ⟨_,hc'⟩
   ·obtain ⟨w2,z2⟩:=I.cell y c' e
    exact ⟨w2,z2.sameBut hs hcc⟩
  ·obtain ⟨e,n,ne,nf,d⟩:=I.pin p hp
   refine ⟨(hs.2 p.1 ?_).trans e,n,ne,nf,d⟩
   intro q
   rw [q,hoc] at e
   have q':oc=p.2:=Option.some.inj e
   exact d w' (by rw [<- q'];exact hocd)
theorem nX {M:Model}{A:Around}{E:Value->Shared->Prop}{i:Nat}{x:Str}{v:V}{u:Value}{Q:Unit->Shared->Prop} (I:Inv X pins σ H s) (hN:X.N.Nodup) (hi:X.N[i]?=some x) (hx:Loc X.env.scope x) (r:RelV v u)
  (h:∀s',Inv X pins (σ.set i (some v)) H s'->Q () s') (hf:X.fn x=true \/ X.env.scope.names.lookup x=some .local:=by first | exact .inl rfl | exact .inr rfl | assumption):wpAny M A (storeName X.env x u) Q E s :=
 wQ I hN hi hx r (fun s' I' _=>h s' I') hf
theorem Inv.CW {s':Shared}{ch:List Addr} (I:Inv X pins σ H s) (ho:s'.os=s.os) (u:Un (frs X.stack) ch H H' s.heap s'.heap) (hok:HOk X.prog X.w H' s'.heap) (hg:AllBare s'.gens)
  (hch:∀b ∈ ch,(b ∈ X.ex \/ X.s₀.heap.objs.size <= b)/\b ≠ X.env.locals/\(∀x c,X.env.cells.lookup x=some c->c ≠ b)/\∀p ∈ X.pn ++ pins,p.1 ≠ b):Inv X pins σ H' s':=by
 obtain ⟨h',g',d',t',o'⟩:=s'
 have e:o'=s.os:=ho
 subst e
 exact I.call (g':=g') (t':=t') (d':=d') u hok hg hch
end
abbrev XK:=Value->Option Addr->Hp->Prop
abbrev St:=List (Option V)
abbrev VK:=V->Hp->Prop
abbrev TE:=St->Hp->VK->Prop
abbrev TT:=St->Hp->(Bool->Hp->Prop)->Prop
abbrev TA:=St->Hp->(List V->Hp->Prop)->Prop
structure Ends where
 nx:St->Hp->Prop
 rt:VK
 bk:St->Hp->Prop:=fun _ _=>False
 ct:St->Hp->Prop:=fun _ _=>False
abbrev TS:=Ends->St->Hp->Prop
def EP (X:Cx) (pins:List (Addr × Obj)) (σ:St) (Q:VK) (u:Value) (s':Shared):Prop:=∃v H',Inv X pins σ H' s'/\RelV v u/\Q v H'
def TP (X:Cx) (pins:List (Addr × Obj)) (σ:St) (Q:Bool->Hp->Prop) (b:Bool) (s':Shared):Prop:=∃H',Inv X pins σ H' s'/\Q b H'
def AP (X:Cx) (pins:List (Addr × Obj)) (σ:St) (Q:List V->Hp->Prop) (us:List Value) (s':Shared):Prop:=∃vs H',Inv X pins σ H' s'/\Vals vs us/\Q vs H'
def SP (X:Cx) (pins:List (Addr × Obj)) (D:Ends) (f:Flow) (s':Shared):Prop :=
 match f with
 | .next=>∃σ' H',Inv X pins σ' H' s'/\D.nx σ' H'
 | .brk=>∃σ' H',Inv X pins σ' H' s'/\D.bk σ' H'
 | .cont=>∃σ' H',Inv X pins σ' H' s'/\D.ct σ' H'
 | .ret u=>∃v σ' H',Inv X pins σ' H' s'/\RelV v u/\D.rt v H'
def PE (X:Cx) (e:Expr) (t:TE):Prop :=
 ∀(pins:List (Addr × Obj)) (s:Shared) (σ:St) (H:Hp) (Q:VK),Inv X pins σ H s->t σ H Q->wpAny (model X.prog X.w) X.A (eval e X.env) (EP X pins σ Q) X.xe s
def PT (X:Cx) (e:Expr) (t:TT):Prop :=
 ∀(pins:List (Addr × Obj)) (s:Shared) (σ:St) (H:Hp) (Q:Bool->Hp->Prop),Inv X pins σ H s->t σ H Q->wpAny (model X.prog X.w) X.A (isTrue e X.env (eval e X.env)) (TP X pins σ Q) X.xe s
def PW (X:Cx) (e:Expr) (t:TT):Prop :=
 ∀(whole:Sem Value) (pins:List (Addr × Obj)) (s:Shared) (σ:St) (H:Hp) (Q:Bool->Hp->Prop),Inv X pins σ H s->t σ H Q->wpAny (model X.prog X.w) X.A (isTrue e X.env whole) (TP X pins σ Q) X.xe s
theorem PW.pt {X:Cx}{e:Expr}{t:TT} (h:PW X e t):PT X e t:=h _
def PA (X:Cx) (es:List Expr) (t:TA):Prop :=
 ∀(pos:Pos) (pins:List (Addr × Obj)) (s:Shared) (σ:St) (H:Hp) (Q:List V->Hp->Prop),Inv X pins σ H s->t σ H Q->wpAny (model X.prog X.w) X.A (spliced (backTo pos (starEach es X.env))) (AP X pins σ Q) X.xe s
def PS (X:Cx) (st:Stmt) (t:TS):Prop :=
 ∀(pins:List (Addr × Obj)) (s:Shared) (σ:St) (H:Hp) (D:Ends),Inv X pins σ H s->t D σ H->wpAny (model X.prog X.w) X.A (exec st X.env) (SP X pins D) X.xe s
def PSs (X:Cx) (st:List Stmt) (t:TS):Prop :=
 ∀(pins:List (Addr × Obj)) (s:Shared) (σ:St) (H:Hp) (D:Ends),Inv X pins σ H s->t D σ H->wpAny (model X.prog X.w) X.A (execs st X.env) (SP X pins D) X.xe s
theorem thn {α:Type}{t:Sem α}{Q Q':α->Shared->Prop}{M:Model}{A:Around}{E:Value->Shared->Prop}{s:Shared} (h:wpAny M A t Q E s) (hQ:∀a s,Q a s->Q' a s):wpAny M A t Q' E s:=wpAny_mono h hQ fun _ _ x=>x
end L2
namespace L2
open PySem PySem.Spec PyProof.Rows
section
variable {X:Cx}
def DB (i:Nat):TE:=fun σ H Q=>∃v,σ[i]?=some (some v)/\Q v H
def tC (v:V):TE:=fun _ H Q=>Q v H
theorem AZ {i:Nat}{x:Str}{pos:Pos} (hN:X.N[i]?=some x) (hv:Vis X.env.scope x) (hd:(x == ("__debug__":Str))=false:=by decide) (hcd:(x == ("__classdict__":Str))=false:=by decide):PE X (.Name x pos) (DB i):=by
 intro pins s σ H Q I h
 obtain ⟨v,e,h⟩:=h
 obtain ⟨m,hn,hl⟩:=I.loc
 obtain ⟨u,r,l⟩:=hl i x v hN e hv
 have fin:EP X pins σ Q u s:=⟨v,H,I,r,h⟩
 rcases l with ⟨hk,hm⟩ | ⟨hk,c,hc,hcell⟩
 ·exact wpAny_Name (wpAny_loadName_local I.ok.kind hk hn hm fin) hd
 ·rcases hk with hk | hk
  ·exact wpAny_Name (wpAny_loadName_cell I.ok.kind hk hc hcell fin) hd
  ·exact wpAny_Name (wpAny_loadName_free I.ok.kind hk hc hcell fin hcd) hd
theorem ae {i j pos}:PE X (.Constant (.int i) j pos) (tC (.int i)):=fun _ _ _ H _ I h=>wpAny_Constant_int ⟨.int i,H,I.tok _,⟨_,rfl⟩,h⟩
theorem gT {b j pos}:PE X (.Constant (.bool b) j pos) (tC (.bl b)):=fun _ _ _ H _ I h=>Constant_bool ⟨.bl b,H,I,rfl,h⟩
theorem nU {j pos}:PE X (.Constant .none j pos) (tC .non):=fun _ _ _ H _ I h=>Constant_none ⟨.non,H,I,rfl,h⟩
theorem ai {x j pos}:PE X (.Constant (.str x) j pos) (tC (.str x)):=fun _ _ _ H _ I h=>Calls.Constant_str ⟨.str x,H,I.tok _,⟨_,rfl⟩,h⟩
def Gl (X:Cx) (x:Str):Prop:=X.env.kindOf x=some .globalImplicit
theorem me {E:Value->Shared->Prop}{pins:List (Addr × Obj)}{s:Shared}{σ:St}{H:Hp}{x:Str}{u:Value}{pos:Pos}{Q:Value->Shared->Prop} (I:Inv X pins σ H s) (hg:Gl X x) (hm:X.mg x=some u) (h:Q u s)
  (hd:(x == ("__debug__":Str))=false:=by decide):wpAny (model X.prog X.w) X.A (eval (.Name x pos) X.env) Q E s :=
 Calls.Name_function_global I.ok.kind hg (Calls.loadGlobal_global (by rw [I.ok.glob];exact I.mod.glob.keeps I.bk) hm h) hd
theorem mB {E:Value->Shared->Prop}{pins:List (Addr × Obj)}{s:Shared}{σ:St}{H:Hp}{x:Str}{u:Value}{pos:Pos}{Q:Value->Shared->Prop} (I:Inv X pins σ H s) (hg:Gl X x) (hm:X.mg x=none) (hv:bootBuiltins x=some u) (h:Q u s)
  (hn:x ≠ "__name__":=by decide) (hd:(x == ("__debug__":Str))=false:=by decide):wpAny (model X.prog X.w) X.A (eval (.Name x pos) X.env) Q E s:=by
 obtain ⟨mb,h1,h2⟩:=I.mod.blt
 exact Calls.Name_function_global I.ok.kind hg (Calls.loadGlobal_builtin (by rw [I.ok.glob];exact I.mod.glob.keeps I.bk) hm (by rw [I.ok.blt];exact h1.keeps I.bk) ((h2 x hn).trans hv) h) hd
theorem vb {x:Str}{v:V}{u:Value}{pos:Pos} (hg:Gl X x) (hm:X.mg x=some u) (r:RelV v u) (hd:(x == ("__debug__":Str))=false:=by decide):PE X (.Name x pos) (tC v) :=
 fun _ _ _ H _ I h=>me I hg hm ⟨v,H,I,r,h⟩ hd
theorem cJ {x:Str}{v:V}{u:Value}{pos:Pos} (hg:Gl X x) (hm:X.mg x=none) (hv:bootBuiltins x=some u) (r:RelV v u) (hn:x ≠ "__name__":=by decide) (hd:(x == ("__debug__":Str))=false:=by decide):PE X (.Name x pos) (tC v) :=
 fun _ _ _ H _ I h=>mB I hg hm hv ⟨v,H,I,r,h⟩ hn hd
variable {a b:Expr}{ta tb:TE}{pos:Pos}
variable {tA tB':TT}{rest:List Expr}
def DM (t u:TT):TT:=fun σ H Q=>t σ H fun c H1=>if c=true then u σ H1 Q else Q false H1
def tOr (t u:TT):TT:=fun σ H Q=>t σ H fun c H1=>if c=true then Q true H1 else u σ H1 Q
def Dz (t:TT):TT:=fun σ H Q=>t σ H fun c H1=>Q (!c) H1
theorem pw_and1 (ha:PT X a tA):PW X (.BoolOp .And [a] pos) tA:=by
 intro wh pins s σ H Q I h
 refine isTrue_and (thn (ha pins s σ H Q I h) fun c s1 e=>?_)
 cases c with
 | true=>exact isTrue_and_nil e
 | false=>exact e
theorem pw_or1 (ha:PT X a tA):PW X (.BoolOp .Or [a] pos) tA:=by
 intro wh pins s σ H Q I h
 refine isTrue_or (thn (ha pins s σ H Q I h) fun c s1 e=>?_)
 cases c with
 | false=>exact isTrue_or_nil e
 | true=>exact e
theorem pw_and (ha:PT X a tA) (hb:PW X (.BoolOp .And (b :: rest) pos) tB'):PW X (.BoolOp .And (a :: b :: rest) pos) (DM tA tB'):=by
 intro wh pins s σ H Q I h
 refine isTrue_and (thn (ha pins s σ H _ I h) fun c s1 ⟨H1,I1,q1⟩=>?_)
 cases c with
 | true=>exact hb wh pins s1 σ H1 Q I1 q1
 | false=>exact ⟨H1,I1,q1⟩
theorem pw_or (ha:PT X a tA) (hb:PW X (.BoolOp .Or (b :: rest) pos) tB'):PW X (.BoolOp .Or (a :: b :: rest) pos) (tOr tA tB'):=by
 intro wh pins s σ H Q I h
 refine isTrue_or (thn (ha pins s σ H _ I h) fun c s1 ⟨H1,I1,q1⟩=>?_)
 cases c with
 | true=>exact ⟨H1,I1,q1⟩
 | false=>exact hb wh pins s1 σ H1 Q I1 q1
theorem iN (ha:PT X a tA):PT X (.UnaryOp .Not a pos) (Dz tA):=by
 intro pins s σ H Q I h
 exact isTrue_not (ha pins s σ H (fun c H1=>Q (!c) H1) I h)
def Cz (ta tb:TE):TE:=fun σ H Q=>ta σ H fun x H1=>∃c,x=.bl c/\if c=true then tb σ H1 Q else Q (.bl false) H1
def DC (ta tb:TE):TE:=fun σ H Q=>ta σ H fun x H1=>∃c,x=.bl c/\if c=true then Q (.bl true) H1 else tb σ H1 Q
theorem iC {op}{t:TE} (h:PE X a t):PE X (.BoolOp op [a] pos) t:=fun pins s σ H Q I hw=>BoolOp_one (h pins s σ H Q I hw)
theorem ir (ha:PE X a ta) (hb:PE X (.BoolOp .And (b :: rest) pos) tb):PE X (.BoolOp .And (a :: b :: rest) pos) (Cz ta tb):=by
 intro pins s σ H Q I h
 refine BoolOp_and (thn (ha pins s σ H _ I h) fun v s1 ⟨x,H1,I1,r1,q1⟩=>?_)
 obtain ⟨c,rfl,q1⟩:=q1
 cases r1
 refine wpAny_truthy_bool ?_
 cases c with
 | true=>exact hb pins s1 σ H1 Q I1 q1
 | false=>exact ⟨.bl false,H1,I1,rfl,q1⟩
theorem yo (ha:PE X a ta) (hb:PE X (.BoolOp .Or (b :: rest) pos) tb):PE X (.BoolOp .Or (a :: b :: rest) pos) (DC ta tb):=by
 intro pins s σ H Q I h
 refine BoolOp_or (thn (ha pins s σ H _ I h) fun v s1 ⟨x,H1,I1,r1,q1⟩=>?_)
 obtain ⟨c,rfl,q1⟩:=q1
 cases r1
 refine wpAny_truthy_bool ?_
 cases c with
 | false=>exact hb pins s1 σ H1 Q I1 q1
 | true=>exact ⟨.bl true,H1,I1,rfl,q1⟩
def tIf (t:TT) (ta tb:TE):TE:=fun σ H Q=>t σ H fun c H1=>if c=true then ta σ H1 Q else tb σ H1 Q
theorem fH {c:Expr} (hc:PT X c tA) (ha:PE X a ta) (hb:PE X b tb):PE X (.IfExp c a b pos) (tIf tA ta tb):=by
 intro pins s σ H Q I h
 refine wpAny_IfExp (thn (hc pins s σ H _ I h) fun d s1 ⟨H1,I1,q1⟩=>?_)
 cases d with
 | true=>exact ha pins s1 σ H1 Q I1 q1
 | false=>exact hb pins s1 σ H1 Q I1 q1
end
end L2
namespace L2
open PySem PySem.Spec PyProof.Rows
def SqL (K:W.Frag) (H:Hp) (a:Addr) (xs:List V):Prop :=
 Rd H a (.lst xs) \/
  ∃(o:Obj) (its:Array Value) (n:Nat),K.lookup a=some o/\o.cls=.type "list"/\o.dict=none/\o.data=.seq its n/\its.size <= sizeLine/\Vals xs its.toList
def SqT (K:W.Frag) (H:Hp) (a:Addr) (xs:List V):Prop :=
 Rd H a (.tup xs) \/
  ∃(o:Obj) (its:Array Value) (n:Nat),K.lookup a=some o/\o.cls=.type "tuple"/\o.data=.seq its n/\its.size <= sizeLine/\Vals xs its.toList
def Ej:Value->Option V
 | .none=>some .non
 | .bool b=>some (.bl b)
 | .int i _=>some (.int i)
 | .str x _=>some (.str x)
 | .bytes b _=>some (.byt b)
 | .float b _=>some (.flt b)
 | .ref a=>some (.ref a)
 | .type n=>some (.ty n)
 | _=>none
theorem RelV.abs {x:V}{u:Value} (r:RelV x u):Ej u=some x:=by
 cases x with
 | non=>cases r;rfl
 | bl _=>cases r;rfl
 | int _=>obtain ⟨t,rfl⟩:=r;rfl
 | str _=>obtain ⟨t,rfl⟩:=r;rfl
 | byt _=>obtain ⟨t,rfl⟩:=r;rfl
 | flt _=>obtain ⟨t,rfl⟩:=r;rfl
 | ref _=>cases r;rfl
 | ty _=>cases r;rfl
theorem RelV.inj {x y:V}{u:Value} (r:RelV x u) (q:RelV y u):x=y:=Option.some.inj (r.abs.symm.trans q.abs)
theorem Vals.inj:∀{xs ys:List V}{us:List Value},Vals xs us->Vals ys us->xs=ys
 | _,_,_,.nil,.nil=>rfl
 | _,_,_,.cons r t,.cons r' t'=>by rw [r.inj r',Vals.inj t t']
section
variable {X:Cx}{pins:List (Addr × Obj)}{σ:St}{H:Hp}{s:Shared}{a:Addr}{xs ys:List V}
theorem SqL.of {K:W.Frag} (h:H a=some (.lst xs)):SqL K H a xs:=.inl (.inl h)
theorem SqT.of {K:W.Frag} (h:H a=some (.tup xs)):SqT K H a xs:=.inl (.inl h)
theorem Inv.list (I:Inv X pins σ H s) (h:SqL X.K H a xs):∃its:List Value,Vals xs its/\PlainL s.heap a its.toArray/\xs.length <= sizeLine:=by
 rcases h with h | ⟨o,its,n,hk,hc,hd,hs,hz,r⟩
 ·obtain ⟨z,its,n,r,e⟩:=h.ok I.hok
  exact ⟨its,r,⟨_,n,e,rfl,rfl,rfl⟩,z⟩
 ·refine ⟨its.toList,r,⟨o,n,I.kIn a o hk,hc,hd,by simpa using hs⟩,?_⟩
  have e:=r.length
  simp only [Array.length_toList] at e
  omega
theorem Inv.tuple (I:Inv X pins σ H s) (h:SqT X.K H a xs):∃its:List Value,Vals xs its/\IsTup s.heap a its.toArray/\xs.length <= sizeLine:=by
 rcases h with h | ⟨o,its,n,hk,hc,hs,hz,r⟩
 ·obtain ⟨z,its,r,p⟩:=h.ok I.hok
  exact ⟨its,r,p,z⟩
 ·refine ⟨its.toList,r,⟨o,I.kIn a o hk,hc,n,by simpa using hs⟩,?_⟩
  have e:=r.length
  simp only [Array.length_toList] at e
  omega
theorem Inv.o8 (I:Inv X pins σ H s) (h:SqL X.K H a xs) (h':SqL X.K H a ys):xs=ys:=by
 obtain ⟨its,r,⟨o,n,e,_,_,d⟩,_⟩:=I.list h
 obtain ⟨its',r',⟨o',n',e',_,_,d'⟩,_⟩:=I.list h'
 rw [e] at e';cases e'
 rw [d] at d'
 injection d' with d1 _
 have:its=its':=by simpa using congrArg Array.toList d1
 subst this
 exact r.inj r'
theorem Inv.wG (I:Inv X pins σ H s) (h:SqT X.K H a xs) (h':SqT X.K H a ys):xs=ys:=by
 obtain ⟨its,r,⟨o,e,_,n,d⟩,_⟩:=I.tuple h
 obtain ⟨its',r',⟨o',e',_,n',d'⟩,_⟩:=I.tuple h'
 rw [e] at e';cases e'
 rw [d] at d'
 injection d' with d1 _
 have:its=its':=by simpa using congrArg Array.toList d1
 subst this
 exact r.inj r'
end
abbrev Cx.pN (X:Cx) (E:Value->Shared->Prop):Cx:={ X with xe:=E }
abbrev Cx.nox (X:Cx):Cx:=X.pN fun _ _=>False
theorem Cx.Ok.pN {X:Cx} (ok:X.Ok) (E:Value->Shared->Prop):(X.pN E).Ok :=
 ⟨ok.mod,ok.kind,ok.glob,ok.blt,ok.above,ok.inj,ok.has,ok.cab,ok.hd,ok.frames,ok.stk,ok.exf,ok.bs,ok.bsz,ok.yA,ok.xr,ok.nv,ok.frf⟩
theorem Cx.Ok.ka {X:Cx}{E:Value->Shared->Prop} (ok:(X.pN E).Ok):X.Ok :=
 ⟨ok.mod,ok.kind,ok.glob,ok.blt,ok.above,ok.inj,ok.has,ok.cab,ok.hd,ok.frames,ok.stk,ok.exf,ok.bs,ok.bsz,ok.yA,ok.xr,ok.nv,ok.frf⟩
section
variable {X:Cx}{pins:List (Addr × Obj)}{σ:St}{H:Hp}{s:Shared}{E:Value->Shared->Prop}
theorem Inv.pN (I:Inv X pins σ H s) (E:Value->Shared->Prop):Inv (X.pN E) pins σ H s:=⟨I.ok.pN E,I.os,I.bare,I.base,I.loc,I.cell,I.free,I.jK,I.pin,I.hok,I.len⟩
theorem Inv.ka (I:Inv (X.pN E) pins σ H s):Inv X pins σ H s:=⟨I.ok.ka,I.os,I.bare,I.base,I.loc,I.cell,I.free,I.jK,I.pin,I.hok,I.len⟩
theorem SP.ka {D:Ends}{f:Flow}{s':Shared} (h:SP (X.pN E) pins D f s'):SP X pins D f s':=by
 cases f with
 | next=>obtain ⟨σ',H',I,q⟩:=h;exact ⟨σ',H',I.ka,q⟩
 | brk=>obtain ⟨σ',H',I,q⟩:=h;exact ⟨σ',H',I.ka,q⟩
 | cont=>obtain ⟨σ',H',I,q⟩:=h;exact ⟨σ',H',I.ka,q⟩
 | ret u=>obtain ⟨v,σ',H',I,r,q⟩:=h;exact ⟨v,σ',H',I.ka,r,q⟩
theorem PSs.nox {st:List Stmt}{t:TS} (h:PSs X.nox st t):PSs X st t:=fun pins s σ H D I hw =>
 wpAny_mono (h pins s σ H D (I.pN _) hw) (fun _ _ q=>q.ka) fun _ _ z=>False.elim z
end
section
variable {X:Cx}{st:Stmt}{rest:List Stmt}{t u:TS}{e:Expr}{te:TE}{pos:Pos}
def Cb:TS:=fun D σ H=>D.nx σ H
def xk (t u:TS):TS:=fun D σ H=>t { D with nx:=u D } σ H
theorem aH:PSs X [] Cb:=fun _ _ σ H _ I h=>wpAny_execs_nil ⟨σ,H,I,h⟩
theorem ab (h1:PS X st t) (h2:PSs X rest u):PSs X (st :: rest) (xk t u):=by
 intro pins s σ H D I h
 refine wpAny_execs_cons (thn (h1 pins s σ H { D with nx:=u D } I h) fun f s1 q=>?_)
 cases f with
 | next =>
  obtain ⟨σ',H',I',q⟩:=q
  exact h2 pins s1 σ' H' D I' q
 | ret v=>exact q
 | brk=>exact q
 | cont=>exact q
theorem ag (h1:PS X st t):PSs X [st] t:=by
 intro pins s σ H D I h
 refine wpAny_execs_cons (thn (h1 pins s σ H D I h) fun f s1 q=>?_)
 cases f with
 | next=>exact wpAny_execs_nil q
 | ret v=>exact q
 | brk=>exact q
 | cont=>exact q
def Bm:TS:=fun D σ H=>D.bk σ H
theorem r9:PS X (.Break pos) Bm:=fun _ _ σ H _ I h=>wpAny_Break ⟨σ,H,I,h⟩
theorem Inv.quiet {pins:List (Addr × Obj)}{σ:St}{H:Hp}{s:Shared} (I:Inv X pins σ H s):interactive X.env=false:=by simp [interactive,I.ok.kind]
def Co (te:TE):TS:=fun D σ H=>te σ H fun _ H1=>D.nx σ H1
theorem aP (he:PE X e te) (hs:swapsWith e none pos.line X.env=pure false:=by rfl):PS X (.Expr e pos) (Co te):=by
 intro pins s σ H D I h
 exact wpAny_Expr_any (thn (he pins s σ H _ I h) fun v s1 ⟨x,H1,I1,r1,q1⟩=>⟨σ,H1,I1,q1⟩) I.quiet hs
def DH (te:TE):TS:=fun D σ H=>te σ H D.rt
theorem aA (he:PE X e te):PS X (.Return (some e) pos) (DH te):=by
 intro pins s σ H D I h
 exact wpAny_Return_some (thn (he pins s σ H _ I h) fun v s1 ⟨x,H1,I1,r1,q1⟩=>⟨x,σ,H1,I1,r1,q1⟩)
def DA (c:TT) (t u:TS):TS:=fun D σ H=>c σ H fun b H1=>if b=true then t D σ H1 else u D σ H1
theorem aO {c:Expr}{a b:List Stmt}{tc:TT} (hc:PT X c tc) (ha:PSs X a t) (hb:PSs X b u):PS X (.If c a b pos) (DA tc t u):=by
 intro pins s σ H D I h
 refine wpAny_If (thn (hc pins s σ H _ I h) fun d s1 ⟨H1,I1,q1⟩=>?_)
 cases d with
 | true=>exact ha pins s1 σ H1 D I1 q1
 | false=>exact hb pins s1 σ H1 D I1 q1
def B5:TS:=fun _ _ _=>False
theorem wX {sts:List Stmt}:PSs X sts B5:=fun _ _ _ _ _ _ h=>h.elim
end
abbrev TG:=V->St->Hp->(St->Hp->Prop)->Prop
abbrev TGs:=List V->St->Hp->(St->Hp->Prop)->Prop
def PG (X:Cx) (target:Expr) (t:TG):Prop :=
 ∀(pins:List (Addr × Obj)) (s:Shared) (σ:St) (H:Hp) (v:V) (u:Value) (Q:St->Hp->Prop),Inv X pins σ H s->RelV v u->t v σ H Q ->
  wpAny (model X.prog X.w) X.A (assign target X.env u) (fun _ s'=>∃σ' H',Inv X pins σ' H' s'/\Q σ' H') X.xe s
def PGs (X:Cx) (ts:List Expr) (t:TGs):Prop :=
 ∀(pins:List (Addr × Obj)) (s:Shared) (σ:St) (H:Hp) (vs:List V) (us:List Value) (Q:St->Hp->Prop),Inv X pins σ H s->Vals vs us->t vs σ H Q ->
  wpAny (model X.prog X.w) X.A (assignInOrder ((assignEach ts X.env).map (·.2)) us) (fun _ s'=>∃σ' H',Inv X pins σ' H' s'/\Q σ' H') X.xe s
abbrev zM:=V->V->V->Hp->(Hp->Prop)->Prop
def xu (X:Cx) (t:zM):Prop :=
 ∀(pins:List (Addr × Obj)) (s:Shared) (σ:St) (H:Hp) (o i v:V) (ov iv u:Value) (Q:Hp->Prop),Inv X pins σ H s->RelV o ov->RelV i iv->RelV v u->t o i v H Q ->
  wpAny (model X.prog X.w) X.A (setItem ov iv u) (fun _ s'=>∃H',Inv X pins σ H' s'/\Q H') X.xe s
abbrev TIp:=V->V->Hp->VK->Prop
def PIp (X:Cx) (op:Operator) (t:TIp):Prop :=
 ∀(pins:List (Addr × Obj)) (s:Shared) (σ:St) (H:Hp) (x y:V) (v u:Value) (Q:VK),Inv X pins σ H s->RelV x v->RelV y u->t x y H Q ->
  wpAny (model X.prog X.w) X.A (inplaceOp op v u) (EP X pins σ Q) X.xe s
section
variable {X:Cx}{pos:Pos}
def jY (i:Nat):TG:=fun v σ H Q=>Q (σ.set i (some v)) H
theorem vA {i:Nat}{x:Str} (hN:X.N.Nodup) (hi:X.N[i]?=some x) (hx:Loc X.env.scope x) (hf:X.fn x=true \/ X.env.scope.names.lookup x=some .local:=by first | exact .inl rfl | exact .inr rfl | assumption):PG X (.Name x pos) (jY i):=by
 intro pins s σ H v u Q I r h
 exact wpAny_assign_Name (nX I hN hi hx r (fun s' I'=>⟨_,H,I',h⟩) hf)
def DZ:TGs:=fun vs σ H Q=>vs=[]/\Q σ H
def CU (t:TG) (u:TGs):TGs:=fun vs σ H Q=>∃v r,vs=v :: r/\t v σ H fun σ' H'=>u r σ' H' Q
theorem lU:PGs X [] DZ:=by
 intro pins s σ H vs us Q I r h
 obtain ⟨e,h⟩:=h
 subst e
 cases r
 exact assignInOrder_nil ⟨σ,H,I,h⟩
theorem di {e:Expr}{es:List Expr}{t:TG}{u:TGs} (h1:PG X e t) (h2:PGs X es u)
  (hs:(assignEach (e :: es) X.env).map (·.2)=assign e X.env :: (assignEach es X.env).map (·.2):=by rfl):PGs X (e :: es) (CU t u):=by
 intro pins s σ H vs us Q I r h
 obtain ⟨v,vr,e1,h⟩:=h
 subst e1
 cases r with
 | cons r rr =>
  rw [hs]
  refine assignInOrder_cons (thn (h1 pins s σ H _ _ _ I r h) fun _ s1 ⟨σ1,H1,I1,q1⟩=>?_)
  exact h2 pins s1 σ1 H1 _ _ Q I1 rr q1
def DL (K:W.Frag) (n:Nat) (t:TGs):TG:=fun v σ H Q=>∃a xs,v=.ref a/\SqT K H a xs/\xs.length=n/\t xs σ H Q
theorem pv {es:List Expr}{k:Nat}{t:TGs}{n:Nat} (hc:X.calm=true) (h:PGs X es t)
  (hn:(assignEach es X.env).length=n:=by rfl) (hst:(assignEach es X.env).findIdx? (·.1)=none:=by rfl):PG X (.Tuple es k pos) (DL X.K n t):=by
 intro pins s σ H v u Q I r hw
 obtain ⟨a,xs,e1,hq,hl,hw⟩:=hw
 subst e1
 cases r
 obtain ⟨its,rv,ht,hz⟩:=I.tuple hq
 refine assign_Tuple_tuple (I.ok.hd hc) ht (by simp [hn,<- hl,rv.length]) hst fun h' hx=>?_
 have I1:Inv X pins σ H { s with heap:=h' }:=I.kept (t':=s.toks) fun b o e=>hx b o (Nat.ne_of_lt (Heap.lt_size e)) e
 exact h pins _ σ H xs _ Q I1 (by simpa using rv) hw
def DW (to ti:TE) (t:zM):TG:=fun v σ H Q=>to σ H fun o H1=>ti σ H1 fun i H2=>t o i v H2 fun H3=>Q σ H3
theorem bA {o i:Expr}{to ti:TE}{t:zM} (ho:PE X o to) (hi:PE X i ti) (hs:xu X t)
  (ha:∀v,assign (.Subscript o i pos) X.env v=(do
   let ov <- holding [v] (eval o X.env)
   let iv <- holding [v,ov] (eval i X.env)
   standAt pos
   holding [v,ov,iv] (setItem ov iv v)
   release [v,ov,iv] []):=by intro _;rfl):PG X (.Subscript o i pos) (DW to ti t):=by
 intro pins s σ H v u Q I r h
 rw [ha]
 refine wpAny_bind (wpAny_holding (thn (ho pins s σ H _ I h) fun ov s1 ⟨x,H1,I1,r1,q1⟩=>?_))
 refine wpAny_bind (wpAny_holding (thn (hi pins s1 σ H1 _ I1 q1) fun iv s2 ⟨y,H2,I2,r2,q2⟩=>?_))
 refine wpAny_bind (wpAny_standAt (wpAny_bind (wpAny_holding (thn (hs pins s2 σ H2 x y v ov iv u _ I2 r1 r2 r q2) fun _ s3 ⟨H3,I3,q3⟩=>?_))))
 exact wpAny_release ⟨σ,H3,I3,q3⟩
def zu (te:TE) (g:TG):TS:=fun D σ H=>te σ H fun x H1=>g x σ H1 D.nx
theorem bo {tg e:Expr}{te:TE}{g:TG} (he:PE X e te) (hg:PG X tg g) (hs:swapsWithSole [tg] e pos.line X.env=pure false:=by rfl) (hw:swappedStores [tg] e X.env=pure none:=by rfl)
  (h1:(assignEach [tg] X.env).map (·.2)=[assign tg X.env]:=by rfl):PS X (.Assign [tg] e pos) (zu te g):=by
 intro pins s σ H D I h
 refine wpAny_Assign_stores (thn (he pins s σ H _ I h) fun v s1 ⟨x,H1,I1,r1,q1⟩=>?_) hs hw
 rw [h1]
 exact thn (hg pins s1 σ H1 x v _ I1 r1 q1) fun _ s2 q=>q
theorem aC {i:Nat}{x:Str}{e:Expr}{te:TE}{pos':Pos} (hN:X.N.Nodup) (hi:X.N[i]?=some x) (hx:Loc X.env.scope x) (he:PE X e te) (hs:swapsWith e (some (.Name x pos')) pos.line X.env=pure false:=by rfl) (hf:X.fn x=true \/ X.env.scope.names.lookup x=some .local:=by first | exact .inl rfl | exact .inr rfl | assumption) :
  PS X (.Assign [.Name x pos'] e pos) (zu te (jY i)):=by
 intro pins s σ H D I h
 refine wpAny_Assign_Name (thn (he pins s σ H _ I h) fun v s1 ⟨y,H1,I1,r1,q1⟩=>?_) hs
 exact nX I1 hN hi hx r1 (fun s2 I2=>⟨_,H1,I2,q1⟩) hf
def Dx (i:Nat) (te:TE) (ti:TIp):TS:=fun D σ H=>∃x,σ[i]?=some (some x)/\te σ H fun y H1=>ti x y H1 fun z H2=>D.nx (σ.set i (some z)) H2
theorem BS {i:Nat}{x:Str}{e:Expr}{te:TE}{op:Operator}{ti:TIp}{pos':Pos} (hN:X.N.Nodup) (hi:X.N[i]?=some x) (hx:Loc X.env.scope x) (he:PE X e te) (ho:PIp X op ti) (hf:X.fn x=true \/ X.env.scope.names.lookup x=some .local:=by first | exact .inl rfl | exact .inr rfl | assumption) :
  PS X (.AugAssign (.Name x pos') op e pos) (Dx i te ti):=by
 intro pins s σ H D I h
 obtain ⟨v,e1,h⟩:=h
 obtain ⟨m,hn,hl⟩:=I.loc
 have vis:Vis X.env.scope x:=by rcases hx with k | k;exact .inl k;exact .inr (.inl k)
 obtain ⟨u,r,l⟩:=hl i x v hi e1 vis
 refine wpAny_AugAssign_Name ?_
 have go:wpAny (model X.prog X.w) X.A (eval e X.env) (fun w s₂=>wpAny (model X.prog X.w) X.A (inplaceOp op u w) (fun r s₃=>wpAny (model X.prog X.w) X.A (storeName X.env x r) (fun _=>SP X pins D .next) X.xe s₃) X.xe s₂) X.xe s:=by
  refine thn (he pins s σ H _ I h) fun w s1 ⟨y,H1,I1,r1,q1⟩=>?_
  refine thn (ho pins s1 σ H1 v y u w _ I1 r r1 q1) fun z s2 ⟨zv,H2,I2,r2,q2⟩=>?_
  exact nX I2 hN hi hx r2 (fun s3 I3=>⟨_,H2,I3,q2⟩) hf
 rcases l with ⟨hk,hm⟩ | ⟨hk,c,hc,hcell⟩
 ·exact wpAny_loadName_local I.ok.kind hk hn hm go
 ·rcases hk with hk | hk
  ·exact wpAny_loadName_cell I.ok.kind hk hc hcell go
  ·rcases hx with k | k
   ·have:X.env.scope.names.lookup x=some .free:=hk
    rw [k] at this;cases this
   ·have:X.env.scope.names.lookup x=some .free:=hk
    rw [k] at this;cases this
def ipI (f:Int->Int->Int):TIp:=fun x y H Q=>∃i j,x=.int i/\y=.int j/\Q (.int (f i j)) H
theorem AR:PIp X .Add (ipI fun i j=>i + j):=by
 intro pins s σ H x y v u Q I r1 r2 h
 obtain ⟨i,j,e1,e2,q⟩:=h
 subst e1;subst e2
 obtain ⟨t,rfl⟩:=r1
 obtain ⟨t',rfl⟩:=r2
 exact iadd_int ⟨.int _,H,I.tok _,⟨_,rfl⟩,q⟩
end
section
variable {X:Cx}{pos:Pos}
def A6 (c:TT) (tb:TS):TS:=fun D σ H=>∃W:Nat->St->Hp->Prop,(∃m,W m σ H)/\∀m σ H,W m σ H ->
 c σ H fun b H1=>if b=true then ∃N:St->Hp->Prop,(∀σ' H',N σ' H'->∃m',m' < m/\W m' σ' H')/\tb { D with nx:=N,ct:=N,bk:=D.nx } σ H1 else D.nx σ H1
theorem oW {c:Expr}{body:List Stmt}{tc:TT}{tb:TS} (hp:PassesOwn (model X.prog X.w) X.A X.env X.xe) (hc:PT X c tc) (hb:PSs X body tb):PS X (.While c body [] pos) (A6 tc tb):=by
 intro pins s σ H D I h
 obtain ⟨W,⟨m0,w0⟩,turn⟩:=h
 refine wpAny_While (codeAny_whileLoop (fun n s'=>∃σ' H',Inv X pins σ' H' s'/\W n σ' H') ?_ m0 ⟨σ,H,I,w0⟩)
 rintro n s1 ⟨σ1,H1,I1,w1⟩
 refine wpAny_passesOwn hp (thn (hc pins s1 σ1 H1 _ I1 (turn n σ1 H1 w1)) fun b s2 ⟨H2,I2,q2⟩=>?_)
 cases b with
 | true =>
  obtain ⟨N,hN,q2⟩:=q2
  rw [if_pos rfl]
  refine wpAny_passesOwn hp (thn (hb pins s2 σ1 H2 _ I2 q2) fun f s3 q3=>?_)
  cases f with
  | next =>
   obtain ⟨σ3,H3,I3,n3⟩:=q3
   obtain ⟨m',hm,w3⟩:=hN σ3 H3 n3
   exact ⟨m',hm,σ3,H3,I3,w3⟩
  | cont =>
   obtain ⟨σ3,H3,I3,n3⟩:=q3
   obtain ⟨m',hm,w3⟩:=hN σ3 H3 n3
   exact ⟨m',hm,σ3,H3,I3,w3⟩
  | brk=>exact q3
  | ret v=>exact q3
 | false =>
  rw [if_neg Bool.false_ne_true]
  exact wpAny_execs_nil ⟨σ1,H2,I2,q2⟩
end
structure It where
 go:Nat->Hp->Prop
 yld:Nat->Hp->V->Hp->Prop
 stop:Nat->Hp->Prop
def oP (X:Cx) (pins:List (Addr × Obj)) (H:Hp) (b:Addr):Prop :=
 H b=none/\b ≠ X.env.locals/\b ∉ X.fs/\(b ∈ X.ex \/ X.s₀.heap.objs.size <= b)/\(∀x c,X.env.cells.lookup x=some c->c ≠ b)/\∀p ∈ X.pn ++ pins,p.1 ≠ b
theorem Inv.tO {X:Cx}{pins:List (Addr × Obj)}{σ:St}{H H':Hp}{s:Shared}{b:Addr} (I:Inv X pins σ H s) (hb:s.heap.objs.size <= b) (hn:H' b=none):oP X pins H' b:=by
 refine ⟨hn,Nat.ne_of_gt (Nat.lt_of_lt_of_le I.lt hb),I.CS hb,.inr (Nat.le_trans I.sz hb),fun x c e z=>?_,fun p hp z=>?_⟩
 ·obtain ⟨v,q⟩:=I.cell x c e
  exact absurd (Nat.lt_of_lt_of_le q.lt (by rw [z];exact hb)) (Nat.lt_irrefl _)
 ·exact absurd (Nat.lt_of_lt_of_le (Heap.lt_size (I.pin p hp).1) (by rw [z];exact hb)) (Nat.lt_irrefl _)
structure Turn (P:Program) (w:World) (K:W.Frag) (tg:Expr) (J:It) (fp:List Addr) (it:Addr) (tn:Nat->Heap->Prop):Prop where
 mem:it ∈ fp
 obj:∀i h,tn i h->∀b ∈ fp,∃o,h.get? b=some o/\∀v,o.data ≠ .cell v
 keep:∀i h h',tn i h->(∀b ∈ fp,∀o,h.get? b=some o->h'.get? b=some o)->tn i h'
 item:∀(X:Cx),X.prog=P->X.w=w->X.K=K->X.calm=true->∀(i:Nat) (pins:List (Addr × Obj)) (s:Shared) (σ:St) (H:Hp) (E:Value->Shared->Prop),Inv X pins σ H s->(∀b ∈ fp,oP X pins H b)->tn i s.heap->J.go i H ->
  wpAny (model P w) X.A (pyNext (.ref it)) (fun r s1=>∃u,r=some u /\
   wpAny (model P w) X.A (letOwnedTupleGo tg (.ref it) u) (fun _ s2=>∃x H',Inv X pins σ H' s2/\RelV x u/\J.yld i H x H'/\tn (i + 1) s2.heap/\∀b ∈ fp,H' b=none) E s1) E s
 done:∀(X:Cx),X.prog=P->X.w=w->X.K=K->X.calm=true->∀(i:Nat) (pins:List (Addr × Obj)) (s:Shared) (σ:St) (H:Hp) (E:Value->Shared->Prop),Inv X pins σ H s->(∀b ∈ fp,oP X pins H b)->tn i s.heap->J.stop i H ->
  wpAny (model P w) X.A (pyNext (.ref it)) (fun r s1=>r=none/\Inv X pins σ H s1) E s
 self:∀(A:Around) (i:Nat) (s:Shared) (Q:Value->Shared->Prop) (E:Value->Shared->Prop),tn i s.heap->Q (.ref it) s->wpAny (model P w) A (pyIter (.ref it)) Q E s
abbrev TI:=St->Hp->(It->Hp->Prop)->Prop
def PIE (X:Cx) (pins:List (Addr × Obj)) (σ:St) (tg:Expr) (R:It->Hp->Prop) (itv:Value) (s2:Shared):Prop :=
 ∃(it:Addr) (fp:List Addr) (tn:Nat->Heap->Prop) (J:It) (H':Hp),itv=.ref it/\Inv X pins σ H' s2/\Turn X.prog X.w X.K tg J fp it tn/\tn 0 s2.heap/\(∀b ∈ fp,oP X pins H' b)/\R J H'
def PI (X:Cx) (tg iter:Expr) (wi:TI):Prop :=
 ∀(pins:List (Addr × Obj)) (s:Shared) (σ:St) (H:Hp) (R:It->Hp->Prop),Inv X pins σ H s->wi σ H R ->
  wpAny (model X.prog X.w) X.A (eval iter X.env) (fun v s1=>wpAny (model X.prog X.w) X.A (pyIter v) (PIE X pins σ tg R) X.xe s1) X.xe s
theorem vC {M:Model}{A:Around}{E:Value->Shared->Prop}{s:Shared}{tg:Expr}{it:Addr}{u:Value}{o:Obj}{n:String}{vs:Array Value}{Q:Unit->Shared->Prop} (ho:s.heap.get? it=some o) (hc:o.cls=.type n) (hd:o.data=.fields vs)
    (hn:["enumerate","zip","dict_itemiterator","dict_reverseitemiterator","odict_iterator","itertools.zip_longest","itertools.pairwise"].contains n=false) (hQ:Q () s):wpAny M A (letOwnedTupleGo tg (.ref it) u) Q E s:=by
  unfold letOwnedTupleGo
  cases tg <;> first
    | exact wpAny_pure hQ
    | (cases u <;> first
        | exact wpAny_pure hQ
        | (refine wpAny_bind (wpAny_load ho ?_)
           rw [hc,hd]
           show wpAny M A (if (["enumerate","zip","dict_itemiterator","dict_reverseitemiterator","odict_iterator","itertools.zip_longest","itertools.pairwise"].contains n && vs[0]? == some (rawInt _))=true then _ else _) Q E s
           rw [if_neg (by intro h;rw [hn,Bool.false_and] at h;cases h)]
           exact wpAny_pure hQ))
def Itl (K:W.Frag) (a:Addr):It :=
 ⟨fun i H=>∃xs x,SqL K H a xs/\xs[i]?=some x,fun i H x H'=>H'=H/\∀xs,SqL K H a xs->xs[i]?=some x,fun i H=>∃xs,SqL K H a xs/\xs.length <= i⟩
def Itt (K:W.Frag) (a:Addr):It :=
 ⟨fun i H=>∃xs x,SqT K H a xs/\xs[i]?=some x,fun i H x H'=>H'=H/\∀xs,SqT K H a xs->xs[i]?=some x,fun i H=>∃xs,SqT K H a xs/\xs.length <= i⟩
def Itr (lo:Int) (n:Nat):It:=⟨fun i _=>i < n,fun i H x H'=>H'=H/\x=.int (lo + i),fun i _=>n <= i⟩
theorem vK {P:Program}{w:World}{K:W.Frag}{tg:Expr} (a it:Addr):Turn P w K tg (Itl K a) [it] it (fun i h=>h.IsListIter it a i) where
 mem:=by simp
 obj:=fun i h st b hb=>by
  have e:b=it:=by simpa using hb
  subst e
  obtain ⟨o,e,c,d⟩:=st
  exact ⟨o,e,fun v z=>by rw [d] at z;cases z⟩
 keep:=fun i h h' st k=>st.at fun o e=>k it (by simp) o e
 item:=by
  intro X hP hw hK hc i pins s σ H E I hf st hg
  subst hP hw hK
  obtain ⟨xs,x,hq,hx⟩:=hg
  obtain ⟨its,rv,p,hz⟩:=I.list hq
  obtain ⟨u,hu,ru⟩:=rv.get hx
  obtain ⟨f0,f1,f2,f3,f4,f5⟩:=hf it (by simp)
  refine wpAny_pyNext_list_item st p.isList (x:=u) (by simpa using hu) fun h' st' sb=>?_
  have I1:Inv X pins σ H { s with heap:=h' }:=I.turned (t':=s.toks) (fun b o hb e=>(sb.2 b hb).trans e) f0 f1 f3 f4 f5
  obtain ⟨o,e,c,d⟩:=id st'
  exact ⟨u,rfl,vC (s:={ s with heap:=h' }) e c d (by decide) ⟨x,H,I1,ru,⟨rfl,fun ys hy=>by rw [I.o8 hy hq];exact hx⟩,st',fun b hb=>(hf b hb).1⟩⟩
 done:=by
  intro X hP hw hK hc i pins s σ H E I hf st hg
  subst hP hw hK
  obtain ⟨xs,hq,hx⟩:=hg
  obtain ⟨its,rv,p,hz⟩:=I.list hq
  obtain ⟨f0,f1,f2,f3,f4,f5⟩:=hf it (by simp)
  have hl:=rv.length
  exact wpAny_pyNext_list_end (I.ok.hd hc) st p.isList (by simp;omega) fun h' eb=>⟨rfl,I.turned (t':=s.toks) (fun b o hb e=>eb b o hb e) f0 f1 f3 f4 f5⟩
 self:=fun _ _ _ _ _ st h=>wpAny_pyIter_listiter st h
theorem uz {P:Program}{w:World}{K:W.Frag}{tg:Expr} (a it:Addr):Turn P w K tg (Itt K a) [it] it (fun i h=>h.IsTupleIter it a i) where
 mem:=by simp
 obj:=fun i h st b hb=>by
  have e:b=it:=by simpa using hb
  subst e
  obtain ⟨o,e,c,d⟩:=st
  exact ⟨o,e,fun v z=>by rw [d] at z;cases z⟩
 keep:=fun i h h' st k=>st.at fun o e=>k it (by simp) o e
 item:=by
  intro X hP hw hK hc i pins s σ H E I hf st hg
  subst hP hw hK
  obtain ⟨xs,x,hq,hx⟩:=hg
  obtain ⟨its,rv,p,hz⟩:=I.tuple hq
  obtain ⟨u,hu,ru⟩:=rv.get hx
  obtain ⟨f0,f1,f2,f3,f4,f5⟩:=hf it (by simp)
  refine wpAny_pyNext_tuple_item st (show s.heap.IsTuple a its.toArray from p) (x:=u) (by simpa using hu) fun h' st' sb=>?_
  have I1:Inv X pins σ H { s with heap:=h' }:=I.turned (t':=s.toks) (fun b o hb e=>(sb.2 b hb).trans e) f0 f1 f3 f4 f5
  obtain ⟨o,e,c,d⟩:=id st'
  exact ⟨u,rfl,vC (s:={ s with heap:=h' }) e c d (by decide) ⟨x,H,I1,ru,⟨rfl,fun ys hy=>by rw [I.wG hy hq];exact hx⟩,st',fun b hb=>(hf b hb).1⟩⟩
 done:=by
  intro X hP hw hK hc i pins s σ H E I hf st hg
  subst hP hw hK
  obtain ⟨xs,hq,hx⟩:=hg
  obtain ⟨its,rv,p,hz⟩:=I.tuple hq
  obtain ⟨f0,f1,f2,f3,f4,f5⟩:=hf it (by simp)
  have hl:=rv.length
  exact wpAny_pyNext_tuple_end (I.ok.hd hc) st (show s.heap.IsTuple a its.toArray from p) (by simp;omega) fun h' eb=>⟨rfl,I.turned (t':=s.toks) (fun b o hb e=>eb b o hb e) f0 f1 f3 f4 f5⟩
 self:=fun _ _ _ _ _ st h=>wpAny_pyIter_tupleiter st h
theorem ua {P:Program}{w:World}{K:PySem.W.Frag}{tg:Expr} (it:Addr) (lo:Int) (n:Nat):Turn P w K tg (Itr lo n) [it] it (fun i h=>IsRangeIter h it (lo + (i:Nat) * 1) ((n:Int) - (i:Nat)) 1) where
 mem:=by simp
 obj:=fun i h st b hb=>by
  have e:b=it:=by simpa using hb
  subst e
  exact ⟨_,st,fun v z=>by
   have z':Data.fields _=Data.cell v:=z
   cases z'⟩
 keep:=fun i h h' st k=>k it (by simp) _ st
 item:=by
  intro X hP hw hK hc i pins s σ H E I hf st hg
  subst hP hw hK
  obtain ⟨f0,f1,f2,f3,f4,f5⟩:=hf it (by simp)
  have W:=Walks.range (prog:=X.prog) (w:=X.w) (I.ok.hd hc) it lo 1 n
  refine W.item i s _ _ hg st fun v h' tk hv st' kk=>?_
  obtain ⟨t,rfl⟩:=hv
  have I1:Inv X pins σ H { s with heap:=h',toks:=tk }:=I.turned (fun b o hb e=>kk b o (by simpa using hb) e) f0 f1 f3 f4 f5
  refine ⟨_,rfl,vC (s:={ s with heap:=h',toks:=tk }) (n:="range_iterator") st' rfl rfl (by decide) ⟨.int (lo + i),H,I1,⟨t,?_⟩,⟨rfl,rfl⟩,st',fun b hb=>(hf b hb).1⟩⟩
  rw [Int.mul_one]
 done:=by
  intro X hP hw hK hc i pins s σ H E I hf st hg
  subst hP hw hK
  obtain ⟨f0,f1,f2,f3,f4,f5⟩:=hf it (by simp)
  exact wpAny_pyNext_range_end (I.ok.hd hc) st (by have:n <= i:=hg;omega) fun h' eb=>⟨rfl,I.turned (t':=s.toks) (fun b o hb e=>eb b o hb e) f0 f1 f3 f4 f5⟩
 self:=fun _ _ _ _ _ st h=>wpAny_pyIter_rangeiter st h
end L2
namespace L2
open PySem PySem.Spec PyProof.Rows
section
variable {X:Cx}{tg:Expr}
theorem tm {pins:List (Addr × Obj)}{σ:St}{H:Hp}{s:Shared}{R:It->Hp->Prop}{E:Value->Shared->Prop}{lo hi:Int}{t u v:Tok}{tk:Nat} (I:Inv X pins σ H s) (h1:-(2 ^ 62) <= lo) (h2:lo < 2 ^ 62) (h3:-(2 ^ 62) <= hi) (h4:hi < 2 ^ 62)
  (q:R (Itr lo (hi - lo).toNat) H):wpAny (model X.prog X.w) X.A (pyIter (.ref s.heap.objs.size)) (PIE X pins σ tg R) E { s with heap:=s.heap.push { cls:=.type "range",data:=.fields #[.int lo t,.int hi u,.int 1 v] },toks:=tk }:=by
 refine wpAny_pyIter_range (IsRange.new ..) (small_one h1 h2 h3 h4) ?_
 have I1:Inv X pins σ H { s with heap:=s.heap.push { cls:=.type "range",data:=.fields #[.int lo t,.int hi u,.int 1 v] },toks:=tk }:=I.kept fun b o e=>Heap.get?_push_of_some _ e
 refine ⟨(s.heap.push { cls:=.type "range",data:=.fields #[.int lo t,.int hi u,.int 1 v] }).objs.size,[(s.heap.push { cls:=.type "range",data:=.fields #[.int lo t,.int hi u,.int 1 v] }).objs.size],_,_,H,rfl,
  I1.kept (t':=tk) fun b o e=>Heap.get?_push_of_some _ e,ua _ lo (hi - lo).toNat,?_,fun b hb=>?_,q⟩
 ·have e1:lo + ((0:Nat):Int) * 1=lo:=by simp
  have e2:(((hi - lo).toNat:Nat):Int) - ((0:Nat):Int)=Builtin.Range.rangeSize lo hi 1:=by rw [rangeSize_one];split <;> omega
  show IsRangeIter _ _ (lo + ((0:Nat):Int) * 1) ((((hi - lo).toNat:Nat):Int) - ((0:Nat):Int)) 1
  rw [e1,e2]
  exact Heap.get?_push_size _ rfl
 ·have e:b=(s.heap.push { cls:=.type "range",data:=.fields #[.int lo t,.int hi u,.int 1 v] }).objs.size:=by simpa using hb
  subst e
  exact I1.tO (Nat.le_refl _) (I1.hok.fresh (Nat.le_refl _))
def Cs (ta:TA):TI:=fun σ H R=>ta σ H fun vs H1=>∃j:Int,vs=[.int j]/\-(2 ^ 62) <= j/\j < 2 ^ 62/\R (Itr 0 j.toNat) H1
def Cu (ta:TA):TI:=fun σ H R=>ta σ H fun vs H1=>∃i j:Int,vs=[.int i,.int j]/\(-(2 ^ 62) <= i/\i < 2 ^ 62/\-(2 ^ 62) <= j/\j < 2 ^ 62)/\R (Itr i (j - i).toNat) H1
theorem gh {a:Expr}{ta:TA}{p pos:Pos} (hg:Gl X "range") (hm:X.mg "range"=none) (ha:PA X [a] ta) (hs:starEach [a] X.env=[(false,eval a X.env)]:=by rfl):PI X tg (.Call (.Name "range" p) [a] [] pos) (Cs ta):=by
 intro pins s σ H R I h
 refine Call_ (mB I hg hm boot_range (PyProof.Rows.callWith_type1 (thn (ha pos pins s σ H _ I h) fun us s1 ⟨vs,H1,I1,r1,q1⟩=>?_) hs rfl))
 obtain ⟨j,e,q1,q2,q⟩:=q1
 subst e
 cases r1 with
 | cons r rr =>
  cases rr
  obtain ⟨t,rfl⟩:=r
  exact call_range_1 (tm I1 (by omega) (by omega) q1 q2 (by simpa using q))
theorem gi {a b:Expr}{ta:TA}{p pos:Pos} (hg:Gl X "range") (hm:X.mg "range"=none) (ha:PA X [a,b] ta) (hs:starEach [a,b] X.env=[(false,eval a X.env),(false,eval b X.env)]:=by rfl) (hs2:starEach [b] X.env=[(false,eval b X.env)]:=by rfl) :
  PI X tg (.Call (.Name "range" p) [a,b] [] pos) (Cu ta):=by
 intro pins s σ H R I h
 refine Call_ (mB I hg hm boot_range (PyProof.Rows.callWith_type1 (thn (ha pos pins s σ H _ I h) fun us s1 ⟨vs,H1,I1,r1,q1⟩=>?_) (by rw [hs,hs2]) (by rw [hs2];rfl)))
 obtain ⟨i,j,e,⟨q1,q2,q3,q4⟩,q⟩:=q1
 subst e
 cases r1 with
 | cons r rr =>
  cases rr with
  | cons r' rr =>
   cases rr
   obtain ⟨t,rfl⟩:=r
   obtain ⟨t',rfl⟩:=r'
   exact call_range_2 (tm I1 q1 q2 q3 q4 q)
def Eb (wi:TI) (g:TG) (tb:TS):TS:=fun D σ H=>wi σ H fun J H1=>∃W:Nat->Nat->St->Hp->Prop,(∃m,W 0 m σ H1)/\∀i m σ H,W i m σ H ->
 (J.stop i H/\D.nx σ H) \/ (J.go i H/\∃N:St->Hp->Prop,(∀σ' H',N σ' H'->∃m',m' < m/\W (i + 1) m' σ' H')/\∀x H',J.yld i H x H'->g x σ H' fun σ2 H2=>tb { D with nx:=N,ct:=N,bk:=D.nx } σ2 H2)
def nY (fp:List Addr) (h:Heap):List (Addr × Obj):=fp.filterMap fun b=>(h.get? b).map fun o=>(b,o)
theorem jb {fp:List Addr}{h:Heap}{b:Addr}{o:Obj} (hb:b ∈ fp) (e:h.get? b=some o):(b,o) ∈ nY fp h:=List.mem_filterMap.mpr ⟨b,hb,by rw [e];rfl⟩
theorem wU {fp:List Addr}{h:Heap}{p:Addr × Obj} (hp:p ∈ nY fp h):p.1 ∈ fp/\h.get? p.1=some p.2:=by
 obtain ⟨b,hb,e⟩:=List.mem_filterMap.mp hp
 cases q:h.get? b with
 | none=>rw [q] at e;cases e
 | some o =>
  rw [q] at e
  have e':(b,o)=p:=Option.some.inj e
  subst e'
  exact ⟨hb,q⟩
theorem Inv.pinned {pins:List (Addr × Obj)}{σ:St}{H:Hp}{s:Shared}{fp:List Addr} (I:Inv X pins σ H s) (hf:∀b ∈ fp,oP X pins H b) (ho:∀b ∈ fp,∃o,s.heap.get? b=some o/\∀v,o.data ≠ .cell v):Inv X (pins ++ nY fp s.heap) σ H s :=
 I.qM fun p hp=>(List.mem_append.mp hp).elim (fun z=>I.pin p (List.mem_append_right _ z)) fun z=>by
  obtain ⟨hb,e⟩:=wU z
  obtain ⟨f0,f1,f2,_⟩:=hf p.1 hb
  obtain ⟨o,e',d⟩:=ho p.1 hb
  rw [e] at e';cases e'
  exact ⟨e,f0,f1,f2,d⟩
theorem Inv.jP {pins pl:List (Addr × Obj)}{σ:St}{H:Hp}{s:Shared} (I:Inv X (pins ++ pl) σ H s):Inv X pins σ H s:=I.qM fun p hp=>I.pin p (List.mem_append_right _ (List.mem_append_left _ hp))
theorem dX {iter:Expr}{body:List Stmt}{wi:TI}{g:TG}{tb:TS}{pos:Pos} (hp:PassesOwn (model X.prog X.w) X.A X.env X.xe) (hc:X.calm=true) (hi:PI X tg iter wi) (hg:PG X tg g) (hb:PSs X body tb)
  (hs:∀x,foldedSetIterable iter X.env x=pure x:=by intro _;rfl):PS X (.For tg iter body [] pos) (Eb wi g tb):=by
 intro pins s σ H D I h
 refine wpAny_For (thn (hi pins s σ H _ I h) fun v s1 h1=>thn h1 fun itv s2 h2=>?_) hs
 obtain ⟨it,fp,tn,J,H2,e,I2,T,st2,f2,W,⟨m0,w0⟩,turn⟩:=h2
 subst e
 have stat:∀{H':Hp},(∀b ∈ fp,H' b=none)->∀b ∈ fp,oP X pins H' b:=fun hn b hb=>⟨hn b hb,(f2 b hb).2⟩
 refine codeAny_forLoop_any (fun n s'=>∃i σ' H',Inv X pins σ' H' s'/\tn i s'.heap/\(∀b ∈ fp,H' b=none)/\W i n σ' H') ?_ m0 ⟨0,σ,H2,I2,st2,fun b hb=>(f2 b hb).1,w0⟩
 rintro n s3 ⟨i,σ3,H3,I3,st3,fr3,w3⟩
 rcases turn i n σ3 H3 w3 with ⟨stop,qn⟩ | ⟨go,N,hN,step⟩
 ·refine wpAny_passesOwn hp (thn (T.done X rfl rfl rfl hc i pins s3 σ3 H3 X.xe I3 (stat fr3) st3 stop) fun r s4 ⟨hr,I4⟩=>?_)
  subst hr
  exact wpAny_execs_nil ⟨σ3,H3,I4,qn⟩
 ·refine wpAny_passesOwn hp (thn (T.item X rfl rfl rfl hc i pins s3 σ3 H3 X.xe I3 (stat fr3) st3 go) fun r s4 ⟨u,hr,h4⟩=>?_)
  subst hr
  refine wpAny_passesOwn hp (thn h4 fun _ s5 ⟨x,H5,I5,r5,y5,st5,fr5⟩=>?_)
  have I5':=I5.pinned (stat fr5) (T.obj _ _ st5)
  refine wpAny_passesOwn hp (thn (hg _ s5 σ3 H5 x u _ I5' r5 (step x H5 y5)) fun _ s6 ⟨σ6,H6,I6,q6⟩=>?_)
  refine wpAny_passesOwn hp (thn (hb _ s6 σ6 H6 _ I6 q6) fun f s7 q7=>?_)
  have again:∀{σ7:St}{H7:Hp},Inv X (pins ++ nY fp s5.heap) σ7 H7 s7->N σ7 H7->∃m,m < n/\∃i σ' H',Inv X pins σ' H' s7/\tn i s7.heap/\(∀b ∈ fp,H' b=none)/\W i m σ' H':=fun {σ7 H7} I7 n7=>by
   obtain ⟨m',hm,w7⟩:=hN σ7 H7 n7
   refine ⟨m',hm,i + 1,σ7,H7,I7.jP,T.keep _ _ _ st5 fun b hb o e=>(I7.pin (b,o) (List.mem_append_right _ (List.mem_append_right _ (jb hb e)))).1,fun b hb=>?_,w7⟩
   obtain ⟨o,e,d⟩:=T.obj _ _ st5 b hb
   exact (I7.pin (b,o) (List.mem_append_right _ (List.mem_append_right _ (jb hb e)))).2.1
  cases f with
  | next=>obtain ⟨σ7,H7,I7,n7⟩:=q7;exact again I7 n7
  | cont=>obtain ⟨σ7,H7,I7,n7⟩:=q7;exact again I7 n7
  | brk=>obtain ⟨σ7,H7,I7,q7⟩:=q7;exact ⟨σ7,H7,I7.jP,q7⟩
  | ret v=>obtain ⟨x7,σ7,H7,I7,r7,q7⟩:=q7;exact ⟨x7,σ7,H7,I7.jP,r7,q7⟩
end
theorem fL {K:PySem.W.Frag}{a:Addr}{xs:List V}{g:TG}{tb:TS}{D:Ends}{σ:St}{H:Hp} (Pv:Nat->St->Hp->Prop) (h0:Pv 0 σ H) (hl:∀i σ H,i <= xs.length->Pv i σ H->SqL K H a xs)
  (hs:∀i x σ H,xs[i]?=some x->Pv i σ H->g x σ H fun σ2 H2=>tb { D with nx:=Pv (i + 1),ct:=Pv (i + 1),bk:=D.nx } σ2 H2) (hd:∀σ H,Pv xs.length σ H->D.nx σ H) :
  ∃W:Nat->Nat->St->Hp->Prop,(∃m,W 0 m σ H)/\∀i m σ H,W i m σ H ->
   ((Itl K a).stop i H/\D.nx σ H) \/ ((Itl K a).go i H/\∃N:St->Hp->Prop,(∀σ' H',N σ' H'->∃m',m' < m/\W (i + 1) m' σ' H')/\∀x H',(Itl K a).yld i H x H'->g x σ H' fun σ2 H2=>tb { D with nx:=N,ct:=N,bk:=D.nx } σ2 H2):=by
 refine ⟨fun i m σ H=>m=xs.length - i/\i <= xs.length/\Pv i σ H,⟨xs.length,by simp,Nat.zero_le _,h0⟩,?_⟩
 rintro i m σ H ⟨rfl,hi,p⟩
 have q:=hl i σ H hi p
 by_cases hlt:i < xs.length
 ·refine .inr ⟨⟨xs,xs[i],q,by simp [hlt]⟩,Pv (i + 1),fun σ' H' p'=>⟨xs.length - (i + 1),by omega,rfl,hlt,p'⟩,fun x H' y=>?_⟩
  obtain ⟨e,y⟩:=y
  subst e
  exact hs i x σ _ (y xs q) p
 ·have e:i=xs.length:=by omega
  subst e
  exact .inl ⟨⟨xs,q,Nat.le_refl _⟩,hd σ H p⟩
theorem d7 {lo:Int}{n:Nat}{g:TG}{tb:TS}{D:Ends}{σ:St}{H:Hp} (Pv:Nat->St->Hp->Prop) (h0:Pv 0 σ H)
  (hs:∀i σ H,i < n->Pv i σ H->g (.int (lo + i)) σ H fun σ2 H2=>tb { D with nx:=Pv (i + 1),ct:=Pv (i + 1),bk:=D.nx } σ2 H2) (hd:∀σ H,Pv n σ H->D.nx σ H) :
  ∃W:Nat->Nat->St->Hp->Prop,(∃m,W 0 m σ H)/\∀i m σ H,W i m σ H ->
   ((Itr lo n).stop i H/\D.nx σ H) \/ ((Itr lo n).go i H/\∃N:St->Hp->Prop,(∀σ' H',N σ' H'->∃m',m' < m/\W (i + 1) m' σ' H')/\∀x H',(Itr lo n).yld i H x H'->g x σ H' fun σ2 H2=>tb { D with nx:=N,ct:=N,bk:=D.nx } σ2 H2):=by
 refine ⟨fun i m σ H=>m=n - i/\i <= n/\Pv i σ H,⟨n,by simp,Nat.zero_le _,h0⟩,?_⟩
 rintro i m σ H ⟨rfl,hi,p⟩
 by_cases hlt:i < n
 ·refine .inr ⟨hlt,Pv (i + 1),fun σ' H' p'=>⟨n - (i + 1),by omega,rfl,hlt,p'⟩,fun x H' y=>?_⟩
  obtain ⟨e,y⟩:=y
  subst e y
  exact hs i σ _ hlt p
 ·have e:i=n:=by omega
  subst e
  exact .inl ⟨Nat.le_refl _,hd σ H p⟩
end L2
namespace L2
open PySem PySem.Spec PyProof.Rows
abbrev R2:=V->V->Hp->VK->Prop
def OpR (X:Cx) (f:Value->Value->Sem Value) (r:R2):Prop :=
 ∀(pins:List (Addr × Obj)) (s:Shared) (σ:St) (H:Hp) (x y:V) (v u:Value) (Q:VK),Inv X pins σ H s->RelV x v->RelV y u->r x y H Q ->
  wpAny (model X.prog X.w) X.A (f v u) (EP X pins σ Q) X.xe s
def UnR (X:Cx) (f:Value->Sem Value) (r:V->Hp->VK->Prop):Prop :=
 ∀(pins:List (Addr × Obj)) (s:Shared) (σ:St) (H:Hp) (x:V) (v:Value) (Q:VK),Inv X pins σ H s->RelV x v->r x H Q ->
  wpAny (model X.prog X.w) X.A (f v) (EP X pins σ Q) X.xe s
def eJ (X:Cx) (f:Value) (r:List V->Hp->VK->Prop):Prop :=
 ∀(pins:List (Addr × Obj)) (s:Shared) (σ:St) (H:Hp) (xs:List V) (us:List Value) (Q:VK),Inv X pins σ H s->Vals xs us->r xs H Q ->
  wpAny (model X.prog X.w) X.A (call f us) (EP X pins σ Q) X.xe s
def Ea (X:Cx) (r:V->Hp->(Bool->Hp->Prop)->Prop):Prop :=
 ∀(pins:List (Addr × Obj)) (s:Shared) (σ:St) (H:Hp) (x:V) (v:Value) (Q:Bool->Hp->Prop),Inv X pins σ H s->RelV x v->r x H Q ->
  wpAny (model X.prog X.w) X.A (truthy v) (TP X pins σ Q) X.xe s
def tOp (r:R2) (ta tb:TE):TE:=fun σ H Q=>ta σ H fun x H1=>tb σ H1 fun y H2=>r x y H2 Q
def tUn (r:V->Hp->VK->Prop) (ta:TE):TE:=fun σ H Q=>ta σ H fun x H1=>r x H1 Q
def rI (C:Int->Int->Prop) (g:Int->Int->V):R2:=fun x y H Q=>∃i j,x=.int i/\y=.int j/\C i j/\Q (g i j) H
def rI0 (g:Int->Int->V):R2:=fun x y H Q=>∃i j,x=.int i/\y=.int j/\Q (g i j) H
def rU (g:Int->V):V->Hp->VK->Prop:=fun x H Q=>∃i,x=.int i/\Q (g i) H
section
variable {X:Cx}{a b c:Expr}{ta tb tc:TE}{pos:Pos}
theorem BO (ha:PE X a ta) (hb:PE X b tb) {pins:List (Addr × Obj)}{s:Shared}{σ:St}{H:Hp}{R:V->V->Hp->Prop} (I:Inv X pins σ H s)
  (h:ta σ H fun x H1=>tb σ H1 fun y H2=>R x y H2) {Q:Value->Shared->Prop}{f:Value->Value->Sem Value}
  (hf:∀v u s2 x y H2,Inv X pins σ H2 s2->RelV x v->RelV y u->R x y H2->wpAny (model X.prog X.w) X.A (f v u) Q X.xe s2) :
  wpAny (model X.prog X.w) X.A (eval a X.env) (fun v s₁=>wpAny (model X.prog X.w) X.A (eval b X.env) (fun u s₂=>wpAny (model X.prog X.w) X.A (f v u) Q X.xe s₂) X.xe s₁) X.xe s:=by
 refine thn (ha pins s σ H _ I h) fun v s1 ⟨x,H1,I1,r1,q1⟩=>?_
 refine thn (hb pins s1 σ H1 _ I1 q1) fun u s2 ⟨y,H2,I2,r2,q2⟩=>?_
 exact hf v u s2 x y H2 I2 r1 r2 q2
theorem aw {op:Operator}{r:R2} (ho:OpR X (binaryOp op) r) (ha:PE X a ta) (hb:PE X b tb):PE X (.BinOp a op b pos) (tOp r ta tb):=by
 intro pins s σ H Q I h
 exact wpAny_BinOp (BO ha hb I h fun v u s2 x y H2 I2 rx ry q=>ho pins s2 σ H2 x y v u Q I2 rx ry q)
theorem Dq {op:UnaryOp}{r:V->Hp->VK->Prop} (ho:UnR X (unaryOp op) r) (ha:PE X a ta):PE X (.UnaryOp op a pos) (tUn r ta):=by
 intro pins s σ H Q I h
 exact UnaryOp_ (thn (ha pins s σ H _ I h) fun v s1 ⟨x,H1,I1,r1,q1⟩=>ho pins s1 σ H1 x v Q I1 r1 q1)
theorem opI {f:Value->Value->Sem Value}{C:Int->Int->Prop}{g:Int->Int->Int}
  (rule:∀(i j:Int) (t u:Tok) (s:Shared) (Q:Value->Shared->Prop) (E:Value->Shared->Prop),C i j->Q (.int (g i j) s.toks) { s with toks:=s.toks + 1 }->wpAny (model X.prog X.w) X.A (f (.int i t) (.int j u)) Q E s) :
  OpR X f (rI C fun i j=>.int (g i j)):=by
 intro pins s σ H x y v u Q I rx ry h
 obtain ⟨i,j,rfl,rfl,hc,q⟩:=h
 obtain ⟨t,rfl⟩:=rx
 obtain ⟨t',rfl⟩:=ry
 exact rule i j t t' s _ _ hc ⟨.int (g i j),H,I.tok _,⟨_,rfl⟩,q⟩
theorem De {f:Value->Value->Sem Value}{g:Int->Int->Int}
  (rule:∀(i j:Int) (t u:Tok) (s:Shared) (Q:Value->Shared->Prop) (E:Value->Shared->Prop),Q (.int (g i j) s.toks) { s with toks:=s.toks + 1 }->wpAny (model X.prog X.w) X.A (f (.int i t) (.int j u)) Q E s) :
  OpR X f (rI0 fun i j=>.int (g i j)):=by
 intro pins s σ H x y v u Q I rx ry h
 obtain ⟨i,j,rfl,rfl,q⟩:=h
 obtain ⟨t,rfl⟩:=rx
 obtain ⟨t',rfl⟩:=ry
 exact rule i j t t' s _ _ ⟨.int (g i j),H,I.tok _,⟨_,rfl⟩,q⟩
theorem Ai {f:Value->Value->Sem Value}{g:Int->Int->Bool}
  (rule:∀(i j:Int) (t u:Tok) (s:Shared) (Q:Value->Shared->Prop) (E:Value->Shared->Prop),Q (.bool (g i j)) s->wpAny (model X.prog X.w) X.A (f (.int i t) (.int j u)) Q E s) :
  OpR X f (rI0 fun i j=>.bl (g i j)):=by
 intro pins s σ H x y v u Q I rx ry h
 obtain ⟨i,j,rfl,rfl,q⟩:=h
 obtain ⟨t,rfl⟩:=rx
 obtain ⟨t',rfl⟩:=ry
 exact rule i j t t' s _ _ ⟨.bl (g i j),H,I,rfl,q⟩
def CV (i j:Int):Prop:=0 <= j/\j <= 1000000/\i.natAbs < 2 ^ 64
def v8 (i j:Int):Prop:=(-(2 ^ 64) < i/\i < 2 ^ 64) \/ (-(2 ^ 64) < j/\j < 2 ^ 64)
theorem v8.ok {i j:Int} (h:v8 i j):IntMulOk i j:=by
 rcases h with ⟨h1,h2⟩ | ⟨h1,h2⟩
 ·exact .of_left (intBits_le_64 h1 h2)
 ·exact .of_right (intBits_le_64 h1 h2)
theorem BA:OpR X (binaryOp .Add) (rI0 fun i j=>.int (i + j)):=De fun _ _ _ _ _ _ _ q=>add_int q
theorem BE:OpR X (binaryOp .Sub) (rI0 fun i j=>.int (i - j)):=De fun _ _ _ _ _ _ _ q=>sub_int q
theorem Bd:OpR X (binaryOp .Mult) (rI v8 fun i j=>.int (i * j)):=opI fun _ _ _ _ _ _ _ hc q=>mul_int q hc.ok
theorem A7:OpR X (binaryOp .Mod) (rI (fun _ j=>0 < j) fun i j=>.int (i % j)):=opI fun i j _ _ _ _ _ hc q=>by
 have h1:(0:Int) < j:=hc
 exact mod_int' (by omega) (by rw [Int.fmod_eq_emod_of_nonneg i (by omega)];exact q)
theorem Ba:OpR X (binaryOp .Pow) (rI CV fun i j=>.int (i ^ j.toNat)):=opI fun _ _ _ _ _ _ _ hc q=>pow_int_small hc.1 hc.2.1 hc.2.2 q
theorem unI {f:Value->Sem Value}{g:Int->Int}
  (rule:∀(i:Int) (t:Tok) (s:Shared) (Q:Value->Shared->Prop) (E:Value->Shared->Prop),Q (.int (g i) s.toks) { s with toks:=s.toks + 1 }->wpAny (model X.prog X.w) X.A (f (.int i t)) Q E s) :
  UnR X f (rU fun i=>.int (g i)):=by
 intro pins s σ H x v Q I rx h
 obtain ⟨i,rfl,q⟩:=h
 obtain ⟨t,rfl⟩:=rx
 exact rule i t s _ _ ⟨.int (g i),H,I.tok _,⟨_,rfl⟩,q⟩
theorem Bx:UnR X (unaryOp .USub) (rU fun i=>.int (-i)):=unI fun _ _ _ _ _ q=>neg_int q
end
def vI:V->V->Bool
 | .non,.non=>true | .non,.int _=>true | .int _,.non=>true | .non,.bl _=>true | .bl _,.non=>true | .non,.str _=>true | .str _,.non=>true
 | .int _,.int _=>true | .bl _,.bl _=>true | .str _,.str _=>true | .byt _,.byt _=>true
 | .int _,.str _=>true | .str _,.int _=>true | .bl _,.str _=>true | .str _,.bl _=>true
 | _,_=>false
def rEq:R2:=fun x y H Q=>vI x y=true/\Q (.bl (decide (x=y))) H
def rNe:R2:=fun x y H Q=>vI x y=true/\Q (.bl (!decide (x=y))) H
theorem vt {i j:Int}:decide (V.int i=V.int j)=(i == j):=by
 rw [Bool.eq_iff_iff]
 simp
theorem yK {i j:Bool}:decide (V.bl i=V.bl j)=(i == j):=by
 rw [Bool.eq_iff_iff]
 simp
theorem vf {i j:Str}:decide (V.str i=V.str j)=(i == j):=by
 rw [Bool.eq_iff_iff]
 simp
theorem vg {i j:Array UInt8}:decide (V.byt i=V.byt j)=(i.toList == j.toList):=by
 rw [Bool.eq_iff_iff]
 cases i
 cases j
 simp
section
variable {X:Cx}{a b c:Expr}{ta tb tc:TE}{pos:Pos}
theorem bR {pins:List (Addr × Obj)}{σ:St}{H:Hp}{s:Shared}{Q:VK}{k k':Bool} (I:Inv X pins σ H s) (q:Q (.bl k) H) (e:k=k'):EP X pins σ Q (.bool k') s:=by
 subst e
 exact ⟨.bl k,H,I,rfl,q⟩
theorem CQ:OpR X (compareOp .Eq) rEq:=by
 intro pins s σ H x y v u Q I rx ry h
 obtain ⟨hs,q⟩:=h
 cases x with
 | non =>
  cases rx
  cases y with
  | non=>cases ry;exact PySem.EqNone.eq_none_none (bR I q (by simp))
  | bl j=>cases ry;exact PySem.EqNone.eq_none_bool (bR I q (by simp))
  | int j=>obtain ⟨t',rfl⟩:=ry;exact PySem.EqNone.eq_none_int (bR I q (by simp))
  | str j=>obtain ⟨t',rfl⟩:=ry;exact PySem.EqNone.eq_none_str (bR I q (by simp))
  | _=>exact absurd (show false=true from hs) Bool.false_ne_true
 | bl i =>
  cases rx
  cases y with
  | non=>cases ry;exact PySem.EqNone.eq_bool_none (bR I q (by simp))
  | bl j=>cases ry;exact eq_bool (bR I q yK)
  | str j=>obtain ⟨t',rfl⟩:=ry;exact PySem.EqMixed.eq_bool_str (bR I q (by simp))
  | _=>exact absurd (show false=true from hs) Bool.false_ne_true
 | int i =>
  obtain ⟨t,rfl⟩:=rx
  cases y with
  | non=>cases ry;exact PySem.EqNone.eq_int_none (bR I q (by simp))
  | int j=>obtain ⟨t',rfl⟩:=ry;exact eq_int (bR I q vt)
  | str j=>obtain ⟨t',rfl⟩:=ry;exact PySem.EqMixed.eq_int_str (bR I q (by simp))
  | _=>exact absurd (show false=true from hs) Bool.false_ne_true
 | str i =>
  obtain ⟨t,rfl⟩:=rx
  cases y with
  | non=>cases ry;exact PySem.EqNone.eq_str_none (bR I q (by simp))
  | bl j=>cases ry;exact PySem.EqMixed.eq_str_bool (bR I q (by simp))
  | int j=>obtain ⟨t',rfl⟩:=ry;exact PySem.EqMixed.eq_str_int (bR I q (by simp))
  | str j=>obtain ⟨t',rfl⟩:=ry;exact eq_str (bR I q vf)
  | _=>exact absurd (show false=true from hs) Bool.false_ne_true
 | byt i =>
  obtain ⟨t,rfl⟩:=rx
  cases y with
  | byt j=>obtain ⟨t',rfl⟩:=ry;exact W.eq_bytes (bR I q vg)
  | _=>exact absurd (show false=true from hs) Bool.false_ne_true
 | _=>cases y <;> exact absurd (show false=true from hs) Bool.false_ne_true
theorem Dp:OpR X (compareOp .NotEq) rNe:=by
 intro pins s σ H x y v u Q I rx ry h
 obtain ⟨hs,q⟩:=h
 cases x with
 | non =>
  cases rx
  cases y with
  | non=>cases ry;exact PySem.EqNone.ne_none_none (bR I q (by simp))
  | bl j=>cases ry;exact PySem.EqNone.ne_none_bool (bR I q (by simp))
  | int j=>obtain ⟨t',rfl⟩:=ry;exact PySem.EqNone.ne_none_int (bR I q (by simp))
  | str j=>obtain ⟨t',rfl⟩:=ry;exact PySem.EqNone.ne_none_str (bR I q (by simp))
  | _=>exact absurd (show false=true from hs) Bool.false_ne_true
 | bl i =>
  cases rx
  cases y with
  | non=>cases ry;exact PySem.EqNone.ne_bool_none (bR I q (by simp))
  | bl j=>cases ry;exact ne_bool (bR I q (congrArg not yK))
  | str j=>obtain ⟨t',rfl⟩:=ry;exact PySem.EqMixed.ne_bool_str (bR I q (by simp))
  | _=>exact absurd (show false=true from hs) Bool.false_ne_true
 | int i =>
  obtain ⟨t,rfl⟩:=rx
  cases y with
  | non=>cases ry;exact PySem.EqNone.ne_int_none (bR I q (by simp))
  | int j=>obtain ⟨t',rfl⟩:=ry;exact ne_int (bR I q (congrArg not vt))
  | str j=>obtain ⟨t',rfl⟩:=ry;exact PySem.EqMixed.ne_int_str (bR I q (by simp))
  | _=>exact absurd (show false=true from hs) Bool.false_ne_true
 | str i =>
  obtain ⟨t,rfl⟩:=rx
  cases y with
  | non=>cases ry;exact PySem.EqNone.ne_str_none (bR I q (by simp))
  | bl j=>cases ry;exact PySem.EqMixed.ne_str_bool (bR I q (by simp))
  | int j=>obtain ⟨t',rfl⟩:=ry;exact PySem.EqMixed.ne_str_int (bR I q (by simp))
  | str j=>obtain ⟨t',rfl⟩:=ry;exact ne_str (bR I q (congrArg not vf))
  | _=>exact absurd (show false=true from hs) Bool.false_ne_true
 | byt i =>
  obtain ⟨t,rfl⟩:=rx
  cases y with
  | byt j=>obtain ⟨t',rfl⟩:=ry;exact W.ne_bytes (bR I q (congrArg not vg))
  | _=>exact absurd (show false=true from hs) Bool.false_ne_true
 | _=>cases y <;> exact absurd (show false=true from hs) Bool.false_ne_true
theorem CG:OpR X (compareOp .Lt) (rI0 fun i j=>.bl (decide (i < j))):=Ai fun _ _ _ _ _ _ _ q=>lt_int q
theorem Ct:OpR X (compareOp .LtE) (rI0 fun i j=>.bl (decide (i <= j))):=Ai fun _ _ _ _ _ _ _ q=>le_int q
theorem Cp:OpR X (compareOp .Gt) (rI0 fun i j=>.bl (decide (j < i))):=Ai fun _ _ _ _ _ _ _ q=>gt_int q
theorem Cn:OpR X (compareOp .GtE) (rI0 fun i j=>.bl (decide (j <= i))):=Ai fun _ _ _ _ _ _ _ q=>ge_int q
theorem wj:OpR X (compareOp .In) (fun x y H Q=>∃i j,x=.str i/\y=.str j/\Q (.bl (!(Builtin.Str.occurrences j i 0 j.length 1).isEmpty)) H):=by
 intro pins s σ H x y v u Q I rx ry h
 obtain ⟨i,j,rfl,rfl,q⟩:=h
 obtain ⟨t,rfl⟩:=rx
 obtain ⟨t',rfl⟩:=ry
 exact in_str (bR I q rfl)
theorem Be:OpR X (compareOp .Is) (fun x y H Q=>y=.non/\Q (.bl (decide (x=.non))) H):=by
 intro pins s σ H x y v u Q I rx ry h
 obtain ⟨rfl,q⟩:=h
 cases ry
 refine is_none_gen (bR I q ?_)
 cases x <;> first
  | (cases rx;rfl)
  | (obtain ⟨t,rfl⟩:=rx;rfl)
theorem OpR.or {f:Value->Value->Sem Value}{r r':R2} (h:OpR X f r) (h':OpR X f r'):OpR X f (fun x y H Q=>r x y H Q \/ r' x y H Q):=by
 intro pins s σ H x y v u Q I rx ry q
 rcases q with q | q
 ·exact h pins s σ H x y v u Q I rx ry q
 ·exact h' pins s σ H x y v u Q I rx ry q
theorem az (b:Expr) {op:CmpOp} (h:op ≠ .In:=by decide) (h2:op ≠ .NotIn:=by decide):behindInMarks op b=false:=by
 have e1:(op == CmpOp.In)=false:=by cases op <;> first | rfl | exact absurd rfl h
 have e2:(op == CmpOp.NotIn)=false:=by cases op <;> first | rfl | exact absurd rfl h2
 cases b <;> simp [behindInMarks,e1,e2]
theorem eA {op:CmpOp}{r:R2} (ho:OpR X (compareOp op) r) (ha:PE X a ta) (hb:PE X b tb) (hm:behindInMarks op b=false):PE X (.Compare a [op] [b] pos) (tOp r ta tb):=by
 intro pins s σ H Q I h
 exact wpAny_Compare1 (BO ha hb I h fun v u s2 x y H2 I2 rx ry q=>ho pins s2 σ H2 x y v u Q I2 rx ry q) hm
def Dh (t:TE):TT:=fun σ H Q=>t σ H fun x H'=>∃k,x=.bl k/\Q k H'
theorem ay {op:CmpOp}{r:R2} (ho:OpR X (compareOp op) r) (ha:PE X a ta) (hb:PE X b tb) (hm:behindInMarks op b=false):PT X (.Compare a [op] [b] pos) (Dh (tOp r ta tb)):=by
 intro pins s σ H Q I h
 refine wpAny_isTrue_Compare1 (thn (ha pins s σ H _ I h) fun v s1 ⟨x,H1,I1,r1,q1⟩=>thn (hb pins s1 σ H1 _ I1 q1) fun u s2 ⟨y,H2,I2,r2,q2⟩ =>
  thn (ho pins s2 σ H2 x y v u _ I2 r1 r2 q2) fun c s3 ⟨z,H3,I3,r3,k,e,q3⟩=>?_) hm
 subst e
 cases r3
 exact wpAny_truthy_bool ⟨H3,I3,q3⟩
def Bn (r r':R2) (ta tb tc:TE):TE:=fun σ H Q=>ta σ H fun x H1=>tb σ H1 fun y H2=>r x y H2 fun z H3=>∃k,z=.bl k /\
 (if k=true then tc σ H3 fun w' H4=>r' y w' H4 Q else Q (.bl false) H3)
theorem x8 {op op':CmpOp}{r r':R2} (ho:OpR X (compareOp op) r) (ho':OpR X (compareOp op') r') (ha:PE X a ta) (hb:PE X b tb) (hc:PE X c tc)
  (hm:lastMarks [op,op'] [b,c]=false:=by with_unfolding_all rfl):PE X (.Compare a [op,op'] [b,c] pos) (Bn r r' ta tb tc):=by
 intro pins s σ H Q I h
 refine Compare_chain (thn (ha pins s σ H _ I h) fun v s1 ⟨x,H1,I1,r1,q1⟩=>chain_link (thn (hb pins s1 σ H1 _ I1 q1) fun u s2 ⟨y,H2,I2,r2,q2⟩ =>
  thn (ho pins s2 σ H2 x y v u _ I2 r1 r2 q2) fun d s3 ⟨z,H3,I3,r3,k,e,q3⟩=>?_)) hm
 subst e
 cases r3
 refine wpAny_truthy_bool ?_
 cases k with
 | false=>exact ite_ff ⟨.bl false,H3,I3,rfl,q3⟩
 | true=>exact ite_tt (chain_last (thn (hc pins s3 σ H3 _ I3 q3) fun w' s4 ⟨z',H4,I4,r4,q4⟩=>ho' pins s4 σ H4 y z' u w' Q I4 r2 r4 q4))
def zA (K:W.Frag) (x:V) (H:Hp) (k:Bool):Prop :=
 match x with
 | .non=>k=false
 | .bl b=>k=b
 | .int i=>k=(i != 0)
 | .str y=>y.length <= sizeLine/\k=((y.length:Int) != 0)
 | .byt y=>y.size <= sizeLine/\k=((y.size:Int) != 0)
 | .ref p=>(∃xs,SqL K H p xs/\k=!xs.isEmpty) \/ (∃xs,SqT K H p xs/\k=!xs.isEmpty) \/ ∃kvs,H p=some (.dK kvs)/\k=!kvs.isEmpty
 | _=>False
theorem uA {κ:Type}{kvs:List (κ × V)}{vs:List (κ × Value)} (r:KV kvs vs):(!vs.isEmpty)=!kvs.isEmpty:=by
 cases r <;> rfl
theorem oS {xs:List V}{its:List Value} (r:Vals xs its):(!its.toArray.isEmpty)=!xs.isEmpty:=by
 cases r <;> simp
theorem mP:(sizeLine:Nat) < 2 ^ 63:=by rw [sizeLine_eq];decide
theorem x9:Ea X (fun x H Q=>∃k,zA X.K x H k/\Q k H):=by
 intro pins s σ H x v Q I rx h
 obtain ⟨k,e,q⟩:=h
 have hl:=mP
 have hs:sizeLine=16777216:=sizeLine_eq
 cases x with
 | non =>
  cases rx
  have e':k=false:=e
  subst e'
  exact truthy_none ⟨H,I,q⟩
 | bl b =>
  cases rx
  have e':k=b:=e
  subst e'
  exact wpAny_truthy_bool ⟨H,I,q⟩
 | int i =>
  obtain ⟨t,rfl⟩:=rx
  have e':k=(i != 0):=e
  subst e'
  exact PySem.P.truthy_int ⟨H,I,q⟩
 | str y =>
  obtain ⟨t,rfl⟩:=rx
  obtain ⟨hy,e'⟩:y.length <= sizeLine/\k=((y.length:Int) != 0):=e
  subst e'
  exact PySem.P.truthy_str (by omega) ⟨H,I.tok _,q⟩
 | byt y =>
  obtain ⟨t,rfl⟩:=rx
  obtain ⟨hy,e'⟩:y.size <= sizeLine/\k=((y.size:Int) != 0):=e
  subst e'
  exact W.truthy_bytes (by omega) ⟨H,I.tok _,q⟩
 | ref p =>
  cases rx
  have e':(∃xs,SqL X.K H p xs/\k=!xs.isEmpty) \/ (∃xs,SqT X.K H p xs/\k=!xs.isEmpty) \/ ∃kvs,H p=some (.dK kvs)/\k=!kvs.isEmpty:=e
  rcases e' with ⟨xs,hx,e'⟩ | ⟨xs,hx,e'⟩ | ⟨kvs,hx,e'⟩
  ·subst e'
   obtain ⟨its,r,pl,hz⟩:=I.list hx
   have hlen:=r.length
   exact wpAny_truthy_list pl.isList (by simp only [List.size_toArray];omega) ⟨H,I.tok _,by rw [oS r];exact q⟩
  ·subst e'
   obtain ⟨its,r,pl,hz⟩:=I.tuple hx
   have hlen:=r.length
   exact truthy_tuple pl (by simp only [List.size_toArray];omega) ⟨H,I.tok _,by rw [oS r];exact q⟩
  ·subst e'
   obtain ⟨hz,hS,vs,r,m⟩:kvs.length <= sizeLine/\(p == sysModules)=false/\∃vs,KV kvs vs/\s.heap.DictOf (ck X.prog X.w) p vs:=I.hok p _ hx
   have hlen:kvs.length=vs.length:=Paired.length r
   exact wpAny_truthy_dict hS m (by omega) ⟨H,I.tok _,by rw [uA r];exact q⟩
 | _=>exact (show False from e).elim
theorem xg (ha:PE X a ta) (he:∀whole,isTrue a X.env whole=(do let v <- whole;standAt a.pos;holding [v] (truthy v))) :
  PT X a (fun σ H Q=>ta σ H fun x H'=>∃k,zA X.K x H' k/\Q k H'):=by
 intro pins s σ H Q I h
 exact isTrue_plain (thn (ha pins s σ H _ I h) fun v s1 ⟨x,H1,I1,r1,q1⟩=>x9 pins s1 σ H1 x v Q I1 r1 q1) (he _)
theorem uB:OpR X (binaryOp .Add) (fun x y H Q=>∃i j,x=.str i/\y=.str j/\i.length + j.length <= sizeLine/\Q (.str (i ++ j)) H):=by
 intro pins s σ H x y v u Q I rx ry h
 obtain ⟨i,j,rfl,rfl,hz,q⟩:=h
 obtain ⟨t,rfl⟩:=rx
 obtain ⟨t',rfl⟩:=ry
 exact add_str (fun t' tk=>⟨.str (i ++ j),H,I.tok _,⟨_,rfl⟩,q⟩) hz
theorem vals1 {x:V}{us:List Value} (r:Vals [x] us):∃u,us=[u]/\RelV x u:=by
 cases r with
 | cons r1 r2=>cases r2;exact ⟨_,rfl,r1⟩
theorem vals2 {x y:V}{us:List Value} (r:Vals [x,y] us):∃u w',us=[u,w']/\RelV x u/\RelV y w':=by
 cases r with
 | cons r1 r2 =>
  cases r2 with
  | cons r3 r4=>cases r4;exact ⟨_,_,rfl,r1,r3⟩
theorem vU (hc:X.calm=true):eJ X (.builtin "min") (fun xs H Q=>∃i j,xs=[.int i,.int j]/\Q (.int (if j < i then j else i)) H):=by
 intro pins s σ H xs us Q I r h
 obtain ⟨i,j,rfl,q⟩:=h
 obtain ⟨u,w',rfl,⟨t,rfl⟩,⟨t',rfl⟩⟩:=vals2 r
 refine min_two_ints (I.ok.hd hc) fun h' tk k=>⟨_,H,I.kept k,?_,q⟩
 by_cases hj:j < i
 ·rw [if_pos hj,if_pos hj];exact ⟨_,rfl⟩
 ·rw [if_neg hj,if_neg hj];exact ⟨_,rfl⟩
def Bc (K:W.Frag) (x:V) (H:Hp) (n:Nat):Prop :=
 match x with
 | .str y=>y.length <= sizeLine/\n=y.length
 | .byt y=>y.size <= sizeLine/\n=y.size
 | .ref p=>(∃xs,SqL K H p xs/\n=xs.length) \/ ∃xs,SqT K H p xs/\n=xs.length
 | _=>False
theorem yS:eJ X (.builtin "len") (fun xs H Q=>∃x n,xs=[x]/\Bc X.K x H n/\Q (.int n) H):=by
 intro pins s σ H xs us Q I r h
 obtain ⟨x,n,rfl,e,q⟩:=h
 obtain ⟨u,rfl,rx⟩:=vals1 r
 have hl:=mP
 have hs:sizeLine=16777216:=sizeLine_eq
 cases x with
 | str y =>
  obtain ⟨t,rfl⟩:=rx
  obtain ⟨hy,e'⟩:y.length <= sizeLine/\n=y.length:=e
  subst e'
  exact len_str (by omega) ⟨.int _,H,I.tok _,⟨_,rfl⟩,q⟩
 | byt y =>
  obtain ⟨t,rfl⟩:=rx
  obtain ⟨hy,e'⟩:y.size <= sizeLine/\n=y.size:=e
  subst e'
  exact W.len_bytes (by omega) ⟨.int _,H,I.tok _,⟨_,rfl⟩,q⟩
 | ref p =>
  cases rx
  have e':(∃xs,SqL X.K H p xs/\n=xs.length) \/ ∃xs,SqT X.K H p xs/\n=xs.length:=e
  rcases e' with ⟨xs,hx,e'⟩ | ⟨xs,hx,e'⟩
  ·subst e'
   obtain ⟨its,r',pl,hz⟩:=I.list hx
   have hlen:=r'.length
   exact Calls.call_len_list pl.isList (by simp only [List.size_toArray];omega) ⟨.int xs.length,H,I.tok _,⟨_,by simp only [List.size_toArray];rw [hlen]⟩,q⟩
  ·subst e'
   obtain ⟨its,r',pl,hz⟩:=I.tuple hx
   have hlen:=r'.length
   exact len_tuple pl (by simp only [List.size_toArray];omega) ⟨.int xs.length,H,I.tok _,⟨_,by simp only [List.size_toArray];rw [hlen]⟩,q⟩
 | _=>exact (show False from e).elim
end
end L2
namespace L2
open PySem PySem.Spec PyProof.Rows
structure uu (h:Heap) (x dx C:Addr) (mA:Str->Option Value):Prop where
 obj:h.get? x=some (W.instObj C dx)
 ns:h.Ns1 dx mA
 ne:dx ≠ x
theorem wo {h:Heap}{dx:Addr}{mA:Str->Option Value} (n:h.Ns1 dx mA):∃od,h.get? dx=some od/\∀name,W.lookIn name od=some (mA name):=by
 obtain ⟨o,es,ep,ho,hd,hk,_,hm⟩:=n
 refine ⟨o,ho,fun name=>?_⟩
 have e:=hm name
 unfold nsFind findBy at e
 rw [<- Array.find?_toList] at e
 unfold W.lookIn
 rw [hd]
 dsimp only
 split
 ·rename_i y q
  rw [q] at e
  exact congrArg some e
 ·rename_i q
  rw [q] at e
  have a:es.toList.any (·.refKey)=false:=by
   rw [List.any_eq_false]
   intro y hy
   obtain ⟨z,t,hkey⟩:=hk y (Array.mem_toList_iff.mp hy)
   simp [DictEntry.refKey,hkey]
  have a':¬ es.toList.any (·.refKey)=true:=by rw [a];exact Bool.false_ne_true
  rw [if_neg a']
  exact congrArg some e
theorem uu.look {h:Heap}{x dx C:Addr}{mA:Str->Option Value} (I:uu h x dx C mA):∃od,W.InstAt h x (W.instObj C dx) C (some od)/\∀name,W.lookIn name od=some (mA name) :=
 let ⟨od,ho,hl⟩:=wo I.ns
 ⟨od,⟨I.obj,rfl,rfl,ho⟩,hl⟩
section
variable {prog:Program}{w:World}{A:Around}{E:Value->Shared->Prop}{s:Shared}{K:W.Frag}{x dx C f:Addr}{mA:Str->Option Value}{name:Str}{v:Value}
theorem get_map {expr:Bool}{Q:Value->Shared->Prop} (X:K.In s.heap) (I:uu s.heap x dx C mA) (hg:W.plainGet K C name=true) (hh:W.hasDictIn K C=true)
  (ha:W.findIn K (.ref C) name=some none) (hv:mA name=some v) (hv':W.handedIn v=true) (h:Q v { s with toks:=s.toks + 1 }) :
  wpAny (model prog w) A (getAttr (.ref x) name expr) Q E s:=by
 obtain ⟨od,J,hl⟩:=I.look
 exact W.get_value X J (W.plainGet_of hg).1 (W.findObj_own hh ha rfl (by rw [hl,hv])) hv' h
theorem yW {pl:Sem Bool}{Q:Value × List Value->Shared->Prop} (X:K.In s.heap) (I:uu s.heap x dx C mA) (hg:W.plainGet K C name=true)
  (hf:W.findIn K (.ref C) name=some (some (.ref f))) (ht:W.isFn K (.ref f)=true) (hv:mA name=none) (h:Q (.ref f,[.ref x]) s) :
  wpAny (model prog w) A (getMethod (.ref x) name pl) Q E s:=by
 obtain ⟨od,J,hl⟩:=I.look
 exact W.method_fn X J (W.plainGet_of hg).1 (W.plainGet_of hg).2 hf (beq_iff_eq.mp ht) (by show (W.lookIn name od).map (·.isSome)=some false;rw [hl,hv];rfl) h
theorem zf {ns:List Str}{Q:Unit->Shared->Prop} (X:K.In s.heap) (I:uu s.heap x dx C mA)
  (hs:W.findIn K (.ref C) "__setattr__"=some (some (.builtin "object.__setattr__"))) (hp:W.plainOver K C=true) (ht:W.takerIn K C name=some none) (hh:W.hasDictIn K C=true)
  (hw:PySem.Within mA ns) (hsz:ns.length <= sizeLine)
  (h:∀h',uu h' x dx C (fun y=>if y=name then some v else mA y)->Heap.SameBut dx s.heap h'->Q () { s with heap:=h',toks:=s.toks + 2 }) :
  wpAny (model prog w) A (setAttr (.ref x) name v) Q E s:=by
 obtain ⟨od,J,hl⟩:=I.look
 refine W.set_plain X J hs (W.osa_open (s:={ s with toks:=s.toks + 1 }) (r:=none) X J hp ht fun b=>?_)
 obtain ⟨cd,hc,hd'⟩:=W.any_some hh
 have hx:s.heap.get? x=some ⟨.ref C,some dx,.plain,#[]⟩:=I.obj
 refine wpAny_bind (wpAny_pure (wpAny_bind (wpAny_bind (wpAny_loadPart hx (wpAny_bind (W.Looks.here (s:={ s with toks:=s.toks + 1 }) (W.looks_clsIn X hc) ?_))))))
 rw [hd']
 refine wpAny_pure (a:=some dx) (wpAny_bind (wpAny_pure (wpAny_bind ?_)))
 refine wpAny_nsSet1 (s:={ s with toks:=s.toks + 1 }) I.ns fun h' hn2 hs2=>?_
 obtain ⟨oD,esD,epD,hoD,hdD,hcD⟩:=hn2.count (PySem.Within.cons name v hw)
 refine wpAny_bind (wpAny_lookBehind hoD (by rw [hdD];exact pastItsLine_dict (Nat.le_trans hcD (by rw [List.length_cons];omega))) ?_)
 exact wpAny_pure (h _ ⟨(hs2.2 _ (Ne.symm I.ne)).trans I.obj,hn2,I.ne⟩ hs2)
theorem yX {R:Result->Shared->Prop}{vs:List Value}{kw:List (Str × Value)} (X:K.In s.heap) (hm:W.makesIn K C=true)
  (hi:W.findIn K (.ref C) "__init__"=some (some (.ref f))) (hf:W.typeIn K (.ref f)=some (.type "function"))
  (h:codeAny (model prog w) (A.under (.builtin "type.__call__" ⟨.ref C :: vs,kw⟩)) (.call (.ref f) ⟨.ref (s.heap.objs.size + 1) :: vs,kw⟩) (W.InitBack (s.heap.objs.size + 1) R)
   { s with heap:=(s.heap.push W.emptyDict).push (W.instObj C s.heap.objs.size) }) :
  codeAny (model prog w) A (.call (.ref C) ⟨vs,kw⟩) R s:=by
 obtain ⟨hh,g,d,t,os⟩:=s
 exact W.make_core (W.makes_of X hm) (W.looks_findIn X hi) (fun self=>W.bind_fn X self hf) (.inl rfl) h
end
def cz (f:Str) (v:V):List (Str × V)->List (Str × V)
 | []=>[(f,v)]
 | (g,x) :: r=>if g=f then (g,v) :: r else (g,x) :: cz f v r
theorem mY (f g:Str) (v:V):∀fs:List (Str × V),(cz f v fs).lookup g=if g=f then some v else fs.lookup g
 | []=>by
  show List.lookup g [(f,v)]=_
  by_cases h:g=f
  ·have hb:(g == f)=true:=beq_iff_eq.mpr h
   simp only [List.lookup,hb,if_pos h]
  ·have hb:(g == f)=false:=beq_eq_false_iff_ne.mpr h
   simp only [List.lookup,hb,if_neg h]
 | (k,x) :: r=>by
  have ih:=mY f g v r
  rw [show cz f v ((k,x) :: r)=(if k=f then (k,v) :: r else (k,x) :: cz f v r) from rfl]
  by_cases hk:k=f
  ·rw [if_pos hk]
   by_cases h:g=k
   ·have hb:(g == k)=true:=beq_iff_eq.mpr h
    simp only [List.lookup,hb,if_pos (h.trans hk)]
   ·have hb:(g == k)=false:=beq_eq_false_iff_ne.mpr h
    simp only [List.lookup,hb,if_neg (fun e:g=f=>h (e.trans hk.symm))]
  ·rw [if_neg hk]
   by_cases h:g=k
   ·have hb:(g == k)=true:=beq_iff_eq.mpr h
    simp only [List.lookup,hb,if_neg (fun e:g=f=>hk (h.symm.trans e))]
   ·have hb:(g == k)=false:=beq_eq_false_iff_ne.mpr h
    simp only [List.lookup,hb]
    exact ih
theorem mD (f:Str) (v:V):∀fs:List (Str × V),f ∈ (cz f v fs).map (·.1)/\∀g,g ∈ fs.map (·.1)->g ∈ (cz f v fs).map (·.1)
 | []=>⟨by simp [cz],fun g h=>by simp at h⟩
 | (k,x) :: r=>by
  obtain ⟨i1,i2⟩:=mD f v r
  rw [show cz f v ((k,x) :: r)=(if k=f then (k,v) :: r else (k,x) :: cz f v r) from rfl]
  by_cases hk:k=f
  ·rw [if_pos hk]
   subst hk
   exact ⟨by simp,fun g h=>by simpa using h⟩
  ·rw [if_neg hk]
   refine ⟨?_,fun g h=>?_⟩
   ·rw [List.map_cons]
    exact List.mem_cons_of_mem _ i1
   ·rw [List.map_cons] at h ⊢
    rcases List.mem_cons.mp h with e | e
    ·exact List.mem_cons.mpr (.inl e)
    ·exact List.mem_cons_of_mem _ (i2 g e)
theorem mQ (f:Str) (v:V):∀fs:List (Str × V),(cz f v fs).length <= fs.length + 1
 | []=>by simp [cz]
 | (k,x) :: r=>by
  have ih:=mQ f v r
  rw [show cz f v ((k,x) :: r)=(if k=f then (k,v) :: r else (k,x) :: cz f v r) from rfl]
  by_cases hk:k=f
  ·rw [if_pos hk,List.length_cons,List.length_cons];omega
  ·rw [if_neg hk,List.length_cons,List.length_cons];omega
theorem jH.some_of {v:V}{o:Option Value} (r:jH (some v) o):∃u,o=some u/\RelV v u:=by
 cases o with
 | none=>exact (show False from r).elim
 | some u=>exact ⟨u,rfl,r⟩
theorem jH.none_of {o:Option Value} (r:jH none o):o=none:=by
 cases o with
 | none=>rfl
 | some u=>exact (show False from r).elim
theorem wF {v:V}{u:Value} (r:RelV v u):W.handedIn u=true:=by
 cases v with
 | non=>cases (show u=Value.none from r);rfl
 | bl b=>cases (show u=Value.bool b from r);rfl
 | int i=>obtain ⟨t,e⟩:=(show ∃t,u=Value.int i t from r);cases e;rfl
 | str x=>obtain ⟨t,e⟩:=(show ∃t,u=Value.str x t from r);cases e;rfl
 | byt b=>obtain ⟨t,e⟩:=(show ∃t,u=Value.bytes b t from r);cases e;rfl
 | flt b=>obtain ⟨t,e⟩:=(show ∃t,u=Value.float b t from r);cases e;rfl
 | ref a=>cases (show u=Value.ref a from r);rfl
 | ty n=>cases (show u=Value.type n from r);rfl
section
variable {P:Program}{w:World}{H H':Hp}{h h':Heap}{a C dx:Addr}{fs fs':List (Str × V)}
theorem nJ (hok:HOk P w H h) (e:H a=some (.ins C dx fs)):∃mA,uu h a dx C mA/\(∀f,jH (fs.lookup f) (mA f))/\PySem.Within mA (fs.map (·.1))/\fs.length <= 1000/\H dx=some (.own a):=by
 obtain ⟨d,z,ne,ob,mA,n,r,q⟩:=(show cW P w H h a (.ins C dx fs) from hok a _ e)
 exact ⟨mA,⟨ob,n,ne⟩,r,q,z,d⟩
end
structure Cls (K:W.Frag) (C:Addr):Prop where
 pg:W.plainGet K C Str.empty=true
 hd:W.hasDictIn K C=true
 po:W.plainOver K C=true
 sa:W.findIn K (.ref C) "__setattr__"=some (some (.builtin "object.__setattr__"))
theorem Cls.get {K:W.Frag}{C:Addr} (c:Cls K C) (f:Str):W.plainGet K C f=true:=c.pg
def aK (K:W.Frag) (C:Addr) (f:Str):Prop:=W.findIn K (.ref C) f=some none
theorem aK.C2 {K:W.Frag}{C:Addr}{f:Str} (n:aK K C f):W.takerIn K C f=some none:=by
 unfold W.takerIn
 rw [show W.findIn K (.ref C) f=some none from n]
 rfl
structure Con (K:W.Frag) (C:Addr) (f:Str) (v:V) (u:Value):Prop where
 at_:W.findIn K (.ref C) f=some (some u)
 rel:RelV v u
 get:W.specialIn K u "__get__"=some none
 cp:W.copiedNames.contains f=false
structure Meth (K:W.Frag) (C:Addr) (m:Str) (f:Addr):Prop where
 at_:W.findIn K (.ref C) m=some (some (.ref f))
 fn:W.isFn K (.ref f)=true
 kp:W.keepIn K (.ref f)=true
section
variable {X:Cx}{pins:List (Addr × Obj)}{σ:St}{H:Hp}{s:Shared}{a C dx:Addr}{fs:List (Str × V)}{f:Str}{v:V}{A:Around}{E:Value->Shared->Prop}
theorem oA {b:Bool}{Q:Value->Shared->Prop} (I:Inv X pins σ H s) (e:H a=some (.ins C dx fs)) (c:Cls X.K C) (n:aK X.K C f) (l:fs.lookup f=some v)
  (h:∀u s',Inv X pins σ H s'->RelV v u->Q u s'):wpAny (model X.prog X.w) A (getAttr (.ref a) f b) Q E s:=by
 obtain ⟨mA,O,r,_,_,_⟩:=nJ I.hok e
 obtain ⟨u,hu,ru⟩:=jH.some_of (v:=v) (o:=mA f) (by rw [<- l];exact r f)
 exact get_map I.kIn O (c.get f) c.hd n hu (wF ru) (h u _ (I.tok _) ru)
theorem uh {m:Str}{g:Addr}{pl:Sem Bool}{Q:Value × List Value->Shared->Prop} (I:Inv X pins σ H s) (e:H a=some (.ins C dx fs)) (c:Cls X.K C) (k:Meth X.K C m g) (l:fs.lookup m=none)
  (h:Q (.ref g,[.ref a]) s):wpAny (model X.prog X.w) A (getMethod (.ref a) m pl) Q E s:=by
 obtain ⟨mA,O,r,_,_,_⟩:=nJ I.hok e
 have hn:mA m=none:=jH.none_of (by rw [<- l];exact r m)
 exact yW I.kIn O (c.get m) k.at_ k.fn hn h
theorem o3 {y:V}{u:Value}{Q:Unit->Shared->Prop} (I:Inv X pins σ H s) (e:H a=some (.ins C dx fs)) (c:Cls X.K C) (n:aK X.K C f) (hl:fs.length < 1000) (ry:RelV y u)
  (h:∀s',Inv X pins σ (upd H a (.ins C dx (cz f y fs))) s'->Q () s'):wpAny (model X.prog X.w) A (setAttr (.ref a) f u) Q E s:=by
 obtain ⟨mA,O,r,wi,_,ho⟩:=nJ I.hok e
 have hz:(fs.map (·.1)).length <= sizeLine:=by rw [List.length_map,sizeLine_eq];omega
 refine zf I.kIn O c.sa c.po n.C2 c.hd wi hz fun h' O' sb=>h _ ?_
 have hd:∃o,h'.get? dx=some o:=let ⟨o,_,_,e',_⟩:=O'.ns;⟨o,e'⟩
 refine I.write (x:=a) (e:=dx) (by rw [e];exact True.intro) (.inr ho) (fun b q hb z=>(sb.2 b hb).trans z) hd ?_
 refine ⟨by rw [aI O.ne];exact ho,?_,O.ne,O'.obj,_,O'.ns,fun g=>?_,fun g hg=>?_⟩
 ·have:=mQ f y fs;omega
 ·show jH ((cz f y fs).lookup g) (if g=f then some u else mA g)
  rw [mY]
  by_cases q:g=f
  ·rw [if_pos q,if_pos q];exact ry
  ·rw [if_neg q,if_neg q];exact r g
 ·by_cases q:g=f
  ·rw [q];exact (mD f y fs).1
  ·refine (mD f y fs).2 g (wi g fun z=>hg ?_)
   show (if g=f then some u else mA g)=none
   rw [if_neg q];exact z
theorem Inv.made (I:Inv X pins σ H s):Inv X pins σ (upd (upd H s.heap.objs.size (.own (s.heap.objs.size + 1))) (s.heap.objs.size + 1) (.ins C s.heap.objs.size []))
  { s with heap:=(s.heap.push W.emptyDict).push (W.instObj C s.heap.objs.size) }:=by
 have e1:(s.heap.push W.emptyDict).get? s.heap.objs.size=some W.emptyDict:=Heap.get?_push_size s.heap rfl
 have e2:((s.heap.push W.emptyDict).push (W.instObj C s.heap.objs.size)).get? (s.heap.objs.size + 1)=some (W.instObj C s.heap.objs.size):=by
  have:=Heap.get?_push_size (s.heap.push W.emptyDict) (o:=W.instObj C s.heap.objs.size) rfl
  rwa [Heap.size_push] at this
 have e3:(s.heap.push W.emptyDict).Ns s.heap.objs.size (fun _=>none):=⟨W.emptyDict,#[],_,e1,rfl,(fun e he=>absurd he (by simp)),fun _=>rfl⟩
 have I1:=I.laid (a:=s.heap.objs.size) (o:=.own (s.heap.objs.size + 1)) (h':=s.heap.push W.emptyDict) (t':=s.toks) (fun b u q=>Heap.get?_push_of_some _ q) (Nat.le_refl _) ⟨_,e1⟩
 refine I1.laid (a:=s.heap.objs.size + 1) (o:=.ins C s.heap.objs.size []) (t':=s.toks) (fun b u q=>Heap.get?_push_of_some _ q) (Nat.le_of_eq (Heap.size_push _ _)) ?_
 have ne:s.heap.objs.size ≠ s.heap.objs.size + 1:=Nat.ne_of_lt (Nat.lt_succ_self _)
 refine ⟨by rw [aI ne,aq],Nat.zero_le _,ne,e2,fun _=>none,(Heap.Ns1.of_empty e3).at fun o q=>Heap.get?_push_of_some _ q,fun _=>True.intro,fun y hy=>absurd rfl hy⟩
theorem An {prog:Program}{w:World}{env:Env}{e:Expr}{f:Str}{pos:Pos}{s:Shared}{Q:Value->Shared->Prop} (hb:attributeBase e f env (eval e env)=eval e env)
  (h:wpAny (model prog w) A (eval e env) (fun o s₁=>wpAny (model prog w) A (getAttr o f true) Q E s₁) E s):wpAny (model prog w) A (eval (.Attribute e f pos) env) Q E s :=
 Attribute_any_ h (by rw [arm_eval_Attribute,hb])
end
def Ei (K:W.Frag) (ta:TE) (f:Str):TE:=fun σ H Q=>ta σ H fun x H1=>∃a C dx fs v,x=.ref a/\H1 a=some (.ins C dx fs)/\Cls K C/\aK K C f/\fs.lookup f=some v/\Q v H1
def DK (K:W.Frag) (ta tv:TE) (f:Str):TS:=fun D σ H=>tv σ H fun y H1=>ta σ H1 fun x H2=>∃a C dx fs,x=.ref a/\H2 a=some (.ins C dx fs)/\Cls K C/\aK K C f/\fs.length < 1000 /\
 D.nx σ (upd H2 a (.ins C dx (cz f y fs)))
def C7 (X:Cx) (op:Operator) (rd:V->V->Hp->VK->Prop):Prop :=
 ∀(pins:List (Addr × Obj)) (s:Shared) (σ:St) (H:Hp) (x y:V) (u v:Value) (Q:VK),Inv X pins σ H s->RelV x u->RelV y v->rd x y H Q->wpAny (model X.prog X.w) X.A (inplaceOp op u v) (EP X pins σ Q) X.xe s
def zF (K:W.Frag) (ta tv:TE) (rd:V->V->Hp->VK->Prop) (f:Str):TS:=fun D σ H=>ta σ H fun x H1=>∃a C dx fs v,x=.ref a/\H1 a=some (.ins C dx fs)/\Cls K C/\aK K C f/\fs.lookup f=some v /\
 tv σ H1 fun y H2=>rd v y H2 fun z H3=>∃dx' fs',H3 a=some (.ins C dx' fs')/\fs'.length < 1000/\D.nx σ (upd H3 a (.ins C dx' (cz f z fs')))
section
variable {X:Cx}{o e value:Expr}{f:Str}{pos pos' tpos:Pos}{ta tv:TE}
theorem aJ (he:PE X e ta) (hb:attributeBase e f X.env (eval e X.env)=eval e X.env):PE X (.Attribute e f pos) (Ei X.K ta f):=by
 intro pins s σ H Q I h
 refine An hb (thn (he pins s σ H _ I h) fun u s1 ⟨x,H1,I1,rx,a,C,dx,fs,v,ex,ea,c,n,l,q⟩=>?_)
 subst ex
 obtain rfl:u=Value.ref a:=rx
 exact oA I1 ea c n l fun u' s2 I2 ru=>⟨v,H1,I2,ru,q⟩
theorem bf (ha:PE X o ta) (hv:PE X value tv) (hs:swapsWith value (some (.Attribute o f pos')) pos.line X.env=pure false):PS X (.Assign [.Attribute o f pos'] value pos) (DK X.K ta tv f):=by
 intro pins s σ H D I h
 refine plainObj_wpAny_Assign_Attribute (thn (hv pins s σ H _ I h) fun u s1 ⟨y,H1,I1,ry,q⟩=>thn (ha pins s1 σ H1 _ I1 q) fun ov s2 ⟨x,H2,I2,rx,a,C,dx,fs,ex,ea,c,n,l,q2⟩=>?_) hs
 subst ex
 obtain rfl:ov=Value.ref a:=rx
 exact o3 I2 ea c n l ry fun s3 I3=>⟨σ,_,I3,q2⟩
theorem wq {op:Operator}{rd:V->V->Hp->VK->Prop} (ha:PE X o ta) (hv:PE X value tv) (hop:C7 X op rd):PS X (.AugAssign (.Attribute o f tpos) op value pos) (zF X.K ta tv rd f):=by
 intro pins s σ H D I h
 refine wpAny_AugAssign_AttributeAny (thn (ha pins s σ H _ I h) fun ov s1 ⟨x,H1,I1,rx,a,C,dx,fs,v,ex,ea,c,n,l,q⟩=>?_)
 subst ex
 obtain rfl:ov=Value.ref a:=rx
 refine oA I1 ea c n l fun u s2 I2 ru=>thn (hv pins s2 σ H1 _ I2 q) fun w3 s3 ⟨y,H2,I3,ry,q3⟩=>thn (hop pins s3 σ H2 v y u w3 _ I3 ru ry q3) fun w4 s4 ⟨z,H3,I4,rz,dx',fs',ea',l',q4⟩=>?_
 exact o3 I4 ea' c n l' rz fun s5 I5=>⟨σ,_,I5,q4⟩
def DT:V->V->Hp->VK->Prop:=fun x y H Q=>∃i j,x=.int i/\y=.int j/\Q (.int (i + j)) H
theorem Bg:C7 X .Add DT:=by
 rintro pins s σ H x y u v Q I rx ry ⟨i,j,rfl,rfl,q⟩
 obtain ⟨t,rfl⟩:=(show ∃t,u=Value.int i t from rx)
 obtain ⟨t',rfl⟩:=(show ∃t',v=Value.int j t' from ry)
 exact PyProof.Rows.iadd_int ⟨.int (i + j),H,I.tok _,⟨_,rfl⟩,q⟩
end
section
variable {X:Cx}{pins:List (Addr × Obj)}{σ:St}{H:Hp}{s:Shared}{A:Around}{E:Value->Shared->Prop}{Q:Value->Shared->Prop}{c:Value}{b:Bool}
inductive kK (K:W.Frag) (H:Hp):V->Value->Prop where
 | non:kK K H .non (.type "NoneType")
 | bl (x:Bool):kK K H (.bl x) (.type "bool")
 | int (i:Int):kK K H (.int i) (.type "int")
 | str (x:Str):kK K H (.str x) (.type "str")
 | flt (x:UInt64):kK K H (.flt x) (.type "float")
 | lst {a:Addr}{xs:List V} (e:H a=some (.lst xs)):kK K H (.ref a) (.type "list")
 | frz {a:Addr}{o:Obj}{xs:List V} (e:H a=some (.frz o (.lst xs))):kK K H (.ref a) (.type "list")
 | tup {a:Addr}{xs:List V} (e:H a=some (.tup xs)):kK K H (.ref a) (.type "tuple")
 | dK {a:Addr}{kvs:List (Key × V)} (e:H a=some (.dK kvs)):kK K H (.ref a) (.type "dict")
 | dT {a:Addr}{kvs:List (List Key × V)} (e:H a=some (.dT kvs)):kK K H (.ref a) (.type "dict")
 | ins {a C dx:Addr}{fs:List (Str × V)} (e:H a=some (.ins C dx fs)) (cl:Cls K C) (ha:W.findIn K (.ref C) "__class__"=some (some (.builtin "object.__class__")))
   (hn:W.specialIn K (.builtin "object.__class__") "__get__"=some (some (.builtin "getset_descriptor.__get__"))) (htk:W.takesIn K (.builtin "object.__class__")=some true)
   (hm:W.mroIn K C (.type "object")=some true):kK K H (.ref a) (.ref C)
theorem vR {x:V}{u t:Value} (I:Inv X pins σ H s) (rx:RelV x u) (ty:kK X.K H x t) (e:W.kitOne X.K t c=some b) (h:∀tk,Q (.bool b) { s with toks:=tk }) :
  wpAny (model X.prog X.w) A (call (.builtin "isinstance") [u,c]) Q E s:=by
 cases ty with
 | non=>cases (show u=Value.none from rx);exact W.kia_one W.kitx_none I.kIn True.intro e (fun z=>nomatch z) h
 | bl y=>cases (show u=Value.bool y from rx);exact W.kia_one W.kitx_bool I.kIn True.intro e (fun z=>nomatch z) h
 | int i=>obtain ⟨t,q⟩:=(show ∃t,u=Value.int i t from rx);cases q;exact W.kia_one W.kitx_int I.kIn True.intro e (fun z=>nomatch z) h
 | str y=>obtain ⟨t,q⟩:=(show ∃t,u=Value.str y t from rx);cases q;exact W.kia_one W.kitx_str I.kIn True.intro e (fun z=>nomatch z) h
 | flt y=>obtain ⟨t,q⟩:=(show ∃t,u=Value.float y t from rx);cases q;exact W.kia_one W.kitx_float I.kIn True.intro e (fun z=>nomatch z) h
 | @lst a xs ea =>
  cases (show u=Value.ref a from rx)
  obtain ⟨_,_,n,_,h1⟩:=(show cW X.prog X.w H s.heap a (.lst xs) from I.hok a _ ea)
  exact W.kia_one W.kitx_list I.kIn ⟨_,h1,rfl⟩ e (fun z=>nomatch z) h
 | @frz a ob xs ea =>
  cases (show u=Value.ref a from rx)
  obtain ⟨_,_,_,n,_,h1⟩:=(show cW X.prog X.w H s.heap a (.frz ob (.lst xs)) from I.hok a _ ea)
  exact W.kia_one W.kitx_list I.kIn ⟨_,h1,rfl⟩ e (fun z=>nomatch z) h
 | @tup a xs ea =>
  cases (show u=Value.ref a from rx)
  obtain ⟨_,_,_,p⟩:=(show cW X.prog X.w H s.heap a (.tup xs) from I.hok a _ ea)
  obtain ⟨o,h1,h2,_⟩:=p
  exact W.kia_one W.kitx_tuple I.kIn ⟨o,h1,h2⟩ e (fun z=>nomatch z) h
 | @dK a kvs ea =>
  cases (show u=Value.ref a from rx)
  obtain ⟨_,_,vs,_,p⟩:=(show cW X.prog X.w H s.heap a (.dK kvs) from I.hok a _ ea)
  obtain ⟨o,es,ep,h1,h2,_⟩:=p
  exact W.kia_one W.kitx_dict I.kIn ⟨o,h1,h2.1⟩ e (fun z=>nomatch z) h
 | @dT a kvs ea =>
  cases (show u=Value.ref a from rx)
  obtain ⟨_,_,xs,_,o,es,ep,h1,h2,_⟩:=(show cW X.prog X.w H s.heap a (.dT kvs) from I.hok a _ ea)
  exact W.kia_one W.kitx_dict I.kIn ⟨o,h1,h2.1⟩ e (fun z=>nomatch z) h
 | @ins a C dx fs ea cl ha hn htk hm =>
  cases (show u=Value.ref a from rx)
  obtain ⟨mA,O,_⟩:=nJ I.hok ea
  obtain ⟨od,J,_⟩:=O.look
  exact W.kia_one (W.kitx_own (cl.get _) cl.hd ha hn htk hm) I.kIn J e (fun z=>nomatch z) h
end
end L2
namespace L2
open PySem PySem.Spec PyProof.Rows
structure eR (k:Nat) (A:Around):Prop where
 hd:A.handled=none
 dp:A.depth + 3 * k + 5 < recursionLimit
 un:A.units + 16 * k + 200 < cLine
theorem eR.mono {j k:Nat}{A:Around} (r:eR k A) (h:j <= k):eR j A:=⟨r.hd,by have:=r.dp;omega,by have:=r.un;omega⟩
theorem eR.deeper {k:Nat}{A:Around} (r:eR (k + 1) A) (env:Env):eR k (A.deeper env) :=
 ⟨r.hd,by have:=r.dp;show A.depth + 1 + 3 * k + 5 < _;omega,by have:=r.un;show A.units + 3 + 16 * k + 200 < _;omega⟩
theorem tX {A:Around}{C:Addr}{us:List Value}{kw:List (Str × Value)}:(A.under (.builtin "type.__call__" ⟨.ref C :: us,kw⟩)).depth=A.depth + 1:=by
 first | rfl | simp [Around.under,Code.weight,Code.isCreation,Code.isGuard,Code.isCaller,Code.frames,Code.isFrame,guardIds]
theorem tQ {A:Around}{C:Addr}{us:List Value}{kw:List (Str × Value)}:(A.under (.builtin "type.__call__" ⟨.ref C :: us,kw⟩)).units=A.units + 1:=by
 first | rfl | simp [Around.under,Code.cUnits,Code.frames,Code.isFrame]
theorem eR.make {k:Nat}{A:Around} (r:eR (k + 1) A) (C:Addr) (us:List Value) (kw:List (Str × Value)):eR k (A.under (.builtin "type.__call__" ⟨.ref C :: us,kw⟩)) :=
 ⟨r.hd,by have:=r.dp;rw [tX];omega,by have:=r.un;rw [tQ];omega⟩
theorem eR.depth {k:Nat}{A:Around} (r:eR k A):A.depth < recursionLimit:=by have:=r.dp;omega
theorem eR.units {k:Nat}{A:Around} (r:eR k A):A.units + 64 < cLine:=by have:=r.un;omega
def zS:TA:=fun _ H Q=>Q [] H
def AA (ta:TE) (tr:TA):TA:=fun σ H Q=>ta σ H fun x H1=>tr σ H1 fun xs H2=>Q (x :: xs) H2
section
variable {X:Cx}{e:Expr}{es:List Expr}{te:TE}{t:TA}{pos:Pos}
theorem af:PA X [] zS:=fun _ _ _ _ H Q I h=>Calls.spliced_nil ⟨[],H,I,.nil,h⟩
theorem aa (ha:PE X e te) (hr:PA X es t) (hs:starEach (e :: es) X.env=(false,eval e X.env) :: starEach es X.env:=by rfl):PA X (e :: es) (AA te t):=by
 intro pos pins s σ H Q I h
 rw [hs]
 show wpAny _ _ (spliced ((false,eval e X.env) :: backTo pos (starEach es X.env))) _ _ s
 refine Calls.spliced_cons (thn (ha pins s σ H _ I h) fun u s1 ⟨x,H1,I1,r1,q1⟩=>?_)
 exact thn (hr pos pins s1 σ H1 _ I1 q1) fun us s2 ⟨xs,H2,I2,r2,q2⟩=>⟨x :: xs,H2,I2,.cons r1 r2,q2⟩
def Dt (t:TA):TE:=fun σ H Q=>t σ H fun xs H1=>xs.length <= sizeLine/\∀p,H1 p=none->Q (.ref p) (upd H1 p (.tup xs))
def DJ (t:TA):TE:=fun σ H Q=>t σ H fun xs H1=>xs.length <= sizeLine/\∀p,H1 p=none->Q (.ref p) (upd H1 p (.lst xs))
theorem cx {x1} (h:PA X es t):PE X (.Tuple es x1 pos) (Dt t):=by
 intro pins s σ H Q I hq
 refine wpAny_Tuple_spliced (thn (h pos pins s σ H _ I hq) fun us s1 ⟨xs,H1,I1,r,z,q⟩=>⟨by rw [<- r.length];exact z,?_⟩)
 have hf:H1 s1.heap.objs.size=none:=I1.hok.fresh (Nat.le_refl _)
 refine ⟨.ref s1.heap.objs.size,upd H1 s1.heap.objs.size (.tup xs),I1.laid (t':=s1.toks) (fun b u e=>Heap.get?_push_of_some _ e) (Nat.le_refl _) ?_,rfl,q _ hf⟩
 exact ⟨z,us,r,⟨_,Heap.get?_push_size _ rfl,rfl,_,rfl⟩⟩
theorem bE (h:PA X es t):PE X (.List es pos) (DJ t):=by
 intro pins s σ H Q I hq
 refine wpAny_List_spliced (thn (h pos pins s σ H _ I hq) fun us s1 ⟨xs,H1,I1,r,z,q⟩=>⟨by rw [<- r.length];exact z,?_⟩)
 have hf:H1 s1.heap.objs.size=none:=I1.hok.fresh (Nat.le_refl _)
 refine ⟨.ref s1.heap.objs.size,upd H1 s1.heap.objs.size (.lst xs),I1.laid (t':=s1.toks) (fun b u e=>Heap.get?_push_of_some _ e) (Nat.le_refl _) ?_,rfl,q _ hf⟩
 exact ⟨z,us,0,r,Heap.get?_push_size _ rfl⟩
end
abbrev Sp:=List V->Hp->VK->XK->Prop
abbrev CXT:=List Env->Hp->Shared->XK->Value->Shared->Prop
structure uE (P:Program) (w:World) (K:W.Frag) (mg:Str->Option Value) (base:Heap) (A:Around) (outer:List Env) (s:Shared) (H:Hp):Prop where
 frames:A.frames=some outer
 mod:Mod K mg base
 bs:∀b o,base.get? b=some o->s.heap.get? b=some o/\H b=none
 bsz:base.objs.size <= s.heap.objs.size
 nv:s.heap.FunFrames base outer
 frf:∀b ∈ frs outer,H b=none
 hok:HOk P w H s.heap
 bare:AllBare s.gens
def CE (outer:List Env) (P:Program) (w:World) (H:Hp) (s:Shared) (Q:VK) (u:Value) (s':Shared):Prop :=
 ∃v H',s'.os=s.os/\AllBare s'.gens/\Un (frs outer) [] H H' s.heap s'.heap/\HOk P w H' s'.heap/\RelV v u/\Q v H'
def CR (CX:CXT) (outer:List Env) (P:Program) (w:World) (H:Hp) (s:Shared) (Q:VK) (E:XK) (r:Result) (s':Shared):Prop :=
 match r with
 | .ok (.ret u)=>CE outer P w H s Q u s'
 | .ok _=>False
 | .error e=>CX outer H s E e s'
structure kL (P:Program) (w:World) (K:W.Frag) (mg:Str->Option Value) (base:Heap) (CX:CXT) (k:Nat) (f:Addr) (fd:FuncData) (ps:List Str) (sp:Sp):Prop where
 len:∀vs H Q E,sp vs H Q E->vs.length=ps.length
 run:∀(A:Around) (outer:List Env) (s:Shared) (H:Hp) (args:Args) (us:List Value) (vs:List V) (Q:VK) (E:XK),eR k A->uE P w K mg base A outer s H->BindsTo s fd args (ps.zip us)->Vals vs us->sp vs H Q E ->
  codeAny (model P w) A (.call (.ref f) args) (CR CX outer P w H s Q E) s
theorem uE.make {P:Program}{w:World}{K:W.Frag}{mg:Str->Option Value}{base:Heap}{A:Around}{outer:List Env}{s:Shared}{H:Hp} (e:uE P w K mg base A outer s H) (C:Addr) (us:List Value) (kw:List (Str × Value)) :
  uE P w K mg base (A.under (.builtin "type.__call__" ⟨.ref C :: us,kw⟩)) outer s H:=⟨by first | exact e.frames | (simpa [Around.under,Code.envs,Code.isFrame,pushEnvs] using e.frames),e.mod,e.bs,e.bsz,e.nv,e.frf,e.hok,e.bare⟩
section
variable {X:Cx}{pins:List (Addr × Obj)}{σ:St}{H:Hp}{s s':Shared}
theorem Inv.ye (I:Inv X pins σ H s):uE X.prog X.w X.K X.mg X.base X.A X.stack s H :=
 ⟨I.ok.frames,I.ok.mod,I.bs,Nat.le_trans I.ok.bsz I.sz,I.stack,I.vx,I.hok,I.bare⟩
theorem Inv.after {Q:VK}{u:Value} (I:Inv X pins σ H s) (h:CE X.stack X.prog X.w H s Q u s'):EP X pins σ Q u s':=by
 obtain ⟨v,H',os,bare,un,hok,r,q⟩:=h
 obtain ⟨hh,g,d,t,os'⟩:=s'
 obtain rfl:os'=s.os:=os
 exact ⟨v,H',I.call (h':=hh) (g':=g) (d':=d) (t':=t) (ch:=[]) un hok bare (fun b z=>absurd z (by simp)),r,q⟩
end
def yG (sp:Sp) (dvs:List V) (E:XK) (t:TA):TE:=fun σ H Q=>t σ H fun vs H1=>sp (vs ++ dvs) H1 Q E
def AD (C:Addr) (m:Str) (sp:Sp) (dvs:List V) (E:XK) (ta:TE) (t:TA):TE:=fun σ H Q=>ta σ H fun x H1=>∃a dx fs,x=.ref a/\H1 a=some (.ins C dx fs)/\fs.lookup m=none /\
 t σ H1 fun vs H2=>sp (x :: (vs ++ dvs)) H2 Q E
def vd (C:Addr) (sp:Sp) (dvs:List V) (E:XK) (t:TA):TE:=fun σ H Q=>t σ H fun vs H1=>∀x dx,H1 x=none->H1 dx=none->dx ≠ x ->
 sp (.ref x :: (vs ++ dvs)) (upd (upd H1 dx (.own x)) x (.ins C dx [])) (fun v H2=>v=.non/\Q (.ref x) H2) E
def Binds (K:W.Frag) (fd:FuncData) (ps:List Str) (ds:List Value):Prop :=
 ∀(s:Shared) (us:List Value),K.In s.heap->(us ++ ds).length=ps.length->BindsTo s fd ⟨us,[]⟩ (ps.zip (us ++ ds))
theorem Binds.all {K:W.Frag}{fd:FuncData}{ps:List Str} (h:∀us:List Value,us.length=ps.length->bindArgs fd ⟨us,[]⟩=pure (ps.zip us)):Binds K fd ps []:=fun s us _ hl=>by
 rw [List.append_nil] at hl ⊢
 exact .of_eq (h us hl)
def Passes (CX:CXT) (X:Cx) (E:XK):Prop:=∀(pins:List (Addr × Obj)) (σ:St) (H:Hp) (s:Shared) (e:Value) (s':Shared),Inv X pins σ H s->CX X.stack H s E e s'->X.xe e s'
section
variable {X:Cx}{CX:CXT}{k:Nat}{f C:Addr}{fd:FuncData}{ps:List Str}{sp:Sp}{dvs:List V}{ds:List Value}{E:XK}{x m:Str}{p pos apos:Pos}{e o:Expr}{es:List Expr}{ta:TE}{t:TA}
theorem ud {pins:List (Addr × Obj)}{σ:St}{H:Hp}{s:Shared}{Q:VK}{us:List Value}{vs:List V} (F:kL X.prog X.w X.K X.mg X.base CX k f fd ps sp) (hr:eR k X.A) (hb:Binds X.K fd ps ds) (hd:Vals dvs ds) (hx:Passes CX X E)
  (I:Inv X pins σ H s) (r:Vals vs us) (h:sp (vs ++ dvs) H Q E):wpAny (model X.prog X.w) X.A (call (.ref f) us) (EP X pins σ Q) X.xe s:=by
 have r2:Vals (vs ++ dvs) (us ++ ds):=r.append hd
 have hl:(us ++ ds).length=ps.length:=by rw [<- r2.length];exact F.len _ _ _ _ h
 refine wpAny_call (codeAny_mono (F.run X.A X.stack s H ⟨us,[]⟩ (us ++ ds) (vs ++ dvs) Q E hr I.ye (hb s us I.kIn hl) r2 h) fun r s' hq=>?_)
 cases r with
 | error e=>exact hx pins σ H s e s' I hq
 | ok fl =>
  cases fl with
  | ret u=>exact I.after hq
  | next=>exact False.elim hq
  | brk=>exact False.elim hq
  | cont=>exact False.elim hq
theorem zj (F:kL X.prog X.w X.K X.mg X.base CX k f fd ps sp) (hr:eR k X.A) (hg:Gl X x) (hm:X.mg x=some (.ref f)) (hk:W.keepIn X.K (.ref f)=true) (hb:Binds X.K fd ps ds) (hd:Vals dvs ds) (hx:Passes CX X E)
  (ha:PA X (e :: es) t) (hdb:(x == ("__debug__":Str))=false:=by decide) (he:starEach (e :: es) X.env=(false,eval e X.env) :: starEach es X.env:=by rfl) (hpl:(backTo pos (starEach es X.env)).any (·.1)=false:=by rfl) :
  PE X (.Call (.Name x p) (e :: es) [] pos) (yG sp dvs E t):=by
 intro pins s σ H Q I h
 refine wpAny_Call_Name_kw (me I hg hm ?_ hdb)
 refine W.callWith_K (h₀:=X.base) I.ok.mod.kin hk (thn (ha pos pins s σ H _ I h) fun us s1 ⟨vs,H1,I1,r,q⟩=>⟨I1.kIn,?_⟩) he hpl
 exact ud F hr hb hd hx I1 r q
theorem Ad {pl:Sem Bool} (he:PE X o ta) (c:Cls X.K C) (hm:Meth X.K C m f) (F:kL X.prog X.w X.K X.mg X.base CX k f fd ps sp) (hr:eR k X.A) (hb:Binds X.K fd ps ds) (hd:Vals dvs ds) (hx:Passes CX X E) (ha:PA X (e :: es) t)
  (hst:starEach (e :: es) X.env=(false,eval e X.env) :: starEach es X.env:=by rfl) (hpl:(backTo pos (starEach es X.env)).any (·.1)=false:=by rfl)
  (ht:eval (.Call (.Attribute o m apos) (e :: es) [] pos) X.env=(do
   let ov <- eval o X.env
   standAt apos.atName
   let (f,first) <- holding [ov] (getMethod ov m pl)
   callWith pos f first (backTo pos (starEach (e :: es) X.env)) (backToKw pos (keywordEach [] X.env))):=by rfl) :
  PE X (.Call (.Attribute o m apos) (e :: es) [] pos) (AD C m sp dvs E ta t):=by
 intro pins s σ H Q I h
 refine W.methodCall_KW (pl:=pl) (thn (he pins s σ H _ I h) fun u s1 ⟨x,H1,I1,rx,a,dx,fs,ex,ea,l,q⟩=>?_) ht
 subst ex
 obtain rfl:u=Value.ref a:=rx
 refine uh I1 ea c hm l ?_
 refine W.callWith_K (first:=[.ref a]) (h₀:=X.base) I.ok.mod.kin hm.kp (thn (ha pos pins s1 σ H1 _ I1 q) fun us s2 ⟨vs,H2,I2,r,q2⟩=>⟨I2.kIn,?_⟩) hst hpl
 exact ud (us:=.ref a :: us) (vs:=.ref a :: vs) F hr hb hd hx I2 (.cons rfl r) q2
structure Mk (K:W.Frag) (C f:Addr):Prop where
 makes:W.makesIn K C=true
 init:W.findIn K (.ref C) "__init__"=some (some (.ref f))
 fn:W.isFn K (.ref f)=true
 kp:W.keepIn K (.ref C)=true
theorem so {pins:List (Addr × Obj)}{σ:St}{H:Hp}{s:Shared}{Q:VK}{us:List Value}{vs:List V} (M:Mk X.K C f) (F:kL X.prog X.w X.K X.mg X.base CX k f fd ps sp) (hr:eR (k + 1) X.A) (hb:Binds X.K fd ps ds) (hd:Vals dvs ds)
  (hx:Passes CX X E) (I:Inv X pins σ H s) (r:Vals vs us)
  (h:∀x dx,H x=none->H dx=none->dx ≠ x->sp (.ref x :: (vs ++ dvs)) (upd (upd H dx (.own x)) x (.ins C dx [])) (fun v H2=>v=.non/\Q (.ref x) H2) E) :
  wpAny (model X.prog X.w) X.A (call (.ref C) us) (EP X pins σ Q) X.xe s:=by
 have hq:=h (s.heap.objs.size + 1) s.heap.objs.size (I.hok.fresh (Nat.le_succ _)) (I.hok.fresh (Nat.le_refl _)) (Nat.ne_of_lt (Nat.lt_succ_self _))
 have I2:=Inv.made (C:=C) I
 have r2:Vals (V.ref (s.heap.objs.size + 1) :: (vs ++ dvs)) (Value.ref (s.heap.objs.size + 1) :: (us ++ ds)):=.cons rfl (r.append hd)
 have hl:(Value.ref (s.heap.objs.size + 1) :: us ++ ds).length=ps.length:=by
  have e:=r2.length
  rw [F.len _ _ _ _ hq] at e
  exact e.symm
 refine wpAny_call (yX (f:=f) I.kIn M.makes M.init (beq_iff_eq.mp M.fn) (codeAny_mono (F.run _ X.stack _ _ ⟨Value.ref (s.heap.objs.size + 1) :: us,[]⟩ (Value.ref (s.heap.objs.size + 1) :: (us ++ ds)) _ _ E (hr.make C us [])
  (I2.ye.make C us []) (hb _ (Value.ref (s.heap.objs.size + 1) :: us) I2.kIn hl) r2 hq) fun r s' hq'=>?_))
 cases r with
 | error e=>exact hx pins σ _ _ e s' I2 hq'
 | ok fl =>
  cases fl with
  | ret u =>
   obtain ⟨v,H',I3,rv,ev,q3⟩:=I2.after hq'
   subst ev
   exact ⟨rv,⟨V.ref (s.heap.objs.size + 1),H',I3,rfl,q3⟩⟩
  | next=>exact False.elim hq'
  | brk=>exact False.elim hq'
  | cont=>exact False.elim hq'
theorem Ap (M:Mk X.K C f) (F:kL X.prog X.w X.K X.mg X.base CX k f fd ps sp) (hr:eR (k + 1) X.A) (hg:Gl X x) (hm:X.mg x=some (.ref C)) (hb:Binds X.K fd ps ds) (hd:Vals dvs ds) (hx:Passes CX X E)
  (ha:PA X (e :: es) t) (hdb:(x == ("__debug__":Str))=false:=by decide) (he:starEach (e :: es) X.env=(false,eval e X.env) :: starEach es X.env:=by rfl) (hpl:(backTo pos (starEach es X.env)).any (·.1)=false:=by rfl) :
  PE X (.Call (.Name x p) (e :: es) [] pos) (vd C sp dvs E t):=by
 intro pins s σ H Q I h
 refine wpAny_Call_Name_kw (me I hg hm ?_ hdb)
 refine W.callWith_K (h₀:=X.base) I.ok.mod.kin M.kp (thn (ha pos pins s σ H _ I h) fun us s1 ⟨vs,H1,I1,r,q⟩=>⟨I1.kIn,?_⟩) he hpl
 exact so M F hr hb hd hx I1 r q
theorem yk (M:Mk X.K C f) (F:kL X.prog X.w X.K X.mg X.base CX k f fd ps sp) (hr:eR (k + 1) X.A) (hg:Gl X x) (hm:X.mg x=some (.ref C)) (hb:Binds X.K fd ps ds) (hd:Vals dvs ds) (hx:Passes CX X E)
  (hdb:(x == ("__debug__":Str))=false:=by decide):PE X (.Call (.Name x p) [] [] pos) (vd C sp dvs E zS):=by
 intro pins s σ H Q I h
 refine wpAny_Call_Name_kw (me I hg hm ?_ hdb)
 exact W.callWith_K0 I.kIn M.kp (so (us:=[]) M F hr hb hd hx I .nil h)
end
section
variable {X:Cx}{CX:CXT}{k:Nat}{f C:Addr}{fd:FuncData}{ps ks:List Str}{sp:Sp}{E:XK}{x m:Str}{p pos apos kpos:Pos}{e o:Expr}{es:List Expr}{kws:List Keyword}{te ta:TE}{t tk:TA}{nm:Option Str}
structure KBinds (K:W.Frag) (fd:FuncData) (ps ks:List Str) (g:List Value->List Value->List Value) (gV:List V->List V->List V):Prop where
 to:∀(s:Shared) (us ws:List Value),K.In s.heap->(g us ws).length=ps.length->BindsTo s fd ⟨us,ks.zip ws⟩ (ps.zip (g us ws))
 rel:∀{vs:List V}{us:List Value}{zs:List V}{ws:List Value},Vals vs us->Vals zs ws->Vals (gV vs zs) (g us ws)
variable {g:List Value->List Value->List Value}{gV:List V->List V->List V}
end
structure aF (N P:List Str) (sc:Scope):Prop where
 kind:sc.kind=.function
 co:sc.isCoroutine=false
 gen:sc.isGenerator=false
 nd:N.Nodup
 pre:N.take P.length=P
 par:∀x ∈ P,sc.names.lookup x=some .local \/ sc.names.lookup x=some .cell
 B4:∀y ∈ sc.names,y.2 ≠ .free
theorem p9 {kindOf:Str->Option NameKind}{x:Str}:∀{binds:List (Str × Value)}{m:Str->Option Value},(∀v,(x,v) ∉ binds)->bindL kindOf binds m x=m x
 | [],_,_=>rfl
 | (n,v) :: r,m,h=>by
  unfold bindL
  rw [p9 fun w hw=>h w (List.mem_cons_of_mem _ hw)]
  split
  ·have:x ≠ n:=by rintro rfl;exact h v List.mem_cons_self
   simp [this]
  ·rfl
theorem qD {kindOf:Str->Option NameKind}{x:Str}:∀{binds:List (Str × Value)}{m:Str->Option Value},(∀v,(x,v) ∉ binds)->bindC kindOf binds m x=m x
 | [],_,_=>rfl
 | (n,v) :: r,m,h=>by
  unfold bindC
  rw [qD fun w hw=>h w (List.mem_cons_of_mem _ hw)]
  split
  ·rfl
  ·have:x ≠ n:=by rintro rfl;exact h v List.mem_cons_self
   simp [this]
theorem qt {kindOf:Str->Option NameKind}{x:Str}{v:Value}:∀{P:List Str}{vs:List Value}{i:Nat}{m:Str->Option Value},P.Nodup->P[i]?=some x->vs[i]?=some v->kindOf x=some .local ->
  bindL kindOf (P.zip vs) m x=some v
 | [],_,_,_,_,h,_,_=>by simp at h
 | _ :: _,[],_,_,_,_,h,_=>by simp at h
 | p :: P,w :: vs,0,m,nd,h1,h2,hk=>by
  simp at h1 h2;subst h1;subst h2
  show bindL kindOf ((p,w) :: P.zip vs) m p=_
  unfold bindL
  rw [p9 fun v hv=>(List.nodup_cons.mp nd).1 (List.of_mem_zip hv).1,if_pos hk]
  simp
 | p :: P,w :: vs,i + 1,m,nd,h1,h2,hk=>by
  show bindL kindOf ((p,w) :: P.zip vs) m x=_
  unfold bindL
  exact qt (i:=i) (List.nodup_cons.mp nd).2 (by simpa using h1) (by simpa using h2) hk
theorem ql {kindOf:Str->Option NameKind}{x:Str}{v:Value}:∀{P:List Str}{vs:List Value}{i:Nat}{m:Str->Option Value},P.Nodup->P[i]?=some x->vs[i]?=some v->kindOf x ≠ some .local ->
  bindC kindOf (P.zip vs) m x=some v
 | [],_,_,_,_,h,_,_=>by simp at h
 | _ :: _,[],_,_,_,_,h,_=>by simp at h
 | p :: P,w :: vs,0,m,nd,h1,h2,hk=>by
  simp at h1 h2;subst h1;subst h2
  show bindC kindOf ((p,w) :: P.zip vs) m p=_
  unfold bindC
  rw [qD fun v hv=>(List.nodup_cons.mp nd).1 (List.of_mem_zip hv).1,if_neg hk]
  simp
 | p :: P,w :: vs,i + 1,m,nd,h1,h2,hk=>by
  show bindC kindOf ((p,w) :: P.zip vs) m x=_
  unfold bindC
  exact ql (i:=i) (List.nodup_cons.mp nd).2 (by simpa using h1) (by simpa using h2) hk
def start (N:List Str) (vs:List V):St:=vs.map some ++ List.replicate (N.length - vs.length) none
def sR (CX:CXT) (P:Program) (w:World) (K:W.Frag) (mg:Str->Option Value) (base:Heap) (N:List Str) (qual:Str) (scope:Scope) (f:Addr) (cd:Value) (A:Around) (outer:List Env) (s:Shared) (H:Hp) (E:XK):Cx where
 prog:=P
 w:=w
 K:=K
 mg:=mg
 base:=base
 A:=A.deeper (envOfC qual scope s.heap.objs.size f cd)
 N:=N
 s₀:=s
 H₀:=H
 env:=envOfC qual scope s.heap.objs.size f cd
 outer:=outer
 stack:=envOfC qual scope s.heap.objs.size f cd :: outer
 ex:=[]
 calm:=true
 fn:=fun _=>true
 pn:=[]
 xe:=fun e s'=>wpAny (model P w) (A.deeper (envOfC qual scope s.heap.objs.size f cd)) (leaving (envOfC qual scope s.heap.objs.size f cd) e) (fun _ s''=>CX outer H s E e s'') (fun e' s''=>CX outer H s E e' s'') s'
theorem sg {sc:Scope}{n:Nat}{x:Str} (h:sc.names.lookup x=some .cell):∃c,(cellsFrom n sc.names []).lookup x=some c:=by
 have q:=W.cellsFrom_some sc.names n [] (.inl h)
 exact Option.isSome_iff_exists.mp q
theorem wV {CX:CXT}{P:Program}{w:World}{K:W.Frag}{mg:Str->Option Value}{base:Heap}{N ps:List Str}{qual:Str}{scope:Scope}{f:Addr}{cd:Value}{A:Around}{outer:List Env}{s s1:Shared}{H:Hp}{E:XK}{us:List Value}{vs:List V}
  (S:aF N ps scope) (hd:A.handled=none) (e0:uE P w K mg base A outer s H) (hl:vs.length=ps.length) (r:Vals vs us)
  (x:InCallC s s.heap.objs.size (bindL (envOfC qual scope s.heap.objs.size f cd).kindOf (ps.zip us) fun _=>none) (cellsFrom (s.heap.objs.size + 1) scope.names []) (bindC (envOfC qual scope s.heap.objs.size f cd).kindOf (ps.zip us) fun _=>none) s1) :
  Inv (sR CX P w K mg base N qual scope f cd A outer s H E) [] (start N vs) H s1:=by
 have hpl:ps.length <= N.length:=by have:=congrArg List.length S.pre;rw [List.length_take] at this;omega
 obtain ⟨h1,tk,rfl,hk⟩:=x.done
 have noA:∀b:Addr,b ∉ (sR CX P w K mg base N qual scope f cd A outer s H E).ex:=fun b z=>absurd (show b ∈ ([]:List Addr) from z) (by simp)
 refine ⟨⟨e0.mod,S.kind,rfl,rfl,Nat.le_refl _,fun y z c h1 h2=>?_,fun y hy=>?_,fun y c _ h=>?_,fun _=>hd,Around.frames_deeper e0.frames,.inr ⟨rfl,rfl⟩,fun b z=>absurd z (noA b),e0.bs,e0.bsz,fun b _ _=>noA b,fun b z=>absurd z (noA b),e0.nv,e0.frf⟩,
  rfl,e0.bare,Un.kept hk,⟨_,x.toInCall.ns,fun i y v h1 h2 h3=>?_⟩,fun y c h=>⟨_,x.cell y c h⟩,e0.hok.fresh (Nat.le_refl _),fun y c h=>?_,fun p hp=>absurd (show p ∈ ([]:List (Addr × Obj)) from hp) (by simp),e0.hok.kept hk,?_⟩
 ·exact name_of_addr x.apart (PySem.mem_of_lookup h1) (PySem.mem_of_lookup h2)
 ·have hy:scope.names.lookup y=some .cell \/ scope.names.lookup y=some .free:=hy
  rcases hy with hy | hy
  ·exact sg hy
  ·exact absurd rfl (S.B4 _ (PySem.mem_of_lookup hy))
 ·exact Nat.le_of_lt (x.above y c (PySem.mem_of_lookup h))
 ·have hi:i < vs.length:=by
   unfold start at h2
   by_cases hi:i < vs.length
   ·exact hi
   ·rw [List.getElem?_append_right (by simpa using hi)] at h2
    rw [List.getElem?_replicate] at h2
    split at h2 <;> cases h2
  have ha:vs[i]?=some v:=by
   unfold start at h2
   rw [List.getElem?_append_left (by simpa using hi),List.getElem?_map] at h2
   cases e:vs[i]? with
   | none=>rw [e] at h2;cases h2
   | some a=>rw [e] at h2;cases h2;rfl
  obtain ⟨u,hu,rv⟩:=r.get ha
  have hp:ps[i]?=some y:=by
   rw [<- S.pre,List.getElem?_take_of_lt (by omega)];exact h1
  have ndP:ps.Nodup:=by rw [<- S.pre];exact S.nd.sublist (List.take_sublist _ _)
  refine ⟨u,rv,?_⟩
  rcases S.par y (List.mem_of_getElem? hp) with k | k
  ·exact .inl ⟨k,qt ndP hp hu k⟩
  ·obtain ⟨c,e⟩:=sg (n:=s.heap.objs.size + 1) k
   refine .inr ⟨.inl k,c,e,?_⟩
   have q:=x.cell y c e
   rw [ql ndP hp hu (by show scope.names.lookup y ≠ _;rw [k];decide)] at q
   exact q
 ·exact e0.hok.fresh (Nat.le_of_lt (x.above y c (PySem.mem_of_lookup h)))
 ·unfold start
  show _=N.length
  rw [List.length_append,List.length_map,List.length_replicate]
  omega
theorem CN {CX:CXT}{P:Program}{w:World}{K:W.Frag}{mg:Str->Option Value}{base:Heap}{k:Nat}{f:Addr}{name qual:Str}{params:Arguments}{body:List Stmt}{scope:Scope}{dV kV doc pm cdv ct oc:Value}{an od:Option Addr}
  {osl:Array (Option Value)}{N ps:List Str}{sp:Sp} (lk:K.lookup f=some ⟨oc,od,.func (W.fnOf name qual params body scope dV kV doc pm an cdv ct),osl⟩) (hcd:W.codeIn K cdv qual=true) (S:aF N ps scope)
  (len:∀vs H Q E,sp vs H Q E->vs.length=ps.length)
  (hbody:∀(A:Around) (outer:List Env) (s:Shared) (H:Hp) (vs:List V) (Q:VK) (E:XK),eR k (A.deeper (envOfC qual scope s.heap.objs.size f cdv))->sp vs H Q E ->
   ∃t,PSs (sR CX P w K mg base N qual scope f cdv A outer s H E) body t/\t { nx:=fun _ H'=>Q .non H',rt:=Q } (start N vs) H) :
  kL P w K mg base CX (k + 1) f (W.fnOf name qual params body scope dV kV doc pm an cdv ct) ps sp:=by
 refine ⟨len,fun A outer s H args us vs Q E hr e0 hb r hsp=>?_⟩
 have hl:=len _ _ _ _ hsp
 have KX:K.In s.heap:=e0.mod.kin.keeps fun b o e=>(e0.bs b o e).1
 have lim:s.heap.NoLimit:=e0.mod.nolimit.keeps fun b o e=>(e0.bs b o e).1
 have hkind:∀y ∈ ps.zip us,scope.names.lookup y.1=some .local \/ (scope.names.lookup y.1=some .cell/\((cellsFrom (s.heap.objs.size + 1) scope.names []).lookup y.1).isSome=true):=fun ⟨n,v⟩ hy=>by
  rcases S.par n (List.of_mem_zip hy).1 with q | q
  ·exact .inl q
  ·exact .inr ⟨q,W.cellsFrom_some _ _ _ (.inl q)⟩
 refine codeAny_call_function hr.depth (KX _ _ lk) rfl S.co S.gen rfl (W.codeRec_of KX hcd) (hb _ _ _ _ ?_)
 refine wpAny_newFunctionEnv_cells S.kind hkind fun env he s1 x=>?_
 subst he
 refine ⟨lim.keeps x.toInCall.keep,codeAny_func ?_⟩
 obtain ⟨t,ht,hq⟩:=hbody A outer s H vs Q E (hr.deeper _) hsp
 have I:Inv (sR CX P w K mg base N qual scope f cdv A outer s H E) [] (start N vs) H s1:=wV S hr.hd e0 hl r x
 refine wpAny_mono (ht [] s1 (start N vs) H _ I hq) (fun fl s' hs=>?_) fun e s' hs=>hs
 have fin:∀{σ':St}{H':Hp}{v:V}{u:Value},Inv (sR CX P w K mg base N qual scope f cdv A outer s H E) [] σ' H' s'->RelV v u->Q v H'->CE outer P w H s Q u s' :=
  fun {σ' H' v u} J rv q=>⟨v,H',J.os,J.bare,J.base,J.hok,rv,q⟩
 cases fl with
 | ret u =>
  obtain ⟨v,σ',H',J,rv,q⟩:=hs
  exact fin J rv q
 | next =>
  obtain ⟨σ',H',J,q⟩:=hs
  exact fin (v:=V.non) (u:=Value.none) J rfl q
 | brk =>
  obtain ⟨_,_,_,q⟩:=hs
  exact False.elim q
 | cont =>
  obtain ⟨_,_,_,q⟩:=hs
  exact False.elim q
end L2
namespace L2
open PySem PySem.Spec PyProof.Rows
section
variable {X:Cx}{x:Str}{p pos:Pos}{e:Expr}{es:List Expr}{t:TA}{id T:String}{r:List V->Hp->VK->Prop}
def tCB (r:List V->Hp->VK->Prop) (t:TA):TE:=fun σ H Q=>t σ H fun vs H1=>r vs H1 Q
theorem aG (hc:eJ X (.builtin id) r) (hg:Gl X x) (hm:X.mg x=none) (hv:bootBuiltins x=some (.builtin id)) (ha:PA X (e :: es) t) (hn:x ≠ "__name__":=by decide) (hdb:(x == ("__debug__":Str))=false:=by decide)
  (he:starEach (e :: es) X.env=(false,eval e X.env) :: starEach es X.env:=by rfl) (hpl:(backTo pos (starEach es X.env)).any (·.1)=false:=by rfl):PE X (.Call (.Name x p) (e :: es) [] pos) (tCB r t):=by
 intro pins s σ H Q I h
 refine wpAny_Call_Name_kw (mB I hg hm hv ?_ hn hdb)
 exact PyProof.Rows.callWith_builtin1 (thn (ha pos pins s σ H _ I h) fun us s1 ⟨vs,H1,I1,r1,q1⟩=>hc pins s1 σ H1 vs us Q I1 r1 q1) he hpl
theorem bY (hc:eJ X (.type T) r) (hg:Gl X x) (hm:X.mg x=none) (hv:bootBuiltins x=some (.type T)) (ha:PA X (e :: es) t) (hn:x ≠ "__name__":=by decide) (hdb:(x == ("__debug__":Str))=false:=by decide)
  (he:starEach (e :: es) X.env=(false,eval e X.env) :: starEach es X.env:=by rfl) (hpl:(backTo pos (starEach es X.env)).any (·.1)=false:=by rfl):PE X (.Call (.Name x p) (e :: es) [] pos) (tCB r t):=by
 intro pins s σ H Q I h
 refine wpAny_Call_Name_kw (mB I hg hm hv ?_ hn hdb)
 exact PyProof.Rows.callWith_type1 (thn (ha pos pins s σ H _ I h) fun us s1 ⟨vs,H1,I1,r1,q1⟩=>hc pins s1 σ H1 vs us Q I1 r1 q1) he hpl
end
end L2
namespace HT
open PySem PyProof.Rows
section
open PySem.SeqAt
open PySem.AutoSeq1 (wpAny_loadPart')
open PySem.MeetsSeq PySem.MeetsSeq2 PySem.MeetsSeq3
end
section
variable {prog:Program}{w:World}{A:Around}{E:Value->Shared->Prop}{s:Shared}
def sIx (n d:Nat):Option Int->Nat
 | none=>d
 | some v=>if v < 0 then (v + (n:Int)).toNat else min v.toNat n
theorem vy (n d k:Nat):sIx n d (some (k:Int))=min k n:=by
 show (if (k:Int) < 0 then ((k:Int) + (n:Int)).toNat else min (k:Int).toNat n)=min k n
 rw [if_neg (by omega),Int.toNat_natCast]
theorem BL (n d:Nat) (hd:d <= n) (o:Option Int):sIx n d o <= n:=by
 cases o with
 | none=>exact hd
 | some v =>
  show (if v < 0 then (v + (n:Int)).toNat else min v.toNat n) <= n
  by_cases hv:v < 0
  ·rw [if_pos hv];omega
  ·rw [if_neg hv];exact Nat.min_le_right _ _
theorem uZ (v:Int) (n d:Nat):(if v < 0 then max (v + (n:Int)) 0 else min v (n:Int))=((sIx n d (some v):Nat):Int):=by
 show (if v < 0 then max (v + (n:Int)) 0 else min v (n:Int))=(((if v < 0 then (v + (n:Int)).toNat else min v.toNat n):Nat):Int)
 by_cases hv:v < 0
 ·simp only [if_pos hv];omega
 ·simp only [if_neg hv];omega
theorem uD (lo hi:Option Int) (n:Nat):Builtin.Slice.sliceAdjust lo hi 1 (n:Int)=(((sIx n 0 lo:Nat):Int),((sIx n n hi:Nat):Int)):=by
 have h1:¬ ((1:Int) < 0):=by omega
 unfold Builtin.Slice.sliceAdjust
 simp only [h1,if_false]
 refine Prod.ext ?_ ?_
 ·cases lo with
  | none=>rfl
  | some v=>exact uZ v n 0
 ·cases hi with
  | none=>rfl
  | some v=>exact uZ v n n
theorem tS (i j:Nat):Builtin.Slice.slicePlaces (i:Int) (j:Int) 1=j - i:=by
 unfold Builtin.Slice.slicePlaces
 have h1:(1:Int) > 0:=by omega
 simp only [h1,if_true,Int.ediv_one]
 split <;> omega
theorem oj {v:Value}{o:Option Int}{Q:Option Int->Shared->Prop} (p:IsPart v o) (h:Q o s):wpAny (model prog w) A (Builtin.Slice.slicePartIndex v) Q E s:=by
 cases p with
 | none=>exact slicePart_none h
 | int i t=>exact slicePart_int h
theorem mM {sl:Addr}{vl vu:Value}{lo hi:Option Int}{n:Nat}{Q:Int × Int × Nat->Shared->Prop} (hs:s.heap.IsSliceOf sl vl vu .none) (pl:IsPart vl lo) (pu:IsPart vu hi)
  (h:Q (((sIx n 0 lo:Nat):Int),1,sIx n n hi - sIx n 0 lo) s):wpAny (model prog w) A (Builtin.Slice.sliceApplied (.ref sl) (pure (n:Int))) Q E s:=by
 obtain ⟨os,hos,hcs,hds⟩:=id hs
 unfold Builtin.Slice.sliceApplied Builtin.Slice.sliceFields
 refine wpAny_bind (wpAny_bind (wpAny_field hos hds (x:=vl) rfl (wpAny_bind (wpAny_field hos hds (x:=vu) rfl (wpAny_bind (wpAny_field hos hds (x:=.none) rfl (wpAny_pure ?_)))))))
 refine wpAny_bind (slicePart_none ?_)
 show wpAny _ _ (if ((1:Int) == 0)=true then _ else _) _ _ s
 rw [if_neg (by decide)]
 refine wpAny_bind (oj pl (wpAny_bind (oj pu (wpAny_bind (wpAny_pure ?_)))))
 show wpAny _ _ (match Builtin.Slice.sliceAdjust lo hi 1 (n:Int) with | (lo,hi)=>pure (lo,(1:Int),Builtin.Slice.slicePlaces lo hi 1)) _ _ s
 rw [uD lo hi n]
 show wpAny _ _ (pure (((sIx n 0 lo:Nat):Int),(1:Int),Builtin.Slice.slicePlaces ((sIx n 0 lo:Nat):Int) ((sIx n n hi:Nat):Int) 1)) _ _ s
 rw [tS]
 exact wpAny_pure h
theorem w8 (xs:Array Value) (i k:Nat):((List.range k).filterMap fun (m:Nat)=>xs[((i:Int) + (m:Int) * 1).toNat]?).toArray=((xs.toList.drop i).take k).toArray:=by
 have e:(fun (m:Nat)=>xs[((i:Int) + (m:Int) * 1).toNat]?)=fun m=>xs[i + m]?:=by
  funext m
  have:((i:Int) + (m:Int) * 1).toNat=i + m:=by omega
  rw [this]
 rw [e]
 have:=pick_run xs i k
 rw [List.filterMap_map] at this
 have e2:((fun x=>xs[x]?) ∘ fun x=>i + x)=fun m=>xs[i + m]?:=rfl
 rw [e2] at this
 rw [this]
theorem lW {t sl:Addr}{items:Array Value}{vl vu:Value}{lo hi:Option Int}{Q:Value->Shared->Prop} (ht:IsTup s.heap t items) (hs:s.heap.IsSliceOf sl vl vu .none) (pl:IsPart vl lo) (pu:IsPart vu hi)
  (hw:¬ (sIx items.size 0 lo=0/\sIx items.size items.size hi=items.size))
  (h:Q (.ref s.heap.objs.size) { s with heap:=s.heap.push { cls:=.type "tuple",data:=.seq ((items.toList.drop (sIx items.size 0 lo)).take (sIx items.size items.size hi - sIx items.size 0 lo)).toArray } })
  (hsz:items.size <= sizeLine):wpAny (model prog w) A (getItem (.ref t) (.ref sl)) Q E s:=by
 have htake:sizeOk (.seq ((items.toList.drop (sIx items.size 0 lo)).take (sIx items.size items.size hi - sIx items.size 0 lo)).toArray):=by
  show ((items.toList.drop (sIx items.size 0 lo)).take (sIx items.size items.size hi - sIx items.size 0 lo)).toArray.size <= sizeLine
  rw [List.size_toArray,List.length_take,List.length_drop,Array.length_toList]
  omega
 have hj:sIx items.size items.size hi <= items.size:=BL _ _ (Nat.le_refl _) hi
 obtain ⟨os,hos,hcs,hds⟩:=id hs
 have hTs:s.TypeIs (.ref sl) "slice":=⟨os,hos,hcs⟩
 unfold getItem
 try with_reducible refine wpAny_holding ?_
 first | refine wpAny_bind (wpAny_pure ?_) | skip
 refine wpAny_bind (wpAny_sequenceKey ht.typeIs (by decide) ?_)
 refine wpAny_bind (wpAny_callSpecial?_slot (name:=Str.ofString "__getitem__") ht.typeIs PyProof.Rows.slot_tuple_getitem
  (wpAny_call_entry PyProof.Rows.slot_tuple_getitem ht.typeIs entry_tuple_getitem ?_ (args_tuple_getitem _ _)))
 show wpAny _ _ (Builtin.Tuple.tupleItemsOf (.ref t) >>= _) _ _ s
 refine wpAny_bind (tupleItemsOf_ ht ?_)
 refine wpAny_bind (wpAny_typeOf hTs ?_)
 rw [if_pos (by decide)]
 refine wpAny_bind (mM hs pl pu ?_)
 have hno:¬ ((((sIx items.size 0 lo:Nat):Int) == 0 && (1:Int) == 1 && (sIx items.size items.size hi - sIx items.size 0 lo) == items.size)=true):=by
  intro q
  rw [Bool.and_eq_true,Bool.and_eq_true] at q
  have q1:((sIx items.size 0 lo:Nat):Int)=0:=eq_of_beq q.1.1
  have q2:sIx items.size items.size hi - sIx items.size 0 lo=items.size:=eq_of_beq q.2
  exact hw ⟨by omega,by omega⟩
 show wpAny _ _ (if (((sIx items.size 0 lo:Nat):Int) == 0 && (1:Int) == 1 && (sIx items.size items.size hi - sIx items.size 0 lo) == items.size)=true then _ else _) _ _ s
 rw [if_neg hno,w8]
 first
  | exact wpAny_bind (m:=Builtin.Tuple.tupleExact _) (wpAny_newObj_type (wpAny_pure ⟨_,rfl,wpAny_pure h⟩) htake)
  | exact wpAny_bind (m:=Builtin.Tuple.tupleExact _) (wpAny_newObj_type (wpAny_bind (wpAny_pure (wpAny_pure ⟨_,rfl,wpAny_pure h⟩))) htake)
  | exact wpAny_bind (wpAny_bind (m:=Builtin.Tuple.tupleExact _) (wpAny_newObj_type (wpAny_pure (wpAny_pure ⟨_,rfl,wpAny_pure h⟩)) htake))
  | exact wpAny_bind (wpAny_bind (m:=Builtin.Tuple.tupleExact _) (wpAny_newObj_type (wpAny_pure ⟨_,rfl,wpAny_pure h⟩) htake))
end
end HT
namespace L2
open PySem PySem.Spec PyProof.Rows
abbrev TO:=St->Hp->(Option Int->Hp->Prop)->Prop
def PO (X:Cx) (e:Option Expr) (t:TO):Prop :=
 ∀(pins:List (Addr × Obj)) (s:Shared) (σ:St) (H:Hp) (Q:Option Int->Hp->Prop),Inv X pins σ H s->t σ H Q ->
  wpAny (model X.prog X.w) X.A (evalPart e X.env) (fun u s'=>∃o H',Inv X pins σ H' s'/\IsPart u o/\Q o H') X.xe s
def Al:TO:=fun _ H Q=>Q none H
def Dg (t:TE):TO:=fun σ H Q=>t σ H fun x H1=>∃i,x=.int i/\Q (some i) H1
section
variable {X:Cx}{e:Expr}{te:TE}{lo hi:Option Expr}{tl th:TO}{pos p2:Pos}
theorem uU:PO X none Al:=by
 intro pins s σ H Q I h
 rw [evalPart_none]
 exact wpAny_pure ⟨none,H,I,.none,h⟩
theorem cE (h:PE X e te):PO X (some e) (Dg te):=by
 intro pins s σ H Q I hw
 rw [evalPart_some]
 refine thn (h pins s σ H _ I hw) fun u s1 ⟨x,H1,I1,r1,q1⟩=>?_
 obtain ⟨i,rfl,q⟩:=q1
 obtain ⟨t,rfl⟩:=r1
 exact ⟨some i,H1,I1,.int i t,q⟩
def SlR (X:Cx) (r:V->Option Int->Option Int->Hp->VK->Prop):Prop :=
 ∀(pins:List (Addr × Obj)) (s:Shared) (σ:St) (H:Hp) (x:V) (v vl vu:Value) (lo hi:Option Int) (sl:Addr) (Q:VK),Inv X pins σ H s->RelV x v->s.heap.IsSliceOf sl vl vu .none->IsPart vl lo->IsPart vu hi->r x lo hi H Q ->
  ∃T id,typeLookup (.type T) "__getitem__"=pure (some (.builtin id))/\s.TypeIs v T/\wpAny (model X.prog X.w) X.A (getItem v (.ref sl)) (EP X pins σ Q) X.xe s
theorem SlR.or {r r':V->Option Int->Option Int->Hp->VK->Prop} (h:SlR X r) (h':SlR X r'):SlR X (fun x lo hi H Q=>r x lo hi H Q \/ r' x lo hi H Q):=by
 intro pins s σ H x v vl vu lo hi sl Q I rx hs pl pu q
 rcases q with q | q
 ·exact h pins s σ H x v vl vu lo hi sl Q I rx hs pl pu q
 ·exact h' pins s σ H x v vl vu lo hi sl Q I rx hs pl pu q
def tSl (r:V->Option Int->Option Int->Hp->VK->Prop) (te:TE) (tl th:TO):TE:=fun σ H Q=>te σ H fun x H1=>tl σ H1 fun l H2=>th σ H2 fun u H3=>r x l u H3 Q
theorem eF {r:V->Option Int->Option Int->Hp->VK->Prop} (hr:SlR X r) (he:PE X e te) (hl:PO X lo tl) (hu:PO X hi th):PE X (.Subscript e (.Slice lo hi none p2) pos) (tSl r te tl th):=by
 intro pins s σ H Q I h
 refine Subscript_ (thn (he pins s σ H _ I h) fun v s1 ⟨x,H1,I1,r1,q1⟩=>?_)
 refine wpAny_Slice (thn (hl pins s1 σ H1 _ I1 q1) fun vl s2 ⟨l,H2,I2,pl,q2⟩=>thn (hu pins s2 σ H2 _ I2 q2) fun vu s3 ⟨u,H3,I3,pu,q3⟩=>?_)
 rw [evalPart_none]
 refine wpAny_pure ?_
 have I4:Inv X pins σ H3 { s3 with heap:=s3.heap.push { cls:=.type "slice",data:=.fields #[vl,vu,.none] } }:=I3.kept (t':=s3.toks) fun b ob q=>Heap.get?_push_of_some _ q
 obtain ⟨T,id,hT,ht,hg⟩:=hr pins { s3 with heap:=s3.heap.push { cls:=.type "slice",data:=.fields #[vl,vu,.none] } } σ H3 x v vl vu l u s3.heap.objs.size Q I4 r1 (Heap.IsSliceOf.new ..) pl pu q3
 show wpAny (model X.prog X.w) X.A (subscriptTail e (.Slice lo hi none p2) v (.ref s3.heap.objs.size)) (EP X pins σ Q) X.xe { s3 with heap:=s3.heap.push { cls:=.type "slice",data:=.fields #[vl,vu,.none] } }
 exact tail_any (ops:=[.ref s3.heap.objs.size,v]) ht hT hg (by with_unfolding_all rfl)
def iP (xs:List V) (lo hi:Option Int):List V:=(xs.drop (HT.sIx xs.length 0 lo)).take (HT.sIx xs.length xs.length hi - HT.sIx xs.length 0 lo)
theorem ni (xs:List V) (lo hi:Option Int):(iP xs lo hi).length <= xs.length:=by
 unfold iP
 rw [List.length_take,List.length_drop]
 omega
def BN (K:W.Frag):V->Option Int->Option Int->Hp->VK->Prop:=fun x lo hi H Q=>∃a xs,x=.ref a/\SqT K H a xs /\
 ¬ (HT.sIx xs.length 0 lo=0/\HT.sIx xs.length xs.length hi=xs.length)/\∀p,H p=none->Q (.ref p) (upd H p (.tup (iP xs lo hi)))
theorem Bw:SlR X (BN X.K):=by
 intro pins s σ H x v vl vu lo hi sl Q I rx hs pl pu h
 obtain ⟨a,xs,rfl,hx,hw,q⟩:=h
 cases rx
 obtain ⟨its,r,ht,hz⟩:=I.tuple hx
 have hlen:its.toArray.size=xs.length:=by rw [List.size_toArray];exact r.length.symm
 refine ⟨"tuple",_,PyProof.Rows.slot_tuple_getitem.lookup,ht.typeIs,?_⟩
 refine HT.lW ht hs pl pu (by rw [hlen];exact hw) ?_ (by rw [hlen];exact hz)
 rw [hlen]
 refine ⟨.ref s.heap.objs.size,_,I.laid (t':=s.toks) (o:=.tup (iP xs lo hi)) (fun b ob q=>Heap.get?_push_of_some _ q) (Nat.le_refl _) ?_,rfl,q _ (I.hok.fresh (Nat.le_refl _))⟩
 exact ⟨Nat.le_trans (ni xs lo hi) hz,_,(r.drop (HT.sIx xs.length 0 lo)).take (HT.sIx xs.length xs.length hi - HT.sIx xs.length 0 lo),IsTup.new _ _⟩
end
end L2
namespace L2
open PySem PySem.Spec PyProof.Rows
def ixN (n:Nat) (i:Int):Option Nat:=if 0 <= i then (if i < n then some i.toNat else none) else if -(n:Int) <= i then some (i + n).toNat else none
def atI {α:Type} (xs:List α) (i:Int):Option α:=(ixN xs.length i).bind fun j=>xs[j]?
theorem vc {n:Nat}{i:Int}{j:Nat} (h:ixN n i=some j):seqIndex? i n=some j/\j < n/\-(n:Int) <= i/\i < n:=by
 unfold ixN at h
 by_cases h0:0 <= i
 ·rw [if_pos h0] at h
  by_cases h1:i < n
  ·rw [if_pos h1] at h
   have e:i.toNat=j:=Option.some.inj h
   exact ⟨by rw [seqIndex_of h0 h1,e],by omega,by omega,h1⟩
  ·rw [if_neg h1] at h;cases h
 ·rw [if_neg h0] at h
  by_cases h1:-(n:Int) <= i
  ·rw [if_pos h1] at h
   have e:(i + n).toNat=j:=Option.some.inj h
   exact ⟨by rw [seqIndex_neg (by omega) h1,e],by omega,h1,by omega⟩
  ·rw [if_neg h1] at h;cases h
theorem qL {α:Type}{xs:List α}{i:Int}{v:α} (h:atI xs i=some v):∃j,seqIndex? i xs.length=some j/\xs[j]?=some v/\j < xs.length/\-(xs.length:Int) <= i/\i < xs.length:=by
 unfold atI at h
 cases e:ixN xs.length i with
 | none=>rw [e] at h;cases h
 | some j =>
  rw [e] at h
  obtain ⟨h1,h2,h3,h4⟩:=vc e
  exact ⟨j,h1,h,h2,h3,h4⟩
theorem ee {α:Type}{xs:List α}{j:Nat}{v:α} (h:xs[j]?=some v):atI xs (j:Int)=some v:=by
 have hj:j < xs.length:=(List.getElem?_eq_some_iff.mp h).1
 have e:ixN xs.length (j:Int)=some j:=by
  unfold ixN
  rw [if_pos (by omega),if_pos (by omega)];simp
 unfold atI;rw [e];exact h
def vG (b:Expr):Prop:=∀o i,subscripted b false o i=operate [o,i] (getItem o i)
def IxR (X:Cx) (r:R2):Prop :=
 ∀(value slice:Expr) (pins:List (Addr × Obj)) (s:Shared) (σ:St) (H:Hp) (x y:V) (v u:Value) (Q:VK),Inv X pins σ H s->RelV x v->RelV y u->r x y H Q ->
  subscripted slice false v u=operate [v,u] (getItem v u)->wpAny (model X.prog X.w) X.A (subscriptTail value slice v u) (EP X pins σ Q) X.xe s
def MtR (X:Cx) (id:String) (r:V->List V->Hp->VK->Prop):Prop :=
 ∀(pins:List (Addr × Obj)) (s:Shared) (σ:St) (H:Hp) (x:V) (xs:List V) (v:Value) (us:List Value) (Q:VK),Inv X pins σ H s->RelV x v->Vals xs us->r x xs H Q ->
  wpAny (model X.prog X.w) X.A (call (.builtin id) (v :: us)) (EP X pins σ Q) X.xe s
section
variable {X:Cx}{a b:Expr}{ta tb:TE}{pos:Pos}
theorem Cf {r:R2} (hr:IxR X r) (ha:PE X a ta) (hb:PE X b tb) (hs:vG b):PE X (.Subscript a b pos) (tOp r ta tb):=by
 intro pins s σ H Q I h
 exact Subscript_ (BO ha hb I h fun v u s2 x y H2 I2 rx ry q=>hr a b pins s2 σ H2 x y v u Q I2 rx ry q (hs _ _))
def DQ (K:W.Frag):R2:=fun x y H Q=>∃p xs i v,x=.ref p/\y=.int i/\SqL K H p xs/\atI xs i=some v/\Q v H
def DN (K:W.Frag):R2:=fun x y H Q=>∃p xs i v,x=.ref p/\y=.int i/\SqT K H p xs/\atI xs i=some v/\Q v H
def Dv:R2:=fun x y H Q=>∃z i c,x=.str z/\y=.int i/\z.length <= sizeLine/\atI z.cps.toList i=some c/\Q (.str ⟨#[c]⟩) H
theorem zV:IxR X (DQ X.K):=by
 intro value slice pins s σ H x y v u Q I rx ry h hs
 obtain ⟨p,xs,i,z,rfl,rfl,hq,he,q⟩:=h
 cases rx
 obtain ⟨t,rfl⟩:=ry
 obtain ⟨its,r,pl,hz⟩:=I.list hq
 obtain ⟨j,h1,h2,h3,h4,h5⟩:=qL he
 obtain ⟨w,ew,rw'⟩:=r.get h2
 have hl:=r.length
 have hn:=mP
 have fin:EP X pins σ Q w s:=⟨z,H,I,rw',q⟩
 by_cases h0:0 <= i
 ·have hj:i.toNat=j:=by
   rw [seqIndex_of h0 h5] at h1
   exact Option.some.inj h1
  exact item_listR pl.isList h0 (by omega) (by rw [hj];simpa using ew) fin hs
 ·have hj:(i + (its.toArray.size:Int)).toNat=j:=by
   rw [seqIndex_neg (by omega) h4] at h1
   rw [List.size_toArray,<- hl]
   exact Option.some.inj h1
  exact subscriptTail_builtinR (x:=w) pl.isList.typeIs slot_list_getitem.lookup
   (wpAny_getItem_list_neg (Q:=fun r s'=>r=w/\EP X pins σ Q r s') pl.isList (by omega) (by rw [List.size_toArray] <;> omega) (by omega) (by rw [hj];simpa using ew) ⟨rfl,fin⟩) hs
theorem AS:IxR X (DN X.K):=by
 intro value slice pins s σ H x y v u Q I rx ry h hs
 obtain ⟨p,xs,i,z,rfl,rfl,hq,he,q⟩:=h
 cases rx
 obtain ⟨t,rfl⟩:=ry
 obtain ⟨its,r,pl,hz⟩:=I.tuple hq
 obtain ⟨j,h1,h2,h3,h4,h5⟩:=qL he
 obtain ⟨w,ew,rw'⟩:=r.get h2
 have hl:=r.length
 have hn:=mP
 have fin:EP X pins σ Q w s:=⟨z,H,I,rw',q⟩
 exact subscriptTail_builtinR (x:=w) pl.typeIs slot_tuple_getitem.lookup
  (getItem_tuple (j:=j) (Q:=fun r s'=>r=w/\EP X pins σ Q r s') pl (by omega) (by omega) (by rw [List.size_toArray,<- hl];exact h1) (by simpa using ew) ⟨rfl,fin⟩) hs
theorem BF:IxR X Dv:=by
 intro value slice pins s σ H x y v u Q I rx ry h hs
 obtain ⟨z,i,c,rfl,rfl,hz,he,q⟩:=h
 obtain ⟨t,rfl⟩:=rx
 obtain ⟨t',rfl⟩:=ry
 obtain ⟨j,h1,h2,h3,h4,h5⟩:=qL he
 have hl:z.cps.toList.length=z.length:=by simp [Str.length]
 rw [hl] at h1 h4 h5
 have hn:=mP
 exact tail_any (typeIs_str s z t) slot_str_getitem.lookup (getItem_str (c:=c) (by
  have e1:decide (i < -(2 ^ 63:Int))=false:=decide_eq_false (by omega)
  have e2:decide (i ≥ 2 ^ 63)=false:=decide_eq_false (by omega)
  rw [e1,e2,Bool.or_false]) (by rw [h1];simpa using h2) ⟨.str ⟨#[c]⟩,H,I.tok _,⟨_,rfl⟩,q⟩) hs
theorem tK (its:List Value) (n j:Nat) (u:Value):Obj.mapSeq (·.setIfInBounds j u) { cls:=.type "list",data:=.seq its.toArray n }={ cls:=.type "list",data:=.seq (its.set j u).toArray n }:=by
 simp [Obj.mapSeq]
theorem Inv.lst {pins:List (Addr × Obj)}{σ:St}{H:Hp}{s:Shared}{p:Addr}{xs:List V} (I:Inv X pins σ H s) (h:H p=some (.lst xs)) :
  ∃(its:List Value) (n:Nat),Vals xs its/\s.heap.get? p=some { cls:=.type "list",data:=.seq its.toArray n }/\xs.length <= sizeLine:=by
 obtain ⟨z,its,n,r,e⟩:=I.hok p _ h
 exact ⟨its,n,r,e,z⟩
theorem Inv.BQ {pins:List (Addr × Obj)}{σ:St}{H:Hp}{s:Shared}{p:Addr}{xs ys:List V}{its its':List Value}{n n':Nat}{f:Obj->Obj} (I:Inv X pins σ H s) (h:H p=some (.lst xs))
  (ho:s.heap.get? p=some { cls:=.type "list",data:=.seq its.toArray n }) (hf:f { cls:=.type "list",data:=.seq its.toArray n }={ cls:=.type "list",data:=.seq its'.toArray n' }) (r:Vals ys its') (hz:ys.length <= sizeLine) (t:Nat) :
  Inv X pins σ (upd H p (.lst ys)) { s with heap:=s.heap.update p f,toks:=t }:=by
 have e:(s.heap.update p f).get? p=some { cls:=.type "list",data:=.seq its'.toArray n' }:=by
  rw [Heap.get?_update_self f ho (by rw [hf] <;> rfl),hf]
 refine I.write (x:=p) (e:=p) (by rw [h];trivial) (.inl rfl) (fun b u hb q=>(Heap.get?_update_other _ _ (Ne.symm hb)).trans q) ⟨_,e⟩ ?_
 exact ⟨hz,its',n',r,e⟩
def Au:V->V->V->Hp->(Hp->Prop)->Prop:=fun o i v H Q=>∃p xs k j,o=.ref p/\i=.int k/\H p=some (.lst xs)/\ixN xs.length k=some j/\Q (upd H p (.lst (xs.set j v)))
theorem set_list:xu X Au:=by
 intro pins s σ H o i v ov iv u Q I ro ri rv h
 obtain ⟨p,xs,k,j,rfl,rfl,hp,hj,q⟩:=h
 cases ro
 obtain ⟨t,rfl⟩:=ri
 obtain ⟨its,n,r,ho,hz⟩:=I.lst hp
 obtain ⟨h1,h2,h3,h4⟩:=vc hj
 have hl:=r.length
 have hn:=mP
 have I':Inv X pins σ (upd H p (.lst (xs.set j v))) { s with heap:=s.heap.update p (Obj.mapSeq (·.setIfInBounds j u)) } :=
  I.BQ hp ho (tK its n j u) (r.set rv j) (by rw [List.length_set];exact hz) s.toks
 by_cases h0:0 <= k
 ·have hk:k.toNat=j:=by
   rw [seqIndex_of h0 h4] at h1
   exact Option.some.inj h1
  exact W.ki_setAt ho h0 (by omega) (by rw [List.size_toArray,<- hl];exact h4) (by rw [hk];exact ⟨_,I',q⟩)
 ·have hk:(k + (its.toArray.size:Int)).toNat=j:=by
   rw [seqIndex_neg (by omega) h3] at h1
   rw [List.size_toArray,<- hl]
   exact Option.some.inj h1
  exact W.ki_setBack ho (by omega) (by rw [List.size_toArray,<- hl];exact h3) (by omega) (by rw [hk];exact ⟨_,I',q⟩)
theorem rJ (lo hi:Option Int) (n:Nat):(sliceBounds lo hi none n).1=((HT.sIx n 0 lo:Nat):Int)/\(sliceBounds lo hi none n).2.1=((HT.sIx n n hi:Nat):Int)/\(sliceBounds lo hi none n).2.2=1:=by
 refine ⟨?_,?_,rfl⟩
 ·cases lo with
  | none=>simp [sliceBounds,HT.sIx]
  | some i =>
   simp only [sliceBounds,HT.sIx,Option.getD_none,show (1:Int) > 0 by decide,if_true]
   by_cases h:i < 0
   ·simp only [h,if_true] <;> omega
   ·simp only [h,if_false] <;> omega
 ·cases hi with
  | none=>simp [sliceBounds,HT.sIx]
  | some i =>
   simp only [sliceBounds,HT.sIx,Option.getD_none,show (1:Int) > 0 by decide,if_true]
   by_cases h:i < 0
   ·simp only [h,if_true] <;> omega
   ·simp only [h,if_false] <;> omega
theorem pL (its:List Value) (lo hi:Option Int):slicePick its.toArray lo hi none=((its.drop (HT.sIx its.length 0 lo)).take (HT.sIx its.length its.length hi - HT.sIx its.length 0 lo)).toArray:=by
 obtain ⟨h1,h2,h3⟩:=rJ lo hi its.toArray.size
 unfold slicePick
 rw [h1,h2,h3]
 simp only [sliceRange_one,pick_run,List.size_toArray] <;> rfl
def AU (K:W.Frag):V->Option Int->Option Int->Hp->VK->Prop:=fun x lo hi H Q=>∃a xs,x=.ref a/\SqL K H a xs/\∀p,H p=none->Q (.ref p) (upd H p (.lst (iP xs lo hi)))
theorem zk:SlR X (AU X.K):=by
 intro pins s σ H x v vl vu lo hi sl Q I rx hs pl pu h
 obtain ⟨a,xs,rfl,hx,q⟩:=h
 cases rx
 obtain ⟨its,r,ht,hz⟩:=I.list hx
 have hlen:=r.length
 refine ⟨"list",_,slot_list_getitem.lookup,ht.isList.typeIs,?_⟩
 refine wpAny_getItem_list_slice ht.isList hs pl pu .none (by simp) ?_ (by rw [List.size_toArray] <;> omega)
 rw [pL,<- hlen]
 refine ⟨.ref s.heap.objs.size,_,I.laid (t':=s.toks) (o:=.lst (iP xs lo hi)) (fun b ob q=>Heap.get?_push_of_some _ q) (Nat.le_refl _) ?_,rfl,q _ (I.hok.fresh (Nat.le_refl _))⟩
 exact ⟨Nat.le_trans (ni xs lo hi) hz,_,0,(r.drop (HT.sIx xs.length 0 lo)).take (HT.sIx xs.length xs.length hi - HT.sIx xs.length 0 lo),Heap.get?_push_size _ rfl⟩
def kY:V->Bool
 | .non=>true
 | .bl _=>true
 | .int _=>true
 | .str _=>true
 | _=>false
def eqV:V->V->Bool
 | .non,.non=>true
 | .bl a,.bl b=>a == b
 | .bl a,.int b=>(if a then 1 else 0) == b
 | .int a,.bl b=>a == (if b then 1 else 0)
 | .int a,.int b=>a == b
 | .str a,.str b=>a == b
 | _,_=>false
theorem Br {A:Around}{s:Shared}{y x:V}{u v:Value} (ry:RelV y u) (rx:RelV x v) (fy:kY y=true) (fx:kY x=true):SeqAt.EqAt A s u v (eqV y x):=by
 cases y with
 | non =>
  cases ry
  cases x with
  | non=>cases rx;exact SeqAt.EqAt.same _
  | bl b=>cases rx;exact SeqAt.EqAt.none_bool b
  | int b=>obtain ⟨t,rfl⟩:=rx;exact SeqAt.EqAt.none_int b t
  | str b=>obtain ⟨t,rfl⟩:=rx;exact SeqAt.EqAt.none_str b t
  | _=>exact absurd (show false=true from fx) Bool.false_ne_true
 | bl a =>
  cases ry
  cases x with
  | non=>cases rx;exact SeqAt.EqAt.bool_none a
  | bl b=>cases rx;exact SeqAt.EqAt.bool_bool a b
  | int b=>obtain ⟨t,rfl⟩:=rx;exact SeqAt.EqAt.bool_int a b t
  | str b=>obtain ⟨t,rfl⟩:=rx;exact SeqAt.EqAt.bool_str a b t
  | _=>exact absurd (show false=true from fx) Bool.false_ne_true
 | int a =>
  obtain ⟨t',rfl⟩:=ry
  cases x with
  | non=>cases rx;exact SeqAt.EqAt.int_none a t'
  | bl b=>cases rx;exact SeqAt.EqAt.int_bool a t' b
  | int b=>obtain ⟨t,rfl⟩:=rx;exact SeqAt.EqAt.int_int a t' b t
  | str b=>obtain ⟨t,rfl⟩:=rx;exact SeqAt.EqAt.int_str a t' b t
  | _=>exact absurd (show false=true from fx) Bool.false_ne_true
 | str a =>
  obtain ⟨t',rfl⟩:=ry
  cases x with
  | non=>cases rx;exact SeqAt.EqAt.str_none a t'
  | bl b=>cases rx;exact SeqAt.EqAt.str_bool a t' b
  | int b=>obtain ⟨t,rfl⟩:=rx;exact SeqAt.EqAt.str_int a t' b t
  | str b=>obtain ⟨t,rfl⟩:=rx;exact SeqAt.EqAt.str_str a t' b t
  | _=>exact absurd (show false=true from fx) Bool.false_ne_true
 | _=>exact absurd (show false=true from fy) Bool.false_ne_true
def eqU (x:V) (u:Value):Bool:=match u with
 | .none=>eqV .non x
 | .bool b=>eqV (.bl b) x
 | .int i _=>eqV (.int i) x
 | .str z _=>eqV (.str z) x
 | _=>false
theorem xQ {x y:V}{u:Value} (r:RelV y u) (f:kY y=true):eqU x u=eqV y x:=by
 cases y with
 | non=>cases r;rfl
 | bl b=>cases r;rfl
 | int i=>obtain ⟨t,rfl⟩:=r;rfl
 | str z=>obtain ⟨t,rfl⟩:=r;rfl
 | _=>exact absurd (show false=true from f) Bool.false_ne_true
theorem mi {x:V}:∀{xs:List V}{us:List Value},Vals xs us->xs.all kY=true->us.any (eqU x)=xs.any fun y=>eqV y x
 | _,_,.nil,_=>rfl
 | y :: xs,u :: us,.cons r t,f=>by
  rw [List.all_cons,Bool.and_eq_true] at f
  rw [List.any_cons,List.any_cons,xQ r f.1,mi t f.2]
theorem j5 {A:Around}{s:Shared}{x:V}{v:Value} (rx:RelV x v) (fx:kY x=true):∀{xs:List V}{us:List Value},Vals xs us->xs.all kY=true->∀u ∈ us,SeqAt.EqAt A s u v (eqU x u)
 | _,_,.nil,_=>fun u hu=>by cases hu
 | y :: xs,u :: us,.cons r t,f=>fun u' hu=>by
  rw [List.all_cons,Bool.and_eq_true] at f
  rcases List.mem_cons.mp hu with rfl | hu
  ·rw [xQ r f.1];exact Br r rx f.1 fx
  ·exact j5 rx fx t f.2 u' hu
def inV (x:V) (xs:List V):Bool:=xs.any fun y=>eqV y x
def rIn (K:W.Frag) (neg:Bool):R2:=fun x y H Q=>∃p xs,y=.ref p/\(SqL K H p xs \/ SqT K H p xs)/\kY x=true/\xs.all kY=true/\Q (.bl (if neg then !inV x xs else inV x xs)) H
theorem vJ:OpR X (compareOp .In) (rIn X.K false):=by
 intro pins s σ H x y v u Q I rx ry h
 obtain ⟨p,xs,rfl,hq,fx,fs,q⟩:=h
 cases ry
 rcases hq with hq | hq
 ·obtain ⟨its,r,pl,hz⟩:=I.list hq
  refine SeqAt.in_listAt (eqU x) pl.isList (fun w hw=>j5 rx fx r fs w (by simpa using hw)) ⟨.bl _,H,I,rfl,?_⟩
  rw [show its.toArray.any (eqU x)=its.any (eqU x) by simp,mi r fs]
  exact q
 ·obtain ⟨its,r,pl,hz⟩:=I.tuple hq
  refine SeqAt.in_tupleAt (eqU x) pl (fun w hw=>j5 rx fx r fs w (by simpa using hw)) ⟨.bl _,H,I,rfl,?_⟩
  rw [show its.toArray.any (eqU x)=its.any (eqU x) by simp,mi r fs]
  exact q
theorem rq:OpR X (compareOp .NotIn) (rIn X.K true):=by
 intro pins s σ H x y v u Q I rx ry h
 obtain ⟨p,xs,rfl,hq,fx,fs,q⟩:=h
 cases ry
 rcases hq with hq | hq
 ·obtain ⟨its,r,pl,hz⟩:=I.list hq
  refine SeqAt.notIn_listAt (eqU x) pl.isList (fun w hw=>j5 rx fx r fs w (by simpa using hw)) ⟨.bl _,H,I,rfl,?_⟩
  rw [show its.toArray.any (eqU x)=its.any (eqU x) by simp,mi r fs]
  exact q
 ·obtain ⟨its,r,pl,hz⟩:=I.tuple hq
  refine SeqAt.notIn_tupleAt (eqU x) pl (fun w hw=>j5 rx fx r fs w (by simpa using hw)) ⟨.bl _,H,I,rfl,?_⟩
  rw [show its.toArray.any (eqU x)=its.any (eqU x) by simp,mi r fs]
  exact q
theorem rh:OpR X (compareOp .NotIn) (fun x y H Q=>∃i j,x=.str i/\y=.str j/\Q (.bl (!(!(Builtin.Str.occurrences j i 0 j.length 1).isEmpty))) H):=by
 intro pins s σ H x y v u Q I rx ry h
 obtain ⟨i,j,rfl,rfl,q⟩:=h
 obtain ⟨t,rfl⟩:=rx
 obtain ⟨t',rfl⟩:=ry
 exact notIn_str ⟨.bl _,H,I,rfl,q⟩
theorem eJ.or {f:Value}{r r':List V->Hp->VK->Prop} (h:eJ X f r) (h':eJ X f r'):eJ X f (fun xs H Q=>r xs H Q \/ r' xs H Q):=by
 intro pins s σ H xs us Q I rs q
 rcases q with q | q
 ·exact h pins s σ H xs us Q I rs q
 ·exact h' pins s σ H xs us Q I rs q
theorem rA:eJ X (.type "list") (fun xs H Q=>∃p ys,xs=[.ref p]/\(SqL X.K H p ys \/ SqT X.K H p ys)/\∀l,H l=none->Q (.ref l) (upd H l (.lst ys))):=by
 intro pins s σ H xs us Q I r h
 obtain ⟨p,ys,rfl,hq,q⟩:=h
 obtain ⟨u,rfl,rx⟩:=vals1 r
 cases rx
 have fin:∀(its:List Value),Vals ys its->ys.length <= sizeLine->∀(h':Heap) (c':Nat),(∀b o',s.heap.get? b=some o'->h'.get? b=some o') ->
   h'.get? s.heap.objs.size=some { cls:=.type "list",dict:=none,data:=.seq its.toArray c',slots:=#[] }->EP X pins σ Q (.ref s.heap.objs.size) { s with heap:=h' }:=fun its r' hz h' c' kp e =>
  ⟨.ref s.heap.objs.size,_,I.laid (t':=s.toks) kp (Nat.le_refl _) (show cW X.prog X.w _ h' _ (.lst ys) from ⟨hz,its,c',r',e⟩),rfl,q _ (I.hok.fresh (Nat.le_refl _))⟩
 rcases hq with hq | hq
 ·obtain ⟨its,r',pl,hz⟩:=I.list hq
  have hlen:=r'.length
  obtain ⟨o,ho,hc,n,hd⟩:=pl.isList
  exact call_list_seq p (.inl rfl) ho hc hd (fun h' c' kp e=>fin its r' hz h' c' kp e) (by simp only [List.size_toArray] <;> omega)
 ·obtain ⟨its,r',pl,hz⟩:=I.tuple hq
  have hlen:=r'.length
  obtain ⟨o,ho,hc,n,hd⟩:=pl
  exact call_list_seq p (.inr rfl) ho hc hd (fun h' c' kp e=>fin its r' hz h' c' kp e) (by simp only [List.size_toArray] <;> omega)
def tyV (K:W.Frag) (T:String) (x:V) (H:Hp):Prop:=match x with
 | .str _=>T="str"
 | .int _=>T="int"
 | .ref p=>(T="list"/\∃xs,SqL K H p xs) \/ (T="tuple"/\∃o,K.lookup p=some o/\o.cls=.type "tuple"/\o.dict=none) \/
   (T="dict"/\((∃kvs,H p=some (.dK kvs)) \/ ∃kvs,H p=some (.dT kvs))) \/ (T="set"/\∃S n,H p=some (.set S n))
 | _=>False
theorem yu {pins:List (Addr × Obj)}{σ:St}{H:Hp}{s:Shared}{T:String}{x:V}{v:Value} (I:Inv X pins σ H s) (r:RelV x v) (ty:tyV X.K T x H) :
  s.TypeIs v T/\∀a,v=.ref a->∃ob,s.heap.get? a=some ob/\ob.dict=none:=by
 cases x with
 | str z =>
  obtain ⟨t,rfl⟩:=r
  cases (show T="str" from ty)
  exact ⟨typeIs_str s z t,fun _ e=>nomatch e⟩
 | int i =>
  obtain ⟨t,rfl⟩:=r
  cases (show T="int" from ty)
  exact ⟨typeIs_int s i t,fun _ e=>nomatch e⟩
 | ref p =>
  cases r
  rcases ty with ⟨rfl,xs,hq⟩ | ⟨rfl,o,hk,hc,hd⟩ | ⟨rfl,hk⟩ | ⟨rfl,S,n,hk⟩
  ·obtain ⟨its,_,pl,_⟩:=I.list hq
   refine ⟨pl.isList.typeIs,fun a e=>?_⟩
   cases e
   obtain ⟨o,n,e,c,hd,_⟩:=pl
   exact ⟨o,e,hd⟩
  ·refine ⟨⟨o,I.kIn p o hk,hc⟩,fun a e=>?_⟩
   cases e
   exact ⟨o,I.kIn _ o hk,hd⟩
  ·have z:∃o,s.heap.get? p=some o/\o.ExactDict:=by
    rcases hk with ⟨kvs,hk⟩ | ⟨kvs,hk⟩
    ·obtain ⟨_,_,_,_,o,_,_,e,ex,_⟩:=I.hok p _ hk
     exact ⟨o,e,ex⟩
    ·obtain ⟨_,_,_,_,o,_,_,e,ex,_⟩:=I.hok p _ hk
     exact ⟨o,e,ex⟩
   obtain ⟨o,e,ex⟩:=z
   refine ⟨⟨o,e,ex.1⟩,fun a e2=>?_⟩
   cases e2
   exact ⟨o,e,ex.2.1⟩
  ·obtain ⟨o,_,_,_,e,ex,_⟩:=I.hok p _ hk
   refine ⟨⟨o,e,ex.1⟩,fun a e2=>?_⟩
   cases e2
   exact ⟨o,e,ex.2.1⟩
 | _=>exact False.elim ty
def Dr (K:W.Frag) (T:String) (r:V->List V->Hp->VK->Prop) (to:TE):TE:=fun σ H Q=>to σ H fun x H1=>tyV K T x H1/\r x [] H1 Q
def tBM (K:W.Frag) (T:String) (r:V->List V->Hp->VK->Prop) (to:TE) (t:TA):TE:=fun σ H Q=>to σ H fun x H1=>tyV K T x H1/\t σ H1 fun xs H2=>r x xs H2 Q
variable {o e:Expr}{es:List Expr}{to:TE}{t:TA}{name:Str}{apos cpos:Pos}{T id:String}{r:V->List V->Hp->VK->Prop}
theorem AM (pa:PlainAttrs T) (slot:Slot T name id) (hty:typeOf (.builtin id)=pure (.type "method_descriptor")) (hm:MtR X id r) (ho:PE X o to)
  (hbase:attributeBase o name X.env (eval o X.env)=eval o X.env:=by rfl) (hline:(apos.endLine == cpos.line)=true:=by rfl):PE X (.Call (.Attribute o name apos) [] [] cpos) (Dr X.K T r to):=by
 intro pins s σ H Q I h
 refine wpAny_Call_method0_late hbase hline (thn (ho pins s σ H _ I h) fun v s1 ⟨x,H1,I1,r1,ty,q1⟩=>?_)
 obtain ⟨h1,h2⟩:=yu I1 r1 ty
 exact ⟨T,id,pa,slot,hty,h1,h2,Calls.callWith_builtin rfl (PySem.evalArgs_none (hm pins s1 σ H1 x [] v [] Q I1 r1 .nil q1))⟩
theorem xV (pa:PlainAttrs T) (slot:Slot T name id) (hty:typeOf (.builtin id)=pure (.type "method_descriptor")) (hm:MtR X id r) (ho:PE X o to) (ha:PA X (e :: es) t)
  (hbase:attributeBase o name X.env (eval o X.env)=eval o X.env:=by rfl)
  (hfew:((backTo cpos (starEach (e :: es) X.env)).all (fun x=>!x.1) && (backToKw cpos (keywordEach [] X.env)).all (fun x=>x.1.isSome)
   && decide ((e :: es).length + ([]:List Keyword).length + (if ([]:List Keyword).isEmpty then 0 else 1) < 30))=true:=by rfl)
  (hline:(apos.endLine == cpos.line)=true:=by rfl) (hs:starEach (e :: es) X.env=(false,eval e X.env) :: starEach es X.env:=by rfl) (hplain:(backTo cpos (starEach es X.env)).any (·.1)=false:=by rfl) :
  PE X (.Call (.Attribute o name apos) (e :: es) [] cpos) (tBM X.K T r to t):=by
 intro pins s σ H Q I h
 refine wpAny_Call_method_late hbase hfew hline rfl (thn (ho pins s σ H _ I h) fun v s1 ⟨x,H1,I1,r1,ty,q1⟩=>?_)
 obtain ⟨h1,h2⟩:=yu I1 r1 ty
 refine ⟨T,id,pa,slot,hty,h1,h2,?_⟩
 have hA:=ha cpos pins s1 σ H1 _ I1 q1
 rw [hs] at hA ⊢
 refine Calls.callWith_builtin (by show (false || (backTo cpos (starEach es X.env)).any (·.1))=false;rw [hplain] <;> rfl) (Calls.evalArgs_plain ?_)
 exact thn hA fun us s2 ⟨vs,H2,I2,r2,q2⟩=>hm pins s2 σ H2 x vs v us Q I2 r1 r2 q2
end
end L2
namespace L2
open PySem PySem.Spec PyProof.Rows
def MtM (X:Cx) (id:String) (r:V->List V->Hp->VK->Prop):Prop :=
 ∀(pins:List (Addr × Obj)) (s:Shared) (σ:St) (H:Hp) (x:V) (xs:List V) (v:Value) (us:List Value) (Q:VK),Inv X pins σ H s->RelV x v->Vals xs us->r x xs H Q ->
  wpAny (model X.prog X.w) X.A (call (.builtin id) (v :: us)) (EP X pins σ Q) X.xe s
theorem Vals.one:∀{x:V}{us:List Value},Vals [x] us->∃u,us=[u]/\RelV x u
 | _,_,.cons r .nil=>⟨_,rfl,r⟩
theorem Vals.zero:∀{us:List Value},Vals [] us->us=[]
 | _,.nil=>rfl
theorem Vals.dropLast {xs:List V}{us:List Value} (h:Vals xs us):Vals xs.dropLast us.dropLast:=by
 induction h with
 | nil=>exact .nil
 | cons r t ih =>
  cases t with
  | nil=>exact .nil
  | cons q t'=>exact .cons r ih
theorem Vals.rep {xs:List V}{us:List Value} (h:Vals xs us):∀k:Nat,Vals (List.replicate k xs).flatten (List.replicate k us).flatten
 | 0=>.nil
 | k + 1=>by
  rw [List.replicate_succ,List.replicate_succ,List.flatten_cons,List.flatten_cons]
  exact Vals.append h (Vals.rep h k)
theorem uH {α:Type} (l:List α):l.eraseIdx (l.length - 1)=l.dropLast:=by
 induction l with
 | nil=>rfl
 | cons a r ih =>
  cases r with
  | nil=>rfl
  | cons b r =>
   have e:(a :: b :: r).length - 1=((b :: r).length - 1) + 1:=by
    have h1:(a :: b :: r).length=r.length + 2:=rfl
    have h2:(b :: r).length=r.length + 1:=rfl
    omega
   rw [e,List.eraseIdx_cons_succ,ih]
   all_goals rfl
theorem foldl_rep (its:List Value):∀(k:Nat) (acc:List Value),
  List.foldl (fun x1 x2=>x1 ++ x2) acc.toArray (List.replicate k its.toArray)=(acc ++ (List.replicate k its).flatten).toArray
 | 0,acc=>by simp
 | k + 1,acc=>by
  have e:acc.toArray ++ its.toArray=(acc ++ its).toArray:=by simp
  have e2:(acc ++ its) ++ (List.replicate k its).flatten=acc ++ (List.replicate (k + 1) its).flatten:=by
   rw [List.replicate_succ,List.flatten_cons,List.append_assoc]
  rw [<- e2,<- foldl_rep its k (acc ++ its),<- e,List.replicate_succ,List.foldl_cons]
section
variable {X:Cx}{pins:List (Addr × Obj)}{σ:St}{H:Hp}{s:Shared}{l b:Addr}{xs ys zs:List V}
theorem Inv.C5 {its its':List Value}{n:Nat}{f:Array Value->Array Value}{t':Nat} (I:Inv X pins σ H s) (hH:H l=some (.lst xs))
  (e:s.heap.get? l=some { cls:=.type "list",data:=.seq its.toArray n }) (hf:f its.toArray=its'.toArray) (hv:Vals ys its') (hz:ys.length <= sizeLine) :
  Inv X pins σ (upd H l (.lst ys)) { s with heap:=s.heap.update l (Obj.mapSeq f),toks:=t' }:=by
 have q:=PySem.IsL.update e f
 rw [hf] at q
 refine I.write (x:=l) (e:=l) (by rw [hH];exact trivial) (.inl rfl) (fun b' u hb hu=>(Heap.get?_update_other s.heap (Obj.mapSeq f) (Ne.symm hb)).trans hu) ⟨_,q⟩ ?_
 exact ⟨hz,its',_,hv,q⟩
theorem Inv.Bq {its:List Value}{t':Nat} (I:Inv X pins σ H s) (hv:Vals ys its) (hz:ys.length <= sizeLine) :
  Inv X pins σ (upd H s.heap.objs.size (.lst ys)) { s with heap:=s.heap.push { cls:=.type "list",data:=.seq its.toArray },toks:=t' } :=
 I.laid (fun _ _ q=>Heap.get?_push_of_some _ q) (Nat.le_refl _) ⟨hz,its,0,hv,Heap.get?_push_size _ rfl⟩
theorem Inv.fresh (I:Inv X pins σ H s):H s.heap.objs.size=none:=I.hok.fresh (Nat.le_refl _)
theorem Inv.ym (I:Inv X pins σ H s) (hH:H l=some (.lst xs)):xs.length <= sizeLine/\∃(its:List Value) (n:Nat),Vals xs its/\xs.length=its.length/\s.heap.get? l=some { cls:=.type "list",data:=.seq its.toArray n }:=by
 obtain ⟨z,its,n,r,e⟩:=I.hok l _ hH
 exact ⟨z,its,n,r,r.length,e⟩
theorem yU {n:Nat} (h:n <= sizeLine):Builtin.List.listTooLong n=false:=by
 unfold Builtin.List.listTooLong
 exact decide_eq_false (by omega)
end
section
variable {X:Cx}
def uY:V->List V->Hp->VK->Prop:=fun x vs H Q=>∃l xs y,x=.ref l/\vs=[y]/\H l=some (.lst xs)/\xs.length < sizeLine/\Q .non (upd H l (.lst (xs ++ [y])))
theorem qr:MtM X "list.append" uY:=by
 intro pins s σ H x vs v us Q I rx rv h
 obtain ⟨l,xs,y,rfl,rfl,hH,hz,q⟩:=h
 cases rx
 obtain ⟨u,rfl,ru⟩:=rv.one
 obtain ⟨z,its,n,r,hl,e⟩:=I.ym hH
 refine call_meets F.slot_list_append ⟨_,e,rfl⟩ F.entry_list_append (F.args_list_append_2 _ _) (PySem.list_append l its.toArray n u (by rw [List.size_toArray];omega)) ⟨e,?_⟩
 refine ⟨.non,_,I.C5 (its':=its ++ [u]) hH e (by simp) (r.append (.cons ru .nil)) ?_,rfl,q⟩
 rw [List.length_append,List.length_singleton]
 omega
def Df:V->List V->Hp->VK->Prop:=fun x vs H Q=>∃l xs y,x=.ref l/\vs=[]/\H l=some (.lst xs)/\xs[xs.length - 1]?=some y/\Q y (upd H l (.lst xs.dropLast))
theorem AX:MtM X "list.pop" Df:=by
 intro pins s σ H x vs v us Q I rx rv h
 obtain ⟨l,xs,y,rfl,rfl,hH,hy,q⟩:=h
 cases rx
 have hus:=rv.zero
 subst hus
 obtain ⟨z,its,n,r,hl,e⟩:=I.ym hH
 obtain ⟨u,hu,ru⟩:=r.get hy
 have hy':its.toArray[its.toArray.size - 1]?=some u:=by
  show its.toArray[its.length - 1]?=some u
  rw [<- Array.getElem?_toList,<- hl]
  exact hu
 refine call_meets F.slot_list_pop ⟨_,e,rfl⟩ F.entry_list_pop (F.args_list_pop_1 _) (MeetsSeq.list_pop_last l its.toArray n u hy' (by rw [List.size_toArray];omega)) ⟨e,?_⟩
 refine ⟨y,_,I.C5 (its':=its.dropLast) hH e ?_ r.dropLast ?_,ru,q⟩
 ·show its.toArray.eraseIdxIfInBounds (its.toArray.size - 1)=its.dropLast.toArray
  rw [List.size_toArray,List.eraseIdxIfInBounds_toArray,uH]
 ·rw [List.length_dropLast]
  omega
def Dn:R2:=fun x y H Q=>∃l b xs zs,x=.ref l/\y=.ref b/\H l=some (.lst xs)/\H b=some (.lst zs)/\xs.length + zs.length <= sizeLine/\∀p,H p=none->Q (.ref p) (upd H p (.lst (xs ++ zs)))
theorem Bj:OpR X (binaryOp .Add) Dn:=by
 intro pins s σ H x y v u Q I rx ry h
 obtain ⟨l,b,xs,zs,rfl,rfl,hH,hB,hz,q⟩:=h
 cases rx
 cases ry
 obtain ⟨z,its,n,r,hl,e⟩:=I.ym hH
 obtain ⟨z2,its2,n2,r2,hl2,e2⟩:=I.ym hB
 refine PySem.P.add_list e e2 ?_ (by rw [List.size_toArray,List.size_toArray];omega)
 have ea:its.toArray ++ its2.toArray=(its ++ its2).toArray:=by simp
 rw [ea]
 exact ⟨.ref _,_,I.Bq (t':=s.toks) (r.append r2) (by rw [List.length_append];omega),rfl,q _ I.fresh⟩
def DS:R2:=fun x y H Q=>∃l k xs,x=.ref l/\y=.int k/\H l=some (.lst xs)/\-(2 ^ 63) <= k/\k < 2 ^ 63/\xs.length * k.toNat <= sizeLine /\
 ∀p,H p=none->Q (.ref p) (upd H p (.lst (List.replicate k.toNat xs).flatten))
theorem len_rep {α:Type} (xs:List α) (k:Nat):(List.replicate k xs).flatten.length=k * xs.length:=by
 induction k with
 | zero=>simp
 | succ k ih=>rw [List.replicate_succ,List.flatten_cons,List.length_append,ih,Nat.succ_mul,Nat.add_comm]
theorem BB:OpR X (binaryOp .Mult) DS:=by
 intro pins s σ H x y v u Q I rx ry h
 obtain ⟨l,k,xs,rfl,rfl,hH,h1,h2,hz,q⟩:=h
 cases rx
 obtain ⟨t,rfl⟩:=ry
 obtain ⟨z,its,n,r,hl,e⟩:=I.ym hH
 have hlen:its.toArray.size * k.toNat <= sizeLine:=by rw [List.size_toArray,<- hl];exact hz
 have hcap:¬ its.toArray.size * k.toNat > (2 ^ 63 - 1) / 8:=by
  have:(sizeLine:Nat) <= (2 ^ 63 - 1) / 8:=by decide
  omega
 have hfit:¬ (!Builtin.List.listFitsIndex k)=true:=by
  rw [fitsIndex_both h1 h2]
  exact Bool.false_ne_true
 have hlong:¬ Builtin.List.listTooLong (its.toArray.size * k.toNat)=true:=by
  rw [yU hlen]
  exact Bool.false_ne_true
 have hnew:List.foldl (fun x1 x2=>x1 ++ x2) #[] (List.replicate (if its.toArray.isEmpty=true then 0 else k.toNat) its.toArray)=(List.replicate k.toNat its).flatten.toArray:=by
  have f0:∀m:Nat,List.foldl (fun x1 x2=>x1 ++ x2) #[] (List.replicate m its.toArray)=(List.replicate m its).flatten.toArray:=fun m=>by
   have:=foldl_rep its m []
   rw [List.nil_append] at this
   exact this
  rw [f0]
  cases its with
  | nil=>simp
  | cons a r'=>rw [if_neg (by simp)]
 refine wpAny_binaryOp_repeat_ref (T:="list") (U:="int") (by decide) ⟨_,e,rfl⟩ (fun s'=>typeIs_int s' k t) noFill_list_mul F.fills_int_mul F.slot_int_rmul repeat_list F.slot_int_index.lookup
  (call_meets F.slot_int_rmul (typeIs_int s k t) F.entry_int_rmul (F.args_int_rmul_2 _ _) (int___rmul___int_list k t l its.toArray n)
   ⟨e,rfl,⟨_,e,rfl⟩,call_meets F.slot_list_mul ⟨_,e,rfl⟩ F.entry_list_mul (F.args_list_mul_2 _ _) (AutoListH.list___mul___list_int_3 l its.toArray n k t hfit hcap hlong) ⟨e,?_⟩⟩)
 rw [hnew]
 exact ⟨.ref _,_,I.Bq (t':=s.toks) (r.rep k.toNat) (by rw [len_rep,Nat.mul_comm];exact hz),rfl,q _ I.fresh⟩
end
section
variable {prog:Program}{w:World}{A:Around}{E:Value->Shared->Prop}{s:Shared}
end
section
variable {X:Cx}
end
end L2
namespace Att
open PySem PySem.W PySem.Calls PyProof.Rows
theorem nH {P:Params}{h:Heap}:∀(ns:List Int) (vs:List Value),WellAll P h vs (ns.map WData.int)->IntsAre vs ns:=by
 intro ns
 induction ns with
 | nil =>
  intro vs w
  rw [List.map_nil] at w
  cases w
  exact .nil
 | cons n ns ih =>
  intro vs w
  rw [List.map_cons] at w
  cases w with
  | cons a b =>
   cases a
   exact .cons _ _ (ih _ b)
theorem vQ {l:OpenLaw}{n:Nat} (hn:l.most=some n) {P:Params}{h:Heap}{args:List WData}{vals:List Value}
  (hpre:l.row.toRowW.claim.pre args=true) (hwl:WellAll P h vals args) :
  ∃a vs ns,vals=[Value.ref a]/\args=[WData.list (ns.map WData.int)]/\h.get? a=some { cls:=.type "list",data:=.seq vs.toArray }/\IntsAre vs ns/\ns.length <= n:=by
 have hsh:WShape.hasAll [] args [.list .int]=true:=(pre_splitW hpre).1
 have hc:l.pre.holds [] { args:=args }=true:=(pre_splitW hpre).2
 obtain ⟨d,r,rfl,h1,h2⟩:=hasAllW_cons hsh
 obtain rfl:=hasAllW_nil h2
 obtain ⟨xs,rfl,h3⟩:=hasW_list h1
 obtain ⟨ns,rfl⟩:=items_int h3
 have hlen:ns.length <= n:=by
  unfold OpenLaw.pre at hc
  have h4:(WTm.not (.lt (.lit (.int (n:Int))) (.len (.arg 0)))).holds [] { args:=[.list (ns.map .int)] }=true:=by
   have h4:=(holds_andW hc).1
   rw [hn] at h4
   exact h4
  have h5:=condW_of h4 (w_not (w_lt w_lit (w_len_list (w_arg rfl))))
  rw [List.length_map] at h5
  refine Nat.le_of_not_lt fun q=>?_
  have q':(n:Int) < ((ns.length:Nat):Int):=by omega
  first
   | (rw [decide_eq_true q'] at h5;exact absurd h5 (by decide))
   | (simp at h5;omega)
 cases hwl with
 | cons w1 w2 =>
  cases w2
  cases w1 with
  | list ho hall=>exact ⟨_,_,ns,rfl,rfl,ho,nH ns _ hall,hlen⟩
theorem vY (l:OpenLaw) (args:List WData):l.row.toRowW.claim.post args (.bool true) args=true :=
 postW_of (r:=l.row.toRowW) (X:=(true == true))
  (show WShape.has [] (.bool true) .bool=true by first | rfl | decide | simp [WShape.has,WShape.arms,WShape.armsAll])
  (show (WTm.eq .res (.lit (.bool true))).value [] { args:=args,res:=some (.bool true),after:=args }=some (.bool (true == true)) from w_eq_bool (w_res rfl) w_lit) rfl
theorem sk {l:OpenLaw}{n:Nat}{q:Program}{loose:List Str}{XP:(Str->Option Value)->Heap->Prop}{YP:World->Heap->Prop}{d:DefRec}
  (hn:l.most=some n) (hdf:d.params.defaults=[])
  (call:∀(w:World) (s₀ s₁:Shared) (mg mb:Str->Option Value) (fa:Addr) (o:Obj) (pm cd doc:Value) (a:Addr) (vs:List Value) (ns:List Int),
   Ground q loose [] XP w s₀ mg mb s₁.heap->YP w s₁.heap ->
   s₁.heap.get? fa=some o->o.data=.func (docDef d.name d.params d.body d.scope pm cd doc)->s₁.heap.CodeRec cd d.name->mg d.name=some (.ref fa) ->
   s₁.heap.get? a=some { cls:=.type "list",data:=.seq vs.toArray }->IntsAre vs ns->ns.length <= n->s₁.gens=#[] ->
   codeAny (model l.prog w) callerA (.call (.ref fa) ⟨[.ref a],[]⟩) (fun r s'=>r=.ok (.ret (.bool true))/\OldK s₁.heap s'.heap/\s'.os=s₁.os/\AllBare s'.gens) s₁) :
  WalkO q loose XP YP l.row.toRowW d [] (fun f vs=>PySem.call f vs):=by
 intro w s₀ s₁ mg mb G Y fa o pm cd doc dV kV ho hd hcd hD hmg hg args vals as hpre hlay hrd hwl hlo
 obtain rfl:dV=.none:=Dflts.none hD hdf
 obtain rfl:kV=.none:=Dflts.noKw hD
 obtain ⟨a,vs,ns,rfl,rfl,hobj,hints,hlen⟩:=vQ hn hpre hwl
 refine enter_call (codeAny_mono (call w s₀ s₁ mg mb fa o pm cd doc a vs ns G Y ho (fd_plain hd) hcd hmg hobj hints hlen hg) fun r s' hq=>?_)
 obtain ⟨rfl,h2,h3,h4⟩:=hq
 exact ⟨.inl ⟨.bool true,.bool true,[],rfl,fun _=>rfl,.bool true,vY l _,fun _=>⟨List.Pairwise.nil,fun _ hm=>(nomatch hm)⟩⟩,h2,h3,h4⟩
section
variable {prog:Program}{w:World}{A:Around}{E:Value->Shared->Prop}{s:Shared}{K:Frag}
end
end Att
namespace L2
open PySem PySem.Spec PyProof.Rows
theorem qg:∀{vs:List Value}{ns:List Int},IntsAre vs ns->Vals (ns.map V.int) vs
 | _,_,.nil=>.nil
 | _,_,.cons n t h=>.cons ⟨t,rfl⟩ (qg h)
def BY (H:Hp):Prop:=∀b,H b=none \/ ∃o xs,H b=some (.frz o (.lst xs))
theorem w9 {P:Program}{w:World}{K:W.Frag}{mg mb:Str->Option Value}{CX:CXT}{k:Nat}{fa a:Addr}{fd:FuncData}{x:Str}{sp:Sp}{s₁:Shared}{vs:List Value}{ns:List Int}
  (KX:K.In s₁.heap) (hns:s₁.heap.Ns mainGlobals mg) (hb:s₁.heap.Ns builtinsNs mb) (hbb:∀x:Str,x ≠ "__name__"->mb x=bootBuiltins x) (hlim:s₁.heap.NoLimit) (hg:s₁.gens=#[])
  (ha:s₁.heap.get? a=some { cls:=.type "list",data:=.seq vs.toArray }) (hi:IntsAre vs ns) (hl:ns.length <= sizeLine) (hr:eR k callerA)
  (F:∀base:Heap,K.In base->base.Ns mainGlobals mg->kL P w K mg base CX k fa fd [x] sp) (hbind:∀(s:Shared) (u:Value),BindsTo s fd ⟨[u],[]⟩ [(x,u)])
  (hsp:∀H:Hp,BY H->SqL K H a (ns.map V.int)->sp [.ref a] H (fun v _=>v=.bl true) fun _ _ _=>False)
  (hCX:∀H e s',CX [] H s₁ (fun _ _ _=>False) e s'->False) :
  codeAny (model P w) callerA (.call (.ref fa) ⟨[.ref a],[]⟩) (fun r s'=>r=.ok (.ret (.bool true))/\OldK s₁.heap s'.heap/\s'.os=s₁.os/\AllBare s'.gens) s₁:=by
 have rv:=qg hi
 have lenV:=hi.length
 have core:∀H:Hp,BY H->SqL K H a (ns.map V.int)->HOk P w H s₁.heap->(∀b,H b ≠ none->b=a)->(H a ≠ none->K.lookup a=none) ->
   codeAny (model P w) callerA (.call (.ref fa) ⟨[.ref a],[]⟩) (fun r s'=>r=.ok (.ret (.bool true))/\OldK s₁.heap s'.heap/\s'.os=s₁.os/\AllBare s'.gens) s₁:=by
  intro H hO hS hok hA hK
  have base_of:∀{b:Addr}{o:Obj},s₁.heap.get? b=some o->H b=none->(rG s₁.heap H).get? b=some o:=fun e n=>xR e n
  have noA:∀{b:Addr}{o:Obj}{es:Array DictEntry}{ep:Nat},s₁.heap.get? b=some o->o.data=.dict es ep->H b=none:=fun {b o es ep} e d=>by
   cases q:H b with
   | none=>rfl
   | some u =>
    have e':b=a:=hA b (by rw [q];simp)
    subst e'
    rw [ha] at e;cases e
    have d':Data.seq vs.toArray _=Data.dict es ep:=d
    cases d'
  have nsK:∀{b:Addr}{m:Str->Option Value},s₁.heap.Ns b m->(rG s₁.heap H).Ns b m:=fun {b m} ⟨o,es,ep,e,d,r⟩=>⟨o,es,ep,base_of e (noA e d),d,r⟩
  have hKb:K.In (rG s₁.heap H):=fun b o e=>base_of (KX b o e) (by
   cases q:H b with
   | none=>rfl
   | some u =>
    have e':b=a:=hA b (by rw [q];simp)
    subst e'
    rw [hK (by rw [q];simp)] at e;cases e)
  have hM:Mod K mg (rG s₁.heap H):=⟨hKb,nsK hns,⟨mb,nsK hb,hbb⟩,let ⟨mc,h1,h2⟩:=hlim;⟨mc,nsK h1,h2⟩⟩
  have e0:uE P w K mg (rG s₁.heap H) callerA [] s₁ H:=⟨rfl,hM,fun b o e=>Af e,Nat.le_of_eq (vO _ _),trivial,fun b hb=>absurd (show b ∈ ([]:List Addr) from hb) (by simp),hok,.of_eq hg⟩
  refine codeAny_mono ((F _ hKb (nsK hns)).run callerA [] s₁ H ⟨[.ref a],[]⟩ [.ref a] [.ref a] _ _ hr e0 (hbind s₁ (.ref a)) (.cons rfl .nil) (hsp H hO hS)) fun r s' h=>?_
  cases r with
  | error e=>exact (hCX H e s' h).elim
  | ok fl =>
   cases fl with
   | next=>exact False.elim h
   | brk=>exact False.elim h
   | cont=>exact False.elim h
   | ret u =>
    obtain ⟨v,H',os,bare,un,hok',r',q⟩:=h
    have q':v=.bl true:=q
    subst q'
    obtain rfl:u=Value.bool true:=r'
    refine ⟨rfl,OldK.of_keep fun b o e=>?_,os,bare⟩
    cases q:H b with
    | none=>exact un.keep b o e q (by intro z;exact absurd (show b ∈ ([]:List Addr) from z) (by simp)) (by simp)
    | some u =>
     rcases hO b with z | ⟨ob,xs,z⟩
     ·rw [q] at z;cases z
     ·have z2:=un.pU b ob _ z
      obtain ⟨e1,_⟩:=hok b _ z
      obtain ⟨e2,_⟩:=hok' b _ z2
      rw [e] at e1;cases e1
      exact e2
 cases hk:K.lookup a with
 | some o =>
  have e:=KX a o hk
  rw [ha] at e
  cases e
  refine core (fun _=>none) (fun _=>.inl rfl) (.inr ⟨_,vs.toArray,_,hk,rfl,rfl,rfl,by rw [List.size_toArray,lenV];exact hl,by simpa using rv⟩) (fun b u z=>by have z':(none:Option HO)=some u:=z;cases z') (fun b z=>absurd rfl z) fun z=>absurd rfl z
 | none =>
  refine core (fun b=>if b=a then some (.frz { cls:=.type "list",data:=.seq vs.toArray } (.lst (ns.map V.int))) else none) (fun b=>?_) (.inl (.inr ⟨{ cls:=.type "list",data:=.seq vs.toArray },if_pos rfl⟩)) (fun b u z=>?_) (fun b z=>?_) fun _=>hk
  ·by_cases hb:b=a
   ·exact .inr ⟨_,_,if_pos hb⟩
   ·exact .inl (if_neg hb)
  ·by_cases hb:b=a
   ·have z':=(if_pos hb).symm.trans z
    cases z'
    subst hb
    exact ⟨ha,by rw [List.length_map];exact hl,vs,_,rv,ha⟩
   ·have z':=(if_neg hb).symm.trans z
    cases z'
  ·by_cases hb:b=a
   ·exact hb
   ·exact absurd (if_neg hb) z
end L2
namespace L2
open PySem PySem.Spec PyProof.Rows
theorem zp {l:W.OpenLaw}{n k:Nat}{q:Program}{loose:List Str}{XP:(Str->Option Value)->Heap->Prop}{YP:World->Heap->Prop}{d:DefRec}{K:Params->W.Frag}{CX:World->CXT}{sp:World->Sp}{x:Str}
  (hn:l.most=some n) (hn2:n <= sizeLine) (hdf:d.params.defaults=[]) (hr:eR k callerA)
  (hY:∀(w:World) (h:Heap),YP w h->(K w.params).In h)
  (F:∀(w:World) (mg:Str->Option Value) (fa:Addr) (h:Heap),(K w.params).In h->h.Ns mainGlobals mg->mg d.name=some (.ref fa) ->
   ∃fd:FuncData,(∀(s:Shared) (u:Value),BindsTo s fd ⟨[u],[]⟩ [(x,u)]) /\
    ∀base:Heap,(K w.params).In base->base.Ns mainGlobals mg->kL l.prog w (K w.params) mg base (CX w) k fa fd [x] (sp w))
  (hsp:∀(w:World) (H:Hp) (a:Addr) (ns:List Int),ns.length <= n->BY H->SqL (K w.params) H a (ns.map V.int)->sp w [.ref a] H (fun v _=>v=.bl true) fun _ _ _=>False)
  (hCX:∀(w:World) (H:Hp) (s:Shared) (e:Value) (s':Shared),CX w [] H s (fun _ _ _=>False) e s'->False) :
  W.WalkO q loose XP YP l.row.toRowW d [] (fun f vs=>PySem.call f vs):=by
 refine Att.sk hn hdf fun w s₀ s₁ mg mb fa o pm cd doc a vs ns G Y ho hd hcd hmg hobj hints hlen hg=>?_
 have KX:=hY w _ Y
 obtain ⟨fd,hb,hF⟩:=F w mg fa _ KX G.T.g hmg
 exact w9 KX G.T.g G.T.b G.T.builtins G.T.nolimit hg hobj hints (Nat.le_trans hlen hn2) hr hF hb (fun H hO hS=>hsp w H a ns hlen hO hS) fun H e s'=>hCX w H s₁ e s'
end L2
namespace L2
open PySem PySem.Spec PyProof.Rows
abbrev CX0:CXT:=fun _ _ _ _ _ _=>False
abbrev E0:XK:=fun _ _ _=>False
theorem sY {X:Cx}:Passes CX0 X E0:=fun _ _ _ _ _ _ _ h=>h.elim
structure Fun (K:W.Frag) (x qual:Str) (st:Stmt) (f:Addr) (fd:FuncData):Prop where
 ex:∃(oc:Value) (od:Option Addr) (kV doc pm:Value) (an:Option Addr) (cdv ct:Value) (osl:Array (Option Value)),
  fd=W.fnOf x qual (eh st) (cO st) (au st) .none kV doc pm an cdv ct/\K.lookup f=some ⟨oc,od,.func fd,osl⟩/\W.codeIn K cdv qual=true
 kp:W.keepIn K (.ref f)=true
section
variable {P:Program}{w:World}{K:W.Frag}{mg:Str->Option Value}{base:Heap}
theorem Fun.ok {x qual:Str}{st:Stmt}{f:Addr}{fd:FuncData}{N ps:List Str}{k:Nat}{sp:Sp} (F:Fun K x qual st f fd) (S:aF N ps (au st)) (len:∀vs H Q E,sp vs H Q E->vs.length=ps.length)
  (hbody:∀(cdv:Value) (A:Around) (outer:List Env) (s:Shared) (H:Hp) (vs:List V) (Q:VK) (E:XK),eR k (A.deeper (envOfC qual (au st) s.heap.objs.size f cdv))->sp vs H Q E ->
   ∃t,PSs (sR CX0 P w K mg base N qual (au st) f cdv A outer s H E).nox (cO st) t/\t { nx:=fun _ H'=>Q .non H',rt:=Q } (start N vs) H):kL P w K mg base CX0 (k + 1) f fd ps sp:=by
 obtain ⟨oc,od,kV,doc,pm,an,cdv,ct,osl,rfl,lk,hcd⟩:=F.ex
 refine CN lk hcd S len fun A outer s H vs Q E hr hsp=>?_
 obtain ⟨t,h,q⟩:=hbody cdv A outer s H vs Q E hr hsp
 exact ⟨t,h.nox,q⟩
theorem Fun.binds {x qual:Str}{st:Stmt}{f:Addr}{fd:FuncData}{ps:List Str} (F:Fun K x qual st f fd)
  (h:∀(kV doc pm:Value) (an:Option Addr) (cdv ct:Value) (us:List Value),us.length=ps.length->bindArgs (W.fnOf x qual (eh st) (cO st) (au st) .none kV doc pm an cdv ct) ⟨us,[]⟩=pure (ps.zip us)):Binds K fd ps []:=by
 obtain ⟨oc,od,kV,doc,pm,an,cdv,ct,osl,rfl,lk,hcd⟩:=F.ex
 exact .all (h kV doc pm an cdv ct)
theorem qG {x qual:Str}{st:Stmt}{f:Addr}{oc:Value}{od an:Option Addr}{osl:Array (Option Value)}{kV doc pm cdv ct:Value} (l:K.lookup f=some ⟨oc,od,.func (W.fnOf x qual (eh st) (cO st) (au st) .none kV doc pm an cdv ct),osl⟩)
  (c:W.codeIn K cdv qual=true) (k:W.keepIn K (.ref f)=true):Fun K x qual st f (W.fnOf x qual (eh st) (cO st) (au st) .none kV doc pm an cdv ct):=⟨⟨oc,od,kV,doc,pm,an,cdv,ct,osl,rfl,l,c⟩,k⟩
end
theorem aM {n:Nat} (h:n <= 1000):n < sizeLine:=Nat.lt_of_le_of_lt h (by decide)
section
variable {X:Cx}
end
theorem bw {A B:Prop} (h:B):if false=true then A else B:=by
 rw [if_neg Bool.false_ne_true]
 exact h
theorem cU {A B:Prop} (h:A):if true=true then A else B:=by
 rw [if_pos rfl]
 exact h
theorem aL {c A B:Prop} [Decidable c] (h1:c->A) (h2:¬ c->B):if c then A else B:=by
 by_cases h:c
 ·rw [if_pos h]
  exact h1 h
 ·rw [if_neg h]
  exact h2 h
def aj (H H':Hp):Prop:=∀b o,H b=some o->H' b=some o
theorem aj.refl (H:Hp):aj H H:=fun _ _ h=>h
theorem aj.trans {H H1 H2:Hp} (a:aj H H1) (b:aj H1 H2):aj H H2:=fun c o h=>b c o (a c o h)
theorem aj.free {H H':Hp} (e:aj H H') {l:Addr} (h:H' l=Option.none):H l=Option.none:=by
 cases q:H l with
 | none=>rfl
 | some o =>
  rw [e l o q] at h
  cases h
theorem aj.seq {K:W.Frag}{H H':Hp}{a:Addr}{xs:List V} (e:aj H H') (h:SqL K H a xs):SqL K H' a xs:=by
 rcases h with (h | ⟨o,h⟩) | h
 ·exact .inl (.inl (e _ _ h))
 ·exact .inl (.inr ⟨o,e _ _ h⟩)
 ·exact .inr h
end L2
namespace L2
open PySem PySem.Spec PyProof.Rows
theorem mr {α β:Type}{l:List α}{f:α->β->Sem (ForInStep β)} (g:β->α->β) (c:β) (h:∀x ∈ l,∀c,f x c=pure (.yield (g c x))) :
  forIn l c f=pure (l.foldl g c):=by
 induction l generalizing c with
 | nil=>rfl
 | cons x l ih =>
  rw [List.forIn_cons,h x List.mem_cons_self,pure_bind]
  exact ih _ fun y hy=>h y (List.mem_cons_of_mem _ hy)
def fk (env:Env) (cs:List (Str × Addr)) (x:Str × NameKind):List (Str × Addr) :=
 if x.2 == .free then (x.1,(env.cells.lookup x.1).getD 0) :: cs else cs
def oG (env:Env) (names:List (Str × NameKind)):List (Str × Addr):=names.foldl (fk env) []
theorem nC {scope:Scope}{env:Env} (h:∀x ∈ scope.names,x.2=.free->∃c,env.cells.lookup x.1=some c):closureFor scope env=pure (oG env scope.names):=by
 simp only [closureFor]
 rw [mr (fk env) [] (fun x hx c=>by
  obtain ⟨n,kind⟩:=x
  cases hk:kind == NameKind.free with
  | false=>simp only [fk,hk,Bool.false_eq_true,if_false]
  | true =>
   obtain ⟨a,ha⟩:=h (n,kind) hx (by simpa using hk)
   have ha':env.cells.lookup n=some a:=ha
   simp only [fk,hk,if_true,cellOf,ha',Option.getD_some,pure_bind])]
 rfl
theorem pH {env:Env}:∀{names:List (Str × NameKind)}{cs:List (Str × Addr)}{n:Str}{c:Addr},(n,c) ∈ names.foldl (fk env) cs->(n,c) ∈ cs \/ ((n,NameKind.free) ∈ names/\c=(env.cells.lookup n).getD 0)
 | [],_,_,_,h=>.inl h
 | (m,k) :: r,cs,n,c,h=>by
  rcases pH (names:=r) (cs:=fk env cs (m,k)) h with h | ⟨h,e⟩
  ·unfold fk at h
   by_cases hk:(k == NameKind.free)=true
   ·rw [if_pos hk] at h
    rcases List.mem_cons.mp h with e | h
    ·cases e
     have hk':k=.free:=by simpa using hk
     subst hk'
     exact .inr ⟨List.mem_cons_self,rfl⟩
    ·exact .inl h
   ·rw [if_neg hk] at h
    exact .inl h
  ·exact .inr ⟨List.mem_cons_of_mem _ h,e⟩
theorem qA {env:Env}{p:Str × Addr}:∀{names:List (Str × NameKind)}{cs:List (Str × Addr)},p ∈ cs->p ∈ names.foldl (fk env) cs
 | [],_,h=>h
 | x :: r,cs,h=>qA (names:=r) (cs:=fk env cs x) (by
  unfold fk
  split
  ·exact List.mem_cons_of_mem _ h
  ·exact h)
theorem rE {env:Env}{n:Str}:∀{names:List (Str × NameKind)}{cs:List (Str × Addr)},(n,NameKind.free) ∈ names->(n,(env.cells.lookup n).getD 0) ∈ names.foldl (fk env) cs
 | x :: r,cs,h=>by
  rcases List.mem_cons.mp h with e | h
  ·subst e
   refine qA (names:=r) (cs:=fk env cs (n,.free)) ?_
   unfold fk
   rw [if_pos (by rfl)]
   exact List.mem_cons_self
  ·exact rE (names:=r) h
theorem hV {α:Type}:∀{l:List (Str × α)}{n:Str}{c:α},(n,c) ∈ l->∃c',l.lookup n=some c'
 | (k,v) :: r,n,c,h=>by
  rw [List.lookup_cons]
  cases hb:n == k with
  | true=>exact ⟨v,rfl⟩
  | false =>
   rcases List.mem_cons.mp h with e | h
   ·cases e;simp at hb
   ·exact hV h
theorem fG:∀{names:List (Str × NameKind)}{k:Nat}{acc:List (Str × Addr)}{n:Str}{c:Addr},(n,c) ∈ cellsFrom k names acc->(n,c) ∈ acc \/ (k <= c/\(n,NameKind.cell) ∈ names)
 | [],_,_,_,_,h=>.inl h
 | (m,kd) :: r,k,acc,n,c,h=>by
  unfold cellsFrom at h
  by_cases hk:(kd == NameKind.cell)=true
  ·rw [if_pos hk] at h
   have hk':kd=.cell:=by simpa using hk
   subst hk'
   rcases fG (names:=r) h with h | ⟨h1,h2⟩
   ·rcases List.mem_cons.mp h with e | h
    ·cases e
     exact .inr ⟨Nat.le_refl _,List.mem_cons_self⟩
    ·exact .inl h
   ·exact .inr ⟨by omega,List.mem_cons_of_mem _ h2⟩
  ·rw [if_neg hk] at h
   rcases fG (names:=r) h with h | ⟨h1,h2⟩
   ·exact .inl h
   ·exact .inr ⟨h1,List.mem_cons_of_mem _ h2⟩
theorem ie:∀{names:List (Str × NameKind)}{k:Nat}{acc:List (Str × Addr)},(∀n c,(n,c) ∈ acc->c < k)->(∀n n' c,(n,c) ∈ acc->(n',c) ∈ acc->n=n') ->
  ∀{n n':Str}{c:Addr},(n,c) ∈ cellsFrom k names acc->(n',c) ∈ cellsFrom k names acc->n=n'
 | [],_,_,_,hi,_,_,_,h,h'=>hi _ _ _ h h'
 | (m,kd) :: r,k,acc,hl,hi,n,n',c,h,h'=>by
  unfold cellsFrom at h h'
  by_cases hk:(kd == NameKind.cell)=true
  ·rw [if_pos hk] at h h'
   refine ie (names:=r) (acc:=(m,k) :: acc) (fun a b hab=>?_) (fun a a' b ha ha'=>?_) h h'
   ·rcases List.mem_cons.mp hab with e | e
    ·cases e;exact Nat.lt_succ_self _
    ·exact Nat.lt_succ_of_lt (hl _ _ e)
   ·rcases List.mem_cons.mp ha with e | e <;> rcases List.mem_cons.mp ha' with e' | e'
    ·cases e;cases e';rfl
    ·cases e;exact absurd (hl _ _ e') (Nat.lt_irrefl _)
    ·cases e';exact absurd (hl _ _ e) (Nat.lt_irrefl _)
    ·exact hi _ _ _ e e'
  ·rw [if_neg hk] at h h'
   exact ie (names:=r) hl hi h h'
theorem gC:∀{names:List (Str × NameKind)}{h:Heap}{acc:List (Str × Addr)}{n:Str}{c:Addr},(n,c) ∈ cellsFrom h.objs.size names acc->(n,c) ∈ acc \/ (pushCells h names).IsCell c none
 | [],_,_,_,_,q=>.inl q
 | (m,kd) :: r,h,acc,n,c,q=>by
  unfold cellsFrom at q
  unfold pushCells
  by_cases hk:(kd == NameKind.cell)=true
  ·rw [if_pos hk] at q
   rw [if_pos hk]
   have e:h.objs.size + 1=(h.push { cls:=.type "cell",data:=.cell none }).objs.size:=(Heap.size_push ..).symm
   rw [e] at q
   rcases gC (names:=r) q with q | q
   ·rcases List.mem_cons.mp q with e' | q
    ·cases e'
     exact .inr ⟨_,pushCells_keeps r _ _ _ (Heap.get?_push_size _ rfl),rfl⟩
    ·exact .inl q
   ·exact .inr q
  ·rw [if_neg hk] at q
   rw [if_neg hk]
   exact gC (names:=r) q
theorem iM {x:Str}:∀{names:List (Str × NameKind)}{k:Nat}{acc:List (Str × Addr)},(x,NameKind.cell) ∉ names->(cellsFrom k names acc).lookup x=acc.lookup x
 | [],_,_,_=>rfl
 | (m,kd) :: r,k,acc,h=>by
  unfold cellsFrom
  have hr:(x,NameKind.cell) ∉ r:=fun z=>h (List.mem_cons_of_mem _ z)
  by_cases hk:(kd == NameKind.cell)=true
  ·have hk':kd=.cell:=by simpa using hk
   subst hk'
   rw [if_pos hk,iM hr,List.lookup_cons]
   have ne:(x == m)=false:=by
    cases hb:x == m with
    | false=>rfl
    | true=>exact absurd (by rw [beq_iff_eq.mp hb];exact List.mem_cons_self) h
   rw [ne]
  ·rw [if_neg hk]
   exact iM hr
section
variable {M:Model}{A:Around}{E:Value->Shared->Prop}{s:Shared}
theorem sS {scope:Scope}{globals:Addr}{cl:List (Str × Addr)}{qual:Str}{ye:Env}{Q:Env->Shared->Prop}
  (h:Q (newEnv scope s.heap.objs.size globals (cellsFrom (s.heap.objs.size + 1) scope.names cl) qual none .none (some ye) builtinsNs) { s with heap:=pushCells (s.heap.push { cls:=.type "dict",data:=.dict #[] }) scope.names }) :
  wpAny M A (newFunctionEnv scope globals cl [] qual none .none (some ye)) Q E s:=by
 simp only [newFunctionEnv,Option.isSome_some,if_true]
 refine wpAny_bind (wpAny_alloc ?_)
 refine wpAny_bind (wpAny_layCells _ (fun name kind cells=>by cases hkc:kind == NameKind.cell <;> simp [hkc]) _ _ _ _ ?_)
 rw [show ({ s with heap:=s.heap.push { cls:=.type "dict",data:=.dict #[] } }:Shared).heap.objs.size=s.heap.objs.size + 1 from Heap.size_push ..]
 refine wpAny_bind ?_
 rw [List.forIn_nil]
 exact wpAny_pure (wpAny_pure h)
end
structure CB where
 C:Addr
 ex:List Addr
 s:Shared
 H:Hp
def cxC (X:Cx) (N:List Str) (scope:Scope) (b:CB):Cx:={ X with
 N:=N
 s₀:=b.s
 H₀:=b.H
 env:=compEnvC scope (cellsFrom (b.C + 1) scope.names (oG X.env scope.names)) b.C X.env
 outer:=X.stack
 ex:=b.ex
 fn:=fun x=>scope.names.lookup x == some .cell
 pn:=[]
 xe:=fun _ _=>False }
theorem jI {env:Env}{x:Str}:∀{names:List (Str × NameKind)},
  (names.map fun (n,k)=>if (k == NameKind.free && env.scope.kind == .function && env.kindOf n == some .cell) then (n,NameKind.cell) else (n,k)).lookup x =
   (names.lookup x).map fun k=>if (k == NameKind.free && env.scope.kind == .function && env.kindOf x == some .cell) then NameKind.cell else k
 | []=>rfl
 | (n,k) :: r=>by
  have ih:=@jI env x r
  show List.lookup x ((if (k == NameKind.free && env.scope.kind == .function && env.kindOf n == some .cell)=true then (n,NameKind.cell) else (n,k)) :: _)=_
  cases hx:x == n with
  | true =>
   have e:x=n:=beq_iff_eq.mp hx
   subst e
   by_cases hc:(k == NameKind.free && env.scope.kind == .function && env.kindOf x == some .cell)=true
   ·rw [if_pos hc];simp only [List.lookup_cons,hx,Option.map_some,hc,if_true]
   ·rw [if_neg hc];simp only [List.lookup_cons,hx,Option.map_some];rw [if_neg hc]
  | false =>
   by_cases hc:(k == NameKind.free && env.scope.kind == .function && env.kindOf n == some .cell)=true
   ·rw [if_pos hc];simp only [List.lookup_cons,hx];exact ih
   ·rw [if_neg hc];simp only [List.lookup_cons,hx];exact ih
structure df (psc:Scope) (PN N:List Str) (own:Nat) (fr:List Nat) (scope:Scope):Prop where
 kind:scope.kind=.function
 nd:(scope.names.map (·.1)).Nodup
 free:∀x ∈ scope.names,x.2=.free->psc.names.lookup x.1=some .cell \/ psc.names.lookup x.1=some .free
 len:N.length=own + fr.length
 frn:∀i,i < fr.length->N[own + i]?=(fr[i]?).bind fun j=>PN[j]?
 frk:∀i,i < fr.length->∀y,N[own + i]?=some y->scope.names.lookup y=some .free
def u4 (psc:Scope) (PN N:List Str) (own:Nat) (fr:List Nat) (scope:Scope):Bool :=
 scope.kind == .function && decide (scope.names.map (·.1)).Nodup && scope.names.all (fun x=>x.2 != .free || (psc.names.lookup x.1 == some .cell || psc.names.lookup x.1 == some .free)) &&
  (N.length == own + fr.length) && ((fr.map fun j=>PN[j]?) == (N.drop own).map some) && (N.drop own).all (fun y=>scope.names.lookup y == some .free)
theorem df.of {psc:Scope}{PN N:List Str}{own:Nat}{fr:List Nat}{scope:Scope} (h:u4 psc PN N own fr scope=true):df psc PN N own fr scope:=by
 unfold u4 at h
 simp only [Bool.and_eq_true] at h
 obtain ⟨⟨⟨⟨⟨h1,h2⟩,h3⟩,h4⟩,h5⟩,h6⟩:=h
 have h4':N.length=own + fr.length:=eq_of_beq h4
 have h5':(fr.map fun j=>PN[j]?)=(N.drop own).map some:=eq_of_beq h5
 have dr:∀i,N[own + i]?=(N.drop own)[i]?:=fun i=>by rw [List.getElem?_drop]
 refine ⟨eq_of_beq h1,of_decide_eq_true h2,fun x hx hk=>?_,h4',fun i hi=>?_,fun i hi y hy=>?_⟩
 ·have q:=List.all_eq_true.mp h3 x hx
  rw [hk] at q
  simpa using q
 ·have q:=congrArg (fun l=>l[i]?) h5'
  simp only [List.getElem?_map] at q
  rw [dr]
  have ej:fr[i]?=some fr[i]:=List.getElem?_eq_getElem hi
  rw [ej] at q ⊢
  cases e:(N.drop own)[i]? with
  | none=>rw [e] at q;cases q
  | some y =>
   rw [e] at q
   exact (Option.some.inj q).symm
 ·rw [dr] at hy
  have q:=List.all_eq_true.mp h6 y (List.mem_of_getElem? hy)
  simpa using q
def cSt (own:Nat) (fr:List Nat) (σ:St):St:=List.replicate own none ++ fr.map fun j=>(σ[j]?).getD none
theorem fZ {α:Type}:∀{l:List (Str × α)}{n:Str}{k:α},(l.map (·.1)).Nodup->(n,k) ∈ l->l.lookup n=some k
 | (m,v) :: r,n,k,nd,h=>by
  rw [List.map_cons,List.nodup_cons] at nd
  rw [List.lookup_cons]
  rcases List.mem_cons.mp h with e | h
  ·cases e;simp
  ·have ne:(n == m)=false:=by
    cases hb:n == m with
    | false=>rfl
    | true=>exact absurd (List.mem_map.mpr ⟨(n,k),h,beq_iff_eq.mp hb⟩) nd.1
   rw [ne]
   exact fZ nd.2 h
section
variable {X:Cx}{pins:List (Addr × Obj)}{σ:St}{H:Hp}{s:Shared}{N:List Str}{own:Nat}{fr:List Nat}{scope:Scope}
theorem df.cells (S:df X.env.scope X.N N own fr scope) (ok:X.Ok):∀x ∈ scope.names,x.2=.free->∃c,X.env.cells.lookup x.1=some c:=fun x hx hk =>
 ok.has x.1 (S.free x hx hk)
theorem df.cl (S:df X.env.scope X.N N own fr scope) (ok:X.Ok) {n:Str}{c:Addr} (h:(n,c) ∈ oG X.env scope.names):X.env.cells.lookup n=some c:=by
 rcases pH h with h | ⟨h,e⟩
 ·cases h
 ·obtain ⟨c',e'⟩:=S.cells ok (n,.free) h rfl
  have e2:X.env.cells.lookup n=some c':=e'
  rw [e2] at e
  rw [e,e2]
  rfl
theorem xx {D C:Addr}{h':Heap}{fp:List Addr} (S:df X.env.scope X.N N own fr scope) (I:Inv X pins σ H s) (hD:D=s.heap.objs.size) (hC:C=s.heap.objs.size + 1)
  (hh:h'=pushCells ((s.heap.push { cls:=.type "list",data:=.seq #[] }).push { cls:=.type "dict",data:=.dict #[] }) scope.names) (hfp:∀b ∈ fp,oP X pins H b) (hlt:∀b ∈ fp,b < s.heap.objs.size) :
  Inv (cxC X N scope ⟨C,fp,s,H⟩) [] (cSt own fr σ) (upd H D (.lst [])) { s with heap:=h' }:=by
 subst hD hC
 have eD:(s.heap.push { cls:=.type "list",data:=.seq #[] }).objs.size=s.heap.objs.size + 1:=Heap.size_push ..
 have eC:((s.heap.push { cls:=.type "list",data:=.seq #[] }).push { cls:=.type "dict",data:=.dict #[] }).objs.size=s.heap.objs.size + 2:=by rw [Heap.size_push,eD]
 have keep:∀b o,s.heap.get? b=some o->h'.get? b=some o:=fun b o e=>by
  rw [hh]
  exact pushCells_keeps _ _ _ _ (Heap.get?_push_of_some _ (Heap.get?_push_of_some _ e))
 have lst:h'.get? s.heap.objs.size=some { cls:=.type "list",data:=.seq #[] }:=by
  rw [hh]
  exact pushCells_keeps _ _ _ _ (Heap.get?_push_of_some _ (Heap.get?_push_size _ rfl))
 have dct:h'.get? (s.heap.objs.size + 1)=some { cls:=.type "dict",data:=.dict #[] }:=by
  rw [hh]
  refine pushCells_keeps _ _ _ _ ?_
  have:=Heap.get?_push_size (s.heap.push { cls:=.type "list",data:=.seq #[] }) (o:={ cls:=.type "dict",data:=.dict #[] }) rfl
  rw [eD] at this
  exact this
 have hnD:H s.heap.objs.size=none:=I.hok.fresh (Nat.le_refl _)
 have hnC:H (s.heap.objs.size + 1)=none:=I.hok.fresh (Nat.le_succ _)
 have inCl:∀{n:Str}{c:Addr},(n,c) ∈ oG X.env scope.names->X.env.cells.lookup n=some c:=fun h=>S.cl I.ok h
 have clt:∀{n:Str}{c:Addr},X.env.cells.lookup n=some c->c < s.heap.objs.size:=fun h=>by
  obtain ⟨v,z⟩:=I.cell _ _ h
  exact z.lt
 have cases_:∀{n:Str}{c:Addr},(cellsFrom (s.heap.objs.size + 1 + 1) scope.names (oG X.env scope.names)).lookup n=some c->X.env.cells.lookup n=some c \/ (s.heap.objs.size + 2 <= c/\(n,NameKind.cell) ∈ scope.names/\h'.IsCell c none):=fun {n c} h=>by
  have hm:=PySem.mem_of_lookup h
  have hcell:=hm
  rw [show s.heap.objs.size + 1 + 1=((s.heap.push { cls:=.type "list",data:=.seq #[] }).push { cls:=.type "dict",data:=.dict #[] }).objs.size from eC.symm] at hcell
  rcases fG hm with h1 | ⟨h1,h2⟩
  ·exact .inl (inCl h1)
  ·rcases gC hcell with h3 | h3
   ·exact .inl (inCl h3)
   ·exact .inr ⟨h1,h2,by rw [hh];exact h3⟩
 have kindOf:∀x,(cxC X N scope ⟨s.heap.objs.size + 1,fp,s,H⟩).env.kindOf x=(scope.names.lookup x).map fun k=>if (k == NameKind.free && X.env.scope.kind == .function && X.env.kindOf x == some .cell) then NameKind.cell else k:=fun x=>jI
 have hasName:∀x,((cxC X N scope ⟨s.heap.objs.size + 1,fp,s,H⟩).env.kindOf x=some .cell \/ (cxC X N scope ⟨s.heap.objs.size + 1,fp,s,H⟩).env.kindOf x=some .free)->∃c,(cellsFrom (s.heap.objs.size + 1 + 1) scope.names (oG X.env scope.names)).lookup x=some c:=fun x hx=>by
  rw [kindOf] at hx
  have h2:scope.names.lookup x=some .cell \/ scope.names.lookup x=some .free:=by
   cases e:scope.names.lookup x with
   | none=>rw [e] at hx;rcases hx with z | z <;> cases z
   | some k =>
    rw [e] at hx
    by_cases hk:k=.free
    ·exact .inr (by rw [hk])
    ·have hk':(k == NameKind.free)=false:=by simpa using hk
     simp only [Option.map_some,hk',Bool.false_and,Bool.false_eq_true,if_false] at hx
     rcases hx with z | z
     ·exact .inl z
     ·exact .inr z
  rcases h2 with h2 | h2
  ·exact Option.isSome_iff_exists.mp (W.cellsFrom_some scope.names _ _ (.inl h2))
  ·obtain ⟨c,hc⟩:=hV (rE (env:=X.env) (cs:=[]) (PySem.mem_of_lookup h2))
   exact Option.isSome_iff_exists.mp (W.cellsFrom_some scope.names _ _ (.inr (by rw [show (oG X.env scope.names).lookup x=some c from hc];rfl)))
 have cellAt:∀x c,(cellsFrom (s.heap.objs.size + 1 + 1) scope.names (oG X.env scope.names)).lookup x=some c->∃v,h'.IsCell c v:=fun x c e=>by
  rcases cases_ e with q | ⟨_,_,q⟩
  ·obtain ⟨v,o,ho,hd⟩:=I.cell x c q
   exact ⟨v,o,keep c o ho,hd⟩
  ·exact ⟨none,q⟩
 refine ⟨⟨I.ok.mod,S.kind,I.ok.glob,I.ok.blt,Nat.le_succ _,fun y z c h1 h2=>?_,hasName,fun y c hy h=>?_,I.ok.hd,I.ok.frames,.inl rfl,fun b hb=>⟨?_,fun x c e z=>?_⟩,fun b o e=>I.bs b o e,Nat.le_trans I.ok.bsz I.sz,fun b o e hb=>?_,fun b hb hf=>?_,I.stack,I.vx⟩,
  rfl,I.bare,?_,⟨fun _=>none,⟨_,#[],_,dct,rfl,fun e he=>absurd he (by simp),fun _=>rfl⟩,fun i x v h1 h2 h3=>?_⟩,cellAt,?_,fun x c e=>?_,fun p hp=>absurd (show p ∈ ([]:List (Addr × Obj)) from hp) (by simp),?_,?_⟩
 ·
  refine ie (fun n c hm=>?_) (fun n n' c hm hm'=>I.ok.inj n n' c (inCl hm) (inCl hm')) (PySem.mem_of_lookup h1) (PySem.mem_of_lookup h2)
  exact Nat.lt_succ_of_lt (Nat.lt_succ_of_lt (clt (inCl hm)))
 ·
  have hy':scope.names.lookup y=some .cell:=by simpa using (show (scope.names.lookup y == some .cell)=true from hy)
  rcases cases_ h with q | ⟨q,_⟩
  ·rcases fG (PySem.mem_of_lookup h) with q2 | ⟨q2,_⟩
   ·rcases pH q2 with z | ⟨z,_⟩
    ·cases z
    ·have:=fZ S.nd z
     rw [hy'] at this
     cases this
   ·exact Nat.le_trans (Nat.le_add_right _ 2) q2
  ·exact Nat.le_trans (Nat.le_add_right _ 2) q
 ·exact Nat.ne_of_lt (Nat.lt_succ_of_lt (hlt b hb))
 ·rcases cases_ e with q | ⟨q,_⟩
  ·exact (hfp b hb).2.2.2.2.1 x c q z
  ·have hb':=hlt b hb
   rw [<- z] at hb'
   exact absurd (Nat.lt_of_lt_of_le hb' (Nat.le_trans (Nat.le_add_right _ 2) q)) (Nat.lt_irrefl _)
 ·rcases (hfp b hb).2.2.2.1 with z | z
  ·exact I.ok.yA b o e z
  ·exact Nat.lt_irrefl _ (Nat.lt_of_lt_of_le (Heap.lt_size e) (Nat.le_trans I.ok.bsz z))
 ·rcases List.mem_cons.mp (I.tY b hf) with z | z
  ·exact (hfp b hb).2.1 z
  ·exact (hfp b hb).2.2.1 z
 ·exact Un.laid keep (Nat.le_refl _) hnD
 ·
  have h1:N[i]?=some x:=h1
  have hlen:i < N.length:=(List.getElem?_eq_some_iff.mp h1).1
  by_cases hi:i < own
  ·exfalso
   have h2':(cSt own fr σ)[i]?=some none:=by
    unfold cSt
    rw [List.getElem?_append_left (by simpa using hi),List.getElem?_replicate,if_pos hi]
   rw [h2'] at h2
   cases h2
  ·have hfi:i - own < fr.length:=by have:=S.len;omega
   have ei:own + (i - own)=i:=by omega
   have hk:=S.frk (i - own) hfi x (by rw [ei];exact h1)
   have hn:=S.frn (i - own) hfi
   rw [ei,h1] at hn
   have ej:fr[i - own]?=some fr[i - own]:=List.getElem?_eq_getElem hfi
   rw [ej] at hn
   have hn':X.N[fr[i - own]]?=some x:=hn.symm
   have h2':(cSt own fr σ)[i]?=some ((σ[fr[i - own]]?).getD none):=by
    unfold cSt
    rw [List.getElem?_append_right (by simpa using Nat.not_lt.mp hi),List.length_replicate,List.getElem?_map,ej]
    rfl
   rw [h2'] at h2
   have h2'':(σ[fr[i - own]]?).getD none=some v:=Option.some.inj h2
   have hσ:σ[fr[i - own]]?=some (some v):=by
    cases e:σ[fr[i - own]]? with
    | none=>rw [e] at h2'';cases h2''
    | some w=>rw [e] at h2'';exact congrArg some h2''
   obtain ⟨m,hm,hl⟩:=I.loc
   have hfree:=S.free (x,.free) (PySem.mem_of_lookup hk) rfl
   obtain ⟨u,r,l⟩:=hl _ x v hn' hσ (hfree.elim (fun z=>.inr (.inl z)) fun z=>.inr (.inr z))
   refine ⟨u,r,.inr ?_⟩
   have hcell:∃c,X.env.cells.lookup x=some c/\s.heap.IsCell c (some u):=by
    rcases l with ⟨l,_⟩ | ⟨_,c,e,z⟩
    ·exfalso
     rcases hfree with z | z
     ·have l':X.env.scope.names.lookup x=some .local:=l
      have z':X.env.scope.names.lookup x=some .cell:=z
      rw [l'] at z';cases z'
     ·have l':X.env.scope.names.lookup x=some .local:=l
      have z':X.env.scope.names.lookup x=some .free:=z
      rw [l'] at z';cases z'
    ·exact ⟨c,e,z⟩
   obtain ⟨c,e,o,ho,hd⟩:=hcell
   refine ⟨?_,c,?_,o,keep c o ho,hd⟩
   ·rw [kindOf,hk]
    by_cases z:(X.env.scope.kind == .function && X.env.kindOf x == some .cell)=true
    ·left
     simp only [Option.map_some,beq_self_eq_true,Bool.true_and,z,if_true]
    ·right
     simp only [Option.map_some,beq_self_eq_true,Bool.true_and]
     rw [if_neg z]
   ·show (cellsFrom (s.heap.objs.size + 1 + 1) scope.names (oG X.env scope.names)).lookup x=some c
    rw [iM fun z=>by
     have:=fZ S.nd z
     rw [hk] at this
     cases this]
    obtain ⟨c',hc'⟩:=hV (rE (env:=X.env) (cs:=[]) (PySem.mem_of_lookup hk))
    have hc2:(oG X.env scope.names).lookup x=some c':=hc'
    rw [hc2]
    have:=inCl (PySem.mem_of_lookup hc2)
    rw [e] at this
    exact this.symm
 ·show upd H s.heap.objs.size (.lst []) (s.heap.objs.size + 1)=none
  rw [aI (Nat.ne_of_gt (Nat.lt_succ_self _))]
  exact hnC
 ·rcases cases_ e with q | ⟨q,_⟩
  ·have:=clt q
   rw [aI (Nat.ne_of_lt this)]
   exact I.jK x c q
  ·rw [aI (Nat.ne_of_gt (Nat.lt_of_lt_of_le (Nat.lt_add_of_pos_right (by decide)) q))]
   exact I.hok.fresh (Nat.le_trans (Nat.le_add_right _ 2) q)
 ·exact I.hok.laid keep (Nat.le_refl _) ⟨Nat.zero_le _,[],0,.nil,lst⟩
 ·show (cSt own fr σ).length=N.length
  unfold cSt
  rw [List.length_append,List.length_replicate,List.length_map,S.len]
end
def PF (X:Cx) (ifs:List Expr) (t:TT):Prop :=
 ∀(pins:List (Addr × Obj)) (s:Shared) (σ:St) (H:Hp) (Q:Bool->Hp->Prop),Inv X pins σ H s->t σ H Q ->
  wpAny (model X.prog X.w) X.A (forIn ifs true fun c r=>if r=true then do let ok <- isTrue c X.env (eval c X.env);pure (ForInStep.yield ok) else pure (ForInStep.yield r)) (TP X pins σ Q) X.xe s
def AL:TT:=fun _ H Q=>Q true H
theorem jU {X:Cx}:PF X [] AL:=fun _ _ _ H _ I h=>wpAny_tests_nil ⟨H,I,h⟩
theorem Bs {X:Cx}{c:Expr}{t:TT} (h:PT X c t):PF X [c] t:=fun pins s σ H Q I hw=>wpAny_tests_one (h pins s σ H Q I hw)
theorem qQ {prog:Program}{w:World}{A:Around}{R:Result->Shared->Prop}{s:Shared}{elt target iter:Expr}{ifs:List Expr}{scope:Scope}{pos:Pos}{it acc:Value}{env:Env} (I:Nat->Shared->Prop)
  (turn:∀n s,I n s->wpAny (model prog w) A (pyNext it) (fun r s₁=>match r with
   | none=>R (.ok .next) s₁
   | some v=>wpAny (model prog w) A (letOwnedTupleGo target it v) (fun _ s₁'=>wpAny (model prog w) A (assign target env v) (fun _ s₂ =>
     wpAny (model prog w) A (forIn ifs true fun c r=>if r=true then do let ok <- isTrue c env (eval c env);pure (ForInStep.yield ok) else pure (ForInStep.yield r)) (fun ok s₃ =>
      if ok=true then wpAny (model prog w) A (eval elt env) (fun x s₄ =>
       wpAny (model prog w) A (call (.builtin "list.append") [acc,x]) (fun _ s₅=>∃m,m < n/\I m s₅) (fun _ _=>False) s₄) (fun _ _=>False) s₃
      else ∃m,m < n/\I m s₃) (fun _ _=>False) s₂) (fun _ _=>False) s₁') (fun _ _=>False) s₁) (fun _ _=>False) s)
  (n:Nat) (h:I n s) :
  codeAny (model prog w) A (.compLoop (.ListComp elt [⟨target,iter,ifs,0⟩] scope pos) 0 it acc env) R s:=by
 refine codeAny_loop rfl I (fun n s hI=>?_) n h
 show wpAny _ A ((compTurn (.ListComp elt [⟨target,iter,ifs,0⟩] scope pos) 0 it acc env).onRaise (fun x=>do noteFrame x env;theTreesLotGoes x)) _ _ s
 refine wpAny_noted ?_
 rw [compTurn_list]
 have no:∀{α:Type}{t:Sem α}{Q:α->Shared->Prop}{E':Value->Shared->Prop}{s':Shared},wpAny (model prog w) A t Q (fun _ _=>False) s'->wpAny (model prog w) A t Q E' s':=fun h=>wpAny_mono h (fun _ _ q=>q) fun _ _ z=>z.elim
 refine wpAny_bind (wpAny_standAt (wpAny_bind (no (wpAny_mono (turn n s hI) (fun r s₁ h₁=>?_) fun _ _ h'=>h'))))
 cases r with
 | none=>exact wpAny_pure h₁
 | some v =>
  refine wpAny_bind (no (wpAny_mono h₁ (fun _ s₁' h₁'=>?_) fun _ _ h'=>h'))
  refine wpAny_bind (no (wpAny_mono h₁' (fun _ s₂ h₂=>wpAny_bind (no (wpAny_mono h₂ (fun ok s₃ h₃=>?_) fun _ _ h'=>h'))) fun _ _ h'=>h'))
  cases ok with
  | false=>exact wpAny_pure ⟨rfl,h₃⟩
  | true =>
   exact wpAny_bind (wpAny_bind (no (wpAny_mono h₃ (fun x s₄ h₄=>wpAny_bind (no (wpAny_mono h₄ (fun _ s₅ h₅=>wpAny_pure (wpAny_pure ⟨rfl,h₅⟩)) fun _ _ h'=>h'))) fun _ _ h'=>h')))
structure mJ (J:It) (own:Nat) (fr:List Nat) (g:CB->TG) (tf:CB->TT) (te:CB->TE) (Q:VK) (σ:St) (H1:Hp):Prop where
 go:∀(b:CB) (D:Addr),H1 D=none->∃W:Nat->Nat->St->Hp->Prop,(∃m,W 0 m (cSt own fr σ) (upd H1 D (.lst [])))/\∀i m σ' H',W i m σ' H' ->
  (J.stop i H'/\Q (.ref D) H') \/ (J.go i H'/\∃M:St->Hp->Prop,(∀σ2 H2,M σ2 H2->∃m',m' < m/\W (i + 1) m' σ2 H2)/\∀x H2,J.yld i H' x H2->g b x σ' H2 fun σ3 H3=>tf b σ3 H3 fun k H4 =>
   if k=true then te b σ3 H4 fun y H5=>∃ys,H5 D=some (.lst ys)/\ys.length < sizeLine/\M σ3 (upd H5 D (.lst (ys ++ [y]))) else M σ3 H4)
def xE (wi:TI) (own:Nat) (fr:List Nat) (g:CB->TG) (tf:CB->TT) (te:CB->TE):TE:=fun σ H Q=>wi σ H fun J H1=>mJ J own fr g tf te Q σ H1
section
variable {X:Cx}{tg iter elt:Expr}{ifs:List Expr}{scope:Scope}{pos:Pos}{N:List Str}{own:Nat}{fr:List Nat}{wi:TI}{g:CB->TG}{tf:CB->TT}{te:CB->TE}
theorem rT {use:Option (Value->Sem Unit)}{R:Value->Shared->Prop}{pins:List (Addr × Obj)}{s:Shared}{σ:St}{H:Hp}{Q:VK} (S:df X.env.scope X.N N own fr scope) (hc:X.calm=true) (hi:PI X tg iter wi)
  (hg:∀b,PG (cxC X N scope b) tg (g b)) (hf:∀b,PF (cxC X N scope b) ifs (tf b)) (he:∀b,PE (cxC X N scope b) elt (te b)) (hs:∀x,foldedSetIterable iter X.env x=pure x) (I:Inv X pins σ H s) (h:xE wi own fr g tf te σ H Q)
  (fin:∀(D C:Addr) (oC:Obj) (m:Str->Option Value) (H':Hp) (s':Shared),Inv X (pins ++ [(C,oC)]) σ H' s'->X.s₀.heap.objs.size <= C->(∀p ∈ X.pn ++ pins,p.1 ≠ C)->(∀h':Heap,h'.get? C=some oC->h'.Ns C m)->Q (.ref D) H'->compPost (model X.prog X.w) X.A X.xe use R (.ref D) C (.ok .next) s') :
  wpAny (model X.prog X.w) X.A (comprehension (.ListComp elt [⟨tg,iter,ifs,0⟩] scope pos) scope X.env (firstIterPos [⟨tg,iter,ifs,0⟩] pos) (newList []) false (eval iter X.env) use) R X.xe s:=by
 refine wpAny_comprehension_free rfl hs (nC (S.cells I.ok)) S.kind (fun x hx hk=>?_) (thn (hi pins s σ H _ I h) fun v s1 h1=>thn h1 fun itv s2 h2=>?_)
 ·have:=fZ S.nd (show (x.1,x.2) ∈ scope.names from hx)
  rw [this,hk]
 obtain ⟨it,fp,tn,J,H2,e,I2,T,st2,f2,q⟩:=h2
 subst e
 refine wpAny_newObj_type ?_
 refine sS ?_
 have eD:(s2.heap.push { cls:=.type "list",data:=.seq #[] }).objs.size=s2.heap.objs.size + 1:=Heap.size_push ..
 have hD:H2 s2.heap.objs.size=none:=I2.hok.fresh (Nat.le_refl _)
 have hlt:∀b ∈ fp,b < s2.heap.objs.size:=fun b hb=>by
  obtain ⟨o,ho,_⟩:=T.obj 0 _ st2 b hb
  exact Heap.lt_size ho
 obtain ⟨W,⟨m0,w0⟩,turn⟩:=q.go ⟨s2.heap.objs.size + 1,fp,s2,H2⟩ s2.heap.objs.size hD
 have IX:=xx (fp:=fp) S I2 rfl rfl rfl f2 hlt
 have st4:tn 0 (pushCells ((s2.heap.push { cls:=.type "list",data:=.seq #[] }).push { cls:=.type "dict",data:=.dict #[] }) scope.names) :=
  T.keep 0 _ _ st2 fun b _ o e=>pushCells_keeps _ _ _ _ (Heap.get?_push_of_some _ (Heap.get?_push_of_some _ e))
 have fr0:∀b ∈ fp,upd H2 s2.heap.objs.size (.lst []) b=none:=fun b hb=>by
  rw [aI (Nat.ne_of_lt (hlt b hb))]
  exact (f2 b hb).1
 have cne:∀b ∈ fp,∀x c,(cxC X N scope ⟨s2.heap.objs.size + 1,fp,s2,H2⟩).env.cells.lookup x=some c->c ≠ b:=fun b hb=>((IX.ok.exf b hb).2)
 have stat:∀{H':Hp},(∀b ∈ fp,H' b=none)->∀b ∈ fp,oP (cxC X N scope ⟨s2.heap.objs.size + 1,fp,s2,H2⟩) [] H' b:=fun hn b hb =>
  ⟨hn b hb,(IX.ok.exf b hb).1,IX.ok.xr b hb,.inl hb,cne b hb,fun p hp=>absurd (show p ∈ ([]:List (Addr × Obj)) from hp) (by simp)⟩
 have e4:∀cenv:Env,cenv=newEnv scope (s2.heap.push { cls:=.type "list",data:=.seq #[] }).objs.size X.env.globals (cellsFrom ((s2.heap.push { cls:=.type "list",data:=.seq #[] }).objs.size + 1) scope.names (oG X.env scope.names)) X.env.qual none .none (some X.env) builtinsNs ->
   ({ cenv with scope:=relabel scope X.env }:Env)=(cxC X N scope ⟨s2.heap.objs.size + 1,fp,s2,H2⟩).env/\cenv.locals=s2.heap.objs.size + 1:=fun cenv e=>by
  subst e
  rw [eD]
  exact ⟨rfl,rfl⟩
 obtain ⟨e5,e6⟩:=e4 _ rfl
 have loop:codeAny (model X.prog X.w) X.A (.compLoop (.ListComp elt [⟨tg,iter,ifs,0⟩] scope pos) 0 (.ref it) (.ref s2.heap.objs.size) (cxC X N scope ⟨s2.heap.objs.size + 1,fp,s2,H2⟩).env)
   (compPost (model X.prog X.w) X.A X.xe use R (.ref s2.heap.objs.size) (s2.heap.objs.size + 1)) { s2 with heap:=pushCells ((s2.heap.push { cls:=.type "list",data:=.seq #[] }).push { cls:=.type "dict",data:=.dict #[] }) scope.names }:=by
  refine qQ (fun n s'=>∃i σ' H',Inv (cxC X N scope ⟨s2.heap.objs.size + 1,fp,s2,H2⟩) [] σ' H' s'/\tn i s'.heap/\(∀b ∈ fp,H' b=none)/\W i n σ' H') ?_ m0 ⟨0,_,_,IX,st4,fr0,w0⟩
  rintro n s5 ⟨i,σ5,H5,I5,st5,fr5,w5⟩
  rcases turn i n σ5 H5 w5 with ⟨stop,qn⟩ | ⟨go,M,hM,step⟩
  ·refine thn (T.done (cxC X N scope ⟨s2.heap.objs.size + 1,fp,s2,H2⟩) rfl rfl rfl hc i [] s5 σ5 H5 (fun _ _=>False) I5 (stat fr5) st5 stop) fun r s6 ⟨hr,I6⟩=>?_
   subst hr
   obtain ⟨m,hn,_⟩:=I6.loc
   obtain ⟨oC,es,ep,hoC,hd,hk,hm⟩:=id hn
   have IB:Inv X pins σ H5 s6:=I2.CW (ch:=fp) I6.os I6.base I6.hok I6.bare fun b hb=>⟨(f2 b hb).2.2.2.1,(f2 b hb).2.1,(f2 b hb).2.2.2.2.1,(f2 b hb).2.2.2.2.2⟩
   have young:s2.heap.objs.size <= s2.heap.objs.size + 1:=Nat.le_succ _
   refine fin s2.heap.objs.size (s2.heap.objs.size + 1) oC m H5 s6 (IB.qM fun p hp=>?_) (Nat.le_trans I2.sz young) (fun p hp=>Nat.ne_of_lt (Nat.lt_of_lt_of_le (Heap.lt_size (I2.pin p hp).1) young)) (fun h' e=>⟨oC,es,ep,e,hd,hk,hm⟩) qn
   rcases List.mem_append.mp hp with z | z
   ·exact IB.pin p (List.mem_append_right _ z)
   ·have ep':p=(s2.heap.objs.size + 1,oC):=by simpa using z
    subst ep'
    exact ⟨hoC,I6.free,Nat.ne_of_gt (Nat.lt_of_lt_of_le I2.lt young),I2.CS young,fun v z=>by rw [hd] at z;cases z⟩
  ·refine thn (T.item (cxC X N scope ⟨s2.heap.objs.size + 1,fp,s2,H2⟩) rfl rfl rfl hc i [] s5 σ5 H5 (fun _ _=>False) I5 (stat fr5) st5 go) fun r s6 ⟨u,hr,h6⟩=>?_
   subst hr
   refine thn h6 fun _ s7 ⟨x,H7,I7,r7,y7,st7,fr7⟩=>?_
   have I7':=I7.pinned (stat fr7) (T.obj _ _ st7)
   refine thn (hg _ _ s7 σ5 H7 x u _ I7' r7 (step x H7 y7)) fun _ s8 ⟨σ8,H8,I8,q8⟩=>?_
   refine thn (hf _ _ s8 σ8 H8 _ I8 q8) fun k s9 ⟨H9,I9,q9⟩=>?_
   have again:∀{H10:Hp}{s10:Shared},Inv (cxC X N scope ⟨s2.heap.objs.size + 1,fp,s2,H2⟩) ([] ++ nY fp s7.heap) σ8 H10 s10->M σ8 H10 ->
     ∃m,m < n/\∃i σ' H',Inv (cxC X N scope ⟨s2.heap.objs.size + 1,fp,s2,H2⟩) [] σ' H' s10/\tn i s10.heap/\(∀b ∈ fp,H' b=none)/\W i m σ' H':=fun {H10 s10} I10 q10=>by
    obtain ⟨m',hm,w10⟩:=hM σ8 H10 q10
    refine ⟨m',hm,i + 1,σ8,H10,I10.jP,T.keep _ _ _ st7 fun b hb o e=>(I10.pin (b,o) (List.mem_append_right _ (List.mem_append_right _ (jb hb e)))).1,fun b hb=>?_,w10⟩
    obtain ⟨o,e,d⟩:=T.obj _ _ st7 b hb
    exact (I10.pin (b,o) (List.mem_append_right _ (List.mem_append_right _ (jb hb e)))).2.1
   cases k with
   | false=>exact again I9 q9
   | true =>
    refine thn (he _ _ s9 σ8 H9 _ I9 q9) fun w10 s10 ⟨y,H10,I10,r10,ys,hys,hz,q10⟩=>?_
    refine thn (qr _ s10 σ8 H10 (.ref s2.heap.objs.size) [y] (.ref s2.heap.objs.size) [w10] (fun _ H'=>M σ8 H') I10 rfl (.cons r10 .nil) ⟨_,ys,y,rfl,rfl,hys,hz,q10⟩) fun _ s11 ⟨_,H11,I11,_,q11⟩=>?_
    exact again I11 q11
 have go:codeAny (model X.prog X.w) X.A (.compStart (.ListComp elt [⟨tg,iter,ifs,0⟩] scope pos) 0 (.ref it) (.ref s2.heap.objs.size) (cxC X N scope ⟨s2.heap.objs.size + 1,fp,s2,H2⟩).env)
   (compPost (model X.prog X.w) X.A X.xe use R (.ref s2.heap.objs.size) (s2.heap.objs.size + 1)) { s2 with heap:=pushCells ((s2.heap.push { cls:=.type "list",data:=.seq #[] }).push { cls:=.type "dict",data:=.dict #[] }) scope.names } :=
  codeAny_compStart_list loop (T.self _ 0 _ _ _ st4 loop)
 have fin2:∀(env':Env) (L:Addr),env'=(cxC X N scope ⟨s2.heap.objs.size + 1,fp,s2,H2⟩).env->L=s2.heap.objs.size + 1 ->
   codeAny (model X.prog X.w) X.A (.compStart (.ListComp elt [⟨tg,iter,ifs,0⟩] scope pos) 0 (.ref it) (.ref s2.heap.objs.size) env') (compPost (model X.prog X.w) X.A X.xe use R (.ref s2.heap.objs.size) L)
    { s2 with heap:=pushCells ((s2.heap.push { cls:=.type "list",data:=.seq #[] }).push { cls:=.type "dict",data:=.dict #[] }) scope.names }:=by
  intro env' L h1 h2
  subst h1 h2
  exact go
 exact fin2 _ _ e5 e6
theorem qo {pins:List (Addr × Obj)}{C:Addr}{oC:Obj}{σ':St}{H':Hp}{s':Shared}{h':Heap} (I:Inv X (pins ++ [(C,oC)]) σ' H' s') (hy:X.s₀.heap.objs.size <= C) (hp:∀p ∈ X.pn ++ pins,p.1 ≠ C) (sb:Heap.SameBut C s'.heap h') :
  Inv X pins σ' H' { s' with heap:=h' }:=by
 have pC:=I.pin (C,oC) (List.mem_append_right _ (List.mem_append_right _ (by simp)))
 have I2:Inv X pins σ' H' s':=I.jP
 refine I2.turned (it:=C) (t':=s'.toks) (fun b o hb e=>(sb.2 b hb).trans e) pC.2.1 pC.2.2.1 (.inr hy) (fun x c e z=>?_) hp
 obtain ⟨v,o,ho,hd⟩:=I2.cell x c e
 rw [z,pC.1] at ho
 cases ho
 exact pC.2.2.2.2 v hd
theorem kI (S:df X.env.scope X.N N own fr scope) (hc:X.calm=true) (hi:PI X tg iter wi) (hg:∀b,PG (cxC X N scope b) tg (g b)) (hf:∀b,PF (cxC X N scope b) ifs (tf b)) (he:∀b,PE (cxC X N scope b) elt (te b))
  (hs:∀x,foldedSetIterable iter X.env x=pure x:=by intro _;rfl):PE X (.ListComp elt [⟨tg,iter,ifs,0⟩] scope pos) (xE wi own fr g tf te):=by
 intro pins s σ H Q I h
 rw [eval_ListComp]
 refine rT (use:=none) S hc hi hg hf he hs I h fun D C oC m H' s' I' hy hp hm q=>?_
 have pC:=I'.pin (C,oC) (List.mem_append_right _ (List.mem_append_right _ (by simp)))
 exact ⟨m,hm _ pC.1,fun h' sb=>⟨.ref D,H',qo I' hy hp sb,rfl,q⟩⟩
theorem lE {j:Nat}{y:Str}{py spos:Pos} (S:df X.env.scope X.N N own fr scope) (hc:X.calm=true) (hN:X.N.Nodup) (hj:X.N[j]?=some y) (hy:Loc X.env.scope y) (hi:PI X tg iter wi) (hg:∀b,PG (cxC X N scope b) tg (g b)) (hf:∀b,PF (cxC X N scope b) ifs (tf b))
  (he:∀b,PE (cxC X N scope b) elt (te b)) (hfn:X.fn y=true \/ X.env.scope.names.lookup y=some .local:=by first | exact .inl rfl | exact .inr rfl | assumption) (hs:∀x,foldedSetIterable iter X.env x=pure x:=by intro _;rfl)
  (hsw:swapsWith (.ListComp elt [⟨tg,iter,ifs,0⟩] scope pos) (some (.Name y py)) spos.line X.env=pure true:=by rfl) :
  PS X (.Assign [.Name y py] (.ListComp elt [⟨tg,iter,ifs,0⟩] scope pos) spos) (zu (xE wi own fr g tf te) (jY j)):=by
 intro pins s σ H D I h
 rw [exec_Assign_Name_used _ _ _ _ hsw]
 refine wpAny_bind (wpAny_standAt (wpAny_bind ?_))
 show wpAny _ _ (do let _ <- comprehension (.ListComp elt [⟨tg,iter,ifs,0⟩] scope pos) scope X.env _ (newList []) false (eval iter X.env) (some (assign (.Name y py) X.env))) _ _ s
 refine wpAny_bind (thn (rT (use:=some (assign (.Name y py) X.env)) (R:=fun _ s'=>SP X pins D .next s') S hc hi hg hf he hs I h fun D' C oC m H' s' I' hy' hp hm q=>?_) fun _ s' q=>wpAny_pure (wpAny_pure q))
 show wpAny _ _ (assign (.Name y py) X.env (.ref D')) _ _ s'
 refine thn (vA hN hj hy hfn _ s' σ H' (.ref D') (.ref D') _ I' rfl q) fun _ s'' ⟨σ2,H2,I2,q2⟩=>?_
 have pC:=I2.pin (C,oC) (List.mem_append_right _ (List.mem_append_right _ (by simp)))
 exact ⟨m,hm _ pC.1,fun h' sb=>⟨σ2,H2,qo I2 hy' hp sb,q2⟩⟩
end
end L2
namespace L2
open PySem PySem.Spec PyProof.Rows
theorem PE.imp {X:Cx}{e:Expr}{t t':TE} (h:PE X e t) (k:∀σ H Q,t' σ H Q->t σ H Q):PE X e t':=fun pins s σ H Q I q=>h pins s σ H Q I (k σ H Q q)
theorem OpR.imp {X:Cx}{f:Value->Value->Sem Value}{r r':R2} (h:OpR X f r) (k:∀x y H Q,r' x y H Q->r x y H Q):OpR X f r':=fun pins s σ H x y v u Q I rx ry q=>h pins s σ H x y v u Q I rx ry (k x y H Q q)
def Ab (i:Nat):TE:=fun σ H Q=>match σ[i]? with
 | some (some v)=>Q v H
 | _=>False
section
variable {X:Cx}
theorem fv (i:Nat) {x:Str}{pos:Pos} (hN:X.N[i]?=some x:=by rfl) (hv:Vis X.env.scope x:=by first | exact Or.inl rfl | exact Or.inr (Or.inl rfl) | exact Or.inr (Or.inr rfl)) (hd:(x == ("__debug__":Str))=false:=by decide)
  (hcd:(x == ("__classdict__":Str))=false:=by decide):PE X (.Name x pos) (Ab i):=(AZ hN hv hd hcd).imp fun σ H Q q=>by
 unfold Ab at q
 cases e:σ[i]? with
 | none=>rw [e] at q;exact q.elim
 | some o =>
  cases o with
  | none=>rw [e] at q;exact q.elim
  | some v=>rw [e] at q;exact ⟨v,e,q⟩
def D9:R2:=fun x y H Q=>match x,y with
 | .int i,.int j=>Q (.int (i + j)) H
 | .str a,.str b=>a.length + b.length <= sizeLine/\Q (.str (a ++ b)) H
 | .ref p,.ref q=>Dn (.ref p) (.ref q) H Q
 | _,_=>False
theorem bL:OpR X (binaryOp .Add) D9:=by
 intro pins s σ H x y v u Q I rx ry h
 cases x with
 | int i =>
  cases y with
  | int j=>exact BA pins s σ H _ _ v u Q I rx ry ⟨i,j,rfl,rfl,h⟩
  | _=>exact (show False from h).elim
 | str a =>
  cases y with
  | str b=>exact uB pins s σ H _ _ v u Q I rx ry ⟨a,b,rfl,rfl,h.1,h.2⟩
  | _=>exact (show False from h).elim
 | ref p =>
  cases y with
  | ref q=>exact Bj pins s σ H _ _ v u Q I rx ry h
  | _=>exact (show False from h).elim
 | _=>cases y <;> exact (show False from h).elim
def pQ (C:Int->Int->Prop) (g:Int->Int->V):R2:=fun x y H Q=>match x,y with
 | .int i,.int j=>C i j/\Q (g i j) H
 | _,_=>False
def jA (g:Int->Int->V):R2:=fun x y H Q=>match x,y with
 | .int i,.int j=>Q (g i j) H
 | _,_=>False
theorem OpR.pQ {f:Value->Value->Sem Value}{C:Int->Int->Prop}{g:Int->Int->V} (h:OpR X f (rI C g)):OpR X f (pQ C g):=h.imp fun x y H Q q=>by
 cases x with
 | int i =>
  cases y with
  | int j=>exact ⟨i,j,rfl,rfl,q.1,q.2⟩
  | _=>exact (show False from q).elim
 | _=>cases y <;> exact (show False from q).elim
theorem OpR.jA {f:Value->Value->Sem Value}{g:Int->Int->V} (h:OpR X f (rI0 g)):OpR X f (jA g):=h.imp fun x y H Q q=>by
 cases x with
 | int i =>
  cases y with
  | int j=>exact ⟨i,j,rfl,rfl,q⟩
  | _=>exact (show False from q).elim
 | _=>cases y <;> exact (show False from q).elim
theorem lN:OpR X (binaryOp .Sub) (jA fun i j=>.int (i - j)):=BE.jA
theorem Ce:OpR X (binaryOp .Mult) (pQ v8 fun i j=>.int (i * j)):=Bd.pQ
def xK (_ j:Int):Prop:=0 < j/\j < 2 ^ 64
theorem vH {j:Int} (h:xK 0 j):j.natAbs.log2 < 9000:=by
 have h1:j.natAbs < 2 ^ 64:=by
  have h2:j < 2 ^ 64:=h.2
  have h3:0 < j:=h.1
  omega
 have h0:j.natAbs ≠ 0:=by have h3:0 < j:=h.1;omega
 have:=(Nat.log2_lt h0).mpr h1
 omega
theorem bT:OpR X (binaryOp .FloorDiv) (pQ xK fun i j=>.int (i / j)):=(opI fun i j _ _ _ _ _ hc q=>by
 have h1:(0:Int) < j:=hc.1
 exact floordiv_int (by omega) (by rw [Int.fdiv_eq_ediv_of_nonneg i (by omega)];exact q) (.inl (PyProof.noPylong_of_log2 (vH hc)))).pQ
theorem bF:OpR X (binaryOp .Mod) (pQ (fun _ j=>0 < j) fun i j=>.int (i % j)):=A7.pQ
theorem qb:OpR X (binaryOp .Pow) (pQ CV fun i j=>.int (i ^ j.toNat)):=Ba.pQ
theorem yj:OpR X (compareOp .Lt) (jA fun i j=>.bl (decide (i < j))):=CG.jA
theorem Cj:OpR X (compareOp .LtE) (jA fun i j=>.bl (decide (i <= j))):=Ct.jA
theorem vW:OpR X (compareOp .Gt) (jA fun i j=>.bl (decide (j < i))):=Cp.jA
theorem Eg:OpR X (compareOp .GtE) (jA fun i j=>.bl (decide (j <= i))):=Cn.jA
mutual
inductive jG (K:W.Frag) (H:Hp):V->PyData->Prop where
 | non:jG K H .non .none
 | bl (b:Bool):jG K H (.bl b) (.bool b)
 | int (i:Int):jG K H (.int i) (.int i)
 | str (x:Str):jG K H (.str x) (.str x)
 | lst {a:Addr}{xs:List V}{ds:List PyData} (h:SqL K H a xs) (r:dN K H xs ds):jG K H (.ref a) (.list ds)
 | tup {a:Addr}{xs:List V}{ds:List PyData} (h:SqT K H a xs) (r:dN K H xs ds):jG K H (.ref a) (.tuple ds)
inductive dN (K:W.Frag) (H:Hp):List V->List PyData->Prop where
 | nil:dN K H [] []
 | cons {x:V}{xs:List V}{d:PyData}{ds:List PyData} (h:jG K H x d) (r:dN K H xs ds):dN K H (x :: xs) (d :: ds)
end
mutual
theorem Inv.reads {pins:List (Addr × Obj)}{σ:St}{H:Hp}{s:Shared} (I:Inv X pins σ H s):∀{x:V}{d:PyData}{u:Value},jG X.K H x d->RelV x u->∃as,Reads s.heap u d as
 | _,_,_,.non,r=>by cases r;exact ⟨_,.none⟩
 | _,_,_,.bl b,r=>by cases r;exact ⟨_,.bool b⟩
 | _,_,_,.int i,r=>by obtain ⟨t,rfl⟩:=r;exact ⟨_,.int i t⟩
 | _,_,_,.str x,r=>by obtain ⟨t,rfl⟩:=r;exact ⟨_,.str x t⟩
 | _,_,_,.lst h q,r=>by
  cases r
  obtain ⟨its,rv,⟨o,n,e,hc,_,hd⟩,_⟩:=I.list h
  obtain ⟨as,z⟩:=I.readsAll q rv
  exact ⟨_,.list e hc hd (by simpa using z)⟩
 | _,_,_,.tup h q,r=>by
  cases r
  obtain ⟨its,rv,⟨o,e,hc,n,hd⟩,_⟩:=I.tuple h
  obtain ⟨as,z⟩:=I.readsAll q rv
  exact ⟨_,.tuple e hc hd (by simpa using z)⟩
theorem Inv.readsAll {pins:List (Addr × Obj)}{σ:St}{H:Hp}{s:Shared} (I:Inv X pins σ H s):∀{xs:List V}{ds:List PyData}{us:List Value},dN X.K H xs ds->Vals xs us->∃as,ReadsAll s.heap us ds as
 | _,_,_,.nil,r=>by cases r;exact ⟨_,.nil⟩
 | _,_,_,.cons h q,r=>by
  cases r with
  | cons r1 r2 =>
   obtain ⟨as,z⟩:=I.reads h r1
   obtain ⟨bs,z2⟩:=I.readsAll q r2
   exact ⟨_,.cons z z2⟩
end
def fEq (K:W.Frag):R2:=fun x y H Q=>match x,y with
 | .ref p,.ref q=>∃d e,jG K H (.ref p) d/\jG K H (.ref q) e/\SeqAt.shaped d=true/\SeqAt.shaped e=true/\Q (.bl (PyData.eqv d e)) H
 | x,y=>vI x y=true/\Q (.bl (decide (x=y))) H
def fNe (K:W.Frag):R2:=fun x y H Q=>match x,y with
 | .ref p,.ref q=>∃d e,jG K H (.ref p) d/\jG K H (.ref q) e/\SeqAt.shaped d=true/\SeqAt.shaped e=true/\Q (.bl (!PyData.eqv d e)) H
 | x,y=>vI x y=true/\Q (.bl (!decide (x=y))) H
theorem DR (hu:X.A.units + 64 < cLine):OpR X (compareOp .Eq) (fEq X.K):=by
 intro pins s σ H x y v u Q I rx ry h
 by_cases hr:∃p q,x=V.ref p/\y=V.ref q
 ·obtain ⟨p,q,rfl,rfl⟩:=hr
  obtain ⟨d,e,hd,he,sd,se,hq⟩:=h
  obtain ⟨as,z1⟩:=I.reads hd rx
  obtain ⟨bs,z2⟩:=I.reads he ry
  exact eq_dataH z1 z2 sd se hu ⟨.bl _,H,I,rfl,hq⟩
 ·refine CQ pins s σ H x y v u Q I rx ry ?_
  cases x <;> cases y <;> first | exact h | exact absurd ⟨_,_,rfl,rfl⟩ hr
theorem uQ (hu:X.A.units + 64 < cLine):OpR X (compareOp .NotEq) (fNe X.K):=by
 intro pins s σ H x y v u Q I rx ry h
 by_cases hr:∃p q,x=V.ref p/\y=V.ref q
 ·obtain ⟨p,q,rfl,rfl⟩:=hr
  obtain ⟨d,e,hd,he,sd,se,hq⟩:=h
  obtain ⟨as,z1⟩:=I.reads hd rx
  obtain ⟨bs,z2⟩:=I.reads he ry
  exact ne_dataH z1 z2 sd se hu ⟨.bl _,H,I,rfl,hq⟩
 ·refine Dp pins s σ H x y v u Q I rx ry ?_
  cases x <;> cases y <;> first | exact h | exact absurd ⟨_,_,rfl,rfl⟩ hr
def fIn (K:W.Frag) (neg:Bool):R2:=fun x y H Q=>match y with
 | .str j=>∃i,x=.str i/\Q (.bl (if neg then !(!(Builtin.Str.occurrences j i 0 j.length 1).isEmpty) else !(Builtin.Str.occurrences j i 0 j.length 1).isEmpty)) H
 | .ref p=>∃xs,(SqL K H p xs \/ SqT K H p xs)/\kY x=true/\xs.all kY=true/\Q (.bl (if neg then !inV x xs else inV x xs)) H
 | _=>False
theorem DX:OpR X (compareOp .In) (fIn X.K false):=by
 intro pins s σ H x y v u Q I rx ry h
 cases y with
 | str j =>
  obtain ⟨i,rfl,q⟩:=h
  exact wj pins s σ H _ _ v u Q I rx ry ⟨i,j,rfl,rfl,q⟩
 | ref p =>
  obtain ⟨xs,h1,h2,h3,q⟩:=h
  exact vJ pins s σ H _ _ v u Q I rx ry ⟨p,xs,rfl,h1,h2,h3,q⟩
 | _=>exact (show False from h).elim
theorem zo:OpR X (compareOp .NotIn) (fIn X.K true):=by
 intro pins s σ H x y v u Q I rx ry h
 cases y with
 | str j =>
  obtain ⟨i,rfl,q⟩:=h
  exact rh pins s σ H _ _ v u Q I rx ry ⟨i,j,rfl,rfl,q⟩
 | ref p =>
  obtain ⟨xs,h1,h2,h3,q⟩:=h
  exact rq pins s σ H _ _ v u Q I rx ry ⟨p,xs,rfl,h1,h2,h3,q⟩
 | _=>exact (show False from h).elim
theorem Cv:OpR X (compareOp .Is) (fun x y H Q=>y=.non/\Q (.bl (decide (x=.non))) H):=Be
def fIx (K:W.Frag):R2:=fun x y H Q=>match x,y with
 | .ref p,.int i=>∃xs v,(SqL K H p xs \/ SqT K H p xs)/\atI xs i=some v/\Q v H
 | .str z,.int i=>∃c,z.length <= sizeLine/\atI z.cps.toList i=some c/\Q (.str ⟨#[c]⟩) H
 | _,_=>False
theorem xU:IxR X (fIx X.K):=by
 intro value slice pins s σ H x y v u Q I rx ry h hs
 cases x with
 | ref p =>
  cases y with
  | int i =>
   obtain ⟨xs,w,h1 | h1,h2,q⟩:=h
   ·exact zV value slice pins s σ H _ _ v u Q I rx ry ⟨p,xs,i,w,rfl,rfl,h1,h2,q⟩ hs
   ·exact AS value slice pins s σ H _ _ v u Q I rx ry ⟨p,xs,i,w,rfl,rfl,h1,h2,q⟩ hs
  | _=>exact (show False from h).elim
 | str z =>
  cases y with
  | int i =>
   obtain ⟨c,h1,h2,q⟩:=h
   exact BF value slice pins s σ H _ _ v u Q I rx ry ⟨z,i,c,rfl,rfl,h1,h2,q⟩ hs
  | _=>exact (show False from h).elim
 | _=>cases y <;> exact (show False from h).elim
def DE:V->Option Int->Option Int->Hp->VK->Prop:=fun x lo hi H Q=>∃z,x=.str z/\z.length <= sizeLine/\Q (.str (Txt.slice z lo hi)) H
def Its (x:Str):It:=⟨fun i _=>i < x.cps.size,fun i H v H'=>H'=H/\∃c,x.cps[i]?=some c/\v=.str ⟨#[c]⟩,fun i _=>x.cps.size <= i⟩
theorem xy {P:Program}{w:World}{K:PySem.W.Frag}{tg:Expr}{T:String} (hT:T="str_ascii_iterator" \/ T="str_iterator") (it:Addr) (x:Str) (t:Tok):Turn P w K tg (Its x) [it] it (fun i h=>i <= x.cps.size/\h.IsStrIter it T x t i) where
 mem:=by simp
 obj:=fun i h st b hb=>by
  have e:b=it:=by simpa using hb
  subst e
  obtain ⟨_,o,e,c,d⟩:=st
  exact ⟨o,e,fun v z=>by rw [d] at z;cases z⟩
 keep:=fun i h h' st k=>by
  obtain ⟨hi,o,e,r⟩:=st
  exact ⟨hi,o,k it (by simp) o e,r⟩
 item:=by
  intro X hP hw hK hc i pins s σ H E I hf st hg
  subst hP hw hK
  obtain ⟨f0,f1,f2,f3,f4,f5⟩:=hf it (by simp)
  have W:Walks X.prog X.w X.A it [it] [it] x.cps.size (SignAt x) (fun i h=>h.IsStrIter it T x t i):=by
   rcases hT with rfl | rfl
   ·exact Walks.strAscii (I.ok.hd hc) it x t
   ·exact Walks.strWide (I.ok.hd hc) it x t
  refine W.item i s _ _ hg st.2 fun v h' tk hv st' kk=>?_
  obtain ⟨c,u,hcp,rfl⟩:=hv
  have I1:Inv X pins σ H { s with heap:=h',toks:=tk }:=I.turned (fun b o hb e=>kk b o (by simpa using hb) e) f0 f1 f3 f4 f5
  obtain ⟨o,e,c',d⟩:=id st'
  refine ⟨_,rfl,vC (s:={ s with heap:=h',toks:=tk }) e c' d (by rcases hT with rfl | rfl <;> decide) ⟨.str ⟨#[c]⟩,H,I1,⟨u,rfl⟩,⟨rfl,c,hcp,rfl⟩,⟨hg,st'⟩,fun b hb=>(hf b hb).1⟩⟩
 done:=by
  intro X hP hw hK hc i pins s σ H E I hf st hg
  subst hP hw hK
  obtain ⟨f0,f1,f2,f3,f4,f5⟩:=hf it (by simp)
  have W:Walks X.prog X.w X.A it [it] [it] x.cps.size (SignAt x) (fun i h=>h.IsStrIter it T x t i):=by
   rcases hT with rfl | rfl
   ·exact Walks.strAscii (I.ok.hd hc) it x t
   ·exact Walks.strWide (I.ok.hd hc) it x t
  have e:i=x.cps.size:=Nat.le_antisymm st.1 hg
  subst e
  exact W.done s _ _ st.2 fun h' tk kk=>⟨rfl,I.turned (fun b o hb e=>kk b o (by simpa using hb) e) f0 f1 f3 f4 f5⟩
 self:=fun A i s Q E st h=>by
  rcases hT with rfl | rfl
  ·exact wpAny_pyIter_striter_ascii st.2 h
  ·exact wpAny_pyIter_striter_wide st.2 h
def DP (K:W.Frag) (tl:TE):TI:=fun σ H R=>tl σ H fun x H1=>match x with
 | .ref a=>((∃xs,SqL K H1 a xs)/\R (Itl K a) H1) \/ ((∃xs,SqT K H1 a xs)/\R (Itt K a) H1)
 | .str z=>R (Its z) H1
 | _=>False
theorem fu {tg l:Expr}{tl:TE} (hl:PE X l tl):PI X tg l (DP X.K tl):=by
 intro pins s σ H R I h
 refine thn (hl pins s σ H _ I h) fun v s1 ⟨x,H1,I1,r1,q1⟩=>?_
 cases x with
 | ref a =>
  cases r1
  rcases q1 with ⟨⟨xs,hq⟩,q⟩ | ⟨⟨xs,hq⟩,q⟩
  ·obtain ⟨its,rv,p,hz⟩:=I1.list hq
   refine wpAny_pyIter_list p.isList ?_
   refine ⟨s1.heap.objs.size,[s1.heap.objs.size],_,_,H1,rfl,I1.kept (t':=s1.toks) fun b o e=>Heap.get?_push_of_some _ e,vK a _,⟨_,Heap.get?_push_size _ rfl,rfl,rfl⟩,fun b hb=>?_,q⟩
   have e:b=s1.heap.objs.size:=by simpa using hb
   subst e
   exact I1.tO (Nat.le_refl _) (I1.hok.fresh (Nat.le_refl _))
  ·obtain ⟨its,rv,p,hz⟩:=I1.tuple hq
   refine wpAny_pyIter_tuple (show s1.heap.IsTuple a its.toArray from p) ?_
   refine ⟨s1.heap.objs.size,[s1.heap.objs.size],_,_,H1,rfl,I1.kept (t':=s1.toks) fun b o e=>Heap.get?_push_of_some _ e,uz a _,⟨_,Heap.get?_push_size _ rfl,rfl,rfl⟩,fun b hb=>?_,q⟩
   have e:b=s1.heap.objs.size:=by simpa using hb
   subst e
   exact I1.tO (Nat.le_refl _) (I1.hok.fresh (Nat.le_refl _))
 | str z =>
  obtain ⟨t,rfl⟩:=r1
  refine wpAny_pyIter_strU ?_
  refine ⟨s1.heap.objs.size,[s1.heap.objs.size],_,_,H1,rfl,I1.kept (t':=s1.toks) fun b o e=>Heap.get?_push_of_some _ e,xy (T:=strIterType z) ?_ _ z t,⟨Nat.zero_le _,_,Heap.get?_push_size _ rfl,rfl,rfl⟩,fun b hb=>?_,q1⟩
  ·unfold strIterType
   split
   ·exact .inl rfl
   ·exact .inr rfl
  ·have e:b=s1.heap.objs.size:=by simpa using hb
   subst e
   exact I1.tO (Nat.le_refl _) (I1.hok.fresh (Nat.le_refl _))
 | _=>exact (show False from q1).elim
theorem bU {a:Expr}{ta:TE} (ha:PE X a ta) (he:∀whole,isTrue a X.env whole=(do let v <- whole;standAt a.pos;holding [v] (truthy v))) :
  PT X a (fun σ H Q=>ta σ H fun x H'=>∃k,zA X.K x H' k/\Q k H'):=xg ha he
theorem zB {a:Expr}{ta:TE}{pos:Pos} (ha:PE X a ta):PE X (.UnaryOp .Not a pos) (fun σ H Q=>ta σ H fun x H1=>∃k,zA X.K x H1 k/\Q (.bl (!k)) H1):=by
 intro pins s σ H Q I h
 refine UnaryOp_ (thn (ha pins s σ H _ I h) fun v s1 ⟨x,H1,I1,r1,q1⟩=>?_)
 obtain ⟨k,ht,q⟩:=q1
 exact not_of (thn (x9 pins s1 σ H1 x v (fun b H2=>Q (.bl (!b)) H2) I1 r1 ⟨k,ht,q⟩) fun b s2 ⟨H2,I2,q2⟩=>⟨.bl (!b),H2,I2,rfl,q2⟩)
theorem Cw:eJ X (.builtin "len") (fun xs H Q=>∃x n,xs=[x]/\Bc X.K x H n/\Q (.int n) H):=yS
theorem iE:eJ X (.type "list") (fun xs H Q=>∃p ys,xs=[.ref p]/\(SqL X.K H p ys \/ SqT X.K H p ys)/\∀l,H l=none->Q (.ref l) (upd H l (.lst ys))):=rA
theorem wH {bs:List Bool}{its:List Value} (r:Vals (bs.map V.bl) its) {i:Nat}{v:Value} (h:its[i]?=some v):∃b,bs[i]?=some b/\v=.bool b:=by
 have hi:i < its.length:=(List.getElem?_eq_some_iff.mp h).1
 have hl:=r.length
 rw [List.length_map] at hl
 have hb:bs[i]?=some bs[i]:=List.getElem?_eq_getElem (by omega)
 obtain ⟨u,hu,ru⟩:=r.get (i:=i) (x:=V.bl bs[i]) (by rw [List.getElem?_map,hb];rfl)
 rw [h] at hu
 cases hu
 exact ⟨_,hb,ru⟩
theorem AB (hc:X.calm=true:=by rfl):eJ X (.builtin "all") (fun xs H Q=>∃(p:Addr) (bs:List Bool),xs=[.ref p]/\SqL X.K H p (bs.map V.bl)/\Q (.bl (bs.all id)) H):=by
 intro pins s σ H xs us Q I r h
 obtain ⟨p,bs,rfl,hq,q⟩:=h
 obtain ⟨u,rfl,rx⟩:=vals1 r
 cases rx
 obtain ⟨its,rv,pl,hz⟩:=I.list hq
 have hl:=pl.isList
 have hlt:p < s.heap.objs.size:=by obtain ⟨_,e,_⟩:=hl;exact Heap.lt_size e
 have hlen:its.toArray.size=bs.length:=by have:=rv.length;rw [List.length_map] at this;rw [List.size_toArray];omega
 refine call_all_walk (wpAny_pyIter_list hl ?_)
 refine ⟨s.heap.objs.size,[s.heap.objs.size,p],[s.heap.objs.size],its.toArray.size,_,_,fun i=>(bs[i]?).getD true,rfl,Walks.list (A:=X.A.in1) (I.ok.hd hc) _ p (Nat.ne_of_lt hlt) its.toArray,
  ⟨⟨_,Heap.get?_push_size _ rfl,rfl,rfl⟩,hl.push _⟩,fun i v s' Q' E' hP hQ=>?_,fun h' tk hk=>?_⟩
 ·obtain ⟨b,e,rfl⟩:=wH rv (by simpa using hP)
  simp only [e,Option.getD_some] at hQ
  exact wpAny_truthy_bool hQ
 ·rw [hlen,LSm.range_all bs]
  exact ⟨.bl _,H,I.kept (LSm.kept_iter hk),rfl,q⟩
def zy:V->Value
 | .ty n=>.type n
 | .ref a=>.ref a
 | _=>.none
theorem ya {y:V}{u:Value} (r:RelV y u) (h:zy y ≠ .none):u=zy y:=by
 cases y with
 | ty n=>exact r
 | ref a=>exact r
 | _=>exact absurd rfl h
theorem bg:eJ X (.builtin "isinstance") (fun xs H Q=>∃x y t b,xs=[x,y]/\zy y ≠ .none/\kK X.K H x t/\W.kitOne X.K t (zy y)=some b/\Q (.bl b) H):=by
 intro pins s σ H xs us Q I r h
 obtain ⟨x,y,t,b,rfl,hy,ty,e,q⟩:=h
 obtain ⟨u,w',rfl,rx,ry⟩:=vals2 r
 rw [ya ry hy]
 exact vR I rx ty e fun tk=>⟨.bl b,H,I.tok _,rfl,q⟩
theorem bN {o e:Expr}{to:TE}{t:TA}{apos cpos:Pos} (ho:PE X o to) (ha:PA X [e] t) (hbase:attributeBase o "append" X.env (eval o X.env)=eval o X.env:=by rfl)
  (hfew:((backTo cpos (starEach [e] X.env)).all (fun x=>!x.1) && (backToKw cpos (keywordEach [] X.env)).all (fun x=>x.1.isSome)
   && decide ([e].length + ([]:List Keyword).length + (if ([]:List Keyword).isEmpty then 0 else 1) < 30))=true:=by rfl)
  (hline:(apos.endLine == cpos.line)=true:=by rfl) (hs:starEach [e] X.env=(false,eval e X.env) :: starEach [] X.env:=by rfl) (hplain:(backTo cpos (starEach [] X.env)).any (·.1)=false:=by rfl) :
  PE X (.Call (.Attribute o "append" apos) [e] [] cpos) (tBM X.K "list" uY to t):=xV PySem.F.plainAttrs_list PySem.F.slot_list_append PySem.F.type_list_append qr ho ha hbase hfew hline hs hplain
end
def Has (P:Program) (w:World) (K:W.Frag) (mg:Str->Option Value) (base:Heap) (k:Nat) (x:Str) (ps:List Str) (sp:Sp):Prop :=
 ∃f fd,kL P w K mg base CX0 k f fd ps sp/\Binds K fd ps []/\W.keepIn K (.ref f)=true/\mg x=some (.ref f)/\∃oc od osl,K.lookup f=some ⟨oc,od,.func fd,osl⟩
structure b8 (K:W.Frag) (mg:Str->Option Value) (x:Str) (st:Stmt) (ps:List Str):Prop where
 ex:∃f fd,Fun K x x st f fd/\Binds K fd ps []/\mg x=some (.ref f)
theorem ar {X:Cx}{j k:Nat}{x:Str}{ps:List Str}{sp:Sp}{e:Expr}{es:List Expr}{t:TA}{p pos:Pos} (D:Has X.prog X.w X.K X.mg X.base j x ps sp) (hr:eR k X.A) (ha:PA X (e :: es) t) (hj:j <= k:=by decide) (hg:Gl X x:=by rfl)
  (hdb:(x == ("__debug__":Str))=false:=by decide) (he:starEach (e :: es) X.env=(false,eval e X.env) :: starEach es X.env:=by rfl) (hpl:(backTo pos (starEach es X.env)).any (·.1)=false:=by rfl) :
  PE X (.Call (.Name x p) (e :: es) [] pos) (yG sp [] E0 t):=by
 obtain ⟨f,fd,F,b,kp,m,_⟩:=D
 exact zj F (hr.mono hj) hg m kp b .nil sY ha hdb he hpl
theorem b8.has {P:Program}{w:World}{K:W.Frag}{mg:Str->Option Value}{base:Heap}{x:Str}{st:Stmt}{N ps:List Str}{k:Nat}{sp:Sp} (F:b8 K mg x st ps) (S:aF N ps (au st)) (len:∀vs H Q E,sp vs H Q E->vs.length=ps.length)
  (hbody:∀(f:Addr) (cdv:Value) (A:Around) (outer:List Env) (s:Shared) (H:Hp) (vs:List V) (Q:VK) (E:XK),eR k (A.deeper (envOfC x (au st) s.heap.objs.size f cdv))->(A.deeper (envOfC x (au st) s.heap.objs.size f cdv)).units + 64 < cLine->sp vs H Q E ->
   ∃t,PSs (sR CX0 P w K mg base N x (au st) f cdv A outer s H E).nox (cO st) t/\t { nx:=fun _ H'=>Q .non H',rt:=Q } (start N vs) H):Has P w K mg base (k + 1) x ps sp:=by
 obtain ⟨f,fd,F,b,m⟩:=F.ex
 obtain ⟨oc,od,kV,doc,pm,an,cdv,ct,osl,e,lk,hcd⟩:=F.ex
 exact ⟨f,fd,F.ok S len fun cdv A outer s H vs Q E hr h=>hbody f cdv A outer s H vs Q E hr hr.units h,b,F.kp,m,oc,od,osl,lk⟩
end L2
namespace L2
open PySem PySem.Spec PyProof.Rows
theorem aj.upd {H:Hp}{p:Addr} (h:H p=none) (o:HO):aj H (upd H p o):=fun b u q=>by rw [aI (dR q h)];exact q
theorem aj.tup {K:W.Frag}{H H':Hp}{a:Addr}{xs:List V} (e:aj H H') (h:SqT K H a xs):SqT K H' a xs:=by
 rcases h with (h | ⟨o,h⟩) | h
 ·exact .inl (.inl (e _ _ h))
 ·exact .inl (.inr ⟨o,e _ _ h⟩)
 ·exact .inr h
mutual
theorem aj.rep {K:W.Frag}{H H':Hp} (e:aj H H'):∀{x:V}{d:PyData},jG K H x d->jG K H' x d
 | _,_,.non=>.non
 | _,_,.bl b=>.bl b
 | _,_,.int i=>.int i
 | _,_,.str x=>.str x
 | _,_,.lst h r=>.lst (e.seq h) (e.tU r)
 | _,_,.tup h r=>.tup (e.tup h) (e.tU r)
theorem aj.tU {K:W.Frag}{H H':Hp} (e:aj H H'):∀{xs:List V}{ds:List PyData},dN K H xs ds->dN K H' xs ds
 | _,_,.nil=>.nil
 | _,_,.cons h r=>.cons (e.rep h) (e.tU r)
end
def cFr (fr:List Nat) (σ:St):St:=fr.map fun j=>(σ[j]?).getD none
theorem uP {J:It}{n:Nat}{x:Nat->V}{fr:List Nat}{tf:CB->TT}{te:CB->TE}{Q:VK}{σ:St}{H1:Hp} (p:Nat->Bool) (f:Nat->V) (hn:n < sizeLine)
  (stop:∀H,aj H1 H->J.stop n H) (go:∀i H,i < n->aj H1 H->J.go i H) (yld:∀i H v H',i < n->aj H1 H->J.yld i H v H'->H'=H/\v=x i)
  (hf:∀b i H (R:Bool->Hp->Prop),i < n->aj H1 H->(∀H',aj H H'->R (p i) H')->tf b (some (x i) :: cFr fr σ) H R)
  (he:∀b i H (R:VK),i < n->p i=true->aj H1 H->(∀H',aj H H'->R (f i) H')->te b (some (x i) :: cFr fr σ) H R)
  (fin:∀D H,H1 D=none->aj H1 H->H D=some (.lst (((List.range n).filter p).map f))->Q (.ref D) H):mJ J 1 fr (fun _=>jY 0) tf te Q σ H1:=by
 refine ⟨fun b D hD=>?_⟩
 have lenf:∀i,(((List.range i).filter p).map f).length <= i:=fun i=>by
  rw [List.length_map]
  exact Nat.le_trans (List.length_filter_le _ _) (Nat.le_of_eq List.length_range)
 refine ⟨fun i m σ' H'=>m=n - i/\i <= n/\(∃v0,σ'=v0 :: cFr fr σ)/\aj H1 H'/\H' D=some (.lst (((List.range i).filter p).map f)),⟨n,rfl,Nat.zero_le _,⟨none,rfl⟩,aj.upd hD _,aq⟩,?_⟩
 rintro i m σ' H' ⟨rfl,hi,⟨v0,rfl⟩,sm,hl⟩
 by_cases hlt:i < n
 ·refine .inr ⟨go i H' hlt sm,fun σ2 H2=>(∃v0,σ2=v0 :: cFr fr σ)/\aj H1 H2/\H2 D=some (.lst (((List.range (i + 1)).filter p).map f)),fun σ2 H2 q=>⟨n - (i + 1),by omega,rfl,hlt,q⟩,fun v H2 y=>?_⟩
  obtain ⟨rfl,rfl⟩:=yld i H' v H2 hlt sm y
  show tf b (some (x i) :: cFr fr σ) _ _
  refine hf b i _ _ hlt sm fun H3 s3=>?_
  have e1:(List.range (i + 1)).filter p=(List.range i).filter p ++ (if p i then [i] else []):=by
   rw [List.range_succ,List.filter_append]
   congr 1
   cases hp:p i <;> simp [hp]
  cases hp:p i with
  | false =>
   rw [if_neg Bool.false_ne_true]
   refine ⟨⟨_,rfl⟩,sm.trans s3,?_⟩
   rw [s3 _ _ hl,e1,hp]
   simp
  | true =>
   rw [if_pos rfl]
   refine he b i _ _ hlt hp (sm.trans s3) fun H4 s4=>⟨_,s4 _ _ (s3 _ _ hl),?_,⟨_,rfl⟩,?_,?_⟩
   ·exact Nat.lt_of_le_of_lt (lenf i) (Nat.lt_trans hlt hn)
   ·have sm4:aj H1 H4:=sm.trans (s3.trans s4)
    intro c o q
    by_cases hc:c=D
    ·rw [hc,hD] at q;cases q
    ·rw [aI hc];exact sm4 c o q
   ·rw [aq,e1,hp]
    simp
 ·have e:i=n:=by omega
  subst e
  exact .inl ⟨stop H' sm,fin D H' hD sm hl⟩
theorem map_range {α:Type}{β:Type} (xs:List α) (d:α) (f:α->β):(List.range xs.length).map (fun i=>f (xs.getD i d))=xs.map f:=by
 apply List.ext_getElem?
 intro i
 rw [List.getElem?_map,List.getElem?_map]
 by_cases h:i < xs.length
 ·rw [List.getElem?_range h,List.getElem?_eq_getElem h]
  simp [List.getD,List.getElem?_eq_getElem h]
 ·rw [List.getElem?_eq_none (by simpa using h),List.getElem?_eq_none (by simpa using h)]
  rfl
theorem rK {α:Type}{β:Type} (p:α->Bool) (f:α->β) (d:α):∀(xs:List α),((List.range xs.length).filter fun i=>p (xs.getD i d)).map (fun i=>f (xs.getD i d))=(xs.filter p).map f:=by
 intro xs
 have e:=map_range xs d id
 have e2:xs=(List.range xs.length).map fun i=>xs.getD i d:=by simpa using e.symm
 have e3:xs.filter p=((List.range xs.length).filter fun i=>p (xs.getD i d)).map fun i=>xs.getD i d:=by
  conv=>lhs;rw [e2]
  rw [List.filter_map]
  rfl
 rw [e3,List.map_map]
 rfl
theorem wc {K:W.Frag}{a:Addr}{xs:List V}{fr:List Nat}{tf:CB->TT}{te:CB->TE}{Q:VK}{σ:St}{H1:Hp} (p:V->Bool) (f:V->V) (hx:SqL K H1 a xs) (hn:xs.length < sizeLine)
  (hf:∀b x H (R:Bool->Hp->Prop),x ∈ xs->aj H1 H->(∀H',aj H H'->R (p x) H')->tf b (some x :: cFr fr σ) H R)
  (he:∀b x H (R:VK),x ∈ xs->p x=true->aj H1 H->(∀H',aj H H'->R (f x) H')->te b (some x :: cFr fr σ) H R)
  (fin:∀D H,H1 D=none->aj H1 H->H D=some (.lst ((xs.filter p).map f))->Q (.ref D) H):mJ (Itl K a) 1 fr (fun _=>jY 0) tf te Q σ H1:=by
 have mem:∀i,i < xs.length->xs.getD i .non ∈ xs:=fun i h=>by
  rw [List.getD_eq_getElem?_getD,List.getElem?_eq_getElem h]
  exact List.getElem_mem h
 refine uP (x:=fun i=>xs.getD i .non) (fun i=>p (xs.getD i .non)) (fun i=>f (xs.getD i .non)) hn (fun H s=>⟨xs,s.seq hx,Nat.le_refl _⟩) (fun i H h s=>⟨xs,xs[i],s.seq hx,List.getElem?_eq_getElem h⟩)
  (fun i H v H' h s y=>⟨y.1,?_⟩) (fun b i H R h s k=>hf b _ H R (mem i h) s k) (fun b i H R h hp s k=>he b _ H R (mem i h) hp s k) fun D H hD s e=>fin D H hD s ?_
 ·have:=y.2 xs (s.seq hx)
  rw [List.getD_eq_getElem?_getD,this]
  rfl
 ·rw [e,rK p f]
theorem dN.ints {K:W.Frag}{H:Hp}:∀ns:List Int,dN K H (ns.map V.int) (ns.map PyData.int)
 | []=>.nil
 | n :: r=>.cons (.int n) (dN.ints r)
theorem shaped_ints (ns:List Int):SeqAt.shaped (.list (ns.map PyData.int))=true:=by
 unfold SeqAt.shaped
 rw [Bool.and_eq_true]
 constructor
 ·exact W.ke_canLayAll0 ns
 ·have e:PyData.depth (.list (ns.map PyData.int))=PyData.depthAll (ns.map PyData.int) + 1:=rfl
  rw [e,W.ke_depthAll]
  rfl
section
variable {X:Cx}
def BG (K:W.Frag):V->Option Int->Option Int->Hp->VK->Prop:=fun x lo hi H Q=>AU K x lo hi H Q \/ BN K x lo hi H Q
theorem AK:SlR X (BG X.K):=zk.or Bw
end
theorem xq {α:Type} (f:α->V) (xs:List α) (lo hi:Option Int):iP (xs.map f) lo hi=((xs.drop (HT.sIx xs.length 0 lo)).take (HT.sIx xs.length xs.length hi - HT.sIx xs.length 0 lo)).map f:=by
 unfold iP
 rw [List.length_map,List.map_take,List.map_drop]
theorem yg {K:W.Frag}{mg:Str->Option Value}{h:Heap}{x:Str}{st:Stmt}{ps:List Str}{f:Addr}{oc:Value}{od an:Option Addr}{osl:Array (Option Value)}{kV doc pm cdv ct:Value} (X:K.In h) (G:h.Ns mainGlobals mg)
  (a:W.nsIn K mainGlobals x=some (some (.ref f))) (l:K.lookup f=some ⟨oc,od,.func (W.fnOf x x (eh st) (cO st) (au st) .none kV doc pm an cdv ct),osl⟩) (c:W.codeIn K cdv x=true) (k:W.keepIn K (.ref f)=true)
  (hb:∀(kV doc pm:Value) (an:Option Addr) (cdv ct:Value) (us:List Value),us.length=ps.length->bindArgs (W.fnOf x x (eh st) (cO st) (au st) .none kV doc pm an cdv ct) ⟨us,[]⟩=pure (ps.zip us)):b8 K mg x st ps :=
 ⟨f,_,qG l c k,(qG l c k).binds hb,W.mg_of X G a⟩
theorem Bl {P:Program}{w:World}{K:W.Frag}{mg:Str->Option Value}{base:Heap}{k:Nat}{x:Str}{ps:List Str}{sp:Sp}{f:Addr}{oc:Value}{od:Option Addr}{osl:Array (Option Value)}{fd:FuncData} (D:Has P w K mg base k x ps sp) (m:mg x=some (.ref f))
  (l:K.lookup f=some ⟨oc,od,.func fd,osl⟩):kL P w K mg base CX0 k f fd ps sp:=by
 obtain ⟨g,gd,F,b,kp,mg',_,_,_,l'⟩:=id D
 rw [m] at mg'
 cases mg'
 rw [l] at l'
 cases l'
 exact F
end L2
namespace L2
open PySem PySem.Spec PyProof.Rows
section
variable {prog:Program}{w:World}{A:Around}{R:Result->Shared->Prop}{I l:Addr}{its:Array Value}{ns:List Int}{St:Nat->Heap->Prop}{fp wr:List Addr}{d:Value}
end
section
variable {X:Cx}
end
end L2
namespace L2
open PySem PySem.Spec PyProof.Rows
section
variable {X:Cx}
theorem BX:SlR X DE:=by
 intro pins s σ H x v vl vu lo hi sl Q I rx hs pl pu h
 obtain ⟨z,rfl,hz,q⟩:=h
 obtain ⟨t,rfl⟩:=rx
 have fin:∀t' k,EP X pins σ Q (.str (Txt.slice z lo hi) t') { s with toks:=k }:=fun t' k=>⟨.str _,H,I.tok _,⟨_,rfl⟩,q⟩
 have len:=Nat.le_trans (Txt.slice_le z lo hi) hz
 obtain ⟨o,ho,hc,hd⟩:=hs
 refine ⟨"str",_,PySem.F.slot_str_getitem.lookup,typeIs_str _ _ _,?_⟩
 cases pl with
 | none =>
  cases pu with
  | none=>exact wpAny_getItem_str_slice (l:=Option.none) (u:=Option.none) (st:=Option.none) ⟨o,ho,hc,hd⟩ rfl (post_val_or_str ⟨len,fun t' k=>fin t' k⟩)
  | int j uj=>exact wpAny_getItem_str_slice (l:=Option.none) (u:=some (j,uj)) (st:=Option.none) ⟨o,ho,hc,hd⟩ rfl (post_val_or_str ⟨len,fun t' k=>fin t' k⟩)
 | int i ui =>
  cases pu with
  | none=>exact wpAny_getItem_str_slice (l:=some (i,ui)) (u:=Option.none) (st:=Option.none) ⟨o,ho,hc,hd⟩ rfl (post_val_or_str ⟨len,fun t' k=>fin t' k⟩)
  | int j uj=>exact wpAny_getItem_str_slice (l:=some (i,ui)) (u:=some (j,uj)) (st:=Option.none) ⟨o,ho,hc,hd⟩ rfl (post_val_or_str ⟨len,fun t' k=>fin t' k⟩)
def fSl (K:W.Frag):V->Option Int->Option Int->Hp->VK->Prop:=fun x lo hi H Q=>match x with
 | .str z=>z.length <= sizeLine/\Q (.str (Txt.slice z lo hi)) H
 | x=>AU K x lo hi H Q \/ BN K x lo hi H Q
theorem iu:SlR X (fSl X.K):=by
 intro pins s σ H x v vl vu lo hi sl Q I rx hs pl pu h
 by_cases hx:∃z,x=.str z
 ·obtain ⟨z,rfl⟩:=hx
  exact BX pins s σ H _ v vl vu lo hi sl Q I rx hs pl pu ⟨z,rfl,h.1,h.2⟩
 ·refine AK pins s σ H x v vl vu lo hi sl Q I rx hs pl pu ?_
  cases x <;> first | exact h | exact absurd ⟨_,rfl⟩ hx
theorem Aw (hc:X.calm=true:=by rfl):eJ X (.builtin "min") (fun xs H Q=>∃i j,xs=[.int i,.int j]/\Q (.int (if j < i then j else i)) H):=vU hc
theorem nQ {x:Str}{z:Int}{pos:Pos} (h:∃t,X.mg x=some (.int z t)) (hg:Gl X x:=by rfl) (hd:(x == ("__debug__":Str))=false:=by decide):PE X (.Name x pos) (tC (.int z)):=by
 obtain ⟨t,e⟩:=h
 exact vb hg e ⟨t,rfl⟩ hd
end
end L2
namespace L2
open PySem PySem.Spec PyProof.Rows
section
variable {X:Cx}{tg:Expr}
theorem dH {x:Str}{pos:Pos}{a:Addr} (h:X.mg x=some (.ref a)) (hg:Gl X x:=by rfl) (hd:(x == ("__debug__":Str))=false:=by decide):PE X (.Name x pos) (tC (.ref a)):=vb hg h rfl hd
end
end L2
namespace L2
open PySem PySem.Spec PyProof.Rows
theorem dN.strs {K:W.Frag}{H:Hp}:∀ys:List Str,dN K H (ys.map V.str) (ys.map PyData.str)
 | []=>.nil
 | y :: r=>.cons (.str y) (dN.strs r)
theorem sP:∀ys:List Str,(∀y ∈ ys,PyData.strOk y=true)->PyData.canLayAll0 (ys.map PyData.str)=true
 | [],_=>rfl
 | y :: r,h=>by simp [PyData.canLayAll0,PyData.canLay0,sP r fun z hz=>h z (List.mem_cons_of_mem _ hz),h y List.mem_cons_self]
theorem oR:∀ys:List Str,PyData.depthAll (ys.map PyData.str)=0
 | []=>rfl
 | _ :: r=>by simp [PyData.depthAll,PyData.depth,oR r]
theorem sE {ys:List Str} (h:∀y ∈ ys,PyData.strOk y=true):SeqAt.shaped (.list (ys.map PyData.str))=true:=by
 simp [SeqAt.shaped,PyData.canLay0,PyData.depth,sP ys h,oR]
end L2
namespace L2
open PySem PySem.Spec PyProof.Rows
theorem jS {J:It}{n:Nat}{x:Nat->V}{fr:List Nat}{te:CB->TE}{Q:VK}{σ:St}{H1:Hp} (R:Nat->V->Hp->Prop) (hn:n < sizeLine)
  (stop:∀H,aj H1 H->J.stop n H) (go:∀i H,i < n->aj H1 H->J.go i H) (yld:∀i H v H',i < n->aj H1 H->J.yld i H v H'->H'=H/\v=x i)
  (he:∀b i H (G:VK),i < n->aj H1 H->(∀y H',aj H H'->R i y H'->G y H')->te b (some (x i) :: cFr fr σ) H G)
  (mono:∀i y H H',aj H H'->R i y H->R i y H') (st:∀i y H D ys zs,H D=some (.lst ys)->R i y H->R i y (upd H D (.lst zs)))
  (fin:∀D H ys,H1 D=none->aj H1 H->H D=some (.lst ys)->ys.length=n->(∀(i:Nat) y,ys[i]?=some y->R i y H)->Q (.ref D) H):mJ J 1 fr (fun _=>jY 0) (fun _=>AL) te Q σ H1:=by
 refine ⟨fun b D hD=>?_⟩
 refine ⟨fun i m σ' H'=>m=n - i/\i <= n/\(∃v0,σ'=v0 :: cFr fr σ)/\aj H1 H'/\∃ys,H' D=some (.lst ys)/\ys.length=i/\∀(j:Nat) y,ys[j]?=some y->R j y H',⟨n,rfl,Nat.zero_le _,⟨none,rfl⟩,aj.upd hD _,[],aq,rfl,fun j y h=>by cases h⟩,?_⟩
 rintro i m σ' H' ⟨rfl,hi,⟨v0,rfl⟩,sm,ys,hl,hy,hR⟩
 by_cases hlt:i < n
 ·refine .inr ⟨go i H' hlt sm,fun σ2 H2=>(∃v0,σ2=v0 :: cFr fr σ)/\aj H1 H2/\∃ys,H2 D=some (.lst ys)/\ys.length=i + 1/\∀(j:Nat) y,ys[j]?=some y->R j y H2,fun σ2 H2 q=>⟨n - (i + 1),by omega,rfl,hlt,q⟩,fun v H2 y=>?_⟩
  obtain ⟨rfl,rfl⟩:=yld i H' v H2 hlt sm y
  refine he b i _ _ hlt sm fun z H4 s4 rz=>⟨ys,s4 _ _ hl,by omega,⟨_,rfl⟩,?_,ys ++ [z],aq,by simp [hy],fun j y' hj=>?_⟩
  ·intro c o q
   by_cases hc:c=D
   ·rw [hc,hD] at q;cases q
   ·rw [aI hc];exact (sm.trans s4) c o q
  ·have hD4:=s4 _ _ hl
   by_cases hji:j < ys.length
   ·rw [List.getElem?_append_left hji] at hj
    exact st _ _ _ _ _ _ hD4 (mono _ _ _ _ s4 (hR j y' hj))
   ·by_cases e:j=ys.length
    ·subst e
     rw [List.getElem?_append_right (Nat.le_refl _)] at hj
     simp at hj
     subst hj
     rw [hy]
     exact st _ _ _ _ _ _ hD4 rz
    ·rw [List.getElem?_eq_none (by simp;omega)] at hj
     cases hj
 ·have e:i=n:=by omega
  subst e
  exact .inl ⟨stop H' sm,fin D H' ys hD sm hl hy hR⟩
end L2
namespace L2
open PySem PySem.Spec PyProof.Rows
section
variable {P:Program}{w:World}{K:W.Frag}{mg:Str->Option Value}{base:Heap}
structure MFn (K:W.Frag) (C:Addr) (m qual:Str) (st:Stmt) (ps:List Str):Prop where
 ex:∃f fd,Fun K m qual st f fd/\Binds K fd ps []/\Meth K C m f
def cR (P:Program) (w:World) (K:W.Frag) (mg:Str->Option Value) (base:Heap) (k:Nat) (C:Addr) (m:Str) (ps:List Str) (sp:Sp):Prop :=
 ∃f fd,kL P w K mg base CX0 k f fd ps sp/\Binds K fd ps []/\Meth K C m f
theorem MFn.has {C:Addr}{m qual:Str}{st:Stmt}{N ps:List Str}{k:Nat}{sp:Sp} (F:MFn K C m qual st ps) (S:aF N ps (au st)) (len:∀vs H Q E,sp vs H Q E->vs.length=ps.length)
  (hbody:∀(f:Addr) (cdv:Value) (A:Around) (outer:List Env) (s:Shared) (H:Hp) (vs:List V) (Q:VK) (E:XK),eR k (A.deeper (envOfC qual (au st) s.heap.objs.size f cdv))->(A.deeper (envOfC qual (au st) s.heap.objs.size f cdv)).units + 64 < cLine->sp vs H Q E ->
   ∃t,PSs (sR CX0 P w K mg base N qual (au st) f cdv A outer s H E).nox (cO st) t/\t { nx:=fun _ H'=>Q .non H',rt:=Q } (start N vs) H):cR P w K mg base (k + 1) C m ps sp:=by
 obtain ⟨f,fd,F,b,m⟩:=F.ex
 exact ⟨f,fd,F.ok S len fun cdv A outer s H vs Q E hr h=>hbody f cdv A outer s H vs Q E hr hr.units h,b,m⟩
structure eG (K:W.Frag) (mg:Str->Option Value) (C:Addr) (x:Str) (up:List Addr):Prop where
 mg:mg x=some (.ref C)
 cl:Cls K C
 mro:∃cd,W.clsIn K C=some cd/\cd.mro=up.map Value.ref ++ [Value.type "object"]
 ty:W.typeIn K (.ref C)=some (.type "type")
 kc:W.findIn K (.ref C) "__class__"=some (some (.builtin "object.__class__"))
 cg:W.specialIn K (.builtin "object.__class__") "__get__"=some (some (.builtin "getset_descriptor.__get__"))
 ct:W.takesIn K (.builtin "object.__class__")=some true
 mks:W.makesIn K C=true
 kp:W.keepIn K (.ref C)=true
variable {C D:Addr}{x y:Str}{up vp:List Addr}
theorem eG.sub (O:eG K mg C x up) (b:Value):W.mroIn K C b=some ((up.map Value.ref ++ [Value.type "object"]).contains b):=by
 obtain ⟨cd,h1,h2⟩:=O.mro
 unfold W.mroIn
 rw [h1]
 show (if cd.mro.isEmpty=true then none else some (cd.mro.contains b))=_
 rw [h2,if_neg (by cases up <;> simp)]
theorem pP (up:List Addr) (D:Addr):(up.map Value.ref ++ [Value.type "object"]).contains (Value.ref D)=decide (D ∈ up):=by
 induction up with
 | nil=>rfl
 | cons a r ih =>
  show ((Value.ref D == Value.ref a) || (r.map Value.ref ++ [Value.type "object"]).contains (Value.ref D))=_
  rw [ih]
  by_cases h:D=a
  ·subst h;simp
  ·have:(Value.ref D == Value.ref a)=false:=by
    rw [Bool.eq_false_iff]
    intro z
    exact h (Value.ref.inj (beq_iff_eq.mp z))
   rw [this,Bool.false_or]
   simp [h]
theorem eG.kit (O:eG K mg C x up) (U:eG K mg D y vp) (hs:C ∈ up):W.kitOne K (.ref C) (.ref D)=some (decide (D ∈ up)):=by
 unfold W.kitOne
 split
 ·rename_i q
  have:C=D:=Value.ref.inj (beq_iff_eq.mp q)
  rw [<- this,decide_eq_true hs]
 ·obtain ⟨cd,h1,_⟩:=U.mro
  unfold W.kitCls
  dsimp only
  rw [h1,U.ty]
  rw [if_pos (by rfl)]
  show W.mroIn K C (.ref D)=_
  rw [O.sub,pP]
theorem eG.bZ (O:eG K mg C x up) {H:Hp}{a dx:Addr}{fs:List (Str × V)} (e:H a=some (.ins C dx fs)):kK K H (.ref a) (.ref C) :=
 .ins e O.cl O.kc O.cg O.ct ((O.sub _).trans (by simp))
end
section
variable {X:Cx}{k j:Nat}{C:Addr}{x m:Str}{ps:List Str}{sp:Sp}{o e:Expr}{es:List Expr}{ta:TE}{t:TA}{p apos pos:Pos}{up:List Addr}
theorem bW (O:eG X.K X.mg C x up) (D:cR X.prog X.w X.K X.mg X.base j C "__init__" ps sp) (hr:eR k X.A) (ha:PA X (e :: es) t) (hj:j + 1 <= k:=by decide) (hg:Gl X x:=by rfl) (hdb:(x == ("__debug__":Str))=false:=by decide)
  (he:starEach (e :: es) X.env=(false,eval e X.env) :: starEach es X.env:=by rfl) (hpl:(backTo pos (starEach es X.env)).any (·.1)=false:=by rfl):PE X (.Call (.Name x p) (e :: es) [] pos) (vd C sp [] E0 t):=by
 obtain ⟨f,fd,F,b,m⟩:=D
 exact Ap ⟨O.mks,m.at_,m.fn,O.kp⟩ F (hr.mono hj) hg O.mg b .nil sY ha hdb he hpl
theorem vS (O:eG X.K X.mg C x up) (D:cR X.prog X.w X.K X.mg X.base j C "__init__" ps sp) (hr:eR k X.A) (hj:j + 1 <= k:=by decide) (hg:Gl X x:=by rfl) (hdb:(x == ("__debug__":Str))=false:=by decide):PE X (.Call (.Name x p) [] [] pos) (vd C sp [] E0 zS):=by
 obtain ⟨f,fd,F,b,m⟩:=D
 exact yk ⟨O.mks,m.at_,m.fn,O.kp⟩ F (hr.mono hj) hg O.mg b .nil sY hdb
theorem bD {pl:Sem Bool} (he:PE X o ta) (c:Cls X.K C) (D:cR X.prog X.w X.K X.mg X.base j C m ps sp) (hr:eR k X.A) (ha:PA X (e :: es) t) (hj:j <= k:=by decide)
  (hst:starEach (e :: es) X.env=(false,eval e X.env) :: starEach es X.env:=by rfl) (hpl:(backTo pos (starEach es X.env)).any (·.1)=false:=by rfl)
  (ht:eval (.Call (.Attribute o m apos) (e :: es) [] pos) X.env=(do
   let ov <- eval o X.env
   standAt apos.atName
   let (f,first) <- holding [ov] (getMethod ov m pl)
   callWith pos f first (backTo pos (starEach (e :: es) X.env)) (backToKw pos (keywordEach [] X.env))):=by rfl) :
  PE X (.Call (.Attribute o m apos) (e :: es) [] pos) (AD C m sp [] E0 ta t):=by
 obtain ⟨f,fd,F,b,hm⟩:=D
 exact Ad (pl:=pl) he c hm F (hr.mono hj) b .nil sY ha hst hpl ht
structure OfC (K:W.Frag) (C:Addr) (m:Str):Prop where
 ga:W.specialIn K (.ref C) "__getattribute__"=some (some (.builtin "type.__getattribute__"))
 rd:W.readsIn K C (.type "type")=true
 fc:∃f,W.findIn K (.ref C) m=some (some (.ref f))/\W.findCls K (.ref C) (.type "type") m=some (.val (.ref f))
theorem cI {pl:Sem Bool} (O:eG X.K X.mg C x up) (W:OfC X.K C m) (D:cR X.prog X.w X.K X.mg X.base j C m ps sp) (hr:eR k X.A) (ha:PA X (e :: es) t) (hj:j <= k:=by decide) (hg:Gl X x:=by rfl) (hdb:(x == ("__debug__":Str))=false:=by decide)
  (hst:starEach (e :: es) X.env=(false,eval e X.env) :: starEach es X.env:=by rfl) (hpl:(backTo pos (starEach es X.env)).any (·.1)=false:=by rfl)
  (ht:eval (.Call (.Attribute (.Name x p) m apos) (e :: es) [] pos) X.env=(do
   let ov <- eval (.Name x p) X.env
   standAt apos.atName
   let (f,first) <- holding [ov] (getMethod ov m pl)
   callWith pos f first (backTo pos (starEach (e :: es) X.env)) (backToKw pos (keywordEach [] X.env))):=by rfl) :
  PE X (.Call (.Attribute (.Name x p) m apos) (e :: es) [] pos) (yG sp [] E0 t):=by
 obtain ⟨f,fd,F,b,hm⟩:=D
 intro pins s σ H Q I h
 refine PySem.W.methodCall_KW (pl:=pl) (me I hg O.mg ?_ hdb) ht
 obtain ⟨f',h1,h2⟩:=W.fc
 have ef:f=f':=by
  have:=hm.at_.symm.trans h1
  cases this
  rfl
 subst ef
 refine PySem.W.method_cls I.kIn W.ga (PySem.W.cls_value I.kIn W.rd h2 rfl ?_)
 refine PySem.W.callWith_K (h₀:=X.base) I.ok.mod.kin hm.kp (thn (ha pos pins _ σ H _ (I.tok _) h) fun us s2 ⟨vs,H2,I2,r,q2⟩=>⟨I2.kIn,?_⟩) hst hpl
 exact ud (us:=us) (vs:=vs) F (hr.mono hj) b .nil sY I2 r q2
end
theorem BP {K:W.Frag}{C:Addr}{m qual:Str}{st:Stmt}{ps:List Str}{f:Addr}{oc:Value}{od an:Option Addr}{osl:Array (Option Value)}{kV doc pm cdv ct:Value}
  (a:W.findIn K (.ref C) m=some (some (.ref f))) (fn:W.isFn K (.ref f)=true) (l:K.lookup f=some ⟨oc,od,.func (W.fnOf m qual (eh st) (cO st) (au st) .none kV doc pm an cdv ct),osl⟩) (c:W.codeIn K cdv qual=true) (k:W.keepIn K (.ref f)=true)
  (hb:∀(kV doc pm:Value) (an:Option Addr) (cdv ct:Value) (us:List Value),us.length=ps.length->bindArgs (W.fnOf m qual (eh st) (cO st) (au st) .none kV doc pm an cdv ct) ⟨us,[]⟩=pure (ps.zip us)):MFn K C m qual st ps :=
 ⟨f,_,qG l c k,(qG l c k).binds hb,⟨a,fn,k⟩⟩
end L2
namespace L2
open PySem PySem.Spec PyProof.Rows
def But (x:Addr) (H H':Hp):Prop:=∀b,b ≠ x->∀o,H b=some o->H' b=some o
theorem But.refl (x:Addr) (H:Hp):But x H H:=fun _ _ _ h=>h
theorem But.trans {x:Addr}{H H1 H2:Hp} (a:But x H H1) (b:But x H1 H2):But x H H2:=fun c hc o h=>b c hc o (a c hc o h)
theorem But.at (x:Addr) (H:Hp) (o:HO):But x H (upd H x o):=fun b hb u q=>by rw [aI hb];exact q
theorem But.new {x p:Addr}{H:Hp} (h:H p=none) (o:HO):But x H (upd H p o):=fun b _ u q=>by rw [aI (dR q h)];exact q
theorem But.of {x:Addr}{H H':Hp} (s:aj H H'):But x H H':=fun b _ o h=>s b o h
theorem But.same {x dx:Addr}{H H':Hp}{o o':HO} (b:But x (upd (upd H dx o) x o') H') (hx:H x=none) (hd:H dx=none):aj H H':=fun a u q=>by
 have h1:a ≠ x:=fun z=>by rw [z,hx] at q;cases q
 have h2:a ≠ dx:=fun z=>by rw [z,hd] at q;cases q
 exact b a h1 u (by rw [aI h1,aI h2];exact q)
end L2
namespace L2
open PySem
theorem gA {H:Hp}{x dx p:Addr}{o o':HO} (hx:H x=none) (hd:H dx=none) (h:upd (upd H dx o) x o' p=none):H p=none:=by
 unfold upd at h
 split at h
 ·cases h
 ·split at h
  ·cases h
  ·exact h
end L2
namespace L2
open PySem
theorem But.none {x p:Addr}{H H':Hp} (b:But x H H') (e:p ≠ x) (h:H' p=Option.none):H p=Option.none:=by
 cases z:H p with
 | none=>rfl
 | some o=>exact absurd (h.symm.trans (b _ e _ z)) (by intro w;cases w)
end L2
namespace L2
open PySem PySem.Spec PyProof.Rows
section
variable {X:Cx}
def qj:V->Bool
 | .flt _=>false
 | .byt _=>false
 | _=>true
theorem mG {x:V}{u v:Value} (hx:qj x=true) (ru:RelV x u) (rv:RelV x v) (A:Around) (s:Shared):SeqAt.EqAt A s u v true:=by
 cases x with
 | non=>cases ru;cases rv;exact .same _
 | bl b=>cases ru;cases rv;exact .same _
 | int i =>
  obtain ⟨t,rfl⟩:=ru
  obtain ⟨t',rfl⟩:=rv
  have:=SeqAt.EqAt.int_int (A:=A) (s:=s) i t i t'
  rwa [beq_self_eq_true] at this
 | str y =>
  obtain ⟨t,rfl⟩:=ru
  obtain ⟨t',rfl⟩:=rv
  have:=SeqAt.EqAt.str_str (A:=A) (s:=s) y t y t'
  rwa [beq_self_eq_true] at this
 | byt _=>cases hx
 | flt _=>cases hx
 | ref a=>cases ru;cases rv;exact .same _
 | ty n=>cases ru;cases rv;exact .same _
theorem C9 (hu:X.A.units + 64 < cLine):OpR X (compareOp .Eq) (fun x y H Q=>∃p q xs,x=.ref p/\y=.ref q/\SqL X.K H p xs/\SqL X.K H q xs/\xs.all qj=true/\Q (.bl true) H):=by
 intro pins s σ H x y v u Q I rx ry h
 obtain ⟨p,q,xs,rfl,rfl,hp,hq,hf,k⟩:=h
 cases rx
 cases ry
 obtain ⟨its,r1,⟨o,n,e1,c1,_,d1⟩,_⟩:=I.list hp
 obtain ⟨jts,r2,⟨o2,n2,e2,c2,_,d2⟩,_⟩:=I.list hq
 have l1:=r1.length
 have l2:=r2.length
 refine SeqAt.eq_listAt (e:=fun _=>true) ⟨o,e1,c1,n,d1⟩ ⟨o2,e2,c2,n2,d2⟩ (by simp;omega) (by omega) (fun j h1 h2=>?_) ?_
 ·simp at h1 h2
  obtain ⟨x,hx⟩:∃x,xs[j]?=some x:=⟨xs[j]'(by omega),List.getElem?_eq_getElem (by omega)⟩
  obtain ⟨u1,g1,w1⟩:=r1.get hx
  obtain ⟨u2,g2,w2⟩:=r2.get hx
  have z1:its.toArray[j]'(by simpa using h1)=u1:=by
   have:=List.getElem?_eq_getElem h1
   rw [g1] at this
   simpa using (Option.some.inj this).symm
  have z2:jts.toArray[j]'(by simpa using h2)=u2:=by
   have:=List.getElem?_eq_getElem h2
   rw [g2] at this
   simpa using (Option.some.inj this).symm
  rw [z1,z2]
  exact mG (List.all_eq_true.mp hf x (List.mem_of_getElem? hx)) w1 w2 _ _
 ·have:((List.range its.toArray.size).all fun _=>true)=true:=by simp
  rw [this]
  exact ⟨.bl true,H,I,rfl,k⟩
def DD (K:W.Frag):R2:=fun x y H Q=>match x,y with
 | .ref p,.ref q=>(∃d e,jG K H (.ref p) d/\jG K H (.ref q) e/\SeqAt.shaped d=true/\SeqAt.shaped e=true/\Q (.bl (PyData.eqv d e)) H) \/ (∃xs,SqL K H p xs/\SqL K H q xs/\xs.all qj=true/\Q (.bl true) H)
 | x,y=>vI x y=true/\Q (.bl (decide (x=y))) H
theorem CA (hu:X.A.units + 64 < cLine):OpR X (compareOp .Eq) (DD X.K):=((DR hu).or (C9 hu)).imp fun x y H Q q=>by
 by_cases hr:∃p q,x=V.ref p/\y=V.ref q
 ·obtain ⟨p,q',rfl,rfl⟩:=hr
  rcases q with q | ⟨xs,h1,h2,h3,h4⟩
  ·exact .inl q
  ·exact .inr ⟨p,q',xs,rfl,rfl,h1,h2,h3,h4⟩
 ·refine .inl ?_
  cases x <;> cases y <;> first | exact q | exact absurd ⟨_,_,rfl,rfl⟩ hr
theorem qS:eJ X (.type "int") (fun xs H Q=>∃b,xs=[.bl b]/\Q (.int (if b=true then 1 else 0)) H):=by
 intro pins s σ H xs us Q I r h
 obtain ⟨b,rfl,q⟩:=h
 obtain ⟨u,rfl,rfl⟩:=vals1 r
 exact PySem.call_int_bool ⟨.int _,H,I.tok _,⟨_,rfl⟩,q⟩
end
end L2
namespace L2
open PySem PySem.Spec PyProof.Rows
section
variable {κ:Type} [DecidableEq κ]
def fh (kvs:List (κ × V)) (k:κ):Option V:=(kvs.find? fun kv=>decide (kv.1=k)).map (·.2)
def putK (kvs:List (κ × V)) (k:κ) (v:V):List (κ × V) :=
 if (kvs.any fun kv=>decide (kv.1=k))=true then kvs.map (fun kv=>if kv.1=k then (kv.1,v) else kv) else kvs ++ [(k,v)]
theorem lR {p:κ × V}{r:List (κ × V)}{k:κ} (e:p.1=k):fh (p :: r) k=some p.2:=by simp [fh,List.find?_cons,e]
theorem lM {p:κ × V}{r:List (κ × V)}{k:κ} (e:¬ p.1=k):fh (p :: r) k=fh r k:=by simp [fh,List.find?_cons,e]
theorem rS (k:κ):∀kvs:List (κ × V),(kvs.any fun kv=>decide (kv.1=k))=(fh kvs k).isSome
 | []=>rfl
 | p :: r=>by
  rw [List.any_cons]
  by_cases e:p.1=k
  ·simp only [lR e,decide_eq_true e,Bool.true_or,Option.isSome_some]
  ·rw [lM e,decide_eq_false e,Bool.false_or];exact rS k r
theorem gX (kvs:List (κ × V)) (k:κ) (v:V):(putK kvs k v).length <= kvs.length + 1:=by
 unfold putK
 split
 ·rw [List.length_map];omega
 ·rw [List.length_append,List.length_cons,List.length_nil];omega
theorem jH.iZ {o:Option V}{u:Option Value} (r:jH o u):o.isSome=u.isSome:=by
 cases o with
 | none=>cases u with
  | none=>rfl
  | some _=>exact (show False from r).elim
 | some _=>cases u with
  | none=>exact (show False from r).elim
  | some _=>rfl
theorem jH.getD {o:Option V}{u:Option Value}{d:V}{d':Value} (r:jH o u) (rd:RelV d d'):RelV (o.getD d) (u.getD d'):=by
 cases o with
 | none=>cases u with
  | none=>exact rd
  | some _=>exact (show False from r).elim
 | some _=>cases u with
  | none=>exact (show False from r).elim
  | some _=>exact r
theorem KV.val {kvs:List (κ × V)}{vs:List (κ × Value)} (r:KV kvs vs) (k:κ):jH (fh kvs k) (valueAt vs k):=by
 unfold KV at r
 induction r with
 | nil=>exact True.intro
 | @cons p q ps qs h t ih =>
  obtain ⟨h1,h2⟩:=h
  by_cases e:p.1=k
  ·have e':q.1=k:=h1.symm.trans e
   have b:valueAt (q :: qs) k=some q.2:=by simp [valueAt,List.find?_cons,e']
   rw [lR e,b];exact h2
  ·have e':¬ q.1=k:=fun z=>e (h1.trans z)
   have b:valueAt (q :: qs) k=valueAt qs k:=by simp [valueAt,List.find?_cons,e']
   rw [lM e,b];exact ih
theorem KV.any {kvs:List (κ × V)}{vs:List (κ × Value)} (r:KV kvs vs) (k:κ):(kvs.any fun kv=>decide (kv.1=k))=vs.any fun kv=>decide (kv.1=k):=by
 unfold KV at r
 induction r with
 | nil=>rfl
 | cons h t ih=>rw [List.any_cons,List.any_cons,ih,h.1]
theorem KV.A9 {kvs:List (κ × V)}{vs:List (κ × Value)} (r:KV kvs vs) (k:κ) {y:V}{u:Value} (ry:RelV y u) :
  KV (kvs.map fun kv=>if kv.1=k then (kv.1,y) else kv) (vs.map fun kv=>if kv.1=k then (kv.1,u) else kv):=by
 unfold KV at r ⊢
 induction r with
 | nil=>exact .nil
 | @cons p q ps qs h t ih =>
  rw [List.map_cons,List.map_cons]
  refine .cons ?_ ih
  obtain ⟨h1,h2⟩:=h
  by_cases e:p.1=k
  ·rw [if_pos e,if_pos (h1.symm.trans e)];exact ⟨h1,ry⟩
  ·rw [if_neg e,if_neg (fun z=>e (h1.trans z))];exact ⟨h1,h2⟩
theorem KV.put {kvs:List (κ × V)}{vs:List (κ × Value)} (r:KV kvs vs) (k:κ) {y:V}{u:Value} (ry:RelV y u):KV (putK kvs k y) (stored vs k u):=by
 unfold putK stored
 rw [r.any k]
 by_cases e:(vs.any fun kv=>decide (kv.1=k))=true
 ·rw [if_pos e,if_pos e];exact r.A9 k ry
 ·rw [if_neg e,if_neg e];exact Paired.snoc r ⟨rfl,ry⟩
theorem KV.keys {kvs:List (κ × V)}{vs:List (κ × Value)} (r:KV kvs vs):kvs.map (·.1)=vs.map (·.1):=by
 unfold KV at r
 induction r with
 | nil=>rfl
 | cons h t ih=>rw [List.map_cons,List.map_cons,ih,h.1]
theorem KV.length {kvs:List (κ × V)}{vs:List (κ × Value)} (r:KV kvs vs):kvs.length=vs.length:=Paired.length r
end
theorem mR {P:Program}{w:World}{k:Key}{u:Value} (r:RelV (kV k) u):(ck P w).is k u=true:=by
 cases k with
 | inl i=>obtain ⟨t,e⟩:=(show ∃t,u=Value.int i t from r);subst e;exact tH P w i t
 | inr x=>obtain ⟨t,e⟩:=(show ∃t,u=Value.str x t from r);subst e;exact sq P w x t
theorem pY {P:Program}{w:World}:∀{ks:List Key}{us:List Value},Vals (ks.map kV) us->ItemsAre (ck P w) ks us
 | [],_,r=>by rw [List.map_nil] at r;cases r;exact .nil
 | k :: ks,_,r=>by
  rw [List.map_cons] at r
  cases r with
  | cons h t=>exact .cons (mR h) (pY t)
abbrev KT (H:Hp):List (List Key × V)->List (List Key × Addr × Value)->Prop:=Paired fun p q=>p.1=q.1/\H q.2.1=some (.tup (p.1.map kV))/\RelV p.2 q.2.2
theorem KT.val {H:Hp}{kvs:List (List Key × V)}{xs:List (List Key × Addr × Value)} (r:KT H kvs xs) (k:List Key):jH (fh kvs k) ((atKey xs k).map (·.2)):=by
 induction r with
 | nil=>exact True.intro
 | @cons p q ps qs h t ih =>
  obtain ⟨h1,_,h2⟩:=h
  by_cases e:p.1=k
  ·have e':q.1=k:=h1.symm.trans e
   have b:atKey (q :: qs) k=some q.2:=by simp [atKey,List.find?_cons,e']
   rw [lR e,b];exact h2
  ·have e':¬ q.1=k:=fun z=>e (h1.trans z)
   have b:atKey (q :: qs) k=atKey qs k:=by simp [atKey,List.find?_cons,e']
   rw [lM e,b];exact ih
theorem KT.A9 {H:Hp}{kvs:List (List Key × V)}{xs:List (List Key × Addr × Value)} (r:KT H kvs xs) (k:List Key) {y:V}{u:Value} (ry:RelV y u) :
  KT H (kvs.map fun kv=>if kv.1=k then (kv.1,y) else kv) (xs.map (putAt k u)):=by
 induction r with
 | nil=>exact .nil
 | @cons p q ps qs h t ih =>
  rw [List.map_cons,List.map_cons]
  refine .cons ?_ ih
  obtain ⟨h1,h2,h3⟩:=h
  unfold putAt
  by_cases e:p.1=k
  ·rw [if_pos e,if_pos (h1.symm.trans e)];exact ⟨h1,h2,ry⟩
  ·rw [if_neg e,if_neg (fun z=>e (h1.trans z))];exact ⟨h1,h2,h3⟩
theorem KT.put {H:Hp}{kvs:List (List Key × V)}{xs:List (List Key × Addr × Value)} (r:KT H kvs xs) (k:List Key) {b:Addr}{y:V}{u:Value} (hb:H b=some (.tup (k.map kV))) (ry:RelV y u) :
  KT H (putK kvs k y) (storedH xs k b u):=by
 have e:(kvs.any fun kv=>decide (kv.1=k))=(atKey xs k).isSome:=by
  rw [rS,(r.val k).iZ,Option.isSome_map]
 unfold putK storedH
 rw [e]
 by_cases q:(atKey xs k).isSome=true
 ·rw [if_pos q,if_pos q];exact r.A9 k ry
 ·rw [if_neg q,if_neg q];exact Paired.snoc r ⟨rfl,hb,ry⟩
theorem KT.keeps {H H':Hp}{kvs:List (List Key × V)}{xs:List (List Key × Addr × Value)} (r:KT H kvs xs) (ht:∀b ys,H b=some (.tup ys)->H' b=some (.tup ys)):KT H' kvs xs :=
 Paired.cm r fun _ _ z=>⟨z.1,ht _ _ z.2.1,z.2.2⟩
section
variable {P:Program}{w:World}{H:Hp}{h:Heap}{a:Addr}
theorem As {u:HO} (ok:HOk P w H h) (e:Rd H a u):cW P w H h a u:=e.ok ok
theorem iY {kvs:List (Key × V)} (ok:HOk P w H h) (e:Rd H a (.dK kvs)):kvs.length <= sizeLine/\(a == sysModules)=false/\∃vs,KV kvs vs/\h.DictOf (ck P w) a vs :=
 show cW P w H h a (.dK kvs) from As ok e
theorem xv {kvs:List (Key × V)} (ok:HOk P w H h) (e:H a=some (.dK kvs)):kvs.length <= sizeLine/\(a == sysModules)=false/\∃vs,KV kvs vs/\h.DictOf (ck P w) a vs:=iY ok (.inl e)
theorem mN {ks:List Key} (ok:HOk P w H h) (e:H a=some (.tup (ks.map kV))):(tupleKind (ck P w)).is h ks a:=by
 obtain ⟨_,its,r,o,h1,h2,n,h3⟩:=(show cW P w H h a (.tup (ks.map kV)) from ok a _ e)
 exact ⟨o,its.toArray,n,h1,h2,h3,by simpa using pY r⟩
theorem pF {kvs:List (List Key × V)} (ok:HOk P w H h) (e:Rd H a (.dT kvs)):kvs.length <= sizeLine/\(a == sysModules)=false /\
  ∃xs,KT H kvs xs/\h.DictOfH (tupleKind (ck P w)) a xs:=by
 obtain ⟨z,y,xs,r,o,es,ep,h1,h2,h3,h4,h5⟩:=(show cW P w H h a (.dT kvs) from As ok e)
 refine ⟨z,y,xs,r,o,es,ep,h1,h2,h3,h4,fun x hx=>?_,h5⟩
 have all:∀{l:List (List Key × V)}{m:List (List Key × Addr × Value)},KT H l m->∀x ∈ m,(tupleKind (ck P w)).is h x.1 x.2.1:=by
  intro l m q
  induction q with
  | nil=>intro x hx;exact nomatch hx
  | @cons p q ps qs hq t ih =>
   intro x hx
   rcases List.mem_cons.mp hx with e | hx
   ·subst e
    exact mN ok (by rw [<- hq.1];exact hq.2.1)
   ·exact ih x hx
 exact all r x hx
theorem C8 {kvs:List (List Key × V)} (ok:HOk P w H h) (e:H a=some (.dT kvs)):kvs.length <= sizeLine/\(a == sysModules)=false /\
  ∃xs,KT H kvs xs/\h.DictOfH (tupleKind (ck P w)) a xs:=pF ok (.inl e)
end
def bu (H:Hp) (a:Addr) (y:V) (r:Option V):Prop :=
 (∃kvs k,Rd H a (.dK kvs)/\y=kV k/\r=fh kvs k) \/ ∃kvs k b,Rd H a (.dT kvs)/\y=.ref b/\H b=some (.tup (k.map kV))/\r=fh kvs k
def cF (H:Hp) (a:Addr) (y v:V) (H':Hp):Prop :=
 (∃kvs k,H a=some (.dK kvs)/\y=kV k/\kvs.length < sizeLine/\H'=upd H a (.dK (putK kvs k v))) \/
 ∃kvs k b,H a=some (.dT kvs)/\y=.ref b/\H b=some (.tup (k.map kV))/\kvs.length < sizeLine/\H'=upd H a (.dT (putK kvs k v))
theorem bu.k {H:Hp}{a:Addr}{kvs:List (Key × V)}{k:Key} (e:H a=some (.dK kvs)):bu H a (kV k) (fh kvs k):=.inl ⟨kvs,k,.inl e,rfl,rfl⟩
theorem cF.k {H:Hp}{a:Addr}{kvs:List (Key × V)}{k:Key}{v:V} (e:H a=some (.dK kvs)) (hl:kvs.length < sizeLine):cF H a (kV k) v (upd H a (.dK (putK kvs k v))):=.inl ⟨kvs,k,e,rfl,hl,rfl⟩
section
variable {X:Cx}{pins:List (Addr × Obj)}{σ:St}{H:Hp}{s:Shared}{a:Addr}{y v:V}{u r:Value}{o:Option V}{A:Around}{E:Value->Shared->Prop}
theorem Inv.big (I:Inv X pins σ H s):sysModules < s.heap.objs.size:=by
 have h:mainGlobals < s.heap.objs.size:=(I.mod.glob.keeps I.bk).lt
 exact Nat.lt_trans (by decide) h
theorem vX {Q:Value->Shared->Prop} (hu:A.units + 1 < cLine) (I:Inv X pins σ H s) (g:bu H a y (some v)) (ry:RelV y u) (h:∀w' s',Inv X pins σ H s'->RelV v w'->Q w' s') :
  wpAny (model X.prog X.w) A (getItem (.ref a) u) Q E s:=by
 rcases g with ⟨kvs,k,e,ey,l⟩ | ⟨kvs,k,b,e,ey,eb,l⟩
 ·subst ey
  obtain ⟨z,hd,vs,rel,dd⟩:=iY I.hok e
  obtain ⟨w',hw,rw'⟩:=jH.some_of (v:=v) (o:=valueAt vs k) (by rw [l];exact rel.val k)
  exact wpAny_getItem_of (mR ry) dd.mapOf hw (h w' _ (I.tok _) rw')
 ·subst ey
  cases (show u=Value.ref b from ry)
  obtain ⟨z,hd,xs,rel,dd⟩:=pF I.hok e
  obtain ⟨w',hw,rw'⟩:=jH.some_of (v:=v) (o:=(atKey xs k).map (·.2)) (by rw [l];exact rel.val k)
  obtain ⟨p,hp,hp2⟩:=Option.map_eq_some_iff.mp hw
  refine wpAny_getItem_heap (tupleKind_room_in1 hu) (mN I.hok eb) dd hp ?_
  rw [hp2]
  exact h w' _ (I.tok _) rw'
theorem Ec {Q:Value->Shared->Prop} (hu:A.units + 1 < cLine) (I:Inv X pins σ H s) (g:bu H a y o) (ry:RelV y u) (h:∀s',Inv X pins σ H s'->Q (.bool o.isSome) s') :
  wpAny (model X.prog X.w) A (compareOp .In u (.ref a)) Q E s:=by
 rcases g with ⟨kvs,k,e,ey,l⟩ | ⟨kvs,k,b,e,ey,eb,l⟩
 ·subst ey
  obtain ⟨z,hd,vs,rel,dd⟩:=iY I.hok e
  refine wpAny_in_of (mR ry) hd dd.mapOf ?_
  rw [<- (rel.val k).iZ,<- l]
  exact h _ (I.tok _)
 ·subst ey
  cases (show u=Value.ref b from ry)
  obtain ⟨z,hd,xs,rel,dd⟩:=pF I.hok e
  refine wpAny_in_heap (tupleKind_room_in1 hu) (mN I.hok eb) hd dd ?_
  have q:=(rel.val k).iZ
  rw [Option.isSome_map] at q
  rw [<- q,<- l]
  exact h _ (I.tok _)
theorem Aq {Q:Value->Shared->Prop} (hu:A.units + 1 < cLine) (I:Inv X pins σ H s) (g:bu H a y o) (ry:RelV y u) (h:∀s',Inv X pins σ H s'->Q (.bool (!o.isSome)) s') :
  wpAny (model X.prog X.w) A (compareOp .NotIn u (.ref a)) Q E s:=by
 rcases g with ⟨kvs,k,e,ey,l⟩ | ⟨kvs,k,b,e,ey,eb,l⟩
 ·subst ey
  obtain ⟨z,hd,vs,rel,dd⟩:=iY I.hok e
  refine wpAny_notIn_of (mR ry) hd dd.mapOf ?_
  rw [<- (rel.val k).iZ,<- l]
  exact h _ (I.tok _)
 ·subst ey
  cases (show u=Value.ref b from ry)
  obtain ⟨z,hd,xs,rel,dd⟩:=pF I.hok e
  refine wpAny_notIn_heap (tupleKind_room_in1 hu) (mN I.hok eb) hd dd ?_
  have q:=(rel.val k).iZ
  rw [Option.isSome_map] at q
  rw [<- q,<- l]
  exact h _ (I.tok _)
theorem nP {h':Heap}{t':Nat}{ob:HO} (I:Inv X pins σ H s) (mu:Mut (H a)) (hs:Heap.SameBut a s.heap h') (he:∃q,h'.get? a=some q) (new:cW X.prog X.w (upd H a ob) h' a ob) :
  Inv X pins σ (upd H a ob) { s with heap:=h',toks:=t' } :=
 I.write (x:=a) (e:=a) mu (.inl rfl) (fun b q hb z=>(hs.2 b hb).trans z) he new
theorem fg {P:Program}{w:World}{H':Hp}{h':Heap}{kvs:List (Key × V)}{vs:List (Key × Value)} (z:kvs.length <= sizeLine) (hd:(a == sysModules)=false) (rel:KV kvs vs) (dd:h'.DictOf (ck P w) a vs) :
  cW P w H' h' a (.dK kvs):=⟨z,hd,vs,rel,dd⟩
theorem vT {H':Hp}{Q:Unit->Shared->Prop} (hu:A.units + 1 < cLine) (I:Inv X pins σ H s) (g:cF H a y v H') (ry:RelV y u) (rv:RelV v r) (h:∀s',Inv X pins σ H' s'->Q () s') :
  wpAny (model X.prog X.w) A (setItem (.ref a) u r) Q E s:=by
 rcases g with ⟨kvs,k,e,ey,l,eH⟩ | ⟨kvs,k,b,e,ey,eb,l,eH⟩
 ·subst ey eH
  obtain ⟨z,hd,vs,rel,dd⟩:=xv I.hok e
  have hz:vs.length <= sizeLine:=by rw [<- rel.length];exact z
  have hl:(putK kvs k v).length <= sizeLine:=by have:=gX kvs k v;omega
  refine wpAny_setItem_pairs (hsz:=hz) (mR ry) dd fun h' dd' hs=>h _ ?_
  have he:∃q,h'.get? a=some q:=let ⟨q,_,_,hq,_⟩:=dd';⟨q,hq⟩
  exact nP I (by rw [e];exact True.intro) hs he (fg hl hd (rel.put k rv) dd')
 ·subst ey eH
  cases (show u=Value.ref b from ry)
  obtain ⟨z,hd,xs,rel,dd⟩:=C8 I.hok e
  have hz:xs.length <= sizeLine:=by rw [<- Paired.length rel];exact z
  have hl:(putK kvs k v).length <= sizeLine:=by have:=gX kvs k v;omega
  refine wpAny_setItem_heap (hsz:=hz) (tupleKind_room_in1 hu) (mN I.hok eb) dd fun h' dd' hs=>h _ ?_
  obtain ⟨q,es,ep,hq,h2,h3,h4,_,h5⟩:=dd'
  refine nP I (by rw [e];exact True.intro) hs ⟨q,hq⟩ ⟨hl,hd,_,(rel.put k eb rv).keeps fun c ys ec=>?_,q,es,ep,hq,h2,h3,h4,h5⟩
  rw [aI (C6 ec e (fun z=>nomatch z))]
  exact ec
end
section
variable {X:Cx}{pins:List (Addr × Obj)}{σ:St}{H:Hp}{s:Shared}{a:Addr}{kvs:List (Key × V)}{k:Key}{u:Value}{A:Around}{E:Value->Shared->Prop}
theorem CY {Q:Value->Shared->Prop} (I:Inv X pins σ H s) (e:Rd H a (.dK kvs)) (h:∀t s',Inv X pins σ H s'->Q (.int kvs.length t) s'):wpAny (model X.prog X.w) A (call (.builtin "len") [.ref a]) Q E s:=by
 obtain ⟨z,hd,vs,rel,dd⟩:=iY I.hok e
 refine call_len_dict hd dd (by rw [<- rel.length];rw [sizeLine_eq] at z;omega) ?_
 rw [<- rel.length]
 exact h _ _ (I.tok _)
end
theorem rP {X:Cx}{pins:List (Addr × Obj)}{σ:St}{H:Hp}{s:Shared}{a:Addr}{y:V}{o:Option V} (I:Inv X pins σ H s) (g:bu H a y o):s.TypeIs (.ref a) "dict":=by
 rcases g with ⟨kvs,k,e,_,_⟩ | ⟨kvs,k,b,e,_,_,_⟩
 ·obtain ⟨_,_,vs,_,dd⟩:=iY I.hok e
  exact dd.typeIs
 ·obtain ⟨_,_,xs,_,dd⟩:=pF I.hok e
  exact dd.typeIs
section
variable {X:Cx}{o i e value:Expr}{pos pos' tpos:Pos}{td ty tv:TE}
end
theorem pD {P:Program}{w:World}{H:Hp} (h:Heap) (hb:sysModules < h.objs.size):cW P w H (h.push { cls:=.type "dict",data:=.dict #[] }) h.objs.size (.dK []) :=
 ⟨Nat.zero_le _,beq_eq_false_iff_ne.mpr (Ne.symm (Nat.ne_of_lt hb)),[],.nil,Heap.DictOf.new h⟩
def AV:TE:=fun _ H Q=>∀p,H p=none->Q (.ref p) (upd H p (.dK []))
section
variable {X:Cx}{pos:Pos}
theorem ma:PE X (.Dict [] [] pos) AV:=fun pins s σ H Q I h =>
 wpAny_Dict_empty ⟨.ref s.heap.objs.size,_,I.laid (a:=s.heap.objs.size) (o:=.dK []) (t':=s.toks) (fun _ _ q=>Heap.get?_push_of_some _ q) (Nat.le_refl _) (pD s.heap I.big),rfl,h _ (I.hok.fresh (Nat.le_refl _))⟩
end
def uf:List (TE × TE)->St->Hp->(List (V × V)->Hp->Prop)->Prop
 | [],_,H,Q=>Q [] H
 | (tk,tv) :: r,σ,H,Q=>tk σ H fun x H1=>tv σ H1 fun y H2=>uf r σ H2 fun ps H3=>Q ((x,y) :: ps) H3
abbrev VV:List (V × V)->List (Value × Value)->Prop:=Paired fun p q=>RelV p.1 q.1/\RelV p.2 q.2
def PPs (X:Cx) (pos:Pos) (keys:List (Option Expr)) (values:List Expr) (trs:List (TE × TE)):Prop :=
 ∀(pins:List (Addr × Obj)) (s:Shared) (σ:St) (H:Hp) (Q:List (V × V)->Hp->Prop),Inv X pins σ H s->uf trs σ H Q ->
  wpAny (model X.prog X.w) X.A (evalPairs (pairTrees keys values X.env pos)) (fun vs s'=>∃ps H',Inv X pins σ H' s'/\VV ps vs/\Q ps H') X.xe s
theorem qR {X:Cx}{pos:Pos}:PPs X pos [] [] []:=fun pins s σ H Q I h=>pairTrees_nil_walk ⟨[],H,I,.nil,h⟩
theorem dj {X:Cx}{pos:Pos}{k v:Expr}{ks:List (Option Expr)}{vs:List Expr}{tk tv:TE}{trs:List (TE × TE)} (hk:PE X k tk) (hv:PE X v tv) (hr:PPs X pos ks vs trs) :
  PPs X pos (some k :: ks) (v :: vs) ((tk,tv) :: trs):=fun pins s σ H Q I h =>
 pairTrees_cons_walk (thn (hk pins s σ H _ I h) fun u s1 ⟨x,H1,I1,rx,q1⟩=>thn (hv pins s1 σ H1 _ I1 q1) fun w2 s2 ⟨y,H2,I2,ry,q2⟩ =>
  thn (hr pins s2 σ H2 _ I2 q2) fun ws s3 ⟨ps,H3,I3,rel,q3⟩=>⟨(x,y) :: ps,H3,I3,.cons ⟨rx,ry⟩ rel,q3⟩)
def cc (kvs more:List (Key × V)):List (Key × V):=more.foldl (fun acc kv=>putK acc kv.1 kv.2) kvs
theorem KV.merge:∀{more:List (Key × V)}{rs:List (Key × Value)}{kvs:List (Key × V)}{vs:List (Key × Value)},KV more rs->KV kvs vs->KV (cc kvs more) (merged vs rs):=by
 intro more rs kvs vs r
 unfold KV at r
 induction r generalizing kvs vs with
 | nil=>intro q;exact q
 | @cons p q ps qs h t ih =>
  intro r0
  have e:KV (putK kvs p.1 p.2) (stored vs q.1 q.2):=by
   have:=r0.put p.1 h.2
   rw [<- h.1];exact this
  exact ih e
theorem hZ:∀(more kvs:List (Key × V)),(cc kvs more).length <= kvs.length + more.length
 | [],kvs=>by show kvs.length <= kvs.length + 0;omega
 | p :: r,kvs=>by
  have h1:=hZ r (putK kvs p.1 p.2)
  have h2:=gX kvs p.1 p.2
  show (cc (putK kvs p.1 p.2) r).length <= _
  rw [List.length_cons];omega
theorem oH {P:Program}{w:World}:∀{kvs:List (Key × V)}{ws:List (Value × Value)},VV (kvs.map fun kv=>(kV kv.1,kv.2)) ws->∃rs,Carries (ck P w) ws rs/\KV kvs rs
 | [],_,r=>by rw [List.map_nil] at r;cases r;exact ⟨[],True.intro,.nil⟩
 | p :: kvs,_,r=>by
  rw [List.map_cons] at r
  cases r with
  | @cons a b as bs h t =>
   obtain ⟨rs,c,q⟩:=oH (P:=P) (w:=w) t
   obtain ⟨b1,b2⟩:=b
   exact ⟨(p.1,b2) :: rs,⟨mR h.1,rfl,c⟩,.cons ⟨rfl,h.2⟩ q⟩
def CM (trs:List (TE × TE)):TE:=fun σ H Q=>∀p,H p=none->uf trs σ (upd H p (.dK [])) fun ps H2=>H2 p=some (.dK [])/\∃kvs:List (Key × V),ps=kvs.map (fun kv=>(kV kv.1,kv.2))/\kvs.length <= 15/\Q (.ref p) (upd H2 p (.dK (cc [] kvs)))
theorem qT {X:Cx}{pos:Pos}{keys:List (Option Expr)}{values:List Expr}{trs:List (TE × TE)} (h:PPs X pos keys values trs) (hall:keys.all (·.isSome)=true) (hl:keys.length=values.length) (h0:keys ≠ [])
  (h15:keys.length <= 15):PE X (.Dict keys values pos) (CM trs):=by
 intro pins s σ H Q I q
 have hn:=I.hok.fresh (Nat.le_refl s.heap.objs.size)
 have I1:=I.laid (a:=s.heap.objs.size) (o:=.dK []) (h':=s.heap.push { cls:=.type "dict",data:=.dict #[] }) (t':=s.toks) (fun _ _ q=>Heap.get?_push_of_some _ q) (Nat.le_refl _) (pD s.heap I.big)
 refine wpAny_Dict_walk (knd:=ck X.prog X.w) hall hl h0 h15 (thn (h pins _ σ _ _ I1 (q _ hn)) fun ws s2 ⟨ps,H2,I2,rel,e,kvs,ep,lk,q2⟩=>?_)
 subst ep
 obtain ⟨rs,c,rk⟩:=oH (P:=X.prog) (w:=X.w) rel
 obtain ⟨z,hd,vs0,r0,dd⟩:=xv I2.hok e
 cases r0
 refine ⟨rs,c,dd,fun h' dd' hs=>⟨.ref s.heap.objs.size,_,?_,rfl,q2⟩⟩
 have hz:(cc [] kvs).length <= sizeLine:=by
  have h1:=hZ kvs []
  rw [List.length_nil] at h1
  rw [sizeLine_eq];omega
 have he:∃q,h'.get? s.heap.objs.size=some q:=let ⟨q,_,_,hq,_⟩:=dd';⟨q,hq⟩
 exact nP I2 (by rw [e];exact True.intro) hs he (fg hz hd (rk.merge .nil) dd')
structure M1 (X:Cx) (o:Expr) (m:Str) (apos:Pos) (e:Expr) (cpos:Pos):Prop where
 base:attributeBase o m X.env (eval o X.env)=eval o X.env
 few:((backTo cpos (starEach [e] X.env)).all (fun x=>!x.1) && (backToKw cpos (keywordEach [] X.env)).all (fun x=>x.1.isSome)
  && decide (([e]:List Expr).length + ([]:List Keyword).length + (if ([]:List Keyword).isEmpty then 0 else 1) < 30))=true
 line:(apos.endLine == cpos.line)=true
 trees:backTo cpos (starEach [e] X.env)=[(false,eval e X.env)]
structure M2 (X:Cx) (o:Expr) (m:Str) (apos:Pos) (e f:Expr) (cpos:Pos):Prop where
 base:attributeBase o m X.env (eval o X.env)=eval o X.env
 few:((backTo cpos (starEach [e,f] X.env)).all (fun x=>!x.1) && (backToKw cpos (keywordEach [] X.env)).all (fun x=>x.1.isSome)
  && decide (([e,f]:List Expr).length + ([]:List Keyword).length + (if ([]:List Keyword).isEmpty then 0 else 1) < 30))=true
 line:(apos.endLine == cpos.line)=true
 trees:backTo cpos (starEach [e,f] X.env)=[(false,eval e X.env),(false,eval f X.env)]
def IsD (H:Hp) (a:Addr):Prop:=(∃kvs,Rd H a (.dK kvs)) \/ ∃kvs,Rd H a (.dT kvs)
theorem Bi {X:Cx}{pins:List (Addr × Obj)}{σ:St}{H:Hp}{s:Shared}{a:Addr} (I:Inv X pins σ H s) (d:IsD H a) :
  s.TypeIs (.ref a) "dict"/\(∀b,Value.ref a=.ref b->∃ob,s.heap.get? b=some ob/\ob.dict=none)/\(a == sysModules)=false:=by
 rcases d with ⟨kvs,e⟩ | ⟨kvs,e⟩
 ·obtain ⟨_,hd,vs,_,dd⟩:=iY I.hok e
  refine ⟨dd.typeIs,fun b q=>?_,hd⟩
  cases q
  obtain ⟨ob,_,_,h1,h2,_⟩:=dd
  exact ⟨ob,h1,h2.2.1⟩
 ·obtain ⟨_,hd,xs,_,dd⟩:=pF I.hok e
  refine ⟨dd.typeIs,fun b q=>?_,hd⟩
  cases q
  obtain ⟨ob,_,_,h1,h2,_⟩:=dd
  exact ⟨ob,h1,h2.2.1⟩
section
variable {X:Cx}{pins:List (Addr × Obj)}{σ:St}{H:Hp}{s:Shared}{a:Addr}{y d:V}{u r:Value}{o:Option V}{A:Around}{E:Value->Shared->Prop}
theorem Bb {Q:Value->Shared->Prop} (hu:A.units + 1 < cLine) (I:Inv X pins σ H s) (g:bu H a y o) (ry:RelV y u) (h:∀w' s',Inv X pins σ H s'->RelV (o.getD .non) w'->Q w' s') :
  wpAny (model X.prog X.w) A (call (.builtin "dict.get") [.ref a,u]) Q E s:=by
 rcases g with ⟨kvs,k,e,ey,l⟩ | ⟨kvs,k,b,e,ey,eb,l⟩
 ·subst ey
  obtain ⟨z,hd,vs,rel,dd⟩:=iY I.hok e
  refine call_meetsIn PySem.F.slot_dict_get dd.typeIs PySem.F.entry_dict_get (PySem.F.args_dict_get_2 _ _) (meets_dict_get (ck X.prog X.w) a (mR ry) hd) ⟨_,dd.mapOf,h _ _ (I.tok _) ?_⟩
  rw [l]
  exact (rel.val k).getD rfl
 ·subst ey
  cases (show u=Value.ref b from ry)
  obtain ⟨z,hd,xs,rel,dd⟩:=pF I.hok e
  refine call_meetsIn PySem.F.slot_dict_get dd.typeIs PySem.F.entry_dict_get (PySem.F.args_dict_get_2 _ _) (meetsH_dict_get (tupleKind (ck X.prog X.w)) a b hd) ⟨tupleKind_room_in1 hu,k,xs,mN I.hok eb,dd,h _ _ (I.tok _) ?_⟩
  rw [l]
  exact (rel.val k).getD rfl
end
def BI (td ty:TE):TE:=fun σ H Q=>td σ H fun x H1=>∃a,x=.ref a/\IsD H1 a/\ty σ H1 fun y H2=>∃o,bu H2 a y o/\Q (o.getD .non) H2
section
variable {X:Cx}{o e f:Expr}{apos cpos:Pos}{td ty tx:TE}
theorem xZ (hu:X.A.units + 1 < cLine) (ho:PE X o td) (he:PE X e ty) (m:M1 X o "get" apos e cpos):PE X (.Call (.Attribute o "get" apos) [e] [] cpos) (BI td ty):=by
 intro pins s σ H Q I h
 refine wpAny_Call_method m.base m.few m.line PySem.F.plainAttrs_dict PySem.F.slot_dict_get PySem.F.type_dict_get (thn (ho pins s σ H _ I h) fun u s1 ⟨x,H1,I1,rx,a,ex,d,q1⟩=>?_)
 subst ex
 obtain rfl:u=Value.ref a:=rx
 obtain ⟨t1,t2,_⟩:=Bi I1 d
 refine ⟨t1,t2,?_⟩
 rw [m.trees]
 refine Calls.callWith_builtin rfl (Calls.evalArgs_plain (Calls.spliced_cons (thn (he pins s1 σ H1 _ I1 q1) fun iv s2 ⟨y,H2,I2,ry,ov,g,q2⟩=>Calls.spliced_nil ?_)))
 exact Bb hu I2 g ry fun w' s3 I3 rw'=>⟨_,H2,I3,rw',q2⟩
end
section
variable {X:Cx}{pins:List (Addr × Obj)}{σ:St}{H:Hp}{s:Shared}{a:Addr}{kvs:List (Key × V)}{A:Around}{E:Value->Shared->Prop}
end
section
variable {X:Cx}{pins:List (Addr × Obj)}{σ:St}{H:Hp}{s:Shared}{a:Addr}{y:V}{u:Value}{A:Around}{E:Value->Shared->Prop}
end
end L2
namespace L2
open PySem PySem.Spec PyProof.Rows
section
variable {X:Cx}
theorem tD (hu:X.A.units + 64 < cLine):IxR X (fun x y H Q=>∃a v,x=.ref a/\bu H a y (some v)/\Q v H):=by
 intro value slice pins s σ H x y v u Q I rx ry h hs
 obtain ⟨a,z,rfl,g,q⟩:=h
 cases rx
 have hT:=rP I g
 unfold subscriptTail
 refine wpAny_bind ?_
 rw [getitemInPython_of_ne hT.not_modules]
 refine wpAny_bind (wpAny_specialOf hT PySem.F.slot_dict_getitem.lookup ?_)
 have h₂:wpAny (model X.prog X.w) X.A (getItem (.ref a) u) (EP X pins σ Q) X.xe s:=vX (by omega) I g ry fun w' s3 I3 rw'=>⟨z,H,I3,rw',q⟩
 have fin:wpAny (model X.prog X.w) X.A (subscripted slice false (.ref a) u) (fun r s₃=>wpAny (model X.prog X.w) X.A (letTemporaryGo value (.ref a) r >>= fun _=>pure r) (EP X pins σ Q) X.xe s₃) X.xe s:=by
  rw [hs]
  exact wpAny_operating (wpAny_mono h₂ (fun r s₃ h₃=>wpAny_bind (wpAny_letTemporaryGo (wpAny_pure h₃))) fun _ _ x=>x)
 first
  | exact wpAny_pure (wpAny_bind fin)
  | exact wpAny_bind (wpAny_pure (wpAny_bind fin))
  | exact wpAny_bind fin
def CJ (K:W.Frag):R2:=fun x y H Q=>match x,y with
 | .ref p,.int i=>(∃xs v,(SqL K H p xs \/ SqT K H p xs)/\atI xs i=some v/\Q v H) \/ (∃v,bu H p (.int i) (some v)/\Q v H)
 | .ref p,.str k=>∃v,bu H p (.str k) (some v)/\Q v H
 | .str z,.int i=>∃c,z.length <= sizeLine/\atI z.cps.toList i=some c/\Q (.str ⟨#[c]⟩) H
 | _,_=>False
theorem B7 (hu:X.A.units + 64 < cLine):IxR X (CJ X.K):=by
 intro value slice pins s σ H x y v u Q I rx ry h hs
 cases x with
 | ref p =>
  cases y with
  | int i =>
   rcases h with h | ⟨w,g,q⟩
   ·exact xU value slice pins s σ H _ _ v u Q I rx ry h hs
   ·exact tD hu value slice pins s σ H _ _ v u Q I rx ry ⟨p,w,rfl,g,q⟩ hs
  | str k =>
   obtain ⟨w,g,q⟩:=h
   exact tD hu value slice pins s σ H _ _ v u Q I rx ry ⟨p,w,rfl,g,q⟩ hs
  | _=>exact (show False from h).elim
 | str z =>
  cases y with
  | int i=>exact xU value slice pins s σ H _ _ v u Q I rx ry h hs
  | _=>exact (show False from h).elim
 | _=>cases y <;> exact (show False from h).elim
theorem tj (hu:X.A.units + 64 < cLine):xu X (fun o i v H Q=>∃a H',o=.ref a/\cF H a i v H'/\Q H'):=by
 intro pins s σ H o i v ov iv u Q I ro ri rv h
 obtain ⟨a,H',rfl,g,q⟩:=h
 cases ro
 exact vT (by omega) I g ri rv fun s4 I4=>⟨H',I4,q⟩
def Cr:zM:=fun o i v H Q=>match o,i with
 | .ref p,.int k=>(∃xs j,H p=some (.lst xs)/\ixN xs.length k=some j/\Q (upd H p (.lst (xs.set j v)))) \/ (∃H',cF H p (.int k) v H'/\Q H')
 | .ref p,.str k=>∃H',cF H p (.str k) v H'/\Q H'
 | _,_=>False
theorem bB (hu:X.A.units + 64 < cLine) (hl:xu X Au):xu X Cr:=by
 intro pins s σ H o i v ov iv u Q I ro ri rv h
 cases o with
 | ref p =>
  cases i with
  | int k =>
   rcases h with ⟨xs,j,h1,h2,q⟩ | ⟨H',g,q⟩
   ·exact hl pins s σ H _ _ v ov iv u Q I ro ri rv ⟨p,xs,k,j,rfl,rfl,h1,h2,q⟩
   ·exact tj hu pins s σ H _ _ v ov iv u Q I ro ri rv ⟨p,H',rfl,g,q⟩
  | str k =>
   obtain ⟨H',g,q⟩:=h
   exact tj hu pins s σ H _ _ v ov iv u Q I ro ri rv ⟨p,H',rfl,g,q⟩
  | _=>exact (show False from h).elim
 | _=>cases i <;> exact (show False from h).elim
theorem CC (hu:X.A.units + 64 < cLine):OpR X (compareOp .In) (fun x y H Q=>∃a o,y=.ref a/\bu H a x o/\Q (.bl o.isSome) H):=by
 intro pins s σ H x y v u Q I rx ry h
 obtain ⟨a,o,rfl,g,q⟩:=h
 cases ry
 exact Ec (by omega) I g rx fun s3 I3=>⟨.bl o.isSome,H,I3,rfl,q⟩
theorem xP (hu:X.A.units + 64 < cLine):OpR X (compareOp .NotIn) (fun x y H Q=>∃a o,y=.ref a/\bu H a x o/\Q (.bl (!o.isSome)) H):=by
 intro pins s σ H x y v u Q I rx ry h
 obtain ⟨a,o,rfl,g,q⟩:=h
 cases ry
 exact Aq (by omega) I g rx fun s3 I3=>⟨.bl (!o.isSome),H,I3,rfl,q⟩
theorem Av (hu:X.A.units + 64 < cLine):OpR X (compareOp .In) (fun x y H Q=>fIn X.K false x y H Q \/ ∃a o,y=.ref a/\bu H a x o/\Q (.bl o.isSome) H):=DX.or (CC hu)
theorem yr (hu:X.A.units + 64 < cLine):OpR X (compareOp .NotIn) (fun x y H Q=>fIn X.K true x y H Q \/ ∃a o,y=.ref a/\bu H a x o/\Q (.bl (!o.isSome)) H):=zo.or (xP hu)
theorem Bh:eJ X (.builtin "len") (fun xs H Q=>∃a kvs,xs=[.ref a]/\Rd H a (.dK kvs)/\Q (.int (kvs.length:Nat)) H):=by
 intro pins s σ H xs us Q I r h
 obtain ⟨a,kvs,rfl,e,q⟩:=h
 obtain ⟨u,rfl,rfl⟩:=vals1 r
 exact CY I e fun t s' I'=>⟨.int _,H,I',⟨_,rfl⟩,q⟩
end
end L2
namespace PySem
open Sem (wp)
section
variable {prog:Program}{w:World}{A:Around}{E:Value->Shared->Prop}{s:Shared}
theorem qV:typeLookup (.type "list") "keys"=pure none:=am_miss_of_fast (by kernel_rfl)
theorem qI {a:Addr}{o:Obj}{xs:Array Value}{k:Nat}{Q:Option Value->Shared->Prop} (hx:s.heap.get? a=some o) (hc:o.cls=.type "list") (hdat:o.data=.seq xs k) (hd:o.dict=none) (hA:A.handled=none)
  (h:∀h' tk,(∀b ob,s.heap.get? b=some ob->h'.get? b=some ob)->Q none { s with heap:=h',toks:=tk }):wpAny (model prog w) A (getAttr? (.ref a) "keys") Q E s:=by
 obtain ⟨c,dct,dat,sl⟩:=o
 simp only at hc hdat hd
 subst hc hdat hd
 obtain ⟨hp,g,d,tk,os⟩:=s
 have hT:∀tk',(⟨hp,g,d,tk',os⟩:Shared).TypeIs (.ref a) "list":=fun _=>⟨_,hx,rfl⟩
 have f1:=sub_AttributeError
 have f3:=F.slot_list_getattribute.lookup
 have f4:=F.slot_list_getattribute.bind (.ref a)
 have f5:=am_list_getattr_none
 have hmiss:=qV
 have hname:(["__module__","__name__","__qualname__","__doc__","__annotations__"]:List Str).contains "keys"=false:=by decide +kernel
 unfold getAttr? getAttrBy? getAttrBy
 repeat (any_goals (first | assumption | exact hT _ | ((with_reducible show wpAny _ _ (call (Value.builtin "list.__getattribute__") _ _) _ _ _);refine call_meets F.slot_list_getattribute (hT _) am_entry_list_getattribute (F.args_list_getattribute_2 _ _) (meets_getattribute_miss_list a xs k sl "keys" _ hmiss hname (by decide)) ⟨hx,hA,fun h' tk' e hx'=>?_⟩) | wp_step))
 obtain ⟨t',u',he⟩:=hx'.there
 have hTe:(⟨h',g,d,tk',os⟩:Shared).TypeIs (.ref e) "AttributeError":=⟨_,he,rfl⟩
 show wpAny _ _ (getattributeRaised _ _ _ _ _ _ _) _ _ _
 unfold getattributeRaised
 repeat (any_goals (first | assumption | wp_step))
 exact h _ _ hx'.keeps
end
end PySem
namespace L2
open PySem PySem.Spec PyProof.Rows
theorem jV:entryFor table "dict.update.loop"=some Builtin.«dict.update.loop»:=entryFor_of_tree (by kernel_rfl)
theorem eV:plainId "dict.update.loop"=true:=by decide +kernel
section
variable {X:Cx}{pins:List (Addr × Obj)}{σ:St}{H0:Hp}{A:Around}
theorem pair_items {prog:Program}{w:World}{E:Value->Shared->Prop}{s:Shared}{t:Addr}{its:Array Value}{Q:List Value->Shared->Prop} (h:s.heap.IsTuple t its) (q:Q its.toList s):wpAny (model prog w) A (Builtin.Dict.pairItems (.ref t)) Q E s:=by
 obtain ⟨o,ho,hc,n,hd⟩:=h
 unfold Builtin.Dict.pairItems
 refine wpAny_bind (wpAny_typeOf ⟨o,ho,hc⟩ ?_)
 rw [if_pos (by decide)]
 refine wpAny_bind ?_
 obtain ⟨c,dct,dat,sl⟩:=o
 simp only at hc hd
 subst hc hd
 obtain ⟨hp,g,d,tk,os⟩:=s
 repeat (any_goals (first | assumption | wp_step))
theorem ur (kvs:List (Key × V)) (i:Nat) {k:Key}{v:V} (h:kvs[i]?=some (k,v)):cc [] (kvs.take (i + 1))=putK (cc [] (kvs.take i)) k v:=by
 unfold cc
 rw [List.take_add_one,h,List.foldl_append]
 rfl
theorem yz (hc:X.calm=true) {l p it:Addr}{ps:List Addr}{kvs:List (Key × V)}{R:Result->Shared->Prop} (hA:A.handled=none) (hl:SqL X.K H0 l (ps.map V.ref)) (hlen:ps.length=kvs.length) (hn:kvs.length <= 1000)
  (hps:∀(i:Nat) t k v,ps[i]?=some t->kvs[i]?=some (k,v)->SqT X.K H0 t [kV k,v]) (hp:H0 p=none)
  (fin:∀s',Inv X pins σ (upd H0 p (.dK (cc [] kvs))) s'->R (.ok (.ret .none)) s') :
  ∀(n i:Nat) (s:Shared),n + i=ps.length->Inv X pins σ (upd H0 p (.dK (cc [] (kvs.take i)))) s->oP X pins (upd H0 p (.dK (cc [] (kvs.take i)))) it->s.heap.IsListIter it l i ->
   codeAny (model X.prog X.w) A (.builtin "dict.update.loop" ⟨[.ref p,.ref it,rawInt i,.none],[]⟩) R s:=by
 intro n
 induction n with
 | zero =>
  intro i s hi I hf st
  refine codeAny_builtin jV ?_
  rw [Around.under_plainId eV _]
  have sm:=aj.upd hp (.dK (cc [] (kvs.take i)))
  obtain ⟨its,rv,pl,hz⟩:=I.list (sm.seq hl)
  have hll:=rv.length
  rw [List.length_map] at hll
  obtain ⟨f0,f1,f2,f3,f4,f5⟩:=hf
  unfold Builtin.«dict.update.loop»
  refine wpAny_bind (wpAny_pyNext_list_end hA st pl.isList (by simp;omega) fun h' eb=>?_)
  have I':Inv X pins σ (upd H0 p (.dK (cc [] (kvs.take i)))) { s with heap:=h' }:=I.turned (t':=s.toks) (fun b o hb e=>eb b o hb e) f0 f1 f3 f4 f5
  rw [List.take_of_length_le (by omega)] at I'
  exact wpAny_bind (wpAny_pure (wpAny_pure (fin _ I')))
 | succ n ih =>
  intro i s hi I hf st
  refine codeAny_builtin jV ?_
  rw [Around.under_plainId eV _]
  have sm:=aj.upd hp (.dK (cc [] (kvs.take i)))
  obtain ⟨its,rv,pl,hz⟩:=I.list (sm.seq hl)
  have hll:=rv.length
  rw [List.length_map] at hll
  obtain ⟨t,ht⟩:∃t,ps[i]?=some t:=⟨ps[i]'(by omega),List.getElem?_eq_getElem (by omega)⟩
  obtain ⟨⟨k,v⟩,hk⟩:∃kv,kvs[i]?=some kv:=⟨kvs[i]'(by omega),List.getElem?_eq_getElem (by omega)⟩
  obtain ⟨u,hu1,hu2⟩:=rv.get (x:=.ref t) (i:=i) (by rw [List.getElem?_map,ht];rfl)
  cases hu2
  obtain ⟨f0,f1,f2,f3,f4,f5⟩:=hf
  unfold Builtin.«dict.update.loop»
  refine wpAny_bind (wpAny_pyNext_list_item st pl.isList (x:=.ref t) (by simpa using hu1) fun h' st' sb=>?_)
  have I1:Inv X pins σ (upd H0 p (.dK (cc [] (kvs.take i)))) { s with heap:=h' }:=I.turned (t':=s.toks) (fun b o hb e=>(sb.2 b hb).trans e) f0 f1 f3 f4 f5
  obtain ⟨jts,rj,pt,_⟩:=I1.tuple (sm.tup (hps i t k v ht hk))
  obtain ⟨u1,u2,e12,r1,r2⟩:∃u1 u2,jts=[u1,u2]/\RelV (kV k) u1/\RelV v u2:=by
   cases rj with
   | cons r1 q=>cases q with
    | cons r2 q=>cases q;exact ⟨_,_,rfl,r1,r2⟩
  subst e12
  refine wpAny_bind (wpAny_holding (wpAny_bind (wpAny_tryCatch (pair_items pt ?_))))
  show wpAny _ _ (holding [u1,u2] (dictSet p u1 u2)) _ _ _
  refine wpAny_holding ?_
  obtain ⟨z,hd,vs,rel,dd⟩:=xv I1.hok (aq (H:=H0) (a:=p) (o:=.dK (cc [] (kvs.take i))))
  have hz':vs.length <= sizeLine:=by rw [<- rel.length];exact z
  have hlk:(cc [] (kvs.take i)).length <= 1000:=by
   have:=hZ (kvs.take i) []
   rw [List.length_take,List.length_nil] at this
   omega
  have hlp:(putK (cc [] (kvs.take i)) k v).length <= sizeLine:=by
   have h1:=gX (cc [] (kvs.take i)) k v
   have h2:=aM hlk
   omega
  refine wpAny_dictSet_pairs (hsz:=hz') (mR r1) dd fun h2 dd' hs=>?_
  have he:∃q,h2.get? p=some q:=let ⟨q,_,_,hq,_⟩:=dd';⟨q,hq⟩
  have I2:=nP (t':=s.toks + 1) (ob:=.dK (putK (cc [] (kvs.take i)) k v)) I1 (by rw [aq];exact True.intro) hs he (fg hlp hd (rel.put k r2) dd')
  rw [zq,<- ur kvs i hk] at I2
  have hne:it ≠ p:=fun z=>by rw [z,aq] at f0;cases f0
  have f0':upd H0 p (.dK (cc [] (kvs.take (i + 1)))) it=none:=by
   rw [aI hne] at f0 ⊢
   exact f0
  refine wpAny_pure ⟨plainId_quiet eV _,?_⟩
  have ec:((i:Int) + 1)=((i + 1:Nat):Int):=by push_cast;rfl
  rw [ec]
  exact ih (i + 1) _ (by omega) I2 ⟨f0',f1,f2,f3,f4,f5⟩ (st'.at fun o e=>(hs.2 it hne).trans e)
theorem zO (hc:X.calm=true:=by rfl):eJ X (.type "dict") (fun xs H Q=>∃(l:Addr) (ps:List Addr) (kvs:List (Key × V)),xs=[.ref l]/\SqL X.K H l (ps.map V.ref)/\ps.length=kvs.length/\kvs.length <= 1000 /\
  (∀(i:Nat) t k v,ps[i]?=some t->kvs[i]?=some (k,v)->SqT X.K H t [kV k,v])/\∀p,H p=none->Q (.ref p) (upd H p (.dK (cc [] kvs)))):=by
 intro pins s σ H xs us Q I r h
 obtain ⟨l,ps,kvs,rfl,hl,hlen,hn,hps,q⟩:=h
 obtain ⟨u,rfl,rfl⟩:=vals1 r
 have hA:=I.ok.hd hc
 have hp:=I.hok.fresh (Nat.le_refl s.heap.objs.size)
 have I1:=I.laid (a:=s.heap.objs.size) (o:=.dK []) (t':=s.toks) (h':=s.heap.push { cls:=.type "dict",data:=.dict #[] }) (fun _ _ q=>Heap.get?_push_of_some _ q) (Nat.le_refl _) (pD s.heap I.big)
 refine callType_codes (Q₁:=fun obj s₁=>obj=.ref s.heap.objs.size/\s₁={ s with heap:=s.heap.push { cls:=.type "dict",data:=.dict #[] } }) F.kt_called_dict (F.kt_typeCall_dict_1 _) F.entry_dict_init (kt_code_dict_new _ ⟨rfl,rfl⟩) ?_
 rintro obj s₁ ⟨rfl,rfl⟩
 have hnew:(s.heap.push { cls:=.type "dict",data:=.dict #[] }).DictOf (ck X.prog X.w) s.heap.objs.size []:=Heap.DictOf.new s.heap
 have sm:=aj.upd hp (.dK [])
 obtain ⟨its,rv,pl,hz⟩:=I1.list (sm.seq hl)
 obtain ⟨o,n,ho,hoc,hod,hos⟩:=id pl
 refine ⟨hnew.typeIs,F.args_dict_init_2 _ _,?_⟩
 unfold Builtin.«dict.__init__»
 refine wpAny_bind ?_
 unfold Builtin.Dict.selfAndRest
 refine wpAny_bind (wpAny_notOrdered_dict hnew.typeIs ?_)
 show wpAny _ _ (pure (s.heap.objs.size,[Value.ref l])) _ _ _
 refine wpAny_pure ?_
 show wpAny _ _ (Builtin.Dict.updateFrom "dict.__init__" s.heap.objs.size (.ref l) [] .none) _ _ _
 unfold Builtin.Dict.updateFrom
 refine wpAny_bind (wpAny_typeOf ⟨o,ho,hoc⟩ ?_)
 rw [if_pos (by decide)]
 refine wpAny_bind (qI ho hoc hos hod hA fun h2 tk2 k2=>?_)
 have I2:Inv X pins σ (upd H s.heap.objs.size (.dK [])) { s with heap:=h2,toks:=tk2 }:=I1.kept (t':=tk2) k2
 rw [if_pos (show (none:Option Value).isNone=true from rfl)]
 obtain ⟨its2,rv2,pl2,_⟩:=I2.list (sm.seq hl)
 refine wpAny_bind (wpAny_rule (wpAny_bind (wpAny_pyIter_list pl2.isList ?_)))
 refine wpAny_pure ⟨plainId_quiet eV _,?_⟩
 have I3:=I2.kept (h':=h2.push { cls:=.type "list_iterator",data:=.fields #[.ref l,.int 0 0] }) (t':=tk2) fun b o e=>Heap.get?_push_of_some _ e
 have fp:=I2.tO (H':=upd H s.heap.objs.size (.dK [])) (Nat.le_refl _) (I2.hok.fresh (Nat.le_refl _))
 refine yz (X:=X) (H0:=H) (A:=X.A.in1) (p:=s.heap.objs.size) (kvs:=kvs) hc hA hl hlen hn hps hp (fun s' I'=>?_) ps.length 0 _ rfl I3 fp ⟨_,Heap.get?_push_size _ rfl,rfl,rfl⟩
 exact ⟨rfl,.ref s.heap.objs.size,_,I',rfl,q _ hp⟩
end
end L2
namespace L2
open PySem PySem.Spec PyProof.Rows
section
variable {X:Cx}{pins:List (Addr × Obj)}{σ:St}{H:Hp}{s:Shared}
theorem Inv.u7 {h':Heap}{t':Nat}{ch:List Addr} (I:Inv X pins σ H s) (hf:∀b ∈ ch,oP X pins H b) (k:∀b o,b ∉ ch->s.heap.get? b=some o->h'.get? b=some o):Inv X pins σ H { s with heap:=h',toks:=t' }:=by
 have nit:∀b u,H b=some u->b ∉ ch:=fun b u e z=>by rw [(hf b z).1] at e;cases e
 refine I.step (g':=s.gens) (d':=s.drawn) (ch:=ch) (fun b hb=>⟨(hf b hb).2.2.2.1,(hf b hb).2.1,(hf b hb).2.2.2.2.1,(hf b hb).2.2.2.2.2⟩) (fun b o _ _ hc e _=>k b o hc e) (fun b o _ _ hc e _=>⟨o.slots,k b o hc e⟩) (fun _ _ _ _ n=>n)
  (fun b o hc e=>⟨o,k b o hc e⟩) (fun _ _ e=>e) (fun _ _ _ e=>e) (fun b ps e=>⟨#[],by rw [e];simp⟩) (fun m hm=>?_) (fun b u e=>?_) I.bare
 ·obtain ⟨o,es,ep,ho,r⟩:=hm
  exact ⟨o,es,ep,k _ o (fun z=>(hf _ z).2.1 rfl) ho,r⟩
 ·refine (I.hok b u e).uL (fun c v hc q=>k c v ?_ q) (fun _ q=>q) fun _ _ q=>q
  rcases hc with rfl | hc
  ·exact nit _ _ e
  ·exact nit _ _ hc
theorem Inv.Dl {T:Addr}{u:HO} (I:Inv X pins σ H s) (hf:oP X pins H T) (hz:X.s₀.heap.objs.size <= T) (new:cW X.prog X.w (upd H T u) s.heap T u):Inv X pins σ (upd H T u) s:=by
 obtain ⟨f0,f1,f2,f3,f4,f5⟩:=hf
 have ne0:∀b o,X.s₀.heap.get? b=some o->b ≠ T:=fun b o e=>Nat.ne_of_lt (Nat.lt_of_lt_of_le (Heap.lt_size e) hz)
 have neS:∀b v,H b=some v->b ≠ T:=fun b v e z=>by rw [z,f0] at e;cases e
 refine ⟨I.ok,I.os,I.bare,⟨I.base.keep,I.base.slot,fun b o e n hx=>by rw [aI (ne0 b o e)];exact I.base.free b o e n hx,I.base.there,fun b xs e=>by
   have:=I.base.qN b xs e
   rw [aI (neS b _ this)];exact this,fun b o v e=>by
   have:=I.base.pU b o v e
   rw [aI (neS b _ this)];exact this,fun b ps e=>by
   obtain ⟨more,q⟩:=I.base.qX b ps e
   exact ⟨more,by rw [aI (neS b _ q)];exact q⟩⟩,I.loc,I.cell,by rw [aI (Ne.symm f1)];exact I.free,fun x c e=>by rw [aI (f4 x c e)];exact I.jK x c e,
  fun p hp=>by rw [aI (f5 p hp)];exact I.pin p hp,fun b v e=>?_,I.len⟩
 by_cases hb:b=T
 ·subst hb;rw [aq] at e;cases e;exact new
 ·rw [aI hb] at e
  exact (I.hok b v e).uL (fun _ _ _ q=>q) (fun c q=>by rw [aI (neS c _ q)];exact q) fun c xs q=>by rw [aI (neS c _ q)];exact q
end
theorem CD {P:Program}{w:World}{k:Key}{u:Value} (h:(ck P w).is k u=true):RelV (kV k) u:=by
 cases k with
 | inl i=>obtain ⟨t,e⟩:=Value.isInt_shape (show Value.isInt i u=true from h);exact ⟨t,e⟩
 | inr x=>obtain ⟨t,e⟩:=Value.isStrOf_shape (show Value.isStrOf x u=true from h);exact ⟨t,e⟩
section
variable {X:Cx}
end
end L2
namespace L2
open PySem PySem.Spec PyProof.Rows
theorem kU {α β:Type}{F:α->β->Prop}:∀{l₁:List α}{l₂:List β},l₁.length=l₂.length->(∀(i:Nat) a b,l₁[i]?=some a->l₂[i]?=some b->F a b)->Paired F l₁ l₂
 | [],[],_,_=>.nil
 | [],_ :: _,h,_=>by simp at h
 | _ :: _,[],h,_=>by simp at h
 | x :: xs,y :: ys,h,f=>.cons (f 0 x y rfl rfl) (kU (by simpa using h) fun i a b ha hb=>f (i + 1) a b (by simpa using ha) (by simpa using hb))
theorem gj {α β:Type}{F:α->β->Prop}{l₁:List α}{l₂:List β} (h:Paired F l₁ l₂):∀{i:Nat}{a:α}{b:β},l₁[i]?=some a->l₂[i]?=some b->F a b:=by
 induction h with
 | nil=>intro i a b h;simp at h
 | cons r t ih =>
  intro i a b ha hb
  cases i with
  | zero=>simp only [List.getElem?_cons_zero,Option.some.injEq] at ha hb;subst ha hb;exact r
  | succ j=>exact ih (by simpa using ha) (by simpa using hb)
section
variable {X:Cx}{tg:Expr}
theorem zd (hc:X.calm=true:=by rfl):eJ X (.type "list") (fun xs H Q=>∃d kvs,xs=[.ref d]/\Rd H d (.dK kvs)/\∀l,H l=none->Q (.ref l) (upd H l (.lst (kvs.map fun kv=>kV kv.1)))):=by
 intro pins s σ H xs us Q I r h
 obtain ⟨d,kvs,rfl,e,q⟩:=h
 obtain ⟨u,rfl,rfl⟩:=vals1 r
 obtain ⟨z,hs,vs,rel,dd⟩:=iY I.hok e
 obtain ⟨ep,dat⟩:=dd.dictAt
 have hl:=rel.length
 refine W.kdl_call (W.kdl_dict (knd:=ck X.prog X.w) (kvs:=vs) (ep:=ep) hs) (I.ok.hd hc) dat (by omega) fun h' tk acc c hk hS hacc=>?_
 have hp:=I.hok.fresh (Nat.le_refl s.heap.objs.size)
 refine ⟨.ref s.heap.objs.size,_,I.laid (a:=s.heap.objs.size) (o:=.lst (kvs.map fun kv=>kV kv.1)) (t':=tk) hk (Nat.le_refl _) ⟨by rw [List.length_map];exact z,acc.toList,c,?_,by simpa using hS⟩,rfl,q _ hp⟩
 have hsz:acc.size=vs.length:=hacc.1
 refine kU (by simp [hsz,hl]) fun i x y hx hy=>?_
 rw [List.getElem?_map] at hx
 obtain ⟨k,v,hv,hk⟩:=hacc.2 i y (by rw [<- Array.getElem?_toList];exact hy)
 cases hkv:kvs[i]? with
 | none=>rw [hkv] at hx;cases hx
 | some kv =>
  rw [hkv] at hx
  have hx':kV kv.1=x:=Option.some.inj hx
  have:=congrArg (fun l=>l[i]?) rel.keys
  simp only [List.getElem?_map,hkv,hv] at this
  have hkk:kv.1=k:=by simpa using this
  rw [<- hx',hkk]
  exact CD hk
end
section
variable {prog:Program}{w:World}{K:Type} [DecidableEq K] {knd:KeyKind prog w K}{A:Around}{E:Value->Shared->Prop}{s:Shared}
theorem qF {d:Addr}{Q:Unit->Shared->Prop} (hd:(d == sysModules)=false) (q:Q () s):wpAny (model prog w) A (Builtin.Dict.showsAll d) Q E s:=by
 unfold Builtin.Dict.showsAll
 rw [if_neg (by rw [hd];exact Bool.false_ne_true)]
 exact wpAny_pure q
theorem uy {k:K}{v:Value}{es:List DictEntry}{lvs:List (K × Value)} (h:Pairs knd es lvs):valueAt lvs k=some v->∃j e,(es.findIdx? fun e=>knd.is k e.key)=some j/\es[j]?=some e/\e.val=v:=by
 induction h with
 | nil=>intro z;cases z
 | @cons e kv es lvs h1 h2 t ih =>
  intro z
  by_cases hk:kv.1=k
  ·subst hk
   have:valueAt (kv :: lvs) kv.1=some kv.2:=by simp [valueAt,List.find?_cons]
   rw [this] at z
   exact ⟨0,e,by rw [List.findIdx?_cons,if_pos h1],rfl,by rw [h2];exact Option.some.inj z⟩
  ·have:valueAt (kv :: lvs) k=valueAt lvs k:=by simp [valueAt,List.find?_cons,hk]
   rw [this] at z
   obtain ⟨j,f,hj,hf,hv⟩:=ih z
   have hn:¬ knd.is k e.key=true:=fun q=>hk (knd.inj _ _ _ h1 q)
   exact ⟨j + 1,f,by rw [List.findIdx?_cons,if_neg hn,hj];rfl,hf,hv⟩
theorem o5 {id:String}{a b:Addr}{kvs lvs:List (K × Value)}{Q:Bool->Shared->Prop} (hda:(a == sysModules)=false) (hdb:(b == sysModules)=false) (ha:s.heap.DictOf knd a kvs) (hb:s.heap.DictOf knd b lvs) (hl:kvs.length=lvs.length)
  (hv:∀(i:Nat) k v,kvs[i]?=some (k,v)->∃v',valueAt lvs k=some v'/\SeqAt.EqAt A s v v' true) (q:Q true s):wpAny (model prog w) A (Builtin.Dict.samePairs id a b) Q E s:=by
 obtain ⟨o,es,ep,ho,hx,hd,hk,hp,hn⟩:=ha
 obtain ⟨o2,es2,ep2,ho2,hx2,hd2,hk2,hp2,hn2⟩:=hb
 have hz:es.size=kvs.length:=by rw [<- hp.length];simp
 have hz2:es2.size=lvs.length:=by rw [<- hp2.length];simp
 unfold Builtin.Dict.samePairs
 refine wpAny_bind (qF hda ?_)
 refine wpAny_bind (qF hdb ?_)
 refine wpAny_bind (wpAny_dictEntries ho hd ?_)
 refine wpAny_bind (wpAny_dictEntries ho2 hd2 ?_)
 rw [if_neg (by simp;omega)]
 refine wpAny_bind (wpAny_dictEpoch ho hd ?_)
 refine wpAny_bind ?_
 rw [Std.Legacy.Range.forIn_eq_forIn_range']
 simp only [Std.Legacy.Range.size,Nat.sub_zero,Nat.add_sub_cancel,Nat.div_one]
 refine wpAny_forIn_list _ (fun rest b s'=>b=(none,())/\s'=s/\∀i ∈ rest,i < es.size) _ ?_ ?_ _ _ ⟨rfl,rfl,fun i hi=>?_⟩
 ·rintro i rest c s' ⟨rfl,rfl,hr⟩
  have hi:i < es.size:=hr i (by simp)
  refine wpAny_bind (wpAny_dictEntries ho hd ?_)
  rw [Array.getElem?_eq_getElem hi]
  obtain ⟨⟨k,v⟩,hkv⟩:∃kv,kvs[i]?=some kv:=⟨kvs[i]'(by omega),List.getElem?_eq_getElem (by omega)⟩
  obtain ⟨hkey,hval⟩:=hp.get? (e:=es[i]) (by simp [hi]) hkv
  obtain ⟨k',hk',hh⟩:=hk es[i] (Array.getElem_mem hi)
  obtain ⟨v',hv',he⟩:=hv i k v hkv
  have hkk:k'=k:=knd.inj _ _ _ hk' hkey
  subst hkk
  show wpAny _ _ (holding [es[i].key,es[i].val] _ >>= _) _ _ _
  refine wpAny_bind (wpAny_holding ?_)
  rw [hh,hval]
  refine wpAny_bind (wpAny_dictFind_of hkey ho2 hd2 hk2 ?_)
  obtain ⟨j,f,hj,hf,hfv⟩:=uy hp2 hv'
  rw [<- List.findIdx?_toArray,Array.toArray_toList] at hj
  rw [Array.getElem?_toList] at hf
  rw [hj]
  refine wpAny_bind (wpAny_dictEntries ho2 hd2 ?_)
  rw [hf]
  show wpAny _ _ (holding [f.val] (eqBool v f.val)) _ _ _
  rw [hfv]
  refine wpAny_holding (he _ _ _ _ ?_)
  rw [if_neg (by decide)]
  refine wpAny_bind (wpAny_dictEpoch ho hd ?_)
  rw [if_neg (by simp)]
  exact wpAny_pure ⟨rfl,rfl,fun z hz=>hr z (List.mem_cons_of_mem _ hz)⟩
 ·rintro c s' ⟨rfl,rfl,_⟩
  exact wpAny_pure q
 ·have:=(List.mem_range'_1.mp hi).2
  omega
end
theorem qJ {κ:Type} [DecidableEq κ]:∀{kvs:List (κ × V)}{i:Nat}{k:κ}{v:V},(kvs.map (·.1)).Nodup->kvs[i]?=some (k,v)->fh kvs k=some v
 | [],i,k,v,_,h=>by simp at h
 | p :: r,0,k,v,_,h=>by
  simp only [List.getElem?_cons_zero,Option.some.injEq] at h
  subst h
  exact lR (p:=(k,v)) rfl
 | p :: r,i + 1,k,v,hn,h=>by
  rw [List.map_cons] at hn
  have hr:=List.nodup_cons.mp hn
  have hi:r[i]?=some (k,v):=by simpa using h
  have hne:¬ p.1=k:=fun z=>hr.1 (by rw [z];exact List.mem_map_of_mem (f:=(·.1)) (List.mem_of_getElem? hi))
  rw [lM hne]
  exact qJ hr.2 hi
section
variable {X:Cx}
def sF (K:W.Frag) (H:Hp) (v v':V):Prop:=(v=v'/\qj v=true) \/ ∃p q xs,v=.ref p/\v'=.ref q/\SqL K H p xs/\SqL K H q xs/\xs.all qj=true
theorem uT {pins:List (Addr × Obj)}{σ:St}{H:Hp}{s:Shared}{A:Around}{v v':V}{u u':Value} (I:Inv X pins σ H s) (hu:A.units < cLine) (h:sF X.K H v v') (r:RelV v u) (r':RelV v' u'):SeqAt.EqAt A s u u' true:=by
 rcases h with ⟨rfl,hf⟩ | ⟨p,q,xs,rfl,rfl,hp,hq,hf⟩
 ·exact mG hf r r' A s
 ·cases r
  cases r'
  by_cases hpq:p=q
  ·subst hpq;exact .same _
  ·obtain ⟨its,r1,⟨o,n,e1,c1,_,d1⟩,_⟩:=I.list hp
   obtain ⟨jts,r2,⟨o2,n2,e2,c2,_,d2⟩,_⟩:=I.list hq
   have l1:=r1.length
   have l2:=r2.length
   have hR:=SeqAt.RcAt.lists (A:=A) (s:=s) (e:=fun _=>true) (l:=p) (b:=q) (items:=its.toArray) (items2:=jts.toArray) ⟨o,e1,c1,n,d1⟩ ⟨o2,e2,c2,n2,d2⟩ (by simp;omega) hu (fun j h1 h2=>by
    simp at h1 h2
    obtain ⟨x,hx⟩:∃x,xs[j]?=some x:=⟨xs[j]'(by omega),List.getElem?_eq_getElem (by omega)⟩
    obtain ⟨u1,g1,w1⟩:=r1.get hx
    obtain ⟨u2,g2,w2⟩:=r2.get hx
    have z1:its.toArray[j]'(by simpa using h1)=u1:=by
     have:=List.getElem?_eq_getElem h1
     rw [g1] at this
     simpa using (Option.some.inj this).symm
    have z2:jts.toArray[j]'(by simpa using h2)=u2:=by
     have:=List.getElem?_eq_getElem h2
     rw [g2] at this
     simpa using (Option.some.inj this).symm
    rw [z1,z2]
    exact mG (List.all_eq_true.mp hf x (List.mem_of_getElem? hx)) w1 w2 _ _)
   have:((List.range its.toArray.size).all fun _=>true)=true:=by simp
   rw [this] at hR
   exact .of_refs hpq hR
theorem Cg (hu:X.A.units + 64 < cLine):OpR X (compareOp .Eq) (fun x y H Q=>∃a b kvs lvs,x=.ref a/\y=.ref b/\Rd H a (.dK kvs)/\Rd H b (.dK lvs)/\kvs.length=lvs.length /\
  (∀k v,fh kvs k=some v->∃v',fh lvs k=some v'/\sF X.K H v v')/\Q (.bl true) H):=by
 intro pins s σ H x y v u Q I rx ry h
 obtain ⟨a,b,kvs,lvs,rfl,rfl,ha,hb,hl,hv,q⟩:=h
 cases rx
 cases ry
 obtain ⟨z,hs,vs,rel,dd⟩:=iY I.hok ha
 obtain ⟨z2,hs2,vs2,rel2,dd2⟩:=iY I.hok hb
 have e1:=rel.length
 have e2:=rel2.length
 refine wpAny_richCompare_same_room (op:=.Eq) dd.typeIs dd2.typeIs PySem.F.slot_dict_eq (wpAny_call_entry PySem.F.slot_dict_eq dd.typeIs PySem.F.entry_dict_eq ?_ (PySem.F.args_dict_eq_2 _ _)) (by omega)
 show wpAny _ _ (Builtin.Dict.dictSlotArgs "__eq__" ⟨[.ref a,.ref b],[]⟩ >>= _) _ _ _
 refine wpAny_bind ?_
 unfold Builtin.Dict.dictSlotArgs
 refine wpAny_bind (wpAny_notOrdered_dict dd.typeIs ?_)
 show wpAny _ _ (pure (Value.ref a,Value.ref b)) _ _ _
 refine wpAny_pure ?_
 refine wpAny_bind (wpAny_isInstance (T:="dict") (b:=true) dd2.typeIs (by rw [isSubtype_type];kernel_rfl) ?_)
 show wpAny _ _ (Builtin.Dict.samePairs "dict.__eq__" a b >>= _) _ _ _
 refine wpAny_bind (o5 hs hs2 dd dd2 (by omega) (fun i k v hi=>?_) ?_)
 ·obtain ⟨⟨k',v'⟩,hkv⟩:∃kv,kvs[i]?=some kv:=⟨kvs[i]'(by have:=(List.getElem?_eq_some_iff.mp hi).1;omega),List.getElem?_eq_getElem _⟩
  have hr:k'=k/\RelV v' v:=gj rel hkv hi
  obtain ⟨rfl,hrv⟩:=hr
  obtain ⟨w',hw,hq⟩:=hv k' v' (qJ (by rw [rel.keys];exact (dd.dictAt.choose_spec).nodup) hkv)
  have hval:=rel2.val k'
  rw [hw] at hval
  cases hvv:valueAt vs2 k' with
  | none=>rw [hvv] at hval;exact (show False from hval).elim
  | some u' =>
   rw [hvv] at hval
   exact ⟨u',rfl,uT I (show X.A.units + 1 < cLine by omega) hq hrv hval⟩
 ·show wpAny _ _ (ret (.bool true)) _ _ _
  exact wpAny_pure ⟨.bool true,rfl,(fun z=>nomatch z),.bl true,H,I,rfl,q⟩
end
end L2
namespace L2
open PySem PySem.Spec PyProof.Rows
section
variable {X:Cx}
structure nM (z y:Str) (ws:List Str):Prop where
 h1:(decide (z.length < y.length) || decide (Builtin.Str.strKind z < Builtin.Str.strKind y))=false
 hy:(y.length == 0)=false
 hf:(Builtin.Str.occurrences z y 0 z.length (z.length + 1)).isEmpty=false
 hx:z.length <= sizeLine
 hn:ws.length <= sizeLine
 e:Builtin.Str.partsBetween z (Builtin.Str.occurrences z y 0 z.length (z.length + 1)) y.length=ws
theorem qB:∀(tk:Nat) (ws:List Str),Vals (ws.map V.str) (strsFrom tk ws)
 | _,[]=>.nil
 | tk,x :: r=>.cons ⟨_,rfl⟩ (qB (tk + 1) r)
theorem yV:MtR X "str.split" (fun x xs H Q=>∃(z y:Str) (ws:List Str),x=.str z/\xs=[.str y]/\nM z y ws/\∀l,H l=none->Q (.ref l) (upd H l (.lst (ws.map V.str)))):=by
 intro pins s σ H x xs v us Q I rx rs h
 obtain ⟨z,y,ws,rfl,rfl,ok,q⟩:=h
 obtain ⟨t,rfl⟩:=rx
 obtain ⟨u,rfl,ru⟩:=rs.one
 obtain ⟨t2,rfl⟩:=ru
 obtain ⟨h1,hy,hf,hx,hn,e⟩:=ok
 subst e
 refine call_meets F.slot_str_split (typeIs_str _ _ _) F.entry_str_split (F.args_str_split_2 _ _) (meets_str_split_sep z y t t2 h1 hy hf hx hn) ?_
 exact ⟨.ref _,_,I.Bq (qB _ _) (by rw [List.length_map];exact hn),rfl,q _ I.fresh⟩
theorem m_split {o e:Expr}{to:TE}{t:TA}{apos cpos:Pos} (ho:PE X o to) (ha:PA X [e] t) (hbase:attributeBase o "split" X.env (eval o X.env)=eval o X.env:=by rfl)
  (hfew:((backTo cpos (starEach [e] X.env)).all (fun x=>!x.1) && (backToKw cpos (keywordEach [] X.env)).all (fun x=>x.1.isSome)
   && decide ([e].length + ([]:List Keyword).length + (if ([]:List Keyword).isEmpty then 0 else 1) < 30))=true:=by rfl)
  (hline:(apos.endLine == cpos.line)=true:=by rfl) (hs:starEach [e] X.env=(false,eval e X.env) :: starEach [] X.env:=by rfl) (hplain:(backTo cpos (starEach [] X.env)).any (·.1)=false:=by rfl) :
  PE X (.Call (.Attribute o "split" apos) [e] [] cpos) (tBM X.K "str" (fun x xs H Q=>∃(z y:Str) (ws:List Str),x=.str z/\xs=[.str y]/\nM z y ws/\∀l,H l=none->Q (.ref l) (upd H l (.lst (ws.map V.str)))) to t) :=
 xV PySem.F.plainAttrs_str PySem.F.slot_str_split PySem.F.type_str_split yV ho ha hbase hfew hline hs hplain
def lZ (z:Str) (n:Int):Str:=if n < 1 then Str.empty else if (n == 1 || z.length == 0)=true then z else ⟨(List.replicate n.toNat z.cps).foldl (· ++ ·) #[]⟩
def CI:R2:=fun x y H Q=>match x,y with
 | .int i,.int j=>v8 i j/\Q (.int (i * j)) H
 | .str z,.int n=>n < 1000/\-1000 < n/\z.length <= 1000/\Q (.str (lZ z n)) H
 | .ref p,.int k=>∃xs,H p=some (.lst xs)/\-(2 ^ 63) <= k/\k < 2 ^ 63/\xs.length * k.toNat <= sizeLine/\∀l,H l=none->Q (.ref l) (upd H l (.lst (List.replicate k.toNat xs).flatten))
 | _,_=>False
theorem wZ (xs:List (Array Nat)):∀acc:Array Nat,(xs.foldl (· ++ ·) acc).size=acc.size + (xs.map (·.size)).sum:=by
 induction xs with
 | nil=>intro acc;simp
 | cons x r ih=>intro acc;rw [List.foldl_cons,ih,Array.size_append,List.map_cons,List.sum_cons];omega
theorem rX (z:Str) (n:Nat):(⟨(List.replicate n z.cps).foldl (· ++ ·) #[]⟩:Str).length=n * z.length:=by
 show ((List.replicate n z.cps).foldl (· ++ ·) #[]).size=_
 rw [wZ,List.map_replicate]
 have:∀m k:Nat,(List.replicate m k).sum=m * k:=fun m k=>by
  induction m with
  | zero=>simp
  | succ m ih=>rw [List.replicate_succ,List.sum_cons,ih,Nat.succ_mul];omega
 rw [this]
 simp [Str.length]
theorem fe:OpR X (binaryOp .Mult) CI:=by
 intro pins s σ H x y v u Q I rx ry h
 cases x with
 | int i =>
  cases y with
  | int j=>exact Ce pins s σ H _ _ v u Q I rx ry h
  | _=>exact (show False from h).elim
 | str z =>
  cases y with
  | int n =>
   obtain ⟨h1,h2,h3,q⟩:=h
   obtain ⟨t,rfl⟩:=rx
   obtain ⟨t2,rfl⟩:=ry
   have hb:¬ n < 1->n.toNat * z.length <= 1000000:=fun hn=>by
    have e1:n.toNat <= 1000:=by omega
    exact Nat.le_trans (Nat.mul_le_mul e1 h3) (by decide)
   refine P.mul_str (by rw [decide_eq_false (by omega),decide_eq_false (by omega)];rfl) (fun hn _=>?_) (fun hn _=>?_) ?_
   ·intro z1
    have h0:(0:Int) < n:=by omega
    have:=Int.lt_mul_of_ediv_lt h0 z1
    have e2:((z.length:Int)) * n <= 1000 * 1000:=Int.mul_le_mul (by omega) (by omega) (by omega) (by decide)
    omega
   ·unfold Builtin.Str.tooLong
    have:=hb hn
    rw [Nat.mul_comm] at this
    refine decide_eq_false ?_
    rw [sizeLine_eq]
    omega
   ·unfold lZ at q
    by_cases c1:n < 1
    ·rw [if_pos c1] at q ⊢
     exact ⟨by decide,.str _,H,I.tok _,⟨_,rfl⟩,q⟩
    ·rw [if_neg c1] at q ⊢
     by_cases c2:(n == 1 || z.length == 0)=true
     ·rw [if_pos c2] at q ⊢
      exact ⟨.str _,H,I,⟨_,rfl⟩,q⟩
     ·rw [if_neg c2] at q ⊢
      refine ⟨?_,.str _,H,I.tok _,⟨_,rfl⟩,q⟩
      rw [rX]
      have:=hb c1
      rw [sizeLine_eq]
      omega
  | _=>exact (show False from h).elim
 | ref p =>
  cases y with
  | int k =>
   obtain ⟨xs,h1,h2,h3,h4,q⟩:=h
   exact BB pins s σ H _ _ v u Q I rx ry ⟨p,k,xs,rfl,rfl,h1,h2,h3,h4,q⟩
  | _=>exact (show False from h).elim
 | _=>cases y <;> exact (show False from h).elim
end
end L2
namespace L2
open PySem PySem.Spec PyProof.Rows
section
variable {X:Cx}
def A8 (K:W.Frag) (H:Hp) (a b:Addr):Prop:=∃kvs lvs,Rd H a (.dK kvs)/\Rd H b (.dK lvs)/\kvs.length=lvs.length/\∀k v,fh kvs k=some v->∃v',fh lvs k=some v'/\sF K H v v'
def D6 (K:W.Frag):R2:=fun x y H Q=>match x,y with
 | .ref p,.ref q=>((∃d e,jG K H (.ref p) d/\jG K H (.ref q) e/\SeqAt.shaped d=true/\SeqAt.shaped e=true/\Q (.bl (PyData.eqv d e)) H) \/ (∃xs,SqL K H p xs/\SqL K H q xs/\xs.all qj=true/\Q (.bl true) H)) \/ (A8 K H p q/\Q (.bl true) H)
 | x,y=>vI x y=true/\Q (.bl (decide (x=y))) H
theorem aT (hu:X.A.units + 64 < cLine):OpR X (compareOp .Eq) (D6 X.K):=((CA hu).or (Cg hu)).imp fun x y H Q q=>by
 by_cases hr:∃p q,x=V.ref p/\y=V.ref q
 ·obtain ⟨p,q',rfl,rfl⟩:=hr
  rcases q with q | ⟨⟨kvs,lvs,h1,h2,h3,h4⟩,h5⟩
  ·exact .inl q
  ·exact .inr ⟨p,q',kvs,lvs,rfl,rfl,h1,h2,h3,h4,h5⟩
 ·refine .inl ?_
  cases x <;> cases y <;> first | exact q | exact absurd ⟨_,_,rfl,rfl⟩ hr
theorem dF:eJ X (.builtin "len") (fun xs H Q=>(∃x n,xs=[x]/\Bc X.K x H n/\Q (.int n) H) \/ ∃a kvs,xs=[.ref a]/\Rd H a (.dK kvs)/\Q (.int (kvs.length:Nat)) H):=Cw.or Bh
theorem vq (hc:X.calm=true:=by rfl):eJ X (.type "list") (fun xs H Q=>(∃p ys,xs=[.ref p]/\(SqL X.K H p ys \/ SqT X.K H p ys)/\∀l,H l=none->Q (.ref l) (upd H l (.lst ys))) \/ ∃d kvs,xs=[.ref d]/\Rd H d (.dK kvs)/\∀l,H l=none->Q (.ref l) (upd H l (.lst (kvs.map fun kv=>kV kv.1)))):=iE.or (zd hc)
end
end L2
namespace L2
open PySem PySem.Spec PyProof.Rows
section
variable {X:Cx}{pins:List (Addr × Obj)}{σ:St}{H:Hp}{s:Shared}
def Itz (K:W.Frag) (a b:Addr):It :=
  ⟨fun i H=>∃xs ys x y,SqL K H a xs/\SqL K H b ys/\xs[i]?=some x/\ys[i]?=some y,
   fun i H v H'=>∃T x y,v=.ref T/\H T=none/\H'=upd H T (.tup [x,y])/\∀xs ys,SqL K H a xs->SqL K H b ys->xs[i]?=some x/\ys[i]?=some y,
   fun i H=>∃xs ys,SqL K H a xs/\SqL K H b ys/\(xs.length <= i \/ ys.length <= i)⟩
def Cq (z TI TO i1 i2 a b:Addr) (i:Nat) (h:Heap):Prop:=IsZip h z TI TO .none/\IsPair h TI (.ref i1) (.ref i2)/\(∃u v,IsPair h TO u v)/\h.IsListIter i1 a i/\h.IsListIter i2 b i
theorem xc {P:Program}{w:World}{K:W.Frag}{elts:List Expr}{x1}{pos:Pos}{a b z TI TO i1 i2:Addr} (D:ZipApart z TI TO i1 i2 a b) :
  Turn P w K (.Tuple elts x1 pos) (Itz K a b) [z,TI,TO,i1,i2] z (Cq z TI TO i1 i2 a b) where
 mem:=by simp
 obj:=fun i h st c hc=>by
  obtain ⟨hz,hI,⟨u,v,hO⟩,⟨o1,e1,_,d1⟩,⟨o2,e2,_,d2⟩⟩:=st
  simp only [List.mem_cons,List.not_mem_nil,or_false] at hc
  rcases hc with rfl | rfl | rfl | rfl | rfl
  ·exact ⟨_,hz,fun v q=>by cases (show Data.fields _=Data.cell v from q)⟩
  ·exact ⟨_,hI,fun v q=>by cases (show Data.seq _ _=Data.cell v from q)⟩
  ·exact ⟨_,hO,fun v q=>by cases (show Data.seq _ _=Data.cell v from q)⟩
  ·exact ⟨o1,e1,fun v q=>by rw [d1] at q;cases q⟩
  ·exact ⟨o2,e2,fun v q=>by rw [d2] at q;cases q⟩
 keep:=fun i h h' st k=>by
  obtain ⟨hz,hI,⟨u,v,hO⟩,h1,h2⟩:=st
  exact ⟨k z (by simp) _ hz,k TI (by simp) _ hI,⟨u,v,k TO (by simp) _ hO⟩,h1.at fun o e=>k i1 (by simp) o e,h2.at fun o e=>k i2 (by simp) o e⟩
 item:=by
  intro X hP hw hK hc i pins s σ H E I hf st hg
  subst hP hw hK
  obtain ⟨xs,ys,x,y,hq,hq',hx,hy⟩:=hg
  obtain ⟨its,rv,p,hz'⟩:=I.list hq
  obtain ⟨its',rv',p',hz''⟩:=I.list hq'
  obtain ⟨u,hu,ru⟩:=rv.get hx
  obtain ⟨v,hv,rv2⟩:=rv'.get hy
  obtain ⟨hz,hI,⟨u0,v0,hO⟩,h1,h2⟩:=st
  have hT:=I.tO (H':=H) (Nat.le_refl s.heap.objs.size) (I.hok.fresh (Nat.le_refl _))
  have lt:∀{c:Addr}{o:Obj},s.heap.get? c=some o->s.heap.objs.size ≠ c:=fun e=>Nat.ne_of_gt (Heap.lt_size e)
  refine wpAny_pyNext_zip_item D hz hI hO h1 h2 p.isList p'.isList (x:=u) (y:=v) (by simpa using hu) (by simpa using hv) fun h' a1 a2 a3 a4 a5 a6 a7=>?_
  have I1:Inv X pins σ H { s with heap:=h',toks:=s.toks }:=I.u7 (ch:=[z,TI,TO,i1,i2]) hf fun c o hc q=>a7 c o (fun e=>hc (by simp [e])) (fun e=>hc (by simp [e])) (fun e=>hc (by simp [e])) (fun e=>hc (by simp [e])) q
  have I2:=I1.Dl (u:=.tup [x,y]) hT I.sz ⟨by show 2 <= sizeLine;decide,[u,v],.cons ru (.cons rv2 .nil),⟨_,a5,rfl,_,rfl⟩⟩
  refine ⟨_,rfl,wpAny_letOwnedTupleGo_zip (s:={ s with heap:=h' }) a1 fun h2' hz2 hs2=>?_⟩
  have f0:=hf z (by simp)
  have hI':h'.get? TI=_:=a7 TI _ D.TIz D.TITO D.TIi1 D.TIi2 hI
  have zT:z ≠ s.heap.objs.size:=Ne.symm (lt hz)
  refine ⟨.ref s.heap.objs.size,_,I2.turned (t':=s.toks) (it:=z) (fun c o hc q=>(hs2.2 c hc).trans q) (by rw [aI zT];exact f0.1) f0.2.1 f0.2.2.2.1 f0.2.2.2.2.1 f0.2.2.2.2.2,rfl,
   ⟨_,x,y,rfl,hT.1,rfl,fun xs' ys' q q'=>by rw [I.o8 q hq,I.o8 q' hq'];exact ⟨hx,hy⟩⟩,⟨hz2,(hs2.2 TI D.TIz).trans hI',⟨u,v,(hs2.2 TO D.TOz).trans a2⟩,a3.at fun o q=>(hs2.2 i1 D.i1z).trans q,a4.at fun o q=>(hs2.2 i2 D.i2z).trans q⟩,fun c hc=>?_⟩
  have cT:c ≠ s.heap.objs.size:=by
   simp only [List.mem_cons,List.not_mem_nil,or_false] at hc
   rcases hc with rfl | rfl | rfl | rfl | rfl
   ·exact zT
   ·exact Ne.symm (lt hI)
   ·exact Ne.symm (lt hO)
   ·obtain ⟨o,e,_⟩:=h1;exact Ne.symm (lt e)
   ·obtain ⟨o,e,_⟩:=h2;exact Ne.symm (lt e)
  rw [aI cT]
  exact (hf c hc).1
 done:=by
  intro X hP hw hK hc i pins s σ H E I hf st hg
  subst hP hw hK
  obtain ⟨xs,ys,hq,hq',hx⟩:=hg
  obtain ⟨its,rv,p,hz'⟩:=I.list hq
  obtain ⟨its',rv',p',hz''⟩:=I.list hq'
  obtain ⟨hz,hI,⟨u0,v0,hO⟩,h1,h2⟩:=st
  have hl:=rv.length
  have hl':=rv'.length
  refine wpAny_pyNext_zip_end (I.ok.hd hc) D hz hI hO h1 h2 p.isList p'.isList (by simp;omega) fun h' eb=>⟨rfl,?_⟩
  exact I.u7 (ch:=[z,TI,TO,i1,i2]) hf fun c o hc q=>eb c o (fun e=>hc (by simp [e])) (fun e=>hc (by simp [e])) (fun e=>hc (by simp [e])) (fun e=>hc (by simp [e])) q
 self:=fun _ _ _ _ _ st h=>wpAny_pyIter_zip st.1 h
def Ee (K:W.Frag) (ta:TA):TI:=fun σ H R=>ta σ H fun vs H1=>∃a b,vs=[.ref a,.ref b]/\(∃xs,SqL K H1 a xs)/\(∃ys,SqL K H1 b ys)/\R (Itz K a b) H1
theorem wz:bootBuiltins "zip"=some (.type "zip"):=by decide +kernel
theorem A3 {a b:Expr}{ta:TA}{p pos:Pos}{elts:List Expr}{x1}{pos2:Pos} (hg:Gl X "zip") (hm:X.mg "zip"=none) (ha:PA X [a,b] ta) (he:starEach [a,b] X.env=(false,eval a X.env) :: starEach [b] X.env:=by rfl)
  (hpl:(backTo pos (starEach [b] X.env)).any (·.1)=false:=by rfl):PI X (.Tuple elts x1 pos2) (.Call (.Name "zip" p) [a,b] [] pos) (Ee X.K ta):=by
 intro pins s σ H R I h
 refine Call_ (mB I hg hm wz (PyProof.Rows.callWith_type1 (thn (ha pos pins s σ H _ I h) fun us s1 ⟨vs,H1,I1,r1,q1⟩=>?_) he hpl))
 obtain ⟨a,b,e,⟨xs,hq⟩,⟨ys,hq'⟩,q⟩:=q1
 subst e
 obtain ⟨u,v,rfl,ru,rv⟩:=vals2 r1
 cases ru
 cases rv
 obtain ⟨its,rv1,p1,hz1⟩:=I1.list hq
 obtain ⟨its',rv2,p2,hz2⟩:=I1.list hq'
 have lt:∀{c:Addr}{zs:Array Value},s1.heap.IsList c zs->c < s1.heap.objs.size:=fun h=>by obtain ⟨o,e,_⟩:=h;exact Heap.lt_size e
 refine call_zip_2 p1.isList p2.isList fun h' hz hI hO h1 h2 hsz hk=>?_
 refine wpAny_pyIter_zip hz ?_
 refine ⟨s1.heap.objs.size + 4,[s1.heap.objs.size + 4,s1.heap.objs.size + 2,s1.heap.objs.size + 3,s1.heap.objs.size,s1.heap.objs.size + 1],_,_,H1,rfl,I1.kept (t':=s1.toks) hk,xc (zipApart_new (lt p1.isList) (lt p2.isList)),⟨hz,hI,⟨_,_,hO⟩,h1,h2⟩,fun c hc=>?_,q⟩
 have le:s1.heap.objs.size <= c:=by
  simp only [List.mem_cons,List.not_mem_nil,or_false] at hc
  rcases hc with h | h | h | h | h
  ·rw [h];exact Nat.le_add_right _ _
  ·rw [h];exact Nat.le_add_right _ _
  ·rw [h];exact Nat.le_add_right _ _
  ·rw [h];exact Nat.le_refl _
  ·rw [h];exact Nat.le_add_right _ _
 exact I1.tO le (I1.hok.fresh le)
end
theorem zD {K:PySem.W.Frag}{a b:Addr}{xs ys:List V}{g:TG}{tb:TS}{D:Ends}{σ:St}{H:Hp} (Pv:Nat->St->Hp->Prop) (h0:Pv 0 σ H) (hl:∀i σ H,i <= xs.length->Pv i σ H->SqL K H a xs/\SqL K H b ys) (hle:xs.length=ys.length)
  (hs:∀i x y σ H T,xs[i]?=some x->ys[i]?=some y->Pv i σ H->H T=none->g (.ref T) σ (upd H T (.tup [x,y])) fun σ2 H2=>tb { D with nx:=Pv (i + 1),ct:=Pv (i + 1),bk:=D.nx } σ2 H2) (hd:∀σ H,Pv xs.length σ H->D.nx σ H) :
  ∃W:Nat->Nat->St->Hp->Prop,(∃m,W 0 m σ H)/\∀i m σ H,W i m σ H ->
   ((Itz K a b).stop i H/\D.nx σ H) \/ ((Itz K a b).go i H/\∃N:St->Hp->Prop,(∀σ' H',N σ' H'->∃m',m' < m/\W (i + 1) m' σ' H')/\∀x H',(Itz K a b).yld i H x H'->g x σ H' fun σ2 H2=>tb { D with nx:=N,ct:=N,bk:=D.nx } σ2 H2):=by
 refine ⟨fun i m σ H=>m=xs.length - i/\i <= xs.length/\Pv i σ H,⟨xs.length,by simp,Nat.zero_le _,h0⟩,?_⟩
 rintro i m σ H ⟨rfl,hi,p⟩
 obtain ⟨q,q'⟩:=hl i σ H hi p
 by_cases hlt:i < xs.length
 ·have hlt':i < ys.length:=by omega
  refine .inr ⟨⟨xs,ys,xs[i],ys[i],q,q',by simp [hlt],by simp [hlt']⟩,Pv (i + 1),fun σ' H' p'=>⟨xs.length - (i + 1),by omega,rfl,hlt,p'⟩,fun v H' y=>?_⟩
  obtain ⟨T,x,y,rfl,hT,rfl,h⟩:=y
  obtain ⟨e1,e2⟩:=h xs ys q q'
  exact hs i x y σ _ T e1 e2 p hT
 ·have e:i=xs.length:=by omega
  subst e
  exact .inl ⟨⟨xs,ys,q,q',Or.inl (Nat.le_refl _)⟩,hd σ H p⟩
end L2
set_option maxHeartbeats 4000000
namespace L2
open PySem PySem.Spec PyProof.Rows
theorem tR {K:W.Frag}{a:Addr}{xs:List V}{fr:List Nat}{tf:CB->TT}{te:CB->TE}{Q:VK}{σ:St}{H1:Hp} (p:V->Bool) (R:V->V->Hp->Prop) (hx:SqL K H1 a xs) (hn:xs.length < sizeLine)
  (hf:∀b x H (G:Bool->Hp->Prop),x ∈ xs->aj H1 H->(∀H',aj H H'->G (p x) H')->tf b (some x :: cFr fr σ) H G)
  (he:∀b x H (G:VK),x ∈ xs->p x=true->aj H1 H->(∀y H',aj H H'->R x y H'->G y H')->te b (some x :: cFr fr σ) H G)
  (mono:∀x y H H',aj H H'->R x y H->R x y H') (st:∀x y H D ys zs,H D=some (.lst ys)->R x y H->R x y (upd H D (.lst zs)))
  (fin:∀D H ys,H1 D=none->aj H1 H->H D=some (.lst ys)->Paired (fun x y=>R x y H) (xs.filter p) ys->Q (.ref D) H):mJ (Itl K a) 1 fr (fun _=>jY 0) tf te Q σ H1:=by
 have len:∀{i:Nat}{ys:List V}{H:Hp},Paired (fun x y=>R x y H) ((xs.take i).filter p) ys->ys.length <= i:=fun {i} _ _ h=>by
  have h1:=Paired.length h
  have h2:=List.length_filter_le p (xs.take i)
  rw [List.length_take] at h2
  omega
 refine ⟨fun b D hD=>?_⟩
 refine ⟨fun i m σ' H'=>m=xs.length - i/\i <= xs.length/\(∃v0,σ'=v0 :: cFr fr σ)/\aj H1 H'/\∃ys,H' D=some (.lst ys)/\Paired (fun x y=>R x y H') ((xs.take i).filter p) ys,⟨xs.length,rfl,Nat.zero_le _,⟨none,rfl⟩,aj.upd hD _,[],aq,.nil⟩,?_⟩
 rintro i m σ' H' ⟨rfl,hi,⟨v0,rfl⟩,sm,ys,hl,hR⟩
 have hy:=len hR
 by_cases hlt:i < xs.length
 ·refine .inr ⟨⟨xs,xs[i],sm.seq hx,List.getElem?_eq_getElem hlt⟩,fun σ2 H2=>(∃v0,σ2=v0 :: cFr fr σ)/\aj H1 H2/\∃ys,H2 D=some (.lst ys)/\Paired (fun x y=>R x y H2) ((xs.take (i + 1)).filter p) ys,fun σ2 H2 q=>⟨xs.length - (i + 1),by omega,rfl,hlt,q⟩,fun v H2 y=>?_⟩
  obtain ⟨rfl,yv⟩:=y
  have ev:=yv xs (sm.seq hx)
  have mem:v ∈ xs:=List.mem_of_getElem? ev
  rw [List.take_add_one,ev,List.filter_append]
  show tf b (some v :: cFr fr σ) _ _
  refine hf b v _ _ mem sm fun H3 s3=>?_
  cases hp:p v with
  | false =>
   rw [if_neg Bool.false_ne_true]
   refine ⟨⟨_,rfl⟩,sm.trans s3,ys,s3 _ _ hl,?_⟩
   have e0:((some v).toList.filter p)=[]:=by simp [hp]
   rw [e0,List.append_nil]
   exact Paired.cm hR fun _ _ h=>mono _ _ _ _ s3 h
  | true =>
   rw [if_pos rfl]
   have e0:((some v).toList.filter p)=[v]:=by simp [hp]
   rw [e0]
   refine he b v _ _ mem hp (sm.trans s3) fun z H4 s4 rz=>⟨ys,s4 _ _ (s3 _ _ hl),by omega,⟨_,rfl⟩,?_,ys ++ [z],aq,?_⟩
   ·intro c o q
    by_cases hc:c=D
    ·rw [hc,hD] at q;cases q
    ·rw [aI hc];exact (sm.trans (s3.trans s4)) c o q
   ·have hD4:=s4 _ _ (s3 _ _ hl)
    exact PySem.Paired.snoc (Paired.cm hR fun _ _ h=>st _ _ _ _ _ _ hD4 (mono _ _ _ _ (s3.trans s4) h)) (st _ _ _ _ _ _ hD4 rz)
 ·have e:i=xs.length:=by omega
  subst e
  rw [List.take_length] at hR
  exact .inl ⟨⟨xs,sm.seq hx,Nat.le_refl _⟩,fin D H' ys hD sm hl hR⟩
end L2
namespace L2
open PySem PySem.Spec PyProof.Rows
section
variable {X:Cx}
end
end L2
namespace L2
open PySem PySem.Spec PyProof.Rows
section
variable {X:Cx}
theorem Ay {o:Expr}{to:TE}{apos cpos:Pos} (ho:PE X o to) (hbase:attributeBase o "pop" X.env (eval o X.env)=eval o X.env:=by rfl) (hline:(apos.endLine == cpos.line)=true:=by rfl) :
  PE X (.Call (.Attribute o "pop" apos) [] [] cpos) (Dr X.K "list" Df to) :=
 AM PySem.F.plainAttrs_list PySem.F.slot_list_pop PySem.F.type_list_pop AX ho hbase hline
theorem xX:eJ X (.builtin "divmod") (fun xs H Q=>∃i j,xs=[.int i,.int j]/\xK i j/\∀p,H p=none->Q (.ref p) (upd H p (.tup [.int (i / j),.int (i % j)]))):=by
 intro pins s σ H xs us Q I r h
 obtain ⟨i,j,rfl,hc,q⟩:=h
 have h1:(0:Int) < j:=hc.1
 obtain ⟨u,w',rfl,⟨t,rfl⟩,⟨t',rfl⟩⟩:=vals2 r
 refine divmod_int (by omega) ?_ (.inl (PyProof.noPylong_of_log2 (vH hc)))
 rw [Int.fdiv_eq_ediv_of_nonneg i (by omega),Int.fmod_eq_emod_of_nonneg i (by omega)]
 have hn:H s.heap.objs.size=none:=I.hok.fresh (Nat.le_refl _)
 refine ⟨.ref s.heap.objs.size,_,?_,rfl,q _ hn⟩
 refine I.laid (fun b o e=>Heap.get?_push_of_some _ e) (Nat.le_refl _) ⟨by simp only [List.length_cons,List.length_nil];rw [sizeLine_eq];decide,[.int (i / j) s.toks,.int (i % j) (s.toks + 1)],.cons ⟨_,rfl⟩ (.cons ⟨_,rfl⟩ .nil),?_⟩
 exact ⟨_,Heap.get?_push_size s.heap rfl,rfl,0,rfl⟩
theorem Cc (hu:X.A.units + 64 < cLine):OpR X (compareOp .NotEq) (fun x y H Q=>∃a b kvs lvs,x=.ref a/\y=.ref b/\Rd H a (.dK kvs)/\Rd H b (.dK lvs)/\kvs.length=lvs.length /\
  (∀k v,fh kvs k=some v->∃v',fh lvs k=some v'/\sF X.K H v v')/\Q (.bl false) H):=by
 intro pins s σ H x y v u Q I rx ry h
 obtain ⟨a,b,kvs,lvs,rfl,rfl,ha,hb,hl,hv,q⟩:=h
 cases rx
 cases ry
 obtain ⟨z,hs,vs,rel,dd⟩:=iY I.hok ha
 obtain ⟨z2,hs2,vs2,rel2,dd2⟩:=iY I.hok hb
 have e1:=rel.length
 have e2:=rel2.length
 refine wpAny_richCompare_same_room (op:=.NotEq) dd.typeIs dd2.typeIs PySem.F.slot_dict_ne (wpAny_call_entry PySem.F.slot_dict_ne dd.typeIs PySem.F.entry_dict_ne ?_ (PySem.F.args_dict_ne_2 _ _)) (by omega)
 show wpAny _ _ (Builtin.Dict.dictSlotArgs "__ne__" ⟨[.ref a,.ref b],[]⟩ >>= _) _ _ _
 refine wpAny_bind ?_
 unfold Builtin.Dict.dictSlotArgs
 refine wpAny_bind (wpAny_notOrdered_dict dd.typeIs ?_)
 show wpAny _ _ (pure (Value.ref a,Value.ref b)) _ _ _
 refine wpAny_pure ?_
 refine wpAny_bind (wpAny_isInstance (T:="dict") (b:=true) dd2.typeIs (by rw [isSubtype_type];kernel_rfl) ?_)
 show wpAny _ _ (Builtin.Dict.samePairs "dict.__ne__" a b >>= _) _ _ _
 refine wpAny_bind (o5 hs hs2 dd dd2 (by omega) (fun i k v hi=>?_) ?_)
 ·obtain ⟨⟨k',v'⟩,hkv⟩:∃kv,kvs[i]?=some kv:=⟨kvs[i]'(by have:=(List.getElem?_eq_some_iff.mp hi).1;omega),List.getElem?_eq_getElem _⟩
  have hr:k'=k/\RelV v' v:=gj rel hkv hi
  obtain ⟨rfl,hrv⟩:=hr
  obtain ⟨w',hw,hq⟩:=hv k' v' (qJ (by rw [rel.keys];exact (dd.dictAt.choose_spec).nodup) hkv)
  have hval:=rel2.val k'
  rw [hw] at hval
  cases hvv:valueAt vs2 k' with
  | none=>rw [hvv] at hval;exact (show False from hval).elim
  | some u' =>
   rw [hvv] at hval
   exact ⟨u',rfl,uT I (show X.A.units + 1 < cLine by omega) hq hrv hval⟩
 ·show wpAny _ _ (ret (.bool false)) _ _ _
  exact wpAny_pure ⟨.bool false,rfl,(fun z=>nomatch z),.bl false,H,I,rfl,q⟩
end
end L2
namespace L2
open PySem PySem.Spec PyProof.Rows
section
variable {X:Cx}
theorem v9:MtR X "str.index" (fun x xs H Q=>∃(z y:Str) (i:Nat) (rest:List Nat),x=.str z/\xs=[.str y]/\Builtin.Str.occurrences z y 0 z.length 1=i :: rest/\Q (.int i) H):=by
 intro pins s σ H x xs v us Q I rx rs h
 obtain ⟨z,y,i,rest,rfl,rfl,e,q⟩:=h
 obtain ⟨t,rfl⟩:=rx
 obtain ⟨u,rfl,ru⟩:=rs.one
 obtain ⟨t2,rfl⟩:=ru
 refine call_gives F.slot_str_index (typeIs_str _ _ _) F.entry_str_index (F.args_str_index_2 _ _) (gives_str_index z y t t2 i rest e) ?_
 exact ⟨.int i,H,I.tok _,⟨_,rfl⟩,q⟩
theorem yY {o e:Expr}{to:TE}{t:TA}{apos cpos:Pos} (ho:PE X o to) (ha:PA X [e] t) (hbase:attributeBase o "index" X.env (eval o X.env)=eval o X.env:=by rfl)
  (hfew:((backTo cpos (starEach [e] X.env)).all (fun x=>!x.1) && (backToKw cpos (keywordEach [] X.env)).all (fun x=>x.1.isSome)
   && decide ([e].length + ([]:List Keyword).length + (if ([]:List Keyword).isEmpty then 0 else 1) < 30))=true:=by rfl)
  (hline:(apos.endLine == cpos.line)=true:=by rfl) (hs:starEach [e] X.env=(false,eval e X.env) :: starEach [] X.env:=by rfl) (hplain:(backTo cpos (starEach [] X.env)).any (·.1)=false:=by rfl) :
  PE X (.Call (.Attribute o "index" apos) [e] [] cpos) (tBM X.K "str" (fun x xs H Q=>∃(z y:Str) (i:Nat) (rest:List Nat),x=.str z/\xs=[.str y]/\Builtin.Str.occurrences z y 0 z.length 1=i :: rest/\Q (.int i) H) to t) :=
 xV PySem.F.plainAttrs_str PySem.F.slot_str_index PySem.F.type_str_index v9 ho ha hbase hfew hline hs hplain
end
end L2
namespace L2
open PySem PySem.Spec PyProof.Rows
section
variable {X:Cx}
end
end L2
namespace L2
open PySem PySem.Spec PyProof.Rows
section
variable {X:Cx}
end
end L2
namespace L2
open PySem PySem.Spec PyProof.Rows
section
variable {X:Cx}
end
end L2
namespace L2
open PySem PySem.Spec PyProof.Rows
section
variable {X:Cx}
end
end L2
namespace L2
open PySem PySem.Spec PyProof.Rows
section
variable {X:Cx}
theorem Vals.rev:∀{xs:List V}{us:List Value},Vals xs us->Vals xs.reverse us.reverse
 | _,_,.nil=>.nil
 | x :: xs,u :: us,.cons h r=>by
  rw [List.reverse_cons,List.reverse_cons]
  exact PySem.Paired.snoc (Vals.rev r) h
def DO (K:W.Frag) (te:TE):TE:=fun σ H Q=>te σ H fun x H1=>∃a xs,x=.ref a/\SqL K H1 a xs/\∀p,H1 p=none->Q (.ref p) (upd H1 p (.lst xs.reverse))
theorem ub {e:Expr}{te:TE}{j:Nat}{pos p2 p3 p4:Pos} (he:PE X e te):PE X (.Subscript e (.Slice none none (some (.UnaryOp .USub (.Constant (.int 1) j p3) p4)) p2) pos) (DO X.K te):=by
 intro pins s σ H Q I h
 refine Subscript_ (thn (he pins s σ H _ I h) fun v s1 ⟨x,H1,I1,r1,a,xs,ex,hx,q⟩=>?_)
 subst ex
 cases r1
 refine wpAny_Slice ?_
 rw [evalPart_none]
 refine wpAny_pure ?_
 refine wpAny_pure ?_
 rw [evalPart_some]
 refine thn ((Dq Bx (ae (X:=X))) pins s1 σ H1 (fun y H2=>H2=H1/\y=.int (-1)) I1 ⟨_,rfl,rfl,rfl⟩) fun v2 s2 ⟨y,H2,I2,r2,e2,e3⟩=>?_
 subst e2 e3
 obtain ⟨t2,rfl⟩:=r2
 obtain ⟨its,r,ht,hz⟩:=I2.list hx
 have hlen:its.toArray.size=xs.length:=by rw [List.size_toArray];exact r.length.symm
 have I4:Inv X pins σ H2 { s2 with heap:=s2.heap.push { cls:=.type "slice",data:=.fields #[.none,.none,.int (-1) t2] } }:=I2.kept fun b ob q=>Heap.get?_push_of_some _ q
 obtain ⟨its4,r4,ht4,hz4⟩:=I4.list hx
 have hlen4:its4.toArray.size=xs.length:=by rw [List.size_toArray];exact r4.length.symm
 refine tail_any (ops:=[.ref a,.ref s2.heap.objs.size]) (s:={ s2 with heap:=s2.heap.push { cls:=.type "slice",data:=.fields #[.none,.none,.int (-1) t2] } }) ht4.isList.typeIs slot_list_getitem.lookup (wpAny_getItem_list_slice ht4.isList (Heap.IsSliceOf.new ..) .none .none (.int (-1) t2) (by simp) ?_ (by rw [hlen4];exact hz4)) (by with_unfolding_all rfl)
 rw [W.krv_pick]
 refine ⟨.ref _,_,I4.laid (t':=s2.toks) (o:=.lst xs.reverse) (fun b ob q=>Heap.get?_push_of_some _ q) (Nat.le_refl _) ?_,rfl,q _ (I4.hok.fresh (Nat.le_refl _))⟩
 exact ⟨by rw [List.length_reverse];exact hz4,_,0,r4.rev,Heap.get?_push_size _ rfl⟩
end
end L2
namespace K28
open PySem L2
theorem scM {N P:List Str}{sc:Scope} (k:sc.kind=.function:=by rfl) (c:sc.isCoroutine=false:=by rfl) (g:sc.isGenerator=false:=by rfl) (n:N.Nodup:=by decide +kernel) (p:N.take P.length=P:=by rfl) (q:∀x ∈ P,sc.names.lookup x=some .local \/ sc.names.lookup x=some .cell:=by decide +kernel) (f:∀y ∈ sc.names,y.2 ≠ .free:=by decide +kernel):aF N P sc:=⟨k,c,g,n,p,q,f⟩
theorem px {X:Cx}{a b:Expr}{ta tb:TE}{pos:Pos} (hu:X.A.units + 64 < cLine) (ha:PE X a ta) (hb:PE X b tb) (hs:vG b:=by exact fun _ _=>rfl):PE X (.Subscript a b pos) (tOp (CJ X.K) ta tb):=Cf (B7 hu) ha hb hs
theorem pgn {X:Cx}{pos:Pos}{i:Nat}{x:Str} (hN:X.N.Nodup) (hi:X.N[i]?=some x) (hx:Loc X.env.scope x:=by first | exact Or.inl rfl | exact Or.inr rfl) (hf:X.fn x=true \/ X.env.scope.names.lookup x=some .local:=by first | exact .inl rfl | exact .inr rfl | assumption):PG X (.Name x pos) (jY i):=vA hN hi hx hf
abbrev jJ:Stmt:=top 24
theorem q5:aF ["thing"] ["thing"] (au jJ):=scM
abbrev mv:Stmt:=top 25
theorem uv:aF ["gift","size"] ["gift","size"] (au mv):=scM
abbrev jl:Stmt:=top 26
theorem kZ:aF ["given","gifts","gift"] ["given","gifts"] (au jl):=scM
abbrev lA:Stmt:=top 27
theorem sA:aF ["own"] ["own"] (au lA):=scM
abbrev lH:Stmt:=top 28
theorem fI:aF ["program","gifts","cells","head","deed","part"] ["program","gifts"] (au lH):=scM
abbrev oq:Stmt:=top 31
theorem we:aF ["one","word","other"] ["one","word","other"] (au oq):=scM
abbrev iL:Stmt:=top 32
theorem pw:aF ["place","size"] ["place","size"] (au iL):=scM
abbrev mK:Stmt:=top 35
theorem um:aF ["program","cells"] ["program","cells"] (au mK):=scM
abbrev yO:Stmt:=top 36
theorem uN:aF ["program","gifts","state","book"] ["program","gifts"] (au yO):=scM
abbrev iJ:Stmt:=top 38
theorem oE:aF ["_law_script","_law_k"] ["_law_script","_law_k"] (au iJ):=scM
abbrev mI:Stmt:=top 39
theorem fB:aF ["_law_cell","_law_k","_law_rest","_law_j","_law_prime"] ["_law_cell","_law_k"] (au mI):=scM
abbrev lC:Stmt:=top 40
theorem cX:aF ["_law_cell","_law_k","_law_letters","_law_way","_law_words","_law_size","_law_at","_law_stem"] ["_law_cell","_law_k"] (au lC):=scM
abbrev jc:Stmt:=top 41
theorem pW:aF ["_law_cell"] ["_law_cell"] (au jc):=scM
abbrev jM:Stmt:=top 42
theorem rD:aF ["_law_number_here","_law_things"] ["_law_number_here","_law_things"] (au jM):=scM
abbrev j4:Stmt:=top 43
theorem jf:aF ["_law_number_here","_law_things","_law_lists","_law_one","_law_other"] ["_law_number_here","_law_things","_law_lists"] (au j4):=scM
abbrev lh:Stmt:=top 44
theorem kC:aF ["_law_state","_law_cell","_law_deep","_law_loops","_law_kinds","_law_kind_here"] ["_law_state","_law_cell","_law_deep","_law_loops"] (au lh):=scM
abbrev jW:Stmt:=top 45
theorem c8:aF ["_law_state","_law_cell","_law_kind_here","_law_names","_law_at","_law_value_here","_law_own","_law_name_here","_law_many"] ["_law_state","_law_cell","_law_kind_here"] (au jW):=scM
abbrev ke:Stmt:=top 46
theorem cC:aF ["_law_state","_law_cell","_law_kind_here","_law_deep","_law_loops","_law_at","_law_idles","_law_body","_law_rounds","_law_value_here","_law_first","_law_other"] ["_law_state","_law_cell","_law_kind_here","_law_deep","_law_loops"] (au ke):=scM
abbrev kx:Stmt:=top 47
theorem f7:aF ["_law_state","_law_deep","_law_loops","_law_nodes_here","_law_cell","_law_kind_here"] ["_law_state","_law_deep","_law_loops"] (au kx):=scM
abbrev lq:Stmt:=top 48
theorem fJ:aF ["_law_nodes_here","_law_rows","_law_node","_law_kind_here"] ["_law_nodes_here"] (au lq):=scM
abbrev kh:Stmt:=top 49
theorem eZ:aF ["_law_names","_law_cell","_law_heads_here","_law_k"] ["_law_names","_law_cell"] (au kh):=scM
abbrev j6:Stmt:=top 50
theorem cK:aF ["_law_script","_law_names","_law_things","_law_state","_law_one","_law_at","_law_other","_law_main"] ["_law_script"] (au j6):=scM
abbrev iq:Stmt:=top 51
theorem dO:aF ["_law_drawn_here","_law_cell","_law_names","_law_bodies","_law_at","_law_deeds"] ["_law_drawn_here","_law_cell"] (au iq):=scM
abbrev j8:Stmt:=top 52
theorem eX:aF ["_law_names","_law_script","_law_turn","_law_cell","_law_gifts_here","_law_k","_law_many"] ["_law_names","_law_script","_law_turn"] (au j8):=scM
abbrev kb:Stmt:=top 53
theorem qO:aF ["_law_world","_law_thing_here"] ["_law_world","_law_thing_here"] (au kb):=scM
abbrev gO:Stmt:=top 54
theorem fS:aF ["_law_world","_law_value_here","_law_one","_law_other"] ["_law_world","_law_value_here"] (au gO):=scM
abbrev om:Stmt:=top 55
theorem dw:aF ["_law_world","_law_node","_law_step","_law_told","_law_some","_law_body","_law_parts","_law_k"] ["_law_world","_law_node"] (au om):=scM
abbrev gz:Stmt:=top 56
theorem cv:aF ["_law_world","_law_node","_law_side","_law_stopped","_law_rounds","_law_many"] ["_law_world","_law_node"] (au gz):=scM
abbrev i5:Stmt:=top 57
theorem dC:aF ["_law_world","_law_nodes_here","_law_stopped","_law_node"] ["_law_world","_law_nodes_here"] (au i5):=scM
abbrev mE:Stmt:=top 58
theorem eS:aF ["_law_drawn_here","_law_script","_law_turn","_law_names","_law_bodies","_law_at","_law_cells","_law_k","_law_world"] ["_law_drawn_here","_law_script","_law_turn"] (au mE):=scM
abbrev lu:Stmt:=top 59
theorem jL:aF ["_law_found","_law_due_here","_law_k"] ["_law_found","_law_due_here"] (au lu):=scM
abbrev k8:Stmt:=top 60
theorem nk:aF ["_law_found","_law_due_here","_law_names","_law_k"] ["_law_found","_law_due_here","_law_names"] (au k8):=scM
abbrev pj:Stmt:=top 61
theorem jq:aF ["_law_script","_law_drawn_here","_law_names","_law_program_here","_law_gifts_here","_law_first","_law_other","_law_again","_law_due_here"] ["_law_script"] (au pj):=scM
abbrev jO:Stmt:=inClass (top 2) 0
theorem rH:aF ["self"] ["self"] (au jO):=scM
abbrev fj:Stmt:=inClass (top 7) 0
theorem sL:aF ["self","number"] ["self","number"] (au fj):=scM
abbrev gw:Stmt:=inClass (top 8) 0
theorem nG:aF ["self","number","name","rank"] ["self","number","name","rank"] (au gw):=scM
abbrev fT:Stmt:=inClass (top 9) 0
theorem mO:aF ["self","number","name","rank","size"] ["self","number","name","rank","size"] (au fT):=scM
abbrev hE:Stmt:=inClass (top 10) 0
theorem o6:aF ["self","number","name","size"] ["self","number","name","size"] (au hE):=scM
abbrev ij:Stmt:=inClass (top 11) 0
theorem oM:aF ["self","number","name","rank"] ["self","number","name","rank"] (au ij):=scM
abbrev h7:Stmt:=inClass (top 12) 0
theorem oB:aF ["self","number","name","value"] ["self","number","name","value"] (au h7):=scM
abbrev hG:Stmt:=inClass (top 13) 0
theorem oi:aF ["self","number","name","place","value"] ["self","number","name","place","value"] (au hG):=scM
abbrev gu:Stmt:=inClass (top 14) 0
theorem nD:aF ["self","number","name","value"] ["self","number","name","value"] (au gu):=scM
abbrev ip:Stmt:=inClass (top 15) 0
theorem oF:aF ["self","number","name","value","mark"] ["self","number","name","value","mark"] (au ip):=scM
abbrev gG:Stmt:=inClass (top 16) 0
theorem nI:aF ["self","number","name","things"] ["self","number","name","things"] (au gG):=scM
abbrev jo:Stmt:=inClass (top 18) 0
theorem pJ:aF ["self","number","value","first","other","left","right"] ["self","number","value","first","other","left","right"] (au jo):=scM
abbrev gr:Stmt:=inClass (top 19) 0
theorem nF:aF ["self","number","thing","most","body","left","right"] ["self","number","thing","most","body","left","right"] (au gr):=scM
abbrev gL:Stmt:=inClass (top 20) 0
theorem ny:aF ["self","number","name","parts","body"] ["self","number","name","parts","body"] (au gL):=scM
abbrev gy:Stmt:=inClass (top 21) 0
theorem nA:aF ["self","heads","deeds","main"] ["self","heads","deeds","main"] (au gy):=scM
abbrev lD:Stmt:=inClass (top 34) 0
theorem mU:aF ["self","program","cells","deed"] ["self","program","cells"] (au lD):=scM
abbrev fV:Stmt:=inClass (top 34) 1
theorem mq:aF ["self","thing"] ["self","thing"] (au fV):=scM
abbrev fA:Stmt:=inClass (top 34) 2
theorem eU:aF ["self","value","behind","numbers"] ["self","value"] (au fA):=scM
abbrev ff:Stmt:=inClass (top 34) 3
theorem lF:aF ["self","row"] ["self","row"] (au ff):=scM
abbrev fw:Stmt:=inClass (top 34) 4
theorem gR:aF ["self","count","book"] ["self","count"] (au fw):=scM
abbrev gZ:Stmt:=inClass (top 34) 5
theorem dU:aF ["self","rows","ending","row"] ["self","rows"] (au gZ):=scM
abbrev jh:Stmt:=inClass (top 34) 6
theorem hU:aF ["self","row","book","told"] ["self","row"] (au jh):=scM
abbrev jg:Stmt:=inClass (top 34) 7
theorem kM:aF ["self","row","numbers"] ["self","row"] (au jg):=scM
abbrev iD:Stmt:=inClass (top 34) 8
theorem cS:aF ["self","row","deed","numbers","part","number"] ["self","row"] (au iD):=scM
abbrev kq:Stmt:=inClass (top 34) 9
theorem fX:aF ["self","row","ending"] ["self","row"] (au kq):=scM
abbrev iB:Stmt:=inClass (top 34) 10
theorem cP:aF ["self","row","wanted","done","ending"] ["self","row"] (au iB):=scM
structure Adr where
 cb:Addr
 Row:Addr
 bM:Addr
 aX:Addr
 bG:Addr
 b9:Addr
 bX:Addr
 bP:Addr
 bp:Addr
 bJ:Addr
 bI:Addr
 cB:Addr
 bQ:Addr
 aW:Addr
 bq:Addr
 Program:Addr
 Run:Addr
structure Txt (K:W.Frag) (mg:Str->Option Value) (A:Adr):Prop where
 qq:b8 K mg "is_number" jJ ["thing"]
 vk:b8 K mg "is_good" mv ["gift","size"]
 oX:b8 K mg "given_cell" jl ["given","gifts"]
 tq:b8 K mg "own_cell" lA ["own"]
 sT:b8 K mg "cells_of" lH ["program","gifts"]
 reckon:b8 K mg "reckon" oq ["one","word","other"]
 nh:b8 K mg "round_place" iL ["place","size"]
 uS:b8 K mg "ends_of" mK ["program","cells"]
 run:b8 K mg "run" yO ["program","gifts"]
 mT:b8 K mg "_law_cell_at" iJ ["_law_script","_law_k"]
 uR:b8 K mg "_law_mix" mI ["_law_cell","_law_k"]
 sI:b8 K mg "_law_name" lC ["_law_cell","_law_k"]
 oz:b8 K mg "_law_number" jc ["_law_cell"]
 qm:b8 K mg "_law_thing" jM ["_law_number_here","_law_things"]
 qx:b8 K mg "_law_value" j4 ["_law_number_here","_law_things","_law_lists"]
 sQ:b8 K mg "_law_kind" lh ["_law_state","_law_cell","_law_deep","_law_loops"]
 qk:b8 K mg "_law_plain" jW ["_law_state","_law_cell","_law_kind_here"]
 mH:b8 K mg "_law_block" ke ["_law_state","_law_cell","_law_kind_here","_law_deep","_law_loops"]
 qp:b8 K mg "_law_nodes" kx ["_law_state","_law_deep","_law_loops"]
 oT:b8 K mg "_law_made" lq ["_law_nodes_here"]
 pX:b8 K mg "_law_heads" kh ["_law_names","_law_cell"]
 qf:b8 K mg "_law_drawn" j6 ["_law_script"]
 nr:b8 K mg "_law_program" iq ["_law_drawn_here","_law_cell"]
 qd:b8 K mg "_law_gifts" j8 ["_law_names","_law_script","_law_turn"]
 qh:b8 K mg "_law_taken" kb ["_law_world","_law_thing_here"]
 lL:b8 K mg "_law_reckoned" gO ["_law_world","_law_value_here"]
 xG:b8 K mg "_law_do" om ["_law_world","_law_node"]
 lY:b8 K mg "_law_do_block" gz ["_law_world","_law_node"]
 lj:b8 K mg "_law_do_all" i5 ["_law_world","_law_nodes_here"]
 u5:b8 K mg "_law_due" mE ["_law_drawn_here","_law_script","_law_turn"]
 pd:b8 K mg "_law_same" lu ["_law_found","_law_due_here"]
 si:b8 K mg "_law_book" k8 ["_law_found","_law_due_here","_law_names"]
 rR:mg "all"=none
 oo:mg "bool"=none
 pe:mg "dict"=none
 lT:mg "divmod"=none
 k5:mg "int"=none
 aB:mg "isinstance"=none
 eI:mg "len"=none
 dE:mg "list"=none
 rY:mg "min"=none
 cZ:mg "range"=none
 nq:mg "str"=none
 mh:mg "tuple"=none
 vw:mg "zip"=none
 kP:∃t,mg "MOST_NUMBER"=some (.int 999999999999 t)
 nK:∃t,mg "ROUND"=some (.int 1000000000000 t)
 cq:eG K mg A.cb "Book" [A.cb]
 mX:MFn K A.cb "__init__" "Book.__init__" jO ["self"]
 eW:aK K A.cb "letters"
 gW:aK K A.cb "said"
 fY:aK K A.cb "trace"
 cY:aK K A.cb "steps"
 dS:aK K A.cb "ends"
 iT:eG K mg A.Row "Row" [A.Row]
 oh:MFn K A.Row "__init__" "Row.__init__" fj ["self","number"]
 cH:eG K mg A.bM "HandRow" [A.bM,A.Row]
 j7:MFn K A.bM "__init__" "HandRow.__init__" gw ["self","number","name","rank"]
 jQ:aK K A.bM "name"
 jR:aK K A.bM "rank"
 iV:aK K A.bM "number"
 bh:eG K mg A.aX "GivenRow" [A.aX,A.Row]
 ju:MFn K A.aX "__init__" "GivenRow.__init__" fT ["self","number","name","rank","size"]
 dh:aK K A.aX "name"
 jD:aK K A.aX "rank"
 cG:aK K A.aX "size"
 gY:aK K A.aX "number"
 bH:eG K mg A.bG "OwnRow" [A.bG,A.Row]
 kS:MFn K A.bG "__init__" "OwnRow.__init__" hE ["self","number","name","size"]
 dD:aK K A.bG "name"
 fF:aK K A.bG "size"
 jB:aK K A.bG "number"
 dJ:eG K mg A.b9 "LetRow" [A.b9,A.Row]
 kR:MFn K A.b9 "__init__" "LetRow.__init__" ij ["self","number","name","rank"]
 kX:aK K A.b9 "name"
 kW:aK K A.b9 "rank"
 jC:aK K A.b9 "number"
 bO:eG K mg A.bX "SetRow" [A.bX,A.Row]
 k6:MFn K A.bX "__init__" "SetRow.__init__" h7 ["self","number","name","value"]
 ik:aK K A.bX "name"
 gK:aK K A.bX "value"
 fP:aK K A.bX "number"
 bC:eG K mg A.bP "PutRow" [A.bP,A.Row]
 kT:MFn K A.bP "__init__" "PutRow.__init__" hG ["self","number","name","place","value"]
 hJ:aK K A.bP "name"
 gM:aK K A.bP "place"
 gB:aK K A.bP "value"
 fN:aK K A.bP "number"
 aQ:eG K mg A.bp "SendRow" [A.bp,A.Row]
 kA:MFn K A.bp "__init__" "SendRow.__init__" gu ["self","number","name","value"]
 gm:aK K A.bp "name"
 fR:aK K A.bp "value"
 er:aK K A.bp "number"
 aR:eG K mg A.bJ "SayRow" [A.bJ,A.Row]
 kO:MFn K A.bJ "__init__" "SayRow.__init__" ip ["self","number","name","value","mark"]
 iy:aK K A.bJ "name"
 gN:aK K A.bJ "value"
 iK:aK K A.bJ "mark"
 eM:aK K A.bJ "number"
 aY:eG K mg A.bI "CallRow" [A.bI,A.Row]
 kF:MFn K A.bI "__init__" "CallRow.__init__" gG ["self","number","name","things"]
 gp:aK K A.bI "name"
 fm:aK K A.bI "things"
 fC:aK K A.bI "number"
 aS:eG K mg A.cB "LastRow" [A.cB,A.Row]
 j9:MFn K A.cB "__init__" "Row.__init__" fj ["self","number"]
 fo:aK K A.cB "number"
 bz:eG K mg A.bQ "IfRow" [A.bQ,A.Row]
 lP:MFn K A.bQ "__init__" "IfRow.__init__" jo ["self","number","value","first","other","left","right"]
 iI:aK K A.bQ "value"
 iA:aK K A.bQ "first"
 iO:aK K A.bQ "other"
 je:aK K A.bQ "left"
 iw:aK K A.bQ "right"
 gH:aK K A.bQ "number"
 aN:eG K mg A.aW "LoopRow" [A.aW,A.Row]
 jT:MFn K A.aW "__init__" "LoopRow.__init__" gr ["self","number","thing","most","body","left","right"]
 fO:aK K A.aW "thing"
 eY:aK K A.aW "most"
 gJ:aK K A.aW "body"
 gI:aK K A.aW "left"
 fQ:aK K A.aW "right"
 ft:aK K A.aW "number"
 cQ:eG K mg A.bq "DeedRow" [A.bq,A.Row]
 kg:MFn K A.bq "__init__" "DeedRow.__init__" gL ["self","number","name","parts","body"]
 gD:aK K A.bq "name"
 eP:aK K A.bq "parts"
 gE:aK K A.bq "body"
 iR:aK K A.bq "number"
 dz:eG K mg A.Program "Program" [A.Program]
 jN:MFn K A.Program "__init__" "Program.__init__" gy ["self","heads","deeds","main"]
 eK:aK K A.Program "heads"
 eN:aK K A.Program "deeds"
 gq:aK K A.Program "main"
 bS:eG K mg A.Run "Run" [A.Run]
 oV:MFn K A.Run "__init__" "Run.__init__" lD ["self","program","cells"]
 jx:MFn K A.Run "number_at" "Run.number_at" fV ["self","thing"]
 iQ:MFn K A.Run "number_for" "Run.number_for" fA ["self","value"]
 gS:MFn K A.Run "number_told" "Run.number_told" ff ["self","row"]
 iU:MFn K A.Run "pass_steps" "Run.pass_steps" fw ["self","count"]
 iz:MFn K A.Run "do_rows" "Run.do_rows" gZ ["self","rows"]
 lX:MFn K A.Run "do_row" "Run.do_row" jh ["self","row"]
 lS:MFn K A.Run "do_put" "Run.do_put" jg ["self","row"]
 iF:MFn K A.Run "do_call" "Run.do_call" iD ["self","row"]
 jX:MFn K A.Run "do_if" "Run.do_if" kq ["self","row"]
 iG:MFn K A.Run "do_loop" "Run.do_loop" iB ["self","row"]
 gU:aK K A.Run "deeds"
 cM:aK K A.Run "cells"
 gk:aK K A.Run "book"
 bV:OfC K A.Row "__init__"
 nd:[A.cb,A.Row,A.bM,A.aX,A.bG,A.b9,A.bX,A.bP,A.bp,A.bJ,A.bI,A.cB,A.bQ,A.aW,A.bq,A.Program,A.Run].Nodup
section
variable {P:Program}{w:World}{K:W.Frag}{mg:Str->Option Value}{base:Heap}{A:Adr}
theorem alc {H:Hp}{p:Addr} (h:H p=none) (o:HO):aj H (upd H p o)/\upd H p o p=some o:=⟨aj.upd h o,aq⟩
theorem uo:W.kitOne K (.type "int") (.type "int")=some true:=by kernel_rfl!
theorem xh:W.kitOne K (.type "int") (.type "bool")=some false:=by kernel_rfl!
theorem xT:W.kitOne K (.type "tuple") (.type "tuple")=some true:=by kernel_rfl!
theorem tN:W.kitOne K (.type "list") (.type "list")=some true:=by kernel_rfl!
theorem BV:W.kitOne K (.type "dict") (.type "dict")=some true:=by kernel_rfl!
theorem AG:W.kitOne K (.type "str") (.type "int")=some false:=by kernel_rfl!
theorem Bz:W.kitOne K (.type "list") (.type "int")=some false:=by kernel_rfl!
theorem A4:W.kitOne K (.type "tuple") (.type "int")=some false:=by kernel_rfl!
theorem xA:W.kitOne K (.type "tuple") (.type "list")=some false:=by kernel_rfl!
theorem sz {n:Nat} (h:n <= 1000):n <= sizeLine:=Nat.le_of_lt (aM h)
theorem bK (x:Int) {m:Int} (hm:0 < m):0 <= x % m/\x % m < m:=⟨Int.emod_nonneg x (show m ≠ 0 by omega),Int.emod_lt_of_pos x hm⟩
theorem vF {α:Type}{xs:List α}{k:Int} (h0:0 <= k) (h1:k < (xs.length:Int)):∃x,xs[k.toNat]?=some x/\atI xs k=some x:=by
 have hk:k.toNat < xs.length:=by omega
 have e:=ee (xs:=xs) (j:=k.toNat) (List.getElem?_eq_getElem hk)
 rw [show ((k.toNat:Nat):Int)=k by omega] at e
 exact ⟨_,List.getElem?_eq_getElem hk,e⟩
theorem oQ {α:Type} (f:α->V) {xs:List α}{k:Int} (h0:0 <= k) (h1:k < (xs.length:Int)):∃x,x ∈ xs/\xs[k.toNat]?=some x/\atI (xs.map f) k=some (f x):=by
 obtain ⟨x,e1,e2⟩:=vF (xs:=xs.map f) h0 (by rw [List.length_map];exact h1)
 rw [List.getElem?_map] at e1
 cases h:xs[k.toNat]? with
 | none=>rw [h] at e1;cases e1
 | some y =>
  rw [h] at e1
  have:f y=x:=Option.some.inj e1
  exact ⟨y,List.mem_of_getElem? h,rfl,by rw [this];exact e2⟩
theorem fW (i j:Int):decide (V.int i=V.int j)=decide (i=j):=decide_eq_decide.mpr ⟨fun h=>V.int.inj h,fun h=>by rw [h]⟩
theorem rV {α:Type} (xs:List α):xs.filter (fun _=>true)=xs:=List.filter_eq_self.mpr fun _ _=>rfl
theorem wy {a b:Int} (h0:-(2 ^ 64) < a) (h1:a < 2 ^ 64):v8 a b:=Or.inl ⟨h0,h1⟩
end
section
variable {P:Program}{w:World}{K:W.Frag}{mg:Str->Option Value}{base:Heap}{A:Adr}
theorem aj.out {H0 H:Hp} (s:aj H0 H) {x:Addr} (h:H0 x=none) (u:HO):aj H0 (upd H x u):=fun a o q=>by
 rw [aI (fun z=>by rw [z,h] at q;cases q)]
 exact s a o q
theorem ah {H:Hp}{x a:Addr}{u o:HO} (n:a ≠ x) (e:H a=some o):upd H x u a=some o:=by rw [aI n];exact e
structure IA (H0:Hp) (x C dx:Addr) (fs:List (Str × V)) (H:Hp):Prop where
 s:aj H0 H
 i:H x=some (.ins C dx fs)
theorem IA.one {H:Hp}{x C dx:Addr} (hx:H x=none) (hd:H dx=none):IA H x C dx [] (upd (upd H dx (.own x)) x (.ins C dx [])):=⟨aj.out (aj.upd hd _) hx _,aq⟩
theorem IA.put {H0 H:Hp}{x C dx:Addr}{fs:List (Str × V)} (a:IA H0 x C dx fs H) (hx:H0 x=none) (gs:List (Str × V)):IA H0 x C dx gs (upd H x (.ins C dx gs)):=⟨aj.out a.s hx _,aq⟩
theorem IA.ne {H0 H:Hp}{x C dx p:Addr}{fs:List (Str × V)} (a:IA H0 x C dx fs H) (hp:H p=none):p ≠ x:=fun z=>by rw [z,a.i] at hp;cases hp
theorem IA.new {H0 H:Hp}{x C dx p:Addr}{fs:List (Str × V)} (a:IA H0 x C dx fs H) (hp:H p=none) (o:HO):IA H0 x C dx fs (upd H p o):=⟨a.s.trans (aj.upd hp _),ah (a.ne hp).symm a.i⟩
theorem IA.nw {H0 H:Hp}{x C dx:Addr}{fs:List (Str × V)} (_:IA H0 x C dx fs H) (p:Addr) (o:HO):upd H p o p=some o:=aq
def kz (K:W.Frag) (A:Adr):Sp:=fun vs H Q _=>∃(x C dx:Addr) (fs:List (Str × V)) (n:V),vs=[.ref x,n]/\H x=some (.ins C dx fs)/\Cls K C/\aK K C "number"/\fs.length < 1000/\Q .non (upd H x (.ins C dx (cz "number" n fs)))
theorem kN {C:Addr} (F:MFn K C "__init__" "Row.__init__" fj ["self","number"]):cR P w K mg base 2 C "__init__" ["self","number"] (kz K A):=by
 refine F.has (k:=1) sL (fun vs H Q E h=>?_) (fun f cdv A' outer s H vs Q E hr hu h=>?_)
 ·obtain ⟨x,C,dx,fs,n,rfl,_⟩:=h
  rfl
 ·obtain ⟨x,C,dx,fs,n,rfl,hx,c,na,hl,q⟩:=h
  refine ⟨_,(ag (bf (fv 0) (fv 1) rfl)),?_⟩
  exact ⟨x,C,dx,fs,rfl,hx,c,na,hl,q⟩
theorem cy (T:Txt K mg A):cR P w K mg base 2 A.Row "__init__" ["self","number"] (kz K A):=kN T.oh
def jy (K:W.Frag) (A:Adr):Sp:=fun vs G R _=>∃(x dx:Addr) (v0 v1 v2:V) (H:Hp),vs=[.ref x,v0,v1,v2]/\G=upd (upd H dx (.own x)) x (.ins A.bM dx [])/\H x=none/\H dx=none/\∀(H':Hp),aj H H'->H' x=some (.ins A.bM dx [("number",v0),("name",v1),("rank",v2)])->R .non H'
theorem oK (T:Txt K mg A):cR P w K mg base 3 A.bM "__init__" ["self","number","name","rank"] (jy K A):=by
 have D_Row_init:=cy (P:=P) (w:=w) (base:=base) T
 refine T.j7.has (k:=2) nG (fun vs G R E h=>?_) (fun f cdv A' outer s G vs R E hr hu h=>?_)
 ·obtain ⟨x,dx,v0,v1,v2,H,rfl,_⟩:=h
  rfl
 ·obtain ⟨x,dx,v0,v1,v2,H,rfl,rfl,hx,hd,q⟩:=h
  refine ⟨_,(ab (aP (cI T.iT T.bV D_Row_init hr (aa (fv 0) (aa (fv 1) af))))
  (ab (bf (fv 0) (fv 2) rfl)
  (ag (bf (fv 0) (fv 3) rfl)))),?_⟩
  have a:=IA.one (C:=A.bM) hx hd
  refine ⟨x,A.bM,dx,[],v0,rfl,a.i,T.cH.cl,T.iV,by decide,?_⟩
  replace a:=a.put hx [("number",v0)]
  refine ⟨x,A.bM,dx,_,rfl,a.i,T.cH.cl,T.jQ,by simp,?_⟩
  replace a:=a.put hx [("number",v0),("name",v1)]
  refine ⟨x,A.bM,dx,_,rfl,a.i,T.cH.cl,T.jR,by simp,?_⟩
  replace a:=a.put hx [("number",v0),("name",v1),("rank",v2)]
  exact q _ a.s a.i
theorem nT {H:Hp}{x dx:Addr}{R:VK}{v0 v1 v2:V} (hx:H x=none) (hd:H dx=none) (q:∀(H':Hp),aj H H'->H' x=some (.ins A.bM dx [("number",v0),("name",v1),("rank",v2)])->R .non H'):jy K A (.ref x :: ([v0,v1,v2] ++ [])) (upd (upd H dx (.own x)) x (.ins A.bM dx [])) R E0:=⟨x,dx,_,_,_,H,rfl,rfl,hx,hd,q⟩
def iX (K:W.Frag) (A:Adr):Sp:=fun vs G R _=>∃(x dx:Addr) (v0 v1 v2 v3:V) (H:Hp),vs=[.ref x,v0,v1,v2,v3]/\G=upd (upd H dx (.own x)) x (.ins A.aX dx [])/\H x=none/\H dx=none/\∀(H':Hp),aj H H'->H' x=some (.ins A.aX dx [("number",v0),("name",v1),("rank",v2),("size",v3)])->R .non H'
theorem nz (T:Txt K mg A):cR P w K mg base 3 A.aX "__init__" ["self","number","name","rank","size"] (iX K A):=by
 have D_Row_init:=cy (P:=P) (w:=w) (base:=base) T
 refine T.ju.has (k:=2) mO (fun vs G R E h=>?_) (fun f cdv A' outer s G vs R E hr hu h=>?_)
 ·obtain ⟨x,dx,v0,v1,v2,v3,H,rfl,_⟩:=h
  rfl
 ·obtain ⟨x,dx,v0,v1,v2,v3,H,rfl,rfl,hx,hd,q⟩:=h
  refine ⟨_,(ab (aP (cI T.iT T.bV D_Row_init hr (aa (fv 0) (aa (fv 1) af))))
  (ab (bf (fv 0) (fv 2) rfl)
  (ab (bf (fv 0) (fv 3) rfl)
  (ag (bf (fv 0) (fv 4) rfl))))),?_⟩
  have a:=IA.one (C:=A.aX) hx hd
  refine ⟨x,A.aX,dx,[],v0,rfl,a.i,T.bh.cl,T.gY,by decide,?_⟩
  replace a:=a.put hx [("number",v0)]
  refine ⟨x,A.aX,dx,_,rfl,a.i,T.bh.cl,T.dh,by simp,?_⟩
  replace a:=a.put hx [("number",v0),("name",v1)]
  refine ⟨x,A.aX,dx,_,rfl,a.i,T.bh.cl,T.jD,by simp,?_⟩
  replace a:=a.put hx [("number",v0),("name",v1),("rank",v2)]
  refine ⟨x,A.aX,dx,_,rfl,a.i,T.bh.cl,T.cG,by simp,?_⟩
  replace a:=a.put hx [("number",v0),("name",v1),("rank",v2),("size",v3)]
  exact q _ a.s a.i
theorem mS {H:Hp}{x dx:Addr}{R:VK}{v0 v1 v2 v3:V} (hx:H x=none) (hd:H dx=none) (q:∀(H':Hp),aj H H'->H' x=some (.ins A.aX dx [("number",v0),("name",v1),("rank",v2),("size",v3)])->R .non H'):iX K A (.ref x :: ([v0,v1,v2,v3] ++ [])) (upd (upd H dx (.own x)) x (.ins A.aX dx [])) R E0:=⟨x,dx,_,_,_,_,H,rfl,rfl,hx,hd,q⟩
def ko (K:W.Frag) (A:Adr):Sp:=fun vs G R _=>∃(x dx:Addr) (v0 v1 v2:V) (H:Hp),vs=[.ref x,v0,v1,v2]/\G=upd (upd H dx (.own x)) x (.ins A.bG dx [])/\H x=none/\H dx=none/\∀(H':Hp),aj H H'->H' x=some (.ins A.bG dx [("number",v0),("name",v1),("size",v2)])->R .non H'
theorem pV (T:Txt K mg A):cR P w K mg base 3 A.bG "__init__" ["self","number","name","size"] (ko K A):=by
 have D_Row_init:=cy (P:=P) (w:=w) (base:=base) T
 refine T.kS.has (k:=2) o6 (fun vs G R E h=>?_) (fun f cdv A' outer s G vs R E hr hu h=>?_)
 ·obtain ⟨x,dx,v0,v1,v2,H,rfl,_⟩:=h
  rfl
 ·obtain ⟨x,dx,v0,v1,v2,H,rfl,rfl,hx,hd,q⟩:=h
  refine ⟨_,(ab (aP (cI T.iT T.bV D_Row_init hr (aa (fv 0) (aa (fv 1) af))))
  (ab (bf (fv 0) (fv 2) rfl)
  (ag (bf (fv 0) (fv 3) rfl)))),?_⟩
  have a:=IA.one (C:=A.bG) hx hd
  refine ⟨x,A.bG,dx,[],v0,rfl,a.i,T.bH.cl,T.jB,by decide,?_⟩
  replace a:=a.put hx [("number",v0)]
  refine ⟨x,A.bG,dx,_,rfl,a.i,T.bH.cl,T.dD,by simp,?_⟩
  replace a:=a.put hx [("number",v0),("name",v1)]
  refine ⟨x,A.bG,dx,_,rfl,a.i,T.bH.cl,T.fF,by simp,?_⟩
  replace a:=a.put hx [("number",v0),("name",v1),("size",v2)]
  exact q _ a.s a.i
theorem qi {H:Hp}{x dx:Addr}{R:VK}{v0 v1 v2:V} (hx:H x=none) (hd:H dx=none) (q:∀(H':Hp),aj H H'->H' x=some (.ins A.bG dx [("number",v0),("name",v1),("size",v2)])->R .non H'):ko K A (.ref x :: ([v0,v1,v2] ++ [])) (upd (upd H dx (.own x)) x (.ins A.bG dx [])) R E0:=⟨x,dx,_,_,_,H,rfl,rfl,hx,hd,q⟩
def kf (K:W.Frag) (A:Adr):Sp:=fun vs G R _=>∃(x dx:Addr) (v0 v1 v2:V) (H:Hp),vs=[.ref x,v0,v1,v2]/\G=upd (upd H dx (.own x)) x (.ins A.b9 dx [])/\H x=none/\H dx=none/\∀(H':Hp),aj H H'->H' x=some (.ins A.b9 dx [("number",v0),("name",v1),("rank",v2)])->R .non H'
theorem pR (T:Txt K mg A):cR P w K mg base 3 A.b9 "__init__" ["self","number","name","rank"] (kf K A):=by
 have D_Row_init:=cy (P:=P) (w:=w) (base:=base) T
 refine T.kR.has (k:=2) oM (fun vs G R E h=>?_) (fun f cdv A' outer s G vs R E hr hu h=>?_)
 ·obtain ⟨x,dx,v0,v1,v2,H,rfl,_⟩:=h
  rfl
 ·obtain ⟨x,dx,v0,v1,v2,H,rfl,rfl,hx,hd,q⟩:=h
  refine ⟨_,(ab (aP (cI T.iT T.bV D_Row_init hr (aa (fv 0) (aa (fv 1) af))))
  (ab (bf (fv 0) (fv 2) rfl)
  (ag (bf (fv 0) (fv 3) rfl)))),?_⟩
  have a:=IA.one (C:=A.b9) hx hd
  refine ⟨x,A.b9,dx,[],v0,rfl,a.i,T.dJ.cl,T.jC,by decide,?_⟩
  replace a:=a.put hx [("number",v0)]
  refine ⟨x,A.b9,dx,_,rfl,a.i,T.dJ.cl,T.kX,by simp,?_⟩
  replace a:=a.put hx [("number",v0),("name",v1)]
  refine ⟨x,A.b9,dx,_,rfl,a.i,T.dJ.cl,T.kW,by simp,?_⟩
  replace a:=a.put hx [("number",v0),("name",v1),("rank",v2)]
  exact q _ a.s a.i
theorem wJ {H:Hp}{x dx:Addr}{R:VK}{v0 v1 v2:V} (hx:H x=none) (hd:H dx=none) (q:∀(H':Hp),aj H H'->H' x=some (.ins A.b9 dx [("number",v0),("name",v1),("rank",v2)])->R .non H'):kf K A (.ref x :: ([v0,v1,v2] ++ [])) (upd (upd H dx (.own x)) x (.ins A.b9 dx [])) R E0:=⟨x,dx,_,_,_,H,rfl,rfl,hx,hd,q⟩
def ky (K:W.Frag) (A:Adr):Sp:=fun vs G R _=>∃(x dx:Addr) (v0 v1 v2:V) (H:Hp),vs=[.ref x,v0,v1,v2]/\G=upd (upd H dx (.own x)) x (.ins A.bX dx [])/\H x=none/\H dx=none/\∀(H':Hp),aj H H'->H' x=some (.ins A.bX dx [("number",v0),("name",v1),("value",v2)])->R .non H'
theorem pS (T:Txt K mg A):cR P w K mg base 3 A.bX "__init__" ["self","number","name","value"] (ky K A):=by
 have D_Row_init:=cy (P:=P) (w:=w) (base:=base) T
 refine T.k6.has (k:=2) oB (fun vs G R E h=>?_) (fun f cdv A' outer s G vs R E hr hu h=>?_)
 ·obtain ⟨x,dx,v0,v1,v2,H,rfl,_⟩:=h
  rfl
 ·obtain ⟨x,dx,v0,v1,v2,H,rfl,rfl,hx,hd,q⟩:=h
  refine ⟨_,(ab (aP (cI T.iT T.bV D_Row_init hr (aa (fv 0) (aa (fv 1) af))))
  (ab (bf (fv 0) (fv 2) rfl)
  (ag (bf (fv 0) (fv 3) rfl)))),?_⟩
  have a:=IA.one (C:=A.bX) hx hd
  refine ⟨x,A.bX,dx,[],v0,rfl,a.i,T.bO.cl,T.fP,by decide,?_⟩
  replace a:=a.put hx [("number",v0)]
  refine ⟨x,A.bX,dx,_,rfl,a.i,T.bO.cl,T.ik,by simp,?_⟩
  replace a:=a.put hx [("number",v0),("name",v1)]
  refine ⟨x,A.bX,dx,_,rfl,a.i,T.bO.cl,T.gK,by simp,?_⟩
  replace a:=a.put hx [("number",v0),("name",v1),("value",v2)]
  exact q _ a.s a.i
theorem wN {H:Hp}{x dx:Addr}{R:VK}{v0 v1 v2:V} (hx:H x=none) (hd:H dx=none) (q:∀(H':Hp),aj H H'->H' x=some (.ins A.bX dx [("number",v0),("name",v1),("value",v2)])->R .non H'):ky K A (.ref x :: ([v0,v1,v2] ++ [])) (upd (upd H dx (.own x)) x (.ins A.bX dx [])) R E0:=⟨x,dx,_,_,_,H,rfl,rfl,hx,hd,q⟩
def kD (K:W.Frag) (A:Adr):Sp:=fun vs G R _=>∃(x dx:Addr) (v0 v1 v2 v3:V) (H:Hp),vs=[.ref x,v0,v1,v2,v3]/\G=upd (upd H dx (.own x)) x (.ins A.bP dx [])/\H x=none/\H dx=none/\∀(H':Hp),aj H H'->H' x=some (.ins A.bP dx [("number",v0),("name",v1),("place",v2),("value",v3)])->R .non H'
theorem pT (T:Txt K mg A):cR P w K mg base 3 A.bP "__init__" ["self","number","name","place","value"] (kD K A):=by
 have D_Row_init:=cy (P:=P) (w:=w) (base:=base) T
 refine T.kT.has (k:=2) oi (fun vs G R E h=>?_) (fun f cdv A' outer s G vs R E hr hu h=>?_)
 ·obtain ⟨x,dx,v0,v1,v2,v3,H,rfl,_⟩:=h
  rfl
 ·obtain ⟨x,dx,v0,v1,v2,v3,H,rfl,rfl,hx,hd,q⟩:=h
  refine ⟨_,(ab (aP (cI T.iT T.bV D_Row_init hr (aa (fv 0) (aa (fv 1) af))))
  (ab (bf (fv 0) (fv 2) rfl)
  (ab (bf (fv 0) (fv 3) rfl)
  (ag (bf (fv 0) (fv 4) rfl))))),?_⟩
  have a:=IA.one (C:=A.bP) hx hd
  refine ⟨x,A.bP,dx,[],v0,rfl,a.i,T.bC.cl,T.fN,by decide,?_⟩
  replace a:=a.put hx [("number",v0)]
  refine ⟨x,A.bP,dx,_,rfl,a.i,T.bC.cl,T.hJ,by simp,?_⟩
  replace a:=a.put hx [("number",v0),("name",v1)]
  refine ⟨x,A.bP,dx,_,rfl,a.i,T.bC.cl,T.gM,by simp,?_⟩
  replace a:=a.put hx [("number",v0),("name",v1),("place",v2)]
  refine ⟨x,A.bP,dx,_,rfl,a.i,T.bC.cl,T.gB,by simp,?_⟩
  replace a:=a.put hx [("number",v0),("name",v1),("place",v2),("value",v3)]
  exact q _ a.s a.i
theorem wD {H:Hp}{x dx:Addr}{R:VK}{v0 v1 v2 v3:V} (hx:H x=none) (hd:H dx=none) (q:∀(H':Hp),aj H H'->H' x=some (.ins A.bP dx [("number",v0),("name",v1),("place",v2),("value",v3)])->R .non H'):kD K A (.ref x :: ([v0,v1,v2,v3] ++ [])) (upd (upd H dx (.own x)) x (.ins A.bP dx [])) R E0:=⟨x,dx,_,_,_,_,H,rfl,rfl,hx,hd,q⟩
def jw (K:W.Frag) (A:Adr):Sp:=fun vs G R _=>∃(x dx:Addr) (v0 v1 v2:V) (H:Hp),vs=[.ref x,v0,v1,v2]/\G=upd (upd H dx (.own x)) x (.ins A.bp dx [])/\H x=none/\H dx=none/\∀(H':Hp),aj H H'->H' x=some (.ins A.bp dx [("number",v0),("name",v1),("value",v2)])->R .non H'
theorem pz (T:Txt K mg A):cR P w K mg base 3 A.bp "__init__" ["self","number","name","value"] (jw K A):=by
 have D_Row_init:=cy (P:=P) (w:=w) (base:=base) T
 refine T.kA.has (k:=2) nD (fun vs G R E h=>?_) (fun f cdv A' outer s G vs R E hr hu h=>?_)
 ·obtain ⟨x,dx,v0,v1,v2,H,rfl,_⟩:=h
  rfl
 ·obtain ⟨x,dx,v0,v1,v2,H,rfl,rfl,hx,hd,q⟩:=h
  refine ⟨_,(ab (aP (cI T.iT T.bV D_Row_init hr (aa (fv 0) (aa (fv 1) af))))
  (ab (bf (fv 0) (fv 2) rfl)
  (ag (bf (fv 0) (fv 3) rfl)))),?_⟩
  have a:=IA.one (C:=A.bp) hx hd
  refine ⟨x,A.bp,dx,[],v0,rfl,a.i,T.aQ.cl,T.er,by decide,?_⟩
  replace a:=a.put hx [("number",v0)]
  refine ⟨x,A.bp,dx,_,rfl,a.i,T.aQ.cl,T.gm,by simp,?_⟩
  replace a:=a.put hx [("number",v0),("name",v1)]
  refine ⟨x,A.bp,dx,_,rfl,a.i,T.aQ.cl,T.fR,by simp,?_⟩
  replace a:=a.put hx [("number",v0),("name",v1),("value",v2)]
  exact q _ a.s a.i
theorem uk {H:Hp}{x dx:Addr}{R:VK}{v0 v1 v2:V} (hx:H x=none) (hd:H dx=none) (q:∀(H':Hp),aj H H'->H' x=some (.ins A.bp dx [("number",v0),("name",v1),("value",v2)])->R .non H'):jw K A (.ref x :: ([v0,v1,v2] ++ [])) (upd (upd H dx (.own x)) x (.ins A.bp dx [])) R E0:=⟨x,dx,_,_,_,H,rfl,rfl,hx,hd,q⟩
def jZ (K:W.Frag) (A:Adr):Sp:=fun vs G R _=>∃(x dx:Addr) (v0 v1 v2 v3:V) (H:Hp),vs=[.ref x,v0,v1,v2,v3]/\G=upd (upd H dx (.own x)) x (.ins A.bJ dx [])/\H x=none/\H dx=none/\∀(H':Hp),aj H H'->H' x=some (.ins A.bJ dx [("number",v0),("name",v1),("value",v2),("mark",v3)])->R .non H'
theorem pK (T:Txt K mg A):cR P w K mg base 3 A.bJ "__init__" ["self","number","name","value","mark"] (jZ K A):=by
 have D_Row_init:=cy (P:=P) (w:=w) (base:=base) T
 refine T.kO.has (k:=2) oF (fun vs G R E h=>?_) (fun f cdv A' outer s G vs R E hr hu h=>?_)
 ·obtain ⟨x,dx,v0,v1,v2,v3,H,rfl,_⟩:=h
  rfl
 ·obtain ⟨x,dx,v0,v1,v2,v3,H,rfl,rfl,hx,hd,q⟩:=h
  refine ⟨_,(ab (aP (cI T.iT T.bV D_Row_init hr (aa (fv 0) (aa (fv 1) af))))
  (ab (bf (fv 0) (fv 2) rfl)
  (ab (bf (fv 0) (fv 3) rfl)
  (ag (bf (fv 0) (fv 4) rfl))))),?_⟩
  have a:=IA.one (C:=A.bJ) hx hd
  refine ⟨x,A.bJ,dx,[],v0,rfl,a.i,T.aR.cl,T.eM,by decide,?_⟩
  replace a:=a.put hx [("number",v0)]
  refine ⟨x,A.bJ,dx,_,rfl,a.i,T.aR.cl,T.iy,by simp,?_⟩
  replace a:=a.put hx [("number",v0),("name",v1)]
  refine ⟨x,A.bJ,dx,_,rfl,a.i,T.aR.cl,T.gN,by simp,?_⟩
  replace a:=a.put hx [("number",v0),("name",v1),("value",v2)]
  refine ⟨x,A.bJ,dx,_,rfl,a.i,T.aR.cl,T.iK,by simp,?_⟩
  replace a:=a.put hx [("number",v0),("name",v1),("value",v2),("mark",v3)]
  exact q _ a.s a.i
theorem vM {H:Hp}{x dx:Addr}{R:VK}{v0 v1 v2 v3:V} (hx:H x=none) (hd:H dx=none) (q:∀(H':Hp),aj H H'->H' x=some (.ins A.bJ dx [("number",v0),("name",v1),("value",v2),("mark",v3)])->R .non H'):jZ K A (.ref x :: ([v0,v1,v2,v3] ++ [])) (upd (upd H dx (.own x)) x (.ins A.bJ dx [])) R E0:=⟨x,dx,_,_,_,_,H,rfl,rfl,hx,hd,q⟩
def jz (K:W.Frag) (A:Adr):Sp:=fun vs G R _=>∃(x dx:Addr) (v0 v1:V) (t0:Addr) (l0:List V) (H:Hp),vs=[.ref x,v0,v1,.ref t0]/\G=upd (upd H dx (.own x)) x (.ins A.bI dx [])/\H x=none/\H dx=none/\SqL K H t0 l0/\∀(n0:Addr) (H':Hp),H n0=none->aj H H'->H' n0=some (.lst l0)->H' x=some (.ins A.bI dx [("number",v0),("name",v1),("things",.ref n0)])->R .non H'
theorem pG (T:Txt K mg A):cR P w K mg base 3 A.bI "__init__" ["self","number","name","things"] (jz K A):=by
 have D_Row_init:=cy (P:=P) (w:=w) (base:=base) T
 refine T.kF.has (k:=2) nI (fun vs G R E h=>?_) (fun f cdv A' outer s G vs R E hr hu h=>?_)
 ·obtain ⟨x,dx,v0,v1,t0,l0,H,rfl,_⟩:=h
  rfl
 ·obtain ⟨x,dx,v0,v1,t0,l0,H,rfl,rfl,hx,hd,s0,q⟩:=h
  refine ⟨_,(ab (aP (cI T.iT T.bV D_Row_init hr (aa (fv 0) (aa (fv 1) af))))
  (ab (bf (fv 0) (fv 2) rfl)
  (ag (bf (fv 0) (bY iE rfl T.dE (by boot_by_name) (aa (fv 3) af)) rfl)))),?_⟩
  have a:=IA.one (C:=A.bI) hx hd
  refine ⟨x,A.bI,dx,[],v0,rfl,a.i,T.aY.cl,T.fC,by decide,?_⟩
  replace a:=a.put hx [("number",v0)]
  refine ⟨x,A.bI,dx,_,rfl,a.i,T.aY.cl,T.gp,by simp,?_⟩
  replace a:=a.put hx [("number",v0),("name",v1)]
  refine ⟨_,l0,rfl,.inl (a.s.seq s0),fun n0 f0=>?_⟩
  have e0:=a.ne f0
  have h0:=aj.free a.s f0
  have k0:=a.nw n0 (HO.lst l0)
  replace a:=a.new f0 (HO.lst l0)
  refine ⟨x,A.bI,dx,_,rfl,a.i,T.aY.cl,T.fm,by simp,?_⟩
  replace a:=a.put hx [("number",v0),("name",v1),("things",.ref n0)]
  replace k0:=ah (u:=.ins A.bI dx [("number",v0),("name",v1),("things",.ref n0)]) e0 k0
  exact q n0 _ h0 a.s k0 a.i
theorem tW {H:Hp}{x dx:Addr}{R:VK}{v0 v1:V}{t0:Addr}{l0:List V} (s0:SqL K H t0 l0) (hx:H x=none) (hd:H dx=none) (q:∀(n0:Addr) (H':Hp),H n0=none->aj H H'->H' n0=some (.lst l0)->H' x=some (.ins A.bI dx [("number",v0),("name",v1),("things",.ref n0)])->R .non H'):jz K A (.ref x :: ([v0,v1,.ref t0] ++ [])) (upd (upd H dx (.own x)) x (.ins A.bI dx [])) R E0:=⟨x,dx,_,_,_,_,H,rfl,rfl,hx,hd,s0,q⟩
def kQ (K:W.Frag) (A:Adr):Sp:=fun vs G R _=>∃(x dx:Addr) (v0 v1 v2 v3:V) (t0 t1:Addr) (l0 l1:List V) (H:Hp),vs=[.ref x,v0,v1,.ref t0,.ref t1,v2,v3]/\G=upd (upd H dx (.own x)) x (.ins A.bQ dx [])/\H x=none/\H dx=none/\SqL K H t0 l0/\SqL K H t1 l1/\∀(n0 n1:Addr) (H':Hp),H n0=none->H n1=none->aj H H'->H' n0=some (.lst l0)->H' n1=some (.lst l1)->H' x=some (.ins A.bQ dx [("number",v0),("value",v1),("first",.ref n0),("other",.ref n1),("left",v2),("right",v3)])->R .non H'
theorem rO (T:Txt K mg A):cR P w K mg base 3 A.bQ "__init__" ["self","number","value","first","other","left","right"] (kQ K A):=by
 have D_Row_init:=cy (P:=P) (w:=w) (base:=base) T
 refine T.lP.has (k:=2) pJ (fun vs G R E h=>?_) (fun f cdv A' outer s G vs R E hr hu h=>?_)
 ·obtain ⟨x,dx,v0,v1,v2,v3,t0,t1,l0,l1,H,rfl,_⟩:=h
  rfl
 ·obtain ⟨x,dx,v0,v1,v2,v3,t0,t1,l0,l1,H,rfl,rfl,hx,hd,s0,s1,q⟩:=h
  refine ⟨_,(ab (aP (cI T.iT T.bV D_Row_init hr (aa (fv 0) (aa (fv 1) af))))
  (ab (bf (fv 0) (fv 2) rfl)
  (ab (bf (fv 0) (bY iE rfl T.dE (by boot_by_name) (aa (fv 3) af)) rfl)
  (ab (bf (fv 0) (bY iE rfl T.dE (by boot_by_name) (aa (fv 4) af)) rfl)
  (ab (bf (fv 0) (fv 5) rfl)
  (ag (bf (fv 0) (fv 6) rfl))))))),?_⟩
  have a:=IA.one (C:=A.bQ) hx hd
  refine ⟨x,A.bQ,dx,[],v0,rfl,a.i,T.bz.cl,T.gH,by decide,?_⟩
  replace a:=a.put hx [("number",v0)]
  refine ⟨x,A.bQ,dx,_,rfl,a.i,T.bz.cl,T.iI,by simp,?_⟩
  replace a:=a.put hx [("number",v0),("value",v1)]
  refine ⟨_,l0,rfl,.inl (a.s.seq s0),fun n0 f0=>?_⟩
  have e0:=a.ne f0
  have h0:=aj.free a.s f0
  have k0:=a.nw n0 (HO.lst l0)
  replace a:=a.new f0 (HO.lst l0)
  refine ⟨x,A.bQ,dx,_,rfl,a.i,T.bz.cl,T.iA,by simp,?_⟩
  replace a:=a.put hx [("number",v0),("value",v1),("first",.ref n0)]
  replace k0:=ah (u:=.ins A.bQ dx [("number",v0),("value",v1),("first",.ref n0)]) e0 k0
  refine ⟨_,l1,rfl,.inl (a.s.seq s1),fun n1 f1=>?_⟩
  have e1:=a.ne f1
  have h1:=aj.free a.s f1
  replace k0:=aj.upd f1 (HO.lst l1) _ _ k0
  have k1:=a.nw n1 (HO.lst l1)
  replace a:=a.new f1 (HO.lst l1)
  refine ⟨x,A.bQ,dx,_,rfl,a.i,T.bz.cl,T.iO,by simp,?_⟩
  replace a:=a.put hx [("number",v0),("value",v1),("first",.ref n0),("other",.ref n1)]
  replace k0:=ah (u:=.ins A.bQ dx [("number",v0),("value",v1),("first",.ref n0),("other",.ref n1)]) e0 k0
  replace k1:=ah (u:=.ins A.bQ dx [("number",v0),("value",v1),("first",.ref n0),("other",.ref n1)]) e1 k1
  refine ⟨x,A.bQ,dx,_,rfl,a.i,T.bz.cl,T.je,by simp,?_⟩
  replace a:=a.put hx [("number",v0),("value",v1),("first",.ref n0),("other",.ref n1),("left",v2)]
  replace k0:=ah (u:=.ins A.bQ dx [("number",v0),("value",v1),("first",.ref n0),("other",.ref n1),("left",v2)]) e0 k0
  replace k1:=ah (u:=.ins A.bQ dx [("number",v0),("value",v1),("first",.ref n0),("other",.ref n1),("left",v2)]) e1 k1
  refine ⟨x,A.bQ,dx,_,rfl,a.i,T.bz.cl,T.iw,by simp,?_⟩
  replace a:=a.put hx [("number",v0),("value",v1),("first",.ref n0),("other",.ref n1),("left",v2),("right",v3)]
  replace k0:=ah (u:=.ins A.bQ dx [("number",v0),("value",v1),("first",.ref n0),("other",.ref n1),("left",v2),("right",v3)]) e0 k0
  replace k1:=ah (u:=.ins A.bQ dx [("number",v0),("value",v1),("first",.ref n0),("other",.ref n1),("left",v2),("right",v3)]) e1 k1
  exact q n0 n1 _ h0 h1 a.s k0 k1 a.i
theorem w6 {H:Hp}{x dx:Addr}{R:VK}{v0 v1 v2 v3:V}{t0:Addr}{l0:List V} (s0:SqL K H t0 l0) {t1:Addr}{l1:List V} (s1:SqL K H t1 l1) (hx:H x=none) (hd:H dx=none) (q:∀(n0 n1:Addr) (H':Hp),H n0=none->H n1=none->aj H H'->H' n0=some (.lst l0)->H' n1=some (.lst l1)->H' x=some (.ins A.bQ dx [("number",v0),("value",v1),("first",.ref n0),("other",.ref n1),("left",v2),("right",v3)])->R .non H'):kQ K A (.ref x :: ([v0,v1,.ref t0,.ref t1,v2,v3] ++ [])) (upd (upd H dx (.own x)) x (.ins A.bQ dx [])) R E0:=⟨x,dx,_,_,_,_,_,_,_,_,H,rfl,rfl,hx,hd,s0,s1,q⟩
def jv (K:W.Frag) (A:Adr):Sp:=fun vs G R _=>∃(x dx:Addr) (v0 v1 v2 v3 v4:V) (t0:Addr) (l0:List V) (H:Hp),vs=[.ref x,v0,v1,v2,.ref t0,v3,v4]/\G=upd (upd H dx (.own x)) x (.ins A.aW dx [])/\H x=none/\H dx=none/\SqL K H t0 l0/\∀(n0:Addr) (H':Hp),H n0=none->aj H H'->H' n0=some (.lst l0)->H' x=some (.ins A.aW dx [("number",v0),("thing",v1),("most",v2),("body",.ref n0),("left",v3),("right",v4)])->R .non H'
theorem oI (T:Txt K mg A):cR P w K mg base 3 A.aW "__init__" ["self","number","thing","most","body","left","right"] (jv K A):=by
 have D_Row_init:=cy (P:=P) (w:=w) (base:=base) T
 refine T.jT.has (k:=2) nF (fun vs G R E h=>?_) (fun f cdv A' outer s G vs R E hr hu h=>?_)
 ·obtain ⟨x,dx,v0,v1,v2,v3,v4,t0,l0,H,rfl,_⟩:=h
  rfl
 ·obtain ⟨x,dx,v0,v1,v2,v3,v4,t0,l0,H,rfl,rfl,hx,hd,s0,q⟩:=h
  refine ⟨_,(ab (aP (cI T.iT T.bV D_Row_init hr (aa (fv 0) (aa (fv 1) af))))
  (ab (bf (fv 0) (fv 2) rfl)
  (ab (bf (fv 0) (fv 3) rfl)
  (ab (bf (fv 0) (bY iE rfl T.dE (by boot_by_name) (aa (fv 4) af)) rfl)
  (ab (bf (fv 0) (fv 5) rfl)
  (ag (bf (fv 0) (fv 6) rfl))))))),?_⟩
  have a:=IA.one (C:=A.aW) hx hd
  refine ⟨x,A.aW,dx,[],v0,rfl,a.i,T.aN.cl,T.ft,by decide,?_⟩
  replace a:=a.put hx [("number",v0)]
  refine ⟨x,A.aW,dx,_,rfl,a.i,T.aN.cl,T.fO,by simp,?_⟩
  replace a:=a.put hx [("number",v0),("thing",v1)]
  refine ⟨x,A.aW,dx,_,rfl,a.i,T.aN.cl,T.eY,by simp,?_⟩
  replace a:=a.put hx [("number",v0),("thing",v1),("most",v2)]
  refine ⟨_,l0,rfl,.inl (a.s.seq s0),fun n0 f0=>?_⟩
  have e0:=a.ne f0
  have h0:=aj.free a.s f0
  have k0:=a.nw n0 (HO.lst l0)
  replace a:=a.new f0 (HO.lst l0)
  refine ⟨x,A.aW,dx,_,rfl,a.i,T.aN.cl,T.gJ,by simp,?_⟩
  replace a:=a.put hx [("number",v0),("thing",v1),("most",v2),("body",.ref n0)]
  replace k0:=ah (u:=.ins A.aW dx [("number",v0),("thing",v1),("most",v2),("body",.ref n0)]) e0 k0
  refine ⟨x,A.aW,dx,_,rfl,a.i,T.aN.cl,T.gI,by simp,?_⟩
  replace a:=a.put hx [("number",v0),("thing",v1),("most",v2),("body",.ref n0),("left",v3)]
  replace k0:=ah (u:=.ins A.aW dx [("number",v0),("thing",v1),("most",v2),("body",.ref n0),("left",v3)]) e0 k0
  refine ⟨x,A.aW,dx,_,rfl,a.i,T.aN.cl,T.fQ,by simp,?_⟩
  replace a:=a.put hx [("number",v0),("thing",v1),("most",v2),("body",.ref n0),("left",v3),("right",v4)]
  replace k0:=ah (u:=.ins A.aW dx [("number",v0),("thing",v1),("most",v2),("body",.ref n0),("left",v3),("right",v4)]) e0 k0
  exact q n0 _ h0 a.s k0 a.i
theorem uO {H:Hp}{x dx:Addr}{R:VK}{v0 v1 v2 v3 v4:V}{t0:Addr}{l0:List V} (s0:SqL K H t0 l0) (hx:H x=none) (hd:H dx=none) (q:∀(n0:Addr) (H':Hp),H n0=none->aj H H'->H' n0=some (.lst l0)->H' x=some (.ins A.aW dx [("number",v0),("thing",v1),("most",v2),("body",.ref n0),("left",v3),("right",v4)])->R .non H'):jv K A (.ref x :: ([v0,v1,v2,.ref t0,v3,v4] ++ [])) (upd (upd H dx (.own x)) x (.ins A.aW dx [])) R E0:=⟨x,dx,_,_,_,_,_,_,_,H,rfl,rfl,hx,hd,s0,q⟩
def js (K:W.Frag) (A:Adr):Sp:=fun vs G R _=>∃(x dx:Addr) (v0 v1:V) (t0 t1:Addr) (l0 l1:List V) (H:Hp),vs=[.ref x,v0,v1,.ref t0,.ref t1]/\G=upd (upd H dx (.own x)) x (.ins A.bq dx [])/\H x=none/\H dx=none/\SqL K H t0 l0/\SqL K H t1 l1/\∀(n0 n1:Addr) (H':Hp),H n0=none->H n1=none->aj H H'->H' n0=some (.lst l0)->H' n1=some (.lst l1)->H' x=some (.ins A.bq dx [("number",v0),("name",v1),("parts",.ref n0),("body",.ref n1)])->R .non H'
theorem ot (T:Txt K mg A):cR P w K mg base 3 A.bq "__init__" ["self","number","name","parts","body"] (js K A):=by
 have D_Row_init:=cy (P:=P) (w:=w) (base:=base) T
 refine T.kg.has (k:=2) ny (fun vs G R E h=>?_) (fun f cdv A' outer s G vs R E hr hu h=>?_)
 ·obtain ⟨x,dx,v0,v1,t0,t1,l0,l1,H,rfl,_⟩:=h
  rfl
 ·obtain ⟨x,dx,v0,v1,t0,t1,l0,l1,H,rfl,rfl,hx,hd,s0,s1,q⟩:=h
  refine ⟨_,(ab (aP (cI T.iT T.bV D_Row_init hr (aa (fv 0) (aa (fv 1) af))))
  (ab (bf (fv 0) (fv 2) rfl)
  (ab (bf (fv 0) (bY iE rfl T.dE (by boot_by_name) (aa (fv 3) af)) rfl)
  (ag (bf (fv 0) (bY iE rfl T.dE (by boot_by_name) (aa (fv 4) af)) rfl))))),?_⟩
  have a:=IA.one (C:=A.bq) hx hd
  refine ⟨x,A.bq,dx,[],v0,rfl,a.i,T.cQ.cl,T.iR,by decide,?_⟩
  replace a:=a.put hx [("number",v0)]
  refine ⟨x,A.bq,dx,_,rfl,a.i,T.cQ.cl,T.gD,by simp,?_⟩
  replace a:=a.put hx [("number",v0),("name",v1)]
  refine ⟨_,l0,rfl,.inl (a.s.seq s0),fun n0 f0=>?_⟩
  have e0:=a.ne f0
  have h0:=aj.free a.s f0
  have k0:=a.nw n0 (HO.lst l0)
  replace a:=a.new f0 (HO.lst l0)
  refine ⟨x,A.bq,dx,_,rfl,a.i,T.cQ.cl,T.eP,by simp,?_⟩
  replace a:=a.put hx [("number",v0),("name",v1),("parts",.ref n0)]
  replace k0:=ah (u:=.ins A.bq dx [("number",v0),("name",v1),("parts",.ref n0)]) e0 k0
  refine ⟨_,l1,rfl,.inl (a.s.seq s1),fun n1 f1=>?_⟩
  have e1:=a.ne f1
  have h1:=aj.free a.s f1
  replace k0:=aj.upd f1 (HO.lst l1) _ _ k0
  have k1:=a.nw n1 (HO.lst l1)
  replace a:=a.new f1 (HO.lst l1)
  refine ⟨x,A.bq,dx,_,rfl,a.i,T.cQ.cl,T.gE,by simp,?_⟩
  replace a:=a.put hx [("number",v0),("name",v1),("parts",.ref n0),("body",.ref n1)]
  replace k0:=ah (u:=.ins A.bq dx [("number",v0),("name",v1),("parts",.ref n0),("body",.ref n1)]) e0 k0
  replace k1:=ah (u:=.ins A.bq dx [("number",v0),("name",v1),("parts",.ref n0),("body",.ref n1)]) e1 k1
  exact q n0 n1 _ h0 h1 a.s k0 k1 a.i
theorem pA {H:Hp}{x dx:Addr}{R:VK}{v0 v1:V}{t0:Addr}{l0:List V} (s0:SqL K H t0 l0) {t1:Addr}{l1:List V} (s1:SqL K H t1 l1) (hx:H x=none) (hd:H dx=none) (q:∀(n0 n1:Addr) (H':Hp),H n0=none->H n1=none->aj H H'->H' n0=some (.lst l0)->H' n1=some (.lst l1)->H' x=some (.ins A.bq dx [("number",v0),("name",v1),("parts",.ref n0),("body",.ref n1)])->R .non H'):js K A (.ref x :: ([v0,v1,.ref t0,.ref t1] ++ [])) (upd (upd H dx (.own x)) x (.ins A.bq dx [])) R E0:=⟨x,dx,_,_,_,_,_,_,H,rfl,rfl,hx,hd,s0,s1,q⟩
def jE (K:W.Frag) (A:Adr):Sp:=fun vs G R _=>∃(x dx:Addr) (t0 t1 t2:Addr) (l0 l1 l2:List V) (H:Hp),vs=[.ref x,.ref t0,.ref t1,.ref t2]/\G=upd (upd H dx (.own x)) x (.ins A.Program dx [])/\H x=none/\H dx=none/\SqL K H t0 l0/\SqL K H t1 l1/\SqL K H t2 l2/\∀(n0 n1 n2:Addr) (H':Hp),H n0=none->H n1=none->H n2=none->aj H H'->H' n0=some (.lst l0)->H' n1=some (.lst l1)->H' n2=some (.lst l2)->H' x=some (.ins A.Program dx [("heads",.ref n0),("deeds",.ref n1),("main",.ref n2)])->R .non H'
theorem oZ (T:Txt K mg A):cR P w K mg base 3 A.Program "__init__" ["self","heads","deeds","main"] (jE K A):=by
 refine T.jN.has (k:=2) nA (fun vs G R E h=>?_) (fun f cdv A' outer s G vs R E hr hu h=>?_)
 ·obtain ⟨x,dx,t0,t1,t2,l0,l1,l2,H,rfl,_⟩:=h
  rfl
 ·obtain ⟨x,dx,t0,t1,t2,l0,l1,l2,H,rfl,rfl,hx,hd,s0,s1,s2,q⟩:=h
  refine ⟨_,(ab (bf (fv 0) (bY iE rfl T.dE (by boot_by_name) (aa (fv 1) af)) rfl)
  (ab (bf (fv 0) (bY iE rfl T.dE (by boot_by_name) (aa (fv 2) af)) rfl)
  (ag (bf (fv 0) (bY iE rfl T.dE (by boot_by_name) (aa (fv 3) af)) rfl)))),?_⟩
  have a:=IA.one (C:=A.Program) hx hd
  refine ⟨_,l0,rfl,.inl (a.s.seq s0),fun n0 f0=>?_⟩
  have e0:=a.ne f0
  have h0:=aj.free a.s f0
  have k0:=a.nw n0 (HO.lst l0)
  replace a:=a.new f0 (HO.lst l0)
  refine ⟨x,A.Program,dx,[],rfl,a.i,T.dz.cl,T.eK,by simp,?_⟩
  replace a:=a.put hx [("heads",.ref n0)]
  replace k0:=ah (u:=.ins A.Program dx [("heads",.ref n0)]) e0 k0
  refine ⟨_,l1,rfl,.inl (a.s.seq s1),fun n1 f1=>?_⟩
  have e1:=a.ne f1
  have h1:=aj.free a.s f1
  replace k0:=aj.upd f1 (HO.lst l1) _ _ k0
  have k1:=a.nw n1 (HO.lst l1)
  replace a:=a.new f1 (HO.lst l1)
  refine ⟨x,A.Program,dx,_,rfl,a.i,T.dz.cl,T.eN,by simp,?_⟩
  replace a:=a.put hx [("heads",.ref n0),("deeds",.ref n1)]
  replace k0:=ah (u:=.ins A.Program dx [("heads",.ref n0),("deeds",.ref n1)]) e0 k0
  replace k1:=ah (u:=.ins A.Program dx [("heads",.ref n0),("deeds",.ref n1)]) e1 k1
  refine ⟨_,l2,rfl,.inl (a.s.seq s2),fun n2 f2=>?_⟩
  have e2:=a.ne f2
  have h2:=aj.free a.s f2
  replace k0:=aj.upd f2 (HO.lst l2) _ _ k0
  replace k1:=aj.upd f2 (HO.lst l2) _ _ k1
  have k2:=a.nw n2 (HO.lst l2)
  replace a:=a.new f2 (HO.lst l2)
  refine ⟨x,A.Program,dx,_,rfl,a.i,T.dz.cl,T.gq,by simp,?_⟩
  replace a:=a.put hx [("heads",.ref n0),("deeds",.ref n1),("main",.ref n2)]
  replace k0:=ah (u:=.ins A.Program dx [("heads",.ref n0),("deeds",.ref n1),("main",.ref n2)]) e0 k0
  replace k1:=ah (u:=.ins A.Program dx [("heads",.ref n0),("deeds",.ref n1),("main",.ref n2)]) e1 k1
  replace k2:=ah (u:=.ins A.Program dx [("heads",.ref n0),("deeds",.ref n1),("main",.ref n2)]) e2 k2
  exact q n0 n1 n2 _ h0 h1 h2 a.s k0 k1 k2 a.i
theorem uJ {H:Hp}{x dx:Addr}{R:VK}{t0:Addr}{l0:List V} (s0:SqL K H t0 l0) {t1:Addr}{l1:List V} (s1:SqL K H t1 l1) {t2:Addr}{l2:List V} (s2:SqL K H t2 l2) (hx:H x=none) (hd:H dx=none) (q:∀(n0 n1 n2:Addr) (H':Hp),H n0=none->H n1=none->H n2=none->aj H H'->H' n0=some (.lst l0)->H' n1=some (.lst l1)->H' n2=some (.lst l2)->H' x=some (.ins A.Program dx [("heads",.ref n0),("deeds",.ref n1),("main",.ref n2)])->R .non H'):jE K A (.ref x :: ([.ref t0,.ref t1,.ref t2] ++ [])) (upd (upd H dx (.own x)) x (.ins A.Program dx [])) R E0:=⟨x,dx,_,_,_,_,_,_,H,rfl,rfl,hx,hd,s0,s1,s2,q⟩
end
section
variable {P:Program}{w:World}{K:W.Frag}{mg:Str->Option Value}{base:Heap}{A:Adr}{N:Nat->Str}
theorem ax {t u:TS}{D:Ends}{σ:St}{H:Hp} (h:∀N:St->Hp->Prop,(∀σ H,u D σ H->N σ H)->t { D with nx:=N } σ H):xk t u D σ H:=h (u D) fun _ _ z=>z
def ja (N:Nat->Str):Prop:=∀i j,i < 18->j < 18->N i=N j->i=j
def dk (N:Nat->Str) (idx:List Nat) (f:Nat->V):List (Key × V):=idx.map fun i=>(Sum.inr (N i),f i)
theorem key_ne (D:ja N) {i j:Nat} (hi:i < 18) (hj:j < 18) (h:i ≠ j):(Sum.inr (N i):Key) ≠ Sum.inr (N j):=fun e=>h (D i j hi hj (Sum.inr.inj e))
theorem eQ (D:ja N) {f:Nat->V}{i:Nat}:∀{idx:List Nat},(∀j ∈ idx,j < 18)->i ∈ idx->L2.fh (dk N idx f) (.inr (N i))=some (f i)
 | j :: r,hb,m=>by
  by_cases e:j=i
  ·subst e
   unfold L2.fh dk
   rw [List.map_cons,List.find?_cons]
   simp
  ·have hj:=hb j List.mem_cons_self
   have m':i ∈ r:=by
    rcases List.mem_cons.mp m with z | z
    ·exact absurd z.symm e
    ·exact z
   have hi:=hb i m
   have ih:=eQ D (f:=f) (i:=i) (idx:=r) (fun k hk=>hb k (List.mem_cons_of_mem _ hk)) m'
   unfold L2.fh dk at ih ⊢
   rw [List.map_cons,List.find?_cons,decide_eq_false (key_ne D hj hi e)]
   exact ih
theorem y6 (D:ja N) {f:Nat->V}{i:Nat} (hi:i < 18) {idx:List Nat} (hb:∀j ∈ idx,j < 18):((dk N idx f).any fun kv=>decide (kv.1=(Sum.inr (N i):Key)))=decide (i ∈ idx):=by
 unfold dk
 rw [List.any_map]
 by_cases m:i ∈ idx
 ·rw [decide_eq_true m,List.any_eq_true]
  exact ⟨i,m,decide_eq_true rfl⟩
 ·rw [decide_eq_false m,List.any_eq_false]
  intro j hj
  show ¬ decide ((Sum.inr (N j):Key)=Sum.inr (N i))=true
  rw [decide_eq_false (key_ne D (hb j hj) hi (fun z=>m (z ▸ hj)))]
  exact Bool.false_ne_true
theorem du {f g:Nat->V}{idx:List Nat} (h:∀i ∈ idx,f i=g i):dk N idx f=dk N idx g:=List.map_congr_left fun i hi=>by rw [h i hi]
def rW (f:Nat->V) (i:Nat) (v:V):Nat->V:=fun j=>if j=i then v else f j
theorem dA (f:Nat->V) (i:Nat) (v:V):rW f i v i=v:=if_pos rfl
theorem fE (f:Nat->V) {i j:Nat} (v:V) (h:j ≠ i):rW f i v j=f j:=if_neg h
theorem yM (D:ja N) {f:Nat->V}{i:Nat}{v:V}{idx:List Nat} (hb:∀j ∈ idx,j < 18) (m:i ∈ idx):putK (dk N idx f) (.inr (N i)) v=dk N idx (rW f i v):=by
 unfold putK
 rw [y6 D (hb i m) hb,decide_eq_true m,if_pos rfl]
 unfold dk
 rw [List.map_map]
 refine List.map_congr_left fun j hj=>?_
 show (if (Sum.inr (N j):Key)=Sum.inr (N i) then ((Sum.inr (N j):Key),v) else (Sum.inr (N j),f j))=(Sum.inr (N j),rW f i v j)
 by_cases e:j=i
 ·rw [e,if_pos rfl,dA]
 ·rw [if_neg (key_ne D (hb j hj) (hb i m) e),fE _ _ e]
theorem fg (D:ja N) {f:Nat->V}{i:Nat}{v:V}{idx:List Nat} (hi:i < 18) (hb:∀j ∈ idx,j < 18) (m:i ∉ idx):putK (dk N idx f) (.inr (N i)) v=dk N (idx ++ [i]) (rW f i v):=by
 unfold putK
 rw [y6 D hi hb,decide_eq_false m,if_neg Bool.false_ne_true]
 unfold dk
 rw [List.map_append,List.map_cons,List.map_nil,dA]
 congr 1
 refine List.map_congr_left fun j hj=>?_
 rw [fE _ _ (fun z=>m (by rw [<- z];exact hj))]
theorem eB (f:Nat->V) (idx:List Nat):(dk N idx f).length=idx.length:=List.length_map _
theorem BJ (D:ja N) {f:Nat->V}{idx:List Nat} (hb:∀j ∈ idx,j < 18) {k:Key}{v:V} (h:L2.fh (dk N idx f) k=some v):∃j ∈ idx,k=Sum.inr (N j)/\v=f j:=by
 unfold L2.fh at h
 cases e:(dk N idx f).find? fun kv=>decide (kv.1=k) with
 | none=>rw [e] at h;cases h
 | some kv =>
  rw [e] at h
  have h1:=List.mem_of_find?_eq_some e
  have h2:kv.1=k:=of_decide_eq_true (List.find?_some (p:=fun kv:Key × V=>decide (kv.1=k)) e)
  obtain ⟨j,hj,rfl⟩:=List.mem_map.mp h1
  exact ⟨j,hj,h2.symm,(Option.some.inj h).symm⟩
theorem cw {α β:Type}{F:α->β->Prop}:∀{l₁:List α}{l₂:List β}{i:Nat}{a:α},Paired F l₁ l₂->l₁[i]?=some a->∃b,l₂[i]?=some b/\F a b
 | _,_,_,_,.nil,h=>by cases h
 | _,_,0,_,.cons h _,e=>by cases e;exact ⟨_,rfl,h⟩
 | _,_,i + 1,_,.cons _ r,e=>by
  have:∃b,_:=cw (i:=i) r e
  exact this
theorem qe {α β:Type} (f:β->α->β) (b:β) {xs:List α}{i:Nat}{x:α} (h:xs[i]?=some x):(xs.take (i + 1)).foldl f b=f ((xs.take i).foldl f b) x:=by
 rw [List.take_add_one,h,List.foldl_append]
 rfl
abbrev cls (A:Adr):List Addr:=[A.cb,A.Row,A.bM,A.aX,A.bG,A.b9,A.bX,A.bP,A.bp,A.bJ,A.bI,A.cB,A.bQ,A.aW,A.bq,A.Program,A.Run]
theorem av (T:Txt K mg A) (i j:Nat) (hi:i < 17:=by decide) (hj:j < 17:=by decide) (h:i ≠ j:=by decide):(cls A)[i]'hi ≠ (cls A)[j]'hj:=fun e=>h ((List.getElem_inj T.nd).mp e)
theorem lO {C:Addr}{x:Str}{up:List Addr} (O:eG K mg C x up) (hs:C ∈ up:=by exact List.mem_cons_self):W.kitOne K (.ref C) (.ref C)=some true:=by
 rw [O.kit O hs,decide_eq_true hs]
theorem cf {C D R:Addr}{x y:Str}{vp:List Addr} (O:eG K mg C x [C,R]) (U:eG K mg D y vp) (h1:D ≠ C) (h2:D ≠ R):W.kitOne K (.ref C) (.ref D)=some false:=by
 rw [O.kit U List.mem_cons_self,decide_eq_false]
 intro m
 rcases List.mem_cons.mp m with e | m
 ·exact h1 e
 ·rcases List.mem_cons.mp m with e | m
  ·exact h2 e
  ·cases m
def rkn (a b:Int) (x:Str):Int :=
 if decide (V.str x=V.str "+")=true then (a + b) % 1000000000000
 else if decide (V.str x=V.str "-")=true then (a - b) % 1000000000000
 else if decide (V.str x=V.str "*")=true then (a * b) % 1000000000000
 else if decide (V.str x=V.str "over")=true then (if decide (V.int b=V.int 0)=true then 0 else a / b)
 else if decide (V.str x=V.str "rest")=true then (if decide (V.int b=V.int 0)=true then a else a % b)
 else if decide (V.str x=V.str "<")=true then (if decide (a < b)=true then 1 else 0)
 else (if decide (V.int a=V.int b)=true then 1 else 0)
def In (n:Int):Prop:=0 <= n/\n < 1000000000000
theorem B8 {a b:Int} (ha:In a) (hb:In b) (x:Str):In (rkn a b x):=by
 have md:∀z:Int,In (z % 1000000000000):=fun z=>bK z (by decide)
 have t1:In 1:=⟨by decide,by decide⟩
 have t0:In 0:=⟨by decide,by decide⟩
 unfold rkn
 split
 ·exact md _
 split
 ·exact md _
 split
 ·exact md _
 split
 ·split
  ·exact t0
  ·rename_i h
   rw [fW,decide_eq_true_iff] at h
   have hp:0 < b:=by have:=hb.1;omega
   refine ⟨Int.ediv_nonneg ha.1 hb.1,Int.lt_of_le_of_lt (Int.ediv_le_self b ha.1) ha.2⟩
 split
 ·split
  ·exact ha
  ·rename_i h
   rw [fW,decide_eq_true_iff] at h
   have hp:0 < b:=by have:=hb.1;omega
   have:=bK a hp
   exact ⟨this.1,Int.lt_trans this.2 hb.2⟩
 split
 ·split
  ·exact t1
  ·exact t0
 ·split
  ·exact t1
  ·exact t0
theorem xY {a:Int}{n:Nat} (hn:0 < n):rkn a (n:Int) "rest"=a % (n:Int):=by
 unfold rkn
 rw [if_neg (by decide),if_neg (by decide),if_neg (by decide),if_neg (by decide),if_pos (by decide),if_neg (by rw [fW,decide_eq_true_iff];omega)]
abbrev opW:List Str:=["+","-","*","over","rest","<","="]
theorem Az {w:Str} (h:w ∈ opW):w ≠ "at":=by
 rintro rfl
 revert h
 decide
theorem yZ (D:ja N) {H:Hp}{d:Addr}{idx:List Nat}{f:Nat->V} (h:Rd H d (.dK (dk N idx f))) (hb:∀j ∈ idx,j < 18) {k:Nat} (hk:k ∈ idx):bu H d (.str (N k)) (some (f k)):=by
 rw [<- eQ D (f:=f) hb hk]
 exact .inl ⟨_,_,h,rfl,rfl⟩
theorem sU {K:W.Frag}{a:Addr}{xs:List V}{fr:List Nat}{te:CB->TE}{Q:VK}{σ:St}{H1:Hp} (R:Nat->V->Hp->Prop) (hx:SqL K H1 a xs) (hn:xs.length < sizeLine)
  (he:∀b i x H (G:VK),xs[i]?=some x->aj H1 H->(∀y H',aj H H'->R i y H'->G y H')->te b (some x :: cFr fr σ) H G)
  (mono:∀i y H H',aj H H'->R i y H->R i y H') (st:∀i y H D ys zs,H D=some (.lst ys)->R i y H->R i y (upd H D (.lst zs)))
  (fin:∀D H ys,H1 D=none->aj H1 H->H D=some (.lst ys)->ys.length=xs.length->(∀(i:Nat) y,ys[i]?=some y->R i y H)->Q (.ref D) H):mJ (Itl K a) 1 fr (fun _=>jY 0) (fun _=>AL) te Q σ H1:=by
 refine jS (x:=fun i=>xs.getD i .non) R hn (fun H s=>⟨xs,s.seq hx,Nat.le_refl _⟩) (fun i H h s=>⟨xs,xs[i],s.seq hx,List.getElem?_eq_getElem h⟩)
  (fun i H v H' h s y=>⟨y.1,?_⟩) (fun b i H G h s k=>he b i _ H G (by rw [List.getD_eq_getElem?_getD,List.getElem?_eq_getElem h];rfl) s k) mono st fin
 have:=y.2 xs (s.seq hx)
 rw [List.getD_eq_getElem?_getD,this]
 rfl
end
section
inductive Th where
 | i (n:Int) | x (a:Nat)
inductive Val where
 | one (a:Th) | op (a:Th) (w:Str) (b:Th) | atl (x:Nat) (b:Th)
inductive Rw where
 | set (n:Int) (x:Nat) (v:Val)
 | put (n:Int) (x:Nat) (p:Th) (v:Val)
 | snd (n:Int) (h:Nat) (v:Val)
 | say (n:Int) (x:Nat) (v:Val) (m:Nat)
 | last (n:Int)
 | call (n:Int) (i:Nat) (ts:List Th)
 | iff (n:Int) (v:Val) (f o:List Rw) (l r:Int)
 | loop (n:Int) (t:Th) (m:Int) (b:List Rw) (l r:Int)
structure Dd where
 nm:Nat
 parts:List Nat
 body:List Rw
structure En where
 N:Nat->Str
 idx:List Nat
 sz:Nat->Nat
 ds:List Dd
 dv:List V
structure S where
 num:Nat->Int
 lst:Nat->List Int
 steps:Int
 trace:List (List V)
 dI:List (List V)
 mf:List (List V)
variable {E:En}{s:S}{B:Int}
def Th.v (N:Nat->Str):Th->V
 | .i n=>.int n
 | .x a=>.str (N a)
def vV (N:Nat->Str):Val->List V
 | .one a=>[a.v N]
 | .op a w b=>[a.v N,.str w,b.v N]
 | .atl x b=>[.str (N x),.str "at",b.v N]
def Th.num (s:S):Th->Int
 | .i n=>n
 | .x a=>s.num a
def lat (xs:List Int) (i:Int):Int:=xs.getD (i % (xs.length:Int)).toNat 0
def Val.num (s:S):Val->Int
 | .one a=>a.num s
 | .op a w b=>rkn (a.num s) (b.num s) w
 | .atl x b=>lat (s.lst x) (b.num s)
def Th.ok (E:En):Th->Prop
 | .i n=>In n
 | .x a=>a ∈ E.idx/\E.sz a=0
def Val.ok (E:En):Val->Prop
 | .one a=>a.ok E
 | .op a w b=>a.ok E/\b.ok E/\w ∈ opW
 | .atl x b=>x ∈ E.idx/\0 < E.sz x/\b.ok E
structure S.ok (E:En) (s:S):Prop where
 num:∀a,In (s.num a)
 lst:∀x,∀n ∈ s.lst x,In n
 len:∀x ∈ E.idx,0 < E.sz x->(s.lst x).length=E.sz x
theorem By {xs:List Int} (h:∀n ∈ xs,In n) (i:Int):In (lat xs i):=by
 unfold lat
 rw [List.getD_eq_getElem?_getD]
 cases e:xs[(i % (xs.length:Int)).toNat]? with
 | none=>exact ⟨by decide,by decide⟩
 | some n=>exact h n (List.mem_of_getElem? e)
theorem Th.cj (hs:s.ok E) {t:Th} (h:t.ok E):In (t.num s):=by
 cases t with
 | i n=>exact h
 | x a=>exact hs.num a
theorem Val.cj (hs:s.ok E) {v:Val} (h:v.ok E):In (v.num s):=by
 cases v with
 | one a=>exact Th.cj hs h
 | op a w b=>exact B8 (Th.cj hs h.1) (Th.cj hs h.2.1) w
 | atl x b=>exact By (hs.lst x) _
def S.idle (s:S) (n:Int):S:={ s with steps:=s.steps + n }
def S.tell (s:S) (n:Int) (v:V):S:={ s with steps:=s.steps + 1,trace:=s.trace ++ [[.int n,.int (s.steps + 1),v]] }
def S.ji (s:S) (w:List V):S:={ s with dI:=s.dI ++ [w] }
def S.jr (s:S) (w:List V):S:={ s with mf:=s.mf ++ [w] }
def S.put (s:S) (x:Nat) (v:Int):S:={ s with num:=fun a=>if a=x then v else s.num a }
def S.nB (s:S) (x:Nat) (i v:Int):S:={ s with lst:=fun a=>if a=x then (s.lst x).set (i % ((s.lst x).length:Int)).toNat v else s.lst a }
def S.pO (s:S) (xs:List (Nat × Int)):S:=xs.foldl (fun s p=>s.put p.1 p.2) s
def rounds (body:S->S × Bool) (l:Int):Nat->Nat->S->S × Nat
 | 0,k,s=>(s,k)
 | n + 1,k,s=>if (body s).2=true then ((body s).1.idle l,k + 1) else rounds body l n (k + 1) ((body s).1.idle l)
def step (f:S->Rw->S × Bool) (p:S × Bool) (r:Rw):S × Bool:=((f p.1 r).1,p.2 || (f p.1 r).2)
def aU (f:S->Rw->S × Bool) (s:S) (xs:List Rw):S × Bool:=xs.foldl (step f) (s,false)
def leaf (N:Nat->Str) (s:S):Rw->S × Bool
 | .set n x v=>((s.tell n .non).put x (v.num s),false)
 | .put n x p v=>((s.tell n .non).nB x (p.num s) (v.num s),false)
 | .snd n h v=>((s.tell n (.int (v.num s))).ji [.int (s.steps + 1),.int n,.str (N h),.int (v.num s)],false)
 | .say n x v m=>(((s.tell n (.int (v.num s))).put x (v.num s)).jr [.int (s.steps + 1),.int n,.str (N m),.int (v.num s)],false)
 | .last n=>(s.tell n .non,true)
 | .call n _ _=>(s.tell n .non,false)
 | .iff n _ _ _ _ _=>(s.tell n .non,false)
 | .loop n _ _ _ _ _=>(s.tell n .non,false)
def want (s:S) (t:Th) (m:Int):Int:=if m < t.num s then m else t.num s
def doR (E:En):Nat->S->Rw->S × Bool
 | d + 1,s,.call n i ts=>match E.ds[i]? with
  | some D=>((aU (doR E d) ((s.tell n .non).pO (D.parts.zip (ts.map (Th.num s)))) D.body).1,false)
  | none=>(s.tell n .non,false)
 | d + 1,s,.iff n v f o l r=>if v.num s ≠ 0 then ((aU (doR E d) (s.tell n .non) f).1.idle l,(aU (doR E d) (s.tell n .non) f).2) else ((aU (doR E d) (s.tell n .non) o).1.idle r,(aU (doR E d) (s.tell n .non) o).2)
 | d + 1,s,.loop n t m b l r=>((rounds (fun s=>aU (doR E d) s b) l (want s t m).toNat 0 (s.tell n .non)).1.idle (r * (m - (rounds (fun s=>aU (doR E d) s b) l (want s t m).toNat 0 (s.tell n .non)).2)),false)
 | _,s,r=>leaf E.N s r
def aE (E:En):Nat->Rw->Int
 | d + 1,.call _ i _=>match E.ds[i]? with
  | some D=>1 + (D.body.map (aE E d)).sum
  | none=>1
 | d + 1,.iff _ _ f o l r=>1 + (if l + (f.map (aE E d)).sum < r + (o.map (aE E d)).sum then r + (o.map (aE E d)).sum else l + (f.map (aE E d)).sum)
 | d + 1,.loop _ _ m b l r=>1 + m * (if l + (b.map (aE E d)).sum < r then r else l + (b.map (aE E d)).sum)
 | _,_=>1
def Wf (E:En):Nat->Rw->Prop
 | _,.set _ x v=>x ∈ E.idx/\E.sz x=0/\v.ok E
 | _,.put _ x p v=>x ∈ E.idx/\0 < E.sz x/\p.ok E/\v.ok E
 | _,.snd _ _ v=>v.ok E
 | _,.say _ x v _=>x ∈ E.idx/\E.sz x=0/\v.ok E
 | _,.last _=>True
 | d + 1,.call _ i ts=>(∀t ∈ ts,t.ok E)/\ts.length <= 4/\∃D,E.ds[i]?=some D/\D.parts.length=ts.length/\∀r ∈ D.body,Wf E d r
 | d + 1,.iff _ v f o l r=>v.ok E/\0 <= l/\0 <= r/\(∀q ∈ f,Wf E d q)/\∀q ∈ o,Wf E d q
 | d + 1,.loop _ t m b l r=>t.ok E/\0 <= m/\m <= 1000/\0 <= l/\0 <= r/\∀q ∈ b,Wf E d q
 | 0,.call _ _ _=>False
 | 0,.iff _ _ _ _ _ _=>False
 | 0,.loop _ _ _ _ _ _=>False
structure S.room (s:S) (B n:Int):Prop where
 st:s.steps + n <= B
 t:(s.trace.length:Int) <= s.steps
 l:(s.dI.length:Int) <= s.steps
 d:(s.mf.length:Int) <= s.steps
theorem S.room.le {n m:Int} (h:s.room B n) (hm:m <= n):s.room B m:=⟨by have:=h.st;omega,h.t,h.l,h.d⟩
theorem eu {n:Int} (h:s.room B (1 + n)) (m:Int) (v:V):(s.tell m v).room B n:=⟨by have:=h.st;show s.steps + 1 + n <= _;omega,by have:=h.t;show ((s.trace ++ [_]).length:Int) <= s.steps + 1;rw [List.length_append];simp;omega,by have:=h.l;show (s.dI.length:Int) <= s.steps + 1;omega,by have:=h.d;show (s.mf.length:Int) <= s.steps + 1;omega⟩
theorem f9 {n l:Int} (h:s.room B (l + n)) (h0:0 <= l):(s.idle l).room B n:=⟨by have:=h.st;show s.steps + l + n <= _;omega,by have:=h.t;show (s.trace.length:Int) <= s.steps + l;omega,by have:=h.l;show (s.dI.length:Int) <= s.steps + l;omega,by have:=h.d;show (s.mf.length:Int) <= s.steps + l;omega⟩
theorem rZ {n:Int} (h:s.room B n) (x:Nat) (v:Int):(s.put x v).room B n:=⟨h.st,h.t,h.l,h.d⟩
theorem mF {n:Int} (h:s.room B n):∀xs:List (Nat × Int),(s.pO xs).room B n:=fun xs=>by
 induction xs generalizing s with
 | nil=>exact h
 | cons p r ih=>exact ih (s:=s.put p.1 p.2) (rZ h _ _)
theorem kJ (E:En):∀(d:Nat) (r:Rw),Wf E d r->1 <= aE E d r:=by
 have nn:∀(d:Nat) (xs:List Rw),(∀r ∈ xs,1 <= aE E d r)->0 <= (xs.map (aE E d)).sum:=fun d xs h=>by
  induction xs with
  | nil=>exact Int.le_refl _
  | cons x r ih =>
   rw [List.map_cons,List.sum_cons]
   have:=h x List.mem_cons_self
   have:=ih fun q hq=>h q (List.mem_cons_of_mem _ hq)
   omega
 intro d
 induction d with
 | zero=>intro r h;cases r <;> first | exact Int.le_refl _ | exact h.elim
 | succ d ih =>
  intro r h
  cases r with
  | call n i ts =>
   obtain ⟨_,_,D,hD,_,hb⟩:=h
   unfold aE
   rw [hD]
   have:=nn d D.body fun q hq=>ih q (hb q hq)
   show 1 <= 1 + _
   omega
  | iff n v f o l r =>
   obtain ⟨_,h1,h2,h3,h4⟩:=h
   unfold aE
   have:=nn d f fun q hq=>ih q (h3 q hq)
   have:=nn d o fun q hq=>ih q (h4 q hq)
   split <;> omega
  | loop n t m b l r =>
   obtain ⟨_,h1,_,h2,h3,h4⟩:=h
   unfold aE
   have:=nn d b fun q hq=>ih q (h4 q hq)
   have:0 <= m * (if l + (b.map (aE E d)).sum < r then r else l + (b.map (aE E d)).sum):=Int.mul_nonneg h1 (by split <;> omega)
   omega
  | _=>exact Int.le_refl _
theorem lG (E:En) {d:Nat}{xs:List Rw} (h:∀r ∈ xs,Wf E d r):0 <= (xs.map (aE E d)).sum:=by
 induction xs with
 | nil=>exact Int.le_refl _
 | cons x r ih =>
  rw [List.map_cons,List.sum_cons]
  have:=kJ E d x (h x List.mem_cons_self)
  have:=ih fun q hq=>h q (List.mem_cons_of_mem _ hq)
  omega
theorem i4 {E:En}{f:S->Rw->S × Bool}{c:Rw->Int}{p:Rw->Prop} (one:∀(s:S) (r:Rw) (n:Int),p r->s.room B (c r + n)->(f s r).1.room B n):∀(xs:List Rw) (s:S × Bool) (n:Int),(∀r ∈ xs,p r)->s.1.room B ((xs.map c).sum + n)->(xs.foldl (step f) s).1.room B n
 | [],s,n,_,h=>by simpa using h
 | r :: xs,s,n,hp,h=>by
  rw [List.foldl_cons]
  refine i4 (E:=E) one xs _ n (fun q hq=>hp q (List.mem_cons_of_mem _ hq)) (one s.1 r _ (hp r List.mem_cons_self) ?_)
  rw [List.map_cons,List.sum_cons,Int.add_assoc] at h
  exact h
theorem mV {body:S->S × Bool}{c l:Int} (l0:0 <= l) (one:∀(s:S) (n:Int),s.room B (c + n)->(body s).1.room B n) (c0:0 <= c):∀(k j:Nat) (s:S) (n:Int),s.room B ((k:Int) * (l + c) + n)->((rounds body l k j s).1.room B ((k:Int) * (l + c) - ((rounds body l k j s).2 - j:Int) * (l + c) + n))/\j <= (rounds body l k j s).2/\(rounds body l k j s).2 <= k + j
 | 0,j,s,n,h=>by
  simp only [rounds]
  refine ⟨?_,Nat.le_refl _,by omega⟩
  rw [Int.sub_self,Int.zero_mul,Int.sub_zero]
  exact h
 | k + 1,j,s,n,h=>by
  have e:((k + 1:Nat):Int) * (l + c)=(k:Int) * (l + c) + (l + c):=by rw [Int.natCast_succ,Int.add_mul,Int.one_mul]
  rw [e] at h ⊢
  have h1:((body s).1.idle l).room B ((k:Int) * (l + c) + n):=f9 (one s _ (h.le (by omega))) l0
  simp only [rounds]
  split
  ·refine ⟨?_,by show j <= j + 1;omega,by show j + 1 <= k + 1 + j;omega⟩
   show S.room _ B ((k:Int) * (l + c) + (l + c) - (((j + 1:Nat):Int) - j) * (l + c) + n)
   rw [show ((j + 1:Nat):Int) - j=1 by omega,Int.one_mul]
   exact h1.le (by omega)
  ·obtain ⟨i1,i2,i3⟩:=mV l0 one c0 k (j + 1) ((body s).1.idle l) n h1
   refine ⟨i1.le ?_,by omega,by omega⟩
   have:(((rounds body l k (j + 1) ((body s).1.idle l)).2:Int) - (j:Int)) * (l + c)=(((rounds body l k (j + 1) ((body s).1.idle l)).2:Int) - ((j + 1:Nat):Int)) * (l + c) + (l + c):=by
    rw [show ((rounds body l k (j + 1) ((body s).1.idle l)).2:Int) - (j:Int)=(((rounds body l k (j + 1) ((body s).1.idle l)).2:Int) - ((j + 1:Nat):Int)) + 1 by omega,Int.add_mul,Int.one_mul]
   omega
theorem gf (N:Nat->Str) {n:Int} (h:s.room B (1 + n)) (r:Rw):(leaf N s r).1.room B n:=by
 have a:=fun m v=>eu h m v
 cases r with
 | set m x v=>exact rZ (a m .non) _ _
 | put m x p v=>exact ⟨(a m .non).st,(a m .non).t,(a m .non).l,(a m .non).d⟩
 | snd m x v =>
  have b:=a m (.int (v.num s))
  refine ⟨b.st,b.t,?_,b.d⟩
  have:=h.l
  show ((s.dI ++ [_]).length:Int) <= s.steps + 1
  rw [List.length_append]
  simp
  omega
 | say m x v y =>
  have b:=a m (.int (v.num s))
  refine ⟨b.st,b.t,b.l,?_⟩
  have:=h.d
  show ((s.mf ++ [_]).length:Int) <= s.steps + 1
  rw [List.length_append]
  simp
  omega
 | last m=>exact a m .non
 | call m i ts=>exact a m .non
 | iff m v f o l r=>exact a m .non
 | loop m t k b l r=>exact a m .non
theorem qZ (s:S) (t:Th) (m:Int):want s t m <= m:=by unfold want;split <;> omega
theorem uW (hs:s.ok E) {t:Th} (ht:t.ok E) {m:Int} (hm:0 <= m):0 <= want s t m:=by
 have:=(Th.cj hs ht).1
 unfold want
 split <;> omega
theorem kr (E:En):∀(d:Nat) (s:S) (r:Rw) (n:Int),Wf E d r->s.room B (aE E d r + n)->(doR E d s r).1.room B n:=by
 intro d
 induction d with
 | zero=>intro s r n w h;cases r <;> first | exact gf E.N h _ | exact w.elim
 | succ d ih =>
  intro s r n w h
  have rows:∀(xs:List Rw) (s:S) (n:Int),(∀r ∈ xs,Wf E d r)->s.room B ((xs.map (aE E d)).sum + n)->(aU (doR E d) s xs).1.room B n:=fun xs s n hw hr=>i4 (E:=E) (p:=Wf E d) (fun s r n w h=>ih s r n w h) xs (s,false) n hw hr
  cases r with
  | call m i ts =>
   obtain ⟨_,_,D,hD,_,hb⟩:=w
   unfold aE at h
   unfold doR
   rw [hD] at h ⊢
   dsimp only at h ⊢
   exact rows D.body _ n hb (mF (eu (h.le (by omega)) m .non) _)
  | iff m v f o l r =>
   obtain ⟨_,h1,h2,h3,h4⟩:=w
   unfold aE at h
   unfold doR
   have b1:1 + (l + (f.map (aE E d)).sum) + n <= 1 + (if l + (f.map (aE E d)).sum < r + (o.map (aE E d)).sum then r + (o.map (aE E d)).sum else l + (f.map (aE E d)).sum) + n:=by split <;> omega
   have b2:1 + (r + (o.map (aE E d)).sum) + n <= 1 + (if l + (f.map (aE E d)).sum < r + (o.map (aE E d)).sum then r + (o.map (aE E d)).sum else l + (f.map (aE E d)).sum) + n:=by split <;> omega
   split
   ·exact f9 (rows f _ (l + n) h3 (eu (h.le (by omega)) m .non)) h1
   ·exact f9 (rows o _ (r + n) h4 (eu (h.le (by omega)) m .non)) h2
  | loop m t k b l r =>
   obtain ⟨_,h1,_,h2,h3,h4⟩:=w
   unfold aE at h
   unfold doR
   have c0:=lG E h4
   generalize hc:(b.map (aE E d)).sum=c at h c0
   have mx:l + c <= (if l + c < r then r else l + c)/\r <= (if l + c < r then r else l + c):=by split <;> omega
   generalize (if l + c < r then r else l + c)=x at h mx
   have wk:=qZ s t k
   have kn:((want s t k).toNat:Int) <= k:=by omega
   have q1:((want s t k).toNat:Int) * (l + c) <= k * x:=Int.le_trans (Int.mul_le_mul_of_nonneg_right kn (by omega)) (Int.mul_le_mul_of_nonneg_left mx.1 h1)
   have q0:((want s t k).toNat:Int) * (l + c) + (k * x - ((want s t k).toNat:Int) * (l + c) + n)=k * x + n:=by omega
   obtain ⟨i1,i2,i3⟩:=mV (body:=fun s=>aU (doR E d) s b) (c:=c) h2 (fun s n hh=>rows b s n h4 (by rw [hc];exact hh)) c0 (want s t k).toNat 0 (s.tell m .non) (k * x - ((want s t k).toNat:Int) * (l + c) + n) (by rw [q0];exact eu (h.le (by omega)) m .non)
   generalize rounds (fun s=>aU (doR E d) s b) l (want s t k).toNat 0 (s.tell m .non)=q at i1 i2 i3
   have j0:(0:Int) <= (q.2:Int):=by omega
   have jk:(q.2:Int) <= k:=by omega
   have r1:r * (k - (q.2:Int)) <= x * (k - (q.2:Int)):=Int.mul_le_mul_of_nonneg_right mx.2 (by omega)
   have r2:(q.2:Int) * (l + c) <= (q.2:Int) * x:=Int.mul_le_mul_of_nonneg_left mx.1 j0
   have r3:x * (k - (q.2:Int)) + (q.2:Int) * x=k * x:=by
    rw [Int.mul_sub,Int.mul_comm x k,Int.mul_comm x]
    omega
   have r4:0 <= r * (k - (q.2:Int)):=Int.mul_nonneg h3 (by omega)
   refine f9 (i1.le ?_) r4
   rw [show ((q.2:Int) - ((0:Nat):Int))=(q.2:Int) by omega]
   omega
  | set m x v=>exact gf E.N h _
  | put m x p v=>exact gf E.N h _
  | snd m x v=>exact gf E.N h _
  | say m x v y=>exact gf E.N h _
  | last m=>exact gf E.N h _
end
section
variable {P:Program}{w:World}{K:W.Frag}{mg:Str->Option Value}{base:Heap}{A:Adr}{E:En}
def del (X:List Addr) (H:Hp):Hp:=fun a=>if a ∈ X then none else H a
theorem ao {X:List Addr}{H:Hp}:aj (del X H) H:=fun a o h=>by
 unfold del at h
 split at h
 ·cases h
 ·exact h
theorem aV {X:List Addr}{H:Hp}{a:Addr}{o:HO} (h:a ∉ X) (e:H a=some o):del X H a=some o:=by
 unfold del
 rw [if_neg h]
 exact e
theorem eO {X:List Addr}{H:Hp}{a:Addr}{o:HO} (h:del X H a=some o):a ∉ X/\H a=some o:=by
 unfold del at h
 split at h
 ·cases h
 ·exact ⟨by assumption,h⟩
structure Go (M:List Addr) (H:Hp) (M':List Addr) (H':Hp):Prop where
 o:∀a o,a ∉ M->H a=some o->H' a=some o
 m:∀a ∈ M',a ∈ M \/ H a=none
theorem Go.trans {M M1 M2:List Addr}{H H1 H2:Hp} (g:Go M H M1 H1) (g':Go M1 H1 M2 H2):Go M H M2 H2:=by
 refine ⟨fun a o h e=>g'.o a o (fun m=>?_) (g.o a o h e),fun a m=>?_⟩
 ·rcases g.m a m with z | z
  ·exact h z
  ·rw [z] at e;cases e
 ·rcases g'.m a m with z | z
  ·exact g.m a z
  ·by_cases h:a ∈ M
   ·exact .inl h
   ·refine .inr ?_
    cases e:H a with
    | none=>rfl
    | some o=>rw [g.o a o h e] at z;cases z
theorem Go.same {M M':List Addr}{H H':Hp} (g:Go M H M' H'):aj (del M H) (del M' H'):=fun a o h=>by
 obtain ⟨h1,h2⟩:=eO h
 refine aV (fun m=>?_) (g.o a o h1 h2)
 rcases g.m a m with z | z
 ·exact h1 z
 ·rw [z] at h2;cases h2
theorem Go.refl (M:List Addr) (H:Hp):Go M H M H:=⟨fun _ _ _ h=>h,fun _ h=>.inl h⟩
theorem Go.new {M:List Addr}{H H':Hp} (s:aj H H'):Go M H M H':=⟨fun a o _ h=>s a o h,fun _ h=>.inl h⟩
theorem Go.at {M:List Addr}{H:Hp}{x:Addr} (h:x ∈ M) (u:HO):Go M H M (upd H x u):=⟨fun a o m e=>(aI (fun z:a=x=>m (by rw [z];exact h))).trans e,fun _ h=>.inl h⟩
theorem Go.keep {M:List Addr}{H0 H H':Hp} (g:Go M H M H') (s:aj H0 H) (f:∀a ∈ M,H0 a=none):aj H0 H':=fun a o h=>g.o a o (fun m=>by rw [f a m] at h;cases h) (s a o h)
def fK (H:Hp) (xs:List V) (ws:List (List V)):Prop:=Paired (fun v w=>∃p,v=V.ref p/\H p=some (.tup w)) xs ws
theorem fK.same {H H':Hp} (s:aj H H') {xs:List V}{ws:List (List V)} (h:fK H xs ws):fK H' xs ws:=Paired.cm h fun _ _ ⟨p,e,q⟩=>⟨p,e,s p _ q⟩
theorem fK.len {H:Hp}{xs:List V}{ws:List (List V)} (h:fK H xs ws):xs.length=ws.length:=Paired.length h
def cu (A:Adr) (E:En) (X:Hp):Nat->V->Rw->Prop
 | _,v,.set n x val=>∃a dx p,v=.ref a/\X a=some (.ins A.bX dx [("number",.int n),("name",.str (E.N x)),("value",.ref p)])/\X p=some (.tup (vV E.N val))
 | _,v,.put n x pl val=>∃a dx p,v=.ref a/\X a=some (.ins A.bP dx [("number",.int n),("name",.str (E.N x)),("place",pl.v E.N),("value",.ref p)])/\X p=some (.tup (vV E.N val))
 | _,v,.snd n h val=>∃a dx p,v=.ref a/\X a=some (.ins A.bp dx [("number",.int n),("name",.str (E.N h)),("value",.ref p)])/\X p=some (.tup (vV E.N val))
 | _,v,.say n x val m=>∃a dx p,v=.ref a/\X a=some (.ins A.bJ dx [("number",.int n),("name",.str (E.N x)),("value",.ref p),("mark",.str (E.N m))])/\X p=some (.tup (vV E.N val))
 | _,v,.last n=>∃a dx,v=.ref a/\X a=some (.ins A.cB dx [("number",.int n)])
 | d + 1,v,.call n i ts=>∃a dx p D,v=.ref a/\E.ds[i]?=some D/\X a=some (.ins A.bI dx [("number",.int n),("name",.str (E.N D.nm)),("things",.ref p)])/\X p=some (.lst (ts.map (Th.v E.N))) /\
  ∃da dy dn pp pb xs,E.dv[i]?=some (.ref da)/\X da=some (.ins A.bq dy [("number",dn),("name",.str (E.N D.nm)),("parts",.ref pp),("body",.ref pb)])/\X pp=some (.lst (D.parts.map fun j=>V.str (E.N j)))/\X pb=some (.lst xs)/\Paired (cu A E X d) xs D.body
 | d + 1,v,.iff n val f o l r=>∃a dx p pf po xf xo,v=.ref a/\X a=some (.ins A.bQ dx [("number",.int n),("value",.ref p),("first",.ref pf),("other",.ref po),("left",.int l),("right",.int r)])/\X p=some (.tup (vV E.N val))/\X pf=some (.lst xf)/\X po=some (.lst xo)/\Paired (cu A E X d) xf f/\Paired (cu A E X d) xo o
 | d + 1,v,.loop n t m b l r=>∃a dx pb xb,v=.ref a/\X a=some (.ins A.aW dx [("number",.int n),("thing",t.v E.N),("most",.int m),("body",.ref pb),("left",.int l),("right",.int r)])/\X pb=some (.lst xb)/\Paired (cu A E X d) xb b
 | 0,_,.call _ _ _=>False
 | 0,_,.iff _ _ _ _ _ _=>False
 | 0,_,.loop _ _ _ _ _ _=>False
theorem cu.same {X X':Hp} (s:aj X X'):∀{d:Nat}{v:V}{r:Rw},cu A E X d v r->cu A E X' d v r:=by
 intro d
 induction d with
 | zero =>
  intro v r h
  cases r with
  | set n x val=>obtain ⟨a,dx,p,e,h1,h2⟩:=h;exact ⟨a,dx,p,e,s _ _ h1,s _ _ h2⟩
  | put n x pl val=>obtain ⟨a,dx,p,e,h1,h2⟩:=h;exact ⟨a,dx,p,e,s _ _ h1,s _ _ h2⟩
  | snd n h' val=>obtain ⟨a,dx,p,e,h1,h2⟩:=h;exact ⟨a,dx,p,e,s _ _ h1,s _ _ h2⟩
  | say n x val m=>obtain ⟨a,dx,p,e,h1,h2⟩:=h;exact ⟨a,dx,p,e,s _ _ h1,s _ _ h2⟩
  | last n=>obtain ⟨a,dx,e,h1⟩:=h;exact ⟨a,dx,e,s _ _ h1⟩
  | call n i ts=>exact h.elim
  | iff n v f o l r=>exact h.elim
  | loop n t m b l r=>exact h.elim
 | succ d ih =>
  intro v r h
  cases r with
  | set n x val=>obtain ⟨a,dx,p,e,h1,h2⟩:=h;exact ⟨a,dx,p,e,s _ _ h1,s _ _ h2⟩
  | put n x pl val=>obtain ⟨a,dx,p,e,h1,h2⟩:=h;exact ⟨a,dx,p,e,s _ _ h1,s _ _ h2⟩
  | snd n h' val=>obtain ⟨a,dx,p,e,h1,h2⟩:=h;exact ⟨a,dx,p,e,s _ _ h1,s _ _ h2⟩
  | say n x val m=>obtain ⟨a,dx,p,e,h1,h2⟩:=h;exact ⟨a,dx,p,e,s _ _ h1,s _ _ h2⟩
  | last n=>obtain ⟨a,dx,e,h1⟩:=h;exact ⟨a,dx,e,s _ _ h1⟩
  | call n i ts =>
   obtain ⟨a,dx,p,D,e,h0,h1,h2,da,dy,dn,pp,pb,xs,g0,g1,g2,g3,g4⟩:=h
   exact ⟨a,dx,p,D,e,h0,s _ _ h1,s _ _ h2,da,dy,dn,pp,pb,xs,g0,s _ _ g1,s _ _ g2,s _ _ g3,Paired.cm g4 fun _ _=>ih⟩
  | iff n v f o l r =>
   obtain ⟨a,dx,p,pf,po,xf,xo,e,h1,h2,h3,h4,h5,h6⟩:=h
   exact ⟨a,dx,p,pf,po,xf,xo,e,s _ _ h1,s _ _ h2,s _ _ h3,s _ _ h4,Paired.cm h5 fun _ _=>ih,Paired.cm h6 fun _ _=>ih⟩
  | loop n t m b l r =>
   obtain ⟨a,dx,pb,xb,e,h1,h2,h3⟩:=h
   exact ⟨a,dx,pb,xb,e,s _ _ h1,s _ _ h2,Paired.cm h3 fun _ _=>ih⟩
structure En.Ok (E:En):Prop where
 D:ja E.N
 b:∀j ∈ E.idx,j < 18
 nd:E.idx.Nodup
 dn:∀d ∈ E.ds,d.nm < 18
 dd:(E.ds.map Dd.nm).Nodup
 dl:E.ds.length <= 64
 dv:E.dv.length=E.ds.length
 pt:∀d ∈ E.ds,∀j ∈ d.parts,j ∈ E.idx/\E.sz j=0
 z:∀x,E.sz x <= 1000
 len:E.idx.length <= 64
structure Ra where
 s:Addr
 ds:Addr
 d:Addr
 c:Addr
 b:Addr
 db:Addr
 sd:Addr
 e:Addr
 t:Addr
 l:Addr
 la:Nat->Addr
def En.ls (E:En):List Nat:=E.idx.filter fun i=>decide (0 < E.sz i)
def Ra.M (r:Ra) (E:En):List Addr:=[r.b,r.c,r.t,r.l,r.sd] ++ E.ls.map r.la
def cV (E:En) (la:Nat->Addr) (num:Nat->Int) (i:Nat):V:=if E.sz i=0 then .int (num i) else .ref (la i)
def dG (E:En) (j:Nat):V:=match (E.ds.zip E.dv).find? fun p=>decide (p.1.nm=j) with
 | some p=>p.2
 | none=>.non
def o4 (r:Ra) (k:S):List (Str × V):=[("letters",.ref r.l),("said",.ref r.sd),("trace",.ref r.t),("steps",.int k.steps),("ends",.ref r.e)]
structure br (A:Adr) (E:En) (H:Hp) (r:Ra) (k:S):Prop where
 nd:(r.M E).Nodup
 hs:del (r.M E) H r.s=some (.ins A.Run r.ds [("deeds",.ref r.d),("cells",.ref r.c),("book",.ref r.b)])
 hk:del (r.M E) H r.d=some (.dK (dk E.N (E.ds.map Dd.nm) (dG E)))
 hb:H r.b=some (.ins A.cb r.db (o4 r k))
 hc:H r.c=some (.dK (dk E.N E.idx (cV E r.la k.num)))
 ht:∃xs,H r.t=some (.lst xs)/\fK (del (r.M E) H) xs k.trace
 hl:∃xs,H r.l=some (.lst xs)/\fK (del (r.M E) H) xs k.dI
 hd:∃xs,H r.sd=some (.lst xs)/\fK (del (r.M E) H) xs k.mf
 ha:∀i ∈ E.ls,H (r.la i)=some (.lst ((k.lst i).map V.int))
 ok:k.ok E
variable {H H':Hp}{r:Ra}{k:S}
theorem br.s (R:br A E H r k):H r.s=some (.ins A.Run r.ds [("deeds",.ref r.d),("cells",.ref r.c),("book",.ref r.b)]):=ao _ _ R.hs
theorem br.same (R:br A E H r k) (s:aj H H'):br A E H' r k:=by
 have g:=(Go.new (M:=r.M E) s).same
 obtain ⟨ts,t1,t2⟩:=R.ht
 obtain ⟨ls,l1,l2⟩:=R.hl
 obtain ⟨ds,d1,d2⟩:=R.hd
 exact ⟨R.nd,g _ _ R.hs,g _ _ R.hk,s _ _ R.hb,s _ _ R.hc,⟨ts,s _ _ t1,t2.same g⟩,⟨ls,s _ _ l1,l2.same g⟩,⟨ds,s _ _ d1,d2.same g⟩,fun i h=>s _ _ (R.ha i h),R.ok⟩
theorem br.has (R:br A E H r k) {a:Addr} (m:a ∈ r.M E):∃o,H a=some o:=by
 unfold Ra.M at m
 rcases List.mem_append.mp m with m | m
 ·simp only [List.mem_cons,List.not_mem_nil,or_false] at m
  obtain ⟨ts,t1,t2⟩:=R.ht
  obtain ⟨ls,l1,l2⟩:=R.hl
  obtain ⟨ds,d1,d2⟩:=R.hd
  rcases m with rfl | rfl | rfl | rfl | rfl
  ·exact ⟨_,R.hb⟩
  ·exact ⟨_,R.hc⟩
  ·exact ⟨_,t1⟩
  ·exact ⟨_,l1⟩
  ·exact ⟨_,d1⟩
 ·obtain ⟨i,hi,rfl⟩:=List.mem_map.mp m
  exact ⟨_,R.ha i hi⟩
theorem br.free (R:br A E H r k) {a:Addr} (e:H a=none):a ∉ r.M E:=fun m=>by
 obtain ⟨o,z⟩:=R.has m
 rw [e] at z
 cases z
structure Nes (r:Ra) (E:En):Prop where
 bc:r.b ≠ r.c
 bt:r.b ≠ r.t
 bl:r.b ≠ r.l
 bd:r.b ≠ r.sd
 ct:r.c ≠ r.t
 cl:r.c ≠ r.l
 cd:r.c ≠ r.sd
 tl:r.t ≠ r.l
 td:r.t ≠ r.sd
 ld:r.l ≠ r.sd
 a:∀i ∈ E.ls,r.la i ≠ r.b/\r.la i ≠ r.c/\r.la i ≠ r.t/\r.la i ≠ r.l/\r.la i ≠ r.sd
 i:∀i ∈ E.ls,∀j ∈ E.ls,r.la i=r.la j->i=j
theorem Nes.of (h:(r.M E).Nodup):Nes r E:=by
 unfold Ra.M at h
 rw [List.nodup_append] at h
 obtain ⟨h1,h2,h3⟩:=h
 simp only [List.nodup_cons,List.mem_cons,List.not_mem_nil,or_false,not_or,not_false_eq_true,List.nodup_nil,and_true] at h1
 obtain ⟨⟨a1,a2,a3,a4⟩,⟨a5,a6,a7⟩,⟨a8,a9⟩,a10⟩:=h1
 have m:∀i ∈ E.ls,r.la i ∈ E.ls.map r.la:=fun i hi=>List.mem_map.mpr ⟨i,hi,rfl⟩
 refine ⟨a1,a2,a3,a4,a5,a6,a7,a8,a9,a10,fun i hi=>⟨(h3 _ (by simp) _ (m i hi)).symm,(h3 _ (by simp) _ (m i hi)).symm,(h3 _ (by simp) _ (m i hi)).symm,(h3 _ (by simp) _ (m i hi)).symm,(h3 _ (by simp) _ (m i hi)).symm⟩,?_⟩
 have:∀xs:List Nat,(xs.map r.la).Nodup->∀i ∈ xs,∀j ∈ xs,r.la i=r.la j->i=j:=by
  intro xs
  induction xs with
  | nil=>intro _ i h;cases h
  | cons x t ih =>
   intro h i hi j hj e
   rw [List.map_cons,List.nodup_cons] at h
   rcases List.mem_cons.mp hi with hi | hi <;> rcases List.mem_cons.mp hj with hj | hj
   ·exact hi.trans hj.symm
   ·rw [hi] at e
    exact absurd (show r.la x ∈ t.map r.la from List.mem_map.mpr ⟨j,hj,e.symm⟩) h.1
   ·rw [hj] at e
    exact absurd (show r.la x ∈ t.map r.la from List.mem_map.mpr ⟨i,hi,e⟩) h.1
   ·exact ih h.2 i hi j hj e
 exact this _ h2
theorem br.ne (R:br A E H r k):Nes r E:=Nes.of R.nd
theorem Ra.inM (r:Ra) (E:En):r.b ∈ r.M E/\r.c ∈ r.M E/\r.t ∈ r.M E/\r.l ∈ r.M E/\r.sd ∈ r.M E/\∀i ∈ E.ls,r.la i ∈ r.M E:=by
 unfold Ra.M
 refine ⟨by simp,by simp,by simp,by simp,by simp,fun i hi=>List.mem_append_right _ (List.mem_map.mpr ⟨i,hi,rfl⟩)⟩
theorem br.steps (R:br A E H r k) (n:Int):br A E (upd H r.b (.ins A.cb r.db (o4 r { k with steps:=n }))) r { k with steps:=n }:=by
 have g:=(Go.at (H:=H) (r.inM E).1 (.ins A.cb r.db (o4 r { k with steps:=n }))).same
 have ne:=R.ne
 obtain ⟨ts,t1,t2⟩:=R.ht
 obtain ⟨ls,l1,l2⟩:=R.hl
 obtain ⟨ds,d1,d2⟩:=R.hd
 exact ⟨R.nd,g _ _ R.hs,g _ _ R.hk,aq,ah ne.bc.symm R.hc,⟨ts,ah ne.bt.symm t1,t2.same g⟩,⟨ls,ah ne.bl.symm l1,l2.same g⟩,⟨ds,ah ne.bd.symm d1,d2.same g⟩,fun i h=>ah (ne.a i h).1 (R.ha i h),⟨R.ok.num,R.ok.lst,R.ok.len⟩⟩
theorem br.trace (R:br A E H r k) {p:Addr}{us w:List V} (hp:H p=none) (ht:H r.t=some (.lst us)):br A E (upd (upd H p (.tup w)) r.t (.lst (us ++ [.ref p]))) r { k with trace:=k.trace ++ [w] }:=by
 have R1:=R.same (aj.upd hp (HO.tup w))
 have pm:=R.free hp
 have hp1:(upd H p (.tup w)) p=some (.tup w):=aq
 have ht1:=aj.upd hp (HO.tup w) _ _ ht
 generalize upd H p (.tup w)=H1 at R1 hp1 ht1 ⊢
 have g:=(Go.at (H:=H1) (r.inM E).2.2.1 (.lst (us ++ [.ref p]))).same
 have ne:=R.ne
 obtain ⟨ts,t1,t2⟩:=R1.ht
 obtain ⟨ls,l1,l2⟩:=R1.hl
 obtain ⟨ds,d1,d2⟩:=R1.hd
 rw [ht1] at t1
 cases t1
 exact ⟨R.nd,g _ _ R1.hs,g _ _ R1.hk,ah ne.bt R1.hb,ah ne.ct R1.hc,⟨_,aq,PySem.Paired.snoc (t2.same g) ⟨p,rfl,g _ _ (aV pm hp1)⟩⟩,⟨ls,ah ne.tl.symm l1,l2.same g⟩,⟨ds,ah ne.td.symm d1,d2.same g⟩,fun i h=>ah (ne.a i h).2.2.1 (R1.ha i h),⟨R.ok.num,R.ok.lst,R.ok.len⟩⟩
theorem br.ji (R:br A E H r k) {p:Addr}{us w:List V} (hp:H p=none) (ht:H r.l=some (.lst us)):br A E (upd (upd H p (.tup w)) r.l (.lst (us ++ [.ref p]))) r (k.ji w):=by
 have R1:=R.same (aj.upd hp (HO.tup w))
 have pm:=R.free hp
 have hp1:(upd H p (.tup w)) p=some (.tup w):=aq
 have ht1:=aj.upd hp (HO.tup w) _ _ ht
 generalize upd H p (.tup w)=H1 at R1 hp1 ht1 ⊢
 have g:=(Go.at (H:=H1) (r.inM E).2.2.2.1 (.lst (us ++ [.ref p]))).same
 have ne:=R.ne
 obtain ⟨ts,t1,t2⟩:=R1.ht
 obtain ⟨ls,l1,l2⟩:=R1.hl
 obtain ⟨ds,d1,d2⟩:=R1.hd
 rw [ht1] at l1
 cases l1
 exact ⟨R.nd,g _ _ R1.hs,g _ _ R1.hk,ah ne.bl R1.hb,ah ne.cl R1.hc,⟨ts,ah ne.tl t1,t2.same g⟩,⟨_,aq,PySem.Paired.snoc (l2.same g) ⟨p,rfl,g _ _ (aV pm hp1)⟩⟩,⟨ds,ah ne.ld.symm d1,d2.same g⟩,fun i h=>ah (ne.a i h).2.2.2.1 (R1.ha i h),⟨R.ok.num,R.ok.lst,R.ok.len⟩⟩
theorem br.jr (R:br A E H r k) {p:Addr}{us w:List V} (hp:H p=none) (ht:H r.sd=some (.lst us)):br A E (upd (upd H p (.tup w)) r.sd (.lst (us ++ [.ref p]))) r (k.jr w):=by
 have R1:=R.same (aj.upd hp (HO.tup w))
 have pm:=R.free hp
 have hp1:(upd H p (.tup w)) p=some (.tup w):=aq
 have ht1:=aj.upd hp (HO.tup w) _ _ ht
 generalize upd H p (.tup w)=H1 at R1 hp1 ht1 ⊢
 have g:=(Go.at (H:=H1) (r.inM E).2.2.2.2.1 (.lst (us ++ [.ref p]))).same
 have ne:=R.ne
 obtain ⟨ts,t1,t2⟩:=R1.ht
 obtain ⟨ls,l1,l2⟩:=R1.hl
 obtain ⟨ds,d1,d2⟩:=R1.hd
 rw [ht1] at d1
 cases d1
 exact ⟨R.nd,g _ _ R1.hs,g _ _ R1.hk,ah ne.bd R1.hb,ah ne.cd R1.hc,⟨ts,ah ne.td t1,t2.same g⟩,⟨ls,ah ne.ld l1,l2.same g⟩,⟨_,aq,PySem.Paired.snoc (d2.same g) ⟨p,rfl,g _ _ (aV pm hp1)⟩⟩,fun i h=>ah (ne.a i h).2.2.2.2 (R1.ha i h),⟨R.ok.num,R.ok.lst,R.ok.len⟩⟩
theorem br.put (R:br A E H r k) (O:E.Ok) {x:Nat} (hx:x ∈ E.idx) (hz:E.sz x=0) {v:Int} (hv:In v):br A E (upd H r.c (.dK (putK (dk E.N E.idx (cV E r.la k.num)) (.inr (E.N x)) (.int v)))) r (k.put x v):=by
 have e:putK (dk E.N E.idx (cV E r.la k.num)) (.inr (E.N x)) (.int v)=dk E.N E.idx (cV E r.la (k.put x v).num):=by
  rw [yM O.D O.b hx]
  refine du fun j _=>?_
  unfold rW cV
  show _=if E.sz j=0 then V.int (if j=x then v else k.num j) else _
  by_cases c:j=x
  ·rw [if_pos c,c,if_pos hz,if_pos rfl]
  ·rw [if_neg c,if_neg c]
 rw [e]
 have g:=(Go.at (H:=H) (r.inM E).2.1 (.dK (dk E.N E.idx (cV E r.la (k.put x v).num)))).same
 have ne:=R.ne
 obtain ⟨ts,t1,t2⟩:=R.ht
 obtain ⟨ls,l1,l2⟩:=R.hl
 obtain ⟨ds,d1,d2⟩:=R.hd
 refine ⟨R.nd,g _ _ R.hs,g _ _ R.hk,ah ne.bc R.hb,aq,⟨ts,ah ne.ct.symm t1,t2.same g⟩,⟨ls,ah ne.cl.symm l1,l2.same g⟩,⟨ds,ah ne.cd.symm d1,d2.same g⟩,fun i h=>ah (ne.a i h).2.1 (R.ha i h),⟨fun a=>?_,R.ok.lst,R.ok.len⟩⟩
 show In (if a=x then v else k.num a)
 split
 ·exact hv
 ·exact R.ok.num a
theorem br.nB (R:br A E H r k) {x:Nat} (hx:x ∈ E.ls) (i:Int) {v:Int} (hv:In v):br A E (upd H (r.la x) (.lst (((k.lst x).map V.int).set (i % ((k.lst x).length:Int)).toNat (.int v)))) r (k.nB x i v):=by
 have g:=(Go.at (H:=H) ((r.inM E).2.2.2.2.2 x hx) (.lst (((k.lst x).map V.int).set (i % ((k.lst x).length:Int)).toNat (.int v)))).same
 have ne:=R.ne
 obtain ⟨a1,a2,a3,a4,a5⟩:=ne.a x hx
 obtain ⟨ts,t1,t2⟩:=R.ht
 obtain ⟨ls,l1,l2⟩:=R.hl
 obtain ⟨ds,d1,d2⟩:=R.hd
 have el:∀j,(k.nB x i v).lst j=if j=x then (k.lst x).set (i % ((k.lst x).length:Int)).toNat v else k.lst j:=fun _=>rfl
 refine ⟨R.nd,g _ _ R.hs,g _ _ R.hk,ah a1.symm R.hb,ah a2.symm R.hc,⟨ts,ah a3.symm t1,t2.same g⟩,⟨ls,ah a4.symm l1,l2.same g⟩,⟨ds,ah a5.symm d1,d2.same g⟩,fun j h=>?_,⟨R.ok.num,fun j n hn=>?_,fun j hj hz=>?_⟩⟩
 ·rw [el]
  by_cases c:j=x
  ·rw [c,if_pos rfl,aq,List.map_set]
  ·rw [if_neg c]
   exact ah (fun z=>c (ne.i j h x hx z)) (R.ha j h)
 ·rw [el] at hn
  split at hn
  ·rcases List.mem_or_eq_of_mem_set hn with z | z
   ·exact R.ok.lst x n z
   ·rw [z];exact hv
  ·exact R.ok.lst j n hn
 ·rw [el]
  split
  ·rename_i c
   rw [List.length_set]
   rw [c] at hj hz ⊢
   exact R.ok.len x hj hz
  ·exact R.ok.len j hj hz
theorem br.get (R:br A E H r k) (O:E.Ok) {i:Nat} (hi:i ∈ E.idx):bu H r.c (.str (E.N i)) (some (cV E r.la k.num i)):=by
 have:=bu.k (k:=.inr (E.N i)) R.hc
 rw [eQ O.D O.b hi] at this
 exact this
theorem br.gn (R:br A E H r k) (O:E.Ok) {i:Nat} (hi:i ∈ E.idx) (hz:E.sz i=0):bu H r.c (.str (E.N i)) (some (.int (k.num i))):=by
 have:=R.get O hi
 unfold cV at this
 rw [if_pos hz] at this
 exact this
theorem br.gl (R:br A E H r k) (O:E.Ok) {i:Nat} (hi:i ∈ E.idx) (hz:0 < E.sz i):bu H r.c (.str (E.N i)) (some (.ref (r.la i))):=by
 have:=R.get O hi
 unfold cV at this
 rw [if_neg (by omega)] at this
 exact this
theorem kB {i:Nat} (hi:i ∈ E.idx) (hz:0 < E.sz i):i ∈ E.ls:=List.mem_filter.mpr ⟨hi,decide_eq_true hz⟩
theorem pI {v:V}{D:Dd}:∀{ds:List Dd}{dv:List V}{i:Nat},(ds.map Dd.nm).Nodup->ds[i]?=some D->dv[i]?=some v->∃q,(ds.zip dv).find? (fun p=>decide (p.1.nm=D.nm))=some q/\q.2=v
 | [],_,_,_,h,_=>by cases h
 | _ :: _,[],_,_,_,h=>by cases h
 | x :: ds,y :: dv,0,_,h1,h2=>by
  cases h1
  cases h2
  exact ⟨(D,v),by rw [List.zip_cons_cons,List.find?_cons,decide_eq_true rfl],rfl⟩
 | x :: ds,y :: dv,i + 1,nd,h1,h2=>by
  rw [List.map_cons,List.nodup_cons] at nd
  have ne:x.nm ≠ D.nm:=fun z=>nd.1 (by rw [z];exact List.mem_map.mpr ⟨D,List.mem_of_getElem? (by simpa using h1),rfl⟩)
  obtain ⟨q,e1,e2⟩:=pI (i:=i) nd.2 (by simpa using h1) (by simpa using h2)
  exact ⟨q,by rw [List.zip_cons_cons,List.find?_cons,decide_eq_false ne];exact e1,e2⟩
theorem br.DV (R:br A E H r k) (O:E.Ok) {i:Nat}{D:Dd}{v:V} (h1:E.ds[i]?=some D) (h2:E.dv[i]?=some v):bu H r.d (.str (E.N D.nm)) (some v):=by
 have:=bu.k (k:=.inr (E.N D.nm)) (ao _ _ R.hk)
 rw [eQ O.D (fun j hj=>by obtain ⟨d,hd,rfl⟩:=List.mem_map.mp hj;exact O.dn d hd) (List.mem_map.mpr ⟨D,List.mem_of_getElem? h1,rfl⟩)] at this
 obtain ⟨q,e1,e2⟩:=pI O.dd h1 h2
 unfold dG at this
 rw [e1] at this
 dsimp only at this
 rw [e2] at this
 exact this
end
section
variable {P:Program}{w:World}{K:W.Frag}{mg:Str->Option Value}{base:Heap}{A:Adr}{E:En}
def wu:Sp:=fun vs H Q _=>∃(a b:Int) (x:Str),vs=[.int a,.str x,.int b]/\0 <= a/\a < 1000000000000/\0 <= b/\b < 1000000000000/\Q (.int (rkn a b x)) H
theorem rQ (T:Txt K mg A):Has P w K mg base 1 "reckon" ["one","word","other"] wu:=by
 refine T.reckon.has we (fun vs H Q E h=>?_) (fun f cdv A outer s H vs Q E hr hu h=>?_)
 ·obtain ⟨a,b,x,rfl,_⟩:=h
  rfl
 ·obtain ⟨a,b,x,rfl,a0,a1,b0,b1,q⟩:=h
  refine ⟨_,(ab (aO (ay (aT hu) (fv 1) ai (az _))
   (ag (aA (aw bF (aw bL (fv 0) (fv 2)) (nQ T.nK))))
   aH)
  (ab (aO (ay (aT hu) (fv 1) ai (az _))
   (ag (aA (aw bF (aw lN (fv 0) (fv 2)) (nQ T.nK))))
   aH)
  (ab (aO (ay (aT hu) (fv 1) ai (az _))
   (ag (aA (aw bF (aw fe (fv 0) (fv 2)) (nQ T.nK))))
   aH)
  (ab (aO (ay (aT hu) (fv 1) ai (az _))
   (ag (aA (fH (ay (aT hu) (fv 2) ae (az _)) ae (aw bT (fv 0) (fv 2)))))
   aH)
  (ab (aO (ay (aT hu) (fv 1) ai (az _))
   (ag (aA (fH (ay (aT hu) (fv 2) ae (az _)) (fv 0) (aw bF (fv 0) (fv 2)))))
   aH)
  (ab (aO (ay (aT hu) (fv 1) ai (az _))
   (ag (aA (fH (ay (yj) (fv 0) (fv 2) (az _)) ae ae)))
   aH)
  (ag (aA (fH (ay (aT hu) (fv 0) (fv 2) (az _)) ae ae))))))))),?_⟩
  unfold rkn at q
  refine ⟨rfl,_,rfl,aL (fun c=>?_) (fun c=>?_)⟩
  ·rw [if_pos c] at q
   exact ⟨(by show (0:Int) < 1000000000000;decide),q⟩
  rw [if_neg c] at q
  refine ⟨rfl,_,rfl,aL (fun c=>?_) (fun c=>?_)⟩
  ·rw [if_pos c] at q
   exact ⟨(by show (0:Int) < 1000000000000;decide),q⟩
  rw [if_neg c] at q
  refine ⟨rfl,_,rfl,aL (fun c=>?_) (fun c=>?_)⟩
  ·rw [if_pos c] at q
   exact ⟨.inl ⟨by omega,by omega⟩,(by show (0:Int) < 1000000000000;decide),q⟩
  rw [if_neg c] at q
  refine ⟨rfl,_,rfl,aL (fun c=>?_) (fun c=>?_)⟩
  ·rw [if_pos c] at q
   refine ⟨rfl,_,rfl,aL (fun d=>?_) (fun d=>?_)⟩
   ·rw [if_pos d] at q
    exact q
   ·rw [if_neg d] at q
    have hb:b ≠ 0:=fun z=>d (by rw [z];rfl)
    exact ⟨⟨by omega,by omega⟩,q⟩
  rw [if_neg c] at q
  refine ⟨rfl,_,rfl,aL (fun c=>?_) (fun c=>?_)⟩
  ·rw [if_pos c] at q
   refine ⟨rfl,_,rfl,aL (fun d=>?_) (fun d=>?_)⟩
   ·rw [if_pos d] at q
    exact q
   ·rw [if_neg d] at q
    have hb:b ≠ 0:=fun z=>d (by rw [z];rfl)
    exact ⟨by omega,q⟩
  rw [if_neg c] at q
  refine ⟨rfl,_,rfl,aL (fun c=>?_) (fun c=>?_)⟩
  ·rw [if_pos c] at q
   refine ⟨_,rfl,aL (fun d=>?_) (fun d=>?_)⟩
   ·rw [if_pos d] at q
    exact q
   ·rw [if_neg d] at q
    exact q
  rw [if_neg c] at q
  refine ⟨rfl,_,rfl,aL (fun d=>?_) (fun d=>?_)⟩
  ·rw [if_pos d] at q
   exact q
  ·rw [if_neg d] at q
   exact q
def yF:Sp:=fun vs H Q _=>∃a:Int,vs=[.int a]/\In a/\Q (.bl true) H
theorem Aj (T:Txt K mg A):Has P w K mg base 1 "is_number" ["thing"] yF:=by
 refine T.qq.has q5 (fun vs H Q E h=>?_) (fun f cdv A outer s H vs Q E hr hu h=>?_)
 ·obtain ⟨a,rfl,_⟩:=h
  rfl
 ·obtain ⟨a,rfl,ha,q⟩:=h
  refine ⟨_,(ab (aO (PW.pt (pw_or (bU (aG bg rfl T.aB (by boot_by_name) (aa (fv 0) (aa (cJ (v:=.ty "bool") rfl T.oo (by boot_by_name) rfl) af))) (fun _=>rfl)) (pw_or1 (iN (bU (aG bg rfl T.aB (by boot_by_name) (aa (fv 0) (aa (cJ (v:=.ty "int") rfl T.k5 (by boot_by_name) rfl) af))) (fun _=>rfl))))))
   (ag (aA gT))
   aH)
  (ag (aA (x8 (Cj) (Cj) ae (fv 0) (nQ T.kP))))),?_⟩
  refine ⟨_,_,_,false,rfl,(fun z=>by cases z),.int a,xh,false,rfl,bw ?_⟩
  refine ⟨_,_,_,true,rfl,(fun z=>by cases z),.int a,uo,true,rfl,bw ?_⟩
  refine ⟨_,rfl,aL (fun c=>?_) (fun c=>absurd (decide_eq_true ha.1) c)⟩
  have e:decide (a <= 999999999999)=true:=decide_eq_true (by have:=ha.2;omega)
  show Q (.bl (decide (a <= 999999999999))) H
  rw [e]
  exact q
def wY:Sp:=fun vs H Q _=>(∃a:Int,vs=[.int a,.int 0]/\In a/\Q (.bl true) H) \/
 ∃(p:Addr) (rs:List Int),vs=[.ref p,.int rs.length]/\0 < rs.length/\rs.length <= 1000/\H p=some (.lst (rs.map V.int))/\(∀a ∈ rs,In a)/\∀H',aj H H'->Q (.bl true) H'
theorem yw (T:Txt K mg A):Has P w K mg base 2 "is_good" ["gift","size"] wY:=by
 have D_is_number:=Aj (P:=P) (w:=w) (base:=base) T
 refine T.vk.has uv (fun vs H Q E h=>?_) (fun f cdv A outer s H vs Q E hr hu h=>?_)
 ·rcases h with ⟨a,rfl,_⟩ | ⟨p,rs,rfl,_⟩ <;> rfl
 ·rcases h with ⟨a,rfl,ha,q⟩ | ⟨p,rs,rfl,hn,hl,hS,hb,q⟩
  ·refine ⟨_,(ab (aO (ay (aT hu) (fv 1) ae (az _))
   (ag (aA (ar D_is_number hr (aa (fv 0) af))))
   aH)
  (ag (aA (ir (aG bg rfl T.aB (by boot_by_name) (aa (fv 0) (aa (cJ (v:=.ty "list") rfl T.dE (by boot_by_name) rfl) af))) (ir (eA (aT hu) (aG dF rfl T.eI (by boot_by_name) (aa (fv 0) af)) (fv 1) (az _)) (iC (aG AB rfl T.rR (by boot_by_name) (aa (kI (N:=["thing"]) (own:=1) (fr:=[]) (df.of (by kernel_rfl!)) rfl (fu (fv 0)) (fun b=>pgn (i:=0) (show List.Nodup (["thing"]:List PySem.Str) by decide +kernel) rfl) (fun b=>jU) (fun b=>ar D_is_number hr (aa (fv 0) af))) af)))))))),?_⟩
   refine ⟨rfl,_,rfl,aL (fun c=>?_) (fun c=>absurd rfl c)⟩
   exact ⟨a,rfl,ha,q⟩
  ·refine ⟨_,(ab (aO (ay (aT hu) (fv 1) ae (az _))
   (ag (aA (ar D_is_number hr (aa (fv 0) af))))
   aH)
  (ag (aA (ir (aG bg rfl T.aB (by boot_by_name) (aa (fv 0) (aa (cJ (v:=.ty "list") rfl T.dE (by boot_by_name) rfl) af))) (ir (eA (aT hu) (aG dF rfl T.eI (by boot_by_name) (aa (fv 0) af)) (fv 1) (az _)) (iC (aG AB rfl T.rR (by boot_by_name) (aa (kI (N:=["thing"]) (own:=1) (fr:=[]) (df.of (by kernel_rfl!)) rfl (fu (fv 0)) (fun b=>pgn (i:=0) (show List.Nodup (["thing"]:List PySem.Str) by decide +kernel) rfl) (fun b=>jU) (fun b=>ar D_is_number hr (aa (fv 0) af))) af)))))))),?_⟩
   refine ⟨rfl,_,rfl,aL (fun c=>absurd c ?_) (fun c=>?_)⟩
   ·rw [fW,decide_eq_true_iff]
    omega
   ·refine ⟨_,_,_,true,rfl,(fun z=>by cases z),.lst hS,tN,_,rfl,cU ?_⟩
    refine Or.inl ⟨_,_,rfl,Or.inl ⟨_,SqL.of hS,rfl⟩,rfl,_,rfl,?_⟩
    refine aL (fun c2=>?_) (fun c2=>absurd ?_ c2)
    ·refine Or.inl ⟨⟨_,SqL.of hS⟩,wc (K:=K) (fun _=>true) (fun _=>.bl true) (SqL.of hS) (by rw [List.length_map];exact aM hl) (fun b x H2 R _ _ k=>k _ (aj.refl _)) (fun b x H2 R hx _ s2 k=>?_) (fun D H2 hD s2 e=>?_)⟩
     ·obtain ⟨a,ha,rfl⟩:=List.mem_map.mp hx
      exact ⟨a,rfl,hb a ha,k _ (aj.refl _)⟩
     ·rw [rV,List.map_map] at e
      refine ⟨D,rs.map (fun _=>true),rfl,SqL.of (by rw [e,List.map_map];rfl),?_⟩
      have:(rs.map (fun _=>true)).all id=true:=by simp
      rw [this]
      exact q _ s2
    ·rw [fW,List.length_map,decide_eq_true_iff]
def yh:Sp:=fun vs H Q _=>∃(a:Int) (n:Nat),vs=[.int a,.int n]/\In a/\0 < n/\n <= 1000/\Q (.int (a % (n:Int))) H
theorem vj (T:Txt K mg A):Has P w K mg base 2 "round_place" ["place","size"] yh:=by
 have D_reckon:=rQ (P:=P) (w:=w) (base:=base) T
 refine T.nh.has pw (fun vs H Q E h=>?_) (fun f cdv A outer s H vs Q E hr hu h=>?_)
 ·obtain ⟨a,n,rfl,_⟩:=h
  rfl
 ·obtain ⟨a,n,rfl,ha,h0,h1,q⟩:=h
  refine ⟨_,(ag (aA (ar D_reckon hr (aa (fv 0) (aa ai (aa (fv 1) af)))))),?_⟩
  exact ⟨a,n,_,rfl,ha.1,ha.2,by omega,by omega,by rw [xY h0];exact q⟩
theorem rF:W.kitOne K (.type "int") (.type "str")=some false:=by kernel_rfl!
theorem lB:W.kitOne K (.type "str") (.type "str")=some true:=by kernel_rfl!
def Ci (A:Adr) (E:En):Sp:=fun vs H Q _=>∃(r:Ra) (k:S) (t:Th),vs=[.ref r.s,t.v E.N]/\br A E H r k/\t.ok E/\Q (.int (t.num k)) H
theorem zr (T:Txt K mg A) (O:E.Ok):cR P w K mg base 1 A.Run "number_at" ["self","thing"] (Ci A E):=by
 refine T.jx.has (k:=0) mq (fun vs H Q E h=>?_) (fun f cdv A' outer s' H vs Q E' hr hu h=>?_)
 ·obtain ⟨r,k,t,rfl,_⟩:=h
  rfl
 ·obtain ⟨r,k,t,rfl,R,ht,q⟩:=h
  refine ⟨_,(ag (aA (fH (bU (aG bg rfl T.aB (by boot_by_name) (aa (fv 1) (aa (cJ (v:=.ty "str") rfl T.nq (by boot_by_name) rfl) af))) (fun _=>rfl)) (px hu (aJ (fv 0) rfl) (fv 1)) (fv 1)))),?_⟩
  cases t with
  | i n=>exact ⟨_,_,_,false,rfl,(fun z=>by cases z),.int n,rF,false,rfl,bw q⟩
  | x a=>exact ⟨_,_,_,true,rfl,(fun z=>by cases z),.str _,lB,true,rfl,cU ⟨r.s,_,r.ds,_,_,rfl,R.s,T.bS.cl,T.cM,rfl,_,R.gn O ht.1 ht.2,q⟩⟩
theorem yT {xs:List Int} (h:0 < xs.length) (i:Int):atI (xs.map V.int) (i % (xs.length:Int))=some (.int (lat xs i)):=by
 obtain ⟨m0,m1⟩:=bK i (show (0:Int) < (xs.length:Int) by omega)
 obtain ⟨x,_,e1,e2⟩:=oQ V.int m0 m1
 rw [e2]
 unfold lat
 rw [List.getD_eq_getElem?_getD,e1]
 rfl
def B0 (A:Adr) (E:En):Sp:=fun vs H Q _=>∃(r:Ra) (k:S) (p:Addr) (val:Val),vs=[.ref r.s,.ref p]/\br A E H r k/\H p=some (.tup (vV E.N val))/\val.ok E/\Q (.int (val.num k)) H
theorem uV (T:Txt K mg A) (O:E.Ok):cR P w K mg base 3 A.Run "number_for" ["self","value"] (B0 A E):=by
 have D_number_at:=zr (P:=P) (w:=w) (base:=base) T O
 have D_reckon:=rQ (P:=P) (w:=w) (base:=base) T
 have D_round_place:=vj (P:=P) (w:=w) (base:=base) T
 refine T.iQ.has (k:=2) eU (fun vs H Q E h=>?_) (fun f cdv A' outer s' H vs Q E' hr hu h=>?_)
 ·obtain ⟨r,k,p,val,rfl,_⟩:=h
  rfl
 ·obtain ⟨r,k,p,val,rfl,R,hp,vo,q⟩:=h
  have hT:SqT K H p (vV E.N val):=SqT.of hp
  refine ⟨_,(ab (aO (ay (aT hu) (aG dF rfl T.eI (by boot_by_name) (aa (fv 1) af)) ae (az _))
   (ag (aA (bD (fv 0) T.bS.cl D_number_at hr (aa (px hu (fv 1) ae) af))))
   aH)
  (ab (aC (i:=2) eU.nd rfl (Or.inl rfl) (bD (fv 0) T.bS.cl D_number_at hr (aa (px hu (fv 1) ae) af)))
  (ab (aO (ay (aT hu) (px hu (fv 1) ae) ai (az _))
   (ab (aC (i:=3) eU.nd rfl (Or.inl rfl) (px hu (aJ (fv 0) rfl) (px hu (fv 1) ae)))
   (ag (aA (px hu (fv 3) (ar D_round_place hr (aa (fv 2) (aa (aG dF rfl T.eI (by boot_by_name) (aa (fv 3) af)) af)))))))
   aH)
  (ag (aA (ar D_reckon hr (aa (bD (fv 0) T.bS.cl D_number_at hr (aa (px hu (fv 1) ae) af)) (aa (px hu (fv 1) ae) (aa (fv 2) af))))))))),?_⟩
  refine Or.inl ⟨_,_,rfl,Or.inr ⟨_,hT,rfl⟩,rfl,_,rfl,?_⟩
  cases val with
  | one a =>
   refine aL (fun b=>?_) (fun b=>absurd rfl b)
   exact ⟨r.s,r.ds,_,rfl,R.s,rfl,Or.inl ⟨_,_,Or.inr hT,rfl,r,k,a,rfl,R,vo,q⟩⟩
  | op a x i =>
   refine aL (fun b=>absurd b (by show ¬ decide (V.int 3=V.int 1)=true;decide)) (fun b=>?_)
   refine ⟨r.s,r.ds,_,rfl,R.s,rfl,Or.inl ⟨_,_,Or.inr hT,rfl,r,k,i,rfl,R,vo.2.1,?_⟩⟩
   refine Or.inl ⟨_,_,Or.inr hT,rfl,rfl,_,rfl,?_⟩
   refine aL (fun b=>absurd (of_decide_eq_true b) (fun z=>Az vo.2.2 (V.str.inj z))) (fun b=>?_)
   refine ⟨r.s,r.ds,_,rfl,R.s,rfl,Or.inl ⟨_,_,Or.inr hT,rfl,r,k,a,rfl,R,vo.1,?_⟩⟩
   exact Or.inl ⟨_,_,Or.inr hT,rfl,_,_,_,rfl,(Th.cj R.ok vo.1).1,(Th.cj R.ok vo.1).2,(Th.cj R.ok vo.2.1).1,(Th.cj R.ok vo.2.1).2,q⟩
  | atl l i =>
   obtain ⟨v1,v2,v3⟩:=vo
   have ln:=R.ok.len l v1 v2
   have lz:=O.z l
   refine aL (fun b=>absurd b (by show ¬ decide (V.int 3=V.int 1)=true;decide)) (fun b=>?_)
   refine ⟨r.s,r.ds,_,rfl,R.s,rfl,Or.inl ⟨_,_,Or.inr hT,rfl,r,k,i,rfl,R,v3,?_⟩⟩
   refine Or.inl ⟨_,_,Or.inr hT,rfl,rfl,_,rfl,?_⟩
   refine aL (fun b=>?_) (fun b=>absurd (show decide (V.str "at"=V.str "at")=true by decide) b)
   refine ⟨r.s,_,r.ds,_,_,rfl,R.s,T.bS.cl,T.cM,rfl,Or.inl ⟨_,_,Or.inr hT,rfl,_,R.gl O v1 v2,?_⟩⟩
   have hL:=SqL.of (K:=K) (R.ha l (kB v1 v2))
   refine Or.inl ⟨_,_,rfl,Or.inl ⟨_,hL,rfl⟩,_,(k.lst l).length,by rw [List.length_map];rfl,Th.cj R.ok v3,by omega,by omega,?_⟩
   exact Or.inl ⟨_,_,Or.inl hL,yT (by omega) _,q⟩
def vm (K:W.Frag) (A:Adr) (E:En):Sp:=fun vs H Q _=>∃(r:Ra) (k:S) (a:Addr),vs=[.ref r.s,.ref a]/\br A E H r k /\
 ((∃(dx p:Addr) (n h:V) (val:Val),val.ok E/\H a=some (.ins A.bp dx [("number",n),("name",h),("value",.ref p)])/\H p=some (.tup (vV E.N val))/\Q (.int (val.num k)) H) \/ (∃(dx p:Addr) (n x m:V) (val:Val),val.ok E/\H a=some (.ins A.bJ dx [("number",n),("name",x),("value",.ref p),("mark",m)])/\H p=some (.tup (vV E.N val))/\Q (.int (val.num k)) H) \/ (∃C:Addr,kK K H (.ref a) (.ref C)/\W.kitOne K (.ref C) (.ref A.bp)=some false/\W.kitOne K (.ref C) (.ref A.bJ)=some false/\Q .non H))
theorem BK (T:Txt K mg A) (O:E.Ok):cR P w K mg base 4 A.Run "number_told" ["self","row"] (vm K A E):=by
 have D_number_for:=uV (P:=P) (w:=w) (base:=base) T O
 refine T.gS.has (k:=3) lF (fun vs H Q E h=>?_) (fun f cdv A' outer s' H vs Q E' hr hu h=>?_)
 ·obtain ⟨r,k,a,rfl,_⟩:=h
  rfl
 ·obtain ⟨r,k,a,rfl,R,h⟩:=h
  refine ⟨_,(ab (aO (PW.pt (pw_or (bU (aG bg rfl T.aB (by boot_by_name) (aa (fv 1) (aa (dH T.aQ.mg) af))) (fun _=>rfl)) (pw_or1 (bU (aG bg rfl T.aB (by boot_by_name) (aa (fv 1) (aa (dH T.aR.mg) af))) (fun _=>rfl)))))
   (ag (aA (bD (fv 0) T.bS.cl D_number_for hr (aa (aJ (fv 1) rfl) af))))
   aH)
  (ag (aA nU))),?_⟩
  rcases h with ⟨dx,p,n,hh,val,vo,ha,hp,q⟩ | ⟨dx,p,n,x,m,val,vo,ha,hp,q⟩ | ⟨C,ty,k1,k2,q⟩
  ·refine ⟨_,_,_,true,rfl,(fun z=>by cases z),T.aQ.bZ ha,lO T.aQ,true,rfl,cU ?_⟩
   exact ⟨r.s,r.ds,_,rfl,R.s,rfl,a,_,dx,_,_,rfl,ha,T.aQ.cl,T.fR,rfl,r,k,p,val,rfl,R,hp,vo,q⟩
  ·refine ⟨_,_,_,false,rfl,(fun z=>by cases z),T.aR.bZ ha,cf T.aR T.aQ (av T 8 9) (av T 8 1),false,rfl,bw ⟨_,_,_,true,rfl,(fun z=>by cases z),T.aR.bZ ha,lO T.aR,true,rfl,cU ?_⟩⟩
   exact ⟨r.s,r.ds,_,rfl,R.s,rfl,a,_,dx,_,_,rfl,ha,T.aR.cl,T.gN,rfl,r,k,p,val,rfl,R,hp,vo,q⟩
  ·refine ⟨_,_,_,false,rfl,(fun z=>by cases z),ty,k1,false,rfl,bw ?_⟩
   exact ⟨_,_,_,false,rfl,(fun z=>by cases z),ty,k2,false,rfl,bw q⟩
def Ar (A:Adr) (E:En):Sp:=fun vs H Q _=>∃(r:Ra) (n:Int) (k:S),vs=[.ref r.s,.int n]/\br A E H r k/\∀H',Go (r.M E) H (r.M E) H'->br A E H' r (k.idle n)->Q .non H'
theorem tM (T:Txt K mg A):cR P w K mg base 1 A.Run "pass_steps" ["self","count"] (Ar A E):=by
 refine T.iU.has (k:=0) gR (fun vs H Q E h=>?_) (fun f cdv A' outer s' H vs Q E' hr hu h=>?_)
 ·obtain ⟨r,n,k,rfl,_⟩:=h
  rfl
 ·obtain ⟨r,n,k,rfl,R,q⟩:=h
  refine ⟨_,(ab (aC (i:=2) gR.nd rfl (Or.inl rfl) (aJ (fv 0) rfl))
  (ag (wq (fv 2) (fv 1) Bg))),?_⟩
  refine ⟨r.s,_,r.ds,_,_,rfl,R.s,T.bS.cl,T.gk,rfl,?_⟩
  refine ⟨r.b,_,r.db,_,_,rfl,R.hb,T.cq.cl,T.cY,rfl,_,_,rfl,rfl,r.db,_,R.hb,by simp [o4],?_⟩
  exact q _ (Go.at (r.inM E).1 _) (R.steps (k.steps + n))
theorem xM {xs:List Int} (h:0 < xs.length) (i:Int):ixN (xs.map V.int).length (i % (xs.length:Int))=some (i % (xs.length:Int)).toNat:=by
 obtain ⟨m0,m1⟩:=bK i (show (0:Int) < (xs.length:Int) by omega)
 unfold ixN
 rw [if_pos m0,List.length_map,if_pos m1]
def xn (A:Adr) (E:En):Sp:=fun vs H Q _=>∃(r:Ra) (k:S) (n:V) (x:Nat) (t:Th) (val:Val) (a dx p:Addr),vs=[.ref r.s,.ref a]/\br A E H r k/\x ∈ E.idx/\0 < E.sz x/\t.ok E/\val.ok E/\H a=some (.ins A.bP dx [("number",n),("name",.str (E.N x)),("place",t.v E.N),("value",.ref p)])/\H p=some (.tup (vV E.N val))/\∀H',br A E H' r (k.nB x (t.num k) (val.num k))->Go (r.M E) H (r.M E) H'->Q .non H'
theorem Am (T:Txt K mg A) (O:E.Ok):cR P w K mg base 4 A.Run "do_put" ["self","row"] (xn A E):=by
 have D_number_at:=zr (P:=P) (w:=w) (base:=base) T O
 have D_number_for:=uV (P:=P) (w:=w) (base:=base) T O
 have D_round_place:=vj (P:=P) (w:=w) (base:=base) T
 refine T.lS.has (k:=3) kM (fun vs H Q E h=>?_) (fun f cdv A' outer s' H vs Q E' hr hu h=>?_)
 ·obtain ⟨r,k,n,x,t,val,a,dx,p,rfl,_⟩:=h
  rfl
 ·obtain ⟨r,k,n,x,t,val,a,dx,p,rfl,R,hx,hz,to,vo,ha,hp,q⟩:=h
  have ln:=R.ok.len x hx hz
  have lz:=O.z x
  refine ⟨_,(ab (aC (i:=2) kM.nd rfl (Or.inl rfl) (px hu (aJ (fv 0) rfl) (aJ (fv 1) rfl)))
  (ag (bo (bD (fv 0) T.bS.cl D_number_for hr (aa (aJ (fv 1) rfl) af)) (bA (fv 2) (ar D_round_place hr (aa (bD (fv 0) T.bS.cl D_number_at hr (aa (aJ (fv 1) rfl) af)) (aa (aG dF rfl T.eI (by boot_by_name) (aa (fv 2) af)) af))) (bB hu set_list))))),?_⟩
  refine ⟨r.s,_,r.ds,_,_,rfl,R.s,T.bS.cl,T.cM,rfl,a,_,dx,_,_,rfl,ha,T.bC.cl,T.hJ,rfl,_,R.gl O hx hz,?_⟩
  refine ⟨r.s,r.ds,_,rfl,R.s,rfl,a,_,dx,_,_,rfl,ha,T.bC.cl,T.gB,rfl,r,k,p,val,rfl,R,hp,vo,?_⟩
  refine ⟨r.s,r.ds,_,rfl,R.s,rfl,a,_,dx,_,_,rfl,ha,T.bC.cl,T.gM,rfl,r,k,t,rfl,R,to,?_⟩
  have hL:=R.ha x (kB hx hz)
  refine Or.inl ⟨_,_,rfl,Or.inl ⟨_,SqL.of hL,rfl⟩,_,(k.lst x).length,by rw [List.length_map];rfl,Th.cj R.ok to,by omega,by omega,?_⟩
  refine Or.inl ⟨_,_,hL,xM (by omega) _,?_⟩
  exact q _ (R.nB (kB hx hz) (t.num k) (Val.cj R.ok vo)) (Go.at ((r.inM E).2.2.2.2.2 x (kB hx hz)) _)
end
section
variable {P:Program}{w:World}{K:W.Frag}{mg:Str->Option Value}{base:Heap}{A:Adr}{E:En}
def Rw.no:Rw->Int
 | .set n _ _=>n
 | .put n _ _ _=>n
 | .snd n _ _=>n
 | .say n _ _ _=>n
 | .last n=>n
 | .call n _ _=>n
 | .iff n _ _ _ _ _=>n
 | .loop n _ _ _ _ _=>n
def Rw.told (s:S):Rw->V
 | .snd _ _ v=>.int (v.num s)
 | .say _ _ v _=>.int (v.num s)
 | _=>.non
def Rw.cl (A:Adr):Rw->Addr
 | .set _ _ _=>A.bX
 | .put _ _ _ _=>A.bP
 | .snd _ _ _=>A.bp
 | .say _ _ _ _=>A.bJ
 | .last _=>A.cB
 | .call _ _ _=>A.bI
 | .iff _ _ _ _ _ _=>A.bQ
 | .loop _ _ _ _ _ _=>A.aW
theorem yJ {X:Hp}{d:Nat}{v:V}{rw:Rw} (h:cu A E X d v rw):∃a dx fs,v=.ref a/\X a=some (.ins (rw.cl A) dx (("number",.int rw.no) :: fs)):=by
 cases rw with
 | set n x val=>cases d <;> (obtain ⟨a,dx,p,e,h1,h2⟩:=h;exact ⟨a,dx,_,e,h1⟩)
 | put n x pl val=>cases d <;> (obtain ⟨a,dx,p,e,h1,h2⟩:=h;exact ⟨a,dx,_,e,h1⟩)
 | snd n x val=>cases d <;> (obtain ⟨a,dx,p,e,h1,h2⟩:=h;exact ⟨a,dx,_,e,h1⟩)
 | say n x val m=>cases d <;> (obtain ⟨a,dx,p,e,h1,h2⟩:=h;exact ⟨a,dx,_,e,h1⟩)
 | last n=>cases d <;> (obtain ⟨a,dx,e,h1⟩:=h;exact ⟨a,dx,_,e,h1⟩)
 | call n i ts =>
  cases d with
  | zero=>exact h.elim
  | succ d=>obtain ⟨a,dx,p,D,e,h0,h1,_⟩:=h;exact ⟨a,dx,_,e,h1⟩
 | iff n val f o l r =>
  cases d with
  | zero=>exact h.elim
  | succ d=>obtain ⟨a,dx,p,pf,po,xf,xo,e,h1,_⟩:=h;exact ⟨a,dx,_,e,h1⟩
 | loop n t m b l r =>
  cases d with
  | zero=>exact h.elim
  | succ d=>obtain ⟨a,dx,pb,xb,e,h1,_⟩:=h;exact ⟨a,dx,_,e,h1⟩
theorem CF (T:Txt K mg A) (rw:Rw):Cls K (rw.cl A)/\aK K (rw.cl A) "number":=by
 cases rw with
 | set n x val=>exact ⟨T.bO.cl,T.fP⟩
 | put n x pl val=>exact ⟨T.bC.cl,T.fN⟩
 | snd n x val=>exact ⟨T.aQ.cl,T.er⟩
 | say n x val m=>exact ⟨T.aR.cl,T.eM⟩
 | last n=>exact ⟨T.aS.cl,T.fo⟩
 | call n i ts=>exact ⟨T.aY.cl,T.fC⟩
 | iff n val f o l r=>exact ⟨T.bz.cl,T.gH⟩
 | loop n t m b l r=>exact ⟨T.aN.cl,T.ft⟩
theorem zP (T:Txt K mg A) {X H:Hp}{d:Nat}{a:Addr}{rw:Rw}{r:Ra}{k:S}{Q:VK}{E0:XK} (h:cu A E X d (.ref a) rw) (wf:Wf E d rw) (s:aj X H) (R:br A E H r k) (q:Q (rw.told k) H):vm K A E (.ref r.s :: ([.ref a] ++ [])) H Q E0:=by
 refine ⟨r,k,a,rfl,R,?_⟩
 have no:∀{C D:Addr}{x:Str}{up:List Addr},eG K mg C x up->(∃dx fs,X a=some (.ins C dx fs))->W.kitOne K (.ref C) (.ref A.bp)=some false->W.kitOne K (.ref C) (.ref A.bJ)=some false->rw.told k=.non->∃C:Addr,kK K H (.ref a) (.ref C)/\W.kitOne K (.ref C) (.ref A.bp)=some false/\W.kitOne K (.ref C) (.ref A.bJ)=some false/\Q .non H:=fun {C D x up} o ⟨dx,fs,e⟩ k1 k2 z=>⟨C,o.bZ (s _ _ e),k1,k2,by rw [z] at q;exact q⟩
 obtain ⟨a',dx,fs,ea,h1⟩:=yJ h
 cases ea
 cases rw with
 | set n x val=>exact Or.inr (Or.inr (no (D:=a) T.bO ⟨_,_,h1⟩ (cf T.bO T.aQ (av T 8 6) (av T 8 1)) (cf T.bO T.aR (av T 9 6) (av T 9 1)) rfl))
 | put n x pl val=>exact Or.inr (Or.inr (no (D:=a) T.bC ⟨_,_,h1⟩ (cf T.bC T.aQ (av T 8 7) (av T 8 1)) (cf T.bC T.aR (av T 9 7) (av T 9 1)) rfl))
 | snd n x val =>
  obtain ⟨a',dx,p,ea,h1,h2⟩:∃a' dx p,V.ref a=.ref a'/\X a'=some (.ins A.bp dx [("number",.int n),("name",.str (E.N x)),("value",.ref p)])/\X p=some (.tup (vV E.N val)):=by cases d <;> exact h
  cases ea
  have vo:val.ok E:=by cases d <;> exact wf
  exact Or.inl ⟨dx,p,_,_,val,vo,s _ _ h1,s _ _ h2,q⟩
 | say n x val m =>
  obtain ⟨a',dx,p,ea,h1,h2⟩:∃a' dx p,V.ref a=.ref a'/\X a'=some (.ins A.bJ dx [("number",.int n),("name",.str (E.N x)),("value",.ref p),("mark",.str (E.N m))])/\X p=some (.tup (vV E.N val)):=by cases d <;> exact h
  cases ea
  have vo:x ∈ E.idx/\E.sz x=0/\val.ok E:=by cases d <;> exact wf
  exact Or.inr (Or.inl ⟨dx,p,_,_,_,val,vo.2.2,s _ _ h1,s _ _ h2,q⟩)
 | last n=>exact Or.inr (Or.inr (no (D:=a) T.aS ⟨_,_,h1⟩ (cf T.aS T.aQ (av T 8 11) (av T 8 1)) (cf T.aS T.aR (av T 9 11) (av T 9 1)) rfl))
 | call n i ts=>exact Or.inr (Or.inr (no (D:=a) T.aY ⟨_,_,h1⟩ (cf T.aY T.aQ (av T 8 10) (av T 8 1)) (cf T.aY T.aR (av T 9 10) (av T 9 1)) rfl))
 | iff n val f o l r=>exact Or.inr (Or.inr (no (D:=a) T.bz ⟨_,_,h1⟩ (cf T.bz T.aQ (av T 8 12) (av T 8 1)) (cf T.bz T.aR (av T 9 12) (av T 9 1)) rfl))
 | loop n t m b l r=>exact Or.inr (Or.inr (no (D:=a) T.aN ⟨_,_,h1⟩ (cf T.aN T.aQ (av T 8 13) (av T 8 1)) (cf T.aN T.aR (av T 9 13) (av T 9 1)) rfl))
abbrev BIG:Int:=1000000
def After (A:Adr) (E:En) (H:Hp) (r:Ra) (k:S) (v:V) (Q:VK):Prop:=∀H',Go (r.M E) H (r.M E) H'->br A E H' r k->Q v H'
def tu (A:Adr) (E:En) (f:Nat):Sp:=fun vs H Q _=>∃(r:Ra) (k:S) (v:V) (rw:Rw),vs=[.ref r.s,v]/\br A E H r k/\cu A E (del (r.M E) H) f v rw/\Wf E f rw/\k.room BIG (aE E f rw)/\After A E H r (doR E f k rw).1 (.bl (doR E f k rw).2) Q
def mj (A:Adr) (E:En) (f:Nat):Sp:=fun vs H Q _=>∃(r:Ra) (k:S) (q:Addr) (xs:List V) (rows:List Rw),vs=[.ref r.s,.ref q]/\br A E H r k/\del (r.M E) H q=some (.lst xs)/\Paired (cu A E (del (r.M E) H) f) xs rows/\(∀rw ∈ rows,Wf E f rw)/\k.room BIG ((rows.map (aE E f)).sum)/\After A E H r (aU (doR E f) k rows).1 (.bl (aU (doR E f) k rows).2) Q
def jd (A:Adr) (E:En):Nat->Sp
 | 0=>fun _ _ _ _=>False
 | f + 1=>mj A E f
def kG (A:Adr) (E:En) (P:Rw->Prop) (G:Nat->S->Rw->S × V):Nat->Sp
 | 0=>fun _ _ _ _=>False
 | f + 1=>fun vs H Q _=>∃(r:Ra) (k:S) (a:Addr) (rw:Rw),P rw/\vs=[.ref r.s,.ref a]/\br A E H r k/\cu A E (del (r.M E) H) (f + 1) (.ref a) rw/\Wf E (f + 1) rw/\k.room BIG (aE E (f + 1) rw - 1)/\After A E H r (G f k rw).1 (G f k rw).2 Q
def Dk:Rw->Prop
 | .iff _ _ _ _ _ _=>True
 | _=>False
def yC:Rw->Prop
 | .loop _ _ _ _ _ _=>True
 | _=>False
def yB:Rw->Prop
 | .call _ _ _=>True
 | _=>False
def gIf (E:En) (d:Nat) (s:S):Rw->S × V
 | .iff _ v f o l r=>if v.num s ≠ 0 then ((aU (doR E d) s f).1.idle l,.bl (aU (doR E d) s f).2) else ((aU (doR E d) s o).1.idle r,.bl (aU (doR E d) s o).2)
 | _=>(s,.non)
def sC (E:En) (d:Nat) (s:S):Rw->S × V
 | .loop _ t m b l r=>((rounds (fun s=>aU (doR E d) s b) l (want s t m).toNat 0 s).1.idle (r * (m - (rounds (fun s=>aU (doR E d) s b) l (want s t m).toNat 0 s).2)),.non)
 | _=>(s,.non)
def oy (E:En) (d:Nat) (s:S):Rw->S × V
 | .call _ i ts=>match E.ds[i]? with
  | some D=>((aU (doR E d) (s.pO (D.parts.zip (ts.map (Th.num s)))) D.body).1,.non)
  | none=>(s,.non)
 | _=>(s,.non)
theorem ou {f:S->Rw->S × Bool}{p:S × Bool}{xs:List Rw}{i:Nat}{x:Rw} (h:xs[i]?=some x):(xs.take (i + 1)).foldl (step f) p=step f ((xs.take i).foldl (step f) p) x:=qe _ _ h
theorem l8 {α:Type}{xs:List α}{i:Nat}{x:α} (h:xs[i]?=some x):xs.drop i=x :: xs.drop (i + 1):=by
 obtain ⟨hi,e⟩:=List.getElem?_eq_some_iff.mp h
 rw [List.drop_eq_getElem_cons hi,e]
theorem sG {j f:Nat} (T:Txt K mg A) (D:cR P w K mg base j A.Run "do_row" ["self","row"] (tu A E f)):cR P w K mg base (j + 1) A.Run "do_rows" ["self","rows"] (mj A E f):=by
 have D_do_row:=D
 refine T.iz.has (k:=j) dU (fun vs H Q E h=>?_) (fun f' cdv A' outer s' H vs Q E' hr hu h=>?_)
 ·obtain ⟨r,k,q,xs,rows,rfl,_⟩:=h
  rfl
 ·obtain ⟨r,k,q,xs,rows,rfl,R,hq,pr,wf,rm,g⟩:=h
  refine ⟨_,(ab (aC (i:=2) dU.nd rfl (Or.inl rfl) gT)
  (ab (dX PassesOwn.never rfl (fu (fv 1)) (pgn (i:=3) dU.nd rfl)
   (ag (aO (bU (bD (hj:=by omega) (fv 0) T.bS.cl D_do_row hr (aa (fv 3) af)) (fun _=>rfl))
    (ag (aC (i:=2) dU.nd rfl (Or.inl rfl) gT))
    aH)))
  (ag (aA (fv 2))))),?_⟩
  refine Or.inl ⟨⟨_,SqL.of (ao _ _ hq)⟩,fL (K:=K) (xs:=xs) (fun i σ H2=>Go (r.M E) H (r.M E) H2/\br A E H2 r ((rows.take i).foldl (step (doR E f)) (k,false)).1/\((rows.take i).foldl (step (doR E f)) (k,false)).1.room BIG (((rows.drop i).map (aE E f)).sum) /\
   ∃v,σ=[some (.ref r.s),some (.ref q),some (.bl ((rows.take i).foldl (step (doR E f)) (k,false)).2),v]) ⟨Go.refl _ _,R,rm,none,rfl⟩ (fun i σ H2 _ h=>SqL.of (ao _ _ (h.1.same _ _ hq))) ?_ ?_⟩
  ·rintro i v σ H2 hx ⟨g2,R2,rm2,z,rfl⟩
   obtain ⟨rw,hrw,W⟩:=cw pr hx
   rw [ou hrw]
   rw [l8 hrw,List.map_cons,List.sum_cons] at rm2
   generalize (rows.take i).foldl (step (doR E f)) (k,false)=p at R2 rm2 ⊢
   have wr:=wf rw (List.mem_of_getElem? hrw)
   have nn:=lG E (d:=f) (xs:=rows.drop (i + 1)) fun q hq=>wf q (List.mem_of_mem_drop hq)
   refine ⟨r.s,r.ds,_,rfl,R2.s,rfl,r,p.1,v,rw,rfl,R2,W.same g2.same,wr,rm2.le (by omega),fun H3 g3 R3=>⟨_,rfl,?_⟩⟩
   have rm3:=kr E f p.1 rw _ wr rm2
   show if (doR E f p.1 rw).2=true then _ else _
   unfold step
   cases hb:(doR E f p.1 rw).2 with
   | true =>
    refine cU ⟨g2.trans g3,R3,rm3,some v,?_⟩
    rw [Bool.or_true]
    rfl
   | false =>
    refine bw ⟨g2.trans g3,R3,rm3,some v,?_⟩
    rw [Bool.or_false]
    rfl
  ·rintro σ H2 ⟨g2,R2,rm2,z,rfl⟩
   have hl:xs.length=rows.length:=Paired.length pr
   rw [hl,List.take_length] at R2 ⊢
   exact g H2 g2 R2
theorem nS (k:S) (n:Int) (v:V):Th.num (k.tell n v)=Th.num k:=by
 funext a
 cases a <;> rfl
theorem ku (k:S) (n:Int) (v:V) (val:Val):val.num (k.tell n v)=val.num k:=by
 cases val with
 | one a=>cases a <;> rfl
 | op a w b=>cases a <;> cases b <;> rfl
 | atl x b=>cases b <;> rfl
theorem vP (k:S) (n:Int) (rw:Rw):rw.told (k.idle n)=rw.told k:=by
 have e:∀val:Val,val.num (k.idle n)=val.num k:=fun val=>by
  cases val with
  | one a=>cases a <;> rfl
  | op a w b=>cases a <;> cases b <;> rfl
  | atl x b=>cases b <;> rfl
 cases rw <;> first | rfl | exact congrArg V.int (e _)
theorem nZ {n:Nat}{B s:Int} (h:(n:Int) <= s) (h2:s + 1 <= B) (h3:B <= 1000000):n < sizeLine:=by
 have:sizeLine ≥ 1000001:=by decide
 omega
end
section
variable {P:Program}{w:World}{K:W.Frag}{mg:Str->Option Value}{base:Heap}{A:Adr}{E:En}
theorem B9 {j:Nat} (hj:3 <= j) (T:Txt K mg A) (O:E.Ok):∀{n:Nat},cR P w K mg base j A.Run "do_rows" ["self","rows"] (jd A E n)->cR P w K mg base (j + 1) A.Run "do_if" ["self","row"] (kG A E Dk (gIf E) n)
 | 0,_=>T.jX.has (k:=j) fX (fun _ _ _ _ h=>h.elim) (fun _ _ _ _ _ _ _ _ _ _ _ h=>h.elim)
 | d + 1,D=>by
  have D_do_rows:=D
  have D_number_for:=uV (P:=P) (w:=w) (base:=base) T O
  have D_pass_steps:=tM (P:=P) (w:=w) (base:=base) (E:=E) T
  refine T.jX.has (k:=j) fX (fun vs H Q E h=>?_) (fun f cdv A' outer s' H vs Q E' hr hu h=>?_)
  ·obtain ⟨r,k,a,rw,_,rfl,_⟩:=h
   rfl
  ·obtain ⟨r,k,a,rw,hP,rfl,R,W,wf,rm,g⟩:=h
   cases rw with
   | iff n val fs os l r0 =>
    obtain ⟨a',dx,p,pf,po,xf,xo,ea,ha,hp,hf,ho,r1,r2⟩:=W
    cases ea
    obtain ⟨vo,l0,r00,wf1,wf2⟩:=wf
    have s0:aj (del (r.M E) H) H:=ao
    unfold aE at rm
    refine ⟨_,(ab (aO (ay (uQ hu) (bD (hj:=by omega) (fv 0) T.bS.cl D_number_for hr (aa (aJ (fv 1) rfl) af)) ae (az _))
   (ab (aC (i:=2) fX.nd rfl (Or.inl rfl) (bD (hj:=by omega) (fv 0) T.bS.cl D_do_rows hr (aa (aJ (fv 1) rfl) af)))
   (ag (aP (bD (hj:=by omega) (fv 0) T.bS.cl D_pass_steps hr (aa (aJ (fv 1) rfl) af)))))
   (ab (aC (i:=2) fX.nd rfl (Or.inl rfl) (bD (hj:=by omega) (fv 0) T.bS.cl D_do_rows hr (aa (aJ (fv 1) rfl) af)))
   (ag (aP (bD (hj:=by omega) (fv 0) T.bS.cl D_pass_steps hr (aa (aJ (fv 1) rfl) af))))))
  (ag (aA (fv 2)))),?_⟩
    refine ⟨r.s,r.ds,_,rfl,R.s,rfl,a,_,dx,_,_,rfl,s0 _ _ ha,T.bz.cl,T.iI,rfl,r,k,p,val,rfl,R,s0 _ _ hp,vo,rfl,_,rfl,?_⟩
    have b1:(fs.map (aE E d)).sum <= 1 + (if l + (fs.map (aE E d)).sum < r0 + (os.map (aE E d)).sum then r0 + (os.map (aE E d)).sum else l + (fs.map (aE E d)).sum) - 1:=by split <;> omega
    have b2:(os.map (aE E d)).sum <= 1 + (if l + (fs.map (aE E d)).sum < r0 + (os.map (aE E d)).sum then r0 + (os.map (aE E d)).sum else l + (fs.map (aE E d)).sum) - 1:=by split <;> omega
    unfold gIf at g
    dsimp only at g
    by_cases c:val.num k=0
    ·rw [show (!decide (V.int (val.num k)=V.int 0))=false by rw [fW,c];rfl]
     refine bw ?_
     rw [if_neg (fun z=>z c)] at g
     refine ⟨r.s,r.ds,_,rfl,R.s,rfl,a,_,dx,_,_,rfl,s0 _ _ ha,T.bz.cl,T.iO,rfl,r,k,po,xo,os,rfl,R,ho,r2,wf2,rm.le b2,fun H2 g2 R2=>?_⟩
     have ha2:=ao _ _ (g2.same _ _ ha)
     exact ⟨r.s,r.ds,_,rfl,R2.s,rfl,a,_,dx,_,_,rfl,ha2,T.bz.cl,T.iw,rfl,r,r0,_,rfl,R2,fun H3 g3 R3=>g H3 (g2.trans g3) R3⟩
    ·rw [show (!decide (V.int (val.num k)=V.int 0))=true by rw [fW,decide_eq_false c];rfl]
     refine cU ?_
     rw [if_pos c] at g
     refine ⟨r.s,r.ds,_,rfl,R.s,rfl,a,_,dx,_,_,rfl,s0 _ _ ha,T.bz.cl,T.iA,rfl,r,k,pf,xf,fs,rfl,R,hf,r1,wf1,rm.le b1,fun H2 g2 R2=>?_⟩
     have ha2:=ao _ _ (g2.same _ _ ha)
     exact ⟨r.s,r.ds,_,rfl,R2.s,rfl,a,_,dx,_,_,rfl,ha2,T.bz.cl,T.je,rfl,r,l,_,rfl,R2,fun H3 g3 R3=>g H3 (g2.trans g3) R3⟩
   | _=>exact (show False from hP).elim
theorem uq {i i':Nat}{v v':V}{t u:TS}{D:Ends}{σ:St}{H:Hp} (h:∀N:St->Hp->Prop,(∀σ H,u D σ H->N σ H)->t { D with nx:=N } ((σ.set i (some v)).set i' (some v')) H):jY i v σ H (xk (zu (tC v') (jY i')) (xk t u) D):=h (u D) fun _ _ z=>z
theorem mL (body:S->S × Bool) (l:Int):∀(n j:Nat) (s:S),j <= (rounds body l n j s).2/\(rounds body l n j s).2 <= n + j
 | 0,j,s=>by simp [rounds]
 | n + 1,j,s=>by
  simp only [rounds]
  split
  ·simp;omega
  ·have:=mL body l n (j + 1) ((body s).1.idle l)
   omega
theorem xw {j:Nat} (hj:3 <= j) (T:Txt K mg A) (O:E.Ok):∀{n:Nat},cR P w K mg base j A.Run "do_rows" ["self","rows"] (jd A E n)->cR P w K mg base (j + 1) A.Run "do_loop" ["self","row"] (kG A E yC (sC E) n)
 | 0,_=>T.iG.has (k:=j) cP (fun _ _ _ _ h=>h.elim) (fun _ _ _ _ _ _ _ _ _ _ _ h=>h.elim)
 | d + 1,D=>by
  have D_do_rows:=D
  have D_number_at:=zr (P:=P) (w:=w) (base:=base) T O
  have D_pass_steps:=tM (P:=P) (w:=w) (base:=base) (E:=E) T
  refine T.iG.has (k:=j) cP (fun vs H Q E h=>?_) (fun f cdv A' outer s' H vs Q E' hr hu h=>?_)
  ·obtain ⟨r,k,a,rw,_,rfl,_⟩:=h
   rfl
  ·obtain ⟨r,k,a,rw,hP,rfl,R,W,wf,rm,g⟩:=h
   cases rw with
   | loop n th m b l r0 =>
    obtain ⟨a',dx,q,xs,ea,ha,hq,pr⟩:=W
    cases ea
    obtain ⟨to,m0,m1,l0,r00,wfb⟩:=wf
    unfold aE at rm
    have c0:=lG E wfb
    have lr:(m * (l + (b.map (aE E d)).sum)) <= 1 + m * (if l + (b.map (aE E d)).sum < r0 then r0 else l + (b.map (aE E d)).sum) - 1:=by
     have:m * (l + (b.map (aE E d)).sum) <= m * (if l + (b.map (aE E d)).sum < r0 then r0 else l + (b.map (aE E d)).sum):=Int.mul_le_mul_of_nonneg_left (by split <;> omega) m0
     omega
    have rm1:=rm.le lr
    have s0:aj (del (r.M E) H) H:=ao
    refine ⟨_,(ab (aC (i:=2) cP.nd rfl (Or.inl rfl) (aG Aw rfl T.rY (by boot_by_name) (aa (bD (hj:=by omega) (fv 0) T.bS.cl D_number_at hr (aa (aJ (fv 1) rfl) af)) (aa (aJ (fv 1) rfl) af))))
  (ab (aC (i:=3) cP.nd rfl (Or.inl rfl) ae)
  (ab (oW PassesOwn.never (ay (yj) (fv 3) (fv 2) (az _))
   (ab (BS (i:=3) cP.nd rfl (by first | exact Or.inl rfl | exact Or.inr rfl) ae AR)
   (ab (aC (i:=4) cP.nd rfl (Or.inl rfl) (bD (hj:=by omega) (fv 0) T.bS.cl D_do_rows hr (aa (aJ (fv 1) rfl) af)))
   (ab (aP (bD (hj:=by omega) (fv 0) T.bS.cl D_pass_steps hr (aa (aJ (fv 1) rfl) af)))
   (ag (aO (bU (fv 4) (fun _=>rfl))
    (ag (r9))
    aH))))))
  (ag (aP (bD (hj:=by omega) (fv 0) T.bS.cl D_pass_steps hr (aa (aw fe (aJ (fv 1) rfl) (aw lN (aJ (fv 1) rfl) (fv 3))) af))))))),?_⟩
    refine ⟨r.s,r.ds,_,rfl,R.s,rfl,a,_,dx,_,_,rfl,s0 _ _ ha,T.aN.cl,T.fO,rfl,r,k,th,rfl,R,to,?_⟩
    refine ⟨a,_,dx,_,_,rfl,s0 _ _ ha,T.aN.cl,T.eY,rfl,_,_,rfl,?_⟩
    dsimp only
    refine uq fun N KN=>?_
    have wn:=uW R.ok to m0
    have wm:=qZ k th m
    have ew:(if m < th.num k then m else th.num k)=want k th m:=rfl
    rw [ew]
    have gdef:sC E d k (.loop n th m b l r0)=((rounds (fun s=>aU (doR E d) s b) l (want k th m).toNat 0 k).1.idle (r0 * (m - (rounds (fun s=>aU (doR E d) s b) l (want k th m).toNat 0 k).2)),.non):=rfl
    rw [gdef] at g
    have rl:=mL (fun s=>aU (doR E d) s b) l (want k th m).toNat 0 k
    generalize hX:rounds (fun s=>aU (doR E d) s b) l (want k th m).toNat 0 k=X at g rl
    generalize want k th m=wt at wn wm hX rl ⊢
    have tail:∀(kk:S) (jj:Nat) (v4:Option V) (Hx:Hp),Go (r.M E) H (r.M E) Hx->br A E Hx r kk->X=(kk,jj)->N [some (.ref r.s),some (.ref a),some (.int wt),some (.int (jj:Int)),v4] Hx:=by
     intro kk jj v4 Hx gx Rx ex
     refine KN _ _ ?_
     rw [ex] at rl g
     dsimp only at rl
     have hax:=ao _ _ (gx.same _ _ ha)
     refine ⟨r.s,r.ds,_,rfl,Rx.s,rfl,a,_,dx,_,_,rfl,hax,T.aN.cl,T.fQ,rfl,a,_,dx,_,_,rfl,hax,T.aN.cl,T.eY,rfl,.inr ⟨by omega,by omega⟩,?_⟩
     exact ⟨r,_,kk,rfl,Rx,fun H3 g3 R3=>g H3 (gx.trans g3) R3⟩
    refine ⟨fun mm σ Hx=>∃(jj:Nat) (kj:S) (v4:Option V),mm + jj=wt.toNat/\σ=[some (.ref r.s),some (.ref a),some (.int wt),some (.int (jj:Int)),v4]/\Go (r.M E) H (r.M E) Hx/\br A E Hx r kj/\kj.room BIG ((mm:Int) * (l + (b.map (aE E d)).sum))/\rounds (fun s=>aU (doR E d) s b) l mm jj kj=X,
     ⟨_,0,k,none,Nat.add_zero _,rfl,Go.refl _ _,R,rm1.le (Int.mul_le_mul_of_nonneg_right (by omega) (by omega)),hX⟩,?_⟩
    rintro mm σ Hx ⟨jj,kj,v4,hmm,rfl,gx,Rx,rmx,ex⟩
    refine ⟨_,rfl,aL (fun c=>?_) (fun c=>?_)⟩
    ·have hc:(jj:Int) < wt:=of_decide_eq_true c
     obtain ⟨m',rfl⟩:∃m',mm=m' + 1:=⟨mm - 1,by omega⟩
     have em:((m' + 1:Nat):Int) * (l + (b.map (aE E d)).sum)=(m':Int) * (l + (b.map (aE E d)).sum) + (l + (b.map (aE E d)).sum):=by rw [Int.natCast_succ,Int.add_mul,Int.one_mul]
     rw [em] at rmx
     have m0':0 <= (m':Int) * (l + (b.map (aE E d)).sum):=Int.mul_nonneg (by omega) (by omega)
     refine ⟨fun σ' H'=>∃(jj:Nat) (kj:S) (v4:Option V),m' + jj=wt.toNat/\σ'=[some (.ref r.s),some (.ref a),some (.int wt),some (.int (jj:Int)),v4]/\Go (r.M E) H (r.M E) H'/\br A E H' r kj/\kj.room BIG ((m':Int) * (l + (b.map (aE E d)).sum))/\rounds (fun s=>aU (doR E d) s b) l m' jj kj=X,fun σ' H' h'=>⟨m',Nat.lt_succ_self _,h'⟩,?_⟩
     refine ⟨_,rfl,_,_,rfl,rfl,?_⟩
     have hax:=ao _ _ (gx.same _ _ ha)
     refine ⟨r.s,r.ds,_,rfl,Rx.s,rfl,a,_,dx,_,_,rfl,hax,T.aN.cl,T.gJ,rfl,r,kj,q,xs,b,rfl,Rx,gx.same _ _ hq,Paired.cm pr (fun _ _=>cu.same gx.same),wfb,rmx.le (by omega),fun H2 g2 R2=>?_⟩
     have g02:=gx.trans g2
     have ha2:=ao _ _ (g02.same _ _ ha)
     refine ⟨r.s,r.ds,_,rfl,R2.s,rfl,a,_,dx,_,_,rfl,ha2,T.aN.cl,T.gI,rfl,r,l,_,rfl,R2,fun H3 g3 R3=>?_⟩
     have g03:=g02.trans g3
     have rm3:((aU (doR E d) kj b).1.idle l).room BIG ((m':Int) * (l + (b.map (aE E d)).sum)):=f9 (i4 (E:=E) (p:=Wf E d) (fun s r n w h=>kr E d s r n w h) b (kj,false) _ wfb (rmx.le (by omega))) l0
     simp only [rounds] at ex
     refine ⟨_,rfl,?_⟩
     cases hb:(aU (doR E d) kj b).2 with
     | true =>
      refine cU ?_
      rw [hb,if_pos rfl] at ex
      exact tail _ (jj + 1) _ H3 g03 R3 ex.symm
     | false =>
      refine bw ?_
      rw [hb,if_neg Bool.false_ne_true] at ex
      exact ⟨jj + 1,_,_,by omega,rfl,g03,R3,rm3,ex⟩
    ·have hc:¬ (jj:Int) < wt:=fun z=>c (decide_eq_true z)
     obtain rfl:mm=0:=by omega
     exact tail kj jj v4 Hx gx Rx ex.symm
   | _=>exact (show False from hP).elim
end
section
variable {P:Program}{w:World}{K:W.Frag}{mg:Str->Option Value}{base:Heap}{A:Adr}{E:En}
theorem DY {i:Nat}{v:V}{σ:St}{H:Hp}{G:List V->Hp->Prop} (hv:∀Q:V->Hp->Prop,Q v H->Ab i σ H Q) (h:G [v] H):AA (Ab i) zS σ H G:=hv _ h
theorem pZ {k:S}{xs:List (Nat × Int)}{i:Nat}{p:Nat × Int} (h:xs[i]?=some p):k.pO (xs.take (i + 1))=(k.pO (xs.take i)).put p.1 p.2:=qe _ _ h
theorem xB {j:Nat} (hj:3 <= j) (T:Txt K mg A) (O:E.Ok):∀{n:Nat},cR P w K mg base j A.Run "do_rows" ["self","rows"] (jd A E n)->cR P w K mg base (j + 1) A.Run "do_call" ["self","row"] (kG A E yB (oy E) n)
 | 0,_=>T.iF.has (k:=j) cS (fun _ _ _ _ h=>h.elim) (fun _ _ _ _ _ _ _ _ _ _ _ h=>h.elim)
 | d + 1,D=>by
  have D_do_rows:=D
  have D_number_at:=zr (P:=P) (w:=w) (base:=base) T O
  refine T.iF.has (k:=j) cS (fun vs H Q E h=>?_) (fun f' cdv A' outer s' H vs Q E' hr hu h=>?_)
  ·obtain ⟨r,k,a,rw,_,rfl,_⟩:=h
   rfl
  ·obtain ⟨r,k,a,rw,hP,rfl,R,W,wf,rm,g⟩:=h
   cases rw with
   | call n i ts =>
    obtain ⟨a',dx,p,D,ea,hD,ha,hp,b,bx,bn,pp,pb,bs,hdv,hb,hpp,hpb,W⟩:=W
    cases ea
    obtain ⟨to,tl4,D',hD',pl,wb⟩:=wf
    rw [hD] at hD'
    cases hD'
    unfold aE at rm
    unfold oy at g
    rw [hD] at rm
    dsimp only at g rm
    rw [hD] at g
    dsimp only at g
    have s0:aj (del (r.M E) H) H:=ao
    refine ⟨_,(ab (aC (i:=2) cS.nd rfl (Or.inl rfl) (px hu (aJ (fv 0) rfl) (aJ (fv 1) rfl)))
  (ab (lE (j:=3) (N:=["thing","self"]) (own:=1) (fr:=[0]) (df.of (by kernel_rfl!)) rfl cS.nd rfl (Or.inl rfl) (fu (aJ (fv 1) rfl)) (fun b=>pgn (i:=0) (show List.Nodup (["thing","self"]:List PySem.Str) by decide +kernel) rfl) (fun b=>jU) (fun b=>bD (hj:=by omega) (fv 1) T.bS.cl D_number_at hr (aa (fv 0) af)))
  (ab (dX PassesOwn.never rfl (A3 rfl T.vw (aa (aJ (fv 2) rfl) (aa (fv 3) af))) (pv rfl (di (pgn (i:=4) cS.nd rfl) (di (pgn (i:=5) cS.nd rfl) lU)))
   (ag (bo (fv 5) (bA (aJ (fv 0) rfl) (fv 4) (bB hu set_list)))))
  (ag (aP (bD (hj:=by omega) (fv 0) T.bS.cl D_do_rows hr (aa (aJ (fv 2) rfl) af))))))),?_⟩
    refine ax fun M1 K1=>?_
    refine ⟨r.s,_,r.ds,_,_,rfl,R.s,T.bS.cl,T.gU,rfl,a,_,dx,_,_,rfl,s0 _ _ ha,T.aY.cl,T.gp,rfl,_,R.DV O hD hdv,K1 _ _ ?_⟩
    refine ax fun M2 K2=>?_
    refine ⟨a,_,dx,_,_,rfl,s0 _ _ ha,T.aY.cl,T.fm,rfl,Or.inl ⟨⟨_,SqL.of (s0 _ _ hp)⟩,?_⟩⟩
    refine sU (K:=K) (fun i y _=>∀t,ts[i]?=some t->y=.int (t.num k)) (SqL.of (s0 _ _ hp)) (aM (by rw [List.length_map];omega)) (fun b' i x H2 G hx s2 kk=>?_) (fun _ _ _ _ _ h=>h) (fun _ _ _ _ _ _ _ h=>h) (fun nl H2 ys hnl s2 e2 yl hy=>?_)
    ·rw [List.getElem?_map] at hx
     cases ht:ts[i]? with
     | none=>rw [ht] at hx;cases hx
     | some t =>
      rw [ht] at hx
      cases hx
      have R2:=R.same s2
      exact ⟨r.s,r.ds,_,rfl,R2.s,rfl,r,k,t,rfl,R2,to t (List.mem_of_getElem? ht),kk _ _ (aj.refl _) fun t' h'=>by rw [ht] at h';cases h';rfl⟩
    have ey:ys=(ts.map (Th.num k)).map V.int:=by
     refine List.ext_getElem? fun i=>?_
     rw [List.length_map] at yl
     rw [List.getElem?_map,List.getElem?_map]
     cases h1:ts[i]? with
     | none =>
      have:ts.length <= i:=List.getElem?_eq_none_iff.mp h1
      exact List.getElem?_eq_none (by omega)
     | some t =>
      have lt:i < ys.length:=by have:=(List.getElem?_eq_some_iff.mp h1).1;omega
      rw [List.getElem?_eq_getElem lt,hy i _ (List.getElem?_eq_getElem lt) t h1]
      rfl
    subst ey
    refine K2 _ _ ?_
    refine ax fun M3 K3=>?_
    have g2:Go (r.M E) H (r.M E) H2:=Go.new s2
    have nlM:=R.free hnl
    refine ⟨b,_,bx,_,_,rfl,ao _ _ (g2.same _ _ hb),T.cQ.cl,T.eP,rfl,_,_,rfl,⟨_,SqL.of (ao _ _ (g2.same _ _ hpp))⟩,⟨_,SqL.of e2⟩,?_⟩
    refine zD (K:=K) (xs:=D.parts.map fun i=>V.str (E.N i)) (ys:=(ts.map (Th.num k)).map V.int) (fun i σ H3=>Go (r.M E) H (r.M E) H3/\br A E H3 r (k.pO ((D.parts.zip (ts.map (Th.num k))).take i))/\H3 nl=some (.lst ((ts.map (Th.num k)).map V.int))/\∃z4 z5,σ=[some (.ref r.s),some (.ref a),some (.ref b),some (.ref nl),z4,z5]) ⟨g2,R.same s2,e2,none,none,rfl⟩ (fun i σ H3 _ h=>⟨SqL.of (ao _ _ (h.1.same _ _ hpp)),SqL.of h.2.2.1⟩) (by rw [List.length_map,List.length_map,List.length_map];exact pl) ?_ ?_
    ·rintro i x y σ H3 tp hx hy ⟨g3,R3,e3,z4,z5,rfl⟩ htp
     rw [List.getElem?_map] at hx hy
     cases hpi:D.parts[i]? with
     | none=>rw [hpi] at hx;cases hx
     | some q =>
     cases hvi:(ts.map (Th.num k))[i]? with
     | none=>rw [hvi] at hy;cases hy
     | some u =>
     rw [hpi] at hx
     rw [hvi] at hy
     cases hx
     cases hy
     have zi:(D.parts.zip (ts.map (Th.num k)))[i]?=some (q,u):=by
      rw [List.getElem?_zip_eq_some]
      exact ⟨hpi,hvi⟩
     have ui:In u:=by
      have:=List.mem_of_getElem? hvi
      obtain ⟨t,ht,rfl⟩:=List.mem_map.mp this
      exact Th.cj R.ok (to t ht)
     rw [pZ zi]
     generalize k.pO ((D.parts.zip (ts.map (Th.num k))).take i)=k3 at R3 ⊢
     obtain ⟨s4,e4⟩:=alc htp (HO.tup [V.str (E.N q),.int u])
     generalize upd H3 tp _=H4 at s4 e4 ⊢
     have R4:=R3.same s4
     refine ⟨tp,_,rfl,SqT.of e4,rfl,_,_,rfl,_,_,rfl,rfl,?_⟩
     obtain ⟨x1,x2⟩:=O.pt D (List.mem_of_getElem? hD) q (List.mem_of_getElem? hpi)
     refine ⟨r.s,_,r.ds,_,_,rfl,R4.s,T.bS.cl,T.cM,rfl,_,cF.k (k:=.inr (E.N q)) R4.hc (aM (by rw [eB];have:=O.len;omega)),?_⟩
     exact ⟨(g3.trans (Go.new s4)).trans (Go.at (r.inM E).2.1 _),R4.put O x1 x2 ui,ah (fun z=>nlM (z ▸ (r.inM E).2.1)) (s4 _ _ e3),_,_,rfl⟩
    ·rintro σ H3 ⟨g3,R3,e3,z4,z5,rfl⟩
     have full:(D.parts.zip (ts.map (Th.num k))).take (D.parts.map fun i=>V.str (E.N i)).length=D.parts.zip (ts.map (Th.num k)):=List.take_of_length_le (by simp only [List.length_zip,List.length_map];exact Nat.min_le_left _ _)
     rw [full] at R3
     refine K3 _ _ ?_
     have hb3:=ao _ _ (g3.same _ _ hb)
     exact ⟨r.s,r.ds,_,rfl,R3.s,rfl,b,_,bx,_,_,rfl,hb3,T.cQ.cl,T.gE,rfl,r,_,pb,bs,D.body,rfl,R3,g3.same _ _ hpb,Paired.cm W (fun _ _=>cu.same g3.same),wb,mF (rm.le (by omega)) _,fun H4 g4 R4=>g H4 (g3.trans g4) R4⟩
   | _=>exact (show False from hP).elim
theorem zL {j d:Nat} (hj:4 <= j) (T:Txt K mg A) (O:E.Ok) (D1:cR P w K mg base j A.Run "do_if" ["self","row"] (kG A E Dk (gIf E) d)) (D2:cR P w K mg base j A.Run "do_loop" ["self","row"] (kG A E yC (sC E) d)) (D3:cR P w K mg base j A.Run "do_call" ["self","row"] (kG A E yB (oy E) d)) :
  cR P w K mg base (j + 1) A.Run "do_row" ["self","row"] (tu A E d):=by
 have D_do_if:=D1
 have D_do_loop:=D2
 have D_do_call:=D3
 have D_number_told:=BK (P:=P) (w:=w) (base:=base) T O
 have D_number_for:=uV (P:=P) (w:=w) (base:=base) T O
 have D_do_put:=Am (P:=P) (w:=w) (base:=base) T O
 have D_pass_steps:=tM (P:=P) (w:=w) (base:=base) (E:=E) T
 refine T.lX.has (k:=j) hU (fun vs H Q E h=>?_) (fun f cdv A' outer s' H vs Q E' hr hu h=>?_)
 ·obtain ⟨r,k,v,rw,rfl,_⟩:=h
  rfl
 ·obtain ⟨r,k,v,rw,rfl,R,W,wf,rm,g⟩:=h
  have rm1:=rm.le (kJ E d rw wf)
  refine ⟨_,(ab (aP (bD (hj:=by omega) (fv 0) T.bS.cl D_pass_steps hr (aa ae af)))
  (ab (aC (i:=2) hU.nd rfl (Or.inl rfl) (aJ (fv 0) rfl))
  (ab (aC (i:=3) hU.nd rfl (Or.inl rfl) (bD (hj:=by omega) (fv 0) T.bS.cl D_number_told hr (aa (fv 1) af)))
  (ab (aP (bN (aJ (fv 2) rfl) (aa (cx (aa (aJ (fv 1) rfl) (aa (aJ (fv 2) rfl) (aa (fv 3) af)))) af)))
  (ab (aO (bU (aG bg rfl T.aB (by boot_by_name) (aa (fv 1) (aa (dH T.bO.mg) af))) (fun _=>rfl))
   (ag (bo (bD (hj:=by omega) (fv 0) T.bS.cl D_number_for hr (aa (aJ (fv 1) rfl) af)) (bA (aJ (fv 0) rfl) (aJ (fv 1) rfl) (bB hu set_list))))
   (ag (aO (bU (aG bg rfl T.aB (by boot_by_name) (aa (fv 1) (aa (dH T.bC.mg) af))) (fun _=>rfl))
    (ag (aP (bD (hj:=by omega) (fv 0) T.bS.cl D_do_put hr (aa (fv 1) af))))
    (ag (aO (bU (aG bg rfl T.aB (by boot_by_name) (aa (fv 1) (aa (dH T.aQ.mg) af))) (fun _=>rfl))
     (ag (aP (bN (aJ (fv 2) rfl) (aa (cx (aa (aJ (fv 2) rfl) (aa (aJ (fv 1) rfl) (aa (aJ (fv 1) rfl) (aa (fv 3) af))))) af))))
     (ag (aO (bU (aG bg rfl T.aB (by boot_by_name) (aa (fv 1) (aa (dH T.aR.mg) af))) (fun _=>rfl))
      (ab (bo (fv 3) (bA (aJ (fv 0) rfl) (aJ (fv 1) rfl) (bB hu set_list)))
      (ag (aP (bN (aJ (fv 2) rfl) (aa (cx (aa (aJ (fv 2) rfl) (aa (aJ (fv 1) rfl) (aa (aJ (fv 1) rfl) (aa (fv 3) af))))) af)))))
      (ag (aO (bU (aG bg rfl T.aB (by boot_by_name) (aa (fv 1) (aa (dH T.aY.mg) af))) (fun _=>rfl))
       (ag (aP (bD (hj:=by omega) (fv 0) T.bS.cl D_do_call hr (aa (fv 1) af))))
       (ag (aO (bU (aG bg rfl T.aB (by boot_by_name) (aa (fv 1) (aa (dH T.bz.mg) af))) (fun _=>rfl))
        (ag (aA (bD (hj:=by omega) (fv 0) T.bS.cl D_do_if hr (aa (fv 1) af))))
        (ag (aO (bU (aG bg rfl T.aB (by boot_by_name) (aa (fv 1) (aa (dH T.aN.mg) af))) (fun _=>rfl))
         (ag (aP (bD (hj:=by omega) (fv 0) T.bS.cl D_do_loop hr (aa (fv 1) af))))
         aH)))))))))))))
  (ag (aA (aG bg rfl T.aB (by boot_by_name) (aa (fv 1) (aa (dH T.aS.mg) af)))))))))),?_⟩
  refine ⟨r.s,r.ds,_,rfl,R.s,rfl,r,1,k,rfl,R,fun H2 g2 R2=>?_⟩
  refine ⟨r.s,_,r.ds,_,_,rfl,R2.s,T.bS.cl,T.gk,rfl,?_⟩
  obtain ⟨a,dx,fs,rfl,ha⟩:=yJ W
  obtain ⟨cl,cn⟩:=CF T rw
  obtain ⟨ts,ht,tt⟩:=R2.ht
  have tlen:ts.length < sizeLine:=by
   have:=tt.len
   exact nZ (n:=ts.length) (B:=BIG) (by rw [this];exact rm1.t) rm1.st (Int.le_refl _)
  refine ⟨r.s,r.ds,_,rfl,R2.s,rfl,?_⟩
  refine DY (v:=.ref a) (fun _ z=>z) ?_
  dsimp only
  refine zP T (W.same g2.same) wf ao R2 ?_
  rw [vP]
  have ha2:=ao _ _ (g2.same _ _ ha)
  refine ⟨r.b,_,r.db,_,_,rfl,R2.hb,T.cq.cl,T.fY,rfl,Or.inl ⟨rfl,_,SqL.of ht⟩,a,_,dx,_,_,rfl,ha2,cl,cn,rfl,r.b,_,r.db,_,_,rfl,R2.hb,T.cq.cl,T.cY,rfl,?_⟩
  refine ⟨(show 3 <= sizeLine by decide),fun p3 hp3=>⟨_,_,_,rfl,rfl,aj.upd hp3 _ _ _ ht,tlen,?_⟩⟩
  have R4:br A E _ r (k.tell rw.no (rw.told k)):=R2.trace (w:=[.int rw.no,.int (k.idle 1).steps,rw.told k]) hp3 ht
  have g4:Go (r.M E) H (r.M E) (upd (upd H2 p3 (HO.tup [.int rw.no,.int (k.idle 1).steps,rw.told k])) r.t (HO.lst (ts ++ [.ref p3]))):=(g2.trans (Go.new (aj.upd hp3 _))).trans (Go.at (r.inM E).2.2.1 _)
  generalize upd (upd H2 p3 (HO.tup [.int rw.no,.int (k.idle 1).steps,rw.told k])) r.t (HO.lst (ts ++ [.ref p3]))=H4 at R4 g4 ⊢
  have W4:=W.same g4.same
  have room4:(k.tell rw.no (rw.told k)).room BIG (aE E d rw - 1):=eu (rm.le (by omega)) _ _
  cases rw with
  | set n x val =>
   obtain ⟨a',dx,p,ea,ha,hp⟩:∃a' dx p,V.ref a=.ref a'/\del (r.M E) H4 a'=some (.ins A.bX dx [("number",.int n),("name",.str (E.N x)),("value",.ref p)])/\del (r.M E) H4 p=some (.tup (vV E.N val)):=by cases d <;> exact W4
   cases ea
   obtain ⟨x1,x2,vo⟩:x ∈ E.idx/\E.sz x=0/\val.ok E:=by cases d <;> exact wf
   have ha4:=ao _ _ ha
   have eg:doR E d k (.set n x val)=((k.tell n .non).put x (val.num k),false):=by cases d <;> rfl
   rw [eg] at g
   refine ⟨_,_,_,true,rfl,(fun z=>by cases z),T.bO.bZ ha4,lO T.bO,true,rfl,cU ?_⟩
   refine ⟨r.s,r.ds,_,rfl,R4.s,rfl,a,_,dx,_,_,rfl,ha4,T.bO.cl,T.gK,rfl,r,k.tell n .non,p,val,rfl,R4,ao _ _ hp,vo,?_⟩
   rw [ku]
   refine ⟨r.s,_,r.ds,_,_,rfl,R4.s,T.bS.cl,T.cM,rfl,a,_,dx,_,_,rfl,ha4,T.bO.cl,T.ik,rfl,_,cF.k (k:=.inr (E.N x)) R4.hc (aM (by rw [eB];have:=O.len;omega)),?_⟩
   have g5:=Go.at (H:=H4) (r.inM E).2.1 (HO.dK (putK (dk E.N E.idx (cV E r.la (k.tell n .non).num)) (.inr (E.N x)) (.int (val.num k))))
   have ha5:=ao _ _ (g5.same _ _ ha)
   exact ⟨_,_,_,false,rfl,(fun z=>by cases z),T.bO.bZ ha5,(cf T.bO T.aS (av T 11 6) (av T 11 1)),g _ (g4.trans g5) (R4.put O x1 x2 (Val.cj R.ok vo))⟩
  | put n x pl val =>
   obtain ⟨a',dx,p,ea,ha,hp⟩:∃a' dx p,V.ref a=.ref a'/\del (r.M E) H4 a'=some (.ins A.bP dx [("number",.int n),("name",.str (E.N x)),("place",pl.v E.N),("value",.ref p)])/\del (r.M E) H4 p=some (.tup (vV E.N val)):=by cases d <;> exact W4
   cases ea
   obtain ⟨x1,x2,po,vo⟩:x ∈ E.idx/\0 < E.sz x/\pl.ok E/\val.ok E:=by cases d <;> exact wf
   have ha4:=ao _ _ ha
   have eg:doR E d k (.put n x pl val)=((k.tell n .non).nB x (pl.num k) (val.num k),false):=by cases d <;> rfl
   rw [eg] at g
   refine ⟨_,_,_,false,rfl,(fun z=>by cases z),T.bC.bZ ha4,cf T.bC T.bO (av T 6 7) (av T 6 1),false,rfl,bw ⟨_,_,_,true,rfl,(fun z=>by cases z),T.bC.bZ ha4,lO T.bC,true,rfl,cU ?_⟩⟩
   refine ⟨r.s,r.ds,_,rfl,R4.s,rfl,r,k.tell n .non,_,x,pl,val,a,dx,p,rfl,R4,x1,x2,po,vo,ha4,ao _ _ hp,fun H5 R5 g5=>?_⟩
   rw [ku,nS] at R5
   have ha5:=ao _ _ (g5.same _ _ ha)
   exact ⟨_,_,_,false,rfl,(fun z=>by cases z),T.bC.bZ ha5,(cf T.bC T.aS (av T 11 7) (av T 11 1)),g _ (g4.trans g5) R5⟩
  | snd n x val =>
   obtain ⟨a',dx,p,ea,ha,hp⟩:∃a' dx p,V.ref a=.ref a'/\del (r.M E) H4 a'=some (.ins A.bp dx [("number",.int n),("name",.str (E.N x)),("value",.ref p)])/\del (r.M E) H4 p=some (.tup (vV E.N val)):=by cases d <;> exact W4
   cases ea
   have ha4:=ao _ _ ha
   have eg:doR E d k (.snd n x val)=((k.tell n (.int (val.num k))).ji [.int (k.steps + 1),.int n,.str (E.N x),.int (val.num k)],false):=by cases d <;> rfl
   rw [eg] at g
   obtain ⟨ls,hl,tl⟩:=R4.hl
   have llen:ls.length < sizeLine:=by
    have:=tl.len
    exact nZ (n:=ls.length) (B:=BIG) (by rw [this];exact rm1.l) rm1.st (Int.le_refl _)
   refine ⟨_,_,_,false,rfl,(fun z=>by cases z),T.aQ.bZ ha4,cf T.aQ T.bO (av T 6 8) (av T 6 1),false,rfl,bw ⟨_,_,_,false,rfl,(fun z=>by cases z),T.aQ.bZ ha4,cf T.aQ T.bC (av T 7 8) (av T 7 1),false,rfl,bw ⟨_,_,_,true,rfl,(fun z=>by cases z),T.aQ.bZ ha4,lO T.aQ,true,rfl,cU ?_⟩⟩⟩
   refine ⟨r.b,_,r.db,_,_,rfl,R4.hb,T.cq.cl,T.eW,rfl,Or.inl ⟨rfl,_,SqL.of hl⟩,r.b,_,r.db,_,_,rfl,R4.hb,T.cq.cl,T.cY,rfl,a,_,dx,_,_,rfl,ha4,T.aQ.cl,T.er,rfl,a,_,dx,_,_,rfl,ha4,T.aQ.cl,T.gm,rfl,?_⟩
   refine ⟨(show 4 <= sizeLine by decide),fun p5 hp5=>⟨_,_,_,rfl,rfl,aj.upd hp5 _ _ _ hl,llen,?_⟩⟩
   have R6:=R4.ji (w:=[.int (k.steps + 1),.int n,.str (E.N x),.int (val.num k)]) hp5 hl
   have g6:Go (r.M E) H4 (r.M E) (upd (upd H4 p5 (HO.tup [.int (k.steps + 1),.int n,.str (E.N x),.int (val.num k)])) r.l (HO.lst (ls ++ [.ref p5]))):=(Go.new (aj.upd hp5 _)).trans (Go.at (r.inM E).2.2.2.1 _)
   have ha6:=ao _ _ (g6.same _ _ ha)
   exact ⟨_,_,_,false,rfl,(fun z=>by cases z),T.aQ.bZ ha6,(cf T.aQ T.aS (av T 11 8) (av T 11 1)),g _ (g4.trans g6) R6⟩
  | say n x val m =>
   obtain ⟨a',dx,p,ea,ha,hp⟩:∃a' dx p,V.ref a=.ref a'/\del (r.M E) H4 a'=some (.ins A.bJ dx [("number",.int n),("name",.str (E.N x)),("value",.ref p),("mark",.str (E.N m))])/\del (r.M E) H4 p=some (.tup (vV E.N val)):=by cases d <;> exact W4
   cases ea
   obtain ⟨x1,x2,vo⟩:x ∈ E.idx/\E.sz x=0/\val.ok E:=by cases d <;> exact wf
   have ha4:=ao _ _ ha
   have eg:doR E d k (.say n x val m)=(((k.tell n (.int (val.num k))).put x (val.num k)).jr [.int (k.steps + 1),.int n,.str (E.N m),.int (val.num k)],false):=by cases d <;> rfl
   rw [eg] at g
   refine ⟨_,_,_,false,rfl,(fun z=>by cases z),T.aR.bZ ha4,cf T.aR T.bO (av T 6 9) (av T 6 1),false,rfl,bw ⟨_,_,_,false,rfl,(fun z=>by cases z),T.aR.bZ ha4,cf T.aR T.bC (av T 7 9) (av T 7 1),false,rfl,bw ⟨_,_,_,false,rfl,(fun z=>by cases z),T.aR.bZ ha4,cf T.aR T.aQ (av T 8 9) (av T 8 1),false,rfl,bw ⟨_,_,_,true,rfl,(fun z=>by cases z),T.aR.bZ ha4,lO T.aR,true,rfl,cU ?_⟩⟩⟩⟩
   refine ⟨r.s,_,r.ds,_,_,rfl,R4.s,T.bS.cl,T.cM,rfl,a,_,dx,_,_,rfl,ha4,T.aR.cl,T.iy,rfl,_,cF.k (k:=.inr (E.N x)) R4.hc (aM (by rw [eB];have:=O.len;omega)),?_⟩
   have R5:=R4.put O x1 x2 (Val.cj R.ok vo)
   have g5:=Go.at (H:=H4) (r.inM E).2.1 (HO.dK (putK (dk E.N E.idx (cV E r.la (k.tell n (.int (val.num k))).num)) (.inr (E.N x)) (.int (val.num k))))
   dsimp only [Rw.no,Rw.told] at R5 ⊢
   generalize upd H4 r.c (HO.dK (putK (dk E.N E.idx (cV E r.la (k.tell n (.int (val.num k))).num)) (.inr (E.N x)) (.int (val.num k))))=H5 at R5 g5 ⊢
   have ha5':=g5.same _ _ ha
   have ha5:=ao _ _ ha5'
   obtain ⟨ls,hl,tl⟩:=R5.hd
   have llen:ls.length < sizeLine:=by
    have:=tl.len
    exact nZ (n:=ls.length) (B:=BIG) (by rw [this];exact rm1.d) rm1.st (Int.le_refl _)
   refine ⟨r.b,_,r.db,_,_,rfl,R5.hb,T.cq.cl,T.gW,rfl,Or.inl ⟨rfl,_,SqL.of hl⟩,r.b,_,r.db,_,_,rfl,R5.hb,T.cq.cl,T.cY,rfl,a,_,dx,_,_,rfl,ha5,T.aR.cl,T.eM,rfl,a,_,dx,_,_,rfl,ha5,T.aR.cl,T.iK,rfl,?_⟩
   refine ⟨(show 4 <= sizeLine by decide),fun p5 hp5=>⟨_,_,_,rfl,rfl,aj.upd hp5 _ _ _ hl,llen,?_⟩⟩
   have R6:=R5.jr (w:=[.int (k.steps + 1),.int n,.str (E.N m),.int (val.num k)]) hp5 hl
   have g6:Go (r.M E) H5 (r.M E) (upd (upd H5 p5 (HO.tup [.int (k.steps + 1),.int n,.str (E.N m),.int (val.num k)])) r.sd (HO.lst (ls ++ [.ref p5]))):=(Go.new (aj.upd hp5 _)).trans (Go.at (r.inM E).2.2.2.2.1 _)
   have ha6:=ao _ _ (g6.same _ _ ha5')
   exact ⟨_,_,_,false,rfl,(fun z=>by cases z),T.aR.bZ ha6,(cf T.aR T.aS (av T 11 9) (av T 11 1)),g _ ((g4.trans g5).trans g6) R6⟩
  | last n =>
   obtain ⟨a',dx,ea,ha⟩:∃a' dx,V.ref a=.ref a'/\del (r.M E) H4 a'=some (.ins A.cB dx [("number",.int n)]):=by cases d <;> exact W4
   cases ea
   have ha4:=ao _ _ ha
   have eg:doR E d k (.last n)=(k.tell n .non,true):=by cases d <;> rfl
   rw [eg] at g
   refine ⟨_,_,_,false,rfl,(fun z=>by cases z),T.aS.bZ ha4,cf T.aS T.bO (av T 6 11) (av T 6 1),false,rfl,bw ⟨_,_,_,false,rfl,(fun z=>by cases z),T.aS.bZ ha4,cf T.aS T.bC (av T 7 11) (av T 7 1),false,rfl,bw ⟨_,_,_,false,rfl,(fun z=>by cases z),T.aS.bZ ha4,cf T.aS T.aQ (av T 8 11) (av T 8 1),false,rfl,bw ⟨_,_,_,false,rfl,(fun z=>by cases z),T.aS.bZ ha4,cf T.aS T.aR (av T 9 11) (av T 9 1),false,rfl,bw ⟨_,_,_,false,rfl,(fun z=>by cases z),T.aS.bZ ha4,cf T.aS T.aY (av T 10 11) (av T 10 1),false,rfl,bw ⟨_,_,_,false,rfl,(fun z=>by cases z),T.aS.bZ ha4,cf T.aS T.bz (av T 12 11) (av T 12 1),false,rfl,bw ⟨_,_,_,false,rfl,(fun z=>by cases z),T.aS.bZ ha4,cf T.aS T.aN (av T 13 11) (av T 13 1),false,rfl,bw ?_⟩⟩⟩⟩⟩⟩⟩
   exact ⟨_,_,_,true,rfl,(fun z=>by cases z),T.aS.bZ ha4,lO T.aS,g _ g4 R4⟩
  | call n i ts =>
   cases d with
   | zero=>exact (show False from wf).elim
   | succ d =>
   obtain ⟨a',dx,p,D,ea,hD,ha,_⟩:=id W4
   cases ea
   have ha4:=ao _ _ ha
   have eg:doR E (d + 1) k (.call n i ts)=((oy E d (k.tell n .non) (.call n i ts)).1,false):=by
    simp only [doR,oy,hD,nS]
   have e2:(oy E d (k.tell n .non) (.call n i ts)).2=.non:=by simp only [oy,hD]
   rw [eg] at g
   refine ⟨_,_,_,false,rfl,(fun z=>by cases z),T.aY.bZ ha4,cf T.aY T.bO (av T 6 10) (av T 6 1),false,rfl,bw ⟨_,_,_,false,rfl,(fun z=>by cases z),T.aY.bZ ha4,cf T.aY T.bC (av T 7 10) (av T 7 1),false,rfl,bw ⟨_,_,_,false,rfl,(fun z=>by cases z),T.aY.bZ ha4,cf T.aY T.aQ (av T 8 10) (av T 8 1),false,rfl,bw ⟨_,_,_,false,rfl,(fun z=>by cases z),T.aY.bZ ha4,cf T.aY T.aR (av T 9 10) (av T 9 1),false,rfl,bw ⟨_,_,_,true,rfl,(fun z=>by cases z),T.aY.bZ ha4,lO T.aY,true,rfl,cU ?_⟩⟩⟩⟩⟩
   refine ⟨r.s,r.ds,_,rfl,R4.s,rfl,r,k.tell n .non,a,.call n i ts,trivial,rfl,R4,W4,wf,room4,?_⟩
   rw [e2]
   intro H5 g5 R5
   have ha5:=ao _ _ (g5.same _ _ ha)
   exact ⟨_,_,_,false,rfl,(fun z=>by cases z),T.aY.bZ ha5,(cf T.aY T.aS (av T 11 10) (av T 11 1)),g _ (g4.trans g5) R5⟩
  | iff n val fs os l r0 =>
   cases d with
   | zero=>exact (show False from wf).elim
   | succ d =>
   obtain ⟨a',dx,p,pf,po,xf,xo,ea,ha,_⟩:=id W4
   cases ea
   have ha4:=ao _ _ ha
   refine ⟨_,_,_,false,rfl,(fun z=>by cases z),T.bz.bZ ha4,cf T.bz T.bO (av T 6 12) (av T 6 1),false,rfl,bw ⟨_,_,_,false,rfl,(fun z=>by cases z),T.bz.bZ ha4,cf T.bz T.bC (av T 7 12) (av T 7 1),false,rfl,bw ⟨_,_,_,false,rfl,(fun z=>by cases z),T.bz.bZ ha4,cf T.bz T.aQ (av T 8 12) (av T 8 1),false,rfl,bw ⟨_,_,_,false,rfl,(fun z=>by cases z),T.bz.bZ ha4,cf T.bz T.aR (av T 9 12) (av T 9 1),false,rfl,bw ⟨_,_,_,false,rfl,(fun z=>by cases z),T.bz.bZ ha4,cf T.bz T.aY (av T 10 12) (av T 10 1),false,rfl,bw ⟨_,_,_,true,rfl,(fun z=>by cases z),T.bz.bZ ha4,lO T.bz,true,rfl,cU ?_⟩⟩⟩⟩⟩⟩
   refine ⟨r.s,r.ds,_,rfl,R4.s,rfl,r,k.tell n .non,a,.iff n val fs os l r0,trivial,rfl,R4,W4,wf,room4,?_⟩
   have e1:(gIf E d (k.tell n .non) (.iff n val fs os l r0)).1=(doR E (d + 1) k (.iff n val fs os l r0)).1:=by
    simp only [doR,gIf,ku]
    split <;> rfl
   have e2:(gIf E d (k.tell n .non) (.iff n val fs os l r0)).2=.bl (doR E (d + 1) k (.iff n val fs os l r0)).2:=by
    simp only [doR,gIf,ku]
    split <;> rfl
   rw [e1,e2]
   exact fun H5 g5 R5=>g _ (g4.trans g5) R5
  | loop n t m b l r0 =>
   cases d with
   | zero=>exact (show False from wf).elim
   | succ d =>
   obtain ⟨a',dx,pb,xb,ea,ha,_⟩:=id W4
   cases ea
   have ha4:=ao _ _ ha
   refine ⟨_,_,_,false,rfl,(fun z=>by cases z),T.aN.bZ ha4,cf T.aN T.bO (av T 6 13) (av T 6 1),false,rfl,bw ⟨_,_,_,false,rfl,(fun z=>by cases z),T.aN.bZ ha4,cf T.aN T.bC (av T 7 13) (av T 7 1),false,rfl,bw ⟨_,_,_,false,rfl,(fun z=>by cases z),T.aN.bZ ha4,cf T.aN T.aQ (av T 8 13) (av T 8 1),false,rfl,bw ⟨_,_,_,false,rfl,(fun z=>by cases z),T.aN.bZ ha4,cf T.aN T.aR (av T 9 13) (av T 9 1),false,rfl,bw ⟨_,_,_,false,rfl,(fun z=>by cases z),T.aN.bZ ha4,cf T.aN T.aY (av T 10 13) (av T 10 1),false,rfl,bw ⟨_,_,_,false,rfl,(fun z=>by cases z),T.aN.bZ ha4,cf T.aN T.bz (av T 12 13) (av T 12 1),false,rfl,bw ⟨_,_,_,true,rfl,(fun z=>by cases z),T.aN.bZ ha4,lO T.aN,true,rfl,cU ?_⟩⟩⟩⟩⟩⟩⟩
   refine ⟨r.s,r.ds,_,rfl,R4.s,rfl,r,k.tell n .non,a,.loop n t m b l r0,trivial,rfl,R4,W4,wf,room4,?_⟩
   have ew:want (k.tell n .non) t m=want k t m:=by unfold want;rw [nS]
   have eg:doR E (d + 1) k (.loop n t m b l r0)=((sC E d (k.tell n .non) (.loop n t m b l r0)).1,false):=by
    simp only [doR,sC,ew]
   rw [eg] at g
   intro H5 g5 R5
   have ha5:=ao _ _ (g5.same _ _ ha)
   exact ⟨_,_,_,false,rfl,(fun z=>by cases z),T.aN.bZ ha5,(cf T.aN T.aS (av T 11 13) (av T 11 1)),g _ (g4.trans g5) R5⟩
theorem kH (T:Txt K mg A) (O:E.Ok):∀n,cR P w K mg base (3 * n + 5) A.Run "do_rows" ["self","rows"] (jd A E n)
 | 0=>T.iz.has (k:=4) dU (fun _ _ _ _ h=>h.elim) (fun _ _ _ _ _ _ _ _ _ _ _ h=>h.elim)
 | d + 1=>sG T (zL (by omega) T O (B9 (by omega) T O (kH T O d)) (xw (by omega) T O (kH T O d)) (xB (by omega) T O (kH T O d)))
end
section
variable {P:Program}{w:World}{K:W.Frag}{mg:Str->Option Value}{base:Heap}{A:Adr}{E:En}
def zeros (n:Nat):List Int:=List.replicate n 0
theorem oO (n:Nat):(List.replicate n [V.int 0]).flatten=(zeros n).map V.int:=by
 unfold zeros
 rw [List.map_replicate]
 induction n with
 | zero=>rfl
 | succ n ih=>rw [List.replicate_succ,List.replicate_succ,List.flatten_cons,ih];rfl
def B6 (A:Adr):Sp:=fun vs H Q _=>∃(a dx:Addr) (k:V) (n:Nat) (x:V),vs=[.ref a]/\n <= 1000/\H a=some (.ins A.bG dx [("number",k),("name",x),("size",.int n)])/\(n=0->Q (.int 0) H)/\(0 < n->∀p H',aj H H'->H p=none->H' p=some (.lst ((zeros n).map V.int))->Q (.ref p) H')
theorem C0 (T:Txt K mg A):Has P w K mg base 1 "own_cell" ["own"] (B6 A):=by
 refine T.tq.has sA (fun vs H Q E h=>?_) (fun f cdv A' outer s H vs Q E hr hu h=>?_)
 ·obtain ⟨a,dx,k,n,x,rfl,_⟩:=h
  rfl
 ·obtain ⟨a,dx,k,n,x,rfl,hn,ha,q0,q1⟩:=h
  refine ⟨_,(ag (aA (fH (ay (aT hu) (aJ (fv 0) rfl) ae (az _)) ae (aw fe (bE (aa ae af)) (aJ (fv 0) rfl))))),?_⟩
  refine ⟨a,_,dx,_,_,rfl,ha,T.bH.cl,T.fF,rfl,rfl,_,rfl,aL (fun c=>?_) (fun c=>?_)⟩
  ·rw [fW,decide_eq_true_iff] at c
   exact q0 (by omega)
  ·rw [fW,decide_eq_true_iff] at c
   refine ⟨by show 1 <= sizeLine;decide,fun l hl=>?_⟩
   obtain ⟨s1,e1⟩:=alc hl (HO.lst [V.int 0])
   generalize upd H l _=H1 at s1 e1 ⊢
   refine ⟨a,_,dx,_,_,rfl,s1 _ _ ha,T.bH.cl,T.fF,rfl,_,e1,by omega,by omega,?_,fun p hp=>?_⟩
   ·show 1 * ((n:Int)).toNat <= sizeLine
    have:=sz hn
    omega
   ·refine q1 (by omega) p _ (s1.trans (aj.upd hp _)) (aj.free s1 hp) ?_
    rw [aq,<- oO]
    rfl
def xF (A:Adr):Sp:=fun vs H Q _=>∃(a g dx:Addr) (k rk:V) (x:Str) (z:Nat) (kvs:List (Key × V)) (gv:V),vs=[.ref a,.ref g]/\H a=some (.ins A.aX dx [("number",k),("name",.str x),("rank",rk),("size",.int z)])/\H g=some (.dK kvs)/\L2.fh kvs (.inr x)=some gv /\
 ((z=0/\∃n:Int,gv=.int n/\In n/\Q (.int n) H) \/ (0 < z/\z <= 1000/\∃(l:Addr) (ns:List Int),gv=.ref l/\H l=some (.lst (ns.map V.int))/\ns.length=z/\(∀n ∈ ns,In n)/\∀p H',aj H H'->H p=none->H' p=some (.lst (ns.map V.int))->Q (.ref p) H'))
theorem zZ (T:Txt K mg A):Has P w K mg base 3 "given_cell" ["given","gifts"] (xF A):=by
 have D_is_good:=yw (P:=P) (w:=w) (base:=base) T
 refine T.oX.has kZ (fun vs H Q E h=>?_) (fun f cdv A' outer s H vs Q E hr hu h=>?_)
 ·obtain ⟨a,g,dx,k,rk,x,z,kvs,gv,rfl,_⟩:=h
  rfl
 ·obtain ⟨a,g,dx,k,rk,x,z,kvs,gv,rfl,ha,hg,hv,hq⟩:=h
  have d1:bu H g (.str x) (some gv):=by
   have:=bu.k (k:=.inr x) hg
   rw [hv] at this
   exact this
  refine ⟨_,(ab (aC (i:=2) kZ.nd rfl (Or.inl rfl) (xZ (Nat.lt_of_le_of_lt (Nat.add_le_add_left (show 1 <= 64 by decide) _) hu) (fv 1) (aJ (fv 0) rfl) ⟨rfl,rfl,rfl,rfl⟩))
  (ab (aO (iN (bU (ar D_is_good hr (aa (fv 2) (aa (aJ (fv 0) rfl) af))) (fun _=>rfl)))
   wX
   aH)
  (ag (aA (fH (ay (aT hu) (aJ (fv 0) rfl) ae (az _)) (fv 2) (bY vq rfl T.dE (by boot_by_name) (aa (fv 2) af))))))),?_⟩
  refine ⟨g,rfl,Or.inl ⟨_,Or.inl hg⟩,a,_,dx,_,_,rfl,ha,T.bh.cl,T.dh,rfl,_,d1,?_⟩
  rcases hq with ⟨rfl,n,rfl,hn,q⟩ | ⟨z0,z1,l,ns,rfl,hl,rfl,hn,q⟩
  ·refine ⟨a,_,dx,_,_,rfl,ha,T.bh.cl,T.cG,rfl,Or.inl ⟨n,rfl,hn,true,rfl,bw ?_⟩⟩
   exact ⟨a,_,dx,_,_,rfl,ha,T.bh.cl,T.cG,rfl,rfl,_,rfl,cU q⟩
  ·refine ⟨a,_,dx,_,_,rfl,ha,T.bh.cl,T.cG,rfl,Or.inr ⟨l,ns,rfl,z0,z1,hl,hn,fun H2 s2=>⟨true,rfl,bw ?_⟩⟩⟩
   refine ⟨a,_,dx,_,_,rfl,s2 _ _ ha,T.bh.cl,T.cG,rfl,rfl,_,rfl,aL (fun c=>absurd c ?_) (fun c=>?_)⟩
   ·rw [fW,decide_eq_true_iff]
    omega
   ·exact Or.inl ⟨_,_,rfl,Or.inl (SqL.of (s2 _ _ hl)),fun p hp=>q p _ (s2.trans (aj.upd hp _)) (aj.free s2 hp) aq⟩
inductive Hd where
 | hand (i:Nat) | giv (i z:Nat) | own (i z:Nat) | lt (i:Nat)
def Hd.cell:Hd->List Nat
 | .giv i _=>[i]
 | .own i _=>[i]
 | _=>[]
def lI (A:Adr) (N:Nat->Str) (X:Hp) (v:V):Hd->Prop
 | .hand i=>∃a dx n rk,v=.ref a/\X a=some (.ins A.bM dx [("number",n),("name",.str (N i)),("rank",rk)])
 | .giv i z=>∃a dx n rk,v=.ref a/\X a=some (.ins A.aX dx [("number",n),("name",.str (N i)),("rank",rk),("size",.int z)])
 | .own i z=>∃a dx n,v=.ref a/\X a=some (.ins A.bG dx [("number",n),("name",.str (N i)),("size",.int z)])
 | .lt i=>∃a dx n rk,v=.ref a/\X a=some (.ins A.b9 dx [("number",n),("name",.str (N i)),("rank",rk)])
theorem lI.same {N:Nat->Str}{X X':Hp} (s:aj X X') {v:V}:∀{h:Hd},lI A N X v h->lI A N X' v h
 | .hand _,⟨a,dx,n,rk,e,h⟩=>⟨a,dx,n,rk,e,s _ _ h⟩
 | .giv _ _,⟨a,dx,n,rk,e,h⟩=>⟨a,dx,n,rk,e,s _ _ h⟩
 | .own _ _,⟨a,dx,n,e,h⟩=>⟨a,dx,n,e,s _ _ h⟩
 | .lt _,⟨a,dx,n,rk,e,h⟩=>⟨a,dx,n,rk,e,s _ _ h⟩
def isG (hs:List Hd) (i:Nat):Bool:=hs.any fun h=>match h with
 | .giv j _=>decide (j=i)
 | _=>false
def S.new (E:En) (hs:List Hd) (gn:Nat->Int) (gl:Nat->List Int):S:=⟨fun i=>if isG hs i then gn i else 0,fun i=>if isG hs i then gl i else zeros (E.sz i),0,[],[],[]⟩
structure Hds (E:En) (hs:List Hd):Prop where
 e:E.idx=hs.flatMap Hd.cell ++ E.ds.flatMap Dd.parts
 g:∀i z,Hd.giv i z ∈ hs->E.sz i=z
 o:∀i z,Hd.own i z ∈ hs->E.sz i=z
structure jt (E:En) (hs:List Hd) (H:Hp) (g:Addr) (gn:Nat->Int) (gl:Nat->List Int):Prop where
 d:∃kvs,H g=some (.dK kvs)/\∀i z,Hd.giv i z ∈ hs->(z=0->L2.fh kvs (.inr (E.N i))=some (.int (gn i)))/\(0 < z->∃l,L2.fh kvs (.inr (E.N i))=some (.ref l)/\H l=some (.lst ((gl i).map V.int))/\(gl i).length=z)
 n:∀i,In (gn i)
 l:∀i,∀n ∈ gl i,In n
theorem jt.same {hs:List Hd}{H H':Hp}{g:Addr}{gn:Nat->Int}{gl:Nat->List Int} (s:aj H H') (G:jt E hs H g gn gl):jt E hs H' g gn gl:=by
 obtain ⟨kvs,h1,h2⟩:=G.d
 refine ⟨⟨kvs,s _ _ h1,fun i z m=>⟨(h2 i z m).1,fun z0=>?_⟩⟩,G.n,G.l⟩
 obtain ⟨l,a,b,c⟩:=(h2 i z m).2 z0
 exact ⟨l,a,s _ _ b,c⟩
def laP (la:Nat->Addr) (i:Nat) (u:Addr) (j:Nat):Addr:=if j=i then u else la j
theorem va (la:Nat->Addr) (i:Nat) (u:Addr):laP la i u i=u:=if_pos rfl
theorem qz (la:Nat->Addr) {i j:Nat} (u:Addr) (h:j ≠ i):laP la i u j=la j:=if_neg h
structure Cells (E:En) (H H2:Hp) (c:Addr) (la:Nat->Addr) (k:S) (ix:List Nat):Prop where
 s:aj H H2
 hc:H2 c=some (.dK (dk E.N ix (cV E la k.num)))
 l:∀i ∈ ix,0 < E.sz i->H (la i)=none/\la i ≠ c/\H2 (la i)=some (.lst ((k.lst i).map V.int))
 i:∀i ∈ ix,∀j ∈ ix,0 < E.sz i->0 < E.sz j->la i=la j->i=j
theorem Cells.num {H H2:Hp}{c:Addr}{la:Nat->Addr}{k:S}{ix:List Nat}{i:Nat}{n:Int} (C:Cells E H H2 c la k ix) (O:E.Ok) (c0:H c=none) (hi:i < 18) (hb:∀j ∈ ix,j < 18) (m:i ∉ ix) (hz:E.sz i=0) (en:k.num i=n):Cells E H (upd H2 c (.dK (putK (dk E.N ix (cV E la k.num)) (.inr (E.N i)) (.int n)))) c la k (ix ++ [i]):=by
 refine ⟨aj.out C.s c0 _,?_,fun j hj z=>?_,fun a ha b hb' za zb e=>?_⟩
 ·rw [aq,fg O.D hi hb m]
  refine congrArg some (congrArg HO.dK (du fun j _=>?_))
  by_cases e:j=i
  ·rw [e,dA]
   unfold cV
   rw [if_pos hz,en]
  ·rw [fE _ _ e]
 ·rcases List.mem_append.mp hj with hj | hj
  ·obtain ⟨h1,h2,h3⟩:=C.l j hj z
   exact ⟨h1,h2,ah h2 h3⟩
  ·rw [List.mem_singleton.mp hj,hz] at z
   cases z
 ·rcases List.mem_append.mp ha with ha | ha
  ·rcases List.mem_append.mp hb' with hb' | hb'
   ·exact C.i a ha b hb' za zb e
   ·rw [List.mem_singleton.mp hb',hz] at zb
    cases zb
  ·rw [List.mem_singleton.mp ha,hz] at za
   cases za
theorem Cells.lst {H H2 H3:Hp}{c u:Addr}{la:Nat->Addr}{k:S}{ix:List Nat}{i:Nat} (C:Cells E H H2 c la k ix) (O:E.Ok) (c0:H c=none) (hi:i < 18) (hb:∀j ∈ ix,j < 18) (m:i ∉ ix) (hz:0 < E.sz i) (s3:aj H2 H3) (u0:H2 u=none) (hu:H3 u=some (.lst ((k.lst i).map V.int))) :
  Cells E H (upd H3 c (.dK (putK (dk E.N ix (cV E la k.num)) (.inr (E.N i)) (.ref u)))) c (laP la i u) k (ix ++ [i]):=by
 have uc:u ≠ c:=fun w=>by rw [w,C.hc] at u0;cases u0
 have ne:∀j ∈ ix,j ≠ i:=fun j hj z=>m (z ▸ hj)
 refine ⟨aj.out (C.s.trans s3) c0 _,?_,fun j hj z=>?_,fun a ha b hb' za zb e=>?_⟩
 ·rw [aq,fg O.D hi hb m]
  refine congrArg some (congrArg HO.dK (du fun j _=>?_))
  unfold cV
  by_cases e:j=i
  ·rw [e,dA,if_neg (by omega),va]
  ·rw [fE _ _ e,qz _ _ e]
 ·rcases List.mem_append.mp hj with hj | hj
  ·obtain ⟨h1,h2,h3⟩:=C.l j hj z
   rw [qz _ _ (ne j hj)]
   exact ⟨h1,h2,ah h2 (s3 _ _ h3)⟩
  ·rw [List.mem_singleton.mp hj,va]
   exact ⟨aj.free C.s u0,uc,ah uc hu⟩
 ·have nu:∀j ∈ ix,0 < E.sz j->la j ≠ u:=fun j hj z w=>by
   have:=(C.l j hj z).2.2
   rw [w,u0] at this
   cases this
  rcases List.mem_append.mp ha with ha | ha
  ·rcases List.mem_append.mp hb' with hb' | hb'
   ·rw [qz _ _ (ne a ha),qz _ _ (ne b hb')] at e
    exact C.i a ha b hb' za zb e
   ·rw [List.mem_singleton.mp hb',qz _ _ (ne a ha),va] at e
    exact absurd e (nu a ha za)
  ·rcases List.mem_append.mp hb' with hb' | hb'
   ·rw [List.mem_singleton.mp ha,va,qz _ _ (ne b hb')] at e
    exact absurd e.symm (nu b hb' zb)
   ·rw [List.mem_singleton.mp ha,List.mem_singleton.mp hb']
structure Pa where
 pa:Addr
 dp:Addr
 hd:Addr
 dd:Addr
 mn:Addr
def DI (A:Adr) (N:Nat->Str) (X:Hp) (v:V) (D:Dd):Prop:=∃a dx n pp pb,v=.ref a/\X a=some (.ins A.bq dx [("number",n),("name",.str (N D.nm)),("parts",.ref pp),("body",.ref pb)])/\X pp=some (.lst (D.parts.map fun i=>V.str (N i)))
structure tI (A:Adr) (E:En) (H:Hp) (p:Pa) (hv:List V) (hs:List Hd) (xs:List V):Prop where
 pr:H p.pa=some (.ins A.Program p.dp [("heads",.ref p.hd),("deeds",.ref p.dd),("main",.ref p.mn)])
 hd:H p.hd=some (.lst hv)
 dd:H p.dd=some (.lst E.dv)
 mn:H p.mn=some (.lst xs)
 h:Paired (lI A E.N H) hv hs
 d:Paired (DI A E.N H) E.dv E.ds
 l:hv.length <= 64
theorem tI.same {H H':Hp}{p:Pa}{hv:List V}{hs:List Hd}{xs:List V} (s:aj H H') (R:tI A E H p hv hs xs):tI A E H' p hv hs xs:=⟨s _ _ R.pr,s _ _ R.hd,s _ _ R.dd,s _ _ R.mn,Paired.cm R.h fun _ _=>lI.same s,Paired.cm R.d fun _ _ ⟨a,dx,n,pp,pb,e,h1,h2⟩=>⟨a,dx,n,pp,pb,e,s _ _ h1,s _ _ h2⟩,R.l⟩
theorem take_snoc {α:Type}{ks:List α}{i:Nat}{j:α} (h:ks[i]?=some j):ks.take (i + 1)=ks.take i ++ [j]:=by
 rw [List.take_add_one,h]
 rfl
theorem Bu {hs:List Hd}{i z:Nat} (h:Hd.giv i z ∈ hs):isG hs i=true:=by
 unfold isG
 rw [List.any_eq_true]
 exact ⟨_,h,by simp⟩
theorem o7 {α:Type}{f:α->List Nat}{xs:List α}{i:Nat}{x:α} (h:xs[i]?=some x):xs.flatMap f=(xs.take i).flatMap f ++ (f x ++ (xs.drop (i + 1)).flatMap f):=by
 have e:xs=xs.take i ++ x :: xs.drop (i + 1):=by rw [<- l8 h,List.take_append_drop]
 conv=>lhs;rw [e]
 rw [List.flatMap_append,List.flatMap_cons]
theorem rN {L xs ys zs:List Nat}{x:Nat} (e:L=xs ++ (x :: ys) ++ zs) (nd:L.Nodup):x ∉ xs/\(∀j ∈ xs,j ∈ L)/\x ∈ L:=by
 subst e
 refine ⟨fun m=>?_,fun j hj=>by simp [hj],by simp⟩
 rw [List.append_assoc] at nd
 exact (List.nodup_append.mp nd).2.2 x m x (by simp) rfl
theorem Bp {hs:List Hd}{i z:Nat} (nd:(hs.flatMap Hd.cell).Nodup) (h:Hd.own i z ∈ hs):isG hs i=false:=by
 cases e:isG hs i with
 | false=>rfl
 | true =>
  exfalso
  unfold isG at e
  rw [List.any_eq_true] at e
  obtain ⟨g,hg,eg⟩:=e
  obtain ⟨y,rfl⟩:∃y,g=.giv i y:=by
   cases g with
   | giv j y=>exact ⟨y,by rw [of_decide_eq_true eg]⟩
   | _=>cases eg
  obtain ⟨a,ha⟩:=List.getElem?_of_mem h
  obtain ⟨b,hb⟩:=List.getElem?_of_mem hg
  have ne:a ≠ b:=fun z=>by rw [z,hb] at ha;cases ha
  have key:∀{a b:Nat}{p q:Hd},hs[a]?=some p->hs[b]?=some q->a < b->i ∈ p.cell->i ∈ q.cell->False:=fun {a b p q} ha hb lt m1 m2=>by
   rw [o7 hb] at nd
   have:i ∈ (hs.take b).flatMap Hd.cell:=List.mem_flatMap.mpr ⟨p,List.mem_of_getElem? (by rw [List.getElem?_take_of_lt lt];exact ha),m1⟩
   exact (List.nodup_append.mp nd).2.2 i this i (List.mem_append_left _ m2) rfl
  rcases Nat.lt_or_gt_of_ne ne with lt | lt
  ·exact key ha hb lt (by simp [Hd.cell]) (by simp [Hd.cell])
  ·exact key hb ha lt (by simp [Hd.cell]) (by simp [Hd.cell])
end
section
variable {P:Program}{w:World}{K:W.Frag}{mg:Str->Option Value}{base:Heap}{A:Adr}{E:En}
def yI (A:Adr) (E:En):Sp:=fun vs H Q _=>∃(p:Pa) (g:Addr) (hv xs:List V) (hs:List Hd) (gn:Nat->Int) (gl:Nat->List Int),vs=[.ref p.pa,.ref g]/\tI A E H p hv hs xs/\Hds E hs/\jt E hs H g gn gl /\
 ∀c la H',H c=none->Cells E H H' c la (S.new E hs gn gl) E.idx->Q (.ref c) H'
theorem Ac (T:Txt K mg A) (O:E.Ok):Has P w K mg base 4 "cells_of" ["program","gifts"] (yI A E):=by
 have D_given_cell:=zZ (P:=P) (w:=w) (base:=base) T
 have D_own_cell:=C0 (P:=P) (w:=w) (base:=base) T
 refine T.sT.has fI (fun vs H Q E h=>?_) (fun f cdv A' outer s H vs Q E' hr hu h=>?_)
 ·obtain ⟨p,g,hv,xs,hs,gn,gl,rfl,_⟩:=h
  rfl
 ·obtain ⟨p,g,hv,xs,hs,gn,gl,rfl,R,Z,G,q⟩:=h
  refine ⟨_,(ab (aC (i:=2) fI.nd rfl (Or.inl rfl) (ma))
  (ab (dX PassesOwn.never rfl (fu (aJ (fv 0) rfl)) (pgn (i:=3) fI.nd rfl)
   (ag (aO (bU (aG bg rfl T.aB (by boot_by_name) (aa (fv 3) (aa (dH T.bh.mg) af))) (fun _=>rfl))
    (ag (bo (ar D_given_cell hr (aa (fv 3) (aa (fv 1) af))) (bA (fv 2) (aJ (fv 3) rfl) (bB hu set_list))))
    (ag (aO (bU (aG bg rfl T.aB (by boot_by_name) (aa (fv 3) (aa (dH T.bH.mg) af))) (fun _=>rfl))
     (ag (bo (ar D_own_cell hr (aa (fv 3) af)) (bA (fv 2) (aJ (fv 3) rfl) (bB hu set_list))))
     aH)))))
  (ab (dX PassesOwn.never rfl (fu (aJ (fv 0) rfl)) (pgn (i:=4) fI.nd rfl)
   (ag (dX PassesOwn.never rfl (fu (aJ (fv 4) rfl)) (pgn (i:=5) fI.nd rfl)
    (ag (bo ae (bA (fv 2) (fv 5) (bB hu set_list)))))))
  (ag (aA (fv 2)))))),?_⟩
  refine ax fun M1 K1=>?_
  refine fun c hc=>?_
  have C1:Cells E H (upd H c (HO.dK [])) c (fun _=>0) (S.new E hs gn gl) []:=⟨aj.upd hc _,aq,fun _ h=>(by cases h),fun _ h=>(by cases h)⟩
  generalize upd H c (HO.dK [])=H1 at C1 ⊢
  refine K1 _ _ ?_
  refine ax fun M2 K2=>?_
  refine ⟨p.pa,_,p.dp,_,_,rfl,C1.s _ _ R.pr,T.dz.cl,T.eK,rfl,Or.inl ⟨⟨_,SqL.of (C1.s _ _ R.hd)⟩,?_⟩⟩
  refine fL (K:=K) (xs:=hv) (fun i σ H2=>(∃la,Cells E H H2 c la (S.new E hs gn gl) ((hs.take i).flatMap Hd.cell))/\∃v,σ=[some (.ref p.pa),some (.ref g),some (.ref c),v,none,none]) ⟨⟨_,C1⟩,none,rfl⟩ (fun i σ H2 _ h=>by obtain ⟨⟨la,C⟩,_⟩:=h;exact SqL.of (C.s _ _ R.hd)) ?_ ?_
  ·rintro i v σ H2 hx ⟨⟨la,C⟩,z,rfl⟩
   obtain ⟨h,hh,W⟩:=cw R.h hx
   have hm:=List.mem_of_getElem? hh
   have W2:=W.same C.s
   have eL:E.idx=(hs.take i).flatMap Hd.cell ++ (h.cell ++ (hs.drop (i + 1)).flatMap Hd.cell) ++ E.ds.flatMap Dd.parts:=by rw [Z.e,o7 hh]
   rw [show (hs.take (i + 1)).flatMap Hd.cell=(hs.take i).flatMap Hd.cell ++ h.cell by rw [take_snoc hh,List.flatMap_append];simp]
   have ndh:(hs.flatMap Hd.cell).Nodup:=by
    have:=O.nd
    rw [Z.e] at this
    exact (List.nodup_append.mp this).1
   generalize (hs.take i).flatMap Hd.cell=ix at C eL ⊢
   have llen:∀(g:Nat->V),(dk E.N ix g).length < sizeLine:=fun g=>aM (by
    rw [eB]
    have:=O.len
    rw [eL,List.length_append,List.length_append] at this
    omega)
   cases h with
   | hand x =>
    obtain ⟨a,dx,n,rk,rfl,ha⟩:=W2
    refine ⟨_,_,_,false,rfl,(fun z=>by cases z),T.cH.bZ ha,cf T.cH T.bh (av T 3 2) (av T 3 1),false,rfl,bw ⟨_,_,_,false,rfl,(fun z=>by cases z),T.cH.bZ ha,cf T.cH T.bH (av T 4 2) (av T 4 1),false,rfl,bw ?_⟩⟩
    exact ⟨⟨la,by rw [show Hd.cell (.hand x)=[] from rfl,List.append_nil];exact C⟩,_,rfl⟩
   | lt x =>
    obtain ⟨a,dx,n,rk,rfl,ha⟩:=W2
    refine ⟨_,_,_,false,rfl,(fun z=>by cases z),T.dJ.bZ ha,cf T.dJ T.bh (av T 3 5) (av T 3 1),false,rfl,bw ⟨_,_,_,false,rfl,(fun z=>by cases z),T.dJ.bZ ha,cf T.dJ T.bH (av T 4 5) (av T 4 1),false,rfl,bw ?_⟩⟩
    exact ⟨⟨la,by rw [show Hd.cell (.lt x)=[] from rfl,List.append_nil];exact C⟩,_,rfl⟩
   | giv x zz =>
    obtain ⟨n1,n2,n3⟩:=rN (x:=x) eL O.nd
    have hb:∀j ∈ ix,j < 18:=fun j hj=>O.b j (n2 j hj)
    have ez:=Z.g x zz hm
    have ig:=Bu hm
    obtain ⟨a,dx,n,rk,rfl,ha⟩:=W2
    obtain ⟨kvs,k1,k2⟩:=(G.same C.s).d
    have zl:=O.z x
    rw [ez] at zl
    refine ⟨_,_,_,true,rfl,(fun z=>by cases z),T.bh.bZ ha,lO T.bh,true,rfl,cU ?_⟩
    by_cases z0:zz=0
    ·have e0:=(k2 x zz hm).1 z0
     refine ⟨a,g,dx,_,_,_,zz,kvs,_,rfl,ha,k1,e0,Or.inl ⟨z0,_,rfl,G.n x,?_⟩⟩
     refine ⟨a,_,dx,_,_,rfl,ha,T.bh.cl,T.dh,rfl,_,cF.k (k:=.inr (E.N x)) C.hc (llen _),?_⟩
     exact ⟨⟨la,C.num O hc (O.b x n3) hb n1 (by rw [ez,z0]) (by show (if isG hs x=true then gn x else 0)=_;rw [if_pos ig])⟩,_,rfl⟩
    ·obtain ⟨l,e0,e1,e2⟩:=(k2 x zz hm).2 (by omega)
     refine ⟨a,g,dx,_,_,_,zz,kvs,_,rfl,ha,k1,e0,Or.inr ⟨by omega,zl,l,_,rfl,e1,e2,G.l x,fun u H3 s3 u0 hu3=>?_⟩⟩
     refine ⟨a,_,dx,_,_,rfl,s3 _ _ ha,T.bh.cl,T.dh,rfl,_,cF.k (k:=.inr (E.N x)) (s3 _ _ C.hc) (llen _),?_⟩
     exact ⟨⟨_,C.lst O hc (O.b x n3) hb n1 (by rw [ez];omega) s3 u0 (by rw [hu3];show _=some (HO.lst ((if isG hs x=true then gl x else zeros (E.sz x)).map V.int));rw [if_pos ig])⟩,_,rfl⟩
   | own x zz =>
    obtain ⟨n1,n2,n3⟩:=rN (x:=x) eL O.nd
    have hb:∀j ∈ ix,j < 18:=fun j hj=>O.b j (n2 j hj)
    have ez:=Z.o x zz hm
    have ig:=Bp ndh hm
    obtain ⟨a,dx,n,rfl,ha⟩:=W2
    have zl:=O.z x
    rw [ez] at zl
    refine ⟨_,_,_,false,rfl,(fun z=>by cases z),T.bH.bZ ha,cf T.bH T.bh (av T 3 4) (av T 3 1),false,rfl,bw ⟨_,_,_,true,rfl,(fun z=>by cases z),T.bH.bZ ha,lO T.bH,true,rfl,cU ?_⟩⟩
    refine ⟨a,dx,_,zz,_,rfl,zl,ha,fun z0=>?_,fun z0 u H3 s3 u0 hu3=>?_⟩
    ·refine ⟨a,_,dx,_,_,rfl,ha,T.bH.cl,T.dD,rfl,_,cF.k (k:=.inr (E.N x)) C.hc (llen _),?_⟩
     exact ⟨⟨la,C.num O hc (O.b x n3) hb n1 (by rw [ez,z0]) (by show (if isG hs x=true then gn x else 0)=_;rw [ig];rfl)⟩,_,rfl⟩
    ·refine ⟨a,_,dx,_,_,rfl,s3 _ _ ha,T.bH.cl,T.dD,rfl,_,cF.k (k:=.inr (E.N x)) (s3 _ _ C.hc) (llen _),?_⟩
     exact ⟨⟨_,C.lst O hc (O.b x n3) hb n1 (by rw [ez];omega) s3 u0 (by rw [hu3];show _=some (HO.lst ((if isG hs x=true then gl x else zeros (E.sz x)).map V.int));rw [ig,if_neg Bool.false_ne_true,ez])⟩,_,rfl⟩
  rintro σ H2 ⟨⟨la,C⟩,z,rfl⟩
  rw [Paired.length R.h,List.take_length] at C
  refine K2 _ _ ?_
  refine ax fun M3 K3=>?_
  refine ⟨p.pa,_,p.dp,_,_,rfl,C.s _ _ R.pr,T.dz.cl,T.eN,rfl,Or.inl ⟨⟨_,SqL.of (C.s _ _ R.dd)⟩,?_⟩⟩
  refine fL (K:=K) (xs:=E.dv) (fun i σ H3=>Cells E H H3 c la (S.new E hs gn gl) (hs.flatMap Hd.cell ++ (E.ds.take i).flatMap Dd.parts)/\∃z4 z5,σ=[some (.ref p.pa),some (.ref g),some (.ref c),z,z4,z5]) ⟨by rw [List.take_zero,List.flatMap_nil,List.append_nil];exact C,none,none,rfl⟩ (fun i σ H3 _ h=>SqL.of (h.1.s _ _ R.dd)) ?_ ?_
  ·rintro i u σ H3 hx ⟨C3,z4,z5,rfl⟩
   obtain ⟨D,hD,a,dx,n,pp,pb,rfl,ha,hp⟩:=cw R.d hx
   refine ⟨a,_,dx,_,_,rfl,C3.s _ _ ha,T.cQ.cl,T.eP,rfl,Or.inl ⟨⟨_,SqL.of (C3.s _ _ hp)⟩,?_⟩⟩
   refine fL (K:=K) (xs:=D.parts.map fun i=>V.str (E.N i)) (fun j σ H4=>Cells E H H4 c la (S.new E hs gn gl) (hs.flatMap Hd.cell ++ (E.ds.take i).flatMap Dd.parts ++ D.parts.take j)/\∃z5,σ=[some (.ref p.pa),some (.ref g),some (.ref c),z,some (.ref a),z5]) ⟨by rw [List.take_zero,List.append_nil];exact C3,_,rfl⟩ (fun i σ H4 _ h=>SqL.of (h.1.s _ _ hp)) ?_ ?_
   ·rintro j u σ H4 hu' ⟨C4,z6,rfl⟩
    rw [List.getElem?_map] at hu'
    cases hj:D.parts[j]? with
    | none=>rw [hj] at hu';cases hu'
    | some x =>
     rw [hj] at hu'
     cases hu'
     have eL:E.idx=(hs.flatMap Hd.cell ++ (E.ds.take i).flatMap Dd.parts ++ D.parts.take j) ++ (x :: D.parts.drop (j + 1)) ++ (E.ds.drop (i + 1)).flatMap Dd.parts:=by
      rw [Z.e,o7 hD,<- l8 hj,List.append_assoc,List.append_assoc,List.append_assoc,<- List.append_assoc (D.parts.take j),List.take_append_drop]
     obtain ⟨n1,n2,n3⟩:=rN (x:=x) eL O.nd
     obtain ⟨x1,x2⟩:=O.pt D (List.mem_of_getElem? hD) x (List.mem_of_getElem? hj)
     have ng:isG hs x=false:=by
      cases e:isG hs x with
      | false=>rfl
      | true =>
       exfalso
       unfold isG at e
       rw [List.any_eq_true] at e
       obtain ⟨gg,hg,eg⟩:=e
       refine n1 (List.mem_append_left _ (List.mem_append_left _ (List.mem_flatMap.mpr ⟨gg,hg,?_⟩)))
       cases gg with
       | giv j y=>rw [of_decide_eq_true eg];simp [Hd.cell]
       | _=>cases eg
     have llen:(dk E.N (hs.flatMap Hd.cell ++ (E.ds.take i).flatMap Dd.parts ++ D.parts.take j) (cV E la (S.new E hs gn gl).num)).length < sizeLine:=aM (by
      rw [eB]
      have:=O.len
      rw [eL,List.length_append,List.length_append] at this
      omega)
     refine ⟨_,cF.k (k:=.inr (E.N x)) C4.hc llen,?_⟩
     rw [take_snoc hj,<- List.append_assoc]
     exact ⟨C4.num O hc (O.b x n3) (fun j hj=>O.b j (n2 j hj)) n1 x2 (by show (if isG hs x=true then gn x else 0)=_;rw [ng];rfl),_,rfl⟩
   ·rintro σ H4 ⟨C4,z6,rfl⟩
    rw [List.length_map,List.take_length] at C4
    refine ⟨?_,_,_,rfl⟩
    rw [take_snoc hD,List.flatMap_append,<- List.append_assoc,show List.flatMap Dd.parts [D]=D.parts by simp]
    exact C4
  ·rintro σ H3 ⟨C3,z4,z5,rfl⟩
   refine K3 _ _ ?_
   rw [Paired.length R.d,List.take_length,<- Z.e] at C3
   exact q c la H3 hc C3
end
section
variable {P:Program}{w:World}{K:W.Frag}{mg:Str->Option Value}{base:Heap}{A:Adr}{E:En}{N:Nat->Str}
structure zJ (A:Adr) (H:Hp) (x dx l sd t e:Addr):Prop where
 b:H x=some (.ins A.cb dx [("letters",.ref l),("said",.ref sd),("trace",.ref t),("steps",.int 0),("ends",.ref e)])
 hl:H l=some (.lst [])
 hs:H sd=some (.lst [])
 ht:H t=some (.lst [])
 tl:t ≠ l
 dt:sd ≠ t
 dl:sd ≠ l
 he:H e=some (.dK [])
def rf (A:Adr):Sp:=fun vs H Q _=>∃x dx,vs=[.ref x]/\H x=some (.ins A.cb dx [])/\∀(l sd t e:Addr) (H':Hp),H l=none->H sd=none->H t=none->H e=none->But x H H'->zJ A H' x dx l sd t e->Q .non H'
theorem sD (T:Txt K mg A):cR P w K mg base 1 A.cb "__init__" ["self"] (rf A):=by
 refine T.mX.has (k:=0) rH (fun vs H Q E h=>?_) (fun f cdv A' outer s H vs Q E hr hu h=>?_)
 ·obtain ⟨x,dx,rfl,_⟩:=h
  rfl
 ·obtain ⟨x,dx,rfl,hx,q⟩:=h
  refine ⟨_,(ab (bf (fv 0) (bE af) rfl)
  (ab (bf (fv 0) (bE af) rfl)
  (ab (bf (fv 0) (bE af) rfl)
  (ab (bf (fv 0) ae rfl)
  (ag (bf (fv 0) (ma) rfl)))))),?_⟩
  refine ⟨Nat.zero_le _,fun l hl=>?_⟩
  have lx:l ≠ x:=fun z=>by rw [z,hx] at hl;cases hl
  have b1:But x H (upd H l (HO.lst [])):=But.new hl _
  have x1:(upd H l (HO.lst [])) x=some (.ins A.cb dx []):=by rw [aI (Ne.symm lx)];exact hx
  have l1:(upd H l (HO.lst [])) l=some (.lst []):=aq
  generalize upd H l (HO.lst [])=H1 at b1 x1 l1 ⊢
  refine ⟨x,_,dx,_,rfl,x1,T.cq.cl,T.eW,by decide,?_⟩
  have b2:But x H (upd H1 x (.ins A.cb dx (cz "letters" (.ref l) []))):=b1.trans (But.at x _ _)
  have x2:(upd H1 x (.ins A.cb dx (cz "letters" (.ref l) []))) x=some (.ins A.cb dx [("letters",.ref l)]):=aq
  have l2:(upd H1 x (.ins A.cb dx (cz "letters" (.ref l) []))) l=some (.lst []):=by rw [aI lx];exact l1
  generalize upd H1 x (.ins A.cb dx (cz "letters" (.ref l) []))=H2 at b2 x2 l2 ⊢
  refine ⟨Nat.zero_le _,fun sd hsd=>?_⟩
  have sx:sd ≠ x:=fun z=>by rw [z,x2] at hsd;cases hsd
  have dl:sd ≠ l:=fun z=>by rw [z,l2] at hsd;cases hsd
  have sd0:H sd=none:=b2.none sx hsd
  have b3:But x H (upd H2 sd (HO.lst [])):=b2.trans (But.new hsd _)
  have x3:(upd H2 sd (HO.lst [])) x=some (.ins A.cb dx [("letters",.ref l)]):=by rw [aI (Ne.symm sx)];exact x2
  have l3:(upd H2 sd (HO.lst [])) l=some (.lst []):=by rw [aI (Ne.symm dl)];exact l2
  have s3:(upd H2 sd (HO.lst [])) sd=some (.lst []):=aq
  generalize upd H2 sd (HO.lst [])=H3 at b3 x3 l3 s3 ⊢
  refine ⟨x,_,dx,_,rfl,x3,T.cq.cl,T.gW,by simp,?_⟩
  have b4:But x H (upd H3 x (.ins A.cb dx (cz "said" (.ref sd) [("letters",.ref l)]))):=b3.trans (But.at x _ _)
  have x4:(upd H3 x (.ins A.cb dx (cz "said" (.ref sd) [("letters",.ref l)]))) x=some (.ins A.cb dx [("letters",.ref l),("said",.ref sd)]):=aq
  have l4:(upd H3 x (.ins A.cb dx (cz "said" (.ref sd) [("letters",.ref l)]))) l=some (.lst []):=by rw [aI lx];exact l3
  have s4:(upd H3 x (.ins A.cb dx (cz "said" (.ref sd) [("letters",.ref l)]))) sd=some (.lst []):=by rw [aI sx];exact s3
  generalize upd H3 x (.ins A.cb dx (cz "said" (.ref sd) [("letters",.ref l)]))=H4 at b4 x4 l4 s4 ⊢
  refine ⟨Nat.zero_le _,fun t ht=>?_⟩
  have tx:t ≠ x:=fun z=>by rw [z,x4] at ht;cases ht
  have tl:t ≠ l:=fun z=>by rw [z,l4] at ht;cases ht
  have ts:t ≠ sd:=fun z=>by rw [z,s4] at ht;cases ht
  have t0:H t=none:=b4.none tx ht
  have b5:But x H (upd H4 t (HO.lst [])):=b4.trans (But.new ht _)
  have x5:(upd H4 t (HO.lst [])) x=some (.ins A.cb dx [("letters",.ref l),("said",.ref sd)]):=by rw [aI (Ne.symm tx)];exact x4
  have l5:(upd H4 t (HO.lst [])) l=some (.lst []):=by rw [aI (Ne.symm tl)];exact l4
  have s5:(upd H4 t (HO.lst [])) sd=some (.lst []):=by rw [aI (Ne.symm ts)];exact s4
  have t5:(upd H4 t (HO.lst [])) t=some (.lst []):=aq
  generalize upd H4 t (HO.lst [])=H5 at b5 x5 l5 s5 t5 ⊢
  refine ⟨x,_,dx,_,rfl,x5,T.cq.cl,T.fY,by simp,?_⟩
  have b6:But x H (upd H5 x (.ins A.cb dx (cz "trace" (.ref t) [("letters",.ref l),("said",.ref sd)]))):=b5.trans (But.at x _ _)
  have x6:(upd H5 x (.ins A.cb dx (cz "trace" (.ref t) [("letters",.ref l),("said",.ref sd)]))) x=some (.ins A.cb dx [("letters",.ref l),("said",.ref sd),("trace",.ref t)]):=aq
  have l6:(upd H5 x (.ins A.cb dx (cz "trace" (.ref t) [("letters",.ref l),("said",.ref sd)]))) l=some (.lst []):=by rw [aI lx];exact l5
  have s6:(upd H5 x (.ins A.cb dx (cz "trace" (.ref t) [("letters",.ref l),("said",.ref sd)]))) sd=some (.lst []):=by rw [aI sx];exact s5
  have t6:(upd H5 x (.ins A.cb dx (cz "trace" (.ref t) [("letters",.ref l),("said",.ref sd)]))) t=some (.lst []):=by rw [aI tx];exact t5
  generalize upd H5 x (.ins A.cb dx (cz "trace" (.ref t) [("letters",.ref l),("said",.ref sd)]))=H6 at b6 x6 l6 s6 t6 ⊢
  refine ⟨x,_,dx,_,rfl,x6,T.cq.cl,T.cY,by simp,?_⟩
  have b7:But x H (upd H6 x (.ins A.cb dx (cz "steps" (.int 0) [("letters",.ref l),("said",.ref sd),("trace",.ref t)]))):=b6.trans (But.at x _ _)
  have x7:(upd H6 x (.ins A.cb dx (cz "steps" (.int 0) [("letters",.ref l),("said",.ref sd),("trace",.ref t)]))) x=some (.ins A.cb dx [("letters",.ref l),("said",.ref sd),("trace",.ref t),("steps",.int 0)]):=aq
  have l7:(upd H6 x (.ins A.cb dx (cz "steps" (.int 0) [("letters",.ref l),("said",.ref sd),("trace",.ref t)]))) l=some (.lst []):=by rw [aI lx];exact l6
  have s7:(upd H6 x (.ins A.cb dx (cz "steps" (.int 0) [("letters",.ref l),("said",.ref sd),("trace",.ref t)]))) sd=some (.lst []):=by rw [aI sx];exact s6
  have t7:(upd H6 x (.ins A.cb dx (cz "steps" (.int 0) [("letters",.ref l),("said",.ref sd),("trace",.ref t)]))) t=some (.lst []):=by rw [aI tx];exact t6
  generalize upd H6 x (.ins A.cb dx (cz "steps" (.int 0) [("letters",.ref l),("said",.ref sd),("trace",.ref t)]))=H7 at b7 x7 l7 s7 t7 ⊢
  refine fun e he=>?_
  have ex:e ≠ x:=fun z=>by rw [z,x7] at he;cases he
  have n8:=aj.upd he (HO.dK [])
  refine ⟨x,_,dx,_,rfl,n8 _ _ x7,T.cq.cl,T.dS,by simp,?_⟩
  refine q l sd t e _ hl sd0 t0 (b7.none ex he) ((b7.trans (But.of n8)).trans (But.at x _ _)) ⟨aq,?_,?_,?_,tl,Ne.symm ts,dl,?_⟩
  ·rw [aI lx];exact n8 _ _ l7
  ·rw [aI sx];exact n8 _ _ s7
  ·rw [aI tx];exact n8 _ _ t7
  ·rw [aI ex];exact aq
theorem qa {H:Hp}{f:Nat->V}:∀{idx:List Nat}{ys:List V},Paired (fun j y=>∃t,y=V.ref t/\H t=some (.tup [.str (N j),f j])) idx ys->∃ps:List Addr,ys=ps.map V.ref/\ps.length=idx.length/\∀(i:Nat) t k v,ps[i]?=some t->(dk N idx f)[i]?=some (k,v)->SqT K H t [kV k,v]
 | _,_,.nil=>⟨[],rfl,rfl,fun i t k v h=>by cases h⟩
 | j :: idx,y :: ys,.cons ⟨t,e,ht⟩ r=>by
  obtain ⟨ps,h1,h2,h3⟩:=qa r
  refine ⟨t :: ps,by rw [e,h1];rfl,by simp [h2],fun i t' k v a b=>?_⟩
  cases i with
  | zero =>
   have a':t=t':=Option.some.inj a
   have b':((Sum.inr (N j):Key),f j)=(k,v):=Option.some.inj b
   cases b'
   rw [<- a']
   exact SqT.of ht
  | succ i=>exact h3 i t' k v a b
def qc (A:Adr) (H:Hp):V->Bool
 | .ref a=>match H a with
  | some (.ins C _ _)=>decide (C=A.bG)
  | _=>false
 | _=>false
theorem dZ {H:Hp}{a C dx:Addr}{fs:List (Str × V)} (h:H a=some (.ins C dx fs)):qc A H (.ref a)=decide (C=A.bG):=by
 unfold qc
 simp only [h]
theorem CH (O:E.Ok) {i:Nat}{D:Dd}{v:V} (h1:E.ds[i]?=some D) (h2:E.dv[i]?=some v):dG E D.nm=v:=by
 obtain ⟨q,e1,e2⟩:=pI O.dd h1 h2
 unfold dG
 rw [e1]
 exact e2
def sJ (A:Adr) (E:En):Sp:=fun vs H Q _=>∃(s ds c:Addr) (p:Pa) (hv xs:List V) (hs:List Hd) (la:Nat->Addr) (k:S),vs=[.ref s,.ref p.pa,.ref c]/\H s=some (.ins A.Run ds [])/\tI A E H p hv hs xs/\H c=some (.dK (dk E.N E.idx (cV E la k.num)))/\(∀i ∈ E.ls,la i ≠ c/\H (la i)=some (.lst ((k.lst i).map V.int)))/\(∀i ∈ E.ls,∀j ∈ E.ls,la i=la j->i=j)/\k.ok E/\k.steps=0/\k.trace=[]/\k.dI=[]/\k.mf=[] /\
 ∀(d b db sd e t l:Addr) (H':Hp),But s H H'->H b=none->H t=none->H l=none->H sd=none->br A E H' ⟨s,ds,d,c,b,db,sd,e,t,l,la⟩ k->Q .non H'
theorem qu {la:Nat->Addr}:∀{xs:List Nat},xs.Nodup->(∀i ∈ xs,∀j ∈ xs,la i=la j->i=j)->(xs.map la).Nodup
 | [],_,_=>List.nodup_nil
 | x :: r,nd,h=>by
  rw [List.nodup_cons] at nd
  rw [List.map_cons,List.nodup_cons]
  refine ⟨fun m=>?_,qu nd.2 fun i hi j hj=>h i (List.mem_cons_of_mem _ hi) j (List.mem_cons_of_mem _ hj)⟩
  obtain ⟨j,hj,e⟩:=List.mem_map.mp m
  rw [<- h j (List.mem_cons_of_mem _ hj) x List.mem_cons_self e] at nd
  exact nd.1 hj
theorem tT (T:Txt K mg A) (O:E.Ok):cR P w K mg base 3 A.Run "__init__" ["self","program","cells"] (sJ A E):=by
 have D_Book_init:=sD (P:=P) (w:=w) (base:=base) T
 refine T.oV.has (k:=2) mU (fun vs H Q E h=>?_) (fun f cdv A' outer s' H vs Q E' hr hu h=>?_)
 ·obtain ⟨s,ds,c,p,hv,xs,hs,la,k,rfl,_⟩:=h
  rfl
 ·obtain ⟨s,ds,c,p,hv,xs,hs0,la,k,rfl,hs,R,G,hL,hI,ok,k1,k2,k3,k4,q⟩:=h
  refine ⟨_,(ab (bf (fv 0) (ma) rfl)
  (ab (dX PassesOwn.never rfl (fu (aJ (fv 1) rfl)) (pgn (i:=3) mU.nd rfl)
   (ag (bo (fv 3) (bA (aJ (fv 0) rfl) (aJ (fv 3) rfl) (bB hu set_list)))))
  (ab (bf (fv 0) (fv 2) rfl)
  (ag (bf (fv 0) (vS T.cq D_Book_init hr) rfl))))),?_⟩
  refine fun d hd=>?_
  have sm1:=aj.upd hd (HO.dK [])
  have ds0:d ≠ s:=fun z=>by rw [z,hs] at hd;cases hd
  refine ⟨s,_,ds,_,rfl,sm1 _ _ hs,T.bS.cl,T.gU,by simp,?_⟩
  have b2:But s H (upd (upd H d (HO.dK [])) s (.ins A.Run ds (cz "deeds" (.ref d) []))):=(But.of sm1).trans (But.at s _ _)
  have x2:(upd (upd H d (HO.dK [])) s (.ins A.Run ds (cz "deeds" (.ref d) []))) s=some (.ins A.Run ds [("deeds",.ref d)]):=aq
  have d2:(upd (upd H d (HO.dK [])) s (.ins A.Run ds (cz "deeds" (.ref d) []))) d=some (.dK []):=by rw [aI ds0];exact aq
  generalize upd (upd H d (HO.dK [])) s (.ins A.Run ds (cz "deeds" (.ref d) []))=H2 at b2 x2 d2 ⊢
  have ps:p.pa ≠ s:=fun z=>by have:=R.pr;rw [z,hs] at this;exact absurd (HO.ins.inj (Option.some.inj this)).1 (av T 16 15)
  have dds:p.dd ≠ s:=fun z=>by have:=R.dd;rw [z,hs] at this;cases this
  refine ⟨p.pa,_,p.dp,_,_,rfl,b2 _ ps _ R.pr,T.dz.cl,T.eN,rfl,Or.inl ⟨⟨_,SqL.of (b2 _ dds _ R.dd)⟩,?_⟩⟩
  refine fL (K:=K) (xs:=E.dv) (fun i σ H3=>But s H H3/\H3 s=some (.ins A.Run ds [("deeds",.ref d)])/\H3 d=some (.dK (dk E.N ((E.ds.take i).map Dd.nm) (dG E)))/\∃v,σ=[some (.ref s),some (.ref p.pa),some (.ref c),v]) ⟨b2,x2,d2,_,rfl⟩ (fun i σ H3 _ h=>SqL.of (h.1 _ dds _ R.dd)) ?_ ?_
  ·rintro i u σ H3 hx ⟨b3,x3,d3,z,rfl⟩
   obtain ⟨D,hD,a,dx,n,pp,pb,rfl,ha,_⟩:=cw R.d hx
   have as:a ≠ s:=fun z=>by rw [z,hs] at ha;exact absurd (HO.ins.inj (Option.some.inj ha)).1 (av T 16 14)
   have il:i < E.ds.length:=(List.getElem?_eq_some_iff.mp hD).1
   have dl:=O.dl
   refine ⟨s,_,ds,_,_,rfl,x3,T.bS.cl,T.gU,rfl,a,_,dx,_,_,rfl,b3 _ as _ ha,T.cQ.cl,T.gD,rfl,_,cF.k (k:=.inr (E.N D.nm)) d3 (aM (by rw [eB,List.length_map,List.length_take];omega)),?_⟩
   refine ⟨fun b hb o hq=>by rw [aI (dR hq hd)];exact b3 b hb o hq,by rw [aI (Ne.symm ds0)];exact x3,?_,_,rfl⟩
   have nm:∀j ∈ (E.ds.take i).map Dd.nm,j < 18:=fun j hj=>by
    obtain ⟨d',hd',rfl⟩:=List.mem_map.mp hj
    exact O.dn d' (List.mem_of_mem_take hd')
   have nn:D.nm ∉ (E.ds.take i).map Dd.nm:=fun hj=>by
    have:=O.dd
    rw [show E.ds=E.ds.take i ++ D :: E.ds.drop (i + 1) by rw [<- l8 hD,List.take_append_drop],List.map_append,List.map_cons] at this
    exact (List.nodup_append.mp this).2.2 _ hj _ List.mem_cons_self rfl
   rw [aq,fg O.D (O.dn D (List.mem_of_getElem? hD)) nm nn,take_snoc hD,List.map_append]
   refine congrArg some (congrArg HO.dK (du fun j _=>?_))
   by_cases e:j=D.nm
   ·rw [e,dA,CH O hD hx]
   ·rw [fE _ _ e]
  ·rintro σ H3 ⟨b3,x3,d3,z,rfl⟩
   rw [show E.dv.length=E.ds.length from O.dv,List.take_length] at d3
   refine ⟨s,_,ds,_,rfl,x3,T.bS.cl,T.cM,by simp,?_⟩
   have b4:But s H (upd H3 s (.ins A.Run ds (cz "cells" (.ref c) [("deeds",.ref d)]))):=b3.trans (But.at s _ _)
   have x4:(upd H3 s (.ins A.Run ds (cz "cells" (.ref c) [("deeds",.ref d)]))) s=some (.ins A.Run ds [("deeds",.ref d),("cells",.ref c)]):=aq
   have d4:(upd H3 s (.ins A.Run ds (cz "cells" (.ref c) [("deeds",.ref d)]))) d=some (.dK (dk E.N (E.ds.map Dd.nm) (dG E))):=by rw [aI ds0];exact d3
   generalize upd H3 s (.ins A.Run ds (cz "cells" (.ref c) [("deeds",.ref d)]))=H4 at b4 x4 d4 ⊢
   refine fun b db hb hdb hne=>⟨b,db,rfl,aq,fun l sd t e H5 nl ns nt _ bt nb=>⟨rfl,?_⟩⟩
   have sm5:aj H4 H5:=But.same bt hb hdb
   have l4:=gA hb hdb nl
   have t4:=gA hb hdb nt
   have sd4:=gA hb hdb ns
   have ne4:∀{x y:Addr}{o:HO},H4 x=none->H4 y=some o->x ≠ y:=fun h1 h2 z=>by rw [z,h2] at h1;cases h1
   have cs:c ≠ s:=fun z=>by rw [z,hs] at G;cases G
   have c4:=b4 _ cs _ G
   have las:∀i ∈ E.ls,la i ≠ s:=fun i hi z=>by have:=(hL i hi).2;rw [z,hs] at this;cases this
   have la4:∀i ∈ E.ls,H4 (la i)=some (.lst ((k.lst i).map V.int)):=fun i hi=>b4 _ (las i hi) _ (hL i hi).2
   have bs:=ne4 hb x4
   have ls:=ne4 l4 x4
   have ts:=ne4 t4 x4
   have ss:=ne4 sd4 x4
   have cd:d ≠ c:=fun z=>by rw [z,G] at hd;cases hd
   refine ⟨s,_,ds,_,rfl,sm5 _ _ x4,T.bS.cl,T.gk,by simp,?_⟩
   have up:∀{x:Addr}{o:HO},x ≠ s->H5 x=some o->(upd H5 s (.ins A.Run ds (cz "book" (.ref b) [("deeds",.ref d),("cells",.ref c)]))) x=some o:=fun h1 h2=>ah h1 h2
   have bt':b ≠ t:=fun z=>by have:=nb.b;rw [z,nb.ht] at this;cases this
   have bl':b ≠ l:=fun z=>by have:=nb.b;rw [z,nb.hl] at this;cases this
   have bd':b ≠ sd:=fun z=>by have:=nb.b;rw [z,nb.hs] at this;cases this
   have db':d ≠ b:=(ne4 hb d4).symm
   have dt':d ≠ t:=(ne4 t4 d4).symm
   have dl':d ≠ l:=(ne4 l4 d4).symm
   have dd':d ≠ sd:=(ne4 sd4 d4).symm
   have sM:s ∉ Ra.M ⟨s,ds,d,c,b,db,sd,e,t,l,la⟩ E:=fun m=>by
    unfold Ra.M at m
    rcases List.mem_append.mp m with m | m
    ·simp only [List.mem_cons,List.not_mem_nil,or_false] at m
     rcases m with z | z | z | z | z
     ·exact bs z.symm
     ·exact cs z.symm
     ·exact ts z.symm
     ·exact ls z.symm
     ·exact ss z.symm
    ·obtain ⟨i,hi,z⟩:=List.mem_map.mp m
     exact las i hi z
   have dM:d ∉ Ra.M ⟨s,ds,d,c,b,db,sd,e,t,l,la⟩ E:=fun m=>by
    unfold Ra.M at m
    rcases List.mem_append.mp m with m | m
    ·simp only [List.mem_cons,List.not_mem_nil,or_false] at m
     rcases m with z | z | z | z | z
     ·exact db' z
     ·exact cd z
     ·exact dt' z
     ·exact dl' z
     ·exact dd' z
    ·obtain ⟨i,hi,z⟩:=List.mem_map.mp m
     have:=la4 i hi
     rw [show la i=d from z,d4] at this
     cases this
   have lsn:E.ls.Nodup:=O.nd.sublist List.filter_sublist
   have nod:(Ra.M ⟨s,ds,d,c,b,db,sd,e,t,l,la⟩ E).Nodup:=by
    unfold Ra.M
    refine List.nodup_append.mpr ⟨?_,qu lsn hI,fun x hx y hy z=>?_⟩
    ·simp [ne4 hb c4,bt',bl',bd',(ne4 t4 c4).symm,(ne4 l4 c4).symm,(ne4 sd4 c4).symm,nb.tl,Ne.symm nb.dt,Ne.symm nb.dl]
    ·obtain ⟨i,hi,rfl⟩:=List.mem_map.mp hy
     have l1:=la4 i hi
     simp only [List.mem_cons,List.not_mem_nil,or_false] at hx
     rcases hx with w | w | w | w | w
     ·exact ne4 hb l1 (w.symm.trans z)
     ·exact (hL i hi).1 (z.symm.trans w)
     ·exact ne4 t4 l1 (w.symm.trans z)
     ·exact ne4 l4 l1 (w.symm.trans z)
     ·exact ne4 sd4 l1 (w.symm.trans z)
   refine q d b db sd e t l _ ((b4.trans (But.of sm5)).trans (But.at s _ _)) (b4.none bs hb) (b4.none ts t4) (b4.none ls l4) (b4.none ss sd4) ⟨nod,aV sM aq,aV dM (up ds0 (sm5 _ _ d4)),?_,up cs (sm5 _ _ c4),⟨[],up ts nb.ht,by rw [k2];exact .nil⟩,⟨[],up ls nb.hl,by rw [k3];exact .nil⟩,⟨[],up ss nb.hs,by rw [k4];exact .nil⟩,fun i hi=>up (las i hi) (sm5 _ _ (la4 i hi)),ok⟩
   show _=some (HO.ins A.cb db [("letters",.ref l),("said",.ref sd),("trace",.ref t),("steps",.int k.steps),("ends",.ref e)])
   rw [k1]
   exact up bs nb.b
def Hd.own?:Hd->List Nat
 | .own i _=>[i]
 | _=>[]
theorem lJ (T:Txt K mg A) {H H2:Hp}{f:Nat->V}{S0:List Hd}:∀{hv:List V}{hs:List Hd}{ys:List V},(∀h ∈ hs,h ∈ S0)->Paired (lI A N H) hv hs->Paired (fun x y=>∀i z,Hd.own i z ∈ S0->lI A N H x (.own i z)->∃t,y=V.ref t/\H2 t=some (.tup [.str (N i),f i])) (hv.filter (qc A H)) ys->Paired (fun j y=>∃t,y=V.ref t/\H2 t=some (.tup [.str (N j),f j])) (hs.flatMap Hd.own?) ys
 | _,_,_,_,.nil,h=>by
  cases h
  exact .nil
 | v :: hv,h :: hs,ys,sb,.cons p r,q=>by
  have sb':∀h ∈ hs,h ∈ S0:=fun h m=>sb h (List.mem_cons_of_mem _ m)
  rw [List.flatMap_cons]
  have no:∀{C:Addr}{a dx:Addr}{fs:List (Str × V)},v=.ref a->H a=some (.ins C dx fs)->C ≠ A.bG->qc A H v=false:=fun e h n=>by rw [e,dZ h,decide_eq_false n]
  cases h with
  | hand x =>
   obtain ⟨a,dx,n,rk,e,ha⟩:=p
   rw [List.filter_cons,no e ha (show A.bM ≠ A.bG from av T 2 4)] at q
   exact lJ T sb' r q
  | giv x z =>
   obtain ⟨a,dx,n,rk,e,ha⟩:=p
   rw [List.filter_cons,no e ha (show A.aX ≠ A.bG from av T 3 4)] at q
   exact lJ T sb' r q
  | lt x =>
   obtain ⟨a,dx,n,rk,e,ha⟩:=p
   rw [List.filter_cons,no e ha (show A.b9 ≠ A.bG from av T 5 4)] at q
   exact lJ T sb' r q
  | own x z =>
   have p0:=p
   obtain ⟨a,dx,n,e,ha⟩:=p
   rw [List.filter_cons,show qc A H v=true by rw [e,dZ ha,decide_eq_true rfl],if_pos rfl] at q
   cases q with
   | cons h1 h2=>exact .cons (h1 x z (sb _ List.mem_cons_self) p0) (lJ T sb' r h2)
end
section
variable {P:Program}{w:World}{K:W.Frag}{mg:Str->Option Value}{base:Heap}{A:Adr}{E:En}
def ownsOf (hs:List Hd):List Nat:=hs.flatMap Hd.own?
def zI (A:Adr) (E:En):Sp:=fun vs H Q _=>∃(p:Pa) (c:Addr) (hv xs:List V) (hs:List Hd) (f:Nat->V),vs=[.ref p.pa,.ref c]/\tI A E H p hv hs xs/\Hds E hs/\H c=some (.dK (dk E.N E.idx f))/\∀e H',aj H H'->H e=none->H' e=some (.dK (dk E.N (ownsOf hs) f))->Q (.ref e) H'
theorem oe {hs:List Hd} (Z:Hds E hs):∀i ∈ ownsOf hs,i ∈ E.idx:=fun i hi=>by
 obtain ⟨h,hm,m⟩:=List.mem_flatMap.mp hi
 rw [Z.e]
 refine List.mem_append_left _ (List.mem_flatMap.mpr ⟨h,hm,?_⟩)
 cases h with
 | own j z=>exact m
 | _=>cases m
theorem qK:∀hs:List Hd,(ownsOf hs).Sublist (hs.flatMap Hd.cell)
 | []=>List.Sublist.refl _
 | x :: r=>by
  unfold ownsOf
  rw [List.flatMap_cons,List.flatMap_cons]
  refine List.Sublist.append ?_ (qK r)
  cases x with
  | own j z=>exact List.Sublist.refl _
  | giv j z=>exact List.nil_sublist _
  | hand j=>exact List.Sublist.refl _
  | lt j=>exact List.Sublist.refl _
theorem sf {N:Nat->Str} (D:ja N) {f:Nat->V}:∀(r pre:List Nat),(∀j ∈ pre ++ r,j < 18)->(pre ++ r).Nodup->cc (dk N pre f) (dk N r f)=dk N (pre ++ r) f
 | [],pre,_,_=>by rw [List.append_nil];rfl
 | i :: r,pre,hb,nd=>by
  have e:pre ++ i :: r=(pre ++ [i]) ++ r:=by rw [List.append_assoc];rfl
  have m:i ∉ pre:=fun z=>(List.nodup_append.mp nd).2.2 i z i List.mem_cons_self rfl
  have hi:i < 18:=hb i (by simp)
  show cc (putK (dk N pre f) (.inr (N i)) (f i)) (dk N r f)=_
  rw [fg D hi (fun j hj=>hb j (List.mem_append_left _ hj)) m]
  have c:dk N (pre ++ [i]) (rW f i (f i))=dk N (pre ++ [i]) f:=du fun j _=>by
   by_cases z:j=i
   ·rw [z,dA]
   ·rw [fE _ _ z]
  rw [c,e]
  exact sf D r (pre ++ [i]) (by rw [<- e];exact hb) (by rw [<- e];exact nd)
theorem AJ (T:Txt K mg A) (O:E.Ok):Has P w K mg base 1 "ends_of" ["program","cells"] (zI A E):=by
 refine T.uS.has um (fun vs H Q E h=>?_) (fun f' cdv A' outer s' H vs Q E' hr hu h=>?_)
 ·obtain ⟨p,c,hv,xs,hs,f,rfl,_⟩:=h
  rfl
 ·obtain ⟨p,c,hv,xs,hs,f,rfl,R,Z,hc,q⟩:=h
  have hl:=R.l
  refine ⟨_,(ag (aA (bY zO rfl T.pe (by boot_by_name) (aa (kI (N:=["head","cells"]) (own:=1) (fr:=[1]) (df.of (by kernel_rfl!)) rfl (fu (aJ (fv 0) rfl)) (fun b=>pgn (i:=0) (show List.Nodup (["head","cells"]:List PySem.Str) by decide +kernel) rfl) (fun b=>Bs (bU (aG bg rfl T.aB (by boot_by_name) (aa (fv 0) (aa (dH T.bH.mg) af))) (fun _=>rfl))) (fun b=>cx (aa (aJ (fv 0) rfl) (aa (px hu (fv 1) (aJ (fv 0) rfl)) af)))) af)))),?_⟩
  refine ⟨p.pa,_,p.dp,_,_,rfl,R.pr,T.dz.cl,T.eK,rfl,Or.inl ⟨⟨_,SqL.of R.hd⟩,tR (K:=K) (qc A H) (fun x y H2=>∀i z,Hd.own i z ∈ hs->lI A E.N H x (.own i z)->∃t,y=V.ref t/\H2 t=some (.tup [.str (E.N i),f i])) (SqL.of R.hd) (aM (by omega)) (fun b v H2 G hv' s2 k=>?_) (fun b v H2 G hv' hp s2 k=>?_) ?_ ?_ (fun D H2 ys hD s2 e pr=>?_)⟩⟩
  ·obtain ⟨n,hn⟩:=List.getElem?_of_mem hv'
   obtain ⟨h,hh,W⟩:=cw R.h hn
   cases h with
   | hand x =>
    obtain ⟨a,dx,n,rk,rfl,ha⟩:=W
    rw [dZ ha,decide_eq_false (show A.bM ≠ A.bG from av T 2 4)] at k
    exact ⟨_,_,_,false,rfl,(fun z=>by cases z),T.cH.bZ (s2 _ _ ha),(cf T.cH T.bH (av T 4 2) (av T 4 1)),false,rfl,k _ (aj.refl _)⟩
   | giv x z =>
    obtain ⟨a,dx,n,rk,rfl,ha⟩:=W
    rw [dZ ha,decide_eq_false (show A.aX ≠ A.bG from av T 3 4)] at k
    exact ⟨_,_,_,false,rfl,(fun z=>by cases z),T.bh.bZ (s2 _ _ ha),(cf T.bh T.bH (av T 4 3) (av T 4 1)),false,rfl,k _ (aj.refl _)⟩
   | lt x =>
    obtain ⟨a,dx,n,rk,rfl,ha⟩:=W
    rw [dZ ha,decide_eq_false (show A.b9 ≠ A.bG from av T 5 4)] at k
    exact ⟨_,_,_,false,rfl,(fun z=>by cases z),T.dJ.bZ (s2 _ _ ha),(cf T.dJ T.bH (av T 4 5) (av T 4 1)),false,rfl,k _ (aj.refl _)⟩
   | own x z =>
    obtain ⟨a,dx,n,rfl,ha⟩:=W
    rw [dZ ha,decide_eq_true rfl] at k
    exact ⟨_,_,_,true,rfl,(fun z=>by cases z),T.bH.bZ (s2 _ _ ha),lO T.bH,true,rfl,k _ (aj.refl _)⟩
  ·obtain ⟨n,hn⟩:=List.getElem?_of_mem hv'
   obtain ⟨h,hh,W⟩:=cw R.h hn
   cases h with
   | hand x =>
    obtain ⟨a,dx,n,rk,rfl,ha⟩:=W
    rw [dZ ha,decide_eq_false (show A.bM ≠ A.bG from av T 2 4)] at hp
    cases hp
   | giv x z =>
    obtain ⟨a,dx,n,rk,rfl,ha⟩:=W
    rw [dZ ha,decide_eq_false (show A.aX ≠ A.bG from av T 3 4)] at hp
    cases hp
   | lt x =>
    obtain ⟨a,dx,n,rk,rfl,ha⟩:=W
    rw [dZ ha,decide_eq_false (show A.b9 ≠ A.bG from av T 5 4)] at hp
    cases hp
   | own x z =>
    obtain ⟨a,dx,n,rfl,ha⟩:=W
    have xm:x ∈ E.idx:=oe Z x (List.mem_flatMap.mpr ⟨_,List.mem_of_getElem? hh,by simp [Hd.own?]⟩)
    have gd:bu H2 c (.str (E.N x)) (some (f x)):=by
     have:=bu.k (k:=.inr (E.N x)) (s2 _ _ hc)
     rw [eQ O.D O.b xm] at this
     exact this
    refine ⟨a,_,dx,_,_,rfl,s2 _ _ ha,T.bH.cl,T.dD,rfl,a,_,dx,_,_,rfl,s2 _ _ ha,T.bH.cl,T.dD,rfl,_,gd,(show 2 <= sizeLine by decide),fun t ht=>k _ _ (aj.upd ht _) fun i z' im W'=>⟨t,rfl,?_⟩⟩
    obtain ⟨a',dx',n',e',ha'⟩:=W'
    cases e'
    have im':i ∈ E.idx:=oe Z i (List.mem_flatMap.mpr ⟨_,im,by simp [Hd.own?]⟩)
    have ex:E.N x=E.N i:=by
     have h1:=ha.symm.trans ha'
     simp at h1
     exact h1.2.2.1
    rw [aq,O.D x i (O.b x xm) (O.b i im') ex]
  ·rintro x y' H2 H3 s h i z im W'
   obtain ⟨t,e4,e5⟩:=h i z im W'
   exact ⟨t,e4,s _ _ e5⟩
  ·rintro x y' H2 D ys zs hD h i z im W'
   obtain ⟨t,e4,e5⟩:=h i z im W'
   exact ⟨t,e4,by rw [aI (fun z=>by rw [z,hD] at e5;cases e5)];exact e5⟩
  ·have pk:=lJ T (fun _ h=>h) R.h pr
   obtain ⟨ps,e1,e2,e3⟩:=qa (K:=K) pk
   have nd:=O.nd
   rw [Z.e] at nd
   have em:cc [] (dk E.N (ownsOf hs) f)=dk E.N (ownsOf hs) f:=sf O.D (ownsOf hs) [] (fun j hj=>O.b j (oe Z j hj)) ((List.nodup_append.mp nd).1.sublist (qK hs))
   have ll:(ownsOf hs).length <= 1000:=by
    have l1:=(qK hs).length_le
    have l2:=O.len
    rw [Z.e,List.length_append] at l2
    omega
   refine ⟨D,ps,dk E.N (ownsOf hs) f,rfl,by rw [<- e1];exact SqL.of e,by rw [e2,eB];rfl,by rw [eB];exact ll,e3,fun p4 hp4=>q p4 _ (s2.trans (aj.upd hp4 _)) (aj.free s2 hp4) (by rw [aq,em])⟩
end
section
variable {P:Program}{w:World}{K:W.Frag}{mg:Str->Option Value}{base:Heap}{A:Adr}{E:En}
structure oJ (A:Adr) (E:En) (hs:List Hd) (H:Hp) (b db l sd t e:Addr) (la:Nat->Addr) (k:S):Prop where
 hb:H b=some (.ins A.cb db [("letters",.ref l),("said",.ref sd),("trace",.ref t),("steps",.int k.steps),("ends",.ref e)])
 he:H e=some (.dK (dk E.N (ownsOf hs) (cV E la k.num)))
 ht:∃xs,H t=some (.lst xs)/\fK H xs k.trace
 hl:∃xs,H l=some (.lst xs)/\fK H xs k.dI
 hd:∃xs,H sd=some (.lst xs)/\fK H xs k.mf
 ha:∀i ∈ E.ls,H (la i)=some (.lst ((k.lst i).map V.int))
theorem oJ.same {hs:List Hd}{H H':Hp}{b db l sd t e:Addr}{la:Nat->Addr}{k:S} (D:oJ A E hs H b db l sd t e la k) (s:aj H H'):oJ A E hs H' b db l sd t e la k:=by
 obtain ⟨xs,a1,a2⟩:=D.ht
 obtain ⟨ys,b1,b2⟩:=D.hl
 obtain ⟨zs,c1,c2⟩:=D.hd
 exact ⟨s _ _ D.hb,s _ _ D.he,⟨xs,s _ _ a1,a2.same s⟩,⟨ys,s _ _ b1,b2.same s⟩,⟨zs,s _ _ c1,c2.same s⟩,fun i hi=>s _ _ (D.ha i hi)⟩
def xa (A:Adr) (E:En) (f:Nat):Sp:=fun vs H Q _=>∃(p:Pa) (g:Addr) (hv xs:List V) (hs:List Hd) (gn:Nat->Int) (gl:Nat->List Int) (rows:List Rw),vs=[.ref p.pa,.ref g]/\tI A E H p hv hs xs/\Hds E hs/\jt E hs H g gn gl/\Paired (cu A E H f) xs rows/\(∀rw ∈ rows,Wf E f rw)/\(rows.map (aE E f)).sum <= BIG /\
 ∀(b db l sd t e:Addr) (la:Nat->Addr) (H':Hp),aj H H'->oJ A E hs H' b db l sd t e la (aU (doR E f) (S.new E hs gn gl) rows).1->(aU (doR E f) (S.new E hs gn gl) rows).1.ok E->Q (.ref b) H'
theorem xt {hs:List Hd}{H:Hp}{g:Addr}{gn:Nat->Int}{gl:Nat->List Int} (Z:Hds E hs) (G:jt E hs H g gn gl):(S.new E hs gn gl).ok E:=by
 refine ⟨fun a=>?_,fun x n hn=>?_,fun x hx hz=>?_⟩
 ·show In (if isG hs a then gn a else 0)
  split
  ·exact G.n a
  ·exact ⟨by decide,by decide⟩
 ·have hn:n ∈ (if isG hs x then gl x else zeros (E.sz x)):=hn
  split at hn
  ·exact G.l x n hn
  ·rw [List.eq_of_mem_replicate hn]
   exact ⟨by decide,by decide⟩
 ·show (if isG hs x then gl x else zeros (E.sz x)).length=E.sz x
  split
  ·rename_i c
   unfold isG at c
   rw [List.any_eq_true] at c
   obtain ⟨h,hm,e⟩:=c
   cases h with
   | giv j z =>
    have ej:j=x:=of_decide_eq_true e
    subst ej
    obtain ⟨kvs,k1,k2⟩:=G.d
    have ez:=Z.g j z hm
    obtain ⟨l,_,_,e3⟩:=(k2 j z hm).2 (by omega)
    rw [e3,ez]
   | _=>cases e
  ·exact List.length_replicate
theorem Ca (T:Txt K mg A) (O:E.Ok) (f:Nat):Has P w K mg base (3 * f + 9) "run" ["program","gifts"] (xa A E f):=by
 refine T.run.has (k:=3 * f + 8) uN (fun vs H Q E h=>?_) (fun f' cdv A' outer s' H vs Q E' hr hu h=>?_)
 ·obtain ⟨p,g,hv,xs,hs,gn,gl,rows,rfl,_⟩:=h
  rfl
 ·obtain ⟨p,g,hv,xs,hs,gn,gl,rows,rfl,R,Z,G,pr,wf,rm,q⟩:=h
  have D_cells_of:=Ac (P:=P) (w:=w) (base:=base) T O
  have D_Run_init:=tT (P:=P) (w:=w) (base:=base) T O
  have D_do_rows:cR P w K mg base (3 * (f + 1) + 5) A.Run "do_rows" ["self","rows"] (mj A E f):=kH (P:=P) (w:=w) (base:=base) T O (f + 1)
  have D_ends_of:=AJ (P:=P) (w:=w) (base:=base) T O
  refine ⟨_,(ab (aC (i:=2) uN.nd rfl (Or.inl rfl) (bW (hj:=by omega) T.bS D_Run_init hr (aa (fv 0) (aa (ar (hj:=by omega) D_cells_of hr (aa (fv 0) (aa (fv 1) af))) af))))
  (ab (aP (bD (hj:=by omega) (fv 2) T.bS.cl D_do_rows hr (aa (aJ (fv 0) rfl) af)))
  (ab (aC (i:=3) uN.nd rfl (Or.inl rfl) (aJ (fv 2) rfl))
  (ab (bf (fv 3) (ar (hj:=by omega) D_ends_of hr (aa (fv 0) (aa (aJ (fv 2) rfl) af))) rfl)
  (ag (aA (fv 3))))))),?_⟩
  refine ⟨p,g,hv,xs,hs,gn,gl,rfl,R,Z,G,fun c la H1 c0 C=>?_⟩
  have s1:=C.s
  refine fun s ds' hs' hds hne=>?_
  have sm:aj H1 (upd (upd H1 ds' (.own s)) s (.ins A.Run ds' [])):=But.same (But.refl _ _) hs' hds
  have ok0:=xt Z G
  have lsi:∀i ∈ E.ls,i ∈ E.idx/\0 < E.sz i:=fun i hi=>by
   obtain ⟨h1,h2⟩:=List.mem_filter.mp hi
   exact ⟨h1,of_decide_eq_true h2⟩
  refine ⟨s,ds',c,p,hv,xs,hs,la,S.new E hs gn gl,rfl,aq,(R.same s1).same sm,sm _ _ C.hc,fun i hi=>?_,fun i hi j hj e=>C.i i (lsi i hi).1 j (lsi j hj).1 (lsi i hi).2 (lsi j hj).2 e,ok0,rfl,rfl,rfl,rfl,fun d b db sd e t lt H2 b2 nb nt nl nd R2=>⟨rfl,?_⟩⟩
  ·obtain ⟨_,h2,h3⟩:=C.l i (lsi i hi).1 (lsi i hi).2
   exact ⟨h2,sm _ _ h3⟩
  have s12:aj H1 H2:=But.same b2 hs' hds
  have s2:aj H H2:=s1.trans s12
  have b0:=aj.free s1 (gA hs' hds nb)
  have t0:=aj.free s1 (gA hs' hds nt)
  have l0:=aj.free s1 (gA hs' hds nl)
  have d0:=aj.free s1 (gA hs' hds nd)
  have fM:∀x ∈ Ra.M ⟨s,ds',d,c,b,db,sd,e,t,lt,la⟩ E,H x=none:=fun x m=>by
   unfold Ra.M at m
   rcases List.mem_append.mp m with m | m
   ·simp only [List.mem_cons,List.not_mem_nil,or_false] at m
    rcases m with rfl | rfl | rfl | rfl | rfl
    ·exact b0
    ·exact c0
    ·exact t0
    ·exact l0
    ·exact d0
   ·obtain ⟨i,hi,rfl⟩:=List.mem_map.mp m
    exact (C.l i (lsi i hi).1 (lsi i hi).2).1
  have sX:aj H (del (Ra.M ⟨s,ds',d,c,b,db,sd,e,t,lt,la⟩ E) H2):=fun a o h=>aV (fun m=>by rw [fM a m] at h;cases h) (s2 a o h)
  refine ⟨s,ds',_,rfl,R2.s,rfl,p.pa,_,p.dp,_,_,rfl,s2 _ _ R.pr,T.dz.cl,T.gq,rfl,⟨s,ds',d,c,b,db,sd,e,t,lt,la⟩,S.new E hs gn gl,p.mn,xs,rows,rfl,R2,sX _ _ R.mn,Paired.cm pr (fun _ _=>cu.same sX),wf,⟨by show 0 + _ <= _;omega,by show (0:Int) <= 0;decide,by show (0:Int) <= 0;decide,by show (0:Int) <= 0;decide⟩,fun H3 g3 R3=>?_⟩
  have s3:=g3.keep s2 fM
  generalize (aU (doR E f) (S.new E hs gn gl) rows).1=k at R3 q
  refine ⟨s,_,ds',_,_,rfl,R3.s,T.bS.cl,T.gk,rfl,?_⟩
  refine ⟨s,_,ds',_,_,rfl,R3.s,T.bS.cl,T.cM,rfl,p,c,hv,xs,hs,_,rfl,R.same s3,Z,R3.hc,fun e' H4 s4 e0 he4=>?_⟩
  have R4:=R3.same s4
  have hb4:=R4.hb
  obtain ⟨ts,ht,tt⟩:=R4.ht
  obtain ⟨ls,hl,tl⟩:=R4.hl
  obtain ⟨ss,hd,td⟩:=R4.hd
  have ne:=R4.ne
  refine ⟨b,_,db,_,rfl,hb4,T.cq.cl,T.dS,by simp [o4],?_⟩
  have g5:=Go.at (H:=H4) (Ra.inM ⟨s,ds',d,c,b,db,sd,e,t,lt,la⟩ E).1 (.ins A.cb db (cz "ends" (.ref e') (o4 ⟨s,ds',d,c,b,db,sd,e,t,lt,la⟩ k)))
  have st:aj (del (Ra.M ⟨s,ds',d,c,b,db,sd,e,t,lt,la⟩ E) H4) (upd H4 b (.ins A.cb db (cz "ends" (.ref e') (o4 ⟨s,ds',d,c,b,db,sd,e,t,lt,la⟩ k)))):=fun a o h=>ao _ _ (g5.same a o h)
  have eb:e' ≠ b:=fun z=>by rw [z,hb4] at he4;cases he4
  refine q b db lt sd t e' la _ (aj.out (s3.trans s4) b0 _) ⟨aq,ah eb he4,⟨ts,ah ne.bt.symm ht,tt.same st⟩,⟨ls,ah ne.bl.symm hl,tl.same st⟩,⟨ss,ah ne.bd.symm hd,td.same st⟩,fun i hi=>ah (ne.a i hi).1 (R4.ha i hi)⟩ R3.ok
end
section
variable {E:En}{s:S}
theorem map_eq {α β:Type}{g h:α->β}{xs:List α} (hh:∀a ∈ xs,g a=h a):xs.map g=xs.map h:=List.map_congr_left hh
theorem Wf.up:∀{d:Nat}{r:Rw},Wf E d r->Wf E (d + 1) r:=by
 intro d
 induction d with
 | zero=>intro r h;cases r <;> first | exact h | exact h.elim
 | succ d ih =>
  intro r h
  cases r with
  | call n i ts =>
   obtain ⟨h1,h2,D,h3,h4,h5⟩:=h
   exact ⟨h1,h2,D,h3,h4,fun q hq=>ih (h5 q hq)⟩
  | iff n v f o l r =>
   obtain ⟨h1,h2,h3,h4,h5⟩:=h
   exact ⟨h1,h2,h3,fun q hq=>ih (h4 q hq),fun q hq=>ih (h5 q hq)⟩
  | loop n t m b l r =>
   obtain ⟨h1,h2,h3,h4,h5,h6⟩:=h
   exact ⟨h1,h2,h3,h4,h5,fun q hq=>ih (h6 q hq)⟩
  | _=>exact h
theorem zx:∀{d:Nat}{r:Rw},Wf E d r->aE E (d + 1) r=aE E d r:=by
 intro d
 induction d with
 | zero=>intro r h;cases r <;> first | rfl | exact h.elim
 | succ d ih =>
  intro r h
  cases r with
  | call n i ts =>
   obtain ⟨h1,h2,D,h3,h4,h5⟩:=h
   unfold aE
   rw [h3]
   dsimp only
   rw [map_eq fun q hq=>ih (h5 q hq)]
  | iff n v f o l r =>
   obtain ⟨h1,h2,h3,h4,h5⟩:=h
   unfold aE
   rw [map_eq fun q hq=>ih (h4 q hq),map_eq fun q hq=>ih (h5 q hq)]
  | loop n t m b l r =>
   obtain ⟨h1,h2,h3,h4,h5,h6⟩:=h
   unfold aE
   rw [map_eq fun q hq=>ih (h6 q hq)]
  | _=>rfl
theorem Wf.upN {d n:Nat}{r:Rw} (h:Wf E d r):Wf E (d + n) r:=by
 induction n with
 | zero=>exact h
 | succ n ih=>exact ih.up
theorem u9 {d e:Nat} (le:d <= e) {r:Rw} (h:Wf E d r):aE E e r=aE E d r:=by
 obtain ⟨n,rfl⟩:∃n,e=d + n:=⟨e - d,by omega⟩
 clear le
 induction n with
 | zero=>rfl
 | succ n ih=>exact (zx h.upN).trans ih
theorem cu.up {A:Adr}{X:Hp}:∀{d:Nat}{v:V}{r:Rw},cu A E X d v r->cu A E X (d + 1) v r:=by
 intro d
 induction d with
 | zero=>intro v r h;cases r <;> first | exact h | exact h.elim
 | succ d ih =>
  intro v r h
  cases r with
  | call n i ts =>
   obtain ⟨a,dx,p,D,e,h0,h1,h2,da,dy,dn,pp,pb,xs,g0,g1,g2,g3,g4⟩:=h
   exact ⟨a,dx,p,D,e,h0,h1,h2,da,dy,dn,pp,pb,xs,g0,g1,g2,g3,Paired.cm g4 fun _ _=>ih⟩
  | iff n v f o l r =>
   obtain ⟨a,dx,p,pf,po,xf,xo,e,h1,h2,h3,h4,h5,h6⟩:=h
   exact ⟨a,dx,p,pf,po,xf,xo,e,h1,h2,h3,h4,Paired.cm h5 fun _ _=>ih,Paired.cm h6 fun _ _=>ih⟩
  | loop n t m b l r =>
   obtain ⟨a,dx,pb,xb,e,h1,h2,h3⟩:=h
   exact ⟨a,dx,pb,xb,e,h1,h2,Paired.cm h3 fun _ _=>ih⟩
  | _=>exact h
theorem cu.upN {A:Adr}{X:Hp}{d n:Nat}{v:V}{r:Rw} (h:cu A E X d v r):cu A E X (d + n) v r:=by
 induction n with
 | zero=>exact h
 | succ n ih=>exact ih.up
end
section
variable {P:Program}{w:World}{K:W.Frag}{mg:Str->Option Value}{base:Heap}{A:Adr}{E:En}{F:Nat}
theorem Has.ex {ι:Type}{k:Nat}{x:Str}{ps:List Str}{sp:ι->Sp}{p:ι->Prop} (i0:ι) (h0:p i0) (h:∀i,p i->Has P w K mg base k x ps (sp i)):Has P w K mg base k x ps (fun vs H Q E=>∃i,p i/\sp i vs H Q E):=by
 obtain ⟨f,fd,F,b,kp,m,oc,od,osl,lk⟩:=h i0 h0
 have same:∀i,p i->kL P w K mg base CX0 k f fd ps (sp i):=fun i hi=>by
  obtain ⟨f',fd',F',b',kp',m',oc',od',osl',lk'⟩:=h i hi
  have e:f'=f:=by rw [m] at m';cases m';rfl
  subst e
  rw [lk] at lk'
  cases lk'
  exact F'
 exact ⟨f,fd,⟨fun vs H Q E ⟨i,hi,q⟩=>(same i hi).len vs H Q E q,fun A outer s H args us vs Q E hr he hb hv ⟨i,hi,q⟩=>(same i hi).run A outer s H args us vs Q E hr he hb hv q⟩,b,kp,m,oc,od,osl,lk⟩
theorem Has.imp {k:Nat}{x:Str}{ps:List Str}{sp sp':Sp} (h:Has P w K mg base k x ps sp) (i:∀vs H Q E,sp' vs H Q E->sp vs H Q E):Has P w K mg base k x ps sp':=by
 obtain ⟨f,fd,F,b,kp,m,oc,od,osl,lk⟩:=h
 exact ⟨f,fd,⟨fun vs H Q E q=>F.len vs H Q E (i _ _ _ _ q),fun A outer s H args us vs Q E hr he hb hv q=>F.run A outer s H args us vs Q E hr he hb hv (i _ _ _ _ q)⟩,b,kp,m,oc,od,osl,lk⟩
end
section
variable {P:Program}{w:World}{K:W.Frag}{mg:Str->Option Value}{base:Heap}{A:Adr}{E:En}
abbrev LET:Str:="abcdefghijklmnopqrstuvwxyz"
def km (k:Int):Nat:=(97 + k).toNat
theorem uG {k:Int} (h0:0 <= k) (h1:k < 26):atI LET.cps.toList k=some (km k):=by
 obtain ⟨n,rfl⟩:∃n:Nat,k=(n:Int):=⟨k.toNat,by omega⟩
 have h:∀m:Fin 26,atI LET.cps.toList ((m.val:Nat):Int)=some (km ((m.val:Nat):Int)):=by decide +kernel
 exact h ⟨n,by omega⟩
theorem zW {z:Str}{n:Int} (hz:z.length <= 1) (h1:n < 1000):(lZ z n).length <= 1000:=by
 unfold lZ
 split
 ·decide
 ·split
  ·omega
  ·rw [rX]
   have:n.toNat * z.length <= n.toNat * 1:=Nat.mul_le_mul_left _ hz
   omega
theorem sh (x y:Str):(x ++ y).length=x.length + y.length:=by
 show (x.cps ++ y.cps).size=x.cps.size + y.cps.size
 exact Array.size_append
abbrev BZ:Str:="set put send say by if else end loop most idle last call deed main"
abbrev AY:Str:="at over rest hand given own let open house closed"
def oa:List Str:=["set","put","send","say","by","if","else","end","loop","most","idle","last","call","deed","main"]
def oY:List Str:=["at","over","rest","hand","given","own","let","open","house","closed"]
theorem wC:nM BZ " " oa:=⟨by decide +kernel,by decide +kernel,by decide +kernel,by decide +kernel,by decide,by decide +kernel⟩
theorem vL:nM AY " " oY:=⟨by decide +kernel,by decide +kernel,by decide +kernel,by decide +kernel,by decide,by decide +kernel⟩
def words:List Str:=oa ++ oY
theorem tF:words.Nodup:=by decide +kernel
theorem my:words.length=25:=rfl
def nmV (c:Int) (k:Nat):Str :=
 if decide (V.int (c % 4)=V.int 0)=true then words.getD ((c / 4 + k) % 25).toNat Str.empty
 else if decide (V.int (c % 4)=V.int 1)=true then lZ ⟨#[km ((c / 4 + (k:Int) / 8) % 26)]⟩ ((k:Int) % 8 + 1)
 else Txt.slice (lZ ⟨#[km (c / 288 % 26)]⟩ (c / 4 % 8)) none (some (c / 32 % (c / 4 % 8 + 1))) ++ ⟨#[km ((k + c / 7488) % 26)]⟩ ++ Txt.slice (lZ ⟨#[km (c / 288 % 26)]⟩ (c / 4 % 8)) (some (c / 32 % (c / 4 % 8 + 1))) none
theorem pB (c:Nat) {n:Int} (hn:1 <= n):(lZ ⟨#[c]⟩ n).cps.toList=List.replicate n.toNat c:=by
 unfold lZ
 rw [if_neg (by omega)]
 by_cases e:n=1
 ·subst e
  rfl
 ·have h1:¬ (n == 1 || (⟨#[c]⟩:Str).length == 0)=true:=by
   rw [Bool.or_eq_true]
   rintro (h | h)
   ·exact e (eq_of_beq h)
   ·exact absurd h (show ¬ ((1:Nat) == 0)=true by decide)
  rw [if_neg h1]
  have f:∀(m:Nat) (acc:Array Nat),((List.replicate m #[c]).foldl (· ++ ·) acc).toList=acc.toList ++ List.replicate m c:=by
   intro m
   induction m with
   | zero=>intro acc;simp
   | succ m ih =>
    intro acc
    rw [List.replicate_succ,List.foldl_cons,ih,List.replicate_succ]
    simp
  have:=f n.toNat #[]
  simpa using this
theorem sZ {a b:Int} (ha:0 <= a) (hb:0 <= b) (h:km a=km b):a=b:=by
 unfold km at h
 omega
theorem zQ {a b:Str}{x y:Nat} (h:a ++ ⟨#[x]⟩ ++ b=a ++ ⟨#[y]⟩ ++ b):x=y:=by
 have h1:((a.cps ++ #[x]) ++ b.cps).toList=((a.cps ++ #[y]) ++ b.cps).toList:=congrArg (fun z:Str=>z.cps.toList) h
 simp only [Array.toList_append] at h1
 have h2:=List.append_inj_left' h1 rfl
 have h3:=List.append_inj_right h2 rfl
 simpa using h3
theorem nO (c:Int):ja (nmV c):=by
 intro i j hi hj e
 unfold nmV at e
 split at e
 ·have m1:=bK (c / 4 + i) (show (0:Int) < 25 by decide)
  have m2:=bK (c / 4 + j) (show (0:Int) < 25 by decide)
  have b1:((c / 4 + i) % 25).toNat < words.length:=by rw [my];omega
  have b2:((c / 4 + j) % 25).toNat < words.length:=by rw [my];omega
  rw [List.getD_eq_getElem?_getD,List.getD_eq_getElem?_getD,List.getElem?_eq_getElem b1,List.getElem?_eq_getElem b2] at e
  have:=(List.getElem_inj tF).mp (show words[((c / 4 + i) % 25).toNat]=words[((c / 4 + j) % 25).toNat] from e)
  omega
 split at e
 ·have m1:=bK (c / 4 + (i:Int) / 8) (show (0:Int) < 26 by decide)
  have m2:=bK (c / 4 + (j:Int) / 8) (show (0:Int) < 26 by decide)
  have h1:=congrArg (fun z:Str=>z.cps.toList) e
  rw [pB _ (by omega),pB _ (by omega)] at h1
  have h2:=congrArg List.length h1
  rw [List.length_replicate,List.length_replicate] at h2
  obtain ⟨n,hn⟩:∃n,((i:Int) % 8 + 1).toNat=n + 1:=⟨((i:Int) % 8).toNat,by omega⟩
  rw [<- h2,hn,List.replicate_succ,List.replicate_succ] at h1
  have h3:=sZ m1.1 m2.1 (List.cons.inj h1).1
  omega
 ·have m1:=bK ((i:Int) + c / 7488) (show (0:Int) < 26 by decide)
  have m2:=bK ((j:Int) + c / 7488) (show (0:Int) < 26 by decide)
  have h3:=sZ m1.1 m2.1 (zQ e)
  omega
theorem wA {x:Str}{lo hi:Option Int}{c:Nat} (h:c ∈ (Txt.slice x lo hi).cps.toList):c ∈ x.cps.toList:=by
 unfold Txt.slice at h
 split at h
 ·exact h
 ·obtain ⟨i,_,q⟩:=List.mem_filterMap.mp (by simpa using h)
  exact Array.mem_toList_iff.mpr (Array.mem_of_getElem? q)
theorem fz {x:Str}:PyData.strOk x=true ↔ ∀c ∈ x.cps.toList,c < 0x110000:=by
 unfold PyData.strOk
 rw [<- Array.all_toList,List.all_eq_true]
 exact ⟨fun h c hc=>of_decide_eq_true (h c hc),fun h c hc=>decide_eq_true (h c hc)⟩
theorem qE {x:Str} (h:PyData.strOk x=true) (lo hi:Option Int):PyData.strOk (Txt.slice x lo hi)=true:=fz.mpr fun c hc=>fz.mp h c (wA hc)
theorem qC {x y:Str} (h:PyData.strOk x=true) (h2:PyData.strOk y=true):PyData.strOk (x ++ y)=true:=fz.mpr fun c hc=>by
 have e:(x ++ y).cps=x.cps ++ y.cps:=rfl
 rw [e,Array.toList_append] at hc
 rcases List.mem_append.mp hc with q | q
 ·exact fz.mp h c q
 ·exact fz.mp h2 c q
theorem zK {k:Int} (h:k < 26):PyData.strOk ⟨#[km k]⟩=true:=fz.mpr fun c hc=>by
 have e:c=km k:=by simpa using hc
 rw [e]
 unfold km
 omega
theorem uw {k n:Int} (h:k < 26):PyData.strOk (lZ ⟨#[km k]⟩ n)=true:=by
 by_cases hn:1 <= n
 ·refine fz.mpr fun c hc=>?_
  rw [pB _ hn] at hc
  rw [List.eq_of_mem_replicate hc]
  unfold km
  omega
 ·unfold lZ
  rw [if_pos (by omega)]
  decide +kernel
theorem CZ (c:Int) (k:Nat):PyData.strOk (nmV c k)=true:=by
 unfold nmV
 split
 ·have h:∀i:Fin 25,PyData.strOk (words.getD i.val Str.empty)=true:=by decide +kernel
  have:=bK (c / 4 + k) (show (0:Int) < 25 by decide)
  exact h ⟨((c / 4 + k) % 25).toNat,by omega⟩
 have h1:=bK (c / 288) (show (0:Int) < 26 by decide)
 have h2:=bK ((k:Int) + c / 7488) (show (0:Int) < 26 by decide)
 have h3:=bK (c / 4 + (k:Int) / 8) (show (0:Int) < 26 by decide)
 split
 ·exact uw h3.2
 ·exact qC (qC (qE (uw h1.2) _ _) (zK h2.2)) (qE (uw h1.2) _ _)
def y9:Sp:=fun vs H Q _=>∃(c:Int) (k:Nat),vs=[.int c,.int k]/\k <= 100/\∀(H':Hp),aj H H'->Q (.str (nmV c k)) H'
theorem A0 (T:Txt K mg A):Has P w K mg base 1 "_law_name" ["_law_cell","_law_k"] y9:=by
 refine T.sI.has cX (fun vs H Q E h=>?_) (fun f cdv A' outer s H vs Q E hr hu h=>?_)
 ·obtain ⟨c,k,rfl,_⟩:=h
  rfl
 ·obtain ⟨c,k,rfl,h1,q⟩:=h
  unfold nmV at q
  refine ⟨_,(ab (aC (i:=2) cX.nd rfl (Or.inl rfl) ai)
  (ab (aC (i:=3) cX.nd rfl (Or.inl rfl) (aw bF (fv 0) ae))
  (ab (aO (ay (aT hu) (fv 3) ae (az _))
   (ab (aC (i:=4) cX.nd rfl (Or.inl rfl) (m_split ai (aa ai af)))
   (ab (aC (i:=4) cX.nd rfl (Or.inl rfl) (aw bL (fv 4) (m_split ai (aa ai af))))
   (ag (aA (px hu (fv 4) (aw bF (aw bL (aw bT (fv 0) ae) (fv 1)) ae))))))
   aH)
  (ab (aO (ay (aT hu) (fv 3) ae (az _))
   (ag (aA (aw fe (px hu (fv 2) (aw bF (aw bL (aw bT (fv 0) ae) (aw bT (fv 1) ae)) ae)) (aw bL (aw bF (fv 1) ae) ae))))
   aH)
  (ab (aC (i:=5) cX.nd rfl (Or.inl rfl) (aw bF (aw bT (fv 0) ae) ae))
  (ab (aC (i:=6) cX.nd rfl (Or.inl rfl) (aw bF (aw bT (fv 0) ae) (aw bL (fv 5) ae)))
  (ab (aC (i:=7) cX.nd rfl (Or.inl rfl) (aw fe (px hu (fv 2) (aw bF (aw bT (fv 0) ae) ae)) (fv 5)))
  (ag (aA (aw bL (aw bL (eF iu (fv 7) uU (cE (fv 6))) (px hu (fv 2) (aw bF (aw bL (fv 1) (aw bT (fv 0) ae)) ae))) (eF iu (fv 7) (cE (fv 6)) uU))))))))))),?_⟩
  refine ⟨(by show (0:Int) < 4;decide),rfl,_,rfl,?_⟩
  refine aL (fun b1=>?_) (fun b1=>?_)
  ·rw [if_pos b1] at q
   refine ⟨rfl,_,_,oa,rfl,rfl,wC,fun l hl=>?_⟩
   obtain ⟨s1,e1⟩:=alc hl (HO.lst (oa.map V.str))
   generalize upd H l _=H1 at s1 e1 ⊢
   refine ⟨rfl,_,_,oY,rfl,rfl,vL,fun l2 hl2=>?_⟩
   obtain ⟨s2,e2⟩:=alc hl2 (HO.lst (oY.map V.str))
   generalize upd H1 l2 _=H2 at s2 e2 ⊢
   refine ⟨l,l2,_,_,rfl,rfl,s2 _ _ e1,e2,(by decide:25 <= sizeLine),fun l3 hl3=>?_⟩
   obtain ⟨j0,j1⟩:=bK (c / 4 + k) (show (0:Int) < 25 by decide)
   have hk:((c / 4 + k) % 25).toNat < words.length:=by rw [my];omega
   have e:atI (oa.map V.str ++ oY.map V.str) ((c / 4 + k) % 25)=some (.str (words.getD ((c / 4 + k) % 25).toNat Str.empty)):=by
    rw [<- List.map_append]
    have e:=ee (xs:=words.map V.str) (j:=((c / 4 + k) % 25).toNat) (v:=.str (words.getD ((c / 4 + k) % 25).toNat Str.empty)) (by rw [List.getElem?_map,List.getElem?_eq_getElem hk,List.getD_eq_getElem?_getD,List.getElem?_eq_getElem hk];rfl)
    rw [show ((((c / 4 + k) % 25).toNat:Nat):Int)=(c / 4 + k) % 25 by omega] at e
    exact e
   exact ⟨⟨by decide,by decide⟩,(by show (0:Int) < 25;decide),Or.inl ⟨_,_,Or.inl (SqL.of aq),e,q _ ((s1.trans s2).trans (aj.upd hl3 _))⟩⟩
  ·rw [if_neg b1] at q
   refine ⟨rfl,_,rfl,?_⟩
   refine aL (fun b2=>?_) (fun b2=>?_)
   ·rw [if_pos b2] at q
    obtain ⟨j0,j1⟩:=bK (c / 4 + (k:Int) / 8) (show (0:Int) < 26 by decide)
    obtain ⟨m0,m1⟩:=bK (k:Int) (show (0:Int) < 8 by decide)
    exact ⟨⟨by decide,by decide⟩,⟨by decide,by decide⟩,(by show (0:Int) < 26;decide),_,by decide +kernel,uG j0 j1,(by show (0:Int) < 8;decide),by omega,by omega,by show 1 <= 1000;decide,q _ (aj.refl _)⟩
   ·rw [if_neg b2] at q
    obtain ⟨m0,m1⟩:=bK (c / 4) (show (0:Int) < 8 by decide)
    obtain ⟨j0,j1⟩:=bK (c / 288) (show (0:Int) < 26 by decide)
    obtain ⟨i0,i1⟩:=bK (k + c / 7488) (show (0:Int) < 26 by decide)
    have rl:(lZ ⟨#[km (c / 288 % 26)]⟩ (c / 4 % 8)).length <= 1000:=zW (Nat.le_refl _) (by omega)
    refine ⟨⟨by decide,by decide⟩,(by show (0:Int) < 8;decide),⟨by decide,by decide⟩,(by show (0:Int) < c / 4 % 8 + 1;omega),⟨by decide,by decide⟩,(by show (0:Int) < 26;decide),_,by decide +kernel,uG j0 j1,by omega,by omega,by show 1 <= 1000;decide,?_⟩
    have s1:=PySem.Txt.slice_le (lZ ⟨#[km (c / 288 % 26)]⟩ (c / 4 % 8)) none (some (c / 32 % (c / 4 % 8 + 1)))
    have s2:=PySem.Txt.slice_le (lZ ⟨#[km (c / 288 % 26)]⟩ (c / 4 % 8)) (some (c / 32 % (c / 4 % 8 + 1))) none
    refine ⟨_,rfl,sz rl,⟨by decide,by decide⟩,(by show (0:Int) < 26;decide),_,by decide +kernel,uG i0 i1,?_⟩
    refine ⟨Nat.le_trans (m:=1000 + 1) (Nat.add_le_add_right (Nat.le_trans s1 rl) 1) (by decide),_,rfl,sz rl,?_⟩
    refine ⟨?_,q _ (aj.refl _)⟩
    rw [sh]
    exact Nat.le_trans (m:=1000 + 1 + 1000) (Nat.add_le_add (Nat.add_le_add_right (Nat.le_trans s1 rl) 1) (Nat.le_trans s2 rl)) (by decide)
def cellAt (ns:List Int) (k:Int):Int:=if k < (ns.length:Int) then ns.getD k.toNat 0 else 0
theorem AN {ns:List Int}{k:Int} (h0:0 <= k) (h1:k < (ns.length:Int)):atI (ns.map V.int) k=some (.int (ns.getD k.toNat 0)):=by
 have hk:k.toNat < ns.length:=by omega
 have e:=ee (xs:=ns.map V.int) (j:=k.toNat) (v:=.int (ns.getD k.toNat 0)) (by rw [List.getElem?_map,List.getElem?_eq_getElem hk,List.getD_eq_getElem?_getD,List.getElem?_eq_getElem hk];rfl)
 rw [show ((k.toNat:Nat):Int)=k by omega] at e
 exact e
def zc (K:W.Frag):Sp:=fun vs H Q _=>∃(a:Addr) (ns:List Int) (k:Int),vs=[.ref a,.int k]/\SqL K H a (ns.map V.int)/\0 <= k/\Q (.int (cellAt ns k)) H
theorem qW (T:Txt K mg A):Has P w K mg base 1 "_law_cell_at" ["_law_script","_law_k"] (zc K):=by
 refine T.mT.has oE (fun vs H Q E h=>?_) (fun f cdv A' outer s H vs Q E hr hu h=>?_)
 ·obtain ⟨a,ns,k,rfl,_⟩:=h
  rfl
 ·obtain ⟨a,ns,k,rfl,hS,h0,q⟩:=h
  unfold cellAt at q
  have el:(((ns.map V.int).length:Nat):Int)=(ns.length:Int):=by rw [List.length_map]
  refine ⟨_,(ab (aO (ay (yj) (fv 1) (aG dF rfl T.eI (by boot_by_name) (aa (fv 0) af)) (az _))
   (ag (aA (px hu (fv 0) (fv 1))))
   aH)
  (ag (aA ae))),?_⟩
  refine Or.inl ⟨_,_,rfl,Or.inl ⟨_,hS,rfl⟩,_,rfl,?_⟩
  refine aL (fun c=>?_) (fun c=>?_)
  ·have c':k < (((ns.map V.int).length:Nat):Int):=of_decide_eq_true c
   rw [el] at c'
   rw [if_pos c'] at q
   exact Or.inl ⟨_,_,Or.inl hS,AN h0 c',q⟩
  ·have c':¬ k < (((ns.map V.int).length:Nat):Int):=of_decide_eq_false (Bool.eq_false_iff.mpr c)
   rw [el] at c'
   rw [if_neg c'] at q
   exact q
theorem ox:((10:Int) ^ (12:Int).toNat)=1000000000000:=by decide
def wR (z:Int):Nat->Int
 | 0=>z
 | n + 1=>wR z n / 1000000000000
def ue (k:Nat):Int:=([2147483647,998244353,1000000007,999999937]:List Int).getD (k % 4) 2
def CL (c:Int) (k:Nat):Int:=(c % ue k + 7 + (k:Int) * (k:Int)) * 48271 % ue k
def qY (c:Int) (k:Nat):Int:=if 1000000000000 < c / 1000/\c / 1000 % 2=1/\0 < wR (c / 1000 / 2) k then wR (c / 1000 / 2) k % 1000000000000 else CL c k
theorem xW (k:Nat):atI [V.int 2147483647,.int 998244353,.int 1000000007,.int 999999937] ((k:Int) % 4)=some (.int (ue k))/\0 < ue k/\ue k < 2147483648:=by
 have e:(k:Int) % 4=((k % 4:Nat):Int):=by omega
 rw [e]
 unfold ue
 have:k % 4=0 \/ k % 4=1 \/ k % 4=2 \/ k % 4=3:=by omega
 rcases this with h | h | h | h <;> rw [h] <;> exact ⟨rfl,by decide,by decide⟩
theorem uC (c:Int) (k:Nat):In (qY c k):=by
 unfold qY
 split
 ·exact bK _ (by decide)
 ·have:=xW k
  have:=bK ((c % ue k + 7 + (k:Int) * (k:Int)) * 48271) this.2.1
  exact ⟨this.1,by unfold CL;omega⟩
def zh:Sp:=fun vs H Q _=>∃(c:Int) (k:Nat),vs=[.int c,.int k]/\k <= 100/\∀(H':Hp),aj H H'->Q (.int (qY c k)) H'
theorem yb (T:Txt K mg A):Has P w K mg base 1 "_law_mix" ["_law_cell","_law_k"] zh:=by
 refine T.uR.has fB (fun vs H Q E h=>?_) (fun f cdv A' outer s H vs Q E hr hu h=>?_)
 ·obtain ⟨c,k,rfl,_⟩:=h
  rfl
 ·obtain ⟨c,k,rfl,hk,q⟩:=h
  refine ⟨_,(ab (aC (i:=2) fB.nd rfl (Or.inl rfl) (aw bT (fv 0) ae))
  (ab (aO (PW.pt (pw_and (ay (vW) (fv 2) (aw qb ae ae) (az _)) (pw_and1 (ay (aT hu) (aw bF (fv 2) ae) ae (az _)))))
   (ab (aC (i:=2) fB.nd rfl (Or.inl rfl) (aw bT (fv 2) ae))
   (ab (dX PassesOwn.never rfl (gh rfl T.cZ (aa (fv 1) af)) (pgn (i:=3) fB.nd rfl)
    (ag (aC (i:=2) fB.nd rfl (Or.inl rfl) (aw bT (fv 2) (aw qb ae ae)))))
   (ag (aO (ay (vW) (fv 2) ae (az _))
    (ag (aA (aw bF (fv 2) (aw qb ae ae))))
    aH))))
   aH)
  (ab (aC (i:=4) fB.nd rfl (Or.inl rfl) (px hu (bE (aa ae (aa ae (aa ae (aa ae af))))) (aw bF (fv 1) ae)))
  (ag (aA (aw bF (aw fe (aw bL (aw bL (aw bF (fv 0) (fv 4)) ae) (aw fe (fv 1) (fv 1))) ae) (fv 4))))))),?_⟩
  refine ax fun M1 K1=>?_
  refine ⟨⟨by decide,by decide⟩,K1 _ _ ?_⟩
  refine ax fun M2 K2=>?_
  have rest:∀σ:St,¬ (1000000000000 < c / 1000/\c / 1000 % 2=1/\0 < wR (c / 1000 / 2) k)->(∃z z3,σ=[some (.int c),some (.int k),some (.int z),z3,none])->M2 σ H:=by
   rintro σ no ⟨z,z3,rfl⟩
   refine K2 _ _ ?_
   refine ax fun M3 K3=>?_
   refine ⟨(show 4 <= sizeLine by decide),fun l hl=>?_⟩
   obtain ⟨s1,e1⟩:=alc hl (HO.lst [V.int 2147483647,.int 998244353,.int 1000000007,.int 999999937])
   generalize upd H l _=H1 at s1 e1 ⊢
   obtain ⟨hp,p0,p1⟩:=xW k
   refine ⟨(by show (0:Int) < 4;decide),Or.inl ⟨_,_,Or.inl (SqL.of e1),hp,K3 _ _ ?_⟩⟩
   have q1:=q _ s1
   unfold qY at q1
   rw [if_neg no] at q1
   exact ⟨p0,.inl ⟨by omega,by omega⟩,.inr ⟨by decide,by decide⟩,p0,q1⟩
  refine ⟨⟨by decide,by decide,by decide⟩,_,rfl,aL (fun b=>?_) (fun b=>rest _ (fun h=>b (decide_eq_true (by rw [ox];exact h.1))) ⟨_,_,rfl⟩)⟩
  have b1:1000000000000 < c / 1000:=by rw [<- ox];exact of_decide_eq_true b
  refine ⟨(by show (0:Int) < 2;decide),rfl,_,rfl,aL (fun b=>?_) (fun b=>rest _ (fun h=>b (by rw [fW,decide_eq_true_iff];exact h.2.1)) ⟨_,_,rfl⟩)⟩
  have b2:c / 1000 % 2=1:=by rw [fW,decide_eq_true_iff] at b;exact b
  refine ax fun A1 B1=>?_
  refine ⟨⟨by decide,by decide⟩,B1 _ _ ?_⟩
  refine ax fun A2 B2=>?_
  refine ⟨(k:Int),rfl,by omega,by omega,?_⟩
  refine d7 (fun i σ H2=>H2=H/\∃z3,σ=[some (.int c),some (.int k),some (.int (wR (c / 1000 / 2) i)),z3,none]) ⟨rfl,_,rfl⟩ ?_ ?_
  ·rintro i σ H2 hi ⟨rfl,z3,rfl⟩
   exact ⟨⟨by decide,by decide,by decide⟩,⟨by decide,by decide⟩,rfl,_,by rw [ox];rfl⟩
  ·rintro σ H2 ⟨rfl,z3,rfl⟩
   refine B2 _ _ ?_
   refine ⟨_,rfl,aL (fun b=>?_) (fun b=>rest _ (fun h=>b (decide_eq_true h.2.2)) ⟨_,_,rfl⟩)⟩
   have b3:0 < wR (c / 1000 / 2) k:=of_decide_eq_true b
   have q1:=q _ (aj.refl _)
   unfold qY at q1
   rw [if_pos ⟨b1,b2,b3⟩] at q1
   exact ⟨⟨by decide,by decide,by decide⟩,(by show (0:Int) < 10 ^ (12:Int).toNat;decide),by rw [ox];exact q1⟩
def BR:Sp:=fun vs H Q _=>∃(c:Int) (k:Nat),vs=[.int c,.int k]/\k <= 100/\∀(m:Int) (H':Hp),In m->aj H H'->Q (.int m) H'
theorem AE (T:Txt K mg A):Has P w K mg base 1 "_law_mix" ["_law_cell","_law_k"] BR:=Has.imp (yb T) fun vs H Q E ⟨c,k,e,hk,q⟩=>⟨c,k,e,hk,fun H' s=>q _ H' (uC c k) s⟩
def tJ (c:Int):Int:=if c % 3=0 then c / 3 % 5 else if c % 3=1 then 1000000000000 - 1 - c / 3 % 5 else c * c % 1000000000000
theorem cj (c:Int):In (tJ c):=by
 have h5:=bK (c / 3) (show (0:Int) < 5 by decide)
 unfold tJ
 split
 ·exact ⟨h5.1,by omega⟩
 ·split
  ·exact ⟨by omega,by omega⟩
  ·exact bK _ (by decide)
def zH:Sp:=fun vs H Q _=>∃c:Int,vs=[.int c]/\-(2 ^ 64) < c/\c < 2 ^ 64/\Q (.int (tJ c)) H
theorem yE (T:Txt K mg A):Has P w K mg base 1 "_law_number" ["_law_cell"] zH:=by
 refine T.oz.has pW (fun vs H Q E h=>?_) (fun f cdv A' outer s H vs Q E hr hu h=>?_)
 ·obtain ⟨c,rfl,_⟩:=h
  rfl
 ·obtain ⟨c,rfl,c0,c1,q⟩:=h
  unfold tJ at q
  refine ⟨_,(ab (aO (ay (aT hu) (aw bF (fv 0) ae) ae (az _))
   (ag (aA (aw bF (aw bT (fv 0) ae) ae)))
   aH)
  (ab (aO (ay (aT hu) (aw bF (fv 0) ae) ae (az _))
   (ag (aA (aw lN (aw lN (aw qb ae ae) ae) (aw bF (aw bT (fv 0) ae) ae))))
   aH)
  (ag (aA (aw bF (aw fe (fv 0) (fv 0)) (aw qb ae ae)))))),?_⟩
  refine ⟨(by show (0:Int) < 3;decide),rfl,_,rfl,aL (fun b=>?_) (fun b=>?_)⟩
  ·rw [fW,decide_eq_true_iff] at b
   rw [if_pos b] at q
   exact ⟨⟨by decide,by decide⟩,(by show (0:Int) < 5;decide),q⟩
  rw [fW,decide_eq_true_iff] at b
  rw [if_neg b] at q
  refine ⟨(by show (0:Int) < 3;decide),rfl,_,rfl,aL (fun b=>?_) (fun b=>?_)⟩
  ·rw [fW,decide_eq_true_iff] at b
   rw [if_pos b] at q
   exact ⟨⟨by decide,by decide,by decide⟩,⟨by decide,by decide⟩,(by show (0:Int) < 5;decide),by rw [ox];exact q⟩
  ·rw [fW,decide_eq_true_iff] at b
   rw [if_neg b] at q
   exact ⟨.inl ⟨c0,c1⟩,⟨by decide,by decide,by decide⟩,(by show (0:Int) < 10 ^ (12:Int).toNat;decide),by rw [ox];exact q⟩
def vN:Sp:=fun vs H Q _=>∃c:Int,vs=[.int c]/\-(2 ^ 64) < c/\c < 2 ^ 64/\∀n,In n->Q (.int n) H
theorem xH (T:Txt K mg A):Has P w K mg base 1 "_law_number" ["_law_cell"] vN:=Has.imp (yE T) fun vs H Q E ⟨c,e,c0,c1,q⟩=>⟨c,e,c0,c1,q _ (cj c)⟩
def tL (E:En) (th:List Nat):Prop:=th ≠ []/\∀i ∈ th,i ∈ E.idx/\E.sz i=0
abbrev stV (E:En) (th:List Nat):List V:=th.map fun i=>V.str (E.N i)
def xp (K:W.Frag) (E:En):Sp:=fun vs H Q _=>∃(n:Int) (l:Addr) (th:List Nat),vs=[.int n,.ref l]/\In n/\SqL K H l (stV E th)/\tL E th/\∀t:Th,t.ok E->Q (t.v E.N) H
theorem rB (T:Txt K mg A):Has P w K mg base 2 "_law_thing" ["_law_number_here","_law_things"] (xp K E):=by
 have D_law_number:=xH (P:=P) (w:=w) (base:=base) T
 refine T.qm.has (k:=1) rD (fun vs H Q E h=>?_) (fun f cdv A' outer s H vs Q E' hr hu h=>?_)
 ·obtain ⟨n,l,th,rfl,_⟩:=h
  rfl
 ·obtain ⟨n,l,th,rfl,⟨n0,n1⟩,hl,⟨h0,hth⟩,q⟩:=h
  have h0':0 < th.length:=List.length_pos_iff.mpr h0
  refine ⟨_,(ab (aO (ay (vW) (aw bF (fv 0) ae) ae (az _))
   (ag (aA (px hu (fv 1) (aw bF (aw bT (fv 0) ae) (aG dF rfl T.eI (by boot_by_name) (aa (fv 1) af))))))
   aH)
  (ab (aO (ay (aT hu) (aw bF (aw bT (fv 0) ae) ae) ae (az _))
   (ag (aA (ar D_law_number hr (aa (aw bT (fv 0) ae) af))))
   aH)
  (ag (aA (aw bF (aw bT (fv 0) ae) ae))))),?_⟩
  refine ⟨(by show (0:Int) < 3;decide),_,rfl,aL (fun b=>?_) (fun b=>?_)⟩
  ·have e:(((stV E th).length:Nat):Int)=(th.length:Int):=by rw [List.length_map]
   have m:=bK (n / 3) (show (0:Int) < (th.length:Int) by omega)
   obtain ⟨x,hx,_,ha⟩:=oQ (fun i=>V.str (E.N i)) m.1 m.2
   exact ⟨⟨by decide,by decide⟩,Or.inl ⟨_,_,rfl,Or.inl ⟨_,hl,rfl⟩,(by rw [e];omega),Or.inl ⟨_,_,Or.inl hl,by rw [e];exact ha,q (.x x) (hth x hx)⟩⟩⟩
  ·refine ⟨⟨by decide,by decide⟩,(by show (0:Int) < 4;decide),rfl,_,rfl,aL (fun b=>?_) (fun b=>?_)⟩
   ·exact ⟨⟨by decide,by decide⟩,_,rfl,by omega,by omega,fun m hm=>q (.i m) hm⟩
   ·exact ⟨⟨by decide,by decide⟩,(by show (0:Int) < 4;decide),q (.i _) (by have:=bK (n / 12) (show (0:Int) < 4 by decide);exact ⟨this.1,by omega⟩)⟩
def yd (K:W.Frag) (E:En):Sp:=fun vs H Q _=>∃(n:Int) (l ll:Addr) (th:List Nat) (x y:Nat),vs=[.int n,.ref l,.ref ll]/\In n/\SqL K H l (stV E th)/\tL E th/\H ll=some (.lst [.str (E.N x),.str (E.N y)])/\x ∈ E.ls/\y ∈ E.ls/\∀(p:Addr) (val:Val) (H':Hp),val.ok E->aj H H'->H p=none->H' p=some (.tup (vV E.N val))->Q (.ref p) H'
theorem vz (T:Txt K mg A):Has P w K mg base 3 "_law_value" ["_law_number_here","_law_things","_law_lists"] (yd K E):=by
 have D_law_thing:=rB (P:=P) (w:=w) (base:=base) (E:=E) T
 refine T.qx.has (k:=2) jf (fun vs H Q E h=>?_) (fun f cdv A' outer s H vs Q E' hr hu h=>?_)
 ·obtain ⟨n,l,ll,th,x,y,rfl,_⟩:=h
  rfl
 ·obtain ⟨n,l,ll,th,x,y,rfl,⟨n0,n1⟩,hl,hth,hll,hx,hy,q⟩:=h
  have lm:∀i ∈ E.ls,i ∈ E.idx/\0 < E.sz i:=fun i hi=>by
   obtain ⟨h1,h2⟩:=List.mem_filter.mp hi
   exact ⟨h1,of_decide_eq_true h2⟩
  refine ⟨_,(ab (aC (i:=3) jf.nd rfl (Or.inl rfl) (ar D_law_thing hr (aa (aw bT (fv 0) ae) (aa (fv 1) af))))
  (ab (aC (i:=4) jf.nd rfl (Or.inl rfl) (ar D_law_thing hr (aa (aw bT (fv 0) ae) (aa (fv 1) af))))
  (ab (aO (ay (aT hu) (aw bF (fv 0) ae) ae (az _))
   (ag (aA (cx (aa (fv 3) af))))
   aH)
  (ab (aO (ay (aT hu) (aw bF (fv 0) ae) ae (az _))
   (ag (aA (cx (aa (px hu (fv 2) (aw bF (aw bT (fv 0) ae) ae)) (aa ai (aa (fv 4) af))))))
   aH)
  (ag (aA (cx (aa (fv 3) (aa (px hu (bE (aa ai (aa ai (aa ai (aa ai (aa ai (aa ai (aa ai af)))))))) (aw bF (aw bT (fv 0) ae) ae)) (aa (fv 4) af)))))))))),?_⟩
  refine ⟨⟨by decide,by decide⟩,_,l,th,rfl,⟨by omega,by omega⟩,hl,hth,fun a ha=>?_⟩
  refine ⟨⟨by decide,by decide⟩,_,l,th,rfl,⟨by omega,by omega⟩,hl,hth,fun b hb=>?_⟩
  refine ⟨(by show (0:Int) < 4;decide),rfl,_,rfl,aL (fun _=>?_) (fun _=>?_)⟩
  ·exact ⟨by show 1 <= sizeLine;decide,fun p hp=>q p (.one a) _ ha (aj.upd hp _) hp aq⟩
  refine ⟨(by show (0:Int) < 4;decide),rfl,_,rfl,aL (fun _=>?_) (fun _=>?_)⟩
  ·have m:=bK (n / 4) (show (0:Int) < 2 by decide)
   obtain ⟨z,ez,hz⟩:∃z,atI [V.str (E.N x),.str (E.N y)] (n / 4 % 2)=some (.str (E.N z))/\z ∈ E.ls:=by
    have:n / 4 % 2=0 \/ n / 4 % 2=1:=by omega
    rcases this with e | e <;> rw [e]
    ·exact ⟨x,rfl,hx⟩
    ·exact ⟨y,rfl,hy⟩
   refine ⟨⟨by decide,by decide⟩,(by show (0:Int) < 2;decide),Or.inl ⟨_,_,Or.inl (SqL.of hll),ez,?_⟩⟩
   exact ⟨by show 3 <= sizeLine;decide,fun p hp=>q p (.atl z b) _ ⟨(lm z hz).1,(lm z hz).2,hb⟩ (aj.upd hp _) hp aq⟩
  ·refine ⟨by show 7 <= sizeLine;decide,fun lo hlo=>?_⟩
   obtain ⟨s1,e1⟩:=alc hlo (HO.lst [V.str "+",.str "-",.str "*",.str "over",.str "rest",.str "<",.str "="])
   generalize upd H lo _=H1 at s1 e1 ⊢
   have m:=bK (n / 4) (show (0:Int) < 7 by decide)
   obtain ⟨z,hz,_,ez⟩:=oQ V.str (xs:=opW) m.1 m.2
   refine ⟨⟨by decide,by decide⟩,(by show (0:Int) < 7;decide),Or.inl ⟨_,_,Or.inl (SqL.of e1),ez,?_⟩⟩
   exact ⟨by show 3 <= sizeLine;decide,fun p hp=>q p (.op a z b) _ ⟨ha,hb,hz⟩ (s1.trans (aj.upd hp _)) (aj.free s1 hp) aq⟩
end
section
variable {P:Program}{w:World}{K:W.Frag}{mg:Str->Option Value}{base:Heap}{A:Adr}{E:En}{mo:Nat->Int}{ex:Nat->Option Int}
def New (H H':Hp):Hp:=fun a=>match H a with
 | none=>H' a
 | some _=>none
theorem New.of {H H':Hp}{a:Addr}{o:HO} (h:H a=none) (e:H' a=some o):New H H' a=some o:=by
 unfold New
 rw [h]
 exact e
theorem New.get {H H':Hp}{a:Addr}{o:HO} (h:New H H' a=some o):H a=none/\H' a=some o:=by
 unfold New at h
 split at h
 ·exact ⟨by assumption,h⟩
 ·cases h
def Dm (H H':Hp):Prop:=∀a,H' a=none->H a=none
theorem Dm.new {H H':Hp} (s:aj H H'):Dm H H':=fun a e=>by
 cases h:H a with
 | none=>rfl
 | some o=>rw [s a o h] at e;cases e
theorem New.up {H H1 H':Hp} (h:Dm H H1):aj (New H1 H') (New H H'):=fun a o e=>by
 obtain ⟨e1,e2⟩:=New.get e
 exact New.of (h a e1) e2
theorem New.on {H H1 H2:Hp} (s:aj H1 H2):aj (New H H1) (New H H2):=fun a o e=>by
 obtain ⟨e1,e2⟩:=New.get e
 exact New.of e1 (s a o e2)
theorem New.go {M:List Addr}{H H1 H2:Hp} (g:Go M H1 M H2) (m:∀a ∈ M,H a ≠ none):aj (New H H1) (New H H2):=fun a o e=>by
 obtain ⟨e1,e2⟩:=New.get e
 exact New.of e1 (g.o a o (fun z=>m a z e1) e2)
theorem Go.out {M:List Addr}{H H1:Hp} (g:Go M H M H1) {x:Addr} (h:H x=none) (u:HO):Go M H M (upd H1 x u):=⟨fun a o m e=>by
 rw [aI (fun z=>by rw [z,h] at e;cases e)]
 exact g.o a o m e,g.m⟩
def nmD (i:Nat):Nat:=13 + 2 * i
def aZ (N:Nat->Str) (X:Hp):Nat->V->Rw->Prop
 | _,v,.set n x val=>∃a p,v=.ref a/\X a=some (.tup [.int n,.str "set",.str (N x),.ref p])/\X p=some (.tup (vV N val))
 | _,v,.put n x pl val=>∃a p,v=.ref a/\X a=some (.tup [.int n,.str "put",.str (N x),pl.v N,.ref p])/\X p=some (.tup (vV N val))
 | _,v,.snd n h val=>∃a p,v=.ref a/\X a=some (.tup [.int n,.str "send",.str (N h),.ref p])/\X p=some (.tup (vV N val))
 | _,v,.say n x val m=>∃a p,v=.ref a/\X a=some (.tup [.int n,.str "say",.str (N x),.ref p,.str (N m)])/\X p=some (.tup (vV N val))
 | _,v,.last n=>∃a,v=.ref a/\X a=some (.tup [.int n,.str "last"])
 | _,v,.call n i ts=>∃a p,v=.ref a/\X a=some (.tup [.int n,.str "call",.str (N (nmD i)),.ref p])/\X p=some (.lst (ts.map (Th.v N)))
 | d + 1,v,.iff n val f o l r=>∃a p pf po xf xo,v=.ref a/\X a=some (.tup [.int n,.str "if",.ref p,.ref pf,.ref po,.int l,.int r])/\X p=some (.tup (vV N val))/\X pf=some (.lst xf)/\X po=some (.lst xo)/\Paired (aZ N X d) xf f/\Paired (aZ N X d) xo o
 | d + 1,v,.loop n t m b l r=>∃a pb xb,v=.ref a/\X a=some (.tup [.int n,.str "loop",t.v N,.int m,.ref pb,.int l,.int r])/\X pb=some (.lst xb)/\Paired (aZ N X d) xb b
 | 0,_,.iff _ _ _ _ _ _=>False
 | 0,_,.loop _ _ _ _ _ _=>False
theorem aZ.same {N:Nat->Str}{X X':Hp} (s:aj X X'):∀{d:Nat}{v:V}{r:Rw},aZ N X d v r->aZ N X' d v r:=by
 have leafs:∀{d:Nat}{v:V}{r:Rw},(∀n v f o l q,r ≠ .iff n v f o l q)->(∀n t m b l q,r ≠ .loop n t m b l q)->aZ N X d v r->aZ N X' d v r:=by
  intro d v r i1 i2 h
  cases r with
  | iff n v f o l r=>exact absurd rfl (i1 _ _ _ _ _ _)
  | loop n t m b l r=>exact absurd rfl (i2 _ _ _ _ _ _)
  | last n=>cases d <;> (obtain ⟨a,e,h1⟩:=h;exact ⟨a,e,s _ _ h1⟩)
  | _=>cases d <;> (obtain ⟨a,p,e,h1,h2⟩:=h;exact ⟨a,p,e,s _ _ h1,s _ _ h2⟩)
 intro d
 induction d with
 | zero =>
  intro v r h
  cases r with
  | iff n v f o l r=>exact h.elim
  | loop n t m b l r=>exact h.elim
  | _=>exact leafs (fun _ _ _ _ _ _ z=>by cases z) (fun _ _ _ _ _ _ z=>by cases z) h
 | succ d ih =>
  intro v r h
  cases r with
  | iff n v f o l r =>
   obtain ⟨a,p,pf,po,xf,xo,e,h1,h2,h3,h4,h5,h6⟩:=h
   exact ⟨a,p,pf,po,xf,xo,e,s _ _ h1,s _ _ h2,s _ _ h3,s _ _ h4,Paired.cm h5 fun _ _=>ih,Paired.cm h6 fun _ _=>ih⟩
  | loop n t m b l r =>
   obtain ⟨a,pb,xb,e,h1,h2,h3⟩:=h
   exact ⟨a,pb,xb,e,s _ _ h1,s _ _ h2,Paired.cm h3 fun _ _=>ih⟩
  | _=>exact leafs (fun _ _ _ _ _ _ z=>by cases z) (fun _ _ _ _ _ _ z=>by cases z) h
def WfL (E:En) (kn:Nat):Nat->Rw->Prop
 | _,.set _ x v=>x ∈ E.idx/\E.sz x=0/\v.ok E
 | _,.put _ x p v=>x ∈ E.idx/\0 < E.sz x/\p.ok E/\v.ok E
 | _,.snd _ _ v=>v.ok E
 | _,.say _ x v _=>x ∈ E.idx/\E.sz x=0/\v.ok E
 | _,.last _=>True
 | _,.call _ i ts=>i < kn/\ts.length=i + 1/\∀t ∈ ts,t.ok E
 | d + 1,.iff _ v f o l r=>v.ok E/\0 <= l/\0 <= r/\f.length <= 1000/\o.length <= 1000/\(∀q ∈ f,WfL E kn d q)/\∀q ∈ o,WfL E kn d q
 | d + 1,.loop _ t m b l r=>t.ok E/\0 <= m/\m <= 1000/\0 <= l/\0 <= r/\b.length <= 1000/\∀q ∈ b,WfL E kn d q
 | 0,.iff _ _ _ _ _ _=>False
 | 0,.loop _ _ _ _ _ _=>False
def jn (a b:Int):Int:=if a < b then b else a
def cD (mo:Nat->Int):Nat->Rw->Int
 | _,.call _ i _=>1 + mo i
 | d + 1,.iff _ _ f o l r=>1 + jn ((f.map (cD mo d)).sum + l) ((o.map (cD mo d)).sum + r)
 | d + 1,.loop _ _ m b l r=>1 + m * jn ((b.map (cD mo d)).sum + l) r
 | _,_=>1
structure La where
 S:Addr
 ln:Addr
 lm:Addr
 lo:Addr
 lk:Addr
 lt:Addr
 ll:Addr
 gQ:List Int
 kn:Nat
 th:List Nat
structure Dy where
 row:Int
 marks:List Nat
 cells:List Int
def La.M (s:La):List Addr:=[s.S,s.lm,s.ll]
def stK (s:La) (row:Int):List (Key × V):=[(.inr "names",.ref s.ln),(.inr "row",.int row),(.inr "marks",.ref s.lm),(.inr "mosts",.ref s.lo),(.inr "known",.ref s.lk),(.inr "things",.ref s.lt),(.inr "cells",.ref s.ll)]
def KnV (N:Nat->Str) (X:Hp) (v:V) (i:Nat):Prop:=∃p,v=.ref p/\X p=some (.tup [.str (N (nmD i)),.int ((i + 1:Nat):Int)])
abbrev nmL (N:Nat->Str):List V:=(List.range 18).map fun i=>V.str (N i)
structure Ae (E:En) (mo:Nat->Int) (ex:Nat->Option Int) (X:Hp) (s:La):Prop where
 hn:X s.ln=some (.lst (nmL E.N))
 ho:X s.lo=some (.lst (s.gQ.map V.int))
 hk:∃kv,X s.lk=some (.lst kv)/\Paired (KnV E.N X) kv (List.range s.kn)
 ht:X s.lt=some (.lst (stV E s.th))
theorem Ae.same {X X':Hp}{s:La} (z:aj X X') (h:Ae E mo ex X s):Ae E mo ex X' s:=by
 obtain ⟨kv,k1,k2⟩:=h.hk
 exact ⟨z _ _ h.hn,z _ _ h.ho,⟨kv,z _ _ k1,Paired.cm k2 fun _ _ ⟨p,e,q⟩=>⟨p,e,z _ _ q⟩⟩,z _ _ h.ht⟩
structure Dyn (E:En) (H:Hp) (s:La) (y:Dy):Prop where
 hS:H s.S=some (.dK (stK s y.row))
 hm:H s.lm=some (.lst (stV E y.marks))
 hc:H s.ll=some (.lst (y.cells.map V.int))
theorem Dyn.same {H H':Hp}{s:La}{y:Dy} (z:aj H H') (h:Dyn E H s y):Dyn E H' s y:=⟨z _ _ h.hS,z _ _ h.hm,z _ _ h.hc⟩
structure nE (E:En) (s:La):Prop where
 n1:s.S ≠ s.lm
 n2:s.S ≠ s.ll
 n3:s.lm ≠ s.ll
 D:ja E.N
 ok:∀i,PyData.strOk (E.N i)=true
 th:tL E s.th
 t3:3 < s.th.length
 kn:s.kn <= 2
 l5:5 ∈ E.ls
 l9:9 ∈ E.ls
 ms:∀m ∈ s.gQ,1 <= m/\m <= 4
 ml:s.gQ.length <= 2
structure dg (E:En) (mo:Nat->Int) (ex:Nat->Option Int) (H:Hp) (s:La) (y:Dy):Prop where
 st:Ae E mo ex (del s.M H) s
 dy:Dyn E H s y
variable {H H':Hp}{s:La}{y:Dy}
theorem dg.same (z:aj H H') (h:dg E mo ex H s y):dg E mo ex H' s y:=⟨h.st.same (Go.new (M:=s.M) z).same,h.dy.same z⟩
theorem dg.go {y':Dy} (h:dg E mo ex H s y) (g:Go s.M H s.M H') (d:Dyn E H' s y'):dg E mo ex H' s y':=⟨h.st.same g.same,d⟩
theorem dg.al (h:dg E mo ex H s y):∀a ∈ s.M,H a ≠ none:=fun a m e=>by
 rcases List.mem_cons.mp m with rfl | m
 ·rw [h.dy.hS] at e;cases e
 rcases List.mem_cons.mp m with rfl | m
 ·rw [h.dy.hm] at e;cases e
 rcases List.mem_cons.mp m with rfl | m
 ·rw [h.dy.hc] at e;cases e
 ·cases m
theorem inS (s:La):s.S ∈ s.M:=List.mem_cons_self
theorem inm (s:La):s.lm ∈ s.M:=List.mem_cons_of_mem _ List.mem_cons_self
theorem BW (s:La):s.ll ∈ s.M:=List.mem_cons_of_mem _ (List.mem_cons_of_mem _ List.mem_cons_self)
theorem dg.row (O:nE E s) (h:dg E mo ex H s y) (n:Int):dg E mo ex (upd H s.S (.dK (stK s n))) s { y with row:=n }:=h.go (Go.at (inS s) _) ⟨aq,ah O.n1.symm h.dy.hm,ah O.n2.symm h.dy.hc⟩
theorem dg.mark (O:nE E s) (h:dg E mo ex H s y) (ms:List Nat):dg E mo ex (upd H s.lm (.lst (stV E ms))) s { y with marks:=ms }:=h.go (Go.at (inm s) _) ⟨ah O.n1 h.dy.hS,aq,ah O.n3.symm h.dy.hc⟩
theorem dg.cell (O:nE E s) (h:dg E mo ex H s y) (cs:List Int):dg E mo ex (upd H s.ll (.lst (cs.map V.int))) s { y with cells:=cs }:=h.go (Go.at (BW s) _) ⟨ah O.n2 h.dy.hS,ah O.n3 h.dy.hm,aq⟩
theorem dg.dm (h:dg E mo ex H s y) (g:Go s.M H s.M H') {y':Dy} (h':dg E mo ex H' s y'):Dm H H':=fun a e=>by
 cases q:H a with
 | none=>rfl
 | some o =>
  by_cases m:a ∈ s.M
  ·exact absurd e (h'.al a m)
  ·rw [g.o a o m q] at e;cases e
def knD (N:Nat->Str) (i:Nat):PyData:=.tuple [.str (N (nmD i)),.int ((i + 1:Nat):Int)]
theorem yQ {X:Hp} (z:aj X H) {N:Nat->Str}:∀{kv:List V}{ki:List Nat},Paired (KnV N X) kv ki->dN K H kv (ki.map (knD N))
 | _,_,.nil=>.nil
 | _,_,.cons ⟨t,e,h⟩ r=>by
  subst e
  exact .cons (.tup (SqT.of (z _ _ h)) (.cons (.str _) (.cons (.int _) .nil))) (yQ z r)
theorem vZ (O:nE E s):SeqAt.shaped (.list ((List.range s.kn).map (knD E.N)))=true:=by
 have:s.kn=0 \/ s.kn=1 \/ s.kn=2:=by have:=O.kn;omega
 rcases this with e | e | e <;> rw [e] <;> simp [List.range_succ,knD,SeqAt.shaped,PyData.canLay0,PyData.canLayAll0,PyData.depth,PyData.depthAll,O.ok]
end
section
variable {P:Program}{w:World}{K:W.Frag}{mg:Str->Option Value}{base:Heap}{A:Adr}{E:En}{mo:Nat->Int}{ex:Nat->Option Int}
seal PE PA PS PSs PT PW
def kinds:List Str:=["set","set","put","send","send","say","if","if","loop","loop","last","call","close","close"]
theorem bj {x y:Str} (h:decide (V.str x=V.str y)=true):x=y:=by
 have:=of_decide_eq_true h
 cases this
 rfl
theorem fD {x y:Str} (h:¬ decide (V.str x=V.str y)=true):x ≠ y:=fun e=>h (by rw [e];exact decide_eq_true rfl)
def Ag (E:En) (mo:Nat->Int) (ex:Nat->Option Int):Sp:=fun vs H Q _=>∃(s:La) (y:Dy) (c:Int) (dp lp:Nat),vs=[.ref s.S,.int c,.int dp,.int lp]/\nE E s/\dg E mo ex H s y /\
 ∀(x:Str) H',aj H H'->(x="if"->dp <= 3)->(x="loop"->dp <= 3/\lp < s.gQ.length)->(x="call"->0 < s.kn)->Q (.str x) H'
theorem AW (T:Txt K mg A):Has P w K mg base 1 "_law_kind" ["_law_state","_law_cell","_law_deep","_law_loops"] (Ag E mo ex):=by
 refine T.sQ.has kC (fun vs H Q E h=>?_) (fun f cdv A' outer s H vs Q E' hr hu h=>?_)
 ·obtain ⟨s,y,c,dp,lp,rfl,_⟩:=h
  rfl
 ·obtain ⟨s,y,c,dp,lp,rfl,O,L,q⟩:=h
  refine ⟨_,(ab (aC (i:=4) kC.nd rfl (Or.inl rfl) (bE (aa ai (aa ai (aa ai (aa ai (aa ai (aa ai (aa ai (aa ai (aa ai (aa ai (aa ai (aa ai (aa ai (aa ai af))))))))))))))))
  (ab (aC (i:=5) kC.nd rfl (Or.inl rfl) (px hu (fv 4) (aw bF (fv 1) ae)))
  (ab (aO (PW.pt (pw_or (PW.pt (pw_and (ay (aT hu) (fv 5) ai (az _)) (pw_and1 (ay (aT hu) (fv 2) ae (az _))))) (pw_or (PW.pt (pw_and (ay (aT hu) (fv 5) ai (az _)) (pw_and1 (ay (vW) (fv 2) ae (az _))))) (pw_or1 (PW.pt (pw_and (ay (aT hu) (fv 5) ai (az _)) (pw_and1 (ay (aT hu) (fv 3) ae (az _)))))))))
   (ag (aA ai))
   aH)
  (ab (aO (PW.pt (pw_and (ay (aT hu) (fv 5) ai (az _)) (pw_and1 (PW.pt (pw_or (ay (vW) (fv 2) ae (az _)) (pw_or1 (ay (Eg) (fv 3) (aG dF rfl T.eI (by boot_by_name) (aa (px hu (fv 0) ai) af)) (az _))))))))
   (ag (aA ai))
   aH)
  (ab (aO (PW.pt (pw_and (ay (aT hu) (fv 5) ai (az _)) (pw_and1 (PW.pt (pw_or (ay (aT hu) (px hu (fv 0) ai) (bE af) (az _)) (pw_or1 (ay (vW) (fv 3) ae (az _))))))))
   (ag (aA ai))
   aH)
  (ag (aA (fv 5)))))))),?_⟩
  refine ⟨by show 14 <= sizeLine;decide,fun lo hlo=>?_⟩
  have s1:=aj.upd hlo (HO.lst (kinds.map V.str))
  have e1:(upd H lo (HO.lst (kinds.map V.str))) lo=some (.lst (kinds.map V.str)):=aq
  change xk _ _ _ _ (upd H lo (HO.lst (kinds.map V.str)))
  generalize upd H lo (HO.lst (kinds.map V.str))=H1 at s1 e1 ⊢
  have L1:=L.same s1
  have m:=bK c (show (0:Int) < 14 by decide)
  obtain ⟨x,hx,_,ex'⟩:=oQ V.str (xs:=kinds) m.1 m.2
  refine ⟨(by show (0:Int) < 14;decide),Or.inl ⟨_,_,Or.inl (SqL.of e1),ex',?_⟩⟩
  dsimp only
  refine ax fun M1 K1=>?_
  have set:∀H2,aj H H2->Q (.str "set") H2:=fun H2 s2=>q _ _ s2 (fun z=>absurd z (by decide)) (fun z=>absurd z (by decide)) (fun z=>absurd z (by decide))
  have fin:(x="if"->dp <= 3)->M1 [some (.ref s.S),some (.int c),some (.int dp),some (.int lp),some (.ref lo),some (.str x)] H1:=fun z1=>K1 _ _ (by
   refine ax fun M2 K2=>?_
   have fin2:(x="loop"->dp <= 3/\lp < s.gQ.length)->M2 [some (.ref s.S),some (.int c),some (.int dp),some (.int lp),some (.ref lo),some (.str x)] H1:=fun z2=>K2 _ _ (by
    refine ax fun M3 K3=>?_
    have fin3:(x="call"->0 < s.kn)->∀H2,aj H H2->M3 [some (.ref s.S),some (.int c),some (.int dp),some (.int lp),some (.ref lo),some (.str x)] H2:=fun z3 H2 s2=>K3 _ _ (q x H2 s2 z1 z2 z3)
    refine ⟨rfl,_,rfl,aL (fun a=>?_) (fun a=>bw (fin3 (fun z=>absurd z (fD a)) _ s1))⟩
    refine ⟨_,bu.k (k:=.inr "known") L1.dy.hS,Nat.zero_le _,fun l hl=>?_⟩
    obtain ⟨s2,e2⟩:=alc hl (HO.lst [])
    generalize upd H1 l _=H2 at s2 e2 ⊢
    obtain ⟨kv,k1,k2⟩:=L1.st.hk
    refine Or.inl (Or.inl ⟨_,_,.lst (SqL.of (s2 _ _ (ao _ _ k1))) (yQ (ao.trans s2) k2),.lst (SqL.of e2) .nil,vZ O,rfl,_,rfl,?_⟩)
    cases e:s.kn with
    | zero=>exact cU (cU (q "send" _ (s1.trans s2) (fun z=>absurd z (by decide)) (fun z=>absurd z (by decide)) (fun z=>absurd z (by decide))))
    | succ n =>
     rw [List.range_succ_eq_map]
     exact bw ⟨_,rfl,aL (fun b=>q "send" _ (s1.trans s2) (fun z=>absurd z (by decide)) (fun z=>absurd z (by decide)) (fun z=>absurd z (by decide))) (fun b=>fin3 (fun _=>by omega) _ (s1.trans s2))⟩)
   refine ⟨rfl,_,rfl,aL (fun a=>?_) (fun a=>bw (fin2 (fun z=>absurd z (fD a))))⟩
   have put:∀H2,aj H H2->Q (.str "put") H2:=fun H2 s2=>q _ _ s2 (fun z=>absurd z (by decide)) (fun z=>absurd z (by decide)) (fun z=>absurd z (by decide))
   refine ⟨_,rfl,aL (fun b=>cU (put _ s1)) (fun b=>?_)⟩
   have hb:¬ (3:Int) < dp:=fun z=>b (decide_eq_true z)
   refine ⟨_,bu.k (k:=.inr "mosts") L1.dy.hS,Or.inl ⟨_,_,rfl,Or.inl ⟨_,SqL.of (ao _ _ L1.st.ho),rfl⟩,_,rfl,aL (fun b2=>put _ s1) (fun b2=>?_)⟩⟩
   have hb2:¬ (((s.gQ.map V.int).length:Nat):Int) <= lp:=fun z=>b2 (decide_eq_true z)
   rw [List.length_map] at hb2
   exact fin2 fun _=>⟨by omega,by omega⟩)
  refine ⟨rfl,_,rfl,aL (fun a=>?_) (fun a=>bw ?_)⟩
  ·have e:=bj a
   have go:∀z:Str,x=z->z ≠ "close"->False:=fun z e2 n=>n (e2.symm.trans e)
   refine ⟨rfl,_,rfl,aL (fun b=>cU (set _ s1)) (fun b=>?_)⟩
   refine ⟨rfl,_,rfl,aL (fun a=>(go _ (bj a) (by decide)).elim) (fun a=>bw ?_)⟩
   exact ⟨rfl,_,rfl,aL (fun a=>(go _ (bj a) (by decide)).elim) (fun a=>bw (fin (fun z=>(go _ z (by decide)).elim)))⟩
  ·refine ⟨rfl,_,rfl,aL (fun a=>?_) (fun a=>bw ?_)⟩
   ·have e:=bj a
    refine ⟨_,rfl,aL (fun b=>cU (set _ s1)) (fun b=>?_)⟩
    have hb:¬ (3:Int) < dp:=fun z=>b (decide_eq_true z)
    exact ⟨rfl,_,rfl,aL (fun a=>absurd (e.symm.trans (bj a)) (by decide)) (fun a=>bw (fin (fun z=>by omega)))⟩
   ·have n:=fD a
    exact ⟨rfl,_,rfl,aL (fun a=>⟨rfl,_,rfl,aL (fun b=>set _ s1) (fun b=>fin (fun z=>absurd z n))⟩) (fun a=>bw (fin (fun z=>absurd z n)))⟩
end
section
variable {P:Program}{w:World}{K:W.Frag}{mg:Str->Option Value}{base:Heap}{A:Adr}{E:En}{mo:Nat->Int}{ex:Nat->Option Int}
seal PE PA PS PSs PT PW
theorem uF {n i j:Nat} (h:(List.range n)[i]?=some j):i < n/\j=i:=by
 obtain ⟨h1,h2⟩:=List.getElem?_eq_some_iff.mp h
 rw [List.getElem_range] at h2
 rw [List.length_range] at h1
 exact ⟨h1,h2.symm⟩
theorem cA (N:Nat->Str) {i:Nat} (h:i < 18):atI (nmL N) (i:Int)=some (.str (N i)):=ee (by rw [List.getElem?_map,List.getElem?_range h];rfl)
theorem yt:∀ys:List V,(∀y ∈ ys,∃t:Th,t.ok E/\y=t.v E.N)->∃ts:List Th,ys=ts.map (Th.v E.N)/\∀t ∈ ts,t.ok E
 | [],_=>⟨[],rfl,fun _ h=>by cases h⟩
 | y :: r,h=>by
  obtain ⟨t,ht,rfl⟩:=h y List.mem_cons_self
  obtain ⟨ts,rfl,hts⟩:=yt r fun z hz=>h z (List.mem_cons_of_mem _ hz)
  exact ⟨t :: ts,rfl,fun z hz=>by
   rcases List.mem_cons.mp hz with rfl | hz
   ·exact ht
   ·exact hts z hz⟩
def yP (E:En) (mo:Nat->Int) (kn:Nat) (r:Rw):Prop:=(∀d,WfL E kn d r)/\((∀d,cD mo d r=1) \/ ∃i < kn,∀d,cD mo d r=1 + mo i)
def y8 (E:En) (mo:Nat->Int) (ex:Nat->Option Int):Sp:=fun vs H Q _=>∃(s:La) (y:Dy) (c:Int) (x:Str),vs=[.ref s.S,.int c,.str x]/\nE E s/\dg E mo ex H s y/\(x="call"->0 < s.kn) /\
 ∀v r y' H',Go s.M H s.M H'->dg E mo ex H' s y'->y'.cells=y.cells->(∀d,aZ E.N (New H H') d v r)->yP E mo s.kn r->Q v H'
theorem zY (T:Txt K mg A):Has P w K mg base 4 "_law_plain" ["_law_state","_law_cell","_law_kind_here"] (y8 E mo ex):=by
 have D_law_mix:=AE (P:=P) (w:=w) (base:=base) T
 have D_law_thing:=rB (P:=P) (w:=w) (base:=base) (E:=E) T
 have D_law_value:=vz (P:=P) (w:=w) (base:=base) (E:=E) T
 refine T.qk.has (k:=3) c8 (fun vs H Q E h=>?_) (fun f cdv A' outer s H vs Q E' hr hu h=>?_)
 ·obtain ⟨s,y,c,x,rfl,_⟩:=h
  rfl
 ·obtain ⟨s,y,c,x,rfl,O,L,hk,q⟩:=h
  refine ⟨_,(ab (aC (i:=3) c8.nd rfl (Or.inl rfl) (px hu (fv 0) ai))
  (ab (aC (i:=4) c8.nd rfl (Or.inl rfl) (px hu (fv 0) ai))
  (ab (bo (aw bL (fv 4) ae) (bA (fv 0) ai (bB hu set_list)))
  (ab (aC (i:=5) c8.nd rfl (Or.inl rfl) (ar D_law_value hr (aa (ar D_law_mix hr (aa (fv 1) (aa ae af))) (aa (px hu (fv 0) ai) (aa (bE (aa (px hu (fv 3) ae) (aa (px hu (fv 3) ae) af))) af)))))
  (ab (aC (i:=6) c8.nd rfl (Or.inl rfl) (px hu (px hu (fv 0) ai) (aw bL ae (aw bF (ar D_law_mix hr (aa (fv 1) (aa ae af))) (aw lN (aG dF rfl T.eI (by boot_by_name) (aa (px hu (fv 0) ai) af)) ae)))))
  (ab (aO (ay (aT hu) (fv 2) ai (az _))
   (ag (aA (cx (aa (fv 4) (aa ai (aa (px hu (fv 3) ae) (aa (ar D_law_thing hr (aa (ar D_law_mix hr (aa (fv 1) (aa ae af))) (aa (px hu (fv 0) ai) af))) (aa (fv 5) af))))))))
   aH)
  (ab (aO (ay (aT hu) (fv 2) ai (az _))
   (ag (aA (cx (aa (fv 4) (aa ai (aa (px hu (fv 3) (aw bF (ar D_law_mix hr (aa (fv 1) (aa ae af))) ae)) (aa (fv 5) af)))))))
   aH)
  (ab (aO (PW.pt (pw_and (ay (aT hu) (fv 2) ai (az _)) (pw_and1 (ay (uQ hu) (px hu (fv 0) ai) (bE af) (az _)))))
   (ag (aA (cx (aa (fv 4) (aa ai (aa (fv 6) (aa (fv 5) (aa (Ay (px hu (fv 0) ai)) af))))))))
   aH)
  (ab (aO (ay (aT hu) (fv 2) ai (az _))
   (ag (aA (cx (aa (fv 4) (aa ai af)))))
   aH)
  (ab (aO (ay (aT hu) (fv 2) ai (az _))
   (ab (bo (px hu (px hu (fv 0) ai) (aw bF (ar D_law_mix hr (aa (fv 1) (aa ae af))) (aG dF rfl T.eI (by boot_by_name) (aa (px hu (fv 0) ai) af)))) (pv rfl (di (pgn (i:=7) c8.nd rfl) (di (pgn (i:=8) c8.nd rfl) lU))))
   (ag (aA (cx (aa (fv 4) (aa ai (aa (fv 7) (aa (kI (N:=["_law_j","_law_state","_law_cell"]) (own:=1) (fr:=[0,1]) (df.of (by kernel_rfl!)) rfl (gh rfl T.cZ (aa (fv 8) af)) (fun b=>pgn (i:=0) (show List.Nodup (["_law_j","_law_state","_law_cell"]:List PySem.Str) by decide +kernel) rfl) (fun b=>jU) (fun b=>ar D_law_thing hr (aa (aw bT (ar D_law_mix hr (aa (fv 2) (aa ae af))) (aw bL (aw fe (fv 0) ae) ae)) (aa (px hu (fv 1) ai) af)))) af))))))))
   aH)
  (ag (aA (cx (aa (fv 4) (aa ai (aa (fv 6) (aa (fv 5) af))))))))))))))))),?_⟩
  refine ⟨_,bu.k (k:=.inr "names") L.dy.hS,?_⟩
  refine ⟨_,bu.k (k:=.inr "row") L.dy.hS,?_⟩
  refine ⟨_,cF.k (k:=.inr "row") L.dy.hS (show 7 < sizeLine by decide),?_⟩
  rw [show putK (stK s y.row) (.inr "row") (.int (y.row + 1))=stK s (y.row + 1) from rfl]
  have L1:=L.row O (y.row + 1)
  have g1:Go s.M H s.M (upd H s.S (.dK (stK s (y.row + 1)))):=Go.at (inS s) _
  generalize upd H s.S (.dK (stK s (y.row + 1)))=H1 at L1 g1 ⊢
  refine ⟨c,0,rfl,by decide,fun m0 H2 hm0 s2=>?_⟩
  have L2:=L1.same s2
  refine ⟨_,bu.k (k:=.inr "things") L2.dy.hS,Or.inl ⟨_,_,Or.inl (SqL.of (ao _ _ L2.st.hn)),cA E.N (i:=5) (by decide),Or.inl ⟨_,_,Or.inl (SqL.of (ao _ _ L2.st.hn)),cA E.N (i:=9) (by decide),?_⟩⟩⟩
  refine ⟨by show 2 <= sizeLine;decide,fun l3 hl3=>?_⟩
  obtain ⟨s3,e3⟩:=alc hl3 (HO.lst [V.str (E.N 5),.str (E.N 9)])
  generalize upd H2 l3 _=H3 at s3 e3 ⊢
  have L3:=L2.same s3
  refine ⟨m0,s.lt,l3,s.th,5,9,rfl,hm0,SqL.of (ao _ _ L3.st.ht),O.th,e3,O.l5,O.l9,fun p val H4 hv s4 hp ep=>?_⟩
  have L4:=L3.same s4
  have d1:Dm H H1:=L.dm g1 L1
  have p0:H p=none:=d1 p (Dm.new (s2.trans s3) p hp)
  have g4:Go s.M H s.M H4:=g1.trans (Go.new ((s2.trans s3).trans s4))
  have d4:Dm H H4:=L.dm g4 L4
  clear hp e3 hl3 s2 s3 s4 L1 L2 L3 g1 d1
  refine ⟨_,bu.k (k:=.inr "things") L4.dy.hS,c,1,rfl,by decide,fun m1 H5 hm1 s5=>?_⟩
  have L5:=L4.same s5
  have ht5:=ao _ _ L5.st.ht
  have lt:(((stV E s.th).length:Nat):Int)=(s.th.length:Int):=by rw [List.length_map]
  have t3:=O.t3
  have mm:=bK m1 (show (0:Int) < (s.th.length:Int) - 3 by omega)
  obtain ⟨o,ho,_,ea⟩:=oQ (fun i=>V.str (E.N i)) (xs:=s.th) (k:=3 + m1 % ((s.th.length:Int) - 3)) (by omega) (by omega)
  refine ⟨_,bu.k (k:=.inr "things") L5.dy.hS,Or.inl ⟨_,_,rfl,Or.inl ⟨_,SqL.of ht5,rfl⟩,(by show (0:Int) < (((stV E s.th).length:Nat):Int) - 3;omega),Or.inl ⟨_,_,Or.inl (SqL.of ht5),(by rw [lt];exact ea),?_⟩⟩⟩
  have ok:=O.th.2 o ho
  have g5:Go s.M H s.M H5:=g4.trans (Go.new s5)
  have d5:Dm H H5:=L.dm g5 L5
  have ep5:=s5 _ _ ep
  have fin:∀(H6:Hp) (y':Dy) (a:Addr) (ws:List V) (r:Rw),Go s.M H s.M H6->dg E mo ex H6 s y'->y'.cells=y.cells->H6 p=some (.tup (vV E.N val))->H6 a=none->(∀X:Hp,X a=some (.tup ws)->(∀z o,H z=none->H6 z=some o->X z=some o)->∀d,aZ E.N X d (.ref a) r)->yP E mo s.kn r->Q (.ref a) (upd H6 a (.tup ws)):=fun H6 y' a ws r g6 L6 ec e6 ha hx pr=>by
   have s7:=aj.upd ha (HO.tup ws)
   have d6:Dm H H6:=L.dm g6 L6
   refine q _ r y' _ (g6.trans (Go.new s7)) (L6.same s7) ec (hx _ (New.of (d6 a ha) aq) fun z o z0 ez=>New.of z0 (s7 _ _ ez)) pr
  dsimp only
  refine ax fun M1 K1=>?_
  have hn5:=ao _ _ L5.st.hn
  have r1:M1 [some (.ref s.S),some (.int c),some (.str x),some (.ref s.ln),some (.int y.row),some (.ref p),some (.str (E.N o)),none,none] H5:=K1 _ _ (by
   refine ax fun M2 K2=>?_
   have r2:M2 [some (.ref s.S),some (.int c),some (.str x),some (.ref s.ln),some (.int y.row),some (.ref p),some (.str (E.N o)),none,none] H5:=K2 _ _ (by
    refine ax fun M3 K3=>?_
    have r3:∀H6,aj H5 H6->M3 [some (.ref s.S),some (.int c),some (.str x),some (.ref s.ln),some (.int y.row),some (.ref p),some (.str (E.N o)),none,none] H6:=fun H6 s6=>K3 _ _ (by
     have L6:=L5.same s6
     have g6:Go s.M H s.M H6:=g5.trans (Go.new s6)
     refine ax fun M4 K4=>?_
     have r4:M4 [some (.ref s.S),some (.int c),some (.str x),some (.ref s.ln),some (.int y.row),some (.ref p),some (.str (E.N o)),none,none] H6:=K4 _ _ (by
      refine ax fun M5 K5=>?_
      have r5:M5 [some (.ref s.S),some (.int c),some (.str x),some (.ref s.ln),some (.int y.row),some (.ref p),some (.str (E.N o)),none,none] H6:=K5 _ _ (by
       refine ⟨by show 4 <= sizeLine;decide,fun a ha=>fin H6 _ a _ (.set y.row o val) g6 L6 rfl (s6 _ _ ep5) ha (fun X e1 e2 d=>?_) ⟨fun d=>?_,.inl fun d=>?_⟩⟩
       ·have:∃a' p',V.ref a=.ref a'/\X a'=some (.tup [.int y.row,.str "set",.str (E.N o),.ref p'])/\X p'=some (.tup (vV E.N val)):=⟨a,p,rfl,e1,e2 _ _ p0 (s6 _ _ ep5)⟩
        cases d <;> exact this
       ·have:o ∈ E.idx/\E.sz o=0/\val.ok E:=⟨ok.1,ok.2,hv⟩
        cases d <;> exact this
       ·cases d <;> rfl)
      refine ⟨rfl,_,rfl,aL (fun a=>?_) (fun _=>r5)⟩
      have k0:=hk (bj a)
      obtain ⟨kv,k1,k2⟩:=L6.st.hk
      have lk:(kv.length:Int)=(s.kn:Int):=by rw [Paired.length k2,List.length_range]
      refine ⟨_,bu.k (k:=.inr "known") L6.dy.hS,c,1,rfl,by decide,fun m2 H7 hm2 s7=>?_⟩
      have L7:=L6.same s7
      have mk:=bK m2 (show (0:Int) < (kv.length:Int) by omega)
      obtain ⟨u,u1,u2⟩:=vF (xs:=kv) mk.1 mk.2
      obtain ⟨i,hi,⟨t,rfl,et⟩⟩:=cw k2 u1
      obtain ⟨ki,ei⟩:=uF hi
      have k1':=s7 _ _ (ao _ _ k1)
      refine ⟨_,bu.k (k:=.inr "known") L7.dy.hS,Or.inl ⟨_,_,rfl,Or.inl ⟨_,SqL.of k1',rfl⟩,(by show (0:Int) < (kv.length:Int);omega),Or.inl ⟨_,_,Or.inl (SqL.of k1'),u2,?_⟩⟩⟩
      have n2:=O.kn
      refine ⟨t,_,rfl,SqT.of (s7 _ _ (ao _ _ et)),rfl,_,_,rfl,_,_,rfl,rfl,?_⟩
      refine ⟨_,rfl,by omega,by omega,jS (J:=Itr 0 (i + 1)) (n:=i + 1) (x:=fun j=>.int (0 + j)) (fun _ y _=>∃t:Th,t.ok E/\y=t.v E.N) (aM (by omega)) (fun _ _=>Nat.le_refl _) (fun _ _ h _=>h) (fun _ _ _ _ _ _ y=>y) (fun b j H8 G hj s8 kk=>?_) (fun _ _ _ _ _ h=>h) (fun _ _ _ _ _ _ _ h=>h) (fun D H8 ys hD s8 eD ly hy=>?_)⟩
      ·have L8:=L7.same s8
       refine ⟨c,2,rfl,by decide,fun m3 H9 hm3 s9=>?_⟩
       have L9:=L8.same s9
       have j1:j=0 \/ j=1:=by omega
       have hm4:In (m3 / ((0 + (j:Int)) * 48 + 1)):=by
        obtain ⟨a1,a2⟩:=hm3
        rcases j1 with rfl | rfl
        ·exact ⟨by omega,by omega⟩
        ·exact ⟨by omega,by omega⟩
       refine ⟨.inl ⟨by omega,by omega⟩,⟨by omega,by omega⟩,?_⟩
       exact ⟨_,bu.k (k:=.inr "things") L9.dy.hS,_,s.lt,s.th,rfl,hm4,SqL.of (ao _ _ L9.st.ht),O.th,fun t ht=>kk _ _ s9 ⟨t,ht,rfl⟩⟩
      ·obtain ⟨ts,rfl,hts⟩:=yt (E:=E) ys (fun z hz=>by
        obtain ⟨j,hj⟩:=List.getElem?_of_mem hz
        exact hy j z hj)
       have L8:=L7.same s8
       have s68:=s7.trans s8
       have p8:=s68 _ _ (s6 _ _ ep5)
       have g8:=(g6.trans (Go.new s7)).trans (Go.new s8)
       have D0:H D=none:=L.dm (g6.trans (Go.new s7)) L7 D hD
       refine ⟨by show 4 <= sizeLine;decide,fun a ha=>fin H8 _ a _ (.call y.row i ts) g8 L8 rfl p8 ha (fun X e1 e2 d=>?_) ⟨fun d=>?_,.inr ⟨i,by omega,fun d=>?_⟩⟩⟩
       ·have:∃a' p',V.ref a=.ref a'/\X a'=some (.tup [.int y.row,.str "call",.str (E.N (nmD i)),.ref p'])/\X p'=some (.lst (ts.map (Th.v E.N))):=⟨a,D,rfl,e1,e2 _ _ D0 eD⟩
        cases d <;> exact this
       ·have:i < s.kn/\ts.length=i + 1/\∀t ∈ ts,t.ok E:=⟨by omega,by rw [List.length_map] at ly;exact ly,hts⟩
        cases d <;> exact this
       ·cases d <;> rfl)
     refine ⟨rfl,_,rfl,aL (fun _=>?_) (fun _=>r4)⟩
     refine ⟨by show 2 <= sizeLine;decide,fun a ha=>fin H6 _ a _ (.last y.row) g6 L6 rfl (s6 _ _ ep5) ha (fun X e1 e2 d=>?_) ⟨fun d=>?_,.inl fun d=>?_⟩⟩
     ·have:∃a',V.ref a=.ref a'/\X a'=some (.tup [.int y.row,.str "last"]):=⟨a,rfl,e1⟩
      cases d <;> exact this
     ·cases d <;> exact True.intro
     ·cases d <;> rfl)
    refine ⟨rfl,_,rfl,aL (fun _=>?_) (fun _=>bw (r3 _ (aj.refl _)))⟩
    refine ⟨_,bu.k (k:=.inr "marks") L5.dy.hS,Nat.zero_le _,fun l6 hl6=>?_⟩
    obtain ⟨s6,e6⟩:=alc hl6 (HO.lst [])
    generalize upd H5 l6 _=H6 at s6 e6 ⊢
    have L6:=L5.same s6
    have hm6:=L6.dy.hm
    have em:stV E y.marks=(y.marks.map E.N).map V.str:=by rw [List.map_map];rfl
    refine ⟨_,_,.lst (SqL.of (by rw [em] at hm6;exact hm6)) (dN.strs _),.lst (SqL.of e6) .nil,sE (fun z hz=>?_),rfl,_,rfl,?_⟩
    ·obtain ⟨i,_,rfl⟩:=List.mem_map.mp hz
     exact O.ok i
    have g6:Go s.M H s.M H6:=g5.trans (Go.new s6)
    by_cases em0:y.marks=[]
    ·rw [em0]
     exact bw (r3 _ s6)
    obtain ⟨ms,mk,ek⟩:∃ms mk,y.marks=ms ++ [mk]:=⟨y.marks.dropLast,y.marks.getLast em0,(List.dropLast_concat_getLast em0).symm⟩
    have ev:((PyData.list ((y.marks.map E.N).map PyData.str)).eqv (PyData.list []))=false:=by
     cases hm:y.marks with
     | nil=>exact absurd hm em0
     | cons a r=>rfl
    rw [ev]
    refine cU ?_
    refine ⟨_,bu.k (k:=.inr "marks") L6.dy.hS,Or.inl ⟨rfl,_,SqL.of hm6⟩,_,_,.str (E.N mk),rfl,rfl,hm6,(by rw [show y.marks=ms ++ [mk] from ek];simp),?_⟩
    rw [show (stV E y.marks).dropLast=stV E ms by rw [ek];simp]
    have L7:=L6.mark O ms
    have g7:Go s.M H s.M (upd H6 s.lm (.lst (stV E ms))):=g6.trans (Go.at (inm s) _)
    have e7:(upd H6 s.lm (.lst (stV E ms))) p=some (.tup (vV E.N val)):=ah (fun z=>L.al s.lm (inm s) (by rw [<- z];exact p0)) (s6 _ _ ep5)
    generalize upd H6 s.lm (.lst (stV E ms))=H7 at L7 g7 e7 ⊢
    refine ⟨by show 5 <= sizeLine;decide,fun a ha=>fin H7 _ a _ (.say y.row o val mk) g7 L7 rfl e7 ha (fun X e1 e2 d=>?_) ⟨fun d=>?_,.inl fun d=>?_⟩⟩
    ·have:∃a' p',V.ref a=.ref a'/\X a'=some (.tup [.int y.row,.str "say",.str (E.N o),.ref p',.str (E.N mk)])/\X p'=some (.tup (vV E.N val)):=⟨a,p,rfl,e1,e2 _ _ p0 e7⟩
     cases d <;> exact this
    ·have:o ∈ E.idx/\E.sz o=0/\val.ok E:=⟨ok.1,ok.2,hv⟩
     cases d <;> exact this
    ·cases d <;> rfl)
   refine ⟨rfl,_,rfl,aL (fun _=>?_) (fun _=>r2)⟩
   refine ⟨c,1,rfl,by decide,fun m2 H6 hm2 s6=>?_⟩
   have L6:=L5.same s6
   have hn6:=ao _ _ L6.st.hn
   have mk:=bK m2 (show (0:Int) < 2 by decide)
   have ei:((m2 % 2).toNat:Int)=m2 % 2:=by omega
   refine ⟨(by show (0:Int) < 2;decide),Or.inl ⟨_,_,Or.inl (SqL.of hn6),(by rw [<- ei];exact cA E.N (by omega)),?_⟩⟩
   refine ⟨by show 4 <= sizeLine;decide,fun a ha=>fin H6 _ a _ (.snd y.row (m2 % 2).toNat val) (g5.trans (Go.new s6)) L6 rfl (s6 _ _ ep5) ha (fun X e1 e2 d=>?_) ⟨fun d=>?_,.inl fun d=>?_⟩⟩
   ·have:∃a' p',V.ref a=.ref a'/\X a'=some (.tup [.int y.row,.str "send",.str (E.N (m2 % 2).toNat),.ref p'])/\X p'=some (.tup (vV E.N val)):=⟨a,p,rfl,e1,e2 _ _ p0 (s6 _ _ ep5)⟩
    cases d <;> exact this
   ·have:val.ok E:=hv
    cases d <;> exact this
   ·cases d <;> rfl)
  refine ⟨rfl,_,rfl,aL (fun _=>?_) (fun _=>r1)⟩
  refine Or.inl ⟨_,_,Or.inl (SqL.of hn5),cA E.N (i:=9) (by decide),c,2,rfl,by decide,fun m2 H6 hm2 s6=>?_⟩
  have L6:=L5.same s6
  refine ⟨_,bu.k (k:=.inr "things") L6.dy.hS,m2,s.lt,s.th,rfl,hm2,SqL.of (ao _ _ L6.st.ht),O.th,fun t ht=>?_⟩
  have l9:=List.mem_filter.mp O.l9
  refine ⟨by show 5 <= sizeLine;decide,fun a ha=>fin H6 _ a _ (.put y.row 9 t val) (g5.trans (Go.new s6)) L6 rfl (s6 _ _ ep5) ha (fun X e1 e2 d=>?_) ⟨fun d=>?_,.inl fun d=>?_⟩⟩
  ·have:∃a' p',V.ref a=.ref a'/\X a'=some (.tup [.int y.row,.str "put",.str (E.N 9),t.v E.N,.ref p'])/\X p'=some (.tup (vV E.N val)):=⟨a,p,rfl,e1,e2 _ _ p0 (s6 _ _ ep5)⟩
   cases d <;> exact this
  ·have:9 ∈ E.idx/\0 < E.sz 9/\t.ok E/\val.ok E:=⟨l9.1,of_decide_eq_true l9.2,ht,hv⟩
   cases d <;> exact this
  ·cases d <;> rfl
end
section
variable {P:Program}{w:World}{K:W.Frag}{mg:Str->Option Value}{base:Heap}{A:Adr}{E:En}{mo:Nat->Int}{ex:Nat->Option Int}{kn:Nat}
seal PE PA PS PSs PT PW
def cN (E:En) (kn d:Nat) (X:Hp) (B:Addr) (rs:List Rw):Prop:=∃xs,X B=some (.lst xs)/\Paired (aZ E.N X d) xs rs/\∀r ∈ rs,WfL E kn d r
theorem cN.same {d:Nat}{X X':Hp}{B:Addr}{rs:List Rw} (z:aj X X') (h:cN E kn d X B rs):cN E kn d X' B rs:=by
 obtain ⟨xs,h1,h2,h3⟩:=h
 exact ⟨xs,z _ _ h1,Paired.cm h2 (fun _ _=>aZ.same z),h3⟩
def dQ (mo:Nat->Int) (d:Nat) (rs:List Rw):Int:=(rs.map (cD mo d)).sum
theorem yH (h0:∀i < kn,0 <= mo i):∀(d:Nat) (r:Rw),WfL E kn d r->1 <= cD mo d r:=by
 have nn:∀(d:Nat) (xs:List Rw),(∀r ∈ xs,1 <= cD mo d r)->0 <= dQ mo d xs:=fun d xs h=>by
  unfold dQ
  induction xs with
  | nil=>exact Int.le_refl _
  | cons x r ih =>
   rw [List.map_cons,List.sum_cons]
   have:=h x List.mem_cons_self
   have:=ih fun q hq=>h q (List.mem_cons_of_mem _ hq)
   omega
 intro d
 induction d with
 | zero =>
  intro r h
  cases r with
  | iff=>exact (show False from h).elim
  | loop=>exact (show False from h).elim
  | call n i ts =>
   have:=h0 i h.1
   show 1 <= 1 + mo i
   omega
  | _=>exact Int.le_refl _
 | succ d ih =>
  intro r h
  cases r with
  | call n i ts =>
   have:=h0 i h.1
   show 1 <= 1 + mo i
   omega
  | iff n v f o l r =>
   obtain ⟨_,h1,h2,_,_,h3,h4⟩:=h
   have a:=nn d f fun q hq=>ih q (h3 q hq)
   have b:=nn d o fun q hq=>ih q (h4 q hq)
   unfold dQ at a b
   unfold cD jn
   split <;> omega
  | loop n t m b l r =>
   obtain ⟨_,h1,_,h2,h3,_,h4⟩:=h
   have a:=nn d b fun q hq=>ih q (h4 q hq)
   unfold dQ at a
   unfold cD jn
   have:0 <= m * (if (b.map (cD mo d)).sum + l < r then r else (b.map (cD mo d)).sum + l):=Int.mul_nonneg h1 (by split <;> omega)
   omega
  | _=>exact Int.le_refl _
theorem lK (h0:∀i < kn,0 <= mo i) {d:Nat}{rs:List Rw} (h:∀r ∈ rs,WfL E kn d r):0 <= dQ mo d rs:=by
 unfold dQ
 induction rs with
 | nil=>exact Int.le_refl _
 | cons x r ih =>
  rw [List.map_cons,List.sum_cons]
  have:=yH h0 d x (h x List.mem_cons_self)
  have:=ih fun q hq=>h q (List.mem_cons_of_mem _ hq)
  omega
structure Wts (s:La) (mo:Nat->Int) (wt:Nat->Int):Prop where
 a:∀k,4 <= wt k
 c:∀i < s.kn,0 <= mo i/\∀k,1 + mo i <= wt k
 l:∀k m,s.gQ[k]?=some m->1 + 3 * m <= wt k/\m * wt (k + 1) <= wt k
def lQ (E:En) (mo:Nat->Int) (ex:Nat->Option Int) (kn:Nat) (wt:Nat->Int) (d:Nat):Sp:=fun vs H Q _=>∃(s:La) (y:Dy) (dp k:Nat),vs=[.ref s.S,.int dp,.int k]/\dp + d=4/\nE E s/\dg E mo ex H s y/\s.kn=kn/\Wts s mo wt/\y.cells.length <= 100 /\
 ∀(D:Addr) (rs:List Rw) (y':Dy) (H':Hp),Go s.M H s.M H'->dg E mo ex H' s y'->cN E kn d (New H H') D rs->rs.length + y'.cells.length <= y.cells.length->dQ mo d rs + wt k * y'.cells.length <= wt k * y.cells.length->Q (.ref D) H'
def pE (E:En) (mo:Nat->Int) (ex:Nat->Option Int) (kn:Nat) (wt:Nat->Int) (d:Nat):Sp:=fun vs H Q _=>∃(s:La) (y:Dy) (c:Int) (x:Str) (dp k:Nat),vs=[.ref s.S,.int c,.str x,.int dp,.int k]/\dp + d=4/\0 < d/\(x="loop"->k < s.gQ.length)/\nE E s/\dg E mo ex H s y/\s.kn=kn/\Wts s mo wt/\y.cells.length <= 100 /\
 ∀(v:V) (r:Rw) (y':Dy) (H':Hp),Go s.M H s.M H'->dg E mo ex H' s y'->aZ E.N (New H H') d v r->WfL E kn d r->y'.cells.length <= y.cells.length->cD mo d r + wt k * y'.cells.length <= wt k + wt k * y.cells.length->Q v H'
theorem cN.on {d:Nat}{M:List Addr}{H Ha Hb Hc:Hp}{B:Addr}{rs:List Rw} (b:cN E kn d (New Ha Hb) B rs) (dm:Dm H Ha) (g:Go M Hb M Hc) (al:∀a ∈ M,Ha a ≠ none):cN E kn d (New H Hc) B rs:=(b.same (New.go g al)).same (New.up dm)
theorem aZ.AO {X:Hp}{d:Nat}{a p B1 B2:Addr}{n l r:Int}{val:Val}{f o:List Rw} (ha:X a=some (.tup [.int n,.str "if",.ref p,.ref B1,.ref B2,.int l,.int r])) (hp:X p=some (.tup (vV E.N val))) (h1:cN E kn d X B1 f) (h2:cN E kn d X B2 o):aZ E.N X (d + 1) (.ref a) (.iff n val f o l r):=by
 obtain ⟨xf,e1,e2,_⟩:=h1
 obtain ⟨xo,f1,f2,_⟩:=h2
 exact ⟨a,p,B1,B2,xf,xo,rfl,ha,hp,e1,f1,e2,f2⟩
theorem aZ.zU {X:Hp}{d:Nat}{a B1:Addr}{n m l r:Int}{t:Th}{f:List Rw} (ha:X a=some (.tup [.int n,.str "loop",t.v E.N,.int m,.ref B1,.int l,.int r])) (h1:cN E kn d X B1 f):aZ E.N X (d + 1) (.ref a) (.loop n t m f l r):=by
 obtain ⟨xf,e1,e2,_⟩:=h1
 exact ⟨a,B1,xf,rfl,ha,e1,e2⟩
end
section
variable {P:Program}{w:World}{K:W.Frag}{mg:Str->Option Value}{base:Heap}{A:Adr}{E:En}{mo:Nat->Int}{ex:Nat->Option Int}{kn:Nat}{wt:Nat->Int}
seal PE PA PS PSs PT PW
theorem xI (T:Txt K mg A) (d:Nat) (D_law_nodes:Has P w K mg base (2 * d + 8) "_law_nodes" ["_law_state","_law_deep","_law_loops"] (lQ E mo ex kn wt d)):Has P w K mg base (2 * d + 9) "_law_block" ["_law_state","_law_cell","_law_kind_here","_law_deep","_law_loops"] (pE E mo ex kn wt (d + 1)):=by
  have D_law_mix:=AE (P:=P) (w:=w) (base:=base) T
  have D_law_thing:=rB (P:=P) (w:=w) (base:=base) (E:=E) T
  have D_law_value:=vz (P:=P) (w:=w) (base:=base) (E:=E) T
  refine T.mH.has (k:=2 * d + 8) cC (fun vs H Q E h=>?_) (fun f cdv A' outer s H vs Q E' hr hu h=>?_)
  · obtain ⟨s,y,c,x,dp,k,rfl,_⟩:=h
    rfl
  · obtain ⟨s,y,c,x,dp,k,rfl,hd,_,hx,O,L,ek,W,hl,q⟩:=h
    have n0:∀i < kn,0 <= mo i:=fun i hi=>(W.c i (by rw [ek];exact hi)).1
    refine ⟨_,(ab (aC (i:=5) cC.nd rfl (Or.inl rfl) (px hu (fv 0) ai))
    (ab (bo (aw bL (fv 5) ae) (bA (fv 0) ai (bB hu set_list)))
    (ab (aC (i:=6) cC.nd rfl (Or.inl rfl) (px hu (bE (aa (bE (aa ae (aa ae af))) (aa (bE (aa (aw bF (aw bT (ar (hj:=by omega) D_law_mix hr (aa (fv 1) (aa ae af))) ae) ae) (aa (aw bF (aw bT (ar (hj:=by omega) D_law_mix hr (aa (fv 1) (aa ae af))) ae) ae) af))) af))) (aw bF (ar (hj:=by omega) D_law_mix hr (aa (fv 1) (aa ae af))) ae)))
    (ab (aO (ay (aT hu) (fv 2) ai (az _))
      (ab (aC (i:=7) cC.nd rfl (Or.inl rfl) (ar (hj:=by omega) D_law_nodes hr (aa (fv 0) (aa (aw bL (fv 3) ae) (aa (aw bL (fv 4) ae) af)))))
      (ab (bo (aw bL (px hu (fv 0) ai) ae) (bA (fv 0) ai (bB hu set_list)))
      (ab (aC (i:=8) cC.nd rfl (Or.inl rfl) (aw bL ae (aw bF (ar (hj:=by omega) D_law_mix hr (aa (fv 1) (aa ae af))) (px hu (px hu (fv 0) ai) (fv 4)))))
      (ag (aA (cx (aa (fv 5) (aa ai (aa (ar (hj:=by omega) D_law_thing hr (aa (ar (hj:=by omega) D_law_mix hr (aa (fv 1) (aa ae af))) (aa (px hu (fv 0) ai) af))) (aa (fv 8) (aa (fv 7) (aa (px hu (fv 6) ae) (aa (px hu (fv 6) ae) af)))))))))))))
      aH)
    (ab (aC (i:=9) cC.nd rfl (Or.inl rfl) (ar (hj:=by omega) D_law_value hr (aa (ar (hj:=by omega) D_law_mix hr (aa (fv 1) (aa ae af))) (aa (px hu (fv 0) ai) (aa (bE (aa (px hu (px hu (fv 0) ai) ae) (aa (px hu (px hu (fv 0) ai) ae) af))) af)))))
    (ab (aC (i:=10) cC.nd rfl (Or.inl rfl) (ar (hj:=by omega) D_law_nodes hr (aa (fv 0) (aa (aw bL (fv 3) ae) (aa (fv 4) af)))))
    (ab (bo (aw bL (px hu (fv 0) ai) ae) (bA (fv 0) ai (bB hu set_list)))
    (ab (aC (i:=11) cC.nd rfl (Or.inl rfl) (ar (hj:=by omega) D_law_nodes hr (aa (fv 0) (aa (aw bL (fv 3) ae) (aa (fv 4) af)))))
    (ab (bo (aw bL (px hu (fv 0) ai) ae) (bA (fv 0) ai (bB hu set_list)))
    (ag (aA (cx (aa (fv 5) (aa ai (aa (fv 9) (aa (fv 10) (aa (fv 11) (aa (px hu (fv 6) ae) (aa (px hu (fv 6) ae) af))))))))))))))))))),?_⟩
    refine ⟨_,bu.k (k:=.inr "row") L.dy.hS,?_⟩
    refine ⟨_,cF.k (k:=.inr "row") L.dy.hS (show 7 < sizeLine by decide),?_⟩
    rw [show putK (stK s y.row) (.inr "row") (.int (y.row + 1))=stK s (y.row + 1) from rfl]
    have L1:=L.row O (y.row + 1)
    have g1:Go s.M H s.M (upd H s.S (.dK (stK s (y.row + 1)))):=Go.at (inS s) _
    generalize upd H s.S (.dK (stK s (y.row + 1)))=H1 at L1 g1 ⊢
    have d1:Dm H H1:=L.dm g1 L1
    dsimp only
    refine ax fun M0 K0=>?_
    have go:∀(pi:Addr) (l r:Int) (H0:Hp),aj H1 H0->H0 pi=some (.lst [.int l,.int r])->H1 pi=none->0 <= l->l <= 3->0 <= r->r <= 3->M0 [some (.ref s.S),some (.int c),some (.str x),some (.int dp),some (.int k),some (.int y.row),some (.ref pi),none,none,none,none,none] H0:=fun pi l r H0 s0 e0 pi0 l0 l3 r0 r3=>K0 _ _ (by
     have L1:=L1.same s0
     have g1:=g1.trans (Go.new s0)
     have piM:pi ∉ s.M:=fun m=>L.al pi m (d1 pi pi0)
     have d1:Dm H H0:=L.dm g1 L1
     refine ax fun M1 K1=>?_
     have r1:M1 [some (.ref s.S),some (.int c),some (.str x),some (.int dp),some (.int k),some (.int y.row),some (.ref pi),none,none,none,none,none] H0:=K1 _ _ (by
       refine ⟨c,0,rfl,by decide,fun m0 H2 hm0 s2=>?_⟩
       have L2:=L1.same s2
       have hn2:=SqL.of (K:=K) (ao _ _ L2.st.hn)
       refine ⟨_,bu.k (k:=.inr "things") L2.dy.hS,_,bu.k (k:=.inr "names") L2.dy.hS,Or.inl ⟨_,_,Or.inl hn2,cA E.N (i:=5) (by decide),_,bu.k (k:=.inr "names") L2.dy.hS,Or.inl ⟨_,_,Or.inl hn2,cA E.N (i:=9) (by decide),?_⟩⟩⟩
       refine ⟨by show 2 <= sizeLine;decide,fun l3 hl3=>?_⟩
       obtain ⟨s3,e3⟩:=alc hl3 (HO.lst [V.str (E.N 5),.str (E.N 9)])
       generalize upd H2 l3 _=H3 at s3 e3 ⊢
       have L3:=L2.same s3
       refine ⟨m0,s.lt,l3,s.th,5,9,rfl,hm0,SqL.of (ao _ _ L3.st.ht),O.th,e3,O.l5,O.l9,fun p val H4 hv s4 hp ep=>?_⟩
       have L4:=L3.same s4
       have p0:H p=none:=d1 p (Dm.new (s2.trans s3) p hp)
       have pM:p ∉ s.M:=fun m=>L.al p m p0
       have g4:Go s.M H s.M H4:=g1.trans (Go.new ((s2.trans s3).trans s4))
       have d4:Dm H H4:=L.dm g4 L4
       refine ⟨s,_,dp + 1,k,rfl,by omega,O,L4,ek,W,hl,fun B1 rs1 y5 H5 g5 L5 b1 n5 c5=>?_⟩
       refine ⟨_,bu.k (k:=.inr "row") L5.dy.hS,_,cF.k (k:=.inr "row") L5.dy.hS (show 7 < sizeLine by decide),?_⟩
       rw [show putK (stK s y5.row) (.inr "row") (.int (y5.row + 1))=stK s (y5.row + 1) from rfl]
       have L6:=L5.row O (y5.row + 1)
       have g6:Go s.M H5 s.M (upd H5 s.S (.dK (stK s (y5.row + 1)))):=Go.at (inS s) _
       generalize upd H5 s.S (.dK (stK s (y5.row + 1)))=H6 at L6 g6 ⊢
       have d6:Dm H H6:=L.dm ((g4.trans g5).trans g6) L6
       refine ⟨s,_,dp + 1,k,rfl,by omega,O,L6,ek,W,(by show y5.cells.length <= 100;have h:=hl;dsimp only at n5;omega),fun B2 rs2 y7 H7 g7 L7 b2 n7 c7=>?_⟩
       refine ⟨_,bu.k (k:=.inr "row") L7.dy.hS,_,cF.k (k:=.inr "row") L7.dy.hS (show 7 < sizeLine by decide),?_⟩
       rw [show putK (stK s y7.row) (.inr "row") (.int (y7.row + 1))=stK s (y7.row + 1) from rfl]
       have L8:=L7.row O (y7.row + 1)
       have g8:Go s.M H7 s.M (upd H7 s.S (.dK (stK s (y7.row + 1)))):=Go.at (inS s) _
       generalize upd H7 s.S (.dK (stK s (y7.row + 1)))=H8 at L8 g8 ⊢
       have b1':cN E kn d (New H H8) B1 rs1:=b1.on d4 ((g6.trans g7).trans g8) L4.al
       have b2':cN E kn d (New H H8) B2 rs2:=b2.on d6 g8 L6.al
       have w1:∀r ∈ rs1,WfL E kn d r:=by obtain ⟨_,_,_,z⟩:=b1;exact z
       have w2:∀r ∈ rs2,WfL E kn d r:=by obtain ⟨_,_,_,z⟩:=b2;exact z
       have g9:Go s.M H s.M H8:=((g4.trans g5).trans g6).trans (g7.trans g8)
       have d9:Dm H H8:=L.dm g9 L8
       have e9:H8 pi=some (.lst [.int l,.int r]):=(((g5.trans g6).trans (g7.trans g8)).o pi _ piM (((s2.trans s3).trans s4) _ _ e0))
       have mx:jn (dQ mo d rs1 + l) (dQ mo d rs2 + r) <= jn (dQ mo d rs1) (dQ mo d rs2) + 3:=by unfold jn;split <;> split <;> omega
       refine Or.inl ⟨_,_,Or.inl (SqL.of e9),rfl,Or.inl ⟨_,_,Or.inl (SqL.of e9),rfl,?_⟩⟩
       refine ⟨by show 7 <= sizeLine;decide,fun a ha=>?_⟩
       have sa:=aj.upd ha (HO.tup [V.int y.row,.str "if",.ref p,.ref B1,.ref B2,.int l,.int r])
       have ep9:H8 p=some (.tup (vV E.N val)):=((g5.trans g6).trans (g7.trans g8)).o p _ pM ep
       have sN:aj (New H H8) (New H (upd H8 a (HO.tup [V.int y.row,.str "if",.ref p,.ref B1,.ref B2,.int l,.int r]))):=New.on sa
       have k1:=lK n0 w1
       have k2:=lK n0 w2
       have wa:=W.a k
       dsimp only at n5 n7 c5 c7
       refine q _ (.iff y.row val rs1 rs2 l r) _ _ (g9.trans (Go.new sa)) (L8.same sa) (aZ.AO (New.of (d9 a ha) aq) (New.of p0 (sa _ _ ep9)) (b1'.same sN) (b2'.same sN)) ⟨hv,l0,r0,by omega,by omega,w1,w2⟩ (by dsimp only;omega) ?_
       dsimp only
       unfold cD
       unfold dQ at mx k1 k2 c5 c7
       have mx2:jn ((rs1.map (cD mo d)).sum) ((rs2.map (cD mo d)).sum) <= (rs1.map (cD mo d)).sum + (rs2.map (cD mo d)).sum:=by unfold jn;split <;> omega
       omega)
     refine ⟨rfl,_,rfl,aL (fun a=>?_) (fun _=>r1)⟩
     have kl:=hx (bj a)
     refine ⟨s,_,dp + 1,k + 1,rfl,by omega,O,L1,ek,W,hl,fun B1 rs1 y5 H5 g5 L5 b1 n5 c5=>?_⟩
     refine ⟨_,bu.k (k:=.inr "row") L5.dy.hS,_,cF.k (k:=.inr "row") L5.dy.hS (show 7 < sizeLine by decide),?_⟩
     rw [show putK (stK s y5.row) (.inr "row") (.int (y5.row + 1))=stK s (y5.row + 1) from rfl]
     have L6:=L5.row O (y5.row + 1)
     have g6:Go s.M H5 s.M (upd H5 s.S (.dK (stK s (y5.row + 1)))):=Go.at (inS s) _
     generalize upd H5 s.S (.dK (stK s (y5.row + 1)))=H6 at L6 g6 ⊢
     have b1':cN E kn d (New H H6) B1 rs1:=b1.on d1 g6 L1.al
     have w1:∀r ∈ rs1,WfL E kn d r:=by obtain ⟨_,_,_,z⟩:=b1;exact z
     have e9:H6 pi=some (.lst [.int l,.int r]):=(g5.trans g6).o pi _ piM e0
     have mx:jn (dQ mo d rs1 + l) (dQ mo d ([]:List Rw) + r) <= jn (dQ mo d rs1) (dQ mo d ([]:List Rw)) + 3:=by unfold jn;split <;> split <;> omega
     refine ⟨c,1,rfl,by decide,fun m2 Ha hm2 sa=>?_⟩
     have La:=L6.same sa
     obtain ⟨mk,hmk⟩:∃m,s.gQ[k]?=some m:=⟨_,List.getElem?_eq_getElem kl⟩
     have mb:=O.ms mk (List.mem_of_getElem? hmk)
     have ak:atI (s.gQ.map V.int) (k:Int)=some (.int mk):=ee (by rw [List.getElem?_map,hmk];rfl)
     refine ⟨_,bu.k (k:=.inr "mosts") La.dy.hS,Or.inl ⟨_,_,Or.inl (SqL.of (ao _ _ La.st.ho)),ak,?_⟩⟩
     refine ⟨(by show (0:Int) < mk;omega),?_⟩
     have mm:=bK m2 (show (0:Int) < mk by omega)
     refine ⟨c,2,rfl,by decide,fun m3 Hb hm3 sb=>?_⟩
     have Lb:=La.same sb
     refine ⟨_,bu.k (k:=.inr "things") Lb.dy.hS,m3,s.lt,s.th,rfl,hm3,SqL.of (ao _ _ Lb.st.ht),O.th,fun t ht=>?_⟩
     have eb:=(sa.trans sb) _ _ e9
     refine Or.inl ⟨_,_,Or.inl (SqL.of eb),rfl,Or.inl ⟨_,_,Or.inl (SqL.of eb),rfl,?_⟩⟩
     refine ⟨by show 7 <= sizeLine;decide,fun a ha=>?_⟩
     have gb:Go s.M H s.M Hb:=((g1.trans g5).trans g6).trans (Go.new (sa.trans sb))
     have db:Dm H Hb:=L.dm gb Lb
     have sc:=aj.upd ha (HO.tup [V.int y.row,.str "loop",t.v E.N,.int (1 + m2 % mk),.ref B1,.int l,.int r])
     have sN:aj (New H H6) (New H (upd Hb a (HO.tup [V.int y.row,.str "loop",t.v E.N,.int (1 + m2 % mk),.ref B1,.int l,.int r]))):=New.on ((sa.trans sb).trans sc)
     have k1:=lK n0 w1
     have wl:=W.l k mk hmk
     dsimp only at n5 c5
     refine q _ (.loop y.row t (1 + m2 % mk) rs1 l r) _ _ (gb.trans (Go.new sc)) (Lb.same sc) (aZ.zU (New.of (db a ha) aq) (b1'.same sN)) ⟨ht,by omega,by omega,l0,r0,by omega,w1⟩ (by dsimp only;omega) ?_
     dsimp only
     unfold cD
     unfold dQ at mx k1 c5
     have en:(List.map (cD mo d) ([]:List Rw)).sum=0:=rfl
     rw [en,Int.zero_add] at mx
     generalize (rs1.map (cD mo d)).sum=cs at *
     have mx2:jn (cs + l) r <= cs + 3:=by
       refine Int.le_trans mx ?_
       unfold jn
       split <;> omega
     have m0':0 <= jn (cs + l) r:=by unfold jn;split <;> omega
     have a1:(1 + m2 % mk) * jn (cs + l) r <= mk * (cs + 3):=Int.le_trans (Int.mul_le_mul_of_nonneg_right (by omega) m0') (Int.mul_le_mul_of_nonneg_left mx2 (by omega))
     have u0:(0:Int) <= (y.cells.length:Int) - (y5.cells.length:Int):=by omega
     have a2:cs <= wt (k + 1) * ((y.cells.length:Int) - (y5.cells.length:Int)):=by rw [Int.mul_sub];omega
     have a3:mk * cs <= mk * (wt (k + 1) * ((y.cells.length:Int) - (y5.cells.length:Int))):=Int.mul_le_mul_of_nonneg_left a2 (by omega)
     rw [<- Int.mul_assoc] at a3
     have a4:=Int.mul_le_mul_of_nonneg_right wl.2 u0
     rw [Int.mul_sub (wt k)] at a4
     rw [Int.mul_add mk] at a1
     omega)
    refine ⟨by show 2 <= sizeLine;decide,fun p1 hp1=>?_⟩
    obtain ⟨s2,e2⟩:=alc hp1 (HO.lst [V.int 0,.int 0])
    generalize upd H1 p1 _=H2 at s2 e2 ⊢
    refine ⟨c,3,rfl,by decide,fun m1 H3 hm1 s3=>⟨⟨by decide,by decide⟩,(by show (0:Int) < 4;decide),c,3,rfl,by decide,fun m2 H4 hm2 s4=>⟨⟨by decide,by decide⟩,(by show (0:Int) < 4;decide),by show 2 <= sizeLine;decide,fun p2 hp2=>?_⟩⟩⟩
    obtain ⟨s5,e5⟩:=alc hp2 (HO.lst [V.int (m1 / 2 % 4),.int (m2 / 8 % 4)])
    generalize upd H4 p2 _=H5 at s5 e5 ⊢
    refine ⟨by show 2 <= sizeLine;decide,fun p3 hp3=>?_⟩
    obtain ⟨s6,e6⟩:=alc hp3 (HO.lst [V.ref p1,.ref p2])
    generalize upd H5 p3 _=H6 at s6 e6 ⊢
    refine ⟨c,3,rfl,by decide,fun m3 H7 hm3 s7=>⟨(by show (0:Int) < 2;decide),Or.inl ?_⟩⟩
    have q1:=bK (m1 / 2) (show (0:Int) < 4 by decide)
    have q2:=bK (m2 / 8) (show (0:Int) < 4 by decide)
    have t7:aj H1 H7:=((s2.trans (s3.trans s4)).trans s5).trans (s6.trans s7)
    have:m3 % 2=0 \/ m3 % 2=1:=by omega
    rcases this with e | e <;> rw [e]
    · exact ⟨_,_,Or.inl (SqL.of (s7 _ _ e6)),rfl,go p1 0 0 H7 t7 ((s3.trans ((s4.trans s5).trans (s6.trans s7))) _ _ e2) hp1 (by decide) (by decide) (by decide) (by decide)⟩
    · exact ⟨_,_,Or.inl (SqL.of (s7 _ _ e6)),rfl,go p2 _ _ H7 t7 ((s6.trans s7) _ _ e5) (aj.free (s2.trans (s3.trans s4)) hp2) q1.1 (by omega) q2.1 (by omega)⟩
end
section
variable {P:Program}{w:World}{K:W.Frag}{mg:Str->Option Value}{base:Heap}{A:Adr}{E:En}{mo:Nat->Int}{ex:Nat->Option Int}{kn:Nat}{wt:Nat->Int}
seal PE PA PS PSs PT PW
theorem Paired.snoc {α β:Type}{F:α->β->Prop}{x:α}{y:β} (h:F x y):∀{xs:List α}{ys:List β},Paired F xs ys->Paired F (xs ++ [x]) (ys ++ [y])
 | _,_,.nil=>.cons h .nil
 | _,_,.cons g r=>.cons g (Paired.snoc h r)
structure NAt (E:En) (mo:Nat->Int) (ex:Nat->Option Int) (kn d:Nat) (wk:Int) (H:Hp) (s:La) (y:Dy) (D:Addr) (Hc:Hp) (y':Dy) (xs:List V) (rs:List Rw):Prop where
 g:Go s.M H s.M Hc
 L:dg E mo ex Hc s y'
 hD:Hc D=some (.lst xs)
 p:Paired (aZ E.N (del [D] (New H Hc)) d) xs rs
 w:∀r ∈ rs,WfL E kn d r
 n:rs.length + y'.cells.length <= y.cells.length
 c:dQ mo d rs + wk * y'.cells.length <= wk * y.cells.length
theorem NAt.same {d:Nat}{wk:Int}{H Hc H2:Hp}{s:La}{y y':Dy}{D:Addr}{xs:List V}{rs:List Rw} (h:NAt E mo ex kn d wk H s y D Hc y' xs rs) (z:aj Hc H2):NAt E mo ex kn d wk H s y D H2 y' xs rs:=⟨h.g.trans (Go.new z),h.L.same z,z _ _ h.hD,Paired.cm h.p (fun _ _=>aZ.same (fun a o e=>by
 obtain ⟨e1,e2⟩:=eO e
 exact aV e1 (New.on z a o e2))),h.w,h.n,h.c⟩
theorem NAt.add {d:Nat}{wk:Int}{H Hc H2:Hp}{s:La}{y y' y2:Dy}{D:Addr}{xs:List V}{rs:List Rw}{v:V}{r:Rw}{cs:List Int}{c0:Int} (h:NAt E mo ex kn d wk H s y D Hc y' xs rs) (L0:dg E mo ex H s y) (d0:H D=none) (e:y'.cells=cs ++ [c0]) {H3:Hp} (g3:Go s.M Hc s.M H3) (L3:dg E mo ex H3 s { y' with cells:=cs }) (g:Go s.M H3 s.M H2) (L2:dg E mo ex H2 s y2) (na:aZ E.N (New H3 H2) d v r) (wf:WfL E kn d r) (n2:y2.cells.length <= cs.length) (c2:cD mo d r + wk * y2.cells.length <= wk + wk * cs.length):H2 D=some (.lst xs)/\NAt E mo ex kn d wk H s y D (upd H2 D (.lst (xs ++ [v]))) y2 (xs ++ [v]) (rs ++ [r]):=by
 have dM:D ∉ s.M:=fun m=>L0.al D m d0
 have g2:Go s.M Hc s.M H2:=g3.trans g
 have hD2:=g2.o D _ dM h.hD
 have neS:∀a ∈ s.M,a ≠ D:=fun a m z=>dM (z ▸ m)
 have hD3:=g3.o D _ dM h.hD
 have dm3:Dm H H3:=L0.dm (h.g.trans g3) L3
 have el:y'.cells.length=cs.length + 1:=by rw [e,List.length_append];rfl
 refine ⟨hD2,⟨(h.g.trans g2).out d0 _,⟨?_,?_⟩,aq,?_,?_,?_,?_⟩⟩
 ·exact L0.st.same (Go.same ((h.g.trans g2).out d0 _))
 ·exact ⟨ah (neS _ (inS s)) L2.dy.hS,ah (neS _ (inm s)) L2.dy.hm,ah (neS _ (BW s)) L2.dy.hc⟩
 ·refine Paired.snoc (aZ.same (fun a o ea=>?_) na) (Paired.cm h.p fun _ _=>aZ.same fun a o ea=>?_)
  ·obtain ⟨e3,e4⟩:=New.get ea
   have aD:a ≠ D:=fun z=>by rw [z,hD3] at e3;cases e3
   exact aV (fun m=>aD (by simpa using m)) (New.of (dm3 a e3) (ah aD e4))
  ·obtain ⟨e1,e2⟩:=eO ea
   obtain ⟨e3,e4⟩:=New.get e2
   have aD:a ≠ D:=fun z=>e1 (by rw [z];exact List.mem_cons_self)
   exact aV e1 (New.of e3 (ah aD (g2.o a o (fun m=>L0.al a m e3) e4)))
 ·intro q hq
  rcases List.mem_append.mp hq with m | m
  ·exact h.w q m
  ·rw [List.mem_singleton.mp m];exact wf
 ·have:=h.n
  rw [List.length_append,List.length_singleton]
  omega
 ·have hc:=h.c
  have e1:dQ mo d (rs ++ [r])=dQ mo d rs + cD mo d r:=by unfold dQ;rw [List.map_append,List.sum_append];simp
  have e2:wk * (y'.cells.length:Int)=wk * (cs.length:Int) + wk:=by rw [el,Int.natCast_succ,Int.mul_add,Int.mul_one]
  rw [e1]
  omega
theorem NAt.drop {d:Nat}{wk:Int}{H Hc H2:Hp}{s:La}{y y':Dy}{D:Addr}{xs:List V}{rs:List Rw}{cs:List Int}{c0:Int} (h:NAt E mo ex kn d wk H s y D Hc y' xs rs) (L0:dg E mo ex H s y) (d0:H D=none) (e:y'.cells=cs ++ [c0]) (wk0:0 <= wk) (g:Go s.M Hc s.M H2) (L2:dg E mo ex H2 s { y' with cells:=cs }):NAt E mo ex kn d wk H s y D H2 { y' with cells:=cs } xs rs:=by
 have dM:D ∉ s.M:=fun m=>L0.al D m d0
 have el:y'.cells.length=cs.length + 1:=by rw [e,List.length_append];rfl
 have hn:=h.n
 have hc:=h.c
 refine ⟨h.g.trans g,L2,g.o D _ dM h.hD,Paired.cm h.p fun _ _=>aZ.same fun a o ea=>?_,h.w,by dsimp only;omega,?_⟩
 ·obtain ⟨e1,e2⟩:=eO ea
  exact aV e1 (New.go g L0.al a o e2)
 ·have e2:wk * (y'.cells.length:Int)=wk * (cs.length:Int) + wk:=by rw [el,Int.natCast_succ,Int.mul_add,Int.mul_one]
  dsimp only
  omega
theorem sy (T:Txt K mg A) (d:Nat) (D_law_block:Has P w K mg base (2 * d + 7) "_law_block" ["_law_state","_law_cell","_law_kind_here","_law_deep","_law_loops"] (pE E mo ex kn wt d)):Has P w K mg base (2 * d + 8) "_law_nodes" ["_law_state","_law_deep","_law_loops"] (lQ E mo ex kn wt d):=by
 have D_law_kind:=AW (P:=P) (w:=w) (base:=base) (E:=E) (mo:=mo) (ex:=ex) T
 have D_law_plain:=zY (P:=P) (w:=w) (base:=base) (E:=E) (mo:=mo) (ex:=ex) T
 refine T.qp.has (k:=2 * d + 7) f7 (fun vs H Q E h=>?_) (fun f cdv A' outer s H vs Q E' hr hu h=>?_)
 ·obtain ⟨s,y,dp,k,rfl,_⟩:=h
  rfl
 ·obtain ⟨s,y,dp,k,rfl,hd,O,L,ek,W,hl,q⟩:=h
  refine ⟨_,(ab (aC (i:=3) f7.nd rfl (Or.inl rfl) (bE af))
  (ab (oW PassesOwn.never (ay (uQ hu) (px hu (fv 0) ai) (bE af) (az _))
   (ab (aC (i:=4) f7.nd rfl (Or.inl rfl) (Ay (px hu (fv 0) ai)))
   (ab (aC (i:=5) f7.nd rfl (Or.inl rfl) (ar (hj:=by omega) D_law_kind hr (aa (fv 0) (aa (fv 4) (aa (fv 1) (aa (fv 2) af))))))
   (ab (aO (ay (aT hu) (fv 5) ai (az _))
    (ag (r9))
    aH)
   (ag (aO (PW.pt (pw_or (ay (aT hu) (fv 5) ai (az _)) (pw_or1 (ay (aT hu) (fv 5) ai (az _)))))
    (ag (aP (bN (fv 3) (aa (ar (hj:=by omega) D_law_block hr (aa (fv 0) (aa (fv 4) (aa (fv 5) (aa (fv 1) (aa (fv 2) af)))))) af))))
    (ag (aP (bN (fv 3) (aa (ar (hj:=by omega) D_law_plain hr (aa (fv 0) (aa (fv 4) (aa (fv 5) af)))) af))))))))))
  (ag (aA (fv 3))))),?_⟩
  refine ⟨Nat.zero_le _,fun D hD=>?_⟩
  obtain ⟨s1,e1⟩:=alc hD (HO.lst [])
  generalize upd H D _=H1 at s1 e1 ⊢
  have N1:NAt E mo ex kn d (wt k) H s y D H1 y [] []:=⟨Go.new s1,L.same s1,e1,.nil,(fun _ z=>by cases z),(by simp),(by unfold dQ;simp)⟩
  dsimp only
  refine ax fun M1 K1=>?_
  have fin:∀(Hc:Hp) (y':Dy) (xs:List V) (rs:List Rw) (v4 v5:Option V),NAt E mo ex kn d (wt k) H s y D Hc y' xs rs->M1 [some (.ref s.S),some (.int dp),some (.int k),some (.ref D),v4,v5] Hc:=fun Hc y' xs rs v4 v5 N=>K1 _ _ (q D rs y' Hc N.g N.L ⟨xs,New.of hD N.hD,Paired.cm N.p (fun _ _=>aZ.same ao),N.w⟩ N.n N.c)
  refine ⟨fun m σ Hc=>∃(y':Dy) (xs:List V) (rs:List Rw) (v4 v5:Option V),m=y'.cells.length/\σ=[some (.ref s.S),some (.int dp),some (.int k),some (.ref D),v4,v5]/\NAt E mo ex kn d (wt k) H s y D Hc y' xs rs,⟨_,y,[],[],none,none,rfl,rfl,N1⟩,?_⟩
  rintro m σ Hc ⟨y',xs,rs,v4,v5,rfl,rfl,N⟩
  refine ⟨_,bu.k (k:=.inr "cells") N.L.dy.hS,Nat.zero_le _,fun l2 hl2=>?_⟩
  obtain ⟨s2,e2⟩:=alc hl2 (HO.lst [])
  generalize upd Hc l2 _=H2 at s2 e2 ⊢
  have N2:=N.same s2
  refine ⟨_,_,.lst (SqL.of N2.L.dy.hc) (dN.ints _),.lst (SqL.of e2) .nil,shaped_ints _,rfl,_,rfl,?_⟩
  by_cases em0:y'.cells=[]
  ·rw [em0]
   exact bw (fin _ _ _ _ _ _ N2)
  obtain ⟨cs,c0,ec⟩:∃cs c0,y'.cells=cs ++ [c0]:=⟨y'.cells.dropLast,y'.cells.getLast em0,(List.dropLast_concat_getLast em0).symm⟩
  have ev:((PyData.list (y'.cells.map PyData.int)).eqv (PyData.list []))=false:=by
   cases hm:y'.cells with
   | nil=>exact absurd hm em0
   | cons a r=>rfl
  rw [ev]
  refine cU ?_
  have el:y'.cells.length=cs.length + 1:=by rw [ec,List.length_append];rfl
  have nn:=N.n
  have xl:xs.length=rs.length:=Paired.length N.p
  refine ⟨fun σ' H'=>∃(y3:Dy) (xs:List V) (rs:List Rw) (v4 v5:Option V),y3.cells.length < y'.cells.length/\σ'=[some (.ref s.S),some (.int dp),some (.int k),some (.ref D),v4,v5]/\NAt E mo ex kn d (wt k) H s y D H' y3 xs rs,fun σ' H' ⟨y3,xs,rs,v4,v5,h1,h2,h3⟩=>⟨_,h1,y3,xs,rs,v4,v5,rfl,h2,h3⟩,?_⟩
  have hc2:=N2.L.dy.hc
  refine ⟨_,bu.k (k:=.inr "cells") N2.L.dy.hS,Or.inl ⟨rfl,_,SqL.of hc2⟩,_,_,.int c0,rfl,rfl,hc2,(by rw [ec];simp),?_⟩
  rw [show (y'.cells.map V.int).dropLast=cs.map V.int by rw [ec];simp]
  have L3:=N2.L.cell O cs
  have g3:Go s.M H2 s.M (upd H2 s.ll (.lst (cs.map V.int))):=Go.at (BW s) _
  generalize upd H2 s.ll (.lst (cs.map V.int))=H3 at L3 g3 ⊢
  refine ⟨s,_,c0,dp,k,rfl,O,L3,fun x H4 s4 h1 h2 h3=>?_⟩
  have L4:=L3.same s4
  have g4:Go s.M H2 s.M H4:=g3.trans (Go.new s4)
  have dM:D ∉ s.M:=fun m=>L.al D m hD
  have hD4:=g4.o D _ dM N2.hD
  have add:=fun {H5:Hp}{y5:Dy}{v:V}{r:Rw} (g5:Go s.M H4 s.M H5) (L5:dg E mo ex H5 s y5) (na:aZ E.N (New H4 H5) d v r) (wf:WfL E kn d r) (n2:y5.cells.length <= cs.length) (c2:cD mo d r + wt k * y5.cells.length <= wt k + wt k * cs.length)=>N2.add L hD ec g4 L4 g5 L5 na wf n2 c2
  dsimp only
  refine ax fun M2 K2=>?_
  refine ⟨rfl,_,rfl,aL (fun _=>?_) (fun _=>K2 _ _ ?_)⟩
  ·exact fin _ _ _ _ _ _ (N2.drop L hD ec (by have:=W.a k;omega) g4 L4)
  ·have d0:(x="if" \/ x="loop")->0 < d:=fun z=>by
    rcases z with z | z
    ·have:=h1 z;omega
    ·have:=(h2 z).1;omega
   have lx:xs.length <= 1000:=by omega
   refine ⟨rfl,_,rfl,aL (fun a=>cU ?b1) (fun a=>⟨rfl,_,rfl,aL (fun b=>?b2) (fun b=>?pl)⟩)⟩
   case pl =>
    refine ⟨Or.inl ⟨rfl,_,SqL.of hD4⟩,s,_,c0,x,rfl,O,L4,h3,fun v r y5 H5 g5 L5 ec5 na pr=>?_⟩
    have wa:=W.a k
    have c5:cD mo d r + wt k * y5.cells.length <= wt k + wt k * cs.length:=by
     rw [ec5]
     dsimp only
     rcases pr.2 with z | ⟨i,hi,z⟩
     ·rw [z d];omega
     ·rw [z d]
      have:=(W.c i hi).2 k
      omega
    obtain ⟨h5,N5⟩:=add g5 L5 (na d) (by rw [<- ek];exact pr.1 d) (by rw [ec5];exact Nat.le_refl _) c5
    exact ⟨_,_,_,rfl,rfl,h5,aM (by omega),y5,_,_,_,_,(by rw [ec5,el];exact Nat.lt_succ_self _),rfl,N5⟩
   all_goals
    have d1:0 < d:=d0 (by first | exact .inl (bj (by assumption)) | exact .inr (bj (by assumption)))
    refine ⟨Or.inl ⟨rfl,_,SqL.of hD4⟩,s,_,c0,x,dp,k,rfl,hd,d1,fun z=>(h2 z).2,O,L4,ek,W,(by dsimp only;omega),fun v r y5 H5 g5 L5 na wf n5 c5=>?_⟩
    obtain ⟨h5,N5⟩:=add g5 L5 na wf n5 c5
    exact ⟨_,_,_,rfl,rfl,h5,aM (by omega),y5,_,_,_,_,(by dsimp only at n5;omega),rfl,N5⟩
theorem yN (T:Txt K mg A):Has P w K mg base (2 * 0 + 7) "_law_block" ["_law_state","_law_cell","_law_kind_here","_law_deep","_law_loops"] (pE E mo ex kn wt 0):=by
 refine T.mH.has (k:=6) cC (fun vs H Q E h=>?_) (fun f cdv A' outer s H vs Q E' hr hu h=>?_)
 ·obtain ⟨s,y,c,x,dp,k,rfl,hd,z,_⟩:=h
  exact absurd z (Nat.lt_irrefl _)
 ·obtain ⟨s,y,c,x,dp,k,rfl,hd,z,_⟩:=h
  exact absurd z (Nat.lt_irrefl _)
theorem vn (T:Txt K mg A):∀d,Has P w K mg base (2 * d + 8) "_law_nodes" ["_law_state","_law_deep","_law_loops"] (lQ E mo ex kn wt d)
 | 0=>sy T 0 (yN T)
 | d + 1=>sy T (d + 1) (xI T d (vn T d))
end
section
variable {P:Program}{w:World}{K:W.Frag}{mg:Str->Option Value}{base:Heap}{A:Adr}{E:En}{kn:Nat}
seal PE PA PS PSs PT PW
def dW (A:Adr) (N:Nat->Str) (X:Hp):Nat->V->Rw->Prop
 | _,v,.set n x val=>∃a dx p,v=.ref a/\X a=some (.ins A.bX dx [("number",.int n),("name",.str (N x)),("value",.ref p)])/\X p=some (.tup (vV N val))
 | _,v,.put n x pl val=>∃a dx p,v=.ref a/\X a=some (.ins A.bP dx [("number",.int n),("name",.str (N x)),("place",pl.v N),("value",.ref p)])/\X p=some (.tup (vV N val))
 | _,v,.snd n h val=>∃a dx p,v=.ref a/\X a=some (.ins A.bp dx [("number",.int n),("name",.str (N h)),("value",.ref p)])/\X p=some (.tup (vV N val))
 | _,v,.say n x val m=>∃a dx p,v=.ref a/\X a=some (.ins A.bJ dx [("number",.int n),("name",.str (N x)),("value",.ref p),("mark",.str (N m))])/\X p=some (.tup (vV N val))
 | _,v,.last n=>∃a dx,v=.ref a/\X a=some (.ins A.cB dx [("number",.int n)])
 | _,v,.call n i ts=>∃a dx p,v=.ref a/\X a=some (.ins A.bI dx [("number",.int n),("name",.str (N (nmD i))),("things",.ref p)])/\X p=some (.lst (ts.map (Th.v N)))
 | d + 1,v,.iff n val f o l r=>∃a dx p pf po xf xo,v=.ref a/\X a=some (.ins A.bQ dx [("number",.int n),("value",.ref p),("first",.ref pf),("other",.ref po),("left",.int l),("right",.int r)])/\X p=some (.tup (vV N val))/\X pf=some (.lst xf)/\X po=some (.lst xo)/\Paired (dW A N X d) xf f/\Paired (dW A N X d) xo o
 | d + 1,v,.loop n t m b l r=>∃a dx pb xb,v=.ref a/\X a=some (.ins A.aW dx [("number",.int n),("thing",t.v N),("most",.int m),("body",.ref pb),("left",.int l),("right",.int r)])/\X pb=some (.lst xb)/\Paired (dW A N X d) xb b
 | 0,_,.iff _ _ _ _ _ _=>False
 | 0,_,.loop _ _ _ _ _ _=>False
theorem dW.same {N:Nat->Str}{X X':Hp} (s:aj X X'):∀{d:Nat}{v:V}{r:Rw},dW A N X d v r->dW A N X' d v r:=by
 have leafs:∀{d:Nat}{v:V}{r:Rw},(∀n v f o l q,r ≠ .iff n v f o l q)->(∀n t m b l q,r ≠ .loop n t m b l q)->dW A N X d v r->dW A N X' d v r:=by
  intro d v r i1 i2 h
  cases r with
  | iff n v f o l r=>exact absurd rfl (i1 _ _ _ _ _ _)
  | loop n t m b l r=>exact absurd rfl (i2 _ _ _ _ _ _)
  | last n=>cases d <;> (obtain ⟨a,dx,e,h1⟩:=h;exact ⟨a,dx,e,s _ _ h1⟩)
  | _=>cases d <;> (obtain ⟨a,dx,p,e,h1,h2⟩:=h;exact ⟨a,dx,p,e,s _ _ h1,s _ _ h2⟩)
 intro d
 induction d with
 | zero =>
  intro v r h
  cases r with
  | iff n v f o l r=>exact h.elim
  | loop n t m b l r=>exact h.elim
  | _=>exact leafs (fun _ _ _ _ _ _ z=>by cases z) (fun _ _ _ _ _ _ z=>by cases z) h
 | succ d ih =>
  intro v r h
  cases r with
  | iff n v f o l r =>
   obtain ⟨a,dx,p,pf,po,xf,xo,e,h1,h2,h3,h4,h5,h6⟩:=h
   exact ⟨a,dx,p,pf,po,xf,xo,e,s _ _ h1,s _ _ h2,s _ _ h3,s _ _ h4,Paired.cm h5 fun _ _=>ih,Paired.cm h6 fun _ _=>ih⟩
  | loop n t m b l r =>
   obtain ⟨a,dx,pb,xb,e,h1,h2,h3⟩:=h
   exact ⟨a,dx,pb,xb,e,s _ _ h1,s _ _ h2,Paired.cm h3 fun _ _=>ih⟩
  | _=>exact leafs (fun _ _ _ _ _ _ z=>by cases z) (fun _ _ _ _ _ _ z=>by cases z) h
theorem uK {H:Hp}{x dx:Addr}{R:VK}{v_number:V} (T:Txt K mg A) (hx:H x=none) (hd:H dx=none) (q:∀(H':Hp),aj H H'->H' x=some (.ins A.cB dx [("number",v_number)])->R .non H'):kz K A (.ref x :: ([v_number] ++ [])) (upd (upd H dx (.own x)) x (.ins A.cB dx [])) R E0 :=
 ⟨x,A.cB,dx,[],_,rfl,aq,T.aS.cl,T.fo,by decide,q _ (aj.out (aj.out (aj.upd hd _) hx _) hx _) aq⟩
def Mix (X H H':Hp):Hp:=fun a=>if X a ≠ none \/ H a=none then H' a else none
theorem Mix.get {X H H':Hp}{a:Addr}{o:HO} (h:Mix X H H' a=some o):(X a ≠ none \/ H a=none)/\H' a=some o:=by
 unfold Mix at h
 split at h
 ·exact ⟨by assumption,h⟩
 ·cases h
theorem Mix.of {X H H':Hp}{a:Addr}{o:HO} (h:X a ≠ none \/ H a=none) (e:H' a=some o):Mix X H H' a=some o:=by
 unfold Mix
 rw [if_pos h]
 exact e
theorem Mix.same {X H H':Hp}:aj (Mix X H H') H':=fun _ _ h=>(Mix.get h).2
def nR (A:Adr) (E:En) (kn d:Nat):Sp:=fun vs H Q _=>∃(B:Addr) (rs:List Rw) (X:Hp),vs=[.ref B]/\aj X H/\cN E kn d X B rs/\rs.length <= 1000/\∀(R:Addr) (ys:List V) (H':Hp),aj H H'->H R=none->H' R=some (.lst ys)->Paired (dW A E.N (del [R] (Mix X H H')) d) ys rs->Q (.ref R) H'
def yD (A:Adr) (E:En) (kn:Nat):Nat->Sp
 | 0=>fun _ _ _ _=>False
 | d + 1=>nR A E kn d
theorem u6 (T:Txt K mg A) (d:Nat) (D_law_made:Has P w K mg base (d + 4) "_law_made" ["_law_nodes_here"] (yD A E kn d)):Has P w K mg base (d + 5) "_law_made" ["_law_nodes_here"] (nR A E kn d):=by
 have D_SetRow_init:=pS (P:=P) (w:=w) (base:=base) T
 have D_PutRow_init:=pT (P:=P) (w:=w) (base:=base) T
 have D_SendRow_init:=pz (P:=P) (w:=w) (base:=base) T
 have D_SayRow_init:=pK (P:=P) (w:=w) (base:=base) T
 have D_CallRow_init:=pG (P:=P) (w:=w) (base:=base) T
 have D_IfRow_init:=rO (P:=P) (w:=w) (base:=base) T
 have D_LoopRow_init:=oI (P:=P) (w:=w) (base:=base) T
 have D_LastRow_init:=kN (P:=P) (w:=w) (mg:=mg) (base:=base) (A:=A) T.j9
 refine T.oT.has (k:=d + 4) fJ (fun vs H Q E h=>?_) (fun f cdv A' outer s H vs Q E' hr hu h=>?_)
 ·obtain ⟨B,rs,X,rfl,_⟩:=h
  rfl
 ·obtain ⟨B,rs,X,rfl,s0,⟨xs,hB0,pr,wf⟩,hl,q⟩:=h
  have hB:=s0 _ _ hB0
  refine ⟨_,(ab (aC (i:=1) fJ.nd rfl (Or.inl rfl) (bE af))
  (ab (dX PassesOwn.never rfl (fu (fv 0)) (pgn (i:=2) fJ.nd rfl)
   (ab (aC (i:=3) fJ.nd rfl (Or.inl rfl) (px hu (fv 2) ae))
   (ag (aO (ay (aT hu) (fv 3) ai (az _))
    (ag (aP (bN (fv 1) (aa (bW (hj:=by omega) T.bO D_SetRow_init hr (aa (px hu (fv 2) ae) (aa (px hu (fv 2) ae) (aa (px hu (fv 2) ae) af)))) af))))
    (ag (aO (ay (aT hu) (fv 3) ai (az _))
     (ag (aP (bN (fv 1) (aa (bW (hj:=by omega) T.bC D_PutRow_init hr (aa (px hu (fv 2) ae) (aa (px hu (fv 2) ae) (aa (px hu (fv 2) ae) (aa (px hu (fv 2) ae) af))))) af))))
     (ag (aO (ay (aT hu) (fv 3) ai (az _))
      (ag (aP (bN (fv 1) (aa (bW (hj:=by omega) T.aQ D_SendRow_init hr (aa (px hu (fv 2) ae) (aa (px hu (fv 2) ae) (aa (px hu (fv 2) ae) af)))) af))))
      (ag (aO (ay (aT hu) (fv 3) ai (az _))
       (ag (aP (bN (fv 1) (aa (bW (hj:=by omega) T.aR D_SayRow_init hr (aa (px hu (fv 2) ae) (aa (px hu (fv 2) ae) (aa (px hu (fv 2) ae) (aa (px hu (fv 2) ae) af))))) af))))
       (ag (aO (ay (aT hu) (fv 3) ai (az _))
        (ag (aP (bN (fv 1) (aa (bW (hj:=by omega) T.aS D_LastRow_init hr (aa (px hu (fv 2) ae) af)) af))))
        (ag (aO (ay (aT hu) (fv 3) ai (az _))
         (ag (aP (bN (fv 1) (aa (bW (hj:=by omega) T.aY D_CallRow_init hr (aa (px hu (fv 2) ae) (aa (px hu (fv 2) ae) (aa (bY vq rfl T.dE (by boot_by_name) (aa (px hu (fv 2) ae) af)) af)))) af))))
         (ag (aO (ay (aT hu) (fv 3) ai (az _))
          (ag (aP (bN (fv 1) (aa (bW (hj:=by omega) T.bz D_IfRow_init hr (aa (px hu (fv 2) ae) (aa (px hu (fv 2) ae) (aa (ar (hj:=by omega) D_law_made hr (aa (px hu (fv 2) ae) af)) (aa (ar (hj:=by omega) D_law_made hr (aa (px hu (fv 2) ae) af)) (aa (px hu (fv 2) ae) (aa (px hu (fv 2) ae) af))))))) af))))
          (ag (aP (bN (fv 1) (aa (bW (hj:=by omega) T.aN D_LoopRow_init hr (aa (px hu (fv 2) ae) (aa (px hu (fv 2) ae) (aa (px hu (fv 2) ae) (aa (ar (hj:=by omega) D_law_made hr (aa (px hu (fv 2) ae) af)) (aa (px hu (fv 2) ae) (aa (px hu (fv 2) ae) af))))))) af))))))))))))))))))))
  (ag (aA (fv 1))))),?_⟩
  refine ⟨Nat.zero_le _,fun R hR=>?_⟩
  obtain ⟨s1,e1⟩:=alc hR (HO.lst [])
  generalize upd H R _=H1 at s1 e1 ⊢
  have pl:=Paired.length pr
  refine Or.inl ⟨⟨_,SqL.of (s1 _ _ hB)⟩,?_⟩
  refine fL (K:=K) (xs:=xs) (fun i σ Hc=>∃(ys:List V) (v2 v3:Option V),σ=[some (.ref B),some (.ref R),v2,v3]/\aj H Hc/\Hc R=some (.lst ys)/\Paired (dW A E.N (del [R] (Mix X H Hc)) d) ys (rs.take i)) ⟨[],none,none,rfl,s1,e1,.nil⟩ (fun i σ Hc _ ⟨_,_,_,_,z,_⟩=>SqL.of (z _ _ hB)) ?_ ?_
  ·rintro i v σ Hc hv ⟨ys,v2,v3,rfl,sc,hRc,pc⟩
   obtain ⟨r,hr',na⟩:=cw pr hv
   have wr:=wf r (List.mem_of_getElem? hr')
   have sx:aj X Hc:=s0.trans sc
   have ly:ys.length <= 1000:=by rw [Paired.length pc,List.length_take];omega
   have od:∀{a:Addr}{o o':HO}{H6:Hp},X a=some o'->H6 a=some o->del [R] (Mix X H H6) a=some o:=fun {a o o' H6} e e6=>aV (fun m=>by
    have z:=s0 _ _ e
    rw [List.mem_singleton.mp m,hR] at z
    cases z) (Mix.of (.inl (by rw [e];exact fun z=>by cases z)) e6)
   have nw:∀{a:Addr}{o:HO}{Hn H6:Hp},aj Hc Hn->Hn a=none->H6 a=some o->del [R] (Mix X H H6) a=some o:=fun {a o Hn H6} z e e6=>aV (fun m=>by rw [List.mem_singleton.mp m,z _ _ hRc] at e;cases e) (Mix.of (.inr (Dm.new (sc.trans z) a e)) e6)
   have nest:∀{R1:Addr}{Hm H4 H6:Hp}{ys1:List V}{fs:List Rw}{d':Nat},aj Hc Hm->aj H4 H6->Paired (dW A E.N (del [R1] (Mix X Hm H4)) d') ys1 fs->Paired (dW A E.N (del [R] (Mix X H H6)) d') ys1 fs:=fun {R1 Hm H4 H6 ys1 fs d'} z1 z2 p1=>Paired.cm p1 fun _ _=>dW.same fun a o e=>by
    obtain ⟨_,e2⟩:=eO e
    obtain ⟨e3,e4⟩:=Mix.get e2
    rcases e3 with e3 | e3
    ·cases ex:X a with
     | none=>exact absurd ex e3
     | some o'=>exact od ex (z2 _ _ e4)
    ·exact nw z1 e3 (z2 _ _ e4)
   have add:∀(Hn:Hp) (y:V) (v2 v3:Option V),aj Hc Hn->dW A E.N (del [R] (Mix X H Hn)) d y r->Hn R=some (.lst ys)/\∃(zs:List V) (u2 u3:Option V),[some (V.ref B),some (.ref R),v2,v3]=[some (.ref B),some (.ref R),u2,u3]/\aj H (upd Hn R (.lst (ys ++ [y])))/\(upd Hn R (.lst (ys ++ [y]))) R=some (.lst zs)/\Paired (dW A E.N (del [R] (Mix X H (upd Hn R (.lst (ys ++ [y]))))) d) zs (rs.take (i + 1)):=fun Hn y v2 v3 z ra=>by
    have zz:∀{G:Hp},aj G Hn->aj (del [R] (Mix X H G)) (del [R] (Mix X H (upd Hn R (.lst (ys ++ [y]))))):=fun g2 a o e=>by
     obtain ⟨h1,h2⟩:=eO e
     obtain ⟨h3,h4⟩:=Mix.get h2
     exact aV h1 (Mix.of h3 (ah (fun z=>h1 (by rw [z];exact List.mem_cons_self)) (g2 _ _ h4)))
    refine ⟨z _ _ hRc,_,v2,v3,rfl,aj.out (sc.trans z) hR _,aq,?_⟩
    rw [take_snoc hr']
    exact Paired.snoc (ra.same (zz (aj.refl _))) (Paired.cm pc fun _ _=>dW.same (zz z))
   cases r with
   | set n x vl =>
    obtain ⟨a,p,rfl,ea,ep⟩:∃a p,v=.ref a/\X a=some (.tup [.int n,.str "set",.str (E.N x),.ref p])/\X p=some (.tup (vV E.N vl)):=by cases d <;> exact na
    have ea':=SqT.of (K:=K) (sx _ _ ea)
    refine Or.inl ⟨_,_,Or.inr ea',rfl,?_⟩
    refine ⟨rfl,_,rfl,aL (fun _=>?_) (fun z=>absurd rfl (fD z))⟩
    refine ⟨Or.inl ⟨rfl,_,SqL.of hRc⟩,Or.inl ⟨_,_,Or.inr ea',rfl,Or.inl ⟨_,_,Or.inr ea',rfl,Or.inl ⟨_,_,Or.inr ea',rfl,?_⟩⟩⟩⟩
    refine fun r6 dx hr6 hd_ hne_=>wN hr6 hd_ fun H6 s6 hx=>⟨rfl,?_⟩
    have row:dW A E.N (del [R] (Mix X H H6)) d (.ref r6) (.set n x vl):=by
     have:∃a dx p,V.ref r6=.ref a/\del [R] (Mix X H H6) a=some (.ins A.bX dx [("number",.int n),("name",.str (E.N x)),("value",.ref p)])/\del [R] (Mix X H H6) p=some (.tup (vV E.N vl)):=⟨r6,dx,p,rfl,nw (aj.refl _) hr6 hx,od ep (s6 _ _ (sx _ _ ep))⟩
     cases d <;> exact this
    obtain ⟨h5,h6⟩:=add H6 (.ref r6) _ _ s6 row
    exact ⟨_,_,_,rfl,rfl,h5,aM (by omega),h6⟩
   | put n x pl vl =>
    obtain ⟨a,p,rfl,ea,ep⟩:∃a p,v=.ref a/\X a=some (.tup [.int n,.str "put",.str (E.N x),pl.v E.N,.ref p])/\X p=some (.tup (vV E.N vl)):=by cases d <;> exact na
    have ea':=SqT.of (K:=K) (sx _ _ ea)
    refine Or.inl ⟨_,_,Or.inr ea',rfl,?_⟩
    refine ⟨rfl,_,rfl,aL (fun z=>absurd (bj z) (by decide)) (fun _=>?_)⟩
    refine ⟨rfl,_,rfl,aL (fun _=>?_) (fun z=>absurd rfl (fD z))⟩
    refine ⟨Or.inl ⟨rfl,_,SqL.of hRc⟩,Or.inl ⟨_,_,Or.inr ea',rfl,Or.inl ⟨_,_,Or.inr ea',rfl,Or.inl ⟨_,_,Or.inr ea',rfl,Or.inl ⟨_,_,Or.inr ea',rfl,?_⟩⟩⟩⟩⟩
    refine fun r6 dx hr6 hd_ hne_=>wD hr6 hd_ fun H6 s6 hx=>⟨rfl,?_⟩
    have row:dW A E.N (del [R] (Mix X H H6)) d (.ref r6) (.put n x pl vl):=by
     have:∃a dx p,V.ref r6=.ref a/\del [R] (Mix X H H6) a=some (.ins A.bP dx [("number",.int n),("name",.str (E.N x)),("place",pl.v E.N),("value",.ref p)])/\del [R] (Mix X H H6) p=some (.tup (vV E.N vl)):=⟨r6,dx,p,rfl,nw (aj.refl _) hr6 hx,od ep (s6 _ _ (sx _ _ ep))⟩
     cases d <;> exact this
    obtain ⟨h5,h6⟩:=add H6 (.ref r6) _ _ s6 row
    exact ⟨_,_,_,rfl,rfl,h5,aM (by omega),h6⟩
   | snd n x vl =>
    obtain ⟨a,p,rfl,ea,ep⟩:∃a p,v=.ref a/\X a=some (.tup [.int n,.str "send",.str (E.N x),.ref p])/\X p=some (.tup (vV E.N vl)):=by cases d <;> exact na
    have ea':=SqT.of (K:=K) (sx _ _ ea)
    refine Or.inl ⟨_,_,Or.inr ea',rfl,?_⟩
    refine ⟨rfl,_,rfl,aL (fun z=>absurd (bj z) (by decide)) (fun _=>?_)⟩
    refine ⟨rfl,_,rfl,aL (fun z=>absurd (bj z) (by decide)) (fun _=>?_)⟩
    refine ⟨rfl,_,rfl,aL (fun _=>?_) (fun z=>absurd rfl (fD z))⟩
    refine ⟨Or.inl ⟨rfl,_,SqL.of hRc⟩,Or.inl ⟨_,_,Or.inr ea',rfl,Or.inl ⟨_,_,Or.inr ea',rfl,Or.inl ⟨_,_,Or.inr ea',rfl,?_⟩⟩⟩⟩
    refine fun r6 dx hr6 hd_ hne_=>uk hr6 hd_ fun H6 s6 hx=>⟨rfl,?_⟩
    have row:dW A E.N (del [R] (Mix X H H6)) d (.ref r6) (.snd n x vl):=by
     have:∃a dx p,V.ref r6=.ref a/\del [R] (Mix X H H6) a=some (.ins A.bp dx [("number",.int n),("name",.str (E.N x)),("value",.ref p)])/\del [R] (Mix X H H6) p=some (.tup (vV E.N vl)):=⟨r6,dx,p,rfl,nw (aj.refl _) hr6 hx,od ep (s6 _ _ (sx _ _ ep))⟩
     cases d <;> exact this
    obtain ⟨h5,h6⟩:=add H6 (.ref r6) _ _ s6 row
    exact ⟨_,_,_,rfl,rfl,h5,aM (by omega),h6⟩
   | say n x vl m =>
    obtain ⟨a,p,rfl,ea,ep⟩:∃a p,v=.ref a/\X a=some (.tup [.int n,.str "say",.str (E.N x),.ref p,.str (E.N m)])/\X p=some (.tup (vV E.N vl)):=by cases d <;> exact na
    have ea':=SqT.of (K:=K) (sx _ _ ea)
    refine Or.inl ⟨_,_,Or.inr ea',rfl,?_⟩
    refine ⟨rfl,_,rfl,aL (fun z=>absurd (bj z) (by decide)) (fun _=>?_)⟩
    refine ⟨rfl,_,rfl,aL (fun z=>absurd (bj z) (by decide)) (fun _=>?_)⟩
    refine ⟨rfl,_,rfl,aL (fun z=>absurd (bj z) (by decide)) (fun _=>?_)⟩
    refine ⟨rfl,_,rfl,aL (fun _=>?_) (fun z=>absurd rfl (fD z))⟩
    refine ⟨Or.inl ⟨rfl,_,SqL.of hRc⟩,Or.inl ⟨_,_,Or.inr ea',rfl,Or.inl ⟨_,_,Or.inr ea',rfl,Or.inl ⟨_,_,Or.inr ea',rfl,Or.inl ⟨_,_,Or.inr ea',rfl,?_⟩⟩⟩⟩⟩
    refine fun r6 dx hr6 hd_ hne_=>vM hr6 hd_ fun H6 s6 hx=>⟨rfl,?_⟩
    have row:dW A E.N (del [R] (Mix X H H6)) d (.ref r6) (.say n x vl m):=by
     have:∃a dx p,V.ref r6=.ref a/\del [R] (Mix X H H6) a=some (.ins A.bJ dx [("number",.int n),("name",.str (E.N x)),("value",.ref p),("mark",.str (E.N m))])/\del [R] (Mix X H H6) p=some (.tup (vV E.N vl)):=⟨r6,dx,p,rfl,nw (aj.refl _) hr6 hx,od ep (s6 _ _ (sx _ _ ep))⟩
     cases d <;> exact this
    obtain ⟨h5,h6⟩:=add H6 (.ref r6) _ _ s6 row
    exact ⟨_,_,_,rfl,rfl,h5,aM (by omega),h6⟩
   | last n =>
    obtain ⟨a,rfl,ea⟩:∃a,v=.ref a/\X a=some (.tup [.int n,.str "last"]):=by cases d <;> exact na
    have ea':=SqT.of (K:=K) (sx _ _ ea)
    refine Or.inl ⟨_,_,Or.inr ea',rfl,?_⟩
    refine ⟨rfl,_,rfl,aL (fun z=>absurd (bj z) (by decide)) (fun _=>?_)⟩
    refine ⟨rfl,_,rfl,aL (fun z=>absurd (bj z) (by decide)) (fun _=>?_)⟩
    refine ⟨rfl,_,rfl,aL (fun z=>absurd (bj z) (by decide)) (fun _=>?_)⟩
    refine ⟨rfl,_,rfl,aL (fun z=>absurd (bj z) (by decide)) (fun _=>?_)⟩
    refine ⟨rfl,_,rfl,aL (fun _=>?_) (fun z=>absurd rfl (fD z))⟩
    refine ⟨Or.inl ⟨rfl,_,SqL.of hRc⟩,Or.inl ⟨_,_,Or.inr ea',rfl,?_⟩⟩
    refine fun r6 dx hr6 hd_ hne_=>uK T hr6 hd_ fun H6 s6 hx=>⟨rfl,?_⟩
    have row:dW A E.N (del [R] (Mix X H H6)) d (.ref r6) (.last n):=by
     have:∃a dx,V.ref r6=.ref a/\del [R] (Mix X H H6) a=some (.ins A.cB dx [("number",.int n)]):=⟨r6,dx,rfl,nw (aj.refl _) hr6 hx⟩
     cases d <;> exact this
    obtain ⟨h5,h6⟩:=add H6 (.ref r6) _ _ s6 row
    exact ⟨_,_,_,rfl,rfl,h5,aM (by omega),h6⟩
   | call n ci ts =>
    obtain ⟨a,p,rfl,ea,ep⟩:∃a p,v=.ref a/\X a=some (.tup [.int n,.str "call",.str (E.N (nmD ci)),.ref p])/\X p=some (.lst (ts.map (Th.v E.N))):=by cases d <;> exact na
    have ea':=SqT.of (K:=K) (sx _ _ ea)
    refine Or.inl ⟨_,_,Or.inr ea',rfl,?_⟩
    refine ⟨rfl,_,rfl,aL (fun z=>absurd (bj z) (by decide)) (fun _=>?_)⟩
    refine ⟨rfl,_,rfl,aL (fun z=>absurd (bj z) (by decide)) (fun _=>?_)⟩
    refine ⟨rfl,_,rfl,aL (fun z=>absurd (bj z) (by decide)) (fun _=>?_)⟩
    refine ⟨rfl,_,rfl,aL (fun z=>absurd (bj z) (by decide)) (fun _=>?_)⟩
    refine ⟨rfl,_,rfl,aL (fun z=>absurd (bj z) (by decide)) (fun _=>?_)⟩
    refine ⟨rfl,_,rfl,aL (fun _=>?_) (fun z=>absurd rfl (fD z))⟩
    refine ⟨Or.inl ⟨rfl,_,SqL.of hRc⟩,Or.inl ⟨_,_,Or.inr ea',rfl,Or.inl ⟨_,_,Or.inr ea',rfl,Or.inl ⟨_,_,Or.inr ea',rfl,?_⟩⟩⟩⟩
    refine Or.inl ⟨p,_,rfl,Or.inl (SqL.of (sx _ _ ep)),fun l5 hl5=>?_⟩
    obtain ⟨s5,e5⟩:=alc hl5 (HO.lst (ts.map (Th.v E.N)))
    generalize upd Hc l5 _=H5 at s5 e5 ⊢
    refine fun r6 dx hr6 hd_ hne_=>tW (SqL.of e5) hr6 hd_ fun n6 H6 f6 s6 h6 hx=>⟨rfl,?_⟩
    have row:dW A E.N (del [R] (Mix X H H6)) d (.ref r6) (.call n ci ts):=by
     have:∃a dx p,V.ref r6=.ref a/\del [R] (Mix X H H6) a=some (.ins A.bI dx [("number",.int n),("name",.str (E.N (nmD ci))),("things",.ref p)])/\del [R] (Mix X H H6) p=some (.lst (ts.map (Th.v E.N))):=⟨r6,dx,n6,rfl,nw s5 hr6 hx,nw s5 f6 h6⟩
     cases d <;> exact this
    obtain ⟨h5,h6⟩:=add H6 (.ref r6) _ _ (s5.trans s6) row
    exact ⟨_,_,_,rfl,rfl,h5,aM (by omega),h6⟩
   | iff n vl fs os l r0 =>
    cases d with
    | zero=>exact (show False from na).elim
    | succ d =>
     obtain ⟨a,p,pf,po,xf,xo,rfl,ea,ep,hf,ho,pf',po'⟩:=na
     obtain ⟨_,l0,r1,l1,l2,w1,w2⟩:=wr
     have ea':=SqT.of (K:=K) (sx _ _ ea)
     refine Or.inl ⟨_,_,Or.inr ea',rfl,?_⟩
     refine ⟨rfl,_,rfl,aL (fun z=>absurd (bj z) (by decide)) (fun _=>?_)⟩
     refine ⟨rfl,_,rfl,aL (fun z=>absurd (bj z) (by decide)) (fun _=>?_)⟩
     refine ⟨rfl,_,rfl,aL (fun z=>absurd (bj z) (by decide)) (fun _=>?_)⟩
     refine ⟨rfl,_,rfl,aL (fun z=>absurd (bj z) (by decide)) (fun _=>?_)⟩
     refine ⟨rfl,_,rfl,aL (fun z=>absurd (bj z) (by decide)) (fun _=>?_)⟩
     refine ⟨rfl,_,rfl,aL (fun z=>absurd (bj z) (by decide)) (fun _=>?_)⟩
     refine ⟨rfl,_,rfl,aL (fun _=>?_) (fun z=>absurd rfl (fD z))⟩
     refine ⟨Or.inl ⟨rfl,_,SqL.of hRc⟩,Or.inl ⟨_,_,Or.inr ea',rfl,Or.inl ⟨_,_,Or.inr ea',rfl,Or.inl ⟨_,_,Or.inr ea',rfl,?_⟩⟩⟩⟩
     refine ⟨pf,fs,X,rfl,sx,⟨xf,hf,pf',w1⟩,l1,fun R1 ys1 H4 s4 hR1 eR1 p1=>?_⟩
     refine Or.inl ⟨_,_,Or.inr (SqT.of ((sx.trans s4) _ _ ea)),rfl,?_⟩
     refine ⟨po,os,X,rfl,sx.trans s4,⟨xo,ho,po',w2⟩,l2,fun R2 ys2 H5 s5 hR2 eR2 p2=>?_⟩
     have s45:=s4.trans s5
     have ea5:=SqT.of (K:=K) ((sx.trans s45) _ _ ea)
     refine Or.inl ⟨_,_,Or.inr ea5,rfl,Or.inl ⟨_,_,Or.inr ea5,rfl,?_⟩⟩
     refine fun r6 dx hr6 hd_ hne_=>w6 (SqL.of (s5 _ _ eR1)) (SqL.of eR2) hr6 hd_ fun n1 n2 H6 f1 f2 s6 h1 h2 hx=>⟨rfl,?_⟩
     have row:dW A E.N (del [R] (Mix X H H6)) (d + 1) (.ref r6) (.iff n vl fs os l r0):=⟨r6,dx,p,n1,n2,ys1,ys2,rfl,nw s45 hr6 hx,od ep ((sx.trans (s45.trans s6)) _ _ ep),nw s45 f1 h1,nw s45 f2 h2,nest (aj.refl _) (s5.trans s6) p1,nest s4 s6 p2⟩
     obtain ⟨h5,h6⟩:=add H6 (.ref r6) _ _ (s45.trans s6) row
     exact ⟨_,_,_,rfl,rfl,h5,aM (by omega),h6⟩
   | loop n th m bs l r0 =>
    cases d with
    | zero=>exact (show False from na).elim
    | succ d =>
     obtain ⟨a,pb,xb,rfl,ea,hb,pb'⟩:=na
     obtain ⟨_,m0,m1,l0,r1,l1,w1⟩:=wr
     have ea':=SqT.of (K:=K) (sx _ _ ea)
     refine Or.inl ⟨_,_,Or.inr ea',rfl,?_⟩
     refine ⟨rfl,_,rfl,aL (fun z=>absurd (bj z) (by decide)) (fun _=>?_)⟩
     refine ⟨rfl,_,rfl,aL (fun z=>absurd (bj z) (by decide)) (fun _=>?_)⟩
     refine ⟨rfl,_,rfl,aL (fun z=>absurd (bj z) (by decide)) (fun _=>?_)⟩
     refine ⟨rfl,_,rfl,aL (fun z=>absurd (bj z) (by decide)) (fun _=>?_)⟩
     refine ⟨rfl,_,rfl,aL (fun z=>absurd (bj z) (by decide)) (fun _=>?_)⟩
     refine ⟨rfl,_,rfl,aL (fun z=>absurd (bj z) (by decide)) (fun _=>?_)⟩
     refine ⟨rfl,_,rfl,aL (fun z=>absurd (bj z) (by decide)) (fun _=>?_)⟩
     refine ⟨Or.inl ⟨rfl,_,SqL.of hRc⟩,Or.inl ⟨_,_,Or.inr ea',rfl,Or.inl ⟨_,_,Or.inr ea',rfl,Or.inl ⟨_,_,Or.inr ea',rfl,Or.inl ⟨_,_,Or.inr ea',rfl,?_⟩⟩⟩⟩⟩
     refine ⟨pb,bs,X,rfl,sx,⟨xb,hb,pb',w1⟩,l1,fun R1 ys1 H4 s4 hR1 eR1 p1=>?_⟩
     have ea5:=SqT.of (K:=K) ((sx.trans s4) _ _ ea)
     refine Or.inl ⟨_,_,Or.inr ea5,rfl,Or.inl ⟨_,_,Or.inr ea5,rfl,?_⟩⟩
     refine fun r6 dx hr6 hd_ hne_=>uO (SqL.of eR1) hr6 hd_ fun n1 H6 f1 s6 h1 hx=>⟨rfl,?_⟩
     have row:dW A E.N (del [R] (Mix X H H6)) (d + 1) (.ref r6) (.loop n th m bs l r0):=⟨r6,dx,n1,ys1,rfl,nw s4 hr6 hx,nw s4 f1 h1,nest (aj.refl _) s6 p1⟩
     obtain ⟨h5,h6⟩:=add H6 (.ref r6) _ _ (s4.trans s6) row
     exact ⟨_,_,_,rfl,rfl,h5,aM (by omega),h6⟩
  ·rintro σ Hc ⟨ys,v2,v3,rfl,sc,hRc,pc⟩
   rw [List.take_of_length_le (by omega)] at pc
   exact q R ys Hc sc hR hRc pc
theorem yi (T:Txt K mg A):∀d,Has P w K mg base (d + 5) "_law_made" ["_law_nodes_here"] (nR A E kn d)
 | 0=>u6 T 0 (T.oT.has (k:=3) fJ (fun _ _ _ _ h=>h.elim) (fun _ _ _ _ _ _ _ _ _ _ _ h=>h.elim))
 | d + 1=>u6 T (d + 1) (yi T d)
end
section
variable {A:Adr}{E:En}{mo:Nat->Int}{kn c:Nat}
def ug (E:En) (mo:Nat->Int) (kn c:Nat):Prop:=∀i < kn,∃D:Dd,E.ds[i]?=some D/\D.nm=nmD i/\D.parts.length=i + 1/\(∀r ∈ D.body,Wf E c r)/\mo i=(D.body.map (aE E c)).sum
def oU (E:En) (mo:Nat->Int) (c d:Nat) (r:Rw):Prop:=Wf E (d + c + 1) r/\aE E (d + c + 1) r=cD mo d r
theorem nj (O:ug E mo kn c) (k2:kn <= 2) {d:Nat}{n:Int}{i:Nat}{ts:List Th} (h:i < kn/\ts.length=i + 1/\∀t ∈ ts,t.ok E):oU E mo c d (.call n i ts):=by
 obtain ⟨D,h1,_,h2,h3,h4⟩:=O i h.1
 have hl:=h.2.1
 have hi:=h.1
 have m1:D.body.map (aE E (d + c))=D.body.map (aE E c):=map_eq fun r hr=>u9 (by omega) (h3 r hr)
 refine ⟨⟨h.2.2,by omega,D,h1,by omega,fun r hr=>?_⟩,?_⟩
 ·have:=(h3 r hr).upN (n:=d)
  rw [Nat.add_comm c d] at this
  exact this
 ·unfold aE
  rw [h1]
  dsimp only
  rw [m1,<- h4]
  cases d <;> rfl
theorem ux (O:ug E mo kn c) (k2:kn <= 2):∀(d:Nat) (r:Rw),WfL E kn d r->oU E mo c d r:=by
 intro d
 induction d with
 | zero =>
  intro r h
  cases r with
  | call n i ts=>exact nj O k2 h
  | iff=>exact (show False from h).elim
  | loop=>exact (show False from h).elim
  | _=>exact ⟨h,rfl⟩
 | succ d ih =>
  intro r h
  have ed:d + 1 + c + 1=(d + c + 1) + 1:=by omega
  cases r with
  | call n i ts=>exact nj O k2 h
  | iff n v f o l r =>
   obtain ⟨hv,l0,r0,l1,l2,w1,w2⟩:=h
   have f1:f.map (aE E (d + c + 1))=f.map (cD mo d):=map_eq fun r hr=>(ih r (w1 r hr)).2
   have f2:o.map (aE E (d + c + 1))=o.map (cD mo d):=map_eq fun r hr=>(ih r (w2 r hr)).2
   unfold oU
   rw [ed]
   refine ⟨⟨hv,l0,r0,fun q hq=>(ih q (w1 q hq)).1,fun q hq=>(ih q (w2 q hq)).1⟩,?_⟩
   ·unfold aE cD jn
    rw [f1,f2]
    split <;> split <;> omega
  | loop n t m b l r =>
   obtain ⟨ht,m0,m1,l0,r0,l1,w1⟩:=h
   have f1:b.map (aE E (d + c + 1))=b.map (cD mo d):=map_eq fun r hr=>(ih r (w1 r hr)).2
   unfold oU
   rw [ed]
   refine ⟨⟨ht,m0,m1,l0,r0,fun q hq=>(ih q (w1 q hq)).1⟩,?_⟩
   ·unfold aE cD jn
    rw [f1,Int.add_comm l]
  | _=>exact ⟨h,rfl⟩
theorem gP {α β:Type}{F G:α->β->Prop}:∀{xs:List α}{ys:List β},Paired F xs ys->(∀a b,b ∈ ys->F a b->G a b)->Paired G xs ys
 | _,_,.nil,_=>.nil
 | _,_,.cons h r,f=>.cons (f _ _ List.mem_cons_self h) (gP r fun a b m=>f a b (List.mem_cons_of_mem _ m))
def ze (A:Adr) (E:En) (X:Hp) (kn c:Nat):Prop:=∀i < kn,∀D,E.ds[i]?=some D->∃da dy dn pp pb xs,E.dv[i]?=some (.ref da)/\X da=some (.ins A.bq dy [("number",dn),("name",.str (E.N D.nm)),("parts",.ref pp),("body",.ref pb)])/\X pp=some (.lst (D.parts.map fun j=>V.str (E.N j)))/\X pb=some (.lst xs)/\Paired (cu A E X c) xs D.body
theorem dW.at {X:Hp} (O:ug E mo kn c) (Vd:ze A E X kn c):∀(d:Nat) (v:V) (r:Rw),WfL E kn d r->dW A E.N X d v r->cu A E X (d + c + 1) v r:=by
 have call:∀(d:Nat) (v:V) (n:Int) (i:Nat) (ts:List Th),i < kn->(∃a dx p,v=.ref a/\X a=some (.ins A.bI dx [("number",.int n),("name",.str (E.N (nmD i))),("things",.ref p)])/\X p=some (.lst (ts.map (Th.v E.N))))->cu A E X (d + c + 1) v (.call n i ts):=fun d v n i ts hi ⟨a,dx,p,e,h1,h2⟩=>by
  obtain ⟨D,g1,g2,_⟩:=O i hi
  obtain ⟨da,dy,dn,pp,pb,xs,v1,v2,v3,v4,v5⟩:=Vd i hi D g1
  refine ⟨a,dx,p,D,e,g1,by rw [g2];exact h1,h2,da,dy,dn,pp,pb,xs,v1,v2,v3,v4,Paired.cm v5 fun _ _ z=>?_⟩
  have:=z.upN (n:=d)
  rw [Nat.add_comm c d] at this
  exact this
 intro d
 induction d with
 | zero =>
  intro v r w h
  cases r with
  | call n i ts=>exact call 0 v n i ts w.1 h
  | iff=>exact (show False from w).elim
  | loop=>exact (show False from w).elim
  | _=>exact h
 | succ d ih =>
  intro v r w h
  have ed:d + 1 + c + 1=(d + c + 1) + 1:=by omega
  cases r with
  | call n i ts=>exact call (d + 1) v n i ts w.1 h
  | iff n vl f o l q =>
   obtain ⟨_,_,_,_,_,w1,w2⟩:=w
   obtain ⟨a,dx,p,pf,po,xf,xo,e,h1,h2,h3,h4,h5,h6⟩:=h
   rw [ed]
   exact ⟨a,dx,p,pf,po,xf,xo,e,h1,h2,h3,h4,gP h5 fun v r m z=>ih v r (w1 r m) z,gP h6 fun v r m z=>ih v r (w2 r m) z⟩
  | loop n t m b l q =>
   obtain ⟨_,_,_,_,_,_,w1⟩:=w
   obtain ⟨a,dx,pb,xb,e,h1,h2,h3⟩:=h
   rw [ed]
   exact ⟨a,dx,pb,xb,e,h1,h2,gP h3 fun v r m z=>ih v r (w1 r m) z⟩
  | _=>exact h
end
section
variable {P:Program}{w:World}{K:W.Frag}{mg:Str->Option Value}{base:Heap}{A:Adr}{N:Nat->Str}
seal PE PA PS PSs PT PW
def z5 (c:Int):Nat:=(1 + c / 11 % 20).toNat
def z9 (c:Int):Nat:=(1 + c / 220 % 20).toNat
theorem Eh (c:Int):((z5 c:Nat):Int)=1 + c / 11 % 20:=by unfold z5;omega
theorem Di (c:Int):((z9 c:Nat):Int)=1 + c / 220 % 20:=by unfold z9;omega
def eT (c:Int):List Hd:=[.hand 0,.hand 1,.giv 2 0,.giv 3 0,.giv 4 0,.giv 5 (z5 c),.own 6 0,.own 7 0,.own 8 0,.own 9 (z9 c),.lt 10,.lt 11,.lt 12]
structure HdS (A:Adr) (N:Nat->Str) (H:Hp) (L:Addr) (Hc:Hp) (xs:List V) (hs:List Hd):Prop where
 s:aj H Hc
 e:Hc L=some (.lst xs)
 p:Paired (lI A N (del [L] Hc)) xs hs
theorem HdS.add {H Hc H6:Hp}{L r:Addr}{xs:List V}{hs:List Hd}{h:Hd} (D:HdS A N H L Hc xs hs) (L0:H L=none) (s:aj Hc H6) (hr:Hc r=none) (hx:∀X:Hp,(∀o,H6 r=some o->X r=some o)->lI A N X (.ref r) h):H6 L=some (.lst xs)/\HdS A N H L (upd H6 L (.lst (xs ++ [.ref r]))) (xs ++ [.ref r]) (hs ++ [h]):=by
 have rL:r ≠ L:=fun z=>by rw [z,D.e] at hr;cases hr
 have z:aj (del [L] Hc) (del [L] (upd H6 L (.lst (xs ++ [.ref r])))):=fun a o e=>by
  obtain ⟨h1,h2⟩:=eO e
  exact aV h1 (ah (fun z=>h1 (by rw [z];exact List.mem_cons_self)) (s _ _ h2))
 refine ⟨s _ _ D.e,aj.out (D.s.trans s) L0 _,aq,Paired.snoc (hx _ fun o e=>?_) (Paired.cm D.p fun _ _=>lI.same z)⟩
 exact aV (fun m=>rL (List.mem_singleton.mp m)) (ah rL e)
theorem HdS.len {H Hc:Hp}{L:Addr}{xs:List V}{hs:List Hd} (D:HdS A N H L Hc xs hs):xs.length=hs.length:=Paired.length D.p
def sH (A:Adr) (N:Nat->Str):Sp:=fun vs H Q _=>∃(ln:Addr) (c:Int),vs=[.ref ln,.int c]/\H ln=some (.lst (nmL N))/\∀(L:Addr) (xs:List V) (H':Hp),aj H H'->H L=none->H' L=some (.lst xs)->Paired (lI A N H') xs (eT c)->Q (.ref L) H'
theorem zR (T:Txt K mg A):Has P w K mg base 5 "_law_heads" ["_law_names","_law_cell"] (sH A N):=by
 have D_HandRow_init:=oK (P:=P) (w:=w) (base:=base) T
 have D_GivenRow_init:=nz (P:=P) (w:=w) (base:=base) T
 have D_OwnRow_init:=pV (P:=P) (w:=w) (base:=base) T
 have D_LetRow_init:=pR (P:=P) (w:=w) (base:=base) T
 refine T.pX.has (k:=4) eZ (fun vs H Q E h=>?_) (fun f cdv A' outer s H vs Q E' hr hu h=>?_)
 ·obtain ⟨ln,c,rfl,_⟩:=h
  rfl
 ·obtain ⟨ln,c,rfl,hn,q⟩:=h
  have at':∀(Hc:Hp),aj H Hc->∀j:Nat,j < 18->SqL K Hc ln (nmL N)/\atI (nmL N) (j:Int)=some (.str (N j)):=fun Hc z j hj=>⟨SqL.of (z _ _ hn),cA N hj⟩
  refine ⟨_,(ab (aC (i:=2) eZ.nd rfl (Or.inl rfl) (bE (aa (bW T.cH D_HandRow_init hr (aa ae (aa (px hu (fv 0) ae) (aa (aw bF (fv 1) ae) af)))) (aa (bW T.cH D_HandRow_init hr (aa ae (aa (px hu (fv 0) ae) (aa (aw bF (aw bT (fv 1) ae) ae) af)))) af))))
  (ab (dX PassesOwn.never rfl (gi rfl T.cZ (aa ae (aa ae af))) (pgn (i:=3) eZ.nd rfl)
   (ag (aP (bN (fv 2) (aa (bW T.bh D_GivenRow_init hr (aa (aw bL (fv 3) ae) (aa (px hu (fv 0) (fv 3)) (aa (aw bF (aw bF (aw bT (fv 1) ae) (aw bL (fv 3) ae)) ae) (aa ae af))))) af)))))
  (ab (aP (bN (fv 2) (aa (bW T.bh D_GivenRow_init hr (aa ae (aa (px hu (fv 0) ae) (aa (aw bF (aw bT (fv 1) ae) ae) (aa (aw bL ae (aw bF (aw bT (fv 1) ae) ae)) af))))) af)))
  (ab (dX PassesOwn.never rfl (gi rfl T.cZ (aa ae (aa ae af))) (pgn (i:=3) eZ.nd rfl)
   (ag (aP (bN (fv 2) (aa (bW T.bH D_OwnRow_init hr (aa (aw bL (fv 3) ae) (aa (px hu (fv 0) (fv 3)) (aa ae af)))) af)))))
  (ab (aP (bN (fv 2) (aa (bW T.bH D_OwnRow_init hr (aa ae (aa (px hu (fv 0) ae) (aa (aw bL ae (aw bF (aw bT (fv 1) ae) ae)) af)))) af)))
  (ab (dX PassesOwn.never rfl (gi rfl T.cZ (aa ae (aa ae af))) (pgn (i:=3) eZ.nd rfl)
   (ag (aP (bN (fv 2) (aa (bW T.dJ D_LetRow_init hr (aa (aw bL (fv 3) ae) (aa (px hu (fv 0) (fv 3)) (aa (aw bF (aw bF (aw bT (fv 1) ae) (fv 3)) ae) af)))) af)))))
  (ag (aA (fv 2))))))))),?_⟩
  refine Or.inl ⟨_,_,Or.inl (SqL.of hn),cA N (i:=0) (by decide),(by show (0:Int) < 3;decide),?_⟩
  refine fun r1 dx1 hr1 hd_ hne_=>nT hr1 hd_ fun H1 s1 x1=>⟨rfl,?_⟩
  refine Or.inl ⟨_,_,Or.inl (SqL.of (s1 _ _ hn)),cA N (i:=1) (by decide),⟨by decide,by decide⟩,(by show (0:Int) < 3;decide),?_⟩
  refine fun r2 dx2 hr2 hd_ hne_=>nT hr2 hd_ fun H2 s2 x2=>⟨rfl,?_⟩
  refine ⟨by show 2 <= sizeLine;decide,fun L hL=>?_⟩
  have s12:=s1.trans s2
  have L0:H L=none:=aj.free s12 hL
  have D2:HdS A N H L (upd H2 L (.lst [.ref r1,.ref r2])) [.ref r1,.ref r2] ((eT c).take 2):=by
   have y1:=s2 _ _ x1
   have n1:r1 ≠ L:=fun z=>by rw [z,hL] at y1;cases y1
   have n2:r2 ≠ L:=fun z=>by rw [z,hL] at x2;cases x2
   refine ⟨s12.trans (aj.upd hL _),aq,.cons ?_ (.cons ?_ .nil)⟩
   ·exact ⟨r1,dx1,_,_,rfl,aV (fun m=>n1 (List.mem_singleton.mp m)) (ah n1 y1)⟩
   ·exact ⟨r2,dx2,_,_,rfl,aV (fun m=>n2 (List.mem_singleton.mp m)) (ah n2 x2)⟩
  generalize upd H2 L (.lst [.ref r1,.ref r2])=H3 at D2 ⊢
  clear s12 x1 x2 s1 s2 hr1 hr2 hL
  dsimp only
  refine ax fun M1 K1=>?_
  refine ⟨2,5,rfl,⟨by decide,by decide,by decide,by decide⟩,?_⟩
  refine d7 (lo:=2) (fun i σ Hc=>∃(xs:List V) (v3:Option V),σ=[some (.ref ln),some (.int c),some (.ref L),v3]/\HdS A N H L Hc xs ((eT c).take (2 + i))) ⟨_,none,rfl,D2⟩ ?_ ?_
  ·rintro i σ Hc hi ⟨xs,v3,rfl,D⟩
   have hi3:i < 3:=hi
   have lx:xs.length <= 13:=by rw [D.len,List.length_take];show min _ 13 <= 13;omega
   have e2:(2 + (i:Int))=((2 + i:Nat):Int):=by omega
   refine ⟨Or.inl ⟨rfl,_,SqL.of D.e⟩,Or.inl ⟨_,_,Or.inl (SqL.of (D.s _ _ hn)),(by rw [e2];exact cA N (by omega)),⟨by decide,by decide⟩,(by show (0:Int) < 2 + (i:Int) + 1;omega),(by show (0:Int) < 3;decide),?_⟩⟩
   refine fun r6 dx hr6 hd_ hne_=>mS hr6 hd_ fun H6 s6 hx=>⟨rfl,?_⟩
   obtain ⟨h5,h6⟩:=D.add (h:=.giv (2 + i) 0) L0 s6 hr6 (fun X hX=>⟨r6,dx,_,_,rfl,hX _ hx⟩)
   refine ⟨_,_,_,rfl,rfl,h5,aM (by omega),xs ++ [.ref r6],_,rfl,?_⟩
   have:(eT c).take (2 + (i + 1))=(eT c).take (2 + i) ++ [.giv (2 + i) 0]:=by
    have:i=0 \/ i=1 \/ i=2:=by omega
    rcases this with rfl | rfl | rfl <;> rfl
   rw [this]
   exact h6
  rintro σ H4 ⟨xs4,v3,rfl,D4⟩
  refine K1 _ _ ?_
  have l4:xs4.length=5:=by rw [D4.len];rfl
  refine ax fun M2 K2=>?_
  refine ⟨Or.inl ⟨rfl,_,SqL.of D4.e⟩,Or.inl ⟨_,_,Or.inl (SqL.of (D4.s _ _ hn)),cA N (i:=5) (by decide),⟨by decide,by decide⟩,(by show (0:Int) < 3;decide),⟨by decide,by decide⟩,(by show (0:Int) < 20;decide),?_⟩⟩
  refine fun r5 dx5 hr5 hd_ hne_=>mS hr5 hd_ fun H5 s5 hx5=>⟨rfl,?_⟩
  rw [<- Eh] at hx5
  obtain ⟨h5,D5⟩:=D4.add (h:=.giv 5 (z5 c)) L0 s5 hr5 (fun X hX=>⟨r5,dx5,_,_,rfl,hX _ hx5⟩)
  refine ⟨_,_,_,rfl,rfl,h5,aM (by omega),K2 _ _ ?_⟩
  have D5':HdS A N H L _ _ ((eT c).take 6):=D5
  generalize upd H5 L (.lst (xs4 ++ [.ref r5]))=H6 at D5' ⊢
  clear D5 h5 hx5 s5 hr5 D4
  refine ax fun M3 K3=>?_
  refine ⟨6,9,rfl,⟨by decide,by decide,by decide,by decide⟩,?_⟩
  refine d7 (lo:=6) (fun i σ Hc=>∃(xs:List V) (v3:Option V),σ=[some (.ref ln),some (.int c),some (.ref L),v3]/\HdS A N H L Hc xs ((eT c).take (6 + i))) ⟨_,_,rfl,D5'⟩ ?_ ?_
  ·rintro i σ Hc hi ⟨xs,v3,rfl,D⟩
   have hi3:i < 3:=hi
   have lx:xs.length <= 13:=by rw [D.len,List.length_take];show min _ 13 <= 13;omega
   have e2:(6 + (i:Int))=((6 + i:Nat):Int):=by omega
   refine ⟨Or.inl ⟨rfl,_,SqL.of D.e⟩,Or.inl ⟨_,_,Or.inl (SqL.of (D.s _ _ hn)),(by rw [e2];exact cA N (by omega)),?_⟩⟩
   refine fun r6 dx hr6 hd_ hne_=>qi hr6 hd_ fun H6 s6 hx=>⟨rfl,?_⟩
   obtain ⟨h5,h6⟩:=D.add (h:=.own (6 + i) 0) L0 s6 hr6 (fun X hX=>⟨r6,dx,_,rfl,hX _ hx⟩)
   refine ⟨_,_,_,rfl,rfl,h5,aM (by omega),xs ++ [.ref r6],_,rfl,?_⟩
   have:(eT c).take (6 + (i + 1))=(eT c).take (6 + i) ++ [.own (6 + i) 0]:=by
    have:i=0 \/ i=1 \/ i=2:=by omega
    rcases this with rfl | rfl | rfl <;> rfl
   rw [this]
   exact h6
  rintro σ H7 ⟨xs7,v7,rfl,D7⟩
  refine K3 _ _ ?_
  have l7:xs7.length=9:=by rw [D7.len];rfl
  refine ax fun M4 K4=>?_
  refine ⟨Or.inl ⟨rfl,_,SqL.of D7.e⟩,Or.inl ⟨_,_,Or.inl (SqL.of (D7.s _ _ hn)),cA N (i:=9) (by decide),⟨by decide,by decide⟩,(by show (0:Int) < 20;decide),?_⟩⟩
  refine fun r8 dx8 hr8 hd_ hne_=>qi hr8 hd_ fun H8 s8 hx8=>⟨rfl,?_⟩
  rw [<- Di] at hx8
  obtain ⟨h8,D8⟩:=D7.add (h:=.own 9 (z9 c)) L0 s8 hr8 (fun X hX=>⟨r8,dx8,_,rfl,hX _ hx8⟩)
  refine ⟨_,_,_,rfl,rfl,h8,aM (by omega),K4 _ _ ?_⟩
  have D8':HdS A N H L _ _ ((eT c).take 10):=D8
  generalize upd H8 L (.lst (xs7 ++ [.ref r8]))=H9 at D8' ⊢
  clear D8 h8 hx8 s8 hr8 D7
  refine ax fun M5 K5=>?_
  refine ⟨10,13,rfl,⟨by decide,by decide,by decide,by decide⟩,?_⟩
  refine d7 (lo:=10) (fun i σ Hc=>∃(xs:List V) (v3:Option V),σ=[some (.ref ln),some (.int c),some (.ref L),v3]/\HdS A N H L Hc xs ((eT c).take (10 + i))) ⟨_,_,rfl,D8'⟩ ?_ ?_
  ·rintro i σ Hc hi ⟨xs,v3,rfl,D⟩
   have hi3:i < 3:=hi
   have lx:xs.length <= 13:=by rw [D.len,List.length_take];show min _ 13 <= 13;omega
   have e2:(10 + (i:Int))=((10 + i:Nat):Int):=by omega
   refine ⟨Or.inl ⟨rfl,_,SqL.of D.e⟩,Or.inl ⟨_,_,Or.inl (SqL.of (D.s _ _ hn)),(by rw [e2];exact cA N (by omega)),⟨by decide,by decide⟩,(by show (0:Int) < 10 + (i:Int);omega),(by show (0:Int) < 3;decide),?_⟩⟩
   refine fun r6 dx hr6 hd_ hne_=>wJ hr6 hd_ fun H6 s6 hx=>⟨rfl,?_⟩
   obtain ⟨h5,h6⟩:=D.add (h:=.lt (10 + i)) L0 s6 hr6 (fun X hX=>⟨r6,dx,_,_,rfl,hX _ hx⟩)
   refine ⟨_,_,_,rfl,rfl,h5,aM (by omega),xs ++ [.ref r6],_,rfl,?_⟩
   have:(eT c).take (10 + (i + 1))=(eT c).take (10 + i) ++ [.lt (10 + i)]:=by
    have:i=0 \/ i=1 \/ i=2:=by omega
    rcases this with rfl | rfl | rfl <;> rfl
   rw [this]
   exact h6
  rintro σ H10 ⟨xs,v10,rfl,D⟩
  refine K5 _ _ ?_
  exact q L xs H10 D.s L0 D.e (Paired.cm D.p fun _ _=>lI.same ao)
end
section
variable {P:Program}{w:World}{K:W.Frag}{mg:Str->Option Value}{base:Heap}{A:Adr}{E:En}{mo:Nat->Int}{ex:Nat->Option Int}{kn:Nat}
def moL (l:List Int) (i:Nat):Int:=l.getD i 0
structure wB (E:En) (c:Int):Prop where
 N:E.N=nmV c
 th:∀i ∈ [2,3,4,6,7,8,14,16,17],i ∈ E.idx/\E.sz i=0
 l5:5 ∈ E.ls
 l9:9 ∈ E.ls
theorem wB.D {c:Int} (Z:wB E c):ja E.N:=by rw [Z.N];exact nO c
theorem wB.la {c:Int} (Z:wB E c) {S ln lm lo lk lt ll:Addr}{gQ:List Int}{kn:Nat}{th:List Nat} (n1:S ≠ lm) (n2:S ≠ ll) (n3:lm ≠ ll) (h:∀i ∈ th,i ∈ [2,3,4,6,7,8,14,16,17]) (t3:3 < th.length) (k2:kn <= 2) (ms:∀m ∈ gQ,1 <= m/\m <= 4) (ml:gQ.length <= 2):nE E ⟨S,ln,lm,lo,lk,lt,ll,gQ,kn,th⟩ :=
 ⟨n1,n2,n3,Z.D,fun i=>by rw [Z.N];exact CZ c i,⟨fun z=>absurd t3 (by show ¬ 3 < th.length;rw [show th=[] from z];decide),fun i hi=>Z.th i (h i hi)⟩,t3,k2,Z.l5,Z.l9,ms,ml⟩
theorem fresh_ne {H:Hp}{a b:Addr}{o:HO} (h:H a=none) (e:H b=some o):a ≠ b:=fun z=>by rw [z,e] at h;cases h
theorem AI {a b x:Addr} (h1:x ≠ a) (h2:x ≠ b):x ∉ [a,b]:=fun m=>by
 simp only [List.mem_cons,List.not_mem_nil,or_false] at m
 rcases m with m | m
 ·exact h1 m
 ·exact h2 m
structure Bk (M:List Addr) (H:Hp) (S lm:Addr) (kv:List (Key × V)) (ms:List V):Prop where
 hS:H S=some (.dK kv)
 hm:H lm=some (.lst ms)
 al:∀a ∈ M,H a ≠ none
 iS:S ∈ M
variable {H H' H2:Hp}{S lm:Addr}{kv:List (Key × V)}{ms:List V}{M:List Addr}
theorem Bk.n1 (b:Bk M H S lm kv ms):S ≠ lm:=fun z=>by have:=b.hS;rw [z,b.hm] at this;cases this
theorem Bk.dl (b:Bk M H S lm kv ms) {p:Addr}{o:HO} (hp:H p=none) (e:H' p=some o):del M H' p=some o:=aV (fun m=>b.al p m hp) e
theorem Bk.nw (b:Bk M H S lm kv ms) {p:Addr} (hp:H p=none) (o:HO):Bk M (upd H p o) S lm kv ms/\aj (del M H) (del M (upd H p o))/\del M (upd H p o) p=some o:=by
 have z:=aj.upd hp o
 refine ⟨⟨z _ _ b.hS,z _ _ b.hm,fun a m e=>?_,b.iS⟩,(Go.new z).same,b.dl hp aq⟩
 exact b.al a m (aj.free z e)
theorem Bk.st (b:Bk M H S lm kv ms) (kv':List (Key × V)):Bk M (upd H S (.dK kv')) S lm kv' ms/\aj (del M H) (del M (upd H S (.dK kv'))):=by
 refine ⟨⟨aq,ah b.n1.symm b.hm,fun a m e=>?_,b.iS⟩,(Go.at b.iS _).same⟩
 by_cases c:a=S
 ·rw [c,aq] at e;cases e
 ·rw [aI c] at e;exact b.al a m e
theorem Bk.add (b:Bk M H S lm kv ms) {p:Addr} (hp:H p=none) (o:HO):Bk (M ++ [p]) (upd H p o) S lm kv ms/\aj (del M H) (del (M ++ [p]) (upd H p o))/\upd H p o p=some o:=by
 have z:=aj.upd hp o
 refine ⟨⟨z _ _ b.hS,z _ _ b.hm,fun a m e=>?_,List.mem_append_left _ b.iS⟩,fun a q e=>?_,aq⟩
 ·rcases List.mem_append.mp m with m | m
  ·exact b.al a m (aj.free z e)
  ·rw [List.mem_singleton.mp m,aq] at e;cases e
 ·obtain ⟨e1,e2⟩:=eO e
  refine aV (fun m=>?_) (z _ _ e2)
  rcases List.mem_append.mp m with m | m
  ·exact e1 m
  ·rw [List.mem_singleton.mp m,hp] at e2;cases e2
structure Fx (E:En) (H X:Hp) (ln lth:Addr):Prop where
 z:aj H X
 hn:X ln=some (.lst (nmL E.N))
 ht:X lth=some (.lst (stV E [2,3,4,6,7,8]))
theorem Fx.same {X X':Hp}{ln lth:Addr} (f:Fx E H X ln lth) (z:aj X X'):Fx E H X' ln lth:=⟨f.z.trans z,z _ _ f.hn,z _ _ f.ht⟩
theorem tZ {s:La}{y2:Dy} (al:∀a ∈ [s.S,s.lm],H' a ≠ none) (g:Go s.M H' s.M H2) (L:dg E mo ex H2 s y2):Bk [s.S,s.lm] H2 s.S s.lm (stK s y2.row) (stV E y2.marks)/\aj (del s.M H') (del [s.S,s.lm] H2)/\aj (New H' H2) (del [s.S,s.lm] H2):=by
 refine ⟨⟨L.dy.hS,L.dy.hm,fun a m=>L.al a ?_,List.mem_cons_self⟩,fun a o e=>?_,fun a o e=>?_⟩
 ·unfold La.M
  simp only [List.mem_cons,List.not_mem_nil,or_false] at m ⊢
  rcases m with m | m
  ·exact .inl m
  ·exact .inr (.inl m)
 ·obtain ⟨e1,e2⟩:=eO e
  unfold La.M at e1
  refine aV (fun m=>e1 ?_) (g.o a o e1 e2)
  simp only [List.mem_cons,List.not_mem_nil,or_false] at m ⊢
  rcases m with m | m
  ·exact .inl m
  ·exact .inr (.inl m)
 ·obtain ⟨e1,e2⟩:=New.get e
  exact aV (fun m=>al a m e1) e2
def fU (ns:List Int) (i j:Nat):List Int:=((ns.drop (HT.sIx ns.length 0 (some (i:Int)))).take (HT.sIx ns.length ns.length (some (j:Int)) - HT.sIx ns.length 0 (some (i:Int)))).reverse
theorem nV (ns:List Int) {i j:Nat} (h:i <= j):(fU ns i j).length <= j - i:=by
 unfold fU
 rw [List.length_reverse,List.length_take,HT.vy,HT.vy]
 omega
theorem uM (ns:List Int) (i j:Nat):(iP (ns.map V.int) (some (i:Int)) (some (j:Int))).reverse=(fU ns i j).map V.int:=by
 unfold fU
 rw [xq,List.map_reverse]
theorem zN {E:En}{ys:List V} (ly:ys.length=18) (hy:∀(i:Nat) y,ys[i]?=some y->y=.str (E.N i)):ys=nmL E.N:=by
 refine List.ext_getElem? fun i=>?_
 by_cases h:i < 18
 ·have lt:i < ys.length:=by omega
  rw [List.getElem?_map,List.getElem?_range h,List.getElem?_eq_getElem lt,hy i _ (List.getElem?_eq_getElem lt)]
  rfl
 ·rw [List.getElem?_eq_none (by omega),List.getElem?_eq_none (by simp;omega)]
end
section
variable {P:Program}{w:World}{K:W.Frag}{mg:Str->Option Value}{base:Heap}{A:Adr}{E:En}
seal PE PA PS PSs PT PW
def c1D (r1:List Rw):Int:=dQ (moL []) 4 r1
def c2D (r1 r2:List Rw):Int:=dQ (moL [c1D r1]) 4 r2
def mo2 (r1 r2:List Rw):Nat->Int:=moL [c1D r1,c2D r1 r2]
abbrev ex0:Nat->Option Int:=fun _=>none
structure CK (E:En) (H:Hp) (t ln lb B1 B2 B3:Addr) (n:Int) (r1 r2 r3:List Rw):Prop where
 t:H t=some (.tup [.ref ln,.ref lb,.int n])
 ln:H ln=some (.lst (nmL E.N))
 lb:H lb=some (.lst [.ref B1,.ref B2,.ref B3])
 b1:cN E 0 4 H B1 r1
 b2:cN E 1 4 H B2 r2
 b3:cN E 2 4 H B3 r3
 l1:r1.length <= 100
 l2:r2.length <= 100
 l3:r3.length <= 100
 big:dQ (mo2 r1 r2) 4 r3 <= 36024
structure Ix where
 E:En
 mo:Nat->Int
 kn:Nat
 wt:Nat->Int
def ix0:Ix:=⟨⟨nmV 0,[],fun _=>0,[],[]⟩,moL [],0,fun _=>0⟩
def wt2 (k:Nat):Int:=if k=0 then 26 else 13
def wt3 (k:Nat):Int:=if k=0 then 948 else if k=1 then 237 else 79
def st5 (ln lm lo lk:Addr):List (Key × V):=[(.inr "names",.ref ln),(.inr "row",.int 15),(.inr "marks",.ref lm),(.inr "mosts",.ref lo),(.inr "known",.ref lk)]
def st7 (ln:Addr) (row:Int) (lm lo lk lt ll:Addr):List (Key × V):=[(.inr "names",.ref ln),(.inr "row",.int row),(.inr "marks",.ref lm),(.inr "mosts",.ref lo),(.inr "known",.ref lk),(.inr "things",.ref lt),(.inr "cells",.ref ll)]
def xC (K:W.Frag):Sp:=fun vs H Q _=>∃(E:En) (a:Addr) (ns:List Int),vs=[.ref a]/\SqL K H a (ns.map V.int)/\wB E (cellAt ns 0) /\
 ∀(t ln lb B1 B2 B3:Addr) (n:Int) (r1 r2 r3:List Rw) (H':Hp),aj H H'->CK E H' t ln lb B1 B2 B3 n r1 r2 r3->Q (.ref t) H'
theorem Ah (T:Txt K mg A):Has P w K mg base 17 "_law_drawn" ["_law_script"] (xC K):=by
 have D_law_cell_at:=qW (P:=P) (w:=w) (base:=base) T
 have D_law_name:=A0 (P:=P) (w:=w) (base:=base) T
 have D_law_nodes:=Has.ex (P:=P) (w:=w) (base:=base) (sp:=fun i:Ix=>lQ i.E i.mo ex0 i.kn i.wt 4) (p:=fun _=>True) ix0 trivial fun i h=>vn T 4
 refine T.qf.has (k:=16) cK (fun vs H Q E h=>?_) (fun f cdv A' outer s H vs Q E' hr hu h=>?_)
 ·obtain ⟨E,a,ns,rfl,_⟩:=h
  rfl
 ·obtain ⟨E,a,ns,rfl,hA,Z,q⟩:=h
  refine ⟨_,(ab (lE (j:=1) (N:=["_law_k","_law_script"]) (own:=1) (fr:=[0]) (df.of (by kernel_rfl!)) rfl cK.nd rfl (Or.inl rfl) (gh rfl T.cZ (aa ae af)) (fun b=>pgn (i:=0) (show List.Nodup (["_law_k","_law_script"]:List PySem.Str) by decide +kernel) rfl) (fun b=>jU) (fun b=>ar (hj:=by omega) D_law_name hr (aa (ar (hj:=by omega) D_law_cell_at hr (aa (fv 1) (aa ae af))) (aa (fv 0) af))))
  (ab (aC (i:=2) cK.nd rfl (Or.inl rfl) (aw bL (eF iu (fv 1) (cE ae) (cE ae)) (eF iu (fv 1) (cE ae) (cE ae))))
  (ab (aC (i:=3) cK.nd rfl (Or.inl rfl) (qT (dj ai (fv 1) (dj ai ae (dj ai (eF iu (fv 1) (cE ae) (cE ae)) (dj ai (bE af) (dj ai (bE af) (qR)))))) rfl rfl (by intro z;cases z) (by decide)))
  (ab (bo (aw bL (fv 2) (eF iu (fv 1) (cE ae) (cE ae))) (bA (fv 3) ai (bB hu set_list)))
  (ab (bo (ub (eF iu (fv 0) (cE ae) (cE ae))) (bA (fv 3) ai (bB hu set_list)))
  (ab (aC (i:=4) cK.nd rfl (Or.inl rfl) (ar (hj:=by omega) D_law_nodes hr (aa (fv 3) (aa ae (aa ae af)))))
  (ab (bo (aw bL (px hu (fv 3) ai) ae) (bA (fv 3) ai (bB hu set_list)))
  (ab (bo (bE (aa (cx (aa (px hu (fv 1) ae) (aa ae af))) af)) (bA (fv 3) ai (bB hu set_list)))
  (ab (bo (aw bL (fv 2) (eF iu (fv 1) (cE ae) (cE ae))) (bA (fv 3) ai (bB hu set_list)))
  (ab (bo (ub (eF iu (fv 0) (cE ae) (cE ae))) (bA (fv 3) ai (bB hu set_list)))
  (ab (bo (bE (aa ae af)) (bA (fv 3) ai (bB hu set_list)))
  (ab (aC (i:=5) cK.nd rfl (Or.inl rfl) (aw lN (px hu (fv 3) ai) ae))
  (ab (aC (i:=6) cK.nd rfl (Or.inl rfl) (ar (hj:=by omega) D_law_nodes hr (aa (fv 3) (aa ae (aa ae af)))))
  (ab (bo (aw bL (px hu (fv 3) ai) ae) (bA (fv 3) ai (bB hu set_list)))
  (ab (bo (bE (aa (cx (aa (px hu (fv 1) ae) (aa ae af))) (aa (cx (aa (px hu (fv 1) ae) (aa ae af))) af))) (bA (fv 3) ai (bB hu set_list)))
  (ab (bo (fv 2) (bA (fv 3) ai (bB hu set_list)))
  (ab (bo (bE (aa ae (aa ae af))) (bA (fv 3) ai (bB hu set_list)))
  (ab (bo (ub (eF iu (fv 0) (cE ae) (cE ae))) (bA (fv 3) ai (bB hu set_list)))
  (ab (aC (i:=7) cK.nd rfl (Or.inl rfl) (ar (hj:=by omega) D_law_nodes hr (aa (fv 3) (aa ae (aa ae af)))))
  (ag (aA (cx (aa (fv 1) (aa (bE (aa (fv 4) (aa (fv 6) (aa (fv 7) af)))) (aa (fv 5) af))))))))))))))))))))))))),?_⟩
  refine ⟨_,rfl,by decide,by decide,jS (J:=Itr 0 18) (n:=18) (x:=fun j=>.int (0 + j)) (fun j y _=>y=.str (E.N j)) (aM (by decide)) (fun _ _=>Nat.le_refl _) (fun _ _ h _=>h) (fun _ _ _ _ _ _ y=>y) (fun b j H1 G hj s1 kk=>?_) (fun _ _ _ _ _ h=>h) (fun _ _ _ _ _ _ _ h=>h) (fun ln H1 ys ln0 s1 eln ly hy=>?_)⟩
  ·exact ⟨a,ns,0,rfl,s1.seq hA,by decide,cellAt ns 0,j,(by rw [Int.zero_add];rfl),by omega,fun H2 s2=>kk _ _ s2 (by rw [Z.N])⟩
  rw [zN ly hy] at eln
  clear hy ly
  try dsimp only
  refine ax fun M1 K1=>?_
  refine ⟨_,rfl,_,rfl,Or.inl ⟨ln,_,rfl,SqL.of eln,fun p1 hp1=>?_⟩⟩
  rw [show iP (nmL E.N) (some 2) (some 5)=stV E [2,3,4] from rfl]
  obtain ⟨s2,e2⟩:=alc hp1 (HO.lst (stV E [2,3,4]))
  generalize upd H1 p1 _=H2 at s2 e2 ⊢
  refine ⟨_,rfl,_,rfl,Or.inl ⟨ln,_,rfl,SqL.of (s2 _ _ eln),fun p2 hp2=>?_⟩⟩
  rw [show iP (nmL E.N) (some 6) (some 9)=stV E [6,7,8] from rfl]
  obtain ⟨s3,e3⟩:=alc hp2 (HO.lst (stV E [6,7,8]))
  generalize upd H2 p2 _=H3 at s3 e3 ⊢
  refine ⟨p1,p2,_,_,rfl,rfl,s3 _ _ e2,e3,(show 6 <= sizeLine by decide),fun lth hth=>K1 _ _ ?_⟩
  rw [show stV E [2,3,4] ++ stV E [6,7,8]=stV E [2,3,4,6,7,8] from rfl]
  obtain ⟨s4,e4⟩:=alc hth (HO.lst (stV E [2,3,4,6,7,8]))
  generalize upd H3 lth _=H4 at s4 e4 ⊢
  have n4:H4 ln=some (.lst (nmL E.N)):=((s2.trans s3).trans s4) _ _ eln
  have t4:aj H H4:=s1.trans ((s2.trans s3).trans s4)
  clear s2 s3 s4 e2 e3 hp1 hp2 hth eln s1 ln0
  try dsimp only
  refine ax fun M2 K2=>?_
  refine fun S hS0=>?_
  obtain ⟨s5,e5⟩:=alc hS0 (HO.dK [])
  generalize upd H4 S _=H5 at s5 e5 ⊢
  refine ⟨_,rfl,_,rfl,Or.inl ⟨ln,_,rfl,SqL.of (s5 _ _ n4),fun lm hlm=>?_⟩⟩
  rw [show iP (nmL E.N) (some 10) (some 13)=stV E [10,11,12] from rfl]
  obtain ⟨s6,e6⟩:=alc hlm (HO.lst (stV E [10,11,12]))
  generalize upd H5 lm _=H6 at s6 e6 ⊢
  refine ⟨Nat.zero_le _,fun lo hlo=>?_⟩
  obtain ⟨s7,e7⟩:=alc hlo (HO.lst [])
  generalize upd H6 lo _=H7 at s7 e7 ⊢
  refine ⟨Nat.zero_le _,fun lk hlk=>?_⟩
  obtain ⟨s8,e8⟩:=alc hlk (HO.lst [])
  generalize upd H7 lk _=H8 at s8 e8 ⊢
  have s58:=(s6.trans s7).trans s8
  refine ⟨s58 _ _ e5,[((.inr "names":Key),.ref ln),(.inr "row",.int 15),(.inr "marks",.ref lm),(.inr "mosts",.ref lo),(.inr "known",.ref lk)],rfl,(show 5 <= 15 by decide),K2 _ _ ?_⟩
  rw [show cc [] [((.inr "names":Key),V.ref ln),(.inr "row",.int 15),(.inr "marks",.ref lm),(.inr "mosts",.ref lo),(.inr "known",.ref lk)]=st5 ln lm lo lk from rfl]
  have lm4:H4 lm=none:=aj.free s5 hlm
  have loS:lo ≠ S:=fresh_ne hlo (s6 _ _ e5)
  have lom:lo ≠ lm:=fresh_ne hlo e6
  have lkS:lk ≠ S:=fresh_ne hlk ((s6.trans s7) _ _ e5)
  have lkm:lk ≠ lm:=fresh_ne hlk (s7 _ _ e6)
  have lmS:lm ≠ S:=fresh_ne hlm e5
  have s48:=s5.trans s58
  have zz:aj H4 (del [S,lm] (upd H8 S (.dK (st5 ln lm lo lk)))):=fun x o e=>by
   have xS:x ≠ S:=fun z=>by rw [z,hS0] at e;cases e
   have xm:x ≠ lm:=fun z=>by rw [z,lm4] at e;cases e
   exact aV (AI xS xm) (ah xS (s48 _ _ e))
  have F:Fx E H (del [S,lm] (upd H8 S (.dK (st5 ln lm lo lk)))) ln lth:=⟨t4.trans zz,zz _ _ n4,zz _ _ e4⟩
  have o9:del [S,lm] (upd H8 S (.dK (st5 ln lm lo lk))) lo=some (.lst []):=aV (AI loS lom) (ah loS (s8 _ _ e7))
  have k9:del [S,lm] (upd H8 S (.dK (st5 ln lm lo lk))) lk=some (.lst []):=aV (AI lkS lkm) (ah lkS e8)
  have m9:(upd H8 S (.dK (st5 ln lm lo lk))) lm=some (.lst (stV E [10,11,12])):=ah lmS ((s7.trans s8) _ _ e6)
  have al9:∀x ∈ [S,lm],(upd H8 S (.dK (st5 ln lm lo lk))) x ≠ none:=fun x m e=>by
   simp only [List.mem_cons,List.not_mem_nil,or_false] at m
   rcases m with m | m
   ·rw [m,aq] at e;cases e
   ·rw [m,m9] at e;cases e
  have b:Bk [S,lm] (upd H8 S (.dK (st5 ln lm lo lk))) S lm (st5 ln lm lo lk) (stV E [10,11,12]):=⟨aq,m9,al9,List.mem_cons_self⟩
  clear m9 al9 zz s48 s58 s7 s6 s5 e5 e6 e7 hlo hlk hlm hS0 n4 e4 t4 lm4 loS lom lkS lkm lmS
  generalize upd H8 S _=H9 at F o9 k9 b ⊢
  clear s8 e8
  try dsimp only
  refine ax fun M3 K3=>?_
  refine ⟨_,rfl,_,rfl,Or.inl ⟨ln,_,rfl,SqL.of (ao _ _ F.hn),fun p3 hp3=>?_⟩⟩
  rw [show iP (nmL E.N) (some 14) (some 15)=stV E [14] from rfl]
  obtain ⟨b,z,e⟩:=b.nw hp3 (HO.lst (stV E [14]))
  generalize upd H9 p3 _=H10 at b z e ⊢
  refine ⟨lth,p3,_,_,rfl,rfl,ao _ _ (z _ _ F.ht),ao _ _ e,(show 7 <= sizeLine by decide),fun lt hlt=>?_⟩
  rw [show stV E [2,3,4,6,7,8] ++ stV E [14]=stV E [2,3,4,6,7,8,14] from rfl]
  obtain ⟨b,z1,et⟩:=b.nw hlt (HO.lst (stV E [2,3,4,6,7,8,14]))
  generalize upd H10 lt _=H11 at b z1 et ⊢
  refine ⟨_,cF.k (k:=.inr "things") b.hS (show 5 < sizeLine by decide),K3 _ _ ?_⟩
  rw [show putK (st5 ln lm lo lk) (.inr "things") (.ref lt)=st5 ln lm lo lk ++ [(.inr "things",.ref lt)] from rfl]
  obtain ⟨b,z2⟩:=b.st (st5 ln lm lo lk ++ [(.inr "things",.ref lt)])
  generalize upd H11 S _=H12 at b z2 ⊢
  replace z:=z.trans (z1.trans z2)
  replace F:=F.same z
  replace o9:=z _ _ o9
  replace k9:=z _ _ k9
  replace et:=z2 _ _ et
  clear z z1 z2 e hp3 hlt
  try dsimp only
  refine ax fun M4 K4=>?_
  refine ⟨_,rfl,_,rfl,Or.inl ⟨a,_,rfl,(F.z.trans ao).seq hA,fun p4 hp4=>?_⟩⟩
  obtain ⟨b,z,e⟩:=b.nw hp4 (HO.lst (iP (ns.map V.int) (some 3) (some 6)))
  generalize upd H12 p4 _=H13 at b z e ⊢
  refine ⟨p4,_,rfl,SqL.of (ao _ _ e),fun ll hll=>?_⟩
  rw [show (iP (ns.map V.int) (some 3) (some 6)).reverse=(fU ns 3 6).map V.int from uM ns 3 6]
  have llm:lm ≠ ll:=(fresh_ne hll b.hm).symm
  have llS:S ≠ ll:=(fresh_ne hll b.hS).symm
  obtain ⟨b,z1,el⟩:=b.add hll (HO.lst ((fU ns 3 6).map V.int))
  generalize upd H13 ll _=H14 at b z1 el ⊢
  refine ⟨_,cF.k (k:=.inr "cells") b.hS (show 6 < sizeLine by decide),K4 _ _ ?_⟩
  rw [show putK (st5 ln lm lo lk ++ [(.inr "things",.ref lt)]) (.inr "cells") (.ref ll)=st7 ln 15 lm lo lk lt ll from rfl]
  obtain ⟨b,z2⟩:=b.st (st7 ln 15 lm lo lk lt ll)
  have el:=ah (x:=S) (u:=.dK (st7 ln 15 lm lo lk lt ll)) llS.symm el
  generalize upd H14 S _=H15 at b z2 el ⊢
  replace z:=z.trans (z1.trans z2)
  replace F:=F.same z
  have q1:=nV ns (i:=3) (j:=6) (by decide)
  have O1:nE E ⟨S,ln,lm,lo,lk,lt,ll,[],0,[2,3,4,6,7,8,14]⟩:=Z.la b.n1 llS llm (by decide) (by decide) (by decide) (by decide) (by decide)
  have L1:dg E (moL []) ex0 H15 ⟨S,ln,lm,lo,lk,lt,ll,[],0,[2,3,4,6,7,8,14]⟩ ⟨15,[10,11,12],fU ns 3 6⟩:=⟨⟨F.hn,z _ _ o9,⟨[],z _ _ k9,.nil⟩,z _ _ et⟩,b.hS,b.hm,el⟩
  have W1:Wts ⟨S,ln,lm,lo,lk,lt,ll,[],0,[2,3,4,6,7,8,14]⟩ (moL []) (fun _=>4):=⟨fun _=>by decide,fun i h=>absurd h (Nat.not_lt_zero _),fun k m h=>by cases h⟩
  clear z z1 z2 e hp4 hll o9 k9 et
  try dsimp only
  refine ax fun M5 K5=>?_
  refine ⟨⟨E,moL [],0,fun _=>4⟩,trivial,⟨S,ln,lm,lo,lk,lt,ll,[],0,[2,3,4,6,7,8,14]⟩,⟨15,[10,11,12],fU ns 3 6⟩,0,0,rfl,rfl,O1,L1,rfl,W1,(by show (fU ns 3 6).length <= 100;omega),fun B1 r1 y1 H16 g L2 bd1 n1 c1=>K5 _ _ ?_⟩
  obtain ⟨b',z,w16⟩:=tZ (fun x m=>b.al x (List.mem_append_left _ m)) g L2
  have b:Bk [S,lm] H16 S lm (st7 ln y1.row lm lo lk lt ll) (stV E y1.marks):=b'
  replace F:Fx E H (del [S,lm] H16) ln lth:=F.same z
  have bd1:cN E 0 4 (del [S,lm] H16) B1 r1:=bd1.same w16
  have n1:r1.length <= 100:=by have n1:r1.length + y1.cells.length <= (fU ns 3 6).length:=n1;omega
  have c1:c1D r1 <= 12:=by have c1:dQ (moL []) 4 r1 + 4 * (y1.cells.length:Int) <= 4 * ((fU ns 3 6).length:Int):=c1;unfold c1D;omega
  have c10:0 <= c1D r1:=lK (kn:=0) (E:=E) (fun i h=>absurd h (Nat.not_lt_zero _)) bd1.choose_spec.2.2
  clear L1 O1 W1 g L2 w16 el llS llm q1 z b'
  try dsimp only
  refine ax fun M6 K6=>?_
  refine ⟨_,bu.k (k:=.inr "row") b.hS,_,cF.k (k:=.inr "row") b.hS (show 7 < sizeLine by decide),K6 _ _ ?_⟩
  rw [show putK (st7 ln y1.row lm lo lk lt ll) (.inr "row") (.int (y1.row + 2))=st7 ln (y1.row + 2) lm lo lk lt ll from rfl]
  generalize y1.row + 2=row1
  obtain ⟨b,z⟩:=b.st (st7 ln row1 lm lo lk lt ll)
  generalize upd H16 S _=H17 at b z ⊢
  replace F:=F.same z
  replace bd1:=bd1.same z
  clear z
  try dsimp only
  refine ax fun M7 K7=>?_
  refine Or.inl ⟨_,_,Or.inl (SqL.of (ao _ _ F.hn)),cA E.N (i:=13) (by decide),by show 2 <= sizeLine;decide,fun k1 hk1=>?_⟩
  obtain ⟨b,z,ek1⟩:=b.nw hk1 (HO.tup [V.str (E.N 13),.int 1])
  generalize upd H17 k1 _=H18 at b z ek1 ⊢
  refine ⟨by show 1 <= sizeLine;decide,fun lk1 hlk1=>?_⟩
  obtain ⟨b,z1,elk⟩:=b.nw hlk1 (HO.lst [V.ref k1])
  generalize upd H18 lk1 _=H19 at b z1 elk ⊢
  refine ⟨_,cF.k (k:=.inr "known") b.hS (show 7 < sizeLine by decide),K7 _ _ ?_⟩
  rw [show putK (st7 ln row1 lm lo lk lt ll) (.inr "known") (.ref lk1)=st7 ln row1 lm lo lk1 lt ll from rfl]
  obtain ⟨b,z2⟩:=b.st (st7 ln row1 lm lo lk1 lt ll)
  generalize upd H19 S _=H20 at b z2 ⊢
  replace ek1:=z2 _ _ (z1 _ _ ek1)
  replace elk:=z2 _ _ elk
  replace z:=z.trans (z1.trans z2)
  replace F:=F.same z
  replace bd1:=bd1.same z
  clear z z1 z2 hk1 hlk1
  try dsimp only
  refine ax fun M8 K8=>?_
  refine ⟨_,rfl,_,rfl,Or.inl ⟨ln,_,rfl,SqL.of (ao _ _ F.hn),fun p5 hp5=>?_⟩⟩
  rw [show iP (nmL E.N) (some 16) (some 18)=stV E [16,17] from rfl]
  obtain ⟨b,z,e⟩:=b.nw hp5 (HO.lst (stV E [16,17]))
  generalize upd H20 p5 _=H21 at b z e ⊢
  refine ⟨lth,p5,_,_,rfl,rfl,ao _ _ (z _ _ F.ht),ao _ _ e,(show 8 <= sizeLine by decide),fun lt1 hlt1=>?_⟩
  rw [show stV E [2,3,4,6,7,8] ++ stV E [16,17]=stV E [2,3,4,6,7,8,16,17] from rfl]
  obtain ⟨b,z1,et⟩:=b.nw hlt1 (HO.lst (stV E [2,3,4,6,7,8,16,17]))
  generalize upd H21 lt1 _=H22 at b z1 et ⊢
  refine ⟨_,cF.k (k:=.inr "things") b.hS (show 7 < sizeLine by decide),K8 _ _ ?_⟩
  rw [show putK (st7 ln row1 lm lo lk1 lt ll) (.inr "things") (.ref lt1)=st7 ln row1 lm lo lk1 lt1 ll from rfl]
  obtain ⟨b,z2⟩:=b.st (st7 ln row1 lm lo lk1 lt1 ll)
  generalize upd H22 S _=H23 at b z2 ⊢
  replace et:=z2 _ _ et
  replace z:=z.trans (z1.trans z2)
  replace F:=F.same z
  replace bd1:=bd1.same z
  replace ek1:=z _ _ ek1
  replace elk:=z _ _ elk
  clear z z1 z2 e hp5 hlt1
  try dsimp only
  refine ax fun M9 K9=>?_
  refine ⟨_,rfl,_,rfl,Or.inl ⟨a,_,rfl,(F.z.trans ao).seq hA,fun p6 hp6=>?_⟩⟩
  obtain ⟨b,z,e⟩:=b.nw hp6 (HO.lst (iP (ns.map V.int) (some 6) (some 9)))
  generalize upd H23 p6 _=H24 at b z e ⊢
  refine ⟨p6,_,rfl,SqL.of (ao _ _ e),fun ll1 hll1=>?_⟩
  rw [show (iP (ns.map V.int) (some 6) (some 9)).reverse=(fU ns 6 9).map V.int from uM ns 6 9]
  have llm:lm ≠ ll1:=(fresh_ne hll1 b.hm).symm
  have llS:S ≠ ll1:=(fresh_ne hll1 b.hS).symm
  obtain ⟨b,z1,el⟩:=b.add hll1 (HO.lst ((fU ns 6 9).map V.int))
  generalize upd H24 ll1 _=H25 at b z1 el ⊢
  refine ⟨_,cF.k (k:=.inr "cells") b.hS (show 7 < sizeLine by decide),K9 _ _ ?_⟩
  rw [show putK (st7 ln row1 lm lo lk1 lt1 ll) (.inr "cells") (.ref ll1)=st7 ln row1 lm lo lk1 lt1 ll1 from rfl]
  obtain ⟨b,z2⟩:=b.st (st7 ln row1 lm lo lk1 lt1 ll1)
  have el:=ah (x:=S) (u:=.dK (st7 ln row1 lm lo lk1 lt1 ll1)) llS.symm el
  generalize upd H25 S _=H26 at b z2 el ⊢
  replace z:=z.trans (z1.trans z2)
  replace F:=F.same z
  replace bd1:=bd1.same z
  replace ek1:=z _ _ ek1
  replace elk:=z _ _ elk
  replace et:=z _ _ et
  clear z z1 z2 e hp6 hll1
  try dsimp only
  refine ax fun M10 K10=>?_
  refine ⟨by show 1 <= sizeLine;decide,fun lo1 hlo1=>?_⟩
  obtain ⟨b,z,eo⟩:=b.nw hlo1 (HO.lst [V.int 2])
  have el:=aj.upd hlo1 (HO.lst [V.int 2]) _ _ el
  generalize upd H26 lo1 _=H27 at b z eo el ⊢
  refine ⟨_,cF.k (k:=.inr "mosts") b.hS (show 7 < sizeLine by decide),K10 _ _ ?_⟩
  rw [show putK (st7 ln row1 lm lo lk1 lt1 ll1) (.inr "mosts") (.ref lo1)=st7 ln row1 lm lo1 lk1 lt1 ll1 from rfl]
  obtain ⟨b,z1⟩:=b.st (st7 ln row1 lm lo1 lk1 lt1 ll1)
  have el:=ah (x:=S) (u:=.dK (st7 ln row1 lm lo1 lk1 lt1 ll1)) llS.symm el
  generalize upd H27 S _=H28 at b z1 el ⊢
  replace eo:=z1 _ _ eo
  replace z:=z.trans z1
  replace F:=F.same z
  replace bd1:=bd1.same z
  clear z1 hlo1
  try dsimp only
  refine ax fun M11 K11=>?_
  refine ⟨_,bu.k (k:=.inr "row") b.hS,K11 _ _ ?_⟩
  try dsimp only
  have O2:nE E ⟨S,ln,lm,lo1,lk1,lt1,ll1,[2],1,[2,3,4,6,7,8,16,17]⟩:=Z.la b.n1 llS llm (by decide) (by decide) (by decide) (by decide) (by decide)
  have L2:dg E (moL [c1D r1]) ex0 H28 ⟨S,ln,lm,lo1,lk1,lt1,ll1,[2],1,[2,3,4,6,7,8,16,17]⟩ ⟨row1,y1.marks,fU ns 6 9⟩:=⟨⟨F.hn,eo,⟨[.ref k1],z _ _ elk,.cons ⟨k1,rfl,z _ _ ek1⟩ .nil⟩,z _ _ et⟩,b.hS,b.hm,el⟩
  have W2:Wts ⟨S,ln,lm,lo1,lk1,lt1,ll1,[2],1,[2,3,4,6,7,8,16,17]⟩ (moL [c1D r1]) wt2:=⟨fun k=>by unfold wt2;split <;> omega,fun i h=>by
   have h:i < 1:=h
   have:i=0:=by omega
   subst this
   exact ⟨c10,fun k=>by show 1 + c1D r1 <= wt2 k;unfold wt2;split <;> omega⟩,fun k m h=>by
   match k,h with
   | 0,h=>cases h;exact ⟨by decide,by decide⟩
   | k + 1,h=>cases h⟩
  have q2:=nV ns (i:=6) (j:=9) (by decide)
  clear z elk ek1 et eo
  refine ax fun M12 K12=>?_
  refine ⟨⟨E,moL [c1D r1],1,wt2⟩,trivial,⟨S,ln,lm,lo1,lk1,lt1,ll1,[2],1,[2,3,4,6,7,8,16,17]⟩,⟨row1,y1.marks,fU ns 6 9⟩,0,0,rfl,rfl,O2,L2,rfl,W2,(by show (fU ns 6 9).length <= 100;omega),fun B2 r2 y2 H29 g L3 bd2 n2 c2=>K12 _ _ ?_⟩
  obtain ⟨b',z,w29⟩:=tZ (fun x m=>b.al x (List.mem_append_left _ m)) g L3
  have b:Bk [S,lm] H29 S lm (st7 ln y2.row lm lo1 lk1 lt1 ll1) (stV E y2.marks):=b'
  replace F:Fx E H (del [S,lm] H29) ln lth:=F.same z
  replace bd1:cN E 0 4 (del [S,lm] H29) B1 r1:=bd1.same z
  have bd2:cN E 1 4 (del [S,lm] H29) B2 r2:=bd2.same w29
  have n2:r2.length <= 100:=by have n2:r2.length + y2.cells.length <= (fU ns 6 9).length:=n2;omega
  have c2:c2D r1 r2 <= 78:=by have c2:dQ (moL [c1D r1]) 4 r2 + 26 * (y2.cells.length:Int) <= 26 * ((fU ns 6 9).length:Int):=c2;unfold c2D;omega
  have c20:0 <= c2D r1 r2:=lK (kn:=1) (E:=E) (fun i h=>by
   have:i=0:=by omega
   subst this
   exact c10) bd2.choose_spec.2.2
  clear L2 O2 W2 g L3 w29 el llS llm q2 z b'
  try dsimp only
  refine ax fun M13 K13=>?_
  refine ⟨_,bu.k (k:=.inr "row") b.hS,_,cF.k (k:=.inr "row") b.hS (show 7 < sizeLine by decide),K13 _ _ ?_⟩
  rw [show putK (st7 ln y2.row lm lo1 lk1 lt1 ll1) (.inr "row") (.int (y2.row + 2))=st7 ln (y2.row + 2) lm lo1 lk1 lt1 ll1 from rfl]
  generalize y2.row + 2=row2
  obtain ⟨b,z⟩:=b.st (st7 ln row2 lm lo1 lk1 lt1 ll1)
  generalize upd H29 S _=H30 at b z ⊢
  replace F:=F.same z
  replace bd1:=bd1.same z
  replace bd2:=bd2.same z
  clear z
  try dsimp only
  refine ax fun M14 K14=>?_
  refine Or.inl ⟨_,_,Or.inl (SqL.of (ao _ _ F.hn)),cA E.N (i:=13) (by decide),by show 2 <= sizeLine;decide,fun k2 hk2=>?_⟩
  obtain ⟨b,z,ek2⟩:=b.nw hk2 (HO.tup [V.str (E.N 13),.int 1])
  generalize upd H30 k2 _=H31 at b z ek2 ⊢
  refine Or.inl ⟨_,_,Or.inl (SqL.of (ao _ _ (z _ _ F.hn))),cA E.N (i:=15) (by decide),by show 2 <= sizeLine;decide,fun k3 hk3=>?_⟩
  obtain ⟨b,z1,ek3⟩:=b.nw hk3 (HO.tup [V.str (E.N 15),.int 2])
  generalize upd H31 k3 _=H32 at b z1 ek3 ⊢
  refine ⟨by show 2 <= sizeLine;decide,fun lk2 hlk2=>?_⟩
  obtain ⟨b,z2,elk⟩:=b.nw hlk2 (HO.lst [V.ref k2,.ref k3])
  generalize upd H32 lk2 _=H33 at b z2 elk ⊢
  refine ⟨_,cF.k (k:=.inr "known") b.hS (show 7 < sizeLine by decide),K14 _ _ ?_⟩
  rw [show putK (st7 ln row2 lm lo1 lk1 lt1 ll1) (.inr "known") (.ref lk2)=st7 ln row2 lm lo1 lk2 lt1 ll1 from rfl]
  obtain ⟨b,z3⟩:=b.st (st7 ln row2 lm lo1 lk2 lt1 ll1)
  generalize upd H33 S _=H34 at b z3 ⊢
  replace z2:=z2.trans z3
  replace elk:=z3 _ _ elk
  replace ek3:=z2 _ _ ek3
  replace ek2:=z2 _ _ (z1 _ _ ek2)
  replace z:=z.trans (z1.trans z2)
  replace F:=F.same z
  replace bd1:=bd1.same z
  replace bd2:=bd2.same z
  clear z z1 z2 z3 hk2 hk3 hlk2
  try dsimp only
  refine ax fun M15 K15=>?_
  refine ⟨_,cF.k (k:=.inr "things") b.hS (show 7 < sizeLine by decide),K15 _ _ ?_⟩
  rw [show putK (st7 ln row2 lm lo1 lk2 lt1 ll1) (.inr "things") (.ref lth)=st7 ln row2 lm lo1 lk2 lth ll1 from rfl]
  obtain ⟨b,z⟩:=b.st (st7 ln row2 lm lo1 lk2 lth ll1)
  generalize upd H34 S _=H35 at b z ⊢
  try dsimp only
  refine ax fun M16 K16=>?_
  refine ⟨by show 2 <= sizeLine;decide,fun lo2 hlo2=>?_⟩
  obtain ⟨b,z1,eo⟩:=b.nw hlo2 (HO.lst [V.int 4,.int 3])
  generalize upd H35 lo2 _=H36 at b z1 eo ⊢
  refine ⟨_,cF.k (k:=.inr "mosts") b.hS (show 7 < sizeLine by decide),K16 _ _ ?_⟩
  rw [show putK (st7 ln row2 lm lo1 lk2 lth ll1) (.inr "mosts") (.ref lo2)=st7 ln row2 lm lo2 lk2 lth ll1 from rfl]
  obtain ⟨b,z2⟩:=b.st (st7 ln row2 lm lo2 lk2 lth ll1)
  generalize upd H36 S _=H37 at b z2 ⊢
  replace eo:=z2 _ _ eo
  replace z:=z.trans (z1.trans z2)
  replace F:=F.same z
  clear z1 z2 hlo2
  try dsimp only
  refine ax fun M17 K17=>?_
  refine ⟨_,rfl,_,rfl,Or.inl ⟨a,_,rfl,(F.z.trans ao).seq hA,fun p7 hp7=>?_⟩⟩
  obtain ⟨b,z1,e⟩:=b.nw hp7 (HO.lst (iP (ns.map V.int) (some 9) (some 47)))
  generalize upd H37 p7 _=H38 at b z1 e ⊢
  refine ⟨p7,_,rfl,SqL.of (ao _ _ e),fun ll2 hll2=>?_⟩
  rw [show (iP (ns.map V.int) (some 9) (some 47)).reverse=(fU ns 9 47).map V.int from uM ns 9 47]
  have llm:lm ≠ ll2:=(fresh_ne hll2 b.hm).symm
  have llS:S ≠ ll2:=(fresh_ne hll2 b.hS).symm
  obtain ⟨b,z2,el⟩:=b.add hll2 (HO.lst ((fU ns 9 47).map V.int))
  generalize upd H38 ll2 _=H39 at b z2 el ⊢
  refine ⟨_,cF.k (k:=.inr "cells") b.hS (show 7 < sizeLine by decide),K17 _ _ ?_⟩
  rw [show putK (st7 ln row2 lm lo2 lk2 lth ll1) (.inr "cells") (.ref ll2)=st7 ln row2 lm lo2 lk2 lth ll2 from rfl]
  obtain ⟨b,z3⟩:=b.st (st7 ln row2 lm lo2 lk2 lth ll2)
  have el:=ah (x:=S) (u:=.dK (st7 ln row2 lm lo2 lk2 lth ll2)) llS.symm el
  generalize upd H39 S _=H40 at b z3 el ⊢
  replace z1:=z1.trans (z2.trans z3)
  replace z:=z.trans z1
  replace F:=F.same z1
  replace bd1:=bd1.same z
  replace bd2:=bd2.same z
  have mo01:∀i < 2,0 <= mo2 r1 r2 i/\mo2 r1 r2 i <= 78:=fun i h=>by
   have:i=0 \/ i=1:=by omega
   rcases this with rfl | rfl
   ·exact ⟨c10,by show c1D r1 <= 78;omega⟩
   ·exact ⟨c20,c2⟩
  have w79:∀k,79 <= wt3 k:=fun k=>by unfold wt3;split;omega;split <;> omega
  have O3:nE E ⟨S,ln,lm,lo2,lk2,lth,ll2,[4,3],2,[2,3,4,6,7,8]⟩:=Z.la b.n1 llS llm (by decide) (by decide) (by decide) (by decide) (by decide)
  have L3:dg E (mo2 r1 r2) ex0 H40 ⟨S,ln,lm,lo2,lk2,lth,ll2,[4,3],2,[2,3,4,6,7,8]⟩ ⟨row2,y2.marks,fU ns 9 47⟩:=⟨⟨F.hn,z1 _ _ eo,⟨[.ref k2,.ref k3],z _ _ elk,.cons ⟨k2,rfl,z _ _ ek2⟩ (.cons ⟨k3,rfl,z _ _ ek3⟩ .nil)⟩,F.ht⟩,b.hS,b.hm,el⟩
  have W3:Wts ⟨S,ln,lm,lo2,lk2,lth,ll2,[4,3],2,[2,3,4,6,7,8]⟩ (mo2 r1 r2) wt3:=⟨fun k=>by have:=w79 k;omega,fun i h=>⟨(mo01 i h).1,fun k=>by have:=w79 k;have:=(mo01 i h).2;omega⟩,fun k m h=>by
   match k,h with
   | 0,h=>cases h;exact ⟨by decide,by decide⟩
   | 1,h=>cases h;exact ⟨by decide,by decide⟩
   | k + 2,h=>cases h⟩
  have q3:=nV ns (i:=9) (j:=47) (by decide)
  clear z z1 z2 z3 elk ek2 ek3 eo hp7 hll2 e
  try dsimp only
  refine ax fun M18 K18=>?_
  refine ⟨⟨E,mo2 r1 r2,2,wt3⟩,trivial,⟨S,ln,lm,lo2,lk2,lth,ll2,[4,3],2,[2,3,4,6,7,8]⟩,⟨row2,y2.marks,fU ns 9 47⟩,0,0,rfl,rfl,O3,L3,rfl,W3,(by show (fU ns 9 47).length <= 100;omega),fun B3 r3 y3 H41 g L4 bd3 n3 c3=>K18 _ _ ?_⟩
  obtain ⟨b',z,w41⟩:=tZ (fun x m=>b.al x (List.mem_append_left _ m)) g L4
  replace z:aj _ (del [S,lm] H41):=z
  replace F:=F.same z
  replace bd1:=(bd1.same z).same ao
  replace bd2:=(bd2.same z).same ao
  have bd3:cN E 2 4 H41 B3 r3:=(bd3.same w41).same ao
  have n3:r3.length <= 100:=by have n3:r3.length + y3.cells.length <= (fU ns 9 47).length:=n3;omega
  have c3:dQ (mo2 r1 r2) 4 r3 <= 36024:=by have c3:dQ (mo2 r1 r2) 4 r3 + 948 * (y3.cells.length:Int) <= 948 * ((fU ns 9 47).length:Int):=c3;omega
  try dsimp only
  refine ⟨by show 3 <= sizeLine;decide,fun lb hlb=>?_⟩
  obtain ⟨s1,e1⟩:=alc hlb (HO.lst [V.ref B1,.ref B2,.ref B3])
  generalize upd H41 lb _=H42 at s1 e1 ⊢
  refine ⟨by show 3 <= sizeLine;decide,fun t ht=>?_⟩
  obtain ⟨s2,e2⟩:=alc ht (HO.tup [V.ref ln,.ref lb,(.int (row1 - 1))])
  have y:=s1.trans s2
  exact q t ln lb B1 B2 B3 (row1 - 1) r1 r2 r3 _ ((F.z.trans ao).trans y) ⟨e2,y _ _ (ao _ _ F.hn),s2 _ _ e1,bd1.same y,bd2.same y,bd3.same y,n1,n2,n3,c3⟩
end
section
variable {P:Program}{w:World}{K:W.Frag}{mg:Str->Option Value}{base:Heap}{A:Adr}{E:En}
seal PE PA PS PSs PT PW
def j3 (A:Adr) (E:En) (H:Hp) (d:Addr) (nm:Nat) (ps:List Nat) (rs:List Rw):Prop:=∃dx dn pp pb ys,H d=some (.ins A.bq dx [("number",dn),("name",.str (E.N nm)),("parts",.ref pp),("body",.ref pb)])/\H pp=some (.lst (stV E ps))/\H pb=some (.lst ys)/\Paired (dW A E.N H 4) ys rs
theorem j3.same {H H':Hp} (z:aj H H') {d:Addr}{nm:Nat}{ps:List Nat}{rs:List Rw} (h:j3 A E H d nm ps rs):j3 A E H' d nm ps rs:=by
 obtain ⟨dx,dn,pp,pb,ys,h1,h2,h3,h4⟩:=h
 exact ⟨dx,dn,pp,pb,ys,z _ _ h1,z _ _ h2,z _ _ h3,Paired.cm h4 fun _ _=>dW.same z⟩
structure Ck (A:Adr) (E:En) (H:Hp) (p:Pa) (c:Int) (hv xs:List V) (d1 d2:Addr) (r1 r2 r3:List Rw):Prop where
 pr:H p.pa=some (.ins A.Program p.dp [("heads",.ref p.hd),("deeds",.ref p.dd),("main",.ref p.mn)])
 hd:H p.hd=some (.lst hv)
 h:Paired (lI A E.N H) hv (eT c)
 dd:H p.dd=some (.lst [.ref d1,.ref d2])
 d1:j3 A E H d1 13 [14] r1
 d2:j3 A E H d2 15 [16,17] r2
 mn:H p.mn=some (.lst xs)
 m:Paired (dW A E.N H 4) xs r3
def tV (A:Adr):Sp:=fun vs H Q _=>∃(E:En) (t ln lb B1 B2 B3:Addr) (n c:Int) (r1 r2 r3:List Rw),vs=[.ref t,.int c]/\CK E H t ln lb B1 B2 B3 n r1 r2 r3 /\
 ∀(p:Pa) (hv xs:List V) (d1 d2:Addr) (H':Hp),aj H H'->Ck A E H' p c hv xs d1 d2 r1 r2 r3->Q (.ref p.pa) H'
theorem wO (T:Txt K mg A):Has P w K mg base 10 "_law_program" ["_law_drawn_here","_law_cell"] (tV A):=by
 have D_DeedRow_init:=ot (P:=P) (w:=w) (base:=base) T
 have D_Program_init:=oZ (P:=P) (w:=w) (base:=base) T
 have D_law_heads:=Has.ex (P:=P) (w:=w) (base:=base) (sp:=fun N:Nat->Str=>sH A N) (p:=fun _=>True) (nmV 0) trivial fun N _=>zR T
 have D_law_made:=Has.ex (P:=P) (w:=w) (base:=base) (sp:=fun i:En × Nat=>nR A i.1 i.2 4) (p:=fun _=>True) (ix0.E,0) trivial fun i _=>yi T 4
 refine T.nr.has (k:=9) dO (fun vs H Q E h=>?_) (fun f cdv A' outer s H vs Q E' hr hu h=>?_)
 ·obtain ⟨E,t,ln,lb,B1,B2,B3,n,c,r1,r2,r3,rfl,_⟩:=h
  rfl
 ·obtain ⟨E,t,ln,lb,B1,B2,B3,n,c,r1,r2,r3,rfl,R,q⟩:=h
  refine ⟨_,(ab (bo (fv 0) (pv rfl (di (pgn (i:=2) dO.nd rfl) (di (pgn (i:=3) dO.nd rfl) (di (pgn (i:=4) dO.nd rfl) lU)))))
  (ab (aC (i:=5) dO.nd rfl (Or.inl rfl) (bE (aa (bW (hj:=by omega) T.cQ D_DeedRow_init hr (aa ae (aa (px hu (fv 2) ae) (aa (bE (aa (px hu (fv 2) ae) af)) (aa (ar (hj:=by omega) D_law_made hr (aa (px hu (fv 3) ae) af)) af))))) af)))
  (ab (aP (bN (fv 5) (aa (bW (hj:=by omega) T.cQ D_DeedRow_init hr (aa (fv 4) (aa (px hu (fv 2) ae) (aa (bE (aa (px hu (fv 2) ae) (aa (px hu (fv 2) ae) af))) (aa (ar (hj:=by omega) D_law_made hr (aa (px hu (fv 3) ae) af)) af))))) af)))
  (ag (aA (bW (hj:=by omega) T.dz D_Program_init hr (aa (ar (hj:=by omega) D_law_heads hr (aa (fv 2) (aa (fv 1) af))) (aa (fv 5) (aa (ar (hj:=by omega) D_law_made hr (aa (px hu (fv 3) ae) af)) af))))))))),?_⟩
  refine ⟨t,_,rfl,SqT.of R.t,rfl,_,_,rfl,_,_,rfl,_,_,rfl,rfl,?_⟩
  try dsimp only
  refine ax fun M1 K1=>?_
  refine Or.inl ⟨_,_,Or.inl (SqL.of R.ln),cA E.N (i:=13) (by decide),Or.inl ⟨_,_,Or.inl (SqL.of R.ln),cA E.N (i:=14) (by decide),by show 1 <= sizeLine;decide,fun p1 hp1=>?_⟩⟩
  obtain ⟨s1,e1⟩:=alc hp1 (HO.lst [V.str (E.N 14)])
  generalize upd H p1 _=H1 at s1 e1 ⊢
  refine Or.inl ⟨_,_,Or.inl (SqL.of (s1 _ _ R.lb)),rfl,(E,0),trivial,B1,r1,H1,rfl,aj.refl _,R.b1.same s1,(by have:=R.l1;omega),fun R1 ys1 H2 s2 hR1 eR1 p2=>?_⟩
  refine fun ra dx3 hr3 hd_ hne_=>pA (SqL.of (s2 _ _ e1)) (SqL.of eR1) hr3 hd_ fun n1 n2 H3 f1 f2 s3 h1 h2 hx3=>⟨rfl,?_⟩
  have q3:Paired (dW A E.N H3 4) ys1 r1:=Paired.cm p2 fun _ _=>dW.same ((ao.trans Mix.same).trans s3)
  have d3:j3 A E H3 ra 13 [14] r1:=⟨dx3,_,n1,n2,ys1,hx3,h1,h2,q3⟩
  refine ⟨by show 1 <= sizeLine;decide,fun L hL=>K1 _ _ ?_⟩
  have s4:=aj.upd hL (HO.lst [V.ref ra])
  have e4:(upd H3 L (HO.lst [V.ref ra])) L=some (.lst [.ref ra]):=aq
  have d4:j3 A E (del [L] (upd H3 L (HO.lst [V.ref ra]))) ra 13 [14] r1:=d3.same fun x o e=>aV (fun m=>by rw [List.mem_singleton.mp m,hL] at e;cases e) (s4 _ _ e)
  generalize upd H3 L (HO.lst [V.ref ra])=H4 at s4 e4 d4 ⊢
  have t3:=(s1.trans s2).trans s3
  have L0:H L=none:=aj.free t3 hL
  have t4:=t3.trans s4
  clear s1 s2 s3 s4 e1 p2 hR1 eR1 hx3 h1 h2 q3 d3 hr3 f1 f2 hL hp1 t3
  try dsimp only
  refine ax fun M2 K2=>?_
  refine ⟨Or.inl ⟨rfl,_,SqL.of e4⟩,Or.inl ⟨_,_,Or.inl (SqL.of (t4 _ _ R.ln)),cA E.N (i:=15) (by decide),Or.inl ⟨_,_,Or.inl (SqL.of (t4 _ _ R.ln)),cA E.N (i:=16) (by decide),Or.inl ⟨_,_,Or.inl (SqL.of (t4 _ _ R.ln)),cA E.N (i:=17) (by decide),by show 2 <= sizeLine;decide,fun p5 hp5=>?_⟩⟩⟩⟩
  obtain ⟨s5,e5⟩:=alc hp5 (HO.lst [V.str (E.N 16),.str (E.N 17)])
  generalize upd H4 p5 _=H5 at s5 e5 ⊢
  have t5:=t4.trans s5
  refine Or.inl ⟨_,_,Or.inl (SqL.of (t5 _ _ R.lb)),rfl,(E,1),trivial,B2,r2,H,rfl,t5,R.b2,(by have:=R.l2;omega),fun R2 ys2 H6 s6 hR2 eR2 p6=>?_⟩
  refine fun r7 dx7 hr7 hd_ hne_=>pA (SqL.of (s6 _ _ e5)) (SqL.of eR2) hr7 hd_ fun n1 n2 H7 f1 f2 s7 h1 h2 hx7=>⟨rfl,?_⟩
  have L6:H6 L=some (.lst [.ref ra]):=(s5.trans s6) _ _ e4
  have L7:=s7 _ _ L6
  have nL:∀{x:Addr},H6 x=none->x ≠ L:=fun h=>fresh_ne h L6
  have d8:j3 A E (del [L] (upd H7 L (.lst [.ref ra,.ref r7]))) r7 15 [16,17] r2:=by
   have z:aj (del [R2] (Mix H H5 H6)) (del [L] (upd H7 L (.lst [.ref ra,.ref r7]))):=fun x o e=>by
    obtain ⟨_,e1⟩:=eO e
    obtain ⟨e2,e3⟩:=Mix.get e1
    have xL:x ≠ L:=fun z=>by
     rw [z] at e2
     rcases e2 with e2 | e2
     ·exact e2 L0
     ·rw [s5 _ _ e4] at e2;cases e2
    exact aV (fun m=>xL (List.mem_singleton.mp m)) (ah xL (s7 _ _ e3))
   have k:∀{x:Addr}{o:HO},H6 x=none->H7 x=some o->del [L] (upd H7 L (.lst [.ref ra,.ref r7])) x=some o:=fun h e=>aV (fun m=>nL h (List.mem_singleton.mp m)) (ah (nL h) e)
   exact ⟨dx7,_,n1,n2,ys2,k hr7 hx7,k f1 h1,k f2 h2,Paired.cm p6 fun _ _=>dW.same z⟩
  have z8:aj (del [L] H4) (del [L] (upd H7 L (.lst [.ref ra,.ref r7]))):=fun x o e=>by
   obtain ⟨e1,e2⟩:=eO e
   have xL:x ≠ L:=fun z=>e1 (by rw [z];simp)
   exact aV e1 (ah xL (((s5.trans s6).trans s7) _ _ e2))
  refine ⟨_,_,_,rfl,rfl,L7,aM (show 1 <= 1000 by decide),K2 _ _ ?_⟩
  have e8:(upd H7 L (.lst [.ref ra,.ref r7])) L=some (.lst [.ref ra,.ref r7]):=aq
  have t8:aj H (upd H7 L (.lst [.ref ra,.ref r7])):=aj.out (t5.trans (s6.trans s7)) L0 _
  have d18:=(d4.same z8).same ao
  have d28:=d8.same ao
  have e9:upd H7 L (.lst ([.ref ra] ++ [.ref r7]))=upd H7 L (.lst [.ref ra,.ref r7]):=rfl
  rw [e9]
  generalize upd H7 L (.lst [.ref ra,.ref r7])=H8 at e8 t8 d18 d28 ⊢
  clear e9 d4 d8 z8 nL L6 L7 s5 s6 s7 e5 p6 hR2 eR2 hx7 h1 h2 hr7 f1 f2 hp5 t5 e4 t4
  try dsimp only
  refine ⟨E.N,trivial,ln,c,rfl,t8 _ _ R.ln,fun hl hv H9 s9 _ ehl ph=>?_⟩
  have t9:=t8.trans s9
  refine Or.inl ⟨_,_,Or.inl (SqL.of (t9 _ _ R.lb)),rfl,(E,2),trivial,B3,r3,H9,rfl,aj.refl _,R.b3.same t9,(by have:=R.l3;omega),fun R3 ys3 H10 s10 hR3 eR3 p10=>?_⟩
  refine fun rp dxp hrp hd_ hne_=>uJ (SqL.of (s10 _ _ ehl)) (SqL.of ((s9.trans s10) _ _ e8)) (SqL.of eR3) hrp hd_ fun n1 n2 n3 H11 f1 f2 f3 s11 h1 h2 h3 hxp=>⟨rfl,?_⟩
  have s9':=s9.trans (s10.trans s11)
  exact q ⟨rp,dxp,n1,n2,n3⟩ hv ys3 ra r7 H11 (t9.trans (s10.trans s11)) ⟨hxp,h1,Paired.cm ph fun _ _=>lI.same (s10.trans s11),h2,d18.same s9',d28.same s9',h3,Paired.cm p10 fun _ _=>dW.same ((ao.trans Mix.same).trans s11)⟩
def gnV (c:Int) (k i:Nat):Int:=tJ (qY c (i + 4 * k))
def glV (c:Int) (k z:Nat):List Int:=(List.range z).map fun j=>tJ (qY c (5 + j + 4 * k))
def gF (c:Int) (k:Nat) (l:Addr) (i:Nat):V:=if i=5 then .ref l else .int (gnV c k i)
def xO (K:W.Frag):Sp:=fun vs H Q _=>∃(E:En) (ln a:Addr) (ns:List Int) (k:Nat),vs=[.ref ln,.ref a,.int k]/\k <= 1/\H ln=some (.lst (nmL E.N))/\SqL K H a (ns.map V.int)/\ja E.N /\
 ∀(g l:Addr) (H':Hp),aj H H'->H g=none->H l=none->l ≠ g->H' g=some (.dK (dk E.N [2,3,4,5] (gF (cellAt ns 2) k l)))->H' l=some (.lst ((glV (cellAt ns 2) k (z5 (cellAt ns 1))).map V.int))->Q (.ref g) H'
theorem vB (T:Txt K mg A):Has P w K mg base 2 "_law_gifts" ["_law_names","_law_script","_law_turn"] (xO K):=by
 have D_law_cell_at:=qW (P:=P) (w:=w) (base:=base) T
 have D_law_mix:=yb (P:=P) (w:=w) (base:=base) T
 have D_law_number:=yE (P:=P) (w:=w) (base:=base) T
 refine T.qd.has (k:=1) eX (fun vs H Q E h=>?_) (fun f cdv A' outer s H vs Q E' hr hu h=>?_)
 ·obtain ⟨E,ln,a,ns,k,rfl,_⟩:=h
  rfl
 ·obtain ⟨E,ln,a,ns,k,rfl,k1,hn,hA,D,q⟩:=h
  refine ⟨_,(ab (aC (i:=3) eX.nd rfl (Or.inr rfl) (ar D_law_cell_at hr (aa (fv 1) (aa ae af))))
  (ab (aC (i:=4) eX.nd rfl (Or.inl rfl) (ma))
  (ab (dX PassesOwn.never rfl (gi rfl T.cZ (aa ae (aa ae af))) (pgn (i:=5) eX.nd rfl)
   (ag (bo (ar D_law_number hr (aa (ar D_law_mix hr (aa (fv 3) (aa (aw bL (fv 5) (aw fe ae (fv 2))) af))) af)) (bA (fv 4) (px hu (fv 0) (fv 5)) (bB hu set_list)))))
  (ab (aC (i:=6) eX.nd rfl (Or.inl rfl) (aw bL ae (aw bF (aw bT (ar D_law_cell_at hr (aa (fv 1) (aa ae af))) ae) ae)))
  (ab (bo (kI (N:=["_law_j","_law_cell","_law_turn"]) (own:=1) (fr:=[3,2]) (df.of (by kernel_rfl!)) rfl (gh rfl T.cZ (aa (fv 6) af)) (fun b=>pgn (i:=0) (show List.Nodup (["_law_j","_law_cell","_law_turn"]:List PySem.Str) by decide +kernel) rfl) (fun b=>jU) (fun b=>ar D_law_number hr (aa (ar D_law_mix hr (aa (fv 1) (aa (aw bL (aw bL ae (fv 0)) (aw fe ae (fv 2))) af))) af))) (bA (fv 4) (px hu (fv 0) ae) (bB hu set_list)))
  (ag (aA (fv 4)))))))),?_⟩
  refine ⟨a,ns,2,rfl,hA,by decide,?_⟩
  generalize cellAt ns 2=c at q ⊢
  try dsimp only
  refine fun g hg=>?_
  obtain ⟨s1,e1⟩:=alc hg (HO.dK [])
  generalize upd H g _=H1 at s1 e1 ⊢
  try dsimp only
  refine ax fun M1 K1=>?_
  refine ⟨2,5,rfl,⟨by decide,by decide,by decide,by decide⟩,?_⟩
  refine d7 (lo:=2) (fun i σ Hc=>∃v5:Option V,σ=[some (.ref ln),some (.ref a),some (.int k),some (.int c),some (.ref g),v5,none]/\aj H Hc/\Hc g=some (.dK (dk E.N ([2,3,4].take i) fun j=>.int (gnV c k j)))) ⟨none,rfl,s1,e1⟩ ?_ ?_
  ·rintro i σ Hc hi ⟨v5,rfl,sc,eg⟩
   have hi3:i < 3:=hi
   have e2:(2 + (i:Int))=((2 + i:Nat):Int):=by omega
   have e3:(2 + (i:Int)) + 4 * (k:Int)=((2 + i + 4 * k:Nat):Int):=by omega
   refine ⟨.inl ⟨by decide,by decide⟩,c,2 + i + 4 * k,(by rw [<- e3];rfl),by omega,fun H2 s2=>?_⟩
   obtain ⟨m0,m1⟩:=uC c (2 + i + 4 * k)
   refine ⟨qY c (2 + i + 4 * k),rfl,by omega,by omega,?_⟩
   have eg2:=s2 _ _ eg
   refine Or.inl ⟨_,.str (E.N (2 + i)),Or.inl (SqL.of ((sc.trans s2) _ _ hn)),(by rw [e2];exact cA E.N (by omega)),_,cF.k (k:=.inr (E.N (2 + i))) eg2 (aM (by rw [eB,List.length_take];show min i 3 <= 1000;omega)),?_⟩
   refine ⟨_,rfl,aj.out (sc.trans s2) hg _,?_⟩
   rw [aq]
   have:i=0 \/ i=1 \/ i=2:=by omega
   rw [fg D (by omega) (fun j hj=>by rcases this with rfl | rfl | rfl <;> simp at hj <;> omega) (fun hj=>by rcases this with rfl | rfl | rfl <;> simp at hj)]
   have et:([2,3,4]:List Nat).take (i + 1)=([2,3,4]:List Nat).take i ++ [2 + i]:=by rcases this with rfl | rfl | rfl <;> rfl
   rw [et]
   refine congrArg some (congrArg HO.dK (du fun j _=>?_))
   by_cases e:j=2 + i
   ·rw [e,dA];rfl
   ·rw [fE _ _ e]
  rintro σ H3 ⟨v5,rfl,s3,eg⟩
  refine K1 _ _ ?_
  refine ⟨a,ns,1,rfl,s3.seq hA,by decide,⟨by decide,by decide⟩,(by show (0:Int) < 20;decide),?_⟩
  try dsimp only
  have mz:=bK (cellAt ns 1 / 11) (show (0:Int) < 20 by decide)
  have zb:z5 (cellAt ns 1) <= 20/\0 < z5 (cellAt ns 1):=by unfold z5;omega
  refine ⟨_,rfl,by omega,by omega,jS (J:=Itr 0 (z5 (cellAt ns 1))) (n:=z5 (cellAt ns 1)) (x:=fun j=>.int (0 + j)) (fun j y _=>y=.int (tJ (qY c (5 + j + 4 * k)))) (aM (by omega)) (fun _ _=>Nat.le_refl _) (fun _ _ h _=>h) (fun _ _ _ _ _ _ y=>y) (fun b j H4 G hj s4 kk=>?_) (fun _ _ _ _ _ h=>h) (fun _ _ _ _ _ _ _ h=>h) (fun l H4 ys l0 s4 el ly hy=>?_)⟩
  ·have e3:5 + (0 + (j:Int)) + 4 * (k:Int)=((5 + j + 4 * k:Nat):Int):=by omega
   refine ⟨.inl ⟨by decide,by decide⟩,c,5 + j + 4 * k,(by rw [<- e3];rfl),by omega,fun H5 s5=>?_⟩
   obtain ⟨m0,m1⟩:=uC c (5 + j + 4 * k)
   exact ⟨_,rfl,by omega,by omega,kk _ _ s5 rfl⟩
  have ey:ys=(glV c k (z5 (cellAt ns 1))).map V.int:=by
   refine List.ext_getElem? fun i=>?_
   unfold glV
   rw [List.map_map,List.getElem?_map]
   by_cases h:i < z5 (cellAt ns 1)
   ·have lt:i < ys.length:=by omega
    rw [List.getElem?_range h,List.getElem?_eq_getElem lt,hy i _ (List.getElem?_eq_getElem lt)]
    rfl
   ·rw [List.getElem?_eq_none (by omega),List.getElem?_eq_none (by simp;omega)]
    rfl
  rw [ey] at el
  have eg4:=s4 _ _ eg
  refine Or.inl ⟨_,_,Or.inl (SqL.of ((s3.trans s4) _ _ hn)),cA E.N (i:=5) (by decide),_,cF.k (k:=.inr (E.N 5)) eg4 (aM (by rw [eB,List.length_take];show min _ 3 <= 1000;omega)),?_⟩
  have lg:l ≠ g:=fresh_ne l0 eg
  refine q g l _ (aj.out (s3.trans s4) hg _) hg (aj.free s3 l0) lg ?_ (ah lg el)
  rw [aq,show ((5:Int) - 2).toNat=3 from rfl,show ([2,3,4]:List Nat).take 3=[2,3,4] from rfl,fg D (by decide) (by decide) (by decide)]
  refine congrArg some (congrArg HO.dK (du fun j hj=>?_))
  unfold gF
  by_cases e:j=5
  ·rw [e,dA,if_pos rfl]
  ·rw [fE _ _ e,if_neg e]
theorem yn {E:En}{H:Hp}{g l:Addr}{c c1:Int}{k:Nat} (D:ja E.N) (hg:H g=some (.dK (dk E.N [2,3,4,5] (gF c k l)))) (hl:H l=some (.lst ((glV c k (z5 c1)).map V.int))):jt E (eT c1) H g (gnV c k) (fun _=>glV c k (z5 c1)):=by
 refine ⟨⟨_,hg,fun i z m=>?_⟩,fun i=>cj _,fun _ n hn=>?_⟩
 ·have lt:∀j ∈ ([2,3,4,5]:List Nat),j < 18:=by decide
  unfold eT at m
  simp only [List.mem_cons,List.not_mem_nil,or_false,reduceCtorEq,false_or,Hd.giv.injEq] at m
  rcases m with ⟨rfl,rfl⟩ | ⟨rfl,rfl⟩ | ⟨rfl,rfl⟩ | ⟨rfl,rfl⟩
  ·exact ⟨fun _=>eQ D lt (by decide),fun h=>absurd h (Nat.lt_irrefl _)⟩
  ·exact ⟨fun _=>eQ D lt (by decide),fun h=>absurd h (Nat.lt_irrefl _)⟩
  ·exact ⟨fun _=>eQ D lt (by decide),fun h=>absurd h (Nat.lt_irrefl _)⟩
  ·refine ⟨fun h=>by unfold z5 at h;omega,fun _=>⟨l,eQ D lt (by decide),hl,?_⟩⟩
   unfold glV
   rw [List.length_map,List.length_range]
 ·obtain ⟨j,_,rfl⟩:=List.mem_map.mp hn
  exact cj _
end
section
variable {P:Program}{w:World}{K:W.Frag}{mg:Str->Option Value}{base:Heap}{A:Adr}{E:En}
seal PE PA PS PSs PT PW
abbrev cIx:List Nat:=[2,3,4,5,6,7,8,14,16,17,9]
theorem xi:∀j ∈ cIx,j < 18:=by decide
structure WOk (E:En):Prop where
 D:ja E.N
 ix:∀i ∈ E.idx,i ∈ cIx
 nm:∀(i:Nat) (D:Dd),E.ds[i]?=some D->D.nm=nmD i
 dl:E.ds.length <= 2
 pt:∀d ∈ E.ds,∀j ∈ d.parts,j ∈ E.idx/\E.sz j=0
 sz:∀x,E.sz x <= 1000
def wK (r:Ra) (n:Int):List (Key × V):=[(.inr "cells",.ref r.c),(.inr "steps",.int n),(.inr "letters",.ref r.l),(.inr "said",.ref r.sd),(.inr "trace",.ref r.t),(.inr "deeds",.ref r.d)]
structure WAt (E:En) (H:Hp) (r:Ra) (k:S):Prop where
 nd:(r.M E).Nodup
 hb:H r.b=some (.dK (wK r k.steps))
 hc:H r.c=some (.dK (dk E.N cIx (cV E r.la k.num)))
 ht:∃xs,H r.t=some (.lst xs)/\fK (del (r.M E) H) xs k.trace
 hl:∃xs,H r.l=some (.lst xs)/\fK (del (r.M E) H) xs k.dI
 hd:∃xs,H r.sd=some (.lst xs)/\fK (del (r.M E) H) xs k.mf
 ha:∀i ∈ E.ls,H (r.la i)=some (.lst ((k.lst i).map V.int))
 ok:k.ok E
variable {H H':Hp}{r:Ra}{k:S}
theorem WAt.same (R:WAt E H r k) (s:aj H H'):WAt E H' r k:=by
 have g:=(Go.new (M:=r.M E) s).same
 obtain ⟨ts,t1,t2⟩:=R.ht
 obtain ⟨ls,l1,l2⟩:=R.hl
 obtain ⟨ds,d1,d2⟩:=R.hd
 exact ⟨R.nd,s _ _ R.hb,s _ _ R.hc,⟨ts,s _ _ t1,t2.same g⟩,⟨ls,s _ _ l1,l2.same g⟩,⟨ds,s _ _ d1,d2.same g⟩,fun i h=>s _ _ (R.ha i h),R.ok⟩
theorem WAt.has (R:WAt E H r k) {a:Addr} (m:a ∈ r.M E):∃o,H a=some o:=by
 unfold Ra.M at m
 rcases List.mem_append.mp m with m | m
 ·simp only [List.mem_cons,List.not_mem_nil,or_false] at m
  obtain ⟨ts,t1,t2⟩:=R.ht
  obtain ⟨ls,l1,l2⟩:=R.hl
  obtain ⟨ds,d1,d2⟩:=R.hd
  rcases m with rfl | rfl | rfl | rfl | rfl
  ·exact ⟨_,R.hb⟩
  ·exact ⟨_,R.hc⟩
  ·exact ⟨_,t1⟩
  ·exact ⟨_,l1⟩
  ·exact ⟨_,d1⟩
 ·obtain ⟨i,hi,rfl⟩:=List.mem_map.mp m
  exact ⟨_,R.ha i hi⟩
theorem WAt.free (R:WAt E H r k) {a:Addr} (e:H a=none):a ∉ r.M E:=fun m=>by
 obtain ⟨o,z⟩:=R.has m
 rw [e] at z
 cases z
theorem WAt.ne (R:WAt E H r k):Nes r E:=Nes.of R.nd
theorem WAt.steps (R:WAt E H r k) (n:Int):WAt E (upd H r.b (.dK (wK r n))) r { k with steps:=n }:=by
 have g:=(Go.at (H:=H) (r.inM E).1 (.dK (wK r n))).same
 have ne:=R.ne
 obtain ⟨ts,t1,t2⟩:=R.ht
 obtain ⟨ls,l1,l2⟩:=R.hl
 obtain ⟨ds,d1,d2⟩:=R.hd
 exact ⟨R.nd,aq,ah ne.bc.symm R.hc,⟨ts,ah ne.bt.symm t1,t2.same g⟩,⟨ls,ah ne.bl.symm l1,l2.same g⟩,⟨ds,ah ne.bd.symm d1,d2.same g⟩,fun i h=>ah (ne.a i h).1 (R.ha i h),⟨R.ok.num,R.ok.lst,R.ok.len⟩⟩
theorem WAt.trace (R:WAt E H r k) {p:Addr}{us w:List V} (hp:H p=none) (ht:H r.t=some (.lst us)):WAt E (upd (upd H p (.tup w)) r.t (.lst (us ++ [.ref p]))) r { k with trace:=k.trace ++ [w] }:=by
 have R1:=R.same (aj.upd hp (HO.tup w))
 have pm:=R.free hp
 have hp1:(upd H p (.tup w)) p=some (.tup w):=aq
 have ht1:=aj.upd hp (HO.tup w) _ _ ht
 generalize upd H p (.tup w)=H1 at R1 hp1 ht1 ⊢
 have g:=(Go.at (H:=H1) (r.inM E).2.2.1 (.lst (us ++ [.ref p]))).same
 have ne:=R.ne
 obtain ⟨ts,t1,t2⟩:=R1.ht
 obtain ⟨ls,l1,l2⟩:=R1.hl
 obtain ⟨ds,d1,d2⟩:=R1.hd
 rw [ht1] at t1
 cases t1
 exact ⟨R.nd,ah ne.bt R1.hb,ah ne.ct R1.hc,⟨_,aq,PySem.Paired.snoc (t2.same g) ⟨p,rfl,g _ _ (aV pm hp1)⟩⟩,⟨ls,ah ne.tl.symm l1,l2.same g⟩,⟨ds,ah ne.td.symm d1,d2.same g⟩,fun i h=>ah (ne.a i h).2.2.1 (R1.ha i h),⟨R.ok.num,R.ok.lst,R.ok.len⟩⟩
theorem WAt.ji (R:WAt E H r k) {p:Addr}{us w:List V} (hp:H p=none) (ht:H r.l=some (.lst us)):WAt E (upd (upd H p (.tup w)) r.l (.lst (us ++ [.ref p]))) r (k.ji w):=by
 have R1:=R.same (aj.upd hp (HO.tup w))
 have pm:=R.free hp
 have hp1:(upd H p (.tup w)) p=some (.tup w):=aq
 have ht1:=aj.upd hp (HO.tup w) _ _ ht
 generalize upd H p (.tup w)=H1 at R1 hp1 ht1 ⊢
 have g:=(Go.at (H:=H1) (r.inM E).2.2.2.1 (.lst (us ++ [.ref p]))).same
 have ne:=R.ne
 obtain ⟨ts,t1,t2⟩:=R1.ht
 obtain ⟨ls,l1,l2⟩:=R1.hl
 obtain ⟨ds,d1,d2⟩:=R1.hd
 rw [ht1] at l1
 cases l1
 exact ⟨R.nd,ah ne.bl R1.hb,ah ne.cl R1.hc,⟨ts,ah ne.tl t1,t2.same g⟩,⟨_,aq,PySem.Paired.snoc (l2.same g) ⟨p,rfl,g _ _ (aV pm hp1)⟩⟩,⟨ds,ah ne.ld.symm d1,d2.same g⟩,fun i h=>ah (ne.a i h).2.2.2.1 (R1.ha i h),⟨R.ok.num,R.ok.lst,R.ok.len⟩⟩
theorem WAt.jr (R:WAt E H r k) {p:Addr}{us w:List V} (hp:H p=none) (ht:H r.sd=some (.lst us)):WAt E (upd (upd H p (.tup w)) r.sd (.lst (us ++ [.ref p]))) r (k.jr w):=by
 have R1:=R.same (aj.upd hp (HO.tup w))
 have pm:=R.free hp
 have hp1:(upd H p (.tup w)) p=some (.tup w):=aq
 have ht1:=aj.upd hp (HO.tup w) _ _ ht
 generalize upd H p (.tup w)=H1 at R1 hp1 ht1 ⊢
 have g:=(Go.at (H:=H1) (r.inM E).2.2.2.2.1 (.lst (us ++ [.ref p]))).same
 have ne:=R.ne
 obtain ⟨ts,t1,t2⟩:=R1.ht
 obtain ⟨ls,l1,l2⟩:=R1.hl
 obtain ⟨ds,d1,d2⟩:=R1.hd
 rw [ht1] at d1
 cases d1
 exact ⟨R.nd,ah ne.bd R1.hb,ah ne.cd R1.hc,⟨ts,ah ne.td t1,t2.same g⟩,⟨ls,ah ne.ld l1,l2.same g⟩,⟨_,aq,PySem.Paired.snoc (d2.same g) ⟨p,rfl,g _ _ (aV pm hp1)⟩⟩,fun i h=>ah (ne.a i h).2.2.2.2 (R1.ha i h),⟨R.ok.num,R.ok.lst,R.ok.len⟩⟩
theorem WAt.put (R:WAt E H r k) (O:WOk E) {x:Nat} (hx:x ∈ E.idx) (hz:E.sz x=0) {v:Int} (hv:In v):WAt E (upd H r.c (.dK (putK (dk E.N cIx (cV E r.la k.num)) (.inr (E.N x)) (.int v)))) r (k.put x v):=by
 have e:putK (dk E.N cIx (cV E r.la k.num)) (.inr (E.N x)) (.int v)=dk E.N cIx (cV E r.la (k.put x v).num):=by
  rw [yM O.D xi (O.ix x hx)]
  refine du fun j _=>?_
  unfold rW cV
  show _=if E.sz j=0 then V.int (if j=x then v else k.num j) else _
  by_cases c:j=x
  ·rw [if_pos c,c,if_pos hz,if_pos rfl]
  ·rw [if_neg c,if_neg c]
 rw [e]
 have g:=(Go.at (H:=H) (r.inM E).2.1 (.dK (dk E.N cIx (cV E r.la (k.put x v).num)))).same
 have ne:=R.ne
 obtain ⟨ts,t1,t2⟩:=R.ht
 obtain ⟨ls,l1,l2⟩:=R.hl
 obtain ⟨ds,d1,d2⟩:=R.hd
 refine ⟨R.nd,ah ne.bc R.hb,aq,⟨ts,ah ne.ct.symm t1,t2.same g⟩,⟨ls,ah ne.cl.symm l1,l2.same g⟩,⟨ds,ah ne.cd.symm d1,d2.same g⟩,fun i h=>ah (ne.a i h).2.1 (R.ha i h),⟨fun a=>?_,R.ok.lst,R.ok.len⟩⟩
 show In (if a=x then v else k.num a)
 split
 ·exact hv
 ·exact R.ok.num a
theorem WAt.nB (R:WAt E H r k) {x:Nat} (hx:x ∈ E.ls) (i:Int) {v:Int} (hv:In v):WAt E (upd H (r.la x) (.lst (((k.lst x).map V.int).set (i % ((k.lst x).length:Int)).toNat (.int v)))) r (k.nB x i v):=by
 have g:=(Go.at (H:=H) ((r.inM E).2.2.2.2.2 x hx) (.lst (((k.lst x).map V.int).set (i % ((k.lst x).length:Int)).toNat (.int v)))).same
 have ne:=R.ne
 obtain ⟨a1,a2,a3,a4,a5⟩:=ne.a x hx
 obtain ⟨ts,t1,t2⟩:=R.ht
 obtain ⟨ls,l1,l2⟩:=R.hl
 obtain ⟨ds,d1,d2⟩:=R.hd
 have el:∀j,(k.nB x i v).lst j=if j=x then (k.lst x).set (i % ((k.lst x).length:Int)).toNat v else k.lst j:=fun _=>rfl
 refine ⟨R.nd,ah a1.symm R.hb,ah a2.symm R.hc,⟨ts,ah a3.symm t1,t2.same g⟩,⟨ls,ah a4.symm l1,l2.same g⟩,⟨ds,ah a5.symm d1,d2.same g⟩,fun j h=>?_,⟨R.ok.num,fun j n hn=>?_,fun j hj hz=>?_⟩⟩
 ·rw [el]
  by_cases c:j=x
  ·rw [c,if_pos rfl,aq,List.map_set]
  ·rw [if_neg c]
   exact ah (fun z=>c (ne.i j h x hx z)) (R.ha j h)
 ·rw [el] at hn
  split at hn
  ·rcases List.mem_or_eq_of_mem_set hn with z | z
   ·exact R.ok.lst x n z
   ·rw [z];exact hv
  ·exact R.ok.lst j n hn
 ·rw [el]
  split
  ·rename_i c
   rw [List.length_set]
   rw [c] at hj hz ⊢
   exact R.ok.len x hj hz
  ·exact R.ok.len j hj hz
theorem WAt.get (R:WAt E H r k) (O:WOk E) {i:Nat} (hi:i ∈ E.idx):bu H r.c (.str (E.N i)) (some (cV E r.la k.num i)):=by
 have:=bu.k (k:=.inr (E.N i)) R.hc
 rw [eQ O.D xi (O.ix i hi)] at this
 exact this
theorem WAt.gn (R:WAt E H r k) (O:WOk E) {i:Nat} (hi:i ∈ E.idx) (hz:E.sz i=0):bu H r.c (.str (E.N i)) (some (.int (k.num i))):=by
 have:=R.get O hi
 unfold cV at this
 rw [if_pos hz] at this
 exact this
theorem WAt.gl (R:WAt E H r k) (O:WOk E) {i:Nat} (hi:i ∈ E.idx) (hz:0 < E.sz i):bu H r.c (.str (E.N i)) (some (.ref (r.la i))):=by
 have:=R.get O hi
 unfold cV at this
 rw [if_neg (by omega)] at this
 exact this
def LDd (E:En) (X:Hp) (d:Addr):Prop:=∃dv,X d=some (.dK (dk E.N [13,15] dv))/\∀(i:Nat) (D:Dd),E.ds[i]?=some D->∃q B P xs,dv D.nm=.ref q/\X q=some (.tup [.ref B,.ref P])/\X P=some (.lst (D.parts.map fun j=>V.str (E.N j)))/\X B=some (.lst xs)/\Paired (aZ E.N X 4) xs D.body
theorem LDd.same {X X':Hp}{d:Addr} (z:aj X X') (h:LDd E X d):LDd E X' d:=by
 obtain ⟨dv,h1,h2⟩:=h
 refine ⟨dv,z _ _ h1,fun i D hD=>?_⟩
 obtain ⟨q,B,P,xs,e1,e2,e3,e4,e5⟩:=h2 i D hD
 exact ⟨q,B,P,xs,e1,z _ _ e2,z _ _ e3,z _ _ e4,Paired.cm e5 fun _ _=>aZ.same z⟩
def xD (E:En):Sp:=fun vs H Q _=>∃(r:Ra) (k:S) (t:Th),vs=[.ref r.b,t.v E.N]/\WAt E H r k/\t.ok E/\Q (.int (t.num k)) H
theorem rg (T:Txt K mg A) (O:WOk E):Has P w K mg base 1 "_law_taken" ["_law_world","_law_thing_here"] (xD E):=by
 refine T.qh.has (k:=0) qO (fun vs H Q E h=>?_) (fun f cdv A' outer s H vs Q E' hr hu h=>?_)
 ·obtain ⟨r,k,t,rfl,_⟩:=h
  rfl
 ·obtain ⟨r,k,t,rfl,R,ht,q⟩:=h
  refine ⟨_,(ab (aO (bU (aG bg rfl T.aB (by boot_by_name) (aa (fv 1) (aa (cJ (v:=.ty "str") rfl T.nq (by boot_by_name) rfl) af))) (fun _=>rfl))
   (ag (aA (px hu (px hu (fv 0) ai) (fv 1))))
   aH)
  (ag (aA (fv 1)))),?_⟩
  cases t with
  | i n=>exact ⟨_,_,_,false,rfl,(fun z=>by cases z),.int n,rF,false,rfl,bw q⟩
  | x a=>exact ⟨_,_,_,true,rfl,(fun z=>by cases z),.str _,lB,true,rfl,cU ⟨_,bu.k (k:=.inr "cells") R.hb,_,R.gn O ht.1 ht.2,q⟩⟩
theorem Ak (a b:Int):rkn a b "+"=(a + b) % 1000000000000:=by
 unfold rkn
 rw [if_pos (by decide)]
theorem zC (a b:Int):rkn a b "-"=(a - b) % 1000000000000:=by
 unfold rkn
 rw [if_neg (by decide),if_pos (by decide)]
theorem Aa (a b:Int):rkn a b "*"=(a * b) % 1000000000000:=by
 unfold rkn
 rw [if_neg (by decide),if_neg (by decide),if_pos (by decide)]
theorem sr (a b:Int):rkn a b "over"=if b=0 then 0 else a / b:=by
 unfold rkn
 rw [if_neg (by decide),if_neg (by decide),if_neg (by decide),if_pos (by decide),fW]
 by_cases e:b=0
 ·rw [if_pos (decide_eq_true e),if_pos e]
 ·rw [if_neg (by simpa using e),if_neg e]
theorem vi (a b:Int):rkn a b "rest"=if b=0 then a else a % b:=by
 unfold rkn
 rw [if_neg (by decide),if_neg (by decide),if_neg (by decide),if_neg (by decide),if_pos (by decide),fW]
 by_cases e:b=0
 ·rw [if_pos (decide_eq_true e),if_pos e]
 ·rw [if_neg (by simpa using e),if_neg e]
theorem xN (a b:Int):rkn a b "<"=if decide (a < b)=true then 1 else 0:=by
 unfold rkn
 rw [if_neg (by decide),if_neg (by decide),if_neg (by decide),if_neg (by decide),if_neg (by decide),if_pos (by decide)]
theorem yp (a b:Int):rkn a b "="=if decide (V.int a=V.int b)=true then 1 else 0:=by
 unfold rkn
 rw [if_neg (by decide),if_neg (by decide),if_neg (by decide),if_neg (by decide),if_neg (by decide),if_neg (by decide)]
def tE (E:En):Sp:=fun vs H Q _=>∃(r:Ra) (k:S) (p:Addr) (val:Val),vs=[.ref r.b,.ref p]/\WAt E H r k/\H p=some (.tup (vV E.N val))/\val.ok E/\∀H',aj H H'->Q (.int (val.num k)) H'
theorem og (T:Txt K mg A) (O:WOk E):Has P w K mg base 2 "_law_reckoned" ["_law_world","_law_value_here"] (tE E):=by
 have D_law_taken:=rg (P:=P) (w:=w) (base:=base) (E:=E) T O
 refine T.lL.has (k:=1) fS (fun vs H Q E h=>?_) (fun f cdv A' outer s H vs Q E' hr hu h=>?_)
 ·obtain ⟨r,k,p,val,rfl,_⟩:=h
  rfl
 ·obtain ⟨r,k,p,val,rfl,R,hp,vo,q⟩:=h
  have hT:∀{H2:Hp},aj H H2->SqT K H2 p (vV E.N val):=fun s2=>SqT.of (s2 _ _ hp)
  have hT0:=hT (aj.refl _)
  refine ⟨_,(ab (aC (i:=2) fS.nd rfl (Or.inl rfl) (fH (bU (aG bg rfl T.aB (by boot_by_name) (aa (px hu (fv 1) ae) (aa (cJ (v:=.ty "str") rfl T.nq (by boot_by_name) rfl) af))) (fun _=>rfl)) (px hu (px hu (fv 0) ai) (px hu (fv 1) ae)) (px hu (fv 1) ae)))
  (ab (aO (ay (aT hu) (aG dF rfl T.eI (by boot_by_name) (aa (fv 1) af)) ae (az _))
   (ag (aA (fv 2)))
   aH)
  (ab (aC (i:=3) fS.nd rfl (Or.inl rfl) (ar D_law_taken hr (aa (fv 0) (aa (px hu (fv 1) ae) af))))
  (ab (aO (ay (aT hu) (px hu (fv 1) ae) ai (az _))
   (ag (aA (px hu (fv 2) (aw bF (fv 3) (aG dF rfl T.eI (by boot_by_name) (aa (fv 2) af))))))
   aH)
  (ab (aO (ay (Av hu) (px hu (fv 1) ae) (bE (aa ai (aa ai (aa ai af)))) ((by with_unfolding_all rfl)))
   (ag (aA (aw bF (px hu (bE (aa (aw bL (fv 2) (fv 3)) (aa (aw lN (fv 2) (fv 3)) (aa (aw fe (fv 2) (fv 3)) af)))) (yY ai (aa (px hu (fv 1) ae) af))) (aw qb ae ae))))
   aH)
  (ab (aO (ay (Av hu) (px hu (fv 1) ae) (bE (aa ai (aa ai af))) ((by with_unfolding_all rfl)))
   (ag (aA (bY qS rfl T.k5 (by boot_by_name) (aa (yo (ir (eA (yj) (fv 2) (fv 3) (az _)) (iC (eA (aT hu) (px hu (fv 1) ae) ai (az _)))) (iC (ir (eA (aT hu) (fv 2) (fv 3) (az _)) (iC (eA (aT hu) (px hu (fv 1) ae) ai (az _)))))) af))))
   aH)
  (ab (aO (ay (aT hu) (fv 3) ae (az _))
   (ag (aA (px hu (bE (aa ae (aa (fv 2) af))) (bY qS rfl T.k5 (by boot_by_name) (aa (eA (aT hu) (px hu (fv 1) ae) ai (az _)) af)))))
   aH)
  (ag (aA (px hu (aG xX rfl T.lT (by boot_by_name) (aa (fv 2) (aa (fv 3) af))) (bY qS rfl T.k5 (by boot_by_name) (aa (eA (aT hu) (px hu (fv 1) ae) ai (az _)) af)))))))))))),?_⟩
  dsimp only
  refine ax fun M1 K1=>?_
  cases val with
  | one a =>
   have go:M1 [some (.ref r.b),some (.ref p),some (.int (a.num k)),none] H:=K1 _ _ (by
    refine ax fun M2 K2=>?_
    refine Or.inl ⟨_,_,rfl,Or.inr ⟨_,hT0,rfl⟩,rfl,_,rfl,?_⟩
    exact aL (fun b=>q _ (aj.refl _)) (fun b=>absurd rfl b))
   refine Or.inl ⟨_,_,Or.inr hT0,rfl,?_⟩
   cases a with
   | i n=>exact ⟨_,_,_,false,rfl,(fun z=>by cases z),.int n,rF,false,rfl,bw (Or.inl ⟨_,_,Or.inr hT0,rfl,go⟩)⟩
   | x j=>exact ⟨_,_,_,true,rfl,(fun z=>by cases z),.str _,lB,true,rfl,cU ⟨_,bu.k (k:=.inr "cells") R.hb,Or.inl ⟨_,_,Or.inr hT0,rfl,_,R.gn O vo.1 vo.2,go⟩⟩⟩
  | atl l i =>
   have hz:=vo.2.1
   have hL:=SqL.of (K:=K) (R.ha l (kB vo.1 vo.2.1))
   have ll:=R.ok.len l vo.1 vo.2.1
   have la:=yT (xs:=k.lst l) (by omega) (i.num k)
   rw [show ((k.lst l).length:Int)=(((k.lst l).map V.int).length:Int) by rw [List.length_map]] at la
   have go:M1 [some (.ref r.b),some (.ref p),some (.ref (r.la l)),none] H:=K1 _ _ (by
    refine ax fun M2 K2=>?_
    refine Or.inl ⟨_,_,rfl,Or.inr ⟨_,hT0,rfl⟩,rfl,_,rfl,?_⟩
    refine aL (fun b=>absurd b (by show ¬ decide (V.int 3=V.int 1)=true;decide)) (fun b=>K2 _ _ ?_)
    refine Or.inl ⟨_,_,Or.inr hT0,rfl,r,k,i,rfl,R,vo.2.2,?_⟩
    refine Or.inl ⟨_,_,Or.inr hT0,rfl,rfl,_,rfl,?_⟩
    refine aL (fun b=>?_) (fun b=>absurd (show decide (V.str "at"=V.str "at")=true by decide) b)
    exact Or.inl ⟨_,_,rfl,Or.inl ⟨_,hL,rfl⟩,(by rw [List.length_map];omega),Or.inl ⟨_,_,Or.inl hL,la,q _ (aj.refl _)⟩⟩)
   refine Or.inl ⟨_,_,Or.inr hT0,rfl,?_⟩
   exact ⟨_,_,_,true,rfl,(fun z=>by cases z),.str _,lB,true,rfl,cU ⟨_,bu.k (k:=.inr "cells") R.hb,Or.inl ⟨_,_,Or.inr hT0,rfl,_,R.gl O vo.1 vo.2.1,go⟩⟩⟩
  | op a x i =>
   have ia:=Th.cj R.ok vo.1
   have ib:=Th.cj R.ok vo.2.1
   have ia1:=ia.1
   have ia2:=ia.2
   have ib1:=ib.1
   have ib2:=ib.2
   have go:M1 [some (.ref r.b),some (.ref p),some (.int (a.num k)),none] H:=K1 _ _ (by
    refine ax fun M2 K2=>?_
    refine Or.inl ⟨_,_,rfl,Or.inr ⟨_,hT0,rfl⟩,rfl,_,rfl,?_⟩
    refine aL (fun b=>absurd b (by show ¬ decide (V.int 3=V.int 1)=true;decide)) (fun b=>K2 _ _ ?_)
    refine Or.inl ⟨_,_,Or.inr hT0,rfl,r,k,i,rfl,R,vo.2.1,?_⟩
    refine Or.inl ⟨_,_,Or.inr hT0,rfl,rfl,_,rfl,?_⟩
    refine aL (fun b=>absurd (of_decide_eq_true b) (fun z=>Az vo.2.2 (V.str.inj z))) (fun b=>?_)
    refine Or.inl ⟨_,_,Or.inr hT0,rfl,(show 3 <= sizeLine by decide),fun l1 hl1=>?_⟩
    obtain ⟨s1,e1⟩:=alc hl1 (HO.lst [V.str "+",.str "-",.str "*"])
    generalize upd H l1 _=H1 at s1 e1 ⊢
    refine Or.inl ⟨_,Or.inl (SqL.of e1),rfl,rfl,_,rfl,?_⟩
    have hm:=vo.2.2
    simp only [List.mem_cons,List.not_mem_nil,or_false] at hm
    have big:(0:Int) < 10 ^ (12:Int).toNat:=by decide
    have hm2:(x="+" \/ x="-" \/ x="*") \/ (x="over" \/ x="rest") \/ x="<" \/ x="=":=by
     rcases hm with h | h | h | h | h | h | h
     ·exact .inl (.inl h)
     ·exact .inl (.inr (.inl h))
     ·exact .inl (.inr (.inr h))
     ·exact .inr (.inl (.inl h))
     ·exact .inr (.inl (.inr h))
     ·exact .inr (.inr (.inl h))
     ·exact .inr (.inr (.inr h))
    rcases hm2 with hm | hm | hm
    ·have hx:∃(j:Nat),Builtin.Str.occurrences "+-*" x 0 ("+-*":Str).length 1=[j]/\atI [V.int (a.num k + i.num k),.int (a.num k - i.num k),.int (a.num k * i.num k)] (j:Int)=some (.int (if x="+" then a.num k + i.num k else if x="-" then a.num k - i.num k else a.num k * i.num k))/\(Val.op a x i).num k=(if x="+" then a.num k + i.num k else if x="-" then a.num k - i.num k else a.num k * i.num k) % 1000000000000:=by
      rcases hm with rfl | rfl | rfl
      ·exact ⟨0,by decide +kernel,rfl,Ak _ _⟩
      ·exact ⟨1,by decide +kernel,rfl,zC _ _⟩
      ·exact ⟨2,by decide +kernel,rfl,Aa _ _⟩
     obtain ⟨j,x1,x2,x3⟩:=hx
     refine aL (fun _=>?_) (fun b=>absurd (by rcases hm with rfl | rfl | rfl <;> decide +kernel) b)
     refine ⟨wy (by omega) (by omega),(show 3 <= sizeLine by decide),fun l2 hl2=>?_⟩
     refine ⟨rfl,Or.inl ⟨_,_,Or.inr (SqT.of (aj.upd hl2 _ _ _ (s1 _ _ hp))),rfl,"+-*",x,j,[],rfl,rfl,x1,Or.inl ⟨_,_,Or.inl (SqL.of aq),x2,⟨by decide,by decide,by decide⟩,big,?_⟩⟩⟩
     show Q (.int (_ % (10:Int) ^ (12:Int).toNat)) _
     rw [ox,<- x3]
     exact q _ (s1.trans (aj.upd hl2 _))
    ·refine aL (fun b=>absurd b (by rcases hm with rfl | rfl <;> decide +kernel)) (fun _=>?_)
     refine Or.inl ⟨_,_,Or.inr (hT s1),rfl,(show 2 <= sizeLine by decide),fun l2 hl2=>?_⟩
     obtain ⟨s2,e2⟩:=alc hl2 (HO.lst [V.str "<",.str "="])
     generalize upd H1 l2 _=H2 at s2 e2 ⊢
     replace s2:=s1.trans s2
     refine Or.inl ⟨_,Or.inl (SqL.of e2),rfl,rfl,_,rfl,?_⟩
     refine aL (fun b=>absurd b (by rcases hm with rfl | rfl <;> decide +kernel)) (fun _=>?_)
     refine ⟨rfl,_,rfl,aL (fun b0=>?_) (fun b0=>?_)⟩
     ·rw [fW,decide_eq_true_iff] at b0
      refine ⟨(show 2 <= sizeLine by decide),fun l3 hl3=>Or.inl ⟨_,_,Or.inr (SqT.of (aj.upd hl3 _ _ _ (s2 _ _ hp))),rfl,rfl,_,rfl,?_⟩⟩
      have q':=q _ (s2.trans (aj.upd hl3 (HO.lst [V.int 0,.int (a.num k)])))
      rcases hm with rfl | rfl
      ·rw [show Val.num k (.op a "over" i)=rkn (a.num k) (i.num k) "over" from rfl,sr,if_pos b0] at q'
       exact Or.inl ⟨_,_,Or.inl (SqL.of aq),rfl,q'⟩
      ·rw [show Val.num k (.op a "rest" i)=rkn (a.num k) (i.num k) "rest" from rfl,vi,if_pos b0] at q'
       exact Or.inl ⟨_,_,Or.inl (SqL.of aq),rfl,q'⟩
     ·rw [fW,decide_eq_true_iff] at b0
      refine ⟨_,_,rfl,⟨by omega,by show i.num k < 2 ^ 64;omega⟩,fun l3 hl3=>Or.inl ⟨_,_,Or.inr (SqT.of (aj.upd hl3 _ _ _ (s2 _ _ hp))),rfl,rfl,_,rfl,?_⟩⟩
      have q':=q _ (s2.trans (aj.upd hl3 (HO.tup [V.int (a.num k / i.num k),.int (a.num k % i.num k)])))
      rcases hm with rfl | rfl
      ·rw [show Val.num k (.op a "over" i)=rkn (a.num k) (i.num k) "over" from rfl,sr,if_neg b0] at q'
       exact Or.inl ⟨_,_,Or.inr (SqT.of aq),rfl,q'⟩
      ·rw [show Val.num k (.op a "rest" i)=rkn (a.num k) (i.num k) "rest" from rfl,vi,if_neg b0] at q'
       exact Or.inl ⟨_,_,Or.inr (SqT.of aq),rfl,q'⟩
    ·refine aL (fun b=>absurd b (by rcases hm with rfl | rfl <;> decide +kernel)) (fun _=>?_)
     refine Or.inl ⟨_,_,Or.inr (hT s1),rfl,(show 2 <= sizeLine by decide),fun l2 hl2=>?_⟩
     obtain ⟨s2,e2⟩:=alc hl2 (HO.lst [V.str "<",.str "="])
     generalize upd H1 l2 _=H2 at s2 e2 ⊢
     replace s2:=s1.trans s2
     refine Or.inl ⟨_,Or.inl (SqL.of e2),rfl,rfl,_,rfl,?_⟩
     have q':=q _ s2
     have hT2:=hT s2
     refine aL (fun _=>?_) (fun b=>absurd (by rcases hm with rfl | rfl <;> decide +kernel) b)
     rcases hm with rfl | rfl
     ·rw [show Val.num k (.op a "<" i)=rkn (a.num k) (i.num k) "<" from rfl,xN] at q'
      refine ⟨_,rfl,aL (fun b=>?_) (fun b=>?_)⟩
      ·rw [if_pos b] at q'
       exact Or.inl ⟨_,_,Or.inr hT2,rfl,rfl,_,rfl,cU ⟨_,rfl,q'⟩⟩
      ·rw [if_neg b] at q'
       refine ⟨_,rfl,bw ⟨rfl,_,rfl,aL (fun b2=>?_) (fun b2=>?_)⟩⟩
       ·exact Or.inl ⟨_,_,Or.inr hT2,rfl,rfl,_,rfl,q'⟩
       ·exact ⟨_,rfl,q'⟩
     ·rw [show Val.num k (.op a "=" i)=rkn (a.num k) (i.num k) "=" from rfl,yp] at q'
      refine ⟨_,rfl,aL (fun b=>?_) (fun b=>?_)⟩
      ·refine Or.inl ⟨_,_,Or.inr hT2,rfl,rfl,_,rfl,bw ?_⟩
       refine ⟨rfl,_,rfl,aL (fun b2=>?_) (fun b2=>?_)⟩
       ·rw [if_pos b2] at q'
        exact Or.inl ⟨_,_,Or.inr hT2,rfl,rfl,_,rfl,q'⟩
       ·rw [if_neg b2] at q'
        exact ⟨_,rfl,q'⟩
      ·refine ⟨_,rfl,bw ⟨rfl,_,rfl,aL (fun b2=>?_) (fun b2=>?_)⟩⟩
       ·rw [if_pos b2] at q'
        exact Or.inl ⟨_,_,Or.inr hT2,rfl,rfl,_,rfl,q'⟩
       ·rw [if_neg b2] at q'
        exact ⟨_,rfl,q'⟩)
   refine Or.inl ⟨_,_,Or.inr hT0,rfl,?_⟩
   cases a with
   | i n=>exact ⟨_,_,_,false,rfl,(fun z=>by cases z),.int n,rF,false,rfl,bw (Or.inl ⟨_,_,Or.inr hT0,rfl,go⟩)⟩
   | x j=>exact ⟨_,_,_,true,rfl,(fun z=>by cases z),.str _,lB,true,rfl,cU ⟨_,bu.k (k:=.inr "cells") R.hb,Or.inl ⟨_,_,Or.inr hT0,rfl,_,R.gn O vo.1.1 vo.1.2,go⟩⟩⟩
end
section
variable {P:Program}{w:World}{K:W.Frag}{mg:Str->Option Value}{base:Heap}{A:Adr}{E:En}
seal PE PA PS PSs PT PW
def Rw.kd:Rw->Str
 | .set _ _ _=>"set"
 | .put _ _ _ _=>"put"
 | .snd _ _ _=>"send"
 | .say _ _ _ _=>"say"
 | .last _=>"last"
 | .call _ _ _=>"call"
 | .iff _ _ _ _ _ _=>"if"
 | .loop _ _ _ _ _ _=>"loop"
theorem qU {N:Nat->Str}{X:Hp}{d:Nat}{v:V}{rw:Rw} (h:aZ N X d v rw):∃a ws,v=.ref a/\X a=some (.tup (.int rw.no :: .str rw.kd :: ws)):=by
 cases rw with
 | last n=>cases d <;> (obtain ⟨a,e,h1⟩:=h;exact ⟨a,_,e,h1⟩)
 | iff n val f o l r =>
  cases d with
  | zero=>exact h.elim
  | succ d=>obtain ⟨a,p,pf,po,xf,xo,e,h1,_⟩:=h;exact ⟨a,_,e,h1⟩
 | loop n t m b l r =>
  cases d with
  | zero=>exact h.elim
  | succ d=>obtain ⟨a,pb,xb,e,h1,_⟩:=h;exact ⟨a,_,e,h1⟩
 | _=>cases d <;> (obtain ⟨a,p,e,h1,h2⟩:=h;exact ⟨a,_,e,h1⟩)
theorem Th.iH {k k':S} (h:k.num=k'.num) (t:Th):t.num k=t.num k':=by
 cases t with
 | i n=>rfl
 | x a=>exact congrFun h a
theorem Val.iH {k k':S} (h:k.num=k'.num) (h2:k.lst=k'.lst) (v:Val):v.num k=v.num k':=by
 cases v with
 | one a=>exact Th.iH h a
 | op a x b=>show rkn _ _ _=rkn _ _ _;rw [Th.iH h a,Th.iH h b]
 | atl x b=>show lat _ _=lat _ _;rw [h2,Th.iH h b]
def yy (E:En) (H:Hp) (r:Ra) (k:S) (v:V) (Q:VK):Prop:=∀H',Go (r.M E) H (r.M E) H'->WAt E H' r k->Q v H'
structure Cy (E:En) (H:Hp) (r:Ra) (k:S) (f dn:Nat) (v:V) (rw:Rw):Prop where
 R:WAt E H r k
 L:LDd E (del (r.M E) H) r.d
 N:aZ E.N (del (r.M E) H) dn v rw
 w:Wf E f rw
 m:k.room BIG (aE E f rw)
def nN (c:Rw->Prop) (E:En) (f:Nat):Sp:=fun vs H Q _=>∃(r:Ra) (k:S) (v:V) (rw:Rw) (dn:Nat),vs=[.ref r.b,v]/\c rw/\Cy E H r k f dn v rw/\yy E H r (doR E f k rw).1 (.bl (doR E f k rw).2) Q
def wL:Rw->Prop
 | .iff _ _ _ _ _ _=>True
 | .loop _ _ _ _ _ _=>True
 | _=>False
def rM (E:En) (f:Nat):Sp:=fun vs H Q _=>∃(r:Ra) (k:S) (B:Addr) (xs:List V) (rows:List Rw) (dn:Nat),vs=[.ref r.b,.ref B]/\WAt E H r k/\LDd E (del (r.M E) H) r.d/\del (r.M E) H B=some (.lst xs)/\Paired (aZ E.N (del (r.M E) H) dn) xs rows/\(∀rw ∈ rows,Wf E f rw)/\k.room BIG ((rows.map (aE E f)).sum)/\yy E H r (aU (doR E f) k rows).1 (.bl (aU (doR E f) k rows).2) Q
def oN (E:En):Nat->Sp
 | 0=>fun _ _ _ _=>False
 | f + 1=>rM E f
def S.at1 (k:S):S:={ k with steps:=k.steps + 1 }
def wW (N:Nat->Str) (k:S):Rw->S
 | .snd n h v=>k.at1.ji [.int (k.steps + 1),.int n,.str (N h),.int (v.num k)]
 | .say n x v m=>(k.at1.jr [.int (k.steps + 1),.int n,.str (N m),.int (v.num k)]).put x (v.num k)
 | _=>k.at1
def trS (N:Nat->Str) (k:S) (rw:Rw):S:={ wW N k rw with trace:=(wW N k rw).trace ++ [[.int rw.no,.int (k.steps + 1),rw.told k]] }
theorem wM (N:Nat->Str) (k:S) (rw:Rw):(wW N k rw).trace=k.trace/\(wW N k rw).steps=k.steps + 1:=by cases rw <;> exact ⟨rfl,rfl⟩
theorem sV (v:Val) (k:S):v.num k.at1=v.num k:=Val.iH rfl rfl v
theorem zg {f:Nat}{k:S}{rw:Rw} (nb:¬ wL rw):(doR E f k rw).2=decide (V.str rw.kd=V.str "last"):=by
 cases rw with
 | iff n v f o l r=>exact absurd trivial nb
 | loop n t m b l r=>exact absurd trivial nb
 | call n i ts =>
  cases f with
  | zero=>rfl
  | succ f =>
   unfold doR
   split <;> rfl
 | _=>cases f <;> rfl
theorem at0 {x y:V}{ws:List V}:atI (x :: y :: ws) 0=some x:=ee (j:=0) rfl
theorem at1 {x y:V}{ws:List V}:atI (x :: y :: ws) 1=some y:=ee (j:=1) rfl
theorem CT {j f:Nat} (hj:2 <= j) (T:Txt K mg A) (O:WOk E) (D_law_do_all:Has P w K mg base j "_law_do_all" ["_law_world","_law_nodes_here"] (oN E f)):Has P w K mg base (j + 1) "_law_do" ["_law_world","_law_node"] (nN (fun rw=>¬ wL rw) E f):=by
 have D_law_taken:=rg (P:=P) (w:=w) (base:=base) (E:=E) T O
 have D_law_reckoned:=og (P:=P) (w:=w) (base:=base) (E:=E) T O
 refine T.xG.has (k:=j) dw (fun vs H Q E h=>?_) (fun f' cdv A' outer s H vs Q E' hr hu h=>?_)
 ·obtain ⟨r,k,v,rw,dn,rfl,_⟩:=h
  rfl
 ·obtain ⟨r,k,v,rw,dn,rfl,nb,LR,q⟩:=h
  obtain ⟨R,LD,N0,wf,rm⟩:=LR
  obtain ⟨a,ws,rfl,ha⟩:=qU N0
  have c1:1 <= aE E f rw:=kJ E f rw wf
  have rm1:=rm.le c1
  refine ⟨_,(ab (bo (aw bL (px hu (fv 0) ai) ae) (bA (fv 0) ai (bB hu set_list)))
  (ab (aC (i:=2) dw.nd rfl (Or.inl rfl) (px hu (fv 0) ai))
  (ab (aC (i:=3) dw.nd rfl (Or.inl rfl) nU)
  (ab (aO (ay (aT hu) (px hu (fv 1) ae) ai (az _))
   (ab (aC (i:=3) dw.nd rfl (Or.inl rfl) (ar (hj:=by omega) D_law_reckoned hr (aa (fv 0) (aa (px hu (fv 1) ae) af))))
   (ag (aP (bN (px hu (fv 0) ai) (aa (cx (aa (fv 2) (aa (px hu (fv 1) ae) (aa (px hu (fv 1) ae) (aa (fv 3) af))))) af)))))
   aH)
  (ab (aO (ay (aT hu) (px hu (fv 1) ae) ai (az _))
   (ab (aC (i:=3) dw.nd rfl (Or.inl rfl) (ar (hj:=by omega) D_law_reckoned hr (aa (fv 0) (aa (px hu (fv 1) ae) af))))
   (ab (aP (bN (px hu (fv 0) ai) (aa (cx (aa (fv 2) (aa (px hu (fv 1) ae) (aa (px hu (fv 1) ae) (aa (fv 3) af))))) af)))
   (ag (bo (fv 3) (bA (px hu (fv 0) ai) (px hu (fv 1) ae) (bB hu set_list))))))
   aH)
  (ab (aP (bN (px hu (fv 0) ai) (aa (cx (aa (px hu (fv 1) ae) (aa (fv 2) (aa (fv 3) af)))) af)))
  (ab (aO (ay (aT hu) (px hu (fv 1) ae) ai (az _))
   (ag (bo (ar (hj:=by omega) D_law_reckoned hr (aa (fv 0) (aa (px hu (fv 1) ae) af))) (bA (px hu (fv 0) ai) (px hu (fv 1) ae) (bB hu set_list))))
   aH)
  (ab (aO (ay (aT hu) (px hu (fv 1) ae) ai (az _))
   (ab (aC (i:=4) dw.nd rfl (Or.inl rfl) (px hu (px hu (fv 0) ai) (px hu (fv 1) ae)))
   (ag (bo (ar (hj:=by omega) D_law_reckoned hr (aa (fv 0) (aa (px hu (fv 1) ae) af))) (bA (fv 4) (aw bF (ar (hj:=by omega) D_law_taken hr (aa (fv 0) (aa (px hu (fv 1) ae) af))) (aG dF rfl T.eI (by boot_by_name) (aa (fv 4) af))) (bB hu set_list)))))
   aH)
  (ab (aO (ay (aT hu) (px hu (fv 1) ae) ai (az _))
   (ab (bo (px hu (px hu (fv 0) ai) (px hu (fv 1) ae)) (pv rfl (di (pgn (i:=5) dw.nd rfl) (di (pgn (i:=6) dw.nd rfl) lU))))
   (ab (lE (j:=4) (N:=["_law_thing_here","_law_world"]) (own:=1) (fr:=[0]) (df.of (by kernel_rfl!)) rfl dw.nd rfl (Or.inl rfl) (fu (px hu (fv 1) ae)) (fun b=>pgn (i:=0) (show List.Nodup (["_law_thing_here","_law_world"]:List PySem.Str) by decide +kernel) rfl) (fun b=>jU) (fun b=>ar (hj:=by omega) D_law_taken hr (aa (fv 1) (aa (fv 0) af))))
   (ab (dX PassesOwn.never rfl (gh rfl T.cZ (aa (aG dF rfl T.eI (by boot_by_name) (aa (fv 6) af)) af)) (pgn (i:=7) dw.nd rfl)
    (ag (bo (px hu (fv 4) (fv 7)) (bA (px hu (fv 0) ai) (px hu (fv 6) (fv 7)) (bB hu set_list)))))
   (ag (aP (ar (hj:=by omega) D_law_do_all hr (aa (fv 0) (aa (fv 5) af))))))))
   aH)
  (ag (aA (eA (aT hu) (px hu (fv 1) ae) ai (az _))))))))))))),?_⟩
  refine ⟨_,bu.k (k:=.inr "steps") R.hb,_,cF.k (k:=.inr "steps") R.hb (show 6 < sizeLine by decide),?_⟩
  rw [show putK (wK r k.steps) (.inr "steps") (.int (k.steps + 1))=wK r (k.steps + 1) from rfl]
  have R1:WAt E (upd H r.b (.dK (wK r (k.steps + 1)))) r k.at1:=R.steps (k.steps + 1)
  have g1:Go (r.M E) H (r.M E) (upd H r.b (.dK (wK r (k.steps + 1)))):=Go.at (r.inM E).1 _
  generalize upd H r.b _=H1 at R1 g1 ⊢
  try dsimp only
  refine ⟨_,bu.k (k:=.inr "steps") R1.hb,?_⟩
  try dsimp only
  refine ax fun M0 K0=>?_
  refine K0 _ _ ?_
  have tA:∀{H2:Hp},Go (r.M E) H1 (r.M E) H2->SqT K H2 a (.int rw.no :: .str rw.kd :: ws):=fun g=>SqT.of (ao _ _ ((g1.trans g).same _ _ ha))
  have sub:∀{H2:Hp},Go (r.M E) H1 (r.M E) H2->aj (del (r.M E) H) (del (r.M E) H2):=fun g=>(g1.trans g).same
  have l1:∀{n:Nat},(n:Int) <= k.steps->n < sizeLine:=fun h=>nZ h rm1.st (by decide)
  try dsimp only
  refine ax fun M1 K1=>?_
  have after1:∀(k1:S) (told:V) (H2:Hp),Go (r.M E) H1 (r.M E) H2->WAt E H2 r k1->(rw.kd="say"->k1=k.at1)->(rw.kd ≠ "say"->k1=wW E.N k rw/\told=rw.told k)->M1 [some (.ref r.b),some (.ref a),some (.int (k.steps + 1)),some told,none,none,none,none] H2:=fun k1 told H2 g2 R2 c1 c2=>K1 _ _ (by
   refine ax fun M2 K2=>?_
   have after2:∀(H3:Hp),Go (r.M E) H1 (r.M E) H3->WAt E H3 r (wW E.N k rw)->M2 [some (.ref r.b),some (.ref a),some (.int (k.steps + 1)),some (rw.told k),none,none,none,none] H3:=fun H3 g3 R3=>K2 _ _ (by
    refine ax fun M3 K3=>?_
    obtain ⟨us,hus,tus⟩:=R3.ht
    refine ⟨_,bu.k (k:=.inr "trace") R3.hb,Or.inl ⟨rfl,_,SqL.of hus⟩,Or.inl ⟨_,_,Or.inr (tA g3),at0,by show 3 <= sizeLine;decide,fun p4 hp4=>?_⟩⟩
    have R4:=R3.trace (w:=[.int rw.no,.int (k.steps + 1),rw.told k]) hp4 hus
    have g4:Go (r.M E) H1 (r.M E) (upd (upd H3 p4 (.tup [.int rw.no,.int (k.steps + 1),rw.told k])) r.t (.lst (us ++ [.ref p4]))):=(g3.trans (Go.new (aj.upd hp4 _))).trans (Go.at (r.inM E).2.2.1 _)
    have hu4:=aj.upd hp4 (HO.tup [.int rw.no,.int (k.steps + 1),rw.told k]) _ _ hus
    refine ⟨_,_,_,rfl,rfl,hu4,?_,K3 _ _ ?_⟩
    ·rw [fK.len tus,(wM E.N k rw).1]
     exact l1 rm1.t
    have R4:WAt E _ r (trS E.N k rw):=R4
    generalize upd (upd H3 p4 _) r.t _=H4 at R4 g4 ⊢
    clear hu4 hp4 hus tus R3 g3
    refine ax fun M6 K6=>?_
    have after6:∀(H5:Hp),Go (r.M E) H1 (r.M E) H5->(rw.kd="put" \/ rw.kd="call"->WAt E H5 r (trS E.N k rw))->(rw.kd ≠ "put"->rw.kd ≠ "call"->WAt E H5 r (doR E f k rw).1)->M6 [some (.ref r.b),some (.ref a),some (.int (k.steps + 1)),some (rw.told k),none,none,none,none] H5:=fun H5 g5 d1 d2=>K6 _ _ (by
     refine ax fun M7 K7=>?_
     have after7:∀(H6:Hp) (v4:Option V),Go (r.M E) H1 (r.M E) H6->(rw.kd="call"->WAt E H6 r (trS E.N k rw))->(rw.kd ≠ "call"->WAt E H6 r (doR E f k rw).1)->M7 [some (.ref r.b),some (.ref a),some (.int (k.steps + 1)),some (rw.told k),v4,none,none,none] H6:=fun H6 v4 g6 d3 d4=>K7 _ _ (by
      refine ax fun M8 K8=>?_
      have fin:∀(H7:Hp) (v4 v5 v6 v7:Option V),Go (r.M E) H1 (r.M E) H7->WAt E H7 r (doR E f k rw).1->M8 [some (.ref r.b),some (.ref a),some (.int (k.steps + 1)),some (rw.told k),v4,v5,v6,v7] H7:=fun H7 v4 v5 v6 v7 g7 R7=>K8 _ _ (by
       refine Or.inl ⟨_,_,Or.inr (tA g7),at1,rfl,?_⟩
       rw [<- zg (E:=E) (f:=f) (k:=k) nb]
       exact q _ (g1.trans g7) R7)
      refine Or.inl ⟨_,_,Or.inr (tA g6),at1,rfl,_,rfl,aL (fun b=>?_) (fun b=>fin H6 _ _ _ _ g6 (d4 fun z=>b (by rw [z];decide)))⟩
      have hk:=bj b
      have R6:=d3 hk
      cases rw with
      | call n i ts =>
       cases f with
       | zero=>exact (show False from wf).elim
       | succ f =>
       obtain ⟨to,tl4,D,hD,pl,wb⟩:=wf
       obtain ⟨a',p,ea,h1,h2⟩:∃a' p,V.ref a=.ref a'/\del (r.M E) H a'=some (.tup [.int n,.str "call",.str (E.N (nmD i)),.ref p])/\del (r.M E) H p=some (.lst (ts.map (Th.v E.N))):=by cases dn <;> exact N0
       cases ea
       have tB:=fun {H2:Hp} (g:Go (r.M E) H1 (r.M E) H2)=>SqT.of (K:=K) (ao _ _ (sub g _ _ h1))
       obtain ⟨dv,hdd,hds⟩:=LD
       obtain ⟨dq,dB,dP,bs,v1,v2,v3,v4',v5⟩:=hds i D hD
       have nm:=O.nm i D hD
       have i2:i < 2:=by have:=(List.getElem?_eq_some_iff.mp hD).1;have:=O.dl;omega
       have gd:∀{H2:Hp},Go (r.M E) H1 (r.M E) H2->bu H2 r.d (.str (E.N (nmD i))) (some (.ref dq)):=fun g=>by
        rw [<- v1,nm]
        refine yZ O.D (.inl (ao _ _ (sub g _ _ hdd))) (by decide) ?_
        have:i=0 \/ i=1:=by omega
        rcases this with rfl | rfl <;> decide
       unfold aE at rm
       rw [hD] at rm
       dsimp only at rm
       have de:doR E (f + 1) k (.call n i ts)=((aU (doR E f) ((k.tell n .non).pO (D.parts.zip (ts.map (Th.num k)))) D.body).1,false):=by
        unfold doR
        rw [hD]
       rw [de] at fin
       have et:trS E.N k (.call n i ts)=k.tell n .non:=rfl
       rw [et] at R6
       have rt:(k.tell n .non).room BIG ((D.body.map (aE E f)).sum):=eu rm n .non
       try dsimp only
       refine ax fun N1 J1=>?_
       refine ⟨_,bu.k (k:=.inr "deeds") R6.hb,Or.inl ⟨_,_,Or.inr (tB g6),rfl,_,gd g6,dq,_,rfl,SqT.of (ao _ _ (sub g6 _ _ v2)),rfl,_,_,rfl,_,_,rfl,rfl,J1 _ _ ?_⟩⟩
       try dsimp only
       refine ax fun N2 J2=>?_
       have hp6:=SqL.of (K:=K) (ao _ _ (sub g6 _ _ h2))
       refine Or.inl ⟨_,_,Or.inr (tB g6),rfl,Or.inl ⟨⟨_,hp6⟩,?_⟩⟩
       refine sU (K:=K) (fun i y _=>∀t,ts[i]?=some t->y=.int (t.num k)) hp6 (aM (by rw [List.length_map];omega)) (fun b' i x H2 G hx s2 kk=>?_) (fun _ _ _ _ _ h=>h) (fun _ _ _ _ _ _ _ h=>h) (fun nl H7 ys hnl s7 e7 yl hy=>?_)
       ·rw [List.getElem?_map] at hx
        cases ht:ts[i]? with
        | none=>rw [ht] at hx;cases hx
        | some t =>
         rw [ht] at hx
         cases hx
         exact ⟨r,_,t,rfl,R6.same s2,to t (List.mem_of_getElem? ht),kk _ _ (aj.refl _) fun t' h'=>by rw [ht] at h';cases h';exact congrArg V.int (Th.iH rfl t)⟩
       have ey:ys=(ts.map (Th.num k)).map V.int:=by
        refine List.ext_getElem? fun i=>?_
        rw [List.length_map] at yl
        rw [List.getElem?_map,List.getElem?_map]
        cases h1:ts[i]? with
        | none =>
         have:ts.length <= i:=List.getElem?_eq_none_iff.mp h1
         exact List.getElem?_eq_none (by omega)
        | some t =>
         have lt:i < ys.length:=by have:=(List.getElem?_eq_some_iff.mp h1).1;omega
         rw [List.getElem?_eq_getElem lt,hy i _ (List.getElem?_eq_getElem lt) t h1]
         rfl
       subst ey
       have nlM:=R6.free hnl
       have g7:Go (r.M E) H1 (r.M E) H7:=g6.trans (Go.new s7)
       refine J2 _ _ ?_
       try dsimp only
       refine ax fun N3 J3=>?_
       have hP7:=SqL.of (K:=K) (ao _ _ (sub g7 _ _ v3))
       refine Or.inl ⟨_,_,rfl,Or.inl ⟨_,hP7,rfl⟩,_,rfl,by rw [List.length_map];omega,by rw [List.length_map];omega,?_⟩
       refine d7 (fun i σ H8=>Go (r.M E) H1 (r.M E) H8/\WAt E H8 r ((k.tell n .non).pO ((D.parts.zip (ts.map (Th.num k))).take i))/\H8 nl=some (.lst ((ts.map (Th.num k)).map V.int))/\∃v7,σ=[some (.ref r.b),some (.ref a),some (.int (k.steps + 1)),some ((Rw.call n i ts).told k),some (.ref nl),some (.ref dB),some (.ref dP),v7]) ⟨g7,R6.same s7,e7,none,rfl⟩ ?_ ?_
       ·rintro i' σ H8 hi ⟨g8,R8,e8,z7,rfl⟩
        have hi':i' < D.parts.length:=by have:i' < (((D.parts.map fun j=>V.str (E.N j)).length:Nat):Int).toNat:=hi;rw [List.length_map] at this;omega
        obtain ⟨pq,hpi⟩:∃pq,D.parts[i']?=some pq:=⟨_,List.getElem?_eq_getElem hi'⟩
        obtain ⟨u,hvi⟩:∃u,(ts.map (Th.num k))[i']?=some u:=⟨_,List.getElem?_eq_getElem (by rw [List.length_map];omega)⟩
        have zi:(D.parts.zip (ts.map (Th.num k)))[i']?=some (pq,u):=by
         rw [List.getElem?_zip_eq_some]
         exact ⟨hpi,hvi⟩
        have ui:In u:=by
         have:=List.mem_of_getElem? hvi
         obtain ⟨t,ht,rfl⟩:=List.mem_map.mp this
         exact Th.cj R.ok (to t ht)
        have a1:atI ((ts.map (Th.num k)).map V.int) (0 + (i':Int))=some (.int u):=by rw [Int.zero_add];exact ee (by rw [List.getElem?_map,hvi];rfl)
        have a2:atI (D.parts.map fun j=>V.str (E.N j)) (0 + (i':Int))=some (.str (E.N pq)):=by rw [Int.zero_add];exact ee (by rw [List.getElem?_map,hpi];rfl)
        obtain ⟨x1,x2⟩:=O.pt D (List.mem_of_getElem? hD) pq (List.mem_of_getElem? hpi)
        rw [pZ zi]
        refine Or.inl ⟨_,_,Or.inl (SqL.of e8),a1,_,bu.k (k:=.inr "cells") R8.hb,Or.inl ⟨_,_,Or.inl (SqL.of (ao _ _ (sub g8 _ _ v3))),a2,_,cF.k (k:=.inr (E.N pq)) R8.hc (by rw [eB];decide),?_⟩⟩
        exact ⟨g8.trans (Go.at (r.inM E).2.1 _),R8.put O x1 x2 ui,ah (fun z=>nlM (z ▸ (r.inM E).2.1)) e8,_,rfl⟩
       ·rintro σ H8 ⟨g8,R8,e8,z7,rfl⟩
        have full:(D.parts.zip (ts.map (Th.num k))).take (((D.parts.map fun j=>V.str (E.N j)).length:Nat):Int).toNat=D.parts.zip (ts.map (Th.num k)):=List.take_of_length_le (by simp only [List.length_zip,List.length_map];omega)
        rw [full] at R8
        refine J3 _ _ ?_
        refine ⟨r,_,dB,bs,D.body,4,rfl,R8,(show LDd E _ _ from ⟨dv,hdd,hds⟩).same (sub g8),sub g8 _ _ v4',Paired.cm v5 (fun _ _=>aZ.same (sub g8)),wb,mF rt _,fun H9 g9 R9=>?_⟩
        exact fin H9 _ _ _ _ (g8.trans g9) R9
      | _=>exact absurd hk (by dsimp only [Rw.kd];decide))
     refine Or.inl ⟨_,_,Or.inr (tA g5),at1,rfl,_,rfl,aL (fun b=>?_) (fun b=>after7 H5 none g5 (fun z=>d1 (.inr z)) (d2 fun z=>b (by rw [z];decide)))⟩
     have hk:=bj b
     have R5:=d1 (.inl hk)
     cases rw with
     | put n x pl val =>
      obtain ⟨a',p,ea,h1,h2⟩:∃a' p,V.ref a=.ref a'/\del (r.M E) H a'=some (.tup [.int n,.str "put",.str (E.N x),pl.v E.N,.ref p])/\del (r.M E) H p=some (.tup (vV E.N val)):=by cases dn <;> exact N0
      cases ea
      have vo:x ∈ E.idx/\0 < E.sz x/\pl.ok E/\val.ok E:=by cases f <;> exact wf
      have tB:=fun {H2:Hp} (g:Go (r.M E) H1 (r.M E) H2)=>SqT.of (K:=K) (ao _ _ (sub g _ _ h1))
      have ix:=kB vo.1 vo.2.1
      have ll:=R.ok.len x vo.1 vo.2.1
      try dsimp only
      refine ⟨_,bu.k (k:=.inr "cells") R5.hb,Or.inl ⟨_,_,Or.inr (tB g5),rfl,_,R5.gl O vo.1 vo.2.1,?_⟩⟩
      try dsimp only
      refine Or.inl ⟨_,_,Or.inr (tB g5),rfl,r,_,p,val,rfl,R5,ao _ _ (sub g5 _ _ h2),vo.2.2.2,fun H6 s6=>?_⟩
      have R6:=R5.same s6
      have g6:Go (r.M E) H1 (r.M E) H6:=g5.trans (Go.new s6)
      have hL:=R6.ha x ix
      refine Or.inl ⟨_,_,Or.inr (tB g6),rfl,r,_,pl,rfl,R6,vo.2.2.1,?_⟩
      rw [show (trS E.N k (.put n x pl val)).lst x=k.lst x from rfl] at hL
      refine Or.inl ⟨_,_,rfl,Or.inl ⟨_,SqL.of hL,rfl⟩,(by rw [List.length_map];omega),Or.inl ⟨_,_,hL,(by have z:=xM (xs:=k.lst x) (by omega) (pl.num (trS E.N k (.put n x pl val)));rw [List.length_map] at z ⊢;exact z),?_⟩⟩
      have iv:=Val.cj R5.ok vo.2.2.2
      have R7:=R6.nB ix (pl.num (trS E.N k (.put n x pl val))) iv
      rw [show (trS E.N k (.put n x pl val)).lst x=k.lst x from rfl] at R7
      refine after7 _ _ (g6.trans (Go.at ((r.inM E).2.2.2.2.2 x ix) _)) (fun z=>absurd z (by dsimp only [Rw.kd];decide)) (fun _=>?_)
      have ev:val.num (trS E.N k (.put n x pl val))=val.num k:=Val.iH rfl rfl val
      have ep:pl.num (trS E.N k (.put n x pl val))=pl.num k:=Th.iH rfl pl
      have:(doR E f k (.put n x pl val)).1=(trS E.N k (.put n x pl val)).nB x (pl.num (trS E.N k (.put n x pl val))) (val.num (trS E.N k (.put n x pl val))):=by
       rw [ev,ep]
       cases f <;> rfl
      rw [this]
      exact R7
     | _=>exact absurd hk (by dsimp only [Rw.kd];decide))
    refine Or.inl ⟨_,_,Or.inr (tA g4),at1,rfl,_,rfl,aL (fun b=>?_) (fun b=>after6 H4 g4 (fun _=>R4) (fun z1 z2=>?_))⟩
    ·have hk:=bj b
     cases rw with
     | set n x val =>
      obtain ⟨a',p,ea,h1,h2⟩:∃a' p,V.ref a=.ref a'/\del (r.M E) H a'=some (.tup [.int n,.str "set",.str (E.N x),.ref p])/\del (r.M E) H p=some (.tup (vV E.N val)):=by cases dn <;> exact N0
      cases ea
      have vo:x ∈ E.idx/\E.sz x=0/\val.ok E:=by cases f <;> exact wf
      have tB:=fun {H2:Hp} (g:Go (r.M E) H1 (r.M E) H2)=>SqT.of (K:=K) (ao _ _ (sub g _ _ h1))
      refine Or.inl ⟨_,_,Or.inr (tB g4),rfl,r,_,p,val,rfl,R4,ao _ _ (sub g4 _ _ h2),vo.2.2,fun H5 s5=>?_⟩
      have R5:=R4.same s5
      have g5:Go (r.M E) H1 (r.M E) H5:=g4.trans (Go.new s5)
      have iv:=Val.cj R4.ok vo.2.2
      refine ⟨_,bu.k (k:=.inr "cells") R5.hb,Or.inl ⟨_,_,Or.inr (tB g5),rfl,_,cF.k (k:=.inr (E.N x)) R5.hc (by rw [eB];decide),?_⟩⟩
      refine after6 _ (g5.trans (Go.at (r.inM E).2.1 _)) (fun z=>absurd z (by dsimp only [Rw.kd];decide)) (fun _ _=>?_)
      have R6:=R5.put O vo.1 vo.2.1 iv
      have:(doR E f k (.set n x val)).1=(trS E.N k (.set n x val)).put x (val.num (trS E.N k (.set n x val))):=by
       rw [show val.num (trS E.N k (.set n x val))=val.num k from Val.iH rfl rfl val]
       cases f <;> rfl
      rw [this]
      exact R6
     | _=>exact absurd hk (by dsimp only [Rw.kd];decide)
    ·cases rw with
     | set n x val=>exact absurd (show decide (V.str "set"=V.str "set")=true by decide) b
     | put n x pl val=>exact absurd rfl z1
     | call n i ts=>exact absurd rfl z2
     | iff n v f o l r=>exact absurd trivial nb
     | loop n t m b l r=>exact absurd trivial nb
     | _ =>
      have:∀z,(doR E f k z).1=(leaf E.N k z).1 \/ True:=fun _=>.inr trivial
      cases f <;> exact R4)
   refine Or.inl ⟨_,_,Or.inr (tA g2),at1,rfl,_,rfl,aL (fun b=>?_) (fun b=>?_)⟩
   ·have hk:=bj b
    have e1:=c1 hk
    subst e1
    cases rw with
    | say n x val m =>
     obtain ⟨a',p,ea,h1,h2⟩:∃a' p,V.ref a=.ref a'/\del (r.M E) H a'=some (.tup [.int n,.str "say",.str (E.N x),.ref p,.str (E.N m)])/\del (r.M E) H p=some (.tup (vV E.N val)):=by cases dn <;> exact N0
     cases ea
     have vo:x ∈ E.idx/\E.sz x=0/\val.ok E:=by cases f <;> exact wf
     have tB:=fun {H2:Hp} (g:Go (r.M E) H1 (r.M E) H2)=>SqT.of (K:=K) (ao _ _ (sub g _ _ h1))
     refine Or.inl ⟨_,_,Or.inr (tB g2),rfl,r,k.at1,p,val,rfl,R2,ao _ _ (sub g2 _ _ h2),vo.2.2,fun H3 s3=>?_⟩
     rw [sV]
     have R3:=R2.same s3
     have g3:Go (r.M E) H1 (r.M E) H3:=g2.trans (Go.new s3)
     have iv:=Val.cj R.ok vo.2.2
     try dsimp only
     refine ax fun M5 K5=>?_
     obtain ⟨us,hus,tus⟩:=R3.hd
     refine ⟨_,bu.k (k:=.inr "said") R3.hb,Or.inl ⟨rfl,_,SqL.of hus⟩,Or.inl ⟨_,_,Or.inr (tB g3),rfl,Or.inl ⟨_,_,Or.inr (tB g3),rfl,by show 4 <= sizeLine;decide,fun p4 hp4=>?_⟩⟩⟩
     have R4:=R3.jr (w:=[.int (k.steps + 1),.int n,.str (E.N m),.int (val.num k)]) hp4 hus
     have g4:=(g3.trans (Go.new (aj.upd hp4 (HO.tup [V.int (k.steps + 1),.int n,.str (E.N m),.int (val.num k)])))).trans (Go.at (r.inM E).2.2.2.2.1 (.lst (us ++ [.ref p4])))
     have hu4:=aj.upd hp4 (HO.tup [V.int (k.steps + 1),.int n,.str (E.N m),.int (val.num k)]) _ _ hus
     refine ⟨_,_,_,rfl,rfl,hu4,?_,K5 _ _ ?_⟩
     ·rw [fK.len tus]
      exact l1 rm1.d
     generalize upd (upd H3 p4 _) r.sd _=H4 at R4 g4 ⊢
     try dsimp only
     refine ⟨_,bu.k (k:=.inr "cells") R4.hb,Or.inl ⟨_,_,Or.inr (tB g4),rfl,_,cF.k (k:=.inr (E.N x)) R4.hc (by rw [eB];decide),?_⟩⟩
     exact after2 _ (g4.trans (Go.at (r.inM E).2.1 _)) (R4.put O vo.1 vo.2.1 iv)
    | _=>exact absurd hk (by dsimp only [Rw.kd];decide)
   ·obtain ⟨e1,e2⟩:=c2 (fun z=>b (by rw [z];decide))
    subst e1 e2
    exact after2 H2 g2 R2)
  refine Or.inl ⟨_,_,Or.inr (tA (Go.refl _ _)),at1,rfl,_,rfl,aL (fun b=>?_) (fun b=>?_)⟩
  ·have hk:=bj b
   cases rw with
   | snd n h val =>
    obtain ⟨a',p,ea,h1,h2⟩:∃a' p,V.ref a=.ref a'/\del (r.M E) H a'=some (.tup [.int n,.str "send",.str (E.N h),.ref p])/\del (r.M E) H p=some (.tup (vV E.N val)):=by cases dn <;> exact N0
    cases ea
    have vo:val.ok E:=by cases f <;> exact wf
    have tB:=fun {H2:Hp} (g:Go (r.M E) H1 (r.M E) H2)=>SqT.of (K:=K) (ao _ _ (sub g _ _ h1))
    refine Or.inl ⟨_,_,Or.inr (tB (Go.refl _ _)),rfl,r,k.at1,p,val,rfl,R1,ao _ _ (sub (Go.refl _ _) _ _ h2),vo,fun H2 s2=>?_⟩
    rw [sV]
    have R2:=R1.same s2
    have g2:Go (r.M E) H1 (r.M E) H2:=Go.new s2
    try dsimp only
    obtain ⟨us,hus,tus⟩:=R2.hl
    refine ⟨_,bu.k (k:=.inr "letters") R2.hb,Or.inl ⟨rfl,_,SqL.of hus⟩,Or.inl ⟨_,_,Or.inr (tB g2),rfl,Or.inl ⟨_,_,Or.inr (tB g2),rfl,by show 4 <= sizeLine;decide,fun p4 hp4=>?_⟩⟩⟩
    have R4:=R2.ji (w:=[.int (k.steps + 1),.int n,.str (E.N h),.int (val.num k)]) hp4 hus
    have g4:=(g2.trans (Go.new (aj.upd hp4 (HO.tup [V.int (k.steps + 1),.int n,.str (E.N h),.int (val.num k)])))).trans (Go.at (r.inM E).2.2.2.1 (.lst (us ++ [.ref p4])))
    have hu4:=aj.upd hp4 (HO.tup [V.int (k.steps + 1),.int n,.str (E.N h),.int (val.num k)]) _ _ hus
    refine ⟨_,_,_,rfl,rfl,hu4,?_,?_⟩
    ·rw [fK.len tus]
     exact l1 rm1.l
    exact after1 _ _ _ g4 R4 (fun z=>absurd z (by dsimp only [Rw.kd];decide)) (fun _=>⟨rfl,rfl⟩)
   | _=>exact absurd hk (by dsimp only [Rw.kd];decide)
  ·refine after1 k.at1 .non H1 (Go.refl _ _) R1 (fun _=>rfl) (fun z=>?_)
   cases rw with
   | snd n h val=>exact absurd (show decide (V.str "send"=V.str "send")=true by decide) b
   | say n x val m=>exact absurd rfl z
   | _=>exact ⟨rfl,rfl⟩
end
section
variable {P:Program}{w:World}{K:W.Frag}{mg:Str->Option Value}{base:Heap}{A:Adr}{E:En}
seal PE PA PS PSs PT PW
theorem yq {j f:Nat} (hj:2 <= j) (T:Txt K mg A) (O:WOk E) (D_law_do_all:Has P w K mg base j "_law_do_all" ["_law_world","_law_nodes_here"] (oN E f)):Has P w K mg base (j + 1) "_law_do_block" ["_law_world","_law_node"] (nN wL E f):=by
 have D_law_taken:=rg (P:=P) (w:=w) (base:=base) (E:=E) T O
 have D_law_reckoned:=og (P:=P) (w:=w) (base:=base) (E:=E) T O
 refine T.lY.has (k:=j) cv (fun vs H Q E h=>?_) (fun f' cdv A' outer s H vs Q E' hr hu h=>?_)
 ·obtain ⟨r,k,v,rw,dn,rfl,_⟩:=h
  rfl
 ·obtain ⟨r,k,v,rw,dn,rfl,nb,LR,q⟩:=h
  obtain ⟨R,LD,N0,wf,rm⟩:=LR
  obtain ⟨a,ws,rfl,ha⟩:=qU N0
  have rm1:=rm.le (kJ E f rw wf)
  refine ⟨_,(ab (bo (aw bL (px hu (fv 0) ai) ae) (bA (fv 0) ai (bB hu set_list)))
  (ab (aP (bN (px hu (fv 0) ai) (aa (cx (aa (px hu (fv 1) ae) (aa (px hu (fv 0) ai) (aa nU af)))) af)))
  (ab (aO (ay (aT hu) (px hu (fv 1) ae) ai (az _))
   (ab (aC (i:=2) cv.nd rfl (Or.inl rfl) (aw bL ae (bY qS rfl T.k5 (by boot_by_name) (aa (eA (aT hu) (ar (hj:=by omega) D_law_reckoned hr (aa (fv 0) (aa (px hu (fv 1) ae) af))) ae (az _)) af))))
   (ab (aC (i:=3) cv.nd rfl (Or.inl rfl) (ar (hj:=by omega) D_law_do_all hr (aa (fv 0) (aa (px hu (fv 1) (fv 2)) af))))
   (ab (bo (aw bL (px hu (fv 0) ai) (px hu (fv 1) (aw bL (fv 2) ae))) (bA (fv 0) ai (bB hu set_list)))
   (ag (aA (fv 3))))))
   aH)
  (ab (aC (i:=4) cv.nd rfl (Or.inl rfl) (aG Aw rfl T.rY (by boot_by_name) (aa (ar (hj:=by omega) D_law_taken hr (aa (fv 0) (aa (px hu (fv 1) ae) af))) (aa (px hu (fv 1) ae) af))))
  (ab (aC (i:=5) cv.nd rfl (Or.inl rfl) ae)
  (ab (oW PassesOwn.never (ay (yj) (fv 5) (fv 4) (az _))
   (ab (aC (i:=5) cv.nd rfl (Or.inl rfl) (aw bL (fv 5) ae))
   (ab (aO (bU (ar (hj:=by omega) D_law_do_all hr (aa (fv 0) (aa (px hu (fv 1) ae) af))) (fun _=>rfl))
    (ag (aC (i:=4) cv.nd rfl (Or.inl rfl) (fv 5)))
    aH)
   (ag (bo (aw bL (px hu (fv 0) ai) (px hu (fv 1) ae)) (bA (fv 0) ai (bB hu set_list)))))))
  (ab (bo (aw bL (px hu (fv 0) ai) (aw fe (px hu (fv 1) ae) (aw lN (px hu (fv 1) ae) (fv 5)))) (bA (fv 0) ai (bB hu set_list)))
  (ag (aA gT))))))))),?_⟩
  refine ⟨_,bu.k (k:=.inr "steps") R.hb,_,cF.k (k:=.inr "steps") R.hb (show 6 < sizeLine by decide),?_⟩
  rw [show putK (wK r k.steps) (.inr "steps") (.int (k.steps + 1))=wK r (k.steps + 1) from rfl]
  have R1:WAt E (upd H r.b (.dK (wK r (k.steps + 1)))) r k.at1:=R.steps (k.steps + 1)
  have g1:Go (r.M E) H (r.M E) (upd H r.b (.dK (wK r (k.steps + 1)))):=Go.at (r.inM E).1 _
  generalize upd H r.b _=H1 at R1 g1 ⊢
  try dsimp only
  refine ax fun M1 K1=>?_
  obtain ⟨us,hus,tus⟩:=R1.ht
  refine ⟨_,bu.k (k:=.inr "trace") R1.hb,Or.inl ⟨rfl,_,SqL.of hus⟩,Or.inl ⟨_,_,Or.inr (SqT.of (ao _ _ (g1.same _ _ ha))),at0,_,bu.k (k:=.inr "steps") R1.hb,by show 3 <= sizeLine;decide,fun p4 hp4=>?_⟩⟩
  rw [show k.at1.steps=k.steps + 1 from rfl]
  have R4:=R1.trace (w:=[.int rw.no,.int (k.steps + 1),.non]) hp4 hus
  have g4:Go (r.M E) H (r.M E) (upd (upd H1 p4 (.tup [.int rw.no,.int (k.steps + 1),.non])) r.t (.lst (us ++ [.ref p4]))):=(g1.trans (Go.new (aj.upd hp4 _))).trans (Go.at (r.inM E).2.2.1 _)
  have hu4:=aj.upd hp4 (HO.tup [.int rw.no,.int (k.steps + 1),.non]) _ _ hus
  refine ⟨_,_,_,rfl,rfl,hu4,?_,K1 _ _ ?_⟩
  ·rw [fK.len tus]
   exact nZ rm1.t rm1.st (by decide)
  have R4:WAt E _ r (k.tell rw.no .non):=R4
  generalize upd (upd H1 p4 _) r.t _=H4 at R4 g4 ⊢
  clear hu4 hp4 hus tus R1 g1
  try dsimp only
  cases f with
  | zero=>cases rw <;> first | exact (show False from wf).elim | exact (show False from nb).elim
  | succ f =>
  cases rw with
  | iff n val fs os l r0 =>
   obtain ⟨dn',rfl⟩:∃d,dn=d + 1:=by
    cases dn with
    | zero=>exact (show False from N0).elim
    | succ d=>exact ⟨d,rfl⟩
   obtain ⟨a',p,pf,po,xf,xo,ea,h1,h2,h3,h4,n3,n4⟩:=N0
   cases ea
   obtain ⟨vo,l0,r00,w1,w2⟩:=wf
   have tB:=fun {H2:Hp} (g:Go (r.M E) H (r.M E) H2)=>SqT.of (K:=K) (ao _ _ (g.same _ _ h1))
   unfold aE at rm
   have c1:=lG E w1
   have c2:=lG E w2
   generalize hm:(if l + (fs.map (aE E f)).sum < r0 + (os.map (aE E f)).sum then r0 + (os.map (aE E f)).sum else l + (fs.map (aE E f)).sum)=mx at rm
   have m1:l + (fs.map (aE E f)).sum <= mx/\r0 + (os.map (aE E f)).sum <= mx:=by rw [<- hm];split <;> omega
   have rt:(k.tell n .non).room BIG mx:=eu rm n .non
   refine ax fun M2 K2=>?_
   refine Or.inl ⟨_,_,Or.inr (tB g4),rfl,rfl,_,rfl,aL (fun _=>?_) (fun b=>absurd (show decide (V.str "if"=V.str "if")=true by decide) b)⟩
   refine ax fun M3 K3=>?_
   refine Or.inl ⟨_,_,Or.inr (tB g4),rfl,r,_,p,val,rfl,R4,ao _ _ (g4.same _ _ h2),vo,fun H5 s5=>?_⟩
   rw [ku]
   have R5:=R4.same s5
   have g5:Go (r.M E) H (r.M E) H5:=g4.trans (Go.new s5)
   have side:∀(sd:Int) (pb:Addr) (xb:List V) (b:List Rw) (il:Int),atI [V.int n,.str "if",.ref p,.ref pf,.ref po,.int l,.int r0] sd=some (.ref pb)->atI [V.int n,.str "if",.ref p,.ref pf,.ref po,.int l,.int r0] (sd + 2)=some (.int il)->del (r.M E) H pb=some (.lst xb)->Paired (aZ E.N (del (r.M E) H) dn') xb b->(∀q ∈ b,Wf E f q)->(b.map (aE E f)).sum <= mx->doR E (f + 1) k (.iff n val fs os l r0)=((aU (doR E f) (k.tell n .non) b).1.idle il,(aU (doR E f) (k.tell n .non) b).2)->M3 [some (.ref r.b),some (.ref a),some (.int sd),none,none,none] H5:=by
    intro sd pb xb b il a1 a2 hb nb' wb lb de
    refine K3 _ _ ?_
    refine ax fun M5 K5=>?_
    refine Or.inl ⟨_,_,Or.inr (tB g5),a1,r,_,pb,xb,b,dn',rfl,R5,LD.same g5.same,g5.same _ _ hb,Paired.cm nb' (fun _ _=>aZ.same g5.same),wb,rt.le lb,fun H6 g6 R6=>K5 _ _ ?_⟩
    have g06:=g5.trans g6
    refine ⟨_,bu.k (k:=.inr "steps") R6.hb,Or.inl ⟨_,_,Or.inr (tB g06),a2,_,cF.k (k:=.inr "steps") R6.hb (show 6 < sizeLine by decide),?_⟩⟩
    rw [de] at q
    exact q _ (g06.trans (Go.at (r.inM E).1 _)) (R6.steps _)
   refine ⟨rfl,_,rfl,?_⟩
   by_cases c:val.num k=0
   ·have de:doR E (f + 1) k (.iff n val fs os l r0)=((aU (doR E f) (k.tell n .non) os).1.idle r0,(aU (doR E f) (k.tell n .non) os).2):=by
     show (if val.num k ≠ 0 then _ else _)=_
     rw [if_neg (fun z=>z c)]
    rw [fW,decide_eq_true c]
    exact side 4 po xo os r0 rfl rfl h4 n4 w2 (by omega) de
   ·have de:doR E (f + 1) k (.iff n val fs os l r0)=((aU (doR E f) (k.tell n .non) fs).1.idle l,(aU (doR E f) (k.tell n .non) fs).2):=by
     show (if val.num k ≠ 0 then _ else _)=_
     rw [if_pos c]
    rw [fW,decide_eq_false c]
    exact side 3 pf xf fs l rfl rfl h3 n3 w1 (by omega) de
  | loop n th m b l r0 =>
   obtain ⟨dn',rfl⟩:∃d,dn=d + 1:=by
    cases dn with
    | zero=>exact (show False from N0).elim
    | succ d=>exact ⟨d,rfl⟩
   obtain ⟨a',pb,xb,ea,h1,h3,n3⟩:=N0
   have R4:WAt E H4 r (k.tell n .non):=R4
   cases ea
   obtain ⟨to,m0,m1,l0,r00,wfb⟩:=wf
   have tB:=fun {H2:Hp} (g:Go (r.M E) H (r.M E) H2)=>SqT.of (K:=K) (ao _ _ (g.same _ _ h1))
   unfold aE at rm
   have c0:=lG E wfb
   have rt:=eu rm n .non
   have lr:m * (l + (b.map (aE E f)).sum) <= m * (if l + (b.map (aE E f)).sum < r0 then r0 else l + (b.map (aE E f)).sum):=Int.mul_le_mul_of_nonneg_left (by split <;> omega) m0
   have rm1:=rt.le lr
   refine ax fun M2 K2=>?_
   refine Or.inl ⟨_,_,Or.inr (tB g4),rfl,rfl,_,rfl,aL (fun b=>absurd (bj b) (by decide)) (fun _=>K2 _ _ ?_)⟩
   refine ax fun M3 K3=>?_
   refine Or.inl ⟨_,_,Or.inr (tB g4),rfl,r,_,th,rfl,R4,to,Or.inl ⟨_,_,Or.inr (tB g4),rfl,_,_,rfl,K3 _ _ ?_⟩⟩
   have wn:=uW R4.ok to m0
   have wm:=qZ (k.tell n .non) th m
   have ew:(if m < th.num (k.tell n .non) then m else th.num (k.tell n .non))=want (k.tell n .non) th m:=rfl
   have e0:want (k.tell n .non) th m=want k th m:=by unfold want;rw [nS]
   rw [ew]
   have gdef:doR E (f + 1) k (.loop n th m b l r0)=((rounds (fun s=>aU (doR E f) s b) l (want k th m).toNat 0 (k.tell n .non)).1.idle (r0 * (m - (rounds (fun s=>aU (doR E f) s b) l (want k th m).toNat 0 (k.tell n .non)).2)),false):=rfl
   rw [gdef] at q
   rw [e0] at wn wm ⊢
   have rl:=mL (fun s=>aU (doR E f) s b) l (want k th m).toNat 0 (k.tell n .non)
   generalize hX:rounds (fun s=>aU (doR E f) s b) l (want k th m).toNat 0 (k.tell n .non)=X at q rl
   generalize want k th m=wt at wn wm hX rl ⊢
   try dsimp only
   refine ax fun M4 K4=>?_
   refine K4 _ _ ?_
   refine ax fun M5 K5=>?_
   have tail:∀(kk:S) (jj:Nat) (w4:Int) (Hx:Hp),Go (r.M E) H (r.M E) Hx->WAt E Hx r kk->X=(kk,jj)->M5 [some (.ref r.b),some (.ref a),none,none,some (.int w4),some (.int (jj:Int))] Hx:=by
    intro kk jj w4 Hx gx Rx ex
    refine K5 _ _ ?_
    rw [ex] at rl q
    dsimp only at rl
    refine ⟨_,bu.k (k:=.inr "steps") Rx.hb,Or.inl ⟨_,_,Or.inr (tB gx),rfl,Or.inl ⟨_,_,Or.inr (tB gx),rfl,.inr ⟨by omega,by omega⟩,_,cF.k (k:=.inr "steps") Rx.hb (show 6 < sizeLine by decide),?_⟩⟩⟩
    exact q _ (gx.trans (Go.at (r.inM E).1 _)) (Rx.steps _)
   refine ⟨fun mm σ Hx=>∃(jj:Nat) (kj:S) (w4:Int),mm + jj=w4.toNat/\0 <= w4/\w4 <= m/\σ=[some (.ref r.b),some (.ref a),none,none,some (.int w4),some (.int (jj:Int))]/\Go (r.M E) H (r.M E) Hx/\WAt E Hx r kj/\kj.room BIG ((mm:Int) * (l + (b.map (aE E f)).sum))/\rounds (fun s=>aU (doR E f) s b) l mm jj kj=X,
    ⟨_,0,_,wt,Nat.add_zero _,wn,wm,rfl,g4,R4,rm1.le (Int.mul_le_mul_of_nonneg_right (by omega) (by omega)),hX⟩,?_⟩
   rintro mm σ Hx ⟨jj,kj,w4,hmm,w0,w1,rfl,gx,Rx,rmx,ex⟩
   refine ⟨_,rfl,aL (fun c=>?_) (fun c=>?_)⟩
   ·have hc:(jj:Int) < w4:=of_decide_eq_true c
    obtain ⟨m',rfl⟩:∃m',mm=m' + 1:=⟨mm - 1,by omega⟩
    have em:((m' + 1:Nat):Int) * (l + (b.map (aE E f)).sum)=(m':Int) * (l + (b.map (aE E f)).sum) + (l + (b.map (aE E f)).sum):=by rw [Int.natCast_succ,Int.add_mul,Int.one_mul]
    rw [em] at rmx
    have m0':0 <= (m':Int) * (l + (b.map (aE E f)).sum):=Int.mul_nonneg (by omega) (by omega)
    refine ⟨fun σ' H'=>∃(mm:Nat),mm < m' + 1/\∃(jj:Nat) (kj:S) (w4:Int),mm + jj=w4.toNat/\0 <= w4/\w4 <= m/\σ'=[some (.ref r.b),some (.ref a),none,none,some (.int w4),some (.int (jj:Int))]/\Go (r.M E) H (r.M E) H'/\WAt E H' r kj/\kj.room BIG ((mm:Int) * (l + (b.map (aE E f)).sum))/\rounds (fun s=>aU (doR E f) s b) l mm jj kj=X,fun σ' H' h'=>h',?_⟩
    try dsimp only
    refine ax fun M6 K6=>?_
    refine K6 _ _ ?_
    refine ax fun M7 K7=>?_
    refine Or.inl ⟨_,_,Or.inr (tB gx),rfl,r,kj,pb,xb,b,dn',rfl,Rx,LD.same gx.same,gx.same _ _ h3,Paired.cm n3 (fun _ _=>aZ.same gx.same),wfb,rmx.le (by omega),fun H2 g2 R2=>?_⟩
    have g02:=gx.trans g2
    have rm3:((aU (doR E f) kj b).1.idle l).room BIG ((m':Int) * (l + (b.map (aE E f)).sum)):=f9 (i4 (E:=E) (p:=Wf E f) (fun s r n w h=>kr E f s r n w h) b (kj,false) _ wfb (rmx.le (by omega))) l0
    simp only [rounds] at ex
    have left:∀w5:Int,(∃(mm:Nat),mm < m' + 1/\mm + (jj + 1)=w5.toNat/\0 <= w5/\w5 <= m/\((aU (doR E f) kj b).1.idle l).room BIG ((mm:Int) * (l + (b.map (aE E f)).sum))/\rounds (fun s=>aU (doR E f) s b) l mm (jj + 1) ((aU (doR E f) kj b).1.idle l)=X)->M7 [some (.ref r.b),some (.ref a),none,none,some (.int w5),some (.int ((jj:Int) + 1))] H2:=fun w5 ⟨mm,z1,z2,z3,z4,z5,z6⟩=>K7 _ _ (by
     refine ⟨_,bu.k (k:=.inr "steps") R2.hb,Or.inl ⟨_,_,Or.inr (tB g02),rfl,_,cF.k (k:=.inr "steps") R2.hb (show 6 < sizeLine by decide),?_⟩⟩
     exact ⟨mm,z1,jj + 1,_,w5,z2,z3,z4,rfl,g02.trans (Go.at (r.inM E).1 _),R2.steps _,z5,z6⟩)
    refine ⟨_,rfl,?_⟩
    cases hb:(aU (doR E f) kj b).2 with
    | true =>
     refine cU ?_
     rw [hb,if_pos rfl] at ex
     exact left _ ⟨0,by omega,by omega,by omega,by omega,rm3.le (by rw [Int.natCast_zero,Int.zero_mul];exact m0'),ex⟩
    | false =>
     refine bw ?_
     rw [hb,if_neg Bool.false_ne_true] at ex
     exact left _ ⟨m',by omega,by omega,w0,w1,rm3,ex⟩
   ·have hc:¬ (jj:Int) < w4:=fun z=>c (decide_eq_true z)
    obtain rfl:mm=0:=by omega
    exact tail kj jj w4 Hx gx Rx ex.symm
  | _=>exact (show False from nb).elim
theorem BC {j f:Nat} (T:Txt K mg A) (D_law_do_block:Has P w K mg base j "_law_do_block" ["_law_world","_law_node"] (nN wL E f)) (D_law_do:Has P w K mg base j "_law_do" ["_law_world","_law_node"] (nN (fun rw=>¬ wL rw) E f)):Has P w K mg base (j + 1) "_law_do_all" ["_law_world","_law_nodes_here"] (rM E f):=by
 refine T.lj.has (k:=j) dC (fun vs H Q E h=>?_) (fun f' cdv A' outer s H vs Q E' hr hu h=>?_)
 ·obtain ⟨r,k,B,xs,rows,dn,rfl,_⟩:=h
  rfl
 ·obtain ⟨r,k,B,xs,rows,dn,rfl,R,LD,hq,pr,wf,rm,g⟩:=h
  refine ⟨_,(ab (aC (i:=2) dC.nd rfl (Or.inl rfl) gT)
  (ab (dX PassesOwn.never rfl (fu (fv 1)) (pgn (i:=3) dC.nd rfl)
   (ag (aO (PW.pt (pw_or (ay (aT hu) (px hu (fv 3) ae) ai (az _)) (pw_or1 (ay (aT hu) (px hu (fv 3) ae) ai (az _)))))
    (ag (aC (i:=2) dC.nd rfl (Or.inl rfl) (yo (ar (hj:=by omega) D_law_do_block hr (aa (fv 0) (aa (fv 3) af))) (iC (fv 2)))))
    (ag (aC (i:=2) dC.nd rfl (Or.inl rfl) (yo (ar (hj:=by omega) D_law_do hr (aa (fv 0) (aa (fv 3) af))) (iC (fv 2))))))))
  (ag (aA (fv 2))))),?_⟩
  refine Or.inl ⟨⟨_,SqL.of (ao _ _ hq)⟩,fL (K:=K) (xs:=xs) (fun i σ H2=>Go (r.M E) H (r.M E) H2/\WAt E H2 r ((rows.take i).foldl (step (doR E f)) (k,false)).1/\((rows.take i).foldl (step (doR E f)) (k,false)).1.room BIG (((rows.drop i).map (aE E f)).sum) /\
   ∃v,σ=[some (.ref r.b),some (.ref B),some (.bl ((rows.take i).foldl (step (doR E f)) (k,false)).2),v]) ⟨Go.refl _ _,R,rm,none,rfl⟩ (fun i σ H2 _ h=>SqL.of (ao _ _ (h.1.same _ _ hq))) ?_ ?_⟩
  ·rintro i v σ H2 hx ⟨g2,R2,rm2,z,rfl⟩
   obtain ⟨rw,hrw,W⟩:=cw pr hx
   rw [ou hrw]
   rw [l8 hrw,List.map_cons,List.sum_cons] at rm2
   generalize (rows.take i).foldl (step (doR E f)) (k,false)=p at R2 rm2 ⊢
   have wr:=wf rw (List.mem_of_getElem? hrw)
   have nn:=lG E (d:=f) (xs:=rows.drop (i + 1)) fun q hq=>wf q (List.mem_of_mem_drop hq)
   have W2:=W.same g2.same
   obtain ⟨a,ws,rfl,ha⟩:=qU W2
   have tA:=SqT.of (K:=K) (ao _ _ ha)
   have LR:Cy E H2 r p.1 f dn (.ref a) rw:=⟨R2,LD.same g2.same,W2,wr,rm2.le (by omega)⟩
   have rm3:=kr E f p.1 rw _ wr rm2
   have kd2:(rw.kd="if" \/ rw.kd="loop") ↔ wL rw:=by
    cases rw <;> first | exact ⟨fun _=>trivial,fun _=>.inl rfl⟩ | exact ⟨fun _=>trivial,fun _=>.inr rfl⟩ | exact ⟨fun z=>by dsimp only [Rw.kd] at z;exact absurd z (by decide),fun z=>z.elim⟩
   refine Or.inl ⟨_,_,Or.inr tA,at1,rfl,_,rfl,aL (fun b1=>cU ?_) (fun b1=>Or.inl ⟨_,_,Or.inr tA,at1,rfl,_,rfl,aL (fun b2=>?_) (fun b2=>?_)⟩)⟩
   ·refine ⟨r,p.1,_,rw,dn,rfl,kd2.mp (.inl (bj b1)),LR,fun H3 g3 R3=>⟨_,rfl,?_⟩⟩
    show if (doR E f p.1 rw).2=true then _ else _
    unfold step
    cases hb:(doR E f p.1 rw).2 with
    | true =>
     refine cU ⟨g2.trans g3,R3,rm3,some (.ref a),?_⟩
     rw [Bool.or_true]
     rfl
    | false =>
     refine bw ⟨g2.trans g3,R3,rm3,some (.ref a),?_⟩
     rw [Bool.or_false]
     rfl
   ·refine ⟨r,p.1,_,rw,dn,rfl,kd2.mp (.inr (bj b2)),LR,fun H3 g3 R3=>⟨_,rfl,?_⟩⟩
    show if (doR E f p.1 rw).2=true then _ else _
    unfold step
    cases hb:(doR E f p.1 rw).2 with
    | true =>
     refine cU ⟨g2.trans g3,R3,rm3,some (.ref a),?_⟩
     rw [Bool.or_true]
     rfl
    | false =>
     refine bw ⟨g2.trans g3,R3,rm3,some (.ref a),?_⟩
     rw [Bool.or_false]
     rfl
   ·refine ⟨r,p.1,_,rw,dn,rfl,(fun z=>(kd2.mpr z).elim (fun z=>b1 (by rw [z];decide)) (fun z=>b2 (by rw [z];decide))),LR,fun H3 g3 R3=>⟨_,rfl,?_⟩⟩
    show if (doR E f p.1 rw).2=true then _ else _
    unfold step
    cases hb:(doR E f p.1 rw).2 with
    | true =>
     refine cU ⟨g2.trans g3,R3,rm3,some (.ref a),?_⟩
     rw [Bool.or_true]
     rfl
    | false =>
     refine bw ⟨g2.trans g3,R3,rm3,some (.ref a),?_⟩
     rw [Bool.or_false]
     rfl
  ·rintro σ H2 ⟨g2,R2,rm2,z,rfl⟩
   have hl:xs.length=rows.length:=Paired.length pr
   rw [hl,List.take_length] at R2 ⊢
   exact g H2 g2 R2
theorem rn (T:Txt K mg A) (O:WOk E):∀f,Has P w K mg base (2 * f + 2) "_law_do_all" ["_law_world","_law_nodes_here"] (oN E f)
 | 0=>T.lj.has (k:=1) dC (fun _ _ _ _ h=>h.elim) (fun _ _ _ _ _ _ _ _ _ _ _ h=>h.elim)
 | f + 1=>BC (j:=2 * f + 3) T (yq (by omega) T O (rn T O f)) (CT (by omega) T O (rn T O f))
end
section
variable {P:Program}{w:World}{K:W.Frag}{mg:Str->Option Value}{base:Heap}{A:Adr}
seal PE PA PS PSs PT PW
theorem BD:W.kitOne K (.type "tuple") (.type "str")=some false:=by kernel_rfl!
theorem Bt:W.kitOne K (.type "list") (.type "str")=some false:=by kernel_rfl!
theorem xJ:W.kitOne K (.type "list") (.type "tuple")=some false:=by kernel_rfl!
def flat:V->Prop
 | .non=>True
 | .int _=>True
 | .str _=>True
 | _=>False
def mZ (H:Hp):Nat->V->V->Prop
 | 0,v,u=>v=u/\flat v
 | d + 1,v,u=>(v=u/\flat v) \/ ∃p q xs ys,v=.ref p/\u=.ref q/\((H p=some (.tup xs)/\H q=some (.tup ys)) \/ (H p=some (.lst xs)/\H q=some (.lst ys)))/\xs.length <= 1000000/\Paired (mZ H d) xs ys
def zt (d:Nat):Sp:=fun vs H Q _=>∃v u,vs=[v,u]/\mZ H d v u/\Q (.bl true) H
def yx:Nat->Sp
 | 0=>fun _ _ _ _=>False
 | d + 1=>zt d
theorem yR (T:Txt K mg A):∀n,Has P w K mg base (n + 1) "_law_same" ["_law_found","_law_due_here"] (yx n)
 | 0=>T.pd.has (k:=0) jL (fun _ _ _ _ h=>h.elim) (fun _ _ _ _ _ _ _ _ _ _ _ h=>h.elim)
 | d + 1=>by
  have D_law_same:=yR T d
  refine T.pd.has (k:=d + 1) jL (fun vs H Q E h=>?_) (fun f cdv A' outer s' H vs Q E hr hu h=>?_)
  ·obtain ⟨v,u,rfl,_⟩:=h
   rfl
  ·obtain ⟨v,u,rfl,S,q⟩:=h
   have S':(v=u/\flat v) \/ ∃e p r xs ys,d=e + 1/\v=.ref p/\u=.ref r/\((H p=some (.tup xs)/\H r=some (.tup ys)) \/ (H p=some (.lst xs)/\H r=some (.lst ys)))/\xs.length <= 1000000/\Paired (mZ H e) xs ys:=by
    cases d with
    | zero=>exact Or.inl S
    | succ d =>
     rcases S with S | ⟨p,r,xs,ys,S⟩
     ·exact Or.inl S
     ·exact Or.inr ⟨d,p,r,xs,ys,rfl,S⟩
   refine ⟨_,(ab (aO (ay (Cv) (fv 1) nU (az _))
   (ag (aA (eA (Cv) (fv 0) nU (az _))))
   aH)
  (ab (aO (bU (aG bg rfl T.aB (by boot_by_name) (aa (fv 1) (aa (cJ (v:=.ty "int") rfl T.k5 (by boot_by_name) rfl) af))) (fun _=>rfl))
   (ag (aA (ir (aG bg rfl T.aB (by boot_by_name) (aa (fv 0) (aa (cJ (v:=.ty "int") rfl T.k5 (by boot_by_name) rfl) af))) (ir (zB (aG bg rfl T.aB (by boot_by_name) (aa (fv 0) (aa (cJ (v:=.ty "bool") rfl T.oo (by boot_by_name) rfl) af)))) (iC (eA (aT hu) (fv 0) (fv 1) (az _)))))))
   aH)
  (ab (aO (bU (aG bg rfl T.aB (by boot_by_name) (aa (fv 1) (aa (cJ (v:=.ty "str") rfl T.nq (by boot_by_name) rfl) af))) (fun _=>rfl))
   (ag (aA (ir (aG bg rfl T.aB (by boot_by_name) (aa (fv 0) (aa (cJ (v:=.ty "str") rfl T.nq (by boot_by_name) rfl) af))) (iC (eA (aT hu) (fv 0) (fv 1) (az _))))))
   aH)
  (ab (aO (PW.pt (pw_or (ay (uQ hu) (aG bg rfl T.aB (by boot_by_name) (aa (fv 1) (aa (cJ (v:=.ty "list") rfl T.dE (by boot_by_name) rfl) af))) (aG bg rfl T.aB (by boot_by_name) (aa (fv 0) (aa (cJ (v:=.ty "list") rfl T.dE (by boot_by_name) rfl) af))) (az _)) (pw_or1 (ay (uQ hu) (aG bg rfl T.aB (by boot_by_name) (aa (fv 1) (aa (cJ (v:=.ty "tuple") rfl T.mh (by boot_by_name) rfl) af))) (aG bg rfl T.aB (by boot_by_name) (aa (fv 0) (aa (cJ (v:=.ty "tuple") rfl T.mh (by boot_by_name) rfl) af))) (az _)))))
   (ag (aA gT))
   aH)
  (ab (aO (ay (uQ hu) (aG dF rfl T.eI (by boot_by_name) (aa (fv 0) af)) (aG dF rfl T.eI (by boot_by_name) (aa (fv 1) af)) (az _))
   (ag (aA gT))
   aH)
  (ab (dX PassesOwn.never rfl (gh rfl T.cZ (aa (aG dF rfl T.eI (by boot_by_name) (aa (fv 1) af)) af)) (pgn (i:=2) jL.nd rfl)
   (ag (aO (iN (bU (ar (hj:=by omega) D_law_same hr (aa (px hu (fv 0) (fv 2)) (aa (px hu (fv 1) (fv 2)) af))) (fun _=>rfl)))
    (ag (aA gT))
    aH)))
  (ag (aA gT)))))))),?_⟩
   rcases S' with ⟨rfl,fl⟩ | ⟨e,p,r,xs,ys,rfl,rfl,rfl,hpq,hl,pr⟩
   ·cases v with
    | non=>exact ⟨rfl,_,rfl,aL (fun _=>⟨rfl,q⟩) (fun c=>absurd rfl c)⟩
    | int i =>
     refine ⟨rfl,_,rfl,aL (fun c=>absurd (of_decide_eq_true c) (by intro z;cases z)) (fun _=>?_)⟩
     refine ⟨_,_,_,true,rfl,(fun z=>by cases z),.int i,uo,true,rfl,cU ?_⟩
     refine ⟨_,_,_,true,rfl,(fun z=>by cases z),.int i,uo,_,rfl,cU ?_⟩
     refine ⟨_,_,_,false,rfl,(fun z=>by cases z),.int i,xh,false,rfl,_,rfl,cU ⟨rfl,?_⟩⟩
     rw [decide_eq_true rfl]
     exact q
    | str y =>
     refine ⟨rfl,_,rfl,aL (fun c=>absurd (of_decide_eq_true c) (by intro z;cases z)) (fun _=>?_)⟩
     refine ⟨_,_,_,false,rfl,(fun z=>by cases z),.str y,AG,false,rfl,bw ?_⟩
     refine ⟨_,_,_,true,rfl,(fun z=>by cases z),.str y,lB,true,rfl,cU ?_⟩
     refine ⟨_,_,_,true,rfl,(fun z=>by cases z),.str y,lB,_,rfl,cU ⟨rfl,?_⟩⟩
     rw [decide_eq_true rfl]
     exact q
    | _=>exact fl.elim
   ·rcases hpq with ⟨hp,hr'⟩ | ⟨hp,hr'⟩
    ·
     have n1:¬ decide (V.ref r=V.non)=true:=fun c=>absurd (of_decide_eq_true c) (by intro z;cases z)
     have le:xs.length=ys.length:=Paired.length pr
     refine ⟨rfl,_,rfl,aL (fun c=>absurd c n1) (fun _=>?_)⟩
     refine ⟨_,_,_,false,rfl,(fun z=>by cases z),.tup hr',A4,false,rfl,bw ?_⟩
     refine ⟨_,_,_,false,rfl,(fun z=>by cases z),.tup hr',BD,false,rfl,bw ?_⟩
     refine ⟨_,_,_,false,rfl,(fun z=>by cases z),.tup hr',xA,_,_,_,false,rfl,(fun z=>by cases z),.tup hp,xA,rfl,_,rfl,aL (fun c=>absurd c (by decide)) (fun _=>?_)⟩
     refine ⟨_,_,_,true,rfl,(fun z=>by cases z),.tup hr',xT,_,_,_,true,rfl,(fun z=>by cases z),.tup hp,xT,rfl,_,rfl,aL (fun c=>absurd c (by decide)) (fun _=>?_)⟩
     refine Or.inl ⟨_,_,rfl,Or.inr ⟨_,SqT.of hp,rfl⟩,Or.inl ⟨_,_,rfl,Or.inr ⟨_,SqT.of hr',rfl⟩,rfl,_,rfl,aL (fun c=>absurd c ?_) (fun _=>?_)⟩⟩
     ·rw [fW,le]
      simp
     refine Or.inl ⟨_,_,rfl,Or.inr ⟨_,SqT.of hr',rfl⟩,(ys.length:Int),rfl,by omega,by omega,?_⟩
     refine d7 (fun i σ H2=>H2=H/\∃z,σ=[some (.ref p),some (.ref r),z]) ⟨rfl,none,rfl⟩ ?_ ?_
     ·rintro i σ H2 hi ⟨rfl,z,rfl⟩
      have hi':i < ys.length:=by omega
      have e1:=List.getElem?_eq_getElem (l:=xs) (i:=i) (by omega)
      obtain ⟨u,e2,su⟩:=cw pr e1
      have a1:atI xs (0 + (i:Int))=some xs[i]:=by rw [Int.zero_add];exact ee e1
      have a2:atI ys (0 + (i:Int))=some u:=by rw [Int.zero_add];exact ee e2
      exact Or.inl ⟨_,_,Or.inr (SqT.of hp),a1,Or.inl ⟨_,_,Or.inr (SqT.of hr'),a2,_,_,rfl,su,true,rfl,bw ⟨rfl,_,rfl⟩⟩⟩
     ·rintro σ H2 ⟨rfl,z,rfl⟩
      exact q
    ·
     have n1:¬ decide (V.ref r=V.non)=true:=fun c=>absurd (of_decide_eq_true c) (by intro z;cases z)
     have le:xs.length=ys.length:=Paired.length pr
     refine ⟨rfl,_,rfl,aL (fun c=>absurd c n1) (fun _=>?_)⟩
     refine ⟨_,_,_,false,rfl,(fun z=>by cases z),.lst hr',Bz,false,rfl,bw ?_⟩
     refine ⟨_,_,_,false,rfl,(fun z=>by cases z),.lst hr',Bt,false,rfl,bw ?_⟩
     refine ⟨_,_,_,true,rfl,(fun z=>by cases z),.lst hr',tN,_,_,_,true,rfl,(fun z=>by cases z),.lst hp,tN,rfl,_,rfl,aL (fun c=>absurd c (by decide)) (fun _=>?_)⟩
     refine ⟨_,_,_,false,rfl,(fun z=>by cases z),.lst hr',xJ,_,_,_,false,rfl,(fun z=>by cases z),.lst hp,xJ,rfl,_,rfl,aL (fun c=>absurd c (by decide)) (fun _=>?_)⟩
     refine Or.inl ⟨_,_,rfl,Or.inl ⟨_,SqL.of hp,rfl⟩,Or.inl ⟨_,_,rfl,Or.inl ⟨_,SqL.of hr',rfl⟩,rfl,_,rfl,aL (fun c=>absurd c ?_) (fun _=>?_)⟩⟩
     ·rw [fW,le]
      simp
     refine Or.inl ⟨_,_,rfl,Or.inl ⟨_,SqL.of hr',rfl⟩,(ys.length:Int),rfl,by omega,by omega,?_⟩
     refine d7 (fun i σ H2=>H2=H/\∃z,σ=[some (.ref p),some (.ref r),z]) ⟨rfl,none,rfl⟩ ?_ ?_
     ·rintro i σ H2 hi ⟨rfl,z,rfl⟩
      have hi':i < ys.length:=by omega
      have e1:=List.getElem?_eq_getElem (l:=xs) (i:=i) (by omega)
      obtain ⟨u,e2,su⟩:=cw pr e1
      have a1:atI xs (0 + (i:Int))=some xs[i]:=by rw [Int.zero_add];exact ee e1
      have a2:atI ys (0 + (i:Int))=some u:=by rw [Int.zero_add];exact ee e2
      exact Or.inl ⟨_,_,Or.inl (SqL.of hp),a1,Or.inl ⟨_,_,Or.inl (SqL.of hr'),a2,_,_,rfl,su,true,rfl,bw ⟨rfl,_,rfl⟩⟩⟩
     ·rintro σ H2 ⟨rfl,z,rfl⟩
      exact q
end
section
variable {P:Program}{w:World}{K:W.Frag}{mg:Str->Option Value}{base:Heap}{A:Adr}{E:En}
seal PE PA PS PSs PT PW
def S0 (E:En) (c1 c2:Int) (k:Nat):S:=S.new E (eT c1) (gnV c2 k) (fun _=>glV c2 k (z5 c1))
def wg (E:En) (c1 c2:Int) (k:Nat) (rows:List Rw):S:=(aU (doR E 15) (S0 E c1 c2 k) rows).1
structure tw (E:En) (H:Hp) (r:Ra) (en:Addr) (k:S):Prop where
 hb:H r.b=some (.dK (wK r k.steps ++ [(.inr "ends",.ref en)]))
 he:H en=some (.lst [.int (k.num 6),.int (k.num 7),.int (k.num 8),.ref (r.la 9)])
 ht:∃xs,H r.t=some (.lst xs)/\fK H xs k.trace
 hl:∃xs,H r.l=some (.lst xs)/\fK H xs k.dI
 hd:∃xs,H r.sd=some (.lst xs)/\fK H xs k.mf
 ha:H (r.la 9)=some (.lst ((k.lst 9).map V.int))
structure xj (E:En) (c1:Int) (r1 r2 r3:List Rw):Prop where
 O:WOk E
 Z:Hds E (eT c1)
 ds:E.ds=[⟨13,[14],r1⟩,⟨15,[16,17],r2⟩]
 ls:E.ls=[5,9]
 s9:E.sz 9=z9 c1
 s0:∀i ∈ [2,3,4,6,7,8,14,16,17],E.sz i=0
 s5:E.sz 5=z5 c1
 ix:9 ∈ E.idx/\6 ∈ E.idx/\7 ∈ E.idx/\8 ∈ E.idx
 w:∀rw ∈ r3,Wf E 15 rw
 m:(r3.map (aE E 15)).sum <= BIG
def Bv (K:W.Frag):Sp:=fun vs H Q _=>∃(E:En) (t ln lb B1 B2 B3 a:Addr) (n:Int) (ns:List Int) (k:Nat) (r1 r2 r3:List Rw),vs=[.ref t,.ref a,.int k]/\k <= 1/\SqL K H a (ns.map V.int)/\H t=some (.tup [.ref ln,.ref lb,.int n])/\H ln=some (.lst (nmL E.N))/\H lb=some (.lst [.ref B1,.ref B2,.ref B3]) /\
 (∃xs,H B1=some (.lst xs)/\Paired (aZ E.N H 4) xs r1)/\(∃xs,H B2=some (.lst xs)/\Paired (aZ E.N H 4) xs r2)/\(∃xs,H B3=some (.lst xs)/\Paired (aZ E.N H 4) xs r3)/\xj E (cellAt ns 1) r1 r2 r3 /\
 ∀(r:Ra) (en:Addr) (H':Hp),aj H H'->tw E H' r en (wg E (cellAt ns 1) (cellAt ns 2) k r3)->Q (.ref r.b) H'
def vD (E:En) (c1 c2:Int) (k:Nat) (l:Addr) (i:Nat):V:=if i=5 then .ref l else .int ((S0 E c1 c2 k).num i)
theorem dk2 {N:Nat->Str} (D:ja N) (a b:V):cc [] [((.inr (N 13):Key),a),(.inr (N 15),b)]=dk N [13,15] (fun i=>if i=13 then a else b):=by
 show putK (putK (dk N [] fun i=>if i=13 then a else b) (.inr (N 13)) a) (.inr (N 15)) b=_
 rw [fg D (by decide) (by decide) (by decide),fg D (by decide) (by decide) (by decide)]
 refine du fun j hj=>?_
 have:j=13 \/ j=15:=by simpa using hj
 rcases this with rfl | rfl <;> rfl
theorem Ef:WOk ⟨nmV 0,[],fun _=>0,[],[]⟩:=⟨nO 0,(fun i h=>by cases h),(fun i D h=>by cases h),(by decide),(fun d h=>by cases h),fun x=>Nat.zero_le _⟩
theorem Dj (T:Txt K mg A):Has P w K mg base 35 "_law_due" ["_law_drawn_here","_law_script","_law_turn"] (Bv K):=by
 have D_law_cell_at:=qW (P:=P) (w:=w) (base:=base) T
 have D_law_gifts:=vB (P:=P) (w:=w) (base:=base) T
 have D_law_do_all:=Has.ex (P:=P) (w:=w) (base:=base) (sp:=fun E:En=>rM E 15) (p:=fun E=>WOk E) ⟨nmV 0,[],fun _=>0,[],[]⟩ Ef fun E h=>rn T h 16
 refine T.u5.has (k:=34) eS (fun vs H Q E h=>?_) (fun f cdv A' outer s H vs Q E' hr hu h=>?_)
 ·obtain ⟨E,t,ln,lb,B1,B2,B3,a,n,ns,k,r1,r2,r3,rfl,_⟩:=h
  rfl
 ·obtain ⟨E,t,ln,lb,B1,B2,B3,a,n,ns,k,r1,r2,r3,rfl,k1,hA,ht,hn,hlb,⟨x1,b1,p1⟩,⟨x2,b2,p2⟩,⟨x3,b3,p3⟩,O,q⟩:=h
  have D:=O.O.D
  refine ⟨_,(ab (bo (fv 0) (pv rfl (di (pgn (i:=3) eS.nd rfl) (di (pgn (i:=4) eS.nd rfl) (di (pgn (i:=5) eS.nd rfl) lU)))))
  (ab (aC (i:=6) eS.nd rfl (Or.inr rfl) (ar D_law_gifts hr (aa (fv 3) (aa (fv 1) (aa (fv 2) af)))))
  (ab (dX PassesOwn.never rfl (fu (bE (aa ae (aa ae (aa ae (aa ae (aa ae (aa ae af)))))))) (pgn (i:=7) eS.nd rfl)
   (ag (bo ae (bA (fv 6) (px hu (fv 3) (fv 7)) (bB hu set_list)))))
  (ab (bo (aw fe (bE (aa ae af)) (aw bL ae (aw bF (aw bT (ar D_law_cell_at hr (aa (fv 1) (aa ae af))) ae) ae))) (bA (fv 6) (px hu (fv 3) ae) (bB hu set_list)))
  (ab (aC (i:=8) eS.nd rfl (Or.inl rfl) (qT (dj ai (fv 6) (dj ai ae (dj ai (bE af) (dj ai (bE af) (dj ai (bE af) (qR)))))) rfl rfl (by intro z;cases z) (by decide)))
  (ab (bo (qT (dj (px hu (fv 3) ae) (cx (aa (px hu (fv 4) ae) (aa (bE (aa (px hu (fv 3) ae) af)) af))) (dj (px hu (fv 3) ae) (cx (aa (px hu (fv 4) ae) (aa (bE (aa (px hu (fv 3) ae) (aa (px hu (fv 3) ae) af))) af))) (qR))) rfl rfl (by intro z;cases z) (by decide)) (bA (fv 8) ai (bB hu set_list)))
  (ab (aP (ar D_law_do_all hr (aa (fv 8) (aa (px hu (fv 4) ae) af))))
  (ab (bo (kI (N:=["_law_k","_law_cells","_law_names"]) (own:=1) (fr:=[6,3]) (df.of (by kernel_rfl!)) rfl (gi rfl T.cZ (aa ae (aa ae af))) (fun b=>pgn (i:=0) (show List.Nodup (["_law_k","_law_cells","_law_names"]:List PySem.Str) by decide +kernel) rfl) (fun b=>jU) (fun b=>px hu (fv 1) (px hu (fv 2) (fv 0)))) (bA (fv 8) ai (bB hu set_list)))
  (ag (aA (fv 8))))))))))),?_⟩
  refine ⟨t,_,rfl,SqT.of ht,rfl,_,_,rfl,_,_,rfl,_,_,rfl,rfl,?_⟩
  try dsimp only
  refine ax fun M1 K1=>?_
  refine ⟨E,ln,a,ns,k,rfl,k1,hn,hA,D,fun g l H1 s1 g0 l0 lg eg el=>K1 _ _ ?_⟩
  obtain ⟨c1,hc1⟩:∃c,c=cellAt ns 1:=⟨_,rfl⟩
  obtain ⟨c2,hc2⟩:∃c,c=cellAt ns 2:=⟨_,rfl⟩
  rw [<- hc1] at el q O
  rw [<- hc2] at eg el q
  have okS:(S0 E c1 c2 k).ok E:=xt O.Z (yn (c1:=c1) D eg el)
  have eg:H1 g=some (.dK (dk E.N ([2,3,4,5] ++ [6,7,8,14,16,17].take 0) (vD E c1 c2 k l))):=by
   rw [eg]
   refine congrArg some (congrArg HO.dK (du fun j hj=>?_))
   have:j=2 \/ j=3 \/ j=4 \/ j=5:=by simpa using hj
   rcases this with rfl | rfl | rfl | rfl <;> rfl
  try dsimp only
  refine ax fun M2 K2=>?_
  refine ⟨by show 6 <= sizeLine;decide,fun li hli=>?_⟩
  obtain ⟨s2,e2⟩:=alc hli (HO.lst [V.int 6,.int 7,.int 8,.int 14,.int 16,.int 17])
  generalize upd H1 li _=H2 at s2 e2 ⊢
  have lig:li ≠ g:=fresh_ne hli eg
  refine Or.inl ⟨⟨_,SqL.of e2⟩,?_⟩
  have t2:=s1.trans s2
  refine fL (K:=K) (xs:=[V.int 6,.int 7,.int 8,.int 14,.int 16,.int 17]) (fun i σ Hc=>aj H Hc/\Hc l=some (.lst ((glV c2 k (z5 c1)).map V.int))/\Hc li=some (.lst [V.int 6,.int 7,.int 8,.int 14,.int 16,.int 17])/\Hc g=some (.dK (dk E.N ([2,3,4,5] ++ [6,7,8,14,16,17].take i) (vD E c1 c2 k l)))/\∃v7,σ=[some (.ref t),some (.ref a),some (.int k),some (.ref ln),some (.ref lb),some (.int n),some (.ref g),v7,none]) ⟨t2,s2 _ _ el,e2,s2 _ _ eg,none,rfl⟩ (fun i σ Hc _ h=>SqL.of h.2.2.1) ?_ ?_
  ·rintro i v σ Hc hv ⟨sc,lc,ic,gc,v7,rfl⟩
   obtain ⟨j,hj⟩:∃j,([6,7,8,14,16,17]:List Nat)[i]?=some j/\v=.int (j:Int):=by
    have hi:i < 6:=(List.getElem?_eq_some_iff.mp hv).1
    have:i=0 \/ i=1 \/ i=2 \/ i=3 \/ i=4 \/ i=5:=by omega
    rcases this with rfl | rfl | rfl | rfl | rfl | rfl <;> (cases hv;exact ⟨_,rfl,rfl⟩)
   obtain ⟨hj,rfl⟩:=hj
   have jm:=List.mem_of_getElem? hj
   have j18:j < 18:=(by decide:∀j ∈ ([6,7,8,14,16,17]:List Nat),j < 18) j jm
   have tk:([6,7,8,14,16,17]:List Nat).take (i + 1)=([6,7,8,14,16,17]:List Nat).take i ++ [j]:=take_snoc hj
   have inn:∀x ∈ ([2,3,4,5] ++ ([6,7,8,14,16,17]:List Nat).take i),x < 18:=fun x hx=>by
    rcases List.mem_append.mp hx with hx | hx
    ·exact (by decide:∀j ∈ ([2,3,4,5]:List Nat),j < 18) x hx
    ·exact (by decide:∀j ∈ ([6,7,8,14,16,17]:List Nat),j < 18) x (List.mem_of_mem_take hx)
   have nin:j ∉ ([2,3,4,5] ++ ([6,7,8,14,16,17]:List Nat).take i):=fun hx=>by
    have nd:([2,3,4,5] ++ ([6,7,8,14,16,17]:List Nat).take (i + 1)).Nodup:=by
     have:([2,3,4,5] ++ ([6,7,8,14,16,17]:List Nat)).Nodup:=by decide
     exact List.Nodup.sublist (List.Sublist.append (List.Sublist.refl _) (List.take_sublist _ _)) this
    rw [tk,<- List.append_assoc] at nd
    exact (List.nodup_append.mp nd).2.2 j hx j (List.mem_singleton.mpr rfl) rfl
   refine Or.inl ⟨_,_,Or.inl (SqL.of (sc _ _ hn)),cA E.N j18,_,cF.k (k:=.inr (E.N j)) gc (aM (by rw [eB,List.length_append,List.length_take];show 4 + min i 6 <= 1000;omega)),?_⟩
   have lgc:li ≠ g:=lig
   refine ⟨aj.out sc g0 _,ah lg lc,ah lgc ic,?_,_,rfl⟩
   rw [aq,fg D j18 inn nin,tk,<- List.append_assoc]
   refine congrArg some (congrArg HO.dK (du fun y hy=>?_))
   by_cases e:y=j
   ·rw [e,dA]
    have:j=6 \/ j=7 \/ j=8 \/ j=14 \/ j=16 \/ j=17:=by simpa using jm
    rcases this with rfl | rfl | rfl | rfl | rfl | rfl <;> rfl
   ·rw [fE _ _ e]
  rintro σ H3 ⟨s3,el3,_,eg3,v7,rfl⟩
  refine K2 _ _ ?_
  clear eg el e2 s2 hli lig
  try dsimp only
  refine ax fun M3 K3=>?_
  refine ⟨by show 1 <= sizeLine;decide,fun lz hlz=>?_⟩
  obtain ⟨s4,e4⟩:=alc hlz (HO.lst [V.int 0])
  generalize upd H3 lz _=H4 at s4 e4 ⊢
  have z9b:=Di c1
  have mz:=bK (c1 / 220) (show (0:Int) < 20 by decide)
  have t4:=s3.trans s4
  refine ⟨a,ns,1,rfl,t4.seq hA,by decide,⟨by decide,by decide⟩,(by show (0:Int) < 20;decide),_,e4,by omega,by omega,?_,fun l9 h9=>?_⟩
  ·rw [<- hc1]
   show 1 * (1 + c1 / 220 % 20).toNat <= sizeLine
   have:=sz (n:=1 * (1 + c1 / 220 % 20).toNat) (by omega)
   exact this
  rw [<- hc1]
  have ez:(List.replicate (1 + c1 / 220 % 20).toNat [V.int 0]).flatten=(zeros (z9 c1)).map V.int:=oO _
  rw [ez]
  obtain ⟨s5,e5⟩:=alc h9 (HO.lst ((zeros (z9 c1)).map V.int))
  generalize upd H4 l9 _=H5 at s5 e5 ⊢
  have t5:=t4.trans s5
  have eg5:=(s4.trans s5) _ _ eg3
  have el5:=(s4.trans s5) _ _ el3
  have l9g:l9 ≠ g:=fresh_ne h9 (s4 _ _ eg3)
  have l9l:l9 ≠ l:=fresh_ne h9 (s4 _ _ el3)
  have l90:H l9=none:=aj.free t4 h9
  refine Or.inl ⟨_,_,Or.inl (SqL.of (t5 _ _ hn)),cA E.N (i:=9) (by decide),_,cF.k (k:=.inr (E.N 9)) eg5 (aM (by rw [eB];decide)),K3 _ _ ?_⟩
  have la:∃la:Nat->Addr,la=fun i=>if i=5 then l else l9:=⟨_,rfl⟩
  obtain ⟨la,hla⟩:=la
  have eg6:(upd H5 g (.dK (putK (dk E.N ([2,3,4,5] ++ [6,7,8,14,16,17].take 6) (vD E c1 c2 k l)) (.inr (E.N 9)) (.ref l9)))) g=some (.dK (dk E.N cIx (cV E la (S0 E c1 c2 k).num))):=by
   rw [aq,fg D (by decide) (by decide) (by decide)]
   refine congrArg some (congrArg HO.dK (du fun j hj=>?_))
   unfold cV
   by_cases e9:j=9
   ·rw [e9,dA,O.s9,if_neg (by unfold z9;omega),hla]
    rfl
   ·rw [fE _ _ e9]
    by_cases e5':j=5
    ·rw [e5',O.s5,if_neg (by unfold z5;omega),hla]
     rfl
    ·have:j ∈ [2,3,4,6,7,8,14,16,17]:=by
      revert hj e9 e5'
      have:∀j ∈ ([2,3,4,5] ++ [6,7,8,14,16,17].take 6 ++ [9]:List Nat),j ≠ 9->j ≠ 5->j ∈ [2,3,4,6,7,8,14,16,17]:=by decide
      exact this j
     rw [O.s0 j this,if_pos rfl]
     unfold vD
     rw [if_neg e5']
  have t6:aj H (upd H5 g (.dK (putK (dk E.N ([2,3,4,5] ++ [6,7,8,14,16,17].take 6) (vD E c1 c2 k l)) (.inr (E.N 9)) (.ref l9)))):=aj.out t5 g0 _
  have el6:(upd H5 g (.dK (putK (dk E.N ([2,3,4,5] ++ [6,7,8,14,16,17].take 6) (vD E c1 c2 k l)) (.inr (E.N 9)) (.ref l9)))) l=_:=ah lg el5
  have e96:(upd H5 g (.dK (putK (dk E.N ([2,3,4,5] ++ [6,7,8,14,16,17].take 6) (vD E c1 c2 k l)) (.inr (E.N 9)) (.ref l9)))) l9=_:=ah l9g e5
  generalize upd H5 g _=H6 at eg6 t6 el6 e96 ⊢
  clear eg5 el5 e5 s5 eg3 el3 s3 s4 e4 h9 hlz t5 t4 ez z9b mz
  try dsimp only
  refine ax fun M4 K4=>?_
  refine fun W hW=>?_
  obtain ⟨s7,e7⟩:=alc hW (HO.dK [])
  generalize upd H6 W _=H7 at s7 e7 ⊢
  refine ⟨Nat.zero_le _,fun ll hll=>?_⟩
  obtain ⟨s8,e8⟩:=alc hll (HO.lst [])
  generalize upd H7 ll _=H8 at s8 e8 ⊢
  refine ⟨Nat.zero_le _,fun ld hld=>?_⟩
  obtain ⟨s9,e9⟩:=alc hld (HO.lst [])
  generalize upd H8 ld _=H9 at s9 e9 ⊢
  refine ⟨Nat.zero_le _,fun lt hlt=>?_⟩
  obtain ⟨s10,e10⟩:=alc hlt (HO.lst [])
  generalize upd H9 lt _=H10 at s10 e10 ⊢
  refine ⟨(s8.trans (s9.trans s10)) _ _ e7,[((.inr "cells":Key),.ref g),(.inr "steps",.int 0),(.inr "letters",.ref ll),(.inr "said",.ref ld),(.inr "trace",.ref lt)],rfl,(show 5 <= 15 by decide),K4 _ _ ?_⟩
  rw [show cc [] [((.inr "cells":Key),V.ref g),(.inr "steps",.int 0),(.inr "letters",.ref ll),(.inr "said",.ref ld),(.inr "trace",.ref lt)]=[((.inr "cells":Key),V.ref g),(.inr "steps",.int 0),(.inr "letters",.ref ll),(.inr "said",.ref ld),(.inr "trace",.ref lt)] from rfl]
  obtain ⟨w5,hw5⟩:∃w5:List (Key × V),w5=[((.inr "cells":Key),V.ref g),(.inr "steps",.int 0),(.inr "letters",.ref ll),(.inr "said",.ref ld),(.inr "trace",.ref lt)]:=⟨_,rfl⟩
  rw [<- hw5]
  have t710:=s7.trans (s8.trans (s9.trans s10))
  have W0:H W=none:=aj.free t6 hW
  have Wg:W ≠ g:=fresh_ne hW eg6
  have Wl:W ≠ l:=fresh_ne hW el6
  have W9:W ≠ l9:=fresh_ne hW e96
  have ll0:H ll=none:=aj.free (t6.trans s7) hll
  have ld0:H ld=none:=aj.free (t6.trans (s7.trans s8)) hld
  have lt0:H lt=none:=aj.free (t6.trans (s7.trans (s8.trans s9))) hlt
  have k7:=e7
  have llW:ll ≠ W:=fresh_ne hll e7
  have llg:ll ≠ g:=fresh_ne hll (s7 _ _ eg6)
  have lll:ll ≠ l:=fresh_ne hll (s7 _ _ el6)
  have ll9:ll ≠ l9:=fresh_ne hll (s7 _ _ e96)
  have s78:=s7.trans s8
  have ldW:ld ≠ W:=fresh_ne hld (s8 _ _ e7)
  have ldg:ld ≠ g:=fresh_ne hld (s78 _ _ eg6)
  have ldl:ld ≠ l:=fresh_ne hld (s78 _ _ el6)
  have ld9:ld ≠ l9:=fresh_ne hld (s78 _ _ e96)
  have ldll:ld ≠ ll:=fresh_ne hld e8
  have s79:=s78.trans s9
  have ltW:lt ≠ W:=fresh_ne hlt ((s8.trans s9) _ _ e7)
  have ltg:lt ≠ g:=fresh_ne hlt (s79 _ _ eg6)
  have ltl:lt ≠ l:=fresh_ne hlt (s79 _ _ el6)
  have lt9:lt ≠ l9:=fresh_ne hlt (s79 _ _ e96)
  have ltll:lt ≠ ll:=fresh_ne hlt (s9 _ _ e8)
  have ltld:lt ≠ ld:=fresh_ne hlt e9
  have t11:aj H (upd H10 W (.dK w5)):=aj.out (t6.trans t710) W0 _
  have eW11:(upd H10 W (.dK w5)) W=some (.dK w5):=aq
  have eg11:=ah (u:=.dK w5) Wg.symm (t710 _ _ eg6)
  have el11:=ah (u:=.dK w5) Wl.symm (t710 _ _ el6)
  have e911:=ah (u:=.dK w5) W9.symm (t710 _ _ e96)
  have ell11:=ah (u:=.dK w5) llW ((s9.trans s10) _ _ e8)
  have eld11:=ah (u:=.dK w5) ldW (s10 _ _ e9)
  have elt11:=ah (u:=.dK w5) ltW e10
  generalize upd H10 W _=H11 at t11 eW11 eg11 el11 e911 ell11 eld11 elt11 ⊢
  clear eg6 el6 e96 e7 e8 e9 e10 k7 s7 s8 s9 s10 s78 s79 t710 hll hld hlt hW t6
  try dsimp only
  refine ax fun M5 K5=>?_
  refine fun dd hdd=>?_
  obtain ⟨s12,e12⟩:=alc hdd (HO.dK [])
  generalize upd H11 dd _=H12 at s12 e12 ⊢
  have n12:=SqL.of (K:=K) ((t11.trans s12) _ _ hn)
  have b12:=SqL.of (K:=K) ((t11.trans s12) _ _ hlb)
  refine Or.inl ⟨_,_,Or.inl n12,cA E.N (i:=13) (by decide),Or.inl ⟨_,_,Or.inl b12,rfl,Or.inl ⟨_,_,Or.inl n12,cA E.N (i:=14) (by decide),by show 1 <= sizeLine;decide,fun P1 hP1=>?_⟩⟩⟩
  obtain ⟨s13,e13⟩:=alc hP1 (HO.lst [V.str (E.N 14)])
  generalize upd H12 P1 _=H13 at s13 e13 ⊢
  refine ⟨by show 2 <= sizeLine;decide,fun q1 hq1=>?_⟩
  obtain ⟨s14,e14⟩:=alc hq1 (HO.tup [V.ref B1,.ref P1])
  generalize upd H13 q1 _=H14 at s14 e14 ⊢
  have n14:=SqL.of (K:=K) ((t11.trans (s12.trans (s13.trans s14))) _ _ hn)
  have b14:=SqL.of (K:=K) ((t11.trans (s12.trans (s13.trans s14))) _ _ hlb)
  refine Or.inl ⟨_,_,Or.inl n14,cA E.N (i:=15) (by decide),Or.inl ⟨_,_,Or.inl b14,rfl,Or.inl ⟨_,_,Or.inl n14,cA E.N (i:=16) (by decide),Or.inl ⟨_,_,Or.inl n14,cA E.N (i:=17) (by decide),by show 2 <= sizeLine;decide,fun P2 hP2=>?_⟩⟩⟩⟩
  obtain ⟨s15,e15⟩:=alc hP2 (HO.lst [V.str (E.N 16),.str (E.N 17)])
  generalize upd H14 P2 _=H15 at s15 e15 ⊢
  refine ⟨by show 2 <= sizeLine;decide,fun q2 hq2=>?_⟩
  obtain ⟨s16,e16⟩:=alc hq2 (HO.tup [V.ref B2,.ref P2])
  generalize upd H15 q2 _=H16 at s16 e16 ⊢
  have t1316:=s13.trans (s14.trans (s15.trans s16))
  refine ⟨t1316 _ _ e12,[((.inr (E.N 13):Key),.ref q1),(.inr (E.N 15),.ref q2)],rfl,(show 2 <= 15 by decide),?_⟩
  rw [dk2 D]
  obtain ⟨dv,hdv⟩:∃dv:Nat->V,dv=fun i=>if i=13 then V.ref q1 else .ref q2:=⟨_,rfl⟩
  rw [<- hdv]
  obtain ⟨r,hr'⟩:∃r:Ra,r=⟨0,0,dd,g,W,0,ld,0,lt,ll,la⟩:=⟨_,rfl⟩
  have hM:r.M E=[W,g,lt,ll,ld,l,l9]:=by
   rw [hr']
   unfold Ra.M
   rw [O.ls,hla]
   rfl
  have frM:∀x,H11 x=none->x ∉ [W,g,lt,ll,ld,l,l9]:=fun x hx m=>by
   simp only [List.mem_cons,List.not_mem_nil,or_false] at m
   rcases m with rfl | rfl | rfl | rfl | rfl | rfl | rfl
   ·rw [eW11] at hx;cases hx
   ·rw [eg11] at hx;cases hx
   ·rw [elt11] at hx;cases hx
   ·rw [ell11] at hx;cases hx
   ·rw [eld11] at hx;cases hx
   ·rw [el11] at hx;cases hx
   ·rw [e911] at hx;cases hx
  have odM:∀x o,H x=some o->x ∉ [W,g,lt,ll,ld,l,l9]:=fun x o hx m=>by
   simp only [List.mem_cons,List.not_mem_nil,or_false] at m
   rcases m with rfl | rfl | rfl | rfl | rfl | rfl | rfl
   ·rw [W0] at hx;cases hx
   ·rw [g0] at hx;cases hx
   ·rw [lt0] at hx;cases hx
   ·rw [ll0] at hx;cases hx
   ·rw [ld0] at hx;cases hx
   ·rw [l0] at hx;cases hx
   ·rw [l90] at hx;cases hx
  have s1216:=s12.trans t1316
  have dP1:P1 ≠ dd:=fresh_ne hP1 e12
  have dq1:q1 ≠ dd:=fresh_ne hq1 (s13 _ _ e12)
  have dP2:P2 ≠ dd:=fresh_ne hP2 ((s13.trans s14) _ _ e12)
  have dq2:q2 ≠ dd:=fresh_ne hq2 ((s13.trans (s14.trans s15)) _ _ e12)
  have kp:∀{x:Addr}{o:HO},x ≠ dd->H16 x=some o->(upd H16 dd (.dK (dk E.N [13,15] dv))) x=some o:=fun h e=>ah h e
  have ndd:∀{x:Addr}{o:HO},H11 x=some o->x ≠ dd:=fun e z=>by rw [z,hdd] at e;cases e
  have c17:∀{x:Addr}{o:HO},H11 x=some o->(upd H16 dd (.dK (dk E.N [13,15] dv))) x=some o:=fun e=>kp (ndd e) (s1216 _ _ e)
  have edd:(upd H16 dd (.dK (dk E.N [13,15] dv))) dd=some (.dK (dk E.N [13,15] dv)):=aq
  have eP1:=kp dP1 ((s14.trans (s15.trans s16)) _ _ e13)
  have eq1:=kp dq1 ((s15.trans s16) _ _ e14)
  have eP2:=kp dP2 (s16 _ _ e15)
  have eq2:=kp dq2 e16
  generalize upd H16 dd _=H17 at c17 edd eP1 eq1 eP2 eq2 ⊢
  refine ⟨_,cF.k (k:=.inr "deeds") (c17 eW11) (by rw [hw5];show 5 < sizeLine;decide),K5 _ _ ?_⟩
  rw [show putK w5 (.inr "deeds") (.ref dd)=wK r 0 by rw [hw5,hr'];rfl]
  have mW:W ∈ r.M E:=by rw [hM];exact List.mem_cons_self
  have fP1:P1 ∉ r.M E:=by rw [hM];exact frM _ (aj.free s12 hP1)
  have fq1:q1 ∉ r.M E:=by rw [hM];exact frM _ (aj.free (s12.trans s13) hq1)
  have fP2:P2 ∉ r.M E:=by rw [hM];exact frM _ (aj.free (s12.trans (s13.trans s14)) hP2)
  have fq2:q2 ∉ r.M E:=by rw [hM];exact frM _ (aj.free (s12.trans (s13.trans (s14.trans s15))) hq2)
  have fdd:dd ∉ r.M E:=by rw [hM];exact frM _ hdd
  have kw:∀{x:Addr}{o:HO},x ≠ W->H17 x=some o->(upd H17 W (.dK (wK r 0))) x=some o:=fun h e=>ah h e
  have nW:∀{x:Addr},x ∉ r.M E->x ≠ W:=fun h z=>h (by rw [z];exact mW)
  have X1:∀{x:Addr}{o:HO},x ∉ r.M E->H17 x=some o->del (r.M E) (upd H17 W (.dK (wK r 0))) x=some o:=fun h e=>aV h (kw (nW h) e)
  have zX:aj H (del (r.M E) (upd H17 W (.dK (wK r 0)))):=fun x o h=>X1 (by rw [hM];exact odM x o h) (c17 (t11 _ _ h))
  have R0:WAt E (upd H17 W (.dK (wK r 0))) r (S0 E c1 c2 k):=by
   refine ⟨?_,?_,?_,⟨[],?_,.nil⟩,⟨[],?_,.nil⟩,⟨[],?_,.nil⟩,?_,okS⟩
   ·rw [hM]
    simp [Wg,Wl,W9,llW.symm,ldW.symm,ltW.symm,ltg.symm,llg.symm,ldg.symm,lg.symm,l9g.symm,ltll,ltld,ltl,lt9,ldll.symm,lll,ll9,ldl,ld9,l9l.symm]
   ·rw [hr']
    exact aq
   ·have:=kw Wg.symm (c17 eg11)
    rw [hr'] at this ⊢
    exact this
   ·rw [hr'] at kw ⊢
    exact kw ltW (c17 elt11)
   ·rw [hr'] at kw ⊢
    exact kw llW (c17 ell11)
   ·rw [hr'] at kw ⊢
    exact kw ldW (c17 eld11)
   ·rw [O.ls]
    intro i hi
    have:i=5 \/ i=9:=by simpa using hi
    rw [hr'] at kw ⊢
    rcases this with rfl | rfl
    ·rw [hla]
     exact kw Wl.symm (c17 el11)
    ·rw [hla]
     have:(S0 E c1 c2 k).lst 9=zeros (z9 c1):=by rw [<- O.s9];rfl
     rw [this]
     exact kw W9.symm (c17 e911)
  have L0:LDd E (del (r.M E) (upd H17 W (.dK (wK r 0)))) r.d:=by
   have ed:r.d=dd:=by rw [hr']
   rw [ed]
   refine ⟨dv,X1 fdd edd,fun i D' hD=>?_⟩
   rw [O.ds] at hD
   match i,hD with
   | 0,hD =>
    cases hD
    exact ⟨q1,B1,P1,x1,by rw [hdv];rfl,X1 fq1 eq1,X1 fP1 eP1,zX _ _ b1,Paired.cm p1 fun _ _=>aZ.same zX⟩
   | 1,hD =>
    cases hD
    exact ⟨q2,B2,P2,x2,by rw [hdv];rfl,X1 fq2 eq2,X1 fP2 eP2,zX _ _ b2,Paired.cm p2 fun _ _=>aZ.same zX⟩
   | i + 2,hD=>cases hD
  have t18:aj H (upd H17 W (.dK (wK r 0))):=zX.trans ao
  generalize upd H17 W _=H18 at R0 L0 t18 zX ⊢
  clear c17 edd eP1 eq1 eP2 eq2 kw X1 frM odM fP1 fq1 fP2 fq2 fdd nW kp ndd s1216 t1316 s12 s13 s14 s15 s16 e12 e13 e14 e15 e16 eW11 eg11 el11 e911 ell11 eld11 elt11 t11 n12 b12 n14 b14
  try dsimp only
  refine ax fun M6 K6=>?_
  have eb:r.b=W:=by rw [hr']
  have ec:r.c=g:=by rw [hr']
  have ela:r.la=la:=by rw [hr']
  rw [<- eb]
  refine Or.inl ⟨_,_,Or.inl (SqL.of (t18 _ _ hlb)),rfl,E,O.O,r,_,B3,x3,r3,4,rfl,R0,L0,zX _ _ b3,Paired.cm p3 (fun _ _=>aZ.same zX),O.w,⟨by have:=O.m;show 0 + _ <= _;omega,by show (0:Int) <= 0;decide,by show (0:Int) <= 0;decide,by show (0:Int) <= 0;decide⟩,fun H19 g19 R19=>K6 _ _ ?_⟩
  have t19:aj H H19:=fun x o h=>ao _ _ (g19.same x o (zX x o h))
  have R19:WAt E H19 r (wg E c1 c2 k r3):=R19
  generalize wg E c1 c2 k r3=kE at R19 q
  clear R0 L0 zX t18 g19
  try dsimp only
  have n19:=SqL.of (K:=K) (t19 _ _ hn)
  refine ax fun M7 K7=>?_
  refine ⟨6,10,rfl,⟨by decide,by decide,by decide,by decide⟩,jS (J:=Itr 6 4) (n:=4) (x:=fun j=>.int (6 + j)) (fun j y _=>y=cV E r.la kE.num (6 + j)) (aM (by decide)) (fun _ _=>Nat.le_refl _) (fun _ _ h _=>h) (fun _ _ _ _ _ _ y=>y) (fun b' j H2 G hj s2 kk=>?_) (fun _ _ _ _ _ h=>h) (fun _ _ _ _ _ _ _ h=>h) (fun en H20 ys en0 s20 een ly hy=>?_)⟩
  ·have e6:(6 + (j:Int))=((6 + j:Nat):Int):=by omega
   have im:6 + j ∈ E.idx:=by
    have:j=0 \/ j=1 \/ j=2 \/ j=3:=by omega
    obtain ⟨i9,i6,i7,i8⟩:=O.ix
    rcases this with rfl | rfl | rfl | rfl
    ·exact i6
    ·exact i7
    ·exact i8
    ·exact i9
   have gg:=(R19.same s2).get O.O im
   rw [ec] at gg
   exact Or.inl ⟨_,.str (E.N (6 + j)),Or.inl (s2.seq n19),(by rw [e6];exact cA E.N (by omega)),_,gg,kk _ _ (aj.refl _) rfl⟩
  have ly4:ys.length=4:=ly
  have ey:ys=[.int (kE.num 6),.int (kE.num 7),.int (kE.num 8),.ref (r.la 9)]:=by
   have h:∀j < 4,ys[j]?=some (cV E r.la kE.num (6 + j)):=fun j hj=>by
    rw [List.getElem?_eq_getElem (by omega),hy j _ (List.getElem?_eq_getElem (by omega))]
   have c6:∀i ∈ [6,7,8],cV E r.la kE.num i=.int (kE.num i):=fun i hi=>by
    unfold cV
    rw [if_pos (O.s0 i (by revert hi;revert i;decide))]
   have c9:cV E r.la kE.num 9=.ref (r.la 9):=by
    unfold cV
    rw [if_neg (by rw [O.s9];unfold z9;omega)]
   match ys,ly4,h with
   | [y0,y1,y2,y3],_,h =>
    have h0:=h 0 (by decide)
    have h1:=h 1 (by decide)
    have h2:=h 2 (by decide)
    have h3:=h 3 (by decide)
    rw [c6 6 (by decide)] at h0
    rw [c6 7 (by decide)] at h1
    rw [c6 8 (by decide)] at h2
    rw [c9] at h3
    cases h0
    cases h1
    cases h2
    cases h3
    rfl
  rw [ey] at een
  have R20:=R19.same s20
  refine ⟨_,cF.k (k:=.inr "ends") R20.hb (show 6 < sizeLine by decide),K7 _ _ ?_⟩
  rw [show putK (wK r kE.steps) (.inr "ends") (.ref en)=wK r kE.steps ++ [(.inr "ends",.ref en)] from rfl]
  have ne:=R20.ne
  have st:aj (del (r.M E) H20) (upd H20 r.b (.dK (wK r kE.steps ++ [(.inr "ends",.ref en)]))):=fun x o e=>by
   obtain ⟨e1,e2⟩:=eO e
   exact ah (fun z=>e1 (by rw [z];exact (r.inM E).1)) e2
  obtain ⟨ts,a1,a2⟩:=R20.ht
  obtain ⟨ls,c1',c2'⟩:=R20.hl
  obtain ⟨ds,d1,d2⟩:=R20.hd
  have i9:9 ∈ E.ls:=by rw [O.ls];decide
  have enb:en ≠ r.b:=fresh_ne en0 R19.hb
  have b0:H r.b=none:=by rw [eb];exact W0
  exact q r en _ (aj.out (t19.trans s20) b0 _) ⟨aq,ah enb een,⟨ts,ah ne.bt.symm a1,a2.same st⟩,⟨ls,ah ne.bl.symm c1',c2'.same st⟩,⟨ds,ah ne.bd.symm d1,d2.same st⟩,ah (ne.a 9 i9).1 (R20.ha 9 i9)⟩
end
section
variable {P:Program}{w:World}{K:W.Frag}{mg:Str->Option Value}{base:Heap}{A:Adr}{E:En}
seal PE PA PS PSs PT PW
def flW (w:List V):Prop:=w.length <= 4/\∀v ∈ w,flat v
structure S.fl (k:S):Prop where
 t:∀w ∈ k.trace,flW w
 l:∀w ∈ k.dI,flW w
 d:∀w ∈ k.mf,flW w
theorem tP {xs:List (List V)}{w:List V} (h:∀w ∈ xs,flW w) (hw:flW w):∀u ∈ xs ++ [w],flW u:=fun u hu=>by
 rcases List.mem_append.mp hu with m | m
 ·exact h u m
 ·rw [List.mem_singleton.mp m];exact hw
theorem qP {k:S} (h:k.fl) (n:Int) {v:V} (hv:flat v):(k.tell n v).fl:=⟨tP h.t ⟨(show 3 <= 4 by decide),fun u hu=>by
 simp only [List.mem_cons,List.not_mem_nil,or_false] at hu
 rcases hu with rfl | rfl | rfl
 ·trivial
 ·trivial
 ·exact hv⟩,h.l,h.d⟩
theorem vh (N:Nat->Str) {k:S} (h:k.fl) (r:Rw):(leaf N k r).1.fl:=by
 have four:∀(a b:Int) (x:Str) (c:Int),flW [.int a,.int b,.str x,.int c]:=fun a b x c=>⟨(show 4 <= 4 by decide),fun u hu=>by
  simp only [List.mem_cons,List.not_mem_nil,or_false] at hu
  rcases hu with rfl | rfl | rfl | rfl <;> trivial⟩
 have tl:=fun n=>qP h n (v:=.non) trivial
 have ti:=fun n i=>qP h n (v:=.int i) trivial
 cases r with
 | set n x v=>exact ⟨(tl n).t,(tl n).l,(tl n).d⟩
 | put n x p v=>exact ⟨(tl n).t,(tl n).l,(tl n).d⟩
 | snd n x v=>exact ⟨(ti n _).t,tP h.l (four _ _ _ _),h.d⟩
 | say n x v m=>exact ⟨(ti n _).t,h.l,tP h.d (four _ _ _ _)⟩
 | last n=>exact tl n
 | call n i ts=>exact tl n
 | iff n v f o l r=>exact tl n
 | loop n t m b l r=>exact tl n
theorem rC {f:S->Rw->S × Bool} (one:∀(s:S) (r:Rw),s.fl->(f s r).1.fl):∀(xs:List Rw) (p:S × Bool),p.1.fl->(xs.foldl (step f) p).1.fl
 | [],_,h=>h
 | r :: xs,p,h=>rC one xs _ (one p.1 r h)
theorem qw {body:S->S × Bool}{l:Int} (one:∀s:S,s.fl->(body s).1.fl):∀(n j:Nat) (s:S),s.fl->(rounds body l n j s).1.fl
 | 0,_,_,h=>h
 | n + 1,j,s,h=>by
  have h1:((body s).1.idle l).fl:=⟨(one s h).t,(one s h).l,(one s h).d⟩
  simp only [rounds]
  split
  ·exact h1
  ·exact qw one n (j + 1) _ h1
theorem zG {k:S} (h:k.fl):∀xs:List (Nat × Int),(k.pO xs).fl:=fun xs=>by
 induction xs generalizing k with
 | nil=>exact h
 | cons p r ih=>exact ih (k:=k.put p.1 p.2) ⟨h.t,h.l,h.d⟩
theorem AH (E:En):∀(d:Nat) (s:S) (r:Rw),s.fl->(doR E d s r).1.fl:=by
 intro d
 induction d with
 | zero=>intro s r h;cases r <;> exact vh E.N h _
 | succ d ih =>
  intro s r h
  have rows:=fun (xs:List Rw) (s:S) (h:s.fl)=>rC ih xs (s,false) h
  have idl:∀{s:S} (n:Int),s.fl->(s.idle n).fl:=fun n h=>⟨h.t,h.l,h.d⟩
  have tl:=fun n=>qP h n (v:=.non) trivial
  cases r with
  | call n i ts =>
   unfold doR
   split
   ·exact rows _ _ (zG (tl n) _)
   ·exact tl n
  | iff n v f o l r =>
   unfold doR
   split
   ·exact idl _ (rows _ _ (tl n))
   ·exact idl _ (rows _ _ (tl n))
  | loop n t m b l r =>
   unfold doR
   exact idl _ (qw (fun s h=>rows b s h) _ _ _ (tl n))
  | _=>exact vh E.N h _
theorem qy {H:Hp}:∀{xs ys:List V}{ws:List (List V)},fK H xs ws->fK H ys ws->(∀w ∈ ws,flW w)->Paired (mZ H 1) xs ys
 | _,_,_,.nil,.nil,_=>.nil
 | _,_,w :: _,.cons ⟨p,e1,h1⟩ r1,.cons ⟨q,e2,h2⟩ r2,h=>by
  obtain ⟨l4,fl⟩:=h w List.mem_cons_self
  have self:∀ws:List V,(∀v ∈ ws,flat v)->Paired (mZ H 0) ws ws:=fun ws=>by
   induction ws with
   | nil=>intro _;exact .nil
   | cons x r ih=>intro hf;exact .cons ⟨rfl,hf x List.mem_cons_self⟩ (ih fun v hv=>hf v (List.mem_cons_of_mem _ hv))
  exact .cons (Or.inr ⟨p,q,w,w,e1,e2,.inl ⟨h1,h2⟩,by omega,self w fl⟩) (qy r1 r2 fun u hu=>h u (List.mem_cons_of_mem _ hu))
theorem mC {H:Hp}{p q:Addr}{xs ys:List V}{ws:List (List V)} (h1:H p=some (.lst xs)) (h2:H q=some (.lst ys)) (t1:fK H xs ws) (t2:fK H ys ws) (fl:∀w ∈ ws,flW w) (l:ws.length <= 1000000):mZ H 2 (.ref p) (.ref q):=Or.inr ⟨p,q,xs,ys,rfl,rfl,.inr ⟨h1,h2⟩,by rw [fK.len t1];exact l,qy t1 t2 fl⟩
def zE (A:Adr):Sp:=fun vs H Q _=>∃(E:En) (hs:List Hd) (r:Ra) (en b db l sd t e ln:Addr) (la:Nat->Addr) (k:S),vs=[.ref b,.ref r.b,.ref ln]/\ja E.N/\ownsOf hs=[6,7,8,9]/\E.sz 6=0/\E.sz 7=0/\E.sz 8=0/\0 < E.sz 9/\9 ∈ E.ls/\(k.lst 9).length <= 1000/\H ln=some (.lst (nmL E.N))/\oJ A E hs H b db l sd t e la k/\tw E H r en k/\k.fl/\k.trace.length <= 1000000/\k.dI.length <= 1000000/\k.mf.length <= 1000000/\Q (.bl true) H
theorem BH (T:Txt K mg A):Has P w K mg base 5 "_law_book" ["_law_found","_law_due_here","_law_names"] (zE A):=by
 have D_law_same:=yR (P:=P) (w:=w) (base:=base) T 3
 refine T.si.has (k:=4) nk (fun vs H Q E h=>?_) (fun f cdv A' outer s H vs Q E' hr hu h=>?_)
 ·obtain ⟨E,hs,r,en,b,db,l,sd,t,e,ln,la,k,rfl,_⟩:=h
  rfl
 ·obtain ⟨E,hs,r,en,b,db,l,sd,t,e,ln,la,k,rfl,D,ow,z6,z7,z8,z9',i9,l9,hn,B,U,fl,lt,ll,ld,q⟩:=h
  have he:=B.he
  rw [ow] at he
  obtain ⟨ts,a1,a2⟩:=B.ht
  obtain ⟨ls,b1,b2⟩:=B.hl
  obtain ⟨ds,c1,c2⟩:=B.hd
  obtain ⟨ts',d1,d2⟩:=U.ht
  obtain ⟨ls',e1,e2⟩:=U.hl
  obtain ⟨ds',f1,f2⟩:=U.hd
  refine ⟨_,(ab (aO (PW.pt (pw_or (iN (bU (aG bg rfl T.aB (by boot_by_name) (aa (fv 0) (aa (dH T.cq.mg) af))) (fun _=>rfl))) (pw_or1 (iN (bU (ar D_law_same hr (aa (aJ (fv 0) rfl) (aa (px hu (fv 1) ai) af))) (fun _=>rfl))))))
   (ag (aA gT))
   aH)
  (ab (aO (PW.pt (pw_or (iN (bU (ar D_law_same hr (aa (aJ (fv 0) rfl) (aa (px hu (fv 1) ai) af))) (fun _=>rfl))) (pw_or1 (iN (bU (ar D_law_same hr (aa (aJ (fv 0) rfl) (aa (px hu (fv 1) ai) af))) (fun _=>rfl))))))
   (ag (aA gT))
   aH)
  (ab (aO (PW.pt (pw_or (iN (bU (aG bg rfl T.aB (by boot_by_name) (aa (aJ (fv 0) rfl) (aa (cJ (v:=.ty "dict") rfl T.pe (by boot_by_name) rfl) af))) (fun _=>rfl))) (pw_or1 (ay (uQ hu) (aG dF rfl T.eI (by boot_by_name) (aa (aJ (fv 0) rfl) af)) ae (az _)))))
   (ag (aA gT))
   aH)
  (ab (dX PassesOwn.never rfl (gi rfl T.cZ (aa ae (aa ae af))) (pgn (i:=3) nk.nd rfl)
   (ag (aO (PW.pt (pw_or (ay (yr hu) (px hu (fv 2) (fv 3)) (aJ (fv 0) rfl) ((by with_unfolding_all rfl))) (pw_or1 (iN (bU (ar D_law_same hr (aa (px hu (aJ (fv 0) rfl) (px hu (fv 2) (fv 3))) (aa (px hu (px hu (fv 1) ai) (aw lN (fv 3) ae)) af))) (fun _=>rfl))))))
    (ag (aA gT))
    aH)))
  (ag (aA (ar D_law_same hr (aa (aJ (fv 0) rfl) (aa (px hu (fv 1) ai) af))))))))),?_⟩
  refine ax fun M1 K1=>?_
  refine ⟨_,_,_,true,rfl,(fun z=>by cases z),T.cq.bZ B.hb,lO T.cq,true,rfl,bw ?_⟩
  refine ⟨b,_,db,_,_,rfl,B.hb,T.cq.cl,T.cY,rfl,_,bu.k (k:=.inr "steps") U.hb,_,_,rfl,Or.inl ⟨rfl,trivial⟩,_,rfl,bw (K1 _ _ ?_)⟩
  refine ax fun M2 K2=>?_
  refine ⟨b,_,db,_,_,rfl,B.hb,T.cq.cl,T.eW,rfl,_,bu.k (k:=.inr "letters") U.hb,_,_,rfl,mC b1 e1 b2 e2 fl.l ll,_,rfl,bw ?_⟩
  refine ⟨b,_,db,_,_,rfl,B.hb,T.cq.cl,T.gW,rfl,_,bu.k (k:=.inr "said") U.hb,_,_,rfl,mC c1 f1 c2 f2 fl.d ld,_,rfl,bw (K2 _ _ ?_)⟩
  refine ax fun M3 K3=>?_
  refine ⟨b,_,db,_,_,rfl,B.hb,T.cq.cl,T.dS,rfl,_,_,_,true,rfl,(fun z=>by cases z),.dK B.he,BV,true,rfl,bw ?_⟩
  refine ⟨b,_,db,_,_,rfl,B.hb,T.cq.cl,T.dS,rfl,Or.inr ⟨e,_,rfl,Or.inl he,rfl,_,rfl,aL (fun c=>absurd c ?_) (fun _=>K3 _ _ ?_)⟩⟩
  ·rw [eB]
   decide
  refine ax fun M4 K4=>?_
  refine ⟨6,10,rfl,⟨by decide,by decide,by decide,by decide⟩,?_⟩
  refine d7 (lo:=6) (fun i σ H2=>H2=H/\∃v,σ=[some (.ref b),some (.ref r.b),some (.ref ln),v]) ⟨rfl,none,rfl⟩ ?_ ?_
  ·rintro i σ H2 hi ⟨rfl,v,rfl⟩
   have hi4:i < 4:=hi
   have e6:(6 + (i:Int))=((6 + i:Nat):Int):=by omega
   have im:6 + i ∈ [6,7,8,9]:=by
    have:i=0 \/ i=1 \/ i=2 \/ i=3:=by omega
    rcases this with rfl | rfl | rfl | rfl <;> decide
   have gd:bu H2 e (.str (E.N (6 + i))) (some (cV E la k.num (6 + i))):=yZ D (.inl he) (by decide) im
   have a6:atI (nmL E.N) (6 + (i:Int))=some (.str (E.N (6 + i))):=by rw [e6];exact cA E.N (by omega)
   have sm:∃u,atI [V.int (k.num 6),.int (k.num 7),.int (k.num 8),.ref (r.la 9)] (6 + (i:Int) - 6)=some u/\mZ H2 2 (cV E la k.num (6 + i)) u:=by
    unfold cV
    have:i=0 \/ i=1 \/ i=2 \/ i=3:=by omega
    rcases this with rfl | rfl | rfl | rfl
    ·exact ⟨_,rfl,by rw [if_pos z6];exact Or.inl ⟨rfl,trivial⟩⟩
    ·exact ⟨_,rfl,by rw [if_pos z7];exact Or.inl ⟨rfl,trivial⟩⟩
    ·exact ⟨_,rfl,by rw [if_pos z8];exact Or.inl ⟨rfl,trivial⟩⟩
    ·refine ⟨_,rfl,?_⟩
     rw [if_neg (show ¬ E.sz (6 + 3)=0 from fun z=>by have:E.sz 9=0:=z;omega)]
     have self:∀ns:List Int,Paired (mZ H2 1) (ns.map V.int) (ns.map V.int):=fun ns=>by
      induction ns with
      | nil=>exact .nil
      | cons x r ih=>exact .cons (Or.inl ⟨rfl,trivial⟩) ih
     exact Or.inr ⟨_,_,_,_,rfl,rfl,.inr ⟨B.ha 9 i9,U.ha⟩,by rw [List.length_map];omega,self _⟩
   obtain ⟨u,a7,sv⟩:=sm
   refine Or.inl ⟨_,_,Or.inl (SqL.of hn),a6,?_⟩
   refine ⟨b,_,db,_,_,rfl,B.hb,T.cq.cl,T.dS,rfl,Or.inr ⟨e,_,rfl,gd,_,rfl,bw ?_⟩⟩
   refine ⟨b,_,db,_,_,rfl,B.hb,T.cq.cl,T.dS,rfl,Or.inl ⟨_,_,Or.inl (SqL.of hn),a6,_,gd,_,bu.k (k:=.inr "ends") U.hb,Or.inl ⟨_,_,Or.inl (SqL.of U.he),a7,_,_,rfl,sv,_,rfl,bw ⟨rfl,_,rfl⟩⟩⟩⟩
  ·rintro σ H2 ⟨rfl,v,rfl⟩
   refine K4 _ _ ?_
   exact ⟨b,_,db,_,_,rfl,B.hb,T.cq.cl,T.fY,rfl,_,bu.k (k:=.inr "trace") U.hb,_,_,rfl,mC a1 d1 a2 d2 fl.t lt,q⟩
end
section
variable {A:Adr}{E:En}
def IDX:List Nat:=[2,3,4,5,6,7,8,9,14,16,17]
def SZ (c:Int) (i:Nat):Nat:=if i=5 then z5 c else if i=9 then z9 c else 0
def Ed (c0 c1:Int) (r1 r2:List Rw) (dv:List V):En:=⟨nmV c0,IDX,SZ c1,[⟨13,[14],r1⟩,⟨15,[16,17],r2⟩],dv⟩
def Ez (c0 c1:Int):En:=⟨nmV c0,IDX,SZ c1,[],[]⟩
theorem vE (c:Int):1 <= z5 c/\z5 c <= 20:=by unfold z5;omega
theorem uX (c:Int):1 <= z9 c/\z9 c <= 20:=by unfold z9;omega
theorem Ax (c0 c1:Int):wB (Ez c0 c1) c0:=by
 refine ⟨rfl,fun i hi=>?_,kB (by show 5 ∈ IDX;decide) (vE c1).1,kB (by show 9 ∈ IDX;decide) (uX c1).1⟩
 have h:∀i ∈ [2,3,4,6,7,8,14,16,17],i ∈ IDX/\i ≠ 5/\i ≠ 9:=by decide
 obtain ⟨h1,h2,h3⟩:=h i hi
 refine ⟨h1,?_⟩
 show SZ c1 i=0
 unfold SZ
 rw [if_neg h2,if_neg h3]
theorem ve (c0 c1:Int) (r1 r2:List Rw) {dv:List V} (hd:dv.length=2):(Ed c0 c1 r1 r2 dv).Ok:=by
 refine ⟨nO c0,(show ∀j ∈ IDX,j < 18 by decide),(show IDX.Nodup by decide),fun d hd=>?_,(show [13,15].Nodup by decide),(show 2 <= 64 by decide),hd,fun d hd j hj=>?_,fun x=>?_,(show 11 <= 64 by decide)⟩
 ·have hd:d ∈ [(⟨13,[14],r1⟩:Dd),⟨15,[16,17],r2⟩]:=hd
  simp only [List.mem_cons,List.not_mem_nil,or_false] at hd
  rcases hd with rfl | rfl
  ·exact (by decide:13 < 18)
  ·exact (by decide:15 < 18)
 ·have hj':j=14 \/ j=16 \/ j=17:=by
   have hd:d ∈ [(⟨13,[14],r1⟩:Dd),⟨15,[16,17],r2⟩]:=hd
   simp only [List.mem_cons,List.not_mem_nil,or_false] at hd
   rcases hd with rfl | rfl
   ·have hj:j ∈ [14]:=hj
    simp at hj
    exact .inl hj
   ·have hj:j ∈ [16,17]:=hj
    simp at hj
    exact .inr hj
  have:j ∈ IDX/\SZ c1 j=0:=by rcases hj' with rfl | rfl | rfl <;> exact ⟨by decide,rfl⟩
  exact this
 ·show SZ c1 x <= 1000
  have:=vE c1
  have:=uX c1
  unfold SZ
  split
  ·omega
  ·split <;> omega
theorem BU (c0 c1:Int) (r1 r2:List Rw) (dv:List V):Hds (Ed c0 c1 r1 r2 dv) (eT c1):=by
 refine ⟨rfl,fun i z h=>?_,fun i z h=>?_⟩
 ·unfold eT at h
  simp only [List.mem_cons,List.not_mem_nil,or_false,reduceCtorEq,false_or,Hd.giv.injEq] at h
  rcases h with ⟨rfl,rfl⟩ | ⟨rfl,rfl⟩ | ⟨rfl,rfl⟩ | ⟨rfl,rfl⟩ <;> rfl
 ·unfold eT at h
  simp only [List.mem_cons,List.not_mem_nil,or_false,reduceCtorEq,false_or,Hd.own.injEq] at h
  rcases h with ⟨rfl,rfl⟩ | ⟨rfl,rfl⟩ | ⟨rfl,rfl⟩ | ⟨rfl,rfl⟩ <;> rfl
theorem Th.lV {E F:En} (h1:E.idx=F.idx) (h2:E.sz=F.sz) {t:Th} (h:t.ok E):t.ok F:=by
 cases t with
 | i n=>exact h
 | x a=>exact ⟨h1 ▸ h.1,h2 ▸ h.2⟩
theorem Val.lV {E F:En} (h1:E.idx=F.idx) (h2:E.sz=F.sz) {v:Val} (h:v.ok E):v.ok F:=by
 cases v with
 | one a=>exact Th.lV h1 h2 h
 | op a w b=>exact ⟨Th.lV h1 h2 h.1,Th.lV h1 h2 h.2.1,h.2.2⟩
 | atl x b=>exact ⟨h1 ▸ h.1,h2 ▸ h.2.1,Th.lV h1 h2 h.2.2⟩
theorem WfL.en {E F:En}{kn:Nat} (h1:E.idx=F.idx) (h2:E.sz=F.sz):∀{d:Nat}{r:Rw},WfL E kn d r->WfL F kn d r:=by
 have leafs:∀{d:Nat}{r:Rw},(∀n v f o l q,r ≠ .iff n v f o l q)->(∀n t m b l q,r ≠ .loop n t m b l q)->WfL E kn d r->WfL F kn d r:=by
  intro d r i1 i2 h
  have vv:=fun {v:Val} (h:v.ok E)=>Val.lV (F:=F) h1 h2 h
  have tt:=fun {t:Th} (h:t.ok E)=>Th.lV (F:=F) h1 h2 h
  cases r with
  | iff n v f o l r=>exact absurd rfl (i1 _ _ _ _ _ _)
  | loop n t m b l r=>exact absurd rfl (i2 _ _ _ _ _ _)
  | set n x v=>cases d <;> exact ⟨h1 ▸ h.1,h2 ▸ h.2.1,vv h.2.2⟩
  | put n x p v=>cases d <;> exact ⟨h1 ▸ h.1,h2 ▸ h.2.1,tt h.2.2.1,vv h.2.2.2⟩
  | snd n x v =>
   have h':v.ok E:=by cases d <;> exact h
   have:v.ok F:=vv h'
   cases d <;> exact this
  | say n x v m=>cases d <;> exact ⟨h1 ▸ h.1,h2 ▸ h.2.1,vv h.2.2⟩
  | last n=>cases d <;> exact True.intro
  | call n i ts=>cases d <;> exact ⟨h.1,h.2.1,fun t m=>tt (h.2.2 t m)⟩
 intro d
 induction d with
 | zero =>
  intro r h
  cases r with
  | iff n v f o l r=>exact h.elim
  | loop n t m b l r=>exact h.elim
  | _=>exact leafs (fun _ _ _ _ _ _ z=>by cases z) (fun _ _ _ _ _ _ z=>by cases z) h
 | succ d ih =>
  intro r h
  cases r with
  | iff n v f o l r =>
   obtain ⟨a1,a2,a3,a4,a5,a6,a7⟩:=h
   exact ⟨Val.lV h1 h2 a1,a2,a3,a4,a5,fun q m=>ih (a6 q m),fun q m=>ih (a7 q m)⟩
  | loop n t m b l r =>
   obtain ⟨a1,a2,a3,a4,a5,a6,a7⟩:=h
   exact ⟨Th.lV h1 h2 a1,a2,a3,a4,a5,a6,fun q m=>ih (a7 q m)⟩
  | _=>exact leafs (fun _ _ _ _ _ _ z=>by cases z) (fun _ _ _ _ _ _ z=>by cases z) h
variable {c0 c1:Int}{r1 r2 r3:List Rw}{dv:List V}
structure All (F:En) (r1 r2 r3:List Rw):Prop where
 w1:∀r ∈ r1,WfL F 0 4 r
 w2:∀r ∈ r2,WfL F 1 4 r
 w3:∀r ∈ r3,WfL F 2 4 r
theorem All.o0 {F:En} (c:Nat):ug F (moL []) 0 c:=fun i h=>absurd h (Nat.not_lt_zero _)
theorem All.b1 (W:All (Ed c0 c1 r1 r2 dv) r1 r2 r3) (r:Rw) (h:r ∈ r1):oU (Ed c0 c1 r1 r2 dv) (moL []) 0 4 r:=ux (All.o0 0) (by decide) 4 r (W.w1 r h)
theorem All.s1 (W:All (Ed c0 c1 r1 r2 dv) r1 r2 r3) {c:Nat} (hc:5 <= c):(∀r ∈ r1,Wf (Ed c0 c1 r1 r2 dv) c r)/\c1D r1=(r1.map (aE (Ed c0 c1 r1 r2 dv) c)).sum:=by
 have w5:∀r ∈ r1,Wf (Ed c0 c1 r1 r2 dv) 5 r:=fun r h=>(W.b1 r h).1
 refine ⟨fun r h=>?_,?_⟩
 ·have:=(w5 r h).upN (n:=c - 5)
  rw [show 5 + (c - 5)=c by omega] at this
  exact this
 ·unfold c1D dQ
  rw [map_eq fun r h=>(u9 hc (w5 r h)).trans (W.b1 r h).2]
theorem All.o1 (W:All (Ed c0 c1 r1 r2 dv) r1 r2 r3) {c:Nat} (hc:5 <= c):ug (Ed c0 c1 r1 r2 dv) (moL [c1D r1]) 1 c:=fun i h=>by
 have:i=0:=by omega
 subst this
 obtain ⟨a1,a2⟩:=W.s1 hc
 exact ⟨⟨13,[14],r1⟩,rfl,rfl,rfl,a1,a2⟩
theorem All.b2 (W:All (Ed c0 c1 r1 r2 dv) r1 r2 r3) (r:Rw) (h:r ∈ r2):oU (Ed c0 c1 r1 r2 dv) (moL [c1D r1]) 5 4 r:=ux (W.o1 (by decide)) (by decide) 4 r (W.w2 r h)
theorem All.o2 (W:All (Ed c0 c1 r1 r2 dv) r1 r2 r3):ug (Ed c0 c1 r1 r2 dv) (mo2 r1 r2) 2 10:=fun i h=>by
 have:i=0 \/ i=1:=by omega
 rcases this with rfl | rfl
 ·obtain ⟨a1,a2⟩:=W.s1 (c:=10) (by decide)
  exact ⟨⟨13,[14],r1⟩,rfl,rfl,rfl,a1,a2⟩
 ·refine ⟨⟨15,[16,17],r2⟩,rfl,rfl,rfl,fun r h=>(W.b2 r h).1,?_⟩
  ·show dQ (moL [c1D r1]) 4 r2=_
   unfold dQ
   exact congrArg List.sum (map_eq fun r h=>(W.b2 r h).2.symm)
theorem All.b3 (W:All (Ed c0 c1 r1 r2 dv) r1 r2 r3) (r:Rw) (h:r ∈ r3):oU (Ed c0 c1 r1 r2 dv) (mo2 r1 r2) 10 4 r:=ux W.o2 (by decide) 4 r (W.w3 r h)
theorem All.most (W:All (Ed c0 c1 r1 r2 dv) r1 r2 r3):(r3.map (aE (Ed c0 c1 r1 r2 dv) 15)).sum=dQ (mo2 r1 r2) 4 r3:=by
 unfold dQ
 exact congrArg List.sum (map_eq fun r h=>(W.b3 r h).2)
theorem gj {X:Hp}{F:En}{mo:Nat->Int}{kn c:Nat} (O:ug F mo kn c) (Vd:ze A F X kn c) {ys:List V}{rs:List Rw} (w:∀r ∈ rs,WfL F kn 4 r) (p:Paired (dW A F.N X 4) ys rs):Paired (cu A F X (4 + c + 1)) ys rs:=gP p fun v r m h=>dW.at O Vd 4 v r (w r m) h
theorem wd {X:Hp}{F:En}{d n:Nat}{ys:List V}{rs:List Rw} (p:Paired (cu A F X d) ys rs):Paired (cu A F X (d + n)) ys rs:=Paired.cm p fun _ _ h=>h.upN
structure Ready (A:Adr) (F:En) (H:Hp) (p:Pa) (c:Int) (hv xs:List V) (r3:List Rw):Prop where
 pr:tI A F H p hv (eT c) xs
 rw:Paired (cu A F H 15) xs r3
theorem Ready.of {H:Hp}{p:Pa}{hv xs:List V}{d1 d2:Addr} (G:Ck A (Ez c0 c1) H p c1 hv xs d1 d2 r1 r2 r3) (W:All (Ed c0 c1 r1 r2 [.ref d1,.ref d2]) r1 r2 r3):Ready A (Ed c0 c1 r1 r2 [.ref d1,.ref d2]) H p c1 hv xs r3:=by
 obtain ⟨dx1,dn1,pp1,pb1,ys1,a1,a2,a3,a4⟩:=G.d1
 obtain ⟨dx2,dn2,pp2,pb2,ys2,e1,e2,e3,e4⟩:=G.d2
 have q1:Paired (cu A (Ed c0 c1 r1 r2 [.ref d1,.ref d2]) H 5) ys1 r1:=gj (All.o0 0) (fun i h=>absurd h (Nat.not_lt_zero _)) W.w1 a4
 have v1:ze A (Ed c0 c1 r1 r2 [.ref d1,.ref d2]) H 1 5:=fun i h D hD=>by
  have:i=0:=by omega
  subst this
  cases hD
  exact ⟨d1,dx1,dn1,pp1,pb1,ys1,rfl,a1,a2,a3,q1⟩
 have q2:Paired (cu A (Ed c0 c1 r1 r2 [.ref d1,.ref d2]) H 10) ys2 r2:=gj (W.o1 (by decide)) v1 W.w2 e4
 have v2:ze A (Ed c0 c1 r1 r2 [.ref d1,.ref d2]) H 2 10:=fun i h D hD=>by
  have:i=0 \/ i=1:=by omega
  rcases this with rfl | rfl
  ·cases hD
   exact ⟨d1,dx1,dn1,pp1,pb1,ys1,rfl,a1,a2,a3,wd (d:=5) (n:=5) q1⟩
  ·cases hD
   exact ⟨d2,dx2,dn2,pp2,pb2,ys2,rfl,e1,e2,e3,q2⟩
 refine ⟨⟨G.pr,G.hd,G.dd,G.mn,G.h,.cons ⟨d1,dx1,dn1,pp1,pb1,rfl,a1,a2⟩ (.cons ⟨d2,dx2,dn2,pp2,pb2,rfl,e1,e2⟩ .nil),?_⟩,gj W.o2 v2 W.w3 G.m⟩
 rw [Paired.length G.h]
 show 13 <= 64
 decide
theorem Cm (c0 c1:Int) (r1 r2:List Rw) (dv:List V):(Ed c0 c1 r1 r2 dv).ls=[5,9]:=by
 have h5:=vE c1
 have h9:=uX c1
 show IDX.filter (fun i=>decide (0 < SZ c1 i))=[5,9]
 have e5:decide (0 < SZ c1 5)=true:=decide_eq_true (show 0 < z5 c1 by omega)
 have e9:decide (0 < SZ c1 9)=true:=decide_eq_true (show 0 < z9 c1 by omega)
 have e0:∀i,i ≠ 5->i ≠ 9->decide (0 < SZ c1 i)=false:=fun i a b=>decide_eq_false (by unfold SZ;rw [if_neg a,if_neg b];omega)
 unfold IDX
 simp only [List.filter_cons,e5,e9,e0 2 (by decide) (by decide),e0 3 (by decide) (by decide),e0 4 (by decide) (by decide),e0 6 (by decide) (by decide),e0 7 (by decide) (by decide),e0 8 (by decide) (by decide),e0 14 (by decide) (by decide),e0 16 (by decide) (by decide),e0 17 (by decide) (by decide)]
 rfl
theorem Bo (W:All (Ed c0 c1 r1 r2 dv) r1 r2 r3) (big:dQ (mo2 r1 r2) 4 r3 <= 36024):xj (Ed c0 c1 r1 r2 dv) c1 r1 r2 r3:=by
 refine ⟨⟨nO c0,(show ∀i ∈ IDX,i ∈ cIx by decide),fun i D hD=>?_,(show 2 <= 2 by decide),(ve c0 c1 r1 r2 (dv:=[.non,.non]) rfl).pt,(ve c0 c1 r1 r2 (dv:=[.non,.non]) rfl).z⟩,BU c0 c1 r1 r2 dv,rfl,Cm c0 c1 r1 r2 dv,rfl,?_,rfl,(by show 9 ∈ IDX/\6 ∈ IDX/\7 ∈ IDX/\8 ∈ IDX;decide),fun r h=>(W.b3 r h).1,?_⟩
 ·match i,hD with
  | 0,hD=>cases hD;rfl
  | 1,hD=>cases hD;rfl
  | i + 2,hD=>cases hD
 ·intro i hi
  exact ((Ax c0 c1).th i hi).2
 ·rw [W.most]
  show _ <= (1000000:Int)
  omega
end
section
variable {P:Program}{w:World}{K:W.Frag}{mg:Str->Option Value}{base:Heap}{A:Adr}
seal PE PA PS PSs PT PW
theorem jt.of {E:En}{H:Hp}{g l:Addr}{c1 c2:Int}{k:Nat} (D:ja E.N) (hg:H g=some (.dK (dk E.N [2,3,4,5] (gF c2 k l)))) (hl:H l=some (.lst ((glV c2 k (z5 c1)).map V.int))):jt E (eT c1) H g (gnV c2 k) (fun _=>glV c2 k (z5 c1)):=by
 refine ⟨⟨_,hg,fun i z m=>?_⟩,fun i=>cj _,fun _ n hn=>?_⟩
 ·have lt:∀j ∈ ([2,3,4,5]:List Nat),j < 18:=by decide
  have zb:=vE c1
  unfold eT at m
  simp only [List.mem_cons,List.not_mem_nil,or_false,reduceCtorEq,false_or,Hd.giv.injEq] at m
  rcases m with ⟨rfl,rfl⟩ | ⟨rfl,rfl⟩ | ⟨rfl,rfl⟩ | ⟨rfl,rfl⟩
  ·exact ⟨fun _=>eQ D lt (by decide),fun h=>absurd h (Nat.lt_irrefl _)⟩
  ·exact ⟨fun _=>eQ D lt (by decide),fun h=>absurd h (Nat.lt_irrefl _)⟩
  ·exact ⟨fun _=>eQ D lt (by decide),fun h=>absurd h (Nat.lt_irrefl _)⟩
  ·refine ⟨fun h=>by omega,fun _=>⟨l,eQ D lt (by decide),hl,?_⟩⟩
   unfold glV
   rw [List.length_map,List.length_range]
 ·unfold glV at hn
  obtain ⟨j,_,rfl⟩:=List.mem_map.mp hn
  exact cj _
theorem yL {E:En}{H:Hp}{l l':Addr}{c2:Int}{k z:Nat} (D:ja E.N) (h:H l=some (.lst ((glV c2 k z).map V.int))) (h':H l'=some (.lst ((glV c2 k z).map V.int))):∀kk v,L2.fh (dk E.N [2,3,4,5] (gF c2 k l)) kk=some v->∃v',L2.fh (dk E.N [2,3,4,5] (gF c2 k l')) kk=some v'/\sF K H v v':=fun kk v hv=>by
 obtain ⟨i,hi,rfl,rfl⟩:=BJ D (by decide) hv
 refine ⟨gF c2 k l' i,eQ D (by decide) hi,?_⟩
 simp only [List.mem_cons,List.not_mem_nil,or_false] at hi
 rcases hi with rfl | rfl | rfl | rfl
 ·exact Or.inl ⟨rfl,rfl⟩
 ·exact Or.inl ⟨rfl,rfl⟩
 ·exact Or.inl ⟨rfl,rfl⟩
 ·exact Or.inr ⟨l,l',_,rfl,rfl,SqL.of h,SqL.of h',by rw [List.all_map];exact List.all_eq_true.mpr fun _ _=>rfl⟩
theorem tw.same {E:En}{H H':Hp}{r:Ra}{en:Addr}{k:S} (D:tw E H r en k) (s:aj H H'):tw E H' r en k:=by
 obtain ⟨xs,a1,a2⟩:=D.ht
 obtain ⟨ys,b1,b2⟩:=D.hl
 obtain ⟨zs,c1,c2⟩:=D.hd
 exact ⟨s _ _ D.hb,s _ _ D.he,⟨xs,s _ _ a1,a2.same s⟩,⟨ys,s _ _ b1,b2.same s⟩,⟨zs,s _ _ c1,c2.same s⟩,s _ _ D.ha⟩
structure DG (k:S):Prop where
 fl:k.fl
 t:k.trace.length <= 1000000
 l:k.dI.length <= 1000000
 d:k.mf.length <= 1000000
theorem A5 {E:En}{c1 c2:Int}{k:Nat}{r1 r2 r3:List Rw} (U:xj E c1 r1 r2 r3):DG (wg E c1 c2 k r3):=by
 have f:=rC (AH E 15) r3 (S0 E c1 c2 k,false) ⟨fun w h=>(by cases h),fun w h=>(by cases h),fun w h=>(by cases h)⟩
 have m:=U.m
 have rm:=i4 (E:=E) (B:=BIG) (p:=Wf E 15) (fun s r n w h=>kr E 15 s r n w h) r3 (S0 E c1 c2 k,false) 0 U.w ⟨(by show (0:Int) + _ <= _;omega),Int.le_refl _,Int.le_refl _,Int.le_refl _⟩
 have e:(r3.foldl (step (doR E 15)) (S0 E c1 c2 k,false)).1=wg E c1 c2 k r3:=rfl
 rw [e] at f rm
 obtain ⟨p1,p2,p3,p4⟩:=rm
 have p1:(wg E c1 c2 k r3).steps + 0 <= 1000000:=p1
 exact ⟨f,by omega,by omega,by omega⟩
def qH (K:W.Frag):Sp:=fun vs H Q _=>∃(a:Addr) (ns:List Int),vs=[.ref a]/\SqL K H a (ns.map V.int)/\ns.length <= 63/\∀H',Q (.bl true) H'
theorem CP (T:Txt K mg A) (F:b8 K mg "law" pj ["_law_script"]):Has P w K mg base 80 "law" ["_law_script"] (qH K):=by
 have D_law_cell_at:=qW (P:=P) (w:=w) (base:=base) T
 have D_law_drawn:=Ah (P:=P) (w:=w) (base:=base) T
 have D_law_program:=wO (P:=P) (w:=w) (base:=base) T
 have D_law_gifts:=vB (P:=P) (w:=w) (base:=base) T
 have D_law_due:=Dj (P:=P) (w:=w) (base:=base) T
 have D_law_book:=BH (P:=P) (w:=w) (base:=base) T
 have D_run:=Has.ex (P:=P) (w:=w) (base:=base) (sp:=fun E:En=>xa A E 15) (p:=fun E=>E.Ok) (Ed 0 0 [] [] [.non,.non]) (ve 0 0 [] [] rfl) fun E h=>Ca T h 15
 refine F.has (k:=79) jq (fun vs H Q E h=>?_) (fun f cdv A' outer s0 H vs Q E hr hu h=>?_)
 ·obtain ⟨a,ns,rfl,_⟩:=h
  rfl
 ·obtain ⟨a,ns,rfl,hA,hlen,q⟩:=h
  obtain ⟨c0,hc0⟩:∃c0,c0=cellAt ns 0:=⟨_,rfl⟩
  obtain ⟨c1,hc1⟩:∃c1,c1=cellAt ns 1:=⟨_,rfl⟩
  obtain ⟨c2,hc2⟩:∃c2,c2=cellAt ns 2:=⟨_,rfl⟩
  refine ⟨_,(ab (aC (i:=1) jq.nd rfl (Or.inl rfl) (ar D_law_drawn hr (aa (fv 0) af)))
  (ab (aC (i:=2) jq.nd rfl (Or.inl rfl) (px hu (fv 1) ae))
  (ab (aC (i:=3) jq.nd rfl (Or.inl rfl) (ar D_law_program hr (aa (fv 1) (aa (ar D_law_cell_at hr (aa (fv 0) (aa ae af))) af))))
  (ab (aC (i:=4) jq.nd rfl (Or.inl rfl) (ar D_law_gifts hr (aa (fv 2) (aa (fv 0) (aa ae af)))))
  (ab (aC (i:=5) jq.nd rfl (Or.inl rfl) (ar D_run hr (aa (fv 3) (aa (fv 4) af))))
  (ab (aC (i:=6) jq.nd rfl (Or.inl rfl) (ar D_run hr (aa (fv 3) (aa (ar D_law_gifts hr (aa (fv 2) (aa (fv 0) (aa ae af)))) af))))
  (ab (aC (i:=7) jq.nd rfl (Or.inl rfl) (ar D_run hr (aa (fv 3) (aa (fv 4) af))))
  (ab (aC (i:=8) jq.nd rfl (Or.inl rfl) (ar D_law_due hr (aa (fv 1) (aa (fv 0) (aa ae af)))))
  (ab (aO (PW.pt (pw_or (ay (Cc hu) (fv 4) (ar D_law_gifts hr (aa (fv 2) (aa (fv 0) (aa ae af)))) (az _)) (pw_or1 (iN (bU (ar D_law_book hr (aa (fv 5) (aa (fv 8) (aa (fv 2) af)))) (fun _=>rfl))))))
   (ag (aA gT))
   aH)
  (ag (aA (ir (ar D_law_book hr (aa (fv 6) (aa (ar D_law_due hr (aa (fv 1) (aa (fv 0) (aa ae af)))) (aa (fv 2) af)))) (iC (ar D_law_book hr (aa (fv 7) (aa (fv 8) (aa (fv 2) af))))))))))))))))),?_⟩
  refine ⟨Ez c0 c1,a,ns,rfl,hA,(by rw [<- hc0];exact Ax c0 c1),fun t ln lb B1 B2 B3 n r1 r2 r3 H1 s1 R=>?_⟩
  try dsimp only
  refine ax fun M1 K1=>?_
  refine Or.inl ⟨_,_,Or.inr (SqT.of R.t),rfl,K1 _ _ ?_⟩
  try dsimp only
  refine ax fun M2 K2=>?_
  refine ⟨a,ns,1,rfl,s1.seq hA,by decide,Ez c0 c1,t,ln,lb,B1,B2,B3,n,c1,r1,r2,r3,(by rw [hc1];rfl),R,fun p hv xs d1 d2 H2 s2 G=>K2 _ _ ?_⟩
  have W:All (Ed c0 c1 r1 r2 [.ref d1,.ref d2]) r1 r2 r3:=by
   obtain ⟨_,_,_,w1⟩:=R.b1
   obtain ⟨_,_,_,w2⟩:=R.b2
   obtain ⟨_,_,_,w3⟩:=R.b3
   exact ⟨fun r h=>WfL.en (E:=Ez c0 c1) (F:=Ed c0 c1 r1 r2 [.ref d1,.ref d2]) rfl rfl (w1 r h),fun r h=>WfL.en (E:=Ez c0 c1) (F:=Ed c0 c1 r1 r2 [.ref d1,.ref d2]) rfl rfl (w2 r h),fun r h=>WfL.en (E:=Ez c0 c1) (F:=Ed c0 c1 r1 r2 [.ref d1,.ref d2]) rfl rfl (w3 r h)⟩
  have Y:=Ready.of G W
  have OK:=ve c0 c1 r1 r2 (dv:=[.ref d1,.ref d2]) rfl
  have U:=Bo W R.big
  have z9:=uX c1
  have t2:=s2 _ _ R.t
  have lb2:=s2 _ _ R.lb
  have ln2:H2 ln=some (.lst (nmL (Ed c0 c1 r1 r2 [.ref d1,.ref d2]).N)):=s2 _ _ R.ln
  have b1:∃xs,H2 B1=some (.lst xs)/\Paired (aZ (Ed c0 c1 r1 r2 [.ref d1,.ref d2]).N H2 4) xs r1:=(R.b1.same s2).imp fun _ h=>⟨h.1,h.2.1⟩
  have b2:∃xs,H2 B2=some (.lst xs)/\Paired (aZ (Ed c0 c1 r1 r2 [.ref d1,.ref d2]).N H2 4) xs r2:=(R.b2.same s2).imp fun _ h=>⟨h.1,h.2.1⟩
  have b3:∃xs,H2 B3=some (.lst xs)/\Paired (aZ (Ed c0 c1 r1 r2 [.ref d1,.ref d2]).N H2 4) xs r3:=(R.b3.same s2).imp fun _ h=>⟨h.1,h.2.1⟩
  have z2:=s1.trans s2
  have up:∀{H3:Hp}{N:Nat->Str}{B:Addr}{rs:List Rw},aj H2 H3->(∃xs,H2 B=some (.lst xs)/\Paired (aZ N H2 4) xs rs)->∃xs,H3 B=some (.lst xs)/\Paired (aZ N H3 4) xs rs:=fun s h=>h.imp fun _ h=>⟨s _ _ h.1,Paired.cm h.2 fun _ _=>aZ.same s⟩
  clear R G s1 s2 W
  generalize Ed c0 c1 r1 r2 [.ref d1,.ref d2]=F' at *
  have bk:=fun k=>A5 (c2:=c2) (k:=k) U
  have i9:9 ∈ F'.ls:=by rw [U.ls];decide
  have z9':0 < F'.sz 9:=by rw [U.s9];omega
  have i9':9 ∈ F'.idx:=U.ix.1
  try dsimp only
  refine ax fun M3 K3=>?_
  refine ⟨F',ln,a,ns,0,rfl,by decide,ln2,z2.seq hA,OK.D,fun g l H3 s3 g0 l0 lg eg el=>K3 _ _ ?_⟩
  rw [<- hc2] at eg el
  rw [<- hc1] at el
  try dsimp only
  refine ax fun M4 K4=>?_
  refine ⟨F',OK,p,g,hv,xs,eT c1,_,_,r3,rfl,Y.pr.same s3,U.Z,jt.of OK.D eg el,Paired.cm Y.rw (fun _ _=>cu.same s3),U.w,U.m,fun ba da la sa ta ea fa H4 s4 Da oka=>K4 _ _ ?_⟩
  have z4:=s3.trans s4
  try dsimp only
  refine ax fun M5 K5=>?_
  refine ⟨F',ln,a,ns,1,rfl,by decide,z4 _ _ ln2,(z2.trans z4).seq hA,OK.D,fun g5 l5 H5 s5 _ _ _ eg5 el5=>?_⟩
  rw [<- hc2] at eg5 el5
  rw [<- hc1] at el5
  have z5:=z4.trans s5
  refine ⟨F',OK,p,g5,hv,xs,eT c1,_,_,r3,rfl,Y.pr.same z5,U.Z,jt.of OK.D eg5 el5,Paired.cm Y.rw (fun _ _=>cu.same z5),U.w,U.m,fun bb db lb' sb tb eb fb H6 s6 Db okb=>K5 _ _ ?_⟩
  have z6:=z5.trans s6
  have t36:=(s4.trans s5).trans s6
  try dsimp only
  refine ax fun M6 K6=>?_
  refine ⟨F',OK,p,g,hv,xs,eT c1,_,_,r3,rfl,Y.pr.same z6,U.Z,jt.of OK.D (t36 _ _ eg) (t36 _ _ el),Paired.cm Y.rw (fun _ _=>cu.same z6),U.w,U.m,fun bc dc lc sc tc ec fc H7 s7 Dc okc=>K6 _ _ ?_⟩
  have z7:=z6.trans s7
  try dsimp only
  refine ax fun M7 K7=>?_
  refine ⟨F',t,ln,lb,B1,B2,B3,a,n,ns,0,r1,r2,r3,rfl,by decide,(z2.trans z7).seq hA,z7 _ _ t2,z7 _ _ ln2,z7 _ _ lb2,up z7 b1,up z7 b2,up z7 b3,(by rw [<- hc1];exact U),fun r en H8 s8 Du=>K7 _ _ ?_⟩
  rw [<- hc1,<- hc2] at Du
  have z8:=z7.trans s8
  have t38:=(t36.trans s7).trans s8
  have len9:∀{k:S},k.ok F'->(k.lst 9).length <= 1000:=fun h=>by rw [h.len 9 i9' z9'];exact OK.z 9
  try dsimp only
  refine ax fun M8 K8=>?_
  refine ⟨F',ln,a,ns,0,rfl,by decide,z8 _ _ ln2,(z2.trans z8).seq hA,OK.D,fun g9 l9 H9 s9 _ _ _ eg9 el9=>?_⟩
  rw [<- hc2] at eg9 el9
  rw [<- hc1] at el9
  have t39:=t38.trans s9
  have z9:=z8.trans s9
  refine ⟨g,g9,_,_,rfl,rfl,Or.inl (t39 _ _ eg),Or.inl eg9,rfl,yL OK.D (t39 _ _ el) el9,false,rfl,bw ?_⟩
  refine ⟨F',eT c1,r,en,ba,da,la,sa,ta,ea,ln,fa,_,rfl,OK.D,rfl,U.s0 6 (by decide),U.s0 7 (by decide),U.s0 8 (by decide),z9',i9,len9 oka,z9 _ _ ln2,Da.same ((((s5.trans s6).trans s7).trans s8).trans s9),Du.same s9,(bk 0).fl,(bk 0).t,(bk 0).l,(bk 0).d,true,rfl,bw (K8 _ _ ?_)⟩
  refine ⟨F',t,ln,lb,B1,B2,B3,a,n,ns,1,r1,r2,r3,rfl,by decide,(z2.trans z9).seq hA,z9 _ _ t2,z9 _ _ ln2,z9 _ _ lb2,up z9 b1,up z9 b2,up z9 b3,(by rw [<- hc1];exact U),fun r' en' H10 s10 Du'=>?_⟩
  rw [<- hc1,<- hc2] at Du'
  have z10:=z9.trans s10
  refine ⟨F',eT c1,r',en',bb,db,lb',sb,tb,eb,ln,fb,_,rfl,OK.D,rfl,U.s0 6 (by decide),U.s0 7 (by decide),U.s0 8 (by decide),z9',i9,len9 okb,z10 _ _ ln2,Db.same (((s7.trans s8).trans s9).trans s10),Du',(bk 1).fl,(bk 1).t,(bk 1).l,(bk 1).d,true,rfl,cU ?_⟩
  exact ⟨F',eT c1,r,en,bc,dc,lc,sc,tc,ec,ln,fc,_,rfl,OK.D,rfl,U.s0 6 (by decide),U.s0 7 (by decide),U.s0 8 (by decide),z9',i9,len9 okc,z10 _ _ ln2,Dc.same ((s8.trans s9).trans s10),Du.same (s9.trans s10),(bk 0).fl,(bk 0).t,(bk 0).l,(bk 0).d,q _⟩
end
abbrev FnI (K:W.Frag) (f:Addr) (x y:Str) (s:Stmt):Prop:=∃(oc:Value) (od:Option Addr) (kV dc pm:Value) (an:Option Addr) (cd ct:Value) (sl:Array (Option Value)),K.lookup f=some ⟨oc,od,.func (W.fnOf x y (eh s) (cO s) (au s) .none kV dc pm an cd ct),sl⟩/\W.codeIn K cd y=true/\W.keepIn K (.ref f)=true
abbrev dY (K:W.Frag) (x:Str) (s:Stmt):Prop:=∃f,W.nsIn K mainGlobals x=some (some (.ref f))/\FnI K f x x s
abbrev fi (K:W.Frag) (C:Addr) (m q:Str) (s:Stmt):Prop:=∃f,W.findIn K (.ref C) m=some (some (.ref f))/\W.isFn K (.ref f)=true/\FnI K f m q s
abbrev jF (K:W.Frag) (C:Addr) (x:Str) (up:List Addr):Prop:=W.nsIn K mainGlobals x=some (some (.ref C))/\(∃cd,W.clsIn K C=some cd/\cd.mro=up.map Value.ref ++ [Value.type "object"])/\W.plainGet K C Str.empty=true/\W.hasDictIn K C=true/\W.plainOver K C=true/\W.findIn K (.ref C) "__setattr__"=some (some (.builtin "object.__setattr__"))/\W.typeIn K (.ref C)=some (.type "type")/\W.findIn K (.ref C) "__class__"=some (some (.builtin "object.__class__"))/\W.makesIn K C=true/\W.keepIn K (.ref C)=true
abbrev NsI (K:W.Frag) (x:Str):Prop:=W.nsIn K mainGlobals x=some none
abbrev NoI (K:W.Frag) (C:Addr) (x:Str):Prop:=W.findIn K (.ref C) x=some none
section
variable {K:W.Frag}{mg:Str->Option Value}{h:Heap}{x m q:Str}{s:Stmt}{ps:List Str}{C:Addr}{up:List Addr}
theorem eE (X:K.In h) (G:h.Ns mainGlobals mg) (t:dY K x s) (b:∀(kV doc pm:Value) (an:Option Addr) (cdv ct:Value) (us:List Value),us.length=ps.length->bindArgs (W.fnOf x x (eh s) (cO s) (au s) .none kV doc pm an cdv ct) ⟨us,[]⟩=pure (ps.zip us)):b8 K mg x s ps:=by
 obtain ⟨f,a,_,_,_,_,_,_,_,_,_,l,c,k⟩:=t
 exact yg X G a l c k b
theorem fq (t:fi K C m q s) (b:∀(kV doc pm:Value) (an:Option Addr) (cdv ct:Value) (us:List Value),us.length=ps.length->bindArgs (W.fnOf m q (eh s) (cO s) (au s) .none kV doc pm an cdv ct) ⟨us,[]⟩=pure (ps.zip us)):MFn K C m q s ps:=by
 obtain ⟨f,a,i,_,_,_,_,_,_,_,_,_,l,c,k⟩:=t
 exact BP a i l c k b
theorem j2 (X:K.In h) (G:h.Ns mainGlobals mg) (cg:W.specialIn K (.builtin "object.__class__") "__get__"=some (some (.builtin "getset_descriptor.__get__"))) (ct:W.takesIn K (.builtin "object.__class__")=some true) (t:jF K C x up):eG K mg C x up:=by
 obtain ⟨a,b,c,d,e,f,g,i,j,k⟩:=t
 exact ⟨W.mg_of X G a,⟨c,d,e,f⟩,b,g,i,cg,ct,j,k⟩
end
theorem ar0 {p:List Value->Prop} (h:p []):∀us:List Value,us.length=0->p us:=fun us e=>by
 cases us with
 | nil=>exact h
 | cons b t=>cases e
theorem arS {p:List Value->Prop}{n:Nat} (h:∀a,∀us:List Value,us.length=n->p (a :: us)):∀us:List Value,us.length=n + 1->p us:=fun us e=>by
 cases us with
 | nil=>cases e
 | cons b t=>exact h b t (Nat.succ.inj e)
theorem ar1 {p:List Value->Prop} (h:∀a0,p [a0]):∀us:List Value,us.length=1->p us:=arS fun a0=>ar0 (h a0)
theorem ar2 {p:List Value->Prop} (h:∀a0 a1,p [a0,a1]):∀us:List Value,us.length=2->p us:=arS fun a0=>arS fun a1=>ar0 (h a0 a1)
theorem ar3 {p:List Value->Prop} (h:∀a0 a1 a2,p [a0,a1,a2]):∀us:List Value,us.length=3->p us:=arS fun a0=>arS fun a1=>arS fun a2=>ar0 (h a0 a1 a2)
theorem ar4 {p:List Value->Prop} (h:∀a0 a1 a2 a3,p [a0,a1,a2,a3]):∀us:List Value,us.length=4->p us:=arS fun a0=>arS fun a1=>arS fun a2=>arS fun a3=>ar0 (h a0 a1 a2 a3)
theorem ar5 {p:List Value->Prop} (h:∀a0 a1 a2 a3 a4,p [a0,a1,a2,a3,a4]):∀us:List Value,us.length=5->p us:=arS fun a0=>arS fun a1=>arS fun a2=>arS fun a3=>arS fun a4=>ar0 (h a0 a1 a2 a3 a4)
theorem ar7 {p:List Value->Prop} (h:∀a0 a1 a2 a3 a4 a5 a6,p [a0,a1,a2,a3,a4,a5,a6]):∀us:List Value,us.length=7->p us:=arS fun a0=>arS fun a1=>arS fun a2=>arS fun a3=>arS fun a4=>arS fun a5=>arS fun a6=>ar0 (h a0 a1 a2 a3 a4 a5 a6)
theorem all_mk {l:W.OpenLaw}{w:World}{K:W.Frag}{h:Heap}{mg:Str->Option Value}{fa:Addr} (A:Adr) (X:K.In h) (G:h.Ns mainGlobals mg) (hfa:mg "law"=some (.ref fa))
 (t1:dY K "is_number" jJ) (t2:dY K "is_good" mv) (t3:dY K "given_cell" jl) (t4:dY K "own_cell" lA)
 (t5:dY K "cells_of" lH) (t6:dY K "reckon" oq) (t7:dY K "round_place" iL) (t8:dY K "ends_of" mK)
 (t9:dY K "run" yO) (t10:dY K "_law_cell_at" iJ) (t11:dY K "_law_mix" mI) (t12:dY K "_law_name" lC)
 (t13:dY K "_law_number" jc) (t14:dY K "_law_thing" jM) (t15:dY K "_law_value" j4) (t16:dY K "_law_kind" lh)
 (t17:dY K "_law_plain" jW) (t18:dY K "_law_block" ke) (t19:dY K "_law_nodes" kx) (t20:dY K "_law_made" lq)
 (t21:dY K "_law_heads" kh) (t22:dY K "_law_drawn" j6) (t23:dY K "_law_program" iq) (t24:dY K "_law_gifts" j8)
 (t25:dY K "_law_taken" kb) (t26:dY K "_law_reckoned" gO) (t27:dY K "_law_do" om) (t28:dY K "_law_do_block" gz)
 (t29:dY K "_law_do_all" i5) (t30:dY K "_law_due" mE) (t31:dY K "_law_same" lu) (t32:dY K "_law_book" k8)
 (t33:dY K "law" pj) (rR:NsI K "all") (oo:NsI K "bool") (pe:NsI K "dict")
 (lT:NsI K "divmod") (k5:NsI K "int") (aB:NsI K "isinstance") (eI:NsI K "len")
 (dE:NsI K "list") (rY:NsI K "min") (cZ:NsI K "range") (nq:NsI K "str")
 (mh:NsI K "tuple") (vw:NsI K "zip") (g_MOST_NUMBER:∃k:Tok,W.nsIn K mainGlobals "MOST_NUMBER"=some (some (.int 999999999999 k))) (g_ROUND:∃k:Tok,W.nsIn K mainGlobals "ROUND"=some (some (.int 1000000000000 k)))
 (cg:W.specialIn K (.builtin "object.__class__") "__get__"=some (some (.builtin "getset_descriptor.__get__"))) (ct:W.takesIn K (.builtin "object.__class__")=some true) (x_Book:jF K A.cb "Book" [A.cb]) (x_Row:jF K A.Row "Row" [A.Row])
 (x_HandRow:jF K A.bM "HandRow" [A.bM,A.Row]) (x_GivenRow:jF K A.aX "GivenRow" [A.aX,A.Row]) (x_OwnRow:jF K A.bG "OwnRow" [A.bG,A.Row]) (x_LetRow:jF K A.b9 "LetRow" [A.b9,A.Row])
 (x_SetRow:jF K A.bX "SetRow" [A.bX,A.Row]) (x_PutRow:jF K A.bP "PutRow" [A.bP,A.Row]) (x_SendRow:jF K A.bp "SendRow" [A.bp,A.Row]) (x_SayRow:jF K A.bJ "SayRow" [A.bJ,A.Row])
 (x_CallRow:jF K A.bI "CallRow" [A.bI,A.Row]) (x_LastRow:jF K A.cB "LastRow" [A.cB,A.Row]) (x_IfRow:jF K A.bQ "IfRow" [A.bQ,A.Row]) (x_LoopRow:jF K A.aW "LoopRow" [A.aW,A.Row])
 (x_DeedRow:jF K A.bq "DeedRow" [A.bq,A.Row]) (x_Program:jF K A.Program "Program" [A.Program]) (x_Run:jF K A.Run "Run" [A.Run]) (m1:fi K A.cb "__init__" "Book.__init__" jO)
 (m2:fi K A.Row "__init__" "Row.__init__" fj) (m3:fi K A.bM "__init__" "HandRow.__init__" gw) (m4:fi K A.aX "__init__" "GivenRow.__init__" fT) (m5:fi K A.bG "__init__" "OwnRow.__init__" hE)
 (m6:fi K A.b9 "__init__" "LetRow.__init__" ij) (m7:fi K A.bX "__init__" "SetRow.__init__" h7) (m8:fi K A.bP "__init__" "PutRow.__init__" hG) (m9:fi K A.bp "__init__" "SendRow.__init__" gu)
 (m10:fi K A.bJ "__init__" "SayRow.__init__" ip) (m11:fi K A.bI "__init__" "CallRow.__init__" gG) (m12:fi K A.cB "__init__" "Row.__init__" fj) (m13:fi K A.bQ "__init__" "IfRow.__init__" jo)
 (m14:fi K A.aW "__init__" "LoopRow.__init__" gr) (m15:fi K A.bq "__init__" "DeedRow.__init__" gL) (m16:fi K A.Program "__init__" "Program.__init__" gy) (m17:fi K A.Run "__init__" "Run.__init__" lD)
 (m18:fi K A.Run "number_at" "Run.number_at" fV) (m19:fi K A.Run "number_for" "Run.number_for" fA) (m20:fi K A.Run "number_told" "Run.number_told" ff) (m21:fi K A.Run "pass_steps" "Run.pass_steps" fw)
 (m22:fi K A.Run "do_rows" "Run.do_rows" gZ) (m23:fi K A.Run "do_row" "Run.do_row" jh) (m24:fi K A.Run "do_put" "Run.do_put" jg) (m25:fi K A.Run "do_call" "Run.do_call" iD)
 (m26:fi K A.Run "do_if" "Run.do_if" kq) (m27:fi K A.Run "do_loop" "Run.do_loop" iB) (n1:NoI K A.cb "letters") (n2:NoI K A.cb "said")
 (n3:NoI K A.cb "trace") (n4:NoI K A.cb "steps") (n5:NoI K A.cb "ends") (n6:NoI K A.bM "name")
 (n7:NoI K A.bM "rank") (n8:NoI K A.bM "number") (n9:NoI K A.aX "name") (n10:NoI K A.aX "rank")
 (n11:NoI K A.aX "size") (n12:NoI K A.aX "number") (n13:NoI K A.bG "name") (n14:NoI K A.bG "size")
 (n15:NoI K A.bG "number") (n16:NoI K A.b9 "name") (n17:NoI K A.b9 "rank") (n18:NoI K A.b9 "number")
 (n19:NoI K A.bX "name") (n20:NoI K A.bX "value") (n21:NoI K A.bX "number") (n22:NoI K A.bP "name")
 (n23:NoI K A.bP "place") (n24:NoI K A.bP "value") (n25:NoI K A.bP "number") (n26:NoI K A.bp "name")
 (n27:NoI K A.bp "value") (n28:NoI K A.bp "number") (n29:NoI K A.bJ "name") (n30:NoI K A.bJ "value")
 (n31:NoI K A.bJ "mark") (n32:NoI K A.bJ "number") (n33:NoI K A.bI "name") (n34:NoI K A.bI "things")
 (n35:NoI K A.bI "number") (n36:NoI K A.cB "number") (n37:NoI K A.bQ "value") (n38:NoI K A.bQ "first")
 (n39:NoI K A.bQ "other") (n40:NoI K A.bQ "left") (n41:NoI K A.bQ "right") (n42:NoI K A.bQ "number")
 (n43:NoI K A.aW "thing") (n44:NoI K A.aW "most") (n45:NoI K A.aW "body") (n46:NoI K A.aW "left")
 (n47:NoI K A.aW "right") (n48:NoI K A.aW "number") (n49:NoI K A.bq "name") (n50:NoI K A.bq "parts")
 (n51:NoI K A.bq "body") (n52:NoI K A.bq "number") (n53:NoI K A.Program "heads") (n54:NoI K A.Program "deeds")
 (n55:NoI K A.Program "main") (n56:NoI K A.Run "deeds") (n57:NoI K A.Run "cells") (n58:NoI K A.Run "book")
 (y_Row_init:W.specialIn K (.ref A.Row) "__getattribute__"=some (some (.builtin "type.__getattribute__"))/\W.readsIn K A.Row (.type "type")=true/\∃f,W.findIn K (.ref A.Row) "__init__"=some (some (.ref f))/\W.findCls K (.ref A.Row) (.type "type") "__init__"=some (.val (.ref f))) (nod:[A.cb,A.Row,A.bM,A.aX,A.bG,A.b9,A.bX,A.bP,A.bp,A.bJ,A.bI,A.cB,A.bQ,A.aW,A.bq,A.Program,A.Run].Nodup)
:∃fd:FuncData,(∀(s:Shared) (v:Value),BindsTo s fd ⟨[v],[]⟩ [("_law_script",v)])/\∀base:Heap,K.In base->base.Ns mainGlobals mg->kL l.prog w K mg base CX0 80 fa fd ["_law_script"] (qH K):=by
 have T:Txt K mg A:={
  qq:=eE X G t1 fun _ _ _ _ _ _=>ar1 fun _=>rfl,vk:=eE X G t2 fun _ _ _ _ _ _=>ar2 fun _ _=>rfl,oX:=eE X G t3 fun _ _ _ _ _ _=>ar2 fun _ _=>rfl,
  tq:=eE X G t4 fun _ _ _ _ _ _=>ar1 fun _=>rfl,sT:=eE X G t5 fun _ _ _ _ _ _=>ar2 fun _ _=>rfl,reckon:=eE X G t6 fun _ _ _ _ _ _=>ar3 fun _ _ _=>rfl,
  nh:=eE X G t7 fun _ _ _ _ _ _=>ar2 fun _ _=>rfl,uS:=eE X G t8 fun _ _ _ _ _ _=>ar2 fun _ _=>rfl,run:=eE X G t9 fun _ _ _ _ _ _=>ar2 fun _ _=>rfl,
  mT:=eE X G t10 fun _ _ _ _ _ _=>ar2 fun _ _=>rfl,uR:=eE X G t11 fun _ _ _ _ _ _=>ar2 fun _ _=>rfl,sI:=eE X G t12 fun _ _ _ _ _ _=>ar2 fun _ _=>rfl,
  oz:=eE X G t13 fun _ _ _ _ _ _=>ar1 fun _=>rfl,qm:=eE X G t14 fun _ _ _ _ _ _=>ar2 fun _ _=>rfl,qx:=eE X G t15 fun _ _ _ _ _ _=>ar3 fun _ _ _=>rfl,
  sQ:=eE X G t16 fun _ _ _ _ _ _=>ar4 fun _ _ _ _=>rfl,qk:=eE X G t17 fun _ _ _ _ _ _=>ar3 fun _ _ _=>rfl,mH:=eE X G t18 fun _ _ _ _ _ _=>ar5 fun _ _ _ _ _=>rfl,
  qp:=eE X G t19 fun _ _ _ _ _ _=>ar3 fun _ _ _=>rfl,oT:=eE X G t20 fun _ _ _ _ _ _=>ar1 fun _=>rfl,pX:=eE X G t21 fun _ _ _ _ _ _=>ar2 fun _ _=>rfl,
  qf:=eE X G t22 fun _ _ _ _ _ _=>ar1 fun _=>rfl,nr:=eE X G t23 fun _ _ _ _ _ _=>ar2 fun _ _=>rfl,qd:=eE X G t24 fun _ _ _ _ _ _=>ar3 fun _ _ _=>rfl,
  qh:=eE X G t25 fun _ _ _ _ _ _=>ar2 fun _ _=>rfl,lL:=eE X G t26 fun _ _ _ _ _ _=>ar2 fun _ _=>rfl,xG:=eE X G t27 fun _ _ _ _ _ _=>ar2 fun _ _=>rfl,
  lY:=eE X G t28 fun _ _ _ _ _ _=>ar2 fun _ _=>rfl,lj:=eE X G t29 fun _ _ _ _ _ _=>ar2 fun _ _=>rfl,u5:=eE X G t30 fun _ _ _ _ _ _=>ar3 fun _ _ _=>rfl,
  pd:=eE X G t31 fun _ _ _ _ _ _=>ar2 fun _ _=>rfl,si:=eE X G t32 fun _ _ _ _ _ _=>ar3 fun _ _ _=>rfl,rR:=W.mg_none_of X G rR,
  oo:=W.mg_none_of X G oo,pe:=W.mg_none_of X G pe,lT:=W.mg_none_of X G lT,
  k5:=W.mg_none_of X G k5,aB:=W.mg_none_of X G aB,eI:=W.mg_none_of X G eI,
  dE:=W.mg_none_of X G dE,rY:=W.mg_none_of X G rY,cZ:=W.mg_none_of X G cZ,
  nq:=W.mg_none_of X G nq,mh:=W.mg_none_of X G mh,vw:=W.mg_none_of X G vw,
  kP:=g_MOST_NUMBER.imp fun _ e=>W.mg_of X G e,nK:=g_ROUND.imp fun _ e=>W.mg_of X G e,cq:=j2 X G cg ct x_Book,
  mX:=fq m1 fun _ _ _ _ _ _=>ar1 fun _=>rfl,eW:=n1,gW:=n2,
  fY:=n3,cY:=n4,dS:=n5,
  iT:=j2 X G cg ct x_Row,oh:=fq m2 fun _ _ _ _ _ _=>ar2 fun _ _=>rfl,cH:=j2 X G cg ct x_HandRow,
  j7:=fq m3 fun _ _ _ _ _ _=>ar4 fun _ _ _ _=>rfl,jQ:=n6,jR:=n7,
  iV:=n8,bh:=j2 X G cg ct x_GivenRow,ju:=fq m4 fun _ _ _ _ _ _=>ar5 fun _ _ _ _ _=>rfl,
  dh:=n9,jD:=n10,cG:=n11,
  gY:=n12,bH:=j2 X G cg ct x_OwnRow,kS:=fq m5 fun _ _ _ _ _ _=>ar4 fun _ _ _ _=>rfl,
  dD:=n13,fF:=n14,jB:=n15,
  dJ:=j2 X G cg ct x_LetRow,kR:=fq m6 fun _ _ _ _ _ _=>ar4 fun _ _ _ _=>rfl,kX:=n16,
  kW:=n17,jC:=n18,bO:=j2 X G cg ct x_SetRow,
  k6:=fq m7 fun _ _ _ _ _ _=>ar4 fun _ _ _ _=>rfl,ik:=n19,gK:=n20,
  fP:=n21,bC:=j2 X G cg ct x_PutRow,kT:=fq m8 fun _ _ _ _ _ _=>ar5 fun _ _ _ _ _=>rfl,
  hJ:=n22,gM:=n23,gB:=n24,
  fN:=n25,aQ:=j2 X G cg ct x_SendRow,kA:=fq m9 fun _ _ _ _ _ _=>ar4 fun _ _ _ _=>rfl,
  gm:=n26,fR:=n27,er:=n28,
  aR:=j2 X G cg ct x_SayRow,kO:=fq m10 fun _ _ _ _ _ _=>ar5 fun _ _ _ _ _=>rfl,iy:=n29,
  gN:=n30,iK:=n31,eM:=n32,
  aY:=j2 X G cg ct x_CallRow,kF:=fq m11 fun _ _ _ _ _ _=>ar4 fun _ _ _ _=>rfl,gp:=n33,
  fm:=n34,fC:=n35,aS:=j2 X G cg ct x_LastRow,
  j9:=fq m12 fun _ _ _ _ _ _=>ar2 fun _ _=>rfl,fo:=n36,bz:=j2 X G cg ct x_IfRow,
  lP:=fq m13 fun _ _ _ _ _ _=>ar7 fun _ _ _ _ _ _ _=>rfl,iI:=n37,iA:=n38,
  iO:=n39,je:=n40,iw:=n41,
  gH:=n42,aN:=j2 X G cg ct x_LoopRow,jT:=fq m14 fun _ _ _ _ _ _=>ar7 fun _ _ _ _ _ _ _=>rfl,
  fO:=n43,eY:=n44,gJ:=n45,
  gI:=n46,fQ:=n47,ft:=n48,
  cQ:=j2 X G cg ct x_DeedRow,kg:=fq m15 fun _ _ _ _ _ _=>ar5 fun _ _ _ _ _=>rfl,gD:=n49,
  eP:=n50,gE:=n51,iR:=n52,
  dz:=j2 X G cg ct x_Program,jN:=fq m16 fun _ _ _ _ _ _=>ar4 fun _ _ _ _=>rfl,eK:=n53,
  eN:=n54,gq:=n55,bS:=j2 X G cg ct x_Run,
  oV:=fq m17 fun _ _ _ _ _ _=>ar3 fun _ _ _=>rfl,jx:=fq m18 fun _ _ _ _ _ _=>ar2 fun _ _=>rfl,iQ:=fq m19 fun _ _ _ _ _ _=>ar2 fun _ _=>rfl,
  gS:=fq m20 fun _ _ _ _ _ _=>ar2 fun _ _=>rfl,iU:=fq m21 fun _ _ _ _ _ _=>ar2 fun _ _=>rfl,iz:=fq m22 fun _ _ _ _ _ _=>ar2 fun _ _=>rfl,
  lX:=fq m23 fun _ _ _ _ _ _=>ar2 fun _ _=>rfl,lS:=fq m24 fun _ _ _ _ _ _=>ar2 fun _ _=>rfl,iF:=fq m25 fun _ _ _ _ _ _=>ar2 fun _ _=>rfl,
  jX:=fq m26 fun _ _ _ _ _ _=>ar2 fun _ _=>rfl,iG:=fq m27 fun _ _ _ _ _ _=>ar2 fun _ _=>rfl,gU:=n56,
  cM:=n57,gk:=n58,bV:=⟨y_Row_init.1,y_Row_init.2.1,y_Row_init.2.2⟩,
  nd:=nod }
 have F:b8 K mg "law" pj ["_law_script"]:=eE X G t33 fun _ _ _ _ _ _=>ar1 fun _=>rfl
 obtain ⟨f,a,oc,od,kV,dc,pm,an,cd,ct,sl,lk,_,_⟩:=t33
 refine ⟨W.fnOf "law" "law" (eh pj) (cO pj) (au pj) .none kV dc pm an cd ct,fun s v=>.of_eq rfl,fun base _ _=>?_⟩
 have e:=hfa.symm.trans (W.mg_of X G a)
 cases e
 exact Bl (CP (P:=l.prog) (w:=w) (base:=base) T F) (W.mg_of X G a) lk
theorem walk {l:W.OpenLaw}{q:Program}{loose:List Str}{XP:(Str->Option Value)->Heap->Prop}{YP:World->Heap->Prop}{d:DefRec}{K:Params->W.Frag} (hn:l.most=some 63) (hdf:d.params.defaults=[]) (hY:∀(w:World) (h:Heap),YP w h->(K w.params).In h)
  (F:∀(w:World) (mg:Str->Option Value) (fa:Addr) (h:Heap),(K w.params).In h->h.Ns mainGlobals mg->mg d.name=some (.ref fa)->∃fd:FuncData,(∀(s:Shared) (u:Value),BindsTo s fd ⟨[u],[]⟩ [("_law_script",u)])/\∀base:Heap,(K w.params).In base->base.Ns mainGlobals mg->kL l.prog w (K w.params) mg base CX0 80 fa fd ["_law_script"] (qH (K w.params))) :
  W.WalkO q loose XP YP l.row.toRowW d [] (fun f vs=>PySem.call f vs) :=
 L2.zp (n:=63) (k:=80) (x:="_law_script") (CX:=fun _=>CX0) (sp:=fun w=>qH (K w.params)) hn (by decide) hdf ⟨rfl,by decide,by decide⟩ hY F (fun _ _ a ns hl _ hS=>⟨a,ns,rfl,hS,hl,fun _=>rfl⟩) fun _ _ _ _ _ z=>z
end K28
open PySem PySem.W PyProof.Rows
set_option maxRecDepth 100000 in
set_option maxHeartbeats 0 in
theorem PySem.Challenge.cw_hushrow_k28_whole_runs_holds : PySem.Challenge.rw_hushrow_k28_whole_runs.Holds := by
 w_on;o_law
 refine W.holds_open (q:=K28.mw) (loose:=[]) (Xt:=K28.test) (XP:=W.XL K28.mw []) (Yf:=(W.kHook K28.heapK K28.nc K28.iW).obs) (Ya:=(W.kHook K28.heapK K28.nc K28.iW).val) (YP:=(W.kHook K28.heapK K28.nc K28.iW).says) (N:=13674) K28.left (W.kHook K28.heapK K28.nc K28.iW).of (W.kHook K28.heapK K28.nc K28.iW).keeps
  (fun s e=>W.xl_of s (Bool.and_eq_true_iff.mp e).1) W.XL.keeps (by rfl) (by rfl) (by rfl) (fun s e=>W.recFacts_of (Bool.and_eq_true_iff.mp e).2) ?h4 ?h5 ?h6 ⟨rfl,rfl,rfl,rfl,rfl,by decide +kernel⟩ ?hw ?hc
 (case h4=>rfl);(case h5=>first | assumption | decide +kernel);(case h6=>decide +kernel);(case hw=>w_witness2)
 k_fill
 refine K28.walk (l:=PySem.Challenge.rw_hushrow_k28_whole_runs) rfl rfl (fun w h Y=>W.kIn_of Y) ?F
 case F =>
  intro w mg fa h KX G hmg
  refine K28.all_mk ⟨38,105,133,159,185,211,251,291,324,364,397,416,449,482,508,527,663⟩ KX G hmg ?_ ?_ ?_ ?_ ?_ ?_ ?_ ?_ ?_ ?_ ?_ ?_ ?_ ?_ ?_ ?_ ?_ ?_ ?_ ?_ ?_ ?_ ?_ ?_ ?_ ?_ ?_ ?_ ?_ ?_ ?_ ?_ ?_ ?_ ?_ ?_ ?_ ?_ ?_ ?_ ?_ ?_ ?_ ?_ ?_ ?_ ?_ ?_ ?_ ?_ ?_ ?_ ?_ ?_ ?_ ?_ ?_ ?_ ?_ ?_ ?_ ?_ ?_ ?_ ?_ ?_ ?_ ?_ ?_ ?_ ?_ ?_ ?_ ?_ ?_ ?_ ?_ ?_ ?_ ?_ ?_ ?_ ?_ ?_ ?_ ?_ ?_ ?_ ?_ ?_ ?_ ?_ ?_ ?_ ?_ ?_ ?_ ?_ ?_ ?_ ?_ ?_ ?_ ?_ ?_ ?_ ?_ ?_ ?_ ?_ ?_ ?_ ?_ ?_ ?_ ?_ ?_ ?_ ?_ ?_ ?_ ?_ ?_ ?_ ?_ ?_ ?_ ?_ ?_ ?_ ?_ ?_ ?_ ?_ ?_ ?_ ?_ ?_ ?_ ?_ ?_ ?_ ?_ ?_ ?_ ?_ ?_ ?_ ?_ ?_ ?_ ?_ ?_ ?_
  iterate 33 exact ⟨_,by k_is,_,_,_,_,_,_,_,_,_,by k_is,by k_is,by k_is⟩
  iterate 13 (show _=_;k_is)
  iterate 2 exact ⟨_,by k_is⟩
  iterate 2 (show _=_;k_is)
  iterate 17 exact ⟨by k_is,⟨_,by k_is,rfl⟩,by k_is,by k_is,by k_is,by k_is,by k_is,by k_is,by k_is,by k_is⟩
  iterate 27 exact ⟨_,by k_is,by k_is,_,_,_,_,_,_,_,_,_,by k_is,by k_is,by k_is⟩
  iterate 58 (show _=_;k_is)
  iterate 1 exact ⟨by k_is,by k_is,_,by k_is,by k_is⟩
  iterate 1 decide
