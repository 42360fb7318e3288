import PyProof.Rows.All
import Wide.All
import OpenK.AllK
import Wide.FinOn
import Lean
import PyProof.EqAt
import PyProof.EqKinds
import PyProof.TupleCall
import PyProof.AttrMissSeq
import KE.KDictList
import PyProof.WalksEnum
import PyProof.EnumMake
import PyProof.ZipIter
import PyProof.Rows.ZipGen
import PyProof.Rows.SumAny
import PyProof.DictUpdate
import KE.KRevSl
import PySem.Challenge.RW_hushrow_k27_most_and_exact_steps
set_option Elab.async false
set_option linter.all false
set_option maxRecDepth 100000
namespace Hd
open PySem PySem.W PySem.Calls PyProof.Rows
def rb (tb:String->Option Builtin) (p:Program) (w:World) (n₀:Nat) (ann:Option Value):Nat->SharedT->Thread->Option SharedT
 | 0,_,_=>none
 | n + 1,s,t=>match through t with
  | true=>some s
  | false=>match stepOk n₀ ann t with
   | false=>none
   | true=>match stepT (denote tb) p w s t with
    | some (s',t')=>rb tb p w n₀ ann n s' t'
    | none=>none
theorem xx {tb:String->Option Builtin}{p:Program}{w:World}{n₀:Nat}{ann:Option Value}:∀{n:Nat}{s s':SharedT}{t:Thread},
  rb tb p w n₀ ann n s t=some s'->topRun tb p w n₀ ann n s.abs t=some s'.abs
 | 0,_,_,_,h=>by cases h
 | n + 1,s,s',t,h=>by
  unfold rb at h
  unfold topRun
  cases he:through t with
  | true=>rw [he] at h;cases h;rfl
  | false =>
   rw [he] at h
   cases hk:stepOk n₀ ann t with
   | false=>rw [hk] at h;cases h
   | true =>
    rw [hk] at h
    cases hs:stepT (denote tb) p w s t with
    | none=>rw [hs] at h;cases h
    | some r=>obtain ⟨s₂,t₂⟩:=r;rw [hs] at h;rw [stepT_spec hs];exact xx h
def Cs (p q:Program) (loose:List Str) (Xt:Shared->Bool) {α:Type} (Yf:Shared->α) (g0:Bool) (H:Heap) (s:Shared) :=
 (staticsOk (importedModules p.main.body) H s.heap && namesBound p s.heap && gensDone s && laidKept H s.heap,openSeen q loose (importedModules p.main.body) Xt g0 s,Yf s)
def xN (p q:Program) (loose:List Str) (Xt:Shared->Bool) (g0:Bool) (H:Heap) (s:Shared) :=
 (staticsOk (importedModules p.main.body) H s.heap && namesBound p s.heap && gensDone s && laidKept H s.heap,openSeen q loose (importedModules p.main.body) Xt g0 s)
def treeOf:List Obj->Nat->BT->BT
 | [],_,t=>t
 | o :: r,i,t=>treeOf r (i + 1) (t.ins i o)
theorem zD {p q:Program}{loose:List Str}{Xt:Shared->Bool}{α:Type}{Yf:Shared->α}{Ya:World->α}{N:Nat}{g0:Bool}{H₀:Params->Heap}{gs₀:Array GenState}{d₀:Drawn}{k₀ m₀ n₀:Nat}{ann:Option Value}{T₀:Params->BT}{life:Life}
  (opn:∀w:World,(fencedOpening treeTable p w N).map (fun s=>(s.heap,s.gens,s.drawn,s.toks))=some (H₀ w.params,gs₀,d₀,k₀))
  (size:∀w:World,((H₀ w.params).isNs mainGlobals && gs₀.size == 0,(H₀ w.params).objs.size,(H₀ w.params).nsMap mainGlobals "__annotations__")=(true,m₀,ann))
  (tree:∀P:Params,absHeap (T₀ P) n₀ life=H₀ P)
  (look:∀(w:World) (os:OsState),(rb treeTable p w m₀ ann N ⟨T₀ w.params,n₀,life,gs₀,d₀,k₀,os⟩ (topStub p)).map (fun s=>Cs p q loose Xt Yf g0 (H₀ w.params) s.abs)=some (true,openGood q loose,Ya w)) :
  LeftO p q loose Xt Yf Ya N g0:=fun w=>by
 obtain ⟨⟨h,gs,d,k,os⟩,e,e'⟩:=Option.map_eq_some_iff.mp (opn w)
 obtain ⟨rfl,rfl,rfl,rfl⟩:h=H₀ w.params/\gs=gs₀/\d=d₀/\k=k₀:=by simpa using e'
 obtain ⟨z1,z2,z3⟩:_/\_/\_:=by simpa only [Prod.mk.injEq] using size w
 obtain ⟨s,hs,hl⟩:=Option.map_eq_some_iff.mp (look w os)
 obtain ⟨l1,l23⟩:=Prod.mk.inj hl
 obtain ⟨l2,l3⟩:=Prod.mk.inj l23
 have r:=xx hs
 have t:topFrom treeTable p w N ⟨H₀ w.params,gs,d,k,os⟩=some s.abs:=by
  unfold topFrom
  dsimp only
  rw [z1,z2,z3]
  unfold SharedT.abs at r
  dsimp only at r
  rw [tree w.params] at r
  show (topRun treeTable p w m₀ ann N ⟨H₀ w.params,gs,d,k,os⟩ (topStub p)).bind _=_
  rw [r]
  show (match staticsOk (importedModules p.main.body) (H₀ w.params) s.abs.heap && namesBound p s.abs.heap && gensDone s.abs && laidKept (H₀ w.params) s.abs.heap with | true=>_ | false=>_)=_
  rw [l1]
  rfl
 unfold openEnds
 rw [e]
 show (topFrom treeTable p w N _).map _=_
 rw [t]
 exact congrArg some (Prod.ext l2 l3)
theorem xA {p q:Program}{loose:List Str}{Xt:Shared->Bool}{α:Type}{Yf:Shared->α}{Ya:World->α}{N:Nat}{g0:Bool}{H₀:Params->Heap}{gs₀:Array GenState}{d₀:Drawn}{k₀ m₀ n₀:Nat}{ann:Option Value}{T₀:Params->BT}{life:Life}
  (opn:∀w:World,(fencedOpening treeTable p w N).map (fun s=>(s.heap,s.gens,s.drawn,s.toks))=some (H₀ w.params,gs₀,d₀,k₀))
  (size:∀w:World,((H₀ w.params).isNs mainGlobals && gs₀.size == 0,(H₀ w.params).objs.size,(H₀ w.params).nsMap mainGlobals "__annotations__")=(true,m₀,ann))
  (tree:∀P:Params,absHeap (T₀ P) n₀ life=H₀ P)
  (look1:∀(w:World) (os:OsState),(rb treeTable p w m₀ ann N ⟨T₀ w.params,n₀,life,gs₀,d₀,k₀,os⟩ (topStub p)).map (fun s=>xN p q loose Xt g0 (H₀ w.params) s.abs)=some (true,openGood q loose))
  (look2:∀(w:World) (os:OsState),(rb treeTable p w m₀ ann N ⟨T₀ w.params,n₀,life,gs₀,d₀,k₀,os⟩ (topStub p)).map (fun s=>Yf s.abs)=some (Ya w)) :
  LeftO p q loose Xt Yf Ya N g0:=zD opn size tree fun w os=>by
 obtain ⟨s,hs,h1⟩:=Option.map_eq_some_iff.mp (look1 w os)
 have h2:=look2 w os
 rw [hs] at h2 ⊢
 exact congrArg some (Prod.ext (Prod.mk.inj h1).1 (Prod.ext (Prod.mk.inj h1).2 (Option.some.inj h2)))
end Hd
namespace L2
open PySem PySem.Spec PyProof.Rows
def inClass (s:Stmt) (j:Nat):Stmt:=match s with
 | .ClassDef _ _ _ body _ _ _ _ _ _ _=>body.getD j (.Pass ⟨0,0,0,0⟩)
 | _=>.Pass ⟨0,0,0,0⟩
def d7 (s:Stmt):Arguments:=match s with
 | .FunctionDef _ a _ _ _ _ _ _ _ _=>a
 | _=>{ posonlyargs:=[],args:=[],vararg:=none,kwonlyargs:=[],kw_defaults:=[],kwarg:=none,defaults:=[] }
def cY (s:Stmt):List Stmt:=match s with
 | .FunctionDef _ _ b _ _ _ _ _ _ _=>b
 | _=>[]
def aq (s:Stmt):Scope:=match s with
 | .FunctionDef _ _ _ _ _ _ sc _ _ _=>sc
 | _=>{ kind:=.function,names:=[],isGenerator:=false,isCoroutine:=false }
end L2
namespace K27
open PySem
def top (i:Nat):Stmt:=PySem.Challenge.pw_hushrow_k27_most_and_exact_steps.main.body.getD i (.Pass ⟨0,0,0,0⟩)
end K27
set_option maxHeartbeats 0
namespace K27
open PySem L2 PySem.W
noncomputable abbrev E (P:Params) (x:Str) (t:Nat) (v:Value):DictEntry:=⟨PyData.keyHash P x,.str x t,v⟩
noncomputable abbrev CO (n q:Str) (t:Nat) (l a:Int) (r:Nat) (m:Nat):Obj:=⟨.type "code",none,.fields #[.str n t,.str q (t + 1),.str "/claim/cut.py" (t + 2),.int l 0,.int a 0,.int 0 0,.int 0 0,.int 3 0,.ref r,.bool true,.int 181 0,.ref (r + 1),.none,.ref (r + 2),.ref (r + 3),.ref (r + 4),.int m 0,.int l 0,.str "/claim/cut.py" (m + 1)],#[]⟩
noncomputable abbrev FU (n q:Str) (s:Stmt) (m:Str) (t c:Nat):Obj:=⟨.type "function",none,.func (W.fnOf n q (d7 s) (cY s) (aq s) .none .none .none (.str m t) none (.ref c) .none),#[]⟩
noncomputable def heapK (P:Params):W.Frag :=
 (nat_lit 2,⟨.none,none,.dict #[] 0,#[]⟩) ::
 (nat_lit 3,⟨(.type "dict"),none,.dict #[E P "__name__" 165 (.str "law_hushrow_k27_most_and_exact_steps" 1186),E P "__doc__" 166 .none,E P "__package__" 167 .none,E P "__loader__" 168 (.builtin "__main__.__loader__#opaque"),E P "__spec__" 169 .none,E P "__annotations__" 170 (.ref 6),E P "__builtins__" 171 (.ref 4),E P "__file__" 173 (.str "/claim/cut.py" 172),E P "__cached__" 174 .none,E P "_wall" 193 (.ref 21),E P "Book" 227 (.ref 38),E P "HushError" 247 (.ref 52),E P "NoGift" 272 (.ref 72),E P "Row" 317 (.ref 105),E P "HandRow" 352 (.ref 133),E P "GivenRow" 389 (.ref 159),E P "OwnRow" 424 (.ref 185),E P "LetRow" 459 (.ref 211),E P "SetRow" 508 (.ref 251),E P "PutRow" 559 (.ref 291),E P "SendRow" 601 (.ref 324),E P "SayRow" 652 (.ref 364),E P "CallRow" 694 (.ref 397),E P "LastRow" 717 (.ref 416),E P "IfRow" 765 (.ref 449),E P "LoopRow" 813 (.ref 482),E P "DeedRow" 850 (.ref 508),E P "Program" 883 (.ref 527),E P "MOST_NUMBER" 887 (.int (999999999999) 886),E P "is_number" 894 (.ref 538),E P "is_good" 900 (.ref 543),E P "given_cell" 909 (.ref 550),E P "own_cell" 916 (.ref 557),E P "cells_of" 928 (.ref 564),E P "ROUND" 932 (.int (1000000000000) 931),E P "reckon" 941 (.ref 571),E P "round_place" 949 (.ref 578),E P "Run" 1074 (.ref 663),E P "ends_of" 1080 (.ref 672),E P "run" 1090 (.ref 679),E P "most_of" 1098 (.ref 684),E P "most_of_row" 1108 (.ref 691),E P "exact_of" 1119 (.ref 698),E P "exact_of_row" 1127 (.ref 705),E P "one_more" 1134 (.ref 712),E P "exact_of_if" 1144 (.ref 719),E P "exact_of_loop" 1153 (.ref 726),E P "mosts" 1162 (.ref 733),E P "exacts" 1171 (.ref 740),E P "most" 1178 (.ref 747),E P "exact" 1185 (.ref 754),E P "_law_cell_at" 1195 (.ref 761),E P "_law_mix" 1206 (.ref 768),E P "_law_name" 1220 (.ref 775),E P "_law_number" 1227 (.ref 782),E P "_law_thing" 1235 (.ref 789),E P "_law_value" 1246 (.ref 796),E P "_law_kind" 1258 (.ref 803),E P "_law_plain" 1264 (.ref 808),E P "_law_cost" 1276 (.ref 815),E P "_law_two" 1288 (.ref 822),E P "_law_idles" 1301 (.ref 829),E P "_law_block" 1319 (.ref 836),E P "_law_nodes" 1331 (.ref 843),E P "_law_made" 1341 (.ref 850),E P "_law_heads" 1351 (.ref 857),E P "_law_drawn" 1357 (.ref 862),E P "_law_program" 1370 (.ref 869),E P "_law_gifts" 1376 (.ref 874),E P "_law_whole" 1383 (.ref 881),E P "_law_within" 1393 (.ref 888),E P "law" 1405 (.ref 895)] 72,#[]⟩) ::
 (nat_lit 34,CO "__init__" "Book.__init__" 208 7 1 29 212) ::
 (nat_lit 35,FU "__init__" "Book.__init__" (inClass (top 2) 0) "hushrow.books" 194 34) ::
 (nat_lit 37,⟨(.type "dict"),none,.dict #[E P "__module__" 203 (.str "hushrow.books" 194),E P "__firstlineno__" 207 (.int (5) 206),E P "__init__" 214 (.ref 35),E P "__static_attributes__" 220 (.ref 36),E P "__dict__" 222 (.ref 39),E P "__weakref__" 224 (.ref 40),E P "__doc__" 225 .none] 4,#[]⟩) ::
 (nat_lit 38,⟨(.type "type"),none,.cls { name:="Book",bases:=[(.type "object")],mro:=[(.ref 38),(.type "object")],ns:=37,qualname:="Book",hasDict:=true,slotNames:=[],subclasses:=[],abstract:=false,collection:=none,hasDel:=false },#[none,none,(some (.str "Book" 196)),(some (.str "Book" 204)),(some (.builtin "object.__new__")),(some (.bool true))]⟩) ::
 (nat_lit 39,⟨(.type "getset_descriptor"),none,.fields #[(.str "__dict__" 221),(.ref 38),(.builtin "function.__dict__"),(.builtin "function.__dict__#set")],#[]⟩) ::
 (nat_lit 40,⟨(.type "getset_descriptor"),none,.fields #[(.str "__weakref__" 223),(.ref 38),(.builtin "ExceptionGroup.__weakref__"),.none],#[]⟩) ::
 (nat_lit 51,⟨(.type "dict"),none,.dict #[E P "__module__" 237 (.str "hushrow.errors" 228),E P "__firstlineno__" 241 (.int (14) 240),E P "__static_attributes__" 242 (.ref 50),E P "__weakref__" 244 (.ref 53),E P "__doc__" 245 .none] 3,#[]⟩) ::
 (nat_lit 52,⟨(.type "type"),none,.cls { name:="HushError",bases:=[(.type "ValueError")],mro:=[(.ref 52),(.type "ValueError"),(.type "Exception"),(.type "BaseException"),(.type "object")],ns:=51,qualname:="HushError",hasDict:=true,slotNames:=[],subclasses:=[(.ref 72)],abstract:=false,collection:=none,hasDel:=false },#[(some (.ref 43)),none,(some (.str "HushError" 230)),(some (.str "HushError" 238)),(some (.builtin "ValueError.__new__")),(some (.bool true))]⟩) ::
 (nat_lit 53,⟨(.type "getset_descriptor"),none,.fields #[(.str "__weakref__" 243),(.ref 52),(.builtin "ExceptionGroup.__weakref__"),.none],#[]⟩) ::
 (nat_lit 71,⟨(.type "dict"),none,.dict #[E P "__module__" 255 (.str "hushrow.errors" 228),E P "__firstlineno__" 259 (.int (16) 258),E P "__init__" 267 (.ref 69),E P "__static_attributes__" 269 (.ref 70),E P "__doc__" 270 .none] 2,#[]⟩) ::
 (nat_lit 72,⟨(.type "type"),none,.cls { name:="NoGift",bases:=[(.ref 52)],mro:=[(.ref 72),(.ref 52),(.type "ValueError"),(.type "Exception"),(.type "BaseException"),(.type "object")],ns:=71,qualname:="NoGift",hasDict:=true,slotNames:=[],subclasses:=[],abstract:=false,collection:=none,hasDel:=false },#[(some (.ref 56)),none,(some (.str "NoGift" 248)),(some (.str "NoGift" 256)),(some (.builtin "ValueError.__new__")),(some (.bool true))]⟩) ::
 (nat_lit 87,CO "__init__" "Row.__init__" 287 23 2 82 292) ::
 (nat_lit 88,FU "__init__" "Row.__init__" (inClass (top 7) 0) "hushrow.rows" 273 87) ::
 (nat_lit 104,⟨(.type "dict"),none,.dict #[E P "__module__" 282 (.str "hushrow.rows" 273),E P "__firstlineno__" 286 (.int (21) 285),E P "__init__" 294 (.ref 88),E P "reads" 301 (.ref 95),E P "target" 308 (.ref 102),E P "__static_attributes__" 310 (.ref 103),E P "__dict__" 312 (.ref 106),E P "__weakref__" 314 (.ref 107),E P "__doc__" 315 .none] 4,#[]⟩) ::
 (nat_lit 105,⟨(.type "type"),none,.cls { name:="Row",bases:=[(.type "object")],mro:=[(.ref 105),(.type "object")],ns:=104,qualname:="Row",hasDict:=true,slotNames:=[],subclasses:=[(.ref 133),(.ref 159),(.ref 185),(.ref 211),(.ref 251),(.ref 291),(.ref 324),(.ref 364),(.ref 397),(.ref 416),(.ref 449),(.ref 482),(.ref 508)],abstract:=false,collection:=none,hasDel:=false },#[none,none,(some (.str "Row" 275)),(some (.str "Row" 283)),(some (.builtin "object.__new__")),(some (.bool true))]⟩) ::
 (nat_lit 106,⟨(.type "getset_descriptor"),none,.fields #[(.str "__dict__" 311),(.ref 105),(.builtin "function.__dict__"),(.builtin "function.__dict__#set")],#[]⟩) ::
 (nat_lit 107,⟨(.type "getset_descriptor"),none,.fields #[(.str "__weakref__" 313),(.ref 105),(.builtin "ExceptionGroup.__weakref__"),.none],#[]⟩) ::
 (nat_lit 122,CO "__init__" "HandRow.__init__" 330 33 4 117 337) ::
 (nat_lit 123,FU "__init__" "HandRow.__init__" (inClass (top 8) 0) "hushrow.rows" 273 122) ::
 (nat_lit 132,⟨(.type "dict"),none,.dict #[E P "__module__" 325 (.str "hushrow.rows" 273),E P "__firstlineno__" 329 (.int (31) 328),E P "__init__" 339 (.ref 123),E P "shown" 346 (.ref 130),E P "__static_attributes__" 349 (.ref 131),E P "__doc__" 350 .none] 2,#[]⟩) ::
 (nat_lit 133,⟨(.type "type"),none,.cls { name:="HandRow",bases:=[(.ref 105)],mro:=[(.ref 133),(.ref 105),(.type "object")],ns:=132,qualname:="HandRow",hasDict:=true,slotNames:=[],subclasses:=[],abstract:=false,collection:=none,hasDel:=false },#[(some (.ref 110)),none,(some (.str "HandRow" 318)),(some (.str "HandRow" 326)),(some (.builtin "object.__new__")),(some (.bool true))]⟩) ::
 (nat_lit 148,CO "__init__" "GivenRow.__init__" 365 42 5 143 373) ::
 (nat_lit 149,FU "__init__" "GivenRow.__init__" (inClass (top 9) 0) "hushrow.rows" 273 148) ::
 (nat_lit 158,⟨(.type "dict"),none,.dict #[E P "__module__" 360 (.str "hushrow.rows" 273),E P "__firstlineno__" 364 (.int (40) 363),E P "__init__" 375 (.ref 149),E P "shown" 382 (.ref 156),E P "__static_attributes__" 386 (.ref 157),E P "__doc__" 387 .none] 2,#[]⟩) ::
 (nat_lit 159,⟨(.type "type"),none,.cls { name:="GivenRow",bases:=[(.ref 105)],mro:=[(.ref 159),(.ref 105),(.type "object")],ns:=158,qualname:="GivenRow",hasDict:=true,slotNames:=[],subclasses:=[],abstract:=false,collection:=none,hasDel:=false },#[(some (.ref 136)),none,(some (.str "GivenRow" 353)),(some (.str "GivenRow" 361)),(some (.builtin "object.__new__")),(some (.bool true))]⟩) ::
 (nat_lit 174,CO "__init__" "OwnRow.__init__" 402 52 4 169 409) ::
 (nat_lit 175,FU "__init__" "OwnRow.__init__" (inClass (top 10) 0) "hushrow.rows" 273 174) ::
 (nat_lit 184,⟨(.type "dict"),none,.dict #[E P "__module__" 397 (.str "hushrow.rows" 273),E P "__firstlineno__" 401 (.int (50) 400),E P "__init__" 411 (.ref 175),E P "shown" 418 (.ref 182),E P "__static_attributes__" 421 (.ref 183),E P "__doc__" 422 .none] 2,#[]⟩) ::
 (nat_lit 185,⟨(.type "type"),none,.cls { name:="OwnRow",bases:=[(.ref 105)],mro:=[(.ref 185),(.ref 105),(.type "object")],ns:=184,qualname:="OwnRow",hasDict:=true,slotNames:=[],subclasses:=[],abstract:=false,collection:=none,hasDel:=false },#[(some (.ref 162)),none,(some (.str "OwnRow" 390)),(some (.str "OwnRow" 398)),(some (.builtin "object.__new__")),(some (.bool true))]⟩) ::
 (nat_lit 200,CO "__init__" "LetRow.__init__" 437 61 4 195 444) ::
 (nat_lit 201,FU "__init__" "LetRow.__init__" (inClass (top 11) 0) "hushrow.rows" 273 200) ::
 (nat_lit 210,⟨(.type "dict"),none,.dict #[E P "__module__" 432 (.str "hushrow.rows" 273),E P "__firstlineno__" 436 (.int (59) 435),E P "__init__" 446 (.ref 201),E P "shown" 453 (.ref 208),E P "__static_attributes__" 456 (.ref 209),E P "__doc__" 457 .none] 2,#[]⟩) ::
 (nat_lit 211,⟨(.type "type"),none,.cls { name:="LetRow",bases:=[(.ref 105)],mro:=[(.ref 211),(.ref 105),(.type "object")],ns:=210,qualname:="LetRow",hasDict:=true,slotNames:=[],subclasses:=[],abstract:=false,collection:=none,hasDel:=false },#[(some (.ref 188)),none,(some (.str "LetRow" 425)),(some (.str "LetRow" 433)),(some (.builtin "object.__new__")),(some (.bool true))]⟩) ::
 (nat_lit 226,CO "__init__" "SetRow.__init__" 472 70 4 221 479) ::
 (nat_lit 227,FU "__init__" "SetRow.__init__" (inClass (top 12) 0) "hushrow.rows" 273 226) ::
 (nat_lit 250,⟨(.type "dict"),none,.dict #[E P "__module__" 467 (.str "hushrow.rows" 273),E P "__firstlineno__" 471 (.int (68) 470),E P "__init__" 481 (.ref 227),E P "shown" 488 (.ref 234),E P "reads" 495 (.ref 241),E P "target" 502 (.ref 248),E P "__static_attributes__" 505 (.ref 249),E P "__doc__" 506 .none] 2,#[]⟩) ::
 (nat_lit 251,⟨(.type "type"),none,.cls { name:="SetRow",bases:=[(.ref 105)],mro:=[(.ref 251),(.ref 105),(.type "object")],ns:=250,qualname:="SetRow",hasDict:=true,slotNames:=[],subclasses:=[],abstract:=false,collection:=none,hasDel:=false },#[(some (.ref 214)),none,(some (.str "SetRow" 460)),(some (.str "SetRow" 468)),(some (.builtin "object.__new__")),(some (.bool true))]⟩) ::
 (nat_lit 266,CO "__init__" "PutRow.__init__" 521 85 5 261 529) ::
 (nat_lit 267,FU "__init__" "PutRow.__init__" (inClass (top 13) 0) "hushrow.rows" 273 266) ::
 (nat_lit 290,⟨(.type "dict"),none,.dict #[E P "__module__" 516 (.str "hushrow.rows" 273),E P "__firstlineno__" 520 (.int (83) 519),E P "__init__" 531 (.ref 267),E P "shown" 538 (.ref 274),E P "reads" 545 (.ref 281),E P "target" 552 (.ref 288),E P "__static_attributes__" 556 (.ref 289),E P "__doc__" 557 .none] 2,#[]⟩) ::
 (nat_lit 291,⟨(.type "type"),none,.cls { name:="PutRow",bases:=[(.ref 105)],mro:=[(.ref 291),(.ref 105),(.type "object")],ns:=290,qualname:="PutRow",hasDict:=true,slotNames:=[],subclasses:=[],abstract:=false,collection:=none,hasDel:=false },#[(some (.ref 254)),none,(some (.str "PutRow" 509)),(some (.str "PutRow" 517)),(some (.builtin "object.__new__")),(some (.bool true))]⟩) ::
 (nat_lit 306,CO "__init__" "SendRow.__init__" 572 101 4 301 579) ::
 (nat_lit 307,FU "__init__" "SendRow.__init__" (inClass (top 14) 0) "hushrow.rows" 273 306) ::
 (nat_lit 323,⟨(.type "dict"),none,.dict #[E P "__module__" 567 (.str "hushrow.rows" 273),E P "__firstlineno__" 571 (.int (99) 570),E P "__init__" 581 (.ref 307),E P "shown" 588 (.ref 314),E P "reads" 595 (.ref 321),E P "__static_attributes__" 598 (.ref 322),E P "__doc__" 599 .none] 2,#[]⟩) ::
 (nat_lit 324,⟨(.type "type"),none,.cls { name:="SendRow",bases:=[(.ref 105)],mro:=[(.ref 324),(.ref 105),(.type "object")],ns:=323,qualname:="SendRow",hasDict:=true,slotNames:=[],subclasses:=[],abstract:=false,collection:=none,hasDel:=false },#[(some (.ref 294)),none,(some (.str "SendRow" 560)),(some (.str "SendRow" 568)),(some (.builtin "object.__new__")),(some (.bool true))]⟩) ::
 (nat_lit 339,CO "__init__" "SayRow.__init__" 614 113 5 334 622) ::
 (nat_lit 340,FU "__init__" "SayRow.__init__" (inClass (top 15) 0) "hushrow.rows" 273 339) ::
 (nat_lit 363,⟨(.type "dict"),none,.dict #[E P "__module__" 609 (.str "hushrow.rows" 273),E P "__firstlineno__" 613 (.int (111) 612),E P "__init__" 624 (.ref 340),E P "shown" 631 (.ref 347),E P "reads" 638 (.ref 354),E P "target" 645 (.ref 361),E P "__static_attributes__" 649 (.ref 362),E P "__doc__" 650 .none] 2,#[]⟩) ::
 (nat_lit 364,⟨(.type "type"),none,.cls { name:="SayRow",bases:=[(.ref 105)],mro:=[(.ref 364),(.ref 105),(.type "object")],ns:=363,qualname:="SayRow",hasDict:=true,slotNames:=[],subclasses:=[],abstract:=false,collection:=none,hasDel:=false },#[(some (.ref 327)),none,(some (.str "SayRow" 602)),(some (.str "SayRow" 610)),(some (.builtin "object.__new__")),(some (.bool true))]⟩) ::
 (nat_lit 379,CO "__init__" "CallRow.__init__" 665 129 4 374 672) ::
 (nat_lit 380,FU "__init__" "CallRow.__init__" (inClass (top 16) 0) "hushrow.rows" 273 379) ::
 (nat_lit 396,⟨(.type "dict"),none,.dict #[E P "__module__" 660 (.str "hushrow.rows" 273),E P "__firstlineno__" 664 (.int (127) 663),E P "__init__" 674 (.ref 380),E P "shown" 681 (.ref 387),E P "reads" 688 (.ref 394),E P "__static_attributes__" 691 (.ref 395),E P "__doc__" 692 .none] 2,#[]⟩) ::
 (nat_lit 397,⟨(.type "type"),none,.cls { name:="CallRow",bases:=[(.ref 105)],mro:=[(.ref 397),(.ref 105),(.type "object")],ns:=396,qualname:="CallRow",hasDict:=true,slotNames:=[],subclasses:=[],abstract:=false,collection:=none,hasDel:=false },#[(some (.ref 367)),none,(some (.str "CallRow" 653)),(some (.str "CallRow" 661)),(some (.builtin "object.__new__")),(some (.bool true))]⟩) ::
 (nat_lit 415,⟨(.type "dict"),none,.dict #[E P "__module__" 702 (.str "hushrow.rows" 273),E P "__firstlineno__" 706 (.int (139) 705),E P "shown" 713 (.ref 413),E P "__static_attributes__" 714 (.ref 414),E P "__doc__" 715 .none] 2,#[]⟩) ::
 (nat_lit 416,⟨(.type "type"),none,.cls { name:="LastRow",bases:=[(.ref 105)],mro:=[(.ref 416),(.ref 105),(.type "object")],ns:=415,qualname:="LastRow",hasDict:=true,slotNames:=[],subclasses:=[],abstract:=false,collection:=none,hasDel:=false },#[(some (.ref 400)),none,(some (.str "LastRow" 695)),(some (.str "LastRow" 703)),(some (.builtin "object.__new__")),(some (.bool true))]⟩) ::
 (nat_lit 431,CO "__init__" "IfRow.__init__" 730 145 7 426 740) ::
 (nat_lit 432,FU "__init__" "IfRow.__init__" (inClass (top 18) 0) "hushrow.rows" 273 431) ::
 (nat_lit 448,⟨(.type "dict"),none,.dict #[E P "__module__" 725 (.str "hushrow.rows" 273),E P "__firstlineno__" 729 (.int (143) 728),E P "__init__" 742 (.ref 432),E P "shown" 749 (.ref 439),E P "reads" 756 (.ref 446),E P "__static_attributes__" 762 (.ref 447),E P "__doc__" 763 .none] 2,#[]⟩) ::
 (nat_lit 449,⟨(.type "type"),none,.cls { name:="IfRow",bases:=[(.ref 105)],mro:=[(.ref 449),(.ref 105),(.type "object")],ns:=448,qualname:="IfRow",hasDict:=true,slotNames:=[],subclasses:=[],abstract:=false,collection:=none,hasDel:=false },#[(some (.ref 419)),none,(some (.str "IfRow" 718)),(some (.str "IfRow" 726)),(some (.builtin "object.__new__")),(some (.bool true))]⟩) ::
 (nat_lit 464,CO "__init__" "LoopRow.__init__" 778 160 7 459 788) ::
 (nat_lit 465,FU "__init__" "LoopRow.__init__" (inClass (top 19) 0) "hushrow.rows" 273 464) ::
 (nat_lit 481,⟨(.type "dict"),none,.dict #[E P "__module__" 773 (.str "hushrow.rows" 273),E P "__firstlineno__" 777 (.int (158) 776),E P "__init__" 790 (.ref 465),E P "shown" 797 (.ref 472),E P "reads" 804 (.ref 479),E P "__static_attributes__" 810 (.ref 480),E P "__doc__" 811 .none] 2,#[]⟩) ::
 (nat_lit 482,⟨(.type "type"),none,.cls { name:="LoopRow",bases:=[(.ref 105)],mro:=[(.ref 482),(.ref 105),(.type "object")],ns:=481,qualname:="LoopRow",hasDict:=true,slotNames:=[],subclasses:=[],abstract:=false,collection:=none,hasDel:=false },#[(some (.ref 452)),none,(some (.str "LoopRow" 766)),(some (.str "LoopRow" 774)),(some (.builtin "object.__new__")),(some (.bool true))]⟩) ::
 (nat_lit 497,CO "__init__" "DeedRow.__init__" 826 175 5 492 834) ::
 (nat_lit 498,FU "__init__" "DeedRow.__init__" (inClass (top 20) 0) "hushrow.rows" 273 497) ::
 (nat_lit 507,⟨(.type "dict"),none,.dict #[E P "__module__" 821 (.str "hushrow.rows" 273),E P "__firstlineno__" 825 (.int (173) 824),E P "__init__" 836 (.ref 498),E P "shown" 843 (.ref 505),E P "__static_attributes__" 847 (.ref 506),E P "__doc__" 848 .none] 2,#[]⟩) ::
 (nat_lit 508,⟨(.type "type"),none,.cls { name:="DeedRow",bases:=[(.ref 105)],mro:=[(.ref 508),(.ref 105),(.type "object")],ns:=507,qualname:="DeedRow",hasDict:=true,slotNames:=[],subclasses:=[],abstract:=false,collection:=none,hasDel:=false },#[(some (.ref 485)),none,(some (.str "DeedRow" 814)),(some (.str "DeedRow" 822)),(some (.builtin "object.__new__")),(some (.bool true))]⟩) ::
 (nat_lit 523,CO "__init__" "Program.__init__" 863 185 4 518 870) ::
 (nat_lit 524,FU "__init__" "Program.__init__" (inClass (top 21) 0) "hushrow.rows" 273 523) ::
 (nat_lit 526,⟨(.type "dict"),none,.dict #[E P "__module__" 858 (.str "hushrow.rows" 273),E P "__firstlineno__" 862 (.int (183) 861),E P "__init__" 872 (.ref 524),E P "__static_attributes__" 876 (.ref 525),E P "__dict__" 878 (.ref 528),E P "__weakref__" 880 (.ref 529),E P "__doc__" 881 .none] 4,#[]⟩) ::
 (nat_lit 527,⟨(.type "type"),none,.cls { name:="Program",bases:=[(.type "object")],mro:=[(.ref 527),(.type "object")],ns:=526,qualname:="Program",hasDict:=true,slotNames:=[],subclasses:=[],abstract:=false,collection:=none,hasDel:=false },#[none,none,(some (.str "Program" 851)),(some (.str "Program" 859)),(some (.builtin "object.__new__")),(some (.bool true))]⟩) ::
 (nat_lit 528,⟨(.type "getset_descriptor"),none,.fields #[(.str "__dict__" 877),(.ref 527),(.builtin "function.__dict__"),(.builtin "function.__dict__#set")],#[]⟩) ::
 (nat_lit 529,⟨(.type "getset_descriptor"),none,.fields #[(.str "__weakref__" 879),(.ref 527),(.builtin "ExceptionGroup.__weakref__"),.none],#[]⟩) ::
 (nat_lit 537,CO "is_number" "is_number" 888 191 1 532 892) ::
 (nat_lit 538,FU "is_number" "is_number" (top 24) "hushrow.gifts" 884 537) ::
 (nat_lit 542,⟨(.type "code"),none,.fields #[(.str "is_good" 895),(.str "is_good" 896),(.str "/claim/cut.py" 897),(.int (195) 0),(.int (2) 0),(.int (0) 0),(.int (0) 0),(.int (3) 0),(.ref 539),(.bool true),(.int (181) 0),(.ref 540),.none,.none,.none,(.ref 541),(.int (898) 0),(.int (195) 0),(.str "/claim/cut.py" 899)],#[]⟩) ::
 (nat_lit 543,FU "is_good" "is_good" (top 25) "hushrow.gifts" 884 542) ::
 (nat_lit 549,CO "given_cell" "given_cell" 901 199 2 544 907) ::
 (nat_lit 550,FU "given_cell" "given_cell" (top 26) "hushrow.gifts" 884 549) ::
 (nat_lit 556,CO "own_cell" "own_cell" 910 204 1 551 914) ::
 (nat_lit 557,FU "own_cell" "own_cell" (top 27) "hushrow.gifts" 884 556) ::
 (nat_lit 563,CO "cells_of" "cells_of" 917 206 2 558 926) ::
 (nat_lit 564,FU "cells_of" "cells_of" (top 28) "hushrow.gifts" 884 563) ::
 (nat_lit 570,CO "reckon" "reckon" 933 219 3 565 939) ::
 (nat_lit 571,FU "reckon" "reckon" (top 31) "hushrow.sums" 929 570) ::
 (nat_lit 577,CO "round_place" "round_place" 942 233 2 572 947) ::
 (nat_lit 578,FU "round_place" "round_place" (top 32) "hushrow.sums" 929 577) ::
 (nat_lit 591,CO "__init__" "Run.__init__" 964 238 3 586 971) ::
 (nat_lit 592,FU "__init__" "Run.__init__" (inClass (top 34) 0) "hushrow.runner" 950 591) ::
 (nat_lit 598,CO "number_at" "Run.number_at" 974 245 2 593 979) ::
 (nat_lit 599,FU "number_at" "Run.number_at" (inClass (top 34) 1) "hushrow.runner" 950 598) ::
 (nat_lit 605,CO "number_for" "Run.number_for" 982 248 2 600 989) ::
 (nat_lit 606,FU "number_for" "Run.number_for" (inClass (top 34) 2) "hushrow.runner" 950 605) ::
 (nat_lit 612,CO "number_told" "Run.number_told" 992 257 2 607 997) ::
 (nat_lit 613,FU "number_told" "Run.number_told" (inClass (top 34) 3) "hushrow.runner" 950 612) ::
 (nat_lit 619,CO "pass_steps" "Run.pass_steps" 1000 262 2 614 1006) ::
 (nat_lit 620,FU "pass_steps" "Run.pass_steps" (inClass (top 34) 4) "hushrow.runner" 950 619) ::
 (nat_lit 626,CO "do_rows" "Run.do_rows" 1009 266 2 621 1016) ::
 (nat_lit 627,FU "do_rows" "Run.do_rows" (inClass (top 34) 5) "hushrow.runner" 950 626) ::
 (nat_lit 633,CO "do_row" "Run.do_row" 1019 273 2 628 1026) ::
 (nat_lit 634,FU "do_row" "Run.do_row" (inClass (top 34) 6) "hushrow.runner" 950 633) ::
 (nat_lit 640,CO "do_put" "Run.do_put" 1029 295 2 635 1035) ::
 (nat_lit 641,FU "do_put" "Run.do_put" (inClass (top 34) 7) "hushrow.runner" 950 640) ::
 (nat_lit 645,⟨(.type "code"),none,.fields #[(.str "do_call" 1038),(.str "Run.do_call" 1039),(.str "/claim/cut.py" 1040),(.int (299) 0),(.int (2) 0),(.int (0) 0),(.int (0) 0),(.int (3) 0),(.ref 642),(.bool true),(.int (181) 0),(.ref 643),.none,.none,.none,(.ref 644),(.int (1041) 0),(.int (299) 0),(.str "/claim/cut.py" 1042)],#[]⟩) ::
 (nat_lit 646,FU "do_call" "Run.do_call" (inClass (top 34) 8) "hushrow.runner" 950 645) ::
 (nat_lit 652,CO "do_if" "Run.do_if" 1044 306 2 647 1050) ::
 (nat_lit 653,FU "do_if" "Run.do_if" (inClass (top 34) 9) "hushrow.runner" 950 652) ::
 (nat_lit 659,CO "do_loop" "Run.do_loop" 1053 315 2 654 1061) ::
 (nat_lit 660,FU "do_loop" "Run.do_loop" (inClass (top 34) 10) "hushrow.runner" 950 659) ::
 (nat_lit 662,⟨(.type "dict"),none,.dict #[E P "__module__" 959 (.str "hushrow.runner" 950),E P "__firstlineno__" 963 (.int (236) 962),E P "__init__" 973 (.ref 592),E P "number_at" 981 (.ref 599),E P "number_for" 991 (.ref 606),E P "number_told" 999 (.ref 613),E P "pass_steps" 1008 (.ref 620),E P "do_rows" 1018 (.ref 627),E P "do_row" 1028 (.ref 634),E P "do_put" 1037 (.ref 641),E P "do_call" 1043 (.ref 646),E P "do_if" 1052 (.ref 653),E P "do_loop" 1063 (.ref 660),E P "__static_attributes__" 1067 (.ref 661),E P "__dict__" 1069 (.ref 664),E P "__weakref__" 1071 (.ref 665),E P "__doc__" 1072 .none] 4,#[]⟩) ::
 (nat_lit 663,⟨(.type "type"),none,.cls { name:="Run",bases:=[(.type "object")],mro:=[(.ref 663),(.type "object")],ns:=662,qualname:="Run",hasDict:=true,slotNames:=[],subclasses:=[],abstract:=false,collection:=none,hasDel:=false },#[none,none,(some (.str "Run" 952)),(some (.str "Run" 960)),(some (.builtin "object.__new__")),(some (.bool true))]⟩) ::
 (nat_lit 664,⟨(.type "getset_descriptor"),none,.fields #[(.str "__dict__" 1068),(.ref 663),(.builtin "function.__dict__"),(.builtin "function.__dict__#set")],#[]⟩) ::
 (nat_lit 665,⟨(.type "getset_descriptor"),none,.fields #[(.str "__weakref__" 1070),(.ref 663),(.builtin "ExceptionGroup.__weakref__"),.none],#[]⟩) ::
 (nat_lit 671,⟨(.type "code"),none,.fields #[(.str "ends_of" 1075),(.str "ends_of" 1076),(.str "/claim/cut.py" 1077),(.int (325) 0),(.int (2) 0),(.int (0) 0),(.int (0) 0),(.int (3) 0),(.ref 668),(.bool true),(.int (181) 0),(.ref 669),.none,.none,.none,(.ref 670),(.int (1078) 0),(.int (325) 0),(.str "/claim/cut.py" 1079)],#[]⟩) ::
 (nat_lit 672,FU "ends_of" "ends_of" (top 35) "hushrow.runner" 950 671) ::
 (nat_lit 678,CO "run" "run" 1081 327 2 673 1088) ::
 (nat_lit 679,FU "run" "run" (top 36) "hushrow.runner" 950 678) ::
 (nat_lit 683,⟨(.type "code"),none,.fields #[(.str "most_of" 1093),(.str "most_of" 1094),(.str "/claim/cut.py" 1095),(.int (334) 0),(.int (2) 0),(.int (0) 0),(.int (0) 0),(.int (3) 0),(.ref 680),(.bool true),(.int (181) 0),(.ref 681),.none,.none,.none,(.ref 682),(.int (1096) 0),(.int (334) 0),(.str "/claim/cut.py" 1097)],#[]⟩) ::
 (nat_lit 684,FU "most_of" "most_of" (top 38) "hushrow.costs" 1091 683) ::
 (nat_lit 690,CO "most_of_row" "most_of_row" 1099 336 2 685 1106) ::
 (nat_lit 691,FU "most_of_row" "most_of_row" (top 39) "hushrow.costs" 1091 690) ::
 (nat_lit 697,CO "exact_of" "exact_of" 1109 346 2 692 1117) ::
 (nat_lit 698,FU "exact_of" "exact_of" (top 40) "hushrow.costs" 1091 697) ::
 (nat_lit 704,CO "exact_of_row" "exact_of_row" 1120 354 2 699 1125) ::
 (nat_lit 705,FU "exact_of_row" "exact_of_row" (top 41) "hushrow.costs" 1091 704) ::
 (nat_lit 711,CO "one_more" "one_more" 1128 362 1 706 1132) ::
 (nat_lit 712,FU "one_more" "one_more" (top 42) "hushrow.costs" 1091 711) ::
 (nat_lit 718,CO "exact_of_if" "exact_of_if" 1135 364 2 713 1142) ::
 (nat_lit 719,FU "exact_of_if" "exact_of_if" (top 43) "hushrow.costs" 1091 718) ::
 (nat_lit 725,CO "exact_of_loop" "exact_of_loop" 1145 370 2 720 1151) ::
 (nat_lit 726,FU "exact_of_loop" "exact_of_loop" (top 44) "hushrow.costs" 1091 725) ::
 (nat_lit 732,CO "mosts" "mosts" 1154 375 1 727 1160) ::
 (nat_lit 733,FU "mosts" "mosts" (top 45) "hushrow.costs" 1091 732) ::
 (nat_lit 739,CO "exacts" "exacts" 1163 380 1 734 1169) ::
 (nat_lit 740,FU "exacts" "exacts" (top 46) "hushrow.costs" 1091 739) ::
 (nat_lit 746,CO "most" "most" 1172 385 1 741 1176) ::
 (nat_lit 747,FU "most" "most" (top 47) "hushrow.costs" 1091 746) ::
 (nat_lit 753,CO "exact" "exact" 1179 387 1 748 1183) ::
 (nat_lit 754,FU "exact" "exact" (top 48) "hushrow.costs" 1091 753) ::
 (nat_lit 760,CO "_law_cell_at" "_law_cell_at" 1188 390 2 755 1193) ::
 (nat_lit 761,FU "_law_cell_at" "_law_cell_at" (top 50) "law_hushrow_k27_most_and_exact_steps" 1186 760) ::
 (nat_lit 767,CO "_law_mix" "_law_mix" 1196 394 2 762 1204) ::
 (nat_lit 768,FU "_law_mix" "_law_mix" (top 51) "law_hushrow_k27_most_and_exact_steps" 1186 767) ::
 (nat_lit 774,CO "_law_name" "_law_name" 1207 404 2 769 1218) ::
 (nat_lit 775,FU "_law_name" "_law_name" (top 52) "law_hushrow_k27_most_and_exact_steps" 1186 774) ::
 (nat_lit 781,CO "_law_number" "_law_number" 1221 417 1 776 1225) ::
 (nat_lit 782,FU "_law_number" "_law_number" (top 53) "law_hushrow_k27_most_and_exact_steps" 1186 781) ::
 (nat_lit 788,CO "_law_thing" "_law_thing" 1228 423 2 783 1233) ::
 (nat_lit 789,FU "_law_thing" "_law_thing" (top 54) "law_hushrow_k27_most_and_exact_steps" 1186 788) ::
 (nat_lit 795,CO "_law_value" "_law_value" 1236 429 3 790 1244) ::
 (nat_lit 796,FU "_law_value" "_law_value" (top 55) "law_hushrow_k27_most_and_exact_steps" 1186 795) ::
 (nat_lit 802,CO "_law_kind" "_law_kind" 1247 437 4 797 1256) ::
 (nat_lit 803,FU "_law_kind" "_law_kind" (top 56) "law_hushrow_k27_most_and_exact_steps" 1186 802) ::
 (nat_lit 807,⟨(.type "code"),none,.fields #[(.str "_law_plain" 1259),(.str "_law_plain" 1260),(.str "/claim/cut.py" 1261),(.int (447) 0),(.int (3) 0),(.int (0) 0),(.int (0) 0),(.int (3) 0),(.ref 804),(.bool true),(.int (181) 0),(.ref 805),.none,.none,.none,(.ref 806),(.int (1262) 0),(.int (447) 0),(.str "/claim/cut.py" 1263)],#[]⟩) ::
 (nat_lit 808,FU "_law_plain" "_law_plain" (top 57) "law_hushrow_k27_most_and_exact_steps" 1186 807) ::
 (nat_lit 814,CO "_law_cost" "_law_cost" 1265 465 2 809 1274) ::
 (nat_lit 815,FU "_law_cost" "_law_cost" (top 58) "law_hushrow_k27_most_and_exact_steps" 1186 814) ::
 (nat_lit 821,CO "_law_two" "_law_two" 1277 479 5 816 1286) ::
 (nat_lit 822,FU "_law_two" "_law_two" (top 59) "law_hushrow_k27_most_and_exact_steps" 1186 821) ::
 (nat_lit 828,CO "_law_idles" "_law_idles" 1289 484 4 823 1299) ::
 (nat_lit 829,FU "_law_idles" "_law_idles" (top 60) "law_hushrow_k27_most_and_exact_steps" 1186 828) ::
 (nat_lit 835,CO "_law_block" "_law_block" 1302 491 5 830 1317) ::
 (nat_lit 836,FU "_law_block" "_law_block" (top 61) "law_hushrow_k27_most_and_exact_steps" 1186 835) ::
 (nat_lit 842,CO "_law_nodes" "_law_nodes" 1320 507 3 837 1329) ::
 (nat_lit 843,FU "_law_nodes" "_law_nodes" (top 62) "law_hushrow_k27_most_and_exact_steps" 1186 842) ::
 (nat_lit 849,CO "_law_made" "_law_made" 1332 519 1 844 1339) ::
 (nat_lit 850,FU "_law_made" "_law_made" (top 63) "law_hushrow_k27_most_and_exact_steps" 1186 849) ::
 (nat_lit 856,CO "_law_heads" "_law_heads" 1342 540 2 851 1349) ::
 (nat_lit 857,FU "_law_heads" "_law_heads" (top 64) "law_hushrow_k27_most_and_exact_steps" 1186 856) ::
 (nat_lit 861,⟨(.type "code"),none,.fields #[(.str "_law_drawn" 1352),(.str "_law_drawn" 1353),(.str "/claim/cut.py" 1354),(.int (551) 0),(.int (1) 0),(.int (0) 0),(.int (0) 0),(.int (3) 0),(.ref 858),(.bool true),(.int (181) 0),(.ref 859),.none,.none,.none,(.ref 860),(.int (1355) 0),(.int (551) 0),(.str "/claim/cut.py" 1356)],#[]⟩) ::
 (nat_lit 862,FU "_law_drawn" "_law_drawn" (top 65) "law_hushrow_k27_most_and_exact_steps" 1186 861) ::
 (nat_lit 868,CO "_law_program" "_law_program" 1358 575 2 863 1368) ::
 (nat_lit 869,FU "_law_program" "_law_program" (top 66) "law_hushrow_k27_most_and_exact_steps" 1186 868) ::
 (nat_lit 873,⟨(.type "code"),none,.fields #[(.str "_law_gifts" 1371),(.str "_law_gifts" 1372),(.str "/claim/cut.py" 1373),(.int (580) 0),(.int (3) 0),(.int (0) 0),(.int (0) 0),(.int (3) 0),(.ref 870),(.bool true),(.int (181) 0),(.ref 871),.none,.none,.none,(.ref 872),(.int (1374) 0),(.int (580) 0),(.str "/claim/cut.py" 1375)],#[]⟩) ::
 (nat_lit 874,FU "_law_gifts" "_law_gifts" (top 67) "law_hushrow_k27_most_and_exact_steps" 1186 873) ::
 (nat_lit 880,CO "_law_whole" "_law_whole" 1377 588 1 875 1381) ::
 (nat_lit 881,FU "_law_whole" "_law_whole" (top 68) "law_hushrow_k27_most_and_exact_steps" 1186 880) ::
 (nat_lit 887,CO "_law_within" "_law_within" 1384 590 2 882 1391) ::
 (nat_lit 888,FU "_law_within" "_law_within" (top 69) "law_hushrow_k27_most_and_exact_steps" 1186 887) ::
 (nat_lit 894,CO "law" "law" 1394 599 1 889 1403) ::
 (nat_lit 895,FU "law" "law" (top 70) "law_hushrow_k27_most_and_exact_steps" 1186 894) :: []
noncomputable def mD:List Addr:=[2,3,34,35,37,38,39,40,51,52,53,71,72,87,88,104,105,106,107,122,123,132,133,148,149,158,159,174,175,184,185,200,201,210,211,226,227,250,251,266,267,290,291,306,307,323,324,339,340,363,364,379,380,396,397,415,416,431,432,448,449,464,465,481,482,497,498,507,508,523,524,526,527,528,529,537,538,542,543,549,550,556,557,563,564,570,571,577,578,591,592,598,599,605,606,612,613,619,620,626,627,633,634,640,641,645,646,652,653,659,660,662,663,664,665,671,672,678,679,683,684,690,691,697,698,704,705,711,712,718,719,725,726,732,733,739,740,746,747,753,754,760,761,767,768,774,775,781,782,788,789,795,796,802,803,807,808,814,815,821,822,828,829,835,836,842,843,849,850,856,857,861,862,868,869,873,874,880,881,887,888,894,895]
theorem iB (P:Params):mD=(heapK P).map (·.1):=by kernel_rfl
noncomputable abbrev prog:Program:=PySem.Challenge.pw_hushrow_k27_most_and_exact_steps
noncomputable abbrev law:W.OpenLaw:=PySem.Challenge.rw_hushrow_k27_most_and_exact_steps
noncomputable def lY:Program:={ prog with main:={ prog.main with body:=[top 0,top 2,top 4,top 5,top 7,top 8,top 9,top 10,top 11,top 12,top 13,top 14,top 15,top 16,top 17,top 18,top 19,top 20,top 21,top 23,top 24,top 25,top 26,top 27,top 28,top 30,top 31,top 32,top 34,top 35,top 36,top 38,top 39,top 40,top 41,top 42,top 43,top 44,top 45,top 46,top 47,top 48,top 50,top 51,top 52,top 53,top 54,top 55,top 56,top 57,top 58,top 59,top 60,top 61,top 62,top 63,top 64,top 65,top 66,top 67,top 68,top 69,top 70] } }
noncomputable abbrev hook:W.Hook:=W.kHook heapK mD iB
noncomputable abbrev test:Shared->Bool:=fun s=>xlAt lY [] s && recOk (RowW.records law.row.toRowW) s
noncomputable abbrev BU:Shared->List (Option Obj):=fun s=>mD.map s.heap.get?
noncomputable abbrev C8:World->List (Option Obj):=fun w=>(heapK w.params).map fun p=>some p.2
noncomputable def T₀ (P:Params):BT:=Hd.treeOf (boot_heap P).objs.toList 0 .nil
noncomputable def lookL (w:World) (os:OsState):=(Hd.rb treeTable prog w 11 (some (.ref 6)) 14196 ⟨T₀ w.params,11,{},Array.mk [],boot_drawn,boot_toks,os⟩ (topStub prog)).map fun s=>Hd.xN prog lY [] test true (boot_heap w.params) s.abs
noncomputable def lookR (w:World) (os:OsState):=some (true,openGood lY [])
noncomputable def lookM (w:World) (os:OsState):=(Hd.rb treeTable prog w 11 (some (.ref 6)) 14196 ⟨T₀ w.params,11,{},Array.mk [],boot_drawn,boot_toks,os⟩ (topStub prog)).map fun s=>BU s.abs
noncomputable def lookS (w:World) (os:OsState):=some (C8 w)
theorem lookL_self:lookL=lookL:=rfl
theorem lookR_self:lookR=lookR:=rfl
theorem lookM_self:lookM=lookM:=rfl
theorem lookS_self:lookS=lookS:=rfl
end K27
noncomputable def PySem.W.Fast.tw14598715356260435866:PySem.Params->PySem.Obj:=PySem.W.boot_o_0
theorem PySem.W.Fast.te14598715356260435866:PySem.W.boot_o_0=PySem.W.Fast.tw14598715356260435866:=rfl
noncomputable def PySem.W.Fast.tw8476211414634303702:PySem.Program:=PySem.Challenge.pw_hushrow_k27_most_and_exact_steps
theorem PySem.W.Fast.te8476211414634303702:PySem.Challenge.pw_hushrow_k27_most_and_exact_steps=PySem.W.Fast.tw8476211414634303702:=rfl
lay_quick K27.lookL K27.lookR K27.lookM K27.lookS
name_quick K27lookL for K27.lookL by K27.lookL_self
name_quick K27lookR for K27.lookR by K27.lookR_self
name_quick K27lookM for K27.lookM by K27.lookM_self
name_quick K27lookS for K27.lookS by K27.lookS_self
namespace K27
open PySem L2 PySem.W
theorem rS:W.Fast.K27lookL=W.Fast.K27lookR:=by kernel_rfl
theorem qv:W.Fast.K27lookM=W.Fast.K27lookS:=by kernel_rfl
theorem tJ:lookL=lookR:=W.Fast.K27lookL_eq.trans (rS.trans W.Fast.K27lookR_eq.symm)
theorem rB:lookM=lookS:=W.Fast.K27lookM_eq.trans (qv.trans W.Fast.K27lookS_eq.symm)
theorem yH (P:Params):absHeap (T₀ P) 11 {}=boot_heap P:=by kernel_rfl
theorem ze (w:World):((boot_heap w.params).isNs mainGlobals && (Array.mk []:Array GenState).size == 0,(boot_heap w.params).objs.size,(boot_heap w.params).nsMap mainGlobals "__annotations__")=(true,11,some (.ref 6)):=by kernel_rfl
theorem left:LeftO prog lY [] test hook.obs hook.val 14196:=Hd.xA (boot_open (p:=prog) (N:=14196) (by kernel_rfl) rfl (fun _=>rfl)) ze yH (fun w os=>congrFun (congrFun tJ w) os) (fun w os=>congrFun (congrFun rB w) os)
end K27
namespace L2
open PySem PySem.Spec PyProof.Rows
abbrev Key:=Sum Int Str
def qc:Key->Value->Bool
 | .inl k,v=>Value.isInt k v
 | .inr x,v=>Value.isStrOf x v
def Di (w:World):Key->Int
 | .inl k=>hashInt k
 | .inr x=>hashStr w x
theorem cS:∀{k:Key}{v:Value},qc k v=true->(∃i t,k=Sum.inl i/\v=Value.int i t) \/ (∃x t,k=Sum.inr x/\v=Value.str x t)
 | .inl i,v,h=>by
  obtain ⟨t,e⟩:=Value.isInt_shape (k:=i) (v:=v) h
  exact .inl ⟨i,t,rfl,e⟩
 | .inr x,v,h=>by
  obtain ⟨t,e⟩:=Value.isStrOf_shape (x:=x) (v:=v) h
  exact .inr ⟨x,t,rfl,e⟩
theorem vS (i:Int) (t:Tok):qc (.inl i) (.int i t)=true:=by simp [qc,Value.isInt]
theorem vZ (x:Str) (t:Tok):qc (.inr x) (.str x t)=true:=by simp [qc,Value.isStrOf]
theorem Bi (a b:Int):decide ((Sum.inl a:Key)=Sum.inl b)=(a == b):=by
 by_cases e:a=b
 ·subst e;simp
 ·have h:¬ (Sum.inl a:Key)=Sum.inl b:=fun q=>e (Sum.inl.inj q)
  rw [decide_eq_false h]
  exact (beq_eq_false_iff_ne.mpr e).symm
theorem BJ (a b:Str):decide ((Sum.inr a:Key)=Sum.inr b)=decide (a=b):=by
 by_cases e:a=b
 ·subst e;simp
 ·have h:¬ (Sum.inr a:Key)=Sum.inr b:=fun q=>e (Sum.inr.inj q)
  rw [decide_eq_false h,decide_eq_false e]
theorem BG (a:Int) (b:Str):decide ((Sum.inl a:Key)=Sum.inr b)=false:=decide_eq_false (fun q=>nomatch q)
theorem Bp (a:Str) (b:Int):decide ((Sum.inr a:Key)=Sum.inl b)=false:=decide_eq_false (fun q=>nomatch q)
def cx (prog:Program) (w:World):PySem.KeyKind prog w Key where
 is:=qc
 hash:=Di w
 inj:=fun v a b ha hb=>by
  rcases cS ha with ⟨i,t,rfl,rfl⟩ | ⟨x,t,rfl,rfl⟩
  ·rcases cS hb with ⟨j,u,rfl,e⟩ | ⟨y,u,rfl,e⟩
   ·injection e with e1 _;rw [e1]
   ·exact nomatch e
  ·rcases cS hb with ⟨j,u,rfl,e⟩ | ⟨y,u,rfl,e⟩
   ·exact nomatch e
   ·injection e with e1 _;rw [e1]
 byValue:=fun k v h=>by
  rcases cS h with ⟨i,t,rfl,rfl⟩ | ⟨x,t,rfl,rfl⟩ <;> rfl
 pyHash:=fun hv h=>by
  rcases cS hv with ⟨i,t,rfl,rfl⟩ | ⟨x,t,rfl,rfl⟩
  ·exact wpAny_pyHash_int h
  ·exact wpAny_pyHash_str h
 eqBool:=fun hu hv h=>by
  rcases cS hu with ⟨i,t,rfl,rfl⟩ | ⟨x,t,rfl,rfl⟩
  ·rcases cS hv with ⟨j,u,rfl,rfl⟩ | ⟨y,u,rfl,rfl⟩
   ·rw [Bi] at h;exact wpAny_eqBool_int h
   ·rw [BG] at h;exact SeqAt.EqAt.int_str i t y u _ _ _ _ h
  ·rcases cS hv with ⟨j,u,rfl,rfl⟩ | ⟨y,u,rfl,rfl⟩
   ·rw [Bp] at h;exact SeqAt.EqAt.str_int x t j u _ _ _ _ h
   ·rw [BJ] at h;exact wpAny_eqBool_str h
 «strs»:=fun k x t v h=>by
  rcases cS h with ⟨i,u,rfl,e⟩ | ⟨y,u,rfl,e⟩
  ·exact nomatch e
  ·injection e with e1 _
   subst e1
   cases v <;> rfl
theorem sP (prog:Program) (w:World) (i:Int) (t:Tok):(cx prog w).is (.inl i) (.int i t)=true:=vS i t
theorem sH (prog:Program) (w:World) (x:Str) (t:Tok):(cx prog w).is (.inr x) (.str x t)=true:=vZ x t
end L2
namespace L2
open PySem PySem.Spec PyProof.Rows
inductive V where
 | non | bl (b:Bool) | int (i:Int) | str (x:Str) | byt (b:Array UInt8) | flt (b:UInt64) | ref (a:Addr) | ty (n:String)
 deriving DecidableEq
def RelV:V->Value->Prop
 | .non,u=>u=Value.none
 | .bl b,u=>u=Value.bool b
 | .int i,u=>∃t,u=Value.int i t
 | .str x,u=>∃t,u=Value.str x t
 | .byt b,u=>∃t,u=Value.bytes b t
 | .flt b,u=>∃t,u=Value.float b t
 | .ref a,u=>u=Value.ref a
 | .ty n,u=>u=Value.type n
abbrev Vals:List V->List Value->Prop:=Paired RelV
theorem Vals.length {xs:List V}{us:List Value} (r:Vals xs us):xs.length=us.length:=Paired.length r
theorem Vals.get:∀{xs:List V}{us:List Value}{i:Nat}{x:V},Vals xs us->xs[i]?=some x->∃u,us[i]?=some u/\RelV x u
 | _,_,_,_,.nil,e=>by simp at e
 | _,_,0,_,.cons r _,e=>by simp at e;subst e;exact ⟨_,rfl,r⟩
 | _,_,i + 1,x,.cons _ t,e=>by
  obtain ⟨u,h1,h2⟩:=Vals.get (i:=i) (x:=x) t (by simpa using e)
  exact ⟨u,by simpa using h1,h2⟩
theorem Vals.set {x:V}{u:Value} (r:RelV x u):∀{xs:List V}{us:List Value} (i:Nat),Vals xs us->Vals (xs.set i x) (us.set i u)
 | _,_,_,.nil=>.nil
 | _,_,0,.cons _ t=>.cons r t
 | _,_,i + 1,.cons q t=>.cons q (Vals.set r i t)
theorem Vals.append:∀{xs ys:List V}{us ws:List Value},Vals xs us->Vals ys ws->Vals (xs ++ ys) (us ++ ws)
 | _,_,_,_,.nil,s=>s
 | _,_,_,_,.cons r t,s=>.cons r (Vals.append t s)
theorem Vals.take:∀{xs:List V}{us:List Value} (n:Nat),Vals xs us->Vals (xs.take n) (us.take n)
 | _,_,0,_=>.nil
 | _,_,_ + 1,.nil=>.nil
 | _,_,n + 1,.cons r t=>.cons r (Vals.take n t)
theorem Vals.drop:∀{xs:List V}{us:List Value} (n:Nat),Vals xs us->Vals (xs.drop n) (us.drop n)
 | _,_,0,r=>r
 | _,_,_ + 1,.nil=>.nil
 | _,_,n + 1,.cons _ t=>Vals.drop n t
def jf:Option V->Option Value->Prop
 | some v,some u=>RelV v u
 | none,none=>True
 | _,_=>False
def KV {κ:Type}:List (κ × V)->List (κ × Value)->Prop:=Paired fun (p:κ × V) (q:κ × Value)=>p.1=q.1/\RelV p.2 q.2
def kV:Key->V
 | .inl i=>.int i
 | .inr x=>.str x
inductive HO where
 | lst (xs:List V)
 | tup (xs:List V)
 | dK (kvs:List (Key × V)) | dT (kvs:List (List Key × V))
 | set (S:Int->Bool) (n:Nat)
 | ins (C dx:Addr) (fs:List (Str × V))
 | own (x:Addr)
 | xd (fs:List (Str × V))
 | met (f x:Addr)
 | rng (lo hi:Int)
 | frz (o:Obj) (u:HO)
 | tbl (ps:Array Value)
 | ext (φ:Heap->Prop)
abbrev Hp:=Addr->Option HO
def upd (H:Hp) (a:Addr) (o:HO):Hp:=fun b=>if b=a then some o else H b
theorem ar {H:Hp}{a:Addr}{o:HO}:upd H a o a=some o:=by unfold upd;rw [if_pos rfl]
theorem aK {H:Hp}{a b:Addr}{o:HO} (h:b ≠ a):upd H a o b=H b:=by unfold upd;rw [if_neg h]
theorem zk {H:Hp}{a:Addr}{o u:HO}:upd (upd H a o) a u=upd H a u:=by
 funext b;unfold upd;split <;> rfl
theorem BN {H:Hp}{a b:Addr}{o u:HO} (h:H a=some o) (h':H b=some u) (d:o ≠ u):a ≠ b:=by
 intro e;subst e;rw [h] at h';exact d (Option.some.inj h')
theorem dH {H:Hp}{a b:Addr}{o:HO} (h:H a=some o) (h':H b=none):a ≠ b:=by
 intro e;subst e;rw [h] at h';cases h'
section
variable (P:Program) (w:World)
def dg (H:Hp) (h:Heap) (a:Addr):HO->Prop
 | .lst xs=>xs.length <= sizeLine/\∃(its:List Value) (n:Nat),Vals xs its/\h.get? a=some { cls:=.type "list",data:=.seq its.toArray n }
 | .tup xs=>xs.length <= sizeLine/\∃its:List Value,Vals xs its/\IsTup h a its.toArray
 | .dK kvs=>kvs.length <= sizeLine/\(a == sysModules)=false/\∃vs,KV kvs vs/\h.DictOf (cx P w) a vs
 | .dT kvs=>kvs.length <= sizeLine/\(a == sysModules)=false/\∃xs:List (List Key × Addr × Value),
   Paired (fun (p:List Key × V) (q:List Key × Addr × Value)=>p.1=q.1/\H q.2.1=some (.tup (p.1.map kV))/\RelV p.2 q.2.2) kvs xs /\
   ∃o es ep,h.get? a=some o/\o.ExactDict/\o.data=.dict es ep/\es.toList=xs.map (entryOfKey (tupleKind (cx P w)))/\(xs.map (·.1)).Nodup
 | .set S n=>h.SetOf (intKind P w) a S n
 | .ins C dx fs=>H dx=some (.own a)/\fs.length <= 1000/\dx ≠ a/\h.get? a=some (W.instObj C dx) /\
   ∃mA,h.Ns1 dx mA/\(∀f,jf (fs.lookup f) (mA f))/\PySem.Within mA (fs.map (·.1))
 | .own _=>∃o,h.get? a=some o
 | .xd fs=>∃mA,h.Ns1 a mA/\∀f,jf (fs.lookup f) (mA f)
 | .rng lo hi=>∃t u v,h.get? a=some { cls:=.type "range",data:=.fields #[.int lo t,.int hi u,.int 1 v] }
 | .frz o u=>h.get? a=some o/\dg H h a u
 | .tbl ps=>h.get? a=some { cls:=.none,data:=.fields ps }
 | .met f x=>h.get? a=some (W.methodObj (.ref f) (.ref x))
 | .ext φ=>φ h/\(∃o,h.get? a=some o)/\∀h1 h2:Heap,φ h1->(∀o,h1.get? a=some o->h2.get? a=some o)->φ h2
def HOk (H:Hp) (h:Heap):Prop:=∀a o,H a=some o->dg P w H h a o
end
section
variable {P:Program}{w:World}{H H':Hp}{h h':Heap}{a:Addr}{o:HO}
theorem dg.lt (x:dg P w H h a o):a < h.objs.size:=by
 cases o with
 | lst xs=>obtain ⟨_,_,_,_,e⟩:=x;exact Heap.lt_size e
 | tup xs=>obtain ⟨_,_,_,p⟩:=x;exact p.lt
 | dK kvs=>obtain ⟨_,_,_,_,o,_,_,e,_⟩:=x;exact Heap.lt_size e
 | dT kvs=>obtain ⟨_,_,_,_,o,_,_,e,_⟩:=x;exact Heap.lt_size e
 | set S n=>obtain ⟨o,_,_,_,e,_⟩:=x;exact Heap.lt_size e
 | ins C dx fs=>obtain ⟨_,_,_,e,_⟩:=x;exact Heap.lt_size e
 | own y=>obtain ⟨_,e⟩:=x;exact Heap.lt_size e
 | xd fs=>obtain ⟨_,⟨_,_,_,e,_⟩,_⟩:=x;exact Heap.lt_size e
 | rng lo hi=>obtain ⟨_,_,_,e⟩:=x;exact Heap.lt_size e
 | frz ob u=>obtain ⟨e,_⟩:=x;exact Heap.lt_size e
 | tbl ps=>exact Heap.lt_size (show h.get? a=some _ from x)
 | met f y=>exact Heap.lt_size (show h.get? a=some _ from x)
 | ext φ=>obtain ⟨_,⟨_,e⟩,_⟩:=x;exact Heap.lt_size e
theorem Paired.cF {α β:Type}{F G:α->β->Prop}:∀{l₁:List α}{l₂:List β},Paired F l₁ l₂->(∀a b,F a b->G a b)->Paired G l₁ l₂
 | _,_,.nil,_=>.nil
 | _,_,.cons r t,f=>.cons (f _ _ r) (Paired.cF t f)
theorem dg.tN (x:dg P w H h a o) (k:∀b u,(b=a \/ H b=some (.own a))->h.get? b=some u->h'.get? b=some u)
  (ho:∀b,H b=some (.own a)->H' b=some (.own a)) (ht:∀b xs,H b=some (.tup xs)->H' b=some (.tup xs)):dg P w H' h' a o:=by
 induction o with
 | lst xs=>obtain ⟨z,its,n,r,e⟩:=x;exact ⟨z,its,n,r,k _ _ (.inl rfl) e⟩
 | tup xs=>obtain ⟨z,its,r,ob,e,c⟩:=x;exact ⟨z,its,r,ob,k _ _ (.inl rfl) e,c⟩
 | dK kvs=>obtain ⟨z,y,vs,r,ob,es,ep,e,c⟩:=x;exact ⟨z,y,vs,r,ob,es,ep,k _ _ (.inl rfl) e,c⟩
 | dT kvs =>
  obtain ⟨z,y,xs,r,ob,es,ep,e,c⟩:=x
  exact ⟨z,y,xs,Paired.cF r fun p q z=>⟨z.1,ht _ _ z.2.1,z.2.2⟩,ob,es,ep,k _ _ (.inl rfl) e,c⟩
 | set S n=>obtain ⟨ob,es,ep,t,e,c⟩:=x;exact ⟨ob,es,ep,t,k _ _ (.inl rfl) e,c⟩
 | ins C dx fs =>
  obtain ⟨d,z,ne,e,mA,⟨od,es,ep,e2,c⟩,r⟩:=x
  exact ⟨ho _ d,z,ne,k _ _ (.inl rfl) e,mA,⟨od,es,ep,k _ _ (.inr d) e2,c⟩,r⟩
 | own y=>obtain ⟨ob,e⟩:=x;exact ⟨ob,k _ _ (.inl rfl) e⟩
 | xd fs=>obtain ⟨mA,⟨od,es,ep,e,c⟩,r⟩:=x;exact ⟨mA,⟨od,es,ep,k _ _ (.inl rfl) e,c⟩,r⟩
 | rng lo hi=>obtain ⟨t,u,v,e⟩:=x;exact ⟨t,u,v,k _ _ (.inl rfl) e⟩
 | frz ob u ih=>obtain ⟨e,q⟩:=x;exact ⟨k _ _ (.inl rfl) e,ih q⟩
 | tbl ps =>
  have e:h.get? a=some { cls:=.none,data:=.fields ps }:=x
  show h'.get? a=some { cls:=.none,data:=.fields ps }
  exact k a _ (.inl rfl) e
 | met f y =>
  have e:h.get? a=some (W.methodObj (.ref f) (.ref y)):=x
  show h'.get? a=some (W.methodObj (.ref f) (.ref y))
  exact k a _ (.inl rfl) e
 | ext φ=>obtain ⟨p,⟨o,e⟩,st⟩:=x;exact ⟨st _ _ p fun o q=>k _ _ (.inl rfl) q,⟨o,k _ _ (.inl rfl) e⟩,st⟩
theorem HOk.lt (x:HOk P w H h) (e:H a=some o):a < h.objs.size:=(x a o e).lt
theorem HOk.fresh (x:HOk P w H h) (e:h.objs.size <= a):H a=none:=by
 cases q:H a with
 | none=>rfl
 | some u=>exact absurd (Nat.lt_of_lt_of_le (x.lt q) e) (Nat.lt_irrefl _)
theorem HOk.kept (x:HOk P w H h) (k:∀b u,h.get? b=some u->h'.get? b=some u):HOk P w H h':=fun a o e =>
 (x a o e).tN (fun b u _ q=>k b u q) (fun _ q=>q) fun _ _ q=>q
theorem HOk.laid (x:HOk P w H h) (k:∀b u,h.get? b=some u->h'.get? b=some u) (hp:h.objs.size <= a) (new:dg P w (upd H a o) h' a o):HOk P w (upd H a o) h':=fun b u e=>by
 have hn:=x.fresh hp
 by_cases hb:b=a
 ·subst hb;rw [ar] at e;cases e;exact new
 ·rw [aK hb] at e
  exact (x b u e).tN (fun c v _ q=>k c v q) (fun c q=>by rw [aK (dH q hn)];exact q) fun c xs q=>by rw [aK (dH q hn)];exact q
end
def Rd (H:Hp) (a:Addr) (u:HO):Prop:=H a=some u \/ ∃o,H a=some (.frz o u)
theorem Rd.ok {P:Program}{w:World}{H:Hp}{h:Heap}{a:Addr}{u:HO} (r:Rd H a u) (x:HOk P w H h):dg P w H h a u:=by
 rcases r with r | ⟨o,r⟩
 ·exact x a u r
 ·obtain ⟨_,q⟩:=x a _ r
  exact q
def Mut:Option HO->Prop
 | some (.lst _)=>True
 | some (.dK _)=>True
 | some (.dT _)=>True
 | some (.set _ _)=>True
 | some (.ins _ _ _)=>True
 | some (.ext _)=>True
 | _=>False
section
variable {P:Program}{w:World}{H:Hp}{h h':Heap}{x e:Addr}{o':HO}
theorem HOk.write (ok:HOk P w H h) (mu:Mut (H x)) (he:e=x \/ H e=some (.own x)) (k:∀b u,b ≠ e->h.get? b=some u->h'.get? b=some u) (heo:∃u,h'.get? e=some u)
  (new:dg P w (upd H x o') h' x o'):HOk P w (upd H x o') h':=fun b u q=>by
 have nown:∀c y,H c=some (.own y)->c ≠ x:=fun c y r z=>by subst z;rw [r] at mu;exact mu
 have ntup:∀c xs,H c=some (.tup xs)->c ≠ x:=fun c xs r z=>by subst z;rw [r] at mu;exact mu
 by_cases hb:b=x
 ·subst hb;rw [ar] at q;cases q;exact new
 ·rw [aK hb] at q
  by_cases hbe:b=e
  ·have q':H b=some (.own x):=by
    rcases he with z | z
    ·exact absurd (hbe.trans z) hb
    ·rw [hbe];exact z
   rw [q] at q';cases q'
   obtain ⟨v,hv⟩:=heo
   exact ⟨v,by rw [hbe];exact hv⟩
  ·refine (ok b u q).tN (fun c v hc r=>k c v ?_ r) (fun c r=>by rw [aK (nown c b r)];exact r) fun c xs r=>by rw [aK (ntup c xs r)];exact r
   rcases hc with rfl | hc
   ·exact hbe
   ·rintro rfl
    rcases he with z | z
    ·exact nown c b hc z
    ·rw [hc] at z;cases z;exact hb rfl
end
structure Un (fs ex:List Addr) (H H':Hp) (h h':Heap):Prop where
 keep:∀b o,h.get? b=some o->H b=none->b ∉ fs->b ∉ ex->h'.get? b=some o
 slot:∀b o,h.get? b=some o->H b=none->b ∈ fs->b ∉ ex->∃sl,h'.get? b=some { o with slots:=sl }
 free:∀b o,h.get? b=some o->H b=none->b ∉ ex->H' b=none
 there:∀b o,h.get? b=some o->b ∉ ex->∃o',h'.get? b=some o'
 qt:∀b xs,H b=some (.tup xs)->H' b=some (.tup xs)
 o7:∀b o u,H b=some (.frz o u)->H' b=some (.frz o u)
 qE:∀b ps,H b=some (.tbl ps)->∃more,H' b=some (.tbl (ps ++ more))
section
variable {fs fs' ex ex':List Addr}{H H1 H2:Hp}{h h1 h2 h':Heap}{a x e:Addr}{o:HO}
theorem Un.any (u:Un fs ex H H1 h h1) {b:Addr}{ob:Obj} (q:h.get? b=some ob) (n:H b=none) (hx:b ∉ ex):∃sl,h1.get? b=some { ob with slots:=sl }:=by
 by_cases hb:b ∈ fs
 ·exact u.slot b ob q n hb hx
 ·exact ⟨ob.slots,u.keep b ob q n hb hx⟩
theorem Un.kept (k:∀b u,h.get? b=some u->h'.get? b=some u):Un fs ex H H h h' :=
 ⟨fun b ob q _ _ _=>k b ob q,fun b ob q _ _ _=>⟨ob.slots,k b ob q⟩,fun _ _ _ n _=>n,fun b ob q _=>⟨ob,k b ob q⟩,fun _ _ q=>q,fun _ _ _ q=>q,fun _ ps q=>⟨#[],by rw [q];simp⟩⟩
theorem Un.refl:Un fs ex H H h h:=Un.kept fun _ _ q=>q
theorem Un.laid (k:∀b u,h.get? b=some u->h'.get? b=some u) (hp:h.objs.size <= a) (hn:H a=none):Un fs ex H (upd H a o) h h' where
 keep:=fun b u q _ _ _=>k b u q
 slot:=fun b u q _ _ _=>⟨u.slots,k b u q⟩
 free:=fun b u q n _=>by rw [aK (Nat.ne_of_lt (Nat.lt_of_lt_of_le (Heap.lt_size q) hp))];exact n
 there:=fun b u q _=>⟨u,k b u q⟩
 qt:=fun b xs q=>by rw [aK (dH q hn)];exact q
 o7:=fun b u xs q=>by rw [aK (dH q hn)];exact q
 qE:=fun b ps q=>⟨#[],by rw [aK (dH q hn),q];simp⟩
theorem Un.write (mu:Mut (H x)) (he:e=x \/ H e=some (.own x)) (k:∀b u,b ≠ e->h.get? b=some u->h'.get? b=some u) (heo:∃u,h'.get? e=some u):Un fs ex H (upd H x o) h h':=by
 have hx:∀b,H b=none->b ≠ x:=fun b n z=>by subst z;rw [n] at mu;exact mu
 have hb:∀b,H b=none->b ≠ e:=fun b n z=>by
  subst z
  rcases he with r | r
  ·exact hx b n r
  ·rw [n] at r;cases r
 have hm:∀b u,H b=some u->¬ Mut (some u)->b ≠ x:=fun b u q nm z=>by subst z;rw [q] at mu;exact nm mu
 refine ⟨fun b u q n _ _=>k b u (hb b n) q,fun b u q n _ _=>⟨u.slots,k b u (hb b n) q⟩,fun b u q n _=>by rw [aK (hx b n)];exact n,fun b u q _=>?_,
  fun b xs q=>by rw [aK (hm b _ q fun z=>z)];exact q,fun b u xs q=>by rw [aK (hm b _ q fun z=>z)];exact q,fun b ps q=>⟨#[],by rw [aK (hm b _ q fun z=>z),q];simp⟩⟩
 by_cases hbe:b=e
 ·subst hbe;exact heo
 ·exact ⟨u,k b u hbe q⟩
end
def trk (h:Heap) (H:Hp):List Addr:=(List.range h.objs.size).filter fun a=>(H a).isSome
def qA (h:Heap) (H:Hp):Heap:=W.hideAll h (trk h H)
theorem vQ (h:Heap) (H:Hp):(qA h H).objs.size=h.objs.size:=W.hideAll_size _ _
theorem yq {h:Heap}{H:Hp}{b:Addr}{o:Obj} (e:h.get? b=some o) (n:H b=none):(qA h H).get? b=some o :=
 W.hideAll_get _ e fun hm=>by
  have q:(H b).isSome=true:=(List.mem_filter.mp hm).2
  rw [n] at q;simp at q
theorem yX {h:Heap}{H:Hp}{b:Addr}{o:Obj} (e:(qA h H).get? b=some o):h.get? b=some o/\H b=none:=by
 have e':h.get? b=some o:=W.of_hideAll (trk h H) e
 refine ⟨e',?_⟩
 cases q:H b with
 | none=>rfl
 | some x =>
  have hm:b ∈ trk h H:=List.mem_filter.mpr ⟨List.mem_range.mpr (Heap.lt_size e'),by simp [q]⟩
  have z:(qA h H).get? b=none:=W.hideAll_none (trk h H) hm
  rw [z] at e;cases e
end L2
namespace L2
open PySem PySem.Spec PyProof.Rows
structure Mod (K:W.Frag) (mg:Str->Option Value) (base:Heap):Prop where
 kin:K.In base
 glob:base.Ns mainGlobals mg
 blt:∃mb,base.Ns builtinsNs mb/\∀x:Str,x ≠ "__name__"->mb x=bootBuiltins x
 nolimit:base.NoLimit
structure Cx where
 prog:Program
 w:World
 K:W.Frag
 mg:Str->Option Value
 base:Heap
 A:Around
 N:List Str
 s₀:Shared
 H₀:Hp
 env:Env
 outer:List Env
 stack:List Env
 ex:List Addr
 fn:Str->Bool
 calm:Bool
 pn:List (Addr × Obj)
 xe:Value->Shared->Prop
def frs (l:List Env):List Addr:=l.filterMap (·.frame)
abbrev Cx.fs (X:Cx):List Addr:=frs X.outer
def Vis (sc:Scope) (x:Str):Prop:=sc.names.lookup x=some .local \/ sc.names.lookup x=some .cell \/ sc.names.lookup x=some .free
def Loc (sc:Scope) (x:Str):Prop:=sc.names.lookup x=some .local \/ sc.names.lookup x=some .cell
def Look (env:Env) (h:Heap) (m:Str->Option Value) (x:Str) (u:Value):Prop :=
 (env.kindOf x=some .local/\m x=some u) \/ ((env.kindOf x=some .cell \/ env.kindOf x=some .free)/\∃c,env.cells.lookup x=some c/\h.IsCell c (some u))
structure Cx.Ok (X:Cx):Prop where
 mod:Mod X.K X.mg X.base
 kind:X.env.scope.kind=.function
 glob:X.env.globals=mainGlobals
 blt:X.env.builtins=builtinsNs
 above:X.s₀.heap.objs.size <= X.env.locals
 inj:∀x y c,X.env.cells.lookup x=some c->X.env.cells.lookup y=some c->x=y
 has:∀x,(X.env.kindOf x=some .cell \/ X.env.kindOf x=some .free)->∃c,X.env.cells.lookup x=some c
 cab:∀x c,X.fn x=true->X.env.cells.lookup x=some c->X.s₀.heap.objs.size <= c
 hd:X.calm=true->X.A.handled=none
 frames:X.A.frames=some X.stack
 stk:X.stack=X.outer \/ (X.stack=X.env :: X.outer/\X.env.frame=some X.env.locals)
 exf:∀b ∈ X.ex,b ≠ X.env.locals/\∀x c,X.env.cells.lookup x=some c->c ≠ b
 bs:∀b o,X.base.get? b=some o->X.s₀.heap.get? b=some o/\X.H₀ b=none
 bsz:X.base.objs.size <= X.s₀.heap.objs.size
 xH:∀b o,X.base.get? b=some o->b ∉ X.ex
 xM:∀b ∈ X.ex,b ∉ X.fs
 mV:X.s₀.heap.FunFrames X.base X.outer
 frf:∀b ∈ X.fs,X.H₀ b=none
structure Inv (X:Cx) (pins:List (Addr × Obj)) (σ:List (Option V)) (H:Hp) (s:Shared):Prop where
 ok:X.Ok
 os:s.os=X.s₀.os
 bare:AllBare s.gens
 base:Un X.fs X.ex X.H₀ H X.s₀.heap s.heap
 loc:∃m,s.heap.Ns X.env.locals m/\∀(i:Nat) (x:Str) (v:V),X.N[i]?=some x->σ[i]?=some (some v)->Vis X.env.scope x->∃u,RelV v u/\Look X.env s.heap m x u
 cell:∀x c,X.env.cells.lookup x=some c->∃v,s.heap.IsCell c v
 free:H X.env.locals=none
 jO:∀x c,X.env.cells.lookup x=some c->H c=none
 pin:∀p ∈ X.pn ++ pins,s.heap.get? p.1=some p.2/\H p.1=none/\p.1 ≠ X.env.locals/\p.1 ∉ X.fs/\∀v,p.2.data ≠ .cell v
 hok:HOk X.prog X.w H s.heap
 len:σ.length=X.N.length
section
variable {X:Cx}{pins:List (Addr × Obj)}{σ:List (Option V)}{H H':Hp}{s:Shared}{h':Heap}
theorem Cx.Ok.Dw (ok:X.Ok) {b:Addr}{o:Obj} (e:X.base.get? b=some o):b ∉ X.fs:=fun hb=>by
 have:=(ok.mV.mem hb).1
 rw [e] at this;cases this
theorem Inv.bs (I:Inv X pins σ H s):∀b o,X.base.get? b=some o->s.heap.get? b=some o/\H b=none:=fun b o e =>
 ⟨I.base.keep b o (I.ok.bs b o e).1 (I.ok.bs b o e).2 (I.ok.Dw e) (I.ok.xH b o e),I.base.free b o (I.ok.bs b o e).1 (I.ok.bs b o e).2 (I.ok.xH b o e)⟩
theorem Inv.bk (I:Inv X pins σ H s):∀b o,X.base.get? b=some o->s.heap.get? b=some o:=fun b o e=>(I.bs b o e).1
theorem Inv.mod (I:Inv X pins σ H s):Mod X.K X.mg X.base:=I.ok.mod
theorem Inv.kIn (I:Inv X pins σ H s):X.K.In s.heap:=I.ok.mod.kin.keeps I.bk
theorem Inv.lt (I:Inv X pins σ H s):X.env.locals < s.heap.objs.size:=let ⟨_,hn,_⟩:=I.loc;hn.lt
theorem Inv.sz (I:Inv X pins σ H s):X.s₀.heap.objs.size <= s.heap.objs.size:=Nat.le_trans I.ok.above (Nat.le_of_lt I.lt)
theorem Inv.CF (I:Inv X pins σ H s) {a:Addr} (h:s.heap.objs.size <= a):a ∉ X.fs:=fun hb=>by
 obtain ⟨_,o,ho,_⟩:=I.ok.mV.mem hb
 exact absurd (Nat.lt_of_lt_of_le (Heap.lt_size ho) (Nat.le_trans I.sz h)) (Nat.lt_irrefl _)
theorem Inv.cne (I:Inv X pins σ H s):∀x c,X.env.cells.lookup x=some c->c ≠ X.env.locals:=fun x c e z=>by
 obtain ⟨v,o,ho,hd⟩:=I.cell x c e
 obtain ⟨m,⟨o',es,ep,ho',hd',_⟩,_⟩:=I.loc
 rw [z,ho'] at ho;cases ho;rw [hd'] at hd;cases hd
theorem Inv.mV (I:Inv X pins σ H s):s.heap.FunFrames X.base X.outer:=by
 have all:∀(l:List Env),(∀b ∈ frs l,b ∈ X.fs)->X.s₀.heap.FunFrames X.base l->s.heap.FunFrames X.base l:=by
  intro l
  induction l with
  | nil=>intro _ _;trivial
  | cons env r ih =>
   intro hs hl
   obtain ⟨hk,⟨L,o,hf,hn,ho,hd⟩,hr⟩:=hl
   have hL:L ∈ X.fs:=hs L (by unfold frs;rw [List.filterMap_cons,hf];exact List.mem_cons_self)
   obtain ⟨sl,e⟩:=I.base.slot L o ho (I.ok.frf L hL) hL fun z=>I.ok.xM L z hL
   exact ⟨hk,⟨L,_,hf,hn,e,hd⟩,ih (fun b hb=>hs b (by unfold frs;rw [List.filterMap_cons,hf];exact List.mem_cons_of_mem _ hb)) hr⟩
 exact all X.outer (fun _ hb=>hb) I.ok.mV
theorem Inv.stack (I:Inv X pins σ H s):s.heap.FunFrames X.base X.stack:=by
 rcases I.ok.stk with e | ⟨e,hf⟩
 ·rw [e];exact I.mV
 ·rw [e]
  obtain ⟨m,hn,_⟩:=I.loc
  refine .cons (by rw [I.ok.kind];decide) hf hn ?_ I.mV
  exact Heap.get?_none_of_le (Nat.le_trans I.ok.bsz I.ok.above)
theorem Inv.tL (I:Inv X pins σ H s):∀b ∈ frs X.stack,b ∈ X.env.locals :: X.fs:=fun b hb=>by
 rcases I.ok.stk with e | ⟨e,hf⟩
 ·rw [e] at hb;exact List.mem_cons_of_mem _ hb
 ·rw [e] at hb
  unfold frs at hb
  rw [List.filterMap_cons,hf] at hb
  exact hb
theorem Inv.uH (I:Inv X pins σ H s):∀b ∈ frs X.stack,H b=none:=fun b hb=>by
 rcases List.mem_cons.mp (I.tL b hb) with e | hb
 ·rw [e];exact I.free
 ·obtain ⟨_,o,ho,_⟩:=I.ok.mV.mem hb
  exact I.base.free b o ho (I.ok.frf b hb) fun z=>I.ok.xM b z hb
theorem Inv.step {g':Array GenState}{t':Nat}{d':Drawn}{ch:List Addr} (I:Inv X pins σ H s)
  (hch:∀b ∈ ch,(b ∈ X.ex \/ X.s₀.heap.objs.size <= b)/\b ≠ X.env.locals/\(∀x c,X.env.cells.lookup x=some c->c ≠ b)/\∀p ∈ X.pn ++ pins,p.1 ≠ b)
  (keep:∀b o,b ≠ X.env.locals->b ∉ X.fs->b ∉ ch->s.heap.get? b=some o->H b=none->h'.get? b=some o)
  (slot:∀b o,b ≠ X.env.locals->b ∈ X.fs->b ∉ ch->s.heap.get? b=some o->H b=none->∃sl,h'.get? b=some { o with slots:=sl }) (free:∀b o,b ∉ ch->s.heap.get? b=some o->H b=none->H' b=none)
  (there:∀b o,b ∉ ch->s.heap.get? b=some o->∃o',h'.get? b=some o')
  (qt:∀b xs,H b=some (.tup xs)->H' b=some (.tup xs)) (o7:∀b o u,H b=some (.frz o u)->H' b=some (.frz o u)) (qE:∀b ps,H b=some (.tbl ps)->∃more,H' b=some (.tbl (ps ++ more)))
  (ns:∀m,s.heap.Ns X.env.locals m->h'.Ns X.env.locals m) (hok:HOk X.prog X.w H' h') (hg:AllBare g') :
  Inv X pins σ H' { s with heap:=h',gens:=g',drawn:=d',toks:=t' }:=by
 have neL:∀b o,X.s₀.heap.get? b=some o->b ≠ X.env.locals:=fun b o e=>Nat.ne_of_lt (Nat.lt_of_lt_of_le (Heap.lt_size e) I.ok.above)
 have neC:∀b o,X.s₀.heap.get? b=some o->b ∉ X.ex->b ∉ ch:=fun b o e hx hb=>by
  rcases (hch b hb).1 with z | z
  ·exact hx z
  ·exact absurd (Nat.lt_of_lt_of_le (Heap.lt_size e) z) (Nat.lt_irrefl _)
 have cellK:∀x c,X.env.cells.lookup x=some c->∀v,s.heap.IsCell c v->h'.IsCell c v:=fun x c e v ⟨o,ho,hd⟩=>by
  have nch:c ∉ ch:=fun z=>(hch c z).2.2.1 x c e rfl
  by_cases hc:c ∈ X.fs
  ·obtain ⟨sl,q⟩:=slot c o (I.cne x c e) hc nch ho (I.jO x c e)
   exact ⟨_,q,hd⟩
  ·exact ⟨o,keep c o (I.cne x c e) hc nch ho (I.jO x c e),hd⟩
 refine ⟨I.ok,I.os,hg,⟨fun b o e n hb hx=>?_,fun b o e n hb hx=>?_,fun b o e n hx=>?_,fun b o e hx=>?_,fun b xs e=>qt b xs (I.base.qt b xs e),fun b o xs e=>o7 b o xs (I.base.o7 b o xs e),fun b ps e=>?_⟩,?_,fun x c e=>?_,?_,fun x c e=>?_,fun p hp=>?_,hok,I.len⟩
 ·exact keep b o (neL b o e) hb (neC b o e hx) (I.base.keep b o e n hb hx) (I.base.free b o e n hx)
 ·obtain ⟨sl,e1⟩:=I.base.slot b o e n hb hx
  obtain ⟨sl',e2⟩:=slot b _ (neL b o e) hb (neC b o e hx) e1 (I.base.free b o e n hx)
  exact ⟨sl',e2⟩
 ·obtain ⟨o',e1⟩:=I.base.there b o e hx
  exact free b o' (neC b o e hx) e1 (I.base.free b o e n hx)
 ·obtain ⟨o',e1⟩:=I.base.there b o e hx
  exact there b o' (neC b o e hx) e1
 ·obtain ⟨m1,e1⟩:=I.base.qE b ps e
  obtain ⟨m2,e2⟩:=qE b _ e1
  exact ⟨m1 ++ m2,by rw [e2,Array.append_assoc]⟩
 ·obtain ⟨m,hn,hl⟩:=I.loc
  refine ⟨m,ns m hn,fun i x v e1 e2 e3=>?_⟩
  obtain ⟨u,r,l⟩:=hl i x v e1 e2 e3
  refine ⟨u,r,?_⟩
  rcases l with l | ⟨k,c,e,z⟩
  ·exact .inl l
  ·exact .inr ⟨k,c,e,cellK x c e _ z⟩
 ·obtain ⟨v,z⟩:=I.cell x c e
  exact ⟨v,cellK x c e v z⟩
 ·obtain ⟨m,⟨o,_,_,ho,_⟩,_⟩:=I.loc
  exact free _ o (fun z=>(hch _ z).2.1 rfl) ho I.free
 ·obtain ⟨v,o,ho,hd⟩:=I.cell x c e
  exact free c o (fun z=>(hch c z).2.2.1 x c e rfl) ho (I.jO x c e)
 ·obtain ⟨e,n,ne,nf,d⟩:=I.pin p hp
  have nch:p.1 ∉ ch:=fun z=>(hch p.1 z).2.2.2 p hp rfl
  exact ⟨keep p.1 p.2 ne nf nch e n,free p.1 p.2 nch e n,ne,nf,d⟩
theorem Inv.un {t':Nat} (I:Inv X pins σ H s) (u:Un X.fs [] H H' s.heap h') (hok:HOk X.prog X.w H' h'):Inv X pins σ H' { s with heap:=h',toks:=t' }:=by
 obtain ⟨m,⟨o,es,ep,ho,r⟩,_⟩:=id I.loc
 obtain ⟨sl,hL⟩:=u.any ho I.free (by simp)
 exact I.step (g':=s.gens) (d':=s.drawn) (ch:=[]) (fun _ z=>nomatch z) (fun b o _ hb _ e n=>u.keep b o e n hb (by simp)) (fun b o _ hb _ e n=>u.slot b o e n hb (by simp)) (fun b o _ e n=>u.free b o e n (by simp)) (fun b o _ e=>u.there b o e (by simp)) u.qt u.o7 u.qE (fun m' hm=>by
  obtain ⟨o',es',ep',ho',r'⟩:=hm
  rw [ho] at ho';cases ho'
  exact ⟨_,es',ep',hL,r'⟩) hok I.bare
theorem Inv.call {g':Array GenState}{t':Nat}{d':Drawn}{ch:List Addr} (I:Inv X pins σ H s) (u:Un (frs X.stack) ch H H' s.heap h') (hok:HOk X.prog X.w H' h') (hg:AllBare g')
  (hch:∀b ∈ ch,(b ∈ X.ex \/ X.s₀.heap.objs.size <= b)/\b ≠ X.env.locals/\(∀x c,X.env.cells.lookup x=some c->c ≠ b)/\∀p ∈ X.pn ++ pins,p.1 ≠ b) :
  Inv X pins σ H' { s with heap:=h',gens:=g',drawn:=d',toks:=t' }:=by
 obtain ⟨m,⟨o,es,ep,ho,r⟩,_⟩:=id I.loc
 obtain ⟨sl,hL⟩:=u.any ho I.free fun z=>(hch _ z).2.1 rfl
 exact I.step (ch:=ch) hch (fun b o hL hb hc e n=>u.keep b o e n (fun z=>(List.mem_cons.mp (I.tL b z)).elim hL hb) hc) (fun b o _ _ hc e n=>u.any e n hc) (fun b o hc e n=>u.free b o e n hc) (fun b o hc e=>u.there b o e hc) u.qt u.o7 u.qE (fun m' hm=>by
  obtain ⟨o',es',ep',ho',r'⟩:=hm
  rw [ho] at ho';cases ho'
  exact ⟨_,es',ep',hL,r'⟩) hok hg
theorem Inv.turned {t':Nat}{it:Addr} (I:Inv X pins σ H s) (k:∀b o,b ≠ it->s.heap.get? b=some o->h'.get? b=some o) (hn:H it=none) (hL:it ≠ X.env.locals)
  (h1:it ∈ X.ex \/ X.s₀.heap.objs.size <= it) (h2:∀x c,X.env.cells.lookup x=some c->c ≠ it) (h3:∀p ∈ X.pn ++ pins,p.1 ≠ it):Inv X pins σ H { s with heap:=h',toks:=t' }:=by
 have nit:∀b u,H b=some u->b ≠ it:=fun b u e z=>by rw [z,hn] at e;cases e
 refine I.step (g':=s.gens) (d':=s.drawn) (ch:=[it]) (fun b hb=>?_) (fun b o _ _ hc e _=>k b o (fun z=>hc (by simp [z])) e) (fun b o _ _ hc e _=>⟨o.slots,k b o (fun z=>hc (by simp [z])) e⟩) (fun _ _ _ _ n=>n)
  (fun b o hc e=>⟨o,k b o (fun z=>hc (by simp [z])) e⟩) (fun _ _ e=>e) (fun _ _ _ e=>e) (fun b ps e=>⟨#[],by rw [e];simp⟩) (fun m hm=>?_) (fun b u e=>?_) I.bare
 ·have e:b=it:=by simpa using hb
  subst e
  exact ⟨h1,hL,h2,h3⟩
 ·obtain ⟨o,es,ep,ho,r⟩:=hm
  exact ⟨o,es,ep,k _ o (Ne.symm hL) ho,r⟩
 ·refine (I.hok b u e).tN (fun c v hc q=>k c v ?_ q) (fun _ q=>q) fun _ _ q=>q
  rcases hc with z | z
  ·rw [z];exact nit b u e
  ·exact nit c _ z
theorem Inv.tok (I:Inv X pins σ H s) (t:Nat):Inv X pins σ H { s with toks:=t }:=I.un (h':=s.heap) (t':=t) Un.refl I.hok
theorem Inv.kept {t':Nat} (I:Inv X pins σ H s) (k:∀b u,s.heap.get? b=some u->h'.get? b=some u):Inv X pins σ H { s with heap:=h',toks:=t' }:=I.un (Un.kept k) (I.hok.kept k)
theorem Inv.laid {a:Addr}{o:HO}{t':Nat} (I:Inv X pins σ H s) (k:∀b u,s.heap.get? b=some u->h'.get? b=some u) (hp:s.heap.objs.size <= a) (new:dg X.prog X.w (upd H a o) h' a o) :
  Inv X pins σ (upd H a o) { s with heap:=h',toks:=t' }:=I.un (Un.laid k hp (I.hok.fresh hp)) (I.hok.laid k hp new)
theorem Inv.write {x e:Addr}{o:HO}{t':Nat} (I:Inv X pins σ H s) (mu:Mut (H x)) (he:e=x \/ H e=some (.own x)) (k:∀b u,b ≠ e->s.heap.get? b=some u->h'.get? b=some u) (heo:∃u,h'.get? e=some u)
  (new:dg X.prog X.w (upd H x o) h' x o):Inv X pins σ (upd H x o) { s with heap:=h',toks:=t' }:=I.un (Un.write mu he k heo) (I.hok.write mu he k heo new)
theorem Inv.qL {pins':List (Addr × Obj)} (I:Inv X pins σ H s) (h:∀p ∈ pins',s.heap.get? p.1=some p.2/\H p.1=none/\p.1 ≠ X.env.locals/\p.1 ∉ X.fs/\∀v,p.2.data ≠ .cell v):Inv X pins' σ H s :=
 ⟨I.ok,I.os,I.bare,I.base,I.loc,I.cell,I.free,I.jO,fun p hp=>(List.mem_append.mp hp).elim (fun z=>I.pin p (List.mem_append_left _ z)) (h p),I.hok,I.len⟩
theorem sO {N:List Str} (hN:N.Nodup) {i j:Nat}{x:Str} (a:N[i]?=some x) (b:N[j]?=some x):i=j:=by
 obtain ⟨h1,e1⟩:=List.getElem?_eq_some_iff.mp a
 obtain ⟨h2,e2⟩:=List.getElem?_eq_some_iff.mp b
 exact (List.getElem_inj hN).mp (e1.trans e2.symm)
theorem vP {M:Model}{A:Around}{E:Value->Shared->Prop}{i:Nat}{x:Str}{v:V}{u:Value}{Q:Unit->Shared->Prop} (I:Inv X pins σ H s) (hN:X.N.Nodup) (hi:X.N[i]?=some x) (hx:Loc X.env.scope x) (r:RelV v u)
  (h:∀s',Inv X pins (σ.set i (some v)) H s'->(∃a,Heap.SameBut a s.heap s'.heap/\(a=X.env.locals \/ X.env.cells.lookup x=some a))->Q () s') (hf:X.fn x=true \/ X.env.scope.names.lookup x=some .local:=by first | exact .inl rfl | exact .inr rfl | assumption):wpAny M A (storeName X.env x u) Q E s:=by
 obtain ⟨m,hn,hl⟩:=id I.loc
 have hcls:(X.env.scope.kind == .class || (X.env.scope.kind == .module && X.env.locals != X.env.globals))=false:=by rw [I.ok.kind];rfl
 have hiσ:i < σ.length:=by rw [I.len];exact (List.getElem?_eq_some_iff.mp hi).1
 have cne:=I.cne
 have tracked:∀{a:Addr}{h':Heap},(∃o,s.heap.get? a=some o/\H a=none)->Heap.SameBut a s.heap h'->HOk X.prog X.w H h':=fun {a h'} ha hs b ob e=>by
  obtain ⟨_,_,hfree⟩:=ha
  refine (I.hok b ob e).tN (fun c w' hc q=>(hs.2 c ?_).trans q) (fun _ q=>q) fun _ _ q=>q
  rintro rfl
  rcases hc with rfl | hc
  ·rw [hfree] at e;cases e
  ·rw [hfree] at hc;cases hc
 rcases hx with hk | hk
 ·refine wpAny_storeName_local hk hn (fun h' hn' hs=>?_) hcls
  obtain ⟨oL,_,_,hoL,_⟩:=id hn
  refine h _ ⟨I.ok,I.os,I.bare,⟨fun b o e n hb hx=>?_,fun b o e n hb hx=>?_,I.base.free,fun b o e hx=>?_,I.base.qt,I.base.o7,I.base.qE⟩,⟨_,hn',fun j y v' e1 e2 e3=>?_⟩,fun y c e=>?_,I.free,I.jO,fun p hp=>?_,tracked ⟨oL,hoL,I.free⟩ hs,by simpa using I.len⟩ ⟨_,hs,.inl rfl⟩
  ·exact (hs.2 b (Nat.ne_of_lt (Nat.lt_of_lt_of_le (Heap.lt_size e) I.ok.above))).trans (I.base.keep b o e n hb hx)
  ·obtain ⟨sl,e1⟩:=I.base.slot b o e n hb hx
   exact ⟨sl,(hs.2 b (Nat.ne_of_lt (Nat.lt_of_lt_of_le (Heap.lt_size e) I.ok.above))).trans e1⟩
  ·obtain ⟨o',e1⟩:=I.base.there b o e hx
   exact ⟨o',(hs.2 b (Nat.ne_of_lt (Nat.lt_of_lt_of_le (Heap.lt_size e) I.ok.above))).trans e1⟩
  ·by_cases hj:j=i
   ·subst hj
    rw [hi] at e1;cases e1
    rw [List.getElem?_set_self hiσ] at e2
    cases e2
    exact ⟨u,r,.inl ⟨hk,by simp⟩⟩
   ·rw [List.getElem?_set_ne (Ne.symm hj)] at e2
    obtain ⟨u',r',q⟩:=hl j y v' e1 e2 e3
    refine ⟨u',r',?_⟩
    rcases q with ⟨k,e⟩ | ⟨k,c,e,z⟩
    ·refine .inl ⟨k,?_⟩
     have:y ≠ x:=fun e=>hj (sO hN e1 (e ▸ hi))
     simp [this,e]
    ·exact .inr ⟨k,c,e,z.sameBut hs (cne y c e)⟩
  ·obtain ⟨w',z⟩:=I.cell y c e
   exact ⟨w',z.sameBut hs (cne y c e)⟩
  ·obtain ⟨e,n,ne,nf,d⟩:=I.pin p hp
   exact ⟨(hs.2 p.1 ne).trans e,n,ne,nf,d⟩
 ·have hfn:X.fn x=true:=by
   rcases hf with z | z
   ·exact z
   ·rw [z] at hk;cases hk
  obtain ⟨c,hc⟩:=I.ok.has x (.inl hk)
  obtain ⟨w',z⟩:=I.cell x c hc
  refine wpAny_storeName_cell I.ok.kind hk hc z (fun h' hc' hs=>?_)
  obtain ⟨oc,hoc,hocd⟩:=id z
  refine h { s with heap:=h' } ⟨I.ok,I.os,I.bare,⟨fun b o e n hb hx=>?_,fun b o e n hb hx=>?_,I.base.free,fun b o e hx=>?_,I.base.qt,I.base.o7,I.base.qE⟩,⟨m,hn.sameBut hs (Ne.symm (cne x c hc)),fun j y v' e1 e2 e3=>?_⟩,fun y c' e=>?_,I.free,I.jO,fun p hp=>?_,tracked ⟨oc,hoc,I.jO x c hc⟩ hs,by simpa using I.len⟩ ⟨c,hs,.inr hc⟩
  ·exact (hs.2 b (Nat.ne_of_lt (Nat.lt_of_lt_of_le (Heap.lt_size e) (I.ok.cab x c hfn hc)))).trans (I.base.keep b o e n hb hx)
  ·obtain ⟨sl,e1⟩:=I.base.slot b o e n hb hx
   exact ⟨sl,(hs.2 b (Nat.ne_of_lt (Nat.lt_of_lt_of_le (Heap.lt_size e) (I.ok.cab x c hfn hc)))).trans e1⟩
  ·obtain ⟨o',e1⟩:=I.base.there b o e hx
   exact ⟨o',(hs.2 b (Nat.ne_of_lt (Nat.lt_of_lt_of_le (Heap.lt_size e) (I.ok.cab x c hfn hc)))).trans e1⟩
  ·by_cases hj:j=i
   ·subst hj
    rw [hi] at e1;cases e1
    rw [List.getElem?_set_self hiσ] at e2
    cases e2
    exact ⟨u,r,.inr ⟨.inl hk,c,hc,hc'⟩⟩
   ·rw [List.getElem?_set_ne (Ne.symm hj)] at e2
    obtain ⟨u',r',q⟩:=hl j y v' e1 e2 e3
    refine ⟨u',r',?_⟩
    rcases q with q | ⟨k,c',e,z'⟩
    ·exact .inl q
    ·refine .inr ⟨k,c',e,z'.sameBut hs ?_⟩
     rintro rfl
     exact hj (sO hN e1 (I.ok.inj _ _ _ e hc ▸ hi))
  ·by_cases hcc:c'=c
   ·subst hcc;exact ⟨_,hc'⟩
   ·obtain ⟨w2,z2⟩:=I.cell y c' e
    exact ⟨w2,z2.sameBut hs hcc⟩
  ·obtain ⟨e,n,ne,nf,d⟩:=I.pin p hp
   refine ⟨(hs.2 p.1 ?_).trans e,n,ne,nf,d⟩
   intro q
   rw [q,hoc] at e
   have q':oc=p.2:=Option.some.inj e
   exact d w' (by rw [<- q'];exact hocd)
theorem nS {M:Model}{A:Around}{E:Value->Shared->Prop}{i:Nat}{x:Str}{v:V}{u:Value}{Q:Unit->Shared->Prop} (I:Inv X pins σ H s) (hN:X.N.Nodup) (hi:X.N[i]?=some x) (hx:Loc X.env.scope x) (r:RelV v u)
  (h:∀s',Inv X pins (σ.set i (some v)) H s'->Q () s') (hf:X.fn x=true \/ X.env.scope.names.lookup x=some .local:=by first | exact .inl rfl | exact .inr rfl | assumption):wpAny M A (storeName X.env x u) Q E s :=
 vP I hN hi hx r (fun s' I' _=>h s' I') hf
theorem Inv.Ct {s':Shared}{ch:List Addr} (I:Inv X pins σ H s) (ho:s'.os=s.os) (u:Un (frs X.stack) ch H H' s.heap s'.heap) (hok:HOk X.prog X.w H' s'.heap) (hg:AllBare s'.gens)
  (hch:∀b ∈ ch,(b ∈ X.ex \/ X.s₀.heap.objs.size <= b)/\b ≠ X.env.locals/\(∀x c,X.env.cells.lookup x=some c->c ≠ b)/\∀p ∈ X.pn ++ pins,p.1 ≠ b):Inv X pins σ H' s':=by
 obtain ⟨h',g',d',t',o'⟩:=s'
 have e:o'=s.os:=ho
 subst e
 exact I.call (g':=g') (t':=t') (d':=d') u hok hg hch
end
abbrev XK:=Value->Option Addr->Hp->Prop
abbrev St:=List (Option V)
abbrev VK:=V->Hp->Prop
abbrev TE:=St->Hp->VK->Prop
abbrev TT:=St->Hp->(Bool->Hp->Prop)->Prop
abbrev TA:=St->Hp->(List V->Hp->Prop)->Prop
structure Ends where
 nx:St->Hp->Prop
 rt:VK
 bk:St->Hp->Prop:=fun _ _=>False
 ct:St->Hp->Prop:=fun _ _=>False
abbrev TS:=Ends->St->Hp->Prop
def EP (X:Cx) (pins:List (Addr × Obj)) (σ:St) (Q:VK) (u:Value) (s':Shared):Prop:=∃v H',Inv X pins σ H' s'/\RelV v u/\Q v H'
def TP (X:Cx) (pins:List (Addr × Obj)) (σ:St) (Q:Bool->Hp->Prop) (b:Bool) (s':Shared):Prop:=∃H',Inv X pins σ H' s'/\Q b H'
def AP (X:Cx) (pins:List (Addr × Obj)) (σ:St) (Q:List V->Hp->Prop) (us:List Value) (s':Shared):Prop:=∃vs H',Inv X pins σ H' s'/\Vals vs us/\Q vs H'
def SP (X:Cx) (pins:List (Addr × Obj)) (D:Ends) (f:Flow) (s':Shared):Prop :=
 match f with
 | .next=>∃σ' H',Inv X pins σ' H' s'/\D.nx σ' H'
 | .brk=>∃σ' H',Inv X pins σ' H' s'/\D.bk σ' H'
 | .cont=>∃σ' H',Inv X pins σ' H' s'/\D.ct σ' H'
 | .ret u=>∃v σ' H',Inv X pins σ' H' s'/\RelV v u/\D.rt v H'
def PE (X:Cx) (e:Expr) (t:TE):Prop :=
 ∀(pins:List (Addr × Obj)) (s:Shared) (σ:St) (H:Hp) (Q:VK),Inv X pins σ H s->t σ H Q->wpAny (model X.prog X.w) X.A (eval e X.env) (EP X pins σ Q) X.xe s
def PT (X:Cx) (e:Expr) (t:TT):Prop :=
 ∀(pins:List (Addr × Obj)) (s:Shared) (σ:St) (H:Hp) (Q:Bool->Hp->Prop),Inv X pins σ H s->t σ H Q->wpAny (model X.prog X.w) X.A (isTrue e X.env (eval e X.env)) (TP X pins σ Q) X.xe s
def PW (X:Cx) (e:Expr) (t:TT):Prop :=
 ∀(whole:Sem Value) (pins:List (Addr × Obj)) (s:Shared) (σ:St) (H:Hp) (Q:Bool->Hp->Prop),Inv X pins σ H s->t σ H Q->wpAny (model X.prog X.w) X.A (isTrue e X.env whole) (TP X pins σ Q) X.xe s
theorem PW.pt {X:Cx}{e:Expr}{t:TT} (h:PW X e t):PT X e t:=h _
def PA (X:Cx) (es:List Expr) (t:TA):Prop :=
 ∀(pos:Pos) (pins:List (Addr × Obj)) (s:Shared) (σ:St) (H:Hp) (Q:List V->Hp->Prop),Inv X pins σ H s->t σ H Q->wpAny (model X.prog X.w) X.A (spliced (backTo pos (starEach es X.env))) (AP X pins σ Q) X.xe s
def PS (X:Cx) (st:Stmt) (t:TS):Prop :=
 ∀(pins:List (Addr × Obj)) (s:Shared) (σ:St) (H:Hp) (D:Ends),Inv X pins σ H s->t D σ H->wpAny (model X.prog X.w) X.A (exec st X.env) (SP X pins D) X.xe s
def PSs (X:Cx) (st:List Stmt) (t:TS):Prop :=
 ∀(pins:List (Addr × Obj)) (s:Shared) (σ:St) (H:Hp) (D:Ends),Inv X pins σ H s->t D σ H->wpAny (model X.prog X.w) X.A (execs st X.env) (SP X pins D) X.xe s
theorem thn {α:Type}{t:Sem α}{Q Q':α->Shared->Prop}{M:Model}{A:Around}{E:Value->Shared->Prop}{s:Shared} (h:wpAny M A t Q E s) (hQ:∀a s,Q a s->Q' a s):wpAny M A t Q' E s:=wpAny_mono h hQ fun _ _ x=>x
end L2
namespace L2
open PySem PySem.Spec PyProof.Rows
section
variable {X:Cx}
def Dz (i:Nat):TE:=fun σ H Q=>∃v,σ[i]?=some (some v)/\Q v H
def tC (v:V):TE:=fun _ H Q=>Q v H
theorem Az {i:Nat}{x:Str}{pos:Pos} (hN:X.N[i]?=some x) (hv:Vis X.env.scope x) (hd:(x == ("__debug__":Str))=false:=by decide) (hcd:(x == ("__classdict__":Str))=false:=by decide):PE X (.Name x pos) (Dz i):=by
 intro pins s σ H Q I h
 obtain ⟨v,e,h⟩:=h
 obtain ⟨m,hn,hl⟩:=I.loc
 obtain ⟨u,r,l⟩:=hl i x v hN e hv
 have fin:EP X pins σ Q u s:=⟨v,H,I,r,h⟩
 rcases l with ⟨hk,hm⟩ | ⟨hk,c,hc,hcell⟩
 ·exact wpAny_Name (wpAny_loadName_local I.ok.kind hk hn hm fin) hd
 ·rcases hk with hk | hk
  ·exact wpAny_Name (wpAny_loadName_cell I.ok.kind hk hc hcell fin) hd
  ·exact wpAny_Name (wpAny_loadName_free I.ok.kind hk hc hcell fin hcd) hd
theorem ae {i j pos}:PE X (.Constant (.int i) j pos) (tC (.int i)):=fun _ _ _ H _ I h=>wpAny_Constant_int ⟨.int i,H,I.tok _,⟨_,rfl⟩,h⟩
theorem kZ {b j pos}:PE X (.Constant (.bool b) j pos) (tC (.bl b)):=fun _ _ _ H _ I h=>Constant_bool ⟨.bl b,H,I,rfl,h⟩
theorem cL {j pos}:PE X (.Constant .none j pos) (tC .non):=fun _ _ _ H _ I h=>Constant_none ⟨.non,H,I,rfl,h⟩
theorem au {x j pos}:PE X (.Constant (.str x) j pos) (tC (.str x)):=fun _ _ _ H _ I h=>Calls.Constant_str ⟨.str x,H,I.tok _,⟨_,rfl⟩,h⟩
def Gl (X:Cx) (x:Str):Prop:=X.env.kindOf x=some .globalImplicit
theorem k8 {E:Value->Shared->Prop}{pins:List (Addr × Obj)}{s:Shared}{σ:St}{H:Hp}{x:Str}{u:Value}{pos:Pos}{Q:Value->Shared->Prop} (I:Inv X pins σ H s) (hg:Gl X x) (hm:X.mg x=some u) (h:Q u s)
  (hd:(x == ("__debug__":Str))=false:=by decide):wpAny (model X.prog X.w) X.A (eval (.Name x pos) X.env) Q E s :=
 Calls.Name_function_global I.ok.kind hg (Calls.loadGlobal_global (by rw [I.ok.glob];exact I.mod.glob.keeps I.bk) hm h) hd
theorem lR {E:Value->Shared->Prop}{pins:List (Addr × Obj)}{s:Shared}{σ:St}{H:Hp}{x:Str}{u:Value}{pos:Pos}{Q:Value->Shared->Prop} (I:Inv X pins σ H s) (hg:Gl X x) (hm:X.mg x=none) (hv:bootBuiltins x=some u) (h:Q u s)
  (hn:x ≠ "__name__":=by decide) (hd:(x == ("__debug__":Str))=false:=by decide):wpAny (model X.prog X.w) X.A (eval (.Name x pos) X.env) Q E s:=by
 obtain ⟨mb,h1,h2⟩:=I.mod.blt
 exact Calls.Name_function_global I.ok.kind hg (Calls.loadGlobal_builtin (by rw [I.ok.glob];exact I.mod.glob.keeps I.bk) hm (by rw [I.ok.blt];exact h1.keeps I.bk) ((h2 x hn).trans hv) h) hd
theorem u9 {x:Str}{v:V}{u:Value}{pos:Pos} (hg:Gl X x) (hm:X.mg x=some u) (r:RelV v u) (hd:(x == ("__debug__":Str))=false:=by decide):PE X (.Name x pos) (tC v) :=
 fun _ _ _ H _ I h=>k8 I hg hm ⟨v,H,I,r,h⟩ hd
theorem iS {x:Str}{v:V}{u:Value}{pos:Pos} (hg:Gl X x) (hm:X.mg x=none) (hv:bootBuiltins x=some u) (r:RelV v u) (hn:x ≠ "__name__":=by decide) (hd:(x == ("__debug__":Str))=false:=by decide):PE X (.Name x pos) (tC v) :=
 fun _ _ _ H _ I h=>lR I hg hm hv ⟨v,H,I,r,h⟩ hn hd
variable {a b:Expr}{ta tb:TE}{pos:Pos}
variable {tA tB':TT}{rest:List Expr}
def Du (t u:TT):TT:=fun σ H Q=>t σ H fun c H1=>if c=true then u σ H1 Q else Q false H1
def tOr (t u:TT):TT:=fun σ H Q=>t σ H fun c H1=>if c=true then Q true H1 else u σ H1 Q
def Dl (t:TT):TT:=fun σ H Q=>t σ H fun c H1=>Q (!c) H1
theorem pw_and1 (ha:PT X a tA):PW X (.BoolOp .And [a] pos) tA:=by
 intro wh pins s σ H Q I h
 refine isTrue_and (thn (ha pins s σ H Q I h) fun c s1 e=>?_)
 cases c with
 | true=>exact isTrue_and_nil e
 | false=>exact e
theorem pw_or1 (ha:PT X a tA):PW X (.BoolOp .Or [a] pos) tA:=by
 intro wh pins s σ H Q I h
 refine isTrue_or (thn (ha pins s σ H Q I h) fun c s1 e=>?_)
 cases c with
 | false=>exact isTrue_or_nil e
 | true=>exact e
theorem pw_and (ha:PT X a tA) (hb:PW X (.BoolOp .And (b :: rest) pos) tB'):PW X (.BoolOp .And (a :: b :: rest) pos) (Du tA tB'):=by
 intro wh pins s σ H Q I h
 refine isTrue_and (thn (ha pins s σ H _ I h) fun c s1 ⟨H1,I1,q1⟩=>?_)
 cases c with
 | true=>exact hb wh pins s1 σ H1 Q I1 q1
 | false=>exact ⟨H1,I1,q1⟩
theorem pw_or (ha:PT X a tA) (hb:PW X (.BoolOp .Or (b :: rest) pos) tB'):PW X (.BoolOp .Or (a :: b :: rest) pos) (tOr tA tB'):=by
 intro wh pins s σ H Q I h
 refine isTrue_or (thn (ha pins s σ H _ I h) fun c s1 ⟨H1,I1,q1⟩=>?_)
 cases c with
 | true=>exact ⟨H1,I1,q1⟩
 | false=>exact hb wh pins s1 σ H1 Q I1 q1
theorem kH (ha:PT X a tA):PT X (.UnaryOp .Not a pos) (Dl tA):=by
 intro pins s σ H Q I h
 exact isTrue_not (ha pins s σ H (fun c H1=>Q (!c) H1) I h)
def CQ (ta tb:TE):TE:=fun σ H Q=>ta σ H fun x H1=>∃c,x=.bl c/\if c=true then tb σ H1 Q else Q (.bl false) H1
theorem tQ {op}{t:TE} (h:PE X a t):PE X (.BoolOp op [a] pos) t:=fun pins s σ H Q I hw=>BoolOp_one (h pins s σ H Q I hw)
theorem oa (ha:PE X a ta) (hb:PE X (.BoolOp .And (b :: rest) pos) tb):PE X (.BoolOp .And (a :: b :: rest) pos) (CQ ta tb):=by
 intro pins s σ H Q I h
 refine BoolOp_and (thn (ha pins s σ H _ I h) fun v s1 ⟨x,H1,I1,r1,q1⟩=>?_)
 obtain ⟨c,rfl,q1⟩:=q1
 cases r1
 refine wpAny_truthy_bool ?_
 cases c with
 | true=>exact hb pins s1 σ H1 Q I1 q1
 | false=>exact ⟨.bl false,H1,I1,rfl,q1⟩
def tIf (t:TT) (ta tb:TE):TE:=fun σ H Q=>t σ H fun c H1=>if c=true then ta σ H1 Q else tb σ H1 Q
theorem eG {c:Expr} (hc:PT X c tA) (ha:PE X a ta) (hb:PE X b tb):PE X (.IfExp c a b pos) (tIf tA ta tb):=by
 intro pins s σ H Q I h
 refine wpAny_IfExp (thn (hc pins s σ H _ I h) fun d s1 ⟨H1,I1,q1⟩=>?_)
 cases d with
 | true=>exact ha pins s1 σ H1 Q I1 q1
 | false=>exact hb pins s1 σ H1 Q I1 q1
end
end L2
namespace L2
open PySem PySem.Spec PyProof.Rows
def SqL (K:W.Frag) (H:Hp) (a:Addr) (xs:List V):Prop :=
 Rd H a (.lst xs) \/
  ∃(o:Obj) (its:Array Value) (n:Nat),K.lookup a=some o/\o.cls=.type "list"/\o.dict=none/\o.data=.seq its n/\its.size <= sizeLine/\Vals xs its.toList
def SqT (K:W.Frag) (H:Hp) (a:Addr) (xs:List V):Prop :=
 Rd H a (.tup xs) \/
  ∃(o:Obj) (its:Array Value) (n:Nat),K.lookup a=some o/\o.cls=.type "tuple"/\o.data=.seq its n/\its.size <= sizeLine/\Vals xs its.toList
def DG:Value->Option V
 | .none=>some .non
 | .bool b=>some (.bl b)
 | .int i _=>some (.int i)
 | .str x _=>some (.str x)
 | .bytes b _=>some (.byt b)
 | .float b _=>some (.flt b)
 | .ref a=>some (.ref a)
 | .type n=>some (.ty n)
 | _=>none
theorem RelV.abs {x:V}{u:Value} (r:RelV x u):DG u=some x:=by
 cases x with
 | non=>cases r;rfl
 | bl _=>cases r;rfl
 | int _=>obtain ⟨t,rfl⟩:=r;rfl
 | str _=>obtain ⟨t,rfl⟩:=r;rfl
 | byt _=>obtain ⟨t,rfl⟩:=r;rfl
 | flt _=>obtain ⟨t,rfl⟩:=r;rfl
 | ref _=>cases r;rfl
 | ty _=>cases r;rfl
theorem RelV.inj {x y:V}{u:Value} (r:RelV x u) (q:RelV y u):x=y:=Option.some.inj (r.abs.symm.trans q.abs)
theorem Vals.inj:∀{xs ys:List V}{us:List Value},Vals xs us->Vals ys us->xs=ys
 | _,_,_,.nil,.nil=>rfl
 | _,_,_,.cons r t,.cons r' t'=>by rw [r.inj r',Vals.inj t t']
section
variable {X:Cx}{pins:List (Addr × Obj)}{σ:St}{H:Hp}{s:Shared}{a:Addr}{xs ys:List V}
theorem SqL.of {K:W.Frag} (h:H a=some (.lst xs)):SqL K H a xs:=.inl (.inl h)
theorem SqT.of {K:W.Frag} (h:H a=some (.tup xs)):SqT K H a xs:=.inl (.inl h)
theorem Inv.list (I:Inv X pins σ H s) (h:SqL X.K H a xs):∃its:List Value,Vals xs its/\PlainL s.heap a its.toArray/\xs.length <= sizeLine:=by
 rcases h with h | ⟨o,its,n,hk,hc,hd,hs,hz,r⟩
 ·obtain ⟨z,its,n,r,e⟩:=h.ok I.hok
  exact ⟨its,r,⟨_,n,e,rfl,rfl,rfl⟩,z⟩
 ·refine ⟨its.toList,r,⟨o,n,I.kIn a o hk,hc,hd,by simpa using hs⟩,?_⟩
  have e:=r.length
  simp only [Array.length_toList] at e
  omega
theorem Inv.tuple (I:Inv X pins σ H s) (h:SqT X.K H a xs):∃its:List Value,Vals xs its/\IsTup s.heap a its.toArray/\xs.length <= sizeLine:=by
 rcases h with h | ⟨o,its,n,hk,hc,hs,hz,r⟩
 ·obtain ⟨z,its,r,p⟩:=h.ok I.hok
  exact ⟨its,r,p,z⟩
 ·refine ⟨its.toList,r,⟨o,I.kIn a o hk,hc,n,by simpa using hs⟩,?_⟩
  have e:=r.length
  simp only [Array.length_toList] at e
  omega
theorem Inv.oF (I:Inv X pins σ H s) (h:SqL X.K H a xs) (h':SqL X.K H a ys):xs=ys:=by
 obtain ⟨its,r,⟨o,n,e,_,_,d⟩,_⟩:=I.list h
 obtain ⟨its',r',⟨o',n',e',_,_,d'⟩,_⟩:=I.list h'
 rw [e] at e';cases e'
 rw [d] at d'
 injection d' with d1 _
 have:its=its':=by simpa using congrArg Array.toList d1
 subst this
 exact r.inj r'
theorem Inv.vH (I:Inv X pins σ H s) (h:SqT X.K H a xs) (h':SqT X.K H a ys):xs=ys:=by
 obtain ⟨its,r,⟨o,e,_,n,d⟩,_⟩:=I.tuple h
 obtain ⟨its',r',⟨o',e',_,n',d'⟩,_⟩:=I.tuple h'
 rw [e] at e';cases e'
 rw [d] at d'
 injection d' with d1 _
 have:its=its':=by simpa using congrArg Array.toList d1
 subst this
 exact r.inj r'
end
abbrev Cx.pD (X:Cx) (E:Value->Shared->Prop):Cx:={ X with xe:=E }
abbrev Cx.nox (X:Cx):Cx:=X.pD fun _ _=>False
theorem Cx.Ok.pD {X:Cx} (ok:X.Ok) (E:Value->Shared->Prop):(X.pD E).Ok :=
 ⟨ok.mod,ok.kind,ok.glob,ok.blt,ok.above,ok.inj,ok.has,ok.cab,ok.hd,ok.frames,ok.stk,ok.exf,ok.bs,ok.bsz,ok.xH,ok.xM,ok.mV,ok.frf⟩
theorem Cx.Ok.jN {X:Cx}{E:Value->Shared->Prop} (ok:(X.pD E).Ok):X.Ok :=
 ⟨ok.mod,ok.kind,ok.glob,ok.blt,ok.above,ok.inj,ok.has,ok.cab,ok.hd,ok.frames,ok.stk,ok.exf,ok.bs,ok.bsz,ok.xH,ok.xM,ok.mV,ok.frf⟩
section
variable {X:Cx}{pins:List (Addr × Obj)}{σ:St}{H:Hp}{s:Shared}{E:Value->Shared->Prop}
theorem Inv.pD (I:Inv X pins σ H s) (E:Value->Shared->Prop):Inv (X.pD E) pins σ H s:=⟨I.ok.pD E,I.os,I.bare,I.base,I.loc,I.cell,I.free,I.jO,I.pin,I.hok,I.len⟩
theorem Inv.jN (I:Inv (X.pD E) pins σ H s):Inv X pins σ H s:=⟨I.ok.jN,I.os,I.bare,I.base,I.loc,I.cell,I.free,I.jO,I.pin,I.hok,I.len⟩
theorem SP.jN {D:Ends}{f:Flow}{s':Shared} (h:SP (X.pD E) pins D f s'):SP X pins D f s':=by
 cases f with
 | next=>obtain ⟨σ',H',I,q⟩:=h;exact ⟨σ',H',I.jN,q⟩
 | brk=>obtain ⟨σ',H',I,q⟩:=h;exact ⟨σ',H',I.jN,q⟩
 | cont=>obtain ⟨σ',H',I,q⟩:=h;exact ⟨σ',H',I.jN,q⟩
 | ret u=>obtain ⟨v,σ',H',I,r,q⟩:=h;exact ⟨v,σ',H',I.jN,r,q⟩
theorem PSs.nox {st:List Stmt}{t:TS} (h:PSs X.nox st t):PSs X st t:=fun pins s σ H D I hw =>
 wpAny_mono (h pins s σ H D (I.pD _) hw) (fun _ _ q=>q.jN) fun _ _ z=>False.elim z
end
section
variable {X:Cx}{st:Stmt}{rest:List Stmt}{t u:TS}{e:Expr}{te:TE}{pos:Pos}
def CG:TS:=fun D σ H=>D.nx σ H
def rK (t u:TS):TS:=fun D σ H=>t { D with nx:=u D } σ H
theorem aL:PSs X [] CG:=fun _ _ σ H _ I h=>wpAny_execs_nil ⟨σ,H,I,h⟩
theorem ab (h1:PS X st t) (h2:PSs X rest u):PSs X (st :: rest) (rK t u):=by
 intro pins s σ H D I h
 refine wpAny_execs_cons (thn (h1 pins s σ H { D with nx:=u D } I h) fun f s1 q=>?_)
 cases f with
 | next =>
  obtain ⟨σ',H',I',q⟩:=q
  exact h2 pins s1 σ' H' D I' q
 | ret v=>exact q
 | brk=>exact q
 | cont=>exact q
theorem ag (h1:PS X st t):PSs X [st] t:=by
 intro pins s σ H D I h
 refine wpAny_execs_cons (thn (h1 pins s σ H D I h) fun f s1 q=>?_)
 cases f with
 | next=>exact wpAny_execs_nil q
 | ret v=>exact q
 | brk=>exact q
 | cont=>exact q
def Al:TS:=fun D σ H=>D.bk σ H
theorem rh:PS X (.Break pos) Al:=fun _ _ σ H _ I h=>wpAny_Break ⟨σ,H,I,h⟩
theorem Inv.quiet {pins:List (Addr × Obj)}{σ:St}{H:Hp}{s:Shared} (I:Inv X pins σ H s):interactive X.env=false:=by simp [interactive,I.ok.kind]
def BX (te:TE):TS:=fun D σ H=>te σ H fun _ H1=>D.nx σ H1
theorem aU (he:PE X e te) (hs:swapsWith e none pos.line X.env=pure false:=by rfl):PS X (.Expr e pos) (BX te):=by
 intro pins s σ H D I h
 exact wpAny_Expr_any (thn (he pins s σ H _ I h) fun v s1 ⟨x,H1,I1,r1,q1⟩=>⟨σ,H1,I1,q1⟩) I.quiet hs
def Dx (te:TE):TS:=fun D σ H=>te σ H D.rt
theorem az (he:PE X e te):PS X (.Return (some e) pos) (Dx te):=by
 intro pins s σ H D I h
 exact wpAny_Return_some (thn (he pins s σ H _ I h) fun v s1 ⟨x,H1,I1,r1,q1⟩=>⟨x,σ,H1,I1,r1,q1⟩)
def Dv (c:TT) (t u:TS):TS:=fun D σ H=>c σ H fun b H1=>if b=true then t D σ H1 else u D σ H1
theorem aS {c:Expr}{a b:List Stmt}{tc:TT} (hc:PT X c tc) (ha:PSs X a t) (hb:PSs X b u):PS X (.If c a b pos) (Dv tc t u):=by
 intro pins s σ H D I h
 refine wpAny_If (thn (hc pins s σ H _ I h) fun d s1 ⟨H1,I1,q1⟩=>?_)
 cases d with
 | true=>exact ha pins s1 σ H1 D I1 q1
 | false=>exact hb pins s1 σ H1 D I1 q1
def AB:TS:=fun _ _ _=>False
theorem vG {sts:List Stmt}:PSs X sts AB:=fun _ _ _ _ _ _ h=>h.elim
end
abbrev TG:=V->St->Hp->(St->Hp->Prop)->Prop
abbrev TGs:=List V->St->Hp->(St->Hp->Prop)->Prop
def PG (X:Cx) (target:Expr) (t:TG):Prop :=
 ∀(pins:List (Addr × Obj)) (s:Shared) (σ:St) (H:Hp) (v:V) (u:Value) (Q:St->Hp->Prop),Inv X pins σ H s->RelV v u->t v σ H Q ->
  wpAny (model X.prog X.w) X.A (assign target X.env u) (fun _ s'=>∃σ' H',Inv X pins σ' H' s'/\Q σ' H') X.xe s
def PGs (X:Cx) (ts:List Expr) (t:TGs):Prop :=
 ∀(pins:List (Addr × Obj)) (s:Shared) (σ:St) (H:Hp) (vs:List V) (us:List Value) (Q:St->Hp->Prop),Inv X pins σ H s->Vals vs us->t vs σ H Q ->
  wpAny (model X.prog X.w) X.A (assignInOrder ((assignEach ts X.env).map (·.2)) us) (fun _ s'=>∃σ' H',Inv X pins σ' H' s'/\Q σ' H') X.xe s
abbrev yU:=V->V->V->Hp->(Hp->Prop)->Prop
def xr (X:Cx) (t:yU):Prop :=
 ∀(pins:List (Addr × Obj)) (s:Shared) (σ:St) (H:Hp) (o i v:V) (ov iv u:Value) (Q:Hp->Prop),Inv X pins σ H s->RelV o ov->RelV i iv->RelV v u->t o i v H Q ->
  wpAny (model X.prog X.w) X.A (setItem ov iv u) (fun _ s'=>∃H',Inv X pins σ H' s'/\Q H') X.xe s
abbrev TIp:=V->V->Hp->VK->Prop
def PIp (X:Cx) (op:Operator) (t:TIp):Prop :=
 ∀(pins:List (Addr × Obj)) (s:Shared) (σ:St) (H:Hp) (x y:V) (v u:Value) (Q:VK),Inv X pins σ H s->RelV x v->RelV y u->t x y H Q ->
  wpAny (model X.prog X.w) X.A (inplaceOp op v u) (EP X pins σ Q) X.xe s
section
variable {X:Cx}{pos:Pos}
def jc (i:Nat):TG:=fun v σ H Q=>Q (σ.set i (some v)) H
theorem vb {i:Nat}{x:Str} (hN:X.N.Nodup) (hi:X.N[i]?=some x) (hx:Loc X.env.scope x) (hf:X.fn x=true \/ X.env.scope.names.lookup x=some .local:=by first | exact .inl rfl | exact .inr rfl | assumption):PG X (.Name x pos) (jc i):=by
 intro pins s σ H v u Q I r h
 exact wpAny_assign_Name (nS I hN hi hx r (fun s' I'=>⟨_,H,I',h⟩) hf)
def Df:TGs:=fun vs σ H Q=>vs=[]/\Q σ H
def Ce (t:TG) (u:TGs):TGs:=fun vs σ H Q=>∃v r,vs=v :: r/\t v σ H fun σ' H'=>u r σ' H' Q
theorem qw:PGs X [] Df:=by
 intro pins s σ H vs us Q I r h
 obtain ⟨e,h⟩:=h
 subst e
 cases r
 exact assignInOrder_nil ⟨σ,H,I,h⟩
theorem fF {e:Expr}{es:List Expr}{t:TG}{u:TGs} (h1:PG X e t) (h2:PGs X es u)
  (hs:(assignEach (e :: es) X.env).map (·.2)=assign e X.env :: (assignEach es X.env).map (·.2):=by rfl):PGs X (e :: es) (Ce t u):=by
 intro pins s σ H vs us Q I r h
 obtain ⟨v,vr,e1,h⟩:=h
 subst e1
 cases r with
 | cons r rr =>
  rw [hs]
  refine assignInOrder_cons (thn (h1 pins s σ H _ _ _ I r h) fun _ s1 ⟨σ1,H1,I1,q1⟩=>?_)
  exact h2 pins s1 σ1 H1 _ _ Q I1 rr q1
def DA (K:W.Frag) (n:Nat) (t:TGs):TG:=fun v σ H Q=>∃a xs,v=.ref a/\SqT K H a xs/\xs.length=n/\t xs σ H Q
theorem ux {es:List Expr}{k:Nat}{t:TGs}{n:Nat} (hc:X.calm=true) (h:PGs X es t)
  (hn:(assignEach es X.env).length=n:=by rfl) (hst:(assignEach es X.env).findIdx? (·.1)=none:=by rfl):PG X (.Tuple es k pos) (DA X.K n t):=by
 intro pins s σ H v u Q I r hw
 obtain ⟨a,xs,e1,hq,hl,hw⟩:=hw
 subst e1
 cases r
 obtain ⟨its,rv,ht,hz⟩:=I.tuple hq
 refine assign_Tuple_tuple (I.ok.hd hc) ht (by simp [hn,<- hl,rv.length]) hst fun h' hx=>?_
 have I1:Inv X pins σ H { s with heap:=h' }:=I.kept (t':=s.toks) fun b o e=>hx b o (Nat.ne_of_lt (Heap.lt_size e)) e
 exact h pins _ σ H xs _ Q I1 (by simpa using rv) hw
def DI (to ti:TE) (t:yU):TG:=fun v σ H Q=>to σ H fun o H1=>ti σ H1 fun i H2=>t o i v H2 fun H3=>Q σ H3
theorem bR {o i:Expr}{to ti:TE}{t:yU} (ho:PE X o to) (hi:PE X i ti) (hs:xr X t)
  (ha:∀v,assign (.Subscript o i pos) X.env v=(do
   let ov <- holding [v] (eval o X.env)
   let iv <- holding [v,ov] (eval i X.env)
   standAt pos
   holding [v,ov,iv] (setItem ov iv v)
   release [v,ov,iv] []):=by intro _;rfl):PG X (.Subscript o i pos) (DI to ti t):=by
 intro pins s σ H v u Q I r h
 rw [ha]
 refine wpAny_bind (wpAny_holding (thn (ho pins s σ H _ I h) fun ov s1 ⟨x,H1,I1,r1,q1⟩=>?_))
 refine wpAny_bind (wpAny_holding (thn (hi pins s1 σ H1 _ I1 q1) fun iv s2 ⟨y,H2,I2,r2,q2⟩=>?_))
 refine wpAny_bind (wpAny_standAt (wpAny_bind (wpAny_holding (thn (hs pins s2 σ H2 x y v ov iv u _ I2 r1 r2 r q2) fun _ s3 ⟨H3,I3,q3⟩=>?_))))
 exact wpAny_release ⟨σ,H3,I3,q3⟩
def zM (te:TE) (g:TG):TS:=fun D σ H=>te σ H fun x H1=>g x σ H1 D.nx
theorem bN {tg e:Expr}{te:TE}{g:TG} (he:PE X e te) (hg:PG X tg g) (hs:swapsWithSole [tg] e pos.line X.env=pure false:=by rfl) (hw:swappedStores [tg] e X.env=pure none:=by rfl)
  (h1:(assignEach [tg] X.env).map (·.2)=[assign tg X.env]:=by rfl):PS X (.Assign [tg] e pos) (zM te g):=by
 intro pins s σ H D I h
 refine wpAny_Assign_stores (thn (he pins s σ H _ I h) fun v s1 ⟨x,H1,I1,r1,q1⟩=>?_) hs hw
 rw [h1]
 exact thn (hg pins s1 σ H1 x v _ I1 r1 q1) fun _ s2 q=>q
theorem aE {i:Nat}{x:Str}{e:Expr}{te:TE}{pos':Pos} (hN:X.N.Nodup) (hi:X.N[i]?=some x) (hx:Loc X.env.scope x) (he:PE X e te) (hs:swapsWith e (some (.Name x pos')) pos.line X.env=pure false:=by rfl) (hf:X.fn x=true \/ X.env.scope.names.lookup x=some .local:=by first | exact .inl rfl | exact .inr rfl | assumption) :
  PS X (.Assign [.Name x pos'] e pos) (zM te (jc i)):=by
 intro pins s σ H D I h
 refine wpAny_Assign_Name (thn (he pins s σ H _ I h) fun v s1 ⟨y,H1,I1,r1,q1⟩=>?_) hs
 exact nS I1 hN hi hx r1 (fun s2 I2=>⟨_,H1,I2,q1⟩) hf
def Dj (i:Nat) (te:TE) (ti:TIp):TS:=fun D σ H=>∃x,σ[i]?=some (some x)/\te σ H fun y H1=>ti x y H1 fun z H2=>D.nx (σ.set i (some z)) H2
theorem yj {i:Nat}{x:Str}{e:Expr}{te:TE}{op:Operator}{ti:TIp}{pos':Pos} (hN:X.N.Nodup) (hi:X.N[i]?=some x) (hx:Loc X.env.scope x) (he:PE X e te) (ho:PIp X op ti) (hf:X.fn x=true \/ X.env.scope.names.lookup x=some .local:=by first | exact .inl rfl | exact .inr rfl | assumption) :
  PS X (.AugAssign (.Name x pos') op e pos) (Dj i te ti):=by
 intro pins s σ H D I h
 obtain ⟨v,e1,h⟩:=h
 obtain ⟨m,hn,hl⟩:=I.loc
 have vis:Vis X.env.scope x:=by rcases hx with k | k;exact .inl k;exact .inr (.inl k)
 obtain ⟨u,r,l⟩:=hl i x v hi e1 vis
 refine wpAny_AugAssign_Name ?_
 have go:wpAny (model X.prog X.w) X.A (eval e X.env) (fun w s₂=>wpAny (model X.prog X.w) X.A (inplaceOp op u w) (fun r s₃=>wpAny (model X.prog X.w) X.A (storeName X.env x r) (fun _=>SP X pins D .next) X.xe s₃) X.xe s₂) X.xe s:=by
  refine thn (he pins s σ H _ I h) fun w s1 ⟨y,H1,I1,r1,q1⟩=>?_
  refine thn (ho pins s1 σ H1 v y u w _ I1 r r1 q1) fun z s2 ⟨zv,H2,I2,r2,q2⟩=>?_
  exact nS I2 hN hi hx r2 (fun s3 I3=>⟨_,H2,I3,q2⟩) hf
 rcases l with ⟨hk,hm⟩ | ⟨hk,c,hc,hcell⟩
 ·exact wpAny_loadName_local I.ok.kind hk hn hm go
 ·rcases hk with hk | hk
  ·exact wpAny_loadName_cell I.ok.kind hk hc hcell go
  ·rcases hx with k | k
   ·have:X.env.scope.names.lookup x=some .free:=hk
    rw [k] at this;cases this
   ·have:X.env.scope.names.lookup x=some .free:=hk
    rw [k] at this;cases this
def ipI (f:Int->Int->Int):TIp:=fun x y H Q=>∃i j,x=.int i/\y=.int j/\Q (.int (f i j)) H
theorem ye:PIp X .Add (ipI fun i j=>i + j):=by
 intro pins s σ H x y v u Q I r1 r2 h
 obtain ⟨i,j,e1,e2,q⟩:=h
 subst e1;subst e2
 obtain ⟨t,rfl⟩:=r1
 obtain ⟨t',rfl⟩:=r2
 exact iadd_int ⟨.int _,H,I.tok _,⟨_,rfl⟩,q⟩
end
section
variable {X:Cx}{pos:Pos}
def AG (c:TT) (tb:TS):TS:=fun D σ H=>∃W:Nat->St->Hp->Prop,(∃m,W m σ H)/\∀m σ H,W m σ H ->
 c σ H fun b H1=>if b=true then ∃N:St->Hp->Prop,(∀σ' H',N σ' H'->∃m',m' < m/\W m' σ' H')/\tb { D with nx:=N,ct:=N,bk:=D.nx } σ H1 else D.nx σ H1
theorem sy {c:Expr}{body:List Stmt}{tc:TT}{tb:TS} (hp:PassesOwn (model X.prog X.w) X.A X.env X.xe) (hc:PT X c tc) (hb:PSs X body tb):PS X (.While c body [] pos) (AG tc tb):=by
 intro pins s σ H D I h
 obtain ⟨W,⟨m0,w0⟩,turn⟩:=h
 refine wpAny_While (codeAny_whileLoop (fun n s'=>∃σ' H',Inv X pins σ' H' s'/\W n σ' H') ?_ m0 ⟨σ,H,I,w0⟩)
 rintro n s1 ⟨σ1,H1,I1,w1⟩
 refine wpAny_passesOwn hp (thn (hc pins s1 σ1 H1 _ I1 (turn n σ1 H1 w1)) fun b s2 ⟨H2,I2,q2⟩=>?_)
 cases b with
 | true =>
  obtain ⟨N,hN,q2⟩:=q2
  rw [if_pos rfl]
  refine wpAny_passesOwn hp (thn (hb pins s2 σ1 H2 _ I2 q2) fun f s3 q3=>?_)
  cases f with
  | next =>
   obtain ⟨σ3,H3,I3,n3⟩:=q3
   obtain ⟨m',hm,w3⟩:=hN σ3 H3 n3
   exact ⟨m',hm,σ3,H3,I3,w3⟩
  | cont =>
   obtain ⟨σ3,H3,I3,n3⟩:=q3
   obtain ⟨m',hm,w3⟩:=hN σ3 H3 n3
   exact ⟨m',hm,σ3,H3,I3,w3⟩
  | brk=>exact q3
  | ret v=>exact q3
 | false =>
  rw [if_neg Bool.false_ne_true]
  exact wpAny_execs_nil ⟨σ1,H2,I2,q2⟩
end
structure It where
 go:Nat->Hp->Prop
 yld:Nat->Hp->V->Hp->Prop
 stop:Nat->Hp->Prop
def oS (X:Cx) (pins:List (Addr × Obj)) (H:Hp) (b:Addr):Prop :=
 H b=none/\b ≠ X.env.locals/\b ∉ X.fs/\(b ∈ X.ex \/ X.s₀.heap.objs.size <= b)/\(∀x c,X.env.cells.lookup x=some c->c ≠ b)/\∀p ∈ X.pn ++ pins,p.1 ≠ b
theorem Inv.tM {X:Cx}{pins:List (Addr × Obj)}{σ:St}{H H':Hp}{s:Shared}{b:Addr} (I:Inv X pins σ H s) (hb:s.heap.objs.size <= b) (hn:H' b=none):oS X pins H' b:=by
 refine ⟨hn,Nat.ne_of_gt (Nat.lt_of_lt_of_le I.lt hb),I.CF hb,.inr (Nat.le_trans I.sz hb),fun x c e z=>?_,fun p hp z=>?_⟩
 ·obtain ⟨v,q⟩:=I.cell x c e
  exact absurd (Nat.lt_of_lt_of_le q.lt (by rw [z];exact hb)) (Nat.lt_irrefl _)
 ·exact absurd (Nat.lt_of_lt_of_le (Heap.lt_size (I.pin p hp).1) (by rw [z];exact hb)) (Nat.lt_irrefl _)
structure Turn (P:Program) (w:World) (K:W.Frag) (tg:Expr) (J:It) (fp:List Addr) (it:Addr) (tn:Nat->Heap->Prop):Prop where
 mem:it ∈ fp
 obj:∀i h,tn i h->∀b ∈ fp,∃o,h.get? b=some o/\∀v,o.data ≠ .cell v
 keep:∀i h h',tn i h->(∀b ∈ fp,∀o,h.get? b=some o->h'.get? b=some o)->tn i h'
 item:∀(X:Cx),X.prog=P->X.w=w->X.K=K->X.calm=true->∀(i:Nat) (pins:List (Addr × Obj)) (s:Shared) (σ:St) (H:Hp) (E:Value->Shared->Prop),Inv X pins σ H s->(∀b ∈ fp,oS X pins H b)->tn i s.heap->J.go i H ->
  wpAny (model P w) X.A (pyNext (.ref it)) (fun r s1=>∃u,r=some u /\
   wpAny (model P w) X.A (letOwnedTupleGo tg (.ref it) u) (fun _ s2=>∃x H',Inv X pins σ H' s2/\RelV x u/\J.yld i H x H'/\tn (i + 1) s2.heap/\∀b ∈ fp,H' b=none) E s1) E s
 done:∀(X:Cx),X.prog=P->X.w=w->X.K=K->X.calm=true->∀(i:Nat) (pins:List (Addr × Obj)) (s:Shared) (σ:St) (H:Hp) (E:Value->Shared->Prop),Inv X pins σ H s->(∀b ∈ fp,oS X pins H b)->tn i s.heap->J.stop i H ->
  wpAny (model P w) X.A (pyNext (.ref it)) (fun r s1=>r=none/\Inv X pins σ H s1) E s
 self:∀(A:Around) (i:Nat) (s:Shared) (Q:Value->Shared->Prop) (E:Value->Shared->Prop),tn i s.heap->Q (.ref it) s->wpAny (model P w) A (pyIter (.ref it)) Q E s
abbrev TI:=St->Hp->(It->Hp->Prop)->Prop
def PIE (X:Cx) (pins:List (Addr × Obj)) (σ:St) (tg:Expr) (R:It->Hp->Prop) (itv:Value) (s2:Shared):Prop :=
 ∃(it:Addr) (fp:List Addr) (tn:Nat->Heap->Prop) (J:It) (H':Hp),itv=.ref it/\Inv X pins σ H' s2/\Turn X.prog X.w X.K tg J fp it tn/\tn 0 s2.heap/\(∀b ∈ fp,oS X pins H' b)/\R J H'
def PI (X:Cx) (tg iter:Expr) (wi:TI):Prop :=
 ∀(pins:List (Addr × Obj)) (s:Shared) (σ:St) (H:Hp) (R:It->Hp->Prop),Inv X pins σ H s->wi σ H R ->
  wpAny (model X.prog X.w) X.A (eval iter X.env) (fun v s1=>wpAny (model X.prog X.w) X.A (pyIter v) (PIE X pins σ tg R) X.xe s1) X.xe s
theorem uL {M:Model}{A:Around}{E:Value->Shared->Prop}{s:Shared}{tg:Expr}{it:Addr}{u:Value}{o:Obj}{n:String}{vs:Array Value}{Q:Unit->Shared->Prop} (ho:s.heap.get? it=some o) (hc:o.cls=.type n) (hd:o.data=.fields vs)
    (hn:["enumerate","zip","dict_itemiterator","dict_reverseitemiterator","odict_iterator","itertools.zip_longest","itertools.pairwise"].contains n=false) (hQ:Q () s):wpAny M A (letOwnedTupleGo tg (.ref it) u) Q E s:=by
  unfold letOwnedTupleGo
  cases tg <;> first
    | exact wpAny_pure hQ
    | (cases u <;> first
        | exact wpAny_pure hQ
        | (refine wpAny_bind (wpAny_load ho ?_)
           rw [hc,hd]
           show wpAny M A (if (["enumerate","zip","dict_itemiterator","dict_reverseitemiterator","odict_iterator","itertools.zip_longest","itertools.pairwise"].contains n && vs[0]? == some (rawInt _))=true then _ else _) Q E s
           rw [if_neg (by intro h;rw [hn,Bool.false_and] at h;cases h)]
           exact wpAny_pure hQ))
def Itl (K:W.Frag) (a:Addr):It :=
 ⟨fun i H=>∃xs x,SqL K H a xs/\xs[i]?=some x,fun i H x H'=>H'=H/\∀xs,SqL K H a xs->xs[i]?=some x,fun i H=>∃xs,SqL K H a xs/\xs.length <= i⟩
def Itt (K:W.Frag) (a:Addr):It :=
 ⟨fun i H=>∃xs x,SqT K H a xs/\xs[i]?=some x,fun i H x H'=>H'=H/\∀xs,SqT K H a xs->xs[i]?=some x,fun i H=>∃xs,SqT K H a xs/\xs.length <= i⟩
def Itr (lo:Int) (n:Nat):It:=⟨fun i _=>i < n,fun i H x H'=>H'=H/\x=.int (lo + i),fun i _=>n <= i⟩
theorem wB {P:Program}{w:World}{K:W.Frag}{tg:Expr} (a it:Addr):Turn P w K tg (Itl K a) [it] it (fun i h=>h.IsListIter it a i) where
 mem:=by simp
 obj:=fun i h st b hb=>by
  have e:b=it:=by simpa using hb
  subst e
  obtain ⟨o,e,c,d⟩:=st
  exact ⟨o,e,fun v z=>by rw [d] at z;cases z⟩
 keep:=fun i h h' st k=>st.at fun o e=>k it (by simp) o e
 item:=by
  intro X hP hw hK hc i pins s σ H E I hf st hg
  subst hP hw hK
  obtain ⟨xs,x,hq,hx⟩:=hg
  obtain ⟨its,rv,p,hz⟩:=I.list hq
  obtain ⟨u,hu,ru⟩:=rv.get hx
  obtain ⟨f0,f1,f2,f3,f4,f5⟩:=hf it (by simp)
  refine wpAny_pyNext_list_item st p.isList (x:=u) (by simpa using hu) fun h' st' sb=>?_
  have I1:Inv X pins σ H { s with heap:=h' }:=I.turned (t':=s.toks) (fun b o hb e=>(sb.2 b hb).trans e) f0 f1 f3 f4 f5
  obtain ⟨o,e,c,d⟩:=id st'
  exact ⟨u,rfl,uL (s:={ s with heap:=h' }) e c d (by decide) ⟨x,H,I1,ru,⟨rfl,fun ys hy=>by rw [I.oF hy hq];exact hx⟩,st',fun b hb=>(hf b hb).1⟩⟩
 done:=by
  intro X hP hw hK hc i pins s σ H E I hf st hg
  subst hP hw hK
  obtain ⟨xs,hq,hx⟩:=hg
  obtain ⟨its,rv,p,hz⟩:=I.list hq
  obtain ⟨f0,f1,f2,f3,f4,f5⟩:=hf it (by simp)
  have hl:=rv.length
  exact wpAny_pyNext_list_end (I.ok.hd hc) st p.isList (by simp;omega) fun h' eb=>⟨rfl,I.turned (t':=s.toks) (fun b o hb e=>eb b o hb e) f0 f1 f3 f4 f5⟩
 self:=fun _ _ _ _ _ st h=>wpAny_pyIter_listiter st h
theorem tR {P:Program}{w:World}{K:W.Frag}{tg:Expr} (a it:Addr):Turn P w K tg (Itt K a) [it] it (fun i h=>h.IsTupleIter it a i) where
 mem:=by simp
 obj:=fun i h st b hb=>by
  have e:b=it:=by simpa using hb
  subst e
  obtain ⟨o,e,c,d⟩:=st
  exact ⟨o,e,fun v z=>by rw [d] at z;cases z⟩
 keep:=fun i h h' st k=>st.at fun o e=>k it (by simp) o e
 item:=by
  intro X hP hw hK hc i pins s σ H E I hf st hg
  subst hP hw hK
  obtain ⟨xs,x,hq,hx⟩:=hg
  obtain ⟨its,rv,p,hz⟩:=I.tuple hq
  obtain ⟨u,hu,ru⟩:=rv.get hx
  obtain ⟨f0,f1,f2,f3,f4,f5⟩:=hf it (by simp)
  refine wpAny_pyNext_tuple_item st (show s.heap.IsTuple a its.toArray from p) (x:=u) (by simpa using hu) fun h' st' sb=>?_
  have I1:Inv X pins σ H { s with heap:=h' }:=I.turned (t':=s.toks) (fun b o hb e=>(sb.2 b hb).trans e) f0 f1 f3 f4 f5
  obtain ⟨o,e,c,d⟩:=id st'
  exact ⟨u,rfl,uL (s:={ s with heap:=h' }) e c d (by decide) ⟨x,H,I1,ru,⟨rfl,fun ys hy=>by rw [I.vH hy hq];exact hx⟩,st',fun b hb=>(hf b hb).1⟩⟩
 done:=by
  intro X hP hw hK hc i pins s σ H E I hf st hg
  subst hP hw hK
  obtain ⟨xs,hq,hx⟩:=hg
  obtain ⟨its,rv,p,hz⟩:=I.tuple hq
  obtain ⟨f0,f1,f2,f3,f4,f5⟩:=hf it (by simp)
  have hl:=rv.length
  exact wpAny_pyNext_tuple_end (I.ok.hd hc) st (show s.heap.IsTuple a its.toArray from p) (by simp;omega) fun h' eb=>⟨rfl,I.turned (t':=s.toks) (fun b o hb e=>eb b o hb e) f0 f1 f3 f4 f5⟩
 self:=fun _ _ _ _ _ st h=>wpAny_pyIter_tupleiter st h
theorem tH {P:Program}{w:World}{K:PySem.W.Frag}{tg:Expr} (it:Addr) (lo:Int) (n:Nat):Turn P w K tg (Itr lo n) [it] it (fun i h=>IsRangeIter h it (lo + (i:Nat) * 1) ((n:Int) - (i:Nat)) 1) where
 mem:=by simp
 obj:=fun i h st b hb=>by
  have e:b=it:=by simpa using hb
  subst e
  exact ⟨_,st,fun v z=>by
   have z':Data.fields _=Data.cell v:=z
   cases z'⟩
 keep:=fun i h h' st k=>k it (by simp) _ st
 item:=by
  intro X hP hw hK hc i pins s σ H E I hf st hg
  subst hP hw hK
  obtain ⟨f0,f1,f2,f3,f4,f5⟩:=hf it (by simp)
  have W:=Walks.range (prog:=X.prog) (w:=X.w) (I.ok.hd hc) it lo 1 n
  refine W.item i s _ _ hg st fun v h' tk hv st' kk=>?_
  obtain ⟨t,rfl⟩:=hv
  have I1:Inv X pins σ H { s with heap:=h',toks:=tk }:=I.turned (fun b o hb e=>kk b o (by simpa using hb) e) f0 f1 f3 f4 f5
  refine ⟨_,rfl,uL (s:={ s with heap:=h',toks:=tk }) (n:="range_iterator") st' rfl rfl (by decide) ⟨.int (lo + i),H,I1,⟨t,?_⟩,⟨rfl,rfl⟩,st',fun b hb=>(hf b hb).1⟩⟩
  rw [Int.mul_one]
 done:=by
  intro X hP hw hK hc i pins s σ H E I hf st hg
  subst hP hw hK
  obtain ⟨f0,f1,f2,f3,f4,f5⟩:=hf it (by simp)
  exact wpAny_pyNext_range_end (I.ok.hd hc) st (by have:n <= i:=hg;omega) fun h' eb=>⟨rfl,I.turned (t':=s.toks) (fun b o hb e=>eb b o hb e) f0 f1 f3 f4 f5⟩
 self:=fun _ _ _ _ _ st h=>wpAny_pyIter_rangeiter st h
end L2
namespace L2
open PySem PySem.Spec PyProof.Rows
section
variable {X:Cx}{tg:Expr}
theorem sq {pins:List (Addr × Obj)}{σ:St}{H:Hp}{s:Shared}{R:It->Hp->Prop}{E:Value->Shared->Prop}{lo hi:Int}{t u v:Tok}{tk:Nat} (I:Inv X pins σ H s) (h1:-(2 ^ 62) <= lo) (h2:lo < 2 ^ 62) (h3:-(2 ^ 62) <= hi) (h4:hi < 2 ^ 62)
  (q:R (Itr lo (hi - lo).toNat) H):wpAny (model X.prog X.w) X.A (pyIter (.ref s.heap.objs.size)) (PIE X pins σ tg R) E { s with heap:=s.heap.push { cls:=.type "range",data:=.fields #[.int lo t,.int hi u,.int 1 v] },toks:=tk }:=by
 refine wpAny_pyIter_range (IsRange.new ..) (small_one h1 h2 h3 h4) ?_
 have I1:Inv X pins σ H { s with heap:=s.heap.push { cls:=.type "range",data:=.fields #[.int lo t,.int hi u,.int 1 v] },toks:=tk }:=I.kept fun b o e=>Heap.get?_push_of_some _ e
 refine ⟨(s.heap.push { cls:=.type "range",data:=.fields #[.int lo t,.int hi u,.int 1 v] }).objs.size,[(s.heap.push { cls:=.type "range",data:=.fields #[.int lo t,.int hi u,.int 1 v] }).objs.size],_,_,H,rfl,
  I1.kept (t':=tk) fun b o e=>Heap.get?_push_of_some _ e,tH _ lo (hi - lo).toNat,?_,fun b hb=>?_,q⟩
 ·have e1:lo + ((0:Nat):Int) * 1=lo:=by simp
  have e2:(((hi - lo).toNat:Nat):Int) - ((0:Nat):Int)=Builtin.Range.rangeSize lo hi 1:=by rw [rangeSize_one];split <;> omega
  show IsRangeIter _ _ (lo + ((0:Nat):Int) * 1) ((((hi - lo).toNat:Nat):Int) - ((0:Nat):Int)) 1
  rw [e1,e2]
  exact Heap.get?_push_size _ rfl
 ·have e:b=(s.heap.push { cls:=.type "range",data:=.fields #[.int lo t,.int hi u,.int 1 v] }).objs.size:=by simpa using hb
  subst e
  exact I1.tM (Nat.le_refl _) (I1.hok.fresh (Nat.le_refl _))
def B6 (ta:TA):TI:=fun σ H R=>ta σ H fun vs H1=>∃j:Int,vs=[.int j]/\-(2 ^ 62) <= j/\j < 2 ^ 62/\R (Itr 0 j.toNat) H1
def Cz (ta:TA):TI:=fun σ H R=>ta σ H fun vs H1=>∃i j:Int,vs=[.int i,.int j]/\(-(2 ^ 62) <= i/\i < 2 ^ 62/\-(2 ^ 62) <= j/\j < 2 ^ 62)/\R (Itr i (j - i).toNat) H1
theorem iF {a:Expr}{ta:TA}{p pos:Pos} (hg:Gl X "range") (hm:X.mg "range"=none) (ha:PA X [a] ta) (hs:starEach [a] X.env=[(false,eval a X.env)]:=by rfl):PI X tg (.Call (.Name "range" p) [a] [] pos) (B6 ta):=by
 intro pins s σ H R I h
 refine Call_ (lR I hg hm boot_range (PyProof.Rows.callWith_type1 (thn (ha pos pins s σ H _ I h) fun us s1 ⟨vs,H1,I1,r1,q1⟩=>?_) hs rfl))
 obtain ⟨j,e,q1,q2,q⟩:=q1
 subst e
 cases r1 with
 | cons r rr =>
  cases rr
  obtain ⟨t,rfl⟩:=r
  exact call_range_1 (sq I1 (by omega) (by omega) q1 q2 (by simpa using q))
theorem j2 {a b:Expr}{ta:TA}{p pos:Pos} (hg:Gl X "range") (hm:X.mg "range"=none) (ha:PA X [a,b] ta) (hs:starEach [a,b] X.env=[(false,eval a X.env),(false,eval b X.env)]:=by rfl) (hs2:starEach [b] X.env=[(false,eval b X.env)]:=by rfl) :
  PI X tg (.Call (.Name "range" p) [a,b] [] pos) (Cz ta):=by
 intro pins s σ H R I h
 refine Call_ (lR I hg hm boot_range (PyProof.Rows.callWith_type1 (thn (ha pos pins s σ H _ I h) fun us s1 ⟨vs,H1,I1,r1,q1⟩=>?_) (by rw [hs,hs2]) (by rw [hs2];rfl)))
 obtain ⟨i,j,e,⟨q1,q2,q3,q4⟩,q⟩:=q1
 subst e
 cases r1 with
 | cons r rr =>
  cases rr with
  | cons r' rr =>
   cases rr
   obtain ⟨t,rfl⟩:=r
   obtain ⟨t',rfl⟩:=r'
   exact call_range_2 (sq I1 q1 q2 q3 q4 q)
def CZ (wi:TI) (g:TG) (tb:TS):TS:=fun D σ H=>wi σ H fun J H1=>∃W:Nat->Nat->St->Hp->Prop,(∃m,W 0 m σ H1)/\∀i m σ H,W i m σ H ->
 (J.stop i H/\D.nx σ H) \/ (J.go i H/\∃N:St->Hp->Prop,(∀σ' H',N σ' H'->∃m',m' < m/\W (i + 1) m' σ' H')/\∀x H',J.yld i H x H'->g x σ H' fun σ2 H2=>tb { D with nx:=N,ct:=N,bk:=D.nx } σ2 H2)
def nU (fp:List Addr) (h:Heap):List (Addr × Obj):=fp.filterMap fun b=>(h.get? b).map fun o=>(b,o)
theorem iQ {fp:List Addr}{h:Heap}{b:Addr}{o:Obj} (hb:b ∈ fp) (e:h.get? b=some o):(b,o) ∈ nU fp h:=List.mem_filterMap.mpr ⟨b,hb,by rw [e];rfl⟩
theorem wo {fp:List Addr}{h:Heap}{p:Addr × Obj} (hp:p ∈ nU fp h):p.1 ∈ fp/\h.get? p.1=some p.2:=by
 obtain ⟨b,hb,e⟩:=List.mem_filterMap.mp hp
 cases q:h.get? b with
 | none=>rw [q] at e;cases e
 | some o =>
  rw [q] at e
  have e':(b,o)=p:=Option.some.inj e
  subst e'
  exact ⟨hb,q⟩
theorem Inv.pinned {pins:List (Addr × Obj)}{σ:St}{H:Hp}{s:Shared}{fp:List Addr} (I:Inv X pins σ H s) (hf:∀b ∈ fp,oS X pins H b) (ho:∀b ∈ fp,∃o,s.heap.get? b=some o/\∀v,o.data ≠ .cell v):Inv X (pins ++ nU fp s.heap) σ H s :=
 I.qL fun p hp=>(List.mem_append.mp hp).elim (fun z=>I.pin p (List.mem_append_right _ z)) fun z=>by
  obtain ⟨hb,e⟩:=wo z
  obtain ⟨f0,f1,f2,_⟩:=hf p.1 hb
  obtain ⟨o,e',d⟩:=ho p.1 hb
  rw [e] at e';cases e'
  exact ⟨e,f0,f1,f2,d⟩
theorem Inv.jJ {pins pl:List (Addr × Obj)}{σ:St}{H:Hp}{s:Shared} (I:Inv X (pins ++ pl) σ H s):Inv X pins σ H s:=I.qL fun p hp=>I.pin p (List.mem_append_right _ (List.mem_append_left _ hp))
theorem dD {iter:Expr}{body:List Stmt}{wi:TI}{g:TG}{tb:TS}{pos:Pos} (hp:PassesOwn (model X.prog X.w) X.A X.env X.xe) (hc:X.calm=true) (hi:PI X tg iter wi) (hg:PG X tg g) (hb:PSs X body tb)
  (hs:∀x,foldedSetIterable iter X.env x=pure x:=by intro _;rfl):PS X (.For tg iter body [] pos) (CZ wi g tb):=by
 intro pins s σ H D I h
 refine wpAny_For (thn (hi pins s σ H _ I h) fun v s1 h1=>thn h1 fun itv s2 h2=>?_) hs
 obtain ⟨it,fp,tn,J,H2,e,I2,T,st2,f2,W,⟨m0,w0⟩,turn⟩:=h2
 subst e
 have stat:∀{H':Hp},(∀b ∈ fp,H' b=none)->∀b ∈ fp,oS X pins H' b:=fun hn b hb=>⟨hn b hb,(f2 b hb).2⟩
 refine codeAny_forLoop_any (fun n s'=>∃i σ' H',Inv X pins σ' H' s'/\tn i s'.heap/\(∀b ∈ fp,H' b=none)/\W i n σ' H') ?_ m0 ⟨0,σ,H2,I2,st2,fun b hb=>(f2 b hb).1,w0⟩
 rintro n s3 ⟨i,σ3,H3,I3,st3,fr3,w3⟩
 rcases turn i n σ3 H3 w3 with ⟨stop,qn⟩ | ⟨go,N,hN,step⟩
 ·refine wpAny_passesOwn hp (thn (T.done X rfl rfl rfl hc i pins s3 σ3 H3 X.xe I3 (stat fr3) st3 stop) fun r s4 ⟨hr,I4⟩=>?_)
  subst hr
  exact wpAny_execs_nil ⟨σ3,H3,I4,qn⟩
 ·refine wpAny_passesOwn hp (thn (T.item X rfl rfl rfl hc i pins s3 σ3 H3 X.xe I3 (stat fr3) st3 go) fun r s4 ⟨u,hr,h4⟩=>?_)
  subst hr
  refine wpAny_passesOwn hp (thn h4 fun _ s5 ⟨x,H5,I5,r5,y5,st5,fr5⟩=>?_)
  have I5':=I5.pinned (stat fr5) (T.obj _ _ st5)
  refine wpAny_passesOwn hp (thn (hg _ s5 σ3 H5 x u _ I5' r5 (step x H5 y5)) fun _ s6 ⟨σ6,H6,I6,q6⟩=>?_)
  refine wpAny_passesOwn hp (thn (hb _ s6 σ6 H6 _ I6 q6) fun f s7 q7=>?_)
  have again:∀{σ7:St}{H7:Hp},Inv X (pins ++ nU fp s5.heap) σ7 H7 s7->N σ7 H7->∃m,m < n/\∃i σ' H',Inv X pins σ' H' s7/\tn i s7.heap/\(∀b ∈ fp,H' b=none)/\W i m σ' H':=fun {σ7 H7} I7 n7=>by
   obtain ⟨m',hm,w7⟩:=hN σ7 H7 n7
   refine ⟨m',hm,i + 1,σ7,H7,I7.jJ,T.keep _ _ _ st5 fun b hb o e=>(I7.pin (b,o) (List.mem_append_right _ (List.mem_append_right _ (iQ hb e)))).1,fun b hb=>?_,w7⟩
   obtain ⟨o,e,d⟩:=T.obj _ _ st5 b hb
   exact (I7.pin (b,o) (List.mem_append_right _ (List.mem_append_right _ (iQ hb e)))).2.1
  cases f with
  | next=>obtain ⟨σ7,H7,I7,n7⟩:=q7;exact again I7 n7
  | cont=>obtain ⟨σ7,H7,I7,n7⟩:=q7;exact again I7 n7
  | brk=>obtain ⟨σ7,H7,I7,q7⟩:=q7;exact ⟨σ7,H7,I7.jJ,q7⟩
  | ret v=>obtain ⟨x7,σ7,H7,I7,r7,q7⟩:=q7;exact ⟨x7,σ7,H7,I7.jJ,r7,q7⟩
end
theorem dO {K:PySem.W.Frag}{a:Addr}{xs:List V}{g:TG}{tb:TS}{D:Ends}{σ:St}{H:Hp} (Pv:Nat->St->Hp->Prop) (h0:Pv 0 σ H) (hl:∀i σ H,i <= xs.length->Pv i σ H->SqL K H a xs)
  (hs:∀i x σ H,xs[i]?=some x->Pv i σ H->g x σ H fun σ2 H2=>tb { D with nx:=Pv (i + 1),ct:=Pv (i + 1),bk:=D.nx } σ2 H2) (hd:∀σ H,Pv xs.length σ H->D.nx σ H) :
  ∃W:Nat->Nat->St->Hp->Prop,(∃m,W 0 m σ H)/\∀i m σ H,W i m σ H ->
   ((Itl K a).stop i H/\D.nx σ H) \/ ((Itl K a).go i H/\∃N:St->Hp->Prop,(∀σ' H',N σ' H'->∃m',m' < m/\W (i + 1) m' σ' H')/\∀x H',(Itl K a).yld i H x H'->g x σ H' fun σ2 H2=>tb { D with nx:=N,ct:=N,bk:=D.nx } σ2 H2):=by
 refine ⟨fun i m σ H=>m=xs.length - i/\i <= xs.length/\Pv i σ H,⟨xs.length,by simp,Nat.zero_le _,h0⟩,?_⟩
 rintro i m σ H ⟨rfl,hi,p⟩
 have q:=hl i σ H hi p
 by_cases hlt:i < xs.length
 ·refine .inr ⟨⟨xs,xs[i],q,by simp [hlt]⟩,Pv (i + 1),fun σ' H' p'=>⟨xs.length - (i + 1),by omega,rfl,hlt,p'⟩,fun x H' y=>?_⟩
  obtain ⟨e,y⟩:=y
  subst e
  exact hs i x σ _ (y xs q) p
 ·have e:i=xs.length:=by omega
  subst e
  exact .inl ⟨⟨xs,q,Nat.le_refl _⟩,hd σ H p⟩
theorem fY {lo:Int}{n:Nat}{g:TG}{tb:TS}{D:Ends}{σ:St}{H:Hp} (Pv:Nat->St->Hp->Prop) (h0:Pv 0 σ H)
  (hs:∀i σ H,i < n->Pv i σ H->g (.int (lo + i)) σ H fun σ2 H2=>tb { D with nx:=Pv (i + 1),ct:=Pv (i + 1),bk:=D.nx } σ2 H2) (hd:∀σ H,Pv n σ H->D.nx σ H) :
  ∃W:Nat->Nat->St->Hp->Prop,(∃m,W 0 m σ H)/\∀i m σ H,W i m σ H ->
   ((Itr lo n).stop i H/\D.nx σ H) \/ ((Itr lo n).go i H/\∃N:St->Hp->Prop,(∀σ' H',N σ' H'->∃m',m' < m/\W (i + 1) m' σ' H')/\∀x H',(Itr lo n).yld i H x H'->g x σ H' fun σ2 H2=>tb { D with nx:=N,ct:=N,bk:=D.nx } σ2 H2):=by
 refine ⟨fun i m σ H=>m=n - i/\i <= n/\Pv i σ H,⟨n,by simp,Nat.zero_le _,h0⟩,?_⟩
 rintro i m σ H ⟨rfl,hi,p⟩
 by_cases hlt:i < n
 ·refine .inr ⟨hlt,Pv (i + 1),fun σ' H' p'=>⟨n - (i + 1),by omega,rfl,hlt,p'⟩,fun x H' y=>?_⟩
  obtain ⟨e,y⟩:=y
  subst e y
  exact hs i σ _ hlt p
 ·have e:i=n:=by omega
  subst e
  exact .inl ⟨Nat.le_refl _,hd σ H p⟩
end L2
namespace L2
open PySem PySem.Spec PyProof.Rows
abbrev R2:=V->V->Hp->VK->Prop
def OpR (X:Cx) (f:Value->Value->Sem Value) (r:R2):Prop :=
 ∀(pins:List (Addr × Obj)) (s:Shared) (σ:St) (H:Hp) (x y:V) (v u:Value) (Q:VK),Inv X pins σ H s->RelV x v->RelV y u->r x y H Q ->
  wpAny (model X.prog X.w) X.A (f v u) (EP X pins σ Q) X.xe s
def UnR (X:Cx) (f:Value->Sem Value) (r:V->Hp->VK->Prop):Prop :=
 ∀(pins:List (Addr × Obj)) (s:Shared) (σ:St) (H:Hp) (x:V) (v:Value) (Q:VK),Inv X pins σ H s->RelV x v->r x H Q ->
  wpAny (model X.prog X.w) X.A (f v) (EP X pins σ Q) X.xe s
def eo (X:Cx) (f:Value) (r:List V->Hp->VK->Prop):Prop :=
 ∀(pins:List (Addr × Obj)) (s:Shared) (σ:St) (H:Hp) (xs:List V) (us:List Value) (Q:VK),Inv X pins σ H s->Vals xs us->r xs H Q ->
  wpAny (model X.prog X.w) X.A (call f us) (EP X pins σ Q) X.xe s
def DE (X:Cx) (r:V->Hp->(Bool->Hp->Prop)->Prop):Prop :=
 ∀(pins:List (Addr × Obj)) (s:Shared) (σ:St) (H:Hp) (x:V) (v:Value) (Q:Bool->Hp->Prop),Inv X pins σ H s->RelV x v->r x H Q ->
  wpAny (model X.prog X.w) X.A (truthy v) (TP X pins σ Q) X.xe s
def tOp (r:R2) (ta tb:TE):TE:=fun σ H Q=>ta σ H fun x H1=>tb σ H1 fun y H2=>r x y H2 Q
def tUn (r:V->Hp->VK->Prop) (ta:TE):TE:=fun σ H Q=>ta σ H fun x H1=>r x H1 Q
def rI (C:Int->Int->Prop) (g:Int->Int->V):R2:=fun x y H Q=>∃i j,x=.int i/\y=.int j/\C i j/\Q (g i j) H
def rI0 (g:Int->Int->V):R2:=fun x y H Q=>∃i j,x=.int i/\y=.int j/\Q (g i j) H
def rU (g:Int->V):V->Hp->VK->Prop:=fun x H Q=>∃i,x=.int i/\Q (g i) H
section
variable {X:Cx}{a b c:Expr}{ta tb tc:TE}{pos:Pos}
theorem Am (ha:PE X a ta) (hb:PE X b tb) {pins:List (Addr × Obj)}{s:Shared}{σ:St}{H:Hp}{R:V->V->Hp->Prop} (I:Inv X pins σ H s)
  (h:ta σ H fun x H1=>tb σ H1 fun y H2=>R x y H2) {Q:Value->Shared->Prop}{f:Value->Value->Sem Value}
  (hf:∀v u s2 x y H2,Inv X pins σ H2 s2->RelV x v->RelV y u->R x y H2->wpAny (model X.prog X.w) X.A (f v u) Q X.xe s2) :
  wpAny (model X.prog X.w) X.A (eval a X.env) (fun v s₁=>wpAny (model X.prog X.w) X.A (eval b X.env) (fun u s₂=>wpAny (model X.prog X.w) X.A (f v u) Q X.xe s₂) X.xe s₁) X.xe s:=by
 refine thn (ha pins s σ H _ I h) fun v s1 ⟨x,H1,I1,r1,q1⟩=>?_
 refine thn (hb pins s1 σ H1 _ I1 q1) fun u s2 ⟨y,H2,I2,r2,q2⟩=>?_
 exact hf v u s2 x y H2 I2 r1 r2 q2
theorem av {op:Operator}{r:R2} (ho:OpR X (binaryOp op) r) (ha:PE X a ta) (hb:PE X b tb):PE X (.BinOp a op b pos) (tOp r ta tb):=by
 intro pins s σ H Q I h
 exact wpAny_BinOp (Am ha hb I h fun v u s2 x y H2 I2 rx ry q=>ho pins s2 σ H2 x y v u Q I2 rx ry q)
theorem CC {op:UnaryOp}{r:V->Hp->VK->Prop} (ho:UnR X (unaryOp op) r) (ha:PE X a ta):PE X (.UnaryOp op a pos) (tUn r ta):=by
 intro pins s σ H Q I h
 exact UnaryOp_ (thn (ha pins s σ H _ I h) fun v s1 ⟨x,H1,I1,r1,q1⟩=>ho pins s1 σ H1 x v Q I1 r1 q1)
theorem opI {f:Value->Value->Sem Value}{C:Int->Int->Prop}{g:Int->Int->Int}
  (rule:∀(i j:Int) (t u:Tok) (s:Shared) (Q:Value->Shared->Prop) (E:Value->Shared->Prop),C i j->Q (.int (g i j) s.toks) { s with toks:=s.toks + 1 }->wpAny (model X.prog X.w) X.A (f (.int i t) (.int j u)) Q E s) :
  OpR X f (rI C fun i j=>.int (g i j)):=by
 intro pins s σ H x y v u Q I rx ry h
 obtain ⟨i,j,rfl,rfl,hc,q⟩:=h
 obtain ⟨t,rfl⟩:=rx
 obtain ⟨t',rfl⟩:=ry
 exact rule i j t t' s _ _ hc ⟨.int (g i j),H,I.tok _,⟨_,rfl⟩,q⟩
theorem BR {f:Value->Value->Sem Value}{g:Int->Int->Int}
  (rule:∀(i j:Int) (t u:Tok) (s:Shared) (Q:Value->Shared->Prop) (E:Value->Shared->Prop),Q (.int (g i j) s.toks) { s with toks:=s.toks + 1 }->wpAny (model X.prog X.w) X.A (f (.int i t) (.int j u)) Q E s) :
  OpR X f (rI0 fun i j=>.int (g i j)):=by
 intro pins s σ H x y v u Q I rx ry h
 obtain ⟨i,j,rfl,rfl,q⟩:=h
 obtain ⟨t,rfl⟩:=rx
 obtain ⟨t',rfl⟩:=ry
 exact rule i j t t' s _ _ ⟨.int (g i j),H,I.tok _,⟨_,rfl⟩,q⟩
theorem yG {f:Value->Value->Sem Value}{g:Int->Int->Bool}
  (rule:∀(i j:Int) (t u:Tok) (s:Shared) (Q:Value->Shared->Prop) (E:Value->Shared->Prop),Q (.bool (g i j)) s->wpAny (model X.prog X.w) X.A (f (.int i t) (.int j u)) Q E s) :
  OpR X f (rI0 fun i j=>.bl (g i j)):=by
 intro pins s σ H x y v u Q I rx ry h
 obtain ⟨i,j,rfl,rfl,q⟩:=h
 obtain ⟨t,rfl⟩:=rx
 obtain ⟨t',rfl⟩:=ry
 exact rule i j t t' s _ _ ⟨.bl (g i j),H,I,rfl,q⟩
def B7 (i j:Int):Prop:=0 <= j/\j <= 1000000/\i.natAbs < 2 ^ 64
def xF (i j:Int):Prop:=(-(2 ^ 64) < i/\i < 2 ^ 64) \/ (-(2 ^ 64) < j/\j < 2 ^ 64)
theorem xF.ok {i j:Int} (h:xF i j):IntMulOk i j:=by
 rcases h with ⟨h1,h2⟩ | ⟨h1,h2⟩
 ·exact .of_left (intBits_le_64 h1 h2)
 ·exact .of_right (intBits_le_64 h1 h2)
theorem AQ:OpR X (binaryOp .Add) (rI0 fun i j=>.int (i + j)):=BR fun _ _ _ _ _ _ _ q=>add_int q
theorem Br:OpR X (binaryOp .Sub) (rI0 fun i j=>.int (i - j)):=BR fun _ _ _ _ _ _ _ q=>sub_int q
theorem By:OpR X (binaryOp .Mult) (rI xF fun i j=>.int (i * j)):=opI fun _ _ _ _ _ _ _ hc q=>mul_int q hc.ok
theorem AX:OpR X (binaryOp .Mod) (rI (fun _ j=>0 < j) fun i j=>.int (i % j)):=opI fun i j _ _ _ _ _ hc q=>by
 have h1:(0:Int) < j:=hc
 exact mod_int' (by omega) (by rw [Int.fmod_eq_emod_of_nonneg i (by omega)];exact q)
theorem A0:OpR X (binaryOp .Pow) (rI B7 fun i j=>.int (i ^ j.toNat)):=opI fun _ _ _ _ _ _ _ hc q=>pow_int_small hc.1 hc.2.1 hc.2.2 q
theorem unI {f:Value->Sem Value}{g:Int->Int}
  (rule:∀(i:Int) (t:Tok) (s:Shared) (Q:Value->Shared->Prop) (E:Value->Shared->Prop),Q (.int (g i) s.toks) { s with toks:=s.toks + 1 }->wpAny (model X.prog X.w) X.A (f (.int i t)) Q E s) :
  UnR X f (rU fun i=>.int (g i)):=by
 intro pins s σ H x v Q I rx h
 obtain ⟨i,rfl,q⟩:=h
 obtain ⟨t,rfl⟩:=rx
 exact rule i t s _ _ ⟨.int (g i),H,I.tok _,⟨_,rfl⟩,q⟩
theorem Bt:UnR X (unaryOp .USub) (rU fun i=>.int (-i)):=unI fun _ _ _ _ _ q=>neg_int q
end
def vK:V->V->Bool
 | .non,.non=>true | .non,.int _=>true | .int _,.non=>true | .non,.bl _=>true | .bl _,.non=>true | .non,.str _=>true | .str _,.non=>true
 | .int _,.int _=>true | .bl _,.bl _=>true | .str _,.str _=>true | .byt _,.byt _=>true
 | .int _,.str _=>true | .str _,.int _=>true | .bl _,.str _=>true | .str _,.bl _=>true
 | _,_=>false
def rEq:R2:=fun x y H Q=>vK x y=true/\Q (.bl (decide (x=y))) H
def rNe:R2:=fun x y H Q=>vK x y=true/\Q (.bl (!decide (x=y))) H
theorem uQ {i j:Int}:decide (V.int i=V.int j)=(i == j):=by
 rw [Bool.eq_iff_iff]
 simp
theorem xZ {i j:Bool}:decide (V.bl i=V.bl j)=(i == j):=by
 rw [Bool.eq_iff_iff]
 simp
theorem uP {i j:Str}:decide (V.str i=V.str j)=(i == j):=by
 rw [Bool.eq_iff_iff]
 simp
theorem vx {i j:Array UInt8}:decide (V.byt i=V.byt j)=(i.toList == j.toList):=by
 rw [Bool.eq_iff_iff]
 cases i
 cases j
 simp
section
variable {X:Cx}{a b c:Expr}{ta tb tc:TE}{pos:Pos}
theorem bT {pins:List (Addr × Obj)}{σ:St}{H:Hp}{s:Shared}{Q:VK}{k k':Bool} (I:Inv X pins σ H s) (q:Q (.bl k) H) (e:k=k'):EP X pins σ Q (.bool k') s:=by
 subst e
 exact ⟨.bl k,H,I,rfl,q⟩
theorem Cu:OpR X (compareOp .Eq) rEq:=by
 intro pins s σ H x y v u Q I rx ry h
 obtain ⟨hs,q⟩:=h
 cases x with
 | non =>
  cases rx
  cases y with
  | non=>cases ry;exact PySem.EqNone.eq_none_none (bT I q (by simp))
  | bl j=>cases ry;exact PySem.EqNone.eq_none_bool (bT I q (by simp))
  | int j=>obtain ⟨t',rfl⟩:=ry;exact PySem.EqNone.eq_none_int (bT I q (by simp))
  | str j=>obtain ⟨t',rfl⟩:=ry;exact PySem.EqNone.eq_none_str (bT I q (by simp))
  | _=>exact absurd (show false=true from hs) Bool.false_ne_true
 | bl i =>
  cases rx
  cases y with
  | non=>cases ry;exact PySem.EqNone.eq_bool_none (bT I q (by simp))
  | bl j=>cases ry;exact eq_bool (bT I q xZ)
  | str j=>obtain ⟨t',rfl⟩:=ry;exact PySem.EqMixed.eq_bool_str (bT I q (by simp))
  | _=>exact absurd (show false=true from hs) Bool.false_ne_true
 | int i =>
  obtain ⟨t,rfl⟩:=rx
  cases y with
  | non=>cases ry;exact PySem.EqNone.eq_int_none (bT I q (by simp))
  | int j=>obtain ⟨t',rfl⟩:=ry;exact eq_int (bT I q uQ)
  | str j=>obtain ⟨t',rfl⟩:=ry;exact PySem.EqMixed.eq_int_str (bT I q (by simp))
  | _=>exact absurd (show false=true from hs) Bool.false_ne_true
 | str i =>
  obtain ⟨t,rfl⟩:=rx
  cases y with
  | non=>cases ry;exact PySem.EqNone.eq_str_none (bT I q (by simp))
  | bl j=>cases ry;exact PySem.EqMixed.eq_str_bool (bT I q (by simp))
  | int j=>obtain ⟨t',rfl⟩:=ry;exact PySem.EqMixed.eq_str_int (bT I q (by simp))
  | str j=>obtain ⟨t',rfl⟩:=ry;exact eq_str (bT I q uP)
  | _=>exact absurd (show false=true from hs) Bool.false_ne_true
 | byt i =>
  obtain ⟨t,rfl⟩:=rx
  cases y with
  | byt j=>obtain ⟨t',rfl⟩:=ry;exact W.eq_bytes (bT I q vx)
  | _=>exact absurd (show false=true from hs) Bool.false_ne_true
 | _=>cases y <;> exact absurd (show false=true from hs) Bool.false_ne_true
theorem CJ:OpR X (compareOp .NotEq) rNe:=by
 intro pins s σ H x y v u Q I rx ry h
 obtain ⟨hs,q⟩:=h
 cases x with
 | non =>
  cases rx
  cases y with
  | non=>cases ry;exact PySem.EqNone.ne_none_none (bT I q (by simp))
  | bl j=>cases ry;exact PySem.EqNone.ne_none_bool (bT I q (by simp))
  | int j=>obtain ⟨t',rfl⟩:=ry;exact PySem.EqNone.ne_none_int (bT I q (by simp))
  | str j=>obtain ⟨t',rfl⟩:=ry;exact PySem.EqNone.ne_none_str (bT I q (by simp))
  | _=>exact absurd (show false=true from hs) Bool.false_ne_true
 | bl i =>
  cases rx
  cases y with
  | non=>cases ry;exact PySem.EqNone.ne_bool_none (bT I q (by simp))
  | bl j=>cases ry;exact ne_bool (bT I q (congrArg not xZ))
  | str j=>obtain ⟨t',rfl⟩:=ry;exact PySem.EqMixed.ne_bool_str (bT I q (by simp))
  | _=>exact absurd (show false=true from hs) Bool.false_ne_true
 | int i =>
  obtain ⟨t,rfl⟩:=rx
  cases y with
  | non=>cases ry;exact PySem.EqNone.ne_int_none (bT I q (by simp))
  | int j=>obtain ⟨t',rfl⟩:=ry;exact ne_int (bT I q (congrArg not uQ))
  | str j=>obtain ⟨t',rfl⟩:=ry;exact PySem.EqMixed.ne_int_str (bT I q (by simp))
  | _=>exact absurd (show false=true from hs) Bool.false_ne_true
 | str i =>
  obtain ⟨t,rfl⟩:=rx
  cases y with
  | non=>cases ry;exact PySem.EqNone.ne_str_none (bT I q (by simp))
  | bl j=>cases ry;exact PySem.EqMixed.ne_str_bool (bT I q (by simp))
  | int j=>obtain ⟨t',rfl⟩:=ry;exact PySem.EqMixed.ne_str_int (bT I q (by simp))
  | str j=>obtain ⟨t',rfl⟩:=ry;exact ne_str (bT I q (congrArg not uP))
  | _=>exact absurd (show false=true from hs) Bool.false_ne_true
 | byt i =>
  obtain ⟨t,rfl⟩:=rx
  cases y with
  | byt j=>obtain ⟨t',rfl⟩:=ry;exact W.ne_bytes (bT I q (congrArg not vx))
  | _=>exact absurd (show false=true from hs) Bool.false_ne_true
 | _=>cases y <;> exact absurd (show false=true from hs) Bool.false_ne_true
theorem CA:OpR X (compareOp .Lt) (rI0 fun i j=>.bl (decide (i < j))):=yG fun _ _ _ _ _ _ _ q=>lt_int q
theorem B4:OpR X (compareOp .LtE) (rI0 fun i j=>.bl (decide (i <= j))):=yG fun _ _ _ _ _ _ _ q=>le_int q
theorem CP:OpR X (compareOp .Gt) (rI0 fun i j=>.bl (decide (j < i))):=yG fun _ _ _ _ _ _ _ q=>gt_int q
theorem CT:OpR X (compareOp .GtE) (rI0 fun i j=>.bl (decide (j <= i))):=yG fun _ _ _ _ _ _ _ q=>ge_int q
theorem As:OpR X (compareOp .Is) (fun x y H Q=>y=.non/\Q (.bl (decide (x=.non))) H):=by
 intro pins s σ H x y v u Q I rx ry h
 obtain ⟨rfl,q⟩:=h
 cases ry
 refine is_none_gen (bT I q ?_)
 cases x <;> first
  | (cases rx;rfl)
  | (obtain ⟨t,rfl⟩:=rx;rfl)
theorem yE:OpR X (compareOp .IsNot) (fun x y H Q=>y=.non/\Q (.bl (!decide (x=.non))) H):=by
 intro pins s σ H x y v u Q I rx ry h
 obtain ⟨rfl,q⟩:=h
 cases ry
 refine isnot_none_gen (bT I q ?_)
 cases x <;> first
  | (cases rx;rfl)
  | (obtain ⟨t,rfl⟩:=rx;rfl)
theorem OpR.or {f:Value->Value->Sem Value}{r r':R2} (h:OpR X f r) (h':OpR X f r'):OpR X f (fun x y H Q=>r x y H Q \/ r' x y H Q):=by
 intro pins s σ H x y v u Q I rx ry q
 rcases q with q | q
 ·exact h pins s σ H x y v u Q I rx ry q
 ·exact h' pins s σ H x y v u Q I rx ry q
theorem aC (b:Expr) {op:CmpOp} (h:op ≠ .In:=by decide) (h2:op ≠ .NotIn:=by decide):behindInMarks op b=false:=by
 have e1:(op == CmpOp.In)=false:=by cases op <;> first | rfl | exact absurd rfl h
 have e2:(op == CmpOp.NotIn)=false:=by cases op <;> first | rfl | exact absurd rfl h2
 cases b <;> simp [behindInMarks,e1,e2]
theorem lu {op:CmpOp}{r:R2} (ho:OpR X (compareOp op) r) (ha:PE X a ta) (hb:PE X b tb) (hm:behindInMarks op b=false):PE X (.Compare a [op] [b] pos) (tOp r ta tb):=by
 intro pins s σ H Q I h
 exact wpAny_Compare1 (Am ha hb I h fun v u s2 x y H2 I2 rx ry q=>ho pins s2 σ H2 x y v u Q I2 rx ry q) hm
def BQ (t:TE):TT:=fun σ H Q=>t σ H fun x H'=>∃k,x=.bl k/\Q k H'
theorem ay {op:CmpOp}{r:R2} (ho:OpR X (compareOp op) r) (ha:PE X a ta) (hb:PE X b tb) (hm:behindInMarks op b=false):PT X (.Compare a [op] [b] pos) (BQ (tOp r ta tb)):=by
 intro pins s σ H Q I h
 refine wpAny_isTrue_Compare1 (thn (ha pins s σ H _ I h) fun v s1 ⟨x,H1,I1,r1,q1⟩=>thn (hb pins s1 σ H1 _ I1 q1) fun u s2 ⟨y,H2,I2,r2,q2⟩ =>
  thn (ho pins s2 σ H2 x y v u _ I2 r1 r2 q2) fun c s3 ⟨z,H3,I3,r3,k,e,q3⟩=>?_) hm
 subst e
 cases r3
 exact wpAny_truthy_bool ⟨H3,I3,q3⟩
def A8 (r r':R2) (ta tb tc:TE):TE:=fun σ H Q=>ta σ H fun x H1=>tb σ H1 fun y H2=>r x y H2 fun z H3=>∃k,z=.bl k /\
 (if k=true then tc σ H3 fun w' H4=>r' y w' H4 Q else Q (.bl false) H3)
theorem xT {op op':CmpOp}{r r':R2} (ho:OpR X (compareOp op) r) (ho':OpR X (compareOp op') r') (ha:PE X a ta) (hb:PE X b tb) (hc:PE X c tc)
  (hm:lastMarks [op,op'] [b,c]=false:=by with_unfolding_all rfl):PE X (.Compare a [op,op'] [b,c] pos) (A8 r r' ta tb tc):=by
 intro pins s σ H Q I h
 refine Compare_chain (thn (ha pins s σ H _ I h) fun v s1 ⟨x,H1,I1,r1,q1⟩=>chain_link (thn (hb pins s1 σ H1 _ I1 q1) fun u s2 ⟨y,H2,I2,r2,q2⟩ =>
  thn (ho pins s2 σ H2 x y v u _ I2 r1 r2 q2) fun d s3 ⟨z,H3,I3,r3,k,e,q3⟩=>?_)) hm
 subst e
 cases r3
 refine wpAny_truthy_bool ?_
 cases k with
 | false=>exact ite_ff ⟨.bl false,H3,I3,rfl,q3⟩
 | true=>exact ite_tt (chain_last (thn (hc pins s3 σ H3 _ I3 q3) fun w' s4 ⟨z',H4,I4,r4,q4⟩=>ho' pins s4 σ H4 y z' u w' Q I4 r2 r4 q4))
def zB (K:W.Frag) (x:V) (H:Hp) (k:Bool):Prop :=
 match x with
 | .non=>k=false
 | .bl b=>k=b
 | .int i=>k=(i != 0)
 | .str y=>y.length <= sizeLine/\k=((y.length:Int) != 0)
 | .byt y=>y.size <= sizeLine/\k=((y.size:Int) != 0)
 | .ref p=>(∃xs,SqL K H p xs/\k=!xs.isEmpty) \/ (∃xs,SqT K H p xs/\k=!xs.isEmpty) \/ ∃kvs,H p=some (.dK kvs)/\k=!kvs.isEmpty
 | _=>False
theorem sW {κ:Type}{kvs:List (κ × V)}{vs:List (κ × Value)} (r:KV kvs vs):(!vs.isEmpty)=!kvs.isEmpty:=by
 cases r <;> rfl
theorem oq {xs:List V}{its:List Value} (r:Vals xs its):(!its.toArray.isEmpty)=!xs.isEmpty:=by
 cases r <;> simp
theorem lM:(sizeLine:Nat) < 2 ^ 63:=by rw [sizeLine_eq];decide
theorem xq:DE X (fun x H Q=>∃k,zB X.K x H k/\Q k H):=by
 intro pins s σ H x v Q I rx h
 obtain ⟨k,e,q⟩:=h
 have hl:=lM
 have hs:sizeLine=16777216:=sizeLine_eq
 cases x with
 | non =>
  cases rx
  have e':k=false:=e
  subst e'
  exact truthy_none ⟨H,I,q⟩
 | bl b =>
  cases rx
  have e':k=b:=e
  subst e'
  exact wpAny_truthy_bool ⟨H,I,q⟩
 | int i =>
  obtain ⟨t,rfl⟩:=rx
  have e':k=(i != 0):=e
  subst e'
  exact PySem.P.truthy_int ⟨H,I,q⟩
 | str y =>
  obtain ⟨t,rfl⟩:=rx
  obtain ⟨hy,e'⟩:y.length <= sizeLine/\k=((y.length:Int) != 0):=e
  subst e'
  exact PySem.P.truthy_str (by omega) ⟨H,I.tok _,q⟩
 | byt y =>
  obtain ⟨t,rfl⟩:=rx
  obtain ⟨hy,e'⟩:y.size <= sizeLine/\k=((y.size:Int) != 0):=e
  subst e'
  exact W.truthy_bytes (by omega) ⟨H,I.tok _,q⟩
 | ref p =>
  cases rx
  have e':(∃xs,SqL X.K H p xs/\k=!xs.isEmpty) \/ (∃xs,SqT X.K H p xs/\k=!xs.isEmpty) \/ ∃kvs,H p=some (.dK kvs)/\k=!kvs.isEmpty:=e
  rcases e' with ⟨xs,hx,e'⟩ | ⟨xs,hx,e'⟩ | ⟨kvs,hx,e'⟩
  ·subst e'
   obtain ⟨its,r,pl,hz⟩:=I.list hx
   have hlen:=r.length
   exact wpAny_truthy_list pl.isList (by simp only [List.size_toArray];omega) ⟨H,I.tok _,by rw [oq r];exact q⟩
  ·subst e'
   obtain ⟨its,r,pl,hz⟩:=I.tuple hx
   have hlen:=r.length
   exact truthy_tuple pl (by simp only [List.size_toArray];omega) ⟨H,I.tok _,by rw [oq r];exact q⟩
  ·subst e'
   obtain ⟨hz,hS,vs,r,m⟩:kvs.length <= sizeLine/\(p == sysModules)=false/\∃vs,KV kvs vs/\s.heap.DictOf (cx X.prog X.w) p vs:=I.hok p _ hx
   have hlen:kvs.length=vs.length:=Paired.length r
   exact wpAny_truthy_dict hS m (by omega) ⟨H,I.tok _,by rw [sW r];exact q⟩
 | _=>exact (show False from e).elim
theorem xX (ha:PE X a ta) (he:∀whole,isTrue a X.env whole=(do let v <- whole;standAt a.pos;holding [v] (truthy v))) :
  PT X a (fun σ H Q=>ta σ H fun x H'=>∃k,zB X.K x H' k/\Q k H'):=by
 intro pins s σ H Q I h
 exact isTrue_plain (thn (ha pins s σ H _ I h) fun v s1 ⟨x,H1,I1,r1,q1⟩=>xq pins s1 σ H1 x v Q I1 r1 q1) (he _)
theorem tw:OpR X (binaryOp .Add) (fun x y H Q=>∃i j,x=.str i/\y=.str j/\i.length + j.length <= sizeLine/\Q (.str (i ++ j)) H):=by
 intro pins s σ H x y v u Q I rx ry h
 obtain ⟨i,j,rfl,rfl,hz,q⟩:=h
 obtain ⟨t,rfl⟩:=rx
 obtain ⟨t',rfl⟩:=ry
 exact add_str (fun t' tk=>⟨.str (i ++ j),H,I.tok _,⟨_,rfl⟩,q⟩) hz
theorem vals1 {x:V}{us:List Value} (r:Vals [x] us):∃u,us=[u]/\RelV x u:=by
 cases r with
 | cons r1 r2=>cases r2;exact ⟨_,rfl,r1⟩
theorem vals2 {x y:V}{us:List Value} (r:Vals [x,y] us):∃u w',us=[u,w']/\RelV x u/\RelV y w':=by
 cases r with
 | cons r1 r2 =>
  cases r2 with
  | cons r3 r4=>cases r4;exact ⟨_,_,rfl,r1,r3⟩
theorem wH (hc:X.calm=true):eo X (.builtin "max") (fun xs H Q=>∃i j,xs=[.int i,.int j]/\Q (.int (if j > i then j else i)) H):=by
 intro pins s σ H xs us Q I r h
 obtain ⟨i,j,rfl,q⟩:=h
 obtain ⟨u,w',rfl,⟨t,rfl⟩,⟨t',rfl⟩⟩:=vals2 r
 refine max_two_ints (I.ok.hd hc) fun h' tk k=>⟨_,H,I.kept k,?_,q⟩
 by_cases hj:j > i
 ·rw [if_pos hj,if_pos hj];exact ⟨_,rfl⟩
 ·rw [if_neg hj,if_neg hj];exact ⟨_,rfl⟩
theorem wD (hc:X.calm=true):eo X (.builtin "min") (fun xs H Q=>∃i j,xs=[.int i,.int j]/\Q (.int (if j < i then j else i)) H):=by
 intro pins s σ H xs us Q I r h
 obtain ⟨i,j,rfl,q⟩:=h
 obtain ⟨u,w',rfl,⟨t,rfl⟩,⟨t',rfl⟩⟩:=vals2 r
 refine min_two_ints (I.ok.hd hc) fun h' tk k=>⟨_,H,I.kept k,?_,q⟩
 by_cases hj:j < i
 ·rw [if_pos hj,if_pos hj];exact ⟨_,rfl⟩
 ·rw [if_neg hj,if_neg hj];exact ⟨_,rfl⟩
def Aw (K:W.Frag) (x:V) (H:Hp) (n:Nat):Prop :=
 match x with
 | .str y=>y.length <= sizeLine/\n=y.length
 | .byt y=>y.size <= sizeLine/\n=y.size
 | .ref p=>(∃xs,SqL K H p xs/\n=xs.length) \/ ∃xs,SqT K H p xs/\n=xs.length
 | _=>False
theorem wO:eo X (.builtin "len") (fun xs H Q=>∃x n,xs=[x]/\Aw X.K x H n/\Q (.int n) H):=by
 intro pins s σ H xs us Q I r h
 obtain ⟨x,n,rfl,e,q⟩:=h
 obtain ⟨u,rfl,rx⟩:=vals1 r
 have hl:=lM
 have hs:sizeLine=16777216:=sizeLine_eq
 cases x with
 | str y =>
  obtain ⟨t,rfl⟩:=rx
  obtain ⟨hy,e'⟩:y.length <= sizeLine/\n=y.length:=e
  subst e'
  exact len_str (by omega) ⟨.int _,H,I.tok _,⟨_,rfl⟩,q⟩
 | byt y =>
  obtain ⟨t,rfl⟩:=rx
  obtain ⟨hy,e'⟩:y.size <= sizeLine/\n=y.size:=e
  subst e'
  exact W.len_bytes (by omega) ⟨.int _,H,I.tok _,⟨_,rfl⟩,q⟩
 | ref p =>
  cases rx
  have e':(∃xs,SqL X.K H p xs/\n=xs.length) \/ ∃xs,SqT X.K H p xs/\n=xs.length:=e
  rcases e' with ⟨xs,hx,e'⟩ | ⟨xs,hx,e'⟩
  ·subst e'
   obtain ⟨its,r',pl,hz⟩:=I.list hx
   have hlen:=r'.length
   exact Calls.call_len_list pl.isList (by simp only [List.size_toArray];omega) ⟨.int xs.length,H,I.tok _,⟨_,by simp only [List.size_toArray];rw [hlen]⟩,q⟩
  ·subst e'
   obtain ⟨its,r',pl,hz⟩:=I.tuple hx
   have hlen:=r'.length
   exact len_tuple pl (by simp only [List.size_toArray];omega) ⟨.int xs.length,H,I.tok _,⟨_,by simp only [List.size_toArray];rw [hlen]⟩,q⟩
 | _=>exact (show False from e).elim
end
end L2
namespace L2
open PySem PySem.Spec PyProof.Rows
structure uB (h:Heap) (x dx C:Addr) (mA:Str->Option Value):Prop where
 obj:h.get? x=some (W.instObj C dx)
 ns:h.Ns1 dx mA
 ne:dx ≠ x
theorem wz {h:Heap}{dx:Addr}{mA:Str->Option Value} (n:h.Ns1 dx mA):∃od,h.get? dx=some od/\∀name,W.lookIn name od=some (mA name):=by
 obtain ⟨o,es,ep,ho,hd,hk,_,hm⟩:=n
 refine ⟨o,ho,fun name=>?_⟩
 have e:=hm name
 unfold nsFind findBy at e
 rw [<- Array.find?_toList] at e
 unfold W.lookIn
 rw [hd]
 dsimp only
 split
 ·rename_i y q
  rw [q] at e
  exact congrArg some e
 ·rename_i q
  rw [q] at e
  have a:es.toList.any (·.refKey)=false:=by
   rw [List.any_eq_false]
   intro y hy
   obtain ⟨z,t,hkey⟩:=hk y (Array.mem_toList_iff.mp hy)
   simp [DictEntry.refKey,hkey]
  have a':¬ es.toList.any (·.refKey)=true:=by rw [a];exact Bool.false_ne_true
  rw [if_neg a']
  exact congrArg some e
theorem uB.look {h:Heap}{x dx C:Addr}{mA:Str->Option Value} (I:uB h x dx C mA):∃od,W.InstAt h x (W.instObj C dx) C (some od)/\∀name,W.lookIn name od=some (mA name) :=
 let ⟨od,ho,hl⟩:=wz I.ns
 ⟨od,⟨I.obj,rfl,rfl,ho⟩,hl⟩
section
variable {prog:Program}{w:World}{A:Around}{E:Value->Shared->Prop}{s:Shared}{K:W.Frag}{x dx C f:Addr}{mA:Str->Option Value}{name:Str}{v:Value}
theorem get_map {expr:Bool}{Q:Value->Shared->Prop} (X:K.In s.heap) (I:uB s.heap x dx C mA) (hg:W.plainGet K C name=true) (hh:W.hasDictIn K C=true)
  (ha:W.findIn K (.ref C) name=some none) (hv:mA name=some v) (hv':W.handedIn v=true) (h:Q v { s with toks:=s.toks + 1 }) :
  wpAny (model prog w) A (getAttr (.ref x) name expr) Q E s:=by
 obtain ⟨od,J,hl⟩:=I.look
 exact W.get_value X J (W.plainGet_of hg).1 (W.findObj_own hh ha rfl (by rw [hl,hv])) hv' h
theorem xW {pl:Sem Bool}{Q:Value × List Value->Shared->Prop} (X:K.In s.heap) (I:uB s.heap x dx C mA) (hg:W.plainGet K C name=true)
  (hf:W.findIn K (.ref C) name=some (some (.ref f))) (ht:W.isFn K (.ref f)=true) (hv:mA name=none) (h:Q (.ref f,[.ref x]) s) :
  wpAny (model prog w) A (getMethod (.ref x) name pl) Q E s:=by
 obtain ⟨od,J,hl⟩:=I.look
 exact W.method_fn X J (W.plainGet_of hg).1 (W.plainGet_of hg).2 hf (beq_iff_eq.mp ht) (by show (W.lookIn name od).map (·.isSome)=some false;rw [hl,hv];rfl) h
theorem yR {ns:List Str}{Q:Unit->Shared->Prop} (X:K.In s.heap) (I:uB s.heap x dx C mA)
  (hs:W.findIn K (.ref C) "__setattr__"=some (some (.builtin "object.__setattr__"))) (hp:W.plainOver K C=true) (ht:W.takerIn K C name=some none) (hh:W.hasDictIn K C=true)
  (hw:PySem.Within mA ns) (hsz:ns.length <= sizeLine)
  (h:∀h',uB h' x dx C (fun y=>if y=name then some v else mA y)->Heap.SameBut dx s.heap h'->Q () { s with heap:=h',toks:=s.toks + 2 }) :
  wpAny (model prog w) A (setAttr (.ref x) name v) Q E s:=by
 obtain ⟨od,J,hl⟩:=I.look
 refine W.set_plain X J hs (W.osa_open (s:={ s with toks:=s.toks + 1 }) (r:=none) X J hp ht fun b=>?_)
 obtain ⟨cd,hc,hd'⟩:=W.any_some hh
 have hx:s.heap.get? x=some ⟨.ref C,some dx,.plain,#[]⟩:=I.obj
 refine wpAny_bind (wpAny_pure (wpAny_bind (wpAny_bind (wpAny_loadPart hx (wpAny_bind (W.Looks.here (s:={ s with toks:=s.toks + 1 }) (W.looks_clsIn X hc) ?_))))))
 rw [hd']
 refine wpAny_pure (a:=some dx) (wpAny_bind (wpAny_pure (wpAny_bind ?_)))
 refine wpAny_nsSet1 (s:={ s with toks:=s.toks + 1 }) I.ns fun h' hn2 hs2=>?_
 obtain ⟨oD,esD,epD,hoD,hdD,hcD⟩:=hn2.count (PySem.Within.cons name v hw)
 refine wpAny_bind (wpAny_lookBehind hoD (by rw [hdD];exact pastItsLine_dict (Nat.le_trans hcD (by rw [List.length_cons];omega))) ?_)
 exact wpAny_pure (h _ ⟨(hs2.2 _ (Ne.symm I.ne)).trans I.obj,hn2,I.ne⟩ hs2)
theorem yD {R:Result->Shared->Prop}{vs:List Value}{kw:List (Str × Value)} (X:K.In s.heap) (hm:W.makesIn K C=true)
  (hi:W.findIn K (.ref C) "__init__"=some (some (.ref f))) (hf:W.typeIn K (.ref f)=some (.type "function"))
  (h:codeAny (model prog w) (A.under (.builtin "type.__call__" ⟨.ref C :: vs,kw⟩)) (.call (.ref f) ⟨.ref (s.heap.objs.size + 1) :: vs,kw⟩) (W.InitBack (s.heap.objs.size + 1) R)
   { s with heap:=(s.heap.push W.emptyDict).push (W.instObj C s.heap.objs.size) }) :
  codeAny (model prog w) A (.call (.ref C) ⟨vs,kw⟩) R s:=by
 obtain ⟨hh,g,d,t,os⟩:=s
 exact W.make_core (W.makes_of X hm) (W.looks_findIn X hi) (fun self=>W.bind_fn X self hf) (.inl rfl) h
end
def cG (f:Str) (v:V):List (Str × V)->List (Str × V)
 | []=>[(f,v)]
 | (g,x) :: r=>if g=f then (g,v) :: r else (g,x) :: cG f v r
theorem mH (f g:Str) (v:V):∀fs:List (Str × V),(cG f v fs).lookup g=if g=f then some v else fs.lookup g
 | []=>by
  show List.lookup g [(f,v)]=_
  by_cases h:g=f
  ·have hb:(g == f)=true:=beq_iff_eq.mpr h
   simp only [List.lookup,hb,if_pos h]
  ·have hb:(g == f)=false:=beq_eq_false_iff_ne.mpr h
   simp only [List.lookup,hb,if_neg h]
 | (k,x) :: r=>by
  have ih:=mH f g v r
  rw [show cG f v ((k,x) :: r)=(if k=f then (k,v) :: r else (k,x) :: cG f v r) from rfl]
  by_cases hk:k=f
  ·rw [if_pos hk]
   by_cases h:g=k
   ·have hb:(g == k)=true:=beq_iff_eq.mpr h
    simp only [List.lookup,hb,if_pos (h.trans hk)]
   ·have hb:(g == k)=false:=beq_eq_false_iff_ne.mpr h
    simp only [List.lookup,hb,if_neg (fun e:g=f=>h (e.trans hk.symm))]
  ·rw [if_neg hk]
   by_cases h:g=k
   ·have hb:(g == k)=true:=beq_iff_eq.mpr h
    simp only [List.lookup,hb,if_neg (fun e:g=f=>hk (h.symm.trans e))]
   ·have hb:(g == k)=false:=beq_eq_false_iff_ne.mpr h
    simp only [List.lookup,hb]
    exact ih
theorem lG (f:Str) (v:V):∀fs:List (Str × V),f ∈ (cG f v fs).map (·.1)/\∀g,g ∈ fs.map (·.1)->g ∈ (cG f v fs).map (·.1)
 | []=>⟨by simp [cG],fun g h=>by simp at h⟩
 | (k,x) :: r=>by
  obtain ⟨i1,i2⟩:=lG f v r
  rw [show cG f v ((k,x) :: r)=(if k=f then (k,v) :: r else (k,x) :: cG f v r) from rfl]
  by_cases hk:k=f
  ·rw [if_pos hk]
   subst hk
   exact ⟨by simp,fun g h=>by simpa using h⟩
  ·rw [if_neg hk]
   refine ⟨?_,fun g h=>?_⟩
   ·rw [List.map_cons]
    exact List.mem_cons_of_mem _ i1
   ·rw [List.map_cons] at h ⊢
    rcases List.mem_cons.mp h with e | e
    ·exact List.mem_cons.mpr (.inl e)
    ·exact List.mem_cons_of_mem _ (i2 g e)
theorem mv (f:Str) (v:V):∀fs:List (Str × V),(cG f v fs).length <= fs.length + 1
 | []=>by simp [cG]
 | (k,x) :: r=>by
  have ih:=mv f v r
  rw [show cG f v ((k,x) :: r)=(if k=f then (k,v) :: r else (k,x) :: cG f v r) from rfl]
  by_cases hk:k=f
  ·rw [if_pos hk,List.length_cons,List.length_cons];omega
  ·rw [if_neg hk,List.length_cons,List.length_cons];omega
theorem jf.some_of {v:V}{o:Option Value} (r:jf (some v) o):∃u,o=some u/\RelV v u:=by
 cases o with
 | none=>exact (show False from r).elim
 | some u=>exact ⟨u,rfl,r⟩
theorem jf.none_of {o:Option Value} (r:jf none o):o=none:=by
 cases o with
 | none=>rfl
 | some u=>exact (show False from r).elim
theorem vY {v:V}{u:Value} (r:RelV v u):W.handedIn u=true:=by
 cases v with
 | non=>cases (show u=Value.none from r);rfl
 | bl b=>cases (show u=Value.bool b from r);rfl
 | int i=>obtain ⟨t,e⟩:=(show ∃t,u=Value.int i t from r);cases e;rfl
 | str x=>obtain ⟨t,e⟩:=(show ∃t,u=Value.str x t from r);cases e;rfl
 | byt b=>obtain ⟨t,e⟩:=(show ∃t,u=Value.bytes b t from r);cases e;rfl
 | flt b=>obtain ⟨t,e⟩:=(show ∃t,u=Value.float b t from r);cases e;rfl
 | ref a=>cases (show u=Value.ref a from r);rfl
 | ty n=>cases (show u=Value.type n from r);rfl
section
variable {P:Program}{w:World}{H H':Hp}{h h':Heap}{a C dx:Addr}{fs fs':List (Str × V)}
theorem nh (hok:HOk P w H h) (e:H a=some (.ins C dx fs)):∃mA,uB h a dx C mA/\(∀f,jf (fs.lookup f) (mA f))/\PySem.Within mA (fs.map (·.1))/\fs.length <= 1000/\H dx=some (.own a):=by
 obtain ⟨d,z,ne,ob,mA,n,r,q⟩:=(show dg P w H h a (.ins C dx fs) from hok a _ e)
 exact ⟨mA,⟨ob,n,ne⟩,r,q,z,d⟩
end
structure Cls (K:W.Frag) (C:Addr):Prop where
 pg:W.plainGet K C Str.empty=true
 hd:W.hasDictIn K C=true
 po:W.plainOver K C=true
 sa:W.findIn K (.ref C) "__setattr__"=some (some (.builtin "object.__setattr__"))
theorem Cls.get {K:W.Frag}{C:Addr} (c:Cls K C) (f:Str):W.plainGet K C f=true:=c.pg
def aM (K:W.Frag) (C:Addr) (f:Str):Prop:=W.findIn K (.ref C) f=some none
theorem aM.BY {K:W.Frag}{C:Addr}{f:Str} (n:aM K C f):W.takerIn K C f=some none:=by
 unfold W.takerIn
 rw [show W.findIn K (.ref C) f=some none from n]
 rfl
structure Con (K:W.Frag) (C:Addr) (f:Str) (v:V) (u:Value):Prop where
 at_:W.findIn K (.ref C) f=some (some u)
 rel:RelV v u
 get:W.specialIn K u "__get__"=some none
 cp:W.copiedNames.contains f=false
structure Meth (K:W.Frag) (C:Addr) (m:Str) (f:Addr):Prop where
 at_:W.findIn K (.ref C) m=some (some (.ref f))
 fn:W.isFn K (.ref f)=true
 kp:W.keepIn K (.ref f)=true
section
variable {X:Cx}{pins:List (Addr × Obj)}{σ:St}{H:Hp}{s:Shared}{a C dx:Addr}{fs:List (Str × V)}{f:Str}{v:V}{A:Around}{E:Value->Shared->Prop}
theorem ox {b:Bool}{Q:Value->Shared->Prop} (I:Inv X pins σ H s) (e:H a=some (.ins C dx fs)) (c:Cls X.K C) (n:aM X.K C f) (l:fs.lookup f=some v)
  (h:∀u s',Inv X pins σ H s'->RelV v u->Q u s'):wpAny (model X.prog X.w) A (getAttr (.ref a) f b) Q E s:=by
 obtain ⟨mA,O,r,_,_,_⟩:=nh I.hok e
 obtain ⟨u,hu,ru⟩:=jf.some_of (v:=v) (o:=mA f) (by rw [<- l];exact r f)
 exact get_map I.kIn O (c.get f) c.hd n hu (vY ru) (h u _ (I.tok _) ru)
theorem uy {m:Str}{g:Addr}{pl:Sem Bool}{Q:Value × List Value->Shared->Prop} (I:Inv X pins σ H s) (e:H a=some (.ins C dx fs)) (c:Cls X.K C) (k:Meth X.K C m g) (l:fs.lookup m=none)
  (h:Q (.ref g,[.ref a]) s):wpAny (model X.prog X.w) A (getMethod (.ref a) m pl) Q E s:=by
 obtain ⟨mA,O,r,_,_,_⟩:=nh I.hok e
 have hn:mA m=none:=jf.none_of (by rw [<- l];exact r m)
 exact xW I.kIn O (c.get m) k.at_ k.fn hn h
theorem oG {y:V}{u:Value}{Q:Unit->Shared->Prop} (I:Inv X pins σ H s) (e:H a=some (.ins C dx fs)) (c:Cls X.K C) (n:aM X.K C f) (hl:fs.length < 1000) (ry:RelV y u)
  (h:∀s',Inv X pins σ (upd H a (.ins C dx (cG f y fs))) s'->Q () s'):wpAny (model X.prog X.w) A (setAttr (.ref a) f u) Q E s:=by
 obtain ⟨mA,O,r,wi,_,ho⟩:=nh I.hok e
 have hz:(fs.map (·.1)).length <= sizeLine:=by rw [List.length_map,sizeLine_eq];omega
 refine yR I.kIn O c.sa c.po n.BY c.hd wi hz fun h' O' sb=>h _ ?_
 have hd:∃o,h'.get? dx=some o:=let ⟨o,_,_,e',_⟩:=O'.ns;⟨o,e'⟩
 refine I.write (x:=a) (e:=dx) (by rw [e];exact True.intro) (.inr ho) (fun b q hb z=>(sb.2 b hb).trans z) hd ?_
 refine ⟨by rw [aK O.ne];exact ho,?_,O.ne,O'.obj,_,O'.ns,fun g=>?_,fun g hg=>?_⟩
 ·have:=mv f y fs;omega
 ·show jf ((cG f y fs).lookup g) (if g=f then some u else mA g)
  rw [mH]
  by_cases q:g=f
  ·rw [if_pos q,if_pos q];exact ry
  ·rw [if_neg q,if_neg q];exact r g
 ·by_cases q:g=f
  ·rw [q];exact (lG f y fs).1
  ·refine (lG f y fs).2 g (wi g fun z=>hg ?_)
   show (if g=f then some u else mA g)=none
   rw [if_neg q];exact z
theorem Inv.made (I:Inv X pins σ H s):Inv X pins σ (upd (upd H s.heap.objs.size (.own (s.heap.objs.size + 1))) (s.heap.objs.size + 1) (.ins C s.heap.objs.size []))
  { s with heap:=(s.heap.push W.emptyDict).push (W.instObj C s.heap.objs.size) }:=by
 have e1:(s.heap.push W.emptyDict).get? s.heap.objs.size=some W.emptyDict:=Heap.get?_push_size s.heap rfl
 have e2:((s.heap.push W.emptyDict).push (W.instObj C s.heap.objs.size)).get? (s.heap.objs.size + 1)=some (W.instObj C s.heap.objs.size):=by
  have:=Heap.get?_push_size (s.heap.push W.emptyDict) (o:=W.instObj C s.heap.objs.size) rfl
  rwa [Heap.size_push] at this
 have e3:(s.heap.push W.emptyDict).Ns s.heap.objs.size (fun _=>none):=⟨W.emptyDict,#[],_,e1,rfl,(fun e he=>absurd he (by simp)),fun _=>rfl⟩
 have I1:=I.laid (a:=s.heap.objs.size) (o:=.own (s.heap.objs.size + 1)) (h':=s.heap.push W.emptyDict) (t':=s.toks) (fun b u q=>Heap.get?_push_of_some _ q) (Nat.le_refl _) ⟨_,e1⟩
 refine I1.laid (a:=s.heap.objs.size + 1) (o:=.ins C s.heap.objs.size []) (t':=s.toks) (fun b u q=>Heap.get?_push_of_some _ q) (Nat.le_of_eq (Heap.size_push _ _)) ?_
 have ne:s.heap.objs.size ≠ s.heap.objs.size + 1:=Nat.ne_of_lt (Nat.lt_succ_self _)
 refine ⟨by rw [aK ne,ar],Nat.zero_le _,ne,e2,fun _=>none,(Heap.Ns1.of_empty e3).at fun o q=>Heap.get?_push_of_some _ q,fun _=>True.intro,fun y hy=>absurd rfl hy⟩
theorem Aa {prog:Program}{w:World}{env:Env}{e:Expr}{f:Str}{pos:Pos}{s:Shared}{Q:Value->Shared->Prop} (hb:attributeBase e f env (eval e env)=eval e env)
  (h:wpAny (model prog w) A (eval e env) (fun o s₁=>wpAny (model prog w) A (getAttr o f true) Q E s₁) E s):wpAny (model prog w) A (eval (.Attribute e f pos) env) Q E s :=
 Attribute_any_ h (by rw [arm_eval_Attribute,hb])
end
def CY (K:W.Frag) (ta:TE) (f:Str):TE:=fun σ H Q=>ta σ H fun x H1=>∃a C dx fs v,x=.ref a/\H1 a=some (.ins C dx fs)/\Cls K C/\aM K C f/\fs.lookup f=some v/\Q v H1
def DD (K:W.Frag) (ta tv:TE) (f:Str):TS:=fun D σ H=>tv σ H fun y H1=>ta σ H1 fun x H2=>∃a C dx fs,x=.ref a/\H2 a=some (.ins C dx fs)/\Cls K C/\aM K C f/\fs.length < 1000 /\
 D.nx σ (upd H2 a (.ins C dx (cG f y fs)))
def BL (X:Cx) (op:Operator) (rd:V->V->Hp->VK->Prop):Prop :=
 ∀(pins:List (Addr × Obj)) (s:Shared) (σ:St) (H:Hp) (x y:V) (u v:Value) (Q:VK),Inv X pins σ H s->RelV x u->RelV y v->rd x y H Q->wpAny (model X.prog X.w) X.A (inplaceOp op u v) (EP X pins σ Q) X.xe s
def y9 (K:W.Frag) (ta tv:TE) (rd:V->V->Hp->VK->Prop) (f:Str):TS:=fun D σ H=>ta σ H fun x H1=>∃a C dx fs v,x=.ref a/\H1 a=some (.ins C dx fs)/\Cls K C/\aM K C f/\fs.lookup f=some v /\
 tv σ H1 fun y H2=>rd v y H2 fun z H3=>∃dx' fs',H3 a=some (.ins C dx' fs')/\fs'.length < 1000/\D.nx σ (upd H3 a (.ins C dx' (cG f z fs')))
section
variable {X:Cx}{o e value:Expr}{f:Str}{pos pos' tpos:Pos}{ta tv:TE}
theorem aA (he:PE X e ta) (hb:attributeBase e f X.env (eval e X.env)=eval e X.env):PE X (.Attribute e f pos) (CY X.K ta f):=by
 intro pins s σ H Q I h
 refine Aa hb (thn (he pins s σ H _ I h) fun u s1 ⟨x,H1,I1,rx,a,C,dx,fs,v,ex,ea,c,n,l,q⟩=>?_)
 subst ex
 obtain rfl:u=Value.ref a:=rx
 exact ox I1 ea c n l fun u' s2 I2 ru=>⟨v,H1,I2,ru,q⟩
theorem aZ (ha:PE X o ta) (hv:PE X value tv) (hs:swapsWith value (some (.Attribute o f pos')) pos.line X.env=pure false):PS X (.Assign [.Attribute o f pos'] value pos) (DD X.K ta tv f):=by
 intro pins s σ H D I h
 refine plainObj_wpAny_Assign_Attribute (thn (hv pins s σ H _ I h) fun u s1 ⟨y,H1,I1,ry,q⟩=>thn (ha pins s1 σ H1 _ I1 q) fun ov s2 ⟨x,H2,I2,rx,a,C,dx,fs,ex,ea,c,n,l,q2⟩=>?_) hs
 subst ex
 obtain rfl:ov=Value.ref a:=rx
 exact oG I2 ea c n l ry fun s3 I3=>⟨σ,_,I3,q2⟩
theorem vJ {op:Operator}{rd:V->V->Hp->VK->Prop} (ha:PE X o ta) (hv:PE X value tv) (hop:BL X op rd):PS X (.AugAssign (.Attribute o f tpos) op value pos) (y9 X.K ta tv rd f):=by
 intro pins s σ H D I h
 refine wpAny_AugAssign_AttributeAny (thn (ha pins s σ H _ I h) fun ov s1 ⟨x,H1,I1,rx,a,C,dx,fs,v,ex,ea,c,n,l,q⟩=>?_)
 subst ex
 obtain rfl:ov=Value.ref a:=rx
 refine ox I1 ea c n l fun u s2 I2 ru=>thn (hv pins s2 σ H1 _ I2 q) fun w3 s3 ⟨y,H2,I3,ry,q3⟩=>thn (hop pins s3 σ H2 v y u w3 _ I3 ru ry q3) fun w4 s4 ⟨z,H3,I4,rz,dx',fs',ea',l',q4⟩=>?_
 exact oG I4 ea' c n l' rz fun s5 I5=>⟨σ,_,I5,q4⟩
def C9:V->V->Hp->VK->Prop:=fun x y H Q=>∃i j,x=.int i/\y=.int j/\Q (.int (i + j)) H
theorem Ba:BL X .Add C9:=by
 rintro pins s σ H x y u v Q I rx ry ⟨i,j,rfl,rfl,q⟩
 obtain ⟨t,rfl⟩:=(show ∃t,u=Value.int i t from rx)
 obtain ⟨t',rfl⟩:=(show ∃t',v=Value.int j t' from ry)
 exact PyProof.Rows.iadd_int ⟨.int (i + j),H,I.tok _,⟨_,rfl⟩,q⟩
end
section
variable {X:Cx}{pins:List (Addr × Obj)}{σ:St}{H:Hp}{s:Shared}{A:Around}{E:Value->Shared->Prop}{Q:Value->Shared->Prop}{c:Value}{b:Bool}
inductive jo (K:W.Frag) (H:Hp):V->Value->Prop where
 | non:jo K H .non (.type "NoneType")
 | bl (x:Bool):jo K H (.bl x) (.type "bool")
 | int (i:Int):jo K H (.int i) (.type "int")
 | str (x:Str):jo K H (.str x) (.type "str")
 | flt (x:UInt64):jo K H (.flt x) (.type "float")
 | lst {a:Addr}{xs:List V} (e:H a=some (.lst xs)):jo K H (.ref a) (.type "list")
 | frz {a:Addr}{o:Obj}{xs:List V} (e:H a=some (.frz o (.lst xs))):jo K H (.ref a) (.type "list")
 | tup {a:Addr}{xs:List V} (e:H a=some (.tup xs)):jo K H (.ref a) (.type "tuple")
 | dK {a:Addr}{kvs:List (Key × V)} (e:H a=some (.dK kvs)):jo K H (.ref a) (.type "dict")
 | dT {a:Addr}{kvs:List (List Key × V)} (e:H a=some (.dT kvs)):jo K H (.ref a) (.type "dict")
 | ins {a C dx:Addr}{fs:List (Str × V)} (e:H a=some (.ins C dx fs)) (cl:Cls K C) (ha:W.findIn K (.ref C) "__class__"=some (some (.builtin "object.__class__")))
   (hn:W.specialIn K (.builtin "object.__class__") "__get__"=some (some (.builtin "getset_descriptor.__get__"))) (htk:W.takesIn K (.builtin "object.__class__")=some true)
   (hm:W.mroIn K C (.type "object")=some true):jo K H (.ref a) (.ref C)
theorem wx {x:V}{u t:Value} (I:Inv X pins σ H s) (rx:RelV x u) (ty:jo X.K H x t) (e:W.kitOne X.K t c=some b) (h:∀tk,Q (.bool b) { s with toks:=tk }) :
  wpAny (model X.prog X.w) A (call (.builtin "isinstance") [u,c]) Q E s:=by
 cases ty with
 | non=>cases (show u=Value.none from rx);exact W.kia_one W.kitx_none I.kIn True.intro e (fun z=>nomatch z) h
 | bl y=>cases (show u=Value.bool y from rx);exact W.kia_one W.kitx_bool I.kIn True.intro e (fun z=>nomatch z) h
 | int i=>obtain ⟨t,q⟩:=(show ∃t,u=Value.int i t from rx);cases q;exact W.kia_one W.kitx_int I.kIn True.intro e (fun z=>nomatch z) h
 | str y=>obtain ⟨t,q⟩:=(show ∃t,u=Value.str y t from rx);cases q;exact W.kia_one W.kitx_str I.kIn True.intro e (fun z=>nomatch z) h
 | flt y=>obtain ⟨t,q⟩:=(show ∃t,u=Value.float y t from rx);cases q;exact W.kia_one W.kitx_float I.kIn True.intro e (fun z=>nomatch z) h
 | @lst a xs ea =>
  cases (show u=Value.ref a from rx)
  obtain ⟨_,_,n,_,h1⟩:=(show dg X.prog X.w H s.heap a (.lst xs) from I.hok a _ ea)
  exact W.kia_one W.kitx_list I.kIn ⟨_,h1,rfl⟩ e (fun z=>nomatch z) h
 | @frz a ob xs ea =>
  cases (show u=Value.ref a from rx)
  obtain ⟨_,_,_,n,_,h1⟩:=(show dg X.prog X.w H s.heap a (.frz ob (.lst xs)) from I.hok a _ ea)
  exact W.kia_one W.kitx_list I.kIn ⟨_,h1,rfl⟩ e (fun z=>nomatch z) h
 | @tup a xs ea =>
  cases (show u=Value.ref a from rx)
  obtain ⟨_,_,_,p⟩:=(show dg X.prog X.w H s.heap a (.tup xs) from I.hok a _ ea)
  obtain ⟨o,h1,h2,_⟩:=p
  exact W.kia_one W.kitx_tuple I.kIn ⟨o,h1,h2⟩ e (fun z=>nomatch z) h
 | @dK a kvs ea =>
  cases (show u=Value.ref a from rx)
  obtain ⟨_,_,vs,_,p⟩:=(show dg X.prog X.w H s.heap a (.dK kvs) from I.hok a _ ea)
  obtain ⟨o,es,ep,h1,h2,_⟩:=p
  exact W.kia_one W.kitx_dict I.kIn ⟨o,h1,h2.1⟩ e (fun z=>nomatch z) h
 | @dT a kvs ea =>
  cases (show u=Value.ref a from rx)
  obtain ⟨_,_,xs,_,o,es,ep,h1,h2,_⟩:=(show dg X.prog X.w H s.heap a (.dT kvs) from I.hok a _ ea)
  exact W.kia_one W.kitx_dict I.kIn ⟨o,h1,h2.1⟩ e (fun z=>nomatch z) h
 | @ins a C dx fs ea cl ha hn htk hm =>
  cases (show u=Value.ref a from rx)
  obtain ⟨mA,O,_⟩:=nh I.hok ea
  obtain ⟨od,J,_⟩:=O.look
  exact W.kia_one (W.kitx_own (cl.get _) cl.hd ha hn htk hm) I.kIn J e (fun z=>nomatch z) h
end
end L2
namespace L2
open PySem PySem.Spec PyProof.Rows
structure eP (k:Nat) (A:Around):Prop where
 hd:A.handled=none
 dp:A.depth + 3 * k + 5 < recursionLimit
 un:A.units + 16 * k + 200 < cLine
theorem eP.mono {j k:Nat}{A:Around} (r:eP k A) (h:j <= k):eP j A:=⟨r.hd,by have:=r.dp;omega,by have:=r.un;omega⟩
theorem eP.deeper {k:Nat}{A:Around} (r:eP (k + 1) A) (env:Env):eP k (A.deeper env) :=
 ⟨r.hd,by have:=r.dp;show A.depth + 1 + 3 * k + 5 < _;omega,by have:=r.un;show A.units + 3 + 16 * k + 200 < _;omega⟩
theorem sV {A:Around}{C:Addr}{us:List Value}{kw:List (Str × Value)}:(A.under (.builtin "type.__call__" ⟨.ref C :: us,kw⟩)).depth=A.depth + 1:=by
 first | rfl | simp [Around.under,Code.weight,Code.isCreation,Code.isGuard,Code.isCaller,Code.frames,Code.isFrame,guardIds]
theorem ur {A:Around}{C:Addr}{us:List Value}{kw:List (Str × Value)}:(A.under (.builtin "type.__call__" ⟨.ref C :: us,kw⟩)).units=A.units + 1:=by
 first | rfl | simp [Around.under,Code.cUnits,Code.frames,Code.isFrame]
theorem eP.make {k:Nat}{A:Around} (r:eP (k + 1) A) (C:Addr) (us:List Value) (kw:List (Str × Value)):eP k (A.under (.builtin "type.__call__" ⟨.ref C :: us,kw⟩)) :=
 ⟨r.hd,by have:=r.dp;rw [sV];omega,by have:=r.un;rw [ur];omega⟩
theorem eP.depth {k:Nat}{A:Around} (r:eP k A):A.depth < recursionLimit:=by have:=r.dp;omega
theorem eP.units {k:Nat}{A:Around} (r:eP k A):A.units + 64 < cLine:=by have:=r.un;omega
def yT:TA:=fun _ H Q=>Q [] H
def Ak (ta:TE) (tr:TA):TA:=fun σ H Q=>ta σ H fun x H1=>tr σ H1 fun xs H2=>Q (x :: xs) H2
section
variable {X:Cx}{e:Expr}{es:List Expr}{te:TE}{t:TA}{pos:Pos}
theorem af:PA X [] yT:=fun _ _ _ _ H Q I h=>Calls.spliced_nil ⟨[],H,I,.nil,h⟩
theorem aa (ha:PE X e te) (hr:PA X es t) (hs:starEach (e :: es) X.env=(false,eval e X.env) :: starEach es X.env:=by rfl):PA X (e :: es) (Ak te t):=by
 intro pos pins s σ H Q I h
 rw [hs]
 show wpAny _ _ (spliced ((false,eval e X.env) :: backTo pos (starEach es X.env))) _ _ s
 refine Calls.spliced_cons (thn (ha pins s σ H _ I h) fun u s1 ⟨x,H1,I1,r1,q1⟩=>?_)
 exact thn (hr pos pins s1 σ H1 _ I1 q1) fun us s2 ⟨xs,H2,I2,r2,q2⟩=>⟨x :: xs,H2,I2,.cons r1 r2,q2⟩
def Dc (t:TA):TE:=fun σ H Q=>t σ H fun xs H1=>xs.length <= sizeLine/\∀p,H1 p=none->Q (.ref p) (upd H1 p (.tup xs))
def CW (t:TA):TE:=fun σ H Q=>t σ H fun xs H1=>xs.length <= sizeLine/\∀p,H1 p=none->Q (.ref p) (upd H1 p (.lst xs))
theorem cB {x1} (h:PA X es t):PE X (.Tuple es x1 pos) (Dc t):=by
 intro pins s σ H Q I hq
 refine wpAny_Tuple_spliced (thn (h pos pins s σ H _ I hq) fun us s1 ⟨xs,H1,I1,r,z,q⟩=>⟨by rw [<- r.length];exact z,?_⟩)
 have hf:H1 s1.heap.objs.size=none:=I1.hok.fresh (Nat.le_refl _)
 refine ⟨.ref s1.heap.objs.size,upd H1 s1.heap.objs.size (.tup xs),I1.laid (t':=s1.toks) (fun b u e=>Heap.get?_push_of_some _ e) (Nat.le_refl _) ?_,rfl,q _ hf⟩
 exact ⟨z,us,r,⟨_,Heap.get?_push_size _ rfl,rfl,_,rfl⟩⟩
theorem cf (h:PA X es t):PE X (.List es pos) (CW t):=by
 intro pins s σ H Q I hq
 refine wpAny_List_spliced (thn (h pos pins s σ H _ I hq) fun us s1 ⟨xs,H1,I1,r,z,q⟩=>⟨by rw [<- r.length];exact z,?_⟩)
 have hf:H1 s1.heap.objs.size=none:=I1.hok.fresh (Nat.le_refl _)
 refine ⟨.ref s1.heap.objs.size,upd H1 s1.heap.objs.size (.lst xs),I1.laid (t':=s1.toks) (fun b u e=>Heap.get?_push_of_some _ e) (Nat.le_refl _) ?_,rfl,q _ hf⟩
 exact ⟨z,us,0,r,Heap.get?_push_size _ rfl⟩
end
abbrev Sp:=List V->Hp->VK->XK->Prop
abbrev CXT:=List Env->Hp->Shared->XK->Value->Shared->Prop
structure tj (P:Program) (w:World) (K:W.Frag) (mg:Str->Option Value) (base:Heap) (A:Around) (outer:List Env) (s:Shared) (H:Hp):Prop where
 frames:A.frames=some outer
 mod:Mod K mg base
 bs:∀b o,base.get? b=some o->s.heap.get? b=some o/\H b=none
 bsz:base.objs.size <= s.heap.objs.size
 mV:s.heap.FunFrames base outer
 frf:∀b ∈ frs outer,H b=none
 hok:HOk P w H s.heap
 bare:AllBare s.gens
def CE (outer:List Env) (P:Program) (w:World) (H:Hp) (s:Shared) (Q:VK) (u:Value) (s':Shared):Prop :=
 ∃v H',s'.os=s.os/\AllBare s'.gens/\Un (frs outer) [] H H' s.heap s'.heap/\HOk P w H' s'.heap/\RelV v u/\Q v H'
def CR (CX:CXT) (outer:List Env) (P:Program) (w:World) (H:Hp) (s:Shared) (Q:VK) (E:XK) (r:Result) (s':Shared):Prop :=
 match r with
 | .ok (.ret u)=>CE outer P w H s Q u s'
 | .ok _=>False
 | .error e=>CX outer H s E e s'
structure ka (P:Program) (w:World) (K:W.Frag) (mg:Str->Option Value) (base:Heap) (CX:CXT) (k:Nat) (f:Addr) (fd:FuncData) (ps:List Str) (sp:Sp):Prop where
 len:∀vs H Q E,sp vs H Q E->vs.length=ps.length
 run:∀(A:Around) (outer:List Env) (s:Shared) (H:Hp) (args:Args) (us:List Value) (vs:List V) (Q:VK) (E:XK),eP k A->tj P w K mg base A outer s H->BindsTo s fd args (ps.zip us)->Vals vs us->sp vs H Q E ->
  codeAny (model P w) A (.call (.ref f) args) (CR CX outer P w H s Q E) s
theorem tj.make {P:Program}{w:World}{K:W.Frag}{mg:Str->Option Value}{base:Heap}{A:Around}{outer:List Env}{s:Shared}{H:Hp} (e:tj P w K mg base A outer s H) (C:Addr) (us:List Value) (kw:List (Str × Value)) :
  tj P w K mg base (A.under (.builtin "type.__call__" ⟨.ref C :: us,kw⟩)) outer s H:=⟨by first | exact e.frames | (simpa [Around.under,Code.envs,Code.isFrame,pushEnvs] using e.frames),e.mod,e.bs,e.bsz,e.mV,e.frf,e.hok,e.bare⟩
section
variable {X:Cx}{pins:List (Addr × Obj)}{σ:St}{H:Hp}{s s':Shared}
theorem Inv.wY (I:Inv X pins σ H s):tj X.prog X.w X.K X.mg X.base X.A X.stack s H :=
 ⟨I.ok.frames,I.ok.mod,I.bs,Nat.le_trans I.ok.bsz I.sz,I.stack,I.uH,I.hok,I.bare⟩
theorem Inv.after {Q:VK}{u:Value} (I:Inv X pins σ H s) (h:CE X.stack X.prog X.w H s Q u s'):EP X pins σ Q u s':=by
 obtain ⟨v,H',os,bare,un,hok,r,q⟩:=h
 obtain ⟨hh,g,d,t,os'⟩:=s'
 obtain rfl:os'=s.os:=os
 exact ⟨v,H',I.call (h':=hh) (g':=g) (d':=d) (t':=t) (ch:=[]) un hok bare (fun b z=>absurd z (by simp)),r,q⟩
end
def xG (sp:Sp) (dvs:List V) (E:XK) (t:TA):TE:=fun σ H Q=>t σ H fun vs H1=>sp (vs ++ dvs) H1 Q E
def Ab (C:Addr) (m:Str) (sp:Sp) (dvs:List V) (E:XK) (ta:TE) (t:TA):TE:=fun σ H Q=>ta σ H fun x H1=>∃a dx fs,x=.ref a/\H1 a=some (.ins C dx fs)/\fs.lookup m=none /\
 t σ H1 fun vs H2=>sp (x :: (vs ++ dvs)) H2 Q E
def uX (C:Addr) (sp:Sp) (dvs:List V) (E:XK) (t:TA):TE:=fun σ H Q=>t σ H fun vs H1=>∀x dx,H1 x=none->H1 dx=none->dx ≠ x ->
 sp (.ref x :: (vs ++ dvs)) (upd (upd H1 dx (.own x)) x (.ins C dx [])) (fun v H2=>v=.non/\Q (.ref x) H2) E
def Binds (K:W.Frag) (fd:FuncData) (ps:List Str) (ds:List Value):Prop :=
 ∀(s:Shared) (us:List Value),K.In s.heap->(us ++ ds).length=ps.length->BindsTo s fd ⟨us,[]⟩ (ps.zip (us ++ ds))
theorem Binds.all {K:W.Frag}{fd:FuncData}{ps:List Str} (h:∀us:List Value,us.length=ps.length->bindArgs fd ⟨us,[]⟩=pure (ps.zip us)):Binds K fd ps []:=fun s us _ hl=>by
 rw [List.append_nil] at hl ⊢
 exact .of_eq (h us hl)
def Passes (CX:CXT) (X:Cx) (E:XK):Prop:=∀(pins:List (Addr × Obj)) (σ:St) (H:Hp) (s:Shared) (e:Value) (s':Shared),Inv X pins σ H s->CX X.stack H s E e s'->X.xe e s'
section
variable {X:Cx}{CX:CXT}{k:Nat}{f C:Addr}{fd:FuncData}{ps:List Str}{sp:Sp}{dvs:List V}{ds:List Value}{E:XK}{x m:Str}{p pos apos:Pos}{e o:Expr}{es:List Expr}{ta:TE}{t:TA}
theorem tS {pins:List (Addr × Obj)}{σ:St}{H:Hp}{s:Shared}{Q:VK}{us:List Value}{vs:List V} (F:ka X.prog X.w X.K X.mg X.base CX k f fd ps sp) (hr:eP k X.A) (hb:Binds X.K fd ps ds) (hd:Vals dvs ds) (hx:Passes CX X E)
  (I:Inv X pins σ H s) (r:Vals vs us) (h:sp (vs ++ dvs) H Q E):wpAny (model X.prog X.w) X.A (call (.ref f) us) (EP X pins σ Q) X.xe s:=by
 have r2:Vals (vs ++ dvs) (us ++ ds):=r.append hd
 have hl:(us ++ ds).length=ps.length:=by rw [<- r2.length];exact F.len _ _ _ _ h
 refine wpAny_call (codeAny_mono (F.run X.A X.stack s H ⟨us,[]⟩ (us ++ ds) (vs ++ dvs) Q E hr I.wY (hb s us I.kIn hl) r2 h) fun r s' hq=>?_)
 cases r with
 | error e=>exact hx pins σ H s e s' I hq
 | ok fl =>
  cases fl with
  | ret u=>exact I.after hq
  | next=>exact False.elim hq
  | brk=>exact False.elim hq
  | cont=>exact False.elim hq
theorem zO (F:ka X.prog X.w X.K X.mg X.base CX k f fd ps sp) (hr:eP k X.A) (hg:Gl X x) (hm:X.mg x=some (.ref f)) (hk:W.keepIn X.K (.ref f)=true) (hb:Binds X.K fd ps ds) (hd:Vals dvs ds) (hx:Passes CX X E)
  (ha:PA X (e :: es) t) (hdb:(x == ("__debug__":Str))=false:=by decide) (he:starEach (e :: es) X.env=(false,eval e X.env) :: starEach es X.env:=by rfl) (hpl:(backTo pos (starEach es X.env)).any (·.1)=false:=by rfl) :
  PE X (.Call (.Name x p) (e :: es) [] pos) (xG sp dvs E t):=by
 intro pins s σ H Q I h
 refine wpAny_Call_Name_kw (k8 I hg hm ?_ hdb)
 refine W.callWith_K (h₀:=X.base) I.ok.mod.kin hk (thn (ha pos pins s σ H _ I h) fun us s1 ⟨vs,H1,I1,r,q⟩=>⟨I1.kIn,?_⟩) he hpl
 exact tS F hr hb hd hx I1 r q
theorem y8 {pl:Sem Bool} (he:PE X o ta) (c:Cls X.K C) (hm:Meth X.K C m f) (F:ka X.prog X.w X.K X.mg X.base CX k f fd ps sp) (hr:eP k X.A) (hb:Binds X.K fd ps ds) (hd:Vals dvs ds) (hx:Passes CX X E) (ha:PA X (e :: es) t)
  (hst:starEach (e :: es) X.env=(false,eval e X.env) :: starEach es X.env:=by rfl) (hpl:(backTo pos (starEach es X.env)).any (·.1)=false:=by rfl)
  (ht:eval (.Call (.Attribute o m apos) (e :: es) [] pos) X.env=(do
   let ov <- eval o X.env
   standAt apos.atName
   let (f,first) <- holding [ov] (getMethod ov m pl)
   callWith pos f first (backTo pos (starEach (e :: es) X.env)) (backToKw pos (keywordEach [] X.env))):=by rfl) :
  PE X (.Call (.Attribute o m apos) (e :: es) [] pos) (Ab C m sp dvs E ta t):=by
 intro pins s σ H Q I h
 refine W.methodCall_KW (pl:=pl) (thn (he pins s σ H _ I h) fun u s1 ⟨x,H1,I1,rx,a,dx,fs,ex,ea,l,q⟩=>?_) ht
 subst ex
 obtain rfl:u=Value.ref a:=rx
 refine uy I1 ea c hm l ?_
 refine W.callWith_K (first:=[.ref a]) (h₀:=X.base) I.ok.mod.kin hm.kp (thn (ha pos pins s1 σ H1 _ I1 q) fun us s2 ⟨vs,H2,I2,r,q2⟩=>⟨I2.kIn,?_⟩) hst hpl
 exact tS (us:=.ref a :: us) (vs:=.ref a :: vs) F hr hb hd hx I2 (.cons rfl r) q2
structure Mk (K:W.Frag) (C f:Addr):Prop where
 makes:W.makesIn K C=true
 init:W.findIn K (.ref C) "__init__"=some (some (.ref f))
 fn:W.isFn K (.ref f)=true
 kp:W.keepIn K (.ref C)=true
theorem sF {pins:List (Addr × Obj)}{σ:St}{H:Hp}{s:Shared}{Q:VK}{us:List Value}{vs:List V} (M:Mk X.K C f) (F:ka X.prog X.w X.K X.mg X.base CX k f fd ps sp) (hr:eP (k + 1) X.A) (hb:Binds X.K fd ps ds) (hd:Vals dvs ds)
  (hx:Passes CX X E) (I:Inv X pins σ H s) (r:Vals vs us)
  (h:∀x dx,H x=none->H dx=none->dx ≠ x->sp (.ref x :: (vs ++ dvs)) (upd (upd H dx (.own x)) x (.ins C dx [])) (fun v H2=>v=.non/\Q (.ref x) H2) E) :
  wpAny (model X.prog X.w) X.A (call (.ref C) us) (EP X pins σ Q) X.xe s:=by
 have hq:=h (s.heap.objs.size + 1) s.heap.objs.size (I.hok.fresh (Nat.le_succ _)) (I.hok.fresh (Nat.le_refl _)) (Nat.ne_of_lt (Nat.lt_succ_self _))
 have I2:=Inv.made (C:=C) I
 have r2:Vals (V.ref (s.heap.objs.size + 1) :: (vs ++ dvs)) (Value.ref (s.heap.objs.size + 1) :: (us ++ ds)):=.cons rfl (r.append hd)
 have hl:(Value.ref (s.heap.objs.size + 1) :: us ++ ds).length=ps.length:=by
  have e:=r2.length
  rw [F.len _ _ _ _ hq] at e
  exact e.symm
 refine wpAny_call (yD (f:=f) I.kIn M.makes M.init (beq_iff_eq.mp M.fn) (codeAny_mono (F.run _ X.stack _ _ ⟨Value.ref (s.heap.objs.size + 1) :: us,[]⟩ (Value.ref (s.heap.objs.size + 1) :: (us ++ ds)) _ _ E (hr.make C us [])
  (I2.wY.make C us []) (hb _ (Value.ref (s.heap.objs.size + 1) :: us) I2.kIn hl) r2 hq) fun r s' hq'=>?_))
 cases r with
 | error e=>exact hx pins σ _ _ e s' I2 hq'
 | ok fl =>
  cases fl with
  | ret u =>
   obtain ⟨v,H',I3,rv,ev,q3⟩:=I2.after hq'
   subst ev
   exact ⟨rv,⟨V.ref (s.heap.objs.size + 1),H',I3,rfl,q3⟩⟩
  | next=>exact False.elim hq'
  | brk=>exact False.elim hq'
  | cont=>exact False.elim hq'
theorem zR (M:Mk X.K C f) (F:ka X.prog X.w X.K X.mg X.base CX k f fd ps sp) (hr:eP (k + 1) X.A) (hg:Gl X x) (hm:X.mg x=some (.ref C)) (hb:Binds X.K fd ps ds) (hd:Vals dvs ds) (hx:Passes CX X E)
  (ha:PA X (e :: es) t) (hdb:(x == ("__debug__":Str))=false:=by decide) (he:starEach (e :: es) X.env=(false,eval e X.env) :: starEach es X.env:=by rfl) (hpl:(backTo pos (starEach es X.env)).any (·.1)=false:=by rfl) :
  PE X (.Call (.Name x p) (e :: es) [] pos) (uX C sp dvs E t):=by
 intro pins s σ H Q I h
 refine wpAny_Call_Name_kw (k8 I hg hm ?_ hdb)
 refine W.callWith_K (h₀:=X.base) I.ok.mod.kin M.kp (thn (ha pos pins s σ H _ I h) fun us s1 ⟨vs,H1,I1,r,q⟩=>⟨I1.kIn,?_⟩) he hpl
 exact sF M F hr hb hd hx I1 r q
theorem yB (M:Mk X.K C f) (F:ka X.prog X.w X.K X.mg X.base CX k f fd ps sp) (hr:eP (k + 1) X.A) (hg:Gl X x) (hm:X.mg x=some (.ref C)) (hb:Binds X.K fd ps ds) (hd:Vals dvs ds) (hx:Passes CX X E)
  (hdb:(x == ("__debug__":Str))=false:=by decide):PE X (.Call (.Name x p) [] [] pos) (uX C sp dvs E yT):=by
 intro pins s σ H Q I h
 refine wpAny_Call_Name_kw (k8 I hg hm ?_ hdb)
 exact W.callWith_K0 I.kIn M.kp (sF (us:=[]) M F hr hb hd hx I .nil h)
end
section
variable {X:Cx}{CX:CXT}{k:Nat}{f C:Addr}{fd:FuncData}{ps ks:List Str}{sp:Sp}{E:XK}{x m:Str}{p pos apos kpos:Pos}{e o:Expr}{es:List Expr}{kws:List Keyword}{te ta:TE}{t tk:TA}{nm:Option Str}
structure KBinds (K:W.Frag) (fd:FuncData) (ps ks:List Str) (g:List Value->List Value->List Value) (gV:List V->List V->List V):Prop where
 to:∀(s:Shared) (us ws:List Value),K.In s.heap->(g us ws).length=ps.length->BindsTo s fd ⟨us,ks.zip ws⟩ (ps.zip (g us ws))
 rel:∀{vs:List V}{us:List Value}{zs:List V}{ws:List Value},Vals vs us->Vals zs ws->Vals (gV vs zs) (g us ws)
variable {g:List Value->List Value->List Value}{gV:List V->List V->List V}
end
structure aB (N P:List Str) (sc:Scope):Prop where
 kind:sc.kind=.function
 co:sc.isCoroutine=false
 gen:sc.isGenerator=false
 nd:N.Nodup
 pre:N.take P.length=P
 par:∀x ∈ P,sc.names.lookup x=some .local \/ sc.names.lookup x=some .cell
 AS:∀y ∈ sc.names,y.2 ≠ .free
theorem qi {kindOf:Str->Option NameKind}{x:Str}:∀{binds:List (Str × Value)}{m:Str->Option Value},(∀v,(x,v) ∉ binds)->bindL kindOf binds m x=m x
 | [],_,_=>rfl
 | (n,v) :: r,m,h=>by
  unfold bindL
  rw [qi fun w hw=>h w (List.mem_cons_of_mem _ hw)]
  split
  ·have:x ≠ n:=by rintro rfl;exact h v List.mem_cons_self
   simp [this]
  ·rfl
theorem pE {kindOf:Str->Option NameKind}{x:Str}:∀{binds:List (Str × Value)}{m:Str->Option Value},(∀v,(x,v) ∉ binds)->bindC kindOf binds m x=m x
 | [],_,_=>rfl
 | (n,v) :: r,m,h=>by
  unfold bindC
  rw [pE fun w hw=>h w (List.mem_cons_of_mem _ hw)]
  split
  ·rfl
  ·have:x ≠ n:=by rintro rfl;exact h v List.mem_cons_self
   simp [this]
theorem pV {kindOf:Str->Option NameKind}{x:Str}{v:Value}:∀{P:List Str}{vs:List Value}{i:Nat}{m:Str->Option Value},P.Nodup->P[i]?=some x->vs[i]?=some v->kindOf x=some .local ->
  bindL kindOf (P.zip vs) m x=some v
 | [],_,_,_,_,h,_,_=>by simp at h
 | _ :: _,[],_,_,_,_,h,_=>by simp at h
 | p :: P,w :: vs,0,m,nd,h1,h2,hk=>by
  simp at h1 h2;subst h1;subst h2
  show bindL kindOf ((p,w) :: P.zip vs) m p=_
  unfold bindL
  rw [qi fun v hv=>(List.nodup_cons.mp nd).1 (List.of_mem_zip hv).1,if_pos hk]
  simp
 | p :: P,w :: vs,i + 1,m,nd,h1,h2,hk=>by
  show bindL kindOf ((p,w) :: P.zip vs) m x=_
  unfold bindL
  exact pV (i:=i) (List.nodup_cons.mp nd).2 (by simpa using h1) (by simpa using h2) hk
theorem pU {kindOf:Str->Option NameKind}{x:Str}{v:Value}:∀{P:List Str}{vs:List Value}{i:Nat}{m:Str->Option Value},P.Nodup->P[i]?=some x->vs[i]?=some v->kindOf x ≠ some .local ->
  bindC kindOf (P.zip vs) m x=some v
 | [],_,_,_,_,h,_,_=>by simp at h
 | _ :: _,[],_,_,_,_,h,_=>by simp at h
 | p :: P,w :: vs,0,m,nd,h1,h2,hk=>by
  simp at h1 h2;subst h1;subst h2
  show bindC kindOf ((p,w) :: P.zip vs) m p=_
  unfold bindC
  rw [pE fun v hv=>(List.nodup_cons.mp nd).1 (List.of_mem_zip hv).1,if_neg hk]
  simp
 | p :: P,w :: vs,i + 1,m,nd,h1,h2,hk=>by
  show bindC kindOf ((p,w) :: P.zip vs) m x=_
  unfold bindC
  exact pU (i:=i) (List.nodup_cons.mp nd).2 (by simpa using h1) (by simpa using h2) hk
def start (N:List Str) (vs:List V):St:=vs.map some ++ List.replicate (N.length - vs.length) none
def rF (CX:CXT) (P:Program) (w:World) (K:W.Frag) (mg:Str->Option Value) (base:Heap) (N:List Str) (qual:Str) (scope:Scope) (f:Addr) (cd:Value) (A:Around) (outer:List Env) (s:Shared) (H:Hp) (E:XK):Cx where
 prog:=P
 w:=w
 K:=K
 mg:=mg
 base:=base
 A:=A.deeper (envOfC qual scope s.heap.objs.size f cd)
 N:=N
 s₀:=s
 H₀:=H
 env:=envOfC qual scope s.heap.objs.size f cd
 outer:=outer
 stack:=envOfC qual scope s.heap.objs.size f cd :: outer
 ex:=[]
 calm:=true
 fn:=fun _=>true
 pn:=[]
 xe:=fun e s'=>wpAny (model P w) (A.deeper (envOfC qual scope s.heap.objs.size f cd)) (leaving (envOfC qual scope s.heap.objs.size f cd) e) (fun _ s''=>CX outer H s E e s'') (fun e' s''=>CX outer H s E e' s'') s'
theorem rW {sc:Scope}{n:Nat}{x:Str} (h:sc.names.lookup x=some .cell):∃c,(cellsFrom n sc.names []).lookup x=some c:=by
 have q:=W.cellsFrom_some sc.names n [] (.inl h)
 exact Option.isSome_iff_exists.mp q
theorem vC {CX:CXT}{P:Program}{w:World}{K:W.Frag}{mg:Str->Option Value}{base:Heap}{N ps:List Str}{qual:Str}{scope:Scope}{f:Addr}{cd:Value}{A:Around}{outer:List Env}{s s1:Shared}{H:Hp}{E:XK}{us:List Value}{vs:List V}
  (S:aB N ps scope) (hd:A.handled=none) (e0:tj P w K mg base A outer s H) (hl:vs.length=ps.length) (r:Vals vs us)
  (x:InCallC s s.heap.objs.size (bindL (envOfC qual scope s.heap.objs.size f cd).kindOf (ps.zip us) fun _=>none) (cellsFrom (s.heap.objs.size + 1) scope.names []) (bindC (envOfC qual scope s.heap.objs.size f cd).kindOf (ps.zip us) fun _=>none) s1) :
  Inv (rF CX P w K mg base N qual scope f cd A outer s H E) [] (start N vs) H s1:=by
 have hpl:ps.length <= N.length:=by have:=congrArg List.length S.pre;rw [List.length_take] at this;omega
 obtain ⟨h1,tk,rfl,hk⟩:=x.done
 have noA:∀b:Addr,b ∉ (rF CX P w K mg base N qual scope f cd A outer s H E).ex:=fun b z=>absurd (show b ∈ ([]:List Addr) from z) (by simp)
 refine ⟨⟨e0.mod,S.kind,rfl,rfl,Nat.le_refl _,fun y z c h1 h2=>?_,fun y hy=>?_,fun y c _ h=>?_,fun _=>hd,Around.frames_deeper e0.frames,.inr ⟨rfl,rfl⟩,fun b z=>absurd z (noA b),e0.bs,e0.bsz,fun b _ _=>noA b,fun b z=>absurd z (noA b),e0.mV,e0.frf⟩,
  rfl,e0.bare,Un.kept hk,⟨_,x.toInCall.ns,fun i y v h1 h2 h3=>?_⟩,fun y c h=>⟨_,x.cell y c h⟩,e0.hok.fresh (Nat.le_refl _),fun y c h=>?_,fun p hp=>absurd (show p ∈ ([]:List (Addr × Obj)) from hp) (by simp),e0.hok.kept hk,?_⟩
 ·exact name_of_addr x.apart (PySem.mem_of_lookup h1) (PySem.mem_of_lookup h2)
 ·have hy:scope.names.lookup y=some .cell \/ scope.names.lookup y=some .free:=hy
  rcases hy with hy | hy
  ·exact rW hy
  ·exact absurd rfl (S.AS _ (PySem.mem_of_lookup hy))
 ·exact Nat.le_of_lt (x.above y c (PySem.mem_of_lookup h))
 ·have hi:i < vs.length:=by
   unfold start at h2
   by_cases hi:i < vs.length
   ·exact hi
   ·rw [List.getElem?_append_right (by simpa using hi)] at h2
    rw [List.getElem?_replicate] at h2
    split at h2 <;> cases h2
  have ha:vs[i]?=some v:=by
   unfold start at h2
   rw [List.getElem?_append_left (by simpa using hi),List.getElem?_map] at h2
   cases e:vs[i]? with
   | none=>rw [e] at h2;cases h2
   | some a=>rw [e] at h2;cases h2;rfl
  obtain ⟨u,hu,rv⟩:=r.get ha
  have hp:ps[i]?=some y:=by
   rw [<- S.pre,List.getElem?_take_of_lt (by omega)];exact h1
  have ndP:ps.Nodup:=by rw [<- S.pre];exact S.nd.sublist (List.take_sublist _ _)
  refine ⟨u,rv,?_⟩
  rcases S.par y (List.mem_of_getElem? hp) with k | k
  ·exact .inl ⟨k,pV ndP hp hu k⟩
  ·obtain ⟨c,e⟩:=rW (n:=s.heap.objs.size + 1) k
   refine .inr ⟨.inl k,c,e,?_⟩
   have q:=x.cell y c e
   rw [pU ndP hp hu (by show scope.names.lookup y ≠ _;rw [k];decide)] at q
   exact q
 ·exact e0.hok.fresh (Nat.le_of_lt (x.above y c (PySem.mem_of_lookup h)))
 ·unfold start
  show _=N.length
  rw [List.length_append,List.length_map,List.length_replicate]
  omega
theorem BZ {CX:CXT}{P:Program}{w:World}{K:W.Frag}{mg:Str->Option Value}{base:Heap}{k:Nat}{f:Addr}{name qual:Str}{params:Arguments}{body:List Stmt}{scope:Scope}{dV kV doc pm cdv ct oc:Value}{an od:Option Addr}
  {osl:Array (Option Value)}{N ps:List Str}{sp:Sp} (lk:K.lookup f=some ⟨oc,od,.func (W.fnOf name qual params body scope dV kV doc pm an cdv ct),osl⟩) (hcd:W.codeIn K cdv qual=true) (S:aB N ps scope)
  (len:∀vs H Q E,sp vs H Q E->vs.length=ps.length)
  (hbody:∀(A:Around) (outer:List Env) (s:Shared) (H:Hp) (vs:List V) (Q:VK) (E:XK),eP k (A.deeper (envOfC qual scope s.heap.objs.size f cdv))->sp vs H Q E ->
   ∃t,PSs (rF CX P w K mg base N qual scope f cdv A outer s H E) body t/\t { nx:=fun _ H'=>Q .non H',rt:=Q } (start N vs) H) :
  ka P w K mg base CX (k + 1) f (W.fnOf name qual params body scope dV kV doc pm an cdv ct) ps sp:=by
 refine ⟨len,fun A outer s H args us vs Q E hr e0 hb r hsp=>?_⟩
 have hl:=len _ _ _ _ hsp
 have KX:K.In s.heap:=e0.mod.kin.keeps fun b o e=>(e0.bs b o e).1
 have lim:s.heap.NoLimit:=e0.mod.nolimit.keeps fun b o e=>(e0.bs b o e).1
 have hkind:∀y ∈ ps.zip us,scope.names.lookup y.1=some .local \/ (scope.names.lookup y.1=some .cell/\((cellsFrom (s.heap.objs.size + 1) scope.names []).lookup y.1).isSome=true):=fun ⟨n,v⟩ hy=>by
  rcases S.par n (List.of_mem_zip hy).1 with q | q
  ·exact .inl q
  ·exact .inr ⟨q,W.cellsFrom_some _ _ _ (.inl q)⟩
 refine codeAny_call_function hr.depth (KX _ _ lk) rfl S.co S.gen rfl (W.codeRec_of KX hcd) (hb _ _ _ _ ?_)
 refine wpAny_newFunctionEnv_cells S.kind hkind fun env he s1 x=>?_
 subst he
 refine ⟨lim.keeps x.toInCall.keep,codeAny_func ?_⟩
 obtain ⟨t,ht,hq⟩:=hbody A outer s H vs Q E (hr.deeper _) hsp
 have I:Inv (rF CX P w K mg base N qual scope f cdv A outer s H E) [] (start N vs) H s1:=vC S hr.hd e0 hl r x
 refine wpAny_mono (ht [] s1 (start N vs) H _ I hq) (fun fl s' hs=>?_) fun e s' hs=>hs
 have fin:∀{σ':St}{H':Hp}{v:V}{u:Value},Inv (rF CX P w K mg base N qual scope f cdv A outer s H E) [] σ' H' s'->RelV v u->Q v H'->CE outer P w H s Q u s' :=
  fun {σ' H' v u} J rv q=>⟨v,H',J.os,J.bare,J.base,J.hok,rv,q⟩
 cases fl with
 | ret u =>
  obtain ⟨v,σ',H',J,rv,q⟩:=hs
  exact fin J rv q
 | next =>
  obtain ⟨σ',H',J,q⟩:=hs
  exact fin (v:=V.non) (u:=Value.none) J rfl q
 | brk =>
  obtain ⟨_,_,_,q⟩:=hs
  exact False.elim q
 | cont =>
  obtain ⟨_,_,_,q⟩:=hs
  exact False.elim q
end L2
namespace L2
open PySem PySem.Spec PyProof.Rows
section
variable {X:Cx}{x:Str}{p pos:Pos}{e:Expr}{es:List Expr}{t:TA}{id T:String}{r:List V->Hp->VK->Prop}
def tCB (r:List V->Hp->VK->Prop) (t:TA):TE:=fun σ H Q=>t σ H fun vs H1=>r vs H1 Q
theorem aN (hc:eo X (.builtin id) r) (hg:Gl X x) (hm:X.mg x=none) (hv:bootBuiltins x=some (.builtin id)) (ha:PA X (e :: es) t) (hn:x ≠ "__name__":=by decide) (hdb:(x == ("__debug__":Str))=false:=by decide)
  (he:starEach (e :: es) X.env=(false,eval e X.env) :: starEach es X.env:=by rfl) (hpl:(backTo pos (starEach es X.env)).any (·.1)=false:=by rfl):PE X (.Call (.Name x p) (e :: es) [] pos) (tCB r t):=by
 intro pins s σ H Q I h
 refine wpAny_Call_Name_kw (lR I hg hm hv ?_ hn hdb)
 exact PyProof.Rows.callWith_builtin1 (thn (ha pos pins s σ H _ I h) fun us s1 ⟨vs,H1,I1,r1,q1⟩=>hc pins s1 σ H1 vs us Q I1 r1 q1) he hpl
theorem cN (hc:eo X (.type T) r) (hg:Gl X x) (hm:X.mg x=none) (hv:bootBuiltins x=some (.type T)) (ha:PA X (e :: es) t) (hn:x ≠ "__name__":=by decide) (hdb:(x == ("__debug__":Str))=false:=by decide)
  (he:starEach (e :: es) X.env=(false,eval e X.env) :: starEach es X.env:=by rfl) (hpl:(backTo pos (starEach es X.env)).any (·.1)=false:=by rfl):PE X (.Call (.Name x p) (e :: es) [] pos) (tCB r t):=by
 intro pins s σ H Q I h
 refine wpAny_Call_Name_kw (lR I hg hm hv ?_ hn hdb)
 exact PyProof.Rows.callWith_type1 (thn (ha pos pins s σ H _ I h) fun us s1 ⟨vs,H1,I1,r1,q1⟩=>hc pins s1 σ H1 vs us Q I1 r1 q1) he hpl
end
end L2
namespace HT
open PySem PyProof.Rows
section
open PySem.SeqAt
open PySem.AutoSeq1 (wpAny_loadPart')
open PySem.MeetsSeq PySem.MeetsSeq2 PySem.MeetsSeq3
end
section
variable {prog:Program}{w:World}{A:Around}{E:Value->Shared->Prop}{s:Shared}
def sIx (n d:Nat):Option Int->Nat
 | none=>d
 | some v=>if v < 0 then (v + (n:Int)).toNat else min v.toNat n
theorem vk (n d k:Nat):sIx n d (some (k:Int))=min k n:=by
 show (if (k:Int) < 0 then ((k:Int) + (n:Int)).toNat else min (k:Int).toNat n)=min k n
 rw [if_neg (by omega),Int.toNat_natCast]
theorem Bo (n d:Nat) (hd:d <= n) (o:Option Int):sIx n d o <= n:=by
 cases o with
 | none=>exact hd
 | some v =>
  show (if v < 0 then (v + (n:Int)).toNat else min v.toNat n) <= n
  by_cases hv:v < 0
  ·rw [if_pos hv];omega
  ·rw [if_neg hv];exact Nat.min_le_right _ _
theorem uS (v:Int) (n d:Nat):(if v < 0 then max (v + (n:Int)) 0 else min v (n:Int))=((sIx n d (some v):Nat):Int):=by
 show (if v < 0 then max (v + (n:Int)) 0 else min v (n:Int))=(((if v < 0 then (v + (n:Int)).toNat else min v.toNat n):Nat):Int)
 by_cases hv:v < 0
 ·simp only [if_pos hv];omega
 ·simp only [if_neg hv];omega
theorem uF (lo hi:Option Int) (n:Nat):Builtin.Slice.sliceAdjust lo hi 1 (n:Int)=(((sIx n 0 lo:Nat):Int),((sIx n n hi:Nat):Int)):=by
 have h1:¬ ((1:Int) < 0):=by omega
 unfold Builtin.Slice.sliceAdjust
 simp only [h1,if_false]
 refine Prod.ext ?_ ?_
 ·cases lo with
  | none=>rfl
  | some v=>exact uS v n 0
 ·cases hi with
  | none=>rfl
  | some v=>exact uS v n n
theorem uw (i j:Nat):Builtin.Slice.slicePlaces (i:Int) (j:Int) 1=j - i:=by
 unfold Builtin.Slice.slicePlaces
 have h1:(1:Int) > 0:=by omega
 simp only [h1,if_true,Int.ediv_one]
 split <;> omega
theorem nR {v:Value}{o:Option Int}{Q:Option Int->Shared->Prop} (p:IsPart v o) (h:Q o s):wpAny (model prog w) A (Builtin.Slice.slicePartIndex v) Q E s:=by
 cases p with
 | none=>exact slicePart_none h
 | int i t=>exact slicePart_int h
theorem lE {sl:Addr}{vl vu:Value}{lo hi:Option Int}{n:Nat}{Q:Int × Int × Nat->Shared->Prop} (hs:s.heap.IsSliceOf sl vl vu .none) (pl:IsPart vl lo) (pu:IsPart vu hi)
  (h:Q (((sIx n 0 lo:Nat):Int),1,sIx n n hi - sIx n 0 lo) s):wpAny (model prog w) A (Builtin.Slice.sliceApplied (.ref sl) (pure (n:Int))) Q E s:=by
 obtain ⟨os,hos,hcs,hds⟩:=id hs
 unfold Builtin.Slice.sliceApplied Builtin.Slice.sliceFields
 refine wpAny_bind (wpAny_bind (wpAny_field hos hds (x:=vl) rfl (wpAny_bind (wpAny_field hos hds (x:=vu) rfl (wpAny_bind (wpAny_field hos hds (x:=.none) rfl (wpAny_pure ?_)))))))
 refine wpAny_bind (slicePart_none ?_)
 show wpAny _ _ (if ((1:Int) == 0)=true then _ else _) _ _ s
 rw [if_neg (by decide)]
 refine wpAny_bind (nR pl (wpAny_bind (nR pu (wpAny_bind (wpAny_pure ?_)))))
 show wpAny _ _ (match Builtin.Slice.sliceAdjust lo hi 1 (n:Int) with | (lo,hi)=>pure (lo,(1:Int),Builtin.Slice.slicePlaces lo hi 1)) _ _ s
 rw [uF lo hi n]
 show wpAny _ _ (pure (((sIx n 0 lo:Nat):Int),(1:Int),Builtin.Slice.slicePlaces ((sIx n 0 lo:Nat):Int) ((sIx n n hi:Nat):Int) 1)) _ _ s
 rw [uw]
 exact wpAny_pure h
theorem yg (xs:Array Value) (i k:Nat):((List.range k).filterMap fun (m:Nat)=>xs[((i:Int) + (m:Int) * 1).toNat]?).toArray=((xs.toList.drop i).take k).toArray:=by
 have e:(fun (m:Nat)=>xs[((i:Int) + (m:Int) * 1).toNat]?)=fun m=>xs[i + m]?:=by
  funext m
  have:((i:Int) + (m:Int) * 1).toNat=i + m:=by omega
  rw [this]
 rw [e]
 have:=pick_run xs i k
 rw [List.filterMap_map] at this
 have e2:((fun x=>xs[x]?) ∘ fun x=>i + x)=fun m=>xs[i + m]?:=rfl
 rw [e2] at this
 rw [this]
theorem kW {t sl:Addr}{items:Array Value}{vl vu:Value}{lo hi:Option Int}{Q:Value->Shared->Prop} (ht:IsTup s.heap t items) (hs:s.heap.IsSliceOf sl vl vu .none) (pl:IsPart vl lo) (pu:IsPart vu hi)
  (hw:¬ (sIx items.size 0 lo=0/\sIx items.size items.size hi=items.size))
  (h:Q (.ref s.heap.objs.size) { s with heap:=s.heap.push { cls:=.type "tuple",data:=.seq ((items.toList.drop (sIx items.size 0 lo)).take (sIx items.size items.size hi - sIx items.size 0 lo)).toArray } })
  (hsz:items.size <= sizeLine):wpAny (model prog w) A (getItem (.ref t) (.ref sl)) Q E s:=by
 have htake:sizeOk (.seq ((items.toList.drop (sIx items.size 0 lo)).take (sIx items.size items.size hi - sIx items.size 0 lo)).toArray):=by
  show ((items.toList.drop (sIx items.size 0 lo)).take (sIx items.size items.size hi - sIx items.size 0 lo)).toArray.size <= sizeLine
  rw [List.size_toArray,List.length_take,List.length_drop,Array.length_toList]
  omega
 have hj:sIx items.size items.size hi <= items.size:=Bo _ _ (Nat.le_refl _) hi
 obtain ⟨os,hos,hcs,hds⟩:=id hs
 have hTs:s.TypeIs (.ref sl) "slice":=⟨os,hos,hcs⟩
 unfold getItem
 try with_reducible refine wpAny_holding ?_
 first | refine wpAny_bind (wpAny_pure ?_) | skip
 refine wpAny_bind (wpAny_sequenceKey ht.typeIs (by decide) ?_)
 refine wpAny_bind (wpAny_callSpecial?_slot (name:=Str.ofString "__getitem__") ht.typeIs PyProof.Rows.slot_tuple_getitem
  (wpAny_call_entry PyProof.Rows.slot_tuple_getitem ht.typeIs entry_tuple_getitem ?_ (args_tuple_getitem _ _)))
 show wpAny _ _ (Builtin.Tuple.tupleItemsOf (.ref t) >>= _) _ _ s
 refine wpAny_bind (tupleItemsOf_ ht ?_)
 refine wpAny_bind (wpAny_typeOf hTs ?_)
 rw [if_pos (by decide)]
 refine wpAny_bind (lE hs pl pu ?_)
 have hno:¬ ((((sIx items.size 0 lo:Nat):Int) == 0 && (1:Int) == 1 && (sIx items.size items.size hi - sIx items.size 0 lo) == items.size)=true):=by
  intro q
  rw [Bool.and_eq_true,Bool.and_eq_true] at q
  have q1:((sIx items.size 0 lo:Nat):Int)=0:=eq_of_beq q.1.1
  have q2:sIx items.size items.size hi - sIx items.size 0 lo=items.size:=eq_of_beq q.2
  exact hw ⟨by omega,by omega⟩
 show wpAny _ _ (if (((sIx items.size 0 lo:Nat):Int) == 0 && (1:Int) == 1 && (sIx items.size items.size hi - sIx items.size 0 lo) == items.size)=true then _ else _) _ _ s
 rw [if_neg hno,yg]
 first
  | exact wpAny_bind (m:=Builtin.Tuple.tupleExact _) (wpAny_newObj_type (wpAny_pure ⟨_,rfl,wpAny_pure h⟩) htake)
  | exact wpAny_bind (m:=Builtin.Tuple.tupleExact _) (wpAny_newObj_type (wpAny_bind (wpAny_pure (wpAny_pure ⟨_,rfl,wpAny_pure h⟩))) htake)
  | exact wpAny_bind (wpAny_bind (m:=Builtin.Tuple.tupleExact _) (wpAny_newObj_type (wpAny_pure (wpAny_pure ⟨_,rfl,wpAny_pure h⟩)) htake))
  | exact wpAny_bind (wpAny_bind (m:=Builtin.Tuple.tupleExact _) (wpAny_newObj_type (wpAny_pure ⟨_,rfl,wpAny_pure h⟩) htake))
end
end HT
namespace L2
open PySem PySem.Spec PyProof.Rows
abbrev TO:=St->Hp->(Option Int->Hp->Prop)->Prop
def PO (X:Cx) (e:Option Expr) (t:TO):Prop :=
 ∀(pins:List (Addr × Obj)) (s:Shared) (σ:St) (H:Hp) (Q:Option Int->Hp->Prop),Inv X pins σ H s->t σ H Q ->
  wpAny (model X.prog X.w) X.A (evalPart e X.env) (fun u s'=>∃o H',Inv X pins σ H' s'/\IsPart u o/\Q o H') X.xe s
def zu:TO:=fun _ H Q=>Q none H
def B0 (t:TE):TO:=fun σ H Q=>t σ H fun x H1=>∃i,x=.int i/\Q (some i) H1
theorem intsAre_of {ns:List Int}:∀{us:List Value},Vals (ns.map V.int) us->IntsAre us ns:=by
 induction ns with
 | nil=>intro us r;rw [List.map_nil] at r;cases r;exact .nil
 | cons n ns ih =>
  intro us r
  rw [List.map_cons] at r
  cases r with
  | cons r1 r2 =>
   obtain ⟨t,e⟩:=r1
   subst e
   exact .cons n t (ih r2)
section
variable {X:Cx}{e:Expr}{te:TE}{lo hi:Option Expr}{tl th:TO}{pos p2:Pos}
theorem uJ:PO X none zu:=by
 intro pins s σ H Q I h
 rw [evalPart_none]
 exact wpAny_pure ⟨none,H,I,.none,h⟩
theorem cK (h:PE X e te):PO X (some e) (B0 te):=by
 intro pins s σ H Q I hw
 rw [evalPart_some]
 refine thn (h pins s σ H _ I hw) fun u s1 ⟨x,H1,I1,r1,q1⟩=>?_
 obtain ⟨i,rfl,q⟩:=q1
 obtain ⟨t,rfl⟩:=r1
 exact ⟨some i,H1,I1,.int i t,q⟩
def SlR (X:Cx) (r:V->Option Int->Option Int->Hp->VK->Prop):Prop :=
 ∀(pins:List (Addr × Obj)) (s:Shared) (σ:St) (H:Hp) (x:V) (v vl vu:Value) (lo hi:Option Int) (sl:Addr) (Q:VK),Inv X pins σ H s->RelV x v->s.heap.IsSliceOf sl vl vu .none->IsPart vl lo->IsPart vu hi->r x lo hi H Q ->
  ∃T id,typeLookup (.type T) "__getitem__"=pure (some (.builtin id))/\s.TypeIs v T/\wpAny (model X.prog X.w) X.A (getItem v (.ref sl)) (EP X pins σ Q) X.xe s
theorem SlR.or {r r':V->Option Int->Option Int->Hp->VK->Prop} (h:SlR X r) (h':SlR X r'):SlR X (fun x lo hi H Q=>r x lo hi H Q \/ r' x lo hi H Q):=by
 intro pins s σ H x v vl vu lo hi sl Q I rx hs pl pu q
 rcases q with q | q
 ·exact h pins s σ H x v vl vu lo hi sl Q I rx hs pl pu q
 ·exact h' pins s σ H x v vl vu lo hi sl Q I rx hs pl pu q
def tSl (r:V->Option Int->Option Int->Hp->VK->Prop) (te:TE) (tl th:TO):TE:=fun σ H Q=>te σ H fun x H1=>tl σ H1 fun l H2=>th σ H2 fun u H3=>r x l u H3 Q
theorem eF {r:V->Option Int->Option Int->Hp->VK->Prop} (hr:SlR X r) (he:PE X e te) (hl:PO X lo tl) (hu:PO X hi th):PE X (.Subscript e (.Slice lo hi none p2) pos) (tSl r te tl th):=by
 intro pins s σ H Q I h
 refine Subscript_ (thn (he pins s σ H _ I h) fun v s1 ⟨x,H1,I1,r1,q1⟩=>?_)
 refine wpAny_Slice (thn (hl pins s1 σ H1 _ I1 q1) fun vl s2 ⟨l,H2,I2,pl,q2⟩=>thn (hu pins s2 σ H2 _ I2 q2) fun vu s3 ⟨u,H3,I3,pu,q3⟩=>?_)
 rw [evalPart_none]
 refine wpAny_pure ?_
 have I4:Inv X pins σ H3 { s3 with heap:=s3.heap.push { cls:=.type "slice",data:=.fields #[vl,vu,.none] } }:=I3.kept (t':=s3.toks) fun b ob q=>Heap.get?_push_of_some _ q
 obtain ⟨T,id,hT,ht,hg⟩:=hr pins { s3 with heap:=s3.heap.push { cls:=.type "slice",data:=.fields #[vl,vu,.none] } } σ H3 x v vl vu l u s3.heap.objs.size Q I4 r1 (Heap.IsSliceOf.new ..) pl pu q3
 show wpAny (model X.prog X.w) X.A (subscriptTail e (.Slice lo hi none p2) v (.ref s3.heap.objs.size)) (EP X pins σ Q) X.xe { s3 with heap:=s3.heap.push { cls:=.type "slice",data:=.fields #[vl,vu,.none] } }
 exact tail_any (ops:=[.ref s3.heap.objs.size,v]) ht hT hg (by with_unfolding_all rfl)
def iC (xs:List V) (lo hi:Option Int):List V:=(xs.drop (HT.sIx xs.length 0 lo)).take (HT.sIx xs.length xs.length hi - HT.sIx xs.length 0 lo)
theorem mr (xs:List V) (lo hi:Option Int):(iC xs lo hi).length <= xs.length:=by
 unfold iC
 rw [List.length_take,List.length_drop]
 omega
def Au (K:W.Frag):V->Option Int->Option Int->Hp->VK->Prop:=fun x lo hi H Q=>∃a xs,x=.ref a/\SqT K H a xs /\
 ¬ (HT.sIx xs.length 0 lo=0/\HT.sIx xs.length xs.length hi=xs.length)/\∀p,H p=none->Q (.ref p) (upd H p (.tup (iC xs lo hi)))
theorem AJ:SlR X (Au X.K):=by
 intro pins s σ H x v vl vu lo hi sl Q I rx hs pl pu h
 obtain ⟨a,xs,rfl,hx,hw,q⟩:=h
 cases rx
 obtain ⟨its,r,ht,hz⟩:=I.tuple hx
 have hlen:its.toArray.size=xs.length:=by rw [List.size_toArray];exact r.length.symm
 refine ⟨"tuple",_,PyProof.Rows.slot_tuple_getitem.lookup,ht.typeIs,?_⟩
 refine HT.kW ht hs pl pu (by rw [hlen];exact hw) ?_ (by rw [hlen];exact hz)
 rw [hlen]
 refine ⟨.ref s.heap.objs.size,_,I.laid (t':=s.toks) (o:=.tup (iC xs lo hi)) (fun b ob q=>Heap.get?_push_of_some _ q) (Nat.le_refl _) ?_,rfl,q _ (I.hok.fresh (Nat.le_refl _))⟩
 exact ⟨Nat.le_trans (mr xs lo hi) hz,_,(r.drop (HT.sIx xs.length 0 lo)).take (HT.sIx xs.length xs.length hi - HT.sIx xs.length 0 lo),IsTup.new _ _⟩
end
end L2
namespace L2
open PySem PySem.Spec PyProof.Rows
def ixN (n:Nat) (i:Int):Option Nat:=if 0 <= i then (if i < n then some i.toNat else none) else if -(n:Int) <= i then some (i + n).toNat else none
def atI {α:Type} (xs:List α) (i:Int):Option α:=(ixN xs.length i).bind fun j=>xs[j]?
theorem vA {n:Nat}{i:Int}{j:Nat} (h:ixN n i=some j):seqIndex? i n=some j/\j < n/\-(n:Int) <= i/\i < n:=by
 unfold ixN at h
 by_cases h0:0 <= i
 ·rw [if_pos h0] at h
  by_cases h1:i < n
  ·rw [if_pos h1] at h
   have e:i.toNat=j:=Option.some.inj h
   exact ⟨by rw [seqIndex_of h0 h1,e],by omega,by omega,h1⟩
  ·rw [if_neg h1] at h;cases h
 ·rw [if_neg h0] at h
  by_cases h1:-(n:Int) <= i
  ·rw [if_pos h1] at h
   have e:(i + n).toNat=j:=Option.some.inj h
   exact ⟨by rw [seqIndex_neg (by omega) h1,e],by omega,h1,by omega⟩
  ·rw [if_neg h1] at h;cases h
theorem qy {α:Type}{xs:List α}{i:Int}{v:α} (h:atI xs i=some v):∃j,seqIndex? i xs.length=some j/\xs[j]?=some v/\j < xs.length/\-(xs.length:Int) <= i/\i < xs.length:=by
 unfold atI at h
 cases e:ixN xs.length i with
 | none=>rw [e] at h;cases h
 | some j =>
  rw [e] at h
  obtain ⟨h1,h2,h3,h4⟩:=vA e
  exact ⟨j,h1,h,h2,h3,h4⟩
theorem j5 {α:Type}{xs:List α}{j:Nat}{v:α} (h:xs[j]?=some v):atI xs (j:Int)=some v:=by
 have hj:j < xs.length:=(List.getElem?_eq_some_iff.mp h).1
 have e:ixN xs.length (j:Int)=some j:=by
  unfold ixN
  rw [if_pos (by omega),if_pos (by omega)];simp
 unfold atI;rw [e];exact h
def vn (b:Expr):Prop:=∀o i,subscripted b false o i=operate [o,i] (getItem o i)
def IxR (X:Cx) (r:R2):Prop :=
 ∀(value slice:Expr) (pins:List (Addr × Obj)) (s:Shared) (σ:St) (H:Hp) (x y:V) (v u:Value) (Q:VK),Inv X pins σ H s->RelV x v->RelV y u->r x y H Q ->
  subscripted slice false v u=operate [v,u] (getItem v u)->wpAny (model X.prog X.w) X.A (subscriptTail value slice v u) (EP X pins σ Q) X.xe s
def MtR (X:Cx) (id:String) (r:V->List V->Hp->VK->Prop):Prop :=
 ∀(pins:List (Addr × Obj)) (s:Shared) (σ:St) (H:Hp) (x:V) (xs:List V) (v:Value) (us:List Value) (Q:VK),Inv X pins σ H s->RelV x v->Vals xs us->r x xs H Q ->
  wpAny (model X.prog X.w) X.A (call (.builtin id) (v :: us)) (EP X pins σ Q) X.xe s
section
variable {X:Cx}{a b:Expr}{ta tb:TE}{pos:Pos}
theorem BP {r:R2} (hr:IxR X r) (ha:PE X a ta) (hb:PE X b tb) (hs:vn b):PE X (.Subscript a b pos) (tOp r ta tb):=by
 intro pins s σ H Q I h
 exact Subscript_ (Am ha hb I h fun v u s2 x y H2 I2 rx ry q=>hr a b pins s2 σ H2 x y v u Q I2 rx ry q (hs _ _))
def C7 (K:W.Frag):R2:=fun x y H Q=>∃p xs i v,x=.ref p/\y=.int i/\SqL K H p xs/\atI xs i=some v/\Q v H
def Dp (K:W.Frag):R2:=fun x y H Q=>∃p xs i v,x=.ref p/\y=.int i/\SqT K H p xs/\atI xs i=some v/\Q v H
def Dt:R2:=fun x y H Q=>∃z i c,x=.str z/\y=.int i/\z.length <= sizeLine/\atI z.cps.toList i=some c/\Q (.str ⟨#[c]⟩) H
theorem yY:IxR X (C7 X.K):=by
 intro value slice pins s σ H x y v u Q I rx ry h hs
 obtain ⟨p,xs,i,z,rfl,rfl,hq,he,q⟩:=h
 cases rx
 obtain ⟨t,rfl⟩:=ry
 obtain ⟨its,r,pl,hz⟩:=I.list hq
 obtain ⟨j,h1,h2,h3,h4,h5⟩:=qy he
 obtain ⟨w,ew,rw'⟩:=r.get h2
 have hl:=r.length
 have hn:=lM
 have fin:EP X pins σ Q w s:=⟨z,H,I,rw',q⟩
 by_cases h0:0 <= i
 ·have hj:i.toNat=j:=by
   rw [seqIndex_of h0 h5] at h1
   exact Option.some.inj h1
  exact item_listR pl.isList h0 (by omega) (by rw [hj];simpa using ew) fin hs
 ·have hj:(i + (its.toArray.size:Int)).toNat=j:=by
   rw [seqIndex_neg (by omega) h4] at h1
   rw [List.size_toArray,<- hl]
   exact Option.some.inj h1
  exact subscriptTail_builtinR (x:=w) pl.isList.typeIs slot_list_getitem.lookup
   (wpAny_getItem_list_neg (Q:=fun r s'=>r=w/\EP X pins σ Q r s') pl.isList (by omega) (by rw [List.size_toArray] <;> omega) (by omega) (by rw [hj];simpa using ew) ⟨rfl,fin⟩) hs
theorem Bc:IxR X (Dp X.K):=by
 intro value slice pins s σ H x y v u Q I rx ry h hs
 obtain ⟨p,xs,i,z,rfl,rfl,hq,he,q⟩:=h
 cases rx
 obtain ⟨t,rfl⟩:=ry
 obtain ⟨its,r,pl,hz⟩:=I.tuple hq
 obtain ⟨j,h1,h2,h3,h4,h5⟩:=qy he
 obtain ⟨w,ew,rw'⟩:=r.get h2
 have hl:=r.length
 have hn:=lM
 have fin:EP X pins σ Q w s:=⟨z,H,I,rw',q⟩
 exact subscriptTail_builtinR (x:=w) pl.typeIs slot_tuple_getitem.lookup
  (getItem_tuple (j:=j) (Q:=fun r s'=>r=w/\EP X pins σ Q r s') pl (by omega) (by omega) (by rw [List.size_toArray,<- hl];exact h1) (by simpa using ew) ⟨rfl,fin⟩) hs
theorem Bw:IxR X Dt:=by
 intro value slice pins s σ H x y v u Q I rx ry h hs
 obtain ⟨z,i,c,rfl,rfl,hz,he,q⟩:=h
 obtain ⟨t,rfl⟩:=rx
 obtain ⟨t',rfl⟩:=ry
 obtain ⟨j,h1,h2,h3,h4,h5⟩:=qy he
 have hl:z.cps.toList.length=z.length:=by simp [Str.length]
 rw [hl] at h1 h4 h5
 have hn:=lM
 exact tail_any (typeIs_str s z t) slot_str_getitem.lookup (getItem_str (c:=c) (by
  have e1:decide (i < -(2 ^ 63:Int))=false:=decide_eq_false (by omega)
  have e2:decide (i ≥ 2 ^ 63)=false:=decide_eq_false (by omega)
  rw [e1,e2,Bool.or_false]) (by rw [h1];simpa using h2) ⟨.str ⟨#[c]⟩,H,I.tok _,⟨_,rfl⟩,q⟩) hs
theorem tP (its:List Value) (n j:Nat) (u:Value):Obj.mapSeq (·.setIfInBounds j u) { cls:=.type "list",data:=.seq its.toArray n }={ cls:=.type "list",data:=.seq (its.set j u).toArray n }:=by
 simp [Obj.mapSeq]
theorem Inv.lst {pins:List (Addr × Obj)}{σ:St}{H:Hp}{s:Shared}{p:Addr}{xs:List V} (I:Inv X pins σ H s) (h:H p=some (.lst xs)) :
  ∃(its:List Value) (n:Nat),Vals xs its/\s.heap.get? p=some { cls:=.type "list",data:=.seq its.toArray n }/\xs.length <= sizeLine:=by
 obtain ⟨z,its,n,r,e⟩:=I.hok p _ h
 exact ⟨its,n,r,e,z⟩
theorem Inv.A7 {pins:List (Addr × Obj)}{σ:St}{H:Hp}{s:Shared}{p:Addr}{xs ys:List V}{its its':List Value}{n n':Nat}{f:Obj->Obj} (I:Inv X pins σ H s) (h:H p=some (.lst xs))
  (ho:s.heap.get? p=some { cls:=.type "list",data:=.seq its.toArray n }) (hf:f { cls:=.type "list",data:=.seq its.toArray n }={ cls:=.type "list",data:=.seq its'.toArray n' }) (r:Vals ys its') (hz:ys.length <= sizeLine) (t:Nat) :
  Inv X pins σ (upd H p (.lst ys)) { s with heap:=s.heap.update p f,toks:=t }:=by
 have e:(s.heap.update p f).get? p=some { cls:=.type "list",data:=.seq its'.toArray n' }:=by
  rw [Heap.get?_update_self f ho (by rw [hf] <;> rfl),hf]
 refine I.write (x:=p) (e:=p) (by rw [h];trivial) (.inl rfl) (fun b u hb q=>(Heap.get?_update_other _ _ (Ne.symm hb)).trans q) ⟨_,e⟩ ?_
 exact ⟨hz,its',n',r,e⟩
def Aj:V->V->V->Hp->(Hp->Prop)->Prop:=fun o i v H Q=>∃p xs k j,o=.ref p/\i=.int k/\H p=some (.lst xs)/\ixN xs.length k=some j/\Q (upd H p (.lst (xs.set j v)))
theorem set_list:xr X Aj:=by
 intro pins s σ H o i v ov iv u Q I ro ri rv h
 obtain ⟨p,xs,k,j,rfl,rfl,hp,hj,q⟩:=h
 cases ro
 obtain ⟨t,rfl⟩:=ri
 obtain ⟨its,n,r,ho,hz⟩:=I.lst hp
 obtain ⟨h1,h2,h3,h4⟩:=vA hj
 have hl:=r.length
 have hn:=lM
 have I':Inv X pins σ (upd H p (.lst (xs.set j v))) { s with heap:=s.heap.update p (Obj.mapSeq (·.setIfInBounds j u)) } :=
  I.A7 hp ho (tP its n j u) (r.set rv j) (by rw [List.length_set];exact hz) s.toks
 by_cases h0:0 <= k
 ·have hk:k.toNat=j:=by
   rw [seqIndex_of h0 h4] at h1
   exact Option.some.inj h1
  exact W.ki_setAt ho h0 (by omega) (by rw [List.size_toArray,<- hl];exact h4) (by rw [hk];exact ⟨_,I',q⟩)
 ·have hk:(k + (its.toArray.size:Int)).toNat=j:=by
   rw [seqIndex_neg (by omega) h3] at h1
   rw [List.size_toArray,<- hl]
   exact Option.some.inj h1
  exact W.ki_setBack ho (by omega) (by rw [List.size_toArray,<- hl];exact h3) (by omega) (by rw [hk];exact ⟨_,I',q⟩)
theorem qC (lo hi:Option Int) (n:Nat):(sliceBounds lo hi none n).1=((HT.sIx n 0 lo:Nat):Int)/\(sliceBounds lo hi none n).2.1=((HT.sIx n n hi:Nat):Int)/\(sliceBounds lo hi none n).2.2=1:=by
 refine ⟨?_,?_,rfl⟩
 ·cases lo with
  | none=>simp [sliceBounds,HT.sIx]
  | some i =>
   simp only [sliceBounds,HT.sIx,Option.getD_none,show (1:Int) > 0 by decide,if_true]
   by_cases h:i < 0
   ·simp only [h,if_true] <;> omega
   ·simp only [h,if_false] <;> omega
 ·cases hi with
  | none=>simp [sliceBounds,HT.sIx]
  | some i =>
   simp only [sliceBounds,HT.sIx,Option.getD_none,show (1:Int) > 0 by decide,if_true]
   by_cases h:i < 0
   ·simp only [h,if_true] <;> omega
   ·simp only [h,if_false] <;> omega
theorem pw (its:List Value) (lo hi:Option Int):slicePick its.toArray lo hi none=((its.drop (HT.sIx its.length 0 lo)).take (HT.sIx its.length its.length hi - HT.sIx its.length 0 lo)).toArray:=by
 obtain ⟨h1,h2,h3⟩:=qC lo hi its.toArray.size
 unfold slicePick
 rw [h1,h2,h3]
 simp only [sliceRange_one,pick_run,List.size_toArray] <;> rfl
def AA (K:W.Frag):V->Option Int->Option Int->Hp->VK->Prop:=fun x lo hi H Q=>∃a xs,x=.ref a/\SqL K H a xs/\∀p,H p=none->Q (.ref p) (upd H p (.lst (iC xs lo hi)))
theorem yM:SlR X (AA X.K):=by
 intro pins s σ H x v vl vu lo hi sl Q I rx hs pl pu h
 obtain ⟨a,xs,rfl,hx,q⟩:=h
 cases rx
 obtain ⟨its,r,ht,hz⟩:=I.list hx
 have hlen:=r.length
 refine ⟨"list",_,slot_list_getitem.lookup,ht.isList.typeIs,?_⟩
 refine wpAny_getItem_list_slice ht.isList hs pl pu .none (by simp) ?_ (by rw [List.size_toArray] <;> omega)
 rw [pw,<- hlen]
 refine ⟨.ref s.heap.objs.size,_,I.laid (t':=s.toks) (o:=.lst (iC xs lo hi)) (fun b ob q=>Heap.get?_push_of_some _ q) (Nat.le_refl _) ?_,rfl,q _ (I.hok.fresh (Nat.le_refl _))⟩
 exact ⟨Nat.le_trans (mr xs lo hi) hz,_,0,(r.drop (HT.sIx xs.length 0 lo)).take (HT.sIx xs.length xs.length hi - HT.sIx xs.length 0 lo),Heap.get?_push_size _ rfl⟩
theorem eo.or {f:Value}{r r':List V->Hp->VK->Prop} (h:eo X f r) (h':eo X f r'):eo X f (fun xs H Q=>r xs H Q \/ r' xs H Q):=by
 intro pins s σ H xs us Q I rs q
 rcases q with q | q
 ·exact h pins s σ H xs us Q I rs q
 ·exact h' pins s σ H xs us Q I rs q
theorem qU:eo X (.type "list") (fun xs H Q=>∃p ys,xs=[.ref p]/\(SqL X.K H p ys \/ SqT X.K H p ys)/\∀l,H l=none->Q (.ref l) (upd H l (.lst ys))):=by
 intro pins s σ H xs us Q I r h
 obtain ⟨p,ys,rfl,hq,q⟩:=h
 obtain ⟨u,rfl,rx⟩:=vals1 r
 cases rx
 have fin:∀(its:List Value),Vals ys its->ys.length <= sizeLine->∀(h':Heap) (c':Nat),(∀b o',s.heap.get? b=some o'->h'.get? b=some o') ->
   h'.get? s.heap.objs.size=some { cls:=.type "list",dict:=none,data:=.seq its.toArray c',slots:=#[] }->EP X pins σ Q (.ref s.heap.objs.size) { s with heap:=h' }:=fun its r' hz h' c' kp e =>
  ⟨.ref s.heap.objs.size,_,I.laid (t':=s.toks) kp (Nat.le_refl _) (show dg X.prog X.w _ h' _ (.lst ys) from ⟨hz,its,c',r',e⟩),rfl,q _ (I.hok.fresh (Nat.le_refl _))⟩
 rcases hq with hq | hq
 ·obtain ⟨its,r',pl,hz⟩:=I.list hq
  have hlen:=r'.length
  obtain ⟨o,ho,hc,n,hd⟩:=pl.isList
  exact call_list_seq p (.inl rfl) ho hc hd (fun h' c' kp e=>fin its r' hz h' c' kp e) (by simp only [List.size_toArray] <;> omega)
 ·obtain ⟨its,r',pl,hz⟩:=I.tuple hq
  have hlen:=r'.length
  obtain ⟨o,ho,hc,n,hd⟩:=pl
  exact call_list_seq p (.inr rfl) ho hc hd (fun h' c' kp e=>fin its r' hz h' c' kp e) (by simp only [List.size_toArray] <;> omega)
def tyV (K:W.Frag) (T:String) (x:V) (H:Hp):Prop:=match x with
 | .str _=>T="str"
 | .int _=>T="int"
 | .ref p=>(T="list"/\∃xs,SqL K H p xs) \/ (T="tuple"/\∃o,K.lookup p=some o/\o.cls=.type "tuple"/\o.dict=none) \/
   (T="dict"/\((∃kvs,H p=some (.dK kvs)) \/ ∃kvs,H p=some (.dT kvs))) \/ (T="set"/\∃S n,H p=some (.set S n))
 | _=>False
theorem wW {pins:List (Addr × Obj)}{σ:St}{H:Hp}{s:Shared}{T:String}{x:V}{v:Value} (I:Inv X pins σ H s) (r:RelV x v) (ty:tyV X.K T x H) :
  s.TypeIs v T/\∀a,v=.ref a->∃ob,s.heap.get? a=some ob/\ob.dict=none:=by
 cases x with
 | str z =>
  obtain ⟨t,rfl⟩:=r
  cases (show T="str" from ty)
  exact ⟨typeIs_str s z t,fun _ e=>nomatch e⟩
 | int i =>
  obtain ⟨t,rfl⟩:=r
  cases (show T="int" from ty)
  exact ⟨typeIs_int s i t,fun _ e=>nomatch e⟩
 | ref p =>
  cases r
  rcases ty with ⟨rfl,xs,hq⟩ | ⟨rfl,o,hk,hc,hd⟩ | ⟨rfl,hk⟩ | ⟨rfl,S,n,hk⟩
  ·obtain ⟨its,_,pl,_⟩:=I.list hq
   refine ⟨pl.isList.typeIs,fun a e=>?_⟩
   cases e
   obtain ⟨o,n,e,c,hd,_⟩:=pl
   exact ⟨o,e,hd⟩
  ·refine ⟨⟨o,I.kIn p o hk,hc⟩,fun a e=>?_⟩
   cases e
   exact ⟨o,I.kIn _ o hk,hd⟩
  ·have z:∃o,s.heap.get? p=some o/\o.ExactDict:=by
    rcases hk with ⟨kvs,hk⟩ | ⟨kvs,hk⟩
    ·obtain ⟨_,_,_,_,o,_,_,e,ex,_⟩:=I.hok p _ hk
     exact ⟨o,e,ex⟩
    ·obtain ⟨_,_,_,_,o,_,_,e,ex,_⟩:=I.hok p _ hk
     exact ⟨o,e,ex⟩
   obtain ⟨o,e,ex⟩:=z
   refine ⟨⟨o,e,ex.1⟩,fun a e2=>?_⟩
   cases e2
   exact ⟨o,e,ex.2.1⟩
  ·obtain ⟨o,_,_,_,e,ex,_⟩:=I.hok p _ hk
   refine ⟨⟨o,e,ex.1⟩,fun a e2=>?_⟩
   cases e2
   exact ⟨o,e,ex.2.1⟩
 | _=>exact False.elim ty
def Cb (K:W.Frag) (T:String) (r:V->List V->Hp->VK->Prop) (to:TE):TE:=fun σ H Q=>to σ H fun x H1=>tyV K T x H1/\r x [] H1 Q
def tBM (K:W.Frag) (T:String) (r:V->List V->Hp->VK->Prop) (to:TE) (t:TA):TE:=fun σ H Q=>to σ H fun x H1=>tyV K T x H1/\t σ H1 fun xs H2=>r x xs H2 Q
variable {o e:Expr}{es:List Expr}{to:TE}{t:TA}{name:Str}{apos cpos:Pos}{T id:String}{r:V->List V->Hp->VK->Prop}
theorem AE (pa:PlainAttrs T) (slot:Slot T name id) (hty:typeOf (.builtin id)=pure (.type "method_descriptor")) (hm:MtR X id r) (ho:PE X o to)
  (hbase:attributeBase o name X.env (eval o X.env)=eval o X.env:=by rfl) (hline:(apos.endLine == cpos.line)=true:=by rfl):PE X (.Call (.Attribute o name apos) [] [] cpos) (Cb X.K T r to):=by
 intro pins s σ H Q I h
 refine wpAny_Call_method0_late hbase hline (thn (ho pins s σ H _ I h) fun v s1 ⟨x,H1,I1,r1,ty,q1⟩=>?_)
 obtain ⟨h1,h2⟩:=wW I1 r1 ty
 exact ⟨T,id,pa,slot,hty,h1,h2,Calls.callWith_builtin rfl (PySem.evalArgs_none (hm pins s1 σ H1 x [] v [] Q I1 r1 .nil q1))⟩
theorem Ac (pa:PlainAttrs T) (slot:Slot T name id) (hty:typeOf (.builtin id)=pure (.type "method_descriptor")) (hm:MtR X id r) (ho:PE X o to) (ha:PA X (e :: es) t)
  (hbase:attributeBase o name X.env (eval o X.env)=eval o X.env:=by rfl)
  (hfew:((backTo cpos (starEach (e :: es) X.env)).all (fun x=>!x.1) && (backToKw cpos (keywordEach [] X.env)).all (fun x=>x.1.isSome)
   && decide ((e :: es).length + ([]:List Keyword).length + (if ([]:List Keyword).isEmpty then 0 else 1) < 30))=true:=by rfl)
  (hline:(apos.endLine == cpos.line)=true:=by rfl) (hs:starEach (e :: es) X.env=(false,eval e X.env) :: starEach es X.env:=by rfl) (hplain:(backTo cpos (starEach es X.env)).any (·.1)=false:=by rfl) :
  PE X (.Call (.Attribute o name apos) (e :: es) [] cpos) (tBM X.K T r to t):=by
 intro pins s σ H Q I h
 refine wpAny_Call_method_late hbase hfew hline rfl (thn (ho pins s σ H _ I h) fun v s1 ⟨x,H1,I1,r1,ty,q1⟩=>?_)
 obtain ⟨h1,h2⟩:=wW I1 r1 ty
 refine ⟨T,id,pa,slot,hty,h1,h2,?_⟩
 have hA:=ha cpos pins s1 σ H1 _ I1 q1
 rw [hs] at hA ⊢
 refine Calls.callWith_builtin (by show (false || (backTo cpos (starEach es X.env)).any (·.1))=false;rw [hplain] <;> rfl) (Calls.evalArgs_plain ?_)
 exact thn hA fun us s2 ⟨vs,H2,I2,r2,q2⟩=>hm pins s2 σ H2 x vs v us Q I2 r1 r2 q2
end
end L2
namespace L2
open PySem PySem.Spec PyProof.Rows
def MtM (X:Cx) (id:String) (r:V->List V->Hp->VK->Prop):Prop :=
 ∀(pins:List (Addr × Obj)) (s:Shared) (σ:St) (H:Hp) (x:V) (xs:List V) (v:Value) (us:List Value) (Q:VK),Inv X pins σ H s->RelV x v->Vals xs us->r x xs H Q ->
  wpAny (model X.prog X.w) X.A (call (.builtin id) (v :: us)) (EP X pins σ Q) X.xe s
theorem Vals.one:∀{x:V}{us:List Value},Vals [x] us->∃u,us=[u]/\RelV x u
 | _,_,.cons r .nil=>⟨_,rfl,r⟩
theorem Vals.zero:∀{us:List Value},Vals [] us->us=[]
 | _,.nil=>rfl
theorem Vals.dropLast {xs:List V}{us:List Value} (h:Vals xs us):Vals xs.dropLast us.dropLast:=by
 induction h with
 | nil=>exact .nil
 | cons r t ih =>
  cases t with
  | nil=>exact .nil
  | cons q t'=>exact .cons r ih
theorem Vals.rep {xs:List V}{us:List Value} (h:Vals xs us):∀k:Nat,Vals (List.replicate k xs).flatten (List.replicate k us).flatten
 | 0=>.nil
 | k + 1=>by
  rw [List.replicate_succ,List.replicate_succ,List.flatten_cons,List.flatten_cons]
  exact Vals.append h (Vals.rep h k)
theorem tG {α:Type} (l:List α):l.eraseIdx (l.length - 1)=l.dropLast:=by
 induction l with
 | nil=>rfl
 | cons a r ih =>
  cases r with
  | nil=>rfl
  | cons b r =>
   have e:(a :: b :: r).length - 1=((b :: r).length - 1) + 1:=by
    have h1:(a :: b :: r).length=r.length + 2:=rfl
    have h2:(b :: r).length=r.length + 1:=rfl
    omega
   rw [e,List.eraseIdx_cons_succ,ih]
   all_goals rfl
theorem foldl_rep (its:List Value):∀(k:Nat) (acc:List Value),
  List.foldl (fun x1 x2=>x1 ++ x2) acc.toArray (List.replicate k its.toArray)=(acc ++ (List.replicate k its).flatten).toArray
 | 0,acc=>by simp
 | k + 1,acc=>by
  have e:acc.toArray ++ its.toArray=(acc ++ its).toArray:=by simp
  have e2:(acc ++ its) ++ (List.replicate k its).flatten=acc ++ (List.replicate (k + 1) its).flatten:=by
   rw [List.replicate_succ,List.flatten_cons,List.append_assoc]
  rw [<- e2,<- foldl_rep its k (acc ++ its),<- e,List.replicate_succ,List.foldl_cons]
section
variable {X:Cx}{pins:List (Addr × Obj)}{σ:St}{H:Hp}{s:Shared}{l b:Addr}{xs ys zs:List V}
theorem Inv.Cp {its its':List Value}{n:Nat}{f:Array Value->Array Value}{t':Nat} (I:Inv X pins σ H s) (hH:H l=some (.lst xs))
  (e:s.heap.get? l=some { cls:=.type "list",data:=.seq its.toArray n }) (hf:f its.toArray=its'.toArray) (hv:Vals ys its') (hz:ys.length <= sizeLine) :
  Inv X pins σ (upd H l (.lst ys)) { s with heap:=s.heap.update l (Obj.mapSeq f),toks:=t' }:=by
 have q:=PySem.IsL.update e f
 rw [hf] at q
 refine I.write (x:=l) (e:=l) (by rw [hH];exact trivial) (.inl rfl) (fun b' u hb hu=>(Heap.get?_update_other s.heap (Obj.mapSeq f) (Ne.symm hb)).trans hu) ⟨_,q⟩ ?_
 exact ⟨hz,its',_,hv,q⟩
theorem Inv.A5 {its:List Value}{t':Nat} (I:Inv X pins σ H s) (hv:Vals ys its) (hz:ys.length <= sizeLine) :
  Inv X pins σ (upd H s.heap.objs.size (.lst ys)) { s with heap:=s.heap.push { cls:=.type "list",data:=.seq its.toArray },toks:=t' } :=
 I.laid (fun _ _ q=>Heap.get?_push_of_some _ q) (Nat.le_refl _) ⟨hz,its,0,hv,Heap.get?_push_size _ rfl⟩
theorem Inv.fresh (I:Inv X pins σ H s):H s.heap.objs.size=none:=I.hok.fresh (Nat.le_refl _)
theorem Inv.wR (I:Inv X pins σ H s) (hH:H l=some (.lst xs)):xs.length <= sizeLine/\∃(its:List Value) (n:Nat),Vals xs its/\xs.length=its.length/\s.heap.get? l=some { cls:=.type "list",data:=.seq its.toArray n }:=by
 obtain ⟨z,its,n,r,e⟩:=I.hok l _ hH
 exact ⟨z,its,n,r,r.length,e⟩
theorem yn {n:Nat} (h:n <= sizeLine):Builtin.List.listTooLong n=false:=by
 unfold Builtin.List.listTooLong
 exact decide_eq_false (by omega)
end
section
variable {X:Cx}
def u4:V->List V->Hp->VK->Prop:=fun x vs H Q=>∃l xs y,x=.ref l/\vs=[y]/\H l=some (.lst xs)/\xs.length < sizeLine/\Q .non (upd H l (.lst (xs ++ [y])))
theorem pI:MtM X "list.append" u4:=by
 intro pins s σ H x vs v us Q I rx rv h
 obtain ⟨l,xs,y,rfl,rfl,hH,hz,q⟩:=h
 cases rx
 obtain ⟨u,rfl,ru⟩:=rv.one
 obtain ⟨z,its,n,r,hl,e⟩:=I.wR hH
 refine call_meets F.slot_list_append ⟨_,e,rfl⟩ F.entry_list_append (F.args_list_append_2 _ _) (PySem.list_append l its.toArray n u (by rw [List.size_toArray];omega)) ⟨e,?_⟩
 refine ⟨.non,_,I.Cp (its':=its ++ [u]) hH e (by simp) (r.append (.cons ru .nil)) ?_,rfl,q⟩
 rw [List.length_append,List.length_singleton]
 omega
def CK:V->List V->Hp->VK->Prop:=fun x vs H Q=>∃l xs y,x=.ref l/\vs=[]/\H l=some (.lst xs)/\xs[xs.length - 1]?=some y/\Q y (upd H l (.lst xs.dropLast))
theorem BD:MtM X "list.pop" CK:=by
 intro pins s σ H x vs v us Q I rx rv h
 obtain ⟨l,xs,y,rfl,rfl,hH,hy,q⟩:=h
 cases rx
 have hus:=rv.zero
 subst hus
 obtain ⟨z,its,n,r,hl,e⟩:=I.wR hH
 obtain ⟨u,hu,ru⟩:=r.get hy
 have hy':its.toArray[its.toArray.size - 1]?=some u:=by
  show its.toArray[its.length - 1]?=some u
  rw [<- Array.getElem?_toList,<- hl]
  exact hu
 refine call_meets F.slot_list_pop ⟨_,e,rfl⟩ F.entry_list_pop (F.args_list_pop_1 _) (MeetsSeq.list_pop_last l its.toArray n u hy' (by rw [List.size_toArray];omega)) ⟨e,?_⟩
 refine ⟨y,_,I.Cp (its':=its.dropLast) hH e ?_ r.dropLast ?_,ru,q⟩
 ·show its.toArray.eraseIdxIfInBounds (its.toArray.size - 1)=its.dropLast.toArray
  rw [List.size_toArray,List.eraseIdxIfInBounds_toArray,tG]
 ·rw [List.length_dropLast]
  omega
def Cy:R2:=fun x y H Q=>∃l b xs zs,x=.ref l/\y=.ref b/\H l=some (.lst xs)/\H b=some (.lst zs)/\xs.length + zs.length <= sizeLine/\∀p,H p=none->Q (.ref p) (upd H p (.lst (xs ++ zs)))
theorem BC:OpR X (binaryOp .Add) Cy:=by
 intro pins s σ H x y v u Q I rx ry h
 obtain ⟨l,b,xs,zs,rfl,rfl,hH,hB,hz,q⟩:=h
 cases rx
 cases ry
 obtain ⟨z,its,n,r,hl,e⟩:=I.wR hH
 obtain ⟨z2,its2,n2,r2,hl2,e2⟩:=I.wR hB
 refine PySem.P.add_list e e2 ?_ (by rw [List.size_toArray,List.size_toArray];omega)
 have ea:its.toArray ++ its2.toArray=(its ++ its2).toArray:=by simp
 rw [ea]
 exact ⟨.ref _,_,I.A5 (t':=s.toks) (r.append r2) (by rw [List.length_append];omega),rfl,q _ I.fresh⟩
def C6:R2:=fun x y H Q=>∃l k xs,x=.ref l/\y=.int k/\H l=some (.lst xs)/\-(2 ^ 63) <= k/\k < 2 ^ 63/\xs.length * k.toNat <= sizeLine /\
 ∀p,H p=none->Q (.ref p) (upd H p (.lst (List.replicate k.toNat xs).flatten))
theorem len_rep {α:Type} (xs:List α) (k:Nat):(List.replicate k xs).flatten.length=k * xs.length:=by
 induction k with
 | zero=>simp
 | succ k ih=>rw [List.replicate_succ,List.flatten_cons,List.length_append,ih,Nat.succ_mul,Nat.add_comm]
theorem Bz:OpR X (binaryOp .Mult) C6:=by
 intro pins s σ H x y v u Q I rx ry h
 obtain ⟨l,k,xs,rfl,rfl,hH,h1,h2,hz,q⟩:=h
 cases rx
 obtain ⟨t,rfl⟩:=ry
 obtain ⟨z,its,n,r,hl,e⟩:=I.wR hH
 have hlen:its.toArray.size * k.toNat <= sizeLine:=by rw [List.size_toArray,<- hl];exact hz
 have hcap:¬ its.toArray.size * k.toNat > (2 ^ 63 - 1) / 8:=by
  have:(sizeLine:Nat) <= (2 ^ 63 - 1) / 8:=by decide
  omega
 have hfit:¬ (!Builtin.List.listFitsIndex k)=true:=by
  rw [fitsIndex_both h1 h2]
  exact Bool.false_ne_true
 have hlong:¬ Builtin.List.listTooLong (its.toArray.size * k.toNat)=true:=by
  rw [yn hlen]
  exact Bool.false_ne_true
 have hnew:List.foldl (fun x1 x2=>x1 ++ x2) #[] (List.replicate (if its.toArray.isEmpty=true then 0 else k.toNat) its.toArray)=(List.replicate k.toNat its).flatten.toArray:=by
  have f0:∀m:Nat,List.foldl (fun x1 x2=>x1 ++ x2) #[] (List.replicate m its.toArray)=(List.replicate m its).flatten.toArray:=fun m=>by
   have:=foldl_rep its m []
   rw [List.nil_append] at this
   exact this
  rw [f0]
  cases its with
  | nil=>simp
  | cons a r'=>rw [if_neg (by simp)]
 refine wpAny_binaryOp_repeat_ref (T:="list") (U:="int") (by decide) ⟨_,e,rfl⟩ (fun s'=>typeIs_int s' k t) noFill_list_mul F.fills_int_mul F.slot_int_rmul repeat_list F.slot_int_index.lookup
  (call_meets F.slot_int_rmul (typeIs_int s k t) F.entry_int_rmul (F.args_int_rmul_2 _ _) (int___rmul___int_list k t l its.toArray n)
   ⟨e,rfl,⟨_,e,rfl⟩,call_meets F.slot_list_mul ⟨_,e,rfl⟩ F.entry_list_mul (F.args_list_mul_2 _ _) (AutoListH.list___mul___list_int_3 l its.toArray n k t hfit hcap hlong) ⟨e,?_⟩⟩)
 rw [hnew]
 exact ⟨.ref _,_,I.A5 (t':=s.toks) (r.rep k.toNat) (by rw [len_rep,Nat.mul_comm];exact hz),rfl,q _ I.fresh⟩
end
section
variable {prog:Program}{w:World}{A:Around}{E:Value->Shared->Prop}{s:Shared}
end
section
variable {X:Cx}
end
end L2
namespace Att
open PySem PySem.W PySem.Calls PyProof.Rows
theorem mS {P:Params}{h:Heap}:∀(ns:List Int) (vs:List Value),WellAll P h vs (ns.map WData.int)->IntsAre vs ns:=by
 intro ns
 induction ns with
 | nil =>
  intro vs w
  rw [List.map_nil] at w
  cases w
  exact .nil
 | cons n ns ih =>
  intro vs w
  rw [List.map_cons] at w
  cases w with
  | cons a b =>
   cases a
   exact .cons _ _ (ih _ b)
theorem vL {l:OpenLaw}{n:Nat} (hn:l.most=some n) {P:Params}{h:Heap}{args:List WData}{vals:List Value}
  (hpre:l.row.toRowW.claim.pre args=true) (hwl:WellAll P h vals args) :
  ∃a vs ns,vals=[Value.ref a]/\args=[WData.list (ns.map WData.int)]/\h.get? a=some { cls:=.type "list",data:=.seq vs.toArray }/\IntsAre vs ns/\ns.length <= n:=by
 have hsh:WShape.hasAll [] args [.list .int]=true:=(pre_splitW hpre).1
 have hc:l.pre.holds [] { args:=args }=true:=(pre_splitW hpre).2
 obtain ⟨d,r,rfl,h1,h2⟩:=hasAllW_cons hsh
 obtain rfl:=hasAllW_nil h2
 obtain ⟨xs,rfl,h3⟩:=hasW_list h1
 obtain ⟨ns,rfl⟩:=items_int h3
 have hlen:ns.length <= n:=by
  unfold OpenLaw.pre at hc
  have h4:(WTm.not (.lt (.lit (.int (n:Int))) (.len (.arg 0)))).holds [] { args:=[.list (ns.map .int)] }=true:=by
   have h4:=(holds_andW hc).1
   rw [hn] at h4
   exact h4
  have h5:=condW_of h4 (w_not (w_lt w_lit (w_len_list (w_arg rfl))))
  rw [List.length_map] at h5
  refine Nat.le_of_not_lt fun q=>?_
  have q':(n:Int) < ((ns.length:Nat):Int):=by omega
  first
   | (rw [decide_eq_true q'] at h5;exact absurd h5 (by decide))
   | (simp at h5;omega)
 cases hwl with
 | cons w1 w2 =>
  cases w2
  cases w1 with
  | list ho hall=>exact ⟨_,_,ns,rfl,rfl,ho,mS ns _ hall,hlen⟩
theorem wK (l:OpenLaw) (args:List WData):l.row.toRowW.claim.post args (.bool true) args=true :=
 postW_of (r:=l.row.toRowW) (X:=(true == true))
  (show WShape.has [] (.bool true) .bool=true by first | rfl | decide | simp [WShape.has,WShape.arms,WShape.armsAll])
  (show (WTm.eq .res (.lit (.bool true))).value [] { args:=args,res:=some (.bool true),after:=args }=some (.bool (true == true)) from w_eq_bool (w_res rfl) w_lit) rfl
theorem rX {l:OpenLaw}{n:Nat}{q:Program}{loose:List Str}{XP:(Str->Option Value)->Heap->Prop}{YP:World->Heap->Prop}{d:DefRec}
  (hn:l.most=some n) (hdf:d.params.defaults=[])
  (call:∀(w:World) (s₀ s₁:Shared) (mg mb:Str->Option Value) (fa:Addr) (o:Obj) (pm cd doc:Value) (a:Addr) (vs:List Value) (ns:List Int),
   Ground q loose [] XP w s₀ mg mb s₁.heap->YP w s₁.heap ->
   s₁.heap.get? fa=some o->o.data=.func (docDef d.name d.params d.body d.scope pm cd doc)->s₁.heap.CodeRec cd d.name->mg d.name=some (.ref fa) ->
   s₁.heap.get? a=some { cls:=.type "list",data:=.seq vs.toArray }->IntsAre vs ns->ns.length <= n->s₁.gens=#[] ->
   codeAny (model l.prog w) callerA (.call (.ref fa) ⟨[.ref a],[]⟩) (fun r s'=>r=.ok (.ret (.bool true))/\OldK s₁.heap s'.heap/\s'.os=s₁.os/\AllBare s'.gens) s₁) :
  WalkO q loose XP YP l.row.toRowW d [] (fun f vs=>PySem.call f vs):=by
 intro w s₀ s₁ mg mb G Y fa o pm cd doc dV kV ho hd hcd hD hmg hg args vals as hpre hlay hrd hwl hlo
 obtain rfl:dV=.none:=Dflts.none hD hdf
 obtain rfl:kV=.none:=Dflts.noKw hD
 obtain ⟨a,vs,ns,rfl,rfl,hobj,hints,hlen⟩:=vL hn hpre hwl
 refine enter_call (codeAny_mono (call w s₀ s₁ mg mb fa o pm cd doc a vs ns G Y ho (fd_plain hd) hcd hmg hobj hints hlen hg) fun r s' hq=>?_)
 obtain ⟨rfl,h2,h3,h4⟩:=hq
 exact ⟨.inl ⟨.bool true,.bool true,[],rfl,fun _=>rfl,.bool true,wK l _,fun _=>⟨List.Pairwise.nil,fun _ hm=>(nomatch hm)⟩⟩,h2,h3,h4⟩
section
variable {prog:Program}{w:World}{A:Around}{E:Value->Shared->Prop}{s:Shared}{K:Frag}
end
end Att
namespace L2
open PySem PySem.Spec PyProof.Rows
theorem pX:∀{vs:List Value}{ns:List Int},IntsAre vs ns->Vals (ns.map V.int) vs
 | _,_,.nil=>.nil
 | _,_,.cons n t h=>.cons ⟨t,rfl⟩ (pX h)
def BH (H:Hp):Prop:=∀b,H b=none \/ ∃o xs,H b=some (.frz o (.lst xs))
theorem xI {P:Program}{w:World}{K:W.Frag}{mg mb:Str->Option Value}{CX:CXT}{k:Nat}{fa a:Addr}{fd:FuncData}{x:Str}{sp:Sp}{s₁:Shared}{vs:List Value}{ns:List Int}
  (KX:K.In s₁.heap) (hns:s₁.heap.Ns mainGlobals mg) (hb:s₁.heap.Ns builtinsNs mb) (hbb:∀x:Str,x ≠ "__name__"->mb x=bootBuiltins x) (hlim:s₁.heap.NoLimit) (hg:s₁.gens=#[])
  (ha:s₁.heap.get? a=some { cls:=.type "list",data:=.seq vs.toArray }) (hi:IntsAre vs ns) (hl:ns.length <= sizeLine) (hr:eP k callerA)
  (F:∀base:Heap,K.In base->base.Ns mainGlobals mg->ka P w K mg base CX k fa fd [x] sp) (hbind:∀(s:Shared) (u:Value),BindsTo s fd ⟨[u],[]⟩ [(x,u)])
  (hsp:∀H:Hp,BH H->SqL K H a (ns.map V.int)->sp [.ref a] H (fun v _=>v=.bl true) fun _ _ _=>False)
  (hCX:∀H e s',CX [] H s₁ (fun _ _ _=>False) e s'->False) :
  codeAny (model P w) callerA (.call (.ref fa) ⟨[.ref a],[]⟩) (fun r s'=>r=.ok (.ret (.bool true))/\OldK s₁.heap s'.heap/\s'.os=s₁.os/\AllBare s'.gens) s₁:=by
 have rv:=pX hi
 have lenV:=hi.length
 have core:∀H:Hp,BH H->SqL K H a (ns.map V.int)->HOk P w H s₁.heap->(∀b,H b ≠ none->b=a)->(H a ≠ none->K.lookup a=none) ->
   codeAny (model P w) callerA (.call (.ref fa) ⟨[.ref a],[]⟩) (fun r s'=>r=.ok (.ret (.bool true))/\OldK s₁.heap s'.heap/\s'.os=s₁.os/\AllBare s'.gens) s₁:=by
  intro H hO hS hok hA hK
  have base_of:∀{b:Addr}{o:Obj},s₁.heap.get? b=some o->H b=none->(qA s₁.heap H).get? b=some o:=fun e n=>yq e n
  have noA:∀{b:Addr}{o:Obj}{es:Array DictEntry}{ep:Nat},s₁.heap.get? b=some o->o.data=.dict es ep->H b=none:=fun {b o es ep} e d=>by
   cases q:H b with
   | none=>rfl
   | some u =>
    have e':b=a:=hA b (by rw [q];simp)
    subst e'
    rw [ha] at e;cases e
    have d':Data.seq vs.toArray _=Data.dict es ep:=d
    cases d'
  have nsK:∀{b:Addr}{m:Str->Option Value},s₁.heap.Ns b m->(qA s₁.heap H).Ns b m:=fun {b m} ⟨o,es,ep,e,d,r⟩=>⟨o,es,ep,base_of e (noA e d),d,r⟩
  have hKb:K.In (qA s₁.heap H):=fun b o e=>base_of (KX b o e) (by
   cases q:H b with
   | none=>rfl
   | some u =>
    have e':b=a:=hA b (by rw [q];simp)
    subst e'
    rw [hK (by rw [q];simp)] at e;cases e)
  have hM:Mod K mg (qA s₁.heap H):=⟨hKb,nsK hns,⟨mb,nsK hb,hbb⟩,let ⟨mc,h1,h2⟩:=hlim;⟨mc,nsK h1,h2⟩⟩
  have e0:tj P w K mg (qA s₁.heap H) callerA [] s₁ H:=⟨rfl,hM,fun b o e=>yX e,Nat.le_of_eq (vQ _ _),trivial,fun b hb=>absurd (show b ∈ ([]:List Addr) from hb) (by simp),hok,.of_eq hg⟩
  refine codeAny_mono ((F _ hKb (nsK hns)).run callerA [] s₁ H ⟨[.ref a],[]⟩ [.ref a] [.ref a] _ _ hr e0 (hbind s₁ (.ref a)) (.cons rfl .nil) (hsp H hO hS)) fun r s' h=>?_
  cases r with
  | error e=>exact (hCX H e s' h).elim
  | ok fl =>
   cases fl with
   | next=>exact False.elim h
   | brk=>exact False.elim h
   | cont=>exact False.elim h
   | ret u =>
    obtain ⟨v,H',os,bare,un,hok',r',q⟩:=h
    have q':v=.bl true:=q
    subst q'
    obtain rfl:u=Value.bool true:=r'
    refine ⟨rfl,OldK.of_keep fun b o e=>?_,os,bare⟩
    cases q:H b with
    | none=>exact un.keep b o e q (by intro z;exact absurd (show b ∈ ([]:List Addr) from z) (by simp)) (by simp)
    | some u =>
     rcases hO b with z | ⟨ob,xs,z⟩
     ·rw [q] at z;cases z
     ·have z2:=un.o7 b ob _ z
      obtain ⟨e1,_⟩:=hok b _ z
      obtain ⟨e2,_⟩:=hok' b _ z2
      rw [e] at e1;cases e1
      exact e2
 cases hk:K.lookup a with
 | some o =>
  have e:=KX a o hk
  rw [ha] at e
  cases e
  refine core (fun _=>none) (fun _=>.inl rfl) (.inr ⟨_,vs.toArray,_,hk,rfl,rfl,rfl,by rw [List.size_toArray,lenV];exact hl,by simpa using rv⟩) (fun b u z=>by have z':(none:Option HO)=some u:=z;cases z') (fun b z=>absurd rfl z) fun z=>absurd rfl z
 | none =>
  refine core (fun b=>if b=a then some (.frz { cls:=.type "list",data:=.seq vs.toArray } (.lst (ns.map V.int))) else none) (fun b=>?_) (.inl (.inr ⟨{ cls:=.type "list",data:=.seq vs.toArray },if_pos rfl⟩)) (fun b u z=>?_) (fun b z=>?_) fun _=>hk
  ·by_cases hb:b=a
   ·exact .inr ⟨_,_,if_pos hb⟩
   ·exact .inl (if_neg hb)
  ·by_cases hb:b=a
   ·have z':=(if_pos hb).symm.trans z
    cases z'
    subst hb
    exact ⟨ha,by rw [List.length_map];exact hl,vs,_,rv,ha⟩
   ·have z':=(if_neg hb).symm.trans z
    cases z'
  ·by_cases hb:b=a
   ·exact hb
   ·exact absurd (if_neg hb) z
end L2
namespace L2
open PySem PySem.Spec PyProof.Rows
theorem zH {l:W.OpenLaw}{n k:Nat}{q:Program}{loose:List Str}{XP:(Str->Option Value)->Heap->Prop}{YP:World->Heap->Prop}{d:DefRec}{K:Params->W.Frag}{CX:World->CXT}{sp:World->Sp}{x:Str}
  (hn:l.most=some n) (hn2:n <= sizeLine) (hdf:d.params.defaults=[]) (hr:eP k callerA)
  (hY:∀(w:World) (h:Heap),YP w h->(K w.params).In h)
  (F:∀(w:World) (mg:Str->Option Value) (fa:Addr) (h:Heap),(K w.params).In h->h.Ns mainGlobals mg->mg d.name=some (.ref fa) ->
   ∃fd:FuncData,(∀(s:Shared) (u:Value),BindsTo s fd ⟨[u],[]⟩ [(x,u)]) /\
    ∀base:Heap,(K w.params).In base->base.Ns mainGlobals mg->ka l.prog w (K w.params) mg base (CX w) k fa fd [x] (sp w))
  (hsp:∀(w:World) (H:Hp) (a:Addr) (ns:List Int),ns.length <= n->BH H->SqL (K w.params) H a (ns.map V.int)->sp w [.ref a] H (fun v _=>v=.bl true) fun _ _ _=>False)
  (hCX:∀(w:World) (H:Hp) (s:Shared) (e:Value) (s':Shared),CX w [] H s (fun _ _ _=>False) e s'->False) :
  W.WalkO q loose XP YP l.row.toRowW d [] (fun f vs=>PySem.call f vs):=by
 refine Att.rX hn hdf fun w s₀ s₁ mg mb fa o pm cd doc a vs ns G Y ho hd hcd hmg hobj hints hlen hg=>?_
 have KX:=hY w _ Y
 obtain ⟨fd,hb,hF⟩:=F w mg fa _ KX G.T.g hmg
 exact xI KX G.T.g G.T.b G.T.builtins G.T.nolimit hg hobj hints (Nat.le_trans hlen hn2) hr hF hb (fun H hO hS=>hsp w H a ns hlen hO hS) fun H e s'=>hCX w H s₁ e s'
end L2
namespace L2
open PySem PySem.Spec PyProof.Rows
abbrev CX0:CXT:=fun _ _ _ _ _ _=>False
abbrev E0:XK:=fun _ _ _=>False
theorem r9 {X:Cx}:Passes CX0 X E0:=fun _ _ _ _ _ _ _ h=>h.elim
structure Fun (K:W.Frag) (x qual:Str) (st:Stmt) (f:Addr) (fd:FuncData):Prop where
 ex:∃(oc:Value) (od:Option Addr) (kV doc pm:Value) (an:Option Addr) (cdv ct:Value) (osl:Array (Option Value)),
  fd=W.fnOf x qual (d7 st) (cY st) (aq st) .none kV doc pm an cdv ct/\K.lookup f=some ⟨oc,od,.func fd,osl⟩/\W.codeIn K cdv qual=true
 kp:W.keepIn K (.ref f)=true
section
variable {P:Program}{w:World}{K:W.Frag}{mg:Str->Option Value}{base:Heap}
theorem Fun.ok {x qual:Str}{st:Stmt}{f:Addr}{fd:FuncData}{N ps:List Str}{k:Nat}{sp:Sp} (F:Fun K x qual st f fd) (S:aB N ps (aq st)) (len:∀vs H Q E,sp vs H Q E->vs.length=ps.length)
  (hbody:∀(cdv:Value) (A:Around) (outer:List Env) (s:Shared) (H:Hp) (vs:List V) (Q:VK) (E:XK),eP k (A.deeper (envOfC qual (aq st) s.heap.objs.size f cdv))->sp vs H Q E ->
   ∃t,PSs (rF CX0 P w K mg base N qual (aq st) f cdv A outer s H E).nox (cY st) t/\t { nx:=fun _ H'=>Q .non H',rt:=Q } (start N vs) H):ka P w K mg base CX0 (k + 1) f fd ps sp:=by
 obtain ⟨oc,od,kV,doc,pm,an,cdv,ct,osl,rfl,lk,hcd⟩:=F.ex
 refine BZ lk hcd S len fun A outer s H vs Q E hr hsp=>?_
 obtain ⟨t,h,q⟩:=hbody cdv A outer s H vs Q E hr hsp
 exact ⟨t,h.nox,q⟩
theorem Fun.binds {x qual:Str}{st:Stmt}{f:Addr}{fd:FuncData}{ps:List Str} (F:Fun K x qual st f fd)
  (h:∀(kV doc pm:Value) (an:Option Addr) (cdv ct:Value) (us:List Value),us.length=ps.length->bindArgs (W.fnOf x qual (d7 st) (cY st) (aq st) .none kV doc pm an cdv ct) ⟨us,[]⟩=pure (ps.zip us)):Binds K fd ps []:=by
 obtain ⟨oc,od,kV,doc,pm,an,cdv,ct,osl,rfl,lk,hcd⟩:=F.ex
 exact .all (h kV doc pm an cdv ct)
theorem qN {x qual:Str}{st:Stmt}{f:Addr}{oc:Value}{od an:Option Addr}{osl:Array (Option Value)}{kV doc pm cdv ct:Value} (l:K.lookup f=some ⟨oc,od,.func (W.fnOf x qual (d7 st) (cY st) (aq st) .none kV doc pm an cdv ct),osl⟩)
  (c:W.codeIn K cdv qual=true) (k:W.keepIn K (.ref f)=true):Fun K x qual st f (W.fnOf x qual (d7 st) (cY st) (aq st) .none kV doc pm an cdv ct):=⟨⟨oc,od,kV,doc,pm,an,cdv,ct,osl,rfl,l,c⟩,k⟩
end
theorem aR {n:Nat} (h:n <= 1000):n < sizeLine:=Nat.lt_of_le_of_lt h (by decide)
section
variable {X:Cx}
end
theorem aY {A B:Prop} (h:B):if false=true then A else B:=by
 rw [if_neg Bool.false_ne_true]
 exact h
theorem cy {A B:Prop} (h:A):if true=true then A else B:=by
 rw [if_pos rfl]
 exact h
theorem aW {c A B:Prop} [Decidable c] (h1:c->A) (h2:¬ c->B):if c then A else B:=by
 by_cases h:c
 ·rw [if_pos h]
  exact h1 h
 ·rw [if_neg h]
  exact h2 h
def ah (H H':Hp):Prop:=∀b o,H b=some o->H' b=some o
theorem ah.refl (H:Hp):ah H H:=fun _ _ h=>h
theorem ah.trans {H H1 H2:Hp} (a:ah H H1) (b:ah H1 H2):ah H H2:=fun c o h=>b c o (a c o h)
theorem ah.free {H H':Hp} (e:ah H H') {l:Addr} (h:H' l=Option.none):H l=Option.none:=by
 cases q:H l with
 | none=>rfl
 | some o =>
  rw [e l o q] at h
  cases h
theorem ah.seq {K:W.Frag}{H H':Hp}{a:Addr}{xs:List V} (e:ah H H') (h:SqL K H a xs):SqL K H' a xs:=by
 rcases h with (h | ⟨o,h⟩) | h
 ·exact .inl (.inl (e _ _ h))
 ·exact .inl (.inr ⟨o,e _ _ h⟩)
 ·exact .inr h
end L2
namespace L2
open PySem PySem.Spec PyProof.Rows
theorem lO {α β:Type}{l:List α}{f:α->β->Sem (ForInStep β)} (g:β->α->β) (c:β) (h:∀x ∈ l,∀c,f x c=pure (.yield (g c x))) :
  forIn l c f=pure (l.foldl g c):=by
 induction l generalizing c with
 | nil=>rfl
 | cons x l ih =>
  rw [List.forIn_cons,h x List.mem_cons_self,pure_bind]
  exact ih _ fun y hy=>h y (List.mem_cons_of_mem _ hy)
def fj (env:Env) (cs:List (Str × Addr)) (x:Str × NameKind):List (Str × Addr) :=
 if x.2 == .free then (x.1,(env.cells.lookup x.1).getD 0) :: cs else cs
def oA (env:Env) (names:List (Str × NameKind)):List (Str × Addr):=names.foldl (fj env) []
theorem mO {scope:Scope}{env:Env} (h:∀x ∈ scope.names,x.2=.free->∃c,env.cells.lookup x.1=some c):closureFor scope env=pure (oA env scope.names):=by
 simp only [closureFor]
 rw [lO (fj env) [] (fun x hx c=>by
  obtain ⟨n,kind⟩:=x
  cases hk:kind == NameKind.free with
  | false=>simp only [fj,hk,Bool.false_eq_true,if_false]
  | true =>
   obtain ⟨a,ha⟩:=h (n,kind) hx (by simpa using hk)
   have ha':env.cells.lookup n=some a:=ha
   simp only [fj,hk,if_true,cellOf,ha',Option.getD_some,pure_bind])]
 rfl
theorem oI {env:Env}:∀{names:List (Str × NameKind)}{cs:List (Str × Addr)}{n:Str}{c:Addr},(n,c) ∈ names.foldl (fj env) cs->(n,c) ∈ cs \/ ((n,NameKind.free) ∈ names/\c=(env.cells.lookup n).getD 0)
 | [],_,_,_,h=>.inl h
 | (m,k) :: r,cs,n,c,h=>by
  rcases oI (names:=r) (cs:=fj env cs (m,k)) h with h | ⟨h,e⟩
  ·unfold fj at h
   by_cases hk:(k == NameKind.free)=true
   ·rw [if_pos hk] at h
    rcases List.mem_cons.mp h with e | h
    ·cases e
     have hk':k=.free:=by simpa using hk
     subst hk'
     exact .inr ⟨List.mem_cons_self,rfl⟩
    ·exact .inl h
   ·rw [if_neg hk] at h
    exact .inl h
  ·exact .inr ⟨List.mem_cons_of_mem _ h,e⟩
theorem qk {env:Env}{p:Str × Addr}:∀{names:List (Str × NameKind)}{cs:List (Str × Addr)},p ∈ cs->p ∈ names.foldl (fj env) cs
 | [],_,h=>h
 | x :: r,cs,h=>qk (names:=r) (cs:=fj env cs x) (by
  unfold fj
  split
  ·exact List.mem_cons_of_mem _ h
  ·exact h)
theorem qH {env:Env}{n:Str}:∀{names:List (Str × NameKind)}{cs:List (Str × Addr)},(n,NameKind.free) ∈ names->(n,(env.cells.lookup n).getD 0) ∈ names.foldl (fj env) cs
 | x :: r,cs,h=>by
  rcases List.mem_cons.mp h with e | h
  ·subst e
   refine qk (names:=r) (cs:=fj env cs (n,.free)) ?_
   unfold fj
   rw [if_pos (by rfl)]
   exact List.mem_cons_self
  ·exact qH (names:=r) h
theorem ij {α:Type}:∀{l:List (Str × α)}{n:Str}{c:α},(n,c) ∈ l->∃c',l.lookup n=some c'
 | (k,v) :: r,n,c,h=>by
  rw [List.lookup_cons]
  cases hb:n == k with
  | true=>exact ⟨v,rfl⟩
  | false =>
   rcases List.mem_cons.mp h with e | h
   ·cases e;simp at hb
   ·exact ij h
theorem fx:∀{names:List (Str × NameKind)}{k:Nat}{acc:List (Str × Addr)}{n:Str}{c:Addr},(n,c) ∈ cellsFrom k names acc->(n,c) ∈ acc \/ (k <= c/\(n,NameKind.cell) ∈ names)
 | [],_,_,_,_,h=>.inl h
 | (m,kd) :: r,k,acc,n,c,h=>by
  unfold cellsFrom at h
  by_cases hk:(kd == NameKind.cell)=true
  ·rw [if_pos hk] at h
   have hk':kd=.cell:=by simpa using hk
   subst hk'
   rcases fx (names:=r) h with h | ⟨h1,h2⟩
   ·rcases List.mem_cons.mp h with e | h
    ·cases e
     exact .inr ⟨Nat.le_refl _,List.mem_cons_self⟩
    ·exact .inl h
   ·exact .inr ⟨by omega,List.mem_cons_of_mem _ h2⟩
  ·rw [if_neg hk] at h
   rcases fx (names:=r) h with h | ⟨h1,h2⟩
   ·exact .inl h
   ·exact .inr ⟨h1,List.mem_cons_of_mem _ h2⟩
theorem gX:∀{names:List (Str × NameKind)}{k:Nat}{acc:List (Str × Addr)},(∀n c,(n,c) ∈ acc->c < k)->(∀n n' c,(n,c) ∈ acc->(n',c) ∈ acc->n=n') ->
  ∀{n n':Str}{c:Addr},(n,c) ∈ cellsFrom k names acc->(n',c) ∈ cellsFrom k names acc->n=n'
 | [],_,_,_,hi,_,_,_,h,h'=>hi _ _ _ h h'
 | (m,kd) :: r,k,acc,hl,hi,n,n',c,h,h'=>by
  unfold cellsFrom at h h'
  by_cases hk:(kd == NameKind.cell)=true
  ·rw [if_pos hk] at h h'
   refine gX (names:=r) (acc:=(m,k) :: acc) (fun a b hab=>?_) (fun a a' b ha ha'=>?_) h h'
   ·rcases List.mem_cons.mp hab with e | e
    ·cases e;exact Nat.lt_succ_self _
    ·exact Nat.lt_succ_of_lt (hl _ _ e)
   ·rcases List.mem_cons.mp ha with e | e <;> rcases List.mem_cons.mp ha' with e' | e'
    ·cases e;cases e';rfl
    ·cases e;exact absurd (hl _ _ e') (Nat.lt_irrefl _)
    ·cases e';exact absurd (hl _ _ e) (Nat.lt_irrefl _)
    ·exact hi _ _ _ e e'
  ·rw [if_neg hk] at h h'
   exact gX (names:=r) hl hi h h'
theorem gc:∀{names:List (Str × NameKind)}{h:Heap}{acc:List (Str × Addr)}{n:Str}{c:Addr},(n,c) ∈ cellsFrom h.objs.size names acc->(n,c) ∈ acc \/ (pushCells h names).IsCell c none
 | [],_,_,_,_,q=>.inl q
 | (m,kd) :: r,h,acc,n,c,q=>by
  unfold cellsFrom at q
  unfold pushCells
  by_cases hk:(kd == NameKind.cell)=true
  ·rw [if_pos hk] at q
   rw [if_pos hk]
   have e:h.objs.size + 1=(h.push { cls:=.type "cell",data:=.cell none }).objs.size:=(Heap.size_push ..).symm
   rw [e] at q
   rcases gc (names:=r) q with q | q
   ·rcases List.mem_cons.mp q with e' | q
    ·cases e'
     exact .inr ⟨_,pushCells_keeps r _ _ _ (Heap.get?_push_size _ rfl),rfl⟩
    ·exact .inl q
   ·exact .inr q
  ·rw [if_neg hk] at q
   rw [if_neg hk]
   exact gc (names:=r) q
theorem h7 {x:Str}:∀{names:List (Str × NameKind)}{k:Nat}{acc:List (Str × Addr)},(x,NameKind.cell) ∉ names->(cellsFrom k names acc).lookup x=acc.lookup x
 | [],_,_,_=>rfl
 | (m,kd) :: r,k,acc,h=>by
  unfold cellsFrom
  have hr:(x,NameKind.cell) ∉ r:=fun z=>h (List.mem_cons_of_mem _ z)
  by_cases hk:(kd == NameKind.cell)=true
  ·have hk':kd=.cell:=by simpa using hk
   subst hk'
   rw [if_pos hk,h7 hr,List.lookup_cons]
   have ne:(x == m)=false:=by
    cases hb:x == m with
    | false=>rfl
    | true=>exact absurd (by rw [beq_iff_eq.mp hb];exact List.mem_cons_self) h
   rw [ne]
  ·rw [if_neg hk]
   exact h7 hr
section
variable {M:Model}{A:Around}{E:Value->Shared->Prop}{s:Shared}
theorem sE {scope:Scope}{globals:Addr}{cl:List (Str × Addr)}{qual:Str}{wY:Env}{Q:Env->Shared->Prop}
  (h:Q (newEnv scope s.heap.objs.size globals (cellsFrom (s.heap.objs.size + 1) scope.names cl) qual none .none (some wY) builtinsNs) { s with heap:=pushCells (s.heap.push { cls:=.type "dict",data:=.dict #[] }) scope.names }) :
  wpAny M A (newFunctionEnv scope globals cl [] qual none .none (some wY)) Q E s:=by
 simp only [newFunctionEnv,Option.isSome_some,if_true]
 refine wpAny_bind (wpAny_alloc ?_)
 refine wpAny_bind (wpAny_layCells _ (fun name kind cells=>by cases hkc:kind == NameKind.cell <;> simp [hkc]) _ _ _ _ ?_)
 rw [show ({ s with heap:=s.heap.push { cls:=.type "dict",data:=.dict #[] } }:Shared).heap.objs.size=s.heap.objs.size + 1 from Heap.size_push ..]
 refine wpAny_bind ?_
 rw [List.forIn_nil]
 exact wpAny_pure (wpAny_pure h)
end
structure CB where
 C:Addr
 ex:List Addr
 s:Shared
 H:Hp
def cxC (X:Cx) (N:List Str) (scope:Scope) (b:CB):Cx:={ X with
 N:=N
 s₀:=b.s
 H₀:=b.H
 env:=compEnvC scope (cellsFrom (b.C + 1) scope.names (oA X.env scope.names)) b.C X.env
 outer:=X.stack
 ex:=b.ex
 fn:=fun x=>scope.names.lookup x == some .cell
 pn:=[]
 xe:=fun _ _=>False }
theorem jr {env:Env}{x:Str}:∀{names:List (Str × NameKind)},
  (names.map fun (n,k)=>if (k == NameKind.free && env.scope.kind == .function && env.kindOf n == some .cell) then (n,NameKind.cell) else (n,k)).lookup x =
   (names.lookup x).map fun k=>if (k == NameKind.free && env.scope.kind == .function && env.kindOf x == some .cell) then NameKind.cell else k
 | []=>rfl
 | (n,k) :: r=>by
  have ih:=@jr env x r
  show List.lookup x ((if (k == NameKind.free && env.scope.kind == .function && env.kindOf n == some .cell)=true then (n,NameKind.cell) else (n,k)) :: _)=_
  cases hx:x == n with
  | true =>
   have e:x=n:=beq_iff_eq.mp hx
   subst e
   by_cases hc:(k == NameKind.free && env.scope.kind == .function && env.kindOf x == some .cell)=true
   ·rw [if_pos hc];simp only [List.lookup_cons,hx,Option.map_some,hc,if_true]
   ·rw [if_neg hc];simp only [List.lookup_cons,hx,Option.map_some];rw [if_neg hc]
  | false =>
   by_cases hc:(k == NameKind.free && env.scope.kind == .function && env.kindOf n == some .cell)=true
   ·rw [if_pos hc];simp only [List.lookup_cons,hx];exact ih
   ·rw [if_neg hc];simp only [List.lookup_cons,hx];exact ih
structure dC (psc:Scope) (PN N:List Str) (own:Nat) (fr:List Nat) (scope:Scope):Prop where
 kind:scope.kind=.function
 nd:(scope.names.map (·.1)).Nodup
 free:∀x ∈ scope.names,x.2=.free->psc.names.lookup x.1=some .cell \/ psc.names.lookup x.1=some .free
 len:N.length=own + fr.length
 frn:∀i,i < fr.length->N[own + i]?=(fr[i]?).bind fun j=>PN[j]?
 frk:∀i,i < fr.length->∀y,N[own + i]?=some y->scope.names.lookup y=some .free
def uO (psc:Scope) (PN N:List Str) (own:Nat) (fr:List Nat) (scope:Scope):Bool :=
 scope.kind == .function && decide (scope.names.map (·.1)).Nodup && scope.names.all (fun x=>x.2 != .free || (psc.names.lookup x.1 == some .cell || psc.names.lookup x.1 == some .free)) &&
  (N.length == own + fr.length) && ((fr.map fun j=>PN[j]?) == (N.drop own).map some) && (N.drop own).all (fun y=>scope.names.lookup y == some .free)
theorem dC.of {psc:Scope}{PN N:List Str}{own:Nat}{fr:List Nat}{scope:Scope} (h:uO psc PN N own fr scope=true):dC psc PN N own fr scope:=by
 unfold uO at h
 simp only [Bool.and_eq_true] at h
 obtain ⟨⟨⟨⟨⟨h1,h2⟩,h3⟩,h4⟩,h5⟩,h6⟩:=h
 have h4':N.length=own + fr.length:=eq_of_beq h4
 have h5':(fr.map fun j=>PN[j]?)=(N.drop own).map some:=eq_of_beq h5
 have dr:∀i,N[own + i]?=(N.drop own)[i]?:=fun i=>by rw [List.getElem?_drop]
 refine ⟨eq_of_beq h1,of_decide_eq_true h2,fun x hx hk=>?_,h4',fun i hi=>?_,fun i hi y hy=>?_⟩
 ·have q:=List.all_eq_true.mp h3 x hx
  rw [hk] at q
  simpa using q
 ·have q:=congrArg (fun l=>l[i]?) h5'
  simp only [List.getElem?_map] at q
  rw [dr]
  have ej:fr[i]?=some fr[i]:=List.getElem?_eq_getElem hi
  rw [ej] at q ⊢
  cases e:(N.drop own)[i]? with
  | none=>rw [e] at q;cases q
  | some y =>
   rw [e] at q
   exact (Option.some.inj q).symm
 ·rw [dr] at hy
  have q:=List.all_eq_true.mp h6 y (List.mem_of_getElem? hy)
  simpa using q
def cSt (own:Nat) (fr:List Nat) (σ:St):St:=List.replicate own none ++ fr.map fun j=>(σ[j]?).getD none
theorem fR {α:Type}:∀{l:List (Str × α)}{n:Str}{k:α},(l.map (·.1)).Nodup->(n,k) ∈ l->l.lookup n=some k
 | (m,v) :: r,n,k,nd,h=>by
  rw [List.map_cons,List.nodup_cons] at nd
  rw [List.lookup_cons]
  rcases List.mem_cons.mp h with e | h
  ·cases e;simp
  ·have ne:(n == m)=false:=by
    cases hb:n == m with
    | false=>rfl
    | true=>exact absurd (List.mem_map.mpr ⟨(n,k),h,beq_iff_eq.mp hb⟩) nd.1
   rw [ne]
   exact fR nd.2 h
section
variable {X:Cx}{pins:List (Addr × Obj)}{σ:St}{H:Hp}{s:Shared}{N:List Str}{own:Nat}{fr:List Nat}{scope:Scope}
theorem dC.cells (S:dC X.env.scope X.N N own fr scope) (ok:X.Ok):∀x ∈ scope.names,x.2=.free->∃c,X.env.cells.lookup x.1=some c:=fun x hx hk =>
 ok.has x.1 (S.free x hx hk)
theorem dC.cl (S:dC X.env.scope X.N N own fr scope) (ok:X.Ok) {n:Str}{c:Addr} (h:(n,c) ∈ oA X.env scope.names):X.env.cells.lookup n=some c:=by
 rcases oI h with h | ⟨h,e⟩
 ·cases h
 ·obtain ⟨c',e'⟩:=S.cells ok (n,.free) h rfl
  have e2:X.env.cells.lookup n=some c':=e'
  rw [e2] at e
  rw [e,e2]
  rfl
theorem xO {D C:Addr}{h':Heap}{fp:List Addr} (S:dC X.env.scope X.N N own fr scope) (I:Inv X pins σ H s) (hD:D=s.heap.objs.size) (hC:C=s.heap.objs.size + 1)
  (hh:h'=pushCells ((s.heap.push { cls:=.type "list",data:=.seq #[] }).push { cls:=.type "dict",data:=.dict #[] }) scope.names) (hfp:∀b ∈ fp,oS X pins H b) (hlt:∀b ∈ fp,b < s.heap.objs.size) :
  Inv (cxC X N scope ⟨C,fp,s,H⟩) [] (cSt own fr σ) (upd H D (.lst [])) { s with heap:=h' }:=by
 subst hD hC
 have eD:(s.heap.push { cls:=.type "list",data:=.seq #[] }).objs.size=s.heap.objs.size + 1:=Heap.size_push ..
 have eC:((s.heap.push { cls:=.type "list",data:=.seq #[] }).push { cls:=.type "dict",data:=.dict #[] }).objs.size=s.heap.objs.size + 2:=by rw [Heap.size_push,eD]
 have keep:∀b o,s.heap.get? b=some o->h'.get? b=some o:=fun b o e=>by
  rw [hh]
  exact pushCells_keeps _ _ _ _ (Heap.get?_push_of_some _ (Heap.get?_push_of_some _ e))
 have lst:h'.get? s.heap.objs.size=some { cls:=.type "list",data:=.seq #[] }:=by
  rw [hh]
  exact pushCells_keeps _ _ _ _ (Heap.get?_push_of_some _ (Heap.get?_push_size _ rfl))
 have dct:h'.get? (s.heap.objs.size + 1)=some { cls:=.type "dict",data:=.dict #[] }:=by
  rw [hh]
  refine pushCells_keeps _ _ _ _ ?_
  have:=Heap.get?_push_size (s.heap.push { cls:=.type "list",data:=.seq #[] }) (o:={ cls:=.type "dict",data:=.dict #[] }) rfl
  rw [eD] at this
  exact this
 have hnD:H s.heap.objs.size=none:=I.hok.fresh (Nat.le_refl _)
 have hnC:H (s.heap.objs.size + 1)=none:=I.hok.fresh (Nat.le_succ _)
 have inCl:∀{n:Str}{c:Addr},(n,c) ∈ oA X.env scope.names->X.env.cells.lookup n=some c:=fun h=>S.cl I.ok h
 have clt:∀{n:Str}{c:Addr},X.env.cells.lookup n=some c->c < s.heap.objs.size:=fun h=>by
  obtain ⟨v,z⟩:=I.cell _ _ h
  exact z.lt
 have cases_:∀{n:Str}{c:Addr},(cellsFrom (s.heap.objs.size + 1 + 1) scope.names (oA X.env scope.names)).lookup n=some c->X.env.cells.lookup n=some c \/ (s.heap.objs.size + 2 <= c/\(n,NameKind.cell) ∈ scope.names/\h'.IsCell c none):=fun {n c} h=>by
  have hm:=PySem.mem_of_lookup h
  have hcell:=hm
  rw [show s.heap.objs.size + 1 + 1=((s.heap.push { cls:=.type "list",data:=.seq #[] }).push { cls:=.type "dict",data:=.dict #[] }).objs.size from eC.symm] at hcell
  rcases fx hm with h1 | ⟨h1,h2⟩
  ·exact .inl (inCl h1)
  ·rcases gc hcell with h3 | h3
   ·exact .inl (inCl h3)
   ·exact .inr ⟨h1,h2,by rw [hh];exact h3⟩
 have kindOf:∀x,(cxC X N scope ⟨s.heap.objs.size + 1,fp,s,H⟩).env.kindOf x=(scope.names.lookup x).map fun k=>if (k == NameKind.free && X.env.scope.kind == .function && X.env.kindOf x == some .cell) then NameKind.cell else k:=fun x=>jr
 have hasName:∀x,((cxC X N scope ⟨s.heap.objs.size + 1,fp,s,H⟩).env.kindOf x=some .cell \/ (cxC X N scope ⟨s.heap.objs.size + 1,fp,s,H⟩).env.kindOf x=some .free)->∃c,(cellsFrom (s.heap.objs.size + 1 + 1) scope.names (oA X.env scope.names)).lookup x=some c:=fun x hx=>by
  rw [kindOf] at hx
  have h2:scope.names.lookup x=some .cell \/ scope.names.lookup x=some .free:=by
   cases e:scope.names.lookup x with
   | none=>rw [e] at hx;rcases hx with z | z <;> cases z
   | some k =>
    rw [e] at hx
    by_cases hk:k=.free
    ·exact .inr (by rw [hk])
    ·have hk':(k == NameKind.free)=false:=by simpa using hk
     simp only [Option.map_some,hk',Bool.false_and,Bool.false_eq_true,if_false] at hx
     rcases hx with z | z
     ·exact .inl z
     ·exact .inr z
  rcases h2 with h2 | h2
  ·exact Option.isSome_iff_exists.mp (W.cellsFrom_some scope.names _ _ (.inl h2))
  ·obtain ⟨c,hc⟩:=ij (qH (env:=X.env) (cs:=[]) (PySem.mem_of_lookup h2))
   exact Option.isSome_iff_exists.mp (W.cellsFrom_some scope.names _ _ (.inr (by rw [show (oA X.env scope.names).lookup x=some c from hc];rfl)))
 have cellAt:∀x c,(cellsFrom (s.heap.objs.size + 1 + 1) scope.names (oA X.env scope.names)).lookup x=some c->∃v,h'.IsCell c v:=fun x c e=>by
  rcases cases_ e with q | ⟨_,_,q⟩
  ·obtain ⟨v,o,ho,hd⟩:=I.cell x c q
   exact ⟨v,o,keep c o ho,hd⟩
  ·exact ⟨none,q⟩
 refine ⟨⟨I.ok.mod,S.kind,I.ok.glob,I.ok.blt,Nat.le_succ _,fun y z c h1 h2=>?_,hasName,fun y c hy h=>?_,I.ok.hd,I.ok.frames,.inl rfl,fun b hb=>⟨?_,fun x c e z=>?_⟩,fun b o e=>I.bs b o e,Nat.le_trans I.ok.bsz I.sz,fun b o e hb=>?_,fun b hb hf=>?_,I.stack,I.uH⟩,
  rfl,I.bare,?_,⟨fun _=>none,⟨_,#[],_,dct,rfl,fun e he=>absurd he (by simp),fun _=>rfl⟩,fun i x v h1 h2 h3=>?_⟩,cellAt,?_,fun x c e=>?_,fun p hp=>absurd (show p ∈ ([]:List (Addr × Obj)) from hp) (by simp),?_,?_⟩
 ·
  refine gX (fun n c hm=>?_) (fun n n' c hm hm'=>I.ok.inj n n' c (inCl hm) (inCl hm')) (PySem.mem_of_lookup h1) (PySem.mem_of_lookup h2)
  exact Nat.lt_succ_of_lt (Nat.lt_succ_of_lt (clt (inCl hm)))
 ·
  have hy':scope.names.lookup y=some .cell:=by simpa using (show (scope.names.lookup y == some .cell)=true from hy)
  rcases cases_ h with q | ⟨q,_⟩
  ·rcases fx (PySem.mem_of_lookup h) with q2 | ⟨q2,_⟩
   ·rcases oI q2 with z | ⟨z,_⟩
    ·cases z
    ·have:=fR S.nd z
     rw [hy'] at this
     cases this
   ·exact Nat.le_trans (Nat.le_add_right _ 2) q2
  ·exact Nat.le_trans (Nat.le_add_right _ 2) q
 ·exact Nat.ne_of_lt (Nat.lt_succ_of_lt (hlt b hb))
 ·rcases cases_ e with q | ⟨q,_⟩
  ·exact (hfp b hb).2.2.2.2.1 x c q z
  ·have hb':=hlt b hb
   rw [<- z] at hb'
   exact absurd (Nat.lt_of_lt_of_le hb' (Nat.le_trans (Nat.le_add_right _ 2) q)) (Nat.lt_irrefl _)
 ·rcases (hfp b hb).2.2.2.1 with z | z
  ·exact I.ok.xH b o e z
  ·exact Nat.lt_irrefl _ (Nat.lt_of_lt_of_le (Heap.lt_size e) (Nat.le_trans I.ok.bsz z))
 ·rcases List.mem_cons.mp (I.tL b hf) with z | z
  ·exact (hfp b hb).2.1 z
  ·exact (hfp b hb).2.2.1 z
 ·exact Un.laid keep (Nat.le_refl _) hnD
 ·
  have h1:N[i]?=some x:=h1
  have hlen:i < N.length:=(List.getElem?_eq_some_iff.mp h1).1
  by_cases hi:i < own
  ·exfalso
   have h2':(cSt own fr σ)[i]?=some none:=by
    unfold cSt
    rw [List.getElem?_append_left (by simpa using hi),List.getElem?_replicate,if_pos hi]
   rw [h2'] at h2
   cases h2
  ·have hfi:i - own < fr.length:=by have:=S.len;omega
   have ei:own + (i - own)=i:=by omega
   have hk:=S.frk (i - own) hfi x (by rw [ei];exact h1)
   have hn:=S.frn (i - own) hfi
   rw [ei,h1] at hn
   have ej:fr[i - own]?=some fr[i - own]:=List.getElem?_eq_getElem hfi
   rw [ej] at hn
   have hn':X.N[fr[i - own]]?=some x:=hn.symm
   have h2':(cSt own fr σ)[i]?=some ((σ[fr[i - own]]?).getD none):=by
    unfold cSt
    rw [List.getElem?_append_right (by simpa using Nat.not_lt.mp hi),List.length_replicate,List.getElem?_map,ej]
    rfl
   rw [h2'] at h2
   have h2'':(σ[fr[i - own]]?).getD none=some v:=Option.some.inj h2
   have hσ:σ[fr[i - own]]?=some (some v):=by
    cases e:σ[fr[i - own]]? with
    | none=>rw [e] at h2'';cases h2''
    | some w=>rw [e] at h2'';exact congrArg some h2''
   obtain ⟨m,hm,hl⟩:=I.loc
   have hfree:=S.free (x,.free) (PySem.mem_of_lookup hk) rfl
   obtain ⟨u,r,l⟩:=hl _ x v hn' hσ (hfree.elim (fun z=>.inr (.inl z)) fun z=>.inr (.inr z))
   refine ⟨u,r,.inr ?_⟩
   have hcell:∃c,X.env.cells.lookup x=some c/\s.heap.IsCell c (some u):=by
    rcases l with ⟨l,_⟩ | ⟨_,c,e,z⟩
    ·exfalso
     rcases hfree with z | z
     ·have l':X.env.scope.names.lookup x=some .local:=l
      have z':X.env.scope.names.lookup x=some .cell:=z
      rw [l'] at z';cases z'
     ·have l':X.env.scope.names.lookup x=some .local:=l
      have z':X.env.scope.names.lookup x=some .free:=z
      rw [l'] at z';cases z'
    ·exact ⟨c,e,z⟩
   obtain ⟨c,e,o,ho,hd⟩:=hcell
   refine ⟨?_,c,?_,o,keep c o ho,hd⟩
   ·rw [kindOf,hk]
    by_cases z:(X.env.scope.kind == .function && X.env.kindOf x == some .cell)=true
    ·left
     simp only [Option.map_some,beq_self_eq_true,Bool.true_and,z,if_true]
    ·right
     simp only [Option.map_some,beq_self_eq_true,Bool.true_and]
     rw [if_neg z]
   ·show (cellsFrom (s.heap.objs.size + 1 + 1) scope.names (oA X.env scope.names)).lookup x=some c
    rw [h7 fun z=>by
     have:=fR S.nd z
     rw [hk] at this
     cases this]
    obtain ⟨c',hc'⟩:=ij (qH (env:=X.env) (cs:=[]) (PySem.mem_of_lookup hk))
    have hc2:(oA X.env scope.names).lookup x=some c':=hc'
    rw [hc2]
    have:=inCl (PySem.mem_of_lookup hc2)
    rw [e] at this
    exact this.symm
 ·show upd H s.heap.objs.size (.lst []) (s.heap.objs.size + 1)=none
  rw [aK (Nat.ne_of_gt (Nat.lt_succ_self _))]
  exact hnC
 ·rcases cases_ e with q | ⟨q,_⟩
  ·have:=clt q
   rw [aK (Nat.ne_of_lt this)]
   exact I.jO x c q
  ·rw [aK (Nat.ne_of_gt (Nat.lt_of_lt_of_le (Nat.lt_add_of_pos_right (by decide)) q))]
   exact I.hok.fresh (Nat.le_trans (Nat.le_add_right _ 2) q)
 ·exact I.hok.laid keep (Nat.le_refl _) ⟨Nat.zero_le _,[],0,.nil,lst⟩
 ·show (cSt own fr σ).length=N.length
  unfold cSt
  rw [List.length_append,List.length_replicate,List.length_map,S.len]
end
def PF (X:Cx) (ifs:List Expr) (t:TT):Prop :=
 ∀(pins:List (Addr × Obj)) (s:Shared) (σ:St) (H:Hp) (Q:Bool->Hp->Prop),Inv X pins σ H s->t σ H Q ->
  wpAny (model X.prog X.w) X.A (forIn ifs true fun c r=>if r=true then do let ok <- isTrue c X.env (eval c X.env);pure (ForInStep.yield ok) else pure (ForInStep.yield r)) (TP X pins σ Q) X.xe s
def AL:TT:=fun _ H Q=>Q true H
theorem kD {X:Cx}:PF X [] AL:=fun _ _ _ H _ I h=>wpAny_tests_nil ⟨H,I,h⟩
theorem BF {X:Cx}{c:Expr}{t:TT} (h:PT X c t):PF X [c] t:=fun pins s σ H Q I hw=>wpAny_tests_one (h pins s σ H Q I hw)
theorem qF {prog:Program}{w:World}{A:Around}{R:Result->Shared->Prop}{s:Shared}{elt target iter:Expr}{ifs:List Expr}{scope:Scope}{pos:Pos}{it acc:Value}{env:Env} (I:Nat->Shared->Prop)
  (turn:∀n s,I n s->wpAny (model prog w) A (pyNext it) (fun r s₁=>match r with
   | none=>R (.ok .next) s₁
   | some v=>wpAny (model prog w) A (letOwnedTupleGo target it v) (fun _ s₁'=>wpAny (model prog w) A (assign target env v) (fun _ s₂ =>
     wpAny (model prog w) A (forIn ifs true fun c r=>if r=true then do let ok <- isTrue c env (eval c env);pure (ForInStep.yield ok) else pure (ForInStep.yield r)) (fun ok s₃ =>
      if ok=true then wpAny (model prog w) A (eval elt env) (fun x s₄ =>
       wpAny (model prog w) A (call (.builtin "list.append") [acc,x]) (fun _ s₅=>∃m,m < n/\I m s₅) (fun _ _=>False) s₄) (fun _ _=>False) s₃
      else ∃m,m < n/\I m s₃) (fun _ _=>False) s₂) (fun _ _=>False) s₁') (fun _ _=>False) s₁) (fun _ _=>False) s)
  (n:Nat) (h:I n s) :
  codeAny (model prog w) A (.compLoop (.ListComp elt [⟨target,iter,ifs,0⟩] scope pos) 0 it acc env) R s:=by
 refine codeAny_loop rfl I (fun n s hI=>?_) n h
 show wpAny _ A ((compTurn (.ListComp elt [⟨target,iter,ifs,0⟩] scope pos) 0 it acc env).onRaise (fun x=>do noteFrame x env;theTreesLotGoes x)) _ _ s
 refine wpAny_noted ?_
 rw [compTurn_list]
 have no:∀{α:Type}{t:Sem α}{Q:α->Shared->Prop}{E':Value->Shared->Prop}{s':Shared},wpAny (model prog w) A t Q (fun _ _=>False) s'->wpAny (model prog w) A t Q E' s':=fun h=>wpAny_mono h (fun _ _ q=>q) fun _ _ z=>z.elim
 refine wpAny_bind (wpAny_standAt (wpAny_bind (no (wpAny_mono (turn n s hI) (fun r s₁ h₁=>?_) fun _ _ h'=>h'))))
 cases r with
 | none=>exact wpAny_pure h₁
 | some v =>
  refine wpAny_bind (no (wpAny_mono h₁ (fun _ s₁' h₁'=>?_) fun _ _ h'=>h'))
  refine wpAny_bind (no (wpAny_mono h₁' (fun _ s₂ h₂=>wpAny_bind (no (wpAny_mono h₂ (fun ok s₃ h₃=>?_) fun _ _ h'=>h'))) fun _ _ h'=>h'))
  cases ok with
  | false=>exact wpAny_pure ⟨rfl,h₃⟩
  | true =>
   exact wpAny_bind (wpAny_bind (no (wpAny_mono h₃ (fun x s₄ h₄=>wpAny_bind (no (wpAny_mono h₄ (fun _ s₅ h₅=>wpAny_pure (wpAny_pure ⟨rfl,h₅⟩)) fun _ _ h'=>h'))) fun _ _ h'=>h')))
structure lL (J:It) (own:Nat) (fr:List Nat) (g:CB->TG) (tf:CB->TT) (te:CB->TE) (Q:VK) (σ:St) (H1:Hp):Prop where
 go:∀(b:CB) (D:Addr),H1 D=none->∃W:Nat->Nat->St->Hp->Prop,(∃m,W 0 m (cSt own fr σ) (upd H1 D (.lst [])))/\∀i m σ' H',W i m σ' H' ->
  (J.stop i H'/\Q (.ref D) H') \/ (J.go i H'/\∃M:St->Hp->Prop,(∀σ2 H2,M σ2 H2->∃m',m' < m/\W (i + 1) m' σ2 H2)/\∀x H2,J.yld i H' x H2->g b x σ' H2 fun σ3 H3=>tf b σ3 H3 fun k H4 =>
   if k=true then te b σ3 H4 fun y H5=>∃ys,H5 D=some (.lst ys)/\ys.length < sizeLine/\M σ3 (upd H5 D (.lst (ys ++ [y]))) else M σ3 H4)
def xC (wi:TI) (own:Nat) (fr:List Nat) (g:CB->TG) (tf:CB->TT) (te:CB->TE):TE:=fun σ H Q=>wi σ H fun J H1=>lL J own fr g tf te Q σ H1
section
variable {X:Cx}{tg iter elt:Expr}{ifs:List Expr}{scope:Scope}{pos:Pos}{N:List Str}{own:Nat}{fr:List Nat}{wi:TI}{g:CB->TG}{tf:CB->TT}{te:CB->TE}
theorem rg {use:Option (Value->Sem Unit)}{R:Value->Shared->Prop}{pins:List (Addr × Obj)}{s:Shared}{σ:St}{H:Hp}{Q:VK} (S:dC X.env.scope X.N N own fr scope) (hc:X.calm=true) (hi:PI X tg iter wi)
  (hg:∀b,PG (cxC X N scope b) tg (g b)) (hf:∀b,PF (cxC X N scope b) ifs (tf b)) (he:∀b,PE (cxC X N scope b) elt (te b)) (hs:∀x,foldedSetIterable iter X.env x=pure x) (I:Inv X pins σ H s) (h:xC wi own fr g tf te σ H Q)
  (fin:∀(D C:Addr) (oC:Obj) (m:Str->Option Value) (H':Hp) (s':Shared),Inv X (pins ++ [(C,oC)]) σ H' s'->X.s₀.heap.objs.size <= C->(∀p ∈ X.pn ++ pins,p.1 ≠ C)->(∀h':Heap,h'.get? C=some oC->h'.Ns C m)->Q (.ref D) H'->compPost (model X.prog X.w) X.A X.xe use R (.ref D) C (.ok .next) s') :
  wpAny (model X.prog X.w) X.A (comprehension (.ListComp elt [⟨tg,iter,ifs,0⟩] scope pos) scope X.env (firstIterPos [⟨tg,iter,ifs,0⟩] pos) (newList []) false (eval iter X.env) use) R X.xe s:=by
 refine wpAny_comprehension_free rfl hs (mO (S.cells I.ok)) S.kind (fun x hx hk=>?_) (thn (hi pins s σ H _ I h) fun v s1 h1=>thn h1 fun itv s2 h2=>?_)
 ·have:=fR S.nd (show (x.1,x.2) ∈ scope.names from hx)
  rw [this,hk]
 obtain ⟨it,fp,tn,J,H2,e,I2,T,st2,f2,q⟩:=h2
 subst e
 refine wpAny_newObj_type ?_
 refine sE ?_
 have eD:(s2.heap.push { cls:=.type "list",data:=.seq #[] }).objs.size=s2.heap.objs.size + 1:=Heap.size_push ..
 have hD:H2 s2.heap.objs.size=none:=I2.hok.fresh (Nat.le_refl _)
 have hlt:∀b ∈ fp,b < s2.heap.objs.size:=fun b hb=>by
  obtain ⟨o,ho,_⟩:=T.obj 0 _ st2 b hb
  exact Heap.lt_size ho
 obtain ⟨W,⟨m0,w0⟩,turn⟩:=q.go ⟨s2.heap.objs.size + 1,fp,s2,H2⟩ s2.heap.objs.size hD
 have IX:=xO (fp:=fp) S I2 rfl rfl rfl f2 hlt
 have st4:tn 0 (pushCells ((s2.heap.push { cls:=.type "list",data:=.seq #[] }).push { cls:=.type "dict",data:=.dict #[] }) scope.names) :=
  T.keep 0 _ _ st2 fun b _ o e=>pushCells_keeps _ _ _ _ (Heap.get?_push_of_some _ (Heap.get?_push_of_some _ e))
 have fr0:∀b ∈ fp,upd H2 s2.heap.objs.size (.lst []) b=none:=fun b hb=>by
  rw [aK (Nat.ne_of_lt (hlt b hb))]
  exact (f2 b hb).1
 have cne:∀b ∈ fp,∀x c,(cxC X N scope ⟨s2.heap.objs.size + 1,fp,s2,H2⟩).env.cells.lookup x=some c->c ≠ b:=fun b hb=>((IX.ok.exf b hb).2)
 have stat:∀{H':Hp},(∀b ∈ fp,H' b=none)->∀b ∈ fp,oS (cxC X N scope ⟨s2.heap.objs.size + 1,fp,s2,H2⟩) [] H' b:=fun hn b hb =>
  ⟨hn b hb,(IX.ok.exf b hb).1,IX.ok.xM b hb,.inl hb,cne b hb,fun p hp=>absurd (show p ∈ ([]:List (Addr × Obj)) from hp) (by simp)⟩
 have e4:∀cenv:Env,cenv=newEnv scope (s2.heap.push { cls:=.type "list",data:=.seq #[] }).objs.size X.env.globals (cellsFrom ((s2.heap.push { cls:=.type "list",data:=.seq #[] }).objs.size + 1) scope.names (oA X.env scope.names)) X.env.qual none .none (some X.env) builtinsNs ->
   ({ cenv with scope:=relabel scope X.env }:Env)=(cxC X N scope ⟨s2.heap.objs.size + 1,fp,s2,H2⟩).env/\cenv.locals=s2.heap.objs.size + 1:=fun cenv e=>by
  subst e
  rw [eD]
  exact ⟨rfl,rfl⟩
 obtain ⟨e5,e6⟩:=e4 _ rfl
 have loop:codeAny (model X.prog X.w) X.A (.compLoop (.ListComp elt [⟨tg,iter,ifs,0⟩] scope pos) 0 (.ref it) (.ref s2.heap.objs.size) (cxC X N scope ⟨s2.heap.objs.size + 1,fp,s2,H2⟩).env)
   (compPost (model X.prog X.w) X.A X.xe use R (.ref s2.heap.objs.size) (s2.heap.objs.size + 1)) { s2 with heap:=pushCells ((s2.heap.push { cls:=.type "list",data:=.seq #[] }).push { cls:=.type "dict",data:=.dict #[] }) scope.names }:=by
  refine qF (fun n s'=>∃i σ' H',Inv (cxC X N scope ⟨s2.heap.objs.size + 1,fp,s2,H2⟩) [] σ' H' s'/\tn i s'.heap/\(∀b ∈ fp,H' b=none)/\W i n σ' H') ?_ m0 ⟨0,_,_,IX,st4,fr0,w0⟩
  rintro n s5 ⟨i,σ5,H5,I5,st5,fr5,w5⟩
  rcases turn i n σ5 H5 w5 with ⟨stop,qn⟩ | ⟨go,M,hM,step⟩
  ·refine thn (T.done (cxC X N scope ⟨s2.heap.objs.size + 1,fp,s2,H2⟩) rfl rfl rfl hc i [] s5 σ5 H5 (fun _ _=>False) I5 (stat fr5) st5 stop) fun r s6 ⟨hr,I6⟩=>?_
   subst hr
   obtain ⟨m,hn,_⟩:=I6.loc
   obtain ⟨oC,es,ep,hoC,hd,hk,hm⟩:=id hn
   have IB:Inv X pins σ H5 s6:=I2.Ct (ch:=fp) I6.os I6.base I6.hok I6.bare fun b hb=>⟨(f2 b hb).2.2.2.1,(f2 b hb).2.1,(f2 b hb).2.2.2.2.1,(f2 b hb).2.2.2.2.2⟩
   have young:s2.heap.objs.size <= s2.heap.objs.size + 1:=Nat.le_succ _
   refine fin s2.heap.objs.size (s2.heap.objs.size + 1) oC m H5 s6 (IB.qL fun p hp=>?_) (Nat.le_trans I2.sz young) (fun p hp=>Nat.ne_of_lt (Nat.lt_of_lt_of_le (Heap.lt_size (I2.pin p hp).1) young)) (fun h' e=>⟨oC,es,ep,e,hd,hk,hm⟩) qn
   rcases List.mem_append.mp hp with z | z
   ·exact IB.pin p (List.mem_append_right _ z)
   ·have ep':p=(s2.heap.objs.size + 1,oC):=by simpa using z
    subst ep'
    exact ⟨hoC,I6.free,Nat.ne_of_gt (Nat.lt_of_lt_of_le I2.lt young),I2.CF young,fun v z=>by rw [hd] at z;cases z⟩
  ·refine thn (T.item (cxC X N scope ⟨s2.heap.objs.size + 1,fp,s2,H2⟩) rfl rfl rfl hc i [] s5 σ5 H5 (fun _ _=>False) I5 (stat fr5) st5 go) fun r s6 ⟨u,hr,h6⟩=>?_
   subst hr
   refine thn h6 fun _ s7 ⟨x,H7,I7,r7,y7,st7,fr7⟩=>?_
   have I7':=I7.pinned (stat fr7) (T.obj _ _ st7)
   refine thn (hg _ _ s7 σ5 H7 x u _ I7' r7 (step x H7 y7)) fun _ s8 ⟨σ8,H8,I8,q8⟩=>?_
   refine thn (hf _ _ s8 σ8 H8 _ I8 q8) fun k s9 ⟨H9,I9,q9⟩=>?_
   have again:∀{H10:Hp}{s10:Shared},Inv (cxC X N scope ⟨s2.heap.objs.size + 1,fp,s2,H2⟩) ([] ++ nU fp s7.heap) σ8 H10 s10->M σ8 H10 ->
     ∃m,m < n/\∃i σ' H',Inv (cxC X N scope ⟨s2.heap.objs.size + 1,fp,s2,H2⟩) [] σ' H' s10/\tn i s10.heap/\(∀b ∈ fp,H' b=none)/\W i m σ' H':=fun {H10 s10} I10 q10=>by
    obtain ⟨m',hm,w10⟩:=hM σ8 H10 q10
    refine ⟨m',hm,i + 1,σ8,H10,I10.jJ,T.keep _ _ _ st7 fun b hb o e=>(I10.pin (b,o) (List.mem_append_right _ (List.mem_append_right _ (iQ hb e)))).1,fun b hb=>?_,w10⟩
    obtain ⟨o,e,d⟩:=T.obj _ _ st7 b hb
    exact (I10.pin (b,o) (List.mem_append_right _ (List.mem_append_right _ (iQ hb e)))).2.1
   cases k with
   | false=>exact again I9 q9
   | true =>
    refine thn (he _ _ s9 σ8 H9 _ I9 q9) fun w10 s10 ⟨y,H10,I10,r10,ys,hys,hz,q10⟩=>?_
    refine thn (pI _ s10 σ8 H10 (.ref s2.heap.objs.size) [y] (.ref s2.heap.objs.size) [w10] (fun _ H'=>M σ8 H') I10 rfl (.cons r10 .nil) ⟨_,ys,y,rfl,rfl,hys,hz,q10⟩) fun _ s11 ⟨_,H11,I11,_,q11⟩=>?_
    exact again I11 q11
 have go:codeAny (model X.prog X.w) X.A (.compStart (.ListComp elt [⟨tg,iter,ifs,0⟩] scope pos) 0 (.ref it) (.ref s2.heap.objs.size) (cxC X N scope ⟨s2.heap.objs.size + 1,fp,s2,H2⟩).env)
   (compPost (model X.prog X.w) X.A X.xe use R (.ref s2.heap.objs.size) (s2.heap.objs.size + 1)) { s2 with heap:=pushCells ((s2.heap.push { cls:=.type "list",data:=.seq #[] }).push { cls:=.type "dict",data:=.dict #[] }) scope.names } :=
  codeAny_compStart_list loop (T.self _ 0 _ _ _ st4 loop)
 have fin2:∀(env':Env) (L:Addr),env'=(cxC X N scope ⟨s2.heap.objs.size + 1,fp,s2,H2⟩).env->L=s2.heap.objs.size + 1 ->
   codeAny (model X.prog X.w) X.A (.compStart (.ListComp elt [⟨tg,iter,ifs,0⟩] scope pos) 0 (.ref it) (.ref s2.heap.objs.size) env') (compPost (model X.prog X.w) X.A X.xe use R (.ref s2.heap.objs.size) L)
    { s2 with heap:=pushCells ((s2.heap.push { cls:=.type "list",data:=.seq #[] }).push { cls:=.type "dict",data:=.dict #[] }) scope.names }:=by
  intro env' L h1 h2
  subst h1 h2
  exact go
 exact fin2 _ _ e5 e6
theorem pT {pins:List (Addr × Obj)}{C:Addr}{oC:Obj}{σ':St}{H':Hp}{s':Shared}{h':Heap} (I:Inv X (pins ++ [(C,oC)]) σ' H' s') (hy:X.s₀.heap.objs.size <= C) (hp:∀p ∈ X.pn ++ pins,p.1 ≠ C) (sb:Heap.SameBut C s'.heap h') :
  Inv X pins σ' H' { s' with heap:=h' }:=by
 have pC:=I.pin (C,oC) (List.mem_append_right _ (List.mem_append_right _ (by simp)))
 have I2:Inv X pins σ' H' s':=I.jJ
 refine I2.turned (it:=C) (t':=s'.toks) (fun b o hb e=>(sb.2 b hb).trans e) pC.2.1 pC.2.2.1 (.inr hy) (fun x c e z=>?_) hp
 obtain ⟨v,o,ho,hd⟩:=I2.cell x c e
 rw [z,pC.1] at ho
 cases ho
 exact pC.2.2.2.2 v hd
theorem j7 (S:dC X.env.scope X.N N own fr scope) (hc:X.calm=true) (hi:PI X tg iter wi) (hg:∀b,PG (cxC X N scope b) tg (g b)) (hf:∀b,PF (cxC X N scope b) ifs (tf b)) (he:∀b,PE (cxC X N scope b) elt (te b))
  (hs:∀x,foldedSetIterable iter X.env x=pure x:=by intro _;rfl):PE X (.ListComp elt [⟨tg,iter,ifs,0⟩] scope pos) (xC wi own fr g tf te):=by
 intro pins s σ H Q I h
 rw [eval_ListComp]
 refine rg (use:=none) S hc hi hg hf he hs I h fun D C oC m H' s' I' hy hp hm q=>?_
 have pC:=I'.pin (C,oC) (List.mem_append_right _ (List.mem_append_right _ (by simp)))
 exact ⟨m,hm _ pC.1,fun h' sb=>⟨.ref D,H',pT I' hy hp sb,rfl,q⟩⟩
theorem oY {j:Nat}{y:Str}{py spos:Pos} (S:dC X.env.scope X.N N own fr scope) (hc:X.calm=true) (hN:X.N.Nodup) (hj:X.N[j]?=some y) (hy:Loc X.env.scope y) (hi:PI X tg iter wi) (hg:∀b,PG (cxC X N scope b) tg (g b)) (hf:∀b,PF (cxC X N scope b) ifs (tf b))
  (he:∀b,PE (cxC X N scope b) elt (te b)) (hfn:X.fn y=true \/ X.env.scope.names.lookup y=some .local:=by first | exact .inl rfl | exact .inr rfl | assumption) (hs:∀x,foldedSetIterable iter X.env x=pure x:=by intro _;rfl)
  (hsw:swapsWith (.ListComp elt [⟨tg,iter,ifs,0⟩] scope pos) (some (.Name y py)) spos.line X.env=pure true:=by rfl) :
  PS X (.Assign [.Name y py] (.ListComp elt [⟨tg,iter,ifs,0⟩] scope pos) spos) (zM (xC wi own fr g tf te) (jc j)):=by
 intro pins s σ H D I h
 rw [exec_Assign_Name_used _ _ _ _ hsw]
 refine wpAny_bind (wpAny_standAt (wpAny_bind ?_))
 show wpAny _ _ (do let _ <- comprehension (.ListComp elt [⟨tg,iter,ifs,0⟩] scope pos) scope X.env _ (newList []) false (eval iter X.env) (some (assign (.Name y py) X.env))) _ _ s
 refine wpAny_bind (thn (rg (use:=some (assign (.Name y py) X.env)) (R:=fun _ s'=>SP X pins D .next s') S hc hi hg hf he hs I h fun D' C oC m H' s' I' hy' hp hm q=>?_) fun _ s' q=>wpAny_pure (wpAny_pure q))
 show wpAny _ _ (assign (.Name y py) X.env (.ref D')) _ _ s'
 refine thn (vb hN hj hy hfn _ s' σ H' (.ref D') (.ref D') _ I' rfl q) fun _ s'' ⟨σ2,H2,I2,q2⟩=>?_
 have pC:=I2.pin (C,oC) (List.mem_append_right _ (List.mem_append_right _ (by simp)))
 exact ⟨m,hm _ pC.1,fun h' sb=>⟨σ2,H2,pT I2 hy' hp sb,q2⟩⟩
end
end L2
namespace L2
open PySem PySem.Spec PyProof.Rows
theorem PE.imp {X:Cx}{e:Expr}{t t':TE} (h:PE X e t) (k:∀σ H Q,t' σ H Q->t σ H Q):PE X e t':=fun pins s σ H Q I q=>h pins s σ H Q I (k σ H Q q)
theorem OpR.imp {X:Cx}{f:Value->Value->Sem Value}{r r':R2} (h:OpR X f r) (k:∀x y H Q,r' x y H Q->r x y H Q):OpR X f r':=fun pins s σ H x y v u Q I rx ry q=>h pins s σ H x y v u Q I rx ry (k x y H Q q)
def zQ (i:Nat):TE:=fun σ H Q=>match σ[i]? with
 | some (some v)=>Q v H
 | _=>False
section
variable {X:Cx}
theorem fv (i:Nat) {x:Str}{pos:Pos} (hN:X.N[i]?=some x:=by rfl) (hv:Vis X.env.scope x:=by first | exact Or.inl rfl | exact Or.inr (Or.inl rfl) | exact Or.inr (Or.inr rfl)) (hd:(x == ("__debug__":Str))=false:=by decide)
  (hcd:(x == ("__classdict__":Str))=false:=by decide):PE X (.Name x pos) (zQ i):=(Az hN hv hd hcd).imp fun σ H Q q=>by
 unfold zQ at q
 cases e:σ[i]? with
 | none=>rw [e] at q;exact q.elim
 | some o =>
  cases o with
  | none=>rw [e] at q;exact q.elim
  | some v=>rw [e] at q;exact ⟨v,e,q⟩
def CS:R2:=fun x y H Q=>match x,y with
 | .int i,.int j=>Q (.int (i + j)) H
 | .str a,.str b=>a.length + b.length <= sizeLine/\Q (.str (a ++ b)) H
 | .ref p,.ref q=>Cy (.ref p) (.ref q) H Q
 | _,_=>False
theorem bf:OpR X (binaryOp .Add) CS:=by
 intro pins s σ H x y v u Q I rx ry h
 cases x with
 | int i =>
  cases y with
  | int j=>exact AQ pins s σ H _ _ v u Q I rx ry ⟨i,j,rfl,rfl,h⟩
  | _=>exact (show False from h).elim
 | str a =>
  cases y with
  | str b=>exact tw pins s σ H _ _ v u Q I rx ry ⟨a,b,rfl,rfl,h.1,h.2⟩
  | _=>exact (show False from h).elim
 | ref p =>
  cases y with
  | ref q=>exact BC pins s σ H _ _ v u Q I rx ry h
  | _=>exact (show False from h).elim
 | _=>cases y <;> exact (show False from h).elim
def o8 (C:Int->Int->Prop) (g:Int->Int->V):R2:=fun x y H Q=>match x,y with
 | .int i,.int j=>C i j/\Q (g i j) H
 | _,_=>False
def i8 (g:Int->Int->V):R2:=fun x y H Q=>match x,y with
 | .int i,.int j=>Q (g i j) H
 | _,_=>False
theorem OpR.o8 {f:Value->Value->Sem Value}{C:Int->Int->Prop}{g:Int->Int->V} (h:OpR X f (rI C g)):OpR X f (o8 C g):=h.imp fun x y H Q q=>by
 cases x with
 | int i =>
  cases y with
  | int j=>exact ⟨i,j,rfl,rfl,q.1,q.2⟩
  | _=>exact (show False from q).elim
 | _=>cases y <;> exact (show False from q).elim
theorem OpR.i8 {f:Value->Value->Sem Value}{g:Int->Int->V} (h:OpR X f (rI0 g)):OpR X f (i8 g):=h.imp fun x y H Q q=>by
 cases x with
 | int i =>
  cases y with
  | int j=>exact ⟨i,j,rfl,rfl,q⟩
  | _=>exact (show False from q).elim
 | _=>cases y <;> exact (show False from q).elim
theorem mJ:OpR X (binaryOp .Sub) (i8 fun i j=>.int (i - j)):=Br.i8
theorem Co:OpR X (binaryOp .Mult) (o8 xF fun i j=>.int (i * j)):=By.o8
def Ae (_ j:Int):Prop:=0 < j/\j < 2 ^ 64
theorem zX {j:Int} (h:Ae 0 j):j.natAbs.log2 < 9000:=by
 have h1:j.natAbs < 2 ^ 64:=by
  have h2:j < 2 ^ 64:=h.2
  have h3:0 < j:=h.1
  omega
 have h0:j.natAbs ≠ 0:=by have h3:0 < j:=h.1;omega
 have:=(Nat.log2_lt h0).mpr h1
 omega
theorem bU:OpR X (binaryOp .FloorDiv) (o8 Ae fun i j=>.int (i / j)):=(opI fun i j _ _ _ _ _ hc q=>by
 have h1:(0:Int) < j:=hc.1
 exact floordiv_int (by omega) (by rw [Int.fdiv_eq_ediv_of_nonneg i (by omega)];exact q) (.inl (PyProof.noPylong_of_log2 (zX hc)))).o8
theorem bI:OpR X (binaryOp .Mod) (o8 (fun _ j=>0 < j) fun i j=>.int (i % j)):=AX.o8
theorem sv:OpR X (binaryOp .Pow) (o8 B7 fun i j=>.int (i ^ j.toNat)):=A0.o8
theorem Bg:OpR X (compareOp .Lt) (i8 fun i j=>.bl (decide (i < j))):=CA.i8
theorem zJ:OpR X (compareOp .LtE) (i8 fun i j=>.bl (decide (i <= j))):=B4.i8
theorem sY:OpR X (compareOp .Gt) (i8 fun i j=>.bl (decide (j < i))):=CP.i8
theorem Dq:OpR X (compareOp .GtE) (i8 fun i j=>.bl (decide (j <= i))):=CT.i8
mutual
inductive jd (K:W.Frag) (H:Hp):V->PyData->Prop where
 | non:jd K H .non .none
 | bl (b:Bool):jd K H (.bl b) (.bool b)
 | int (i:Int):jd K H (.int i) (.int i)
 | str (x:Str):jd K H (.str x) (.str x)
 | lst {a:Addr}{xs:List V}{ds:List PyData} (h:SqL K H a xs) (r:dJ K H xs ds):jd K H (.ref a) (.list ds)
 | tup {a:Addr}{xs:List V}{ds:List PyData} (h:SqT K H a xs) (r:dJ K H xs ds):jd K H (.ref a) (.tuple ds)
inductive dJ (K:W.Frag) (H:Hp):List V->List PyData->Prop where
 | nil:dJ K H [] []
 | cons {x:V}{xs:List V}{d:PyData}{ds:List PyData} (h:jd K H x d) (r:dJ K H xs ds):dJ K H (x :: xs) (d :: ds)
end
mutual
theorem Inv.reads {pins:List (Addr × Obj)}{σ:St}{H:Hp}{s:Shared} (I:Inv X pins σ H s):∀{x:V}{d:PyData}{u:Value},jd X.K H x d->RelV x u->∃as,Reads s.heap u d as
 | _,_,_,.non,r=>by cases r;exact ⟨_,.none⟩
 | _,_,_,.bl b,r=>by cases r;exact ⟨_,.bool b⟩
 | _,_,_,.int i,r=>by obtain ⟨t,rfl⟩:=r;exact ⟨_,.int i t⟩
 | _,_,_,.str x,r=>by obtain ⟨t,rfl⟩:=r;exact ⟨_,.str x t⟩
 | _,_,_,.lst h q,r=>by
  cases r
  obtain ⟨its,rv,⟨o,n,e,hc,_,hd⟩,_⟩:=I.list h
  obtain ⟨as,z⟩:=I.readsAll q rv
  exact ⟨_,.list e hc hd (by simpa using z)⟩
 | _,_,_,.tup h q,r=>by
  cases r
  obtain ⟨its,rv,⟨o,e,hc,n,hd⟩,_⟩:=I.tuple h
  obtain ⟨as,z⟩:=I.readsAll q rv
  exact ⟨_,.tuple e hc hd (by simpa using z)⟩
theorem Inv.readsAll {pins:List (Addr × Obj)}{σ:St}{H:Hp}{s:Shared} (I:Inv X pins σ H s):∀{xs:List V}{ds:List PyData}{us:List Value},dJ X.K H xs ds->Vals xs us->∃as,ReadsAll s.heap us ds as
 | _,_,_,.nil,r=>by cases r;exact ⟨_,.nil⟩
 | _,_,_,.cons h q,r=>by
  cases r with
  | cons r1 r2 =>
   obtain ⟨as,z⟩:=I.reads h r1
   obtain ⟨bs,z2⟩:=I.readsAll q r2
   exact ⟨_,.cons z z2⟩
end
def fEq (K:W.Frag):R2:=fun x y H Q=>match x,y with
 | .ref p,.ref q=>∃d e,jd K H (.ref p) d/\jd K H (.ref q) e/\SeqAt.shaped d=true/\SeqAt.shaped e=true/\Q (.bl (PyData.eqv d e)) H
 | x,y=>vK x y=true/\Q (.bl (decide (x=y))) H
def fNe (K:W.Frag):R2:=fun x y H Q=>match x,y with
 | .ref p,.ref q=>∃d e,jd K H (.ref p) d/\jd K H (.ref q) e/\SeqAt.shaped d=true/\SeqAt.shaped e=true/\Q (.bl (!PyData.eqv d e)) H
 | x,y=>vK x y=true/\Q (.bl (!decide (x=y))) H
theorem DH (hu:X.A.units + 64 < cLine):OpR X (compareOp .Eq) (fEq X.K):=by
 intro pins s σ H x y v u Q I rx ry h
 by_cases hr:∃p q,x=V.ref p/\y=V.ref q
 ·obtain ⟨p,q,rfl,rfl⟩:=hr
  obtain ⟨d,e,hd,he,sd,se,hq⟩:=h
  obtain ⟨as,z1⟩:=I.reads hd rx
  obtain ⟨bs,z2⟩:=I.reads he ry
  exact eq_dataH z1 z2 sd se hu ⟨.bl _,H,I,rfl,hq⟩
 ·refine Cu pins s σ H x y v u Q I rx ry ?_
  cases x <;> cases y <;> first | exact h | exact absurd ⟨_,_,rfl,rfl⟩ hr
theorem pq (hu:X.A.units + 64 < cLine):OpR X (compareOp .NotEq) (fNe X.K):=by
 intro pins s σ H x y v u Q I rx ry h
 by_cases hr:∃p q,x=V.ref p/\y=V.ref q
 ·obtain ⟨p,q,rfl,rfl⟩:=hr
  obtain ⟨d,e,hd,he,sd,se,hq⟩:=h
  obtain ⟨as,z1⟩:=I.reads hd rx
  obtain ⟨bs,z2⟩:=I.reads he ry
  exact ne_dataH z1 z2 sd se hu ⟨.bl _,H,I,rfl,hq⟩
 ·refine CJ pins s σ H x y v u Q I rx ry ?_
  cases x <;> cases y <;> first | exact h | exact absurd ⟨_,_,rfl,rfl⟩ hr
theorem mU:OpR X (compareOp .Is) (fun x y H Q=>y=.non/\Q (.bl (decide (x=.non))) H):=As
theorem va:OpR X (compareOp .IsNot) (fun x y H Q=>y=.non/\Q (.bl (!decide (x=.non))) H):=yE
def fIx (K:W.Frag):R2:=fun x y H Q=>match x,y with
 | .ref p,.int i=>∃xs v,(SqL K H p xs \/ SqT K H p xs)/\atI xs i=some v/\Q v H
 | .str z,.int i=>∃c,z.length <= sizeLine/\atI z.cps.toList i=some c/\Q (.str ⟨#[c]⟩) H
 | _,_=>False
theorem yx:IxR X (fIx X.K):=by
 intro value slice pins s σ H x y v u Q I rx ry h hs
 cases x with
 | ref p =>
  cases y with
  | int i =>
   obtain ⟨xs,w,h1 | h1,h2,q⟩:=h
   ·exact yY value slice pins s σ H _ _ v u Q I rx ry ⟨p,xs,i,w,rfl,rfl,h1,h2,q⟩ hs
   ·exact Bc value slice pins s σ H _ _ v u Q I rx ry ⟨p,xs,i,w,rfl,rfl,h1,h2,q⟩ hs
  | _=>exact (show False from h).elim
 | str z =>
  cases y with
  | int i =>
   obtain ⟨c,h1,h2,q⟩:=h
   exact Bw value slice pins s σ H _ _ v u Q I rx ry ⟨z,i,c,rfl,rfl,h1,h2,q⟩ hs
  | _=>exact (show False from h).elim
 | _=>cases y <;> exact (show False from h).elim
def C0:V->Option Int->Option Int->Hp->VK->Prop:=fun x lo hi H Q=>∃z,x=.str z/\z.length <= sizeLine/\Q (.str (Txt.slice z lo hi)) H
def Its (x:Str):It:=⟨fun i _=>i < x.cps.size,fun i H v H'=>H'=H/\∃c,x.cps[i]?=some c/\v=.str ⟨#[c]⟩,fun i _=>x.cps.size <= i⟩
theorem ya {P:Program}{w:World}{K:PySem.W.Frag}{tg:Expr}{T:String} (hT:T="str_ascii_iterator" \/ T="str_iterator") (it:Addr) (x:Str) (t:Tok):Turn P w K tg (Its x) [it] it (fun i h=>i <= x.cps.size/\h.IsStrIter it T x t i) where
 mem:=by simp
 obj:=fun i h st b hb=>by
  have e:b=it:=by simpa using hb
  subst e
  obtain ⟨_,o,e,c,d⟩:=st
  exact ⟨o,e,fun v z=>by rw [d] at z;cases z⟩
 keep:=fun i h h' st k=>by
  obtain ⟨hi,o,e,r⟩:=st
  exact ⟨hi,o,k it (by simp) o e,r⟩
 item:=by
  intro X hP hw hK hc i pins s σ H E I hf st hg
  subst hP hw hK
  obtain ⟨f0,f1,f2,f3,f4,f5⟩:=hf it (by simp)
  have W:Walks X.prog X.w X.A it [it] [it] x.cps.size (SignAt x) (fun i h=>h.IsStrIter it T x t i):=by
   rcases hT with rfl | rfl
   ·exact Walks.strAscii (I.ok.hd hc) it x t
   ·exact Walks.strWide (I.ok.hd hc) it x t
  refine W.item i s _ _ hg st.2 fun v h' tk hv st' kk=>?_
  obtain ⟨c,u,hcp,rfl⟩:=hv
  have I1:Inv X pins σ H { s with heap:=h',toks:=tk }:=I.turned (fun b o hb e=>kk b o (by simpa using hb) e) f0 f1 f3 f4 f5
  obtain ⟨o,e,c',d⟩:=id st'
  refine ⟨_,rfl,uL (s:={ s with heap:=h',toks:=tk }) e c' d (by rcases hT with rfl | rfl <;> decide) ⟨.str ⟨#[c]⟩,H,I1,⟨u,rfl⟩,⟨rfl,c,hcp,rfl⟩,⟨hg,st'⟩,fun b hb=>(hf b hb).1⟩⟩
 done:=by
  intro X hP hw hK hc i pins s σ H E I hf st hg
  subst hP hw hK
  obtain ⟨f0,f1,f2,f3,f4,f5⟩:=hf it (by simp)
  have W:Walks X.prog X.w X.A it [it] [it] x.cps.size (SignAt x) (fun i h=>h.IsStrIter it T x t i):=by
   rcases hT with rfl | rfl
   ·exact Walks.strAscii (I.ok.hd hc) it x t
   ·exact Walks.strWide (I.ok.hd hc) it x t
  have e:i=x.cps.size:=Nat.le_antisymm st.1 hg
  subst e
  exact W.done s _ _ st.2 fun h' tk kk=>⟨rfl,I.turned (fun b o hb e=>kk b o (by simpa using hb) e) f0 f1 f3 f4 f5⟩
 self:=fun A i s Q E st h=>by
  rcases hT with rfl | rfl
  ·exact wpAny_pyIter_striter_ascii st.2 h
  ·exact wpAny_pyIter_striter_wide st.2 h
def De (K:W.Frag) (tl:TE):TI:=fun σ H R=>tl σ H fun x H1=>match x with
 | .ref a=>((∃xs,SqL K H1 a xs)/\R (Itl K a) H1) \/ ((∃xs,SqT K H1 a xs)/\R (Itt K a) H1)
 | .str z=>R (Its z) H1
 | _=>False
theorem eu {tg l:Expr}{tl:TE} (hl:PE X l tl):PI X tg l (De X.K tl):=by
 intro pins s σ H R I h
 refine thn (hl pins s σ H _ I h) fun v s1 ⟨x,H1,I1,r1,q1⟩=>?_
 cases x with
 | ref a =>
  cases r1
  rcases q1 with ⟨⟨xs,hq⟩,q⟩ | ⟨⟨xs,hq⟩,q⟩
  ·obtain ⟨its,rv,p,hz⟩:=I1.list hq
   refine wpAny_pyIter_list p.isList ?_
   refine ⟨s1.heap.objs.size,[s1.heap.objs.size],_,_,H1,rfl,I1.kept (t':=s1.toks) fun b o e=>Heap.get?_push_of_some _ e,wB a _,⟨_,Heap.get?_push_size _ rfl,rfl,rfl⟩,fun b hb=>?_,q⟩
   have e:b=s1.heap.objs.size:=by simpa using hb
   subst e
   exact I1.tM (Nat.le_refl _) (I1.hok.fresh (Nat.le_refl _))
  ·obtain ⟨its,rv,p,hz⟩:=I1.tuple hq
   refine wpAny_pyIter_tuple (show s1.heap.IsTuple a its.toArray from p) ?_
   refine ⟨s1.heap.objs.size,[s1.heap.objs.size],_,_,H1,rfl,I1.kept (t':=s1.toks) fun b o e=>Heap.get?_push_of_some _ e,tR a _,⟨_,Heap.get?_push_size _ rfl,rfl,rfl⟩,fun b hb=>?_,q⟩
   have e:b=s1.heap.objs.size:=by simpa using hb
   subst e
   exact I1.tM (Nat.le_refl _) (I1.hok.fresh (Nat.le_refl _))
 | str z =>
  obtain ⟨t,rfl⟩:=r1
  refine wpAny_pyIter_strU ?_
  refine ⟨s1.heap.objs.size,[s1.heap.objs.size],_,_,H1,rfl,I1.kept (t':=s1.toks) fun b o e=>Heap.get?_push_of_some _ e,ya (T:=strIterType z) ?_ _ z t,⟨Nat.zero_le _,_,Heap.get?_push_size _ rfl,rfl,rfl⟩,fun b hb=>?_,q1⟩
  ·unfold strIterType
   split
   ·exact .inl rfl
   ·exact .inr rfl
  ·have e:b=s1.heap.objs.size:=by simpa using hb
   subst e
   exact I1.tM (Nat.le_refl _) (I1.hok.fresh (Nat.le_refl _))
 | _=>exact (show False from q1).elim
theorem b9 {a:Expr}{ta:TE} (ha:PE X a ta) (he:∀whole,isTrue a X.env whole=(do let v <- whole;standAt a.pos;holding [v] (truthy v))) :
  PT X a (fun σ H Q=>ta σ H fun x H'=>∃k,zB X.K x H' k/\Q k H'):=xX ha he
theorem y4 {a:Expr}{ta:TE}{pos:Pos} (ha:PE X a ta):PE X (.UnaryOp .Not a pos) (fun σ H Q=>ta σ H fun x H1=>∃k,zB X.K x H1 k/\Q (.bl (!k)) H1):=by
 intro pins s σ H Q I h
 refine UnaryOp_ (thn (ha pins s σ H _ I h) fun v s1 ⟨x,H1,I1,r1,q1⟩=>?_)
 obtain ⟨k,ht,q⟩:=q1
 exact not_of (thn (xq pins s1 σ H1 x v (fun b H2=>Q (.bl (!b)) H2) I1 r1 ⟨k,ht,q⟩) fun b s2 ⟨H2,I2,q2⟩=>⟨.bl (!b),H2,I2,rfl,q2⟩)
theorem BW:eo X (.builtin "len") (fun xs H Q=>∃x n,xs=[x]/\Aw X.K x H n/\Q (.int n) H):=wO
theorem ic:eo X (.type "list") (fun xs H Q=>∃p ys,xs=[.ref p]/\(SqL X.K H p ys \/ SqT X.K H p ys)/\∀l,H l=none->Q (.ref l) (upd H l (.lst ys))):=qU
theorem wC {bs:List Bool}{its:List Value} (r:Vals (bs.map V.bl) its) {i:Nat}{v:Value} (h:its[i]?=some v):∃b,bs[i]?=some b/\v=.bool b:=by
 have hi:i < its.length:=(List.getElem?_eq_some_iff.mp h).1
 have hl:=r.length
 rw [List.length_map] at hl
 have hb:bs[i]?=some bs[i]:=List.getElem?_eq_getElem (by omega)
 obtain ⟨u,hu,ru⟩:=r.get (i:=i) (x:=V.bl bs[i]) (by rw [List.getElem?_map,hb];rfl)
 rw [h] at hu
 cases hu
 exact ⟨_,hb,ru⟩
theorem Af (hc:X.calm=true:=by rfl):eo X (.builtin "all") (fun xs H Q=>∃(p:Addr) (bs:List Bool),xs=[.ref p]/\SqL X.K H p (bs.map V.bl)/\Q (.bl (bs.all id)) H):=by
 intro pins s σ H xs us Q I r h
 obtain ⟨p,bs,rfl,hq,q⟩:=h
 obtain ⟨u,rfl,rx⟩:=vals1 r
 cases rx
 obtain ⟨its,rv,pl,hz⟩:=I.list hq
 have hl:=pl.isList
 have hlt:p < s.heap.objs.size:=by obtain ⟨_,e,_⟩:=hl;exact Heap.lt_size e
 have hlen:its.toArray.size=bs.length:=by have:=rv.length;rw [List.length_map] at this;rw [List.size_toArray];omega
 refine call_all_walk (wpAny_pyIter_list hl ?_)
 refine ⟨s.heap.objs.size,[s.heap.objs.size,p],[s.heap.objs.size],its.toArray.size,_,_,fun i=>(bs[i]?).getD true,rfl,Walks.list (A:=X.A.in1) (I.ok.hd hc) _ p (Nat.ne_of_lt hlt) its.toArray,
  ⟨⟨_,Heap.get?_push_size _ rfl,rfl,rfl⟩,hl.push _⟩,fun i v s' Q' E' hP hQ=>?_,fun h' tk hk=>?_⟩
 ·obtain ⟨b,e,rfl⟩:=wC rv (by simpa using hP)
  simp only [e,Option.getD_some] at hQ
  exact wpAny_truthy_bool hQ
 ·rw [hlen,LSm.range_all bs]
  exact ⟨.bl _,H,I.kept (LSm.kept_iter hk),rfl,q⟩
def z7:V->Value
 | .ty n=>.type n
 | .ref a=>.ref a
 | _=>.none
theorem yh {y:V}{u:Value} (r:RelV y u) (h:z7 y ≠ .none):u=z7 y:=by
 cases y with
 | ty n=>exact r
 | ref a=>exact r
 | _=>exact absurd rfl h
theorem bA:eo X (.builtin "isinstance") (fun xs H Q=>∃x y t b,xs=[x,y]/\z7 y ≠ .none/\jo X.K H x t/\W.kitOne X.K t (z7 y)=some b/\Q (.bl b) H):=by
 intro pins s σ H xs us Q I r h
 obtain ⟨x,y,t,b,rfl,hy,ty,e,q⟩:=h
 obtain ⟨u,w',rfl,rx,ry⟩:=vals2 r
 rw [yh ry hy]
 exact wx I rx ty e fun tk=>⟨.bl b,H,I.tok _,rfl,q⟩
theorem b8 {o e:Expr}{to:TE}{t:TA}{apos cpos:Pos} (ho:PE X o to) (ha:PA X [e] t) (hbase:attributeBase o "append" X.env (eval o X.env)=eval o X.env:=by rfl)
  (hfew:((backTo cpos (starEach [e] X.env)).all (fun x=>!x.1) && (backToKw cpos (keywordEach [] X.env)).all (fun x=>x.1.isSome)
   && decide ([e].length + ([]:List Keyword).length + (if ([]:List Keyword).isEmpty then 0 else 1) < 30))=true:=by rfl)
  (hline:(apos.endLine == cpos.line)=true:=by rfl) (hs:starEach [e] X.env=(false,eval e X.env) :: starEach [] X.env:=by rfl) (hplain:(backTo cpos (starEach [] X.env)).any (·.1)=false:=by rfl) :
  PE X (.Call (.Attribute o "append" apos) [e] [] cpos) (tBM X.K "list" u4 to t):=Ac PySem.F.plainAttrs_list PySem.F.slot_list_append PySem.F.type_list_append pI ho ha hbase hfew hline hs hplain
end
def Has (P:Program) (w:World) (K:W.Frag) (mg:Str->Option Value) (base:Heap) (k:Nat) (x:Str) (ps:List Str) (sp:Sp):Prop :=
 ∃f fd,ka P w K mg base CX0 k f fd ps sp/\Binds K fd ps []/\W.keepIn K (.ref f)=true/\mg x=some (.ref f)/\∃oc od osl,K.lookup f=some ⟨oc,od,.func fd,osl⟩
structure bM (K:W.Frag) (mg:Str->Option Value) (x:Str) (st:Stmt) (ps:List Str):Prop where
 ex:∃f fd,Fun K x x st f fd/\Binds K fd ps []/\mg x=some (.ref f)
theorem ao {X:Cx}{j k:Nat}{x:Str}{ps:List Str}{sp:Sp}{e:Expr}{es:List Expr}{t:TA}{p pos:Pos} (D:Has X.prog X.w X.K X.mg X.base j x ps sp) (hr:eP k X.A) (ha:PA X (e :: es) t) (hj:j <= k:=by decide) (hg:Gl X x:=by rfl)
  (hdb:(x == ("__debug__":Str))=false:=by decide) (he:starEach (e :: es) X.env=(false,eval e X.env) :: starEach es X.env:=by rfl) (hpl:(backTo pos (starEach es X.env)).any (·.1)=false:=by rfl) :
  PE X (.Call (.Name x p) (e :: es) [] pos) (xG sp [] E0 t):=by
 obtain ⟨f,fd,F,b,kp,m,_⟩:=D
 exact zO F (hr.mono hj) hg m kp b .nil r9 ha hdb he hpl
theorem bM.has {P:Program}{w:World}{K:W.Frag}{mg:Str->Option Value}{base:Heap}{x:Str}{st:Stmt}{N ps:List Str}{k:Nat}{sp:Sp} (F:bM K mg x st ps) (S:aB N ps (aq st)) (len:∀vs H Q E,sp vs H Q E->vs.length=ps.length)
  (hbody:∀(f:Addr) (cdv:Value) (A:Around) (outer:List Env) (s:Shared) (H:Hp) (vs:List V) (Q:VK) (E:XK),eP k (A.deeper (envOfC x (aq st) s.heap.objs.size f cdv))->(A.deeper (envOfC x (aq st) s.heap.objs.size f cdv)).units + 64 < cLine->sp vs H Q E ->
   ∃t,PSs (rF CX0 P w K mg base N x (aq st) f cdv A outer s H E).nox (cY st) t/\t { nx:=fun _ H'=>Q .non H',rt:=Q } (start N vs) H):Has P w K mg base (k + 1) x ps sp:=by
 obtain ⟨f,fd,F,b,m⟩:=F.ex
 obtain ⟨oc,od,kV,doc,pm,an,cdv,ct,osl,e,lk,hcd⟩:=F.ex
 exact ⟨f,fd,F.ok S len fun cdv A outer s H vs Q E hr h=>hbody f cdv A outer s H vs Q E hr hr.units h,b,F.kp,m,oc,od,osl,lk⟩
end L2
namespace L2
open PySem PySem.Spec PyProof.Rows
theorem ah.upd {H:Hp}{p:Addr} (h:H p=none) (o:HO):ah H (upd H p o):=fun b u q=>by rw [aK (dH q h)];exact q
theorem ah.tup {K:W.Frag}{H H':Hp}{a:Addr}{xs:List V} (e:ah H H') (h:SqT K H a xs):SqT K H' a xs:=by
 rcases h with (h | ⟨o,h⟩) | h
 ·exact .inl (.inl (e _ _ h))
 ·exact .inl (.inr ⟨o,e _ _ h⟩)
 ·exact .inr h
mutual
theorem ah.rep {K:W.Frag}{H H':Hp} (e:ah H H'):∀{x:V}{d:PyData},jd K H x d->jd K H' x d
 | _,_,.non=>.non
 | _,_,.bl b=>.bl b
 | _,_,.int i=>.int i
 | _,_,.str x=>.str x
 | _,_,.lst h r=>.lst (e.seq h) (e.ug r)
 | _,_,.tup h r=>.tup (e.tup h) (e.ug r)
theorem ah.ug {K:W.Frag}{H H':Hp} (e:ah H H'):∀{xs:List V}{ds:List PyData},dJ K H xs ds->dJ K H' xs ds
 | _,_,.nil=>.nil
 | _,_,.cons h r=>.cons (e.rep h) (e.ug r)
end
def cFr (fr:List Nat) (σ:St):St:=fr.map fun j=>(σ[j]?).getD none
theorem tV {J:It}{n:Nat}{x:Nat->V}{fr:List Nat}{tf:CB->TT}{te:CB->TE}{Q:VK}{σ:St}{H1:Hp} (p:Nat->Bool) (f:Nat->V) (hn:n < sizeLine)
  (stop:∀H,ah H1 H->J.stop n H) (go:∀i H,i < n->ah H1 H->J.go i H) (yld:∀i H v H',i < n->ah H1 H->J.yld i H v H'->H'=H/\v=x i)
  (hf:∀b i H (R:Bool->Hp->Prop),i < n->ah H1 H->(∀H',ah H H'->R (p i) H')->tf b (some (x i) :: cFr fr σ) H R)
  (he:∀b i H (R:VK),i < n->p i=true->ah H1 H->(∀H',ah H H'->R (f i) H')->te b (some (x i) :: cFr fr σ) H R)
  (fin:∀D H,H1 D=none->ah H1 H->H D=some (.lst (((List.range n).filter p).map f))->Q (.ref D) H):lL J 1 fr (fun _=>jc 0) tf te Q σ H1:=by
 refine ⟨fun b D hD=>?_⟩
 have lenf:∀i,(((List.range i).filter p).map f).length <= i:=fun i=>by
  rw [List.length_map]
  exact Nat.le_trans (List.length_filter_le _ _) (Nat.le_of_eq List.length_range)
 refine ⟨fun i m σ' H'=>m=n - i/\i <= n/\(∃v0,σ'=v0 :: cFr fr σ)/\ah H1 H'/\H' D=some (.lst (((List.range i).filter p).map f)),⟨n,rfl,Nat.zero_le _,⟨none,rfl⟩,ah.upd hD _,ar⟩,?_⟩
 rintro i m σ' H' ⟨rfl,hi,⟨v0,rfl⟩,sm,hl⟩
 by_cases hlt:i < n
 ·refine .inr ⟨go i H' hlt sm,fun σ2 H2=>(∃v0,σ2=v0 :: cFr fr σ)/\ah H1 H2/\H2 D=some (.lst (((List.range (i + 1)).filter p).map f)),fun σ2 H2 q=>⟨n - (i + 1),by omega,rfl,hlt,q⟩,fun v H2 y=>?_⟩
  obtain ⟨rfl,rfl⟩:=yld i H' v H2 hlt sm y
  show tf b (some (x i) :: cFr fr σ) _ _
  refine hf b i _ _ hlt sm fun H3 s3=>?_
  have e1:(List.range (i + 1)).filter p=(List.range i).filter p ++ (if p i then [i] else []):=by
   rw [List.range_succ,List.filter_append]
   congr 1
   cases hp:p i <;> simp [hp]
  cases hp:p i with
  | false =>
   rw [if_neg Bool.false_ne_true]
   refine ⟨⟨_,rfl⟩,sm.trans s3,?_⟩
   rw [s3 _ _ hl,e1,hp]
   simp
  | true =>
   rw [if_pos rfl]
   refine he b i _ _ hlt hp (sm.trans s3) fun H4 s4=>⟨_,s4 _ _ (s3 _ _ hl),?_,⟨_,rfl⟩,?_,?_⟩
   ·exact Nat.lt_of_le_of_lt (lenf i) (Nat.lt_trans hlt hn)
   ·have sm4:ah H1 H4:=sm.trans (s3.trans s4)
    intro c o q
    by_cases hc:c=D
    ·rw [hc,hD] at q;cases q
    ·rw [aK hc];exact sm4 c o q
   ·rw [ar,e1,hp]
    simp
 ·have e:i=n:=by omega
  subst e
  exact .inl ⟨stop H' sm,fin D H' hD sm hl⟩
theorem map_range {α:Type}{β:Type} (xs:List α) (d:α) (f:α->β):(List.range xs.length).map (fun i=>f (xs.getD i d))=xs.map f:=by
 apply List.ext_getElem?
 intro i
 rw [List.getElem?_map,List.getElem?_map]
 by_cases h:i < xs.length
 ·rw [List.getElem?_range h,List.getElem?_eq_getElem h]
  simp [List.getD,List.getElem?_eq_getElem h]
 ·rw [List.getElem?_eq_none (by simpa using h),List.getElem?_eq_none (by simpa using h)]
  rfl
theorem qo {α:Type}{β:Type} (p:α->Bool) (f:α->β) (d:α):∀(xs:List α),((List.range xs.length).filter fun i=>p (xs.getD i d)).map (fun i=>f (xs.getD i d))=(xs.filter p).map f:=by
 intro xs
 have e:=map_range xs d id
 have e2:xs=(List.range xs.length).map fun i=>xs.getD i d:=by simpa using e.symm
 have e3:xs.filter p=((List.range xs.length).filter fun i=>p (xs.getD i d)).map fun i=>xs.getD i d:=by
  conv=>lhs;rw [e2]
  rw [List.filter_map]
  rfl
 rw [e3,List.map_map]
 rfl
theorem wF {K:W.Frag}{a:Addr}{xs:List V}{fr:List Nat}{tf:CB->TT}{te:CB->TE}{Q:VK}{σ:St}{H1:Hp} (p:V->Bool) (f:V->V) (hx:SqL K H1 a xs) (hn:xs.length < sizeLine)
  (hf:∀b x H (R:Bool->Hp->Prop),x ∈ xs->ah H1 H->(∀H',ah H H'->R (p x) H')->tf b (some x :: cFr fr σ) H R)
  (he:∀b x H (R:VK),x ∈ xs->p x=true->ah H1 H->(∀H',ah H H'->R (f x) H')->te b (some x :: cFr fr σ) H R)
  (fin:∀D H,H1 D=none->ah H1 H->H D=some (.lst ((xs.filter p).map f))->Q (.ref D) H):lL (Itl K a) 1 fr (fun _=>jc 0) tf te Q σ H1:=by
 have mem:∀i,i < xs.length->xs.getD i .non ∈ xs:=fun i h=>by
  rw [List.getD_eq_getElem?_getD,List.getElem?_eq_getElem h]
  exact List.getElem_mem h
 refine tV (x:=fun i=>xs.getD i .non) (fun i=>p (xs.getD i .non)) (fun i=>f (xs.getD i .non)) hn (fun H s=>⟨xs,s.seq hx,Nat.le_refl _⟩) (fun i H h s=>⟨xs,xs[i],s.seq hx,List.getElem?_eq_getElem h⟩)
  (fun i H v H' h s y=>⟨y.1,?_⟩) (fun b i H R h s k=>hf b _ H R (mem i h) s k) (fun b i H R h hp s k=>he b _ H R (mem i h) hp s k) fun D H hD s e=>fin D H hD s ?_
 ·have:=y.2 xs (s.seq hx)
  rw [List.getD_eq_getElem?_getD,this]
  rfl
 ·rw [e,qo p f]
theorem dJ.ints {K:W.Frag}{H:Hp}:∀ns:List Int,dJ K H (ns.map V.int) (ns.map PyData.int)
 | []=>.nil
 | n :: r=>.cons (.int n) (dJ.ints r)
theorem shaped_ints (ns:List Int):SeqAt.shaped (.list (ns.map PyData.int))=true:=by
 unfold SeqAt.shaped
 rw [Bool.and_eq_true]
 constructor
 ·exact W.ke_canLayAll0 ns
 ·have e:PyData.depth (.list (ns.map PyData.int))=PyData.depthAll (ns.map PyData.int) + 1:=rfl
  rw [e,W.ke_depthAll]
  rfl
section
variable {X:Cx}
def Bv (K:W.Frag):V->Option Int->Option Int->Hp->VK->Prop:=fun x lo hi H Q=>AA K x lo hi H Q \/ Au K x lo hi H Q
theorem AN:SlR X (Bv X.K):=yM.or AJ
end
theorem xp {α:Type} (f:α->V) (xs:List α) (lo hi:Option Int):iC (xs.map f) lo hi=((xs.drop (HT.sIx xs.length 0 lo)).take (HT.sIx xs.length xs.length hi - HT.sIx xs.length 0 lo)).map f:=by
 unfold iC
 rw [List.length_map,List.map_take,List.map_drop]
theorem xk {K:W.Frag}{mg:Str->Option Value}{h:Heap}{x:Str}{st:Stmt}{ps:List Str}{f:Addr}{oc:Value}{od an:Option Addr}{osl:Array (Option Value)}{kV doc pm cdv ct:Value} (X:K.In h) (G:h.Ns mainGlobals mg)
  (a:W.nsIn K mainGlobals x=some (some (.ref f))) (l:K.lookup f=some ⟨oc,od,.func (W.fnOf x x (d7 st) (cY st) (aq st) .none kV doc pm an cdv ct),osl⟩) (c:W.codeIn K cdv x=true) (k:W.keepIn K (.ref f)=true)
  (hb:∀(kV doc pm:Value) (an:Option Addr) (cdv ct:Value) (us:List Value),us.length=ps.length->bindArgs (W.fnOf x x (d7 st) (cY st) (aq st) .none kV doc pm an cdv ct) ⟨us,[]⟩=pure (ps.zip us)):bM K mg x st ps :=
 ⟨f,_,qN l c k,(qN l c k).binds hb,W.mg_of X G a⟩
theorem AR {P:Program}{w:World}{K:W.Frag}{mg:Str->Option Value}{base:Heap}{k:Nat}{x:Str}{ps:List Str}{sp:Sp}{f:Addr}{oc:Value}{od:Option Addr}{osl:Array (Option Value)}{fd:FuncData} (D:Has P w K mg base k x ps sp) (m:mg x=some (.ref f))
  (l:K.lookup f=some ⟨oc,od,.func fd,osl⟩):ka P w K mg base CX0 k f fd ps sp:=by
 obtain ⟨g,gd,F,b,kp,mg',_,_,_,l'⟩:=id D
 rw [m] at mg'
 cases mg'
 rw [l] at l'
 cases l'
 exact F
end L2
namespace L2
open PySem PySem.Spec PyProof.Rows
section
variable {prog:Program}{w:World}{A:Around}{R:Result->Shared->Prop}{I l:Addr}{its:Array Value}{ns:List Int}{St:Nat->Heap->Prop}{fp wr:List Addr}{d:Value}
end
section
variable {X:Cx}
end
end L2
namespace L2
open PySem PySem.Spec PyProof.Rows
section
variable {X:Cx}
theorem Ar:SlR X C0:=by
 intro pins s σ H x v vl vu lo hi sl Q I rx hs pl pu h
 obtain ⟨z,rfl,hz,q⟩:=h
 obtain ⟨t,rfl⟩:=rx
 have fin:∀t' k,EP X pins σ Q (.str (Txt.slice z lo hi) t') { s with toks:=k }:=fun t' k=>⟨.str _,H,I.tok _,⟨_,rfl⟩,q⟩
 have len:=Nat.le_trans (Txt.slice_le z lo hi) hz
 obtain ⟨o,ho,hc,hd⟩:=hs
 refine ⟨"str",_,PySem.F.slot_str_getitem.lookup,typeIs_str _ _ _,?_⟩
 cases pl with
 | none =>
  cases pu with
  | none=>exact wpAny_getItem_str_slice (l:=Option.none) (u:=Option.none) (st:=Option.none) ⟨o,ho,hc,hd⟩ rfl (post_val_or_str ⟨len,fun t' k=>fin t' k⟩)
  | int j uj=>exact wpAny_getItem_str_slice (l:=Option.none) (u:=some (j,uj)) (st:=Option.none) ⟨o,ho,hc,hd⟩ rfl (post_val_or_str ⟨len,fun t' k=>fin t' k⟩)
 | int i ui =>
  cases pu with
  | none=>exact wpAny_getItem_str_slice (l:=some (i,ui)) (u:=Option.none) (st:=Option.none) ⟨o,ho,hc,hd⟩ rfl (post_val_or_str ⟨len,fun t' k=>fin t' k⟩)
  | int j uj=>exact wpAny_getItem_str_slice (l:=some (i,ui)) (u:=some (j,uj)) (st:=Option.none) ⟨o,ho,hc,hd⟩ rfl (post_val_or_str ⟨len,fun t' k=>fin t' k⟩)
def fSl (K:W.Frag):V->Option Int->Option Int->Hp->VK->Prop:=fun x lo hi H Q=>match x with
 | .str z=>z.length <= sizeLine/\Q (.str (Txt.slice z lo hi)) H
 | x=>AA K x lo hi H Q \/ Au K x lo hi H Q
theorem gN:SlR X (fSl X.K):=by
 intro pins s σ H x v vl vu lo hi sl Q I rx hs pl pu h
 by_cases hx:∃z,x=.str z
 ·obtain ⟨z,rfl⟩:=hx
  exact Ar pins s σ H _ v vl vu lo hi sl Q I rx hs pl pu ⟨z,rfl,h.1,h.2⟩
 ·refine AN pins s σ H x v vl vu lo hi sl Q I rx hs pl pu ?_
  cases x <;> first | exact h | exact absurd ⟨_,rfl⟩ hx
theorem u6 (hc:X.calm=true:=by rfl):eo X (.builtin "max") (fun xs H Q=>∃i j,xs=[.int i,.int j]/\Q (.int (if j > i then j else i)) H):=wH hc
theorem Cm (hc:X.calm=true:=by rfl):eo X (.builtin "min") (fun xs H Q=>∃i j,xs=[.int i,.int j]/\Q (.int (if j < i then j else i)) H):=wD hc
theorem nk {x:Str}{z:Int}{pos:Pos} (h:∃t,X.mg x=some (.int z t)) (hg:Gl X x:=by rfl) (hd:(x == ("__debug__":Str))=false:=by decide):PE X (.Name x pos) (tC (.int z)):=by
 obtain ⟨t,e⟩:=h
 exact u9 hg e ⟨t,rfl⟩ hd
end
end L2
namespace L2
open PySem PySem.Spec PyProof.Rows
section
variable {X:Cx}{tg:Expr}
theorem cI {x:Str}{pos:Pos}{a:Addr} (h:X.mg x=some (.ref a)) (hg:Gl X x:=by rfl) (hd:(x == ("__debug__":Str))=false:=by decide):PE X (.Name x pos) (tC (.ref a)):=u9 hg h rfl hd
end
end L2
namespace L2
open PySem PySem.Spec PyProof.Rows
theorem dJ.strs {K:W.Frag}{H:Hp}:∀ys:List Str,dJ K H (ys.map V.str) (ys.map PyData.str)
 | []=>.nil
 | y :: r=>.cons (.str y) (dJ.strs r)
theorem sg:∀ys:List Str,(∀y ∈ ys,PyData.strOk y=true)->PyData.canLayAll0 (ys.map PyData.str)=true
 | [],_=>rfl
 | y :: r,h=>by simp [PyData.canLayAll0,PyData.canLay0,sg r fun z hz=>h z (List.mem_cons_of_mem _ hz),h y List.mem_cons_self]
theorem nN:∀ys:List Str,PyData.depthAll (ys.map PyData.str)=0
 | []=>rfl
 | _ :: r=>by simp [PyData.depthAll,PyData.depth,nN r]
theorem rH {ys:List Str} (h:∀y ∈ ys,PyData.strOk y=true):SeqAt.shaped (.list (ys.map PyData.str))=true:=by
 simp [SeqAt.shaped,PyData.canLay0,PyData.depth,sg ys h,nN]
end L2
namespace L2
open PySem PySem.Spec PyProof.Rows
theorem k7 {J:It}{n:Nat}{x:Nat->V}{fr:List Nat}{te:CB->TE}{Q:VK}{σ:St}{H1:Hp} (R:Nat->V->Hp->Prop) (hn:n < sizeLine)
  (stop:∀H,ah H1 H->J.stop n H) (go:∀i H,i < n->ah H1 H->J.go i H) (yld:∀i H v H',i < n->ah H1 H->J.yld i H v H'->H'=H/\v=x i)
  (he:∀b i H (G:VK),i < n->ah H1 H->(∀y H',ah H H'->R i y H'->G y H')->te b (some (x i) :: cFr fr σ) H G)
  (mono:∀i y H H',ah H H'->R i y H->R i y H') (st:∀i y H D ys zs,H D=some (.lst ys)->R i y H->R i y (upd H D (.lst zs)))
  (fin:∀D H ys,H1 D=none->ah H1 H->H D=some (.lst ys)->ys.length=n->(∀(i:Nat) y,ys[i]?=some y->R i y H)->Q (.ref D) H):lL J 1 fr (fun _=>jc 0) (fun _=>AL) te Q σ H1:=by
 refine ⟨fun b D hD=>?_⟩
 refine ⟨fun i m σ' H'=>m=n - i/\i <= n/\(∃v0,σ'=v0 :: cFr fr σ)/\ah H1 H'/\∃ys,H' D=some (.lst ys)/\ys.length=i/\∀(j:Nat) y,ys[j]?=some y->R j y H',⟨n,rfl,Nat.zero_le _,⟨none,rfl⟩,ah.upd hD _,[],ar,rfl,fun j y h=>by cases h⟩,?_⟩
 rintro i m σ' H' ⟨rfl,hi,⟨v0,rfl⟩,sm,ys,hl,hy,hR⟩
 by_cases hlt:i < n
 ·refine .inr ⟨go i H' hlt sm,fun σ2 H2=>(∃v0,σ2=v0 :: cFr fr σ)/\ah H1 H2/\∃ys,H2 D=some (.lst ys)/\ys.length=i + 1/\∀(j:Nat) y,ys[j]?=some y->R j y H2,fun σ2 H2 q=>⟨n - (i + 1),by omega,rfl,hlt,q⟩,fun v H2 y=>?_⟩
  obtain ⟨rfl,rfl⟩:=yld i H' v H2 hlt sm y
  refine he b i _ _ hlt sm fun z H4 s4 rz=>⟨ys,s4 _ _ hl,by omega,⟨_,rfl⟩,?_,ys ++ [z],ar,by simp [hy],fun j y' hj=>?_⟩
  ·intro c o q
   by_cases hc:c=D
   ·rw [hc,hD] at q;cases q
   ·rw [aK hc];exact (sm.trans s4) c o q
  ·have hD4:=s4 _ _ hl
   by_cases hji:j < ys.length
   ·rw [List.getElem?_append_left hji] at hj
    exact st _ _ _ _ _ _ hD4 (mono _ _ _ _ s4 (hR j y' hj))
   ·by_cases e:j=ys.length
    ·subst e
     rw [List.getElem?_append_right (Nat.le_refl _)] at hj
     simp at hj
     subst hj
     rw [hy]
     exact st _ _ _ _ _ _ hD4 rz
    ·rw [List.getElem?_eq_none (by simp;omega)] at hj
     cases hj
 ·have e:i=n:=by omega
  subst e
  exact .inl ⟨stop H' sm,fin D H' ys hD sm hl hy hR⟩
end L2
namespace L2
open PySem PySem.Spec PyProof.Rows
section
variable {P:Program}{w:World}{K:W.Frag}{mg:Str->Option Value}{base:Heap}
structure MFn (K:W.Frag) (C:Addr) (m qual:Str) (st:Stmt) (ps:List Str):Prop where
 ex:∃f fd,Fun K m qual st f fd/\Binds K fd ps []/\Meth K C m f
def di (P:Program) (w:World) (K:W.Frag) (mg:Str->Option Value) (base:Heap) (k:Nat) (C:Addr) (m:Str) (ps:List Str) (sp:Sp):Prop :=
 ∃f fd,ka P w K mg base CX0 k f fd ps sp/\Binds K fd ps []/\Meth K C m f
theorem MFn.has {C:Addr}{m qual:Str}{st:Stmt}{N ps:List Str}{k:Nat}{sp:Sp} (F:MFn K C m qual st ps) (S:aB N ps (aq st)) (len:∀vs H Q E,sp vs H Q E->vs.length=ps.length)
  (hbody:∀(f:Addr) (cdv:Value) (A:Around) (outer:List Env) (s:Shared) (H:Hp) (vs:List V) (Q:VK) (E:XK),eP k (A.deeper (envOfC qual (aq st) s.heap.objs.size f cdv))->(A.deeper (envOfC qual (aq st) s.heap.objs.size f cdv)).units + 64 < cLine->sp vs H Q E ->
   ∃t,PSs (rF CX0 P w K mg base N qual (aq st) f cdv A outer s H E).nox (cY st) t/\t { nx:=fun _ H'=>Q .non H',rt:=Q } (start N vs) H):di P w K mg base (k + 1) C m ps sp:=by
 obtain ⟨f,fd,F,b,m⟩:=F.ex
 exact ⟨f,fd,F.ok S len fun cdv A outer s H vs Q E hr h=>hbody f cdv A outer s H vs Q E hr hr.units h,b,m⟩
structure eA (K:W.Frag) (mg:Str->Option Value) (C:Addr) (x:Str) (up:List Addr):Prop where
 mg:mg x=some (.ref C)
 cl:Cls K C
 mro:∃cd,W.clsIn K C=some cd/\cd.mro=up.map Value.ref ++ [Value.type "object"]
 ty:W.typeIn K (.ref C)=some (.type "type")
 kc:W.findIn K (.ref C) "__class__"=some (some (.builtin "object.__class__"))
 cg:W.specialIn K (.builtin "object.__class__") "__get__"=some (some (.builtin "getset_descriptor.__get__"))
 ct:W.takesIn K (.builtin "object.__class__")=some true
 mks:W.makesIn K C=true
 kp:W.keepIn K (.ref C)=true
variable {C D:Addr}{x y:Str}{up vp:List Addr}
theorem eA.sub (O:eA K mg C x up) (b:Value):W.mroIn K C b=some ((up.map Value.ref ++ [Value.type "object"]).contains b):=by
 obtain ⟨cd,h1,h2⟩:=O.mro
 unfold W.mroIn
 rw [h1]
 show (if cd.mro.isEmpty=true then none else some (cd.mro.contains b))=_
 rw [h2,if_neg (by cases up <;> simp)]
theorem pd (up:List Addr) (D:Addr):(up.map Value.ref ++ [Value.type "object"]).contains (Value.ref D)=decide (D ∈ up):=by
 induction up with
 | nil=>rfl
 | cons a r ih =>
  show ((Value.ref D == Value.ref a) || (r.map Value.ref ++ [Value.type "object"]).contains (Value.ref D))=_
  rw [ih]
  by_cases h:D=a
  ·subst h;simp
  ·have:(Value.ref D == Value.ref a)=false:=by
    rw [Bool.eq_false_iff]
    intro z
    exact h (Value.ref.inj (beq_iff_eq.mp z))
   rw [this,Bool.false_or]
   simp [h]
theorem eA.kit (O:eA K mg C x up) (U:eA K mg D y vp) (hs:C ∈ up):W.kitOne K (.ref C) (.ref D)=some (decide (D ∈ up)):=by
 unfold W.kitOne
 split
 ·rename_i q
  have:C=D:=Value.ref.inj (beq_iff_eq.mp q)
  rw [<- this,decide_eq_true hs]
 ·obtain ⟨cd,h1,_⟩:=U.mro
  unfold W.kitCls
  dsimp only
  rw [h1,U.ty]
  rw [if_pos (by rfl)]
  show W.mroIn K C (.ref D)=_
  rw [O.sub,pd]
theorem eA.bK (O:eA K mg C x up) {H:Hp}{a dx:Addr}{fs:List (Str × V)} (e:H a=some (.ins C dx fs)):jo K H (.ref a) (.ref C) :=
 .ins e O.cl O.kc O.cg O.ct ((O.sub _).trans (by simp))
end
section
variable {X:Cx}{k j:Nat}{C:Addr}{x m:Str}{ps:List Str}{sp:Sp}{o e:Expr}{es:List Expr}{ta:TE}{t:TA}{p apos pos:Pos}{up:List Addr}
theorem bZ (O:eA X.K X.mg C x up) (D:di X.prog X.w X.K X.mg X.base j C "__init__" ps sp) (hr:eP k X.A) (ha:PA X (e :: es) t) (hj:j + 1 <= k:=by decide) (hg:Gl X x:=by rfl) (hdb:(x == ("__debug__":Str))=false:=by decide)
  (he:starEach (e :: es) X.env=(false,eval e X.env) :: starEach es X.env:=by rfl) (hpl:(backTo pos (starEach es X.env)).any (·.1)=false:=by rfl):PE X (.Call (.Name x p) (e :: es) [] pos) (uX C sp [] E0 t):=by
 obtain ⟨f,fd,F,b,m⟩:=D
 exact zR ⟨O.mks,m.at_,m.fn,O.kp⟩ F (hr.mono hj) hg O.mg b .nil r9 ha hdb he hpl
theorem v8 (O:eA X.K X.mg C x up) (D:di X.prog X.w X.K X.mg X.base j C "__init__" ps sp) (hr:eP k X.A) (hj:j + 1 <= k:=by decide) (hg:Gl X x:=by rfl) (hdb:(x == ("__debug__":Str))=false:=by decide):PE X (.Call (.Name x p) [] [] pos) (uX C sp [] E0 yT):=by
 obtain ⟨f,fd,F,b,m⟩:=D
 exact yB ⟨O.mks,m.at_,m.fn,O.kp⟩ F (hr.mono hj) hg O.mg b .nil r9 hdb
theorem bB {pl:Sem Bool} (he:PE X o ta) (c:Cls X.K C) (D:di X.prog X.w X.K X.mg X.base j C m ps sp) (hr:eP k X.A) (ha:PA X (e :: es) t) (hj:j <= k:=by decide)
  (hst:starEach (e :: es) X.env=(false,eval e X.env) :: starEach es X.env:=by rfl) (hpl:(backTo pos (starEach es X.env)).any (·.1)=false:=by rfl)
  (ht:eval (.Call (.Attribute o m apos) (e :: es) [] pos) X.env=(do
   let ov <- eval o X.env
   standAt apos.atName
   let (f,first) <- holding [ov] (getMethod ov m pl)
   callWith pos f first (backTo pos (starEach (e :: es) X.env)) (backToKw pos (keywordEach [] X.env))):=by rfl) :
  PE X (.Call (.Attribute o m apos) (e :: es) [] pos) (Ab C m sp [] E0 ta t):=by
 obtain ⟨f,fd,F,b,hm⟩:=D
 exact y8 (pl:=pl) he c hm F (hr.mono hj) b .nil r9 ha hst hpl ht
structure OfC (K:W.Frag) (C:Addr) (m:Str):Prop where
 ga:W.specialIn K (.ref C) "__getattribute__"=some (some (.builtin "type.__getattribute__"))
 rd:W.readsIn K C (.type "type")=true
 fc:∃f,W.findIn K (.ref C) m=some (some (.ref f))/\W.findCls K (.ref C) (.type "type") m=some (.val (.ref f))
theorem cR {pl:Sem Bool} (O:eA X.K X.mg C x up) (W:OfC X.K C m) (D:di X.prog X.w X.K X.mg X.base j C m ps sp) (hr:eP k X.A) (ha:PA X (e :: es) t) (hj:j <= k:=by decide) (hg:Gl X x:=by rfl) (hdb:(x == ("__debug__":Str))=false:=by decide)
  (hst:starEach (e :: es) X.env=(false,eval e X.env) :: starEach es X.env:=by rfl) (hpl:(backTo pos (starEach es X.env)).any (·.1)=false:=by rfl)
  (ht:eval (.Call (.Attribute (.Name x p) m apos) (e :: es) [] pos) X.env=(do
   let ov <- eval (.Name x p) X.env
   standAt apos.atName
   let (f,first) <- holding [ov] (getMethod ov m pl)
   callWith pos f first (backTo pos (starEach (e :: es) X.env)) (backToKw pos (keywordEach [] X.env))):=by rfl) :
  PE X (.Call (.Attribute (.Name x p) m apos) (e :: es) [] pos) (xG sp [] E0 t):=by
 obtain ⟨f,fd,F,b,hm⟩:=D
 intro pins s σ H Q I h
 refine PySem.W.methodCall_KW (pl:=pl) (k8 I hg O.mg ?_ hdb) ht
 obtain ⟨f',h1,h2⟩:=W.fc
 have ef:f=f':=by
  have:=hm.at_.symm.trans h1
  cases this
  rfl
 subst ef
 refine PySem.W.method_cls I.kIn W.ga (PySem.W.cls_value I.kIn W.rd h2 rfl ?_)
 refine PySem.W.callWith_K (h₀:=X.base) I.ok.mod.kin hm.kp (thn (ha pos pins _ σ H _ (I.tok _) h) fun us s2 ⟨vs,H2,I2,r,q2⟩=>⟨I2.kIn,?_⟩) hst hpl
 exact tS (us:=us) (vs:=vs) F (hr.mono hj) b .nil r9 I2 r q2
end
theorem Ap {K:W.Frag}{C:Addr}{m qual:Str}{st:Stmt}{ps:List Str}{f:Addr}{oc:Value}{od an:Option Addr}{osl:Array (Option Value)}{kV doc pm cdv ct:Value}
  (a:W.findIn K (.ref C) m=some (some (.ref f))) (fn:W.isFn K (.ref f)=true) (l:K.lookup f=some ⟨oc,od,.func (W.fnOf m qual (d7 st) (cY st) (aq st) .none kV doc pm an cdv ct),osl⟩) (c:W.codeIn K cdv qual=true) (k:W.keepIn K (.ref f)=true)
  (hb:∀(kV doc pm:Value) (an:Option Addr) (cdv ct:Value) (us:List Value),us.length=ps.length->bindArgs (W.fnOf m qual (d7 st) (cY st) (aq st) .none kV doc pm an cdv ct) ⟨us,[]⟩=pure (ps.zip us)):MFn K C m qual st ps :=
 ⟨f,_,qN l c k,(qN l c k).binds hb,⟨a,fn,k⟩⟩
end L2
namespace L2
open PySem PySem.Spec PyProof.Rows
def But (x:Addr) (H H':Hp):Prop:=∀b,b ≠ x->∀o,H b=some o->H' b=some o
theorem But.refl (x:Addr) (H:Hp):But x H H:=fun _ _ _ h=>h
theorem But.trans {x:Addr}{H H1 H2:Hp} (a:But x H H1) (b:But x H1 H2):But x H H2:=fun c hc o h=>b c hc o (a c hc o h)
theorem But.at (x:Addr) (H:Hp) (o:HO):But x H (upd H x o):=fun b hb u q=>by rw [aK hb];exact q
theorem But.new {x p:Addr}{H:Hp} (h:H p=none) (o:HO):But x H (upd H p o):=fun b _ u q=>by rw [aK (dH q h)];exact q
theorem But.of {x:Addr}{H H':Hp} (s:ah H H'):But x H H':=fun b _ o h=>s b o h
theorem But.same {x dx:Addr}{H H':Hp}{o o':HO} (b:But x (upd (upd H dx o) x o') H') (hx:H x=none) (hd:H dx=none):ah H H':=fun a u q=>by
 have h1:a ≠ x:=fun z=>by rw [z,hx] at q;cases q
 have h2:a ≠ dx:=fun z=>by rw [z,hd] at q;cases q
 exact b a h1 u (by rw [aK h1,aK h2];exact q)
end L2
namespace L2
open PySem
theorem gm {H:Hp}{x dx p:Addr}{o o':HO} (hx:H x=none) (hd:H dx=none) (h:upd (upd H dx o) x o' p=none):H p=none:=by
 unfold upd at h
 split at h
 ·cases h
 ·split at h
  ·cases h
  ·exact h
end L2
namespace L2
open PySem
theorem But.none {x p:Addr}{H H':Hp} (b:But x H H') (e:p ≠ x) (h:H' p=Option.none):H p=Option.none:=by
 cases z:H p with
 | none=>rfl
 | some o=>exact absurd (h.symm.trans (b _ e _ z)) (by intro w;cases w)
end L2
namespace L2
open PySem PySem.Spec PyProof.Rows
section
variable {X:Cx}
def pK:V->Bool
 | .flt _=>false
 | .byt _=>false
 | _=>true
theorem mh {x:V}{u v:Value} (hx:pK x=true) (ru:RelV x u) (rv:RelV x v) (A:Around) (s:Shared):SeqAt.EqAt A s u v true:=by
 cases x with
 | non=>cases ru;cases rv;exact .same _
 | bl b=>cases ru;cases rv;exact .same _
 | int i =>
  obtain ⟨t,rfl⟩:=ru
  obtain ⟨t',rfl⟩:=rv
  have:=SeqAt.EqAt.int_int (A:=A) (s:=s) i t i t'
  rwa [beq_self_eq_true] at this
 | str y =>
  obtain ⟨t,rfl⟩:=ru
  obtain ⟨t',rfl⟩:=rv
  have:=SeqAt.EqAt.str_str (A:=A) (s:=s) y t y t'
  rwa [beq_self_eq_true] at this
 | byt _=>cases hx
 | flt _=>cases hx
 | ref a=>cases ru;cases rv;exact .same _
 | ty n=>cases ru;cases rv;exact .same _
theorem Ca (hu:X.A.units + 64 < cLine):OpR X (compareOp .Eq) (fun x y H Q=>∃p q xs,x=.ref p/\y=.ref q/\SqL X.K H p xs/\SqL X.K H q xs/\xs.all pK=true/\Q (.bl true) H):=by
 intro pins s σ H x y v u Q I rx ry h
 obtain ⟨p,q,xs,rfl,rfl,hp,hq,hf,k⟩:=h
 cases rx
 cases ry
 obtain ⟨its,r1,⟨o,n,e1,c1,_,d1⟩,_⟩:=I.list hp
 obtain ⟨jts,r2,⟨o2,n2,e2,c2,_,d2⟩,_⟩:=I.list hq
 have l1:=r1.length
 have l2:=r2.length
 refine SeqAt.eq_listAt (e:=fun _=>true) ⟨o,e1,c1,n,d1⟩ ⟨o2,e2,c2,n2,d2⟩ (by simp;omega) (by omega) (fun j h1 h2=>?_) ?_
 ·simp at h1 h2
  obtain ⟨x,hx⟩:∃x,xs[j]?=some x:=⟨xs[j]'(by omega),List.getElem?_eq_getElem (by omega)⟩
  obtain ⟨u1,g1,w1⟩:=r1.get hx
  obtain ⟨u2,g2,w2⟩:=r2.get hx
  have z1:its.toArray[j]'(by simpa using h1)=u1:=by
   have:=List.getElem?_eq_getElem h1
   rw [g1] at this
   simpa using (Option.some.inj this).symm
  have z2:jts.toArray[j]'(by simpa using h2)=u2:=by
   have:=List.getElem?_eq_getElem h2
   rw [g2] at this
   simpa using (Option.some.inj this).symm
  rw [z1,z2]
  exact mh (List.all_eq_true.mp hf x (List.mem_of_getElem? hx)) w1 w2 _ _
 ·have:((List.range its.toArray.size).all fun _=>true)=true:=by simp
  rw [this]
  exact ⟨.bl true,H,I,rfl,k⟩
def Dh (K:W.Frag):R2:=fun x y H Q=>match x,y with
 | .ref p,.ref q=>(∃d e,jd K H (.ref p) d/\jd K H (.ref q) e/\SeqAt.shaped d=true/\SeqAt.shaped e=true/\Q (.bl (PyData.eqv d e)) H) \/ (∃xs,SqL K H p xs/\SqL K H q xs/\xs.all pK=true/\Q (.bl true) H)
 | x,y=>vK x y=true/\Q (.bl (decide (x=y))) H
theorem CN (hu:X.A.units + 64 < cLine):OpR X (compareOp .Eq) (Dh X.K):=((DH hu).or (Ca hu)).imp fun x y H Q q=>by
 by_cases hr:∃p q,x=V.ref p/\y=V.ref q
 ·obtain ⟨p,q',rfl,rfl⟩:=hr
  rcases q with q | ⟨xs,h1,h2,h3,h4⟩
  ·exact .inl q
  ·exact .inr ⟨p,q',xs,rfl,rfl,h1,h2,h3,h4⟩
 ·refine .inl ?_
  cases x <;> cases y <;> first | exact q | exact absurd ⟨_,_,rfl,rfl⟩ hr
end
end L2
namespace L2
open PySem PySem.Spec PyProof.Rows
section
variable {κ:Type} [DecidableEq κ]
def gG (kvs:List (κ × V)) (k:κ):Option V:=(kvs.find? fun kv=>decide (kv.1=k)).map (·.2)
def putK (kvs:List (κ × V)) (k:κ) (v:V):List (κ × V) :=
 if (kvs.any fun kv=>decide (kv.1=k))=true then kvs.map (fun kv=>if kv.1=k then (kv.1,v) else kv) else kvs ++ [(k,v)]
theorem lB {p:κ × V}{r:List (κ × V)}{k:κ} (e:p.1=k):gG (p :: r) k=some p.2:=by simp [gG,List.find?_cons,e]
theorem lq {p:κ × V}{r:List (κ × V)}{k:κ} (e:¬ p.1=k):gG (p :: r) k=gG r k:=by simp [gG,List.find?_cons,e]
theorem sI (k:κ):∀kvs:List (κ × V),(kvs.any fun kv=>decide (kv.1=k))=(gG kvs k).isSome
 | []=>rfl
 | p :: r=>by
  rw [List.any_cons]
  by_cases e:p.1=k
  ·simp only [lB e,decide_eq_true e,Bool.true_or,Option.isSome_some]
  ·rw [lq e,decide_eq_false e,Bool.false_or];exact sI k r
theorem gK (kvs:List (κ × V)) (k:κ) (v:V):(putK kvs k v).length <= kvs.length + 1:=by
 unfold putK
 split
 ·rw [List.length_map];omega
 ·rw [List.length_append,List.length_cons,List.length_nil];omega
theorem jf.vI {o:Option V}{u:Option Value} (r:jf o u):o.isSome=u.isSome:=by
 cases o with
 | none=>cases u with
  | none=>rfl
  | some _=>exact (show False from r).elim
 | some _=>cases u with
  | none=>exact (show False from r).elim
  | some _=>rfl
theorem jf.getD {o:Option V}{u:Option Value}{d:V}{d':Value} (r:jf o u) (rd:RelV d d'):RelV (o.getD d) (u.getD d'):=by
 cases o with
 | none=>cases u with
  | none=>exact rd
  | some _=>exact (show False from r).elim
 | some _=>cases u with
  | none=>exact (show False from r).elim
  | some _=>exact r
theorem KV.val {kvs:List (κ × V)}{vs:List (κ × Value)} (r:KV kvs vs) (k:κ):jf (gG kvs k) (valueAt vs k):=by
 unfold KV at r
 induction r with
 | nil=>exact True.intro
 | @cons p q ps qs h t ih =>
  obtain ⟨h1,h2⟩:=h
  by_cases e:p.1=k
  ·have e':q.1=k:=h1.symm.trans e
   have b:valueAt (q :: qs) k=some q.2:=by simp [valueAt,List.find?_cons,e']
   rw [lB e,b];exact h2
  ·have e':¬ q.1=k:=fun z=>e (h1.trans z)
   have b:valueAt (q :: qs) k=valueAt qs k:=by simp [valueAt,List.find?_cons,e']
   rw [lq e,b];exact ih
theorem KV.any {kvs:List (κ × V)}{vs:List (κ × Value)} (r:KV kvs vs) (k:κ):(kvs.any fun kv=>decide (kv.1=k))=vs.any fun kv=>decide (kv.1=k):=by
 unfold KV at r
 induction r with
 | nil=>rfl
 | cons h t ih=>rw [List.any_cons,List.any_cons,ih,h.1]
theorem KV.Bm {kvs:List (κ × V)}{vs:List (κ × Value)} (r:KV kvs vs) (k:κ) {y:V}{u:Value} (ry:RelV y u) :
  KV (kvs.map fun kv=>if kv.1=k then (kv.1,y) else kv) (vs.map fun kv=>if kv.1=k then (kv.1,u) else kv):=by
 unfold KV at r ⊢
 induction r with
 | nil=>exact .nil
 | @cons p q ps qs h t ih =>
  rw [List.map_cons,List.map_cons]
  refine .cons ?_ ih
  obtain ⟨h1,h2⟩:=h
  by_cases e:p.1=k
  ·rw [if_pos e,if_pos (h1.symm.trans e)];exact ⟨h1,ry⟩
  ·rw [if_neg e,if_neg (fun z=>e (h1.trans z))];exact ⟨h1,h2⟩
theorem KV.put {kvs:List (κ × V)}{vs:List (κ × Value)} (r:KV kvs vs) (k:κ) {y:V}{u:Value} (ry:RelV y u):KV (putK kvs k y) (stored vs k u):=by
 unfold putK stored
 rw [r.any k]
 by_cases e:(vs.any fun kv=>decide (kv.1=k))=true
 ·rw [if_pos e,if_pos e];exact r.Bm k ry
 ·rw [if_neg e,if_neg e];exact Paired.snoc r ⟨rfl,ry⟩
theorem KV.keys {kvs:List (κ × V)}{vs:List (κ × Value)} (r:KV kvs vs):kvs.map (·.1)=vs.map (·.1):=by
 unfold KV at r
 induction r with
 | nil=>rfl
 | cons h t ih=>rw [List.map_cons,List.map_cons,ih,h.1]
theorem KV.length {kvs:List (κ × V)}{vs:List (κ × Value)} (r:KV kvs vs):kvs.length=vs.length:=Paired.length r
end
theorem pZ {P:Program}{w:World}{k:Key}{u:Value} (r:RelV (kV k) u):(cx P w).is k u=true:=by
 cases k with
 | inl i=>obtain ⟨t,e⟩:=(show ∃t,u=Value.int i t from r);subst e;exact sP P w i t
 | inr x=>obtain ⟨t,e⟩:=(show ∃t,u=Value.str x t from r);subst e;exact sH P w x t
theorem qj {P:Program}{w:World}:∀{ks:List Key}{us:List Value},Vals (ks.map kV) us->ItemsAre (cx P w) ks us
 | [],_,r=>by rw [List.map_nil] at r;cases r;exact .nil
 | k :: ks,_,r=>by
  rw [List.map_cons] at r
  cases r with
  | cons h t=>exact .cons (pZ h) (qj t)
abbrev KT (H:Hp):List (List Key × V)->List (List Key × Addr × Value)->Prop:=Paired fun p q=>p.1=q.1/\H q.2.1=some (.tup (p.1.map kV))/\RelV p.2 q.2.2
theorem KT.val {H:Hp}{kvs:List (List Key × V)}{xs:List (List Key × Addr × Value)} (r:KT H kvs xs) (k:List Key):jf (gG kvs k) ((atKey xs k).map (·.2)):=by
 induction r with
 | nil=>exact True.intro
 | @cons p q ps qs h t ih =>
  obtain ⟨h1,_,h2⟩:=h
  by_cases e:p.1=k
  ·have e':q.1=k:=h1.symm.trans e
   have b:atKey (q :: qs) k=some q.2:=by simp [atKey,List.find?_cons,e']
   rw [lB e,b];exact h2
  ·have e':¬ q.1=k:=fun z=>e (h1.trans z)
   have b:atKey (q :: qs) k=atKey qs k:=by simp [atKey,List.find?_cons,e']
   rw [lq e,b];exact ih
theorem KT.Bm {H:Hp}{kvs:List (List Key × V)}{xs:List (List Key × Addr × Value)} (r:KT H kvs xs) (k:List Key) {y:V}{u:Value} (ry:RelV y u) :
  KT H (kvs.map fun kv=>if kv.1=k then (kv.1,y) else kv) (xs.map (putAt k u)):=by
 induction r with
 | nil=>exact .nil
 | @cons p q ps qs h t ih =>
  rw [List.map_cons,List.map_cons]
  refine .cons ?_ ih
  obtain ⟨h1,h2,h3⟩:=h
  unfold putAt
  by_cases e:p.1=k
  ·rw [if_pos e,if_pos (h1.symm.trans e)];exact ⟨h1,h2,ry⟩
  ·rw [if_neg e,if_neg (fun z=>e (h1.trans z))];exact ⟨h1,h2,h3⟩
theorem KT.put {H:Hp}{kvs:List (List Key × V)}{xs:List (List Key × Addr × Value)} (r:KT H kvs xs) (k:List Key) {b:Addr}{y:V}{u:Value} (hb:H b=some (.tup (k.map kV))) (ry:RelV y u) :
  KT H (putK kvs k y) (storedH xs k b u):=by
 have e:(kvs.any fun kv=>decide (kv.1=k))=(atKey xs k).isSome:=by
  rw [sI,(r.val k).vI,Option.isSome_map]
 unfold putK storedH
 rw [e]
 by_cases q:(atKey xs k).isSome=true
 ·rw [if_pos q,if_pos q];exact r.Bm k ry
 ·rw [if_neg q,if_neg q];exact Paired.snoc r ⟨rfl,hb,ry⟩
theorem KT.keeps {H H':Hp}{kvs:List (List Key × V)}{xs:List (List Key × Addr × Value)} (r:KT H kvs xs) (ht:∀b ys,H b=some (.tup ys)->H' b=some (.tup ys)):KT H' kvs xs :=
 Paired.cF r fun _ _ z=>⟨z.1,ht _ _ z.2.1,z.2.2⟩
section
variable {P:Program}{w:World}{H:Hp}{h:Heap}{a:Addr}
theorem Ag {u:HO} (ok:HOk P w H h) (e:Rd H a u):dg P w H h a u:=e.ok ok
theorem lA {kvs:List (Key × V)} (ok:HOk P w H h) (e:Rd H a (.dK kvs)):kvs.length <= sizeLine/\(a == sysModules)=false/\∃vs,KV kvs vs/\h.DictOf (cx P w) a vs :=
 show dg P w H h a (.dK kvs) from Ag ok e
theorem wM {kvs:List (Key × V)} (ok:HOk P w H h) (e:H a=some (.dK kvs)):kvs.length <= sizeLine/\(a == sysModules)=false/\∃vs,KV kvs vs/\h.DictOf (cx P w) a vs:=lA ok (.inl e)
theorem qZ {ks:List Key} (ok:HOk P w H h) (e:H a=some (.tup (ks.map kV))):(tupleKind (cx P w)).is h ks a:=by
 obtain ⟨_,its,r,o,h1,h2,n,h3⟩:=(show dg P w H h a (.tup (ks.map kV)) from ok a _ e)
 exact ⟨o,its.toArray,n,h1,h2,h3,by simpa using qj r⟩
theorem rN {kvs:List (List Key × V)} (ok:HOk P w H h) (e:Rd H a (.dT kvs)):kvs.length <= sizeLine/\(a == sysModules)=false /\
  ∃xs,KT H kvs xs/\h.DictOfH (tupleKind (cx P w)) a xs:=by
 obtain ⟨z,y,xs,r,o,es,ep,h1,h2,h3,h4,h5⟩:=(show dg P w H h a (.dT kvs) from Ag ok e)
 refine ⟨z,y,xs,r,o,es,ep,h1,h2,h3,h4,fun x hx=>?_,h5⟩
 have all:∀{l:List (List Key × V)}{m:List (List Key × Addr × Value)},KT H l m->∀x ∈ m,(tupleKind (cx P w)).is h x.1 x.2.1:=by
  intro l m q
  induction q with
  | nil=>intro x hx;exact nomatch hx
  | @cons p q ps qs hq t ih =>
   intro x hx
   rcases List.mem_cons.mp hx with e | hx
   ·subst e
    exact qZ ok (by rw [<- hq.1];exact hq.2.1)
   ·exact ih x hx
 exact all r x hx
theorem Cd {kvs:List (List Key × V)} (ok:HOk P w H h) (e:H a=some (.dT kvs)):kvs.length <= sizeLine/\(a == sysModules)=false /\
  ∃xs,KT H kvs xs/\h.DictOfH (tupleKind (cx P w)) a xs:=rN ok (.inl e)
end
def cj (H:Hp) (a:Addr) (y:V) (r:Option V):Prop :=
 (∃kvs k,Rd H a (.dK kvs)/\y=kV k/\r=gG kvs k) \/ ∃kvs k b,Rd H a (.dT kvs)/\y=.ref b/\H b=some (.tup (k.map kV))/\r=gG kvs k
def du (H:Hp) (a:Addr) (y v:V) (H':Hp):Prop :=
 (∃kvs k,H a=some (.dK kvs)/\y=kV k/\kvs.length < sizeLine/\H'=upd H a (.dK (putK kvs k v))) \/
 ∃kvs k b,H a=some (.dT kvs)/\y=.ref b/\H b=some (.tup (k.map kV))/\kvs.length < sizeLine/\H'=upd H a (.dT (putK kvs k v))
theorem cj.k {H:Hp}{a:Addr}{kvs:List (Key × V)}{k:Key} (e:H a=some (.dK kvs)):cj H a (kV k) (gG kvs k):=.inl ⟨kvs,k,.inl e,rfl,rfl⟩
theorem du.k {H:Hp}{a:Addr}{kvs:List (Key × V)}{k:Key}{v:V} (e:H a=some (.dK kvs)) (hl:kvs.length < sizeLine):du H a (kV k) v (upd H a (.dK (putK kvs k v))):=.inl ⟨kvs,k,e,rfl,hl,rfl⟩
section
variable {X:Cx}{pins:List (Addr × Obj)}{σ:St}{H:Hp}{s:Shared}{a:Addr}{y v:V}{u r:Value}{o:Option V}{A:Around}{E:Value->Shared->Prop}
theorem Inv.big (I:Inv X pins σ H s):sysModules < s.heap.objs.size:=by
 have h:mainGlobals < s.heap.objs.size:=(I.mod.glob.keeps I.bk).lt
 exact Nat.lt_trans (by decide) h
theorem wJ {Q:Value->Shared->Prop} (hu:A.units + 1 < cLine) (I:Inv X pins σ H s) (g:cj H a y (some v)) (ry:RelV y u) (h:∀w' s',Inv X pins σ H s'->RelV v w'->Q w' s') :
  wpAny (model X.prog X.w) A (getItem (.ref a) u) Q E s:=by
 rcases g with ⟨kvs,k,e,ey,l⟩ | ⟨kvs,k,b,e,ey,eb,l⟩
 ·subst ey
  obtain ⟨z,hd,vs,rel,dd⟩:=lA I.hok e
  obtain ⟨w',hw,rw'⟩:=jf.some_of (v:=v) (o:=valueAt vs k) (by rw [l];exact rel.val k)
  exact wpAny_getItem_of (pZ ry) dd.mapOf hw (h w' _ (I.tok _) rw')
 ·subst ey
  cases (show u=Value.ref b from ry)
  obtain ⟨z,hd,xs,rel,dd⟩:=rN I.hok e
  obtain ⟨w',hw,rw'⟩:=jf.some_of (v:=v) (o:=(atKey xs k).map (·.2)) (by rw [l];exact rel.val k)
  obtain ⟨p,hp,hp2⟩:=Option.map_eq_some_iff.mp hw
  refine wpAny_getItem_heap (tupleKind_room_in1 hu) (qZ I.hok eb) dd hp ?_
  rw [hp2]
  exact h w' _ (I.tok _) rw'
theorem mZ {h':Heap}{t':Nat}{ob:HO} (I:Inv X pins σ H s) (mu:Mut (H a)) (hs:Heap.SameBut a s.heap h') (he:∃q,h'.get? a=some q) (new:dg X.prog X.w (upd H a ob) h' a ob) :
  Inv X pins σ (upd H a ob) { s with heap:=h',toks:=t' } :=
 I.write (x:=a) (e:=a) mu (.inl rfl) (fun b q hb z=>(hs.2 b hb).trans z) he new
theorem fJ {P:Program}{w:World}{H':Hp}{h':Heap}{kvs:List (Key × V)}{vs:List (Key × Value)} (z:kvs.length <= sizeLine) (hd:(a == sysModules)=false) (rel:KV kvs vs) (dd:h'.DictOf (cx P w) a vs) :
  dg P w H' h' a (.dK kvs):=⟨z,hd,vs,rel,dd⟩
theorem vR {H':Hp}{Q:Unit->Shared->Prop} (hu:A.units + 1 < cLine) (I:Inv X pins σ H s) (g:du H a y v H') (ry:RelV y u) (rv:RelV v r) (h:∀s',Inv X pins σ H' s'->Q () s') :
  wpAny (model X.prog X.w) A (setItem (.ref a) u r) Q E s:=by
 rcases g with ⟨kvs,k,e,ey,l,eH⟩ | ⟨kvs,k,b,e,ey,eb,l,eH⟩
 ·subst ey eH
  obtain ⟨z,hd,vs,rel,dd⟩:=wM I.hok e
  have hz:vs.length <= sizeLine:=by rw [<- rel.length];exact z
  have hl:(putK kvs k v).length <= sizeLine:=by have:=gK kvs k v;omega
  refine wpAny_setItem_pairs (hsz:=hz) (pZ ry) dd fun h' dd' hs=>h _ ?_
  have he:∃q,h'.get? a=some q:=let ⟨q,_,_,hq,_⟩:=dd';⟨q,hq⟩
  exact mZ I (by rw [e];exact True.intro) hs he (fJ hl hd (rel.put k rv) dd')
 ·subst ey eH
  cases (show u=Value.ref b from ry)
  obtain ⟨z,hd,xs,rel,dd⟩:=Cd I.hok e
  have hz:xs.length <= sizeLine:=by rw [<- Paired.length rel];exact z
  have hl:(putK kvs k v).length <= sizeLine:=by have:=gK kvs k v;omega
  refine wpAny_setItem_heap (hsz:=hz) (tupleKind_room_in1 hu) (qZ I.hok eb) dd fun h' dd' hs=>h _ ?_
  obtain ⟨q,es,ep,hq,h2,h3,h4,_,h5⟩:=dd'
  refine mZ I (by rw [e];exact True.intro) hs ⟨q,hq⟩ ⟨hl,hd,_,(rel.put k eb rv).keeps fun c ys ec=>?_,q,es,ep,hq,h2,h3,h4,h5⟩
  rw [aK (BN ec e (fun z=>nomatch z))]
  exact ec
end
section
variable {X:Cx}{pins:List (Addr × Obj)}{σ:St}{H:Hp}{s:Shared}{a:Addr}{kvs:List (Key × V)}{k:Key}{u:Value}{A:Around}{E:Value->Shared->Prop}
theorem Cw {Q:Value->Shared->Prop} (I:Inv X pins σ H s) (e:Rd H a (.dK kvs)) (h:∀t s',Inv X pins σ H s'->Q (.int kvs.length t) s'):wpAny (model X.prog X.w) A (call (.builtin "len") [.ref a]) Q E s:=by
 obtain ⟨z,hd,vs,rel,dd⟩:=lA I.hok e
 refine call_len_dict hd dd (by rw [<- rel.length];rw [sizeLine_eq] at z;omega) ?_
 rw [<- rel.length]
 exact h _ _ (I.tok _)
end
theorem sJ {X:Cx}{pins:List (Addr × Obj)}{σ:St}{H:Hp}{s:Shared}{a:Addr}{y:V}{o:Option V} (I:Inv X pins σ H s) (g:cj H a y o):s.TypeIs (.ref a) "dict":=by
 rcases g with ⟨kvs,k,e,_,_⟩ | ⟨kvs,k,b,e,_,_,_⟩
 ·obtain ⟨_,_,vs,_,dd⟩:=lA I.hok e
  exact dd.typeIs
 ·obtain ⟨_,_,xs,_,dd⟩:=rN I.hok e
  exact dd.typeIs
section
variable {X:Cx}{o i e value:Expr}{pos pos' tpos:Pos}{td ty tv:TE}
end
theorem oM {P:Program}{w:World}{H:Hp} (h:Heap) (hb:sysModules < h.objs.size):dg P w H (h.push { cls:=.type "dict",data:=.dict #[] }) h.objs.size (.dK []) :=
 ⟨Nat.zero_le _,beq_eq_false_iff_ne.mpr (Ne.symm (Nat.ne_of_lt hb)),[],.nil,Heap.DictOf.new h⟩
def BI:TE:=fun _ H Q=>∀p,H p=none->Q (.ref p) (upd H p (.dK []))
section
variable {X:Cx}{pos:Pos}
theorem gp:PE X (.Dict [] [] pos) BI:=fun pins s σ H Q I h =>
 wpAny_Dict_empty ⟨.ref s.heap.objs.size,_,I.laid (a:=s.heap.objs.size) (o:=.dK []) (t':=s.toks) (fun _ _ q=>Heap.get?_push_of_some _ q) (Nat.le_refl _) (oM s.heap I.big),rfl,h _ (I.hok.fresh (Nat.le_refl _))⟩
end
def tq:List (TE × TE)->St->Hp->(List (V × V)->Hp->Prop)->Prop
 | [],_,H,Q=>Q [] H
 | (tk,tv) :: r,σ,H,Q=>tk σ H fun x H1=>tv σ H1 fun y H2=>tq r σ H2 fun ps H3=>Q ((x,y) :: ps) H3
abbrev VV:List (V × V)->List (Value × Value)->Prop:=Paired fun p q=>RelV p.1 q.1/\RelV p.2 q.2
def PPs (X:Cx) (pos:Pos) (keys:List (Option Expr)) (values:List Expr) (trs:List (TE × TE)):Prop :=
 ∀(pins:List (Addr × Obj)) (s:Shared) (σ:St) (H:Hp) (Q:List (V × V)->Hp->Prop),Inv X pins σ H s->tq trs σ H Q ->
  wpAny (model X.prog X.w) X.A (evalPairs (pairTrees keys values X.env pos)) (fun vs s'=>∃ps H',Inv X pins σ H' s'/\VV ps vs/\Q ps H') X.xe s
theorem zU {X:Cx}{pos:Pos}:PPs X pos [] [] []:=fun pins s σ H Q I h=>pairTrees_nil_walk ⟨[],H,I,.nil,h⟩
theorem jE {X:Cx}{pos:Pos}{k v:Expr}{ks:List (Option Expr)}{vs:List Expr}{tk tv:TE}{trs:List (TE × TE)} (hk:PE X k tk) (hv:PE X v tv) (hr:PPs X pos ks vs trs) :
  PPs X pos (some k :: ks) (v :: vs) ((tk,tv) :: trs):=fun pins s σ H Q I h =>
 pairTrees_cons_walk (thn (hk pins s σ H _ I h) fun u s1 ⟨x,H1,I1,rx,q1⟩=>thn (hv pins s1 σ H1 _ I1 q1) fun w2 s2 ⟨y,H2,I2,ry,q2⟩ =>
  thn (hr pins s2 σ H2 _ I2 q2) fun ws s3 ⟨ps,H3,I3,rel,q3⟩=>⟨(x,y) :: ps,H3,I3,.cons ⟨rx,ry⟩ rel,q3⟩)
def cA (kvs more:List (Key × V)):List (Key × V):=more.foldl (fun acc kv=>putK acc kv.1 kv.2) kvs
theorem KV.merge:∀{more:List (Key × V)}{rs:List (Key × Value)}{kvs:List (Key × V)}{vs:List (Key × Value)},KV more rs->KV kvs vs->KV (cA kvs more) (merged vs rs):=by
 intro more rs kvs vs r
 unfold KV at r
 induction r generalizing kvs vs with
 | nil=>intro q;exact q
 | @cons p q ps qs h t ih =>
  intro r0
  have e:KV (putK kvs p.1 p.2) (stored vs q.1 q.2):=by
   have:=r0.put p.1 h.2
   rw [<- h.1];exact this
  exact ih e
theorem ip:∀(more kvs:List (Key × V)),(cA kvs more).length <= kvs.length + more.length
 | [],kvs=>by show kvs.length <= kvs.length + 0;omega
 | p :: r,kvs=>by
  have h1:=ip r (putK kvs p.1 p.2)
  have h2:=gK kvs p.1 p.2
  show (cA (putK kvs p.1 p.2) r).length <= _
  rw [List.length_cons];omega
theorem nD {P:Program}{w:World}:∀{kvs:List (Key × V)}{ws:List (Value × Value)},VV (kvs.map fun kv=>(kV kv.1,kv.2)) ws->∃rs,Carries (cx P w) ws rs/\KV kvs rs
 | [],_,r=>by rw [List.map_nil] at r;cases r;exact ⟨[],True.intro,.nil⟩
 | p :: kvs,_,r=>by
  rw [List.map_cons] at r
  cases r with
  | @cons a b as bs h t =>
   obtain ⟨rs,c,q⟩:=nD (P:=P) (w:=w) t
   obtain ⟨b1,b2⟩:=b
   exact ⟨(p.1,b2) :: rs,⟨pZ h.1,rfl,c⟩,.cons ⟨rfl,h.2⟩ q⟩
def Cr (trs:List (TE × TE)):TE:=fun σ H Q=>∀p,H p=none->tq trs σ (upd H p (.dK [])) fun ps H2=>H2 p=some (.dK [])/\∃kvs:List (Key × V),ps=kvs.map (fun kv=>(kV kv.1,kv.2))/\kvs.length <= 15/\Q (.ref p) (upd H2 p (.dK (cA [] kvs)))
theorem yV {X:Cx}{pos:Pos}{keys:List (Option Expr)}{values:List Expr}{trs:List (TE × TE)} (h:PPs X pos keys values trs) (hall:keys.all (·.isSome)=true) (hl:keys.length=values.length) (h0:keys ≠ [])
  (h15:keys.length <= 15):PE X (.Dict keys values pos) (Cr trs):=by
 intro pins s σ H Q I q
 have hn:=I.hok.fresh (Nat.le_refl s.heap.objs.size)
 have I1:=I.laid (a:=s.heap.objs.size) (o:=.dK []) (h':=s.heap.push { cls:=.type "dict",data:=.dict #[] }) (t':=s.toks) (fun _ _ q=>Heap.get?_push_of_some _ q) (Nat.le_refl _) (oM s.heap I.big)
 refine wpAny_Dict_walk (knd:=cx X.prog X.w) hall hl h0 h15 (thn (h pins _ σ _ _ I1 (q _ hn)) fun ws s2 ⟨ps,H2,I2,rel,e,kvs,ep,lk,q2⟩=>?_)
 subst ep
 obtain ⟨rs,c,rk⟩:=nD (P:=X.prog) (w:=X.w) rel
 obtain ⟨z,hd,vs0,r0,dd⟩:=wM I2.hok e
 cases r0
 refine ⟨rs,c,dd,fun h' dd' hs=>⟨.ref s.heap.objs.size,_,?_,rfl,q2⟩⟩
 have hz:(cA [] kvs).length <= sizeLine:=by
  have h1:=ip kvs []
  rw [List.length_nil] at h1
  rw [sizeLine_eq];omega
 have he:∃q,h'.get? s.heap.objs.size=some q:=let ⟨q,_,_,hq,_⟩:=dd';⟨q,hq⟩
 exact mZ I2 (by rw [e];exact True.intro) hs he (fJ hz hd (rk.merge .nil) dd')
structure M1 (X:Cx) (o:Expr) (m:Str) (apos:Pos) (e:Expr) (cpos:Pos):Prop where
 base:attributeBase o m X.env (eval o X.env)=eval o X.env
 few:((backTo cpos (starEach [e] X.env)).all (fun x=>!x.1) && (backToKw cpos (keywordEach [] X.env)).all (fun x=>x.1.isSome)
  && decide (([e]:List Expr).length + ([]:List Keyword).length + (if ([]:List Keyword).isEmpty then 0 else 1) < 30))=true
 line:(apos.endLine == cpos.line)=true
 trees:backTo cpos (starEach [e] X.env)=[(false,eval e X.env)]
structure M2 (X:Cx) (o:Expr) (m:Str) (apos:Pos) (e f:Expr) (cpos:Pos):Prop where
 base:attributeBase o m X.env (eval o X.env)=eval o X.env
 few:((backTo cpos (starEach [e,f] X.env)).all (fun x=>!x.1) && (backToKw cpos (keywordEach [] X.env)).all (fun x=>x.1.isSome)
  && decide (([e,f]:List Expr).length + ([]:List Keyword).length + (if ([]:List Keyword).isEmpty then 0 else 1) < 30))=true
 line:(apos.endLine == cpos.line)=true
 trees:backTo cpos (starEach [e,f] X.env)=[(false,eval e X.env),(false,eval f X.env)]
def IsD (H:Hp) (a:Addr):Prop:=(∃kvs,Rd H a (.dK kvs)) \/ ∃kvs,Rd H a (.dT kvs)
theorem AW {X:Cx}{pins:List (Addr × Obj)}{σ:St}{H:Hp}{s:Shared}{a:Addr} (I:Inv X pins σ H s) (d:IsD H a) :
  s.TypeIs (.ref a) "dict"/\(∀b,Value.ref a=.ref b->∃ob,s.heap.get? b=some ob/\ob.dict=none)/\(a == sysModules)=false:=by
 rcases d with ⟨kvs,e⟩ | ⟨kvs,e⟩
 ·obtain ⟨_,hd,vs,_,dd⟩:=lA I.hok e
  refine ⟨dd.typeIs,fun b q=>?_,hd⟩
  cases q
  obtain ⟨ob,_,_,h1,h2,_⟩:=dd
  exact ⟨ob,h1,h2.2.1⟩
 ·obtain ⟨_,hd,xs,_,dd⟩:=rN I.hok e
  refine ⟨dd.typeIs,fun b q=>?_,hd⟩
  cases q
  obtain ⟨ob,_,_,h1,h2,_⟩:=dd
  exact ⟨ob,h1,h2.2.1⟩
section
variable {X:Cx}{pins:List (Addr × Obj)}{σ:St}{H:Hp}{s:Shared}{a:Addr}{y d:V}{u r:Value}{o:Option V}{A:Around}{E:Value->Shared->Prop}
theorem Bj {Q:Value->Shared->Prop} (hu:A.units + 1 < cLine) (I:Inv X pins σ H s) (g:cj H a y o) (ry:RelV y u) (h:∀w' s',Inv X pins σ H s'->RelV (o.getD .non) w'->Q w' s') :
  wpAny (model X.prog X.w) A (call (.builtin "dict.get") [.ref a,u]) Q E s:=by
 rcases g with ⟨kvs,k,e,ey,l⟩ | ⟨kvs,k,b,e,ey,eb,l⟩
 ·subst ey
  obtain ⟨z,hd,vs,rel,dd⟩:=lA I.hok e
  refine call_meetsIn PySem.F.slot_dict_get dd.typeIs PySem.F.entry_dict_get (PySem.F.args_dict_get_2 _ _) (meets_dict_get (cx X.prog X.w) a (pZ ry) hd) ⟨_,dd.mapOf,h _ _ (I.tok _) ?_⟩
  rw [l]
  exact (rel.val k).getD rfl
 ·subst ey
  cases (show u=Value.ref b from ry)
  obtain ⟨z,hd,xs,rel,dd⟩:=rN I.hok e
  refine call_meetsIn PySem.F.slot_dict_get dd.typeIs PySem.F.entry_dict_get (PySem.F.args_dict_get_2 _ _) (meetsH_dict_get (tupleKind (cx X.prog X.w)) a b hd) ⟨tupleKind_room_in1 hu,k,xs,qZ I.hok eb,dd,h _ _ (I.tok _) ?_⟩
  rw [l]
  exact (rel.val k).getD rfl
end
def A6 (td ty:TE):TE:=fun σ H Q=>td σ H fun x H1=>∃a,x=.ref a/\IsD H1 a/\ty σ H1 fun y H2=>∃o,cj H2 a y o/\Q (o.getD .non) H2
section
variable {X:Cx}{o e f:Expr}{apos cpos:Pos}{td ty tx:TE}
theorem wU (hu:X.A.units + 1 < cLine) (ho:PE X o td) (he:PE X e ty) (m:M1 X o "get" apos e cpos):PE X (.Call (.Attribute o "get" apos) [e] [] cpos) (A6 td ty):=by
 intro pins s σ H Q I h
 refine wpAny_Call_method m.base m.few m.line PySem.F.plainAttrs_dict PySem.F.slot_dict_get PySem.F.type_dict_get (thn (ho pins s σ H _ I h) fun u s1 ⟨x,H1,I1,rx,a,ex,d,q1⟩=>?_)
 subst ex
 obtain rfl:u=Value.ref a:=rx
 obtain ⟨t1,t2,_⟩:=AW I1 d
 refine ⟨t1,t2,?_⟩
 rw [m.trees]
 refine Calls.callWith_builtin rfl (Calls.evalArgs_plain (Calls.spliced_cons (thn (he pins s1 σ H1 _ I1 q1) fun iv s2 ⟨y,H2,I2,ry,ov,g,q2⟩=>Calls.spliced_nil ?_)))
 exact Bj hu I2 g ry fun w' s3 I3 rw'=>⟨_,H2,I3,rw',q2⟩
end
section
variable {X:Cx}{pins:List (Addr × Obj)}{σ:St}{H:Hp}{s:Shared}{a:Addr}{kvs:List (Key × V)}{A:Around}{E:Value->Shared->Prop}
end
section
variable {X:Cx}{pins:List (Addr × Obj)}{σ:St}{H:Hp}{s:Shared}{a:Addr}{y:V}{u:Value}{A:Around}{E:Value->Shared->Prop}
end
end L2
namespace L2
open PySem PySem.Spec PyProof.Rows
section
variable {X:Cx}
theorem rJ (hu:X.A.units + 64 < cLine):IxR X (fun x y H Q=>∃a v,x=.ref a/\cj H a y (some v)/\Q v H):=by
 intro value slice pins s σ H x y v u Q I rx ry h hs
 obtain ⟨a,z,rfl,g,q⟩:=h
 cases rx
 have hT:=sJ I g
 unfold subscriptTail
 refine wpAny_bind ?_
 rw [getitemInPython_of_ne hT.not_modules]
 refine wpAny_bind (wpAny_specialOf hT PySem.F.slot_dict_getitem.lookup ?_)
 have h₂:wpAny (model X.prog X.w) X.A (getItem (.ref a) u) (EP X pins σ Q) X.xe s:=wJ (by omega) I g ry fun w' s3 I3 rw'=>⟨z,H,I3,rw',q⟩
 have fin:wpAny (model X.prog X.w) X.A (subscripted slice false (.ref a) u) (fun r s₃=>wpAny (model X.prog X.w) X.A (letTemporaryGo value (.ref a) r >>= fun _=>pure r) (EP X pins σ Q) X.xe s₃) X.xe s:=by
  rw [hs]
  exact wpAny_operating (wpAny_mono h₂ (fun r s₃ h₃=>wpAny_bind (wpAny_letTemporaryGo (wpAny_pure h₃))) fun _ _ x=>x)
 first
  | exact wpAny_pure (wpAny_bind fin)
  | exact wpAny_bind (wpAny_pure (wpAny_bind fin))
  | exact wpAny_bind fin
def B9 (K:W.Frag):R2:=fun x y H Q=>match x,y with
 | .ref p,.int i=>(∃xs v,(SqL K H p xs \/ SqT K H p xs)/\atI xs i=some v/\Q v H) \/ (∃v,cj H p (.int i) (some v)/\Q v H)
 | .ref p,.str k=>∃v,cj H p (.str k) (some v)/\Q v H
 | .str z,.int i=>∃c,z.length <= sizeLine/\atI z.cps.toList i=some c/\Q (.str ⟨#[c]⟩) H
 | _,_=>False
theorem AF (hu:X.A.units + 64 < cLine):IxR X (B9 X.K):=by
 intro value slice pins s σ H x y v u Q I rx ry h hs
 cases x with
 | ref p =>
  cases y with
  | int i =>
   rcases h with h | ⟨w,g,q⟩
   ·exact yx value slice pins s σ H _ _ v u Q I rx ry h hs
   ·exact rJ hu value slice pins s σ H _ _ v u Q I rx ry ⟨p,w,rfl,g,q⟩ hs
  | str k =>
   obtain ⟨w,g,q⟩:=h
   exact rJ hu value slice pins s σ H _ _ v u Q I rx ry ⟨p,w,rfl,g,q⟩ hs
  | _=>exact (show False from h).elim
 | str z =>
  cases y with
  | int i=>exact yx value slice pins s σ H _ _ v u Q I rx ry h hs
  | _=>exact (show False from h).elim
 | _=>cases y <;> exact (show False from h).elim
theorem rn (hu:X.A.units + 64 < cLine):xr X (fun o i v H Q=>∃a H',o=.ref a/\du H a i v H'/\Q H'):=by
 intro pins s σ H o i v ov iv u Q I ro ri rv h
 obtain ⟨a,H',rfl,g,q⟩:=h
 cases ro
 exact vR (by omega) I g ri rv fun s4 I4=>⟨H',I4,q⟩
def BO:yU:=fun o i v H Q=>match o,i with
 | .ref p,.int k=>(∃xs j,H p=some (.lst xs)/\ixN xs.length k=some j/\Q (upd H p (.lst (xs.set j v)))) \/ (∃H',du H p (.int k) v H'/\Q H')
 | .ref p,.str k=>∃H',du H p (.str k) v H'/\Q H'
 | _,_=>False
theorem bS (hu:X.A.units + 64 < cLine) (hl:xr X Aj):xr X BO:=by
 intro pins s σ H o i v ov iv u Q I ro ri rv h
 cases o with
 | ref p =>
  cases i with
  | int k =>
   rcases h with ⟨xs,j,h1,h2,q⟩ | ⟨H',g,q⟩
   ·exact hl pins s σ H _ _ v ov iv u Q I ro ri rv ⟨p,xs,k,j,rfl,rfl,h1,h2,q⟩
   ·exact rn hu pins s σ H _ _ v ov iv u Q I ro ri rv ⟨p,H',rfl,g,q⟩
  | str k =>
   obtain ⟨H',g,q⟩:=h
   exact rn hu pins s σ H _ _ v ov iv u Q I ro ri rv ⟨p,H',rfl,g,q⟩
  | _=>exact (show False from h).elim
 | _=>cases i <;> exact (show False from h).elim
theorem Be:eo X (.builtin "len") (fun xs H Q=>∃a kvs,xs=[.ref a]/\Rd H a (.dK kvs)/\Q (.int (kvs.length:Nat)) H):=by
 intro pins s σ H xs us Q I r h
 obtain ⟨a,kvs,rfl,e,q⟩:=h
 obtain ⟨u,rfl,rfl⟩:=vals1 r
 exact Cw I e fun t s' I'=>⟨.int _,H,I',⟨_,rfl⟩,q⟩
end
end L2
namespace PySem
open Sem (wp)
section
variable {prog:Program}{w:World}{A:Around}{E:Value->Shared->Prop}{s:Shared}
theorem qO:typeLookup (.type "list") "keys"=pure none:=am_miss_of_fast (by kernel_rfl)
theorem qB {a:Addr}{o:Obj}{xs:Array Value}{k:Nat}{Q:Option Value->Shared->Prop} (hx:s.heap.get? a=some o) (hc:o.cls=.type "list") (hdat:o.data=.seq xs k) (hd:o.dict=none) (hA:A.handled=none)
  (h:∀h' tk,(∀b ob,s.heap.get? b=some ob->h'.get? b=some ob)->Q none { s with heap:=h',toks:=tk }):wpAny (model prog w) A (getAttr? (.ref a) "keys") Q E s:=by
 obtain ⟨c,dct,dat,sl⟩:=o
 simp only at hc hdat hd
 subst hc hdat hd
 obtain ⟨hp,g,d,tk,os⟩:=s
 have hT:∀tk',(⟨hp,g,d,tk',os⟩:Shared).TypeIs (.ref a) "list":=fun _=>⟨_,hx,rfl⟩
 have f1:=sub_AttributeError
 have f3:=F.slot_list_getattribute.lookup
 have f4:=F.slot_list_getattribute.bind (.ref a)
 have f5:=am_list_getattr_none
 have hmiss:=qO
 have hname:(["__module__","__name__","__qualname__","__doc__","__annotations__"]:List Str).contains "keys"=false:=by decide +kernel
 unfold getAttr? getAttrBy? getAttrBy
 repeat (any_goals (first | assumption | exact hT _ | ((with_reducible show wpAny _ _ (call (Value.builtin "list.__getattribute__") _ _) _ _ _);refine call_meets F.slot_list_getattribute (hT _) am_entry_list_getattribute (F.args_list_getattribute_2 _ _) (meets_getattribute_miss_list a xs k sl "keys" _ hmiss hname (by decide)) ⟨hx,hA,fun h' tk' e hx'=>?_⟩) | wp_step))
 obtain ⟨t',u',he⟩:=hx'.there
 have hTe:(⟨h',g,d,tk',os⟩:Shared).TypeIs (.ref e) "AttributeError":=⟨_,he,rfl⟩
 show wpAny _ _ (getattributeRaised _ _ _ _ _ _ _) _ _ _
 unfold getattributeRaised
 repeat (any_goals (first | assumption | wp_step))
 exact h _ _ hx'.keeps
end
end PySem
namespace L2
open PySem PySem.Spec PyProof.Rows
theorem jD:entryFor table "dict.update.loop"=some Builtin.«dict.update.loop»:=entryFor_of_tree (by kernel_rfl)
theorem eU:plainId "dict.update.loop"=true:=by decide +kernel
section
variable {X:Cx}{pins:List (Addr × Obj)}{σ:St}{H0:Hp}{A:Around}
theorem pair_items {prog:Program}{w:World}{E:Value->Shared->Prop}{s:Shared}{t:Addr}{its:Array Value}{Q:List Value->Shared->Prop} (h:s.heap.IsTuple t its) (q:Q its.toList s):wpAny (model prog w) A (Builtin.Dict.pairItems (.ref t)) Q E s:=by
 obtain ⟨o,ho,hc,n,hd⟩:=h
 unfold Builtin.Dict.pairItems
 refine wpAny_bind (wpAny_typeOf ⟨o,ho,hc⟩ ?_)
 rw [if_pos (by decide)]
 refine wpAny_bind ?_
 obtain ⟨c,dct,dat,sl⟩:=o
 simp only at hc hd
 subst hc hd
 obtain ⟨hp,g,d,tk,os⟩:=s
 repeat (any_goals (first | assumption | wp_step))
theorem ub (kvs:List (Key × V)) (i:Nat) {k:Key}{v:V} (h:kvs[i]?=some (k,v)):cA [] (kvs.take (i + 1))=putK (cA [] (kvs.take i)) k v:=by
 unfold cA
 rw [List.take_add_one,h,List.foldl_append]
 rfl
theorem xY (hc:X.calm=true) {l p it:Addr}{ps:List Addr}{kvs:List (Key × V)}{R:Result->Shared->Prop} (hA:A.handled=none) (hl:SqL X.K H0 l (ps.map V.ref)) (hlen:ps.length=kvs.length) (hn:kvs.length <= 1000)
  (hps:∀(i:Nat) t k v,ps[i]?=some t->kvs[i]?=some (k,v)->SqT X.K H0 t [kV k,v]) (hp:H0 p=none)
  (fin:∀s',Inv X pins σ (upd H0 p (.dK (cA [] kvs))) s'->R (.ok (.ret .none)) s') :
  ∀(n i:Nat) (s:Shared),n + i=ps.length->Inv X pins σ (upd H0 p (.dK (cA [] (kvs.take i)))) s->oS X pins (upd H0 p (.dK (cA [] (kvs.take i)))) it->s.heap.IsListIter it l i ->
   codeAny (model X.prog X.w) A (.builtin "dict.update.loop" ⟨[.ref p,.ref it,rawInt i,.none],[]⟩) R s:=by
 intro n
 induction n with
 | zero =>
  intro i s hi I hf st
  refine codeAny_builtin jD ?_
  rw [Around.under_plainId eU _]
  have sm:=ah.upd hp (.dK (cA [] (kvs.take i)))
  obtain ⟨its,rv,pl,hz⟩:=I.list (sm.seq hl)
  have hll:=rv.length
  rw [List.length_map] at hll
  obtain ⟨f0,f1,f2,f3,f4,f5⟩:=hf
  unfold Builtin.«dict.update.loop»
  refine wpAny_bind (wpAny_pyNext_list_end hA st pl.isList (by simp;omega) fun h' eb=>?_)
  have I':Inv X pins σ (upd H0 p (.dK (cA [] (kvs.take i)))) { s with heap:=h' }:=I.turned (t':=s.toks) (fun b o hb e=>eb b o hb e) f0 f1 f3 f4 f5
  rw [List.take_of_length_le (by omega)] at I'
  exact wpAny_bind (wpAny_pure (wpAny_pure (fin _ I')))
 | succ n ih =>
  intro i s hi I hf st
  refine codeAny_builtin jD ?_
  rw [Around.under_plainId eU _]
  have sm:=ah.upd hp (.dK (cA [] (kvs.take i)))
  obtain ⟨its,rv,pl,hz⟩:=I.list (sm.seq hl)
  have hll:=rv.length
  rw [List.length_map] at hll
  obtain ⟨t,ht⟩:∃t,ps[i]?=some t:=⟨ps[i]'(by omega),List.getElem?_eq_getElem (by omega)⟩
  obtain ⟨⟨k,v⟩,hk⟩:∃kv,kvs[i]?=some kv:=⟨kvs[i]'(by omega),List.getElem?_eq_getElem (by omega)⟩
  obtain ⟨u,hu1,hu2⟩:=rv.get (x:=.ref t) (i:=i) (by rw [List.getElem?_map,ht];rfl)
  cases hu2
  obtain ⟨f0,f1,f2,f3,f4,f5⟩:=hf
  unfold Builtin.«dict.update.loop»
  refine wpAny_bind (wpAny_pyNext_list_item st pl.isList (x:=.ref t) (by simpa using hu1) fun h' st' sb=>?_)
  have I1:Inv X pins σ (upd H0 p (.dK (cA [] (kvs.take i)))) { s with heap:=h' }:=I.turned (t':=s.toks) (fun b o hb e=>(sb.2 b hb).trans e) f0 f1 f3 f4 f5
  obtain ⟨jts,rj,pt,_⟩:=I1.tuple (sm.tup (hps i t k v ht hk))
  obtain ⟨u1,u2,e12,r1,r2⟩:∃u1 u2,jts=[u1,u2]/\RelV (kV k) u1/\RelV v u2:=by
   cases rj with
   | cons r1 q=>cases q with
    | cons r2 q=>cases q;exact ⟨_,_,rfl,r1,r2⟩
  subst e12
  refine wpAny_bind (wpAny_holding (wpAny_bind (wpAny_tryCatch (pair_items pt ?_))))
  show wpAny _ _ (holding [u1,u2] (dictSet p u1 u2)) _ _ _
  refine wpAny_holding ?_
  obtain ⟨z,hd,vs,rel,dd⟩:=wM I1.hok (ar (H:=H0) (a:=p) (o:=.dK (cA [] (kvs.take i))))
  have hz':vs.length <= sizeLine:=by rw [<- rel.length];exact z
  have hlk:(cA [] (kvs.take i)).length <= 1000:=by
   have:=ip (kvs.take i) []
   rw [List.length_take,List.length_nil] at this
   omega
  have hlp:(putK (cA [] (kvs.take i)) k v).length <= sizeLine:=by
   have h1:=gK (cA [] (kvs.take i)) k v
   have h2:=aR hlk
   omega
  refine wpAny_dictSet_pairs (hsz:=hz') (pZ r1) dd fun h2 dd' hs=>?_
  have he:∃q,h2.get? p=some q:=let ⟨q,_,_,hq,_⟩:=dd';⟨q,hq⟩
  have I2:=mZ (t':=s.toks + 1) (ob:=.dK (putK (cA [] (kvs.take i)) k v)) I1 (by rw [ar];exact True.intro) hs he (fJ hlp hd (rel.put k r2) dd')
  rw [zk,<- ub kvs i hk] at I2
  have hne:it ≠ p:=fun z=>by rw [z,ar] at f0;cases f0
  have f0':upd H0 p (.dK (cA [] (kvs.take (i + 1)))) it=none:=by
   rw [aK hne] at f0 ⊢
   exact f0
  refine wpAny_pure ⟨plainId_quiet eU _,?_⟩
  have ec:((i:Int) + 1)=((i + 1:Nat):Int):=by push_cast;rfl
  rw [ec]
  exact ih (i + 1) _ (by omega) I2 ⟨f0',f1,f2,f3,f4,f5⟩ (st'.at fun o e=>(hs.2 it hne).trans e)
theorem zc (hc:X.calm=true:=by rfl):eo X (.type "dict") (fun xs H Q=>∃(l:Addr) (ps:List Addr) (kvs:List (Key × V)),xs=[.ref l]/\SqL X.K H l (ps.map V.ref)/\ps.length=kvs.length/\kvs.length <= 1000 /\
  (∀(i:Nat) t k v,ps[i]?=some t->kvs[i]?=some (k,v)->SqT X.K H t [kV k,v])/\∀p,H p=none->Q (.ref p) (upd H p (.dK (cA [] kvs)))):=by
 intro pins s σ H xs us Q I r h
 obtain ⟨l,ps,kvs,rfl,hl,hlen,hn,hps,q⟩:=h
 obtain ⟨u,rfl,rfl⟩:=vals1 r
 have hA:=I.ok.hd hc
 have hp:=I.hok.fresh (Nat.le_refl s.heap.objs.size)
 have I1:=I.laid (a:=s.heap.objs.size) (o:=.dK []) (t':=s.toks) (h':=s.heap.push { cls:=.type "dict",data:=.dict #[] }) (fun _ _ q=>Heap.get?_push_of_some _ q) (Nat.le_refl _) (oM s.heap I.big)
 refine callType_codes (Q₁:=fun obj s₁=>obj=.ref s.heap.objs.size/\s₁={ s with heap:=s.heap.push { cls:=.type "dict",data:=.dict #[] } }) F.kt_called_dict (F.kt_typeCall_dict_1 _) F.entry_dict_init (kt_code_dict_new _ ⟨rfl,rfl⟩) ?_
 rintro obj s₁ ⟨rfl,rfl⟩
 have hnew:(s.heap.push { cls:=.type "dict",data:=.dict #[] }).DictOf (cx X.prog X.w) s.heap.objs.size []:=Heap.DictOf.new s.heap
 have sm:=ah.upd hp (.dK [])
 obtain ⟨its,rv,pl,hz⟩:=I1.list (sm.seq hl)
 obtain ⟨o,n,ho,hoc,hod,hos⟩:=id pl
 refine ⟨hnew.typeIs,F.args_dict_init_2 _ _,?_⟩
 unfold Builtin.«dict.__init__»
 refine wpAny_bind ?_
 unfold Builtin.Dict.selfAndRest
 refine wpAny_bind (wpAny_notOrdered_dict hnew.typeIs ?_)
 show wpAny _ _ (pure (s.heap.objs.size,[Value.ref l])) _ _ _
 refine wpAny_pure ?_
 show wpAny _ _ (Builtin.Dict.updateFrom "dict.__init__" s.heap.objs.size (.ref l) [] .none) _ _ _
 unfold Builtin.Dict.updateFrom
 refine wpAny_bind (wpAny_typeOf ⟨o,ho,hoc⟩ ?_)
 rw [if_pos (by decide)]
 refine wpAny_bind (qB ho hoc hos hod hA fun h2 tk2 k2=>?_)
 have I2:Inv X pins σ (upd H s.heap.objs.size (.dK [])) { s with heap:=h2,toks:=tk2 }:=I1.kept (t':=tk2) k2
 rw [if_pos (show (none:Option Value).isNone=true from rfl)]
 obtain ⟨its2,rv2,pl2,_⟩:=I2.list (sm.seq hl)
 refine wpAny_bind (wpAny_rule (wpAny_bind (wpAny_pyIter_list pl2.isList ?_)))
 refine wpAny_pure ⟨plainId_quiet eU _,?_⟩
 have I3:=I2.kept (h':=h2.push { cls:=.type "list_iterator",data:=.fields #[.ref l,.int 0 0] }) (t':=tk2) fun b o e=>Heap.get?_push_of_some _ e
 have fp:=I2.tM (H':=upd H s.heap.objs.size (.dK [])) (Nat.le_refl _) (I2.hok.fresh (Nat.le_refl _))
 refine xY (X:=X) (H0:=H) (A:=X.A.in1) (p:=s.heap.objs.size) (kvs:=kvs) hc hA hl hlen hn hps hp (fun s' I'=>?_) ps.length 0 _ rfl I3 fp ⟨_,Heap.get?_push_size _ rfl,rfl,rfl⟩
 exact ⟨rfl,.ref s.heap.objs.size,_,I',rfl,q _ hp⟩
end
end L2
namespace L2
open PySem PySem.Spec PyProof.Rows
section
variable {X:Cx}{pins:List (Addr × Obj)}{σ:St}{H:Hp}{s:Shared}
theorem Inv.uK {h':Heap}{t':Nat}{ch:List Addr} (I:Inv X pins σ H s) (hf:∀b ∈ ch,oS X pins H b) (k:∀b o,b ∉ ch->s.heap.get? b=some o->h'.get? b=some o):Inv X pins σ H { s with heap:=h',toks:=t' }:=by
 have nit:∀b u,H b=some u->b ∉ ch:=fun b u e z=>by rw [(hf b z).1] at e;cases e
 refine I.step (g':=s.gens) (d':=s.drawn) (ch:=ch) (fun b hb=>⟨(hf b hb).2.2.2.1,(hf b hb).2.1,(hf b hb).2.2.2.2.1,(hf b hb).2.2.2.2.2⟩) (fun b o _ _ hc e _=>k b o hc e) (fun b o _ _ hc e _=>⟨o.slots,k b o hc e⟩) (fun _ _ _ _ n=>n)
  (fun b o hc e=>⟨o,k b o hc e⟩) (fun _ _ e=>e) (fun _ _ _ e=>e) (fun b ps e=>⟨#[],by rw [e];simp⟩) (fun m hm=>?_) (fun b u e=>?_) I.bare
 ·obtain ⟨o,es,ep,ho,r⟩:=hm
  exact ⟨o,es,ep,k _ o (fun z=>(hf _ z).2.1 rfl) ho,r⟩
 ·refine (I.hok b u e).tN (fun c v hc q=>k c v ?_ q) (fun _ q=>q) fun _ _ q=>q
  rcases hc with rfl | hc
  ·exact nit _ _ e
  ·exact nit _ _ hc
theorem Inv.Cc {T:Addr}{u:HO} (I:Inv X pins σ H s) (hf:oS X pins H T) (hz:X.s₀.heap.objs.size <= T) (new:dg X.prog X.w (upd H T u) s.heap T u):Inv X pins σ (upd H T u) s:=by
 obtain ⟨f0,f1,f2,f3,f4,f5⟩:=hf
 have ne0:∀b o,X.s₀.heap.get? b=some o->b ≠ T:=fun b o e=>Nat.ne_of_lt (Nat.lt_of_lt_of_le (Heap.lt_size e) hz)
 have neS:∀b v,H b=some v->b ≠ T:=fun b v e z=>by rw [z,f0] at e;cases e
 refine ⟨I.ok,I.os,I.bare,⟨I.base.keep,I.base.slot,fun b o e n hx=>by rw [aK (ne0 b o e)];exact I.base.free b o e n hx,I.base.there,fun b xs e=>by
   have:=I.base.qt b xs e
   rw [aK (neS b _ this)];exact this,fun b o v e=>by
   have:=I.base.o7 b o v e
   rw [aK (neS b _ this)];exact this,fun b ps e=>by
   obtain ⟨more,q⟩:=I.base.qE b ps e
   exact ⟨more,by rw [aK (neS b _ q)];exact q⟩⟩,I.loc,I.cell,by rw [aK (Ne.symm f1)];exact I.free,fun x c e=>by rw [aK (f4 x c e)];exact I.jO x c e,
  fun p hp=>by rw [aK (f5 p hp)];exact I.pin p hp,fun b v e=>?_,I.len⟩
 by_cases hb:b=T
 ·subst hb;rw [ar] at e;cases e;exact new
 ·rw [aK hb] at e
  exact (I.hok b v e).tN (fun _ _ _ q=>q) (fun c q=>by rw [aK (neS c _ q)];exact q) fun c xs q=>by rw [aK (neS c _ q)];exact q
end
theorem CU {P:Program}{w:World}{k:Key}{u:Value} (h:(cx P w).is k u=true):RelV (kV k) u:=by
 cases k with
 | inl i=>obtain ⟨t,e⟩:=Value.isInt_shape (show Value.isInt i u=true from h);exact ⟨t,e⟩
 | inr x=>obtain ⟨t,e⟩:=Value.isStrOf_shape (show Value.isStrOf x u=true from h);exact ⟨t,e⟩
section
variable {X:Cx}
end
end L2
namespace L2
open PySem PySem.Spec PyProof.Rows
theorem kq {α β:Type}{F:α->β->Prop}:∀{l₁:List α}{l₂:List β},l₁.length=l₂.length->(∀(i:Nat) a b,l₁[i]?=some a->l₂[i]?=some b->F a b)->Paired F l₁ l₂
 | [],[],_,_=>.nil
 | [],_ :: _,h,_=>by simp at h
 | _ :: _,[],h,_=>by simp at h
 | x :: xs,y :: ys,h,f=>.cons (f 0 x y rfl rfl) (kq (by simpa using h) fun i a b ha hb=>f (i + 1) a b (by simpa using ha) (by simpa using hb))
theorem iu {α β:Type}{F:α->β->Prop}{l₁:List α}{l₂:List β} (h:Paired F l₁ l₂):∀{i:Nat}{a:α}{b:β},l₁[i]?=some a->l₂[i]?=some b->F a b:=by
 induction h with
 | nil=>intro i a b h;simp at h
 | cons r t ih =>
  intro i a b ha hb
  cases i with
  | zero=>simp only [List.getElem?_cons_zero,Option.some.injEq] at ha hb;subst ha hb;exact r
  | succ j=>exact ih (by simpa using ha) (by simpa using hb)
section
variable {X:Cx}{tg:Expr}
theorem zq (hc:X.calm=true:=by rfl):eo X (.type "list") (fun xs H Q=>∃d kvs,xs=[.ref d]/\Rd H d (.dK kvs)/\∀l,H l=none->Q (.ref l) (upd H l (.lst (kvs.map fun kv=>kV kv.1)))):=by
 intro pins s σ H xs us Q I r h
 obtain ⟨d,kvs,rfl,e,q⟩:=h
 obtain ⟨u,rfl,rfl⟩:=vals1 r
 obtain ⟨z,hs,vs,rel,dd⟩:=lA I.hok e
 obtain ⟨ep,dat⟩:=dd.dictAt
 have hl:=rel.length
 refine W.kdl_call (W.kdl_dict (knd:=cx X.prog X.w) (kvs:=vs) (ep:=ep) hs) (I.ok.hd hc) dat (by omega) fun h' tk acc c hk hS hacc=>?_
 have hp:=I.hok.fresh (Nat.le_refl s.heap.objs.size)
 refine ⟨.ref s.heap.objs.size,_,I.laid (a:=s.heap.objs.size) (o:=.lst (kvs.map fun kv=>kV kv.1)) (t':=tk) hk (Nat.le_refl _) ⟨by rw [List.length_map];exact z,acc.toList,c,?_,by simpa using hS⟩,rfl,q _ hp⟩
 have hsz:acc.size=vs.length:=hacc.1
 refine kq (by simp [hsz,hl]) fun i x y hx hy=>?_
 rw [List.getElem?_map] at hx
 obtain ⟨k,v,hv,hk⟩:=hacc.2 i y (by rw [<- Array.getElem?_toList];exact hy)
 cases hkv:kvs[i]? with
 | none=>rw [hkv] at hx;cases hx
 | some kv =>
  rw [hkv] at hx
  have hx':kV kv.1=x:=Option.some.inj hx
  have:=congrArg (fun l=>l[i]?) rel.keys
  simp only [List.getElem?_map,hkv,hv] at this
  have hkk:kv.1=k:=by simpa using this
  rw [<- hx',hkk]
  exact CU hk
end
section
variable {prog:Program}{w:World}{K:Type} [DecidableEq K] {knd:KeyKind prog w K}{A:Around}{E:Value->Shared->Prop}{s:Shared}
theorem pJ {d:Addr}{Q:Unit->Shared->Prop} (hd:(d == sysModules)=false) (q:Q () s):wpAny (model prog w) A (Builtin.Dict.showsAll d) Q E s:=by
 unfold Builtin.Dict.showsAll
 rw [if_neg (by rw [hd];exact Bool.false_ne_true)]
 exact wpAny_pure q
theorem tU {k:K}{v:Value}{es:List DictEntry}{lvs:List (K × Value)} (h:Pairs knd es lvs):valueAt lvs k=some v->∃j e,(es.findIdx? fun e=>knd.is k e.key)=some j/\es[j]?=some e/\e.val=v:=by
 induction h with
 | nil=>intro z;cases z
 | @cons e kv es lvs h1 h2 t ih =>
  intro z
  by_cases hk:kv.1=k
  ·subst hk
   have:valueAt (kv :: lvs) kv.1=some kv.2:=by simp [valueAt,List.find?_cons]
   rw [this] at z
   exact ⟨0,e,by rw [List.findIdx?_cons,if_pos h1],rfl,by rw [h2];exact Option.some.inj z⟩
  ·have:valueAt (kv :: lvs) k=valueAt lvs k:=by simp [valueAt,List.find?_cons,hk]
   rw [this] at z
   obtain ⟨j,f,hj,hf,hv⟩:=ih z
   have hn:¬ knd.is k e.key=true:=fun q=>hk (knd.inj _ _ _ h1 q)
   exact ⟨j + 1,f,by rw [List.findIdx?_cons,if_neg hn,hj];rfl,hf,hv⟩
theorem uD {id:String}{a b:Addr}{kvs lvs:List (K × Value)}{Q:Bool->Shared->Prop} (hda:(a == sysModules)=false) (hdb:(b == sysModules)=false) (ha:s.heap.DictOf knd a kvs) (hb:s.heap.DictOf knd b lvs) (hl:kvs.length=lvs.length)
  (hv:∀(i:Nat) k v,kvs[i]?=some (k,v)->∃v',valueAt lvs k=some v'/\SeqAt.EqAt A s v v' true) (q:Q true s):wpAny (model prog w) A (Builtin.Dict.samePairs id a b) Q E s:=by
 obtain ⟨o,es,ep,ho,hx,hd,hk,hp,hn⟩:=ha
 obtain ⟨o2,es2,ep2,ho2,hx2,hd2,hk2,hp2,hn2⟩:=hb
 have hz:es.size=kvs.length:=by rw [<- hp.length];simp
 have hz2:es2.size=lvs.length:=by rw [<- hp2.length];simp
 unfold Builtin.Dict.samePairs
 refine wpAny_bind (pJ hda ?_)
 refine wpAny_bind (pJ hdb ?_)
 refine wpAny_bind (wpAny_dictEntries ho hd ?_)
 refine wpAny_bind (wpAny_dictEntries ho2 hd2 ?_)
 rw [if_neg (by simp;omega)]
 refine wpAny_bind (wpAny_dictEpoch ho hd ?_)
 refine wpAny_bind ?_
 rw [Std.Legacy.Range.forIn_eq_forIn_range']
 simp only [Std.Legacy.Range.size,Nat.sub_zero,Nat.add_sub_cancel,Nat.div_one]
 refine wpAny_forIn_list _ (fun rest b s'=>b=(none,())/\s'=s/\∀i ∈ rest,i < es.size) _ ?_ ?_ _ _ ⟨rfl,rfl,fun i hi=>?_⟩
 ·rintro i rest c s' ⟨rfl,rfl,hr⟩
  have hi:i < es.size:=hr i (by simp)
  refine wpAny_bind (wpAny_dictEntries ho hd ?_)
  rw [Array.getElem?_eq_getElem hi]
  obtain ⟨⟨k,v⟩,hkv⟩:∃kv,kvs[i]?=some kv:=⟨kvs[i]'(by omega),List.getElem?_eq_getElem (by omega)⟩
  obtain ⟨hkey,hval⟩:=hp.get? (e:=es[i]) (by simp [hi]) hkv
  obtain ⟨k',hk',hh⟩:=hk es[i] (Array.getElem_mem hi)
  obtain ⟨v',hv',he⟩:=hv i k v hkv
  have hkk:k'=k:=knd.inj _ _ _ hk' hkey
  subst hkk
  show wpAny _ _ (holding [es[i].key,es[i].val] _ >>= _) _ _ _
  refine wpAny_bind (wpAny_holding ?_)
  rw [hh,hval]
  refine wpAny_bind (wpAny_dictFind_of hkey ho2 hd2 hk2 ?_)
  obtain ⟨j,f,hj,hf,hfv⟩:=tU hp2 hv'
  rw [<- List.findIdx?_toArray,Array.toArray_toList] at hj
  rw [Array.getElem?_toList] at hf
  rw [hj]
  refine wpAny_bind (wpAny_dictEntries ho2 hd2 ?_)
  rw [hf]
  show wpAny _ _ (holding [f.val] (eqBool v f.val)) _ _ _
  rw [hfv]
  refine wpAny_holding (he _ _ _ _ ?_)
  rw [if_neg (by decide)]
  refine wpAny_bind (wpAny_dictEpoch ho hd ?_)
  rw [if_neg (by simp)]
  exact wpAny_pure ⟨rfl,rfl,fun z hz=>hr z (List.mem_cons_of_mem _ hz)⟩
 ·rintro c s' ⟨rfl,rfl,_⟩
  exact wpAny_pure q
 ·have:=(List.mem_range'_1.mp hi).2
  omega
end
theorem vm {κ:Type} [DecidableEq κ]:∀{kvs:List (κ × V)}{i:Nat}{k:κ}{v:V},(kvs.map (·.1)).Nodup->kvs[i]?=some (k,v)->gG kvs k=some v
 | [],i,k,v,_,h=>by simp at h
 | p :: r,0,k,v,_,h=>by
  simp only [List.getElem?_cons_zero,Option.some.injEq] at h
  subst h
  exact lB (p:=(k,v)) rfl
 | p :: r,i + 1,k,v,hn,h=>by
  rw [List.map_cons] at hn
  have hr:=List.nodup_cons.mp hn
  have hi:r[i]?=some (k,v):=by simpa using h
  have hne:¬ p.1=k:=fun z=>hr.1 (by rw [z];exact List.mem_map_of_mem (f:=(·.1)) (List.mem_of_getElem? hi))
  rw [lq hne]
  exact vm hr.2 hi
section
variable {X:Cx}
def x8 (K:W.Frag) (H:Hp) (v v':V):Prop:=(v=v'/\pK v=true) \/ ∃p q xs,v=.ref p/\v'=.ref q/\SqL K H p xs/\SqL K H q xs/\xs.all pK=true
theorem zg {pins:List (Addr × Obj)}{σ:St}{H:Hp}{s:Shared}{A:Around}{v v':V}{u u':Value} (I:Inv X pins σ H s) (hu:A.units < cLine) (h:x8 X.K H v v') (r:RelV v u) (r':RelV v' u'):SeqAt.EqAt A s u u' true:=by
 rcases h with ⟨rfl,hf⟩ | ⟨p,q,xs,rfl,rfl,hp,hq,hf⟩
 ·exact mh hf r r' A s
 ·cases r
  cases r'
  by_cases hpq:p=q
  ·subst hpq;exact .same _
  ·obtain ⟨its,r1,⟨o,n,e1,c1,_,d1⟩,_⟩:=I.list hp
   obtain ⟨jts,r2,⟨o2,n2,e2,c2,_,d2⟩,_⟩:=I.list hq
   have l1:=r1.length
   have l2:=r2.length
   have hR:=SeqAt.RcAt.lists (A:=A) (s:=s) (e:=fun _=>true) (l:=p) (b:=q) (items:=its.toArray) (items2:=jts.toArray) ⟨o,e1,c1,n,d1⟩ ⟨o2,e2,c2,n2,d2⟩ (by simp;omega) hu (fun j h1 h2=>by
    simp at h1 h2
    obtain ⟨x,hx⟩:∃x,xs[j]?=some x:=⟨xs[j]'(by omega),List.getElem?_eq_getElem (by omega)⟩
    obtain ⟨u1,g1,w1⟩:=r1.get hx
    obtain ⟨u2,g2,w2⟩:=r2.get hx
    have z1:its.toArray[j]'(by simpa using h1)=u1:=by
     have:=List.getElem?_eq_getElem h1
     rw [g1] at this
     simpa using (Option.some.inj this).symm
    have z2:jts.toArray[j]'(by simpa using h2)=u2:=by
     have:=List.getElem?_eq_getElem h2
     rw [g2] at this
     simpa using (Option.some.inj this).symm
    rw [z1,z2]
    exact mh (List.all_eq_true.mp hf x (List.mem_of_getElem? hx)) w1 w2 _ _)
   have:((List.range its.toArray.size).all fun _=>true)=true:=by simp
   rw [this] at hR
   exact .of_refs hpq hR
theorem Ck (hu:X.A.units + 64 < cLine):OpR X (compareOp .Eq) (fun x y H Q=>∃a b kvs lvs,x=.ref a/\y=.ref b/\Rd H a (.dK kvs)/\Rd H b (.dK lvs)/\kvs.length=lvs.length /\
  (∀k v,gG kvs k=some v->∃v',gG lvs k=some v'/\x8 X.K H v v')/\Q (.bl true) H):=by
 intro pins s σ H x y v u Q I rx ry h
 obtain ⟨a,b,kvs,lvs,rfl,rfl,ha,hb,hl,hv,q⟩:=h
 cases rx
 cases ry
 obtain ⟨z,hs,vs,rel,dd⟩:=lA I.hok ha
 obtain ⟨z2,hs2,vs2,rel2,dd2⟩:=lA I.hok hb
 have e1:=rel.length
 have e2:=rel2.length
 refine wpAny_richCompare_same_room (op:=.Eq) dd.typeIs dd2.typeIs PySem.F.slot_dict_eq (wpAny_call_entry PySem.F.slot_dict_eq dd.typeIs PySem.F.entry_dict_eq ?_ (PySem.F.args_dict_eq_2 _ _)) (by omega)
 show wpAny _ _ (Builtin.Dict.dictSlotArgs "__eq__" ⟨[.ref a,.ref b],[]⟩ >>= _) _ _ _
 refine wpAny_bind ?_
 unfold Builtin.Dict.dictSlotArgs
 refine wpAny_bind (wpAny_notOrdered_dict dd.typeIs ?_)
 show wpAny _ _ (pure (Value.ref a,Value.ref b)) _ _ _
 refine wpAny_pure ?_
 refine wpAny_bind (wpAny_isInstance (T:="dict") (b:=true) dd2.typeIs (by rw [isSubtype_type];kernel_rfl) ?_)
 show wpAny _ _ (Builtin.Dict.samePairs "dict.__eq__" a b >>= _) _ _ _
 refine wpAny_bind (uD hs hs2 dd dd2 (by omega) (fun i k v hi=>?_) ?_)
 ·obtain ⟨⟨k',v'⟩,hkv⟩:∃kv,kvs[i]?=some kv:=⟨kvs[i]'(by have:=(List.getElem?_eq_some_iff.mp hi).1;omega),List.getElem?_eq_getElem _⟩
  have hr:k'=k/\RelV v' v:=iu rel hkv hi
  obtain ⟨rfl,hrv⟩:=hr
  obtain ⟨w',hw,hq⟩:=hv k' v' (vm (by rw [rel.keys];exact (dd.dictAt.choose_spec).nodup) hkv)
  have hval:=rel2.val k'
  rw [hw] at hval
  cases hvv:valueAt vs2 k' with
  | none=>rw [hvv] at hval;exact (show False from hval).elim
  | some u' =>
   rw [hvv] at hval
   exact ⟨u',rfl,zg I (show X.A.units + 1 < cLine by omega) hq hrv hval⟩
 ·show wpAny _ _ (ret (.bool true)) _ _ _
  exact wpAny_pure ⟨.bool true,rfl,(fun z=>nomatch z),.bl true,H,I,rfl,q⟩
end
end L2
namespace L2
open PySem PySem.Spec PyProof.Rows
section
variable {X:Cx}
structure nj (z y:Str) (ws:List Str):Prop where
 h1:(decide (z.length < y.length) || decide (Builtin.Str.strKind z < Builtin.Str.strKind y))=false
 hy:(y.length == 0)=false
 hf:(Builtin.Str.occurrences z y 0 z.length (z.length + 1)).isEmpty=false
 hx:z.length <= sizeLine
 hn:ws.length <= sizeLine
 e:Builtin.Str.partsBetween z (Builtin.Str.occurrences z y 0 z.length (z.length + 1)) y.length=ws
theorem qb:∀(tk:Nat) (ws:List Str),Vals (ws.map V.str) (strsFrom tk ws)
 | _,[]=>.nil
 | tk,x :: r=>.cons ⟨_,rfl⟩ (qb (tk + 1) r)
theorem xh:MtR X "str.split" (fun x xs H Q=>∃(z y:Str) (ws:List Str),x=.str z/\xs=[.str y]/\nj z y ws/\∀l,H l=none->Q (.ref l) (upd H l (.lst (ws.map V.str)))):=by
 intro pins s σ H x xs v us Q I rx rs h
 obtain ⟨z,y,ws,rfl,rfl,ok,q⟩:=h
 obtain ⟨t,rfl⟩:=rx
 obtain ⟨u,rfl,ru⟩:=rs.one
 obtain ⟨t2,rfl⟩:=ru
 obtain ⟨h1,hy,hf,hx,hn,e⟩:=ok
 subst e
 refine call_meets F.slot_str_split (typeIs_str _ _ _) F.entry_str_split (F.args_str_split_2 _ _) (meets_str_split_sep z y t t2 h1 hy hf hx hn) ?_
 exact ⟨.ref _,_,I.A5 (qb _ _) (by rw [List.length_map];exact hn),rfl,q _ I.fresh⟩
theorem m_split {o e:Expr}{to:TE}{t:TA}{apos cpos:Pos} (ho:PE X o to) (ha:PA X [e] t) (hbase:attributeBase o "split" X.env (eval o X.env)=eval o X.env:=by rfl)
  (hfew:((backTo cpos (starEach [e] X.env)).all (fun x=>!x.1) && (backToKw cpos (keywordEach [] X.env)).all (fun x=>x.1.isSome)
   && decide ([e].length + ([]:List Keyword).length + (if ([]:List Keyword).isEmpty then 0 else 1) < 30))=true:=by rfl)
  (hline:(apos.endLine == cpos.line)=true:=by rfl) (hs:starEach [e] X.env=(false,eval e X.env) :: starEach [] X.env:=by rfl) (hplain:(backTo cpos (starEach [] X.env)).any (·.1)=false:=by rfl) :
  PE X (.Call (.Attribute o "split" apos) [e] [] cpos) (tBM X.K "str" (fun x xs H Q=>∃(z y:Str) (ws:List Str),x=.str z/\xs=[.str y]/\nj z y ws/\∀l,H l=none->Q (.ref l) (upd H l (.lst (ws.map V.str)))) to t) :=
 Ac PySem.F.plainAttrs_str PySem.F.slot_str_split PySem.F.type_str_split xh ho ha hbase hfew hline hs hplain
def kX (z:Str) (n:Int):Str:=if n < 1 then Str.empty else if (n == 1 || z.length == 0)=true then z else ⟨(List.replicate n.toNat z.cps).foldl (· ++ ·) #[]⟩
def Cg:R2:=fun x y H Q=>match x,y with
 | .int i,.int j=>xF i j/\Q (.int (i * j)) H
 | .str z,.int n=>n < 1000/\-1000 < n/\z.length <= 1000/\Q (.str (kX z n)) H
 | .ref p,.int k=>∃xs,H p=some (.lst xs)/\-(2 ^ 63) <= k/\k < 2 ^ 63/\xs.length * k.toNat <= sizeLine/\∀l,H l=none->Q (.ref l) (upd H l (.lst (List.replicate k.toNat xs).flatten))
 | _,_=>False
theorem vT (xs:List (Array Nat)):∀acc:Array Nat,(xs.foldl (· ++ ·) acc).size=acc.size + (xs.map (·.size)).sum:=by
 induction xs with
 | nil=>intro acc;simp
 | cons x r ih=>intro acc;rw [List.foldl_cons,ih,Array.size_append,List.map_cons,List.sum_cons];omega
theorem rO (z:Str) (n:Nat):(⟨(List.replicate n z.cps).foldl (· ++ ·) #[]⟩:Str).length=n * z.length:=by
 show ((List.replicate n z.cps).foldl (· ++ ·) #[]).size=_
 rw [vT,List.map_replicate]
 have:∀m k:Nat,(List.replicate m k).sum=m * k:=fun m k=>by
  induction m with
  | zero=>simp
  | succ m ih=>rw [List.replicate_succ,List.sum_cons,ih,Nat.succ_mul];omega
 rw [this]
 simp [Str.length]
theorem eZ:OpR X (binaryOp .Mult) Cg:=by
 intro pins s σ H x y v u Q I rx ry h
 cases x with
 | int i =>
  cases y with
  | int j=>exact Co pins s σ H _ _ v u Q I rx ry h
  | _=>exact (show False from h).elim
 | str z =>
  cases y with
  | int n =>
   obtain ⟨h1,h2,h3,q⟩:=h
   obtain ⟨t,rfl⟩:=rx
   obtain ⟨t2,rfl⟩:=ry
   have hb:¬ n < 1->n.toNat * z.length <= 1000000:=fun hn=>by
    have e1:n.toNat <= 1000:=by omega
    exact Nat.le_trans (Nat.mul_le_mul e1 h3) (by decide)
   refine P.mul_str (by rw [decide_eq_false (by omega),decide_eq_false (by omega)];rfl) (fun hn _=>?_) (fun hn _=>?_) ?_
   ·intro z1
    have h0:(0:Int) < n:=by omega
    have:=Int.lt_mul_of_ediv_lt h0 z1
    have e2:((z.length:Int)) * n <= 1000 * 1000:=Int.mul_le_mul (by omega) (by omega) (by omega) (by decide)
    omega
   ·unfold Builtin.Str.tooLong
    have:=hb hn
    rw [Nat.mul_comm] at this
    refine decide_eq_false ?_
    rw [sizeLine_eq]
    omega
   ·unfold kX at q
    by_cases c1:n < 1
    ·rw [if_pos c1] at q ⊢
     exact ⟨by decide,.str _,H,I.tok _,⟨_,rfl⟩,q⟩
    ·rw [if_neg c1] at q ⊢
     by_cases c2:(n == 1 || z.length == 0)=true
     ·rw [if_pos c2] at q ⊢
      exact ⟨.str _,H,I,⟨_,rfl⟩,q⟩
     ·rw [if_neg c2] at q ⊢
      refine ⟨?_,.str _,H,I.tok _,⟨_,rfl⟩,q⟩
      rw [rO]
      have:=hb c1
      rw [sizeLine_eq]
      omega
  | _=>exact (show False from h).elim
 | ref p =>
  cases y with
  | int k =>
   obtain ⟨xs,h1,h2,h3,h4,q⟩:=h
   exact Bz pins s σ H _ _ v u Q I rx ry ⟨p,k,xs,rfl,rfl,h1,h2,h3,h4,q⟩
  | _=>exact (show False from h).elim
 | _=>cases y <;> exact (show False from h).elim
end
end L2
namespace L2
open PySem PySem.Spec PyProof.Rows
section
variable {X:Cx}
def Ay (K:W.Frag) (H:Hp) (a b:Addr):Prop:=∃kvs lvs,Rd H a (.dK kvs)/\Rd H b (.dK lvs)/\kvs.length=lvs.length/\∀k v,gG kvs k=some v->∃v',gG lvs k=some v'/\x8 K H v v'
def C5 (K:W.Frag):R2:=fun x y H Q=>match x,y with
 | .ref p,.ref q=>((∃d e,jd K H (.ref p) d/\jd K H (.ref q) e/\SeqAt.shaped d=true/\SeqAt.shaped e=true/\Q (.bl (PyData.eqv d e)) H) \/ (∃xs,SqL K H p xs/\SqL K H q xs/\xs.all pK=true/\Q (.bl true) H)) \/ (Ay K H p q/\Q (.bl true) H)
 | x,y=>vK x y=true/\Q (.bl (decide (x=y))) H
theorem bz (hu:X.A.units + 64 < cLine):OpR X (compareOp .Eq) (C5 X.K):=((CN hu).or (Ck hu)).imp fun x y H Q q=>by
 by_cases hr:∃p q,x=V.ref p/\y=V.ref q
 ·obtain ⟨p,q',rfl,rfl⟩:=hr
  rcases q with q | ⟨⟨kvs,lvs,h1,h2,h3,h4⟩,h5⟩
  ·exact .inl q
  ·exact .inr ⟨p,q',kvs,lvs,rfl,rfl,h1,h2,h3,h4,h5⟩
 ·refine .inl ?_
  cases x <;> cases y <;> first | exact q | exact absurd ⟨_,_,rfl,rfl⟩ hr
theorem gW:eo X (.builtin "len") (fun xs H Q=>(∃x n,xs=[x]/\Aw X.K x H n/\Q (.int n) H) \/ ∃a kvs,xs=[.ref a]/\Rd H a (.dK kvs)/\Q (.int (kvs.length:Nat)) H):=BW.or Be
theorem uZ (hc:X.calm=true:=by rfl):eo X (.type "list") (fun xs H Q=>(∃p ys,xs=[.ref p]/\(SqL X.K H p ys \/ SqT X.K H p ys)/\∀l,H l=none->Q (.ref l) (upd H l (.lst ys))) \/ ∃d kvs,xs=[.ref d]/\Rd H d (.dK kvs)/\∀l,H l=none->Q (.ref l) (upd H l (.lst (kvs.map fun kv=>kV kv.1)))):=ic.or (zq hc)
end
end L2
namespace L2
open PySem PySem.Spec PyProof.Rows
section
variable {X:Cx}{pins:List (Addr × Obj)}{σ:St}{H:Hp}{s:Shared}
def Itz (K:W.Frag) (a b:Addr):It :=
  ⟨fun i H=>∃xs ys x y,SqL K H a xs/\SqL K H b ys/\xs[i]?=some x/\ys[i]?=some y,
   fun i H v H'=>∃T x y,v=.ref T/\H T=none/\H'=upd H T (.tup [x,y])/\∀xs ys,SqL K H a xs->SqL K H b ys->xs[i]?=some x/\ys[i]?=some y,
   fun i H=>∃xs ys,SqL K H a xs/\SqL K H b ys/\(xs.length <= i \/ ys.length <= i)⟩
def Ci (z TI TO i1 i2 a b:Addr) (i:Nat) (h:Heap):Prop:=IsZip h z TI TO .none/\IsPair h TI (.ref i1) (.ref i2)/\(∃u v,IsPair h TO u v)/\h.IsListIter i1 a i/\h.IsListIter i2 b i
theorem xU {P:Program}{w:World}{K:W.Frag}{elts:List Expr}{x1}{pos:Pos}{a b z TI TO i1 i2:Addr} (D:ZipApart z TI TO i1 i2 a b) :
  Turn P w K (.Tuple elts x1 pos) (Itz K a b) [z,TI,TO,i1,i2] z (Ci z TI TO i1 i2 a b) where
 mem:=by simp
 obj:=fun i h st c hc=>by
  obtain ⟨hz,hI,⟨u,v,hO⟩,⟨o1,e1,_,d1⟩,⟨o2,e2,_,d2⟩⟩:=st
  simp only [List.mem_cons,List.not_mem_nil,or_false] at hc
  rcases hc with rfl | rfl | rfl | rfl | rfl
  ·exact ⟨_,hz,fun v q=>by cases (show Data.fields _=Data.cell v from q)⟩
  ·exact ⟨_,hI,fun v q=>by cases (show Data.seq _ _=Data.cell v from q)⟩
  ·exact ⟨_,hO,fun v q=>by cases (show Data.seq _ _=Data.cell v from q)⟩
  ·exact ⟨o1,e1,fun v q=>by rw [d1] at q;cases q⟩
  ·exact ⟨o2,e2,fun v q=>by rw [d2] at q;cases q⟩
 keep:=fun i h h' st k=>by
  obtain ⟨hz,hI,⟨u,v,hO⟩,h1,h2⟩:=st
  exact ⟨k z (by simp) _ hz,k TI (by simp) _ hI,⟨u,v,k TO (by simp) _ hO⟩,h1.at fun o e=>k i1 (by simp) o e,h2.at fun o e=>k i2 (by simp) o e⟩
 item:=by
  intro X hP hw hK hc i pins s σ H E I hf st hg
  subst hP hw hK
  obtain ⟨xs,ys,x,y,hq,hq',hx,hy⟩:=hg
  obtain ⟨its,rv,p,hz'⟩:=I.list hq
  obtain ⟨its',rv',p',hz''⟩:=I.list hq'
  obtain ⟨u,hu,ru⟩:=rv.get hx
  obtain ⟨v,hv,rv2⟩:=rv'.get hy
  obtain ⟨hz,hI,⟨u0,v0,hO⟩,h1,h2⟩:=st
  have hT:=I.tM (H':=H) (Nat.le_refl s.heap.objs.size) (I.hok.fresh (Nat.le_refl _))
  have lt:∀{c:Addr}{o:Obj},s.heap.get? c=some o->s.heap.objs.size ≠ c:=fun e=>Nat.ne_of_gt (Heap.lt_size e)
  refine wpAny_pyNext_zip_item D hz hI hO h1 h2 p.isList p'.isList (x:=u) (y:=v) (by simpa using hu) (by simpa using hv) fun h' a1 a2 a3 a4 a5 a6 a7=>?_
  have I1:Inv X pins σ H { s with heap:=h',toks:=s.toks }:=I.uK (ch:=[z,TI,TO,i1,i2]) hf fun c o hc q=>a7 c o (fun e=>hc (by simp [e])) (fun e=>hc (by simp [e])) (fun e=>hc (by simp [e])) (fun e=>hc (by simp [e])) q
  have I2:=I1.Cc (u:=.tup [x,y]) hT I.sz ⟨by show 2 <= sizeLine;decide,[u,v],.cons ru (.cons rv2 .nil),⟨_,a5,rfl,_,rfl⟩⟩
  refine ⟨_,rfl,wpAny_letOwnedTupleGo_zip (s:={ s with heap:=h' }) a1 fun h2' hz2 hs2=>?_⟩
  have f0:=hf z (by simp)
  have hI':h'.get? TI=_:=a7 TI _ D.TIz D.TITO D.TIi1 D.TIi2 hI
  have zT:z ≠ s.heap.objs.size:=Ne.symm (lt hz)
  refine ⟨.ref s.heap.objs.size,_,I2.turned (t':=s.toks) (it:=z) (fun c o hc q=>(hs2.2 c hc).trans q) (by rw [aK zT];exact f0.1) f0.2.1 f0.2.2.2.1 f0.2.2.2.2.1 f0.2.2.2.2.2,rfl,
   ⟨_,x,y,rfl,hT.1,rfl,fun xs' ys' q q'=>by rw [I.oF q hq,I.oF q' hq'];exact ⟨hx,hy⟩⟩,⟨hz2,(hs2.2 TI D.TIz).trans hI',⟨u,v,(hs2.2 TO D.TOz).trans a2⟩,a3.at fun o q=>(hs2.2 i1 D.i1z).trans q,a4.at fun o q=>(hs2.2 i2 D.i2z).trans q⟩,fun c hc=>?_⟩
  have cT:c ≠ s.heap.objs.size:=by
   simp only [List.mem_cons,List.not_mem_nil,or_false] at hc
   rcases hc with rfl | rfl | rfl | rfl | rfl
   ·exact zT
   ·exact Ne.symm (lt hI)
   ·exact Ne.symm (lt hO)
   ·obtain ⟨o,e,_⟩:=h1;exact Ne.symm (lt e)
   ·obtain ⟨o,e,_⟩:=h2;exact Ne.symm (lt e)
  rw [aK cT]
  exact (hf c hc).1
 done:=by
  intro X hP hw hK hc i pins s σ H E I hf st hg
  subst hP hw hK
  obtain ⟨xs,ys,hq,hq',hx⟩:=hg
  obtain ⟨its,rv,p,hz'⟩:=I.list hq
  obtain ⟨its',rv',p',hz''⟩:=I.list hq'
  obtain ⟨hz,hI,⟨u0,v0,hO⟩,h1,h2⟩:=st
  have hl:=rv.length
  have hl':=rv'.length
  refine wpAny_pyNext_zip_end (I.ok.hd hc) D hz hI hO h1 h2 p.isList p'.isList (by simp;omega) fun h' eb=>⟨rfl,?_⟩
  exact I.uK (ch:=[z,TI,TO,i1,i2]) hf fun c o hc q=>eb c o (fun e=>hc (by simp [e])) (fun e=>hc (by simp [e])) (fun e=>hc (by simp [e])) (fun e=>hc (by simp [e])) q
 self:=fun _ _ _ _ _ st h=>wpAny_pyIter_zip st.1 h
def CV (K:W.Frag) (ta:TA):TI:=fun σ H R=>ta σ H fun vs H1=>∃a b,vs=[.ref a,.ref b]/\(∃xs,SqL K H1 a xs)/\(∃ys,SqL K H1 b ys)/\R (Itz K a b) H1
theorem vX:bootBuiltins "zip"=some (.type "zip"):=by decide +kernel
theorem AK {a b:Expr}{ta:TA}{p pos:Pos}{elts:List Expr}{x1}{pos2:Pos} (hg:Gl X "zip") (hm:X.mg "zip"=none) (ha:PA X [a,b] ta) (he:starEach [a,b] X.env=(false,eval a X.env) :: starEach [b] X.env:=by rfl)
  (hpl:(backTo pos (starEach [b] X.env)).any (·.1)=false:=by rfl):PI X (.Tuple elts x1 pos2) (.Call (.Name "zip" p) [a,b] [] pos) (CV X.K ta):=by
 intro pins s σ H R I h
 refine Call_ (lR I hg hm vX (PyProof.Rows.callWith_type1 (thn (ha pos pins s σ H _ I h) fun us s1 ⟨vs,H1,I1,r1,q1⟩=>?_) he hpl))
 obtain ⟨a,b,e,⟨xs,hq⟩,⟨ys,hq'⟩,q⟩:=q1
 subst e
 obtain ⟨u,v,rfl,ru,rv⟩:=vals2 r1
 cases ru
 cases rv
 obtain ⟨its,rv1,p1,hz1⟩:=I1.list hq
 obtain ⟨its',rv2,p2,hz2⟩:=I1.list hq'
 have lt:∀{c:Addr}{zs:Array Value},s1.heap.IsList c zs->c < s1.heap.objs.size:=fun h=>by obtain ⟨o,e,_⟩:=h;exact Heap.lt_size e
 refine call_zip_2 p1.isList p2.isList fun h' hz hI hO h1 h2 hsz hk=>?_
 refine wpAny_pyIter_zip hz ?_
 refine ⟨s1.heap.objs.size + 4,[s1.heap.objs.size + 4,s1.heap.objs.size + 2,s1.heap.objs.size + 3,s1.heap.objs.size,s1.heap.objs.size + 1],_,_,H1,rfl,I1.kept (t':=s1.toks) hk,xU (zipApart_new (lt p1.isList) (lt p2.isList)),⟨hz,hI,⟨_,_,hO⟩,h1,h2⟩,fun c hc=>?_,q⟩
 have le:s1.heap.objs.size <= c:=by
  simp only [List.mem_cons,List.not_mem_nil,or_false] at hc
  rcases hc with h | h | h | h | h
  ·rw [h];exact Nat.le_add_right _ _
  ·rw [h];exact Nat.le_add_right _ _
  ·rw [h];exact Nat.le_add_right _ _
  ·rw [h];exact Nat.le_refl _
  ·rw [h];exact Nat.le_add_right _ _
 exact I1.tM le (I1.hok.fresh le)
end
theorem zw {K:PySem.W.Frag}{a b:Addr}{xs ys:List V}{g:TG}{tb:TS}{D:Ends}{σ:St}{H:Hp} (Pv:Nat->St->Hp->Prop) (h0:Pv 0 σ H) (hl:∀i σ H,i <= xs.length->Pv i σ H->SqL K H a xs/\SqL K H b ys) (hle:xs.length=ys.length)
  (hs:∀i x y σ H T,xs[i]?=some x->ys[i]?=some y->Pv i σ H->H T=none->g (.ref T) σ (upd H T (.tup [x,y])) fun σ2 H2=>tb { D with nx:=Pv (i + 1),ct:=Pv (i + 1),bk:=D.nx } σ2 H2) (hd:∀σ H,Pv xs.length σ H->D.nx σ H) :
  ∃W:Nat->Nat->St->Hp->Prop,(∃m,W 0 m σ H)/\∀i m σ H,W i m σ H ->
   ((Itz K a b).stop i H/\D.nx σ H) \/ ((Itz K a b).go i H/\∃N:St->Hp->Prop,(∀σ' H',N σ' H'->∃m',m' < m/\W (i + 1) m' σ' H')/\∀x H',(Itz K a b).yld i H x H'->g x σ H' fun σ2 H2=>tb { D with nx:=N,ct:=N,bk:=D.nx } σ2 H2):=by
 refine ⟨fun i m σ H=>m=xs.length - i/\i <= xs.length/\Pv i σ H,⟨xs.length,by simp,Nat.zero_le _,h0⟩,?_⟩
 rintro i m σ H ⟨rfl,hi,p⟩
 obtain ⟨q,q'⟩:=hl i σ H hi p
 by_cases hlt:i < xs.length
 ·have hlt':i < ys.length:=by omega
  refine .inr ⟨⟨xs,ys,xs[i],ys[i],q,q',by simp [hlt],by simp [hlt']⟩,Pv (i + 1),fun σ' H' p'=>⟨xs.length - (i + 1),by omega,rfl,hlt,p'⟩,fun v H' y=>?_⟩
  obtain ⟨T,x,y,rfl,hT,rfl,h⟩:=y
  obtain ⟨e1,e2⟩:=h xs ys q q'
  exact hs i x y σ _ T e1 e2 p hT
 ·have e:i=xs.length:=by omega
  subst e
  exact .inl ⟨⟨xs,ys,q,q',Or.inl (Nat.le_refl _)⟩,hd σ H p⟩
end L2
set_option maxHeartbeats 4000000
namespace L2
open PySem PySem.Spec PyProof.Rows
theorem uo {K:W.Frag}{a:Addr}{xs:List V}{fr:List Nat}{tf:CB->TT}{te:CB->TE}{Q:VK}{σ:St}{H1:Hp} (p:V->Bool) (R:V->V->Hp->Prop) (hx:SqL K H1 a xs) (hn:xs.length < sizeLine)
  (hf:∀b x H (G:Bool->Hp->Prop),x ∈ xs->ah H1 H->(∀H',ah H H'->G (p x) H')->tf b (some x :: cFr fr σ) H G)
  (he:∀b x H (G:VK),x ∈ xs->p x=true->ah H1 H->(∀y H',ah H H'->R x y H'->G y H')->te b (some x :: cFr fr σ) H G)
  (mono:∀x y H H',ah H H'->R x y H->R x y H') (st:∀x y H D ys zs,H D=some (.lst ys)->R x y H->R x y (upd H D (.lst zs)))
  (fin:∀D H ys,H1 D=none->ah H1 H->H D=some (.lst ys)->Paired (fun x y=>R x y H) (xs.filter p) ys->Q (.ref D) H):lL (Itl K a) 1 fr (fun _=>jc 0) tf te Q σ H1:=by
 have len:∀{i:Nat}{ys:List V}{H:Hp},Paired (fun x y=>R x y H) ((xs.take i).filter p) ys->ys.length <= i:=fun {i} _ _ h=>by
  have h1:=Paired.length h
  have h2:=List.length_filter_le p (xs.take i)
  rw [List.length_take] at h2
  omega
 refine ⟨fun b D hD=>?_⟩
 refine ⟨fun i m σ' H'=>m=xs.length - i/\i <= xs.length/\(∃v0,σ'=v0 :: cFr fr σ)/\ah H1 H'/\∃ys,H' D=some (.lst ys)/\Paired (fun x y=>R x y H') ((xs.take i).filter p) ys,⟨xs.length,rfl,Nat.zero_le _,⟨none,rfl⟩,ah.upd hD _,[],ar,.nil⟩,?_⟩
 rintro i m σ' H' ⟨rfl,hi,⟨v0,rfl⟩,sm,ys,hl,hR⟩
 have hy:=len hR
 by_cases hlt:i < xs.length
 ·refine .inr ⟨⟨xs,xs[i],sm.seq hx,List.getElem?_eq_getElem hlt⟩,fun σ2 H2=>(∃v0,σ2=v0 :: cFr fr σ)/\ah H1 H2/\∃ys,H2 D=some (.lst ys)/\Paired (fun x y=>R x y H2) ((xs.take (i + 1)).filter p) ys,fun σ2 H2 q=>⟨xs.length - (i + 1),by omega,rfl,hlt,q⟩,fun v H2 y=>?_⟩
  obtain ⟨rfl,yv⟩:=y
  have ev:=yv xs (sm.seq hx)
  have mem:v ∈ xs:=List.mem_of_getElem? ev
  rw [List.take_add_one,ev,List.filter_append]
  show tf b (some v :: cFr fr σ) _ _
  refine hf b v _ _ mem sm fun H3 s3=>?_
  cases hp:p v with
  | false =>
   rw [if_neg Bool.false_ne_true]
   refine ⟨⟨_,rfl⟩,sm.trans s3,ys,s3 _ _ hl,?_⟩
   have e0:((some v).toList.filter p)=[]:=by simp [hp]
   rw [e0,List.append_nil]
   exact Paired.cF hR fun _ _ h=>mono _ _ _ _ s3 h
  | true =>
   rw [if_pos rfl]
   have e0:((some v).toList.filter p)=[v]:=by simp [hp]
   rw [e0]
   refine he b v _ _ mem hp (sm.trans s3) fun z H4 s4 rz=>⟨ys,s4 _ _ (s3 _ _ hl),by omega,⟨_,rfl⟩,?_,ys ++ [z],ar,?_⟩
   ·intro c o q
    by_cases hc:c=D
    ·rw [hc,hD] at q;cases q
    ·rw [aK hc];exact (sm.trans (s3.trans s4)) c o q
   ·have hD4:=s4 _ _ (s3 _ _ hl)
    exact PySem.Paired.snoc (Paired.cF hR fun _ _ h=>st _ _ _ _ _ _ hD4 (mono _ _ _ _ (s3.trans s4) h)) (st _ _ _ _ _ _ hD4 rz)
 ·have e:i=xs.length:=by omega
  subst e
  rw [List.take_length] at hR
  exact .inl ⟨⟨xs,sm.seq hx,Nat.le_refl _⟩,fin D H' ys hD sm hl hR⟩
end L2
namespace L2
open PySem PySem.Spec PyProof.Rows
section
variable {X:Cx}
end
end L2
namespace L2
open PySem PySem.Spec PyProof.Rows
section
variable {X:Cx}
theorem Ah {o:Expr}{to:TE}{apos cpos:Pos} (ho:PE X o to) (hbase:attributeBase o "pop" X.env (eval o X.env)=eval o X.env:=by rfl) (hline:(apos.endLine == cpos.line)=true:=by rfl) :
  PE X (.Call (.Attribute o "pop" apos) [] [] cpos) (Cb X.K "list" CK to) :=
 AE PySem.F.plainAttrs_list PySem.F.slot_list_pop PySem.F.type_list_pop BD ho hbase hline
end
end L2
namespace L2
open PySem PySem.Spec PyProof.Rows
section
variable {X:Cx}
end
end L2
namespace L2
open PySem PySem.Spec PyProof.Rows
section
variable {X:Cx}
end
end L2
namespace L2
open PySem PySem.Spec PyProof.Rows
section
variable {X:Cx}
end
end L2
namespace L2
open PySem PySem.Spec PyProof.Rows
section
variable {X:Cx}
theorem Cf (hc:X.calm=true:=by rfl):eo X (.builtin "sum") (fun xs H Q=>∃(p:Addr) (ns:List Int),xs=[.ref p]/\SqL X.K H p (ns.map V.int)/\Q (.int ns.sum) H):=by
 intro pins s σ H xs us Q I r h
 obtain ⟨p,ns,rfl,hq,q⟩:=h
 obtain ⟨u,rfl,rx⟩:=vals1 r
 cases rx
 obtain ⟨its,rv,pl,hz⟩:=I.list hq
 have hl:=pl.isList
 have ia:=intsAre_of rv
 obtain ⟨xs,hx⟩:=ia.allInts.items
 have hn:xs.toList.map (·.1)=ns:=by
  rw [<- nums_intItems,<- hx]
  exact ia.numsOf
 rw [hx] at hl
 refine sum_intListG (I.ok.hd hc) hl fun h' tk t' hk=>⟨.int _,H,I.kept (t':=tk) hk,⟨_,rfl⟩,?_⟩
 rw [preSum_eq,List.take_of_length_le (by simp),hn]
 exact q
end
end L2
namespace L2
open PySem PySem.Spec PyProof.Rows
section
variable {X:Cx}
end
end L2
namespace L2
open PySem PySem.Spec PyProof.Rows
section
variable {X:Cx}
theorem Vals.rev:∀{xs:List V}{us:List Value},Vals xs us->Vals xs.reverse us.reverse
 | _,_,.nil=>.nil
 | x :: xs,u :: us,.cons h r=>by
  rw [List.reverse_cons,List.reverse_cons]
  exact PySem.Paired.snoc (Vals.rev r) h
def DB (K:W.Frag) (te:TE):TE:=fun σ H Q=>te σ H fun x H1=>∃a xs,x=.ref a/\SqL K H1 a xs/\∀p,H1 p=none->Q (.ref p) (upd H1 p (.lst xs.reverse))
theorem uf {e:Expr}{te:TE}{j:Nat}{pos p2 p3 p4:Pos} (he:PE X e te):PE X (.Subscript e (.Slice none none (some (.UnaryOp .USub (.Constant (.int 1) j p3) p4)) p2) pos) (DB X.K te):=by
 intro pins s σ H Q I h
 refine Subscript_ (thn (he pins s σ H _ I h) fun v s1 ⟨x,H1,I1,r1,a,xs,ex,hx,q⟩=>?_)
 subst ex
 cases r1
 refine wpAny_Slice ?_
 rw [evalPart_none]
 refine wpAny_pure ?_
 refine wpAny_pure ?_
 rw [evalPart_some]
 refine thn ((CC Bt (ae (X:=X))) pins s1 σ H1 (fun y H2=>H2=H1/\y=.int (-1)) I1 ⟨_,rfl,rfl,rfl⟩) fun v2 s2 ⟨y,H2,I2,r2,e2,e3⟩=>?_
 subst e2 e3
 obtain ⟨t2,rfl⟩:=r2
 obtain ⟨its,r,ht,hz⟩:=I2.list hx
 have hlen:its.toArray.size=xs.length:=by rw [List.size_toArray];exact r.length.symm
 have I4:Inv X pins σ H2 { s2 with heap:=s2.heap.push { cls:=.type "slice",data:=.fields #[.none,.none,.int (-1) t2] } }:=I2.kept fun b ob q=>Heap.get?_push_of_some _ q
 obtain ⟨its4,r4,ht4,hz4⟩:=I4.list hx
 have hlen4:its4.toArray.size=xs.length:=by rw [List.size_toArray];exact r4.length.symm
 refine tail_any (ops:=[.ref a,.ref s2.heap.objs.size]) (s:={ s2 with heap:=s2.heap.push { cls:=.type "slice",data:=.fields #[.none,.none,.int (-1) t2] } }) ht4.isList.typeIs slot_list_getitem.lookup (wpAny_getItem_list_slice ht4.isList (Heap.IsSliceOf.new ..) .none .none (.int (-1) t2) (by simp) ?_ (by rw [hlen4];exact hz4)) (by with_unfolding_all rfl)
 rw [W.krv_pick]
 refine ⟨.ref _,_,I4.laid (t':=s2.toks) (o:=.lst xs.reverse) (fun b ob q=>Heap.get?_push_of_some _ q) (Nat.le_refl _) ?_,rfl,q _ (I4.hok.fresh (Nat.le_refl _))⟩
 exact ⟨by rw [List.length_reverse];exact hz4,_,0,r4.rev,Heap.get?_push_size _ rfl⟩
end
end L2
namespace K27
open PySem L2
theorem scM {N P:List Str}{sc:Scope} (k:sc.kind=.function:=by rfl) (c:sc.isCoroutine=false:=by rfl) (g:sc.isGenerator=false:=by rfl) (n:N.Nodup:=by decide +kernel) (p:N.take P.length=P:=by rfl) (q:∀x ∈ P,sc.names.lookup x=some .local \/ sc.names.lookup x=some .cell:=by decide +kernel) (f:∀y ∈ sc.names,y.2 ≠ .free:=by decide +kernel):aB N P sc:=⟨k,c,g,n,p,q,f⟩
theorem px {X:Cx}{a b:Expr}{ta tb:TE}{pos:Pos} (hu:X.A.units + 64 < cLine) (ha:PE X a ta) (hb:PE X b tb) (hs:vn b:=by exact fun _ _=>rfl):PE X (.Subscript a b pos) (tOp (B9 X.K) ta tb):=BP (AF hu) ha hb hs
theorem pgn {X:Cx}{pos:Pos}{i:Nat}{x:Str} (hN:X.N.Nodup) (hi:X.N[i]?=some x) (hx:Loc X.env.scope x:=by first | exact Or.inl rfl | exact Or.inr rfl) (hf:X.fn x=true \/ X.env.scope.names.lookup x=some .local:=by first | exact .inl rfl | exact .inr rfl | assumption):PG X (.Name x pos) (jc i):=vb hN hi hx hf
abbrev jC:Stmt:=top 24
theorem qX:aB ["thing"] ["thing"] (aq jC):=scM
abbrev lP:Stmt:=top 25
theorem uE:aB ["gift","size"] ["gift","size"] (aq lP):=scM
abbrev iL:Stmt:=top 26
theorem kz:aB ["given","gifts","gift"] ["given","gifts"] (aq iL):=scM
abbrev kO:Stmt:=top 27
theorem rM:aB ["own"] ["own"] (aq kO):=scM
abbrev kF:Stmt:=top 28
theorem fD:aB ["program","gifts","cells","head","deed","part"] ["program","gifts"] (aq kF):=scM
abbrev oP:Stmt:=top 31
theorem vU:aB ["one","word","other"] ["one","word","other"] (aq oP):=scM
abbrev gR:Stmt:=top 32
theorem oo:aB ["place","size"] ["place","size"] (aq gR):=scM
abbrev mf:Stmt:=top 35
theorem tY:aB ["program","cells"] ["program","cells"] (aq mf):=scM
abbrev xy:Stmt:=top 36
theorem uq:aB ["program","gifts","state","book"] ["program","gifts"] (aq xy):=scM
abbrev ma:Stmt:=top 38
theorem oW:aB ["rows","known"] ["rows","known"] (aq ma):=scM
abbrev h9:Stmt:=top 39
theorem gj:aB ["row","known","one","other"] ["row","known"] (aq h9):=scM
abbrev kJ:Stmt:=top 40
theorem eS:aB ["rows","known","steps","row","more"] ["rows","known"] (aq kJ):=scM
abbrev gy:Stmt:=top 41
theorem mN:aB ["row","known"] ["row","known"] (aq gy):=scM
abbrev kE:Stmt:=top 42
theorem rD:aB ["steps"] ["steps"] (aq kE):=scM
abbrev hG:Stmt:=top 43
theorem gq:aB ["row","known","one","other"] ["row","known"] (aq hG):=scM
abbrev fH:Stmt:=top 44
theorem iI:aB ["row","known","steps"] ["row","known"] (aq fH):=scM
abbrev qr:Stmt:=top 45
theorem ny:aB ["program","known","deed"] ["program"] (aq qr):=scM
abbrev ot:Stmt:=top 46
theorem lN:aB ["program","known","deed"] ["program"] (aq ot):=scM
abbrev tE:Stmt:=top 47
theorem y6:aB ["program"] ["program"] (aq tE):=scM
abbrev qV:Stmt:=top 48
theorem xt:aB ["program"] ["program"] (aq qV):=scM
abbrev gM:Stmt:=top 50
theorem oR:aB ["_law_script","_law_k"] ["_law_script","_law_k"] (aq gM):=scM
abbrev lZ:Stmt:=top 51
theorem fk:aB ["_law_cell","_law_k","_law_rest","_law_j","_law_prime"] ["_law_cell","_law_k"] (aq lZ):=scM
abbrev kL:Stmt:=top 52
theorem dq:aB ["_law_cell","_law_k","_law_letters","_law_way","_law_words","_law_size","_law_at","_law_stem"] ["_law_cell","_law_k"] (aq kL):=scM
abbrev iP:Stmt:=top 53
theorem pz:aB ["_law_cell"] ["_law_cell"] (aq iP):=scM
abbrev jH:Stmt:=top 54
theorem qD:aB ["_law_number_here","_law_things"] ["_law_number_here","_law_things"] (aq jH):=scM
abbrev jz:Stmt:=top 55
theorem iV:aB ["_law_number_here","_law_things","_law_lists","_law_one","_law_other"] ["_law_number_here","_law_things","_law_lists"] (aq jz):=scM
abbrev kM:Stmt:=top 56
theorem jG:aB ["_law_state","_law_cell","_law_deep","_law_loops","_law_kinds","_law_kind_here"] ["_law_state","_law_cell","_law_deep","_law_loops"] (aq kM):=scM
abbrev jU:Stmt:=top 57
theorem dw:aB ["_law_state","_law_cell","_law_kind_here","_law_names","_law_at","_law_value_here","_law_own","_law_name_here","_law_many"] ["_law_state","_law_cell","_law_kind_here"] (aq jU):=scM
abbrev kI:Stmt:=top 58
theorem cz:aB ["_law_nodes_here","_law_costs","_law_long","_law_just","_law_node","_law_one"] ["_law_nodes_here","_law_costs"] (aq kI):=scM
abbrev lT:Stmt:=top 59
theorem nY:aB ["_law_one","_law_other","_law_left","_law_right","_law_times","_law_long"] ["_law_one","_law_other","_law_left","_law_right","_law_times"] (aq lT):=scM
abbrev jT:Stmt:=top 60
theorem fS:aB ["_law_state","_law_cell","_law_one","_law_other","_law_number_here","_law_more","_law_both"] ["_law_state","_law_cell","_law_one","_law_other"] (aq jT):=scM
abbrev jq:Stmt:=top 61
theorem cu:aB ["_law_state","_law_cell","_law_kind_here","_law_deep","_law_loops","_law_at","_law_body","_law_idles_here","_law_rounds","_law_value_here","_law_first","_law_other"] ["_law_state","_law_cell","_law_kind_here","_law_deep","_law_loops"] (aq jq):=scM
abbrev jg:Stmt:=top 62
theorem fT:aB ["_law_state","_law_deep","_law_loops","_law_nodes_here","_law_cell","_law_kind_here"] ["_law_state","_law_deep","_law_loops"] (aq jg):=scM
abbrev kC:Stmt:=top 63
theorem fC:aB ["_law_nodes_here","_law_rows","_law_node","_law_kind_here"] ["_law_nodes_here"] (aq kC):=scM
abbrev jK:Stmt:=top 64
theorem eX:aB ["_law_names","_law_cell","_law_heads_here","_law_k"] ["_law_names","_law_cell"] (aq jK):=scM
abbrev ji:Stmt:=top 65
theorem cU:aB ["_law_script","_law_names","_law_things","_law_state","_law_one","_law_at","_law_other","_law_main"] ["_law_script"] (aq ji):=scM
abbrev hE:Stmt:=top 66
theorem de:aB ["_law_drawn_here","_law_cell","_law_names","_law_bodies","_law_at","_law_cost_here","_law_deeds"] ["_law_drawn_here","_law_cell"] (aq hE):=scM
abbrev jL:Stmt:=top 67
theorem eW:aB ["_law_names","_law_script","_law_turn","_law_cell","_law_gifts_here","_law_k","_law_many"] ["_law_names","_law_script","_law_turn"] (aq jL):=scM
abbrev jx:Stmt:=top 68
theorem qW:aB ["_law_found"] ["_law_found"] (aq jx):=scM
abbrev iK:Stmt:=top 69
theorem fz:aB ["_law_found","_law_cost_here","_law_last","_law_row"] ["_law_found","_law_cost_here"] (aq iK):=scM
abbrev nI:Stmt:=top 70
theorem lS:aB ["_law_script","_law_drawn_here","_law_program_here","_law_cost_here","_law_told","_law_turn"] ["_law_script"] (aq nI):=scM
abbrev jR:Stmt:=inClass (top 2) 0
theorem qu:aB ["self"] ["self"] (aq jR):=scM
abbrev fu:Stmt:=inClass (top 7) 0
theorem sC:aB ["self","number"] ["self","number"] (aq fu):=scM
abbrev gk:Stmt:=inClass (top 8) 0
theorem mX:aB ["self","number","name","rank"] ["self","number","name","rank"] (aq gk):=scM
abbrev fL:Stmt:=inClass (top 9) 0
theorem lK:aB ["self","number","name","rank","size"] ["self","number","name","rank","size"] (aq fL):=scM
abbrev ie:Stmt:=inClass (top 10) 0
theorem oU:aB ["self","number","name","size"] ["self","number","name","size"] (aq ie):=scM
abbrev gY:Stmt:=inClass (top 11) 0
theorem oZ:aB ["self","number","name","rank"] ["self","number","name","rank"] (aq gY):=scM
abbrev ik:Stmt:=inClass (top 12) 0
theorem oE:aB ["self","number","name","value"] ["self","number","name","value"] (aq ik):=scM
abbrev gZ:Stmt:=inClass (top 13) 0
theorem nZ:aB ["self","number","name","place","value"] ["self","number","name","place","value"] (aq gZ):=scM
abbrev gr:Stmt:=inClass (top 14) 0
theorem mM:aB ["self","number","name","value"] ["self","number","name","value"] (aq gr):=scM
abbrev gS:Stmt:=inClass (top 15) 0
theorem nv:aB ["self","number","name","value","mark"] ["self","number","name","value","mark"] (aq gS):=scM
abbrev gw:Stmt:=inClass (top 16) 0
theorem mT:aB ["self","number","name","things"] ["self","number","name","things"] (aq gw):=scM
abbrev iR:Stmt:=inClass (top 18) 0
theorem pB:aB ["self","number","value","first","other","left","right"] ["self","number","value","first","other","left","right"] (aq iR):=scM
abbrev gf:Stmt:=inClass (top 19) 0
theorem mR:aB ["self","number","thing","most","body","left","right"] ["self","number","thing","most","body","left","right"] (aq gf):=scM
abbrev gD:Stmt:=inClass (top 20) 0
theorem mY:aB ["self","number","name","parts","body"] ["self","number","name","parts","body"] (aq gD):=scM
abbrev gi:Stmt:=inClass (top 21) 0
theorem mQ:aB ["self","heads","deeds","main"] ["self","heads","deeds","main"] (aq gi):=scM
abbrev kR:Stmt:=inClass (top 34) 0
theorem mI:aB ["self","program","cells","deed"] ["self","program","cells"] (aq kR):=scM
abbrev fI:Stmt:=inClass (top 34) 1
theorem lF:aB ["self","thing"] ["self","thing"] (aq fI):=scM
abbrev fw:Stmt:=inClass (top 34) 2
theorem eY:aB ["self","value","behind","numbers"] ["self","value"] (aq fw):=scM
abbrev eT:Stmt:=inClass (top 34) 3
theorem kN:aB ["self","row"] ["self","row"] (aq eT):=scM
abbrev fm:Stmt:=inClass (top 34) 4
theorem gL:aB ["self","count","book"] ["self","count"] (aq fm):=scM
abbrev gO:Stmt:=inClass (top 34) 5
theorem dI:aB ["self","rows","ending","row"] ["self","rows"] (aq gO):=scM
abbrev iN:Stmt:=inClass (top 34) 6
theorem iq:aB ["self","row","book","told"] ["self","row"] (aq iN):=scM
abbrev iM:Stmt:=inClass (top 34) 7
theorem ke:aB ["self","row","numbers"] ["self","row"] (aq iM):=scM
abbrev ib:Stmt:=inClass (top 34) 8
theorem c8:aB ["self","row","deed","numbers","part","number"] ["self","row"] (aq ib):=scM
abbrev jP:Stmt:=inClass (top 34) 9
theorem fV:aB ["self","row","ending"] ["self","row"] (aq jP):=scM
abbrev gU:Stmt:=inClass (top 34) 10
theorem df:aB ["self","row","wanted","done","ending"] ["self","row"] (aq gU):=scM
structure Adr where
 ck:Addr
 Row:Addr
 bL:Addr
 aX:Addr
 bF:Addr
 cm:Addr
 cb:Addr
 bP:Addr
 bp:Addr
 bJ:Addr
 bC:Addr
 cH:Addr
 bQ:Addr
 aV:Addr
 bj:Addr
 Program:Addr
 Run:Addr
structure Txt (K:W.Frag) (mg:Str->Option Value) (A:Adr):Prop where
 p9:bM K mg "is_number" jC ["thing"]
 uY:bM K mg "is_good" lP ["gift","size"]
 nK:bM K mg "given_cell" iL ["given","gifts"]
 sh:bM K mg "own_cell" kO ["own"]
 sj:bM K mg "cells_of" kF ["program","gifts"]
 reckon:bM K mg "reckon" oP ["one","word","other"]
 mw:bM K mg "round_place" gR ["place","size"]
 vy:bM K mg "ends_of" mf ["program","cells"]
 run:bM K mg "run" xy ["program","gifts"]
 qP:bM K mg "most_of" ma ["rows","known"]
 mC:bM K mg "most_of_row" h9 ["row","known"]
 oH:bM K mg "exact_of" kJ ["rows","known"]
 lj:bM K mg "exact_of_row" gy ["row","known"]
 rf:bM K mg "one_more" kE ["steps"]
 mB:bM K mg "exact_of_if" hG ["row","known"]
 kA:bM K mg "exact_of_loop" fH ["row","known"]
 eR:bM K mg "mosts" qr ["program"]
 w6:bM K mg "exacts" ot ["program"]
 most:bM K mg "most" tE ["program"]
 exact:bM K mg "exact" qV ["program"]
 my:bM K mg "_law_cell_at" gM ["_law_script","_law_k"]
 uU:bM K mg "_law_mix" lZ ["_law_cell","_law_k"]
 rR:bM K mg "_law_name" kL ["_law_cell","_law_k"]
 oQ:bM K mg "_law_number" iP ["_law_cell"]
 pW:bM K mg "_law_thing" jH ["_law_number_here","_law_things"]
 pF:bM K mg "_law_value" jz ["_law_number_here","_law_things","_law_lists"]
 q5:bM K mg "_law_kind" kM ["_law_state","_law_cell","_law_deep","_law_loops"]
 qd:bM K mg "_law_plain" jU ["_law_state","_law_cell","_law_kind_here"]
 nW:bM K mg "_law_cost" kI ["_law_nodes_here","_law_costs"]
 vf:bM K mg "_law_two" lT ["_law_one","_law_other","_law_left","_law_right","_law_times"]
 pS:bM K mg "_law_idles" jT ["_law_state","_law_cell","_law_one","_law_other"]
 lI:bM K mg "_law_block" jq ["_law_state","_law_cell","_law_kind_here","_law_deep","_law_loops"]
 qe:bM K mg "_law_nodes" jg ["_law_state","_law_deep","_law_loops"]
 oy:bM K mg "_law_made" kC ["_law_nodes_here"]
 pO:bM K mg "_law_heads" jK ["_law_names","_law_cell"]
 ql:bM K mg "_law_drawn" ji ["_law_script"]
 mK:bM K mg "_law_program" hE ["_law_drawn_here","_law_cell"]
 pL:bM K mg "_law_gifts" jL ["_law_names","_law_script","_law_turn"]
 pQ:bM K mg "_law_whole" jx ["_law_found"]
 nC:bM K mg "_law_within" iK ["_law_found","_law_cost_here"]
 rT:mg "all"=none
 oX:mg "bool"=none
 qT:mg "dict"=none
 sf:mg "int"=none
 aH:mg "isinstance"=none
 iw:mg "len"=none
 er:mg "list"=none
 nP:mg "max"=none
 ve:mg "min"=none
 eJ:mg "range"=none
 uI:mg "str"=none
 vz:mg "sum"=none
 vt:mg "zip"=none
 kg:∃t,mg "MOST_NUMBER"=some (.int 999999999999 t)
 ni:∃t,mg "ROUND"=some (.int 1000000000000 t)
 c6:eA K mg A.ck "Book" [A.ck]
 mE:MFn K A.ck "__init__" "Book.__init__" jR ["self"]
 gB:aM K A.ck "letters"
 jM:aM K A.ck "said"
 fQ:aM K A.ck "trace"
 cw:aM K A.ck "steps"
 ju:aM K A.ck "ends"
 iG:eA K mg A.Row "Row" [A.Row]
 nO:MFn K A.Row "__init__" "Row.__init__" fu ["self","number"]
 cP:eA K mg A.bL "HandRow" [A.bL,A.Row]
 jV:MFn K A.bL "__init__" "HandRow.__init__" gk ["self","number","name","rank"]
 jn:aM K A.bL "name"
 jY:aM K A.bL "rank"
 iD:aM K A.bL "number"
 bh:eA K mg A.aX "GivenRow" [A.aX,A.Row]
 ja:MFn K A.aX "__init__" "GivenRow.__init__" fL ["self","number","name","rank","size"]
 dz:aM K A.aX "name"
 i7:aM K A.aX "rank"
 cM:aM K A.aX "size"
 gH:aM K A.aX "number"
 bG:eA K mg A.bF "OwnRow" [A.bF,A.Row]
 ku:MFn K A.bF "__init__" "OwnRow.__init__" ie ["self","number","name","size"]
 dA:aM K A.bF "name"
 fB:aM K A.bF "size"
 iZ:aM K A.bF "number"
 dW:eA K mg A.cm "LetRow" [A.cm,A.Row]
 kh:MFn K A.cm "__init__" "LetRow.__init__" gY ["self","number","name","rank"]
 kx:aM K A.cm "name"
 kb:aM K A.cm "rank"
 jb:aM K A.cm "number"
 bu:eA K mg A.cb "SetRow" [A.cb,A.Row]
 kr:MFn K A.cb "__init__" "SetRow.__init__" ik ["self","number","name","value"]
 gT:aM K A.cb "name"
 gu:aM K A.cb "value"
 fP:aM K A.cb "number"
 bg:eA K mg A.bP "PutRow" [A.bP,A.Row]
 km:MFn K A.bP "__init__" "PutRow.__init__" gZ ["self","number","name","place","value"]
 hV:aM K A.bP "name"
 gC:aM K A.bP "place"
 gh:aM K A.bP "value"
 fK:aM K A.bP "number"
 aO:eA K mg A.bp "SendRow" [A.bp,A.Row]
 jw:MFn K A.bp "__init__" "SendRow.__init__" gr ["self","number","name","value"]
 gA:aM K A.bp "name"
 fO:aM K A.bp "value"
 dY:aM K A.bp "number"
 aP:eA K mg A.bJ "SayRow" [A.bJ,A.Row]
 ko:MFn K A.bJ "__init__" "SayRow.__init__" gS ["self","number","name","value","mark"]
 gQ:aM K A.bJ "name"
 gF:aM K A.bJ "value"
 hZ:aM K A.bJ "mark"
 eN:aM K A.bJ "number"
 aG:eA K mg A.bC "CallRow" [A.bC,A.Row]
 jZ:MFn K A.bC "__init__" "CallRow.__init__" gw ["self","number","name","things"]
 dU:aM K A.bC "name"
 ft:aM K A.bC "things"
 fg:aM K A.bC "number"
 aQ:eA K mg A.cH "LastRow" [A.cH,A.Row]
 jt:MFn K A.cH "__init__" "Row.__init__" fu ["self","number"]
 fi:aM K A.cH "number"
 aI:eA K mg A.bQ "IfRow" [A.bQ,A.Row]
 k5:MFn K A.bQ "__init__" "IfRow.__init__" iR ["self","number","value","first","other","left","right"]
 hJ:aM K A.bQ "value"
 eB:aM K A.bQ "first"
 eI:aM K A.bQ "other"
 dZ:aM K A.bQ "left"
 eE:aM K A.bQ "right"
 f9:aM K A.bQ "number"
 ax:eA K mg A.aV "LoopRow" [A.aV,A.Row]
 jS:MFn K A.aV "__init__" "LoopRow.__init__" gf ["self","number","thing","most","body","left","right"]
 fN:aM K A.aV "thing"
 dh:aM K A.aV "most"
 dN:aM K A.aV "body"
 dP:aM K A.aV "left"
 cQ:aM K A.aV "right"
 fo:aM K A.aV "number"
 cq:eA K mg A.bj "DeedRow" [A.bj,A.Row]
 jB:MFn K A.bj "__init__" "DeedRow.__init__" gD ["self","number","name","parts","body"]
 dQ:aM K A.bj "name"
 eM:aM K A.bj "parts"
 dR:aM K A.bj "body"
 ir:aM K A.bj "number"
 cD:eA K mg A.Program "Program" [A.Program]
 jl:MFn K A.Program "__init__" "Program.__init__" gi ["self","heads","deeds","main"]
 eK:aM K A.Program "heads"
 cO:aM K A.Program "deeds"
 dS:aM K A.Program "main"
 bV:eA K mg A.Run "Run" [A.Run]
 oN:MFn K A.Run "__init__" "Run.__init__" kR ["self","program","cells"]
 iX:MFn K A.Run "number_at" "Run.number_at" fI ["self","thing"]
 iH:MFn K A.Run "number_for" "Run.number_for" fw ["self","value"]
 gI:MFn K A.Run "number_told" "Run.number_told" eT ["self","row"]
 iJ:MFn K A.Run "pass_steps" "Run.pass_steps" fm ["self","count"]
 hU:MFn K A.Run "do_rows" "Run.do_rows" gO ["self","rows"]
 lh:MFn K A.Run "do_row" "Run.do_row" iN ["self","row"]
 lD:MFn K A.Run "do_put" "Run.do_put" iM ["self","row"]
 gP:MFn K A.Run "do_call" "Run.do_call" ib ["self","row"]
 jv:MFn K A.Run "do_if" "Run.do_if" jP ["self","row"]
 hW:MFn K A.Run "do_loop" "Run.do_loop" gU ["self","row"]
 gJ:aM K A.Run "deeds"
 cW:aM K A.Run "cells"
 f7:aM K A.Run "book"
 bX:OfC K A.Row "__init__"
 nd:[A.ck,A.Row,A.bL,A.aX,A.bF,A.cm,A.cb,A.bP,A.bp,A.bJ,A.bC,A.cH,A.bQ,A.aV,A.bj,A.Program,A.Run].Nodup
section
variable {P:Program}{w:World}{K:W.Frag}{mg:Str->Option Value}{base:Heap}{A:Adr}
theorem alc {H:Hp}{p:Addr} (h:H p=none) (o:HO):ah H (upd H p o)/\upd H p o p=some o:=⟨ah.upd h o,ar⟩
theorem x9:W.kitOne K (.type "int") (.type "int")=some true:=by kernel_rfl!
theorem xP:W.kitOne K (.type "int") (.type "bool")=some false:=by kernel_rfl!
theorem Av:W.kitOne K (.type "list") (.type "list")=some true:=by kernel_rfl!
theorem sz {n:Nat} (h:n <= 1000):n <= sizeLine:=Nat.le_of_lt (aR h)
theorem bD (x:Int) {m:Int} (hm:0 < m):0 <= x % m/\x % m < m:=⟨Int.emod_nonneg x (show m ≠ 0 by omega),Int.emod_lt_of_pos x hm⟩
theorem vd {α:Type}{xs:List α}{k:Int} (h0:0 <= k) (h1:k < (xs.length:Int)):∃x,xs[k.toNat]?=some x/\atI xs k=some x:=by
 have hk:k.toNat < xs.length:=by omega
 have e:=j5 (xs:=xs) (j:=k.toNat) (List.getElem?_eq_getElem hk)
 rw [show ((k.toNat:Nat):Int)=k by omega] at e
 exact ⟨_,List.getElem?_eq_getElem hk,e⟩
theorem nB {α:Type} (f:α->V) {xs:List α}{k:Int} (h0:0 <= k) (h1:k < (xs.length:Int)):∃x,x ∈ xs/\xs[k.toNat]?=some x/\atI (xs.map f) k=some (f x):=by
 obtain ⟨x,e1,e2⟩:=vd (xs:=xs.map f) h0 (by rw [List.length_map];exact h1)
 rw [List.getElem?_map] at e1
 cases h:xs[k.toNat]? with
 | none=>rw [h] at e1;cases e1
 | some y =>
  rw [h] at e1
  have:f y=x:=Option.some.inj e1
  exact ⟨y,List.mem_of_getElem? h,rfl,by rw [this];exact e2⟩
theorem j9 (i j:Int):decide (V.int i=V.int j)=decide (i=j):=decide_eq_decide.mpr ⟨fun h=>V.int.inj h,fun h=>by rw [h]⟩
theorem rC {α:Type} (xs:List α):xs.filter (fun _=>true)=xs:=List.filter_eq_self.mpr fun _ _=>rfl
end
section
variable {P:Program}{w:World}{K:W.Frag}{mg:Str->Option Value}{base:Heap}{A:Adr}
theorem ah.out {H0 H:Hp} (s:ah H0 H) {x:Addr} (h:H0 x=none) (u:HO):ah H0 (upd H x u):=fun a o q=>by
 rw [aK (fun z=>by rw [z,h] at q;cases q)]
 exact s a o q
theorem aj {H:Hp}{x a:Addr}{u o:HO} (n:a ≠ x) (e:H a=some o):upd H x u a=some o:=by rw [aK n];exact e
structure IA (H0:Hp) (x C dx:Addr) (fs:List (Str × V)) (H:Hp):Prop where
 s:ah H0 H
 i:H x=some (.ins C dx fs)
theorem IA.one {H:Hp}{x C dx:Addr} (hx:H x=none) (hd:H dx=none):IA H x C dx [] (upd (upd H dx (.own x)) x (.ins C dx [])):=⟨ah.out (ah.upd hd _) hx _,ar⟩
theorem IA.put {H0 H:Hp}{x C dx:Addr}{fs:List (Str × V)} (a:IA H0 x C dx fs H) (hx:H0 x=none) (gs:List (Str × V)):IA H0 x C dx gs (upd H x (.ins C dx gs)):=⟨ah.out a.s hx _,ar⟩
theorem IA.ne {H0 H:Hp}{x C dx p:Addr}{fs:List (Str × V)} (a:IA H0 x C dx fs H) (hp:H p=none):p ≠ x:=fun z=>by rw [z,a.i] at hp;cases hp
theorem IA.new {H0 H:Hp}{x C dx p:Addr}{fs:List (Str × V)} (a:IA H0 x C dx fs H) (hp:H p=none) (o:HO):IA H0 x C dx fs (upd H p o):=⟨a.s.trans (ah.upd hp _),aj (a.ne hp).symm a.i⟩
theorem IA.nw {H0 H:Hp}{x C dx:Addr}{fs:List (Str × V)} (_:IA H0 x C dx fs H) (p:Addr) (o:HO):upd H p o p=some o:=ar
def js (K:W.Frag) (A:Adr):Sp:=fun vs H Q _=>∃(x C dx:Addr) (fs:List (Str × V)) (n:V),vs=[.ref x,n]/\H x=some (.ins C dx fs)/\Cls K C/\aM K C "number"/\fs.length < 1000/\Q .non (upd H x (.ins C dx (cG "number" n fs)))
theorem kf {C:Addr} (F:MFn K C "__init__" "Row.__init__" fu ["self","number"]):di P w K mg base 2 C "__init__" ["self","number"] (js K A):=by
 refine F.has (k:=1) sC (fun vs H Q E h=>?_) (fun f cdv A' outer s H vs Q E hr hu h=>?_)
 ·obtain ⟨x,C,dx,fs,n,rfl,_⟩:=h
  rfl
 ·obtain ⟨x,C,dx,fs,n,rfl,hx,c,na,hl,q⟩:=h
  refine ⟨_,(ag (aZ (fv 0) (fv 1) rfl)),?_⟩
  exact ⟨x,C,dx,fs,rfl,hx,c,na,hl,q⟩
theorem cE (T:Txt K mg A):di P w K mg base 2 A.Row "__init__" ["self","number"] (js K A):=kf T.nO
def i5 (K:W.Frag) (A:Adr):Sp:=fun vs G R _=>∃(x dx:Addr) (v0 v1 v2:V) (H:Hp),vs=[.ref x,v0,v1,v2]/\G=upd (upd H dx (.own x)) x (.ins A.bL dx [])/\H x=none/\H dx=none/\∀(H':Hp),ah H H'->H' x=some (.ins A.bL dx [("number",v0),("name",v1),("rank",v2)])->R .non H'
theorem og (T:Txt K mg A):di P w K mg base 3 A.bL "__init__" ["self","number","name","rank"] (i5 K A):=by
 have D_Row_init:=cE (P:=P) (w:=w) (base:=base) T
 refine T.jV.has (k:=2) mX (fun vs G R E h=>?_) (fun f cdv A' outer s G vs R E hr hu h=>?_)
 ·obtain ⟨x,dx,v0,v1,v2,H,rfl,_⟩:=h
  rfl
 ·obtain ⟨x,dx,v0,v1,v2,H,rfl,rfl,hx,hd,q⟩:=h
  refine ⟨_,(ab (aU (cR T.iG T.bX D_Row_init hr (aa (fv 0) (aa (fv 1) af))))
  (ab (aZ (fv 0) (fv 2) rfl)
  (ag (aZ (fv 0) (fv 3) rfl)))),?_⟩
  have a:=IA.one (C:=A.bL) hx hd
  refine ⟨x,A.bL,dx,[],v0,rfl,a.i,T.cP.cl,T.iD,by decide,?_⟩
  replace a:=a.put hx [("number",v0)]
  refine ⟨x,A.bL,dx,_,rfl,a.i,T.cP.cl,T.jn,by simp,?_⟩
  replace a:=a.put hx [("number",v0),("name",v1)]
  refine ⟨x,A.bL,dx,_,rfl,a.i,T.cP.cl,T.jY,by simp,?_⟩
  replace a:=a.put hx [("number",v0),("name",v1),("rank",v2)]
  exact q _ a.s a.i
theorem nH {H:Hp}{x dx:Addr}{R:VK}{v0 v1 v2:V} (hx:H x=none) (hd:H dx=none) (q:∀(H':Hp),ah H H'->H' x=some (.ins A.bL dx [("number",v0),("name",v1),("rank",v2)])->R .non H'):i5 K A (.ref x :: ([v0,v1,v2] ++ [])) (upd (upd H dx (.own x)) x (.ins A.bL dx [])) R E0:=⟨x,dx,_,_,_,H,rfl,rfl,hx,hd,q⟩
def iz (K:W.Frag) (A:Adr):Sp:=fun vs G R _=>∃(x dx:Addr) (v0 v1 v2 v3:V) (H:Hp),vs=[.ref x,v0,v1,v2,v3]/\G=upd (upd H dx (.own x)) x (.ins A.aX dx [])/\H x=none/\H dx=none/\∀(H':Hp),ah H H'->H' x=some (.ins A.aX dx [("number",v0),("name",v1),("rank",v2),("size",v3)])->R .non H'
theorem mP (T:Txt K mg A):di P w K mg base 3 A.aX "__init__" ["self","number","name","rank","size"] (iz K A):=by
 have D_Row_init:=cE (P:=P) (w:=w) (base:=base) T
 refine T.ja.has (k:=2) lK (fun vs G R E h=>?_) (fun f cdv A' outer s G vs R E hr hu h=>?_)
 ·obtain ⟨x,dx,v0,v1,v2,v3,H,rfl,_⟩:=h
  rfl
 ·obtain ⟨x,dx,v0,v1,v2,v3,H,rfl,rfl,hx,hd,q⟩:=h
  refine ⟨_,(ab (aU (cR T.iG T.bX D_Row_init hr (aa (fv 0) (aa (fv 1) af))))
  (ab (aZ (fv 0) (fv 2) rfl)
  (ab (aZ (fv 0) (fv 3) rfl)
  (ag (aZ (fv 0) (fv 4) rfl))))),?_⟩
  have a:=IA.one (C:=A.aX) hx hd
  refine ⟨x,A.aX,dx,[],v0,rfl,a.i,T.bh.cl,T.gH,by decide,?_⟩
  replace a:=a.put hx [("number",v0)]
  refine ⟨x,A.aX,dx,_,rfl,a.i,T.bh.cl,T.dz,by simp,?_⟩
  replace a:=a.put hx [("number",v0),("name",v1)]
  refine ⟨x,A.aX,dx,_,rfl,a.i,T.bh.cl,T.i7,by simp,?_⟩
  replace a:=a.put hx [("number",v0),("name",v1),("rank",v2)]
  refine ⟨x,A.aX,dx,_,rfl,a.i,T.bh.cl,T.cM,by simp,?_⟩
  replace a:=a.put hx [("number",v0),("name",v1),("rank",v2),("size",v3)]
  exact q _ a.s a.i
theorem mj {H:Hp}{x dx:Addr}{R:VK}{v0 v1 v2 v3:V} (hx:H x=none) (hd:H dx=none) (q:∀(H':Hp),ah H H'->H' x=some (.ins A.aX dx [("number",v0),("name",v1),("rank",v2),("size",v3)])->R .non H'):iz K A (.ref x :: ([v0,v1,v2,v3] ++ [])) (upd (upd H dx (.own x)) x (.ins A.aX dx [])) R E0:=⟨x,dx,_,_,_,_,H,rfl,rfl,hx,hd,q⟩
def jX (K:W.Frag) (A:Adr):Sp:=fun vs G R _=>∃(x dx:Addr) (v0 v1 v2:V) (H:Hp),vs=[.ref x,v0,v1,v2]/\G=upd (upd H dx (.own x)) x (.ins A.bF dx [])/\H x=none/\H dx=none/\∀(H':Hp),ah H H'->H' x=some (.ins A.bF dx [("number",v0),("name",v1),("size",v2)])->R .non H'
theorem o5 (T:Txt K mg A):di P w K mg base 3 A.bF "__init__" ["self","number","name","size"] (jX K A):=by
 have D_Row_init:=cE (P:=P) (w:=w) (base:=base) T
 refine T.ku.has (k:=2) oU (fun vs G R E h=>?_) (fun f cdv A' outer s G vs R E hr hu h=>?_)
 ·obtain ⟨x,dx,v0,v1,v2,H,rfl,_⟩:=h
  rfl
 ·obtain ⟨x,dx,v0,v1,v2,H,rfl,rfl,hx,hd,q⟩:=h
  refine ⟨_,(ab (aU (cR T.iG T.bX D_Row_init hr (aa (fv 0) (aa (fv 1) af))))
  (ab (aZ (fv 0) (fv 2) rfl)
  (ag (aZ (fv 0) (fv 3) rfl)))),?_⟩
  have a:=IA.one (C:=A.bF) hx hd
  refine ⟨x,A.bF,dx,[],v0,rfl,a.i,T.bG.cl,T.iZ,by decide,?_⟩
  replace a:=a.put hx [("number",v0)]
  refine ⟨x,A.bF,dx,_,rfl,a.i,T.bG.cl,T.dA,by simp,?_⟩
  replace a:=a.put hx [("number",v0),("name",v1)]
  refine ⟨x,A.bF,dx,_,rfl,a.i,T.bG.cl,T.fB,by simp,?_⟩
  replace a:=a.put hx [("number",v0),("name",v1),("size",v2)]
  exact q _ a.s a.i
theorem qf {H:Hp}{x dx:Addr}{R:VK}{v0 v1 v2:V} (hx:H x=none) (hd:H dx=none) (q:∀(H':Hp),ah H H'->H' x=some (.ins A.bF dx [("number",v0),("name",v1),("size",v2)])->R .non H'):jX K A (.ref x :: ([v0,v1,v2] ++ [])) (upd (upd H dx (.own x)) x (.ins A.bF dx [])) R E0:=⟨x,dx,_,_,_,H,rfl,rfl,hx,hd,q⟩
def jA (K:W.Frag) (A:Adr):Sp:=fun vs G R _=>∃(x dx:Addr) (v0 v1 v2:V) (H:Hp),vs=[.ref x,v0,v1,v2]/\G=upd (upd H dx (.own x)) x (.ins A.cm dx [])/\H x=none/\H dx=none/\∀(H':Hp),ah H H'->H' x=some (.ins A.cm dx [("number",v0),("name",v1),("rank",v2)])->R .non H'
theorem pv (T:Txt K mg A):di P w K mg base 3 A.cm "__init__" ["self","number","name","rank"] (jA K A):=by
 have D_Row_init:=cE (P:=P) (w:=w) (base:=base) T
 refine T.kh.has (k:=2) oZ (fun vs G R E h=>?_) (fun f cdv A' outer s G vs R E hr hu h=>?_)
 ·obtain ⟨x,dx,v0,v1,v2,H,rfl,_⟩:=h
  rfl
 ·obtain ⟨x,dx,v0,v1,v2,H,rfl,rfl,hx,hd,q⟩:=h
  refine ⟨_,(ab (aU (cR T.iG T.bX D_Row_init hr (aa (fv 0) (aa (fv 1) af))))
  (ab (aZ (fv 0) (fv 2) rfl)
  (ag (aZ (fv 0) (fv 3) rfl)))),?_⟩
  have a:=IA.one (C:=A.cm) hx hd
  refine ⟨x,A.cm,dx,[],v0,rfl,a.i,T.dW.cl,T.jb,by decide,?_⟩
  replace a:=a.put hx [("number",v0)]
  refine ⟨x,A.cm,dx,_,rfl,a.i,T.dW.cl,T.kx,by simp,?_⟩
  replace a:=a.put hx [("number",v0),("name",v1)]
  refine ⟨x,A.cm,dx,_,rfl,a.i,T.dW.cl,T.kb,by simp,?_⟩
  replace a:=a.put hx [("number",v0),("name",v1),("rank",v2)]
  exact q _ a.s a.i
theorem wA {H:Hp}{x dx:Addr}{R:VK}{v0 v1 v2:V} (hx:H x=none) (hd:H dx=none) (q:∀(H':Hp),ah H H'->H' x=some (.ins A.cm dx [("number",v0),("name",v1),("rank",v2)])->R .non H'):jA K A (.ref x :: ([v0,v1,v2] ++ [])) (upd (upd H dx (.own x)) x (.ins A.cm dx [])) R E0:=⟨x,dx,_,_,_,H,rfl,rfl,hx,hd,q⟩
def jh (K:W.Frag) (A:Adr):Sp:=fun vs G R _=>∃(x dx:Addr) (v0 v1 v2:V) (H:Hp),vs=[.ref x,v0,v1,v2]/\G=upd (upd H dx (.own x)) x (.ins A.cb dx [])/\H x=none/\H dx=none/\∀(H':Hp),ah H H'->H' x=some (.ins A.cb dx [("number",v0),("name",v1),("value",v2)])->R .non H'
theorem o4 (T:Txt K mg A):di P w K mg base 3 A.cb "__init__" ["self","number","name","value"] (jh K A):=by
 have D_Row_init:=cE (P:=P) (w:=w) (base:=base) T
 refine T.kr.has (k:=2) oE (fun vs G R E h=>?_) (fun f cdv A' outer s G vs R E hr hu h=>?_)
 ·obtain ⟨x,dx,v0,v1,v2,H,rfl,_⟩:=h
  rfl
 ·obtain ⟨x,dx,v0,v1,v2,H,rfl,rfl,hx,hd,q⟩:=h
  refine ⟨_,(ab (aU (cR T.iG T.bX D_Row_init hr (aa (fv 0) (aa (fv 1) af))))
  (ab (aZ (fv 0) (fv 2) rfl)
  (ag (aZ (fv 0) (fv 3) rfl)))),?_⟩
  have a:=IA.one (C:=A.cb) hx hd
  refine ⟨x,A.cb,dx,[],v0,rfl,a.i,T.bu.cl,T.fP,by decide,?_⟩
  replace a:=a.put hx [("number",v0)]
  refine ⟨x,A.cb,dx,_,rfl,a.i,T.bu.cl,T.gT,by simp,?_⟩
  replace a:=a.put hx [("number",v0),("name",v1)]
  refine ⟨x,A.cb,dx,_,rfl,a.i,T.bu.cl,T.gu,by simp,?_⟩
  replace a:=a.put hx [("number",v0),("name",v1),("value",v2)]
  exact q _ a.s a.i
theorem wu {H:Hp}{x dx:Addr}{R:VK}{v0 v1 v2:V} (hx:H x=none) (hd:H dx=none) (q:∀(H':Hp),ah H H'->H' x=some (.ins A.cb dx [("number",v0),("name",v1),("value",v2)])->R .non H'):jh K A (.ref x :: ([v0,v1,v2] ++ [])) (upd (upd H dx (.own x)) x (.ins A.cb dx [])) R E0:=⟨x,dx,_,_,_,H,rfl,rfl,hx,hd,q⟩
def jy (K:W.Frag) (A:Adr):Sp:=fun vs G R _=>∃(x dx:Addr) (v0 v1 v2 v3:V) (H:Hp),vs=[.ref x,v0,v1,v2,v3]/\G=upd (upd H dx (.own x)) x (.ins A.bP dx [])/\H x=none/\H dx=none/\∀(H':Hp),ah H H'->H' x=some (.ins A.bP dx [("number",v0),("name",v1),("place",v2),("value",v3)])->R .non H'
theorem o6 (T:Txt K mg A):di P w K mg base 3 A.bP "__init__" ["self","number","name","place","value"] (jy K A):=by
 have D_Row_init:=cE (P:=P) (w:=w) (base:=base) T
 refine T.km.has (k:=2) nZ (fun vs G R E h=>?_) (fun f cdv A' outer s G vs R E hr hu h=>?_)
 ·obtain ⟨x,dx,v0,v1,v2,v3,H,rfl,_⟩:=h
  rfl
 ·obtain ⟨x,dx,v0,v1,v2,v3,H,rfl,rfl,hx,hd,q⟩:=h
  refine ⟨_,(ab (aU (cR T.iG T.bX D_Row_init hr (aa (fv 0) (aa (fv 1) af))))
  (ab (aZ (fv 0) (fv 2) rfl)
  (ab (aZ (fv 0) (fv 3) rfl)
  (ag (aZ (fv 0) (fv 4) rfl))))),?_⟩
  have a:=IA.one (C:=A.bP) hx hd
  refine ⟨x,A.bP,dx,[],v0,rfl,a.i,T.bg.cl,T.fK,by decide,?_⟩
  replace a:=a.put hx [("number",v0)]
  refine ⟨x,A.bP,dx,_,rfl,a.i,T.bg.cl,T.hV,by simp,?_⟩
  replace a:=a.put hx [("number",v0),("name",v1)]
  refine ⟨x,A.bP,dx,_,rfl,a.i,T.bg.cl,T.gC,by simp,?_⟩
  replace a:=a.put hx [("number",v0),("name",v1),("place",v2)]
  refine ⟨x,A.bP,dx,_,rfl,a.i,T.bg.cl,T.gh,by simp,?_⟩
  replace a:=a.put hx [("number",v0),("name",v1),("place",v2),("value",v3)]
  exact q _ a.s a.i
theorem vN {H:Hp}{x dx:Addr}{R:VK}{v0 v1 v2 v3:V} (hx:H x=none) (hd:H dx=none) (q:∀(H':Hp),ah H H'->H' x=some (.ins A.bP dx [("number",v0),("name",v1),("place",v2),("value",v3)])->R .non H'):jy K A (.ref x :: ([v0,v1,v2,v3] ++ [])) (upd (upd H dx (.own x)) x (.ins A.bP dx [])) R E0:=⟨x,dx,_,_,_,_,H,rfl,rfl,hx,hd,q⟩
def i4 (K:W.Frag) (A:Adr):Sp:=fun vs G R _=>∃(x dx:Addr) (v0 v1 v2:V) (H:Hp),vs=[.ref x,v0,v1,v2]/\G=upd (upd H dx (.own x)) x (.ins A.bp dx [])/\H x=none/\H dx=none/\∀(H':Hp),ah H H'->H' x=some (.ins A.bp dx [("number",v0),("name",v1),("value",v2)])->R .non H'
theorem nX (T:Txt K mg A):di P w K mg base 3 A.bp "__init__" ["self","number","name","value"] (i4 K A):=by
 have D_Row_init:=cE (P:=P) (w:=w) (base:=base) T
 refine T.jw.has (k:=2) mM (fun vs G R E h=>?_) (fun f cdv A' outer s G vs R E hr hu h=>?_)
 ·obtain ⟨x,dx,v0,v1,v2,H,rfl,_⟩:=h
  rfl
 ·obtain ⟨x,dx,v0,v1,v2,H,rfl,rfl,hx,hd,q⟩:=h
  refine ⟨_,(ab (aU (cR T.iG T.bX D_Row_init hr (aa (fv 0) (aa (fv 1) af))))
  (ab (aZ (fv 0) (fv 2) rfl)
  (ag (aZ (fv 0) (fv 3) rfl)))),?_⟩
  have a:=IA.one (C:=A.bp) hx hd
  refine ⟨x,A.bp,dx,[],v0,rfl,a.i,T.aO.cl,T.dY,by decide,?_⟩
  replace a:=a.put hx [("number",v0)]
  refine ⟨x,A.bp,dx,_,rfl,a.i,T.aO.cl,T.gA,by simp,?_⟩
  replace a:=a.put hx [("number",v0),("name",v1)]
  refine ⟨x,A.bp,dx,_,rfl,a.i,T.aO.cl,T.fO,by simp,?_⟩
  replace a:=a.put hx [("number",v0),("name",v1),("value",v2)]
  exact q _ a.s a.i
theorem tB {H:Hp}{x dx:Addr}{R:VK}{v0 v1 v2:V} (hx:H x=none) (hd:H dx=none) (q:∀(H':Hp),ah H H'->H' x=some (.ins A.bp dx [("number",v0),("name",v1),("value",v2)])->R .non H'):i4 K A (.ref x :: ([v0,v1,v2] ++ [])) (upd (upd H dx (.own x)) x (.ins A.bp dx [])) R E0:=⟨x,dx,_,_,_,H,rfl,rfl,hx,hd,q⟩
def jm (K:W.Frag) (A:Adr):Sp:=fun vs G R _=>∃(x dx:Addr) (v0 v1 v2 v3:V) (H:Hp),vs=[.ref x,v0,v1,v2,v3]/\G=upd (upd H dx (.own x)) x (.ins A.bJ dx [])/\H x=none/\H dx=none/\∀(H':Hp),ah H H'->H' x=some (.ins A.bJ dx [("number",v0),("name",v1),("value",v2),("mark",v3)])->R .non H'
theorem pA (T:Txt K mg A):di P w K mg base 3 A.bJ "__init__" ["self","number","name","value","mark"] (jm K A):=by
 have D_Row_init:=cE (P:=P) (w:=w) (base:=base) T
 refine T.ko.has (k:=2) nv (fun vs G R E h=>?_) (fun f cdv A' outer s G vs R E hr hu h=>?_)
 ·obtain ⟨x,dx,v0,v1,v2,v3,H,rfl,_⟩:=h
  rfl
 ·obtain ⟨x,dx,v0,v1,v2,v3,H,rfl,rfl,hx,hd,q⟩:=h
  refine ⟨_,(ab (aU (cR T.iG T.bX D_Row_init hr (aa (fv 0) (aa (fv 1) af))))
  (ab (aZ (fv 0) (fv 2) rfl)
  (ab (aZ (fv 0) (fv 3) rfl)
  (ag (aZ (fv 0) (fv 4) rfl))))),?_⟩
  have a:=IA.one (C:=A.bJ) hx hd
  refine ⟨x,A.bJ,dx,[],v0,rfl,a.i,T.aP.cl,T.eN,by decide,?_⟩
  replace a:=a.put hx [("number",v0)]
  refine ⟨x,A.bJ,dx,_,rfl,a.i,T.aP.cl,T.gQ,by simp,?_⟩
  replace a:=a.put hx [("number",v0),("name",v1)]
  refine ⟨x,A.bJ,dx,_,rfl,a.i,T.aP.cl,T.gF,by simp,?_⟩
  replace a:=a.put hx [("number",v0),("name",v1),("value",v2)]
  refine ⟨x,A.bJ,dx,_,rfl,a.i,T.aP.cl,T.hZ,by simp,?_⟩
  replace a:=a.put hx [("number",v0),("name",v1),("value",v2),("mark",v3)]
  exact q _ a.s a.i
theorem vW {H:Hp}{x dx:Addr}{R:VK}{v0 v1 v2 v3:V} (hx:H x=none) (hd:H dx=none) (q:∀(H':Hp),ah H H'->H' x=some (.ins A.bJ dx [("number",v0),("name",v1),("value",v2),("mark",v3)])->R .non H'):jm K A (.ref x :: ([v0,v1,v2,v3] ++ [])) (upd (upd H dx (.own x)) x (.ins A.bJ dx [])) R E0:=⟨x,dx,_,_,_,_,H,rfl,rfl,hx,hd,q⟩
def i9 (K:W.Frag) (A:Adr):Sp:=fun vs G R _=>∃(x dx:Addr) (v0 v1:V) (t0:Addr) (l0:List V) (H:Hp),vs=[.ref x,v0,v1,.ref t0]/\G=upd (upd H dx (.own x)) x (.ins A.bC dx [])/\H x=none/\H dx=none/\SqL K H t0 l0/\∀(n0:Addr) (H':Hp),H n0=none->ah H H'->H' n0=some (.lst l0)->H' x=some (.ins A.bC dx [("number",v0),("name",v1),("things",.ref n0)])->R .non H'
theorem oK (T:Txt K mg A):di P w K mg base 3 A.bC "__init__" ["self","number","name","things"] (i9 K A):=by
 have D_Row_init:=cE (P:=P) (w:=w) (base:=base) T
 refine T.jZ.has (k:=2) mT (fun vs G R E h=>?_) (fun f cdv A' outer s G vs R E hr hu h=>?_)
 ·obtain ⟨x,dx,v0,v1,t0,l0,H,rfl,_⟩:=h
  rfl
 ·obtain ⟨x,dx,v0,v1,t0,l0,H,rfl,rfl,hx,hd,s0,q⟩:=h
  refine ⟨_,(ab (aU (cR T.iG T.bX D_Row_init hr (aa (fv 0) (aa (fv 1) af))))
  (ab (aZ (fv 0) (fv 2) rfl)
  (ag (aZ (fv 0) (cN ic rfl T.er (by boot_by_name) (aa (fv 3) af)) rfl)))),?_⟩
  have a:=IA.one (C:=A.bC) hx hd
  refine ⟨x,A.bC,dx,[],v0,rfl,a.i,T.aG.cl,T.fg,by decide,?_⟩
  replace a:=a.put hx [("number",v0)]
  refine ⟨x,A.bC,dx,_,rfl,a.i,T.aG.cl,T.dU,by simp,?_⟩
  replace a:=a.put hx [("number",v0),("name",v1)]
  refine ⟨_,l0,rfl,.inl (a.s.seq s0),fun n0 f0=>?_⟩
  have e0:=a.ne f0
  have h0:=ah.free a.s f0
  have k0:=a.nw n0 (HO.lst l0)
  replace a:=a.new f0 (HO.lst l0)
  refine ⟨x,A.bC,dx,_,rfl,a.i,T.aG.cl,T.ft,by simp,?_⟩
  replace a:=a.put hx [("number",v0),("name",v1),("things",.ref n0)]
  replace k0:=aj (u:=.ins A.bC dx [("number",v0),("name",v1),("things",.ref n0)]) e0 k0
  exact q n0 _ h0 a.s k0 a.i
theorem sU {H:Hp}{x dx:Addr}{R:VK}{v0 v1:V}{t0:Addr}{l0:List V} (s0:SqL K H t0 l0) (hx:H x=none) (hd:H dx=none) (q:∀(n0:Addr) (H':Hp),H n0=none->ah H H'->H' n0=some (.lst l0)->H' x=some (.ins A.bC dx [("number",v0),("name",v1),("things",.ref n0)])->R .non H'):i9 K A (.ref x :: ([v0,v1,.ref t0] ++ [])) (upd (upd H dx (.own x)) x (.ins A.bC dx [])) R E0:=⟨x,dx,_,_,_,_,H,rfl,rfl,hx,hd,s0,q⟩
def ky (K:W.Frag) (A:Adr):Sp:=fun vs G R _=>∃(x dx:Addr) (v0 v1 v2 v3:V) (t0 t1:Addr) (l0 l1:List V) (H:Hp),vs=[.ref x,v0,v1,.ref t0,.ref t1,v2,v3]/\G=upd (upd H dx (.own x)) x (.ins A.bQ dx [])/\H x=none/\H dx=none/\SqL K H t0 l0/\SqL K H t1 l1/\∀(n0 n1:Addr) (H':Hp),H n0=none->H n1=none->ah H H'->H' n0=some (.lst l0)->H' n1=some (.lst l1)->H' x=some (.ins A.bQ dx [("number",v0),("value",v1),("first",.ref n0),("other",.ref n1),("left",v2),("right",v3)])->R .non H'
theorem qq (T:Txt K mg A):di P w K mg base 3 A.bQ "__init__" ["self","number","value","first","other","left","right"] (ky K A):=by
 have D_Row_init:=cE (P:=P) (w:=w) (base:=base) T
 refine T.k5.has (k:=2) pB (fun vs G R E h=>?_) (fun f cdv A' outer s G vs R E hr hu h=>?_)
 ·obtain ⟨x,dx,v0,v1,v2,v3,t0,t1,l0,l1,H,rfl,_⟩:=h
  rfl
 ·obtain ⟨x,dx,v0,v1,v2,v3,t0,t1,l0,l1,H,rfl,rfl,hx,hd,s0,s1,q⟩:=h
  refine ⟨_,(ab (aU (cR T.iG T.bX D_Row_init hr (aa (fv 0) (aa (fv 1) af))))
  (ab (aZ (fv 0) (fv 2) rfl)
  (ab (aZ (fv 0) (cN ic rfl T.er (by boot_by_name) (aa (fv 3) af)) rfl)
  (ab (aZ (fv 0) (cN ic rfl T.er (by boot_by_name) (aa (fv 4) af)) rfl)
  (ab (aZ (fv 0) (fv 5) rfl)
  (ag (aZ (fv 0) (fv 6) rfl))))))),?_⟩
  have a:=IA.one (C:=A.bQ) hx hd
  refine ⟨x,A.bQ,dx,[],v0,rfl,a.i,T.aI.cl,T.f9,by decide,?_⟩
  replace a:=a.put hx [("number",v0)]
  refine ⟨x,A.bQ,dx,_,rfl,a.i,T.aI.cl,T.hJ,by simp,?_⟩
  replace a:=a.put hx [("number",v0),("value",v1)]
  refine ⟨_,l0,rfl,.inl (a.s.seq s0),fun n0 f0=>?_⟩
  have e0:=a.ne f0
  have h0:=ah.free a.s f0
  have k0:=a.nw n0 (HO.lst l0)
  replace a:=a.new f0 (HO.lst l0)
  refine ⟨x,A.bQ,dx,_,rfl,a.i,T.aI.cl,T.eB,by simp,?_⟩
  replace a:=a.put hx [("number",v0),("value",v1),("first",.ref n0)]
  replace k0:=aj (u:=.ins A.bQ dx [("number",v0),("value",v1),("first",.ref n0)]) e0 k0
  refine ⟨_,l1,rfl,.inl (a.s.seq s1),fun n1 f1=>?_⟩
  have e1:=a.ne f1
  have h1:=ah.free a.s f1
  replace k0:=ah.upd f1 (HO.lst l1) _ _ k0
  have k1:=a.nw n1 (HO.lst l1)
  replace a:=a.new f1 (HO.lst l1)
  refine ⟨x,A.bQ,dx,_,rfl,a.i,T.aI.cl,T.eI,by simp,?_⟩
  replace a:=a.put hx [("number",v0),("value",v1),("first",.ref n0),("other",.ref n1)]
  replace k0:=aj (u:=.ins A.bQ dx [("number",v0),("value",v1),("first",.ref n0),("other",.ref n1)]) e0 k0
  replace k1:=aj (u:=.ins A.bQ dx [("number",v0),("value",v1),("first",.ref n0),("other",.ref n1)]) e1 k1
  refine ⟨x,A.bQ,dx,_,rfl,a.i,T.aI.cl,T.dZ,by simp,?_⟩
  replace a:=a.put hx [("number",v0),("value",v1),("first",.ref n0),("other",.ref n1),("left",v2)]
  replace k0:=aj (u:=.ins A.bQ dx [("number",v0),("value",v1),("first",.ref n0),("other",.ref n1),("left",v2)]) e0 k0
  replace k1:=aj (u:=.ins A.bQ dx [("number",v0),("value",v1),("first",.ref n0),("other",.ref n1),("left",v2)]) e1 k1
  refine ⟨x,A.bQ,dx,_,rfl,a.i,T.aI.cl,T.eE,by simp,?_⟩
  replace a:=a.put hx [("number",v0),("value",v1),("first",.ref n0),("other",.ref n1),("left",v2),("right",v3)]
  replace k0:=aj (u:=.ins A.bQ dx [("number",v0),("value",v1),("first",.ref n0),("other",.ref n1),("left",v2),("right",v3)]) e0 k0
  replace k1:=aj (u:=.ins A.bQ dx [("number",v0),("value",v1),("first",.ref n0),("other",.ref n1),("left",v2),("right",v3)]) e1 k1
  exact q n0 n1 _ h0 h1 a.s k0 k1 a.i
theorem yd {H:Hp}{x dx:Addr}{R:VK}{v0 v1 v2 v3:V}{t0:Addr}{l0:List V} (s0:SqL K H t0 l0) {t1:Addr}{l1:List V} (s1:SqL K H t1 l1) (hx:H x=none) (hd:H dx=none) (q:∀(n0 n1:Addr) (H':Hp),H n0=none->H n1=none->ah H H'->H' n0=some (.lst l0)->H' n1=some (.lst l1)->H' x=some (.ins A.bQ dx [("number",v0),("value",v1),("first",.ref n0),("other",.ref n1),("left",v2),("right",v3)])->R .non H'):ky K A (.ref x :: ([v0,v1,.ref t0,.ref t1,v2,v3] ++ [])) (upd (upd H dx (.own x)) x (.ins A.bQ dx [])) R E0:=⟨x,dx,_,_,_,_,_,_,_,_,H,rfl,rfl,hx,hd,s0,s1,q⟩
def iY (K:W.Frag) (A:Adr):Sp:=fun vs G R _=>∃(x dx:Addr) (v0 v1 v2 v3 v4:V) (t0:Addr) (l0:List V) (H:Hp),vs=[.ref x,v0,v1,v2,.ref t0,v3,v4]/\G=upd (upd H dx (.own x)) x (.ins A.aV dx [])/\H x=none/\H dx=none/\SqL K H t0 l0/\∀(n0:Addr) (H':Hp),H n0=none->ah H H'->H' n0=some (.lst l0)->H' x=some (.ins A.aV dx [("number",v0),("thing",v1),("most",v2),("body",.ref n0),("left",v3),("right",v4)])->R .non H'
theorem oe (T:Txt K mg A):di P w K mg base 3 A.aV "__init__" ["self","number","thing","most","body","left","right"] (iY K A):=by
 have D_Row_init:=cE (P:=P) (w:=w) (base:=base) T
 refine T.jS.has (k:=2) mR (fun vs G R E h=>?_) (fun f cdv A' outer s G vs R E hr hu h=>?_)
 ·obtain ⟨x,dx,v0,v1,v2,v3,v4,t0,l0,H,rfl,_⟩:=h
  rfl
 ·obtain ⟨x,dx,v0,v1,v2,v3,v4,t0,l0,H,rfl,rfl,hx,hd,s0,q⟩:=h
  refine ⟨_,(ab (aU (cR T.iG T.bX D_Row_init hr (aa (fv 0) (aa (fv 1) af))))
  (ab (aZ (fv 0) (fv 2) rfl)
  (ab (aZ (fv 0) (fv 3) rfl)
  (ab (aZ (fv 0) (cN ic rfl T.er (by boot_by_name) (aa (fv 4) af)) rfl)
  (ab (aZ (fv 0) (fv 5) rfl)
  (ag (aZ (fv 0) (fv 6) rfl))))))),?_⟩
  have a:=IA.one (C:=A.aV) hx hd
  refine ⟨x,A.aV,dx,[],v0,rfl,a.i,T.ax.cl,T.fo,by decide,?_⟩
  replace a:=a.put hx [("number",v0)]
  refine ⟨x,A.aV,dx,_,rfl,a.i,T.ax.cl,T.fN,by simp,?_⟩
  replace a:=a.put hx [("number",v0),("thing",v1)]
  refine ⟨x,A.aV,dx,_,rfl,a.i,T.ax.cl,T.dh,by simp,?_⟩
  replace a:=a.put hx [("number",v0),("thing",v1),("most",v2)]
  refine ⟨_,l0,rfl,.inl (a.s.seq s0),fun n0 f0=>?_⟩
  have e0:=a.ne f0
  have h0:=ah.free a.s f0
  have k0:=a.nw n0 (HO.lst l0)
  replace a:=a.new f0 (HO.lst l0)
  refine ⟨x,A.aV,dx,_,rfl,a.i,T.ax.cl,T.dN,by simp,?_⟩
  replace a:=a.put hx [("number",v0),("thing",v1),("most",v2),("body",.ref n0)]
  replace k0:=aj (u:=.ins A.aV dx [("number",v0),("thing",v1),("most",v2),("body",.ref n0)]) e0 k0
  refine ⟨x,A.aV,dx,_,rfl,a.i,T.ax.cl,T.dP,by simp,?_⟩
  replace a:=a.put hx [("number",v0),("thing",v1),("most",v2),("body",.ref n0),("left",v3)]
  replace k0:=aj (u:=.ins A.aV dx [("number",v0),("thing",v1),("most",v2),("body",.ref n0),("left",v3)]) e0 k0
  refine ⟨x,A.aV,dx,_,rfl,a.i,T.ax.cl,T.cQ,by simp,?_⟩
  replace a:=a.put hx [("number",v0),("thing",v1),("most",v2),("body",.ref n0),("left",v3),("right",v4)]
  replace k0:=aj (u:=.ins A.aV dx [("number",v0),("thing",v1),("most",v2),("body",.ref n0),("left",v3),("right",v4)]) e0 k0
  exact q n0 _ h0 a.s k0 a.i
theorem uA {H:Hp}{x dx:Addr}{R:VK}{v0 v1 v2 v3 v4:V}{t0:Addr}{l0:List V} (s0:SqL K H t0 l0) (hx:H x=none) (hd:H dx=none) (q:∀(n0:Addr) (H':Hp),H n0=none->ah H H'->H' n0=some (.lst l0)->H' x=some (.ins A.aV dx [("number",v0),("thing",v1),("most",v2),("body",.ref n0),("left",v3),("right",v4)])->R .non H'):iY K A (.ref x :: ([v0,v1,v2,.ref t0,v3,v4] ++ [])) (upd (upd H dx (.own x)) x (.ins A.aV dx [])) R E0:=⟨x,dx,_,_,_,_,_,_,_,H,rfl,rfl,hx,hd,s0,q⟩
def iW (K:W.Frag) (A:Adr):Sp:=fun vs G R _=>∃(x dx:Addr) (v0 v1:V) (t0 t1:Addr) (l0 l1:List V) (H:Hp),vs=[.ref x,v0,v1,.ref t0,.ref t1]/\G=upd (upd H dx (.own x)) x (.ins A.bj dx [])/\H x=none/\H dx=none/\SqL K H t0 l0/\SqL K H t1 l1/\∀(n0 n1:Addr) (H':Hp),H n0=none->H n1=none->ah H H'->H' n0=some (.lst l0)->H' n1=some (.lst l1)->H' x=some (.ins A.bj dx [("number",v0),("name",v1),("parts",.ref n0),("body",.ref n1)])->R .non H'
theorem oh (T:Txt K mg A):di P w K mg base 3 A.bj "__init__" ["self","number","name","parts","body"] (iW K A):=by
 have D_Row_init:=cE (P:=P) (w:=w) (base:=base) T
 refine T.jB.has (k:=2) mY (fun vs G R E h=>?_) (fun f cdv A' outer s G vs R E hr hu h=>?_)
 ·obtain ⟨x,dx,v0,v1,t0,t1,l0,l1,H,rfl,_⟩:=h
  rfl
 ·obtain ⟨x,dx,v0,v1,t0,t1,l0,l1,H,rfl,rfl,hx,hd,s0,s1,q⟩:=h
  refine ⟨_,(ab (aU (cR T.iG T.bX D_Row_init hr (aa (fv 0) (aa (fv 1) af))))
  (ab (aZ (fv 0) (fv 2) rfl)
  (ab (aZ (fv 0) (cN ic rfl T.er (by boot_by_name) (aa (fv 3) af)) rfl)
  (ag (aZ (fv 0) (cN ic rfl T.er (by boot_by_name) (aa (fv 4) af)) rfl))))),?_⟩
  have a:=IA.one (C:=A.bj) hx hd
  refine ⟨x,A.bj,dx,[],v0,rfl,a.i,T.cq.cl,T.ir,by decide,?_⟩
  replace a:=a.put hx [("number",v0)]
  refine ⟨x,A.bj,dx,_,rfl,a.i,T.cq.cl,T.dQ,by simp,?_⟩
  replace a:=a.put hx [("number",v0),("name",v1)]
  refine ⟨_,l0,rfl,.inl (a.s.seq s0),fun n0 f0=>?_⟩
  have e0:=a.ne f0
  have h0:=ah.free a.s f0
  have k0:=a.nw n0 (HO.lst l0)
  replace a:=a.new f0 (HO.lst l0)
  refine ⟨x,A.bj,dx,_,rfl,a.i,T.cq.cl,T.eM,by simp,?_⟩
  replace a:=a.put hx [("number",v0),("name",v1),("parts",.ref n0)]
  replace k0:=aj (u:=.ins A.bj dx [("number",v0),("name",v1),("parts",.ref n0)]) e0 k0
  refine ⟨_,l1,rfl,.inl (a.s.seq s1),fun n1 f1=>?_⟩
  have e1:=a.ne f1
  have h1:=ah.free a.s f1
  replace k0:=ah.upd f1 (HO.lst l1) _ _ k0
  have k1:=a.nw n1 (HO.lst l1)
  replace a:=a.new f1 (HO.lst l1)
  refine ⟨x,A.bj,dx,_,rfl,a.i,T.cq.cl,T.dR,by simp,?_⟩
  replace a:=a.put hx [("number",v0),("name",v1),("parts",.ref n0),("body",.ref n1)]
  replace k0:=aj (u:=.ins A.bj dx [("number",v0),("name",v1),("parts",.ref n0),("body",.ref n1)]) e0 k0
  replace k1:=aj (u:=.ins A.bj dx [("number",v0),("name",v1),("parts",.ref n0),("body",.ref n1)]) e1 k1
  exact q n0 n1 _ h0 h1 a.s k0 k1 a.i
theorem oj {H:Hp}{x dx:Addr}{R:VK}{v0 v1:V}{t0:Addr}{l0:List V} (s0:SqL K H t0 l0) {t1:Addr}{l1:List V} (s1:SqL K H t1 l1) (hx:H x=none) (hd:H dx=none) (q:∀(n0 n1:Addr) (H':Hp),H n0=none->H n1=none->ah H H'->H' n0=some (.lst l0)->H' n1=some (.lst l1)->H' x=some (.ins A.bj dx [("number",v0),("name",v1),("parts",.ref n0),("body",.ref n1)])->R .non H'):iW K A (.ref x :: ([v0,v1,.ref t0,.ref t1] ++ [])) (upd (upd H dx (.own x)) x (.ins A.bj dx [])) R E0:=⟨x,dx,_,_,_,_,_,_,H,rfl,rfl,hx,hd,s0,s1,q⟩
def i6 (K:W.Frag) (A:Adr):Sp:=fun vs G R _=>∃(x dx:Addr) (t0 t1 t2:Addr) (l0 l1 l2:List V) (H:Hp),vs=[.ref x,.ref t0,.ref t1,.ref t2]/\G=upd (upd H dx (.own x)) x (.ins A.Program dx [])/\H x=none/\H dx=none/\SqL K H t0 l0/\SqL K H t1 l1/\SqL K H t2 l2/\∀(n0 n1 n2:Addr) (H':Hp),H n0=none->H n1=none->H n2=none->ah H H'->H' n0=some (.lst l0)->H' n1=some (.lst l1)->H' n2=some (.lst l2)->H' x=some (.ins A.Program dx [("heads",.ref n0),("deeds",.ref n1),("main",.ref n2)])->R .non H'
theorem nV (T:Txt K mg A):di P w K mg base 3 A.Program "__init__" ["self","heads","deeds","main"] (i6 K A):=by
 refine T.jl.has (k:=2) mQ (fun vs G R E h=>?_) (fun f cdv A' outer s G vs R E hr hu h=>?_)
 ·obtain ⟨x,dx,t0,t1,t2,l0,l1,l2,H,rfl,_⟩:=h
  rfl
 ·obtain ⟨x,dx,t0,t1,t2,l0,l1,l2,H,rfl,rfl,hx,hd,s0,s1,s2,q⟩:=h
  refine ⟨_,(ab (aZ (fv 0) (cN ic rfl T.er (by boot_by_name) (aa (fv 1) af)) rfl)
  (ab (aZ (fv 0) (cN ic rfl T.er (by boot_by_name) (aa (fv 2) af)) rfl)
  (ag (aZ (fv 0) (cN ic rfl T.er (by boot_by_name) (aa (fv 3) af)) rfl)))),?_⟩
  have a:=IA.one (C:=A.Program) hx hd
  refine ⟨_,l0,rfl,.inl (a.s.seq s0),fun n0 f0=>?_⟩
  have e0:=a.ne f0
  have h0:=ah.free a.s f0
  have k0:=a.nw n0 (HO.lst l0)
  replace a:=a.new f0 (HO.lst l0)
  refine ⟨x,A.Program,dx,[],rfl,a.i,T.cD.cl,T.eK,by simp,?_⟩
  replace a:=a.put hx [("heads",.ref n0)]
  replace k0:=aj (u:=.ins A.Program dx [("heads",.ref n0)]) e0 k0
  refine ⟨_,l1,rfl,.inl (a.s.seq s1),fun n1 f1=>?_⟩
  have e1:=a.ne f1
  have h1:=ah.free a.s f1
  replace k0:=ah.upd f1 (HO.lst l1) _ _ k0
  have k1:=a.nw n1 (HO.lst l1)
  replace a:=a.new f1 (HO.lst l1)
  refine ⟨x,A.Program,dx,_,rfl,a.i,T.cD.cl,T.cO,by simp,?_⟩
  replace a:=a.put hx [("heads",.ref n0),("deeds",.ref n1)]
  replace k0:=aj (u:=.ins A.Program dx [("heads",.ref n0),("deeds",.ref n1)]) e0 k0
  replace k1:=aj (u:=.ins A.Program dx [("heads",.ref n0),("deeds",.ref n1)]) e1 k1
  refine ⟨_,l2,rfl,.inl (a.s.seq s2),fun n2 f2=>?_⟩
  have e2:=a.ne f2
  have h2:=ah.free a.s f2
  replace k0:=ah.upd f2 (HO.lst l2) _ _ k0
  replace k1:=ah.upd f2 (HO.lst l2) _ _ k1
  have k2:=a.nw n2 (HO.lst l2)
  replace a:=a.new f2 (HO.lst l2)
  refine ⟨x,A.Program,dx,_,rfl,a.i,T.cD.cl,T.dS,by simp,?_⟩
  replace a:=a.put hx [("heads",.ref n0),("deeds",.ref n1),("main",.ref n2)]
  replace k0:=aj (u:=.ins A.Program dx [("heads",.ref n0),("deeds",.ref n1),("main",.ref n2)]) e0 k0
  replace k1:=aj (u:=.ins A.Program dx [("heads",.ref n0),("deeds",.ref n1),("main",.ref n2)]) e1 k1
  replace k2:=aj (u:=.ins A.Program dx [("heads",.ref n0),("deeds",.ref n1),("main",.ref n2)]) e2 k2
  exact q n0 n1 n2 _ h0 h1 h2 a.s k0 k1 k2 a.i
theorem um {H:Hp}{x dx:Addr}{R:VK}{t0:Addr}{l0:List V} (s0:SqL K H t0 l0) {t1:Addr}{l1:List V} (s1:SqL K H t1 l1) {t2:Addr}{l2:List V} (s2:SqL K H t2 l2) (hx:H x=none) (hd:H dx=none) (q:∀(n0 n1 n2:Addr) (H':Hp),H n0=none->H n1=none->H n2=none->ah H H'->H' n0=some (.lst l0)->H' n1=some (.lst l1)->H' n2=some (.lst l2)->H' x=some (.ins A.Program dx [("heads",.ref n0),("deeds",.ref n1),("main",.ref n2)])->R .non H'):i6 K A (.ref x :: ([.ref t0,.ref t1,.ref t2] ++ [])) (upd (upd H dx (.own x)) x (.ins A.Program dx [])) R E0:=⟨x,dx,_,_,_,_,_,_,H,rfl,rfl,hx,hd,s0,s1,s2,q⟩
end
section
variable {P:Program}{w:World}{K:W.Frag}{mg:Str->Option Value}{base:Heap}{A:Adr}{N:Nat->Str}
theorem aF {t u:TS}{D:Ends}{σ:St}{H:Hp} (h:∀N:St->Hp->Prop,(∀σ H,u D σ H->N σ H)->t { D with nx:=N } σ H):rK t u D σ H:=h (u D) fun _ _ z=>z
def jF (N:Nat->Str):Prop:=∀i j,i < 18->j < 18->N i=N j->i=j
def dk (N:Nat->Str) (idx:List Nat) (f:Nat->V):List (Key × V):=idx.map fun i=>(Sum.inr (N i),f i)
theorem key_ne (D:jF N) {i j:Nat} (hi:i < 18) (hj:j < 18) (h:i ≠ j):(Sum.inr (N i):Key) ≠ Sum.inr (N j):=fun e=>h (D i j hi hj (Sum.inr.inj e))
theorem iU (D:jF N) {f:Nat->V}{i:Nat}:∀{idx:List Nat},(∀j ∈ idx,j < 18)->i ∈ idx->L2.gG (dk N idx f) (.inr (N i))=some (f i)
 | j :: r,hb,m=>by
  by_cases e:j=i
  ·subst e
   unfold L2.gG dk
   rw [List.map_cons,List.find?_cons]
   simp
  ·have hj:=hb j List.mem_cons_self
   have m':i ∈ r:=by
    rcases List.mem_cons.mp m with z | z
    ·exact absurd z.symm e
    ·exact z
   have hi:=hb i m
   have ih:=iU D (f:=f) (i:=i) (idx:=r) (fun k hk=>hb k (List.mem_cons_of_mem _ hk)) m'
   unfold L2.gG dk at ih ⊢
   rw [List.map_cons,List.find?_cons,decide_eq_false (key_ne D hj hi e)]
   exact ih
theorem xV (D:jF N) {f:Nat->V}{i:Nat} (hi:i < 18) {idx:List Nat} (hb:∀j ∈ idx,j < 18):((dk N idx f).any fun kv=>decide (kv.1=(Sum.inr (N i):Key)))=decide (i ∈ idx):=by
 unfold dk
 rw [List.any_map]
 by_cases m:i ∈ idx
 ·rw [decide_eq_true m,List.any_eq_true]
  exact ⟨i,m,decide_eq_true rfl⟩
 ·rw [decide_eq_false m,List.any_eq_false]
  intro j hj
  show ¬ decide ((Sum.inr (N j):Key)=Sum.inr (N i))=true
  rw [decide_eq_false (key_ne D (hb j hj) hi (fun z=>m (z ▸ hj)))]
  exact Bool.false_ne_true
theorem gz {f g:Nat->V}{idx:List Nat} (h:∀i ∈ idx,f i=g i):dk N idx f=dk N idx g:=List.map_congr_left fun i hi=>by rw [h i hi]
def rG (f:Nat->V) (i:Nat) (v:V):Nat->V:=fun j=>if j=i then v else f j
theorem dB (f:Nat->V) (i:Nat) (v:V):rG f i v i=v:=if_pos rfl
theorem fU (f:Nat->V) {i j:Nat} (v:V) (h:j ≠ i):rG f i v j=f j:=if_neg h
theorem Bu (D:jF N) {f:Nat->V}{i:Nat}{v:V}{idx:List Nat} (hb:∀j ∈ idx,j < 18) (m:i ∈ idx):putK (dk N idx f) (.inr (N i)) v=dk N idx (rG f i v):=by
 unfold putK
 rw [xV D (hb i m) hb,decide_eq_true m,if_pos rfl]
 unfold dk
 rw [List.map_map]
 refine List.map_congr_left fun j hj=>?_
 show (if (Sum.inr (N j):Key)=Sum.inr (N i) then ((Sum.inr (N j):Key),v) else (Sum.inr (N j),f j))=(Sum.inr (N j),rG f i v j)
 by_cases e:j=i
 ·rw [e,if_pos rfl,dB]
 ·rw [if_neg (key_ne D (hb j hj) (hb i m) e),fU _ _ e]
theorem fJ (D:jF N) {f:Nat->V}{i:Nat}{v:V}{idx:List Nat} (hi:i < 18) (hb:∀j ∈ idx,j < 18) (m:i ∉ idx):putK (dk N idx f) (.inr (N i)) v=dk N (idx ++ [i]) (rG f i v):=by
 unfold putK
 rw [xV D hi hb,decide_eq_false m,if_neg Bool.false_ne_true]
 unfold dk
 rw [List.map_append,List.map_cons,List.map_nil,dB]
 congr 1
 refine List.map_congr_left fun j hj=>?_
 rw [fU _ _ (fun z=>m (by rw [<- z];exact hj))]
theorem gE (f:Nat->V) (idx:List Nat):(dk N idx f).length=idx.length:=List.length_map _
theorem bW {α β:Type}{F:α->β->Prop}:∀{l₁:List α}{l₂:List β}{i:Nat}{a:α},Paired F l₁ l₂->l₁[i]?=some a->∃b,l₂[i]?=some b/\F a b
 | _,_,_,_,.nil,h=>by cases h
 | _,_,0,_,.cons h _,e=>by cases e;exact ⟨_,rfl,h⟩
 | _,_,i + 1,_,.cons _ r,e=>by
  have:∃b,_:=bW (i:=i) r e
  exact this
theorem iA {α β:Type} (f:β->α->β) (b:β) {xs:List α}{i:Nat}{x:α} (h:xs[i]?=some x):(xs.take (i + 1)).foldl f b=f ((xs.take i).foldl f b) x:=by
 rw [List.take_add_one,h,List.foldl_append]
 rfl
abbrev cls (A:Adr):List Addr:=[A.ck,A.Row,A.bL,A.aX,A.bF,A.cm,A.cb,A.bP,A.bp,A.bJ,A.bC,A.cH,A.bQ,A.aV,A.bj,A.Program,A.Run]
theorem ai (T:Txt K mg A) (i j:Nat) (hi:i < 17:=by decide) (hj:j < 17:=by decide) (h:i ≠ j:=by decide):(cls A)[i]'hi ≠ (cls A)[j]'hj:=fun e=>h ((List.getElem_inj T.nd).mp e)
theorem iT {C:Addr}{x:Str}{up:List Addr} (O:eA K mg C x up) (hs:C ∈ up:=by exact List.mem_cons_self):W.kitOne K (.ref C) (.ref C)=some true:=by
 rw [O.kit O hs,decide_eq_true hs]
theorem bH {C D R:Addr}{x y:Str}{vp:List Addr} (O:eA K mg C x [C,R]) (U:eA K mg D y vp) (h1:D ≠ C) (h2:D ≠ R):W.kitOne K (.ref C) (.ref D)=some false:=by
 rw [O.kit U List.mem_cons_self,decide_eq_false]
 intro m
 rcases List.mem_cons.mp m with e | m
 ·exact h1 e
 ·rcases List.mem_cons.mp m with e | m
  ·exact h2 e
  ·cases m
def rkn (a b:Int) (x:Str):Int :=
 if decide (V.str x=V.str "+")=true then (a + b) % 1000000000000
 else if decide (V.str x=V.str "-")=true then (a - b) % 1000000000000
 else if decide (V.str x=V.str "*")=true then (a * b) % 1000000000000
 else if decide (V.str x=V.str "over")=true then (if decide (V.int b=V.int 0)=true then 0 else a / b)
 else if decide (V.str x=V.str "rest")=true then (if decide (V.int b=V.int 0)=true then a else a % b)
 else if decide (V.str x=V.str "<")=true then (if decide (a < b)=true then 1 else 0)
 else (if decide (V.int a=V.int b)=true then 1 else 0)
def In (n:Int):Prop:=0 <= n/\n < 1000000000000
theorem AZ {a b:Int} (ha:In a) (hb:In b) (x:Str):In (rkn a b x):=by
 have md:∀z:Int,In (z % 1000000000000):=fun z=>bD z (by decide)
 have t1:In 1:=⟨by decide,by decide⟩
 have t0:In 0:=⟨by decide,by decide⟩
 unfold rkn
 split
 ·exact md _
 split
 ·exact md _
 split
 ·exact md _
 split
 ·split
  ·exact t0
  ·rename_i h
   rw [j9,decide_eq_true_iff] at h
   have hp:0 < b:=by have:=hb.1;omega
   refine ⟨Int.ediv_nonneg ha.1 hb.1,Int.lt_of_le_of_lt (Int.ediv_le_self b ha.1) ha.2⟩
 split
 ·split
  ·exact ha
  ·rename_i h
   rw [j9,decide_eq_true_iff] at h
   have hp:0 < b:=by have:=hb.1;omega
   have:=bD a hp
   exact ⟨this.1,Int.lt_trans this.2 hb.2⟩
 split
 ·split
  ·exact t1
  ·exact t0
 ·split
  ·exact t1
  ·exact t0
theorem xQ {a:Int}{n:Nat} (hn:0 < n):rkn a (n:Int) "rest"=a % (n:Int):=by
 unfold rkn
 rw [if_neg (by decide),if_neg (by decide),if_neg (by decide),if_neg (by decide),if_pos (by decide),if_neg (by rw [j9,decide_eq_true_iff];omega)]
abbrev opW:List Str:=["+","-","*","over","rest","<","="]
theorem CM {w:Str} (h:w ∈ opW):w ≠ "at":=by
 rintro rfl
 revert h
 decide
theorem tW (D:jF N) {H:Hp}{d:Addr}{idx:List Nat}{f:Nat->V} (h:Rd H d (.dK (dk N idx f))) (hb:∀j ∈ idx,j < 18) {k:Nat} (hk:k ∈ idx):cj H d (.str (N k)) (some (f k)):=by
 rw [<- iU D (f:=f) hb hk]
 exact .inl ⟨_,_,h,rfl,rfl⟩
theorem sk {K:W.Frag}{a:Addr}{xs:List V}{fr:List Nat}{te:CB->TE}{Q:VK}{σ:St}{H1:Hp} (R:Nat->V->Hp->Prop) (hx:SqL K H1 a xs) (hn:xs.length < sizeLine)
  (he:∀b i x H (G:VK),xs[i]?=some x->ah H1 H->(∀y H',ah H H'->R i y H'->G y H')->te b (some x :: cFr fr σ) H G)
  (mono:∀i y H H',ah H H'->R i y H->R i y H') (st:∀i y H D ys zs,H D=some (.lst ys)->R i y H->R i y (upd H D (.lst zs)))
  (fin:∀D H ys,H1 D=none->ah H1 H->H D=some (.lst ys)->ys.length=xs.length->(∀(i:Nat) y,ys[i]?=some y->R i y H)->Q (.ref D) H):lL (Itl K a) 1 fr (fun _=>jc 0) (fun _=>AL) te Q σ H1:=by
 refine k7 (x:=fun i=>xs.getD i .non) R hn (fun H s=>⟨xs,s.seq hx,Nat.le_refl _⟩) (fun i H h s=>⟨xs,xs[i],s.seq hx,List.getElem?_eq_getElem h⟩)
  (fun i H v H' h s y=>⟨y.1,?_⟩) (fun b i H G h s k=>he b i _ H G (by rw [List.getD_eq_getElem?_getD,List.getElem?_eq_getElem h];rfl) s k) mono st fin
 have:=y.2 xs (s.seq hx)
 rw [List.getD_eq_getElem?_getD,this]
 rfl
end
section
inductive Th where
 | i (n:Int) | x (a:Nat)
inductive Val where
 | one (a:Th) | op (a:Th) (w:Str) (b:Th) | atl (x:Nat) (b:Th)
inductive Rw where
 | set (n:Int) (x:Nat) (v:Val)
 | put (n:Int) (x:Nat) (p:Th) (v:Val)
 | snd (n:Int) (h:Nat) (v:Val)
 | say (n:Int) (x:Nat) (v:Val) (m:Nat)
 | last (n:Int)
 | call (n:Int) (i:Nat) (ts:List Th)
 | iff (n:Int) (v:Val) (f o:List Rw) (l r:Int)
 | loop (n:Int) (t:Th) (m:Int) (b:List Rw) (l r:Int)
structure Dd where
 nm:Nat
 parts:List Nat
 body:List Rw
structure En where
 N:Nat->Str
 idx:List Nat
 sz:Nat->Nat
 ds:List Dd
 dv:List V
structure S where
 num:Nat->Int
 lst:Nat->List Int
 steps:Int
 trace:List (List V)
 fA:List (List V)
 pe:List (List V)
variable {E:En}{s:S}{B:Int}
def Th.v (N:Nat->Str):Th->V
 | .i n=>.int n
 | .x a=>.str (N a)
def vV (N:Nat->Str):Val->List V
 | .one a=>[a.v N]
 | .op a w b=>[a.v N,.str w,b.v N]
 | .atl x b=>[.str (N x),.str "at",b.v N]
def Th.num (s:S):Th->Int
 | .i n=>n
 | .x a=>s.num a
def lat (xs:List Int) (i:Int):Int:=xs.getD (i % (xs.length:Int)).toNat 0
def Val.num (s:S):Val->Int
 | .one a=>a.num s
 | .op a w b=>rkn (a.num s) (b.num s) w
 | .atl x b=>lat (s.lst x) (b.num s)
def Th.ok (E:En):Th->Prop
 | .i n=>In n
 | .x a=>a ∈ E.idx/\E.sz a=0
def Val.ok (E:En):Val->Prop
 | .one a=>a.ok E
 | .op a w b=>a.ok E/\b.ok E/\w ∈ opW
 | .atl x b=>x ∈ E.idx/\0 < E.sz x/\b.ok E
structure S.ok (E:En) (s:S):Prop where
 num:∀a,In (s.num a)
 lst:∀x,∀n ∈ s.lst x,In n
 len:∀x ∈ E.idx,0 < E.sz x->(s.lst x).length=E.sz x
theorem Ax {xs:List Int} (h:∀n ∈ xs,In n) (i:Int):In (lat xs i):=by
 unfold lat
 rw [List.getD_eq_getElem?_getD]
 cases e:xs[(i % (xs.length:Int)).toNat]? with
 | none=>exact ⟨by decide,by decide⟩
 | some n=>exact h n (List.mem_of_getElem? e)
theorem Th.eQ (hs:s.ok E) {t:Th} (h:t.ok E):In (t.num s):=by
 cases t with
 | i n=>exact h
 | x a=>exact hs.num a
theorem Val.eQ (hs:s.ok E) {v:Val} (h:v.ok E):In (v.num s):=by
 cases v with
 | one a=>exact Th.eQ hs h
 | op a w b=>exact AZ (Th.eQ hs h.1) (Th.eQ hs h.2.1) w
 | atl x b=>exact Ax (hs.lst x) _
def S.idle (s:S) (n:Int):S:={ s with steps:=s.steps + n }
def S.tell (s:S) (n:Int) (v:V):S:={ s with steps:=s.steps + 1,trace:=s.trace ++ [[.int n,.int (s.steps + 1),v]] }
def S.oV (s:S) (w:List V):S:={ s with fA:=s.fA ++ [w] }
def S.nA (s:S) (w:List V):S:={ s with pe:=s.pe ++ [w] }
def S.put (s:S) (x:Nat) (v:Int):S:={ s with num:=fun a=>if a=x then v else s.num a }
def S.sT (s:S) (x:Nat) (i v:Int):S:={ s with lst:=fun a=>if a=x then (s.lst x).set (i % ((s.lst x).length:Int)).toNat v else s.lst a }
def S.qK (s:S) (xs:List (Nat × Int)):S:=xs.foldl (fun s p=>s.put p.1 p.2) s
def rounds (body:S->S × Bool) (l:Int):Nat->Nat->S->S × Nat
 | 0,k,s=>(s,k)
 | n + 1,k,s=>if (body s).2=true then ((body s).1.idle l,k + 1) else rounds body l n (k + 1) ((body s).1.idle l)
def step (f:S->Rw->S × Bool) (p:S × Bool) (r:Rw):S × Bool:=((f p.1 r).1,p.2 || (f p.1 r).2)
def br (f:S->Rw->S × Bool) (s:S) (xs:List Rw):S × Bool:=xs.foldl (step f) (s,false)
def leaf (N:Nat->Str) (s:S):Rw->S × Bool
 | .set n x v=>((s.tell n .non).put x (v.num s),false)
 | .put n x p v=>((s.tell n .non).sT x (p.num s) (v.num s),false)
 | .snd n h v=>((s.tell n (.int (v.num s))).oV [.int (s.steps + 1),.int n,.str (N h),.int (v.num s)],false)
 | .say n x v m=>(((s.tell n (.int (v.num s))).put x (v.num s)).nA [.int (s.steps + 1),.int n,.str (N m),.int (v.num s)],false)
 | .last n=>(s.tell n .non,true)
 | .call n _ _=>(s.tell n .non,false)
 | .iff n _ _ _ _ _=>(s.tell n .non,false)
 | .loop n _ _ _ _ _=>(s.tell n .non,false)
def want (s:S) (t:Th) (m:Int):Int:=if m < t.num s then m else t.num s
def doR (E:En):Nat->S->Rw->S × Bool
 | d + 1,s,.call n i ts=>match E.ds[i]? with
  | some D=>((br (doR E d) ((s.tell n .non).qK (D.parts.zip (ts.map (Th.num s)))) D.body).1,false)
  | none=>(s.tell n .non,false)
 | d + 1,s,.iff n v f o l r=>if v.num s ≠ 0 then ((br (doR E d) (s.tell n .non) f).1.idle l,(br (doR E d) (s.tell n .non) f).2) else ((br (doR E d) (s.tell n .non) o).1.idle r,(br (doR E d) (s.tell n .non) o).2)
 | d + 1,s,.loop n t m b l r=>((rounds (fun s=>br (doR E d) s b) l (want s t m).toNat 0 (s.tell n .non)).1.idle (r * (m - (rounds (fun s=>br (doR E d) s b) l (want s t m).toNat 0 (s.tell n .non)).2)),false)
 | _,s,r=>leaf E.N s r
def aJ (E:En):Nat->Rw->Int
 | d + 1,.call _ i _=>match E.ds[i]? with
  | some D=>1 + (D.body.map (aJ E d)).sum
  | none=>1
 | d + 1,.iff _ _ f o l r=>1 + (if l + (f.map (aJ E d)).sum < r + (o.map (aJ E d)).sum then r + (o.map (aJ E d)).sum else l + (f.map (aJ E d)).sum)
 | d + 1,.loop _ _ m b l r=>1 + m * (if l + (b.map (aJ E d)).sum < r then r else l + (b.map (aJ E d)).sum)
 | _,_=>1
def Wf (E:En):Nat->Rw->Prop
 | _,.set _ x v=>x ∈ E.idx/\E.sz x=0/\v.ok E
 | _,.put _ x p v=>x ∈ E.idx/\0 < E.sz x/\p.ok E/\v.ok E
 | _,.snd _ _ v=>v.ok E
 | _,.say _ x v _=>x ∈ E.idx/\E.sz x=0/\v.ok E
 | _,.last _=>True
 | d + 1,.call _ i ts=>(∀t ∈ ts,t.ok E)/\ts.length <= 4/\∃D,E.ds[i]?=some D/\D.parts.length=ts.length/\∀r ∈ D.body,Wf E d r
 | d + 1,.iff _ v f o l r=>v.ok E/\0 <= l/\0 <= r/\(∀q ∈ f,Wf E d q)/\∀q ∈ o,Wf E d q
 | d + 1,.loop _ t m b l r=>t.ok E/\0 <= m/\m <= 1000/\0 <= l/\0 <= r/\∀q ∈ b,Wf E d q
 | 0,.call _ _ _=>False
 | 0,.iff _ _ _ _ _ _=>False
 | 0,.loop _ _ _ _ _ _=>False
structure S.room (s:S) (B n:Int):Prop where
 st:s.steps + n <= B
 t:(s.trace.length:Int) <= s.steps
 l:(s.fA.length:Int) <= s.steps
 d:(s.pe.length:Int) <= s.steps
theorem S.room.le {n m:Int} (h:s.room B n) (hm:m <= n):s.room B m:=⟨by have:=h.st;omega,h.t,h.l,h.d⟩
theorem fW {n:Int} (h:s.room B (1 + n)) (m:Int) (v:V):(s.tell m v).room B n:=⟨by have:=h.st;show s.steps + 1 + n <= _;omega,by have:=h.t;show ((s.trace ++ [_]).length:Int) <= s.steps + 1;rw [List.length_append];simp;omega,by have:=h.l;show (s.fA.length:Int) <= s.steps + 1;omega,by have:=h.d;show (s.pe.length:Int) <= s.steps + 1;omega⟩
theorem iE {n l:Int} (h:s.room B (l + n)) (h0:0 <= l):(s.idle l).room B n:=⟨by have:=h.st;show s.steps + l + n <= _;omega,by have:=h.t;show (s.trace.length:Int) <= s.steps + l;omega,by have:=h.l;show (s.fA.length:Int) <= s.steps + l;omega,by have:=h.d;show (s.pe.length:Int) <= s.steps + l;omega⟩
theorem sA {n:Int} (h:s.room B n) (x:Nat) (v:Int):(s.put x v).room B n:=⟨h.st,h.t,h.l,h.d⟩
theorem pP {n:Int} (h:s.room B n):∀xs:List (Nat × Int),(s.qK xs).room B n:=fun xs=>by
 induction xs generalizing s with
 | nil=>exact h
 | cons p r ih=>exact ih (s:=s.put p.1 p.2) (sA h _ _)
theorem pR (E:En):∀(d:Nat) (r:Rw),Wf E d r->1 <= aJ E d r:=by
 have nn:∀(d:Nat) (xs:List Rw),(∀r ∈ xs,1 <= aJ E d r)->0 <= (xs.map (aJ E d)).sum:=fun d xs h=>by
  induction xs with
  | nil=>exact Int.le_refl _
  | cons x r ih =>
   rw [List.map_cons,List.sum_cons]
   have:=h x List.mem_cons_self
   have:=ih fun q hq=>h q (List.mem_cons_of_mem _ hq)
   omega
 intro d
 induction d with
 | zero=>intro r h;cases r <;> first | exact Int.le_refl _ | exact h.elim
 | succ d ih =>
  intro r h
  cases r with
  | call n i ts =>
   obtain ⟨_,_,D,hD,_,hb⟩:=h
   unfold aJ
   rw [hD]
   have:=nn d D.body fun q hq=>ih q (hb q hq)
   show 1 <= 1 + _
   omega
  | iff n v f o l r =>
   obtain ⟨_,h1,h2,h3,h4⟩:=h
   unfold aJ
   have:=nn d f fun q hq=>ih q (h3 q hq)
   have:=nn d o fun q hq=>ih q (h4 q hq)
   split <;> omega
  | loop n t m b l r =>
   obtain ⟨_,h1,_,h2,h3,h4⟩:=h
   unfold aJ
   have:=nn d b fun q hq=>ih q (h4 q hq)
   have:0 <= m * (if l + (b.map (aJ E d)).sum < r then r else l + (b.map (aJ E d)).sum):=Int.mul_nonneg h1 (by split <;> omega)
   omega
  | _=>exact Int.le_refl _
theorem ud (E:En) {d:Nat}{xs:List Rw} (h:∀r ∈ xs,Wf E d r):0 <= (xs.map (aJ E d)).sum:=by
 induction xs with
 | nil=>exact Int.le_refl _
 | cons x r ih =>
  rw [List.map_cons,List.sum_cons]
  have:=pR E d x (h x List.mem_cons_self)
  have:=ih fun q hq=>h q (List.mem_cons_of_mem _ hq)
  omega
theorem j6 {E:En}{f:S->Rw->S × Bool}{c:Rw->Int}{p:Rw->Prop} (one:∀(s:S) (r:Rw) (n:Int),p r->s.room B (c r + n)->(f s r).1.room B n):∀(xs:List Rw) (s:S × Bool) (n:Int),(∀r ∈ xs,p r)->s.1.room B ((xs.map c).sum + n)->(xs.foldl (step f) s).1.room B n
 | [],s,n,_,h=>by simpa using h
 | r :: xs,s,n,hp,h=>by
  rw [List.foldl_cons]
  refine j6 (E:=E) one xs _ n (fun q hq=>hp q (List.mem_cons_of_mem _ hq)) (one s.1 r _ (hp r List.mem_cons_self) ?_)
  rw [List.map_cons,List.sum_cons,Int.add_assoc] at h
  exact h
theorem mq {body:S->S × Bool}{c l:Int} (l0:0 <= l) (one:∀(s:S) (n:Int),s.room B (c + n)->(body s).1.room B n) (c0:0 <= c):∀(k j:Nat) (s:S) (n:Int),s.room B ((k:Int) * (l + c) + n)->((rounds body l k j s).1.room B ((k:Int) * (l + c) - ((rounds body l k j s).2 - j:Int) * (l + c) + n))/\j <= (rounds body l k j s).2/\(rounds body l k j s).2 <= k + j
 | 0,j,s,n,h=>by
  simp only [rounds]
  refine ⟨?_,Nat.le_refl _,by omega⟩
  rw [Int.sub_self,Int.zero_mul,Int.sub_zero]
  exact h
 | k + 1,j,s,n,h=>by
  have e:((k + 1:Nat):Int) * (l + c)=(k:Int) * (l + c) + (l + c):=by rw [Int.natCast_succ,Int.add_mul,Int.one_mul]
  rw [e] at h ⊢
  have h1:((body s).1.idle l).room B ((k:Int) * (l + c) + n):=iE (one s _ (h.le (by omega))) l0
  simp only [rounds]
  split
  ·refine ⟨?_,by show j <= j + 1;omega,by show j + 1 <= k + 1 + j;omega⟩
   show S.room _ B ((k:Int) * (l + c) + (l + c) - (((j + 1:Nat):Int) - j) * (l + c) + n)
   rw [show ((j + 1:Nat):Int) - j=1 by omega,Int.one_mul]
   exact h1.le (by omega)
  ·obtain ⟨i1,i2,i3⟩:=mq l0 one c0 k (j + 1) ((body s).1.idle l) n h1
   refine ⟨i1.le ?_,by omega,by omega⟩
   have:(((rounds body l k (j + 1) ((body s).1.idle l)).2:Int) - (j:Int)) * (l + c)=(((rounds body l k (j + 1) ((body s).1.idle l)).2:Int) - ((j + 1:Nat):Int)) * (l + c) + (l + c):=by
    rw [show ((rounds body l k (j + 1) ((body s).1.idle l)).2:Int) - (j:Int)=(((rounds body l k (j + 1) ((body s).1.idle l)).2:Int) - ((j + 1:Nat):Int)) + 1 by omega,Int.add_mul,Int.one_mul]
   omega
theorem fX (N:Nat->Str) {n:Int} (h:s.room B (1 + n)) (r:Rw):(leaf N s r).1.room B n:=by
 have a:=fun m v=>fW h m v
 cases r with
 | set m x v=>exact sA (a m .non) _ _
 | put m x p v=>exact ⟨(a m .non).st,(a m .non).t,(a m .non).l,(a m .non).d⟩
 | snd m x v =>
  have b:=a m (.int (v.num s))
  refine ⟨b.st,b.t,?_,b.d⟩
  have:=h.l
  show ((s.fA ++ [_]).length:Int) <= s.steps + 1
  rw [List.length_append]
  simp
  omega
 | say m x v y =>
  have b:=a m (.int (v.num s))
  refine ⟨b.st,b.t,b.l,?_⟩
  have:=h.d
  show ((s.pe ++ [_]).length:Int) <= s.steps + 1
  rw [List.length_append]
  simp
  omega
 | last m=>exact a m .non
 | call m i ts=>exact a m .non
 | iff m v f o l r=>exact a m .non
 | loop m t k b l r=>exact a m .non
theorem qp (s:S) (t:Th) (m:Int):want s t m <= m:=by unfold want;split <;> omega
theorem yL (hs:s.ok E) {t:Th} (ht:t.ok E) {m:Int} (hm:0 <= m):0 <= want s t m:=by
 have:=(Th.eQ hs ht).1
 unfold want
 split <;> omega
theorem nM (E:En):∀(d:Nat) (s:S) (r:Rw) (n:Int),Wf E d r->s.room B (aJ E d r + n)->(doR E d s r).1.room B n:=by
 intro d
 induction d with
 | zero=>intro s r n w h;cases r <;> first | exact fX E.N h _ | exact w.elim
 | succ d ih =>
  intro s r n w h
  have rows:∀(xs:List Rw) (s:S) (n:Int),(∀r ∈ xs,Wf E d r)->s.room B ((xs.map (aJ E d)).sum + n)->(br (doR E d) s xs).1.room B n:=fun xs s n hw hr=>j6 (E:=E) (p:=Wf E d) (fun s r n w h=>ih s r n w h) xs (s,false) n hw hr
  cases r with
  | call m i ts =>
   obtain ⟨_,_,D,hD,_,hb⟩:=w
   unfold aJ at h
   unfold doR
   rw [hD] at h ⊢
   dsimp only at h ⊢
   exact rows D.body _ n hb (pP (fW (h.le (by omega)) m .non) _)
  | iff m v f o l r =>
   obtain ⟨_,h1,h2,h3,h4⟩:=w
   unfold aJ at h
   unfold doR
   have b1:1 + (l + (f.map (aJ E d)).sum) + n <= 1 + (if l + (f.map (aJ E d)).sum < r + (o.map (aJ E d)).sum then r + (o.map (aJ E d)).sum else l + (f.map (aJ E d)).sum) + n:=by split <;> omega
   have b2:1 + (r + (o.map (aJ E d)).sum) + n <= 1 + (if l + (f.map (aJ E d)).sum < r + (o.map (aJ E d)).sum then r + (o.map (aJ E d)).sum else l + (f.map (aJ E d)).sum) + n:=by split <;> omega
   split
   ·exact iE (rows f _ (l + n) h3 (fW (h.le (by omega)) m .non)) h1
   ·exact iE (rows o _ (r + n) h4 (fW (h.le (by omega)) m .non)) h2
  | loop m t k b l r =>
   obtain ⟨_,h1,_,h2,h3,h4⟩:=w
   unfold aJ at h
   unfold doR
   have c0:=ud E h4
   generalize hc:(b.map (aJ E d)).sum=c at h c0
   have mx:l + c <= (if l + c < r then r else l + c)/\r <= (if l + c < r then r else l + c):=by split <;> omega
   generalize (if l + c < r then r else l + c)=x at h mx
   have wk:=qp s t k
   have kn:((want s t k).toNat:Int) <= k:=by omega
   have q1:((want s t k).toNat:Int) * (l + c) <= k * x:=Int.le_trans (Int.mul_le_mul_of_nonneg_right kn (by omega)) (Int.mul_le_mul_of_nonneg_left mx.1 h1)
   have q0:((want s t k).toNat:Int) * (l + c) + (k * x - ((want s t k).toNat:Int) * (l + c) + n)=k * x + n:=by omega
   obtain ⟨i1,i2,i3⟩:=mq (body:=fun s=>br (doR E d) s b) (c:=c) h2 (fun s n hh=>rows b s n h4 (by rw [hc];exact hh)) c0 (want s t k).toNat 0 (s.tell m .non) (k * x - ((want s t k).toNat:Int) * (l + c) + n) (by rw [q0];exact fW (h.le (by omega)) m .non)
   generalize rounds (fun s=>br (doR E d) s b) l (want s t k).toNat 0 (s.tell m .non)=q at i1 i2 i3
   have j0:(0:Int) <= (q.2:Int):=by omega
   have jk:(q.2:Int) <= k:=by omega
   have r1:r * (k - (q.2:Int)) <= x * (k - (q.2:Int)):=Int.mul_le_mul_of_nonneg_right mx.2 (by omega)
   have r2:(q.2:Int) * (l + c) <= (q.2:Int) * x:=Int.mul_le_mul_of_nonneg_left mx.1 j0
   have r3:x * (k - (q.2:Int)) + (q.2:Int) * x=k * x:=by
    rw [Int.mul_sub,Int.mul_comm x k,Int.mul_comm x]
    omega
   have r4:0 <= r * (k - (q.2:Int)):=Int.mul_nonneg h3 (by omega)
   refine iE (i1.le ?_) r4
   rw [show ((q.2:Int) - ((0:Nat):Int))=(q.2:Int) by omega]
   omega
  | set m x v=>exact fX E.N h _
  | put m x p v=>exact fX E.N h _
  | snd m x v=>exact fX E.N h _
  | say m x v y=>exact fX E.N h _
  | last m=>exact fX E.N h _
end
section
variable {P:Program}{w:World}{K:W.Frag}{mg:Str->Option Value}{base:Heap}{A:Adr}{E:En}
def del (X:List Addr) (H:Hp):Hp:=fun a=>if a ∈ X then none else H a
theorem aw {X:List Addr}{H:Hp}:ah (del X H) H:=fun a o h=>by
 unfold del at h
 split at h
 ·cases h
 ·exact h
theorem ba {X:List Addr}{H:Hp}{a:Addr}{o:HO} (h:a ∉ X) (e:H a=some o):del X H a=some o:=by
 unfold del
 rw [if_neg h]
 exact e
theorem dE {X:List Addr}{H:Hp}{a:Addr}{o:HO} (h:del X H a=some o):a ∉ X/\H a=some o:=by
 unfold del at h
 split at h
 ·cases h
 ·exact ⟨by assumption,h⟩
structure Go (M:List Addr) (H:Hp) (M':List Addr) (H':Hp):Prop where
 o:∀a o,a ∉ M->H a=some o->H' a=some o
 m:∀a ∈ M',a ∈ M \/ H a=none
theorem Go.trans {M M1 M2:List Addr}{H H1 H2:Hp} (g:Go M H M1 H1) (g':Go M1 H1 M2 H2):Go M H M2 H2:=by
 refine ⟨fun a o h e=>g'.o a o (fun m=>?_) (g.o a o h e),fun a m=>?_⟩
 ·rcases g.m a m with z | z
  ·exact h z
  ·rw [z] at e;cases e
 ·rcases g'.m a m with z | z
  ·exact g.m a z
  ·by_cases h:a ∈ M
   ·exact .inl h
   ·refine .inr ?_
    cases e:H a with
    | none=>rfl
    | some o=>rw [g.o a o h e] at z;cases z
theorem Go.same {M M':List Addr}{H H':Hp} (g:Go M H M' H'):ah (del M H) (del M' H'):=fun a o h=>by
 obtain ⟨h1,h2⟩:=dE h
 refine ba (fun m=>?_) (g.o a o h1 h2)
 rcases g.m a m with z | z
 ·exact h1 z
 ·rw [z] at h2;cases h2
theorem Go.refl (M:List Addr) (H:Hp):Go M H M H:=⟨fun _ _ _ h=>h,fun _ h=>.inl h⟩
theorem Go.new {M:List Addr}{H H':Hp} (s:ah H H'):Go M H M H':=⟨fun a o _ h=>s a o h,fun _ h=>.inl h⟩
theorem Go.at {M:List Addr}{H:Hp}{x:Addr} (h:x ∈ M) (u:HO):Go M H M (upd H x u):=⟨fun a o m e=>(aK (fun z:a=x=>m (by rw [z];exact h))).trans e,fun _ h=>.inl h⟩
theorem Go.keep {M:List Addr}{H0 H H':Hp} (g:Go M H M H') (s:ah H0 H) (f:∀a ∈ M,H0 a=none):ah H0 H':=fun a o h=>g.o a o (fun m=>by rw [f a m] at h;cases h) (s a o h)
def lJ (H:Hp) (xs:List V) (ws:List (List V)):Prop:=Paired (fun v w=>∃p,v=V.ref p/\H p=some (.tup w)) xs ws
theorem lJ.same {H H':Hp} (s:ah H H') {xs:List V}{ws:List (List V)} (h:lJ H xs ws):lJ H' xs ws:=Paired.cF h fun _ _ ⟨p,e,q⟩=>⟨p,e,s p _ q⟩
theorem lJ.len {H:Hp}{xs:List V}{ws:List (List V)} (h:lJ H xs ws):xs.length=ws.length:=Paired.length h
def bO (A:Adr) (E:En) (X:Hp):Nat->V->Rw->Prop
 | _,v,.set n x val=>∃a dx p,v=.ref a/\X a=some (.ins A.cb dx [("number",.int n),("name",.str (E.N x)),("value",.ref p)])/\X p=some (.tup (vV E.N val))
 | _,v,.put n x pl val=>∃a dx p,v=.ref a/\X a=some (.ins A.bP dx [("number",.int n),("name",.str (E.N x)),("place",pl.v E.N),("value",.ref p)])/\X p=some (.tup (vV E.N val))
 | _,v,.snd n h val=>∃a dx p,v=.ref a/\X a=some (.ins A.bp dx [("number",.int n),("name",.str (E.N h)),("value",.ref p)])/\X p=some (.tup (vV E.N val))
 | _,v,.say n x val m=>∃a dx p,v=.ref a/\X a=some (.ins A.bJ dx [("number",.int n),("name",.str (E.N x)),("value",.ref p),("mark",.str (E.N m))])/\X p=some (.tup (vV E.N val))
 | _,v,.last n=>∃a dx,v=.ref a/\X a=some (.ins A.cH dx [("number",.int n)])
 | d + 1,v,.call n i ts=>∃a dx p D,v=.ref a/\E.ds[i]?=some D/\X a=some (.ins A.bC dx [("number",.int n),("name",.str (E.N D.nm)),("things",.ref p)])/\X p=some (.lst (ts.map (Th.v E.N))) /\
  ∃da dy dn pp pb xs,E.dv[i]?=some (.ref da)/\X da=some (.ins A.bj dy [("number",dn),("name",.str (E.N D.nm)),("parts",.ref pp),("body",.ref pb)])/\X pp=some (.lst (D.parts.map fun j=>V.str (E.N j)))/\X pb=some (.lst xs)/\Paired (bO A E X d) xs D.body
 | d + 1,v,.iff n val f o l r=>∃a dx p pf po xf xo,v=.ref a/\X a=some (.ins A.bQ dx [("number",.int n),("value",.ref p),("first",.ref pf),("other",.ref po),("left",.int l),("right",.int r)])/\X p=some (.tup (vV E.N val))/\X pf=some (.lst xf)/\X po=some (.lst xo)/\Paired (bO A E X d) xf f/\Paired (bO A E X d) xo o
 | d + 1,v,.loop n t m b l r=>∃a dx pb xb,v=.ref a/\X a=some (.ins A.aV dx [("number",.int n),("thing",t.v E.N),("most",.int m),("body",.ref pb),("left",.int l),("right",.int r)])/\X pb=some (.lst xb)/\Paired (bO A E X d) xb b
 | 0,_,.call _ _ _=>False
 | 0,_,.iff _ _ _ _ _ _=>False
 | 0,_,.loop _ _ _ _ _ _=>False
theorem bO.same {X X':Hp} (s:ah X X'):∀{d:Nat}{v:V}{r:Rw},bO A E X d v r->bO A E X' d v r:=by
 intro d
 induction d with
 | zero =>
  intro v r h
  cases r with
  | set n x val=>obtain ⟨a,dx,p,e,h1,h2⟩:=h;exact ⟨a,dx,p,e,s _ _ h1,s _ _ h2⟩
  | put n x pl val=>obtain ⟨a,dx,p,e,h1,h2⟩:=h;exact ⟨a,dx,p,e,s _ _ h1,s _ _ h2⟩
  | snd n h' val=>obtain ⟨a,dx,p,e,h1,h2⟩:=h;exact ⟨a,dx,p,e,s _ _ h1,s _ _ h2⟩
  | say n x val m=>obtain ⟨a,dx,p,e,h1,h2⟩:=h;exact ⟨a,dx,p,e,s _ _ h1,s _ _ h2⟩
  | last n=>obtain ⟨a,dx,e,h1⟩:=h;exact ⟨a,dx,e,s _ _ h1⟩
  | call n i ts=>exact h.elim
  | iff n v f o l r=>exact h.elim
  | loop n t m b l r=>exact h.elim
 | succ d ih =>
  intro v r h
  cases r with
  | set n x val=>obtain ⟨a,dx,p,e,h1,h2⟩:=h;exact ⟨a,dx,p,e,s _ _ h1,s _ _ h2⟩
  | put n x pl val=>obtain ⟨a,dx,p,e,h1,h2⟩:=h;exact ⟨a,dx,p,e,s _ _ h1,s _ _ h2⟩
  | snd n h' val=>obtain ⟨a,dx,p,e,h1,h2⟩:=h;exact ⟨a,dx,p,e,s _ _ h1,s _ _ h2⟩
  | say n x val m=>obtain ⟨a,dx,p,e,h1,h2⟩:=h;exact ⟨a,dx,p,e,s _ _ h1,s _ _ h2⟩
  | last n=>obtain ⟨a,dx,e,h1⟩:=h;exact ⟨a,dx,e,s _ _ h1⟩
  | call n i ts =>
   obtain ⟨a,dx,p,D,e,h0,h1,h2,da,dy,dn,pp,pb,xs,g0,g1,g2,g3,g4⟩:=h
   exact ⟨a,dx,p,D,e,h0,s _ _ h1,s _ _ h2,da,dy,dn,pp,pb,xs,g0,s _ _ g1,s _ _ g2,s _ _ g3,Paired.cF g4 fun _ _=>ih⟩
  | iff n v f o l r =>
   obtain ⟨a,dx,p,pf,po,xf,xo,e,h1,h2,h3,h4,h5,h6⟩:=h
   exact ⟨a,dx,p,pf,po,xf,xo,e,s _ _ h1,s _ _ h2,s _ _ h3,s _ _ h4,Paired.cF h5 fun _ _=>ih,Paired.cF h6 fun _ _=>ih⟩
  | loop n t m b l r =>
   obtain ⟨a,dx,pb,xb,e,h1,h2,h3⟩:=h
   exact ⟨a,dx,pb,xb,e,s _ _ h1,s _ _ h2,Paired.cF h3 fun _ _=>ih⟩
structure En.Ok (E:En):Prop where
 D:jF E.N
 b:∀j ∈ E.idx,j < 18
 nd:E.idx.Nodup
 dn:∀d ∈ E.ds,d.nm < 18
 dd:(E.ds.map Dd.nm).Nodup
 dl:E.ds.length <= 64
 dv:E.dv.length=E.ds.length
 pt:∀d ∈ E.ds,∀j ∈ d.parts,j ∈ E.idx/\E.sz j=0
 z:∀x,E.sz x <= 1000
 len:E.idx.length <= 64
structure Ra where
 s:Addr
 ds:Addr
 d:Addr
 c:Addr
 b:Addr
 db:Addr
 sd:Addr
 e:Addr
 t:Addr
 l:Addr
 la:Nat->Addr
def En.ls (E:En):List Nat:=E.idx.filter fun i=>decide (0 < E.sz i)
def Ra.M (r:Ra) (E:En):List Addr:=[r.b,r.c,r.t,r.l,r.sd] ++ E.ls.map r.la
def cV (E:En) (la:Nat->Addr) (num:Nat->Int) (i:Nat):V:=if E.sz i=0 then .int (num i) else .ref (la i)
def dG (E:En) (j:Nat):V:=match (E.ds.zip E.dv).find? fun p=>decide (p.1.nm=j) with
 | some p=>p.2
 | none=>.non
def nE (r:Ra) (k:S):List (Str × V):=[("letters",.ref r.l),("said",.ref r.sd),("trace",.ref r.t),("steps",.int k.steps),("ends",.ref r.e)]
structure bq (A:Adr) (E:En) (H:Hp) (r:Ra) (k:S):Prop where
 nd:(r.M E).Nodup
 hs:del (r.M E) H r.s=some (.ins A.Run r.ds [("deeds",.ref r.d),("cells",.ref r.c),("book",.ref r.b)])
 hk:del (r.M E) H r.d=some (.dK (dk E.N (E.ds.map Dd.nm) (dG E)))
 hb:H r.b=some (.ins A.ck r.db (nE r k))
 hc:H r.c=some (.dK (dk E.N E.idx (cV E r.la k.num)))
 ht:∃xs,H r.t=some (.lst xs)/\lJ (del (r.M E) H) xs k.trace
 hl:∃xs,H r.l=some (.lst xs)/\lJ (del (r.M E) H) xs k.fA
 hd:∃xs,H r.sd=some (.lst xs)/\lJ (del (r.M E) H) xs k.pe
 ha:∀i ∈ E.ls,H (r.la i)=some (.lst ((k.lst i).map V.int))
 ok:k.ok E
variable {H H':Hp}{r:Ra}{k:S}
theorem bq.s (R:bq A E H r k):H r.s=some (.ins A.Run r.ds [("deeds",.ref r.d),("cells",.ref r.c),("book",.ref r.b)]):=aw _ _ R.hs
theorem bq.same (R:bq A E H r k) (s:ah H H'):bq A E H' r k:=by
 have g:=(Go.new (M:=r.M E) s).same
 obtain ⟨ts,t1,t2⟩:=R.ht
 obtain ⟨ls,l1,l2⟩:=R.hl
 obtain ⟨ds,d1,d2⟩:=R.hd
 exact ⟨R.nd,g _ _ R.hs,g _ _ R.hk,s _ _ R.hb,s _ _ R.hc,⟨ts,s _ _ t1,t2.same g⟩,⟨ls,s _ _ l1,l2.same g⟩,⟨ds,s _ _ d1,d2.same g⟩,fun i h=>s _ _ (R.ha i h),R.ok⟩
theorem bq.has (R:bq A E H r k) {a:Addr} (m:a ∈ r.M E):∃o,H a=some o:=by
 unfold Ra.M at m
 rcases List.mem_append.mp m with m | m
 ·simp only [List.mem_cons,List.not_mem_nil,or_false] at m
  obtain ⟨ts,t1,t2⟩:=R.ht
  obtain ⟨ls,l1,l2⟩:=R.hl
  obtain ⟨ds,d1,d2⟩:=R.hd
  rcases m with rfl | rfl | rfl | rfl | rfl
  ·exact ⟨_,R.hb⟩
  ·exact ⟨_,R.hc⟩
  ·exact ⟨_,t1⟩
  ·exact ⟨_,l1⟩
  ·exact ⟨_,d1⟩
 ·obtain ⟨i,hi,rfl⟩:=List.mem_map.mp m
  exact ⟨_,R.ha i hi⟩
theorem bq.free (R:bq A E H r k) {a:Addr} (e:H a=none):a ∉ r.M E:=fun m=>by
 obtain ⟨o,z⟩:=R.has m
 rw [e] at z
 cases z
structure Nes (r:Ra) (E:En):Prop where
 bc:r.b ≠ r.c
 bt:r.b ≠ r.t
 bl:r.b ≠ r.l
 bd:r.b ≠ r.sd
 ct:r.c ≠ r.t
 cl:r.c ≠ r.l
 cd:r.c ≠ r.sd
 tl:r.t ≠ r.l
 td:r.t ≠ r.sd
 ld:r.l ≠ r.sd
 a:∀i ∈ E.ls,r.la i ≠ r.b/\r.la i ≠ r.c/\r.la i ≠ r.t/\r.la i ≠ r.l/\r.la i ≠ r.sd
 i:∀i ∈ E.ls,∀j ∈ E.ls,r.la i=r.la j->i=j
theorem Nes.of (h:(r.M E).Nodup):Nes r E:=by
 unfold Ra.M at h
 rw [List.nodup_append] at h
 obtain ⟨h1,h2,h3⟩:=h
 simp only [List.nodup_cons,List.mem_cons,List.not_mem_nil,or_false,not_or,not_false_eq_true,List.nodup_nil,and_true] at h1
 obtain ⟨⟨a1,a2,a3,a4⟩,⟨a5,a6,a7⟩,⟨a8,a9⟩,a10⟩:=h1
 have m:∀i ∈ E.ls,r.la i ∈ E.ls.map r.la:=fun i hi=>List.mem_map.mpr ⟨i,hi,rfl⟩
 refine ⟨a1,a2,a3,a4,a5,a6,a7,a8,a9,a10,fun i hi=>⟨(h3 _ (by simp) _ (m i hi)).symm,(h3 _ (by simp) _ (m i hi)).symm,(h3 _ (by simp) _ (m i hi)).symm,(h3 _ (by simp) _ (m i hi)).symm,(h3 _ (by simp) _ (m i hi)).symm⟩,?_⟩
 have:∀xs:List Nat,(xs.map r.la).Nodup->∀i ∈ xs,∀j ∈ xs,r.la i=r.la j->i=j:=by
  intro xs
  induction xs with
  | nil=>intro _ i h;cases h
  | cons x t ih =>
   intro h i hi j hj e
   rw [List.map_cons,List.nodup_cons] at h
   rcases List.mem_cons.mp hi with hi | hi <;> rcases List.mem_cons.mp hj with hj | hj
   ·exact hi.trans hj.symm
   ·rw [hi] at e
    exact absurd (show r.la x ∈ t.map r.la from List.mem_map.mpr ⟨j,hj,e.symm⟩) h.1
   ·rw [hj] at e
    exact absurd (show r.la x ∈ t.map r.la from List.mem_map.mpr ⟨i,hi,e⟩) h.1
   ·exact ih h.2 i hi j hj e
 exact this _ h2
theorem bq.ne (R:bq A E H r k):Nes r E:=Nes.of R.nd
theorem Ra.inM (r:Ra) (E:En):r.b ∈ r.M E/\r.c ∈ r.M E/\r.t ∈ r.M E/\r.l ∈ r.M E/\r.sd ∈ r.M E/\∀i ∈ E.ls,r.la i ∈ r.M E:=by
 unfold Ra.M
 refine ⟨by simp,by simp,by simp,by simp,by simp,fun i hi=>List.mem_append_right _ (List.mem_map.mpr ⟨i,hi,rfl⟩)⟩
theorem bq.steps (R:bq A E H r k) (n:Int):bq A E (upd H r.b (.ins A.ck r.db (nE r { k with steps:=n }))) r { k with steps:=n }:=by
 have g:=(Go.at (H:=H) (r.inM E).1 (.ins A.ck r.db (nE r { k with steps:=n }))).same
 have ne:=R.ne
 obtain ⟨ts,t1,t2⟩:=R.ht
 obtain ⟨ls,l1,l2⟩:=R.hl
 obtain ⟨ds,d1,d2⟩:=R.hd
 exact ⟨R.nd,g _ _ R.hs,g _ _ R.hk,ar,aj ne.bc.symm R.hc,⟨ts,aj ne.bt.symm t1,t2.same g⟩,⟨ls,aj ne.bl.symm l1,l2.same g⟩,⟨ds,aj ne.bd.symm d1,d2.same g⟩,fun i h=>aj (ne.a i h).1 (R.ha i h),⟨R.ok.num,R.ok.lst,R.ok.len⟩⟩
theorem bq.trace (R:bq A E H r k) {p:Addr}{us w:List V} (hp:H p=none) (ht:H r.t=some (.lst us)):bq A E (upd (upd H p (.tup w)) r.t (.lst (us ++ [.ref p]))) r { k with trace:=k.trace ++ [w] }:=by
 have R1:=R.same (ah.upd hp (HO.tup w))
 have pm:=R.free hp
 have hp1:(upd H p (.tup w)) p=some (.tup w):=ar
 have ht1:=ah.upd hp (HO.tup w) _ _ ht
 generalize upd H p (.tup w)=H1 at R1 hp1 ht1 ⊢
 have g:=(Go.at (H:=H1) (r.inM E).2.2.1 (.lst (us ++ [.ref p]))).same
 have ne:=R.ne
 obtain ⟨ts,t1,t2⟩:=R1.ht
 obtain ⟨ls,l1,l2⟩:=R1.hl
 obtain ⟨ds,d1,d2⟩:=R1.hd
 rw [ht1] at t1
 cases t1
 exact ⟨R.nd,g _ _ R1.hs,g _ _ R1.hk,aj ne.bt R1.hb,aj ne.ct R1.hc,⟨_,ar,PySem.Paired.snoc (t2.same g) ⟨p,rfl,g _ _ (ba pm hp1)⟩⟩,⟨ls,aj ne.tl.symm l1,l2.same g⟩,⟨ds,aj ne.td.symm d1,d2.same g⟩,fun i h=>aj (ne.a i h).2.2.1 (R1.ha i h),⟨R.ok.num,R.ok.lst,R.ok.len⟩⟩
theorem bq.oV (R:bq A E H r k) {p:Addr}{us w:List V} (hp:H p=none) (ht:H r.l=some (.lst us)):bq A E (upd (upd H p (.tup w)) r.l (.lst (us ++ [.ref p]))) r (k.oV w):=by
 have R1:=R.same (ah.upd hp (HO.tup w))
 have pm:=R.free hp
 have hp1:(upd H p (.tup w)) p=some (.tup w):=ar
 have ht1:=ah.upd hp (HO.tup w) _ _ ht
 generalize upd H p (.tup w)=H1 at R1 hp1 ht1 ⊢
 have g:=(Go.at (H:=H1) (r.inM E).2.2.2.1 (.lst (us ++ [.ref p]))).same
 have ne:=R.ne
 obtain ⟨ts,t1,t2⟩:=R1.ht
 obtain ⟨ls,l1,l2⟩:=R1.hl
 obtain ⟨ds,d1,d2⟩:=R1.hd
 rw [ht1] at l1
 cases l1
 exact ⟨R.nd,g _ _ R1.hs,g _ _ R1.hk,aj ne.bl R1.hb,aj ne.cl R1.hc,⟨ts,aj ne.tl t1,t2.same g⟩,⟨_,ar,PySem.Paired.snoc (l2.same g) ⟨p,rfl,g _ _ (ba pm hp1)⟩⟩,⟨ds,aj ne.ld.symm d1,d2.same g⟩,fun i h=>aj (ne.a i h).2.2.2.1 (R1.ha i h),⟨R.ok.num,R.ok.lst,R.ok.len⟩⟩
theorem bq.nA (R:bq A E H r k) {p:Addr}{us w:List V} (hp:H p=none) (ht:H r.sd=some (.lst us)):bq A E (upd (upd H p (.tup w)) r.sd (.lst (us ++ [.ref p]))) r (k.nA w):=by
 have R1:=R.same (ah.upd hp (HO.tup w))
 have pm:=R.free hp
 have hp1:(upd H p (.tup w)) p=some (.tup w):=ar
 have ht1:=ah.upd hp (HO.tup w) _ _ ht
 generalize upd H p (.tup w)=H1 at R1 hp1 ht1 ⊢
 have g:=(Go.at (H:=H1) (r.inM E).2.2.2.2.1 (.lst (us ++ [.ref p]))).same
 have ne:=R.ne
 obtain ⟨ts,t1,t2⟩:=R1.ht
 obtain ⟨ls,l1,l2⟩:=R1.hl
 obtain ⟨ds,d1,d2⟩:=R1.hd
 rw [ht1] at d1
 cases d1
 exact ⟨R.nd,g _ _ R1.hs,g _ _ R1.hk,aj ne.bd R1.hb,aj ne.cd R1.hc,⟨ts,aj ne.td t1,t2.same g⟩,⟨ls,aj ne.ld l1,l2.same g⟩,⟨_,ar,PySem.Paired.snoc (d2.same g) ⟨p,rfl,g _ _ (ba pm hp1)⟩⟩,fun i h=>aj (ne.a i h).2.2.2.2 (R1.ha i h),⟨R.ok.num,R.ok.lst,R.ok.len⟩⟩
theorem bq.put (R:bq A E H r k) (O:E.Ok) {x:Nat} (hx:x ∈ E.idx) (hz:E.sz x=0) {v:Int} (hv:In v):bq A E (upd H r.c (.dK (putK (dk E.N E.idx (cV E r.la k.num)) (.inr (E.N x)) (.int v)))) r (k.put x v):=by
 have e:putK (dk E.N E.idx (cV E r.la k.num)) (.inr (E.N x)) (.int v)=dk E.N E.idx (cV E r.la (k.put x v).num):=by
  rw [Bu O.D O.b hx]
  refine gz fun j _=>?_
  unfold rG cV
  show _=if E.sz j=0 then V.int (if j=x then v else k.num j) else _
  by_cases c:j=x
  ·rw [if_pos c,c,if_pos hz,if_pos rfl]
  ·rw [if_neg c,if_neg c]
 rw [e]
 have g:=(Go.at (H:=H) (r.inM E).2.1 (.dK (dk E.N E.idx (cV E r.la (k.put x v).num)))).same
 have ne:=R.ne
 obtain ⟨ts,t1,t2⟩:=R.ht
 obtain ⟨ls,l1,l2⟩:=R.hl
 obtain ⟨ds,d1,d2⟩:=R.hd
 refine ⟨R.nd,g _ _ R.hs,g _ _ R.hk,aj ne.bc R.hb,ar,⟨ts,aj ne.ct.symm t1,t2.same g⟩,⟨ls,aj ne.cl.symm l1,l2.same g⟩,⟨ds,aj ne.cd.symm d1,d2.same g⟩,fun i h=>aj (ne.a i h).2.1 (R.ha i h),⟨fun a=>?_,R.ok.lst,R.ok.len⟩⟩
 show In (if a=x then v else k.num a)
 split
 ·exact hv
 ·exact R.ok.num a
theorem bq.sT (R:bq A E H r k) {x:Nat} (hx:x ∈ E.ls) (i:Int) {v:Int} (hv:In v):bq A E (upd H (r.la x) (.lst (((k.lst x).map V.int).set (i % ((k.lst x).length:Int)).toNat (.int v)))) r (k.sT x i v):=by
 have g:=(Go.at (H:=H) ((r.inM E).2.2.2.2.2 x hx) (.lst (((k.lst x).map V.int).set (i % ((k.lst x).length:Int)).toNat (.int v)))).same
 have ne:=R.ne
 obtain ⟨a1,a2,a3,a4,a5⟩:=ne.a x hx
 obtain ⟨ts,t1,t2⟩:=R.ht
 obtain ⟨ls,l1,l2⟩:=R.hl
 obtain ⟨ds,d1,d2⟩:=R.hd
 have el:∀j,(k.sT x i v).lst j=if j=x then (k.lst x).set (i % ((k.lst x).length:Int)).toNat v else k.lst j:=fun _=>rfl
 refine ⟨R.nd,g _ _ R.hs,g _ _ R.hk,aj a1.symm R.hb,aj a2.symm R.hc,⟨ts,aj a3.symm t1,t2.same g⟩,⟨ls,aj a4.symm l1,l2.same g⟩,⟨ds,aj a5.symm d1,d2.same g⟩,fun j h=>?_,⟨R.ok.num,fun j n hn=>?_,fun j hj hz=>?_⟩⟩
 ·rw [el]
  by_cases c:j=x
  ·rw [c,if_pos rfl,ar,List.map_set]
  ·rw [if_neg c]
   exact aj (fun z=>c (ne.i j h x hx z)) (R.ha j h)
 ·rw [el] at hn
  split at hn
  ·rcases List.mem_or_eq_of_mem_set hn with z | z
   ·exact R.ok.lst x n z
   ·rw [z];exact hv
  ·exact R.ok.lst j n hn
 ·rw [el]
  split
  ·rename_i c
   rw [List.length_set]
   rw [c] at hj hz ⊢
   exact R.ok.len x hj hz
  ·exact R.ok.len j hj hz
theorem bq.get (R:bq A E H r k) (O:E.Ok) {i:Nat} (hi:i ∈ E.idx):cj H r.c (.str (E.N i)) (some (cV E r.la k.num i)):=by
 have:=cj.k (k:=.inr (E.N i)) R.hc
 rw [iU O.D O.b hi] at this
 exact this
theorem bq.gn (R:bq A E H r k) (O:E.Ok) {i:Nat} (hi:i ∈ E.idx) (hz:E.sz i=0):cj H r.c (.str (E.N i)) (some (.int (k.num i))):=by
 have:=R.get O hi
 unfold cV at this
 rw [if_pos hz] at this
 exact this
theorem bq.gl (R:bq A E H r k) (O:E.Ok) {i:Nat} (hi:i ∈ E.idx) (hz:0 < E.sz i):cj H r.c (.str (E.N i)) (some (.ref (r.la i))):=by
 have:=R.get O hi
 unfold cV at this
 rw [if_neg (by omega)] at this
 exact this
theorem lU {i:Nat} (hi:i ∈ E.idx) (hz:0 < E.sz i):i ∈ E.ls:=List.mem_filter.mpr ⟨hi,decide_eq_true hz⟩
theorem nF {v:V}{D:Dd}:∀{ds:List Dd}{dv:List V}{i:Nat},(ds.map Dd.nm).Nodup->ds[i]?=some D->dv[i]?=some v->∃q,(ds.zip dv).find? (fun p=>decide (p.1.nm=D.nm))=some q/\q.2=v
 | [],_,_,_,h,_=>by cases h
 | _ :: _,[],_,_,_,h=>by cases h
 | x :: ds,y :: dv,0,_,h1,h2=>by
  cases h1
  cases h2
  exact ⟨(D,v),by rw [List.zip_cons_cons,List.find?_cons,decide_eq_true rfl],rfl⟩
 | x :: ds,y :: dv,i + 1,nd,h1,h2=>by
  rw [List.map_cons,List.nodup_cons] at nd
  have ne:x.nm ≠ D.nm:=fun z=>nd.1 (by rw [z];exact List.mem_map.mpr ⟨D,List.mem_of_getElem? (by simpa using h1),rfl⟩)
  obtain ⟨q,e1,e2⟩:=nF (i:=i) nd.2 (by simpa using h1) (by simpa using h2)
  exact ⟨q,by rw [List.zip_cons_cons,List.find?_cons,decide_eq_false ne];exact e1,e2⟩
theorem bq.Dr (R:bq A E H r k) (O:E.Ok) {i:Nat}{D:Dd}{v:V} (h1:E.ds[i]?=some D) (h2:E.dv[i]?=some v):cj H r.d (.str (E.N D.nm)) (some v):=by
 have:=cj.k (k:=.inr (E.N D.nm)) (aw _ _ R.hk)
 rw [iU O.D (fun j hj=>by obtain ⟨d,hd,rfl⟩:=List.mem_map.mp hj;exact O.dn d hd) (List.mem_map.mpr ⟨D,List.mem_of_getElem? h1,rfl⟩)] at this
 obtain ⟨q,e1,e2⟩:=nF O.dd h1 h2
 unfold dG at this
 rw [e1] at this
 dsimp only at this
 rw [e2] at this
 exact this
end
section
variable {P:Program}{w:World}{K:W.Frag}{mg:Str->Option Value}{base:Heap}{A:Adr}{E:En}
def wg:Sp:=fun vs H Q _=>∃(a b:Int) (x:Str),vs=[.int a,.str x,.int b]/\0 <= a/\a < 1000000000000/\0 <= b/\b < 1000000000000/\Q (.int (rkn a b x)) H
theorem rE (T:Txt K mg A):Has P w K mg base 1 "reckon" ["one","word","other"] wg:=by
 refine T.reckon.has vU (fun vs H Q E h=>?_) (fun f cdv A outer s H vs Q E hr hu h=>?_)
 ·obtain ⟨a,b,x,rfl,_⟩:=h
  rfl
 ·obtain ⟨a,b,x,rfl,a0,a1,b0,b1,q⟩:=h
  refine ⟨_,(ab (aS (ay (bz hu) (fv 1) au (aC _))
   (ag (az (av bI (av bf (fv 0) (fv 2)) (nk T.ni))))
   aL)
  (ab (aS (ay (bz hu) (fv 1) au (aC _))
   (ag (az (av bI (av mJ (fv 0) (fv 2)) (nk T.ni))))
   aL)
  (ab (aS (ay (bz hu) (fv 1) au (aC _))
   (ag (az (av bI (av eZ (fv 0) (fv 2)) (nk T.ni))))
   aL)
  (ab (aS (ay (bz hu) (fv 1) au (aC _))
   (ag (az (eG (ay (bz hu) (fv 2) ae (aC _)) ae (av bU (fv 0) (fv 2)))))
   aL)
  (ab (aS (ay (bz hu) (fv 1) au (aC _))
   (ag (az (eG (ay (bz hu) (fv 2) ae (aC _)) (fv 0) (av bI (fv 0) (fv 2)))))
   aL)
  (ab (aS (ay (bz hu) (fv 1) au (aC _))
   (ag (az (eG (ay (Bg) (fv 0) (fv 2) (aC _)) ae ae)))
   aL)
  (ag (az (eG (ay (bz hu) (fv 0) (fv 2) (aC _)) ae ae))))))))),?_⟩
  unfold rkn at q
  refine ⟨rfl,_,rfl,aW (fun c=>?_) (fun c=>?_)⟩
  ·rw [if_pos c] at q
   exact ⟨(by show (0:Int) < 1000000000000;decide),q⟩
  rw [if_neg c] at q
  refine ⟨rfl,_,rfl,aW (fun c=>?_) (fun c=>?_)⟩
  ·rw [if_pos c] at q
   exact ⟨(by show (0:Int) < 1000000000000;decide),q⟩
  rw [if_neg c] at q
  refine ⟨rfl,_,rfl,aW (fun c=>?_) (fun c=>?_)⟩
  ·rw [if_pos c] at q
   exact ⟨.inl ⟨by omega,by omega⟩,(by show (0:Int) < 1000000000000;decide),q⟩
  rw [if_neg c] at q
  refine ⟨rfl,_,rfl,aW (fun c=>?_) (fun c=>?_)⟩
  ·rw [if_pos c] at q
   refine ⟨rfl,_,rfl,aW (fun d=>?_) (fun d=>?_)⟩
   ·rw [if_pos d] at q
    exact q
   ·rw [if_neg d] at q
    have hb:b ≠ 0:=fun z=>d (by rw [z];rfl)
    exact ⟨⟨by omega,by omega⟩,q⟩
  rw [if_neg c] at q
  refine ⟨rfl,_,rfl,aW (fun c=>?_) (fun c=>?_)⟩
  ·rw [if_pos c] at q
   refine ⟨rfl,_,rfl,aW (fun d=>?_) (fun d=>?_)⟩
   ·rw [if_pos d] at q
    exact q
   ·rw [if_neg d] at q
    have hb:b ≠ 0:=fun z=>d (by rw [z];rfl)
    exact ⟨by omega,q⟩
  rw [if_neg c] at q
  refine ⟨rfl,_,rfl,aW (fun c=>?_) (fun c=>?_)⟩
  ·rw [if_pos c] at q
   refine ⟨_,rfl,aW (fun d=>?_) (fun d=>?_)⟩
   ·rw [if_pos d] at q
    exact q
   ·rw [if_neg d] at q
    exact q
  rw [if_neg c] at q
  refine ⟨rfl,_,rfl,aW (fun d=>?_) (fun d=>?_)⟩
  ·rw [if_pos d] at q
   exact q
  ·rw [if_neg d] at q
   exact q
def yi:Sp:=fun vs H Q _=>∃a:Int,vs=[.int a]/\In a/\Q (.bl true) H
theorem yF (T:Txt K mg A):Has P w K mg base 1 "is_number" ["thing"] yi:=by
 refine T.p9.has qX (fun vs H Q E h=>?_) (fun f cdv A outer s H vs Q E hr hu h=>?_)
 ·obtain ⟨a,rfl,_⟩:=h
  rfl
 ·obtain ⟨a,rfl,ha,q⟩:=h
  refine ⟨_,(ab (aS (PW.pt (pw_or (b9 (aN bA rfl T.aH (by boot_by_name) (aa (fv 0) (aa (iS (v:=.ty "bool") rfl T.oX (by boot_by_name) rfl) af))) (fun _=>rfl)) (pw_or1 (kH (b9 (aN bA rfl T.aH (by boot_by_name) (aa (fv 0) (aa (iS (v:=.ty "int") rfl T.sf (by boot_by_name) rfl) af))) (fun _=>rfl))))))
   (ag (az kZ))
   aL)
  (ag (az (xT (zJ) (zJ) ae (fv 0) (nk T.kg))))),?_⟩
  refine ⟨_,_,_,false,rfl,(fun z=>by cases z),.int a,xP,false,rfl,aY ?_⟩
  refine ⟨_,_,_,true,rfl,(fun z=>by cases z),.int a,x9,true,rfl,aY ?_⟩
  refine ⟨_,rfl,aW (fun c=>?_) (fun c=>absurd (decide_eq_true ha.1) c)⟩
  have e:decide (a <= 999999999999)=true:=decide_eq_true (by have:=ha.2;omega)
  show Q (.bl (decide (a <= 999999999999))) H
  rw [e]
  exact q
def wj:Sp:=fun vs H Q _=>(∃a:Int,vs=[.int a,.int 0]/\In a/\Q (.bl true) H) \/
 ∃(p:Addr) (rs:List Int),vs=[.ref p,.int rs.length]/\0 < rs.length/\rs.length <= 1000/\H p=some (.lst (rs.map V.int))/\(∀a ∈ rs,In a)/\∀H',ah H H'->Q (.bl true) H'
theorem yf (T:Txt K mg A):Has P w K mg base 2 "is_good" ["gift","size"] wj:=by
 have D_is_number:=yF (P:=P) (w:=w) (base:=base) T
 refine T.uY.has uE (fun vs H Q E h=>?_) (fun f cdv A outer s H vs Q E hr hu h=>?_)
 ·rcases h with ⟨a,rfl,_⟩ | ⟨p,rs,rfl,_⟩ <;> rfl
 ·rcases h with ⟨a,rfl,ha,q⟩ | ⟨p,rs,rfl,hn,hl,hS,hb,q⟩
  ·refine ⟨_,(ab (aS (ay (bz hu) (fv 1) ae (aC _))
   (ag (az (ao D_is_number hr (aa (fv 0) af))))
   aL)
  (ag (az (oa (aN bA rfl T.aH (by boot_by_name) (aa (fv 0) (aa (iS (v:=.ty "list") rfl T.er (by boot_by_name) rfl) af))) (oa (lu (bz hu) (aN gW rfl T.iw (by boot_by_name) (aa (fv 0) af)) (fv 1) (aC _)) (tQ (aN Af rfl T.rT (by boot_by_name) (aa (j7 (N:=["thing"]) (own:=1) (fr:=[]) (dC.of (by kernel_rfl!)) rfl (eu (fv 0)) (fun b=>pgn (i:=0) (show List.Nodup (["thing"]:List PySem.Str) by decide +kernel) rfl) (fun b=>kD) (fun b=>ao D_is_number hr (aa (fv 0) af))) af)))))))),?_⟩
   refine ⟨rfl,_,rfl,aW (fun c=>?_) (fun c=>absurd rfl c)⟩
   exact ⟨a,rfl,ha,q⟩
  ·refine ⟨_,(ab (aS (ay (bz hu) (fv 1) ae (aC _))
   (ag (az (ao D_is_number hr (aa (fv 0) af))))
   aL)
  (ag (az (oa (aN bA rfl T.aH (by boot_by_name) (aa (fv 0) (aa (iS (v:=.ty "list") rfl T.er (by boot_by_name) rfl) af))) (oa (lu (bz hu) (aN gW rfl T.iw (by boot_by_name) (aa (fv 0) af)) (fv 1) (aC _)) (tQ (aN Af rfl T.rT (by boot_by_name) (aa (j7 (N:=["thing"]) (own:=1) (fr:=[]) (dC.of (by kernel_rfl!)) rfl (eu (fv 0)) (fun b=>pgn (i:=0) (show List.Nodup (["thing"]:List PySem.Str) by decide +kernel) rfl) (fun b=>kD) (fun b=>ao D_is_number hr (aa (fv 0) af))) af)))))))),?_⟩
   refine ⟨rfl,_,rfl,aW (fun c=>absurd c ?_) (fun c=>?_)⟩
   ·rw [j9,decide_eq_true_iff]
    omega
   ·refine ⟨_,_,_,true,rfl,(fun z=>by cases z),.lst hS,Av,_,rfl,cy ?_⟩
    refine Or.inl ⟨_,_,rfl,Or.inl ⟨_,SqL.of hS,rfl⟩,rfl,_,rfl,?_⟩
    refine aW (fun c2=>?_) (fun c2=>absurd ?_ c2)
    ·refine Or.inl ⟨⟨_,SqL.of hS⟩,wF (K:=K) (fun _=>true) (fun _=>.bl true) (SqL.of hS) (by rw [List.length_map];exact aR hl) (fun b x H2 R _ _ k=>k _ (ah.refl _)) (fun b x H2 R hx _ s2 k=>?_) (fun D H2 hD s2 e=>?_)⟩
     ·obtain ⟨a,ha,rfl⟩:=List.mem_map.mp hx
      exact ⟨a,rfl,hb a ha,k _ (ah.refl _)⟩
     ·rw [rC,List.map_map] at e
      refine ⟨D,rs.map (fun _=>true),rfl,SqL.of (by rw [e,List.map_map];rfl),?_⟩
      have:(rs.map (fun _=>true)).all id=true:=by simp
      rw [this]
      exact q _ s2
    ·rw [j9,List.length_map,decide_eq_true_iff]
def yw:Sp:=fun vs H Q _=>∃(a:Int) (n:Nat),vs=[.int a,.int n]/\In a/\0 < n/\n <= 1000/\Q (.int (a % (n:Int))) H
theorem uN (T:Txt K mg A):Has P w K mg base 2 "round_place" ["place","size"] yw:=by
 have D_reckon:=rE (P:=P) (w:=w) (base:=base) T
 refine T.mw.has oo (fun vs H Q E h=>?_) (fun f cdv A outer s H vs Q E hr hu h=>?_)
 ·obtain ⟨a,n,rfl,_⟩:=h
  rfl
 ·obtain ⟨a,n,rfl,ha,h0,h1,q⟩:=h
  refine ⟨_,(ag (az (ao D_reckon hr (aa (fv 0) (aa au (aa (fv 1) af)))))),?_⟩
  exact ⟨a,n,_,rfl,ha.1,ha.2,by omega,by omega,by rw [xQ h0];exact q⟩
theorem Bb:W.kitOne K (.type "int") (.type "str")=some false:=by kernel_rfl!
theorem A9:W.kitOne K (.type "str") (.type "str")=some true:=by kernel_rfl!
def CD (A:Adr) (E:En):Sp:=fun vs H Q _=>∃(r:Ra) (k:S) (t:Th),vs=[.ref r.s,t.v E.N]/\bq A E H r k/\t.ok E/\Q (.int (t.num k)) H
theorem zK (T:Txt K mg A) (O:E.Ok):di P w K mg base 1 A.Run "number_at" ["self","thing"] (CD A E):=by
 refine T.iX.has (k:=0) lF (fun vs H Q E h=>?_) (fun f cdv A' outer s' H vs Q E' hr hu h=>?_)
 ·obtain ⟨r,k,t,rfl,_⟩:=h
  rfl
 ·obtain ⟨r,k,t,rfl,R,ht,q⟩:=h
  refine ⟨_,(ag (az (eG (b9 (aN bA rfl T.aH (by boot_by_name) (aa (fv 1) (aa (iS (v:=.ty "str") rfl T.uI (by boot_by_name) rfl) af))) (fun _=>rfl)) (px hu (aA (fv 0) rfl) (fv 1)) (fv 1)))),?_⟩
  cases t with
  | i n=>exact ⟨_,_,_,false,rfl,(fun z=>by cases z),.int n,Bb,false,rfl,aY q⟩
  | x a=>exact ⟨_,_,_,true,rfl,(fun z=>by cases z),.str _,A9,true,rfl,cy ⟨r.s,_,r.ds,_,_,rfl,R.s,T.bV.cl,T.cW,rfl,_,R.gn O ht.1 ht.2,q⟩⟩
theorem Bh {xs:List Int} (h:0 < xs.length) (i:Int):atI (xs.map V.int) (i % (xs.length:Int))=some (.int (lat xs i)):=by
 obtain ⟨m0,m1⟩:=bD i (show (0:Int) < (xs.length:Int) by omega)
 obtain ⟨x,_,e1,e2⟩:=nB V.int m0 m1
 rw [e2]
 unfold lat
 rw [List.getD_eq_getElem?_getD,e1]
 rfl
def AO (A:Adr) (E:En):Sp:=fun vs H Q _=>∃(r:Ra) (k:S) (p:Addr) (val:Val),vs=[.ref r.s,.ref p]/\bq A E H r k/\H p=some (.tup (vV E.N val))/\val.ok E/\Q (.int (val.num k)) H
theorem u5 (T:Txt K mg A) (O:E.Ok):di P w K mg base 3 A.Run "number_for" ["self","value"] (AO A E):=by
 have D_number_at:=zK (P:=P) (w:=w) (base:=base) T O
 have D_reckon:=rE (P:=P) (w:=w) (base:=base) T
 have D_round_place:=uN (P:=P) (w:=w) (base:=base) T
 refine T.iH.has (k:=2) eY (fun vs H Q E h=>?_) (fun f cdv A' outer s' H vs Q E' hr hu h=>?_)
 ·obtain ⟨r,k,p,val,rfl,_⟩:=h
  rfl
 ·obtain ⟨r,k,p,val,rfl,R,hp,vo,q⟩:=h
  have hT:SqT K H p (vV E.N val):=SqT.of hp
  refine ⟨_,(ab (aS (ay (bz hu) (aN gW rfl T.iw (by boot_by_name) (aa (fv 1) af)) ae (aC _))
   (ag (az (bB (fv 0) T.bV.cl D_number_at hr (aa (px hu (fv 1) ae) af))))
   aL)
  (ab (aE (i:=2) eY.nd rfl (Or.inl rfl) (bB (fv 0) T.bV.cl D_number_at hr (aa (px hu (fv 1) ae) af)))
  (ab (aS (ay (bz hu) (px hu (fv 1) ae) au (aC _))
   (ab (aE (i:=3) eY.nd rfl (Or.inl rfl) (px hu (aA (fv 0) rfl) (px hu (fv 1) ae)))
   (ag (az (px hu (fv 3) (ao D_round_place hr (aa (fv 2) (aa (aN gW rfl T.iw (by boot_by_name) (aa (fv 3) af)) af)))))))
   aL)
  (ag (az (ao D_reckon hr (aa (bB (fv 0) T.bV.cl D_number_at hr (aa (px hu (fv 1) ae) af)) (aa (px hu (fv 1) ae) (aa (fv 2) af))))))))),?_⟩
  refine Or.inl ⟨_,_,rfl,Or.inr ⟨_,hT,rfl⟩,rfl,_,rfl,?_⟩
  cases val with
  | one a =>
   refine aW (fun b=>?_) (fun b=>absurd rfl b)
   exact ⟨r.s,r.ds,_,rfl,R.s,rfl,Or.inl ⟨_,_,Or.inr hT,rfl,r,k,a,rfl,R,vo,q⟩⟩
  | op a x i =>
   refine aW (fun b=>absurd b (by show ¬ decide (V.int 3=V.int 1)=true;decide)) (fun b=>?_)
   refine ⟨r.s,r.ds,_,rfl,R.s,rfl,Or.inl ⟨_,_,Or.inr hT,rfl,r,k,i,rfl,R,vo.2.1,?_⟩⟩
   refine Or.inl ⟨_,_,Or.inr hT,rfl,rfl,_,rfl,?_⟩
   refine aW (fun b=>absurd (of_decide_eq_true b) (fun z=>CM vo.2.2 (V.str.inj z))) (fun b=>?_)
   refine ⟨r.s,r.ds,_,rfl,R.s,rfl,Or.inl ⟨_,_,Or.inr hT,rfl,r,k,a,rfl,R,vo.1,?_⟩⟩
   exact Or.inl ⟨_,_,Or.inr hT,rfl,_,_,_,rfl,(Th.eQ R.ok vo.1).1,(Th.eQ R.ok vo.1).2,(Th.eQ R.ok vo.2.1).1,(Th.eQ R.ok vo.2.1).2,q⟩
  | atl l i =>
   obtain ⟨v1,v2,v3⟩:=vo
   have ln:=R.ok.len l v1 v2
   have lz:=O.z l
   refine aW (fun b=>absurd b (by show ¬ decide (V.int 3=V.int 1)=true;decide)) (fun b=>?_)
   refine ⟨r.s,r.ds,_,rfl,R.s,rfl,Or.inl ⟨_,_,Or.inr hT,rfl,r,k,i,rfl,R,v3,?_⟩⟩
   refine Or.inl ⟨_,_,Or.inr hT,rfl,rfl,_,rfl,?_⟩
   refine aW (fun b=>?_) (fun b=>absurd (show decide (V.str "at"=V.str "at")=true by decide) b)
   refine ⟨r.s,_,r.ds,_,_,rfl,R.s,T.bV.cl,T.cW,rfl,Or.inl ⟨_,_,Or.inr hT,rfl,_,R.gl O v1 v2,?_⟩⟩
   have hL:=SqL.of (K:=K) (R.ha l (lU v1 v2))
   refine Or.inl ⟨_,_,rfl,Or.inl ⟨_,hL,rfl⟩,_,(k.lst l).length,by rw [List.length_map];rfl,Th.eQ R.ok v3,by omega,by omega,?_⟩
   exact Or.inl ⟨_,_,Or.inl hL,Bh (by omega) _,q⟩
def vw (K:W.Frag) (A:Adr) (E:En):Sp:=fun vs H Q _=>∃(r:Ra) (k:S) (a:Addr),vs=[.ref r.s,.ref a]/\bq A E H r k /\
 ((∃(dx p:Addr) (n h:V) (val:Val),val.ok E/\H a=some (.ins A.bp dx [("number",n),("name",h),("value",.ref p)])/\H p=some (.tup (vV E.N val))/\Q (.int (val.num k)) H) \/ (∃(dx p:Addr) (n x m:V) (val:Val),val.ok E/\H a=some (.ins A.bJ dx [("number",n),("name",x),("value",.ref p),("mark",m)])/\H p=some (.tup (vV E.N val))/\Q (.int (val.num k)) H) \/ (∃C:Addr,jo K H (.ref a) (.ref C)/\W.kitOne K (.ref C) (.ref A.bp)=some false/\W.kitOne K (.ref C) (.ref A.bJ)=some false/\Q .non H))
theorem AV (T:Txt K mg A) (O:E.Ok):di P w K mg base 4 A.Run "number_told" ["self","row"] (vw K A E):=by
 have D_number_for:=u5 (P:=P) (w:=w) (base:=base) T O
 refine T.gI.has (k:=3) kN (fun vs H Q E h=>?_) (fun f cdv A' outer s' H vs Q E' hr hu h=>?_)
 ·obtain ⟨r,k,a,rfl,_⟩:=h
  rfl
 ·obtain ⟨r,k,a,rfl,R,h⟩:=h
  refine ⟨_,(ab (aS (PW.pt (pw_or (b9 (aN bA rfl T.aH (by boot_by_name) (aa (fv 1) (aa (cI T.aO.mg) af))) (fun _=>rfl)) (pw_or1 (b9 (aN bA rfl T.aH (by boot_by_name) (aa (fv 1) (aa (cI T.aP.mg) af))) (fun _=>rfl)))))
   (ag (az (bB (fv 0) T.bV.cl D_number_for hr (aa (aA (fv 1) rfl) af))))
   aL)
  (ag (az cL))),?_⟩
  rcases h with ⟨dx,p,n,hh,val,vo,ha,hp,q⟩ | ⟨dx,p,n,x,m,val,vo,ha,hp,q⟩ | ⟨C,ty,k1,k2,q⟩
  ·refine ⟨_,_,_,true,rfl,(fun z=>by cases z),T.aO.bK ha,iT T.aO,true,rfl,cy ?_⟩
   exact ⟨r.s,r.ds,_,rfl,R.s,rfl,a,_,dx,_,_,rfl,ha,T.aO.cl,T.fO,rfl,r,k,p,val,rfl,R,hp,vo,q⟩
  ·refine ⟨_,_,_,false,rfl,(fun z=>by cases z),T.aP.bK ha,bH T.aP T.aO (ai T 8 9) (ai T 8 1),false,rfl,aY ⟨_,_,_,true,rfl,(fun z=>by cases z),T.aP.bK ha,iT T.aP,true,rfl,cy ?_⟩⟩
   exact ⟨r.s,r.ds,_,rfl,R.s,rfl,a,_,dx,_,_,rfl,ha,T.aP.cl,T.gF,rfl,r,k,p,val,rfl,R,hp,vo,q⟩
  ·refine ⟨_,_,_,false,rfl,(fun z=>by cases z),ty,k1,false,rfl,aY ?_⟩
   exact ⟨_,_,_,false,rfl,(fun z=>by cases z),ty,k2,false,rfl,aY q⟩
def zE (A:Adr) (E:En):Sp:=fun vs H Q _=>∃(r:Ra) (n:Int) (k:S),vs=[.ref r.s,.int n]/\bq A E H r k/\∀H',Go (r.M E) H (r.M E) H'->bq A E H' r (k.idle n)->Q .non H'
theorem sS (T:Txt K mg A):di P w K mg base 1 A.Run "pass_steps" ["self","count"] (zE A E):=by
 refine T.iJ.has (k:=0) gL (fun vs H Q E h=>?_) (fun f cdv A' outer s' H vs Q E' hr hu h=>?_)
 ·obtain ⟨r,n,k,rfl,_⟩:=h
  rfl
 ·obtain ⟨r,n,k,rfl,R,q⟩:=h
  refine ⟨_,(ab (aE (i:=2) gL.nd rfl (Or.inl rfl) (aA (fv 0) rfl))
  (ag (vJ (fv 2) (fv 1) Ba))),?_⟩
  refine ⟨r.s,_,r.ds,_,_,rfl,R.s,T.bV.cl,T.f7,rfl,?_⟩
  refine ⟨r.b,_,r.db,_,_,rfl,R.hb,T.c6.cl,T.cw,rfl,_,_,rfl,rfl,r.db,_,R.hb,by simp [nE],?_⟩
  exact q _ (Go.at (r.inM E).1 _) (R.steps (k.steps + n))
theorem AU {xs:List Int} (h:0 < xs.length) (i:Int):ixN (xs.map V.int).length (i % (xs.length:Int))=some (i % (xs.length:Int)).toNat:=by
 obtain ⟨m0,m1⟩:=bD i (show (0:Int) < (xs.length:Int) by omega)
 unfold ixN
 rw [if_pos m0,List.length_map,if_pos m1]
def xB (A:Adr) (E:En):Sp:=fun vs H Q _=>∃(r:Ra) (k:S) (n:V) (x:Nat) (t:Th) (val:Val) (a dx p:Addr),vs=[.ref r.s,.ref a]/\bq A E H r k/\x ∈ E.idx/\0 < E.sz x/\t.ok E/\val.ok E/\H a=some (.ins A.bP dx [("number",n),("name",.str (E.N x)),("place",t.v E.N),("value",.ref p)])/\H p=some (.tup (vV E.N val))/\∀H',bq A E H' r (k.sT x (t.num k) (val.num k))->Go (r.M E) H (r.M E) H'->Q .non H'
theorem yI (T:Txt K mg A) (O:E.Ok):di P w K mg base 4 A.Run "do_put" ["self","row"] (xB A E):=by
 have D_number_at:=zK (P:=P) (w:=w) (base:=base) T O
 have D_number_for:=u5 (P:=P) (w:=w) (base:=base) T O
 have D_round_place:=uN (P:=P) (w:=w) (base:=base) T
 refine T.lD.has (k:=3) ke (fun vs H Q E h=>?_) (fun f cdv A' outer s' H vs Q E' hr hu h=>?_)
 ·obtain ⟨r,k,n,x,t,val,a,dx,p,rfl,_⟩:=h
  rfl
 ·obtain ⟨r,k,n,x,t,val,a,dx,p,rfl,R,hx,hz,to,vo,ha,hp,q⟩:=h
  have ln:=R.ok.len x hx hz
  have lz:=O.z x
  refine ⟨_,(ab (aE (i:=2) ke.nd rfl (Or.inl rfl) (px hu (aA (fv 0) rfl) (aA (fv 1) rfl)))
  (ag (bN (bB (fv 0) T.bV.cl D_number_for hr (aa (aA (fv 1) rfl) af)) (bR (fv 2) (ao D_round_place hr (aa (bB (fv 0) T.bV.cl D_number_at hr (aa (aA (fv 1) rfl) af)) (aa (aN gW rfl T.iw (by boot_by_name) (aa (fv 2) af)) af))) (bS hu set_list))))),?_⟩
  refine ⟨r.s,_,r.ds,_,_,rfl,R.s,T.bV.cl,T.cW,rfl,a,_,dx,_,_,rfl,ha,T.bg.cl,T.hV,rfl,_,R.gl O hx hz,?_⟩
  refine ⟨r.s,r.ds,_,rfl,R.s,rfl,a,_,dx,_,_,rfl,ha,T.bg.cl,T.gh,rfl,r,k,p,val,rfl,R,hp,vo,?_⟩
  refine ⟨r.s,r.ds,_,rfl,R.s,rfl,a,_,dx,_,_,rfl,ha,T.bg.cl,T.gC,rfl,r,k,t,rfl,R,to,?_⟩
  have hL:=R.ha x (lU hx hz)
  refine Or.inl ⟨_,_,rfl,Or.inl ⟨_,SqL.of hL,rfl⟩,_,(k.lst x).length,by rw [List.length_map];rfl,Th.eQ R.ok to,by omega,by omega,?_⟩
  refine Or.inl ⟨_,_,hL,AU (by omega) _,?_⟩
  exact q _ (R.sT (lU hx hz) (t.num k) (Val.eQ R.ok vo)) (Go.at ((r.inM E).2.2.2.2.2 x (lU hx hz)) _)
end
section
variable {P:Program}{w:World}{K:W.Frag}{mg:Str->Option Value}{base:Heap}{A:Adr}{E:En}
def Rw.no:Rw->Int
 | .set n _ _=>n
 | .put n _ _ _=>n
 | .snd n _ _=>n
 | .say n _ _ _=>n
 | .last n=>n
 | .call n _ _=>n
 | .iff n _ _ _ _ _=>n
 | .loop n _ _ _ _ _=>n
def Rw.told (s:S):Rw->V
 | .snd _ _ v=>.int (v.num s)
 | .say _ _ v _=>.int (v.num s)
 | _=>.non
def Rw.cl (A:Adr):Rw->Addr
 | .set _ _ _=>A.cb
 | .put _ _ _ _=>A.bP
 | .snd _ _ _=>A.bp
 | .say _ _ _ _=>A.bJ
 | .last _=>A.cH
 | .call _ _ _=>A.bC
 | .iff _ _ _ _ _ _=>A.bQ
 | .loop _ _ _ _ _ _=>A.aV
theorem nQ {X:Hp}{d:Nat}{v:V}{rw:Rw} (h:bO A E X d v rw):∃a dx fs,v=.ref a/\X a=some (.ins (rw.cl A) dx (("number",.int rw.no) :: fs)):=by
 cases rw with
 | set n x val=>cases d <;> (obtain ⟨a,dx,p,e,h1,h2⟩:=h;exact ⟨a,dx,_,e,h1⟩)
 | put n x pl val=>cases d <;> (obtain ⟨a,dx,p,e,h1,h2⟩:=h;exact ⟨a,dx,_,e,h1⟩)
 | snd n x val=>cases d <;> (obtain ⟨a,dx,p,e,h1,h2⟩:=h;exact ⟨a,dx,_,e,h1⟩)
 | say n x val m=>cases d <;> (obtain ⟨a,dx,p,e,h1,h2⟩:=h;exact ⟨a,dx,_,e,h1⟩)
 | last n=>cases d <;> (obtain ⟨a,dx,e,h1⟩:=h;exact ⟨a,dx,_,e,h1⟩)
 | call n i ts =>
  cases d with
  | zero=>exact h.elim
  | succ d=>obtain ⟨a,dx,p,D,e,h0,h1,_⟩:=h;exact ⟨a,dx,_,e,h1⟩
 | iff n val f o l r =>
  cases d with
  | zero=>exact h.elim
  | succ d=>obtain ⟨a,dx,p,pf,po,xf,xo,e,h1,_⟩:=h;exact ⟨a,dx,_,e,h1⟩
 | loop n t m b l r =>
  cases d with
  | zero=>exact h.elim
  | succ d=>obtain ⟨a,dx,pb,xb,e,h1,_⟩:=h;exact ⟨a,dx,_,e,h1⟩
theorem Cn (T:Txt K mg A) (rw:Rw):Cls K (rw.cl A)/\aM K (rw.cl A) "number":=by
 cases rw with
 | set n x val=>exact ⟨T.bu.cl,T.fP⟩
 | put n x pl val=>exact ⟨T.bg.cl,T.fK⟩
 | snd n x val=>exact ⟨T.aO.cl,T.dY⟩
 | say n x val m=>exact ⟨T.aP.cl,T.eN⟩
 | last n=>exact ⟨T.aQ.cl,T.fi⟩
 | call n i ts=>exact ⟨T.aG.cl,T.fg⟩
 | iff n val f o l r=>exact ⟨T.aI.cl,T.f9⟩
 | loop n t m b l r=>exact ⟨T.ax.cl,T.fo⟩
theorem zj (T:Txt K mg A) {X H:Hp}{d:Nat}{a:Addr}{rw:Rw}{r:Ra}{k:S}{Q:VK}{E0:XK} (h:bO A E X d (.ref a) rw) (wf:Wf E d rw) (s:ah X H) (R:bq A E H r k) (q:Q (rw.told k) H):vw K A E (.ref r.s :: ([.ref a] ++ [])) H Q E0:=by
 refine ⟨r,k,a,rfl,R,?_⟩
 have no:∀{C D:Addr}{x:Str}{up:List Addr},eA K mg C x up->(∃dx fs,X a=some (.ins C dx fs))->W.kitOne K (.ref C) (.ref A.bp)=some false->W.kitOne K (.ref C) (.ref A.bJ)=some false->rw.told k=.non->∃C:Addr,jo K H (.ref a) (.ref C)/\W.kitOne K (.ref C) (.ref A.bp)=some false/\W.kitOne K (.ref C) (.ref A.bJ)=some false/\Q .non H:=fun {C D x up} o ⟨dx,fs,e⟩ k1 k2 z=>⟨C,o.bK (s _ _ e),k1,k2,by rw [z] at q;exact q⟩
 obtain ⟨a',dx,fs,ea,h1⟩:=nQ h
 cases ea
 cases rw with
 | set n x val=>exact Or.inr (Or.inr (no (D:=a) T.bu ⟨_,_,h1⟩ (bH T.bu T.aO (ai T 8 6) (ai T 8 1)) (bH T.bu T.aP (ai T 9 6) (ai T 9 1)) rfl))
 | put n x pl val=>exact Or.inr (Or.inr (no (D:=a) T.bg ⟨_,_,h1⟩ (bH T.bg T.aO (ai T 8 7) (ai T 8 1)) (bH T.bg T.aP (ai T 9 7) (ai T 9 1)) rfl))
 | snd n x val =>
  obtain ⟨a',dx,p,ea,h1,h2⟩:∃a' dx p,V.ref a=.ref a'/\X a'=some (.ins A.bp dx [("number",.int n),("name",.str (E.N x)),("value",.ref p)])/\X p=some (.tup (vV E.N val)):=by cases d <;> exact h
  cases ea
  have vo:val.ok E:=by cases d <;> exact wf
  exact Or.inl ⟨dx,p,_,_,val,vo,s _ _ h1,s _ _ h2,q⟩
 | say n x val m =>
  obtain ⟨a',dx,p,ea,h1,h2⟩:∃a' dx p,V.ref a=.ref a'/\X a'=some (.ins A.bJ dx [("number",.int n),("name",.str (E.N x)),("value",.ref p),("mark",.str (E.N m))])/\X p=some (.tup (vV E.N val)):=by cases d <;> exact h
  cases ea
  have vo:x ∈ E.idx/\E.sz x=0/\val.ok E:=by cases d <;> exact wf
  exact Or.inr (Or.inl ⟨dx,p,_,_,_,val,vo.2.2,s _ _ h1,s _ _ h2,q⟩)
 | last n=>exact Or.inr (Or.inr (no (D:=a) T.aQ ⟨_,_,h1⟩ (bH T.aQ T.aO (ai T 8 11) (ai T 8 1)) (bH T.aQ T.aP (ai T 9 11) (ai T 9 1)) rfl))
 | call n i ts=>exact Or.inr (Or.inr (no (D:=a) T.aG ⟨_,_,h1⟩ (bH T.aG T.aO (ai T 8 10) (ai T 8 1)) (bH T.aG T.aP (ai T 9 10) (ai T 9 1)) rfl))
 | iff n val f o l r=>exact Or.inr (Or.inr (no (D:=a) T.aI ⟨_,_,h1⟩ (bH T.aI T.aO (ai T 8 12) (ai T 8 1)) (bH T.aI T.aP (ai T 9 12) (ai T 9 1)) rfl))
 | loop n t m b l r=>exact Or.inr (Or.inr (no (D:=a) T.ax ⟨_,_,h1⟩ (bH T.ax T.aO (ai T 8 13) (ai T 8 1)) (bH T.ax T.aP (ai T 9 13) (ai T 9 1)) rfl))
abbrev BIG:Int:=1000000
def After (A:Adr) (E:En) (H:Hp) (r:Ra) (k:S) (v:V) (Q:VK):Prop:=∀H',Go (r.M E) H (r.M E) H'->bq A E H' r k->Q v H'
def rq (A:Adr) (E:En) (f:Nat):Sp:=fun vs H Q _=>∃(r:Ra) (k:S) (v:V) (rw:Rw),vs=[.ref r.s,v]/\bq A E H r k/\bO A E (del (r.M E) H) f v rw/\Wf E f rw/\k.room BIG (aJ E f rw)/\After A E H r (doR E f k rw).1 (.bl (doR E f k rw).2) Q
def lW (A:Adr) (E:En) (f:Nat):Sp:=fun vs H Q _=>∃(r:Ra) (k:S) (q:Addr) (xs:List V) (rows:List Rw),vs=[.ref r.s,.ref q]/\bq A E H r k/\del (r.M E) H q=some (.lst xs)/\Paired (bO A E (del (r.M E) H) f) xs rows/\(∀rw ∈ rows,Wf E f rw)/\k.room BIG ((rows.map (aJ E f)).sum)/\After A E H r (br (doR E f) k rows).1 (.bl (br (doR E f) k rows).2) Q
def iO (A:Adr) (E:En):Nat->Sp
 | 0=>fun _ _ _ _=>False
 | f + 1=>lW A E f
def j8 (A:Adr) (E:En) (P:Rw->Prop) (G:Nat->S->Rw->S × V):Nat->Sp
 | 0=>fun _ _ _ _=>False
 | f + 1=>fun vs H Q _=>∃(r:Ra) (k:S) (a:Addr) (rw:Rw),P rw/\vs=[.ref r.s,.ref a]/\bq A E H r k/\bO A E (del (r.M E) H) (f + 1) (.ref a) rw/\Wf E (f + 1) rw/\k.room BIG (aJ E (f + 1) rw - 1)/\After A E H r (G f k rw).1 (G f k rw).2 Q
def AI:Rw->Prop
 | .iff _ _ _ _ _ _=>True
 | _=>False
def tT:Rw->Prop
 | .loop _ _ _ _ _ _=>True
 | _=>False
def w9:Rw->Prop
 | .call _ _ _=>True
 | _=>False
def gIf (E:En) (d:Nat) (s:S):Rw->S × V
 | .iff _ v f o l r=>if v.num s ≠ 0 then ((br (doR E d) s f).1.idle l,.bl (br (doR E d) s f).2) else ((br (doR E d) s o).1.idle r,.bl (br (doR E d) s o).2)
 | _=>(s,.non)
def sG (E:En) (d:Nat) (s:S):Rw->S × V
 | .loop _ t m b l r=>((rounds (fun s=>br (doR E d) s b) l (want s t m).toNat 0 s).1.idle (r * (m - (rounds (fun s=>br (doR E d) s b) l (want s t m).toNat 0 s).2)),.non)
 | _=>(s,.non)
def oz (E:En) (d:Nat) (s:S):Rw->S × V
 | .call _ i ts=>match E.ds[i]? with
  | some D=>((br (doR E d) (s.qK (D.parts.zip (ts.map (Th.num s)))) D.body).1,.non)
  | none=>(s,.non)
 | _=>(s,.non)
theorem uv {f:S->Rw->S × Bool}{p:S × Bool}{xs:List Rw}{i:Nat}{x:Rw} (h:xs[i]?=some x):(xs.take (i + 1)).foldl (step f) p=step f ((xs.take i).foldl (step f) p) x:=iA _ _ h
theorem j3 {α:Type}{xs:List α}{i:Nat}{x:α} (h:xs[i]?=some x):xs.drop i=x :: xs.drop (i + 1):=by
 obtain ⟨hi,e⟩:=List.getElem?_eq_some_iff.mp h
 rw [List.drop_eq_getElem_cons hi,e]
theorem sL {j f:Nat} (T:Txt K mg A) (D:di P w K mg base j A.Run "do_row" ["self","row"] (rq A E f)):di P w K mg base (j + 1) A.Run "do_rows" ["self","rows"] (lW A E f):=by
 have D_do_row:=D
 refine T.hU.has (k:=j) dI (fun vs H Q E h=>?_) (fun f' cdv A' outer s' H vs Q E' hr hu h=>?_)
 ·obtain ⟨r,k,q,xs,rows,rfl,_⟩:=h
  rfl
 ·obtain ⟨r,k,q,xs,rows,rfl,R,hq,pr,wf,rm,g⟩:=h
  refine ⟨_,(ab (aE (i:=2) dI.nd rfl (Or.inl rfl) kZ)
  (ab (dD PassesOwn.never rfl (eu (fv 1)) (pgn (i:=3) dI.nd rfl)
   (ag (aS (b9 (bB (hj:=by omega) (fv 0) T.bV.cl D_do_row hr (aa (fv 3) af)) (fun _=>rfl))
    (ag (aE (i:=2) dI.nd rfl (Or.inl rfl) kZ))
    aL)))
  (ag (az (fv 2))))),?_⟩
  refine Or.inl ⟨⟨_,SqL.of (aw _ _ hq)⟩,dO (K:=K) (xs:=xs) (fun i σ H2=>Go (r.M E) H (r.M E) H2/\bq A E H2 r ((rows.take i).foldl (step (doR E f)) (k,false)).1/\((rows.take i).foldl (step (doR E f)) (k,false)).1.room BIG (((rows.drop i).map (aJ E f)).sum) /\
   ∃v,σ=[some (.ref r.s),some (.ref q),some (.bl ((rows.take i).foldl (step (doR E f)) (k,false)).2),v]) ⟨Go.refl _ _,R,rm,none,rfl⟩ (fun i σ H2 _ h=>SqL.of (aw _ _ (h.1.same _ _ hq))) ?_ ?_⟩
  ·rintro i v σ H2 hx ⟨g2,R2,rm2,z,rfl⟩
   obtain ⟨rw,hrw,W⟩:=bW pr hx
   rw [uv hrw]
   rw [j3 hrw,List.map_cons,List.sum_cons] at rm2
   generalize (rows.take i).foldl (step (doR E f)) (k,false)=p at R2 rm2 ⊢
   have wr:=wf rw (List.mem_of_getElem? hrw)
   have nn:=ud E (d:=f) (xs:=rows.drop (i + 1)) fun q hq=>wf q (List.mem_of_mem_drop hq)
   refine ⟨r.s,r.ds,_,rfl,R2.s,rfl,r,p.1,v,rw,rfl,R2,W.same g2.same,wr,rm2.le (by omega),fun H3 g3 R3=>⟨_,rfl,?_⟩⟩
   have rm3:=nM E f p.1 rw _ wr rm2
   show if (doR E f p.1 rw).2=true then _ else _
   unfold step
   cases hb:(doR E f p.1 rw).2 with
   | true =>
    refine cy ⟨g2.trans g3,R3,rm3,some v,?_⟩
    rw [Bool.or_true]
    rfl
   | false =>
    refine aY ⟨g2.trans g3,R3,rm3,some v,?_⟩
    rw [Bool.or_false]
    rfl
  ·rintro σ H2 ⟨g2,R2,rm2,z,rfl⟩
   have hl:xs.length=rows.length:=Paired.length pr
   rw [hl,List.take_length] at R2 ⊢
   exact g H2 g2 R2
theorem qx (k:S) (n:Int) (v:V):Th.num (k.tell n v)=Th.num k:=by
 funext a
 cases a <;> rfl
theorem kY (k:S) (n:Int) (v:V) (val:Val):val.num (k.tell n v)=val.num k:=by
 cases val with
 | one a=>cases a <;> rfl
 | op a w b=>cases a <;> cases b <;> rfl
 | atl x b=>cases b <;> rfl
theorem wG (k:S) (n:Int) (rw:Rw):rw.told (k.idle n)=rw.told k:=by
 have e:∀val:Val,val.num (k.idle n)=val.num k:=fun val=>by
  cases val with
  | one a=>cases a <;> rfl
  | op a w b=>cases a <;> cases b <;> rfl
  | atl x b=>cases b <;> rfl
 cases rw <;> first | rfl | exact congrArg V.int (e _)
theorem uC {n:Nat}{B s:Int} (h:(n:Int) <= s) (h2:s + 1 <= B) (h3:B <= 1000000):n < sizeLine:=by
 have:sizeLine ≥ 1000001:=by decide
 omega
end
section
variable {P:Program}{w:World}{K:W.Frag}{mg:Str->Option Value}{base:Heap}{A:Adr}{E:En}
theorem AD {j:Nat} (hj:3 <= j) (T:Txt K mg A) (O:E.Ok):∀{n:Nat},di P w K mg base j A.Run "do_rows" ["self","rows"] (iO A E n)->di P w K mg base (j + 1) A.Run "do_if" ["self","row"] (j8 A E AI (gIf E) n)
 | 0,_=>T.jv.has (k:=j) fV (fun _ _ _ _ h=>h.elim) (fun _ _ _ _ _ _ _ _ _ _ _ h=>h.elim)
 | d + 1,D=>by
  have D_do_rows:=D
  have D_number_for:=u5 (P:=P) (w:=w) (base:=base) T O
  have D_pass_steps:=sS (P:=P) (w:=w) (base:=base) (E:=E) T
  refine T.jv.has (k:=j) fV (fun vs H Q E h=>?_) (fun f cdv A' outer s' H vs Q E' hr hu h=>?_)
  ·obtain ⟨r,k,a,rw,_,rfl,_⟩:=h
   rfl
  ·obtain ⟨r,k,a,rw,hP,rfl,R,W,wf,rm,g⟩:=h
   cases rw with
   | iff n val fs os l r0 =>
    obtain ⟨a',dx,p,pf,po,xf,xo,ea,ha,hp,hf,ho,r1,r2⟩:=W
    cases ea
    obtain ⟨vo,l0,r00,wf1,wf2⟩:=wf
    have s0:ah (del (r.M E) H) H:=aw
    unfold aJ at rm
    refine ⟨_,(ab (aS (ay (pq hu) (bB (hj:=by omega) (fv 0) T.bV.cl D_number_for hr (aa (aA (fv 1) rfl) af)) ae (aC _))
   (ab (aE (i:=2) fV.nd rfl (Or.inl rfl) (bB (hj:=by omega) (fv 0) T.bV.cl D_do_rows hr (aa (aA (fv 1) rfl) af)))
   (ag (aU (bB (hj:=by omega) (fv 0) T.bV.cl D_pass_steps hr (aa (aA (fv 1) rfl) af)))))
   (ab (aE (i:=2) fV.nd rfl (Or.inl rfl) (bB (hj:=by omega) (fv 0) T.bV.cl D_do_rows hr (aa (aA (fv 1) rfl) af)))
   (ag (aU (bB (hj:=by omega) (fv 0) T.bV.cl D_pass_steps hr (aa (aA (fv 1) rfl) af))))))
  (ag (az (fv 2)))),?_⟩
    refine ⟨r.s,r.ds,_,rfl,R.s,rfl,a,_,dx,_,_,rfl,s0 _ _ ha,T.aI.cl,T.hJ,rfl,r,k,p,val,rfl,R,s0 _ _ hp,vo,rfl,_,rfl,?_⟩
    have b1:(fs.map (aJ E d)).sum <= 1 + (if l + (fs.map (aJ E d)).sum < r0 + (os.map (aJ E d)).sum then r0 + (os.map (aJ E d)).sum else l + (fs.map (aJ E d)).sum) - 1:=by split <;> omega
    have b2:(os.map (aJ E d)).sum <= 1 + (if l + (fs.map (aJ E d)).sum < r0 + (os.map (aJ E d)).sum then r0 + (os.map (aJ E d)).sum else l + (fs.map (aJ E d)).sum) - 1:=by split <;> omega
    unfold gIf at g
    dsimp only at g
    by_cases c:val.num k=0
    ·rw [show (!decide (V.int (val.num k)=V.int 0))=false by rw [j9,c];rfl]
     refine aY ?_
     rw [if_neg (fun z=>z c)] at g
     refine ⟨r.s,r.ds,_,rfl,R.s,rfl,a,_,dx,_,_,rfl,s0 _ _ ha,T.aI.cl,T.eI,rfl,r,k,po,xo,os,rfl,R,ho,r2,wf2,rm.le b2,fun H2 g2 R2=>?_⟩
     have ha2:=aw _ _ (g2.same _ _ ha)
     exact ⟨r.s,r.ds,_,rfl,R2.s,rfl,a,_,dx,_,_,rfl,ha2,T.aI.cl,T.eE,rfl,r,r0,_,rfl,R2,fun H3 g3 R3=>g H3 (g2.trans g3) R3⟩
    ·rw [show (!decide (V.int (val.num k)=V.int 0))=true by rw [j9,decide_eq_false c];rfl]
     refine cy ?_
     rw [if_pos c] at g
     refine ⟨r.s,r.ds,_,rfl,R.s,rfl,a,_,dx,_,_,rfl,s0 _ _ ha,T.aI.cl,T.eB,rfl,r,k,pf,xf,fs,rfl,R,hf,r1,wf1,rm.le b1,fun H2 g2 R2=>?_⟩
     have ha2:=aw _ _ (g2.same _ _ ha)
     exact ⟨r.s,r.ds,_,rfl,R2.s,rfl,a,_,dx,_,_,rfl,ha2,T.aI.cl,T.dZ,rfl,r,l,_,rfl,R2,fun H3 g3 R3=>g H3 (g2.trans g3) R3⟩
   | _=>exact (show False from hP).elim
theorem tm {i i':Nat}{v v':V}{t u:TS}{D:Ends}{σ:St}{H:Hp} (h:∀N:St->Hp->Prop,(∀σ H,u D σ H->N σ H)->t { D with nx:=N } ((σ.set i (some v)).set i' (some v')) H):jc i v σ H (rK (zM (tC v') (jc i')) (rK t u) D):=h (u D) fun _ _ z=>z
theorem l8 (body:S->S × Bool) (l:Int):∀(n j:Nat) (s:S),j <= (rounds body l n j s).2/\(rounds body l n j s).2 <= n + j
 | 0,j,s=>by simp [rounds]
 | n + 1,j,s=>by
  simp only [rounds]
  split
  ·simp;omega
  ·have:=l8 body l n (j + 1) ((body s).1.idle l)
   omega
theorem yp {j:Nat} (hj:3 <= j) (T:Txt K mg A) (O:E.Ok):∀{n:Nat},di P w K mg base j A.Run "do_rows" ["self","rows"] (iO A E n)->di P w K mg base (j + 1) A.Run "do_loop" ["self","row"] (j8 A E tT (sG E) n)
 | 0,_=>T.hW.has (k:=j) df (fun _ _ _ _ h=>h.elim) (fun _ _ _ _ _ _ _ _ _ _ _ h=>h.elim)
 | d + 1,D=>by
  have D_do_rows:=D
  have D_number_at:=zK (P:=P) (w:=w) (base:=base) T O
  have D_pass_steps:=sS (P:=P) (w:=w) (base:=base) (E:=E) T
  refine T.hW.has (k:=j) df (fun vs H Q E h=>?_) (fun f cdv A' outer s' H vs Q E' hr hu h=>?_)
  ·obtain ⟨r,k,a,rw,_,rfl,_⟩:=h
   rfl
  ·obtain ⟨r,k,a,rw,hP,rfl,R,W,wf,rm,g⟩:=h
   cases rw with
   | loop n th m b l r0 =>
    obtain ⟨a',dx,q,xs,ea,ha,hq,pr⟩:=W
    cases ea
    obtain ⟨to,m0,m1,l0,r00,wfb⟩:=wf
    unfold aJ at rm
    have c0:=ud E wfb
    have lr:(m * (l + (b.map (aJ E d)).sum)) <= 1 + m * (if l + (b.map (aJ E d)).sum < r0 then r0 else l + (b.map (aJ E d)).sum) - 1:=by
     have:m * (l + (b.map (aJ E d)).sum) <= m * (if l + (b.map (aJ E d)).sum < r0 then r0 else l + (b.map (aJ E d)).sum):=Int.mul_le_mul_of_nonneg_left (by split <;> omega) m0
     omega
    have rm1:=rm.le lr
    have s0:ah (del (r.M E) H) H:=aw
    refine ⟨_,(ab (aE (i:=2) df.nd rfl (Or.inl rfl) (aN Cm rfl T.ve (by boot_by_name) (aa (bB (hj:=by omega) (fv 0) T.bV.cl D_number_at hr (aa (aA (fv 1) rfl) af)) (aa (aA (fv 1) rfl) af))))
  (ab (aE (i:=3) df.nd rfl (Or.inl rfl) ae)
  (ab (sy PassesOwn.never (ay (Bg) (fv 3) (fv 2) (aC _))
   (ab (yj (i:=3) df.nd rfl (by first | exact Or.inl rfl | exact Or.inr rfl) ae ye)
   (ab (aE (i:=4) df.nd rfl (Or.inl rfl) (bB (hj:=by omega) (fv 0) T.bV.cl D_do_rows hr (aa (aA (fv 1) rfl) af)))
   (ab (aU (bB (hj:=by omega) (fv 0) T.bV.cl D_pass_steps hr (aa (aA (fv 1) rfl) af)))
   (ag (aS (b9 (fv 4) (fun _=>rfl))
    (ag (rh))
    aL))))))
  (ag (aU (bB (hj:=by omega) (fv 0) T.bV.cl D_pass_steps hr (aa (av eZ (aA (fv 1) rfl) (av mJ (aA (fv 1) rfl) (fv 3))) af))))))),?_⟩
    refine ⟨r.s,r.ds,_,rfl,R.s,rfl,a,_,dx,_,_,rfl,s0 _ _ ha,T.ax.cl,T.fN,rfl,r,k,th,rfl,R,to,?_⟩
    refine ⟨a,_,dx,_,_,rfl,s0 _ _ ha,T.ax.cl,T.dh,rfl,_,_,rfl,?_⟩
    dsimp only
    refine tm fun N KN=>?_
    have wn:=yL R.ok to m0
    have wm:=qp k th m
    have ew:(if m < th.num k then m else th.num k)=want k th m:=rfl
    rw [ew]
    have gdef:sG E d k (.loop n th m b l r0)=((rounds (fun s=>br (doR E d) s b) l (want k th m).toNat 0 k).1.idle (r0 * (m - (rounds (fun s=>br (doR E d) s b) l (want k th m).toNat 0 k).2)),.non):=rfl
    rw [gdef] at g
    have rl:=l8 (fun s=>br (doR E d) s b) l (want k th m).toNat 0 k
    generalize hX:rounds (fun s=>br (doR E d) s b) l (want k th m).toNat 0 k=X at g rl
    generalize want k th m=wt at wn wm hX rl ⊢
    have tail:∀(kk:S) (jj:Nat) (v4:Option V) (Hx:Hp),Go (r.M E) H (r.M E) Hx->bq A E Hx r kk->X=(kk,jj)->N [some (.ref r.s),some (.ref a),some (.int wt),some (.int (jj:Int)),v4] Hx:=by
     intro kk jj v4 Hx gx Rx ex
     refine KN _ _ ?_
     rw [ex] at rl g
     dsimp only at rl
     have hax:=aw _ _ (gx.same _ _ ha)
     refine ⟨r.s,r.ds,_,rfl,Rx.s,rfl,a,_,dx,_,_,rfl,hax,T.ax.cl,T.cQ,rfl,a,_,dx,_,_,rfl,hax,T.ax.cl,T.dh,rfl,.inr ⟨by omega,by omega⟩,?_⟩
     exact ⟨r,_,kk,rfl,Rx,fun H3 g3 R3=>g H3 (gx.trans g3) R3⟩
    refine ⟨fun mm σ Hx=>∃(jj:Nat) (kj:S) (v4:Option V),mm + jj=wt.toNat/\σ=[some (.ref r.s),some (.ref a),some (.int wt),some (.int (jj:Int)),v4]/\Go (r.M E) H (r.M E) Hx/\bq A E Hx r kj/\kj.room BIG ((mm:Int) * (l + (b.map (aJ E d)).sum))/\rounds (fun s=>br (doR E d) s b) l mm jj kj=X,
     ⟨_,0,k,none,Nat.add_zero _,rfl,Go.refl _ _,R,rm1.le (Int.mul_le_mul_of_nonneg_right (by omega) (by omega)),hX⟩,?_⟩
    rintro mm σ Hx ⟨jj,kj,v4,hmm,rfl,gx,Rx,rmx,ex⟩
    refine ⟨_,rfl,aW (fun c=>?_) (fun c=>?_)⟩
    ·have hc:(jj:Int) < wt:=of_decide_eq_true c
     obtain ⟨m',rfl⟩:∃m',mm=m' + 1:=⟨mm - 1,by omega⟩
     have em:((m' + 1:Nat):Int) * (l + (b.map (aJ E d)).sum)=(m':Int) * (l + (b.map (aJ E d)).sum) + (l + (b.map (aJ E d)).sum):=by rw [Int.natCast_succ,Int.add_mul,Int.one_mul]
     rw [em] at rmx
     have m0':0 <= (m':Int) * (l + (b.map (aJ E d)).sum):=Int.mul_nonneg (by omega) (by omega)
     refine ⟨fun σ' H'=>∃(jj:Nat) (kj:S) (v4:Option V),m' + jj=wt.toNat/\σ'=[some (.ref r.s),some (.ref a),some (.int wt),some (.int (jj:Int)),v4]/\Go (r.M E) H (r.M E) H'/\bq A E H' r kj/\kj.room BIG ((m':Int) * (l + (b.map (aJ E d)).sum))/\rounds (fun s=>br (doR E d) s b) l m' jj kj=X,fun σ' H' h'=>⟨m',Nat.lt_succ_self _,h'⟩,?_⟩
     refine ⟨_,rfl,_,_,rfl,rfl,?_⟩
     have hax:=aw _ _ (gx.same _ _ ha)
     refine ⟨r.s,r.ds,_,rfl,Rx.s,rfl,a,_,dx,_,_,rfl,hax,T.ax.cl,T.dN,rfl,r,kj,q,xs,b,rfl,Rx,gx.same _ _ hq,Paired.cF pr (fun _ _=>bO.same gx.same),wfb,rmx.le (by omega),fun H2 g2 R2=>?_⟩
     have g02:=gx.trans g2
     have ha2:=aw _ _ (g02.same _ _ ha)
     refine ⟨r.s,r.ds,_,rfl,R2.s,rfl,a,_,dx,_,_,rfl,ha2,T.ax.cl,T.dP,rfl,r,l,_,rfl,R2,fun H3 g3 R3=>?_⟩
     have g03:=g02.trans g3
     have rm3:((br (doR E d) kj b).1.idle l).room BIG ((m':Int) * (l + (b.map (aJ E d)).sum)):=iE (j6 (E:=E) (p:=Wf E d) (fun s r n w h=>nM E d s r n w h) b (kj,false) _ wfb (rmx.le (by omega))) l0
     simp only [rounds] at ex
     refine ⟨_,rfl,?_⟩
     cases hb:(br (doR E d) kj b).2 with
     | true =>
      refine cy ?_
      rw [hb,if_pos rfl] at ex
      exact tail _ (jj + 1) _ H3 g03 R3 ex.symm
     | false =>
      refine aY ?_
      rw [hb,if_neg Bool.false_ne_true] at ex
      exact ⟨jj + 1,_,_,by omega,rfl,g03,R3,rm3,ex⟩
    ·have hc:¬ (jj:Int) < wt:=fun z=>c (decide_eq_true z)
     obtain rfl:mm=0:=by omega
     exact tail kj jj v4 Hx gx Rx ex.symm
   | _=>exact (show False from hP).elim
end
section
variable {P:Program}{w:World}{K:W.Frag}{mg:Str->Option Value}{base:Heap}{A:Adr}{E:En}
theorem Dk {i:Nat}{v:V}{σ:St}{H:Hp}{G:List V->Hp->Prop} (hv:∀Q:V->Hp->Prop,Q v H->zQ i σ H Q) (h:G [v] H):Ak (zQ i) yT σ H G:=hv _ h
theorem v9 {k:S}{xs:List (Nat × Int)}{i:Nat}{p:Nat × Int} (h:xs[i]?=some p):k.qK (xs.take (i + 1))=(k.qK (xs.take i)).put p.1 p.2:=iA _ _ h
theorem yA {j:Nat} (hj:3 <= j) (T:Txt K mg A) (O:E.Ok):∀{n:Nat},di P w K mg base j A.Run "do_rows" ["self","rows"] (iO A E n)->di P w K mg base (j + 1) A.Run "do_call" ["self","row"] (j8 A E w9 (oz E) n)
 | 0,_=>T.gP.has (k:=j) c8 (fun _ _ _ _ h=>h.elim) (fun _ _ _ _ _ _ _ _ _ _ _ h=>h.elim)
 | d + 1,D=>by
  have D_do_rows:=D
  have D_number_at:=zK (P:=P) (w:=w) (base:=base) T O
  refine T.gP.has (k:=j) c8 (fun vs H Q E h=>?_) (fun f' cdv A' outer s' H vs Q E' hr hu h=>?_)
  ·obtain ⟨r,k,a,rw,_,rfl,_⟩:=h
   rfl
  ·obtain ⟨r,k,a,rw,hP,rfl,R,W,wf,rm,g⟩:=h
   cases rw with
   | call n i ts =>
    obtain ⟨a',dx,p,D,ea,hD,ha,hp,b,bx,bn,pp,pb,bs,hdv,hb,hpp,hpb,W⟩:=W
    cases ea
    obtain ⟨to,tl4,D',hD',pl,wb⟩:=wf
    rw [hD] at hD'
    cases hD'
    unfold aJ at rm
    unfold oz at g
    rw [hD] at rm
    dsimp only at g rm
    rw [hD] at g
    dsimp only at g
    have s0:ah (del (r.M E) H) H:=aw
    refine ⟨_,(ab (aE (i:=2) c8.nd rfl (Or.inl rfl) (px hu (aA (fv 0) rfl) (aA (fv 1) rfl)))
  (ab (oY (j:=3) (N:=["thing","self"]) (own:=1) (fr:=[0]) (dC.of (by kernel_rfl!)) rfl c8.nd rfl (Or.inl rfl) (eu (aA (fv 1) rfl)) (fun b=>pgn (i:=0) (show List.Nodup (["thing","self"]:List PySem.Str) by decide +kernel) rfl) (fun b=>kD) (fun b=>bB (hj:=by omega) (fv 1) T.bV.cl D_number_at hr (aa (fv 0) af)))
  (ab (dD PassesOwn.never rfl (AK rfl T.vt (aa (aA (fv 2) rfl) (aa (fv 3) af))) (ux rfl (fF (pgn (i:=4) c8.nd rfl) (fF (pgn (i:=5) c8.nd rfl) qw)))
   (ag (bN (fv 5) (bR (aA (fv 0) rfl) (fv 4) (bS hu set_list)))))
  (ag (aU (bB (hj:=by omega) (fv 0) T.bV.cl D_do_rows hr (aa (aA (fv 2) rfl) af))))))),?_⟩
    refine aF fun M1 K1=>?_
    refine ⟨r.s,_,r.ds,_,_,rfl,R.s,T.bV.cl,T.gJ,rfl,a,_,dx,_,_,rfl,s0 _ _ ha,T.aG.cl,T.dU,rfl,_,R.Dr O hD hdv,K1 _ _ ?_⟩
    refine aF fun M2 K2=>?_
    refine ⟨a,_,dx,_,_,rfl,s0 _ _ ha,T.aG.cl,T.ft,rfl,Or.inl ⟨⟨_,SqL.of (s0 _ _ hp)⟩,?_⟩⟩
    refine sk (K:=K) (fun i y _=>∀t,ts[i]?=some t->y=.int (t.num k)) (SqL.of (s0 _ _ hp)) (aR (by rw [List.length_map];omega)) (fun b' i x H2 G hx s2 kk=>?_) (fun _ _ _ _ _ h=>h) (fun _ _ _ _ _ _ _ h=>h) (fun nl H2 ys hnl s2 e2 yl hy=>?_)
    ·rw [List.getElem?_map] at hx
     cases ht:ts[i]? with
     | none=>rw [ht] at hx;cases hx
     | some t =>
      rw [ht] at hx
      cases hx
      have R2:=R.same s2
      exact ⟨r.s,r.ds,_,rfl,R2.s,rfl,r,k,t,rfl,R2,to t (List.mem_of_getElem? ht),kk _ _ (ah.refl _) fun t' h'=>by rw [ht] at h';cases h';rfl⟩
    have ey:ys=(ts.map (Th.num k)).map V.int:=by
     refine List.ext_getElem? fun i=>?_
     rw [List.length_map] at yl
     rw [List.getElem?_map,List.getElem?_map]
     cases h1:ts[i]? with
     | none =>
      have:ts.length <= i:=List.getElem?_eq_none_iff.mp h1
      exact List.getElem?_eq_none (by omega)
     | some t =>
      have lt:i < ys.length:=by have:=(List.getElem?_eq_some_iff.mp h1).1;omega
      rw [List.getElem?_eq_getElem lt,hy i _ (List.getElem?_eq_getElem lt) t h1]
      rfl
    subst ey
    refine K2 _ _ ?_
    refine aF fun M3 K3=>?_
    have g2:Go (r.M E) H (r.M E) H2:=Go.new s2
    have nlM:=R.free hnl
    refine ⟨b,_,bx,_,_,rfl,aw _ _ (g2.same _ _ hb),T.cq.cl,T.eM,rfl,_,_,rfl,⟨_,SqL.of (aw _ _ (g2.same _ _ hpp))⟩,⟨_,SqL.of e2⟩,?_⟩
    refine zw (K:=K) (xs:=D.parts.map fun i=>V.str (E.N i)) (ys:=(ts.map (Th.num k)).map V.int) (fun i σ H3=>Go (r.M E) H (r.M E) H3/\bq A E H3 r (k.qK ((D.parts.zip (ts.map (Th.num k))).take i))/\H3 nl=some (.lst ((ts.map (Th.num k)).map V.int))/\∃z4 z5,σ=[some (.ref r.s),some (.ref a),some (.ref b),some (.ref nl),z4,z5]) ⟨g2,R.same s2,e2,none,none,rfl⟩ (fun i σ H3 _ h=>⟨SqL.of (aw _ _ (h.1.same _ _ hpp)),SqL.of h.2.2.1⟩) (by rw [List.length_map,List.length_map,List.length_map];exact pl) ?_ ?_
    ·rintro i x y σ H3 tp hx hy ⟨g3,R3,e3,z4,z5,rfl⟩ htp
     rw [List.getElem?_map] at hx hy
     cases hpi:D.parts[i]? with
     | none=>rw [hpi] at hx;cases hx
     | some q =>
     cases hvi:(ts.map (Th.num k))[i]? with
     | none=>rw [hvi] at hy;cases hy
     | some u =>
     rw [hpi] at hx
     rw [hvi] at hy
     cases hx
     cases hy
     have zi:(D.parts.zip (ts.map (Th.num k)))[i]?=some (q,u):=by
      rw [List.getElem?_zip_eq_some]
      exact ⟨hpi,hvi⟩
     have ui:In u:=by
      have:=List.mem_of_getElem? hvi
      obtain ⟨t,ht,rfl⟩:=List.mem_map.mp this
      exact Th.eQ R.ok (to t ht)
     rw [v9 zi]
     generalize k.qK ((D.parts.zip (ts.map (Th.num k))).take i)=k3 at R3 ⊢
     obtain ⟨s4,e4⟩:=alc htp (HO.tup [V.str (E.N q),.int u])
     generalize upd H3 tp _=H4 at s4 e4 ⊢
     have R4:=R3.same s4
     refine ⟨tp,_,rfl,SqT.of e4,rfl,_,_,rfl,_,_,rfl,rfl,?_⟩
     obtain ⟨x1,x2⟩:=O.pt D (List.mem_of_getElem? hD) q (List.mem_of_getElem? hpi)
     refine ⟨r.s,_,r.ds,_,_,rfl,R4.s,T.bV.cl,T.cW,rfl,_,du.k (k:=.inr (E.N q)) R4.hc (aR (by rw [gE];have:=O.len;omega)),?_⟩
     exact ⟨(g3.trans (Go.new s4)).trans (Go.at (r.inM E).2.1 _),R4.put O x1 x2 ui,aj (fun z=>nlM (z ▸ (r.inM E).2.1)) (s4 _ _ e3),_,_,rfl⟩
    ·rintro σ H3 ⟨g3,R3,e3,z4,z5,rfl⟩
     have full:(D.parts.zip (ts.map (Th.num k))).take (D.parts.map fun i=>V.str (E.N i)).length=D.parts.zip (ts.map (Th.num k)):=List.take_of_length_le (by simp only [List.length_zip,List.length_map];exact Nat.min_le_left _ _)
     rw [full] at R3
     refine K3 _ _ ?_
     have hb3:=aw _ _ (g3.same _ _ hb)
     exact ⟨r.s,r.ds,_,rfl,R3.s,rfl,b,_,bx,_,_,rfl,hb3,T.cq.cl,T.dR,rfl,r,_,pb,bs,D.body,rfl,R3,g3.same _ _ hpb,Paired.cF W (fun _ _=>bO.same g3.same),wb,pP (rm.le (by omega)) _,fun H4 g4 R4=>g H4 (g3.trans g4) R4⟩
   | _=>exact (show False from hP).elim
theorem yN {j d:Nat} (hj:4 <= j) (T:Txt K mg A) (O:E.Ok) (D1:di P w K mg base j A.Run "do_if" ["self","row"] (j8 A E AI (gIf E) d)) (D2:di P w K mg base j A.Run "do_loop" ["self","row"] (j8 A E tT (sG E) d)) (D3:di P w K mg base j A.Run "do_call" ["self","row"] (j8 A E w9 (oz E) d)) :
  di P w K mg base (j + 1) A.Run "do_row" ["self","row"] (rq A E d):=by
 have D_do_if:=D1
 have D_do_loop:=D2
 have D_do_call:=D3
 have D_number_told:=AV (P:=P) (w:=w) (base:=base) T O
 have D_number_for:=u5 (P:=P) (w:=w) (base:=base) T O
 have D_do_put:=yI (P:=P) (w:=w) (base:=base) T O
 have D_pass_steps:=sS (P:=P) (w:=w) (base:=base) (E:=E) T
 refine T.lh.has (k:=j) iq (fun vs H Q E h=>?_) (fun f cdv A' outer s' H vs Q E' hr hu h=>?_)
 ·obtain ⟨r,k,v,rw,rfl,_⟩:=h
  rfl
 ·obtain ⟨r,k,v,rw,rfl,R,W,wf,rm,g⟩:=h
  have rm1:=rm.le (pR E d rw wf)
  refine ⟨_,(ab (aU (bB (hj:=by omega) (fv 0) T.bV.cl D_pass_steps hr (aa ae af)))
  (ab (aE (i:=2) iq.nd rfl (Or.inl rfl) (aA (fv 0) rfl))
  (ab (aE (i:=3) iq.nd rfl (Or.inl rfl) (bB (hj:=by omega) (fv 0) T.bV.cl D_number_told hr (aa (fv 1) af)))
  (ab (aU (b8 (aA (fv 2) rfl) (aa (cB (aa (aA (fv 1) rfl) (aa (aA (fv 2) rfl) (aa (fv 3) af)))) af)))
  (ab (aS (b9 (aN bA rfl T.aH (by boot_by_name) (aa (fv 1) (aa (cI T.bu.mg) af))) (fun _=>rfl))
   (ag (bN (bB (hj:=by omega) (fv 0) T.bV.cl D_number_for hr (aa (aA (fv 1) rfl) af)) (bR (aA (fv 0) rfl) (aA (fv 1) rfl) (bS hu set_list))))
   (ag (aS (b9 (aN bA rfl T.aH (by boot_by_name) (aa (fv 1) (aa (cI T.bg.mg) af))) (fun _=>rfl))
    (ag (aU (bB (hj:=by omega) (fv 0) T.bV.cl D_do_put hr (aa (fv 1) af))))
    (ag (aS (b9 (aN bA rfl T.aH (by boot_by_name) (aa (fv 1) (aa (cI T.aO.mg) af))) (fun _=>rfl))
     (ag (aU (b8 (aA (fv 2) rfl) (aa (cB (aa (aA (fv 2) rfl) (aa (aA (fv 1) rfl) (aa (aA (fv 1) rfl) (aa (fv 3) af))))) af))))
     (ag (aS (b9 (aN bA rfl T.aH (by boot_by_name) (aa (fv 1) (aa (cI T.aP.mg) af))) (fun _=>rfl))
      (ab (bN (fv 3) (bR (aA (fv 0) rfl) (aA (fv 1) rfl) (bS hu set_list)))
      (ag (aU (b8 (aA (fv 2) rfl) (aa (cB (aa (aA (fv 2) rfl) (aa (aA (fv 1) rfl) (aa (aA (fv 1) rfl) (aa (fv 3) af))))) af)))))
      (ag (aS (b9 (aN bA rfl T.aH (by boot_by_name) (aa (fv 1) (aa (cI T.aG.mg) af))) (fun _=>rfl))
       (ag (aU (bB (hj:=by omega) (fv 0) T.bV.cl D_do_call hr (aa (fv 1) af))))
       (ag (aS (b9 (aN bA rfl T.aH (by boot_by_name) (aa (fv 1) (aa (cI T.aI.mg) af))) (fun _=>rfl))
        (ag (az (bB (hj:=by omega) (fv 0) T.bV.cl D_do_if hr (aa (fv 1) af))))
        (ag (aS (b9 (aN bA rfl T.aH (by boot_by_name) (aa (fv 1) (aa (cI T.ax.mg) af))) (fun _=>rfl))
         (ag (aU (bB (hj:=by omega) (fv 0) T.bV.cl D_do_loop hr (aa (fv 1) af))))
         aL)))))))))))))
  (ag (az (aN bA rfl T.aH (by boot_by_name) (aa (fv 1) (aa (cI T.aQ.mg) af)))))))))),?_⟩
  refine ⟨r.s,r.ds,_,rfl,R.s,rfl,r,1,k,rfl,R,fun H2 g2 R2=>?_⟩
  refine ⟨r.s,_,r.ds,_,_,rfl,R2.s,T.bV.cl,T.f7,rfl,?_⟩
  obtain ⟨a,dx,fs,rfl,ha⟩:=nQ W
  obtain ⟨cl,cn⟩:=Cn T rw
  obtain ⟨ts,ht,tt⟩:=R2.ht
  have tlen:ts.length < sizeLine:=by
   have:=tt.len
   exact uC (n:=ts.length) (B:=BIG) (by rw [this];exact rm1.t) rm1.st (Int.le_refl _)
  refine ⟨r.s,r.ds,_,rfl,R2.s,rfl,?_⟩
  refine Dk (v:=.ref a) (fun _ z=>z) ?_
  dsimp only
  refine zj T (W.same g2.same) wf aw R2 ?_
  rw [wG]
  have ha2:=aw _ _ (g2.same _ _ ha)
  refine ⟨r.b,_,r.db,_,_,rfl,R2.hb,T.c6.cl,T.fQ,rfl,Or.inl ⟨rfl,_,SqL.of ht⟩,a,_,dx,_,_,rfl,ha2,cl,cn,rfl,r.b,_,r.db,_,_,rfl,R2.hb,T.c6.cl,T.cw,rfl,?_⟩
  refine ⟨(show 3 <= sizeLine by decide),fun p3 hp3=>⟨_,_,_,rfl,rfl,ah.upd hp3 _ _ _ ht,tlen,?_⟩⟩
  have R4:bq A E _ r (k.tell rw.no (rw.told k)):=R2.trace (w:=[.int rw.no,.int (k.idle 1).steps,rw.told k]) hp3 ht
  have g4:Go (r.M E) H (r.M E) (upd (upd H2 p3 (HO.tup [.int rw.no,.int (k.idle 1).steps,rw.told k])) r.t (HO.lst (ts ++ [.ref p3]))):=(g2.trans (Go.new (ah.upd hp3 _))).trans (Go.at (r.inM E).2.2.1 _)
  generalize upd (upd H2 p3 (HO.tup [.int rw.no,.int (k.idle 1).steps,rw.told k])) r.t (HO.lst (ts ++ [.ref p3]))=H4 at R4 g4 ⊢
  have W4:=W.same g4.same
  have room4:(k.tell rw.no (rw.told k)).room BIG (aJ E d rw - 1):=fW (rm.le (by omega)) _ _
  cases rw with
  | set n x val =>
   obtain ⟨a',dx,p,ea,ha,hp⟩:∃a' dx p,V.ref a=.ref a'/\del (r.M E) H4 a'=some (.ins A.cb dx [("number",.int n),("name",.str (E.N x)),("value",.ref p)])/\del (r.M E) H4 p=some (.tup (vV E.N val)):=by cases d <;> exact W4
   cases ea
   obtain ⟨x1,x2,vo⟩:x ∈ E.idx/\E.sz x=0/\val.ok E:=by cases d <;> exact wf
   have ha4:=aw _ _ ha
   have eg:doR E d k (.set n x val)=((k.tell n .non).put x (val.num k),false):=by cases d <;> rfl
   rw [eg] at g
   refine ⟨_,_,_,true,rfl,(fun z=>by cases z),T.bu.bK ha4,iT T.bu,true,rfl,cy ?_⟩
   refine ⟨r.s,r.ds,_,rfl,R4.s,rfl,a,_,dx,_,_,rfl,ha4,T.bu.cl,T.gu,rfl,r,k.tell n .non,p,val,rfl,R4,aw _ _ hp,vo,?_⟩
   rw [kY]
   refine ⟨r.s,_,r.ds,_,_,rfl,R4.s,T.bV.cl,T.cW,rfl,a,_,dx,_,_,rfl,ha4,T.bu.cl,T.gT,rfl,_,du.k (k:=.inr (E.N x)) R4.hc (aR (by rw [gE];have:=O.len;omega)),?_⟩
   have g5:=Go.at (H:=H4) (r.inM E).2.1 (HO.dK (putK (dk E.N E.idx (cV E r.la (k.tell n .non).num)) (.inr (E.N x)) (.int (val.num k))))
   have ha5:=aw _ _ (g5.same _ _ ha)
   exact ⟨_,_,_,false,rfl,(fun z=>by cases z),T.bu.bK ha5,(bH T.bu T.aQ (ai T 11 6) (ai T 11 1)),g _ (g4.trans g5) (R4.put O x1 x2 (Val.eQ R.ok vo))⟩
  | put n x pl val =>
   obtain ⟨a',dx,p,ea,ha,hp⟩:∃a' dx p,V.ref a=.ref a'/\del (r.M E) H4 a'=some (.ins A.bP dx [("number",.int n),("name",.str (E.N x)),("place",pl.v E.N),("value",.ref p)])/\del (r.M E) H4 p=some (.tup (vV E.N val)):=by cases d <;> exact W4
   cases ea
   obtain ⟨x1,x2,po,vo⟩:x ∈ E.idx/\0 < E.sz x/\pl.ok E/\val.ok E:=by cases d <;> exact wf
   have ha4:=aw _ _ ha
   have eg:doR E d k (.put n x pl val)=((k.tell n .non).sT x (pl.num k) (val.num k),false):=by cases d <;> rfl
   rw [eg] at g
   refine ⟨_,_,_,false,rfl,(fun z=>by cases z),T.bg.bK ha4,bH T.bg T.bu (ai T 6 7) (ai T 6 1),false,rfl,aY ⟨_,_,_,true,rfl,(fun z=>by cases z),T.bg.bK ha4,iT T.bg,true,rfl,cy ?_⟩⟩
   refine ⟨r.s,r.ds,_,rfl,R4.s,rfl,r,k.tell n .non,_,x,pl,val,a,dx,p,rfl,R4,x1,x2,po,vo,ha4,aw _ _ hp,fun H5 R5 g5=>?_⟩
   rw [kY,qx] at R5
   have ha5:=aw _ _ (g5.same _ _ ha)
   exact ⟨_,_,_,false,rfl,(fun z=>by cases z),T.bg.bK ha5,(bH T.bg T.aQ (ai T 11 7) (ai T 11 1)),g _ (g4.trans g5) R5⟩
  | snd n x val =>
   obtain ⟨a',dx,p,ea,ha,hp⟩:∃a' dx p,V.ref a=.ref a'/\del (r.M E) H4 a'=some (.ins A.bp dx [("number",.int n),("name",.str (E.N x)),("value",.ref p)])/\del (r.M E) H4 p=some (.tup (vV E.N val)):=by cases d <;> exact W4
   cases ea
   have ha4:=aw _ _ ha
   have eg:doR E d k (.snd n x val)=((k.tell n (.int (val.num k))).oV [.int (k.steps + 1),.int n,.str (E.N x),.int (val.num k)],false):=by cases d <;> rfl
   rw [eg] at g
   obtain ⟨ls,hl,tl⟩:=R4.hl
   have llen:ls.length < sizeLine:=by
    have:=tl.len
    exact uC (n:=ls.length) (B:=BIG) (by rw [this];exact rm1.l) rm1.st (Int.le_refl _)
   refine ⟨_,_,_,false,rfl,(fun z=>by cases z),T.aO.bK ha4,bH T.aO T.bu (ai T 6 8) (ai T 6 1),false,rfl,aY ⟨_,_,_,false,rfl,(fun z=>by cases z),T.aO.bK ha4,bH T.aO T.bg (ai T 7 8) (ai T 7 1),false,rfl,aY ⟨_,_,_,true,rfl,(fun z=>by cases z),T.aO.bK ha4,iT T.aO,true,rfl,cy ?_⟩⟩⟩
   refine ⟨r.b,_,r.db,_,_,rfl,R4.hb,T.c6.cl,T.gB,rfl,Or.inl ⟨rfl,_,SqL.of hl⟩,r.b,_,r.db,_,_,rfl,R4.hb,T.c6.cl,T.cw,rfl,a,_,dx,_,_,rfl,ha4,T.aO.cl,T.dY,rfl,a,_,dx,_,_,rfl,ha4,T.aO.cl,T.gA,rfl,?_⟩
   refine ⟨(show 4 <= sizeLine by decide),fun p5 hp5=>⟨_,_,_,rfl,rfl,ah.upd hp5 _ _ _ hl,llen,?_⟩⟩
   have R6:=R4.oV (w:=[.int (k.steps + 1),.int n,.str (E.N x),.int (val.num k)]) hp5 hl
   have g6:Go (r.M E) H4 (r.M E) (upd (upd H4 p5 (HO.tup [.int (k.steps + 1),.int n,.str (E.N x),.int (val.num k)])) r.l (HO.lst (ls ++ [.ref p5]))):=(Go.new (ah.upd hp5 _)).trans (Go.at (r.inM E).2.2.2.1 _)
   have ha6:=aw _ _ (g6.same _ _ ha)
   exact ⟨_,_,_,false,rfl,(fun z=>by cases z),T.aO.bK ha6,(bH T.aO T.aQ (ai T 11 8) (ai T 11 1)),g _ (g4.trans g6) R6⟩
  | say n x val m =>
   obtain ⟨a',dx,p,ea,ha,hp⟩:∃a' dx p,V.ref a=.ref a'/\del (r.M E) H4 a'=some (.ins A.bJ dx [("number",.int n),("name",.str (E.N x)),("value",.ref p),("mark",.str (E.N m))])/\del (r.M E) H4 p=some (.tup (vV E.N val)):=by cases d <;> exact W4
   cases ea
   obtain ⟨x1,x2,vo⟩:x ∈ E.idx/\E.sz x=0/\val.ok E:=by cases d <;> exact wf
   have ha4:=aw _ _ ha
   have eg:doR E d k (.say n x val m)=(((k.tell n (.int (val.num k))).put x (val.num k)).nA [.int (k.steps + 1),.int n,.str (E.N m),.int (val.num k)],false):=by cases d <;> rfl
   rw [eg] at g
   refine ⟨_,_,_,false,rfl,(fun z=>by cases z),T.aP.bK ha4,bH T.aP T.bu (ai T 6 9) (ai T 6 1),false,rfl,aY ⟨_,_,_,false,rfl,(fun z=>by cases z),T.aP.bK ha4,bH T.aP T.bg (ai T 7 9) (ai T 7 1),false,rfl,aY ⟨_,_,_,false,rfl,(fun z=>by cases z),T.aP.bK ha4,bH T.aP T.aO (ai T 8 9) (ai T 8 1),false,rfl,aY ⟨_,_,_,true,rfl,(fun z=>by cases z),T.aP.bK ha4,iT T.aP,true,rfl,cy ?_⟩⟩⟩⟩
   refine ⟨r.s,_,r.ds,_,_,rfl,R4.s,T.bV.cl,T.cW,rfl,a,_,dx,_,_,rfl,ha4,T.aP.cl,T.gQ,rfl,_,du.k (k:=.inr (E.N x)) R4.hc (aR (by rw [gE];have:=O.len;omega)),?_⟩
   have R5:=R4.put O x1 x2 (Val.eQ R.ok vo)
   have g5:=Go.at (H:=H4) (r.inM E).2.1 (HO.dK (putK (dk E.N E.idx (cV E r.la (k.tell n (.int (val.num k))).num)) (.inr (E.N x)) (.int (val.num k))))
   dsimp only [Rw.no,Rw.told] at R5 ⊢
   generalize upd H4 r.c (HO.dK (putK (dk E.N E.idx (cV E r.la (k.tell n (.int (val.num k))).num)) (.inr (E.N x)) (.int (val.num k))))=H5 at R5 g5 ⊢
   have ha5':=g5.same _ _ ha
   have ha5:=aw _ _ ha5'
   obtain ⟨ls,hl,tl⟩:=R5.hd
   have llen:ls.length < sizeLine:=by
    have:=tl.len
    exact uC (n:=ls.length) (B:=BIG) (by rw [this];exact rm1.d) rm1.st (Int.le_refl _)
   refine ⟨r.b,_,r.db,_,_,rfl,R5.hb,T.c6.cl,T.jM,rfl,Or.inl ⟨rfl,_,SqL.of hl⟩,r.b,_,r.db,_,_,rfl,R5.hb,T.c6.cl,T.cw,rfl,a,_,dx,_,_,rfl,ha5,T.aP.cl,T.eN,rfl,a,_,dx,_,_,rfl,ha5,T.aP.cl,T.hZ,rfl,?_⟩
   refine ⟨(show 4 <= sizeLine by decide),fun p5 hp5=>⟨_,_,_,rfl,rfl,ah.upd hp5 _ _ _ hl,llen,?_⟩⟩
   have R6:=R5.nA (w:=[.int (k.steps + 1),.int n,.str (E.N m),.int (val.num k)]) hp5 hl
   have g6:Go (r.M E) H5 (r.M E) (upd (upd H5 p5 (HO.tup [.int (k.steps + 1),.int n,.str (E.N m),.int (val.num k)])) r.sd (HO.lst (ls ++ [.ref p5]))):=(Go.new (ah.upd hp5 _)).trans (Go.at (r.inM E).2.2.2.2.1 _)
   have ha6:=aw _ _ (g6.same _ _ ha5')
   exact ⟨_,_,_,false,rfl,(fun z=>by cases z),T.aP.bK ha6,(bH T.aP T.aQ (ai T 11 9) (ai T 11 1)),g _ ((g4.trans g5).trans g6) R6⟩
  | last n =>
   obtain ⟨a',dx,ea,ha⟩:∃a' dx,V.ref a=.ref a'/\del (r.M E) H4 a'=some (.ins A.cH dx [("number",.int n)]):=by cases d <;> exact W4
   cases ea
   have ha4:=aw _ _ ha
   have eg:doR E d k (.last n)=(k.tell n .non,true):=by cases d <;> rfl
   rw [eg] at g
   refine ⟨_,_,_,false,rfl,(fun z=>by cases z),T.aQ.bK ha4,bH T.aQ T.bu (ai T 6 11) (ai T 6 1),false,rfl,aY ⟨_,_,_,false,rfl,(fun z=>by cases z),T.aQ.bK ha4,bH T.aQ T.bg (ai T 7 11) (ai T 7 1),false,rfl,aY ⟨_,_,_,false,rfl,(fun z=>by cases z),T.aQ.bK ha4,bH T.aQ T.aO (ai T 8 11) (ai T 8 1),false,rfl,aY ⟨_,_,_,false,rfl,(fun z=>by cases z),T.aQ.bK ha4,bH T.aQ T.aP (ai T 9 11) (ai T 9 1),false,rfl,aY ⟨_,_,_,false,rfl,(fun z=>by cases z),T.aQ.bK ha4,bH T.aQ T.aG (ai T 10 11) (ai T 10 1),false,rfl,aY ⟨_,_,_,false,rfl,(fun z=>by cases z),T.aQ.bK ha4,bH T.aQ T.aI (ai T 12 11) (ai T 12 1),false,rfl,aY ⟨_,_,_,false,rfl,(fun z=>by cases z),T.aQ.bK ha4,bH T.aQ T.ax (ai T 13 11) (ai T 13 1),false,rfl,aY ?_⟩⟩⟩⟩⟩⟩⟩
   exact ⟨_,_,_,true,rfl,(fun z=>by cases z),T.aQ.bK ha4,iT T.aQ,g _ g4 R4⟩
  | call n i ts =>
   cases d with
   | zero=>exact (show False from wf).elim
   | succ d =>
   obtain ⟨a',dx,p,D,ea,hD,ha,_⟩:=id W4
   cases ea
   have ha4:=aw _ _ ha
   have eg:doR E (d + 1) k (.call n i ts)=((oz E d (k.tell n .non) (.call n i ts)).1,false):=by
    simp only [doR,oz,hD,qx]
   have e2:(oz E d (k.tell n .non) (.call n i ts)).2=.non:=by simp only [oz,hD]
   rw [eg] at g
   refine ⟨_,_,_,false,rfl,(fun z=>by cases z),T.aG.bK ha4,bH T.aG T.bu (ai T 6 10) (ai T 6 1),false,rfl,aY ⟨_,_,_,false,rfl,(fun z=>by cases z),T.aG.bK ha4,bH T.aG T.bg (ai T 7 10) (ai T 7 1),false,rfl,aY ⟨_,_,_,false,rfl,(fun z=>by cases z),T.aG.bK ha4,bH T.aG T.aO (ai T 8 10) (ai T 8 1),false,rfl,aY ⟨_,_,_,false,rfl,(fun z=>by cases z),T.aG.bK ha4,bH T.aG T.aP (ai T 9 10) (ai T 9 1),false,rfl,aY ⟨_,_,_,true,rfl,(fun z=>by cases z),T.aG.bK ha4,iT T.aG,true,rfl,cy ?_⟩⟩⟩⟩⟩
   refine ⟨r.s,r.ds,_,rfl,R4.s,rfl,r,k.tell n .non,a,.call n i ts,trivial,rfl,R4,W4,wf,room4,?_⟩
   rw [e2]
   intro H5 g5 R5
   have ha5:=aw _ _ (g5.same _ _ ha)
   exact ⟨_,_,_,false,rfl,(fun z=>by cases z),T.aG.bK ha5,(bH T.aG T.aQ (ai T 11 10) (ai T 11 1)),g _ (g4.trans g5) R5⟩
  | iff n val fs os l r0 =>
   cases d with
   | zero=>exact (show False from wf).elim
   | succ d =>
   obtain ⟨a',dx,p,pf,po,xf,xo,ea,ha,_⟩:=id W4
   cases ea
   have ha4:=aw _ _ ha
   refine ⟨_,_,_,false,rfl,(fun z=>by cases z),T.aI.bK ha4,bH T.aI T.bu (ai T 6 12) (ai T 6 1),false,rfl,aY ⟨_,_,_,false,rfl,(fun z=>by cases z),T.aI.bK ha4,bH T.aI T.bg (ai T 7 12) (ai T 7 1),false,rfl,aY ⟨_,_,_,false,rfl,(fun z=>by cases z),T.aI.bK ha4,bH T.aI T.aO (ai T 8 12) (ai T 8 1),false,rfl,aY ⟨_,_,_,false,rfl,(fun z=>by cases z),T.aI.bK ha4,bH T.aI T.aP (ai T 9 12) (ai T 9 1),false,rfl,aY ⟨_,_,_,false,rfl,(fun z=>by cases z),T.aI.bK ha4,bH T.aI T.aG (ai T 10 12) (ai T 10 1),false,rfl,aY ⟨_,_,_,true,rfl,(fun z=>by cases z),T.aI.bK ha4,iT T.aI,true,rfl,cy ?_⟩⟩⟩⟩⟩⟩
   refine ⟨r.s,r.ds,_,rfl,R4.s,rfl,r,k.tell n .non,a,.iff n val fs os l r0,trivial,rfl,R4,W4,wf,room4,?_⟩
   have e1:(gIf E d (k.tell n .non) (.iff n val fs os l r0)).1=(doR E (d + 1) k (.iff n val fs os l r0)).1:=by
    simp only [doR,gIf,kY]
    split <;> rfl
   have e2:(gIf E d (k.tell n .non) (.iff n val fs os l r0)).2=.bl (doR E (d + 1) k (.iff n val fs os l r0)).2:=by
    simp only [doR,gIf,kY]
    split <;> rfl
   rw [e1,e2]
   exact fun H5 g5 R5=>g _ (g4.trans g5) R5
  | loop n t m b l r0 =>
   cases d with
   | zero=>exact (show False from wf).elim
   | succ d =>
   obtain ⟨a',dx,pb,xb,ea,ha,_⟩:=id W4
   cases ea
   have ha4:=aw _ _ ha
   refine ⟨_,_,_,false,rfl,(fun z=>by cases z),T.ax.bK ha4,bH T.ax T.bu (ai T 6 13) (ai T 6 1),false,rfl,aY ⟨_,_,_,false,rfl,(fun z=>by cases z),T.ax.bK ha4,bH T.ax T.bg (ai T 7 13) (ai T 7 1),false,rfl,aY ⟨_,_,_,false,rfl,(fun z=>by cases z),T.ax.bK ha4,bH T.ax T.aO (ai T 8 13) (ai T 8 1),false,rfl,aY ⟨_,_,_,false,rfl,(fun z=>by cases z),T.ax.bK ha4,bH T.ax T.aP (ai T 9 13) (ai T 9 1),false,rfl,aY ⟨_,_,_,false,rfl,(fun z=>by cases z),T.ax.bK ha4,bH T.ax T.aG (ai T 10 13) (ai T 10 1),false,rfl,aY ⟨_,_,_,false,rfl,(fun z=>by cases z),T.ax.bK ha4,bH T.ax T.aI (ai T 12 13) (ai T 12 1),false,rfl,aY ⟨_,_,_,true,rfl,(fun z=>by cases z),T.ax.bK ha4,iT T.ax,true,rfl,cy ?_⟩⟩⟩⟩⟩⟩⟩
   refine ⟨r.s,r.ds,_,rfl,R4.s,rfl,r,k.tell n .non,a,.loop n t m b l r0,trivial,rfl,R4,W4,wf,room4,?_⟩
   have ew:want (k.tell n .non) t m=want k t m:=by unfold want;rw [qx]
   have eg:doR E (d + 1) k (.loop n t m b l r0)=((sG E d (k.tell n .non) (.loop n t m b l r0)).1,false):=by
    simp only [doR,sG,ew]
   rw [eg] at g
   intro H5 g5 R5
   have ha5:=aw _ _ (g5.same _ _ ha)
   exact ⟨_,_,_,false,rfl,(fun z=>by cases z),T.ax.bK ha5,(bH T.ax T.aQ (ai T 11 13) (ai T 11 1)),g _ (g4.trans g5) R5⟩
theorem j4 (T:Txt K mg A) (O:E.Ok):∀n,di P w K mg base (3 * n + 5) A.Run "do_rows" ["self","rows"] (iO A E n)
 | 0=>T.hU.has (k:=4) dI (fun _ _ _ _ h=>h.elim) (fun _ _ _ _ _ _ _ _ _ _ _ h=>h.elim)
 | d + 1=>sL T (yN (by omega) T O (AD (by omega) T O (j4 T O d)) (yp (by omega) T O (j4 T O d)) (yA (by omega) T O (j4 T O d)))
end
section
variable {P:Program}{w:World}{K:W.Frag}{mg:Str->Option Value}{base:Heap}{A:Adr}{E:En}
def zeros (n:Nat):List Int:=List.replicate n 0
theorem tO (n:Nat):(List.replicate n [V.int 0]).flatten=(zeros n).map V.int:=by
 unfold zeros
 rw [List.map_replicate]
 induction n with
 | zero=>rfl
 | succ n ih=>rw [List.replicate_succ,List.replicate_succ,List.flatten_cons,ih];rfl
def Ao (A:Adr):Sp:=fun vs H Q _=>∃(a dx:Addr) (k:V) (n:Nat) (x:V),vs=[.ref a]/\n <= 1000/\H a=some (.ins A.bF dx [("number",k),("name",x),("size",.int n)])/\(n=0->Q (.int 0) H)/\(0 < n->∀p H',ah H H'->H p=none->H' p=some (.lst ((zeros n).map V.int))->Q (.ref p) H')
theorem BS (T:Txt K mg A):Has P w K mg base 1 "own_cell" ["own"] (Ao A):=by
 refine T.sh.has rM (fun vs H Q E h=>?_) (fun f cdv A' outer s H vs Q E hr hu h=>?_)
 ·obtain ⟨a,dx,k,n,x,rfl,_⟩:=h
  rfl
 ·obtain ⟨a,dx,k,n,x,rfl,hn,ha,q0,q1⟩:=h
  refine ⟨_,(ag (az (eG (ay (bz hu) (aA (fv 0) rfl) ae (aC _)) ae (av eZ (cf (aa ae af)) (aA (fv 0) rfl))))),?_⟩
  refine ⟨a,_,dx,_,_,rfl,ha,T.bG.cl,T.fB,rfl,rfl,_,rfl,aW (fun c=>?_) (fun c=>?_)⟩
  ·rw [j9,decide_eq_true_iff] at c
   exact q0 (by omega)
  ·rw [j9,decide_eq_true_iff] at c
   refine ⟨by show 1 <= sizeLine;decide,fun l hl=>?_⟩
   obtain ⟨s1,e1⟩:=alc hl (HO.lst [V.int 0])
   generalize upd H l _=H1 at s1 e1 ⊢
   refine ⟨a,_,dx,_,_,rfl,s1 _ _ ha,T.bG.cl,T.fB,rfl,_,e1,by omega,by omega,?_,fun p hp=>?_⟩
   ·show 1 * ((n:Int)).toNat <= sizeLine
    have:=sz hn
    omega
   ·refine q1 (by omega) p _ (s1.trans (ah.upd hp _)) (ah.free s1 hp) ?_
    rw [ar,<- tO]
    rfl
def yy (A:Adr):Sp:=fun vs H Q _=>∃(a g dx:Addr) (k rk:V) (x:Str) (z:Nat) (kvs:List (Key × V)) (gv:V),vs=[.ref a,.ref g]/\H a=some (.ins A.aX dx [("number",k),("name",.str x),("rank",rk),("size",.int z)])/\H g=some (.dK kvs)/\L2.gG kvs (.inr x)=some gv /\
 ((z=0/\∃n:Int,gv=.int n/\In n/\Q (.int n) H) \/ (0 < z/\z <= 1000/\∃(l:Addr) (ns:List Int),gv=.ref l/\H l=some (.lst (ns.map V.int))/\ns.length=z/\(∀n ∈ ns,In n)/\∀p H',ah H H'->H p=none->H' p=some (.lst (ns.map V.int))->Q (.ref p) H'))
theorem yQ (T:Txt K mg A):Has P w K mg base 3 "given_cell" ["given","gifts"] (yy A):=by
 have D_is_good:=yf (P:=P) (w:=w) (base:=base) T
 refine T.nK.has kz (fun vs H Q E h=>?_) (fun f cdv A' outer s H vs Q E hr hu h=>?_)
 ·obtain ⟨a,g,dx,k,rk,x,z,kvs,gv,rfl,_⟩:=h
  rfl
 ·obtain ⟨a,g,dx,k,rk,x,z,kvs,gv,rfl,ha,hg,hv,hq⟩:=h
  have d1:cj H g (.str x) (some gv):=by
   have:=cj.k (k:=.inr x) hg
   rw [hv] at this
   exact this
  refine ⟨_,(ab (aE (i:=2) kz.nd rfl (Or.inl rfl) (wU (Nat.lt_of_le_of_lt (Nat.add_le_add_left (show 1 <= 64 by decide) _) hu) (fv 1) (aA (fv 0) rfl) ⟨rfl,rfl,rfl,rfl⟩))
  (ab (aS (kH (b9 (ao D_is_good hr (aa (fv 2) (aa (aA (fv 0) rfl) af))) (fun _=>rfl)))
   vG
   aL)
  (ag (az (eG (ay (bz hu) (aA (fv 0) rfl) ae (aC _)) (fv 2) (cN uZ rfl T.er (by boot_by_name) (aa (fv 2) af))))))),?_⟩
  refine ⟨g,rfl,Or.inl ⟨_,Or.inl hg⟩,a,_,dx,_,_,rfl,ha,T.bh.cl,T.dz,rfl,_,d1,?_⟩
  rcases hq with ⟨rfl,n,rfl,hn,q⟩ | ⟨z0,z1,l,ns,rfl,hl,rfl,hn,q⟩
  ·refine ⟨a,_,dx,_,_,rfl,ha,T.bh.cl,T.cM,rfl,Or.inl ⟨n,rfl,hn,true,rfl,aY ?_⟩⟩
   exact ⟨a,_,dx,_,_,rfl,ha,T.bh.cl,T.cM,rfl,rfl,_,rfl,cy q⟩
  ·refine ⟨a,_,dx,_,_,rfl,ha,T.bh.cl,T.cM,rfl,Or.inr ⟨l,ns,rfl,z0,z1,hl,hn,fun H2 s2=>⟨true,rfl,aY ?_⟩⟩⟩
   refine ⟨a,_,dx,_,_,rfl,s2 _ _ ha,T.bh.cl,T.cM,rfl,rfl,_,rfl,aW (fun c=>absurd c ?_) (fun c=>?_)⟩
   ·rw [j9,decide_eq_true_iff]
    omega
   ·exact Or.inl ⟨_,_,rfl,Or.inl (SqL.of (s2 _ _ hl)),fun p hp=>q p _ (s2.trans (ah.upd hp _)) (ah.free s2 hp) ar⟩
inductive Hd where
 | hand (i:Nat) | giv (i z:Nat) | own (i z:Nat) | lt (i:Nat)
def Hd.cell:Hd->List Nat
 | .giv i _=>[i]
 | .own i _=>[i]
 | _=>[]
def kB (A:Adr) (N:Nat->Str) (X:Hp) (v:V):Hd->Prop
 | .hand i=>∃a dx n rk,v=.ref a/\X a=some (.ins A.bL dx [("number",n),("name",.str (N i)),("rank",rk)])
 | .giv i z=>∃a dx n rk,v=.ref a/\X a=some (.ins A.aX dx [("number",n),("name",.str (N i)),("rank",rk),("size",.int z)])
 | .own i z=>∃a dx n,v=.ref a/\X a=some (.ins A.bF dx [("number",n),("name",.str (N i)),("size",.int z)])
 | .lt i=>∃a dx n rk,v=.ref a/\X a=some (.ins A.cm dx [("number",n),("name",.str (N i)),("rank",rk)])
theorem kB.same {N:Nat->Str}{X X':Hp} (s:ah X X') {v:V}:∀{h:Hd},kB A N X v h->kB A N X' v h
 | .hand _,⟨a,dx,n,rk,e,h⟩=>⟨a,dx,n,rk,e,s _ _ h⟩
 | .giv _ _,⟨a,dx,n,rk,e,h⟩=>⟨a,dx,n,rk,e,s _ _ h⟩
 | .own _ _,⟨a,dx,n,e,h⟩=>⟨a,dx,n,e,s _ _ h⟩
 | .lt _,⟨a,dx,n,rk,e,h⟩=>⟨a,dx,n,rk,e,s _ _ h⟩
def isG (hs:List Hd) (i:Nat):Bool:=hs.any fun h=>match h with
 | .giv j _=>decide (j=i)
 | _=>false
def S.new (E:En) (hs:List Hd) (gn:Nat->Int) (gl:Nat->List Int):S:=⟨fun i=>if isG hs i then gn i else 0,fun i=>if isG hs i then gl i else zeros (E.sz i),0,[],[],[]⟩
structure Hds (E:En) (hs:List Hd):Prop where
 e:E.idx=hs.flatMap Hd.cell ++ E.ds.flatMap Dd.parts
 g:∀i z,Hd.giv i z ∈ hs->E.sz i=z
 o:∀i z,Hd.own i z ∈ hs->E.sz i=z
structure ow (E:En) (hs:List Hd) (H:Hp) (g:Addr) (gn:Nat->Int) (gl:Nat->List Int):Prop where
 d:∃kvs,H g=some (.dK kvs)/\∀i z,Hd.giv i z ∈ hs->(z=0->L2.gG kvs (.inr (E.N i))=some (.int (gn i)))/\(0 < z->∃l,L2.gG kvs (.inr (E.N i))=some (.ref l)/\H l=some (.lst ((gl i).map V.int))/\(gl i).length=z)
 n:∀i,In (gn i)
 l:∀i,∀n ∈ gl i,In n
theorem ow.same {hs:List Hd}{H H':Hp}{g:Addr}{gn:Nat->Int}{gl:Nat->List Int} (s:ah H H') (G:ow E hs H g gn gl):ow E hs H' g gn gl:=by
 obtain ⟨kvs,h1,h2⟩:=G.d
 refine ⟨⟨kvs,s _ _ h1,fun i z m=>⟨(h2 i z m).1,fun z0=>?_⟩⟩,G.n,G.l⟩
 obtain ⟨l,a,b,c⟩:=(h2 i z m).2 z0
 exact ⟨l,a,s _ _ b,c⟩
def laP (la:Nat->Addr) (i:Nat) (u:Addr) (j:Nat):Addr:=if j=i then u else la j
theorem u7 (la:Nat->Addr) (i:Nat) (u:Addr):laP la i u i=u:=if_pos rfl
theorem pH (la:Nat->Addr) {i j:Nat} (u:Addr) (h:j ≠ i):laP la i u j=la j:=if_neg h
structure Cells (E:En) (H H2:Hp) (c:Addr) (la:Nat->Addr) (k:S) (ix:List Nat):Prop where
 s:ah H H2
 hc:H2 c=some (.dK (dk E.N ix (cV E la k.num)))
 l:∀i ∈ ix,0 < E.sz i->H (la i)=none/\la i ≠ c/\H2 (la i)=some (.lst ((k.lst i).map V.int))
 i:∀i ∈ ix,∀j ∈ ix,0 < E.sz i->0 < E.sz j->la i=la j->i=j
theorem Cells.num {H H2:Hp}{c:Addr}{la:Nat->Addr}{k:S}{ix:List Nat}{i:Nat}{n:Int} (C:Cells E H H2 c la k ix) (O:E.Ok) (c0:H c=none) (hi:i < 18) (hb:∀j ∈ ix,j < 18) (m:i ∉ ix) (hz:E.sz i=0) (en:k.num i=n):Cells E H (upd H2 c (.dK (putK (dk E.N ix (cV E la k.num)) (.inr (E.N i)) (.int n)))) c la k (ix ++ [i]):=by
 refine ⟨ah.out C.s c0 _,?_,fun j hj z=>?_,fun a ha b hb' za zb e=>?_⟩
 ·rw [ar,fJ O.D hi hb m]
  refine congrArg some (congrArg HO.dK (gz fun j _=>?_))
  by_cases e:j=i
  ·rw [e,dB]
   unfold cV
   rw [if_pos hz,en]
  ·rw [fU _ _ e]
 ·rcases List.mem_append.mp hj with hj | hj
  ·obtain ⟨h1,h2,h3⟩:=C.l j hj z
   exact ⟨h1,h2,aj h2 h3⟩
  ·rw [List.mem_singleton.mp hj,hz] at z
   cases z
 ·rcases List.mem_append.mp ha with ha | ha
  ·rcases List.mem_append.mp hb' with hb' | hb'
   ·exact C.i a ha b hb' za zb e
   ·rw [List.mem_singleton.mp hb',hz] at zb
    cases zb
  ·rw [List.mem_singleton.mp ha,hz] at za
   cases za
theorem Cells.lst {H H2 H3:Hp}{c u:Addr}{la:Nat->Addr}{k:S}{ix:List Nat}{i:Nat} (C:Cells E H H2 c la k ix) (O:E.Ok) (c0:H c=none) (hi:i < 18) (hb:∀j ∈ ix,j < 18) (m:i ∉ ix) (hz:0 < E.sz i) (s3:ah H2 H3) (u0:H2 u=none) (hu:H3 u=some (.lst ((k.lst i).map V.int))) :
  Cells E H (upd H3 c (.dK (putK (dk E.N ix (cV E la k.num)) (.inr (E.N i)) (.ref u)))) c (laP la i u) k (ix ++ [i]):=by
 have uc:u ≠ c:=fun w=>by rw [w,C.hc] at u0;cases u0
 have ne:∀j ∈ ix,j ≠ i:=fun j hj z=>m (z ▸ hj)
 refine ⟨ah.out (C.s.trans s3) c0 _,?_,fun j hj z=>?_,fun a ha b hb' za zb e=>?_⟩
 ·rw [ar,fJ O.D hi hb m]
  refine congrArg some (congrArg HO.dK (gz fun j _=>?_))
  unfold cV
  by_cases e:j=i
  ·rw [e,dB,if_neg (by omega),u7]
  ·rw [fU _ _ e,pH _ _ e]
 ·rcases List.mem_append.mp hj with hj | hj
  ·obtain ⟨h1,h2,h3⟩:=C.l j hj z
   rw [pH _ _ (ne j hj)]
   exact ⟨h1,h2,aj h2 (s3 _ _ h3)⟩
  ·rw [List.mem_singleton.mp hj,u7]
   exact ⟨ah.free C.s u0,uc,aj uc hu⟩
 ·have nu:∀j ∈ ix,0 < E.sz j->la j ≠ u:=fun j hj z w=>by
   have:=(C.l j hj z).2.2
   rw [w,u0] at this
   cases this
  rcases List.mem_append.mp ha with ha | ha
  ·rcases List.mem_append.mp hb' with hb' | hb'
   ·rw [pH _ _ (ne a ha),pH _ _ (ne b hb')] at e
    exact C.i a ha b hb' za zb e
   ·rw [List.mem_singleton.mp hb',pH _ _ (ne a ha),u7] at e
    exact absurd e (nu a ha za)
  ·rcases List.mem_append.mp hb' with hb' | hb'
   ·rw [List.mem_singleton.mp ha,u7,pH _ _ (ne b hb')] at e
    exact absurd e.symm (nu b hb' zb)
   ·rw [List.mem_singleton.mp ha,List.mem_singleton.mp hb']
structure Pa where
 pa:Addr
 dp:Addr
 hd:Addr
 dd:Addr
 mn:Addr
def DF (A:Adr) (N:Nat->Str) (X:Hp) (v:V) (D:Dd):Prop:=∃a dx n pp pb,v=.ref a/\X a=some (.ins A.bj dx [("number",n),("name",.str (N D.nm)),("parts",.ref pp),("body",.ref pb)])/\X pp=some (.lst (D.parts.map fun i=>V.str (N i)))
structure mL (A:Adr) (E:En) (H:Hp) (p:Pa) (hv:List V) (hs:List Hd) (xs:List V):Prop where
 pr:H p.pa=some (.ins A.Program p.dp [("heads",.ref p.hd),("deeds",.ref p.dd),("main",.ref p.mn)])
 hd:H p.hd=some (.lst hv)
 dd:H p.dd=some (.lst E.dv)
 mn:H p.mn=some (.lst xs)
 h:Paired (kB A E.N H) hv hs
 d:Paired (DF A E.N H) E.dv E.ds
 l:hv.length <= 64
theorem mL.same {H H':Hp}{p:Pa}{hv:List V}{hs:List Hd}{xs:List V} (s:ah H H') (R:mL A E H p hv hs xs):mL A E H' p hv hs xs:=⟨s _ _ R.pr,s _ _ R.hd,s _ _ R.dd,s _ _ R.mn,Paired.cF R.h fun _ _=>kB.same s,Paired.cF R.d fun _ _ ⟨a,dx,n,pp,pb,e,h1,h2⟩=>⟨a,dx,n,pp,pb,e,s _ _ h1,s _ _ h2⟩,R.l⟩
theorem take_snoc {α:Type}{ks:List α}{i:Nat}{j:α} (h:ks[i]?=some j):ks.take (i + 1)=ks.take i ++ [j]:=by
 rw [List.take_add_one,h]
 rfl
theorem Bn {hs:List Hd}{i z:Nat} (h:Hd.giv i z ∈ hs):isG hs i=true:=by
 unfold isG
 rw [List.any_eq_true]
 exact ⟨_,h,by simp⟩
theorem nT {α:Type}{f:α->List Nat}{xs:List α}{i:Nat}{x:α} (h:xs[i]?=some x):xs.flatMap f=(xs.take i).flatMap f ++ (f x ++ (xs.drop (i + 1)).flatMap f):=by
 have e:xs=xs.take i ++ x :: xs.drop (i + 1):=by rw [<- j3 h,List.take_append_drop]
 conv=>lhs;rw [e]
 rw [List.flatMap_append,List.flatMap_cons]
theorem qM {L xs ys zs:List Nat}{x:Nat} (e:L=xs ++ (x :: ys) ++ zs) (nd:L.Nodup):x ∉ xs/\(∀j ∈ xs,j ∈ L)/\x ∈ L:=by
 subst e
 refine ⟨fun m=>?_,fun j hj=>by simp [hj],by simp⟩
 rw [List.append_assoc] at nd
 exact (List.nodup_append.mp nd).2.2 x m x (by simp) rfl
theorem Aq {hs:List Hd}{i z:Nat} (nd:(hs.flatMap Hd.cell).Nodup) (h:Hd.own i z ∈ hs):isG hs i=false:=by
 cases e:isG hs i with
 | false=>rfl
 | true =>
  exfalso
  unfold isG at e
  rw [List.any_eq_true] at e
  obtain ⟨g,hg,eg⟩:=e
  obtain ⟨y,rfl⟩:∃y,g=.giv i y:=by
   cases g with
   | giv j y=>exact ⟨y,by rw [of_decide_eq_true eg]⟩
   | _=>cases eg
  obtain ⟨a,ha⟩:=List.getElem?_of_mem h
  obtain ⟨b,hb⟩:=List.getElem?_of_mem hg
  have ne:a ≠ b:=fun z=>by rw [z,hb] at ha;cases ha
  have key:∀{a b:Nat}{p q:Hd},hs[a]?=some p->hs[b]?=some q->a < b->i ∈ p.cell->i ∈ q.cell->False:=fun {a b p q} ha hb lt m1 m2=>by
   rw [nT hb] at nd
   have:i ∈ (hs.take b).flatMap Hd.cell:=List.mem_flatMap.mpr ⟨p,List.mem_of_getElem? (by rw [List.getElem?_take_of_lt lt];exact ha),m1⟩
   exact (List.nodup_append.mp nd).2.2 i this i (List.mem_append_left _ m2) rfl
  rcases Nat.lt_or_gt_of_ne ne with lt | lt
  ·exact key ha hb lt (by simp [Hd.cell]) (by simp [Hd.cell])
  ·exact key hb ha lt (by simp [Hd.cell]) (by simp [Hd.cell])
end
section
variable {P:Program}{w:World}{K:W.Frag}{mg:Str->Option Value}{base:Heap}{A:Adr}{E:En}
def wZ (A:Adr) (E:En):Sp:=fun vs H Q _=>∃(p:Pa) (g:Addr) (hv xs:List V) (hs:List Hd) (gn:Nat->Int) (gl:Nat->List Int),vs=[.ref p.pa,.ref g]/\mL A E H p hv hs xs/\Hds E hs/\ow E hs H g gn gl /\
 ∀c la H',H c=none->Cells E H H' c la (S.new E hs gn gl) E.idx->Q (.ref c) H'
theorem zA (T:Txt K mg A) (O:E.Ok):Has P w K mg base 4 "cells_of" ["program","gifts"] (wZ A E):=by
 have D_given_cell:=yQ (P:=P) (w:=w) (base:=base) T
 have D_own_cell:=BS (P:=P) (w:=w) (base:=base) T
 refine T.sj.has fD (fun vs H Q E h=>?_) (fun f cdv A' outer s H vs Q E' hr hu h=>?_)
 ·obtain ⟨p,g,hv,xs,hs,gn,gl,rfl,_⟩:=h
  rfl
 ·obtain ⟨p,g,hv,xs,hs,gn,gl,rfl,R,Z,G,q⟩:=h
  refine ⟨_,(ab (aE (i:=2) fD.nd rfl (Or.inl rfl) (gp))
  (ab (dD PassesOwn.never rfl (eu (aA (fv 0) rfl)) (pgn (i:=3) fD.nd rfl)
   (ag (aS (b9 (aN bA rfl T.aH (by boot_by_name) (aa (fv 3) (aa (cI T.bh.mg) af))) (fun _=>rfl))
    (ag (bN (ao D_given_cell hr (aa (fv 3) (aa (fv 1) af))) (bR (fv 2) (aA (fv 3) rfl) (bS hu set_list))))
    (ag (aS (b9 (aN bA rfl T.aH (by boot_by_name) (aa (fv 3) (aa (cI T.bG.mg) af))) (fun _=>rfl))
     (ag (bN (ao D_own_cell hr (aa (fv 3) af)) (bR (fv 2) (aA (fv 3) rfl) (bS hu set_list))))
     aL)))))
  (ab (dD PassesOwn.never rfl (eu (aA (fv 0) rfl)) (pgn (i:=4) fD.nd rfl)
   (ag (dD PassesOwn.never rfl (eu (aA (fv 4) rfl)) (pgn (i:=5) fD.nd rfl)
    (ag (bN ae (bR (fv 2) (fv 5) (bS hu set_list)))))))
  (ag (az (fv 2)))))),?_⟩
  refine aF fun M1 K1=>?_
  refine fun c hc=>?_
  have C1:Cells E H (upd H c (HO.dK [])) c (fun _=>0) (S.new E hs gn gl) []:=⟨ah.upd hc _,ar,fun _ h=>(by cases h),fun _ h=>(by cases h)⟩
  generalize upd H c (HO.dK [])=H1 at C1 ⊢
  refine K1 _ _ ?_
  refine aF fun M2 K2=>?_
  refine ⟨p.pa,_,p.dp,_,_,rfl,C1.s _ _ R.pr,T.cD.cl,T.eK,rfl,Or.inl ⟨⟨_,SqL.of (C1.s _ _ R.hd)⟩,?_⟩⟩
  refine dO (K:=K) (xs:=hv) (fun i σ H2=>(∃la,Cells E H H2 c la (S.new E hs gn gl) ((hs.take i).flatMap Hd.cell))/\∃v,σ=[some (.ref p.pa),some (.ref g),some (.ref c),v,none,none]) ⟨⟨_,C1⟩,none,rfl⟩ (fun i σ H2 _ h=>by obtain ⟨⟨la,C⟩,_⟩:=h;exact SqL.of (C.s _ _ R.hd)) ?_ ?_
  ·rintro i v σ H2 hx ⟨⟨la,C⟩,z,rfl⟩
   obtain ⟨h,hh,W⟩:=bW R.h hx
   have hm:=List.mem_of_getElem? hh
   have W2:=W.same C.s
   have eL:E.idx=(hs.take i).flatMap Hd.cell ++ (h.cell ++ (hs.drop (i + 1)).flatMap Hd.cell) ++ E.ds.flatMap Dd.parts:=by rw [Z.e,nT hh]
   rw [show (hs.take (i + 1)).flatMap Hd.cell=(hs.take i).flatMap Hd.cell ++ h.cell by rw [take_snoc hh,List.flatMap_append];simp]
   have ndh:(hs.flatMap Hd.cell).Nodup:=by
    have:=O.nd
    rw [Z.e] at this
    exact (List.nodup_append.mp this).1
   generalize (hs.take i).flatMap Hd.cell=ix at C eL ⊢
   have llen:∀(g:Nat->V),(dk E.N ix g).length < sizeLine:=fun g=>aR (by
    rw [gE]
    have:=O.len
    rw [eL,List.length_append,List.length_append] at this
    omega)
   cases h with
   | hand x =>
    obtain ⟨a,dx,n,rk,rfl,ha⟩:=W2
    refine ⟨_,_,_,false,rfl,(fun z=>by cases z),T.cP.bK ha,bH T.cP T.bh (ai T 3 2) (ai T 3 1),false,rfl,aY ⟨_,_,_,false,rfl,(fun z=>by cases z),T.cP.bK ha,bH T.cP T.bG (ai T 4 2) (ai T 4 1),false,rfl,aY ?_⟩⟩
    exact ⟨⟨la,by rw [show Hd.cell (.hand x)=[] from rfl,List.append_nil];exact C⟩,_,rfl⟩
   | lt x =>
    obtain ⟨a,dx,n,rk,rfl,ha⟩:=W2
    refine ⟨_,_,_,false,rfl,(fun z=>by cases z),T.dW.bK ha,bH T.dW T.bh (ai T 3 5) (ai T 3 1),false,rfl,aY ⟨_,_,_,false,rfl,(fun z=>by cases z),T.dW.bK ha,bH T.dW T.bG (ai T 4 5) (ai T 4 1),false,rfl,aY ?_⟩⟩
    exact ⟨⟨la,by rw [show Hd.cell (.lt x)=[] from rfl,List.append_nil];exact C⟩,_,rfl⟩
   | giv x zz =>
    obtain ⟨n1,n2,n3⟩:=qM (x:=x) eL O.nd
    have hb:∀j ∈ ix,j < 18:=fun j hj=>O.b j (n2 j hj)
    have ez:=Z.g x zz hm
    have ig:=Bn hm
    obtain ⟨a,dx,n,rk,rfl,ha⟩:=W2
    obtain ⟨kvs,k1,k2⟩:=(G.same C.s).d
    have zl:=O.z x
    rw [ez] at zl
    refine ⟨_,_,_,true,rfl,(fun z=>by cases z),T.bh.bK ha,iT T.bh,true,rfl,cy ?_⟩
    by_cases z0:zz=0
    ·have e0:=(k2 x zz hm).1 z0
     refine ⟨a,g,dx,_,_,_,zz,kvs,_,rfl,ha,k1,e0,Or.inl ⟨z0,_,rfl,G.n x,?_⟩⟩
     refine ⟨a,_,dx,_,_,rfl,ha,T.bh.cl,T.dz,rfl,_,du.k (k:=.inr (E.N x)) C.hc (llen _),?_⟩
     exact ⟨⟨la,C.num O hc (O.b x n3) hb n1 (by rw [ez,z0]) (by show (if isG hs x=true then gn x else 0)=_;rw [if_pos ig])⟩,_,rfl⟩
    ·obtain ⟨l,e0,e1,e2⟩:=(k2 x zz hm).2 (by omega)
     refine ⟨a,g,dx,_,_,_,zz,kvs,_,rfl,ha,k1,e0,Or.inr ⟨by omega,zl,l,_,rfl,e1,e2,G.l x,fun u H3 s3 u0 hu3=>?_⟩⟩
     refine ⟨a,_,dx,_,_,rfl,s3 _ _ ha,T.bh.cl,T.dz,rfl,_,du.k (k:=.inr (E.N x)) (s3 _ _ C.hc) (llen _),?_⟩
     exact ⟨⟨_,C.lst O hc (O.b x n3) hb n1 (by rw [ez];omega) s3 u0 (by rw [hu3];show _=some (HO.lst ((if isG hs x=true then gl x else zeros (E.sz x)).map V.int));rw [if_pos ig])⟩,_,rfl⟩
   | own x zz =>
    obtain ⟨n1,n2,n3⟩:=qM (x:=x) eL O.nd
    have hb:∀j ∈ ix,j < 18:=fun j hj=>O.b j (n2 j hj)
    have ez:=Z.o x zz hm
    have ig:=Aq ndh hm
    obtain ⟨a,dx,n,rfl,ha⟩:=W2
    have zl:=O.z x
    rw [ez] at zl
    refine ⟨_,_,_,false,rfl,(fun z=>by cases z),T.bG.bK ha,bH T.bG T.bh (ai T 3 4) (ai T 3 1),false,rfl,aY ⟨_,_,_,true,rfl,(fun z=>by cases z),T.bG.bK ha,iT T.bG,true,rfl,cy ?_⟩⟩
    refine ⟨a,dx,_,zz,_,rfl,zl,ha,fun z0=>?_,fun z0 u H3 s3 u0 hu3=>?_⟩
    ·refine ⟨a,_,dx,_,_,rfl,ha,T.bG.cl,T.dA,rfl,_,du.k (k:=.inr (E.N x)) C.hc (llen _),?_⟩
     exact ⟨⟨la,C.num O hc (O.b x n3) hb n1 (by rw [ez,z0]) (by show (if isG hs x=true then gn x else 0)=_;rw [ig];rfl)⟩,_,rfl⟩
    ·refine ⟨a,_,dx,_,_,rfl,s3 _ _ ha,T.bG.cl,T.dA,rfl,_,du.k (k:=.inr (E.N x)) (s3 _ _ C.hc) (llen _),?_⟩
     exact ⟨⟨_,C.lst O hc (O.b x n3) hb n1 (by rw [ez];omega) s3 u0 (by rw [hu3];show _=some (HO.lst ((if isG hs x=true then gl x else zeros (E.sz x)).map V.int));rw [ig,if_neg Bool.false_ne_true,ez])⟩,_,rfl⟩
  rintro σ H2 ⟨⟨la,C⟩,z,rfl⟩
  rw [Paired.length R.h,List.take_length] at C
  refine K2 _ _ ?_
  refine aF fun M3 K3=>?_
  refine ⟨p.pa,_,p.dp,_,_,rfl,C.s _ _ R.pr,T.cD.cl,T.cO,rfl,Or.inl ⟨⟨_,SqL.of (C.s _ _ R.dd)⟩,?_⟩⟩
  refine dO (K:=K) (xs:=E.dv) (fun i σ H3=>Cells E H H3 c la (S.new E hs gn gl) (hs.flatMap Hd.cell ++ (E.ds.take i).flatMap Dd.parts)/\∃z4 z5,σ=[some (.ref p.pa),some (.ref g),some (.ref c),z,z4,z5]) ⟨by rw [List.take_zero,List.flatMap_nil,List.append_nil];exact C,none,none,rfl⟩ (fun i σ H3 _ h=>SqL.of (h.1.s _ _ R.dd)) ?_ ?_
  ·rintro i u σ H3 hx ⟨C3,z4,z5,rfl⟩
   obtain ⟨D,hD,a,dx,n,pp,pb,rfl,ha,hp⟩:=bW R.d hx
   refine ⟨a,_,dx,_,_,rfl,C3.s _ _ ha,T.cq.cl,T.eM,rfl,Or.inl ⟨⟨_,SqL.of (C3.s _ _ hp)⟩,?_⟩⟩
   refine dO (K:=K) (xs:=D.parts.map fun i=>V.str (E.N i)) (fun j σ H4=>Cells E H H4 c la (S.new E hs gn gl) (hs.flatMap Hd.cell ++ (E.ds.take i).flatMap Dd.parts ++ D.parts.take j)/\∃z5,σ=[some (.ref p.pa),some (.ref g),some (.ref c),z,some (.ref a),z5]) ⟨by rw [List.take_zero,List.append_nil];exact C3,_,rfl⟩ (fun i σ H4 _ h=>SqL.of (h.1.s _ _ hp)) ?_ ?_
   ·rintro j u σ H4 hu' ⟨C4,z6,rfl⟩
    rw [List.getElem?_map] at hu'
    cases hj:D.parts[j]? with
    | none=>rw [hj] at hu';cases hu'
    | some x =>
     rw [hj] at hu'
     cases hu'
     have eL:E.idx=(hs.flatMap Hd.cell ++ (E.ds.take i).flatMap Dd.parts ++ D.parts.take j) ++ (x :: D.parts.drop (j + 1)) ++ (E.ds.drop (i + 1)).flatMap Dd.parts:=by
      rw [Z.e,nT hD,<- j3 hj,List.append_assoc,List.append_assoc,List.append_assoc,<- List.append_assoc (D.parts.take j),List.take_append_drop]
     obtain ⟨n1,n2,n3⟩:=qM (x:=x) eL O.nd
     obtain ⟨x1,x2⟩:=O.pt D (List.mem_of_getElem? hD) x (List.mem_of_getElem? hj)
     have ng:isG hs x=false:=by
      cases e:isG hs x with
      | false=>rfl
      | true =>
       exfalso
       unfold isG at e
       rw [List.any_eq_true] at e
       obtain ⟨gg,hg,eg⟩:=e
       refine n1 (List.mem_append_left _ (List.mem_append_left _ (List.mem_flatMap.mpr ⟨gg,hg,?_⟩)))
       cases gg with
       | giv j y=>rw [of_decide_eq_true eg];simp [Hd.cell]
       | _=>cases eg
     have llen:(dk E.N (hs.flatMap Hd.cell ++ (E.ds.take i).flatMap Dd.parts ++ D.parts.take j) (cV E la (S.new E hs gn gl).num)).length < sizeLine:=aR (by
      rw [gE]
      have:=O.len
      rw [eL,List.length_append,List.length_append] at this
      omega)
     refine ⟨_,du.k (k:=.inr (E.N x)) C4.hc llen,?_⟩
     rw [take_snoc hj,<- List.append_assoc]
     exact ⟨C4.num O hc (O.b x n3) (fun j hj=>O.b j (n2 j hj)) n1 x2 (by show (if isG hs x=true then gn x else 0)=_;rw [ng];rfl),_,rfl⟩
   ·rintro σ H4 ⟨C4,z6,rfl⟩
    rw [List.length_map,List.take_length] at C4
    refine ⟨?_,_,_,rfl⟩
    rw [take_snoc hD,List.flatMap_append,<- List.append_assoc,show List.flatMap Dd.parts [D]=D.parts by simp]
    exact C4
  ·rintro σ H3 ⟨C3,z4,z5,rfl⟩
   refine K3 _ _ ?_
   rw [Paired.length R.d,List.take_length,<- Z.e] at C3
   exact q c la H3 hc C3
end
section
variable {P:Program}{w:World}{K:W.Frag}{mg:Str->Option Value}{base:Heap}{A:Adr}{E:En}{N:Nat->Str}
structure yZ (A:Adr) (H:Hp) (x dx l sd t e:Addr):Prop where
 b:H x=some (.ins A.ck dx [("letters",.ref l),("said",.ref sd),("trace",.ref t),("steps",.int 0),("ends",.ref e)])
 hl:H l=some (.lst [])
 hs:H sd=some (.lst [])
 ht:H t=some (.lst [])
 tl:t ≠ l
 dt:sd ≠ t
 dl:sd ≠ l
 he:H e=some (.dK [])
def qJ (A:Adr):Sp:=fun vs H Q _=>∃x dx,vs=[.ref x]/\H x=some (.ins A.ck dx [])/\∀(l sd t e:Addr) (H':Hp),H l=none->H sd=none->H t=none->H e=none->But x H H'->yZ A H' x dx l sd t e->Q .non H'
theorem rV (T:Txt K mg A):di P w K mg base 1 A.ck "__init__" ["self"] (qJ A):=by
 refine T.mE.has (k:=0) qu (fun vs H Q E h=>?_) (fun f cdv A' outer s H vs Q E hr hu h=>?_)
 ·obtain ⟨x,dx,rfl,_⟩:=h
  rfl
 ·obtain ⟨x,dx,rfl,hx,q⟩:=h
  refine ⟨_,(ab (aZ (fv 0) (cf af) rfl)
  (ab (aZ (fv 0) (cf af) rfl)
  (ab (aZ (fv 0) (cf af) rfl)
  (ab (aZ (fv 0) ae rfl)
  (ag (aZ (fv 0) (gp) rfl)))))),?_⟩
  refine ⟨Nat.zero_le _,fun l hl=>?_⟩
  have lx:l ≠ x:=fun z=>by rw [z,hx] at hl;cases hl
  have b1:But x H (upd H l (HO.lst [])):=But.new hl _
  have x1:(upd H l (HO.lst [])) x=some (.ins A.ck dx []):=by rw [aK (Ne.symm lx)];exact hx
  have l1:(upd H l (HO.lst [])) l=some (.lst []):=ar
  generalize upd H l (HO.lst [])=H1 at b1 x1 l1 ⊢
  refine ⟨x,_,dx,_,rfl,x1,T.c6.cl,T.gB,by decide,?_⟩
  have b2:But x H (upd H1 x (.ins A.ck dx (cG "letters" (.ref l) []))):=b1.trans (But.at x _ _)
  have x2:(upd H1 x (.ins A.ck dx (cG "letters" (.ref l) []))) x=some (.ins A.ck dx [("letters",.ref l)]):=ar
  have l2:(upd H1 x (.ins A.ck dx (cG "letters" (.ref l) []))) l=some (.lst []):=by rw [aK lx];exact l1
  generalize upd H1 x (.ins A.ck dx (cG "letters" (.ref l) []))=H2 at b2 x2 l2 ⊢
  refine ⟨Nat.zero_le _,fun sd hsd=>?_⟩
  have sx:sd ≠ x:=fun z=>by rw [z,x2] at hsd;cases hsd
  have dl:sd ≠ l:=fun z=>by rw [z,l2] at hsd;cases hsd
  have sd0:H sd=none:=b2.none sx hsd
  have b3:But x H (upd H2 sd (HO.lst [])):=b2.trans (But.new hsd _)
  have x3:(upd H2 sd (HO.lst [])) x=some (.ins A.ck dx [("letters",.ref l)]):=by rw [aK (Ne.symm sx)];exact x2
  have l3:(upd H2 sd (HO.lst [])) l=some (.lst []):=by rw [aK (Ne.symm dl)];exact l2
  have s3:(upd H2 sd (HO.lst [])) sd=some (.lst []):=ar
  generalize upd H2 sd (HO.lst [])=H3 at b3 x3 l3 s3 ⊢
  refine ⟨x,_,dx,_,rfl,x3,T.c6.cl,T.jM,by simp,?_⟩
  have b4:But x H (upd H3 x (.ins A.ck dx (cG "said" (.ref sd) [("letters",.ref l)]))):=b3.trans (But.at x _ _)
  have x4:(upd H3 x (.ins A.ck dx (cG "said" (.ref sd) [("letters",.ref l)]))) x=some (.ins A.ck dx [("letters",.ref l),("said",.ref sd)]):=ar
  have l4:(upd H3 x (.ins A.ck dx (cG "said" (.ref sd) [("letters",.ref l)]))) l=some (.lst []):=by rw [aK lx];exact l3
  have s4:(upd H3 x (.ins A.ck dx (cG "said" (.ref sd) [("letters",.ref l)]))) sd=some (.lst []):=by rw [aK sx];exact s3
  generalize upd H3 x (.ins A.ck dx (cG "said" (.ref sd) [("letters",.ref l)]))=H4 at b4 x4 l4 s4 ⊢
  refine ⟨Nat.zero_le _,fun t ht=>?_⟩
  have tx:t ≠ x:=fun z=>by rw [z,x4] at ht;cases ht
  have tl:t ≠ l:=fun z=>by rw [z,l4] at ht;cases ht
  have ts:t ≠ sd:=fun z=>by rw [z,s4] at ht;cases ht
  have t0:H t=none:=b4.none tx ht
  have b5:But x H (upd H4 t (HO.lst [])):=b4.trans (But.new ht _)
  have x5:(upd H4 t (HO.lst [])) x=some (.ins A.ck dx [("letters",.ref l),("said",.ref sd)]):=by rw [aK (Ne.symm tx)];exact x4
  have l5:(upd H4 t (HO.lst [])) l=some (.lst []):=by rw [aK (Ne.symm tl)];exact l4
  have s5:(upd H4 t (HO.lst [])) sd=some (.lst []):=by rw [aK (Ne.symm ts)];exact s4
  have t5:(upd H4 t (HO.lst [])) t=some (.lst []):=ar
  generalize upd H4 t (HO.lst [])=H5 at b5 x5 l5 s5 t5 ⊢
  refine ⟨x,_,dx,_,rfl,x5,T.c6.cl,T.fQ,by simp,?_⟩
  have b6:But x H (upd H5 x (.ins A.ck dx (cG "trace" (.ref t) [("letters",.ref l),("said",.ref sd)]))):=b5.trans (But.at x _ _)
  have x6:(upd H5 x (.ins A.ck dx (cG "trace" (.ref t) [("letters",.ref l),("said",.ref sd)]))) x=some (.ins A.ck dx [("letters",.ref l),("said",.ref sd),("trace",.ref t)]):=ar
  have l6:(upd H5 x (.ins A.ck dx (cG "trace" (.ref t) [("letters",.ref l),("said",.ref sd)]))) l=some (.lst []):=by rw [aK lx];exact l5
  have s6:(upd H5 x (.ins A.ck dx (cG "trace" (.ref t) [("letters",.ref l),("said",.ref sd)]))) sd=some (.lst []):=by rw [aK sx];exact s5
  have t6:(upd H5 x (.ins A.ck dx (cG "trace" (.ref t) [("letters",.ref l),("said",.ref sd)]))) t=some (.lst []):=by rw [aK tx];exact t5
  generalize upd H5 x (.ins A.ck dx (cG "trace" (.ref t) [("letters",.ref l),("said",.ref sd)]))=H6 at b6 x6 l6 s6 t6 ⊢
  refine ⟨x,_,dx,_,rfl,x6,T.c6.cl,T.cw,by simp,?_⟩
  have b7:But x H (upd H6 x (.ins A.ck dx (cG "steps" (.int 0) [("letters",.ref l),("said",.ref sd),("trace",.ref t)]))):=b6.trans (But.at x _ _)
  have x7:(upd H6 x (.ins A.ck dx (cG "steps" (.int 0) [("letters",.ref l),("said",.ref sd),("trace",.ref t)]))) x=some (.ins A.ck dx [("letters",.ref l),("said",.ref sd),("trace",.ref t),("steps",.int 0)]):=ar
  have l7:(upd H6 x (.ins A.ck dx (cG "steps" (.int 0) [("letters",.ref l),("said",.ref sd),("trace",.ref t)]))) l=some (.lst []):=by rw [aK lx];exact l6
  have s7:(upd H6 x (.ins A.ck dx (cG "steps" (.int 0) [("letters",.ref l),("said",.ref sd),("trace",.ref t)]))) sd=some (.lst []):=by rw [aK sx];exact s6
  have t7:(upd H6 x (.ins A.ck dx (cG "steps" (.int 0) [("letters",.ref l),("said",.ref sd),("trace",.ref t)]))) t=some (.lst []):=by rw [aK tx];exact t6
  generalize upd H6 x (.ins A.ck dx (cG "steps" (.int 0) [("letters",.ref l),("said",.ref sd),("trace",.ref t)]))=H7 at b7 x7 l7 s7 t7 ⊢
  refine fun e he=>?_
  have ex:e ≠ x:=fun z=>by rw [z,x7] at he;cases he
  have n8:=ah.upd he (HO.dK [])
  refine ⟨x,_,dx,_,rfl,n8 _ _ x7,T.c6.cl,T.ju,by simp,?_⟩
  refine q l sd t e _ hl sd0 t0 (b7.none ex he) ((b7.trans (But.of n8)).trans (But.at x _ _)) ⟨ar,?_,?_,?_,tl,Ne.symm ts,dl,?_⟩
  ·rw [aK lx];exact n8 _ _ l7
  ·rw [aK sx];exact n8 _ _ s7
  ·rw [aK tx];exact n8 _ _ t7
  ·rw [aK ex];exact ar
theorem qm {H:Hp}{f:Nat->V}:∀{idx:List Nat}{ys:List V},Paired (fun j y=>∃t,y=V.ref t/\H t=some (.tup [.str (N j),f j])) idx ys->∃ps:List Addr,ys=ps.map V.ref/\ps.length=idx.length/\∀(i:Nat) t k v,ps[i]?=some t->(dk N idx f)[i]?=some (k,v)->SqT K H t [kV k,v]
 | _,_,.nil=>⟨[],rfl,rfl,fun i t k v h=>by cases h⟩
 | j :: idx,y :: ys,.cons ⟨t,e,ht⟩ r=>by
  obtain ⟨ps,h1,h2,h3⟩:=qm r
  refine ⟨t :: ps,by rw [e,h1];rfl,by simp [h2],fun i t' k v a b=>?_⟩
  cases i with
  | zero =>
   have a':t=t':=Option.some.inj a
   have b':((Sum.inr (N j):Key),f j)=(k,v):=Option.some.inj b
   cases b'
   rw [<- a']
   exact SqT.of ht
  | succ i=>exact h3 i t' k v a b
def qg (A:Adr) (H:Hp):V->Bool
 | .ref a=>match H a with
  | some (.ins C _ _)=>decide (C=A.bF)
  | _=>false
 | _=>false
theorem eh {H:Hp}{a C dx:Addr}{fs:List (Str × V)} (h:H a=some (.ins C dx fs)):qg A H (.ref a)=decide (C=A.bF):=by
 unfold qg
 simp only [h]
theorem BK (O:E.Ok) {i:Nat}{D:Dd}{v:V} (h1:E.ds[i]?=some D) (h2:E.dv[i]?=some v):dG E D.nm=v:=by
 obtain ⟨q,e1,e2⟩:=nF O.dd h1 h2
 unfold dG
 rw [e1]
 exact e2
def rZ (A:Adr) (E:En):Sp:=fun vs H Q _=>∃(s ds c:Addr) (p:Pa) (hv xs:List V) (hs:List Hd) (la:Nat->Addr) (k:S),vs=[.ref s,.ref p.pa,.ref c]/\H s=some (.ins A.Run ds [])/\mL A E H p hv hs xs/\H c=some (.dK (dk E.N E.idx (cV E la k.num)))/\(∀i ∈ E.ls,la i ≠ c/\H (la i)=some (.lst ((k.lst i).map V.int)))/\(∀i ∈ E.ls,∀j ∈ E.ls,la i=la j->i=j)/\k.ok E/\k.steps=0/\k.trace=[]/\k.fA=[]/\k.pe=[] /\
 ∀(d b db sd e t l:Addr) (H':Hp),But s H H'->H b=none->H t=none->H l=none->H sd=none->bq A E H' ⟨s,ds,d,c,b,db,sd,e,t,l,la⟩ k->Q .non H'
theorem pY {la:Nat->Addr}:∀{xs:List Nat},xs.Nodup->(∀i ∈ xs,∀j ∈ xs,la i=la j->i=j)->(xs.map la).Nodup
 | [],_,_=>List.nodup_nil
 | x :: r,nd,h=>by
  rw [List.nodup_cons] at nd
  rw [List.map_cons,List.nodup_cons]
  refine ⟨fun m=>?_,pY nd.2 fun i hi j hj=>h i (List.mem_cons_of_mem _ hi) j (List.mem_cons_of_mem _ hj)⟩
  obtain ⟨j,hj,e⟩:=List.mem_map.mp m
  rw [<- h j (List.mem_cons_of_mem _ hj) x List.mem_cons_self e] at nd
  exact nd.1 hj
theorem sR (T:Txt K mg A) (O:E.Ok):di P w K mg base 3 A.Run "__init__" ["self","program","cells"] (rZ A E):=by
 have D_Book_init:=rV (P:=P) (w:=w) (base:=base) T
 refine T.oN.has (k:=2) mI (fun vs H Q E h=>?_) (fun f cdv A' outer s' H vs Q E' hr hu h=>?_)
 ·obtain ⟨s,ds,c,p,hv,xs,hs,la,k,rfl,_⟩:=h
  rfl
 ·obtain ⟨s,ds,c,p,hv,xs,hs0,la,k,rfl,hs,R,G,hL,hI,ok,k1,k2,k3,k4,q⟩:=h
  refine ⟨_,(ab (aZ (fv 0) (gp) rfl)
  (ab (dD PassesOwn.never rfl (eu (aA (fv 1) rfl)) (pgn (i:=3) mI.nd rfl)
   (ag (bN (fv 3) (bR (aA (fv 0) rfl) (aA (fv 3) rfl) (bS hu set_list)))))
  (ab (aZ (fv 0) (fv 2) rfl)
  (ag (aZ (fv 0) (v8 T.c6 D_Book_init hr) rfl))))),?_⟩
  refine fun d hd=>?_
  have sm1:=ah.upd hd (HO.dK [])
  have ds0:d ≠ s:=fun z=>by rw [z,hs] at hd;cases hd
  refine ⟨s,_,ds,_,rfl,sm1 _ _ hs,T.bV.cl,T.gJ,by simp,?_⟩
  have b2:But s H (upd (upd H d (HO.dK [])) s (.ins A.Run ds (cG "deeds" (.ref d) []))):=(But.of sm1).trans (But.at s _ _)
  have x2:(upd (upd H d (HO.dK [])) s (.ins A.Run ds (cG "deeds" (.ref d) []))) s=some (.ins A.Run ds [("deeds",.ref d)]):=ar
  have d2:(upd (upd H d (HO.dK [])) s (.ins A.Run ds (cG "deeds" (.ref d) []))) d=some (.dK []):=by rw [aK ds0];exact ar
  generalize upd (upd H d (HO.dK [])) s (.ins A.Run ds (cG "deeds" (.ref d) []))=H2 at b2 x2 d2 ⊢
  have ps:p.pa ≠ s:=fun z=>by have:=R.pr;rw [z,hs] at this;exact absurd (HO.ins.inj (Option.some.inj this)).1 (ai T 16 15)
  have dds:p.dd ≠ s:=fun z=>by have:=R.dd;rw [z,hs] at this;cases this
  refine ⟨p.pa,_,p.dp,_,_,rfl,b2 _ ps _ R.pr,T.cD.cl,T.cO,rfl,Or.inl ⟨⟨_,SqL.of (b2 _ dds _ R.dd)⟩,?_⟩⟩
  refine dO (K:=K) (xs:=E.dv) (fun i σ H3=>But s H H3/\H3 s=some (.ins A.Run ds [("deeds",.ref d)])/\H3 d=some (.dK (dk E.N ((E.ds.take i).map Dd.nm) (dG E)))/\∃v,σ=[some (.ref s),some (.ref p.pa),some (.ref c),v]) ⟨b2,x2,d2,_,rfl⟩ (fun i σ H3 _ h=>SqL.of (h.1 _ dds _ R.dd)) ?_ ?_
  ·rintro i u σ H3 hx ⟨b3,x3,d3,z,rfl⟩
   obtain ⟨D,hD,a,dx,n,pp,pb,rfl,ha,_⟩:=bW R.d hx
   have as:a ≠ s:=fun z=>by rw [z,hs] at ha;exact absurd (HO.ins.inj (Option.some.inj ha)).1 (ai T 16 14)
   have il:i < E.ds.length:=(List.getElem?_eq_some_iff.mp hD).1
   have dl:=O.dl
   refine ⟨s,_,ds,_,_,rfl,x3,T.bV.cl,T.gJ,rfl,a,_,dx,_,_,rfl,b3 _ as _ ha,T.cq.cl,T.dQ,rfl,_,du.k (k:=.inr (E.N D.nm)) d3 (aR (by rw [gE,List.length_map,List.length_take];omega)),?_⟩
   refine ⟨fun b hb o hq=>by rw [aK (dH hq hd)];exact b3 b hb o hq,by rw [aK (Ne.symm ds0)];exact x3,?_,_,rfl⟩
   have nm:∀j ∈ (E.ds.take i).map Dd.nm,j < 18:=fun j hj=>by
    obtain ⟨d',hd',rfl⟩:=List.mem_map.mp hj
    exact O.dn d' (List.mem_of_mem_take hd')
   have nn:D.nm ∉ (E.ds.take i).map Dd.nm:=fun hj=>by
    have:=O.dd
    rw [show E.ds=E.ds.take i ++ D :: E.ds.drop (i + 1) by rw [<- j3 hD,List.take_append_drop],List.map_append,List.map_cons] at this
    exact (List.nodup_append.mp this).2.2 _ hj _ List.mem_cons_self rfl
   rw [ar,fJ O.D (O.dn D (List.mem_of_getElem? hD)) nm nn,take_snoc hD,List.map_append]
   refine congrArg some (congrArg HO.dK (gz fun j _=>?_))
   by_cases e:j=D.nm
   ·rw [e,dB,BK O hD hx]
   ·rw [fU _ _ e]
  ·rintro σ H3 ⟨b3,x3,d3,z,rfl⟩
   rw [show E.dv.length=E.ds.length from O.dv,List.take_length] at d3
   refine ⟨s,_,ds,_,rfl,x3,T.bV.cl,T.cW,by simp,?_⟩
   have b4:But s H (upd H3 s (.ins A.Run ds (cG "cells" (.ref c) [("deeds",.ref d)]))):=b3.trans (But.at s _ _)
   have x4:(upd H3 s (.ins A.Run ds (cG "cells" (.ref c) [("deeds",.ref d)]))) s=some (.ins A.Run ds [("deeds",.ref d),("cells",.ref c)]):=ar
   have d4:(upd H3 s (.ins A.Run ds (cG "cells" (.ref c) [("deeds",.ref d)]))) d=some (.dK (dk E.N (E.ds.map Dd.nm) (dG E))):=by rw [aK ds0];exact d3
   generalize upd H3 s (.ins A.Run ds (cG "cells" (.ref c) [("deeds",.ref d)]))=H4 at b4 x4 d4 ⊢
   refine fun b db hb hdb hne=>⟨b,db,rfl,ar,fun l sd t e H5 nl ns nt _ bt nb=>⟨rfl,?_⟩⟩
   have sm5:ah H4 H5:=But.same bt hb hdb
   have l4:=gm hb hdb nl
   have t4:=gm hb hdb nt
   have sd4:=gm hb hdb ns
   have ne4:∀{x y:Addr}{o:HO},H4 x=none->H4 y=some o->x ≠ y:=fun h1 h2 z=>by rw [z,h2] at h1;cases h1
   have cs:c ≠ s:=fun z=>by rw [z,hs] at G;cases G
   have c4:=b4 _ cs _ G
   have las:∀i ∈ E.ls,la i ≠ s:=fun i hi z=>by have:=(hL i hi).2;rw [z,hs] at this;cases this
   have la4:∀i ∈ E.ls,H4 (la i)=some (.lst ((k.lst i).map V.int)):=fun i hi=>b4 _ (las i hi) _ (hL i hi).2
   have bs:=ne4 hb x4
   have ls:=ne4 l4 x4
   have ts:=ne4 t4 x4
   have ss:=ne4 sd4 x4
   have cd:d ≠ c:=fun z=>by rw [z,G] at hd;cases hd
   refine ⟨s,_,ds,_,rfl,sm5 _ _ x4,T.bV.cl,T.f7,by simp,?_⟩
   have up:∀{x:Addr}{o:HO},x ≠ s->H5 x=some o->(upd H5 s (.ins A.Run ds (cG "book" (.ref b) [("deeds",.ref d),("cells",.ref c)]))) x=some o:=fun h1 h2=>aj h1 h2
   have bt':b ≠ t:=fun z=>by have:=nb.b;rw [z,nb.ht] at this;cases this
   have bl':b ≠ l:=fun z=>by have:=nb.b;rw [z,nb.hl] at this;cases this
   have bd':b ≠ sd:=fun z=>by have:=nb.b;rw [z,nb.hs] at this;cases this
   have db':d ≠ b:=(ne4 hb d4).symm
   have dt':d ≠ t:=(ne4 t4 d4).symm
   have dl':d ≠ l:=(ne4 l4 d4).symm
   have dd':d ≠ sd:=(ne4 sd4 d4).symm
   have sM:s ∉ Ra.M ⟨s,ds,d,c,b,db,sd,e,t,l,la⟩ E:=fun m=>by
    unfold Ra.M at m
    rcases List.mem_append.mp m with m | m
    ·simp only [List.mem_cons,List.not_mem_nil,or_false] at m
     rcases m with z | z | z | z | z
     ·exact bs z.symm
     ·exact cs z.symm
     ·exact ts z.symm
     ·exact ls z.symm
     ·exact ss z.symm
    ·obtain ⟨i,hi,z⟩:=List.mem_map.mp m
     exact las i hi z
   have dM:d ∉ Ra.M ⟨s,ds,d,c,b,db,sd,e,t,l,la⟩ E:=fun m=>by
    unfold Ra.M at m
    rcases List.mem_append.mp m with m | m
    ·simp only [List.mem_cons,List.not_mem_nil,or_false] at m
     rcases m with z | z | z | z | z
     ·exact db' z
     ·exact cd z
     ·exact dt' z
     ·exact dl' z
     ·exact dd' z
    ·obtain ⟨i,hi,z⟩:=List.mem_map.mp m
     have:=la4 i hi
     rw [show la i=d from z,d4] at this
     cases this
   have lsn:E.ls.Nodup:=O.nd.sublist List.filter_sublist
   have nod:(Ra.M ⟨s,ds,d,c,b,db,sd,e,t,l,la⟩ E).Nodup:=by
    unfold Ra.M
    refine List.nodup_append.mpr ⟨?_,pY lsn hI,fun x hx y hy z=>?_⟩
    ·simp [ne4 hb c4,bt',bl',bd',(ne4 t4 c4).symm,(ne4 l4 c4).symm,(ne4 sd4 c4).symm,nb.tl,Ne.symm nb.dt,Ne.symm nb.dl]
    ·obtain ⟨i,hi,rfl⟩:=List.mem_map.mp hy
     have l1:=la4 i hi
     simp only [List.mem_cons,List.not_mem_nil,or_false] at hx
     rcases hx with w | w | w | w | w
     ·exact ne4 hb l1 (w.symm.trans z)
     ·exact (hL i hi).1 (z.symm.trans w)
     ·exact ne4 t4 l1 (w.symm.trans z)
     ·exact ne4 l4 l1 (w.symm.trans z)
     ·exact ne4 sd4 l1 (w.symm.trans z)
   refine q d b db sd e t l _ ((b4.trans (But.of sm5)).trans (But.at s _ _)) (b4.none bs hb) (b4.none ts t4) (b4.none ls l4) (b4.none ss sd4) ⟨nod,ba sM ar,ba dM (up ds0 (sm5 _ _ d4)),?_,up cs (sm5 _ _ c4),⟨[],up ts nb.ht,by rw [k2];exact .nil⟩,⟨[],up ls nb.hl,by rw [k3];exact .nil⟩,⟨[],up ss nb.hs,by rw [k4];exact .nil⟩,fun i hi=>up (las i hi) (sm5 _ _ (la4 i hi)),ok⟩
   show _=some (HO.ins A.ck db [("letters",.ref l),("said",.ref sd),("trace",.ref t),("steps",.int k.steps),("ends",.ref e)])
   rw [k1]
   exact up bs nb.b
def Hd.own?:Hd->List Nat
 | .own i _=>[i]
 | _=>[]
theorem kU (T:Txt K mg A) {H H2:Hp}{f:Nat->V}{S0:List Hd}:∀{hv:List V}{hs:List Hd}{ys:List V},(∀h ∈ hs,h ∈ S0)->Paired (kB A N H) hv hs->Paired (fun x y=>∀i z,Hd.own i z ∈ S0->kB A N H x (.own i z)->∃t,y=V.ref t/\H2 t=some (.tup [.str (N i),f i])) (hv.filter (qg A H)) ys->Paired (fun j y=>∃t,y=V.ref t/\H2 t=some (.tup [.str (N j),f j])) (hs.flatMap Hd.own?) ys
 | _,_,_,_,.nil,h=>by
  cases h
  exact .nil
 | v :: hv,h :: hs,ys,sb,.cons p r,q=>by
  have sb':∀h ∈ hs,h ∈ S0:=fun h m=>sb h (List.mem_cons_of_mem _ m)
  rw [List.flatMap_cons]
  have no:∀{C:Addr}{a dx:Addr}{fs:List (Str × V)},v=.ref a->H a=some (.ins C dx fs)->C ≠ A.bF->qg A H v=false:=fun e h n=>by rw [e,eh h,decide_eq_false n]
  cases h with
  | hand x =>
   obtain ⟨a,dx,n,rk,e,ha⟩:=p
   rw [List.filter_cons,no e ha (show A.bL ≠ A.bF from ai T 2 4)] at q
   exact kU T sb' r q
  | giv x z =>
   obtain ⟨a,dx,n,rk,e,ha⟩:=p
   rw [List.filter_cons,no e ha (show A.aX ≠ A.bF from ai T 3 4)] at q
   exact kU T sb' r q
  | lt x =>
   obtain ⟨a,dx,n,rk,e,ha⟩:=p
   rw [List.filter_cons,no e ha (show A.cm ≠ A.bF from ai T 5 4)] at q
   exact kU T sb' r q
  | own x z =>
   have p0:=p
   obtain ⟨a,dx,n,e,ha⟩:=p
   rw [List.filter_cons,show qg A H v=true by rw [e,eh ha,decide_eq_true rfl],if_pos rfl] at q
   cases q with
   | cons h1 h2=>exact .cons (h1 x z (sb _ List.mem_cons_self) p0) (kU T sb' r h2)
end
section
variable {P:Program}{w:World}{K:W.Frag}{mg:Str->Option Value}{base:Heap}{A:Adr}{E:En}
def ownsOf (hs:List Hd):List Nat:=hs.flatMap Hd.own?
def zx (A:Adr) (E:En):Sp:=fun vs H Q _=>∃(p:Pa) (c:Addr) (hv xs:List V) (hs:List Hd) (f:Nat->V),vs=[.ref p.pa,.ref c]/\mL A E H p hv hs xs/\Hds E hs/\H c=some (.dK (dk E.N E.idx f))/\∀e H',ah H H'->H e=none->H' e=some (.dK (dk E.N (ownsOf hs) f))->Q (.ref e) H'
theorem o3 {hs:List Hd} (Z:Hds E hs):∀i ∈ ownsOf hs,i ∈ E.idx:=fun i hi=>by
 obtain ⟨h,hm,m⟩:=List.mem_flatMap.mp hi
 rw [Z.e]
 refine List.mem_append_left _ (List.mem_flatMap.mpr ⟨h,hm,?_⟩)
 cases h with
 | own j z=>exact m
 | _=>cases m
theorem qR:∀hs:List Hd,(ownsOf hs).Sublist (hs.flatMap Hd.cell)
 | []=>List.Sublist.refl _
 | x :: r=>by
  unfold ownsOf
  rw [List.flatMap_cons,List.flatMap_cons]
  refine List.Sublist.append ?_ (qR r)
  cases x with
  | own j z=>exact List.Sublist.refl _
  | giv j z=>exact List.nil_sublist _
  | hand j=>exact List.Sublist.refl _
  | lt j=>exact List.Sublist.refl _
theorem sr {N:Nat->Str} (D:jF N) {f:Nat->V}:∀(r pre:List Nat),(∀j ∈ pre ++ r,j < 18)->(pre ++ r).Nodup->cA (dk N pre f) (dk N r f)=dk N (pre ++ r) f
 | [],pre,_,_=>by rw [List.append_nil];rfl
 | i :: r,pre,hb,nd=>by
  have e:pre ++ i :: r=(pre ++ [i]) ++ r:=by rw [List.append_assoc];rfl
  have m:i ∉ pre:=fun z=>(List.nodup_append.mp nd).2.2 i z i List.mem_cons_self rfl
  have hi:i < 18:=hb i (by simp)
  show cA (putK (dk N pre f) (.inr (N i)) (f i)) (dk N r f)=_
  rw [fJ D hi (fun j hj=>hb j (List.mem_append_left _ hj)) m]
  have c:dk N (pre ++ [i]) (rG f i (f i))=dk N (pre ++ [i]) f:=gz fun j _=>by
   by_cases z:j=i
   ·rw [z,dB]
   ·rw [fU _ _ z]
  rw [c,e]
  exact sr D r (pre ++ [i]) (by rw [<- e];exact hb) (by rw [<- e];exact nd)
theorem BA (T:Txt K mg A) (O:E.Ok):Has P w K mg base 1 "ends_of" ["program","cells"] (zx A E):=by
 refine T.vy.has tY (fun vs H Q E h=>?_) (fun f' cdv A' outer s' H vs Q E' hr hu h=>?_)
 ·obtain ⟨p,c,hv,xs,hs,f,rfl,_⟩:=h
  rfl
 ·obtain ⟨p,c,hv,xs,hs,f,rfl,R,Z,hc,q⟩:=h
  have hl:=R.l
  refine ⟨_,(ag (az (cN zc rfl T.qT (by boot_by_name) (aa (j7 (N:=["head","cells"]) (own:=1) (fr:=[1]) (dC.of (by kernel_rfl!)) rfl (eu (aA (fv 0) rfl)) (fun b=>pgn (i:=0) (show List.Nodup (["head","cells"]:List PySem.Str) by decide +kernel) rfl) (fun b=>BF (b9 (aN bA rfl T.aH (by boot_by_name) (aa (fv 0) (aa (cI T.bG.mg) af))) (fun _=>rfl))) (fun b=>cB (aa (aA (fv 0) rfl) (aa (px hu (fv 1) (aA (fv 0) rfl)) af)))) af)))),?_⟩
  refine ⟨p.pa,_,p.dp,_,_,rfl,R.pr,T.cD.cl,T.eK,rfl,Or.inl ⟨⟨_,SqL.of R.hd⟩,uo (K:=K) (qg A H) (fun x y H2=>∀i z,Hd.own i z ∈ hs->kB A E.N H x (.own i z)->∃t,y=V.ref t/\H2 t=some (.tup [.str (E.N i),f i])) (SqL.of R.hd) (aR (by omega)) (fun b v H2 G hv' s2 k=>?_) (fun b v H2 G hv' hp s2 k=>?_) ?_ ?_ (fun D H2 ys hD s2 e pr=>?_)⟩⟩
  ·obtain ⟨n,hn⟩:=List.getElem?_of_mem hv'
   obtain ⟨h,hh,W⟩:=bW R.h hn
   cases h with
   | hand x =>
    obtain ⟨a,dx,n,rk,rfl,ha⟩:=W
    rw [eh ha,decide_eq_false (show A.bL ≠ A.bF from ai T 2 4)] at k
    exact ⟨_,_,_,false,rfl,(fun z=>by cases z),T.cP.bK (s2 _ _ ha),(bH T.cP T.bG (ai T 4 2) (ai T 4 1)),false,rfl,k _ (ah.refl _)⟩
   | giv x z =>
    obtain ⟨a,dx,n,rk,rfl,ha⟩:=W
    rw [eh ha,decide_eq_false (show A.aX ≠ A.bF from ai T 3 4)] at k
    exact ⟨_,_,_,false,rfl,(fun z=>by cases z),T.bh.bK (s2 _ _ ha),(bH T.bh T.bG (ai T 4 3) (ai T 4 1)),false,rfl,k _ (ah.refl _)⟩
   | lt x =>
    obtain ⟨a,dx,n,rk,rfl,ha⟩:=W
    rw [eh ha,decide_eq_false (show A.cm ≠ A.bF from ai T 5 4)] at k
    exact ⟨_,_,_,false,rfl,(fun z=>by cases z),T.dW.bK (s2 _ _ ha),(bH T.dW T.bG (ai T 4 5) (ai T 4 1)),false,rfl,k _ (ah.refl _)⟩
   | own x z =>
    obtain ⟨a,dx,n,rfl,ha⟩:=W
    rw [eh ha,decide_eq_true rfl] at k
    exact ⟨_,_,_,true,rfl,(fun z=>by cases z),T.bG.bK (s2 _ _ ha),iT T.bG,true,rfl,k _ (ah.refl _)⟩
  ·obtain ⟨n,hn⟩:=List.getElem?_of_mem hv'
   obtain ⟨h,hh,W⟩:=bW R.h hn
   cases h with
   | hand x =>
    obtain ⟨a,dx,n,rk,rfl,ha⟩:=W
    rw [eh ha,decide_eq_false (show A.bL ≠ A.bF from ai T 2 4)] at hp
    cases hp
   | giv x z =>
    obtain ⟨a,dx,n,rk,rfl,ha⟩:=W
    rw [eh ha,decide_eq_false (show A.aX ≠ A.bF from ai T 3 4)] at hp
    cases hp
   | lt x =>
    obtain ⟨a,dx,n,rk,rfl,ha⟩:=W
    rw [eh ha,decide_eq_false (show A.cm ≠ A.bF from ai T 5 4)] at hp
    cases hp
   | own x z =>
    obtain ⟨a,dx,n,rfl,ha⟩:=W
    have xm:x ∈ E.idx:=o3 Z x (List.mem_flatMap.mpr ⟨_,List.mem_of_getElem? hh,by simp [Hd.own?]⟩)
    have gd:cj H2 c (.str (E.N x)) (some (f x)):=by
     have:=cj.k (k:=.inr (E.N x)) (s2 _ _ hc)
     rw [iU O.D O.b xm] at this
     exact this
    refine ⟨a,_,dx,_,_,rfl,s2 _ _ ha,T.bG.cl,T.dA,rfl,a,_,dx,_,_,rfl,s2 _ _ ha,T.bG.cl,T.dA,rfl,_,gd,(show 2 <= sizeLine by decide),fun t ht=>k _ _ (ah.upd ht _) fun i z' im W'=>⟨t,rfl,?_⟩⟩
    obtain ⟨a',dx',n',e',ha'⟩:=W'
    cases e'
    have im':i ∈ E.idx:=o3 Z i (List.mem_flatMap.mpr ⟨_,im,by simp [Hd.own?]⟩)
    have ex:E.N x=E.N i:=by
     have h1:=ha.symm.trans ha'
     simp at h1
     exact h1.2.2.1
    rw [ar,O.D x i (O.b x xm) (O.b i im') ex]
  ·rintro x y' H2 H3 s h i z im W'
   obtain ⟨t,e4,e5⟩:=h i z im W'
   exact ⟨t,e4,s _ _ e5⟩
  ·rintro x y' H2 D ys zs hD h i z im W'
   obtain ⟨t,e4,e5⟩:=h i z im W'
   exact ⟨t,e4,by rw [aK (fun z=>by rw [z,hD] at e5;cases e5)];exact e5⟩
  ·have pk:=kU T (fun _ h=>h) R.h pr
   obtain ⟨ps,e1,e2,e3⟩:=qm (K:=K) pk
   have nd:=O.nd
   rw [Z.e] at nd
   have em:cA [] (dk E.N (ownsOf hs) f)=dk E.N (ownsOf hs) f:=sr O.D (ownsOf hs) [] (fun j hj=>O.b j (o3 Z j hj)) ((List.nodup_append.mp nd).1.sublist (qR hs))
   have ll:(ownsOf hs).length <= 1000:=by
    have l1:=(qR hs).length_le
    have l2:=O.len
    rw [Z.e,List.length_append] at l2
    omega
   refine ⟨D,ps,dk E.N (ownsOf hs) f,rfl,by rw [<- e1];exact SqL.of e,by rw [e2,gE];rfl,by rw [gE];exact ll,e3,fun p4 hp4=>q p4 _ (s2.trans (ah.upd hp4 _)) (ah.free s2 hp4) (by rw [ar,em])⟩
end
section
variable {P:Program}{w:World}{K:W.Frag}{mg:Str->Option Value}{base:Heap}{A:Adr}{E:En}
structure A3 (A:Adr) (E:En) (hs:List Hd) (H:Hp) (b db l sd t e:Addr) (la:Nat->Addr) (k:S):Prop where
 hb:H b=some (.ins A.ck db [("letters",.ref l),("said",.ref sd),("trace",.ref t),("steps",.int k.steps),("ends",.ref e)])
 he:H e=some (.dK (dk E.N (ownsOf hs) (cV E la k.num)))
 ht:∃xs,H t=some (.lst xs)/\lJ H xs k.trace
 hl:∃xs,H l=some (.lst xs)/\lJ H xs k.fA
 hd:∃xs,H sd=some (.lst xs)/\lJ H xs k.pe
 ha:∀i ∈ E.ls,H (la i)=some (.lst ((k.lst i).map V.int))
def xK (A:Adr) (E:En) (f:Nat):Sp:=fun vs H Q _=>∃(p:Pa) (g:Addr) (hv xs:List V) (hs:List Hd) (gn:Nat->Int) (gl:Nat->List Int) (rows:List Rw),vs=[.ref p.pa,.ref g]/\mL A E H p hv hs xs/\Hds E hs/\ow E hs H g gn gl/\Paired (bO A E H f) xs rows/\(∀rw ∈ rows,Wf E f rw)/\(rows.map (aJ E f)).sum <= BIG /\
 ∀(b db l sd t e:Addr) (la:Nat->Addr) (H':Hp),ah H H'->A3 A E hs H' b db l sd t e la (br (doR E f) (S.new E hs gn gl) rows).1->(br (doR E f) (S.new E hs gn gl) rows).1.ok E->Q (.ref b) H'
theorem An {hs:List Hd}{H:Hp}{g:Addr}{gn:Nat->Int}{gl:Nat->List Int} (Z:Hds E hs) (G:ow E hs H g gn gl):(S.new E hs gn gl).ok E:=by
 refine ⟨fun a=>?_,fun x n hn=>?_,fun x hx hz=>?_⟩
 ·show In (if isG hs a then gn a else 0)
  split
  ·exact G.n a
  ·exact ⟨by decide,by decide⟩
 ·have hn:n ∈ (if isG hs x then gl x else zeros (E.sz x)):=hn
  split at hn
  ·exact G.l x n hn
  ·rw [List.eq_of_mem_replicate hn]
   exact ⟨by decide,by decide⟩
 ·show (if isG hs x then gl x else zeros (E.sz x)).length=E.sz x
  split
  ·rename_i c
   unfold isG at c
   rw [List.any_eq_true] at c
   obtain ⟨h,hm,e⟩:=c
   cases h with
   | giv j z =>
    have ej:j=x:=of_decide_eq_true e
    subst ej
    obtain ⟨kvs,k1,k2⟩:=G.d
    have ez:=Z.g j z hm
    obtain ⟨l,_,_,e3⟩:=(k2 j z hm).2 (by omega)
    rw [e3,ez]
   | _=>cases e
  ·exact List.length_replicate
theorem BV (T:Txt K mg A) (O:E.Ok) (f:Nat):Has P w K mg base (3 * f + 9) "run" ["program","gifts"] (xK A E f):=by
 refine T.run.has (k:=3 * f + 8) uq (fun vs H Q E h=>?_) (fun f' cdv A' outer s' H vs Q E' hr hu h=>?_)
 ·obtain ⟨p,g,hv,xs,hs,gn,gl,rows,rfl,_⟩:=h
  rfl
 ·obtain ⟨p,g,hv,xs,hs,gn,gl,rows,rfl,R,Z,G,pr,wf,rm,q⟩:=h
  have D_cells_of:=zA (P:=P) (w:=w) (base:=base) T O
  have D_Run_init:=sR (P:=P) (w:=w) (base:=base) T O
  have D_do_rows:di P w K mg base (3 * (f + 1) + 5) A.Run "do_rows" ["self","rows"] (lW A E f):=j4 (P:=P) (w:=w) (base:=base) T O (f + 1)
  have D_ends_of:=BA (P:=P) (w:=w) (base:=base) T O
  refine ⟨_,(ab (aE (i:=2) uq.nd rfl (Or.inl rfl) (bZ (hj:=by omega) T.bV D_Run_init hr (aa (fv 0) (aa (ao (hj:=by omega) D_cells_of hr (aa (fv 0) (aa (fv 1) af))) af))))
  (ab (aU (bB (hj:=by omega) (fv 2) T.bV.cl D_do_rows hr (aa (aA (fv 0) rfl) af)))
  (ab (aE (i:=3) uq.nd rfl (Or.inl rfl) (aA (fv 2) rfl))
  (ab (aZ (fv 3) (ao (hj:=by omega) D_ends_of hr (aa (fv 0) (aa (aA (fv 2) rfl) af))) rfl)
  (ag (az (fv 3))))))),?_⟩
  refine ⟨p,g,hv,xs,hs,gn,gl,rfl,R,Z,G,fun c la H1 c0 C=>?_⟩
  have s1:=C.s
  refine fun s ds' hs' hds hne=>?_
  have sm:ah H1 (upd (upd H1 ds' (.own s)) s (.ins A.Run ds' [])):=But.same (But.refl _ _) hs' hds
  have ok0:=An Z G
  have lsi:∀i ∈ E.ls,i ∈ E.idx/\0 < E.sz i:=fun i hi=>by
   obtain ⟨h1,h2⟩:=List.mem_filter.mp hi
   exact ⟨h1,of_decide_eq_true h2⟩
  refine ⟨s,ds',c,p,hv,xs,hs,la,S.new E hs gn gl,rfl,ar,(R.same s1).same sm,sm _ _ C.hc,fun i hi=>?_,fun i hi j hj e=>C.i i (lsi i hi).1 j (lsi j hj).1 (lsi i hi).2 (lsi j hj).2 e,ok0,rfl,rfl,rfl,rfl,fun d b db sd e t lt H2 b2 nb nt nl nd R2=>⟨rfl,?_⟩⟩
  ·obtain ⟨_,h2,h3⟩:=C.l i (lsi i hi).1 (lsi i hi).2
   exact ⟨h2,sm _ _ h3⟩
  have s12:ah H1 H2:=But.same b2 hs' hds
  have s2:ah H H2:=s1.trans s12
  have b0:=ah.free s1 (gm hs' hds nb)
  have t0:=ah.free s1 (gm hs' hds nt)
  have l0:=ah.free s1 (gm hs' hds nl)
  have d0:=ah.free s1 (gm hs' hds nd)
  have fM:∀x ∈ Ra.M ⟨s,ds',d,c,b,db,sd,e,t,lt,la⟩ E,H x=none:=fun x m=>by
   unfold Ra.M at m
   rcases List.mem_append.mp m with m | m
   ·simp only [List.mem_cons,List.not_mem_nil,or_false] at m
    rcases m with rfl | rfl | rfl | rfl | rfl
    ·exact b0
    ·exact c0
    ·exact t0
    ·exact l0
    ·exact d0
   ·obtain ⟨i,hi,rfl⟩:=List.mem_map.mp m
    exact (C.l i (lsi i hi).1 (lsi i hi).2).1
  have sX:ah H (del (Ra.M ⟨s,ds',d,c,b,db,sd,e,t,lt,la⟩ E) H2):=fun a o h=>ba (fun m=>by rw [fM a m] at h;cases h) (s2 a o h)
  refine ⟨s,ds',_,rfl,R2.s,rfl,p.pa,_,p.dp,_,_,rfl,s2 _ _ R.pr,T.cD.cl,T.dS,rfl,⟨s,ds',d,c,b,db,sd,e,t,lt,la⟩,S.new E hs gn gl,p.mn,xs,rows,rfl,R2,sX _ _ R.mn,Paired.cF pr (fun _ _=>bO.same sX),wf,⟨by show 0 + _ <= _;omega,by show (0:Int) <= 0;decide,by show (0:Int) <= 0;decide,by show (0:Int) <= 0;decide⟩,fun H3 g3 R3=>?_⟩
  have s3:=g3.keep s2 fM
  generalize (br (doR E f) (S.new E hs gn gl) rows).1=k at R3 q
  refine ⟨s,_,ds',_,_,rfl,R3.s,T.bV.cl,T.f7,rfl,?_⟩
  refine ⟨s,_,ds',_,_,rfl,R3.s,T.bV.cl,T.cW,rfl,p,c,hv,xs,hs,_,rfl,R.same s3,Z,R3.hc,fun e' H4 s4 e0 he4=>?_⟩
  have R4:=R3.same s4
  have hb4:=R4.hb
  obtain ⟨ts,ht,tt⟩:=R4.ht
  obtain ⟨ls,hl,tl⟩:=R4.hl
  obtain ⟨ss,hd,td⟩:=R4.hd
  have ne:=R4.ne
  refine ⟨b,_,db,_,rfl,hb4,T.c6.cl,T.ju,by simp [nE],?_⟩
  have g5:=Go.at (H:=H4) (Ra.inM ⟨s,ds',d,c,b,db,sd,e,t,lt,la⟩ E).1 (.ins A.ck db (cG "ends" (.ref e') (nE ⟨s,ds',d,c,b,db,sd,e,t,lt,la⟩ k)))
  have st:ah (del (Ra.M ⟨s,ds',d,c,b,db,sd,e,t,lt,la⟩ E) H4) (upd H4 b (.ins A.ck db (cG "ends" (.ref e') (nE ⟨s,ds',d,c,b,db,sd,e,t,lt,la⟩ k)))):=fun a o h=>aw _ _ (g5.same a o h)
  have eb:e' ≠ b:=fun z=>by rw [z,hb4] at he4;cases he4
  refine q b db lt sd t e' la _ (ah.out (s3.trans s4) b0 _) ⟨ar,aj eb he4,⟨ts,aj ne.bt.symm ht,tt.same st⟩,⟨ls,aj ne.bl.symm hl,tl.same st⟩,⟨ss,aj ne.bd.symm hd,td.same st⟩,fun i hi=>aj (ne.a i hi).1 (R4.ha i hi)⟩ R3.ok
end
section
variable {E:En}{s:S}
def bw (xs:List (Option Int)):Option Int:=xs.foldl (fun s x=>s.bind fun a=>x.map fun b=>a + b) (some 0)
abbrev sumF:Option Int->Option Int->Option Int:=fun s x=>s.bind fun a=>x.map fun b=>a + b
def aT (E:En):Nat->Rw->Option Int
 | d + 1,.call _ i _=>match E.ds[i]? with
  | some D=>(bw (D.body.map (aT E d))).map fun x=>1 + x
  | none=>some 1
 | d + 1,.iff _ _ f o l r=>match bw (f.map (aT E d)),bw (o.map (aT E d)) with
  | some x,some y=>if l + x=r + y then some (1 + l + x) else none
  | _,_=>none
 | d + 1,.loop _ _ m b l r=>match bw (b.map (aT E d)) with
  | some x=>if l + x=r then some (1 + m * r) else none
  | none=>none
 | _,_=>some 1
theorem map_eq {α β:Type}{g h:α->β}{xs:List α} (hh:∀a ∈ xs,g a=h a):xs.map g=xs.map h:=List.map_congr_left hh
theorem Wf.up:∀{d:Nat}{r:Rw},Wf E d r->Wf E (d + 1) r:=by
 intro d
 induction d with
 | zero=>intro r h;cases r <;> first | exact h | exact h.elim
 | succ d ih =>
  intro r h
  cases r with
  | call n i ts =>
   obtain ⟨h1,h2,D,h3,h4,h5⟩:=h
   exact ⟨h1,h2,D,h3,h4,fun q hq=>ih (h5 q hq)⟩
  | iff n v f o l r =>
   obtain ⟨h1,h2,h3,h4,h5⟩:=h
   exact ⟨h1,h2,h3,fun q hq=>ih (h4 q hq),fun q hq=>ih (h5 q hq)⟩
  | loop n t m b l r =>
   obtain ⟨h1,h2,h3,h4,h5,h6⟩:=h
   exact ⟨h1,h2,h3,h4,h5,fun q hq=>ih (h6 q hq)⟩
  | _=>exact h
theorem zy:∀{d:Nat}{r:Rw},Wf E d r->aJ E (d + 1) r=aJ E d r:=by
 intro d
 induction d with
 | zero=>intro r h;cases r <;> first | rfl | exact h.elim
 | succ d ih =>
  intro r h
  cases r with
  | call n i ts =>
   obtain ⟨h1,h2,D,h3,h4,h5⟩:=h
   unfold aJ
   rw [h3]
   dsimp only
   rw [map_eq fun q hq=>ih (h5 q hq)]
  | iff n v f o l r =>
   obtain ⟨h1,h2,h3,h4,h5⟩:=h
   unfold aJ
   rw [map_eq fun q hq=>ih (h4 q hq),map_eq fun q hq=>ih (h5 q hq)]
  | loop n t m b l r =>
   obtain ⟨h1,h2,h3,h4,h5,h6⟩:=h
   unfold aJ
   rw [map_eq fun q hq=>ih (h6 q hq)]
  | _=>rfl
theorem yC:∀{d:Nat}{r:Rw},Wf E d r->aT E (d + 1) r=aT E d r:=by
 intro d
 induction d with
 | zero=>intro r h;cases r <;> first | rfl | exact h.elim
 | succ d ih =>
  intro r h
  cases r with
  | call n i ts =>
   obtain ⟨h1,h2,D,h3,h4,h5⟩:=h
   unfold aT
   rw [h3]
   dsimp only
   rw [map_eq fun q hq=>ih (h5 q hq)]
  | iff n v f o l r =>
   obtain ⟨h1,h2,h3,h4,h5⟩:=h
   unfold aT
   rw [map_eq fun q hq=>ih (h4 q hq),map_eq fun q hq=>ih (h5 q hq)]
  | loop n t m b l r =>
   obtain ⟨h1,h2,h3,h4,h5,h6⟩:=h
   unfold aT
   rw [map_eq fun q hq=>ih (h6 q hq)]
  | _=>rfl
theorem Wf.upN {d n:Nat}{r:Rw} (h:Wf E d r):Wf E (d + n) r:=by
 induction n with
 | zero=>exact h
 | succ n ih=>exact ih.up
theorem qQ {d e:Nat} (le:d <= e) {r:Rw} (h:Wf E d r):aJ E e r=aJ E d r:=by
 obtain ⟨n,rfl⟩:∃n,e=d + n:=⟨e - d,by omega⟩
 clear le
 induction n with
 | zero=>rfl
 | succ n ih=>exact (zy h.upN).trans ih
theorem oJ {d e:Nat} (le:d <= e) {r:Rw} (h:Wf E d r):aT E e r=aT E d r:=by
 obtain ⟨n,rfl⟩:∃n,e=d + n:=⟨e - d,by omega⟩
 clear le
 induction n with
 | zero=>rfl
 | succ n ih=>exact (yC h.upN).trans ih
theorem bO.up {A:Adr}{X:Hp}:∀{d:Nat}{v:V}{r:Rw},bO A E X d v r->bO A E X (d + 1) v r:=by
 intro d
 induction d with
 | zero=>intro v r h;cases r <;> first | exact h | exact h.elim
 | succ d ih =>
  intro v r h
  cases r with
  | call n i ts =>
   obtain ⟨a,dx,p,D,e,h0,h1,h2,da,dy,dn,pp,pb,xs,g0,g1,g2,g3,g4⟩:=h
   exact ⟨a,dx,p,D,e,h0,h1,h2,da,dy,dn,pp,pb,xs,g0,g1,g2,g3,Paired.cF g4 fun _ _=>ih⟩
  | iff n v f o l r =>
   obtain ⟨a,dx,p,pf,po,xf,xo,e,h1,h2,h3,h4,h5,h6⟩:=h
   exact ⟨a,dx,p,pf,po,xf,xo,e,h1,h2,h3,h4,Paired.cF h5 fun _ _=>ih,Paired.cF h6 fun _ _=>ih⟩
  | loop n t m b l r =>
   obtain ⟨a,dx,pb,xb,e,h1,h2,h3⟩:=h
   exact ⟨a,dx,pb,xb,e,h1,h2,Paired.cF h3 fun _ _=>ih⟩
  | _=>exact h
theorem bO.upN {A:Adr}{X:Hp}{d n:Nat}{v:V}{r:Rw} (h:bO A E X d v r):bO A E X (d + n) v r:=by
 induction n with
 | zero=>exact h
 | succ n ih=>exact ih.up
theorem fq:∀xs:List (Option Int),xs.foldl sumF none=none
 | []=>rfl
 | _ :: r=>fq r
theorem me:∀(xs:List (Option Int)) (a:Int) {t:Int},xs.foldl sumF (some a)=some t->∃u,bw xs=some u/\t=a + u
 | [],a,t,h=>⟨0,rfl,by cases h;omega⟩
 | x :: r,a,t,h=>by
  cases x with
  | none=>exact absurd (h.symm.trans (fq r)) (by intro z;cases z)
  | some b =>
   have h1:r.foldl sumF (some (a + b))=some t:=h
   obtain ⟨u,e1,e2⟩:=me r (a + b) h1
   have:∀(ys:List (Option Int)) (c:Int) {v:Int},bw ys=some v->ys.foldl sumF (some c)=some (c + v):=by
    intro ys
    induction ys with
    | nil=>intro c v hv;cases hv;show some c=some (c + 0);rw [Int.add_zero]
    | cons y ys ih =>
     intro c v hv
     cases y with
     | none=>exact absurd (hv.symm.trans (fq ys)) (by intro z;cases z)
     | some d =>
      have hv':ys.foldl sumF (some (0 + d))=some v:=hv
      show ys.foldl sumF (some (c + d))=_
      cases e:bw ys with
      | none =>
       exfalso
       have q:∀(zs:List (Option Int)) (c d:Int),zs.foldl sumF (some c)=none->zs.foldl sumF (some d)=none:=by
        intro zs
        induction zs with
        | nil=>intro c d h;cases h
        | cons z zs ihz =>
         intro c d h
         cases z with
         | none=>exact fq zs
         | some k=>exact ihz (c + k) (d + k) h
       rw [q ys 0 (0 + d) e] at hv'
       cases hv'
      | some w =>
       rw [ih (c + d) e]
       rw [ih (0 + d) e] at hv'
       cases hv'
       congr 1
       omega
   refine ⟨b + u,?_,by omega⟩
   show r.foldl sumF (some (0 + b))=_
   rw [this r (0 + b) e1]
   congr 1
   omega
theorem kG {f:S->Rw->S × Bool}{c:Rw->Option Int}{p:Rw->Prop} (one:∀(s:S) (r:Rw) (e:Int),p r->c r=some e->(f s r).1.steps=s.steps + e):∀(xs:List Rw) (q:S × Bool) (t:Int),(∀r ∈ xs,p r)->bw (xs.map c)=some t->(xs.foldl (step f) q).1.steps=q.1.steps + t
 | [],q,t,_,h=>by cases h;show q.1.steps=q.1.steps + 0;omega
 | r :: xs,q,t,hp,h=>by
  rw [List.map_cons] at h
  have h1:(xs.map c).foldl sumF (sumF (some 0) (c r))=some t:=h
  cases e:c r with
  | none=>rw [e] at h1;exact absurd (h1.symm.trans (fq _)) (by intro z;cases z)
  | some b =>
   rw [e] at h1
   have h2:(xs.map c).foldl sumF (some (0 + b))=some t:=h1
   obtain ⟨u,e1,e2⟩:=me _ _ h2
   rw [List.foldl_cons,kG one xs _ u (fun q hq=>hp q (List.mem_cons_of_mem _ hq)) e1]
   show (f q.1 r).1.steps + u=_
   rw [one q.1 r b (hp r List.mem_cons_self) e]
   omega
theorem kS {body:S->S × Bool}{l x:Int} (one:∀s:S,(body s).1.steps=s.steps + x):∀(n j:Nat) (s:S),(rounds body l n j s).1.steps=s.steps + (((rounds body l n j s).2:Int) - (j:Int)) * (l + x)
 | 0,j,s=>by
  simp only [rounds]
  rw [Int.sub_self,Int.zero_mul,Int.add_zero]
 | n + 1,j,s=>by
  simp only [rounds]
  have h0:((body s).1.idle l).steps=s.steps + (l + x):=by show (body s).1.steps + l=_;rw [one];omega
  split
  ·rw [h0,show (((j + 1:Nat):Int) - (j:Int))=1 by omega,Int.one_mul]
  ·rw [kS one n (j + 1),h0,show ((rounds body l n (j + 1) ((body s).1.idle l)).2:Int) - (j:Int)=(((rounds body l n (j + 1) ((body s).1.idle l)).2:Int) - ((j + 1:Nat):Int)) + 1 by omega,Int.add_mul,Int.one_mul]
   omega
theorem kK (s:S):∀xs:List (Nat × Int),(s.qK xs).steps=s.steps/\(s.qK xs).trace=s.trace:=fun xs=>by
 induction xs generalizing s with
 | nil=>exact ⟨rfl,rfl⟩
 | cons p r ih=>exact ih (s.put p.1 p.2)
theorem fh (N:Nat->Str) (s:S) (r:Rw):(leaf N s r).1.steps=s.steps + 1:=by cases r <;> rfl
theorem we (E:En):∀(d:Nat) (s:S) (r:Rw) (e:Int),Wf E d r->aT E d r=some e->(doR E d s r).1.steps=s.steps + e:=by
 intro d
 induction d with
 | zero=>intro s r e w h;cases r <;> first | (cases h;exact fh E.N s _) | exact w.elim
 | succ d ih =>
  intro s r e w h
  have rows:∀(xs:List Rw) (s:S) (t:Int),(∀r ∈ xs,Wf E d r)->bw (xs.map (aT E d))=some t->(br (doR E d) s xs).1.steps=s.steps + t:=fun xs s t hw ht=>kG (p:=Wf E d) (fun s r e w h=>ih s r e w h) xs (s,false) t hw ht
  cases r with
  | call m i ts =>
   obtain ⟨_,_,D,hD,_,hb⟩:=w
   unfold aT at h
   unfold doR
   rw [hD] at h ⊢
   dsimp only at h ⊢
   cases ha:bw (D.body.map (aT E d)) with
   | none=>rw [ha] at h;cases h
   | some x =>
    rw [ha] at h
    cases h
    rw [rows _ _ x hb ha,(kK _ _).1]
    show s.steps + 1 + x=s.steps + (1 + x)
    omega
  | iff m v f o l r =>
   obtain ⟨_,h1,h2,h3,h4⟩:=w
   unfold aT at h
   unfold doR
   cases ha:bw (f.map (aT E d)) with
   | none=>rw [ha] at h;cases h
   | some x =>
    cases hb:bw (o.map (aT E d)) with
    | none=>rw [ha,hb] at h;cases h
    | some y =>
     rw [ha,hb] at h
     dsimp only at h
     split at h
     ·rename_i c
      cases h
      split
      ·show (br (doR E d) (s.tell m .non) f).1.steps + l=_
       rw [rows _ _ x h3 ha]
       show s.steps + 1 + x + l=_
       omega
      ·show (br (doR E d) (s.tell m .non) o).1.steps + r=_
       rw [rows _ _ y h4 hb]
       show s.steps + 1 + y + r=_
       omega
     ·cases h
  | loop m t k b l r =>
   obtain ⟨_,h1,_,h2,h3,h4⟩:=w
   unfold aT at h
   unfold doR
   cases ha:bw (b.map (aT E d)) with
   | none=>rw [ha] at h;cases h
   | some x =>
    rw [ha] at h
    dsimp only at h
    split at h
    ·rename_i c
     cases h
     show (rounds (fun s=>br (doR E d) s b) l (want s t k).toNat 0 (s.tell m .non)).1.steps + _=_
     rw [kS (x:=x) (fun s=>rows b s x h4 ha),c]
     generalize (rounds (fun s=>br (doR E d) s b) l (want s t k).toNat 0 (s.tell m .non)).2=j
     show s.steps + 1 + ((j:Int) - ((0:Nat):Int)) * r + r * (k - (j:Int))=s.steps + (1 + k * r)
     rw [Int.mul_sub,Int.mul_comm r k,Int.mul_comm r]
     rw [show ((j:Int) - ((0:Nat):Int))=(j:Int) by omega]
     omega
    ·cases h
  | set m x v=>cases h;exact fh E.N s _
  | put m x p v=>cases h;exact fh E.N s _
  | snd m x v=>cases h;exact fh E.N s _
  | say m x v y=>cases h;exact fh E.N s _
  | last m=>cases h;exact fh E.N s _
def Ris:Int->List (List V)->Int->Prop
 | lo,[],hi=>lo <= hi
 | lo,w :: r,hi=>∃(a u:V) (t:Int),w=[a,.int t,u]/\lo < t/\Ris t r hi
theorem Ris.app:∀{ws us:List (List V)}{lo mid hi:Int},Ris lo ws mid->Ris mid us hi->Ris lo (ws ++ us) hi
 | [],[],lo,mid,hi,h1,h2=>Int.le_trans h1 h2
 | [],u :: us,lo,mid,hi,h1,h2=>by
  obtain ⟨a,b,t,e,lt,r⟩:=h2
  exact ⟨a,b,t,e,Int.lt_of_le_of_lt h1 lt,r⟩
 | w :: ws,us,lo,mid,hi,h1,h2=>by
  obtain ⟨a,b,t,e,lt,r⟩:=h1
  exact ⟨a,b,t,e,lt,Ris.app r h2⟩
def Tr (s0 s:S):Prop:=∃ws,s.trace=s0.trace ++ ws/\Ris s0.steps ws s.steps
theorem Tr.refl (s:S):Tr s s:=⟨[],(List.append_nil _).symm,Int.le_refl _⟩
theorem Tr.trans {a b c:S} (h1:Tr a b) (h2:Tr b c):Tr a c:=by
 obtain ⟨ws,e1,r1⟩:=h1
 obtain ⟨us,e2,r2⟩:=h2
 exact ⟨ws ++ us,by rw [e2,e1,List.append_assoc],r1.app r2⟩
theorem Tr.tell (s:S) (n:Int) (v:V):Tr s (s.tell n v):=⟨[[.int n,.int (s.steps + 1),v]],rfl,_,_,_,rfl,by omega,Int.le_refl _⟩
theorem Tr.idle (s:S) {n:Int} (h:0 <= n):Tr s (s.idle n):=⟨[],(List.append_nil _).symm,by show s.steps <= s.steps + n;omega⟩
theorem Tr.eq {s0 s s':S} (h:Tr s0 s) (e1:s'.trace=s.trace) (e2:s'.steps=s.steps):Tr s0 s':=by
 obtain ⟨ws,a,b⟩:=h
 exact ⟨ws,by rw [e1,a],by rw [e2];exact b⟩
theorem Tr.leaf (N:Nat->Str) (s:S) (r:Rw):Tr s (leaf N s r).1:=by
 cases r with
 | set m x v=>exact (Tr.tell s m .non).eq rfl rfl
 | put m x p v=>exact (Tr.tell s m .non).eq rfl rfl
 | snd m x v=>exact (Tr.tell s m (.int (v.num s))).eq rfl rfl
 | say m x v y=>exact (Tr.tell s m (.int (v.num s))).eq rfl rfl
 | last m=>exact Tr.tell s m .non
 | call m i ts=>exact Tr.tell s m .non
 | iff m v f o l r=>exact Tr.tell s m .non
 | loop m t k b l r=>exact Tr.tell s m .non
theorem Tr.rows {f:S->Rw->S × Bool}{p:Rw->Prop} (one:∀(s:S) (r:Rw),p r->Tr s (f s r).1):∀(xs:List Rw) (q:S × Bool),(∀r ∈ xs,p r)->Tr q.1 (xs.foldl (step f) q).1
 | [],q,_=>Tr.refl _
 | r :: xs,q,hp=>by
  rw [List.foldl_cons]
  exact (one q.1 r (hp r List.mem_cons_self)).trans (Tr.rows one xs (step f q r) fun q hq=>hp q (List.mem_cons_of_mem _ hq))
theorem Tr.rounds {body:S->S × Bool}{l:Int} (l0:0 <= l) (one:∀s:S,Tr s (body s).1):∀(n j:Nat) (s:S),Tr s (rounds body l n j s).1
 | 0,j,s=>Tr.refl _
 | n + 1,j,s=>by
  have h:=(one s).trans (Tr.idle _ l0)
  simp only [K27.rounds]
  split
  ·exact h
  ·exact h.trans (Tr.rounds l0 one n (j + 1) _)
theorem Tr.doR (E:En):∀(d:Nat) (s:S) (r:Rw),Wf E d r->Tr s (doR E d s r).1:=by
 intro d
 induction d with
 | zero=>intro s r w;cases r <;> first | exact Tr.leaf E.N s _ | exact w.elim
 | succ d ih =>
  intro s r w
  have rows:∀(xs:List Rw) (s:S),(∀r ∈ xs,Wf E d r)->Tr s (br (K27.doR E d) s xs).1:=fun xs s hw=>Tr.rows (p:=Wf E d) (fun s r w=>ih s r w) xs (s,false) hw
  cases r with
  | call m i ts =>
   obtain ⟨_,_,D,hD,_,hb⟩:=w
   unfold K27.doR
   rw [hD]
   exact (((Tr.tell s m .non).eq (kK _ _).2 (kK _ _).1)).trans (rows D.body _ hb)
  | iff m v f o l r =>
   obtain ⟨_,h1,h2,h3,h4⟩:=w
   unfold K27.doR
   split
   ·exact ((Tr.tell s m .non).trans (rows f _ h3)).trans (Tr.idle _ h1)
   ·exact ((Tr.tell s m .non).trans (rows o _ h4)).trans (Tr.idle _ h2)
  | loop m t k b l r =>
   obtain ⟨_,h1,_,h2,h3,h4⟩:=w
   unfold K27.doR
   have rl:=l8 (fun s=>br (K27.doR E d) s b) l (want s t k).toNat 0 (s.tell m .non)
   have wl:=qp s t k
   exact ((Tr.tell s m .non).trans (Tr.rounds h2 (fun s=>rows b s h4) _ _ _)).trans (Tr.idle _ (Int.mul_nonneg h3 (by omega)))
  | set m x v=>exact Tr.leaf E.N s _
  | put m x p v=>exact Tr.leaf E.N s _
  | snd m x v=>exact Tr.leaf E.N s _
  | say m x v y=>exact Tr.leaf E.N s _
  | last m=>exact Tr.leaf E.N s _
theorem yo (E:En) {d:Nat}{rows:List Rw} (wf:∀r ∈ rows,Wf E d r) (h0:s.trace=[]/\s.fA=[]/\s.pe=[]/\s.steps=0):(br (doR E d) s rows).1.steps <= (rows.map (aJ E d)).sum:=by
 obtain ⟨t0,l0,d0,z0⟩:=h0
 have:=j6 (E:=E) (B:=(rows.map (aJ E d)).sum) (p:=Wf E d) (fun s r n w h=>nM E d s r n w h) rows (s,false) 0 wf ⟨by rw [z0];omega,by rw [t0,z0];exact Int.le_refl _,by rw [l0,z0];exact Int.le_refl _,by rw [d0,z0];exact Int.le_refl _⟩
 have:=this.st
 show (rows.foldl (step (doR E d)) (s,false)).1.steps <= _
 omega
theorem wc (E:En) {d:Nat}{rows:List Rw}{e:Int} (wf:∀r ∈ rows,Wf E d r) (h0:s.steps=0) (h:bw (rows.map (aT E d))=some e):(br (doR E d) s rows).1.steps=e:=by
 have:=kG (p:=Wf E d) (fun s r e w h=>we E d s r e w h) rows (s,false) e wf h
 show (rows.foldl (step (doR E d)) (s,false)).1.steps=_
 rw [this]
 show s.steps + e=e
 omega
theorem wy (E:En) {d:Nat}{rows:List Rw} (wf:∀r ∈ rows,Wf E d r) (h0:s.steps=0) (t0:s.trace=[]):Ris 0 (br (doR E d) s rows).1.trace (br (doR E d) s rows).1.steps:=by
 obtain ⟨ws,e1,r⟩:=Tr.rows (p:=Wf E d) (fun s r w=>Tr.doR E d s r w) rows (s,false) wf
 rw [show (s,false).1.trace=[] from t0,List.nil_append] at e1
 rw [show (s,false).1.steps=0 from h0] at r
 show Ris 0 (rows.foldl (step (doR E d)) (s,false)).1.trace _
 rw [e1]
 exact r
end
section
variable {P:Program}{w:World}{K:W.Frag}{mg:Str->Option Value}{base:Heap}{A:Adr}{E:En}
def eV:Option Int->V
 | some x=>.int x
 | none=>.non
def CIn (n:Nat):Nat->Rw->Prop
 | _,.call _ i _=>i < n
 | d + 1,.iff _ _ f o _ _=>f.length <= 1000/\o.length <= 1000/\(∀q ∈ f,CIn n d q)/\∀q ∈ o,CIn n d q
 | d + 1,.loop _ _ _ b _ _=>b.length <= 1000/\∀q ∈ b,CIn n d q
 | _,_=>True
def knT (E:En) (F:Nat) (j:Nat):Int:=match E.ds.find? fun D=>decide (D.nm=j) with
 | some D=>(D.body.map (aJ E F)).sum
 | none=>0
def kxT (E:En) (F:Nat) (j:Nat):Option Int:=match E.ds.find? fun D=>decide (D.nm=j) with
 | some D=>bw (D.body.map (aT E F))
 | none=>none
theorem qI {D:Dd}:∀{ds:List Dd}{i:Nat},(ds.map Dd.nm).Nodup->ds[i]?=some D->ds.find? (fun q=>decide (q.nm=D.nm))=some D
 | [],_,_,h=>by cases h
 | x :: ds,0,_,h=>by
  cases h
  rw [List.find?_cons,decide_eq_true rfl]
 | x :: ds,i + 1,nd,h=>by
  rw [List.map_cons,List.nodup_cons] at nd
  have h':ds[i]?=some D:=by simpa using h
  have ne:x.nm ≠ D.nm:=fun z=>nd.1 (by rw [z];exact List.mem_map.mpr ⟨D,List.mem_of_getElem? h',rfl⟩)
  rw [List.find?_cons,decide_eq_false ne]
  exact qI nd.2 h'
theorem ym (O:E.Ok) {F i:Nat}{D:Dd} (h:E.ds[i]?=some D):knT E F D.nm=(D.body.map (aJ E F)).sum:=by
 unfold knT
 rw [qI O.dd h]
theorem xD (O:E.Ok) {F i:Nat}{D:Dd} (h:E.ds[i]?=some D):kxT E F D.nm=bw (D.body.map (aT E F)):=by
 unfold kxT
 rw [qI O.dd h]
def nms (E:En) (n:Nat):List Nat:=(E.ds.take n).map Dd.nm
theorem uz (O:E.Ok) (n:Nat):∀j ∈ nms E n,j < 18:=fun j hj=>by
 obtain ⟨d,hd,rfl⟩:=List.mem_map.mp hj
 exact O.dn d (List.mem_of_mem_take hd)
theorem uG {n i:Nat}{D:Dd} (h:E.ds[i]?=some D) (hi:i < n):D.nm ∈ nms E n:=List.mem_map.mpr ⟨D,List.mem_of_getElem? (i:=i) (by rw [List.getElem?_take_of_lt hi];exact h),rfl⟩
def KnM (E:En) (F:Nat) (H:Hp) (k:Addr) (n:Nat):Prop:=H k=some (.dK (dk E.N (nms E n) fun j=>.int (knT E F j)))
def KnX (E:En) (F:Nat) (H:Hp) (k:Addr) (n:Nat):Prop:=H k=some (.dK (dk E.N (nms E n) fun j=>eV (kxT E F j)))
def uV (A:Adr) (E:En) (F n d:Nat):Sp:=fun vs H Q _=>∃(v:V) (k:Addr) (r:Rw),vs=[v,.ref k]/\bO A E H d v r/\Wf E d r/\CIn n d r/\KnM E F H k n/\∀H',ah H H'->Q (.int (aJ E d r)) H'
def qY (A:Adr) (E:En) (F n d:Nat):Sp:=fun vs H Q _=>∃(q k:Addr) (xs:List V) (rs:List Rw),vs=[.ref q,.ref k]/\H q=some (.lst xs)/\rs.length <= 1000/\Paired (bO A E H d) xs rs/\(∀r ∈ rs,Wf E d r)/\(∀r ∈ rs,CIn n d r)/\KnM E F H k n/\∀H',ah H H'->Q (.int (rs.map (aJ E d)).sum) H'
def xc (A:Adr) (E:En) (F n:Nat):Nat->Sp
 | 0=>fun _ _ _ _=>False
 | d + 1=>qY A E F n d
variable {F n:Nat}
theorem lQ {d:Nat} (T:Txt K mg A) (D_most_of_row:Has P w K mg base (2 * d + 2) "most_of_row" ["row","known"] (uV A E F n d)):Has P w K mg base (2 * d + 3) "most_of" ["rows","known"] (qY A E F n d):=by
 refine T.qP.has (k:=2 * d + 2) oW (fun vs H Q E h=>?_) (fun f cdv A' outer s H vs Q E' hr hu h=>?_)
 ·obtain ⟨q,k,xs,rs,rfl,_⟩:=h
  rfl
 ·obtain ⟨p,k,xs,rs,rfl,hp,hl,pr,wf,ci,kw,q⟩:=h
  refine ⟨_,(ag (az (aN Cf rfl T.vz (by boot_by_name) (aa (j7 (N:=["row","known"]) (own:=1) (fr:=[1]) (dC.of (by kernel_rfl!)) rfl (eu (fv 0)) (fun b=>pgn (i:=0) (show List.Nodup (["row","known"]:List PySem.Str) by decide +kernel) rfl) (fun b=>kD) (fun b=>ao (hj:=by omega) D_most_of_row hr (aa (fv 0) (aa (fv 1) af)))) af)))),?_⟩
  have pl:=Paired.length pr
  refine Or.inl ⟨⟨_,SqL.of hp⟩,sk (K:=K) (fun i y _=>∀r,rs[i]?=some r->y=.int (aJ E d r)) (SqL.of hp) (aR (by omega)) (fun b i x H2 G hx s2 kk=>?_) (fun _ _ _ _ _ h=>h) (fun _ _ _ _ _ _ _ h=>h) (fun D H2 ys hD s2 e yl hy=>?_)⟩
  ·obtain ⟨r,hr,ra⟩:=bW pr hx
   have rm:=List.mem_of_getElem? hr
   exact ⟨x,k,r,rfl,ra.same s2,wf r rm,ci r rm,s2 _ _ kw,fun H3 s3=>kk _ _ s3 fun r' h'=>by rw [hr] at h';cases h';rfl⟩
  ·have ey:ys=(rs.map (aJ E d)).map V.int:=by
    refine List.ext_getElem? fun i=>?_
    rw [List.getElem?_map,List.getElem?_map]
    cases h1:rs[i]? with
    | none =>
     have:rs.length <= i:=List.getElem?_eq_none_iff.mp h1
     exact List.getElem?_eq_none (by omega)
    | some r =>
     have lt:i < ys.length:=by have:=(List.getElem?_eq_some_iff.mp h1).1;omega
     rw [List.getElem?_eq_getElem lt,hy i _ (List.getElem?_eq_getElem lt) r h1]
     rfl
   rw [ey] at e
   exact ⟨D,_,rfl,SqL.of e,q _ s2⟩
theorem Cv (T:Txt K mg A) {H:Hp}{d:Nat}{v:V}{r:Rw} (ra:bO A E H d v r):(∃n i ts,r=.call n i ts) \/ (∃n x f o l q,r=.iff n x f o l q) \/ (∃n t m b l q,r=.loop n t m b l q) \/ (∃a C,v=.ref a/\jo K H (.ref a) (.ref C)/\W.kitOne K (.ref C) (.ref A.bC)=some false/\W.kitOne K (.ref C) (.ref A.bQ)=some false/\W.kitOne K (.ref C) (.ref A.aV)=some false/\aJ E d r=1/\aT E d r=some 1):=by
 obtain ⟨a,dx,fs,e,h⟩:=nQ ra
 cases r with
 | set n x val=>exact Or.inr (Or.inr (Or.inr ⟨a,_,e,T.bu.bK h,(bH T.bu T.aG (ai T 10 6) (ai T 10 1)),(bH T.bu T.aI (ai T 12 6) (ai T 12 1)),(bH T.bu T.ax (ai T 13 6) (ai T 13 1)),by cases d <;> rfl,by cases d <;> rfl⟩))
 | put n x pl val=>exact Or.inr (Or.inr (Or.inr ⟨a,_,e,T.bg.bK h,(bH T.bg T.aG (ai T 10 7) (ai T 10 1)),(bH T.bg T.aI (ai T 12 7) (ai T 12 1)),(bH T.bg T.ax (ai T 13 7) (ai T 13 1)),by cases d <;> rfl,by cases d <;> rfl⟩))
 | snd n x val=>exact Or.inr (Or.inr (Or.inr ⟨a,_,e,T.aO.bK h,(bH T.aO T.aG (ai T 10 8) (ai T 10 1)),(bH T.aO T.aI (ai T 12 8) (ai T 12 1)),(bH T.aO T.ax (ai T 13 8) (ai T 13 1)),by cases d <;> rfl,by cases d <;> rfl⟩))
 | say n x val m=>exact Or.inr (Or.inr (Or.inr ⟨a,_,e,T.aP.bK h,(bH T.aP T.aG (ai T 10 9) (ai T 10 1)),(bH T.aP T.aI (ai T 12 9) (ai T 12 1)),(bH T.aP T.ax (ai T 13 9) (ai T 13 1)),by cases d <;> rfl,by cases d <;> rfl⟩))
 | last n=>exact Or.inr (Or.inr (Or.inr ⟨a,_,e,T.aQ.bK h,(bH T.aQ T.aG (ai T 10 11) (ai T 10 1)),(bH T.aQ T.aI (ai T 12 11) (ai T 12 1)),(bH T.aQ T.ax (ai T 13 11) (ai T 13 1)),by cases d <;> rfl,by cases d <;> rfl⟩))
 | call n i ts=>exact Or.inl ⟨_,_,_,rfl⟩
 | iff n val f o l r=>exact Or.inr (Or.inl ⟨_,_,_,_,_,_,rfl⟩)
 | loop n t m b l r=>exact Or.inr (Or.inr (Or.inl ⟨_,_,_,_,_,_,rfl⟩))
theorem tZ (T:Txt K mg A) (O:E.Ok):∀d,d <= F + 1->Has P w K mg base (2 * d + 2) "most_of_row" ["row","known"] (uV A E F n d):=fun d dF=>by
 have D_most_of:Has P w K mg base (2 * d + 1) "most_of" ["rows","known"] (xc A E F n d):=by
  cases d with
  | zero=>exact T.qP.has (k:=0) oW (fun _ _ _ _ h=>h.elim) (fun _ _ _ _ _ _ _ _ _ _ _ h=>h.elim)
  | succ d=>exact lQ T (tZ T O d (by omega))
 refine T.mC.has (k:=2 * d + 1) gj (fun vs H Q E h=>?_) (fun f cdv A' outer s H vs Q E' hr hu h=>?_)
 ·obtain ⟨v,k,r,rfl,_⟩:=h
  rfl
 ·obtain ⟨v,k,r,rfl,ra,wf,ci,kw,q⟩:=h
  refine ⟨_,(ab (aS (b9 (aN bA rfl T.aH (by boot_by_name) (aa (fv 0) (aa (cI T.aG.mg) af))) (fun _=>rfl))
   (ag (az (av bf ae (px hu (fv 1) (aA (fv 0) rfl)))))
   aL)
  (ab (aS (b9 (aN bA rfl T.aH (by boot_by_name) (aa (fv 0) (aa (cI T.aI.mg) af))) (fun _=>rfl))
   (ab (aE (i:=2) gj.nd rfl (Or.inl rfl) (av bf (aA (fv 0) rfl) (ao (hj:=by omega) D_most_of hr (aa (aA (fv 0) rfl) (aa (fv 1) af)))))
   (ab (aE (i:=3) gj.nd rfl (Or.inl rfl) (av bf (aA (fv 0) rfl) (ao (hj:=by omega) D_most_of hr (aa (aA (fv 0) rfl) (aa (fv 1) af)))))
   (ag (az (av bf ae (aN u6 rfl T.nP (by boot_by_name) (aa (fv 2) (aa (fv 3) af))))))))
   aL)
  (ab (aS (b9 (aN bA rfl T.aH (by boot_by_name) (aa (fv 0) (aa (cI T.ax.mg) af))) (fun _=>rfl))
   (ag (az (av bf ae (av eZ (aA (fv 0) rfl) (aN u6 rfl T.nP (by boot_by_name) (aa (av bf (aA (fv 0) rfl) (ao (hj:=by omega) D_most_of hr (aa (aA (fv 0) rfl) (aa (fv 1) af)))) (aa (aA (fv 0) rfl) af)))))))
   aL)
  (ag (az ae))))),?_⟩
  rcases Cv T ra with ⟨m,i,ts,rfl⟩ | ⟨m,val,fs,os,l,r0,rfl⟩ | ⟨m,t,c,b,l,r0,rfl⟩ | ⟨a,C,rfl,ty,k1,k2,k3,em,_⟩
  ·cases d with
   | zero=>exact (show False from ra).elim
   | succ d =>
   obtain ⟨a,dx,p,D,rfl,hD,ha,_⟩:=ra
   obtain ⟨_,_,D',hD',_,wb⟩:=wf
   rw [hD] at hD'
   cases hD'
   have ci':i < n:=ci
   have g:=tW (f:=fun j=>V.int (knT E F j)) O.D (.inl kw) (uz O n) (uG hD ci')
   have q:=q _ (ah.refl _)
   have eq:aJ E (d + 1) (.call m i ts)=1 + knT E F D.nm:=by
    rw [ym O hD]
    unfold aJ
    rw [hD]
    dsimp only
    rw [map_eq fun r hr=>(qQ (e:=F) (by omega) (wb r hr)).symm]
   rw [eq] at q
   exact ⟨_,_,_,true,rfl,(fun z=>by cases z),T.aG.bK ha,iT T.aG,true,rfl,cy ⟨a,_,dx,_,_,rfl,ha,T.aG.cl,T.dU,rfl,_,g,q⟩⟩
  ·cases d with
   | zero=>exact (show False from ra).elim
   | succ d =>
   obtain ⟨a,dx,p,pf,po,xf,xo,rfl,ha,hp,h1,h2,p1,p2⟩:=ra
   obtain ⟨_,_,_,w1,w2⟩:=wf
   obtain ⟨l1,l2,c1,c2⟩:=ci
   refine ⟨_,_,_,false,rfl,(fun z=>by cases z),T.aI.bK ha,bH T.aI T.aG (ai T 10 12) (ai T 10 1),false,rfl,aY ⟨_,_,_,true,rfl,(fun z=>by cases z),T.aI.bK ha,iT T.aI,true,rfl,cy ?_⟩⟩
   refine ⟨a,_,dx,_,_,rfl,ha,T.aI.cl,T.dZ,rfl,a,_,dx,_,_,rfl,ha,T.aI.cl,T.eB,rfl,pf,k,xf,fs,rfl,h1,l1,p1,w1,c1,kw,fun H2 s2=>?_⟩
   refine ⟨a,_,dx,_,_,rfl,s2 _ _ ha,T.aI.cl,T.eE,rfl,a,_,dx,_,_,rfl,s2 _ _ ha,T.aI.cl,T.eI,rfl,po,k,xo,os,rfl,s2 _ _ h2,l2,Paired.cF p2 (fun _ _=>bO.same s2),w2,c2,s2 _ _ kw,fun H3 s3=>?_⟩
   exact ⟨_,_,rfl,q _ (s2.trans s3)⟩
  ·cases d with
   | zero=>exact (show False from ra).elim
   | succ d =>
   obtain ⟨a,dx,pb,xb,rfl,ha,h1,p1⟩:=ra
   obtain ⟨_,m0,m1,_,_,w1⟩:=wf
   obtain ⟨l1,c1⟩:=ci
   refine ⟨_,_,_,false,rfl,(fun z=>by cases z),T.ax.bK ha,bH T.ax T.aG (ai T 10 13) (ai T 10 1),false,rfl,aY ⟨_,_,_,false,rfl,(fun z=>by cases z),T.ax.bK ha,bH T.ax T.aI (ai T 12 13) (ai T 12 1),false,rfl,aY ⟨_,_,_,true,rfl,(fun z=>by cases z),T.ax.bK ha,iT T.ax,true,rfl,cy ?_⟩⟩⟩
   refine ⟨a,_,dx,_,_,rfl,ha,T.ax.cl,T.dh,rfl,a,_,dx,_,_,rfl,ha,T.ax.cl,T.dP,rfl,a,_,dx,_,_,rfl,ha,T.ax.cl,T.dN,rfl,pb,k,xb,b,rfl,h1,l1,p1,w1,c1,kw,fun H2 s2=>?_⟩
   refine ⟨a,_,dx,_,_,rfl,s2 _ _ ha,T.ax.cl,T.cQ,rfl,?_⟩
   exact ⟨_,_,rfl,.inl ⟨by omega,by omega⟩,q _ s2⟩
  ·have q1:=q _ (ah.refl _)
   rw [em] at q1
   exact ⟨_,_,_,false,rfl,(fun z=>by cases z),ty,k1,false,rfl,aY ⟨_,_,_,false,rfl,(fun z=>by cases z),ty,k2,false,rfl,aY ⟨_,_,_,false,rfl,(fun z=>by cases z),ty,k3,false,rfl,aY q1⟩⟩⟩
def vB (A:Adr) (E:En) (F n d:Nat):Sp:=fun vs H Q _=>∃(v:V) (k:Addr) (r:Rw),vs=[v,.ref k]/\bO A E H d v r/\Wf E d r/\CIn n d r/\KnX E F H k n/\Q (eV (aT E d r)) H
def xg (c:Rw->Prop) (A:Adr) (E:En) (F n d:Nat):Sp:=fun vs H Q _=>∃(v:V) (k:Addr) (r:Rw),vs=[v,.ref k]/\c r/\bO A E H d v r/\Wf E d r/\CIn n d r/\KnX E F H k n/\Q (eV (aT E d r)) H
def oi (A:Adr) (E:En) (F n d:Nat):Sp:=fun vs H Q _=>∃(q k:Addr) (xs:List V) (rs:List Rw),vs=[.ref q,.ref k]/\H q=some (.lst xs)/\Paired (bO A E H d) xs rs/\(∀r ∈ rs,Wf E d r)/\(∀r ∈ rs,CIn n d r)/\KnX E F H k n/\Q (eV (bw (rs.map (aT E d)))) H
def lV (A:Adr) (E:En) (F n:Nat):Nat->Sp
 | 0=>fun _ _ _ _=>False
 | d + 1=>oi A E F n d
def yJ:Sp:=fun vs H Q _=>∃x:Option Int,vs=[eV x]/\Q (eV (x.map fun y=>1 + y)) H
theorem BE (T:Txt K mg A):Has P w K mg base 1 "one_more" ["steps"] yJ:=by
 refine T.rf.has rD (fun vs H Q E h=>?_) (fun f cdv A' outer s H vs Q E hr hu h=>?_)
 ·obtain ⟨x,rfl,_⟩:=h
  rfl
 ·obtain ⟨x,rfl,q⟩:=h
  refine ⟨_,(ag (az (eG (ay (mU) (fv 0) cL (aC _)) cL (av bf ae (fv 0))))),?_⟩
  cases x with
  | none=>exact ⟨rfl,_,rfl,cy q⟩
  | some y=>exact ⟨rfl,_,rfl,aY q⟩
theorem all_none {xs:List (Option Int)}{i:Nat} (h:xs[i]?=some none):bw xs=none:=by
 have e:xs=xs.take (i + 1) ++ xs.drop (i + 1):=(List.take_append_drop _ _).symm
 unfold bw
 rw [e,List.foldl_append,iA _ _ h]
 have:sumF ((xs.take i).foldl sumF (some 0)) none=none:=by cases (xs.take i).foldl sumF (some 0) <;> rfl
 exact (congrArg (fun z=>(xs.drop (i + 1)).foldl sumF z) this).trans (fq _)
theorem kQ {d:Nat} (T:Txt K mg A) (D_exact_of_row:Has P w K mg base (3 * d + 3) "exact_of_row" ["row","known"] (vB A E F n d)):Has P w K mg base (3 * d + 4) "exact_of" ["rows","known"] (oi A E F n d):=by
 refine T.oH.has (k:=3 * d + 3) eS (fun vs H Q E h=>?_) (fun f cdv A' outer s H vs Q E' hr hu h=>?_)
 ·obtain ⟨q,k,xs,rs,rfl,_⟩:=h
  rfl
 ·obtain ⟨p,k,xs,rs,rfl,hp,pr,wf,ci,kw,q⟩:=h
  refine ⟨_,(ab (aE (i:=2) eS.nd rfl (Or.inl rfl) ae)
  (ab (dD PassesOwn.never rfl (eu (fv 0)) (pgn (i:=3) eS.nd rfl)
   (ab (aE (i:=4) eS.nd rfl (Or.inl rfl) (ao (hj:=by omega) D_exact_of_row hr (aa (fv 3) (aa (fv 1) af))))
   (ab (aS (ay (mU) (fv 4) cL (aC _))
    (ag (az cL))
    aL)
   (ag (yj (i:=2) eS.nd rfl (by first | exact Or.inl rfl | exact Or.inr rfl) (fv 4) ye)))))
  (ag (az (fv 2))))),?_⟩
  refine Or.inl ⟨⟨_,SqL.of hp⟩,?_⟩
  refine dO (K:=K) (xs:=xs) (fun i σ H2=>H2=H/\∃(t:Int) (v3 v4:Option V),((rs.map (aT E d)).take i).foldl sumF (some 0)=some t/\σ=[some (.ref p),some (.ref k),some (.int t),v3,v4]) ⟨rfl,0,_,_,rfl,rfl⟩ (fun i σ H2 _ h=>by rw [h.1];exact SqL.of hp) ?_ ?_
  ·rintro i v σ H2 hv ⟨rfl,t,v3,v4,ht,rfl⟩
   obtain ⟨r,hr,ra⟩:=bW pr hv
   have rm:=List.mem_of_getElem? hr
   refine ⟨v,k,r,rfl,ra,wf r rm,ci r rm,kw,?_⟩
   have hm:(rs.map (aT E d))[i]?=some (aT E d r):=by rw [List.getElem?_map,hr];rfl
   cases hx:aT E d r with
   | none =>
    rw [hx] at hm
    rw [all_none hm] at q
    exact ⟨rfl,_,rfl,cy q⟩
   | some y =>
    rw [hx] at hm
    refine ⟨rfl,_,rfl,aY ?_⟩
    refine ⟨_,rfl,_,_,rfl,rfl,?_⟩
    refine ⟨rfl,t + y,_,_,?_,rfl⟩
    rw [iA _ _ hm,ht]
    rfl
  ·rintro σ H2 ⟨rfl,t,v3,v4,ht,rfl⟩
   have pl:=Paired.length pr
   rw [List.take_of_length_le (by rw [List.length_map];omega)] at ht
   have:bw (rs.map (aT E d))=some t:=ht
   rw [this] at q
   exact q
theorem CI (T:Txt K mg A) (d:Nat) (D_exact_of:Has P w K mg base (3 * d + 1) "exact_of" ["rows","known"] (lV A E F n d)):Has P w K mg base (3 * d + 2) "exact_of_if" ["row","known"] (xg AI A E F n d):=by
 refine T.mB.has (k:=3 * d + 1) gq (fun vs H Q E h=>?_) (fun f cdv A' outer s H vs Q E' hr hu h=>?_)
 ·obtain ⟨v,k,r,rfl,_⟩:=h
  rfl
 ·obtain ⟨v,k,r,rfl,hc,ra,wf,ci,kw,q⟩:=h
  cases d with
  | zero=>cases r <;> first | exact (show False from ra).elim | exact (show False from hc).elim
  | succ d =>
  cases r with
  | iff m val fs os l r0 =>
   obtain ⟨a,dx,p,pf,po,xf,xo,rfl,ha,hp,h1,h2,p1,p2⟩:=ra
   obtain ⟨_,_,_,w1,w2⟩:=wf
   obtain ⟨l1,l2,c1,c2⟩:=ci
   refine ⟨_,(ab (aE (i:=2) gq.nd rfl (Or.inl rfl) (ao (hj:=by omega) D_exact_of hr (aa (aA (fv 0) rfl) (aa (fv 1) af))))
  (ab (aE (i:=3) gq.nd rfl (Or.inl rfl) (ao (hj:=by omega) D_exact_of hr (aa (aA (fv 0) rfl) (aa (fv 1) af))))
  (ab (aS (PW.pt (pw_or (ay (mU) (fv 2) cL (aC _)) (pw_or (ay (mU) (fv 3) cL (aC _)) (pw_or1 (ay (pq hu) (av bf (aA (fv 0) rfl) (fv 2)) (av bf (aA (fv 0) rfl) (fv 3)) (aC _))))))
   (ag (az cL))
   aL)
  (ag (az (av bf (av bf ae (aA (fv 0) rfl)) (fv 2))))))),?_⟩
   refine ⟨a,_,dx,_,_,rfl,ha,T.aI.cl,T.eB,rfl,pf,k,xf,fs,rfl,h1,p1,w1,c1,kw,?_⟩
   refine ⟨a,_,dx,_,_,rfl,ha,T.aI.cl,T.eI,rfl,po,k,xo,os,rfl,h2,p2,w2,c2,kw,?_⟩
   unfold aT at q
   cases e1:bw (fs.map (aT E d)) with
   | none =>
    rw [e1] at q
    exact ⟨rfl,_,rfl,cy q⟩
   | some x =>
    rw [e1] at q
    refine ⟨rfl,_,rfl,aY ?_⟩
    cases e2:bw (os.map (aT E d)) with
    | none =>
     rw [e2] at q
     exact ⟨rfl,_,rfl,cy q⟩
    | some y =>
     rw [e2] at q
     refine ⟨rfl,_,rfl,aY ?_⟩
     refine ⟨a,_,dx,_,_,rfl,ha,T.aI.cl,T.dZ,rfl,a,_,dx,_,_,rfl,ha,T.aI.cl,T.eE,rfl,rfl,_,rfl,?_⟩
     rw [j9]
     dsimp only at q
     by_cases c:l + x=r0 + y
     ·rw [decide_eq_true c]
      rw [if_pos c] at q
      exact aY ⟨a,_,dx,_,_,rfl,ha,T.aI.cl,T.dZ,rfl,q⟩
     ·rw [decide_eq_false c]
      rw [if_neg c] at q
      exact cy q
  | _=>exact (show False from hc).elim
theorem zt (T:Txt K mg A) (d:Nat) (D_exact_of:Has P w K mg base (3 * d + 1) "exact_of" ["rows","known"] (lV A E F n d)):Has P w K mg base (3 * d + 2) "exact_of_loop" ["row","known"] (xg tT A E F n d):=by
 refine T.kA.has (k:=3 * d + 1) iI (fun vs H Q E h=>?_) (fun f cdv A' outer s H vs Q E' hr hu h=>?_)
 ·obtain ⟨v,k,r,rfl,_⟩:=h
  rfl
 ·obtain ⟨v,k,r,rfl,hc,ra,wf,ci,kw,q⟩:=h
  cases d with
  | zero=>cases r <;> first | exact (show False from ra).elim | exact (show False from hc).elim
  | succ d =>
  cases r with
  | loop m t c b l r0 =>
   obtain ⟨a,dx,pb,xb,rfl,ha,h1,p1⟩:=ra
   obtain ⟨_,m0,m1,_,_,w1⟩:=wf
   obtain ⟨l1,c1⟩:=ci
   refine ⟨_,(ab (aE (i:=2) iI.nd rfl (Or.inl rfl) (ao (hj:=by omega) D_exact_of hr (aa (aA (fv 0) rfl) (aa (fv 1) af))))
  (ab (aS (PW.pt (pw_or (ay (mU) (fv 2) cL (aC _)) (pw_or1 (ay (pq hu) (av bf (aA (fv 0) rfl) (fv 2)) (aA (fv 0) rfl) (aC _)))))
   (ag (az cL))
   aL)
  (ag (az (av bf ae (av eZ (aA (fv 0) rfl) (aA (fv 0) rfl))))))),?_⟩
   refine ⟨a,_,dx,_,_,rfl,ha,T.ax.cl,T.dN,rfl,pb,k,xb,b,rfl,h1,p1,w1,c1,kw,?_⟩
   unfold aT at q
   cases e1:bw (b.map (aT E d)) with
   | none =>
    rw [e1] at q
    exact ⟨rfl,_,rfl,cy q⟩
   | some x =>
    rw [e1] at q
    refine ⟨rfl,_,rfl,aY ?_⟩
    refine ⟨a,_,dx,_,_,rfl,ha,T.ax.cl,T.dP,rfl,a,_,dx,_,_,rfl,ha,T.ax.cl,T.cQ,rfl,rfl,_,rfl,?_⟩
    rw [j9]
    dsimp only at q
    by_cases c:l + x=r0
    ·rw [decide_eq_true c]
     rw [if_pos c] at q
     exact aY ⟨a,_,dx,_,_,rfl,ha,T.ax.cl,T.dh,rfl,a,_,dx,_,_,rfl,ha,T.ax.cl,T.cQ,rfl,.inl ⟨by omega,by omega⟩,q⟩
    ·rw [decide_eq_false c]
     rw [if_neg c] at q
     exact cy q
  | _=>exact (show False from hc).elim
theorem ue (T:Txt K mg A) (O:E.Ok):∀d,d <= F + 1->Has P w K mg base (3 * d + 3) "exact_of_row" ["row","known"] (vB A E F n d):=fun d dF=>by
 have D_exact_of:Has P w K mg base (3 * d + 1) "exact_of" ["rows","known"] (lV A E F n d):=by
  cases d with
  | zero=>exact T.oH.has (k:=0) eS (fun _ _ _ _ h=>h.elim) (fun _ _ _ _ _ _ _ _ _ _ _ h=>h.elim)
  | succ d=>exact kQ T (ue T O d (by omega))
 have D_exact_of_if:=CI T d D_exact_of
 have D_exact_of_loop:=zt T d D_exact_of
 have D_one_more:=BE (P:=P) (w:=w) (base:=base) T
 refine T.lj.has (k:=3 * d + 2) mN (fun vs H Q E h=>?_) (fun f cdv A' outer s H vs Q E' hr hu h=>?_)
 ·obtain ⟨v,k,r,rfl,_⟩:=h
  rfl
 ·obtain ⟨v,k,r,rfl,ra,wf,ci,kw,q⟩:=h
  refine ⟨_,(ab (aS (b9 (aN bA rfl T.aH (by boot_by_name) (aa (fv 0) (aa (cI T.aG.mg) af))) (fun _=>rfl))
   (ag (az (ao (hj:=by omega) D_one_more hr (aa (px hu (fv 1) (aA (fv 0) rfl)) af))))
   aL)
  (ab (aS (b9 (aN bA rfl T.aH (by boot_by_name) (aa (fv 0) (aa (cI T.aI.mg) af))) (fun _=>rfl))
   (ag (az (ao (hj:=by omega) D_exact_of_if hr (aa (fv 0) (aa (fv 1) af)))))
   aL)
  (ab (aS (b9 (aN bA rfl T.aH (by boot_by_name) (aa (fv 0) (aa (cI T.ax.mg) af))) (fun _=>rfl))
   (ag (az (ao (hj:=by omega) D_exact_of_loop hr (aa (fv 0) (aa (fv 1) af)))))
   aL)
  (ag (az ae))))),?_⟩
  rcases Cv T ra with ⟨m,i,ts,rfl⟩ | ⟨m,val,fs,os,l,r0,rfl⟩ | ⟨m,t,c,b,l,r0,rfl⟩ | ⟨a,C,rfl,ty,k1,k2,k3,_,em⟩
  ·cases d with
   | zero=>exact (show False from ra).elim
   | succ d =>
   obtain ⟨a,dx,p,D,rfl,hD,ha,_⟩:=ra
   obtain ⟨_,_,D',hD',_,wb⟩:=wf
   rw [hD] at hD'
   cases hD'
   have ci':i < n:=ci
   have g:=tW (f:=fun j=>eV (kxT E F j)) O.D (.inl kw) (uz O n) (uG hD ci')
   have eq:aT E (d + 1) (.call m i ts)=(kxT E F D.nm).map fun x=>1 + x:=by
    rw [xD O hD]
    unfold aT
    rw [hD]
    dsimp only
    rw [map_eq fun r hr=>(oJ (e:=F) (by omega) (wb r hr)).symm]
   rw [eq] at q
   exact ⟨_,_,_,true,rfl,(fun z=>by cases z),T.aG.bK ha,iT T.aG,true,rfl,cy ⟨a,_,dx,_,_,rfl,ha,T.aG.cl,T.dU,rfl,_,g,kxT E F D.nm,rfl,q⟩⟩
  ·obtain ⟨a,dx,fs',rfl,ha⟩:=nQ ra
   exact ⟨_,_,_,false,rfl,(fun z=>by cases z),T.aI.bK ha,bH T.aI T.aG (ai T 10 12) (ai T 10 1),false,rfl,aY ⟨_,_,_,true,rfl,(fun z=>by cases z),T.aI.bK ha,iT T.aI,true,rfl,cy ⟨_,k,.iff m val fs os l r0,rfl,trivial,ra,wf,ci,kw,q⟩⟩⟩
  ·obtain ⟨a,dx,fs',rfl,ha⟩:=nQ ra
   exact ⟨_,_,_,false,rfl,(fun z=>by cases z),T.ax.bK ha,bH T.ax T.aG (ai T 10 13) (ai T 10 1),false,rfl,aY ⟨_,_,_,false,rfl,(fun z=>by cases z),T.ax.bK ha,bH T.ax T.aI (ai T 12 13) (ai T 12 1),false,rfl,aY ⟨_,_,_,true,rfl,(fun z=>by cases z),T.ax.bK ha,iT T.ax,true,rfl,cy ⟨_,k,.loop m t c b l r0,rfl,trivial,ra,wf,ci,kw,q⟩⟩⟩⟩
  ·rw [em] at q
   exact ⟨_,_,_,false,rfl,(fun z=>by cases z),ty,k1,false,rfl,aY ⟨_,_,_,false,rfl,(fun z=>by cases z),ty,k2,false,rfl,aY ⟨_,_,_,false,rfl,(fun z=>by cases z),ty,k3,false,rfl,aY q⟩⟩⟩
end
section
variable {P:Program}{w:World}{K:W.Frag}{mg:Str->Option Value}{base:Heap}{A:Adr}{E:En}{F:Nat}
theorem Has.ex {ι:Type}{k:Nat}{x:Str}{ps:List Str}{sp:ι->Sp}{p:ι->Prop} (i0:ι) (h0:p i0) (h:∀i,p i->Has P w K mg base k x ps (sp i)):Has P w K mg base k x ps (fun vs H Q E=>∃i,p i/\sp i vs H Q E):=by
 obtain ⟨f,fd,F,b,kp,m,oc,od,osl,lk⟩:=h i0 h0
 have same:∀i,p i->ka P w K mg base CX0 k f fd ps (sp i):=fun i hi=>by
  obtain ⟨f',fd',F',b',kp',m',oc',od',osl',lk'⟩:=h i hi
  have e:f'=f:=by rw [m] at m';cases m';rfl
  subst e
  rw [lk] at lk'
  cases lk'
  exact F'
 exact ⟨f,fd,⟨fun vs H Q E ⟨i,hi,q⟩=>(same i hi).len vs H Q E q,fun A outer s H args us vs Q E hr he hb hv ⟨i,hi,q⟩=>(same i hi).run A outer s H args us vs Q E hr he hb hv q⟩,b,kp,m,oc,od,osl,lk⟩
structure zf (A:Adr) (E:En) (F:Nat) (X:Hp) (v:V) (i:Nat) (D:Dd):Prop where
 a:∃a dx n pp pb xs,v=.ref a/\X a=some (.ins A.bj dx [("number",n),("name",.str (E.N D.nm)),("parts",.ref pp),("body",.ref pb)])/\X pb=some (.lst xs)/\Paired (bO A E X F) xs D.body
 l:D.body.length <= 1000
 w:∀r ∈ D.body,Wf E F r
 c:∀r ∈ D.body,CIn i F r
theorem zf.same {X X':Hp}{v:V}{i:Nat}{D:Dd} (s:ah X X') (h:zf A E F X v i D):zf A E F X' v i D:=by
 obtain ⟨a,dx,n,pp,pb,xs,e,h1,h2,h3⟩:=h.a
 exact ⟨⟨a,dx,n,pp,pb,xs,e,s _ _ h1,s _ _ h2,Paired.cF h3 fun _ _=>bO.same s⟩,h.l,h.w,h.c⟩
def mG (A:Adr) (E:En) (F:Nat) (X:Hp):Prop:=∀(i:Nat) v D,E.dv[i]?=some v->E.ds[i]?=some D->zf A E F X v i D
theorem mG.same {X X':Hp} (s:ah X X') (h:mG A E F X):mG A E F X':=fun i v D h1 h2=>(h i v D h1 h2).same s
theorem xa {i:Nat}{D:Dd} (h:E.ds[i]?=some D):nms E (i + 1)=nms E i ++ [D.nm]:=by
 unfold nms
 rw [take_snoc h,List.map_append]
 rfl
theorem zL (O:E.Ok) {i:Nat}{D:Dd} (h:E.ds[i]?=some D):D.nm ∉ nms E i:=fun hj=>by
 have:=O.dd
 rw [show E.ds=E.ds.take i ++ D :: E.ds.drop (i + 1) by rw [<- j3 h,List.take_append_drop],List.map_append,List.map_cons] at this
 exact (List.nodup_append.mp this).2.2 _ hj _ List.mem_cons_self rfl
theorem uR (O:E.Ok) {i:Nat}{D:Dd}{f:Nat->V}{v:V} (h:E.ds[i]?=some D) (hv:v=f D.nm):putK (dk E.N (nms E i) f) (.inr (E.N D.nm)) v=dk E.N (nms E (i + 1)) f:=by
 rw [xa h,fJ O.D (O.dn D (List.mem_of_getElem? h)) (uz O i) (zL O h)]
 refine gz fun j _=>?_
 by_cases e:j=D.nm
 ·rw [e,dB,hv]
 ·rw [fU _ _ e]
theorem uT (O:E.Ok) (i:Nat) (f:Nat->V):(dk E.N (nms E i) f).length < sizeLine:=aR (by
 unfold nms
 rw [gE,List.length_map,List.length_take]
 have:=O.dl
 omega)
def yk (A:Adr) (E:En) (F:Nat):Sp:=fun vs H Q _=>∃(p:Pa) (hv xs:List V) (hs:List Hd),vs=[.ref p.pa]/\mL A E H p hv hs xs/\mG A E F H/\∀k H',ah H H'->H k=none->KnM E F H' k E.ds.length->Q (.ref k) H'
theorem zd (T:Txt K mg A) (O:E.Ok):Has P w K mg base (2 * F + 4) "mosts" ["program"] (yk A E F):=by
 have D_most_of:=Has.ex (P:=P) (w:=w) (base:=base) (sp:=fun n:Nat=>qY A E F n F) (p:=fun _=>True) 0 trivial fun n _=>lQ T (tZ (P:=P) (w:=w) (base:=base) (n:=n) T O F (by omega))
 refine T.eR.has (k:=2 * F + 3) ny (fun vs H Q E h=>?_) (fun f cdv A' outer s H vs Q E' hr hu h=>?_)
 ·obtain ⟨p,hv,xs,hs,rfl,_⟩:=h
  rfl
 ·obtain ⟨p,hv,xs,hs,rfl,R,B,q⟩:=h
  refine ⟨_,(ab (aE (i:=1) ny.nd rfl (Or.inl rfl) (gp))
  (ab (dD PassesOwn.never rfl (eu (aA (fv 0) rfl)) (pgn (i:=2) ny.nd rfl)
   (ag (bN (ao (hj:=by omega) D_most_of hr (aa (aA (fv 2) rfl) (aa (fv 1) af))) (bR (fv 1) (aA (fv 2) rfl) (bS hu set_list)))))
  (ag (az (fv 1))))),?_⟩
  refine fun k hk=>?_
  have s1:=ah.upd hk (HO.dK [])
  have ek:KnM E F (upd H k (HO.dK [])) k 0:=ar
  generalize upd H k (HO.dK [])=H1 at s1 ek ⊢
  refine ⟨p.pa,_,p.dp,_,_,rfl,s1 _ _ R.pr,T.cD.cl,T.cO,rfl,Or.inl ⟨⟨_,SqL.of (s1 _ _ R.dd)⟩,?_⟩⟩
  refine dO (K:=K) (xs:=E.dv) (fun i σ H2=>ah H H2/\KnM E F H2 k i/\∃v,σ=[some (.ref p.pa),some (.ref k),v]) ⟨s1,ek,_,rfl⟩ (fun i σ H2 _ h=>SqL.of (h.1 _ _ R.dd)) ?_ ?_
  ·rintro i v σ H2 hx ⟨s2,k2,z,rfl⟩
   obtain ⟨D,hD,_⟩:=bW R.d hx
   have BB:=(B i v D hx hD).same s2
   obtain ⟨a,dx,n,pp,pb,ys,rfl,ha,hb,pr⟩:=BB.a
   refine ⟨a,_,dx,_,_,rfl,ha,T.cq.cl,T.dR,rfl,i,trivial,pb,k,ys,D.body,rfl,hb,BB.l,pr,BB.w,BB.c,k2,fun H3 s3=>?_⟩
   refine ⟨a,_,dx,_,_,rfl,s3 _ _ ha,T.cq.cl,T.dQ,rfl,_,du.k (k:=.inr (E.N D.nm)) (s3 _ _ k2) (uT O i _),?_⟩
   refine ⟨ah.out (s2.trans s3) hk _,?_,_,rfl⟩
   show (upd H3 k _) k=_
   rw [ar,uR O hD (by rw [ym O hD])]
  ·rintro σ H2 ⟨s2,k2,z,rfl⟩
   rw [O.dv] at k2
   exact q k _ s2 hk k2
def wd (A:Adr) (E:En) (F:Nat):Sp:=fun vs H Q _=>∃(p:Pa) (hv xs:List V) (hs:List Hd),vs=[.ref p.pa]/\mL A E H p hv hs xs/\mG A E F H/\∀k H',ah H H'->H k=none->KnX E F H' k E.ds.length->Q (.ref k) H'
theorem w8 (T:Txt K mg A) (O:E.Ok):Has P w K mg base (3 * F + 5) "exacts" ["program"] (wd A E F):=by
 have D_exact_of:=Has.ex (P:=P) (w:=w) (base:=base) (sp:=fun n:Nat=>oi A E F n F) (p:=fun _=>True) 0 trivial fun n _=>kQ T (ue (P:=P) (w:=w) (base:=base) (n:=n) T O F (by omega))
 refine T.w6.has (k:=3 * F + 4) lN (fun vs H Q E h=>?_) (fun f cdv A' outer s H vs Q E' hr hu h=>?_)
 ·obtain ⟨p,hv,xs,hs,rfl,_⟩:=h
  rfl
 ·obtain ⟨p,hv,xs,hs,rfl,R,B,q⟩:=h
  refine ⟨_,(ab (aE (i:=1) lN.nd rfl (Or.inl rfl) (gp))
  (ab (dD PassesOwn.never rfl (eu (aA (fv 0) rfl)) (pgn (i:=2) lN.nd rfl)
   (ag (bN (ao (hj:=by omega) D_exact_of hr (aa (aA (fv 2) rfl) (aa (fv 1) af))) (bR (fv 1) (aA (fv 2) rfl) (bS hu set_list)))))
  (ag (az (fv 1))))),?_⟩
  refine fun k hk=>?_
  have s1:=ah.upd hk (HO.dK [])
  have ek:KnX E F (upd H k (HO.dK [])) k 0:=ar
  generalize upd H k (HO.dK [])=H1 at s1 ek ⊢
  refine ⟨p.pa,_,p.dp,_,_,rfl,s1 _ _ R.pr,T.cD.cl,T.cO,rfl,Or.inl ⟨⟨_,SqL.of (s1 _ _ R.dd)⟩,?_⟩⟩
  refine dO (K:=K) (xs:=E.dv) (fun i σ H2=>ah H H2/\KnX E F H2 k i/\∃v,σ=[some (.ref p.pa),some (.ref k),v]) ⟨s1,ek,_,rfl⟩ (fun i σ H2 _ h=>SqL.of (h.1 _ _ R.dd)) ?_ ?_
  ·rintro i v σ H2 hx ⟨s2,k2,z,rfl⟩
   obtain ⟨D,hD,_⟩:=bW R.d hx
   have BB:=(B i v D hx hD).same s2
   obtain ⟨a,dx,n,pp,pb,ys,rfl,ha,hb,pr⟩:=BB.a
   refine ⟨a,_,dx,_,_,rfl,ha,T.cq.cl,T.dR,rfl,i,trivial,pb,k,ys,D.body,rfl,hb,pr,BB.w,BB.c,k2,?_⟩
   refine ⟨a,_,dx,_,_,rfl,ha,T.cq.cl,T.dQ,rfl,_,du.k (k:=.inr (E.N D.nm)) k2 (uT O i _),?_⟩
   refine ⟨ah.out s2 hk _,?_,_,rfl⟩
   show (upd H2 k _) k=_
   rw [ar,uR O hD (by rw [xD O hD])]
  ·rintro σ H2 ⟨s2,k2,z,rfl⟩
   rw [O.dv] at k2
   exact q k _ s2 hk k2
structure y0 (A:Adr) (E:En) (F:Nat) (X:Hp) (xs:List V) (rows:List Rw):Prop where
 p:Paired (bO A E X F) xs rows
 l:rows.length <= 1000
 w:∀r ∈ rows,Wf E F r
 c:∀r ∈ rows,CIn E.ds.length F r
def si (A:Adr) (E:En) (F:Nat):Sp:=fun vs H Q _=>∃(p:Pa) (hv xs:List V) (hs:List Hd) (rows:List Rw),vs=[.ref p.pa]/\mL A E H p hv hs xs/\mG A E F H/\y0 A E F H xs rows/\∀H',ah H H'->Q (.int (rows.map (aJ E F)).sum) H'
theorem zo (T:Txt K mg A) (O:E.Ok):Has P w K mg base (2 * F + 5) "most" ["program"] (si A E F):=by
 have D_most_of:=lQ T (tZ (P:=P) (w:=w) (base:=base) (F:=F) (n:=E.ds.length) T O F (by omega))
 have D_mosts:=zd (P:=P) (w:=w) (base:=base) (F:=F) T O
 refine T.most.has (k:=2 * F + 4) y6 (fun vs H Q E h=>?_) (fun f cdv A' outer s H vs Q E' hr hu h=>?_)
 ·obtain ⟨p,hv,xs,hs,rows,rfl,_⟩:=h
  rfl
 ·obtain ⟨p,hv,xs,hs,rows,rfl,R,B,M,q⟩:=h
  refine ⟨_,(ag (az (ao (hj:=by omega) D_most_of hr (aa (aA (fv 0) rfl) (aa (ao (hj:=by omega) D_mosts hr (aa (fv 0) af)) af))))),?_⟩
  refine ⟨p.pa,_,p.dp,_,_,rfl,R.pr,T.cD.cl,T.dS,rfl,p,hv,xs,hs,rfl,R,B,fun k H2 s2 _ kd=>?_⟩
  exact ⟨p.mn,k,xs,rows,rfl,s2 _ _ R.mn,M.l,Paired.cF M.p (fun _ _=>bO.same s2),M.w,M.c,kd,fun H3 s3=>q _ (s2.trans s3)⟩
def pN (A:Adr) (E:En) (F:Nat):Sp:=fun vs H Q _=>∃(p:Pa) (hv xs:List V) (hs:List Hd) (rows:List Rw),vs=[.ref p.pa]/\mL A E H p hv hs xs/\mG A E F H/\y0 A E F H xs rows/\∀H',ah H H'->Q (eV (bw (rows.map (aT E F)))) H'
theorem wQ (T:Txt K mg A) (O:E.Ok):Has P w K mg base (3 * F + 6) "exact" ["program"] (pN A E F):=by
 have D_exact_of:=kQ T (ue (P:=P) (w:=w) (base:=base) (F:=F) (n:=E.ds.length) T O F (by omega))
 have D_exacts:=w8 (P:=P) (w:=w) (base:=base) (F:=F) T O
 refine T.exact.has (k:=3 * F + 5) xt (fun vs H Q E h=>?_) (fun f cdv A' outer s H vs Q E' hr hu h=>?_)
 ·obtain ⟨p,hv,xs,hs,rows,rfl,_⟩:=h
  rfl
 ·obtain ⟨p,hv,xs,hs,rows,rfl,R,B,M,q⟩:=h
  refine ⟨_,(ag (az (ao (hj:=by omega) D_exact_of hr (aa (aA (fv 0) rfl) (aa (ao (hj:=by omega) D_exacts hr (aa (fv 0) af)) af))))),?_⟩
  refine ⟨p.pa,_,p.dp,_,_,rfl,R.pr,T.cD.cl,T.dS,rfl,p,hv,xs,hs,rfl,R,B,fun k H2 s2 _ kd=>?_⟩
  exact ⟨p.mn,k,xs,rows,rfl,s2 _ _ R.mn,Paired.cF M.p (fun _ _=>bO.same s2),M.w,M.c,kd,q _ s2⟩
end
section
variable {P:Program}{w:World}{K:W.Frag}{mg:Str->Option Value}{base:Heap}{A:Adr}{E:En}
abbrev LET:Str:="abcdefghijklmnopqrstuvwxyz"
def jI (k:Int):Nat:=(97 + k).toNat
theorem tX {k:Int} (h0:0 <= k) (h1:k < 26):atI LET.cps.toList k=some (jI k):=by
 obtain ⟨n,rfl⟩:∃n:Nat,k=(n:Int):=⟨k.toNat,by omega⟩
 have h:∀m:Fin 26,atI LET.cps.toList ((m.val:Nat):Int)=some (jI ((m.val:Nat):Int)):=by decide +kernel
 exact h ⟨n,by omega⟩
theorem yS {z:Str}{n:Int} (hz:z.length <= 1) (h1:n < 1000):(kX z n).length <= 1000:=by
 unfold kX
 split
 ·decide
 ·split
  ·omega
  ·rw [rO]
   have:n.toNat * z.length <= n.toNat * 1:=Nat.mul_le_mul_left _ hz
   omega
theorem rY (x y:Str):(x ++ y).length=x.length + y.length:=by
 show (x.cps ++ y.cps).size=x.cps.size + y.cps.size
 exact Array.size_append
abbrev AH:Str:="set put send say by if else end loop most idle last call deed main"
abbrev A4:Str:="at over rest hand given own let open house closed"
def oT:List Str:=["set","put","send","say","by","if","else","end","loop","most","idle","last","call","deed","main"]
def om:List Str:=["at","over","rest","hand","given","own","let","open","house","closed"]
theorem wL:nj AH " " oT:=⟨by decide +kernel,by decide +kernel,by decide +kernel,by decide +kernel,by decide,by decide +kernel⟩
theorem wI:nj A4 " " om:=⟨by decide +kernel,by decide +kernel,by decide +kernel,by decide +kernel,by decide,by decide +kernel⟩
def words:List Str:=oT ++ om
theorem su:words.Nodup:=by decide +kernel
theorem mi:words.length=25:=rfl
def nmV (c:Int) (k:Nat):Str :=
 if decide (V.int (c % 4)=V.int 0)=true then words.getD ((c / 4 + k) % 25).toNat Str.empty
 else if decide (V.int (c % 4)=V.int 1)=true then kX ⟨#[jI ((c / 4 + (k:Int) / 8) % 26)]⟩ ((k:Int) % 8 + 1)
 else Txt.slice (kX ⟨#[jI (c / 288 % 26)]⟩ (c / 4 % 8)) none (some (c / 32 % (c / 4 % 8 + 1))) ++ ⟨#[jI ((k + c / 7488) % 26)]⟩ ++ Txt.slice (kX ⟨#[jI (c / 288 % 26)]⟩ (c / 4 % 8)) (some (c / 32 % (c / 4 % 8 + 1))) none
theorem oO (c:Nat) {n:Int} (hn:1 <= n):(kX ⟨#[c]⟩ n).cps.toList=List.replicate n.toNat c:=by
 unfold kX
 rw [if_neg (by omega)]
 by_cases e:n=1
 ·subst e
  rfl
 ·have h1:¬ (n == 1 || (⟨#[c]⟩:Str).length == 0)=true:=by
   rw [Bool.or_eq_true]
   rintro (h | h)
   ·exact e (eq_of_beq h)
   ·exact absurd h (show ¬ ((1:Nat) == 0)=true by decide)
  rw [if_neg h1]
  have f:∀(m:Nat) (acc:Array Nat),((List.replicate m #[c]).foldl (· ++ ·) acc).toList=acc.toList ++ List.replicate m c:=by
   intro m
   induction m with
   | zero=>intro acc;simp
   | succ m ih =>
    intro acc
    rw [List.replicate_succ,List.foldl_cons,ih,List.replicate_succ]
    simp
  have:=f n.toNat #[]
  simpa using this
theorem rP {a b:Int} (ha:0 <= a) (hb:0 <= b) (h:jI a=jI b):a=b:=by
 unfold jI at h
 omega
theorem zh {a b:Str}{x y:Nat} (h:a ++ ⟨#[x]⟩ ++ b=a ++ ⟨#[y]⟩ ++ b):x=y:=by
 have h1:((a.cps ++ #[x]) ++ b.cps).toList=((a.cps ++ #[y]) ++ b.cps).toList:=congrArg (fun z:Str=>z.cps.toList) h
 simp only [Array.toList_append] at h1
 have h2:=List.append_inj_left' h1 rfl
 have h3:=List.append_inj_right h2 rfl
 simpa using h3
theorem nr (c:Int):jF (nmV c):=by
 intro i j hi hj e
 unfold nmV at e
 split at e
 ·have m1:=bD (c / 4 + i) (show (0:Int) < 25 by decide)
  have m2:=bD (c / 4 + j) (show (0:Int) < 25 by decide)
  have b1:((c / 4 + i) % 25).toNat < words.length:=by rw [mi];omega
  have b2:((c / 4 + j) % 25).toNat < words.length:=by rw [mi];omega
  rw [List.getD_eq_getElem?_getD,List.getD_eq_getElem?_getD,List.getElem?_eq_getElem b1,List.getElem?_eq_getElem b2] at e
  have:=(List.getElem_inj su).mp (show words[((c / 4 + i) % 25).toNat]=words[((c / 4 + j) % 25).toNat] from e)
  omega
 split at e
 ·have m1:=bD (c / 4 + (i:Int) / 8) (show (0:Int) < 26 by decide)
  have m2:=bD (c / 4 + (j:Int) / 8) (show (0:Int) < 26 by decide)
  have h1:=congrArg (fun z:Str=>z.cps.toList) e
  rw [oO _ (by omega),oO _ (by omega)] at h1
  have h2:=congrArg List.length h1
  rw [List.length_replicate,List.length_replicate] at h2
  obtain ⟨n,hn⟩:∃n,((i:Int) % 8 + 1).toNat=n + 1:=⟨((i:Int) % 8).toNat,by omega⟩
  rw [<- h2,hn,List.replicate_succ,List.replicate_succ] at h1
  have h3:=rP m1.1 m2.1 (List.cons.inj h1).1
  omega
 ·have m1:=bD ((i:Int) + c / 7488) (show (0:Int) < 26 by decide)
  have m2:=bD ((j:Int) + c / 7488) (show (0:Int) < 26 by decide)
  have h3:=rP m1.1 m2.1 (zh e)
  omega
theorem vE {x:Str}{lo hi:Option Int}{c:Nat} (h:c ∈ (Txt.slice x lo hi).cps.toList):c ∈ x.cps.toList:=by
 unfold Txt.slice at h
 split at h
 ·exact h
 ·obtain ⟨i,_,q⟩:=List.mem_filterMap.mp (by simpa using h)
  exact Array.mem_toList_iff.mpr (Array.mem_of_getElem? q)
theorem ff {x:Str}:PyData.strOk x=true ↔ ∀c ∈ x.cps.toList,c < 0x110000:=by
 unfold PyData.strOk
 rw [<- Array.all_toList,List.all_eq_true]
 exact ⟨fun h c hc=>of_decide_eq_true (h c hc),fun h c hc=>decide_eq_true (h c hc)⟩
theorem qh {x:Str} (h:PyData.strOk x=true) (lo hi:Option Int):PyData.strOk (Txt.slice x lo hi)=true:=ff.mpr fun c hc=>ff.mp h c (vE hc)
theorem qa {x y:Str} (h:PyData.strOk x=true) (h2:PyData.strOk y=true):PyData.strOk (x ++ y)=true:=ff.mpr fun c hc=>by
 have e:(x ++ y).cps=x.cps ++ y.cps:=rfl
 rw [e,Array.toList_append] at hc
 rcases List.mem_append.mp hc with q | q
 ·exact ff.mp h c q
 ·exact ff.mp h2 c q
theorem yK {k:Int} (h:k < 26):PyData.strOk ⟨#[jI k]⟩=true:=ff.mpr fun c hc=>by
 have e:c=jI k:=by simpa using hc
 rw [e]
 unfold jI
 omega
theorem sZ {k n:Int} (h:k < 26):PyData.strOk (kX ⟨#[jI k]⟩ n)=true:=by
 by_cases hn:1 <= n
 ·refine ff.mpr fun c hc=>?_
  rw [oO _ hn] at hc
  rw [List.eq_of_mem_replicate hc]
  unfold jI
  omega
 ·unfold kX
  rw [if_pos (by omega)]
  decide +kernel
theorem CH (c:Int) (k:Nat):PyData.strOk (nmV c k)=true:=by
 unfold nmV
 split
 ·have h:∀i:Fin 25,PyData.strOk (words.getD i.val Str.empty)=true:=by decide +kernel
  have:=bD (c / 4 + k) (show (0:Int) < 25 by decide)
  exact h ⟨((c / 4 + k) % 25).toNat,by omega⟩
 have h1:=bD (c / 288) (show (0:Int) < 26 by decide)
 have h2:=bD ((k:Int) + c / 7488) (show (0:Int) < 26 by decide)
 have h3:=bD (c / 4 + (k:Int) / 8) (show (0:Int) < 26 by decide)
 split
 ·exact sZ h3.2
 ·exact qa (qa (qh (sZ h1.2) _ _) (yK h2.2)) (qh (sZ h1.2) _ _)
def zG:Sp:=fun vs H Q _=>∃(c:Int) (k:Nat),vs=[.int c,.int k]/\k <= 100/\∀(H':Hp),ah H H'->Q (.str (nmV c k)) H'
theorem Bf (T:Txt K mg A):Has P w K mg base 1 "_law_name" ["_law_cell","_law_k"] zG:=by
 refine T.rR.has dq (fun vs H Q E h=>?_) (fun f cdv A' outer s H vs Q E hr hu h=>?_)
 ·obtain ⟨c,k,rfl,_⟩:=h
  rfl
 ·obtain ⟨c,k,rfl,h1,q⟩:=h
  unfold nmV at q
  refine ⟨_,(ab (aE (i:=2) dq.nd rfl (Or.inl rfl) au)
  (ab (aE (i:=3) dq.nd rfl (Or.inl rfl) (av bI (fv 0) ae))
  (ab (aS (ay (bz hu) (fv 3) ae (aC _))
   (ab (aE (i:=4) dq.nd rfl (Or.inl rfl) (m_split au (aa au af)))
   (ab (aE (i:=4) dq.nd rfl (Or.inl rfl) (av bf (fv 4) (m_split au (aa au af))))
   (ag (az (px hu (fv 4) (av bI (av bf (av bU (fv 0) ae) (fv 1)) ae))))))
   aL)
  (ab (aS (ay (bz hu) (fv 3) ae (aC _))
   (ag (az (av eZ (px hu (fv 2) (av bI (av bf (av bU (fv 0) ae) (av bU (fv 1) ae)) ae)) (av bf (av bI (fv 1) ae) ae))))
   aL)
  (ab (aE (i:=5) dq.nd rfl (Or.inl rfl) (av bI (av bU (fv 0) ae) ae))
  (ab (aE (i:=6) dq.nd rfl (Or.inl rfl) (av bI (av bU (fv 0) ae) (av bf (fv 5) ae)))
  (ab (aE (i:=7) dq.nd rfl (Or.inl rfl) (av eZ (px hu (fv 2) (av bI (av bU (fv 0) ae) ae)) (fv 5)))
  (ag (az (av bf (av bf (eF gN (fv 7) uJ (cK (fv 6))) (px hu (fv 2) (av bI (av bf (fv 1) (av bU (fv 0) ae)) ae))) (eF gN (fv 7) (cK (fv 6)) uJ))))))))))),?_⟩
  refine ⟨(by show (0:Int) < 4;decide),rfl,_,rfl,?_⟩
  refine aW (fun b1=>?_) (fun b1=>?_)
  ·rw [if_pos b1] at q
   refine ⟨rfl,_,_,oT,rfl,rfl,wL,fun l hl=>?_⟩
   obtain ⟨s1,e1⟩:=alc hl (HO.lst (oT.map V.str))
   generalize upd H l _=H1 at s1 e1 ⊢
   refine ⟨rfl,_,_,om,rfl,rfl,wI,fun l2 hl2=>?_⟩
   obtain ⟨s2,e2⟩:=alc hl2 (HO.lst (om.map V.str))
   generalize upd H1 l2 _=H2 at s2 e2 ⊢
   refine ⟨l,l2,_,_,rfl,rfl,s2 _ _ e1,e2,(by decide:25 <= sizeLine),fun l3 hl3=>?_⟩
   obtain ⟨j0,j1⟩:=bD (c / 4 + k) (show (0:Int) < 25 by decide)
   have hk:((c / 4 + k) % 25).toNat < words.length:=by rw [mi];omega
   have e:atI (oT.map V.str ++ om.map V.str) ((c / 4 + k) % 25)=some (.str (words.getD ((c / 4 + k) % 25).toNat Str.empty)):=by
    rw [<- List.map_append]
    have e:=j5 (xs:=words.map V.str) (j:=((c / 4 + k) % 25).toNat) (v:=.str (words.getD ((c / 4 + k) % 25).toNat Str.empty)) (by rw [List.getElem?_map,List.getElem?_eq_getElem hk,List.getD_eq_getElem?_getD,List.getElem?_eq_getElem hk];rfl)
    rw [show ((((c / 4 + k) % 25).toNat:Nat):Int)=(c / 4 + k) % 25 by omega] at e
    exact e
   exact ⟨⟨by decide,by decide⟩,(by show (0:Int) < 25;decide),Or.inl ⟨_,_,Or.inl (SqL.of ar),e,q _ ((s1.trans s2).trans (ah.upd hl3 _))⟩⟩
  ·rw [if_neg b1] at q
   refine ⟨rfl,_,rfl,?_⟩
   refine aW (fun b2=>?_) (fun b2=>?_)
   ·rw [if_pos b2] at q
    obtain ⟨j0,j1⟩:=bD (c / 4 + (k:Int) / 8) (show (0:Int) < 26 by decide)
    obtain ⟨m0,m1⟩:=bD (k:Int) (show (0:Int) < 8 by decide)
    exact ⟨⟨by decide,by decide⟩,⟨by decide,by decide⟩,(by show (0:Int) < 26;decide),_,by decide +kernel,tX j0 j1,(by show (0:Int) < 8;decide),by omega,by omega,by show 1 <= 1000;decide,q _ (ah.refl _)⟩
   ·rw [if_neg b2] at q
    obtain ⟨m0,m1⟩:=bD (c / 4) (show (0:Int) < 8 by decide)
    obtain ⟨j0,j1⟩:=bD (c / 288) (show (0:Int) < 26 by decide)
    obtain ⟨i0,i1⟩:=bD (k + c / 7488) (show (0:Int) < 26 by decide)
    have rl:(kX ⟨#[jI (c / 288 % 26)]⟩ (c / 4 % 8)).length <= 1000:=yS (Nat.le_refl _) (by omega)
    refine ⟨⟨by decide,by decide⟩,(by show (0:Int) < 8;decide),⟨by decide,by decide⟩,(by show (0:Int) < c / 4 % 8 + 1;omega),⟨by decide,by decide⟩,(by show (0:Int) < 26;decide),_,by decide +kernel,tX j0 j1,by omega,by omega,by show 1 <= 1000;decide,?_⟩
    have s1:=PySem.Txt.slice_le (kX ⟨#[jI (c / 288 % 26)]⟩ (c / 4 % 8)) none (some (c / 32 % (c / 4 % 8 + 1)))
    have s2:=PySem.Txt.slice_le (kX ⟨#[jI (c / 288 % 26)]⟩ (c / 4 % 8)) (some (c / 32 % (c / 4 % 8 + 1))) none
    refine ⟨_,rfl,sz rl,⟨by decide,by decide⟩,(by show (0:Int) < 26;decide),_,by decide +kernel,tX i0 i1,?_⟩
    refine ⟨Nat.le_trans (m:=1000 + 1) (Nat.add_le_add_right (Nat.le_trans s1 rl) 1) (by decide),_,rfl,sz rl,?_⟩
    refine ⟨?_,q _ (ah.refl _)⟩
    rw [rY]
    exact Nat.le_trans (m:=1000 + 1 + 1000) (Nat.add_le_add (Nat.add_le_add_right (Nat.le_trans s1 rl) 1) (Nat.le_trans s2 rl)) (by decide)
def cellAt (ns:List Int) (k:Int):Int:=if k < (ns.length:Int) then ns.getD k.toNat 0 else 0
theorem AY {ns:List Int}{k:Int} (h0:0 <= k) (h1:k < (ns.length:Int)):atI (ns.map V.int) k=some (.int (ns.getD k.toNat 0)):=by
 have hk:k.toNat < ns.length:=by omega
 have e:=j5 (xs:=ns.map V.int) (j:=k.toNat) (v:=.int (ns.getD k.toNat 0)) (by rw [List.getElem?_map,List.getElem?_eq_getElem hk,List.getD_eq_getElem?_getD,List.getElem?_eq_getElem hk];rfl)
 rw [show ((k.toNat:Nat):Int)=k by omega] at e
 exact e
def zp (K:W.Frag):Sp:=fun vs H Q _=>∃(a:Addr) (ns:List Int) (k:Int),vs=[.ref a,.int k]/\SqL K H a (ns.map V.int)/\0 <= k/\Q (.int (cellAt ns k)) H
theorem tF (T:Txt K mg A):Has P w K mg base 1 "_law_cell_at" ["_law_script","_law_k"] (zp K):=by
 refine T.my.has oR (fun vs H Q E h=>?_) (fun f cdv A' outer s H vs Q E hr hu h=>?_)
 ·obtain ⟨a,ns,k,rfl,_⟩:=h
  rfl
 ·obtain ⟨a,ns,k,rfl,hS,h0,q⟩:=h
  unfold cellAt at q
  have el:(((ns.map V.int).length:Nat):Int)=(ns.length:Int):=by rw [List.length_map]
  refine ⟨_,(ab (aS (ay (Bg) (fv 1) (aN gW rfl T.iw (by boot_by_name) (aa (fv 0) af)) (aC _))
   (ag (az (px hu (fv 0) (fv 1))))
   aL)
  (ag (az ae))),?_⟩
  refine Or.inl ⟨_,_,rfl,Or.inl ⟨_,hS,rfl⟩,_,rfl,?_⟩
  refine aW (fun c=>?_) (fun c=>?_)
  ·have c':k < (((ns.map V.int).length:Nat):Int):=of_decide_eq_true c
   rw [el] at c'
   rw [if_pos c'] at q
   exact Or.inl ⟨_,_,Or.inl hS,AY h0 c',q⟩
  ·have c':¬ k < (((ns.map V.int).length:Nat):Int):=of_decide_eq_false (Bool.eq_false_iff.mpr c)
   rw [el] at c'
   rw [if_neg c'] at q
   exact q
theorem Cj:((10:Int) ^ (12:Int).toNat)=1000000000000:=by decide
def Bl:Sp:=fun vs H Q _=>∃(c:Int) (k:Nat),vs=[.int c,.int k]/\k <= 100/\∀(m:Int) (H':Hp),In m->ah H H'->Q (.int m) H'
theorem vq (T:Txt K mg A):Has P w K mg base 1 "_law_mix" ["_law_cell","_law_k"] Bl:=by
 refine T.uU.has fk (fun vs H Q E h=>?_) (fun f cdv A' outer s H vs Q E hr hu h=>?_)
 ·obtain ⟨c,k,rfl,_⟩:=h
  rfl
 ·obtain ⟨c,k,rfl,hk,q⟩:=h
  refine ⟨_,(ab (aE (i:=2) fk.nd rfl (Or.inl rfl) (av bU (fv 0) ae))
  (ab (aS (PW.pt (pw_and (ay (sY) (fv 2) (av sv ae ae) (aC _)) (pw_and1 (ay (bz hu) (av bI (fv 2) ae) ae (aC _)))))
   (ab (aE (i:=2) fk.nd rfl (Or.inl rfl) (av bU (fv 2) ae))
   (ab (dD PassesOwn.never rfl (iF rfl T.eJ (aa (fv 1) af)) (pgn (i:=3) fk.nd rfl)
    (ag (aE (i:=2) fk.nd rfl (Or.inl rfl) (av bU (fv 2) (av sv ae ae)))))
   (ag (aS (ay (sY) (fv 2) ae (aC _))
    (ag (az (av bI (fv 2) (av sv ae ae))))
    aL))))
   aL)
  (ab (aE (i:=4) fk.nd rfl (Or.inl rfl) (px hu (cf (aa ae (aa ae (aa ae (aa ae af))))) (av bI (fv 1) ae)))
  (ag (az (av bI (av eZ (av bf (av bf (av bI (fv 0) (fv 4)) ae) (av eZ (fv 1) (fv 1))) ae) (fv 4))))))),?_⟩
  refine aF fun M1 K1=>?_
  refine ⟨⟨by decide,by decide⟩,K1 _ _ ?_⟩
  refine aF fun M2 K2=>?_
  have rest:∀σ:St,(∃z z3,σ=[some (.int c),some (.int k),some (.int z),z3,none])->M2 σ H:=by
   rintro σ ⟨z,z3,rfl⟩
   refine K2 _ _ ?_
   refine aF fun M3 K3=>?_
   refine ⟨(show 4 <= sizeLine by decide),fun l hl=>?_⟩
   obtain ⟨s1,e1⟩:=alc hl (HO.lst [V.int 2147483647,.int 998244353,.int 1000000007,.int 999999937])
   generalize upd H l _=H1 at s1 e1 ⊢
   obtain ⟨p,hp,p0,p1⟩:∃p:Int,atI [V.int 2147483647,.int 998244353,.int 1000000007,.int 999999937] ((k:Int) % 4)=some (.int p)/\0 < p/\p < 2147483648:=by
    have m:=bD (k:Int) (show (0:Int) < 4 by decide)
    generalize (k:Int) % 4=u at m ⊢
    have:u=0 \/ u=1 \/ u=2 \/ u=3:=by omega
    rcases this with rfl | rfl | rfl | rfl
    ·exact ⟨2147483647,rfl,by decide,by decide⟩
    ·exact ⟨998244353,rfl,by decide,by decide⟩
    ·exact ⟨1000000007,rfl,by decide,by decide⟩
    ·exact ⟨999999937,rfl,by decide,by decide⟩
   refine ⟨(by show (0:Int) < 4;decide),Or.inl ⟨_,_,Or.inl (SqL.of e1),hp,K3 _ _ ?_⟩⟩
   exact ⟨p0,.inl ⟨by omega,by omega⟩,.inr ⟨by decide,by decide⟩,p0,q _ _ (by have:=bD ((c % p + 7 + (k:Int) * (k:Int)) * 48271) p0;exact ⟨this.1,by omega⟩) s1⟩
  refine ⟨⟨by decide,by decide,by decide⟩,_,rfl,aW (fun b=>?_) (fun b=>rest _ ⟨_,_,rfl⟩)⟩
  refine ⟨(by show (0:Int) < 2;decide),rfl,_,rfl,aW (fun b=>?_) (fun b=>rest _ ⟨_,_,rfl⟩)⟩
  refine aF fun A1 B1=>?_
  refine ⟨⟨by decide,by decide⟩,B1 _ _ ?_⟩
  refine aF fun A2 B2=>?_
  refine ⟨(k:Int),rfl,by omega,by omega,?_⟩
  refine fY (fun i σ H2=>H2=H/\∃z z3,σ=[some (.int c),some (.int k),some (.int z),z3,none]) ⟨rfl,_,_,rfl⟩ ?_ ?_
  ·rintro i σ H2 hi ⟨rfl,z,z3,rfl⟩
   exact ⟨⟨by decide,by decide,by decide⟩,⟨by decide,by decide⟩,rfl,_,_,rfl⟩
  ·rintro σ H2 ⟨rfl,z,z3,rfl⟩
   refine B2 _ _ ?_
   refine ⟨_,rfl,aW (fun b=>?_) (fun b=>rest _ ⟨_,_,rfl⟩)⟩
   exact ⟨⟨by decide,by decide,by decide⟩,(by show (0:Int) < 10 ^ (12:Int).toNat;decide),q _ _ (bD _ (by decide)) (ah.refl _)⟩
def vF:Sp:=fun vs H Q _=>∃c:Int,vs=[.int c]/\-(2 ^ 64) < c/\c < 2 ^ 64/\∀n,In n->Q (.int n) H
theorem sD (T:Txt K mg A):Has P w K mg base 1 "_law_number" ["_law_cell"] vF:=by
 refine T.oQ.has pz (fun vs H Q E h=>?_) (fun f cdv A' outer s H vs Q E hr hu h=>?_)
 ·obtain ⟨c,rfl,_⟩:=h
  rfl
 ·obtain ⟨c,rfl,c0,c1,q⟩:=h
  have h5:=bD (c / 3) (show (0:Int) < 5 by decide)
  refine ⟨_,(ab (aS (ay (bz hu) (av bI (fv 0) ae) ae (aC _))
   (ag (az (av bI (av bU (fv 0) ae) ae)))
   aL)
  (ab (aS (ay (bz hu) (av bI (fv 0) ae) ae (aC _))
   (ag (az (av mJ (av mJ (av sv ae ae) ae) (av bI (av bU (fv 0) ae) ae))))
   aL)
  (ag (az (av bI (av eZ (fv 0) (fv 0)) (av sv ae ae)))))),?_⟩
  refine ⟨(by show (0:Int) < 3;decide),rfl,_,rfl,aW (fun b=>?_) (fun b=>?_)⟩
  ·exact ⟨⟨by decide,by decide⟩,(by show (0:Int) < 5;decide),q _ ⟨h5.1,by omega⟩⟩
  refine ⟨(by show (0:Int) < 3;decide),rfl,_,rfl,aW (fun b=>?_) (fun b=>?_)⟩
  ·exact ⟨⟨by decide,by decide,by decide⟩,⟨by decide,by decide⟩,(by show (0:Int) < 5;decide),q _ (by rw [Cj];exact ⟨by omega,by omega⟩)⟩
  ·exact ⟨.inl ⟨c0,c1⟩,⟨by decide,by decide,by decide⟩,(by show (0:Int) < 10 ^ (12:Int).toNat;decide),q _ (bD _ (by decide))⟩
def uh (E:En) (th:List Nat):Prop:=th ≠ []/\∀i ∈ th,i ∈ E.idx/\E.sz i=0
abbrev stV (E:En) (th:List Nat):List V:=th.map fun i=>V.str (E.N i)
def wN (K:W.Frag) (E:En):Sp:=fun vs H Q _=>∃(n:Int) (l:Addr) (th:List Nat),vs=[.int n,.ref l]/\In n/\SqL K H l (stV E th)/\uh E th/\∀t:Th,t.ok E->Q (t.v E.N) H
theorem qG (T:Txt K mg A):Has P w K mg base 2 "_law_thing" ["_law_number_here","_law_things"] (wN K E):=by
 have D_law_number:=sD (P:=P) (w:=w) (base:=base) T
 refine T.pW.has (k:=1) qD (fun vs H Q E h=>?_) (fun f cdv A' outer s H vs Q E' hr hu h=>?_)
 ·obtain ⟨n,l,th,rfl,_⟩:=h
  rfl
 ·obtain ⟨n,l,th,rfl,⟨n0,n1⟩,hl,⟨h0,hth⟩,q⟩:=h
  have h0':0 < th.length:=List.length_pos_iff.mpr h0
  refine ⟨_,(ab (aS (ay (sY) (av bI (fv 0) ae) ae (aC _))
   (ag (az (px hu (fv 1) (av bI (av bU (fv 0) ae) (aN gW rfl T.iw (by boot_by_name) (aa (fv 1) af))))))
   aL)
  (ab (aS (ay (bz hu) (av bI (av bU (fv 0) ae) ae) ae (aC _))
   (ag (az (ao D_law_number hr (aa (av bU (fv 0) ae) af))))
   aL)
  (ag (az (av bI (av bU (fv 0) ae) ae))))),?_⟩
  refine ⟨(by show (0:Int) < 3;decide),_,rfl,aW (fun b=>?_) (fun b=>?_)⟩
  ·have e:(((stV E th).length:Nat):Int)=(th.length:Int):=by rw [List.length_map]
   have m:=bD (n / 3) (show (0:Int) < (th.length:Int) by omega)
   obtain ⟨x,hx,_,ha⟩:=nB (fun i=>V.str (E.N i)) m.1 m.2
   exact ⟨⟨by decide,by decide⟩,Or.inl ⟨_,_,rfl,Or.inl ⟨_,hl,rfl⟩,(by rw [e];omega),Or.inl ⟨_,_,Or.inl hl,by rw [e];exact ha,q (.x x) (hth x hx)⟩⟩⟩
  ·refine ⟨⟨by decide,by decide⟩,(by show (0:Int) < 4;decide),rfl,_,rfl,aW (fun b=>?_) (fun b=>?_)⟩
   ·exact ⟨⟨by decide,by decide⟩,_,rfl,by omega,by omega,fun m hm=>q (.i m) hm⟩
   ·exact ⟨⟨by decide,by decide⟩,(by show (0:Int) < 4;decide),q (.i _) (by have:=bD (n / 12) (show (0:Int) < 4 by decide);exact ⟨this.1,by omega⟩)⟩
def wX (K:W.Frag) (E:En):Sp:=fun vs H Q _=>∃(n:Int) (l ll:Addr) (th:List Nat) (x y:Nat),vs=[.int n,.ref l,.ref ll]/\In n/\SqL K H l (stV E th)/\uh E th/\H ll=some (.lst [.str (E.N x),.str (E.N y)])/\x ∈ E.ls/\y ∈ E.ls/\∀(p:Addr) (val:Val) (H':Hp),val.ok E->ah H H'->H p=none->H' p=some (.tup (vV E.N val))->Q (.ref p) H'
theorem uW (T:Txt K mg A):Has P w K mg base 3 "_law_value" ["_law_number_here","_law_things","_law_lists"] (wX K E):=by
 have D_law_thing:=qG (P:=P) (w:=w) (base:=base) (E:=E) T
 refine T.pF.has (k:=2) iV (fun vs H Q E h=>?_) (fun f cdv A' outer s H vs Q E' hr hu h=>?_)
 ·obtain ⟨n,l,ll,th,x,y,rfl,_⟩:=h
  rfl
 ·obtain ⟨n,l,ll,th,x,y,rfl,⟨n0,n1⟩,hl,hth,hll,hx,hy,q⟩:=h
  have lm:∀i ∈ E.ls,i ∈ E.idx/\0 < E.sz i:=fun i hi=>by
   obtain ⟨h1,h2⟩:=List.mem_filter.mp hi
   exact ⟨h1,of_decide_eq_true h2⟩
  refine ⟨_,(ab (aE (i:=3) iV.nd rfl (Or.inl rfl) (ao D_law_thing hr (aa (av bU (fv 0) ae) (aa (fv 1) af))))
  (ab (aE (i:=4) iV.nd rfl (Or.inl rfl) (ao D_law_thing hr (aa (av bU (fv 0) ae) (aa (fv 1) af))))
  (ab (aS (ay (bz hu) (av bI (fv 0) ae) ae (aC _))
   (ag (az (cB (aa (fv 3) af))))
   aL)
  (ab (aS (ay (bz hu) (av bI (fv 0) ae) ae (aC _))
   (ag (az (cB (aa (px hu (fv 2) (av bI (av bU (fv 0) ae) ae)) (aa au (aa (fv 4) af))))))
   aL)
  (ag (az (cB (aa (fv 3) (aa (px hu (cf (aa au (aa au (aa au (aa au (aa au (aa au (aa au af)))))))) (av bI (av bU (fv 0) ae) ae)) (aa (fv 4) af)))))))))),?_⟩
  refine ⟨⟨by decide,by decide⟩,_,l,th,rfl,⟨by omega,by omega⟩,hl,hth,fun a ha=>?_⟩
  refine ⟨⟨by decide,by decide⟩,_,l,th,rfl,⟨by omega,by omega⟩,hl,hth,fun b hb=>?_⟩
  refine ⟨(by show (0:Int) < 4;decide),rfl,_,rfl,aW (fun _=>?_) (fun _=>?_)⟩
  ·exact ⟨by show 1 <= sizeLine;decide,fun p hp=>q p (.one a) _ ha (ah.upd hp _) hp ar⟩
  refine ⟨(by show (0:Int) < 4;decide),rfl,_,rfl,aW (fun _=>?_) (fun _=>?_)⟩
  ·have m:=bD (n / 4) (show (0:Int) < 2 by decide)
   obtain ⟨z,ez,hz⟩:∃z,atI [V.str (E.N x),.str (E.N y)] (n / 4 % 2)=some (.str (E.N z))/\z ∈ E.ls:=by
    have:n / 4 % 2=0 \/ n / 4 % 2=1:=by omega
    rcases this with e | e <;> rw [e]
    ·exact ⟨x,rfl,hx⟩
    ·exact ⟨y,rfl,hy⟩
   refine ⟨⟨by decide,by decide⟩,(by show (0:Int) < 2;decide),Or.inl ⟨_,_,Or.inl (SqL.of hll),ez,?_⟩⟩
   exact ⟨by show 3 <= sizeLine;decide,fun p hp=>q p (.atl z b) _ ⟨(lm z hz).1,(lm z hz).2,hb⟩ (ah.upd hp _) hp ar⟩
  ·refine ⟨by show 7 <= sizeLine;decide,fun lo hlo=>?_⟩
   obtain ⟨s1,e1⟩:=alc hlo (HO.lst [V.str "+",.str "-",.str "*",.str "over",.str "rest",.str "<",.str "="])
   generalize upd H lo _=H1 at s1 e1 ⊢
   have m:=bD (n / 4) (show (0:Int) < 7 by decide)
   obtain ⟨z,hz,_,ez⟩:=nB V.str (xs:=opW) m.1 m.2
   refine ⟨⟨by decide,by decide⟩,(by show (0:Int) < 7;decide),Or.inl ⟨_,_,Or.inl (SqL.of e1),ez,?_⟩⟩
   exact ⟨by show 3 <= sizeLine;decide,fun p hp=>q p (.op a z b) _ ⟨ha,hb,hz⟩ (s1.trans (ah.upd hp _)) (ah.free s1 hp) ar⟩
end
section
variable {P:Program}{w:World}{K:W.Frag}{mg:Str->Option Value}{base:Heap}{A:Adr}{E:En}{mo:Nat->Int}{ex:Nat->Option Int}
def New (H H':Hp):Hp:=fun a=>match H a with
 | none=>H' a
 | some _=>none
theorem New.of {H H':Hp}{a:Addr}{o:HO} (h:H a=none) (e:H' a=some o):New H H' a=some o:=by
 unfold New
 rw [h]
 exact e
theorem New.get {H H':Hp}{a:Addr}{o:HO} (h:New H H' a=some o):H a=none/\H' a=some o:=by
 unfold New at h
 split at h
 ·exact ⟨by assumption,h⟩
 ·cases h
theorem New.same {H H':Hp}:ah (New H H') H':=fun a o h=>(New.get h).2
def Dm (H H':Hp):Prop:=∀a,H' a=none->H a=none
theorem Dm.new {H H':Hp} (s:ah H H'):Dm H H':=fun a e=>by
 cases h:H a with
 | none=>rfl
 | some o=>rw [s a o h] at e;cases e
theorem New.up {H H1 H':Hp} (h:Dm H H1):ah (New H1 H') (New H H'):=fun a o e=>by
 obtain ⟨e1,e2⟩:=New.get e
 exact New.of (h a e1) e2
theorem New.on {H H1 H2:Hp} (s:ah H1 H2):ah (New H H1) (New H H2):=fun a o e=>by
 obtain ⟨e1,e2⟩:=New.get e
 exact New.of e1 (s a o e2)
theorem New.go {M:List Addr}{H H1 H2:Hp} (g:Go M H1 M H2) (m:∀a ∈ M,H a ≠ none):ah (New H H1) (New H H2):=fun a o e=>by
 obtain ⟨e1,e2⟩:=New.get e
 exact New.of e1 (g.o a o (fun z=>m a z e1) e2)
theorem Go.out {M:List Addr}{H H1:Hp} (g:Go M H M H1) {x:Addr} (h:H x=none) (u:HO):Go M H M (upd H1 x u):=⟨fun a o m e=>by
 rw [aK (fun z=>by rw [z,h] at e;cases e)]
 exact g.o a o m e,g.m⟩
def nmD (i:Nat):Nat:=13 + 2 * i
def bY (N:Nat->Str) (X:Hp):Nat->V->Rw->Prop
 | _,v,.set n x val=>∃a p,v=.ref a/\X a=some (.tup [.int n,.str "set",.str (N x),.ref p])/\X p=some (.tup (vV N val))
 | _,v,.put n x pl val=>∃a p,v=.ref a/\X a=some (.tup [.int n,.str "put",.str (N x),pl.v N,.ref p])/\X p=some (.tup (vV N val))
 | _,v,.snd n h val=>∃a p,v=.ref a/\X a=some (.tup [.int n,.str "send",.str (N h),.ref p])/\X p=some (.tup (vV N val))
 | _,v,.say n x val m=>∃a p,v=.ref a/\X a=some (.tup [.int n,.str "say",.str (N x),.ref p,.str (N m)])/\X p=some (.tup (vV N val))
 | _,v,.last n=>∃a,v=.ref a/\X a=some (.tup [.int n,.str "last"])
 | _,v,.call n i ts=>∃a p,v=.ref a/\X a=some (.tup [.int n,.str "call",.str (N (nmD i)),.ref p])/\X p=some (.lst (ts.map (Th.v N)))
 | d + 1,v,.iff n val f o l r=>∃a p pf po xf xo,v=.ref a/\X a=some (.tup [.int n,.str "if",.ref p,.ref pf,.ref po,.int l,.int r])/\X p=some (.tup (vV N val))/\X pf=some (.lst xf)/\X po=some (.lst xo)/\Paired (bY N X d) xf f/\Paired (bY N X d) xo o
 | d + 1,v,.loop n t m b l r=>∃a pb xb,v=.ref a/\X a=some (.tup [.int n,.str "loop",t.v N,.int m,.ref pb,.int l,.int r])/\X pb=some (.lst xb)/\Paired (bY N X d) xb b
 | 0,_,.iff _ _ _ _ _ _=>False
 | 0,_,.loop _ _ _ _ _ _=>False
theorem bY.same {N:Nat->Str}{X X':Hp} (s:ah X X'):∀{d:Nat}{v:V}{r:Rw},bY N X d v r->bY N X' d v r:=by
 have leafs:∀{d:Nat}{v:V}{r:Rw},(∀n v f o l q,r ≠ .iff n v f o l q)->(∀n t m b l q,r ≠ .loop n t m b l q)->bY N X d v r->bY N X' d v r:=by
  intro d v r i1 i2 h
  cases r with
  | iff n v f o l r=>exact absurd rfl (i1 _ _ _ _ _ _)
  | loop n t m b l r=>exact absurd rfl (i2 _ _ _ _ _ _)
  | last n=>cases d <;> (obtain ⟨a,e,h1⟩:=h;exact ⟨a,e,s _ _ h1⟩)
  | _=>cases d <;> (obtain ⟨a,p,e,h1,h2⟩:=h;exact ⟨a,p,e,s _ _ h1,s _ _ h2⟩)
 intro d
 induction d with
 | zero =>
  intro v r h
  cases r with
  | iff n v f o l r=>exact h.elim
  | loop n t m b l r=>exact h.elim
  | _=>exact leafs (fun _ _ _ _ _ _ z=>by cases z) (fun _ _ _ _ _ _ z=>by cases z) h
 | succ d ih =>
  intro v r h
  cases r with
  | iff n v f o l r =>
   obtain ⟨a,p,pf,po,xf,xo,e,h1,h2,h3,h4,h5,h6⟩:=h
   exact ⟨a,p,pf,po,xf,xo,e,s _ _ h1,s _ _ h2,s _ _ h3,s _ _ h4,Paired.cF h5 fun _ _=>ih,Paired.cF h6 fun _ _=>ih⟩
  | loop n t m b l r =>
   obtain ⟨a,pb,xb,e,h1,h2,h3⟩:=h
   exact ⟨a,pb,xb,e,s _ _ h1,s _ _ h2,Paired.cF h3 fun _ _=>ih⟩
  | _=>exact leafs (fun _ _ _ _ _ _ z=>by cases z) (fun _ _ _ _ _ _ z=>by cases z) h
def WfL (E:En) (kn:Nat):Nat->Rw->Prop
 | _,.set _ x v=>x ∈ E.idx/\E.sz x=0/\v.ok E
 | _,.put _ x p v=>x ∈ E.idx/\0 < E.sz x/\p.ok E/\v.ok E
 | _,.snd _ _ v=>v.ok E
 | _,.say _ x v _=>x ∈ E.idx/\E.sz x=0/\v.ok E
 | _,.last _=>True
 | _,.call _ i ts=>i < kn/\ts.length=i + 1/\∀t ∈ ts,t.ok E
 | d + 1,.iff _ v f o l r=>v.ok E/\0 <= l/\0 <= r/\f.length <= 1000/\o.length <= 1000/\(∀q ∈ f,WfL E kn d q)/\∀q ∈ o,WfL E kn d q
 | d + 1,.loop _ t m b l r=>t.ok E/\0 <= m/\m <= 1000/\0 <= l/\0 <= r/\b.length <= 1000/\∀q ∈ b,WfL E kn d q
 | 0,.iff _ _ _ _ _ _=>False
 | 0,.loop _ _ _ _ _ _=>False
def fE (a b:Int):Int:=if a < b then b else a
def bE (mo:Nat->Int):Nat->Rw->Int
 | _,.call _ i _=>1 + mo i
 | d + 1,.iff _ _ f o l r=>1 + fE ((f.map (bE mo d)).sum + l) ((o.map (bE mo d)).sum + r)
 | d + 1,.loop _ _ m b l r=>1 + m * fE ((b.map (bE mo d)).sum + l) r
 | _,_=>1
def cC (ex:Nat->Option Int):Nat->Rw->Option Int
 | _,.call _ i _=>(ex i).map fun x=>1 + x
 | d + 1,.iff _ _ f o l r=>match bw (f.map (cC ex d)),bw (o.map (cC ex d)) with
  | some x,some y=>if l + x=r + y then some (1 + l + x) else none
  | _,_=>none
 | d + 1,.loop _ _ m b l r=>match bw (b.map (cC ex d)) with
  | some x=>if l + x=r then some (1 + m * r) else none
  | none=>none
 | _,_=>some 1
theorem iy {f:Rw->Option Int}{g:Rw->Int}:∀{rs:List Rw}{e:Int},(∀r ∈ rs,∀x,f r=some x->x=g r)->bw (rs.map f)=some e->e=(rs.map g).sum
 | [],e,_,h=>by cases h;rfl
 | r :: rs,e,hr,h=>by
  have h':(rs.map f).foldl sumF ((some (0:Int)).bind fun a=>(f r).map fun b=>a + b)=some e:=h
  cases q:f r with
  | none=>rw [q] at h';rw [show ((some (0:Int)).bind fun a=>(none:Option Int).map fun b=>a + b)=none from rfl,fq] at h';cases h'
  | some x =>
   rw [q] at h'
   obtain ⟨u,hu,e2⟩:=me _ _ h'
   have i:=iy (rs:=rs) (fun r' m x'=>hr r' (List.mem_cons_of_mem _ m) x') hu
   have j:=hr r List.mem_cons_self x q
   rw [List.map_cons,List.sum_cons,e2,i,j]
   show 0 + g r + (rs.map g).sum=_
   omega
theorem pG (h:∀i x,ex i=some x->x=mo i):∀(d:Nat) (r:Rw) (x:Int),cC ex d r=some x->x=bE mo d r:=by
 intro d
 induction d with
 | zero =>
  intro r x e
  cases r with
  | call n i ts =>
   unfold cC at e
   cases q:ex i with
   | none=>rw [q] at e;cases e
   | some y=>rw [q] at e;cases e;rw [h i y q];rfl
  | _=>cases e;rfl
 | succ d ih =>
  intro r x e
  cases r with
  | call n i ts =>
   unfold cC at e
   cases q:ex i with
   | none=>rw [q] at e;cases e
   | some y=>rw [q] at e;cases e;rw [h i y q];rfl
  | iff n v f o l r =>
   unfold cC at e
   split at e
   ·rename_i x1 y1 e1 e2
    have a1:=iy (fun r _=>ih r) e1
    have a2:=iy (fun r _=>ih r) e2
    split at e
    ·cases e
     unfold bE fE
     rw [<- a1,<- a2]
     split <;> omega
    ·cases e
   ·cases e
  | loop n t m b l r =>
   unfold cC at e
   split at e
   ·rename_i x1 e1
    have a1:=iy (fun r _=>ih r) e1
    split at e
    ·cases e
     unfold bE fE
     rw [<- a1]
     rw [if_neg (by omega),show x1 + l=r by omega]
    ·cases e
   ·cases e
  | _=>cases e;rfl
structure La where
 S:Addr
 ln:Addr
 lm:Addr
 lo:Addr
 lk:Addr
 lt:Addr
 lc:Addr
 ll:Addr
 eR:List Int
 kn:Nat
 th:List Nat
 ev:Int
structure Dy where
 row:Int
 marks:List Nat
 cells:List Int
def La.M (s:La):List Addr:=[s.S,s.lm,s.ll]
def stK (s:La) (row:Int):List (Key × V):=[(.inr "names",.ref s.ln),(.inr "row",.int row),(.inr "marks",.ref s.lm),(.inr "mosts",.ref s.lo),(.inr "known",.ref s.lk),(.inr "things",.ref s.lt),(.inr "even",.int s.ev),(.inr "costs",.ref s.lc),(.inr "cells",.ref s.ll)]
def KnV (N:Nat->Str) (X:Hp) (v:V) (i:Nat):Prop:=∃p,v=.ref p/\X p=some (.tup [.str (N (nmD i)),.int ((i + 1:Nat):Int)])
abbrev nmL (N:Nat->Str):List V:=(List.range 18).map fun i=>V.str (N i)
def pj (E:En) (mo:Nat->Int) (ex:Nat->Option Int) (X:Hp) (lc:Addr) (kn:Nat):Prop:=∃cv,X lc=some (.dK (dk E.N ((List.range kn).map nmD) cv))/\∀i < kn,∃p,cv (nmD i)=.ref p/\X p=some (.tup [.int (mo i),eV (ex i)])
theorem pj.same {X X':Hp}{lc:Addr}{kn:Nat} (s:ah X X') (h:pj E mo ex X lc kn):pj E mo ex X' lc kn:=by
 obtain ⟨cv,h1,h2⟩:=h
 refine ⟨cv,s _ _ h1,fun i hi=>?_⟩
 obtain ⟨p,e,q⟩:=h2 i hi
 exact ⟨p,e,s _ _ q⟩
structure zV (E:En) (mo:Nat->Int) (ex:Nat->Option Int) (X:Hp) (s:La):Prop where
 hn:X s.ln=some (.lst (nmL E.N))
 ho:X s.lo=some (.lst (s.eR.map V.int))
 hk:∃kv,X s.lk=some (.lst kv)/\Paired (KnV E.N X) kv (List.range s.kn)
 ht:X s.lt=some (.lst (stV E s.th))
 hx:pj E mo ex X s.lc s.kn
theorem zV.same {X X':Hp}{s:La} (z:ah X X') (h:zV E mo ex X s):zV E mo ex X' s:=by
 obtain ⟨kv,k1,k2⟩:=h.hk
 exact ⟨z _ _ h.hn,z _ _ h.ho,⟨kv,z _ _ k1,Paired.cF k2 fun _ _ ⟨p,e,q⟩=>⟨p,e,z _ _ q⟩⟩,z _ _ h.ht,h.hx.same z⟩
structure Dyn (E:En) (H:Hp) (s:La) (y:Dy):Prop where
 hS:H s.S=some (.dK (stK s y.row))
 hm:H s.lm=some (.lst (stV E y.marks))
 hc:H s.ll=some (.lst (y.cells.map V.int))
theorem Dyn.same {H H':Hp}{s:La}{y:Dy} (z:ah H H') (h:Dyn E H s y):Dyn E H' s y:=⟨z _ _ h.hS,z _ _ h.hm,z _ _ h.hc⟩
structure lH (E:En) (s:La):Prop where
 n1:s.S ≠ s.lm
 n2:s.S ≠ s.ll
 n3:s.lm ≠ s.ll
 D:jF E.N
 ok:∀i,PyData.strOk (E.N i)=true
 th:uh E s.th
 t3:3 < s.th.length
 kn:s.kn <= 2
 l5:5 ∈ E.ls
 l9:9 ∈ E.ls
 ms:∀m ∈ s.eR,1 <= m/\m <= 4
 ml:s.eR.length <= 2
structure cZ (E:En) (mo:Nat->Int) (ex:Nat->Option Int) (H:Hp) (s:La) (y:Dy):Prop where
 st:zV E mo ex (del s.M H) s
 dy:Dyn E H s y
variable {H H':Hp}{s:La}{y:Dy}
theorem cZ.same (z:ah H H') (h:cZ E mo ex H s y):cZ E mo ex H' s y:=⟨h.st.same (Go.new (M:=s.M) z).same,h.dy.same z⟩
theorem cZ.go {y':Dy} (h:cZ E mo ex H s y) (g:Go s.M H s.M H') (d:Dyn E H' s y'):cZ E mo ex H' s y':=⟨h.st.same g.same,d⟩
theorem cZ.al (h:cZ E mo ex H s y):∀a ∈ s.M,H a ≠ none:=fun a m e=>by
 rcases List.mem_cons.mp m with rfl | m
 ·rw [h.dy.hS] at e;cases e
 rcases List.mem_cons.mp m with rfl | m
 ·rw [h.dy.hm] at e;cases e
 rcases List.mem_cons.mp m with rfl | m
 ·rw [h.dy.hc] at e;cases e
 ·cases m
theorem inS (s:La):s.S ∈ s.M:=List.mem_cons_self
theorem inm (s:La):s.lm ∈ s.M:=List.mem_cons_of_mem _ List.mem_cons_self
theorem Bq (s:La):s.ll ∈ s.M:=List.mem_cons_of_mem _ (List.mem_cons_of_mem _ List.mem_cons_self)
theorem cZ.row (O:lH E s) (h:cZ E mo ex H s y) (n:Int):cZ E mo ex (upd H s.S (.dK (stK s n))) s { y with row:=n }:=h.go (Go.at (inS s) _) ⟨ar,aj O.n1.symm h.dy.hm,aj O.n2.symm h.dy.hc⟩
theorem cZ.mark (O:lH E s) (h:cZ E mo ex H s y) (ms:List Nat):cZ E mo ex (upd H s.lm (.lst (stV E ms))) s { y with marks:=ms }:=h.go (Go.at (inm s) _) ⟨aj O.n1 h.dy.hS,ar,aj O.n3.symm h.dy.hc⟩
theorem cZ.cell (O:lH E s) (h:cZ E mo ex H s y) (cs:List Int):cZ E mo ex (upd H s.ll (.lst (cs.map V.int))) s { y with cells:=cs }:=h.go (Go.at (Bq s) _) ⟨aj O.n2 h.dy.hS,aj O.n3 h.dy.hm,ar⟩
theorem cZ.dm (h:cZ E mo ex H s y) (g:Go s.M H s.M H') {y':Dy} (h':cZ E mo ex H' s y'):Dm H H':=fun a e=>by
 cases q:H a with
 | none=>rfl
 | some o =>
  by_cases m:a ∈ s.M
  ·exact absurd e (h'.al a m)
  ·rw [g.o a o m q] at e;cases e
def knD (N:Nat->Str) (i:Nat):PyData:=.tuple [.str (N (nmD i)),.int ((i + 1:Nat):Int)]
theorem xv {X:Hp} (z:ah X H) {N:Nat->Str}:∀{kv:List V}{ki:List Nat},Paired (KnV N X) kv ki->dJ K H kv (ki.map (knD N))
 | _,_,.nil=>.nil
 | _,_,.cons ⟨t,e,h⟩ r=>by
  subst e
  exact .cons (.tup (SqT.of (z _ _ h)) (.cons (.str _) (.cons (.int _) .nil))) (xv z r)
theorem vO (O:lH E s):SeqAt.shaped (.list ((List.range s.kn).map (knD E.N)))=true:=by
 have:s.kn=0 \/ s.kn=1 \/ s.kn=2:=by have:=O.kn;omega
 rcases this with e | e | e <;> rw [e] <;> simp [List.range_succ,knD,SeqAt.shaped,PyData.canLay0,PyData.canLayAll0,PyData.depth,PyData.depthAll,O.ok]
end
section
variable {P:Program}{w:World}{K:W.Frag}{mg:Str->Option Value}{base:Heap}{A:Adr}{E:En}{mo:Nat->Int}{ex:Nat->Option Int}
seal PE PA PS PSs PT PW
def kinds:List Str:=["set","set","put","send","send","say","if","if","loop","loop","last","call","close","close"]
theorem bo {x y:Str} (h:decide (V.str x=V.str y)=true):x=y:=by
 have:=of_decide_eq_true h
 cases this
 rfl
theorem fy {x y:Str} (h:¬ decide (V.str x=V.str y)=true):x ≠ y:=fun e=>h (by rw [e];exact decide_eq_true rfl)
def zI (E:En) (mo:Nat->Int) (ex:Nat->Option Int):Sp:=fun vs H Q _=>∃(s:La) (y:Dy) (c:Int) (dp lp:Nat),vs=[.ref s.S,.int c,.int dp,.int lp]/\lH E s/\cZ E mo ex H s y /\
 ∀(x:Str) H',ah H H'->(x="if"->dp <= 3)->(x="loop"->dp <= 3/\lp < s.eR.length)->(x="call"->0 < s.kn)->Q (.str x) H'
theorem Bs (T:Txt K mg A):Has P w K mg base 1 "_law_kind" ["_law_state","_law_cell","_law_deep","_law_loops"] (zI E mo ex):=by
 refine T.q5.has jG (fun vs H Q E h=>?_) (fun f cdv A' outer s H vs Q E' hr hu h=>?_)
 ·obtain ⟨s,y,c,dp,lp,rfl,_⟩:=h
  rfl
 ·obtain ⟨s,y,c,dp,lp,rfl,O,L,q⟩:=h
  refine ⟨_,(ab (aE (i:=4) jG.nd rfl (Or.inl rfl) (cf (aa au (aa au (aa au (aa au (aa au (aa au (aa au (aa au (aa au (aa au (aa au (aa au (aa au (aa au af))))))))))))))))
  (ab (aE (i:=5) jG.nd rfl (Or.inl rfl) (px hu (fv 4) (av bI (fv 1) ae)))
  (ab (aS (PW.pt (pw_or (PW.pt (pw_and (ay (bz hu) (fv 5) au (aC _)) (pw_and1 (ay (bz hu) (fv 2) ae (aC _))))) (pw_or (PW.pt (pw_and (ay (bz hu) (fv 5) au (aC _)) (pw_and1 (ay (sY) (fv 2) ae (aC _))))) (pw_or1 (PW.pt (pw_and (ay (bz hu) (fv 5) au (aC _)) (pw_and1 (ay (bz hu) (fv 3) ae (aC _)))))))))
   (ag (az au))
   aL)
  (ab (aS (PW.pt (pw_and (ay (bz hu) (fv 5) au (aC _)) (pw_and1 (PW.pt (pw_or (ay (sY) (fv 2) ae (aC _)) (pw_or1 (ay (Dq) (fv 3) (aN gW rfl T.iw (by boot_by_name) (aa (px hu (fv 0) au) af)) (aC _))))))))
   (ag (az au))
   aL)
  (ab (aS (PW.pt (pw_and (ay (bz hu) (fv 5) au (aC _)) (pw_and1 (PW.pt (pw_or (ay (bz hu) (px hu (fv 0) au) (cf af) (aC _)) (pw_or1 (ay (sY) (fv 3) ae (aC _))))))))
   (ag (az au))
   aL)
  (ag (az (fv 5)))))))),?_⟩
  refine ⟨by show 14 <= sizeLine;decide,fun lo hlo=>?_⟩
  have s1:=ah.upd hlo (HO.lst (kinds.map V.str))
  have e1:(upd H lo (HO.lst (kinds.map V.str))) lo=some (.lst (kinds.map V.str)):=ar
  change rK _ _ _ _ (upd H lo (HO.lst (kinds.map V.str)))
  generalize upd H lo (HO.lst (kinds.map V.str))=H1 at s1 e1 ⊢
  have L1:=L.same s1
  have m:=bD c (show (0:Int) < 14 by decide)
  obtain ⟨x,hx,_,ex'⟩:=nB V.str (xs:=kinds) m.1 m.2
  refine ⟨(by show (0:Int) < 14;decide),Or.inl ⟨_,_,Or.inl (SqL.of e1),ex',?_⟩⟩
  dsimp only
  refine aF fun M1 K1=>?_
  have set:∀H2,ah H H2->Q (.str "set") H2:=fun H2 s2=>q _ _ s2 (fun z=>absurd z (by decide)) (fun z=>absurd z (by decide)) (fun z=>absurd z (by decide))
  have fin:(x="if"->dp <= 3)->M1 [some (.ref s.S),some (.int c),some (.int dp),some (.int lp),some (.ref lo),some (.str x)] H1:=fun z1=>K1 _ _ (by
   refine aF fun M2 K2=>?_
   have fin2:(x="loop"->dp <= 3/\lp < s.eR.length)->M2 [some (.ref s.S),some (.int c),some (.int dp),some (.int lp),some (.ref lo),some (.str x)] H1:=fun z2=>K2 _ _ (by
    refine aF fun M3 K3=>?_
    have fin3:(x="call"->0 < s.kn)->∀H2,ah H H2->M3 [some (.ref s.S),some (.int c),some (.int dp),some (.int lp),some (.ref lo),some (.str x)] H2:=fun z3 H2 s2=>K3 _ _ (q x H2 s2 z1 z2 z3)
    refine ⟨rfl,_,rfl,aW (fun a=>?_) (fun a=>aY (fin3 (fun z=>absurd z (fy a)) _ s1))⟩
    refine ⟨_,cj.k (k:=.inr "known") L1.dy.hS,Nat.zero_le _,fun l hl=>?_⟩
    obtain ⟨s2,e2⟩:=alc hl (HO.lst [])
    generalize upd H1 l _=H2 at s2 e2 ⊢
    obtain ⟨kv,k1,k2⟩:=L1.st.hk
    refine Or.inl (Or.inl ⟨_,_,.lst (SqL.of (s2 _ _ (aw _ _ k1))) (xv (aw.trans s2) k2),.lst (SqL.of e2) .nil,vO O,rfl,_,rfl,?_⟩)
    cases e:s.kn with
    | zero=>exact cy (cy (q "send" _ (s1.trans s2) (fun z=>absurd z (by decide)) (fun z=>absurd z (by decide)) (fun z=>absurd z (by decide))))
    | succ n =>
     rw [List.range_succ_eq_map]
     exact aY ⟨_,rfl,aW (fun b=>q "send" _ (s1.trans s2) (fun z=>absurd z (by decide)) (fun z=>absurd z (by decide)) (fun z=>absurd z (by decide))) (fun b=>fin3 (fun _=>by omega) _ (s1.trans s2))⟩)
   refine ⟨rfl,_,rfl,aW (fun a=>?_) (fun a=>aY (fin2 (fun z=>absurd z (fy a))))⟩
   have put:∀H2,ah H H2->Q (.str "put") H2:=fun H2 s2=>q _ _ s2 (fun z=>absurd z (by decide)) (fun z=>absurd z (by decide)) (fun z=>absurd z (by decide))
   refine ⟨_,rfl,aW (fun b=>cy (put _ s1)) (fun b=>?_)⟩
   have hb:¬ (3:Int) < dp:=fun z=>b (decide_eq_true z)
   refine ⟨_,cj.k (k:=.inr "mosts") L1.dy.hS,Or.inl ⟨_,_,rfl,Or.inl ⟨_,SqL.of (aw _ _ L1.st.ho),rfl⟩,_,rfl,aW (fun b2=>put _ s1) (fun b2=>?_)⟩⟩
   have hb2:¬ (((s.eR.map V.int).length:Nat):Int) <= lp:=fun z=>b2 (decide_eq_true z)
   rw [List.length_map] at hb2
   exact fin2 fun _=>⟨by omega,by omega⟩)
  refine ⟨rfl,_,rfl,aW (fun a=>?_) (fun a=>aY ?_)⟩
  ·have e:=bo a
   have go:∀z:Str,x=z->z ≠ "close"->False:=fun z e2 n=>n (e2.symm.trans e)
   refine ⟨rfl,_,rfl,aW (fun b=>cy (set _ s1)) (fun b=>?_)⟩
   refine ⟨rfl,_,rfl,aW (fun a=>(go _ (bo a) (by decide)).elim) (fun a=>aY ?_)⟩
   exact ⟨rfl,_,rfl,aW (fun a=>(go _ (bo a) (by decide)).elim) (fun a=>aY (fin (fun z=>(go _ z (by decide)).elim)))⟩
  ·refine ⟨rfl,_,rfl,aW (fun a=>?_) (fun a=>aY ?_)⟩
   ·have e:=bo a
    refine ⟨_,rfl,aW (fun b=>cy (set _ s1)) (fun b=>?_)⟩
    have hb:¬ (3:Int) < dp:=fun z=>b (decide_eq_true z)
    exact ⟨rfl,_,rfl,aW (fun a=>absurd (e.symm.trans (bo a)) (by decide)) (fun a=>aY (fin (fun z=>by omega)))⟩
   ·have n:=fy a
    exact ⟨rfl,_,rfl,aW (fun a=>⟨rfl,_,rfl,aW (fun b=>set _ s1) (fun b=>fin (fun z=>absurd z n))⟩) (fun a=>aY (fin (fun z=>absurd z n)))⟩
end
section
variable {P:Program}{w:World}{K:W.Frag}{mg:Str->Option Value}{base:Heap}{A:Adr}{E:En}{mo:Nat->Int}{ex:Nat->Option Int}
seal PE PA PS PSs PT PW
theorem sQ {n i j:Nat} (h:(List.range n)[i]?=some j):i < n/\j=i:=by
 obtain ⟨h1,h2⟩:=List.getElem?_eq_some_iff.mp h
 rw [List.getElem_range] at h2
 rw [List.length_range] at h1
 exact ⟨h1,h2.symm⟩
theorem dj (N:Nat->Str) {i:Nat} (h:i < 18):atI (nmL N) (i:Int)=some (.str (N i)):=j5 (by rw [List.getElem?_map,List.getElem?_range h];rfl)
theorem yb:∀ys:List V,(∀y ∈ ys,∃t:Th,t.ok E/\y=t.v E.N)->∃ts:List Th,ys=ts.map (Th.v E.N)/\∀t ∈ ts,t.ok E
 | [],_=>⟨[],rfl,fun _ h=>by cases h⟩
 | y :: r,h=>by
  obtain ⟨t,ht,rfl⟩:=h y List.mem_cons_self
  obtain ⟨ts,rfl,hts⟩:=yb r fun z hz=>h z (List.mem_cons_of_mem _ hz)
  exact ⟨t :: ts,rfl,fun z hz=>by
   rcases List.mem_cons.mp hz with rfl | hz
   ·exact ht
   ·exact hts z hz⟩
def yt (E:En) (mo:Nat->Int) (kn:Nat) (r:Rw):Prop:=(∀d,WfL E kn d r)/\((∀d,bE mo d r=1) \/ ∃i < kn,∀d,bE mo d r=1 + mo i)
def yu (E:En) (mo:Nat->Int) (ex:Nat->Option Int):Sp:=fun vs H Q _=>∃(s:La) (y:Dy) (c:Int) (x:Str),vs=[.ref s.S,.int c,.str x]/\lH E s/\cZ E mo ex H s y/\(x="call"->0 < s.kn) /\
 ∀v r y' H',Go s.M H s.M H'->cZ E mo ex H' s y'->y'.cells=y.cells->(∀d,bY E.N (New H H') d v r)->yt E mo s.kn r->Q v H'
theorem yO (T:Txt K mg A):Has P w K mg base 4 "_law_plain" ["_law_state","_law_cell","_law_kind_here"] (yu E mo ex):=by
 have D_law_mix:=vq (P:=P) (w:=w) (base:=base) T
 have D_law_thing:=qG (P:=P) (w:=w) (base:=base) (E:=E) T
 have D_law_value:=uW (P:=P) (w:=w) (base:=base) (E:=E) T
 refine T.qd.has (k:=3) dw (fun vs H Q E h=>?_) (fun f cdv A' outer s H vs Q E' hr hu h=>?_)
 ·obtain ⟨s,y,c,x,rfl,_⟩:=h
  rfl
 ·obtain ⟨s,y,c,x,rfl,O,L,hk,q⟩:=h
  refine ⟨_,(ab (aE (i:=3) dw.nd rfl (Or.inl rfl) (px hu (fv 0) au))
  (ab (aE (i:=4) dw.nd rfl (Or.inl rfl) (px hu (fv 0) au))
  (ab (bN (av bf (fv 4) ae) (bR (fv 0) au (bS hu set_list)))
  (ab (aE (i:=5) dw.nd rfl (Or.inl rfl) (ao D_law_value hr (aa (ao D_law_mix hr (aa (fv 1) (aa ae af))) (aa (px hu (fv 0) au) (aa (cf (aa (px hu (fv 3) ae) (aa (px hu (fv 3) ae) af))) af)))))
  (ab (aE (i:=6) dw.nd rfl (Or.inl rfl) (px hu (px hu (fv 0) au) (av bf ae (av bI (ao D_law_mix hr (aa (fv 1) (aa ae af))) (av mJ (aN gW rfl T.iw (by boot_by_name) (aa (px hu (fv 0) au) af)) ae)))))
  (ab (aS (ay (bz hu) (fv 2) au (aC _))
   (ag (az (cB (aa (fv 4) (aa au (aa (px hu (fv 3) ae) (aa (ao D_law_thing hr (aa (ao D_law_mix hr (aa (fv 1) (aa ae af))) (aa (px hu (fv 0) au) af))) (aa (fv 5) af))))))))
   aL)
  (ab (aS (ay (bz hu) (fv 2) au (aC _))
   (ag (az (cB (aa (fv 4) (aa au (aa (px hu (fv 3) (av bI (ao D_law_mix hr (aa (fv 1) (aa ae af))) ae)) (aa (fv 5) af)))))))
   aL)
  (ab (aS (PW.pt (pw_and (ay (bz hu) (fv 2) au (aC _)) (pw_and1 (ay (pq hu) (px hu (fv 0) au) (cf af) (aC _)))))
   (ag (az (cB (aa (fv 4) (aa au (aa (fv 6) (aa (fv 5) (aa (Ah (px hu (fv 0) au)) af))))))))
   aL)
  (ab (aS (ay (bz hu) (fv 2) au (aC _))
   (ag (az (cB (aa (fv 4) (aa au af)))))
   aL)
  (ab (aS (ay (bz hu) (fv 2) au (aC _))
   (ab (bN (px hu (px hu (fv 0) au) (av bI (ao D_law_mix hr (aa (fv 1) (aa ae af))) (aN gW rfl T.iw (by boot_by_name) (aa (px hu (fv 0) au) af)))) (ux rfl (fF (pgn (i:=7) dw.nd rfl) (fF (pgn (i:=8) dw.nd rfl) qw))))
   (ag (az (cB (aa (fv 4) (aa au (aa (fv 7) (aa (j7 (N:=["_law_j","_law_state","_law_cell"]) (own:=1) (fr:=[0,1]) (dC.of (by kernel_rfl!)) rfl (iF rfl T.eJ (aa (fv 8) af)) (fun b=>pgn (i:=0) (show List.Nodup (["_law_j","_law_state","_law_cell"]:List PySem.Str) by decide +kernel) rfl) (fun b=>kD) (fun b=>ao D_law_thing hr (aa (av bU (ao D_law_mix hr (aa (fv 2) (aa ae af))) (av bf (av eZ (fv 0) ae) ae)) (aa (px hu (fv 1) au) af)))) af))))))))
   aL)
  (ag (az (cB (aa (fv 4) (aa au (aa (fv 6) (aa (fv 5) af))))))))))))))))),?_⟩
  refine ⟨_,cj.k (k:=.inr "names") L.dy.hS,?_⟩
  refine ⟨_,cj.k (k:=.inr "row") L.dy.hS,?_⟩
  refine ⟨_,du.k (k:=.inr "row") L.dy.hS (show 9 < sizeLine by decide),?_⟩
  rw [show putK (stK s y.row) (.inr "row") (.int (y.row + 1))=stK s (y.row + 1) from rfl]
  have L1:=L.row O (y.row + 1)
  have g1:Go s.M H s.M (upd H s.S (.dK (stK s (y.row + 1)))):=Go.at (inS s) _
  generalize upd H s.S (.dK (stK s (y.row + 1)))=H1 at L1 g1 ⊢
  refine ⟨c,0,rfl,by decide,fun m0 H2 hm0 s2=>?_⟩
  have L2:=L1.same s2
  refine ⟨_,cj.k (k:=.inr "things") L2.dy.hS,Or.inl ⟨_,_,Or.inl (SqL.of (aw _ _ L2.st.hn)),dj E.N (i:=5) (by decide),Or.inl ⟨_,_,Or.inl (SqL.of (aw _ _ L2.st.hn)),dj E.N (i:=9) (by decide),?_⟩⟩⟩
  refine ⟨by show 2 <= sizeLine;decide,fun l3 hl3=>?_⟩
  obtain ⟨s3,e3⟩:=alc hl3 (HO.lst [V.str (E.N 5),.str (E.N 9)])
  generalize upd H2 l3 _=H3 at s3 e3 ⊢
  have L3:=L2.same s3
  refine ⟨m0,s.lt,l3,s.th,5,9,rfl,hm0,SqL.of (aw _ _ L3.st.ht),O.th,e3,O.l5,O.l9,fun p val H4 hv s4 hp ep=>?_⟩
  have L4:=L3.same s4
  have d1:Dm H H1:=L.dm g1 L1
  have p0:H p=none:=d1 p (Dm.new (s2.trans s3) p hp)
  have g4:Go s.M H s.M H4:=g1.trans (Go.new ((s2.trans s3).trans s4))
  have d4:Dm H H4:=L.dm g4 L4
  clear hp e3 hl3 s2 s3 s4 L1 L2 L3 g1 d1
  refine ⟨_,cj.k (k:=.inr "things") L4.dy.hS,c,1,rfl,by decide,fun m1 H5 hm1 s5=>?_⟩
  have L5:=L4.same s5
  have ht5:=aw _ _ L5.st.ht
  have lt:(((stV E s.th).length:Nat):Int)=(s.th.length:Int):=by rw [List.length_map]
  have t3:=O.t3
  have mm:=bD m1 (show (0:Int) < (s.th.length:Int) - 3 by omega)
  obtain ⟨o,ho,_,ea⟩:=nB (fun i=>V.str (E.N i)) (xs:=s.th) (k:=3 + m1 % ((s.th.length:Int) - 3)) (by omega) (by omega)
  refine ⟨_,cj.k (k:=.inr "things") L5.dy.hS,Or.inl ⟨_,_,rfl,Or.inl ⟨_,SqL.of ht5,rfl⟩,(by show (0:Int) < (((stV E s.th).length:Nat):Int) - 3;omega),Or.inl ⟨_,_,Or.inl (SqL.of ht5),(by rw [lt];exact ea),?_⟩⟩⟩
  have ok:=O.th.2 o ho
  have g5:Go s.M H s.M H5:=g4.trans (Go.new s5)
  have d5:Dm H H5:=L.dm g5 L5
  have ep5:=s5 _ _ ep
  have fin:∀(H6:Hp) (y':Dy) (a:Addr) (ws:List V) (r:Rw),Go s.M H s.M H6->cZ E mo ex H6 s y'->y'.cells=y.cells->H6 p=some (.tup (vV E.N val))->H6 a=none->(∀X:Hp,X a=some (.tup ws)->(∀z o,H z=none->H6 z=some o->X z=some o)->∀d,bY E.N X d (.ref a) r)->yt E mo s.kn r->Q (.ref a) (upd H6 a (.tup ws)):=fun H6 y' a ws r g6 L6 ec e6 ha hx pr=>by
   have s7:=ah.upd ha (HO.tup ws)
   have d6:Dm H H6:=L.dm g6 L6
   refine q _ r y' _ (g6.trans (Go.new s7)) (L6.same s7) ec (hx _ (New.of (d6 a ha) ar) fun z o z0 ez=>New.of z0 (s7 _ _ ez)) pr
  dsimp only
  refine aF fun M1 K1=>?_
  have hn5:=aw _ _ L5.st.hn
  have r1:M1 [some (.ref s.S),some (.int c),some (.str x),some (.ref s.ln),some (.int y.row),some (.ref p),some (.str (E.N o)),none,none] H5:=K1 _ _ (by
   refine aF fun M2 K2=>?_
   have r2:M2 [some (.ref s.S),some (.int c),some (.str x),some (.ref s.ln),some (.int y.row),some (.ref p),some (.str (E.N o)),none,none] H5:=K2 _ _ (by
    refine aF fun M3 K3=>?_
    have r3:∀H6,ah H5 H6->M3 [some (.ref s.S),some (.int c),some (.str x),some (.ref s.ln),some (.int y.row),some (.ref p),some (.str (E.N o)),none,none] H6:=fun H6 s6=>K3 _ _ (by
     have L6:=L5.same s6
     have g6:Go s.M H s.M H6:=g5.trans (Go.new s6)
     refine aF fun M4 K4=>?_
     have r4:M4 [some (.ref s.S),some (.int c),some (.str x),some (.ref s.ln),some (.int y.row),some (.ref p),some (.str (E.N o)),none,none] H6:=K4 _ _ (by
      refine aF fun M5 K5=>?_
      have r5:M5 [some (.ref s.S),some (.int c),some (.str x),some (.ref s.ln),some (.int y.row),some (.ref p),some (.str (E.N o)),none,none] H6:=K5 _ _ (by
       refine ⟨by show 4 <= sizeLine;decide,fun a ha=>fin H6 _ a _ (.set y.row o val) g6 L6 rfl (s6 _ _ ep5) ha (fun X e1 e2 d=>?_) ⟨fun d=>?_,.inl fun d=>?_⟩⟩
       ·have:∃a' p',V.ref a=.ref a'/\X a'=some (.tup [.int y.row,.str "set",.str (E.N o),.ref p'])/\X p'=some (.tup (vV E.N val)):=⟨a,p,rfl,e1,e2 _ _ p0 (s6 _ _ ep5)⟩
        cases d <;> exact this
       ·have:o ∈ E.idx/\E.sz o=0/\val.ok E:=⟨ok.1,ok.2,hv⟩
        cases d <;> exact this
       ·cases d <;> rfl)
      refine ⟨rfl,_,rfl,aW (fun a=>?_) (fun _=>r5)⟩
      have k0:=hk (bo a)
      obtain ⟨kv,k1,k2⟩:=L6.st.hk
      have lk:(kv.length:Int)=(s.kn:Int):=by rw [Paired.length k2,List.length_range]
      refine ⟨_,cj.k (k:=.inr "known") L6.dy.hS,c,1,rfl,by decide,fun m2 H7 hm2 s7=>?_⟩
      have L7:=L6.same s7
      have mk:=bD m2 (show (0:Int) < (kv.length:Int) by omega)
      obtain ⟨u,u1,u2⟩:=vd (xs:=kv) mk.1 mk.2
      obtain ⟨i,hi,⟨t,rfl,et⟩⟩:=bW k2 u1
      obtain ⟨ki,ei⟩:=sQ hi
      have k1':=s7 _ _ (aw _ _ k1)
      refine ⟨_,cj.k (k:=.inr "known") L7.dy.hS,Or.inl ⟨_,_,rfl,Or.inl ⟨_,SqL.of k1',rfl⟩,(by show (0:Int) < (kv.length:Int);omega),Or.inl ⟨_,_,Or.inl (SqL.of k1'),u2,?_⟩⟩⟩
      have n2:=O.kn
      refine ⟨t,_,rfl,SqT.of (s7 _ _ (aw _ _ et)),rfl,_,_,rfl,_,_,rfl,rfl,?_⟩
      refine ⟨_,rfl,by omega,by omega,k7 (J:=Itr 0 (i + 1)) (n:=i + 1) (x:=fun j=>.int (0 + j)) (fun _ y _=>∃t:Th,t.ok E/\y=t.v E.N) (aR (by omega)) (fun _ _=>Nat.le_refl _) (fun _ _ h _=>h) (fun _ _ _ _ _ _ y=>y) (fun b j H8 G hj s8 kk=>?_) (fun _ _ _ _ _ h=>h) (fun _ _ _ _ _ _ _ h=>h) (fun D H8 ys hD s8 eD ly hy=>?_)⟩
      ·have L8:=L7.same s8
       refine ⟨c,2,rfl,by decide,fun m3 H9 hm3 s9=>?_⟩
       have L9:=L8.same s9
       have j1:j=0 \/ j=1:=by omega
       have hm4:In (m3 / ((0 + (j:Int)) * 48 + 1)):=by
        obtain ⟨a1,a2⟩:=hm3
        rcases j1 with rfl | rfl
        ·exact ⟨by omega,by omega⟩
        ·exact ⟨by omega,by omega⟩
       refine ⟨.inl ⟨by omega,by omega⟩,⟨by omega,by omega⟩,?_⟩
       exact ⟨_,cj.k (k:=.inr "things") L9.dy.hS,_,s.lt,s.th,rfl,hm4,SqL.of (aw _ _ L9.st.ht),O.th,fun t ht=>kk _ _ s9 ⟨t,ht,rfl⟩⟩
      ·obtain ⟨ts,rfl,hts⟩:=yb (E:=E) ys (fun z hz=>by
        obtain ⟨j,hj⟩:=List.getElem?_of_mem hz
        exact hy j z hj)
       have L8:=L7.same s8
       have s68:=s7.trans s8
       have p8:=s68 _ _ (s6 _ _ ep5)
       have g8:=(g6.trans (Go.new s7)).trans (Go.new s8)
       have D0:H D=none:=L.dm (g6.trans (Go.new s7)) L7 D hD
       refine ⟨by show 4 <= sizeLine;decide,fun a ha=>fin H8 _ a _ (.call y.row i ts) g8 L8 rfl p8 ha (fun X e1 e2 d=>?_) ⟨fun d=>?_,.inr ⟨i,by omega,fun d=>?_⟩⟩⟩
       ·have:∃a' p',V.ref a=.ref a'/\X a'=some (.tup [.int y.row,.str "call",.str (E.N (nmD i)),.ref p'])/\X p'=some (.lst (ts.map (Th.v E.N))):=⟨a,D,rfl,e1,e2 _ _ D0 eD⟩
        cases d <;> exact this
       ·have:i < s.kn/\ts.length=i + 1/\∀t ∈ ts,t.ok E:=⟨by omega,by rw [List.length_map] at ly;exact ly,hts⟩
        cases d <;> exact this
       ·cases d <;> rfl)
     refine ⟨rfl,_,rfl,aW (fun _=>?_) (fun _=>r4)⟩
     refine ⟨by show 2 <= sizeLine;decide,fun a ha=>fin H6 _ a _ (.last y.row) g6 L6 rfl (s6 _ _ ep5) ha (fun X e1 e2 d=>?_) ⟨fun d=>?_,.inl fun d=>?_⟩⟩
     ·have:∃a',V.ref a=.ref a'/\X a'=some (.tup [.int y.row,.str "last"]):=⟨a,rfl,e1⟩
      cases d <;> exact this
     ·cases d <;> exact True.intro
     ·cases d <;> rfl)
    refine ⟨rfl,_,rfl,aW (fun _=>?_) (fun _=>aY (r3 _ (ah.refl _)))⟩
    refine ⟨_,cj.k (k:=.inr "marks") L5.dy.hS,Nat.zero_le _,fun l6 hl6=>?_⟩
    obtain ⟨s6,e6⟩:=alc hl6 (HO.lst [])
    generalize upd H5 l6 _=H6 at s6 e6 ⊢
    have L6:=L5.same s6
    have hm6:=L6.dy.hm
    have em:stV E y.marks=(y.marks.map E.N).map V.str:=by rw [List.map_map];rfl
    refine ⟨_,_,.lst (SqL.of (by rw [em] at hm6;exact hm6)) (dJ.strs _),.lst (SqL.of e6) .nil,rH (fun z hz=>?_),rfl,_,rfl,?_⟩
    ·obtain ⟨i,_,rfl⟩:=List.mem_map.mp hz
     exact O.ok i
    have g6:Go s.M H s.M H6:=g5.trans (Go.new s6)
    by_cases em0:y.marks=[]
    ·rw [em0]
     exact aY (r3 _ s6)
    obtain ⟨ms,mk,ek⟩:∃ms mk,y.marks=ms ++ [mk]:=⟨y.marks.dropLast,y.marks.getLast em0,(List.dropLast_concat_getLast em0).symm⟩
    have ev:((PyData.list ((y.marks.map E.N).map PyData.str)).eqv (PyData.list []))=false:=by
     cases hm:y.marks with
     | nil=>exact absurd hm em0
     | cons a r=>rfl
    rw [ev]
    refine cy ?_
    refine ⟨_,cj.k (k:=.inr "marks") L6.dy.hS,Or.inl ⟨rfl,_,SqL.of hm6⟩,_,_,.str (E.N mk),rfl,rfl,hm6,(by rw [show y.marks=ms ++ [mk] from ek];simp),?_⟩
    rw [show (stV E y.marks).dropLast=stV E ms by rw [ek];simp]
    have L7:=L6.mark O ms
    have g7:Go s.M H s.M (upd H6 s.lm (.lst (stV E ms))):=g6.trans (Go.at (inm s) _)
    have e7:(upd H6 s.lm (.lst (stV E ms))) p=some (.tup (vV E.N val)):=aj (fun z=>L.al s.lm (inm s) (by rw [<- z];exact p0)) (s6 _ _ ep5)
    generalize upd H6 s.lm (.lst (stV E ms))=H7 at L7 g7 e7 ⊢
    refine ⟨by show 5 <= sizeLine;decide,fun a ha=>fin H7 _ a _ (.say y.row o val mk) g7 L7 rfl e7 ha (fun X e1 e2 d=>?_) ⟨fun d=>?_,.inl fun d=>?_⟩⟩
    ·have:∃a' p',V.ref a=.ref a'/\X a'=some (.tup [.int y.row,.str "say",.str (E.N o),.ref p',.str (E.N mk)])/\X p'=some (.tup (vV E.N val)):=⟨a,p,rfl,e1,e2 _ _ p0 e7⟩
     cases d <;> exact this
    ·have:o ∈ E.idx/\E.sz o=0/\val.ok E:=⟨ok.1,ok.2,hv⟩
     cases d <;> exact this
    ·cases d <;> rfl)
   refine ⟨rfl,_,rfl,aW (fun _=>?_) (fun _=>r2)⟩
   refine ⟨c,1,rfl,by decide,fun m2 H6 hm2 s6=>?_⟩
   have L6:=L5.same s6
   have hn6:=aw _ _ L6.st.hn
   have mk:=bD m2 (show (0:Int) < 2 by decide)
   have ei:((m2 % 2).toNat:Int)=m2 % 2:=by omega
   refine ⟨(by show (0:Int) < 2;decide),Or.inl ⟨_,_,Or.inl (SqL.of hn6),(by rw [<- ei];exact dj E.N (by omega)),?_⟩⟩
   refine ⟨by show 4 <= sizeLine;decide,fun a ha=>fin H6 _ a _ (.snd y.row (m2 % 2).toNat val) (g5.trans (Go.new s6)) L6 rfl (s6 _ _ ep5) ha (fun X e1 e2 d=>?_) ⟨fun d=>?_,.inl fun d=>?_⟩⟩
   ·have:∃a' p',V.ref a=.ref a'/\X a'=some (.tup [.int y.row,.str "send",.str (E.N (m2 % 2).toNat),.ref p'])/\X p'=some (.tup (vV E.N val)):=⟨a,p,rfl,e1,e2 _ _ p0 (s6 _ _ ep5)⟩
    cases d <;> exact this
   ·have:val.ok E:=hv
    cases d <;> exact this
   ·cases d <;> rfl)
  refine ⟨rfl,_,rfl,aW (fun _=>?_) (fun _=>r1)⟩
  refine Or.inl ⟨_,_,Or.inl (SqL.of hn5),dj E.N (i:=9) (by decide),c,2,rfl,by decide,fun m2 H6 hm2 s6=>?_⟩
  have L6:=L5.same s6
  refine ⟨_,cj.k (k:=.inr "things") L6.dy.hS,m2,s.lt,s.th,rfl,hm2,SqL.of (aw _ _ L6.st.ht),O.th,fun t ht=>?_⟩
  have l9:=List.mem_filter.mp O.l9
  refine ⟨by show 5 <= sizeLine;decide,fun a ha=>fin H6 _ a _ (.put y.row 9 t val) (g5.trans (Go.new s6)) L6 rfl (s6 _ _ ep5) ha (fun X e1 e2 d=>?_) ⟨fun d=>?_,.inl fun d=>?_⟩⟩
  ·have:∃a' p',V.ref a=.ref a'/\X a'=some (.tup [.int y.row,.str "put",.str (E.N 9),t.v E.N,.ref p'])/\X p'=some (.tup (vV E.N val)):=⟨a,p,rfl,e1,e2 _ _ p0 (s6 _ _ ep5)⟩
   cases d <;> exact this
  ·have:9 ∈ E.idx/\0 < E.sz 9/\t.ok E/\val.ok E:=⟨l9.1,of_decide_eq_true l9.2,ht,hv⟩
   cases d <;> exact this
  ·cases d <;> rfl
end
section
variable {P:Program}{w:World}{K:W.Frag}{mg:Str->Option Value}{base:Heap}{A:Adr}{E:En}{mo:Nat->Int}{ex:Nat->Option Int}{kn:Nat}
seal PE PA PS PSs PT PW
theorem vM {i j:Int}{n:Nat}{t u:TS}{D:Ends}{σ:St}{H:Hp} (h:rK t u D (σ.set n (some (.int (i + j)))) H):CS (.int i) (.int j) H (fun x H1=>jc n x σ H1 (rK t u D)):=h
def yW (a b:Option Int) (l r g:Int):Option Int:=match a,b with
 | some x,some y=>if x + l=y + r then some g else none
 | _,_=>none
def AM:Sp:=fun vs H Q _=>∃(t1 t2:Addr) (a0 b0:Int) (a1 b1:Option Int) (l r m:Int),vs=[.ref t1,.ref t2,.int l,.int r,.int m]/\H t1=some (.tup [.int a0,eV a1])/\H t2=some (.tup [.int b0,eV b1])/\0 <= m/\m <= 1000 /\
 ∀t H',ah H H'->H t=none->H' t=some (.tup [.int (1 + m * fE (a0 + l) (b0 + r)),eV (yW a1 b1 l r (1 + m * fE (a0 + l) (b0 + r)))])->Q (.ref t) H'
theorem B8 (T:Txt K mg A):Has P w K mg base 1 "_law_two" ["_law_one","_law_other","_law_left","_law_right","_law_times"] AM:=by
 refine T.vf.has nY (fun vs H Q E h=>?_) (fun f cdv A' outer s H vs Q E' hr hu h=>?_)
 ·obtain ⟨t1,t2,a0,b0,a1,b1,l,r,m,rfl,_⟩:=h
  rfl
 ·obtain ⟨t1,t2,a0,b0,a1,b1,l,r,m,rfl,h1,h2,m0,m1,q⟩:=h
  have h1':=SqT.of (K:=K) h1
  have h2':=SqT.of (K:=K) h2
  refine ⟨_,(ab (aE (i:=5) nY.nd rfl (Or.inl rfl) (av bf ae (av eZ (fv 4) (aN u6 rfl T.nP (by boot_by_name) (aa (av bf (px hu (fv 0) ae) (fv 2)) (aa (av bf (px hu (fv 1) ae) (fv 3)) af))))))
  (ab (aS (PW.pt (pw_or (ay (mU) (px hu (fv 0) ae) cL (aC _)) (pw_or (ay (mU) (px hu (fv 1) ae) cL (aC _)) (pw_or1 (ay (pq hu) (av bf (px hu (fv 0) ae) (fv 2)) (av bf (px hu (fv 1) ae) (fv 3)) (aC _))))))
   (ag (az (cB (aa (fv 5) (aa cL af)))))
   aL)
  (ag (az (cB (aa (fv 5) (aa (fv 5) af))))))),?_⟩
  refine Or.inl ⟨_,_,Or.inr h1',rfl,Or.inl ⟨_,_,Or.inr h2',rfl,_,_,rfl,.inl ⟨by omega,by omega⟩,?_⟩⟩
  dsimp only
  refine vM ?_
  change rK _ _ _ [some (.ref t1),some (.ref t2),some (.int l),some (.int r),some (.int m),some (.int (1 + m * fE (a0 + l) (b0 + r)))] H
  have fin:∀z:Option Int,yW a1 b1 l r (1 + m * fE (a0 + l) (b0 + r))=z->∀a,H a=none->Q (.ref a) (upd H a (.tup [.int (1 + m * fE (a0 + l) (b0 + r)),eV z])):=fun z e a ha=>q a _ (ah.upd ha _) ha (by rw [e];exact ar)
  refine aF fun M1 K1=>?_
  cases a1 with
  | none=>exact Or.inl ⟨_,_,Or.inr h1',rfl,rfl,_,rfl,cy (cy ⟨by show 2 <= sizeLine;decide,fin none rfl⟩)⟩
  | some x =>
   refine Or.inl ⟨_,_,Or.inr h1',rfl,rfl,_,rfl,aY ?_⟩
   cases b1 with
   | none=>exact Or.inl ⟨_,_,Or.inr h2',rfl,rfl,_,rfl,cy (cy ⟨by show 2 <= sizeLine;decide,fin none rfl⟩)⟩
   | some y =>
    refine Or.inl ⟨_,_,Or.inr h2',rfl,rfl,_,rfl,aY ?_⟩
    refine Or.inl ⟨_,_,Or.inr h1',rfl,Or.inl ⟨_,_,Or.inr h2',rfl,rfl,_,rfl,?_⟩⟩
    rw [j9]
    by_cases c:x + l=y + r
    ·rw [decide_eq_true c]
     exact aY (K1 _ _ ⟨by show 2 <= sizeLine;decide,fin (some _) (if_pos c)⟩)
    ·rw [decide_eq_false c]
     exact cy ⟨by show 2 <= sizeLine;decide,fin none (if_neg c)⟩
def kP (E:En) (mo:Nat->Int) (ex:Nat->Option Int) (kn:Nat):Prop:=jF E.N/\kn <= 2/\∀i x,ex i=some x->x=mo i
def nc (E:En) (mo:Nat->Int) (ex:Nat->Option Int) (kn d:Nat):Sp:=fun vs H Q _=>∃(B lc:Addr) (xs:List V) (rs:List Rw),vs=[.ref B,.ref lc]/\H B=some (.lst xs)/\Paired (bY E.N H d) xs rs/\(∀r ∈ rs,WfL E kn d r)/\pj E mo ex H lc kn /\
 ∀t H',ah H H'->H t=none->H' t=some (.tup [.int (rs.map (bE mo d)).sum,eV (bw (rs.map (cC ex d)))])->Q (.ref t) H'
def wV (E:En) (mo:Nat->Int) (ex:Nat->Option Int) (kn:Nat):Nat->Sp
 | 0=>fun _ _ _ _=>False
 | d + 1=>nc E mo ex kn d
theorem pj.get (C:kP E mo ex kn) {H:Hp}{lc:Addr} (h:pj E mo ex H lc kn) {i:Nat} (hi:i < kn):∃p,cj H lc (.str (E.N (nmD i))) (some (.ref p))/\H p=some (.tup [.int (mo i),eV (ex i)]):=by
 obtain ⟨cv,h1,h2⟩:=h
 obtain ⟨p,e,hp⟩:=h2 i hi
 have k2:=C.2.1
 refine ⟨p,?_,hp⟩
 rw [<- e]
 refine tW C.1 (.inl h1) (fun j hj=>?_) (List.mem_map.mpr ⟨i,List.mem_range.mpr hi,rfl⟩)
 obtain ⟨j',hj',rfl⟩:=List.mem_map.mp hj
 have:=List.mem_range.mp hj'
 unfold nmD
 omega
theorem node4 {H:Hp}{d:Nat}{v:V}{r:Rw} (na:bY E.N H d v r):(∃a n k ws,v=.ref a/\H a=some (.tup (n :: .str k :: ws))/\k ≠ "call"/\k ≠ "if"/\k ≠ "loop"/\bE mo d r=1/\cC ex d r=some 1) \/ (∃n i ts,r=.call n i ts) \/ (∃n x f o l q,r=.iff n x f o l q) \/ (∃n t m b l q,r=.loop n t m b l q):=by
 cases r with
 | call n i ts=>exact .inr (.inl ⟨_,_,_,rfl⟩)
 | iff n x f o l q=>exact .inr (.inr (.inl ⟨_,_,_,_,_,_,rfl⟩))
 | loop n t m b l q=>exact .inr (.inr (.inr ⟨_,_,_,_,_,_,rfl⟩))
 | last n=>cases d <;> (obtain ⟨a,e,h⟩:=na;exact .inl ⟨a,_,_,_,e,h,by decide,by decide,by decide,rfl,rfl⟩)
 | _=>cases d <;> (obtain ⟨a,p,e,h,_⟩:=na;exact .inl ⟨a,_,_,_,e,h,by decide,by decide,by decide,rfl,rfl⟩)
theorem vj (T:Txt K mg A) (C:kP E mo ex kn) (d:Nat) (D_law_cost:Has P w K mg base (d + 1) "_law_cost" ["_law_nodes_here","_law_costs"] (wV E mo ex kn d)):Has P w K mg base (d + 2) "_law_cost" ["_law_nodes_here","_law_costs"] (nc E mo ex kn d):=by
 have D_law_two:=B8 (P:=P) (w:=w) (base:=base) T
 refine T.nW.has (k:=d + 1) cz (fun vs H Q E h=>?_) (fun f cdv A' outer s H vs Q E' hr hu h=>?_)
 ·obtain ⟨B,lc,xs,rs,rfl,_⟩:=h
  rfl
 ·obtain ⟨B,lc,xs,rs,rfl,hB,pr,wf,co,q⟩:=h
  refine ⟨_,(ab (aE (i:=2) cz.nd rfl (Or.inl rfl) ae)
  (ab (aE (i:=3) cz.nd rfl (Or.inl rfl) ae)
  (ab (dD PassesOwn.never rfl (eu (fv 0)) (pgn (i:=4) cz.nd rfl)
   (ab (aE (i:=5) cz.nd rfl (Or.inl rfl) (cB (aa ae (aa ae af))))
   (ab (aS (ay (bz hu) (px hu (fv 4) ae) au (aC _))
    (ag (aE (i:=5) cz.nd rfl (Or.inl rfl) (cB (aa (av bf ae (px hu (px hu (fv 1) (px hu (fv 4) ae)) ae)) (aa (eG (ay (mU) (px hu (px hu (fv 1) (px hu (fv 4) ae)) ae) cL (aC _)) cL (av bf ae (px hu (px hu (fv 1) (px hu (fv 4) ae)) ae))) af)))))
    (ag (aS (ay (bz hu) (px hu (fv 4) ae) au (aC _))
     (ag (aE (i:=5) cz.nd rfl (Or.inl rfl) (ao (hj:=by omega) D_law_two hr (aa (ao (hj:=by omega) D_law_cost hr (aa (px hu (fv 4) ae) (aa (fv 1) af))) (aa (ao (hj:=by omega) D_law_cost hr (aa (px hu (fv 4) ae) (aa (fv 1) af))) (aa (px hu (fv 4) ae) (aa (px hu (fv 4) ae) (aa ae af))))))))
     (ag (aS (ay (bz hu) (px hu (fv 4) ae) au (aC _))
      (ag (aE (i:=5) cz.nd rfl (Or.inl rfl) (ao (hj:=by omega) D_law_two hr (aa (ao (hj:=by omega) D_law_cost hr (aa (px hu (fv 4) ae) (aa (fv 1) af))) (aa (cB (aa ae (aa ae af))) (aa (px hu (fv 4) ae) (aa (px hu (fv 4) ae) (aa (px hu (fv 4) ae) af))))))))
      aL)))))
   (ab (aE (i:=2) cz.nd rfl (Or.inl rfl) (av bf (fv 2) (px hu (fv 5) ae)))
   (ag (aE (i:=3) cz.nd rfl (Or.inl rfl) (eG (PW.pt (pw_or (ay (mU) (fv 3) cL (aC _)) (pw_or1 (ay (mU) (px hu (fv 5) ae) cL (aC _))))) cL (av bf (fv 3) (px hu (fv 5) ae)))))))))
  (ag (az (cB (aa (fv 2) (aa (fv 3) af)))))))),?_⟩
  refine Or.inl ⟨⟨_,SqL.of hB⟩,?_⟩
  refine dO (K:=K) (xs:=xs) (fun i σ H2=>ah H H2/\∃v4 v5,σ=[some (.ref B),some (.ref lc),some (.int (((rs.map (bE mo d)).take i).sum)),some (eV (((rs.map (cC ex d)).take i).foldl sumF (some 0))),v4,v5]) ⟨ah.refl _,none,none,rfl⟩ (fun i σ H2 _ h=>SqL.of (h.1 _ _ hB)) ?_ ?_
  ·rintro i v σ H2 hv ⟨s2,v4,v5,rfl⟩
   obtain ⟨r,hr',na⟩:=bW pr hv
   have rm:=List.mem_of_getElem? hr'
   have wr:=wf r rm
   have na2:=na.same s2
   have hm1:(rs.map (bE mo d))[i]?=some (bE mo d r):=by rw [List.getElem?_map,hr'];rfl
   have hm2:(rs.map (cC ex d))[i]?=some (cC ex d r):=by rw [List.getElem?_map,hr'];rfl
   refine ⟨by show 2 <= sizeLine;decide,fun t1 ht1=>?_⟩
   obtain ⟨s3,e3⟩:=alc ht1 (HO.tup [V.int 1,.int 1])
   generalize upd H2 t1 _=H3 at s3 e3 ⊢
   have na3:=na2.same s3
   have co3:=(co.same s2).same s3
   dsimp only
   refine aF fun M1 K1=>?_
   have rest:∀(t:Addr) (H4:Hp),ah H3 H4->H4 t=some (.tup [.int (bE mo d r),eV (cC ex d r)])->M1 [some (.ref B),some (.ref lc),some (.int (((rs.map (bE mo d)).take i).sum)),some (eV (((rs.map (cC ex d)).take i).foldl sumF (some 0))),some v,some (.ref t)] H4:=fun t H4 s4 e4=>K1 _ _ (by
    have e4':=SqT.of (K:=K) e4
    refine Or.inl ⟨_,_,Or.inr e4',rfl,?_⟩
    have es:((rs.map (bE mo d)).take (i + 1)).sum=((rs.map (bE mo d)).take i).sum + bE mo d r:=by rw [take_snoc hm1,List.sum_append];simp
    have fin:∀z:Option Int,sumF (((rs.map (cC ex d)).take i).foldl sumF (some 0)) (cC ex d r)=z->ah H H4/\∃v4 v5,[some (V.ref B),some (.ref lc),some (.int (((rs.map (bE mo d)).take i).sum + bE mo d r)),some (eV z),some v,some (.ref t)]=[some (V.ref B),some (.ref lc),some (.int (((rs.map (bE mo d)).take (i + 1)).sum)),some (eV (((rs.map (cC ex d)).take (i + 1)).foldl sumF (some 0))),v4,v5]:=fun z hz=>⟨(s2.trans s3).trans s4,_,_,by rw [es,iA _ _ hm2,hz]⟩
    cases e5:((rs.map (cC ex d)).take i).foldl sumF (some 0) with
    | none =>
     rw [e5] at fin
     exact ⟨rfl,_,rfl,cy (cy (fin none rfl))⟩
    | some x =>
     rw [e5] at fin
     refine ⟨rfl,_,rfl,aY ?_⟩
     cases e6:cC ex d r with
     | none =>
      rw [e6] at fin e4'
      exact Or.inl ⟨_,_,Or.inr e4',rfl,rfl,_,rfl,cy (fin none rfl)⟩
     | some y =>
      rw [e6] at fin e4'
      exact Or.inl ⟨_,_,Or.inr e4',rfl,rfl,_,rfl,aY (Or.inl ⟨_,_,Or.inr e4',rfl,fin (some (x + y)) rfl⟩)⟩)
   have sum_eq:∀(d':Nat) (zs:List Rw) (x:Int),bw (zs.map (cC ex d'))=some x->x=(zs.map (bE mo d')).sum:=fun d' zs x h=>iy (fun r _=>pG C.2.2 d' r) h
   rcases node4 (mo:=mo) (ex:=ex) na3 with ⟨a,n,k,ws,rfl,ea,n1,n2,n3,c1,c2⟩ | ⟨n,ci,ts,rfl⟩ | ⟨n,vl,fs,os,l,r0,rfl⟩ | ⟨n,th,m,bs,l,r0,rfl⟩
   ·have ea':=SqT.of (K:=K) ea
    have at1:atI (n :: V.str k :: ws) 1=some (.str k):=j5 (j:=1) rfl
    refine Or.inl ⟨_,_,Or.inr ea',at1,rfl,_,rfl,aW (fun z=>absurd (bo z) n1) (fun _=>?_)⟩
    refine Or.inl ⟨_,_,Or.inr ea',at1,rfl,_,rfl,aW (fun z=>absurd (bo z) n2) (fun _=>?_)⟩
    exact Or.inl ⟨_,_,Or.inr ea',at1,rfl,_,rfl,aW (fun z=>absurd (bo z) n3) (fun _=>rest t1 _ (ah.refl _) (by rw [c1,c2];exact e3))⟩
   ·have na4:∃a p,v=.ref a/\H3 a=some (.tup [.int n,.str "call",.str (E.N (nmD ci)),.ref p])/\H3 p=some (.lst (ts.map (Th.v E.N))):=by cases d <;> exact na3
    have wr':ci < kn:=by cases d <;> exact wr.1
    obtain ⟨a,p,rfl,ea,_⟩:=na4
    have ea':=SqT.of (K:=K) ea
    obtain ⟨pc,g1,g2⟩:=pj.get C co3 wr'
    have g2':=SqT.of (K:=K) g2
    have c1:bE mo d (.call n ci ts)=1 + mo ci:=by cases d <;> rfl
    have c2:cC ex d (.call n ci ts)=(ex ci).map fun x=>1 + x:=by cases d <;> rfl
    rw [c1,c2] at rest
    refine Or.inl ⟨_,_,Or.inr ea',rfl,rfl,_,rfl,cy ?_⟩
    refine Or.inl ⟨_,_,Or.inr ea',rfl,?_⟩
    refine ⟨_,g1,Or.inl ⟨_,_,Or.inr g2',rfl,?_⟩⟩
    refine Or.inl ⟨_,_,Or.inr ea',rfl,_,g1,Or.inl ⟨_,_,Or.inr g2',rfl,rfl,_,rfl,?_⟩⟩
    cases e6:ex ci with
    | none =>
     rw [e6] at rest
     exact cy ⟨by show 2 <= sizeLine;decide,fun t ht=>rest t _ (ah.upd ht _) ar⟩
    | some x =>
     rw [e6] at rest g2'
     exact aY (Or.inl ⟨_,_,Or.inr ea',rfl,_,g1,Or.inl ⟨_,_,Or.inr g2',rfl,by show 2 <= sizeLine;decide,fun t ht=>rest t _ (ah.upd ht _) ar⟩⟩)
   ·cases d with
    | zero=>exact (show False from wr).elim
    | succ d =>
     obtain ⟨a,p,pf,po,xf,xo,rfl,ea,_,hf,ho,pf',po'⟩:=na3
     obtain ⟨_,l0,r1,_,_,w1,w2⟩:=wr
     have ea':=SqT.of (K:=K) ea
     refine Or.inl ⟨_,_,Or.inr ea',rfl,rfl,_,rfl,aW (fun z=>absurd (bo z) (by decide)) (fun _=>?_)⟩
     refine Or.inl ⟨_,_,Or.inr ea',rfl,rfl,_,rfl,cy ?_⟩
     refine Or.inl ⟨_,_,Or.inr ea',rfl,pf,lc,xf,fs,rfl,hf,pf',w1,co3,fun u1 H4 s4 hu1 eu1=>?_⟩
     refine Or.inl ⟨_,_,Or.inr (SqT.of (s4 _ _ ea)),rfl,po,lc,xo,os,rfl,s4 _ _ ho,Paired.cF po' (fun _ _=>bY.same s4),w2,co3.same s4,fun u2 H5 s5 hu2 eu2=>?_⟩
     have ea5:=SqT.of (K:=K) ((s4.trans s5) _ _ ea)
     refine Or.inl ⟨_,_,Or.inr ea5,rfl,Or.inl ⟨_,_,Or.inr ea5,rfl,?_⟩⟩
     refine ⟨u1,u2,_,_,_,_,l,r0,1,rfl,s5 _ _ eu1,eu2,by decide,by decide,fun t H6 s6 ht et=>rest t _ ((s4.trans s5).trans s6) ?_⟩
     rw [et]
     have e1:=sum_eq d fs
     have e2:=sum_eq d os
     unfold bE cC yW
     rw [Int.one_mul]
     congr 3
     cases q1:bw (fs.map (cC ex d)) with
     | none=>rfl
     | some x =>
      cases q2:bw (os.map (cC ex d)) with
      | none=>rfl
      | some y =>
       have f1:=e1 x q1
       have f2:=e2 y q2
       dsimp only
       rw [<- f1,<- f2]
       by_cases c:x + l=y + r0
       ·rw [if_pos c,if_pos (by omega)]
        unfold fE
        rw [if_neg (by omega),show 1 + (x + l)=1 + l + x by omega]
       ·rw [if_neg c,if_neg (by omega)]
   ·cases d with
    | zero=>exact (show False from wr).elim
    | succ d =>
     obtain ⟨a,pb,xb,rfl,ea,hb,pb'⟩:=na3
     obtain ⟨_,m0,m1,l0,r1,_,w1⟩:=wr
     have ea':=SqT.of (K:=K) ea
     refine Or.inl ⟨_,_,Or.inr ea',rfl,rfl,_,rfl,aW (fun z=>absurd (bo z) (by decide)) (fun _=>?_)⟩
     refine Or.inl ⟨_,_,Or.inr ea',rfl,rfl,_,rfl,aW (fun z=>absurd (bo z) (by decide)) (fun _=>?_)⟩
     refine Or.inl ⟨_,_,Or.inr ea',rfl,rfl,_,rfl,cy ?_⟩
     refine Or.inl ⟨_,_,Or.inr ea',rfl,pb,lc,xb,bs,rfl,hb,pb',w1,co3,fun u1 H4 s4 hu1 eu1=>?_⟩
     refine ⟨by show 2 <= sizeLine;decide,fun u2 hu2=>?_⟩
     obtain ⟨s5,e5⟩:=alc hu2 (HO.tup [V.int 0,.int 0])
     generalize upd H4 u2 _=H5 at s5 e5 ⊢
     have ea5:=SqT.of (K:=K) ((s4.trans s5) _ _ ea)
     refine Or.inl ⟨_,_,Or.inr ea5,rfl,Or.inl ⟨_,_,Or.inr ea5,rfl,Or.inl ⟨_,_,Or.inr ea5,rfl,?_⟩⟩⟩
     refine ⟨u1,u2,_,0,_,some 0,l,r0,m,rfl,s5 _ _ eu1,e5,m0,m1,fun t H6 s6 ht et=>rest t _ ((s4.trans s5).trans s6) ?_⟩
     rw [et]
     have e1:=sum_eq d bs
     unfold bE cC yW
     rw [Int.zero_add]
     congr 3
     cases q1:bw (bs.map (cC ex d)) with
     | none=>rfl
     | some x =>
      have f1:=e1 x q1
      dsimp only
      rw [<- f1]
      rw [Int.zero_add]
      by_cases c:x + l=r0
      ·rw [if_pos c,if_pos (by omega)]
       unfold fE
       rw [if_neg (by omega),c]
      ·rw [if_neg c,if_neg (by omega)]
  ·rintro σ H2 ⟨s2,v4,v5,rfl⟩
   have pl:=Paired.length pr
   rw [List.take_of_length_le (by rw [List.length_map];omega),List.take_of_length_le (by rw [List.length_map];omega)]
   exact ⟨by show 2 <= sizeLine;decide,fun t ht=>q t _ (s2.trans (ah.upd ht _)) (Dm.new s2 t ht) ar⟩
theorem tD (T:Txt K mg A) (C:kP E mo ex kn):∀d,Has P w K mg base (d + 2) "_law_cost" ["_law_nodes_here","_law_costs"] (nc E mo ex kn d)
 | 0=>vj T C 0 (T.nW.has (k:=0) cz (fun _ _ _ _ h=>h.elim) (fun _ _ _ _ _ _ _ _ _ _ _ h=>h.elim))
 | d + 1=>vj T C (d + 1) (tD T C d)
end
section
variable {P:Program}{w:World}{K:W.Frag}{mg:Str->Option Value}{base:Heap}{A:Adr}{E:En}{mo:Nat->Int}{ex:Nat->Option Int}{kn:Nat}
seal PE PA PS PSs PT PW
def cJ (E:En) (kn d:Nat) (X:Hp) (B:Addr) (rs:List Rw):Prop:=∃xs,X B=some (.lst xs)/\Paired (bY E.N X d) xs rs/\∀r ∈ rs,WfL E kn d r
theorem cJ.same {d:Nat}{X X':Hp}{B:Addr}{rs:List Rw} (z:ah X X') (h:cJ E kn d X B rs):cJ E kn d X' B rs:=by
 obtain ⟨xs,h1,h2,h3⟩:=h
 exact ⟨xs,z _ _ h1,Paired.cF h2 (fun _ _=>bY.same z),h3⟩
def ee (mo:Nat->Int) (d:Nat) (rs:List Rw):Int:=(rs.map (bE mo d)).sum
def xi (E:En) (mo:Nat->Int) (ex:Nat->Option Int) (kn d:Nat):Sp:=fun vs H Q _=>∃(s:La) (y:Dy) (c:Int) (B1 B2:Addr) (rs1 rs2:List Rw),vs=[.ref s.S,.int c,.ref B1,.ref B2]/\s.kn=kn/\cZ E mo ex H s y/\cJ E kn d H B1 rs1/\cJ E kn d H B2 rs2 /\
 ∀p l r H',ah H H'->H' p=some (.lst [.int l,.int r])->0 <= l->0 <= r->fE (ee mo d rs1 + l) (ee mo d rs2 + r) <= fE (ee mo d rs1) (ee mo d rs2) + 3->Q (.ref p) H'
theorem zY (T:Txt K mg A) (C:kP E mo ex kn) (d:Nat):Has P w K mg base (d + 3) "_law_idles" ["_law_state","_law_cell","_law_one","_law_other"] (xi E mo ex kn d):=by
 have D_law_mix:=vq (P:=P) (w:=w) (base:=base) T
 have D_law_cost:=tD (P:=P) (w:=w) (base:=base) T C d
 refine T.pS.has (k:=d + 2) fS (fun vs H Q E h=>?_) (fun f cdv A' outer s H vs Q E' hr hu h=>?_)
 ·obtain ⟨s,y,c,B1,B2,rs1,rs2,rfl,_⟩:=h
  rfl
 ·obtain ⟨s,y,c,B1,B2,rs1,rs2,rfl,ek,L,b1,b2,q⟩:=h
  refine ⟨_,(ab (aE (i:=4) fS.nd rfl (Or.inl rfl) (ao (hj:=by omega) D_law_mix hr (aa (fv 1) (aa ae af))))
  (ab (aS (ay (bz hu) (px hu (fv 0) au) ae (aC _))
   (ag (az (px hu (cf (aa (cf (aa ae (aa ae af))) (aa (cf (aa (av bI (av bU (fv 4) ae) ae) (aa (av bI (av bU (fv 4) ae) ae) af))) af))) (av bI (fv 4) ae))))
   aL)
  (ab (aE (i:=5) fS.nd rfl (Or.inl rfl) (av bI (fv 4) ae))
  (ab (aE (i:=6) fS.nd rfl (Or.inl rfl) (av bf (aN u6 rfl T.nP (by boot_by_name) (aa (px hu (ao (hj:=by omega) D_law_cost hr (aa (fv 2) (aa (px hu (fv 0) au) af))) ae) (aa (px hu (ao (hj:=by omega) D_law_cost hr (aa (fv 3) (aa (px hu (fv 0) au) af))) ae) af))) (fv 5)))
  (ag (az (cf (aa (av mJ (fv 6) (px hu (ao (hj:=by omega) D_law_cost hr (aa (fv 2) (aa (px hu (fv 0) au) af))) ae)) (aa (av mJ (fv 6) (px hu (ao (hj:=by omega) D_law_cost hr (aa (fv 3) (aa (px hu (fv 0) au) af))) ae)) af))))))))),?_⟩
  refine ⟨c,3,rfl,by decide,fun m H1 hm s1=>?_⟩
  obtain ⟨m0,m1⟩:=hm
  have L1:=L.same s1
  dsimp only
  refine aF fun M1 K1=>?_
  have mm:=bD m (show (0:Int) < 4 by decide)
  have r1:M1 [some (.ref s.S),some (.int c),some (.ref B1),some (.ref B2),some (.int m),none,none] H1:=K1 _ _ (by
   refine ⟨(by show (0:Int) < 4;decide),?_⟩
   have cc:∀H2,ah H1 H2->pj E mo ex H2 s.lc kn:=fun H2 s2=>by rw [<- ek];exact (L1.same s2).st.hx.same aw
   have bb:∀H2,ah H1 H2->∀(B:Addr) (rs:List Rw),cJ E kn d H B rs->cJ E kn d H2 B rs:=fun H2 s2 B rs h=>h.same (s1.trans s2)
   obtain ⟨xst1,h1,h2,h3⟩:=bb H1 (ah.refl _) B1 rs1 b1
   refine ⟨_,cj.k (k:=.inr "costs") (L1.same (ah.refl _)).dy.hS,B1,s.lc,xst1,rs1,rfl,h1,h2,h3,cc H1 (ah.refl _),fun t1 H2 s2 _ e2=>?_⟩
   refine Or.inl ⟨_,_,Or.inr (SqT.of e2),rfl,?_⟩
   obtain ⟨xst2,h1,h2,h3⟩:=bb H2 s2 B2 rs2 b2
   refine ⟨_,cj.k (k:=.inr "costs") (L1.same s2).dy.hS,B2,s.lc,xst2,rs2,rfl,h1,h2,h3,cc H2 s2,fun t2 H3 s3 _ e3=>?_⟩
   refine Or.inl ⟨_,_,Or.inr (SqT.of e3),rfl,?_⟩
   refine ⟨_,_,rfl,?_⟩
   have s13:=s2.trans s3
   obtain ⟨xst3,h1,h2,h3⟩:=bb H3 s13 B1 rs1 b1
   refine ⟨_,cj.k (k:=.inr "costs") (L1.same s13).dy.hS,B1,s.lc,xst3,rs1,rfl,h1,h2,h3,cc H3 s13,fun t3 H4 s4 _ e4=>?_⟩
   refine Or.inl ⟨_,_,Or.inr (SqT.of e4),rfl,?_⟩
   have s14:=s13.trans s4
   obtain ⟨xst4,h1,h2,h3⟩:=bb H4 s14 B2 rs2 b2
   refine ⟨_,cj.k (k:=.inr "costs") (L1.same s14).dy.hS,B2,s.lc,xst4,rs2,rfl,h1,h2,h3,cc H4 s14,fun t4 H5 s5 _ e5=>?_⟩
   refine Or.inl ⟨_,_,Or.inr (SqT.of e5),rfl,?_⟩
   refine ⟨by show 2 <= sizeLine;decide,fun p hp=>q p _ _ _ ((s1.trans (s14.trans s5)).trans (ah.upd hp _)) ar ?_ ?_ ?_⟩
   ·split <;> omega
   ·split <;> omega
   ·unfold fE ee
    split <;> split <;> omega)
  refine ⟨_,cj.k (k:=.inr "even") L1.dy.hS,rfl,_,rfl,aW (fun _=>?_) (fun _=>r1)⟩
  refine ⟨by show 2 <= sizeLine;decide,fun p1 hp1=>?_⟩
  obtain ⟨s2,e2⟩:=alc hp1 (HO.lst [V.int 0,.int 0])
  generalize upd H1 p1 _=H2 at s2 e2 ⊢
  refine ⟨⟨by decide,by decide⟩,(by show (0:Int) < 4;decide),⟨by decide,by decide⟩,(by show (0:Int) < 4;decide),by show 2 <= sizeLine;decide,fun p2 hp2=>?_⟩
  obtain ⟨s3,e3⟩:=alc hp2 (HO.lst [V.int (m / 2 % 4),.int (m / 8 % 4)])
  generalize upd H2 p2 _=H3 at s3 e3 ⊢
  refine ⟨by show 2 <= sizeLine;decide,fun p3 hp3=>?_⟩
  obtain ⟨s4,e4⟩:=alc hp3 (HO.lst [V.ref p1,.ref p2])
  generalize upd H3 p3 _=H4 at s4 e4 ⊢
  have m2:=bD m (show (0:Int) < 2 by decide)
  have m4:=bD (m / 2) (show (0:Int) < 4 by decide)
  have m5:=bD (m / 8) (show (0:Int) < 4 by decide)
  refine ⟨(by show (0:Int) < 2;decide),Or.inl ?_⟩
  have:m % 2=0 \/ m % 2=1:=by omega
  rcases this with e | e <;> rw [e]
  ·exact ⟨_,_,Or.inl (SqL.of e4),rfl,q p1 _ _ _ (((s1.trans s2).trans s3).trans s4) ((s3.trans s4) _ _ e2) (by decide) (by decide) (by rw [Int.add_zero,Int.add_zero];omega)⟩
  ·exact ⟨_,_,Or.inl (SqL.of e4),rfl,q p2 _ _ _ (((s1.trans s2).trans s3).trans s4) (s4 _ _ e3) m4.1 m5.1 (by unfold fE;split <;> split <;> omega)⟩
theorem xR (h0:∀i < kn,0 <= mo i):∀(d:Nat) (r:Rw),WfL E kn d r->1 <= bE mo d r:=by
 have nn:∀(d:Nat) (xs:List Rw),(∀r ∈ xs,1 <= bE mo d r)->0 <= ee mo d xs:=fun d xs h=>by
  unfold ee
  induction xs with
  | nil=>exact Int.le_refl _
  | cons x r ih =>
   rw [List.map_cons,List.sum_cons]
   have:=h x List.mem_cons_self
   have:=ih fun q hq=>h q (List.mem_cons_of_mem _ hq)
   omega
 intro d
 induction d with
 | zero =>
  intro r h
  cases r with
  | iff=>exact (show False from h).elim
  | loop=>exact (show False from h).elim
  | call n i ts =>
   have:=h0 i h.1
   show 1 <= 1 + mo i
   omega
  | _=>exact Int.le_refl _
 | succ d ih =>
  intro r h
  cases r with
  | call n i ts =>
   have:=h0 i h.1
   show 1 <= 1 + mo i
   omega
  | iff n v f o l r =>
   obtain ⟨_,h1,h2,_,_,h3,h4⟩:=h
   have a:=nn d f fun q hq=>ih q (h3 q hq)
   have b:=nn d o fun q hq=>ih q (h4 q hq)
   unfold ee at a b
   unfold bE fE
   split <;> omega
  | loop n t m b l r =>
   obtain ⟨_,h1,_,h2,h3,_,h4⟩:=h
   have a:=nn d b fun q hq=>ih q (h4 q hq)
   unfold ee at a
   unfold bE fE
   have:0 <= m * (if (b.map (bE mo d)).sum + l < r then r else (b.map (bE mo d)).sum + l):=Int.mul_nonneg h1 (by split <;> omega)
   omega
  | _=>exact Int.le_refl _
theorem kT (h0:∀i < kn,0 <= mo i) {d:Nat}{rs:List Rw} (h:∀r ∈ rs,WfL E kn d r):0 <= ee mo d rs:=by
 unfold ee
 induction rs with
 | nil=>exact Int.le_refl _
 | cons x r ih =>
  rw [List.map_cons,List.sum_cons]
  have:=xR h0 d x (h x List.mem_cons_self)
  have:=ih fun q hq=>h q (List.mem_cons_of_mem _ hq)
  omega
structure Wts (s:La) (mo:Nat->Int) (wt:Nat->Int):Prop where
 a:∀k,4 <= wt k
 c:∀i < s.kn,0 <= mo i/\∀k,1 + mo i <= wt k
 l:∀k m,s.eR[k]?=some m->1 + 3 * m <= wt k/\m * wt (k + 1) <= wt k
def k6 (E:En) (mo:Nat->Int) (ex:Nat->Option Int) (kn:Nat) (wt:Nat->Int) (d:Nat):Sp:=fun vs H Q _=>∃(s:La) (y:Dy) (dp k:Nat),vs=[.ref s.S,.int dp,.int k]/\dp + d=4/\lH E s/\cZ E mo ex H s y/\s.kn=kn/\Wts s mo wt/\y.cells.length <= 100 /\
 ∀(D:Addr) (rs:List Rw) (y':Dy) (H':Hp),Go s.M H s.M H'->cZ E mo ex H' s y'->cJ E kn d (New H H') D rs->rs.length + y'.cells.length <= y.cells.length->ee mo d rs + wt k * y'.cells.length <= wt k * y.cells.length->Q (.ref D) H'
def nJ (E:En) (mo:Nat->Int) (ex:Nat->Option Int) (kn:Nat) (wt:Nat->Int) (d:Nat):Sp:=fun vs H Q _=>∃(s:La) (y:Dy) (c:Int) (x:Str) (dp k:Nat),vs=[.ref s.S,.int c,.str x,.int dp,.int k]/\dp + d=4/\0 < d/\(x="loop"->k < s.eR.length)/\lH E s/\cZ E mo ex H s y/\s.kn=kn/\Wts s mo wt/\y.cells.length <= 100 /\
 ∀(v:V) (r:Rw) (y':Dy) (H':Hp),Go s.M H s.M H'->cZ E mo ex H' s y'->bY E.N (New H H') d v r->WfL E kn d r->y'.cells.length <= y.cells.length->bE mo d r + wt k * y'.cells.length <= wt k + wt k * y.cells.length->Q v H'
theorem cJ.on {d:Nat}{M:List Addr}{H Ha Hb Hc:Hp}{B:Addr}{rs:List Rw} (b:cJ E kn d (New Ha Hb) B rs) (dm:Dm H Ha) (g:Go M Hb M Hc) (al:∀a ∈ M,Ha a ≠ none):cJ E kn d (New H Hc) B rs:=(b.same (New.go g al)).same (New.up dm)
theorem bY.Bx {X:Hp}{d:Nat}{a p B1 B2:Addr}{n l r:Int}{val:Val}{f o:List Rw} (ha:X a=some (.tup [.int n,.str "if",.ref p,.ref B1,.ref B2,.int l,.int r])) (hp:X p=some (.tup (vV E.N val))) (h1:cJ E kn d X B1 f) (h2:cJ E kn d X B2 o):bY E.N X (d + 1) (.ref a) (.iff n val f o l r):=by
 obtain ⟨xf,e1,e2,_⟩:=h1
 obtain ⟨xo,f1,f2,_⟩:=h2
 exact ⟨a,p,B1,B2,xf,xo,rfl,ha,hp,e1,f1,e2,f2⟩
theorem bY.zW {X:Hp}{d:Nat}{a B1:Addr}{n m l r:Int}{t:Th}{f:List Rw} (ha:X a=some (.tup [.int n,.str "loop",t.v E.N,.int m,.ref B1,.int l,.int r])) (h1:cJ E kn d X B1 f):bY E.N X (d + 1) (.ref a) (.loop n t m f l r):=by
 obtain ⟨xf,e1,e2,_⟩:=h1
 exact ⟨a,B1,xf,rfl,ha,e1,e2⟩
end
section
variable {P:Program}{w:World}{K:W.Frag}{mg:Str->Option Value}{base:Heap}{A:Adr}{E:En}{mo:Nat->Int}{ex:Nat->Option Int}{kn:Nat}{wt:Nat->Int}
seal PE PA PS PSs PT PW
theorem xw (T:Txt K mg A) (C:kP E mo ex kn) (d:Nat) (D_law_nodes:Has P w K mg base (2 * d + 8) "_law_nodes" ["_law_state","_law_deep","_law_loops"] (k6 E mo ex kn wt d)):Has P w K mg base (2 * d + 9) "_law_block" ["_law_state","_law_cell","_law_kind_here","_law_deep","_law_loops"] (nJ E mo ex kn wt (d + 1)):=by
 have D_law_mix:=vq (P:=P) (w:=w) (base:=base) T
 have D_law_thing:=qG (P:=P) (w:=w) (base:=base) (E:=E) T
 have D_law_value:=uW (P:=P) (w:=w) (base:=base) (E:=E) T
 have D_law_idles:=zY (P:=P) (w:=w) (base:=base) T C d
 refine T.lI.has (k:=2 * d + 8) cu (fun vs H Q E h=>?_) (fun f cdv A' outer s H vs Q E' hr hu h=>?_)
 ·obtain ⟨s,y,c,x,dp,k,rfl,_⟩:=h
  rfl
 ·obtain ⟨s,y,c,x,dp,k,rfl,hd,_,hx,O,L,ek,W,hl,q⟩:=h
  have n0:∀i < kn,0 <= mo i:=fun i hi=>(W.c i (by rw [ek];exact hi)).1
  refine ⟨_,(ab (aE (i:=5) cu.nd rfl (Or.inl rfl) (px hu (fv 0) au))
  (ab (bN (av bf (fv 5) ae) (bR (fv 0) au (bS hu set_list)))
  (ab (aS (ay (bz hu) (fv 2) au (aC _))
   (ab (aE (i:=6) cu.nd rfl (Or.inl rfl) (ao (hj:=by omega) D_law_nodes hr (aa (fv 0) (aa (av bf (fv 3) ae) (aa (av bf (fv 4) ae) af)))))
   (ab (bN (av bf (px hu (fv 0) au) ae) (bR (fv 0) au (bS hu set_list)))
   (ab (aE (i:=7) cu.nd rfl (Or.inl rfl) (ao (hj:=by omega) D_law_idles hr (aa (fv 0) (aa (fv 1) (aa (fv 6) (aa (cf af) af))))))
   (ab (aE (i:=8) cu.nd rfl (Or.inl rfl) (av bf ae (av bI (ao (hj:=by omega) D_law_mix hr (aa (fv 1) (aa ae af))) (px hu (px hu (fv 0) au) (fv 4)))))
   (ag (az (cB (aa (fv 5) (aa au (aa (ao (hj:=by omega) D_law_thing hr (aa (ao (hj:=by omega) D_law_mix hr (aa (fv 1) (aa ae af))) (aa (px hu (fv 0) au) af))) (aa (fv 8) (aa (fv 6) (aa (px hu (fv 7) ae) (aa (px hu (fv 7) ae) af))))))))))))))
   aL)
  (ab (aE (i:=9) cu.nd rfl (Or.inl rfl) (ao (hj:=by omega) D_law_value hr (aa (ao (hj:=by omega) D_law_mix hr (aa (fv 1) (aa ae af))) (aa (px hu (fv 0) au) (aa (cf (aa (px hu (px hu (fv 0) au) ae) (aa (px hu (px hu (fv 0) au) ae) af))) af)))))
  (ab (aE (i:=10) cu.nd rfl (Or.inl rfl) (ao (hj:=by omega) D_law_nodes hr (aa (fv 0) (aa (av bf (fv 3) ae) (aa (fv 4) af)))))
  (ab (bN (av bf (px hu (fv 0) au) ae) (bR (fv 0) au (bS hu set_list)))
  (ab (aE (i:=11) cu.nd rfl (Or.inl rfl) (ao (hj:=by omega) D_law_nodes hr (aa (fv 0) (aa (av bf (fv 3) ae) (aa (fv 4) af)))))
  (ab (bN (av bf (px hu (fv 0) au) ae) (bR (fv 0) au (bS hu set_list)))
  (ab (aE (i:=7) cu.nd rfl (Or.inl rfl) (ao (hj:=by omega) D_law_idles hr (aa (fv 0) (aa (fv 1) (aa (fv 10) (aa (fv 11) af))))))
  (ag (az (cB (aa (fv 5) (aa au (aa (fv 9) (aa (fv 10) (aa (fv 11) (aa (px hu (fv 7) ae) (aa (px hu (fv 7) ae) af))))))))))))))))))),?_⟩
  refine ⟨_,cj.k (k:=.inr "row") L.dy.hS,?_⟩
  refine ⟨_,du.k (k:=.inr "row") L.dy.hS (show 9 < sizeLine by decide),?_⟩
  rw [show putK (stK s y.row) (.inr "row") (.int (y.row + 1))=stK s (y.row + 1) from rfl]
  have L1:=L.row O (y.row + 1)
  have g1:Go s.M H s.M (upd H s.S (.dK (stK s (y.row + 1)))):=Go.at (inS s) _
  generalize upd H s.S (.dK (stK s (y.row + 1)))=H1 at L1 g1 ⊢
  have d1:Dm H H1:=L.dm g1 L1
  dsimp only
  refine aF fun M1 K1=>?_
  have r1:M1 [some (.ref s.S),some (.int c),some (.str x),some (.int dp),some (.int k),some (.int y.row),none,none,none,none,none,none] H1:=K1 _ _ (by
   refine ⟨c,0,rfl,by decide,fun m0 H2 hm0 s2=>?_⟩
   have L2:=L1.same s2
   have hn2:=SqL.of (K:=K) (aw _ _ L2.st.hn)
   refine ⟨_,cj.k (k:=.inr "things") L2.dy.hS,_,cj.k (k:=.inr "names") L2.dy.hS,Or.inl ⟨_,_,Or.inl hn2,dj E.N (i:=5) (by decide),_,cj.k (k:=.inr "names") L2.dy.hS,Or.inl ⟨_,_,Or.inl hn2,dj E.N (i:=9) (by decide),?_⟩⟩⟩
   refine ⟨by show 2 <= sizeLine;decide,fun l3 hl3=>?_⟩
   obtain ⟨s3,e3⟩:=alc hl3 (HO.lst [V.str (E.N 5),.str (E.N 9)])
   generalize upd H2 l3 _=H3 at s3 e3 ⊢
   have L3:=L2.same s3
   refine ⟨m0,s.lt,l3,s.th,5,9,rfl,hm0,SqL.of (aw _ _ L3.st.ht),O.th,e3,O.l5,O.l9,fun p val H4 hv s4 hp ep=>?_⟩
   have L4:=L3.same s4
   have p0:H p=none:=d1 p (Dm.new (s2.trans s3) p hp)
   have pM:p ∉ s.M:=fun m=>L.al p m p0
   have g4:Go s.M H s.M H4:=g1.trans (Go.new ((s2.trans s3).trans s4))
   have d4:Dm H H4:=L.dm g4 L4
   refine ⟨s,_,dp + 1,k,rfl,by omega,O,L4,ek,W,hl,fun B1 rs1 y5 H5 g5 L5 b1 n5 c5=>?_⟩
   refine ⟨_,cj.k (k:=.inr "row") L5.dy.hS,_,du.k (k:=.inr "row") L5.dy.hS (show 9 < sizeLine by decide),?_⟩
   rw [show putK (stK s y5.row) (.inr "row") (.int (y5.row + 1))=stK s (y5.row + 1) from rfl]
   have L6:=L5.row O (y5.row + 1)
   have g6:Go s.M H5 s.M (upd H5 s.S (.dK (stK s (y5.row + 1)))):=Go.at (inS s) _
   generalize upd H5 s.S (.dK (stK s (y5.row + 1)))=H6 at L6 g6 ⊢
   have d6:Dm H H6:=L.dm ((g4.trans g5).trans g6) L6
   refine ⟨s,_,dp + 1,k,rfl,by omega,O,L6,ek,W,(by show y5.cells.length <= 100;have h:=hl;dsimp only at n5;omega),fun B2 rs2 y7 H7 g7 L7 b2 n7 c7=>?_⟩
   refine ⟨_,cj.k (k:=.inr "row") L7.dy.hS,_,du.k (k:=.inr "row") L7.dy.hS (show 9 < sizeLine by decide),?_⟩
   rw [show putK (stK s y7.row) (.inr "row") (.int (y7.row + 1))=stK s (y7.row + 1) from rfl]
   have L8:=L7.row O (y7.row + 1)
   have g8:Go s.M H7 s.M (upd H7 s.S (.dK (stK s (y7.row + 1)))):=Go.at (inS s) _
   generalize upd H7 s.S (.dK (stK s (y7.row + 1)))=H8 at L8 g8 ⊢
   have b1':cJ E kn d (New H H8) B1 rs1:=b1.on d4 ((g6.trans g7).trans g8) L4.al
   have b2':cJ E kn d (New H H8) B2 rs2:=b2.on d6 g8 L6.al
   have w1:∀r ∈ rs1,WfL E kn d r:=by obtain ⟨_,_,_,z⟩:=b1;exact z
   have w2:∀r ∈ rs2,WfL E kn d r:=by obtain ⟨_,_,_,z⟩:=b2;exact z
   refine ⟨s,_,c,B1,B2,rs1,rs2,rfl,ek,L8,b1'.same New.same,b2'.same New.same,fun pi l r H9 s9 e9 l0 r0 mx=>?_⟩
   have L9:=L8.same s9
   have g9:Go s.M H s.M H9:=(((g4.trans g5).trans g6).trans (g7.trans g8)).trans (Go.new s9)
   have d9:Dm H H9:=L.dm g9 L9
   refine Or.inl ⟨_,_,Or.inl (SqL.of e9),rfl,Or.inl ⟨_,_,Or.inl (SqL.of e9),rfl,?_⟩⟩
   refine ⟨by show 7 <= sizeLine;decide,fun a ha=>?_⟩
   have sa:=ah.upd ha (HO.tup [V.int y.row,.str "if",.ref p,.ref B1,.ref B2,.int l,.int r])
   have ep9:H9 p=some (.tup (vV E.N val)):=(((g5.trans g6).trans (g7.trans g8)).trans (Go.new s9)).o p _ pM ep
   have sN:ah (New H H8) (New H (upd H9 a (HO.tup [V.int y.row,.str "if",.ref p,.ref B1,.ref B2,.int l,.int r]))):=New.on (s9.trans sa)
   have k1:=kT n0 w1
   have k2:=kT n0 w2
   have wa:=W.a k
   dsimp only at n5 n7 c5 c7
   refine q _ (.iff y.row val rs1 rs2 l r) _ _ (g9.trans (Go.new sa)) (L9.same sa) (bY.Bx (New.of (d9 a ha) ar) (New.of p0 (sa _ _ ep9)) (b1'.same sN) (b2'.same sN)) ⟨hv,l0,r0,by omega,by omega,w1,w2⟩ (by dsimp only;omega) ?_
   dsimp only
   unfold bE
   unfold ee at mx k1 k2 c5 c7
   have mx2:fE ((rs1.map (bE mo d)).sum) ((rs2.map (bE mo d)).sum) <= (rs1.map (bE mo d)).sum + (rs2.map (bE mo d)).sum:=by unfold fE;split <;> omega
   omega)
  refine ⟨rfl,_,rfl,aW (fun a=>?_) (fun _=>r1)⟩
  have kl:=hx (bo a)
  refine ⟨s,_,dp + 1,k + 1,rfl,by omega,O,L1,ek,W,hl,fun B1 rs1 y5 H5 g5 L5 b1 n5 c5=>?_⟩
  refine ⟨_,cj.k (k:=.inr "row") L5.dy.hS,_,du.k (k:=.inr "row") L5.dy.hS (show 9 < sizeLine by decide),?_⟩
  rw [show putK (stK s y5.row) (.inr "row") (.int (y5.row + 1))=stK s (y5.row + 1) from rfl]
  have L6:=L5.row O (y5.row + 1)
  have g6:Go s.M H5 s.M (upd H5 s.S (.dK (stK s (y5.row + 1)))):=Go.at (inS s) _
  generalize upd H5 s.S (.dK (stK s (y5.row + 1)))=H6 at L6 g6 ⊢
  refine ⟨Nat.zero_le _,fun l7 hl7=>?_⟩
  obtain ⟨s7,e7⟩:=alc hl7 (HO.lst [])
  generalize upd H6 l7 _=H7 at s7 e7 ⊢
  have L7:=L6.same s7
  have b1':cJ E kn d (New H H7) B1 rs1:=b1.on d1 (g6.trans (Go.new s7)) L1.al
  have w1:∀r ∈ rs1,WfL E kn d r:=by obtain ⟨_,_,_,z⟩:=b1;exact z
  refine ⟨s,_,c,B1,l7,rs1,[],rfl,ek,L7,b1'.same New.same,⟨[],e7,.nil,fun _ z=>by cases z⟩,fun pi l r H9 s9 e9 l0 r0 mx=>?_⟩
  have L9:=L7.same s9
  refine ⟨c,1,rfl,by decide,fun m2 Ha hm2 sa=>?_⟩
  have La:=L9.same sa
  obtain ⟨mk,hmk⟩:∃m,s.eR[k]?=some m:=⟨_,List.getElem?_eq_getElem kl⟩
  have mb:=O.ms mk (List.mem_of_getElem? hmk)
  have ak:atI (s.eR.map V.int) (k:Int)=some (.int mk):=j5 (by rw [List.getElem?_map,hmk];rfl)
  refine ⟨_,cj.k (k:=.inr "mosts") La.dy.hS,Or.inl ⟨_,_,Or.inl (SqL.of (aw _ _ La.st.ho)),ak,?_⟩⟩
  refine ⟨(by show (0:Int) < mk;omega),?_⟩
  have mm:=bD m2 (show (0:Int) < mk by omega)
  refine ⟨c,2,rfl,by decide,fun m3 Hb hm3 sb=>?_⟩
  have Lb:=La.same sb
  refine ⟨_,cj.k (k:=.inr "things") Lb.dy.hS,m3,s.lt,s.th,rfl,hm3,SqL.of (aw _ _ Lb.st.ht),O.th,fun t ht=>?_⟩
  have eb:=(sa.trans sb) _ _ e9
  refine Or.inl ⟨_,_,Or.inl (SqL.of eb),rfl,Or.inl ⟨_,_,Or.inl (SqL.of eb),rfl,?_⟩⟩
  refine ⟨by show 7 <= sizeLine;decide,fun a ha=>?_⟩
  have gb:Go s.M H s.M Hb:=((g1.trans g5).trans g6).trans (Go.new (s7.trans (s9.trans (sa.trans sb))))
  have db:Dm H Hb:=L.dm gb Lb
  have sc:=ah.upd ha (HO.tup [V.int y.row,.str "loop",t.v E.N,.int (1 + m2 % mk),.ref B1,.int l,.int r])
  have sN:ah (New H H7) (New H (upd Hb a (HO.tup [V.int y.row,.str "loop",t.v E.N,.int (1 + m2 % mk),.ref B1,.int l,.int r]))):=New.on ((s9.trans (sa.trans sb)).trans sc)
  have k1:=kT n0 w1
  have wl:=W.l k mk hmk
  dsimp only at n5 c5
  refine q _ (.loop y.row t (1 + m2 % mk) rs1 l r) _ _ (gb.trans (Go.new sc)) (Lb.same sc) (bY.zW (New.of (db a ha) ar) (b1'.same sN)) ⟨ht,by omega,by omega,l0,r0,by omega,w1⟩ (by dsimp only;omega) ?_
  dsimp only
  unfold bE
  unfold ee at mx k1 c5
  have e0:(List.map (bE mo d) ([]:List Rw)).sum=0:=rfl
  rw [e0,Int.zero_add] at mx
  generalize (rs1.map (bE mo d)).sum=cs at *
  have mx2:fE (cs + l) r <= cs + 3:=by
   refine Int.le_trans mx ?_
   unfold fE
   split <;> omega
  have r3:0 <= fE (cs + l) r:=by unfold fE;split <;> omega
  have a1:(1 + m2 % mk) * fE (cs + l) r <= mk * (cs + 3):=Int.le_trans (Int.mul_le_mul_of_nonneg_right (by omega) r3) (Int.mul_le_mul_of_nonneg_left mx2 (by omega))
  have u0:(0:Int) <= (y.cells.length:Int) - (y5.cells.length:Int):=by omega
  have a2:cs <= wt (k + 1) * ((y.cells.length:Int) - (y5.cells.length:Int)):=by rw [Int.mul_sub];omega
  have a3:mk * cs <= mk * (wt (k + 1) * ((y.cells.length:Int) - (y5.cells.length:Int))):=Int.mul_le_mul_of_nonneg_left a2 (by omega)
  rw [<- Int.mul_assoc] at a3
  have a4:=Int.mul_le_mul_of_nonneg_right wl.2 u0
  rw [Int.mul_sub (wt k)] at a4
  rw [Int.mul_add mk] at a1
  omega
end
section
variable {P:Program}{w:World}{K:W.Frag}{mg:Str->Option Value}{base:Heap}{A:Adr}{E:En}{mo:Nat->Int}{ex:Nat->Option Int}{kn:Nat}{wt:Nat->Int}
seal PE PA PS PSs PT PW
theorem Paired.snoc {α β:Type}{F:α->β->Prop}{x:α}{y:β} (h:F x y):∀{xs:List α}{ys:List β},Paired F xs ys->Paired F (xs ++ [x]) (ys ++ [y])
 | _,_,.nil=>.cons h .nil
 | _,_,.cons g r=>.cons g (Paired.snoc h r)
structure NAt (E:En) (mo:Nat->Int) (ex:Nat->Option Int) (kn d:Nat) (wk:Int) (H:Hp) (s:La) (y:Dy) (D:Addr) (Hc:Hp) (y':Dy) (xs:List V) (rs:List Rw):Prop where
 g:Go s.M H s.M Hc
 L:cZ E mo ex Hc s y'
 hD:Hc D=some (.lst xs)
 p:Paired (bY E.N (del [D] (New H Hc)) d) xs rs
 w:∀r ∈ rs,WfL E kn d r
 n:rs.length + y'.cells.length <= y.cells.length
 c:ee mo d rs + wk * y'.cells.length <= wk * y.cells.length
theorem NAt.same {d:Nat}{wk:Int}{H Hc H2:Hp}{s:La}{y y':Dy}{D:Addr}{xs:List V}{rs:List Rw} (h:NAt E mo ex kn d wk H s y D Hc y' xs rs) (z:ah Hc H2):NAt E mo ex kn d wk H s y D H2 y' xs rs:=⟨h.g.trans (Go.new z),h.L.same z,z _ _ h.hD,Paired.cF h.p (fun _ _=>bY.same (fun a o e=>by
 obtain ⟨e1,e2⟩:=dE e
 exact ba e1 (New.on z a o e2))),h.w,h.n,h.c⟩
theorem NAt.add {d:Nat}{wk:Int}{H Hc H2:Hp}{s:La}{y y' y2:Dy}{D:Addr}{xs:List V}{rs:List Rw}{v:V}{r:Rw}{cs:List Int}{c0:Int} (h:NAt E mo ex kn d wk H s y D Hc y' xs rs) (L0:cZ E mo ex H s y) (d0:H D=none) (e:y'.cells=cs ++ [c0]) {H3:Hp} (g3:Go s.M Hc s.M H3) (L3:cZ E mo ex H3 s { y' with cells:=cs }) (g:Go s.M H3 s.M H2) (L2:cZ E mo ex H2 s y2) (na:bY E.N (New H3 H2) d v r) (wf:WfL E kn d r) (n2:y2.cells.length <= cs.length) (c2:bE mo d r + wk * y2.cells.length <= wk + wk * cs.length):H2 D=some (.lst xs)/\NAt E mo ex kn d wk H s y D (upd H2 D (.lst (xs ++ [v]))) y2 (xs ++ [v]) (rs ++ [r]):=by
 have dM:D ∉ s.M:=fun m=>L0.al D m d0
 have g2:Go s.M Hc s.M H2:=g3.trans g
 have hD2:=g2.o D _ dM h.hD
 have neS:∀a ∈ s.M,a ≠ D:=fun a m z=>dM (z ▸ m)
 have hD3:=g3.o D _ dM h.hD
 have dm3:Dm H H3:=L0.dm (h.g.trans g3) L3
 have el:y'.cells.length=cs.length + 1:=by rw [e,List.length_append];rfl
 refine ⟨hD2,⟨(h.g.trans g2).out d0 _,⟨?_,?_⟩,ar,?_,?_,?_,?_⟩⟩
 ·exact L0.st.same (Go.same ((h.g.trans g2).out d0 _))
 ·exact ⟨aj (neS _ (inS s)) L2.dy.hS,aj (neS _ (inm s)) L2.dy.hm,aj (neS _ (Bq s)) L2.dy.hc⟩
 ·refine Paired.snoc (bY.same (fun a o ea=>?_) na) (Paired.cF h.p fun _ _=>bY.same fun a o ea=>?_)
  ·obtain ⟨e3,e4⟩:=New.get ea
   have aD:a ≠ D:=fun z=>by rw [z,hD3] at e3;cases e3
   exact ba (fun m=>aD (by simpa using m)) (New.of (dm3 a e3) (aj aD e4))
  ·obtain ⟨e1,e2⟩:=dE ea
   obtain ⟨e3,e4⟩:=New.get e2
   have aD:a ≠ D:=fun z=>e1 (by rw [z];exact List.mem_cons_self)
   exact ba e1 (New.of e3 (aj aD (g2.o a o (fun m=>L0.al a m e3) e4)))
 ·intro q hq
  rcases List.mem_append.mp hq with m | m
  ·exact h.w q m
  ·rw [List.mem_singleton.mp m];exact wf
 ·have:=h.n
  rw [List.length_append,List.length_singleton]
  omega
 ·have hc:=h.c
  have e1:ee mo d (rs ++ [r])=ee mo d rs + bE mo d r:=by unfold ee;rw [List.map_append,List.sum_append];simp
  have e2:wk * (y'.cells.length:Int)=wk * (cs.length:Int) + wk:=by rw [el,Int.natCast_succ,Int.mul_add,Int.mul_one]
  rw [e1]
  omega
theorem NAt.drop {d:Nat}{wk:Int}{H Hc H2:Hp}{s:La}{y y':Dy}{D:Addr}{xs:List V}{rs:List Rw}{cs:List Int}{c0:Int} (h:NAt E mo ex kn d wk H s y D Hc y' xs rs) (L0:cZ E mo ex H s y) (d0:H D=none) (e:y'.cells=cs ++ [c0]) (wk0:0 <= wk) (g:Go s.M Hc s.M H2) (L2:cZ E mo ex H2 s { y' with cells:=cs }):NAt E mo ex kn d wk H s y D H2 { y' with cells:=cs } xs rs:=by
 have dM:D ∉ s.M:=fun m=>L0.al D m d0
 have el:y'.cells.length=cs.length + 1:=by rw [e,List.length_append];rfl
 have hn:=h.n
 have hc:=h.c
 refine ⟨h.g.trans g,L2,g.o D _ dM h.hD,Paired.cF h.p fun _ _=>bY.same fun a o ea=>?_,h.w,by dsimp only;omega,?_⟩
 ·obtain ⟨e1,e2⟩:=dE ea
  exact ba e1 (New.go g L0.al a o e2)
 ·have e2:wk * (y'.cells.length:Int)=wk * (cs.length:Int) + wk:=by rw [el,Int.natCast_succ,Int.mul_add,Int.mul_one]
  dsimp only
  omega
theorem rA (T:Txt K mg A) (C:kP E mo ex kn) (d:Nat) (D_law_block:Has P w K mg base (2 * d + 7) "_law_block" ["_law_state","_law_cell","_law_kind_here","_law_deep","_law_loops"] (nJ E mo ex kn wt d)):Has P w K mg base (2 * d + 8) "_law_nodes" ["_law_state","_law_deep","_law_loops"] (k6 E mo ex kn wt d):=by
 have D_law_kind:=Bs (P:=P) (w:=w) (base:=base) (E:=E) (mo:=mo) (ex:=ex) T
 have D_law_plain:=yO (P:=P) (w:=w) (base:=base) (E:=E) (mo:=mo) (ex:=ex) T
 refine T.qe.has (k:=2 * d + 7) fT (fun vs H Q E h=>?_) (fun f cdv A' outer s H vs Q E' hr hu h=>?_)
 ·obtain ⟨s,y,dp,k,rfl,_⟩:=h
  rfl
 ·obtain ⟨s,y,dp,k,rfl,hd,O,L,ek,W,hl,q⟩:=h
  refine ⟨_,(ab (aE (i:=3) fT.nd rfl (Or.inl rfl) (cf af))
  (ab (sy PassesOwn.never (ay (pq hu) (px hu (fv 0) au) (cf af) (aC _))
   (ab (aE (i:=4) fT.nd rfl (Or.inl rfl) (Ah (px hu (fv 0) au)))
   (ab (aE (i:=5) fT.nd rfl (Or.inl rfl) (ao (hj:=by omega) D_law_kind hr (aa (fv 0) (aa (fv 4) (aa (fv 1) (aa (fv 2) af))))))
   (ab (aS (ay (bz hu) (fv 5) au (aC _))
    (ag (rh))
    aL)
   (ag (aS (PW.pt (pw_or (ay (bz hu) (fv 5) au (aC _)) (pw_or1 (ay (bz hu) (fv 5) au (aC _)))))
    (ag (aU (b8 (fv 3) (aa (ao (hj:=by omega) D_law_block hr (aa (fv 0) (aa (fv 4) (aa (fv 5) (aa (fv 1) (aa (fv 2) af)))))) af))))
    (ag (aU (b8 (fv 3) (aa (ao (hj:=by omega) D_law_plain hr (aa (fv 0) (aa (fv 4) (aa (fv 5) af)))) af))))))))))
  (ag (az (fv 3))))),?_⟩
  refine ⟨Nat.zero_le _,fun D hD=>?_⟩
  obtain ⟨s1,e1⟩:=alc hD (HO.lst [])
  generalize upd H D _=H1 at s1 e1 ⊢
  have N1:NAt E mo ex kn d (wt k) H s y D H1 y [] []:=⟨Go.new s1,L.same s1,e1,.nil,(fun _ z=>by cases z),(by simp),(by unfold ee;simp)⟩
  dsimp only
  refine aF fun M1 K1=>?_
  have fin:∀(Hc:Hp) (y':Dy) (xs:List V) (rs:List Rw) (v4 v5:Option V),NAt E mo ex kn d (wt k) H s y D Hc y' xs rs->M1 [some (.ref s.S),some (.int dp),some (.int k),some (.ref D),v4,v5] Hc:=fun Hc y' xs rs v4 v5 N=>K1 _ _ (q D rs y' Hc N.g N.L ⟨xs,New.of hD N.hD,Paired.cF N.p (fun _ _=>bY.same aw),N.w⟩ N.n N.c)
  refine ⟨fun m σ Hc=>∃(y':Dy) (xs:List V) (rs:List Rw) (v4 v5:Option V),m=y'.cells.length/\σ=[some (.ref s.S),some (.int dp),some (.int k),some (.ref D),v4,v5]/\NAt E mo ex kn d (wt k) H s y D Hc y' xs rs,⟨_,y,[],[],none,none,rfl,rfl,N1⟩,?_⟩
  rintro m σ Hc ⟨y',xs,rs,v4,v5,rfl,rfl,N⟩
  refine ⟨_,cj.k (k:=.inr "cells") N.L.dy.hS,Nat.zero_le _,fun l2 hl2=>?_⟩
  obtain ⟨s2,e2⟩:=alc hl2 (HO.lst [])
  generalize upd Hc l2 _=H2 at s2 e2 ⊢
  have N2:=N.same s2
  refine ⟨_,_,.lst (SqL.of N2.L.dy.hc) (dJ.ints _),.lst (SqL.of e2) .nil,shaped_ints _,rfl,_,rfl,?_⟩
  by_cases em0:y'.cells=[]
  ·rw [em0]
   exact aY (fin _ _ _ _ _ _ N2)
  obtain ⟨cs,c0,ec⟩:∃cs c0,y'.cells=cs ++ [c0]:=⟨y'.cells.dropLast,y'.cells.getLast em0,(List.dropLast_concat_getLast em0).symm⟩
  have ev:((PyData.list (y'.cells.map PyData.int)).eqv (PyData.list []))=false:=by
   cases hm:y'.cells with
   | nil=>exact absurd hm em0
   | cons a r=>rfl
  rw [ev]
  refine cy ?_
  have el:y'.cells.length=cs.length + 1:=by rw [ec,List.length_append];rfl
  have nn:=N.n
  have xl:xs.length=rs.length:=Paired.length N.p
  refine ⟨fun σ' H'=>∃(y3:Dy) (xs:List V) (rs:List Rw) (v4 v5:Option V),y3.cells.length < y'.cells.length/\σ'=[some (.ref s.S),some (.int dp),some (.int k),some (.ref D),v4,v5]/\NAt E mo ex kn d (wt k) H s y D H' y3 xs rs,fun σ' H' ⟨y3,xs,rs,v4,v5,h1,h2,h3⟩=>⟨_,h1,y3,xs,rs,v4,v5,rfl,h2,h3⟩,?_⟩
  have hc2:=N2.L.dy.hc
  refine ⟨_,cj.k (k:=.inr "cells") N2.L.dy.hS,Or.inl ⟨rfl,_,SqL.of hc2⟩,_,_,.int c0,rfl,rfl,hc2,(by rw [ec];simp),?_⟩
  rw [show (y'.cells.map V.int).dropLast=cs.map V.int by rw [ec];simp]
  have L3:=N2.L.cell O cs
  have g3:Go s.M H2 s.M (upd H2 s.ll (.lst (cs.map V.int))):=Go.at (Bq s) _
  generalize upd H2 s.ll (.lst (cs.map V.int))=H3 at L3 g3 ⊢
  refine ⟨s,_,c0,dp,k,rfl,O,L3,fun x H4 s4 h1 h2 h3=>?_⟩
  have L4:=L3.same s4
  have g4:Go s.M H2 s.M H4:=g3.trans (Go.new s4)
  have dM:D ∉ s.M:=fun m=>L.al D m hD
  have hD4:=g4.o D _ dM N2.hD
  have add:=fun {H5:Hp}{y5:Dy}{v:V}{r:Rw} (g5:Go s.M H4 s.M H5) (L5:cZ E mo ex H5 s y5) (na:bY E.N (New H4 H5) d v r) (wf:WfL E kn d r) (n2:y5.cells.length <= cs.length) (c2:bE mo d r + wt k * y5.cells.length <= wt k + wt k * cs.length)=>N2.add L hD ec g4 L4 g5 L5 na wf n2 c2
  dsimp only
  refine aF fun M2 K2=>?_
  refine ⟨rfl,_,rfl,aW (fun _=>?_) (fun _=>K2 _ _ ?_)⟩
  ·exact fin _ _ _ _ _ _ (N2.drop L hD ec (by have:=W.a k;omega) g4 L4)
  ·have d0:(x="if" \/ x="loop")->0 < d:=fun z=>by
    rcases z with z | z
    ·have:=h1 z;omega
    ·have:=(h2 z).1;omega
   have lx:xs.length <= 1000:=by omega
   refine ⟨rfl,_,rfl,aW (fun a=>cy ?b1) (fun a=>⟨rfl,_,rfl,aW (fun b=>?b2) (fun b=>?pl)⟩)⟩
   case pl =>
    refine ⟨Or.inl ⟨rfl,_,SqL.of hD4⟩,s,_,c0,x,rfl,O,L4,h3,fun v r y5 H5 g5 L5 ec5 na pr=>?_⟩
    have wa:=W.a k
    have c5:bE mo d r + wt k * y5.cells.length <= wt k + wt k * cs.length:=by
     rw [ec5]
     dsimp only
     rcases pr.2 with z | ⟨i,hi,z⟩
     ·rw [z d];omega
     ·rw [z d]
      have:=(W.c i hi).2 k
      omega
    obtain ⟨h5,N5⟩:=add g5 L5 (na d) (by rw [<- ek];exact pr.1 d) (by rw [ec5];exact Nat.le_refl _) c5
    exact ⟨_,_,_,rfl,rfl,h5,aR (by omega),y5,_,_,_,_,(by rw [ec5,el];exact Nat.lt_succ_self _),rfl,N5⟩
   all_goals
    have d1:0 < d:=d0 (by first | exact .inl (bo (by assumption)) | exact .inr (bo (by assumption)))
    refine ⟨Or.inl ⟨rfl,_,SqL.of hD4⟩,s,_,c0,x,dp,k,rfl,hd,d1,fun z=>(h2 z).2,O,L4,ek,W,(by dsimp only;omega),fun v r y5 H5 g5 L5 na wf n5 c5=>?_⟩
    obtain ⟨h5,N5⟩:=add g5 L5 na wf n5 c5
    exact ⟨_,_,_,rfl,rfl,h5,aR (by omega),y5,_,_,_,_,(by dsimp only at n5;omega),rfl,N5⟩
theorem xu (T:Txt K mg A):Has P w K mg base (2 * 0 + 7) "_law_block" ["_law_state","_law_cell","_law_kind_here","_law_deep","_law_loops"] (nJ E mo ex kn wt 0):=by
 refine T.lI.has (k:=6) cu (fun vs H Q E h=>?_) (fun f cdv A' outer s H vs Q E' hr hu h=>?_)
 ·obtain ⟨s,y,c,x,dp,k,rfl,hd,z,_⟩:=h
  exact absurd z (Nat.lt_irrefl _)
 ·obtain ⟨s,y,c,x,dp,k,rfl,hd,z,_⟩:=h
  exact absurd z (Nat.lt_irrefl _)
theorem uM (T:Txt K mg A) (C:kP E mo ex kn):∀d,Has P w K mg base (2 * d + 8) "_law_nodes" ["_law_state","_law_deep","_law_loops"] (k6 E mo ex kn wt d)
 | 0=>rA T C 0 (xu T)
 | d + 1=>rA T C (d + 1) (xw T C d (uM T C d))
end
section
variable {P:Program}{w:World}{K:W.Frag}{mg:Str->Option Value}{base:Heap}{A:Adr}{E:En}{kn:Nat}
seal PE PA PS PSs PT PW
def dX (A:Adr) (N:Nat->Str) (X:Hp):Nat->V->Rw->Prop
 | _,v,.set n x val=>∃a dx p,v=.ref a/\X a=some (.ins A.cb dx [("number",.int n),("name",.str (N x)),("value",.ref p)])/\X p=some (.tup (vV N val))
 | _,v,.put n x pl val=>∃a dx p,v=.ref a/\X a=some (.ins A.bP dx [("number",.int n),("name",.str (N x)),("place",pl.v N),("value",.ref p)])/\X p=some (.tup (vV N val))
 | _,v,.snd n h val=>∃a dx p,v=.ref a/\X a=some (.ins A.bp dx [("number",.int n),("name",.str (N h)),("value",.ref p)])/\X p=some (.tup (vV N val))
 | _,v,.say n x val m=>∃a dx p,v=.ref a/\X a=some (.ins A.bJ dx [("number",.int n),("name",.str (N x)),("value",.ref p),("mark",.str (N m))])/\X p=some (.tup (vV N val))
 | _,v,.last n=>∃a dx,v=.ref a/\X a=some (.ins A.cH dx [("number",.int n)])
 | _,v,.call n i ts=>∃a dx p,v=.ref a/\X a=some (.ins A.bC dx [("number",.int n),("name",.str (N (nmD i))),("things",.ref p)])/\X p=some (.lst (ts.map (Th.v N)))
 | d + 1,v,.iff n val f o l r=>∃a dx p pf po xf xo,v=.ref a/\X a=some (.ins A.bQ dx [("number",.int n),("value",.ref p),("first",.ref pf),("other",.ref po),("left",.int l),("right",.int r)])/\X p=some (.tup (vV N val))/\X pf=some (.lst xf)/\X po=some (.lst xo)/\Paired (dX A N X d) xf f/\Paired (dX A N X d) xo o
 | d + 1,v,.loop n t m b l r=>∃a dx pb xb,v=.ref a/\X a=some (.ins A.aV dx [("number",.int n),("thing",t.v N),("most",.int m),("body",.ref pb),("left",.int l),("right",.int r)])/\X pb=some (.lst xb)/\Paired (dX A N X d) xb b
 | 0,_,.iff _ _ _ _ _ _=>False
 | 0,_,.loop _ _ _ _ _ _=>False
theorem dX.same {N:Nat->Str}{X X':Hp} (s:ah X X'):∀{d:Nat}{v:V}{r:Rw},dX A N X d v r->dX A N X' d v r:=by
 have leafs:∀{d:Nat}{v:V}{r:Rw},(∀n v f o l q,r ≠ .iff n v f o l q)->(∀n t m b l q,r ≠ .loop n t m b l q)->dX A N X d v r->dX A N X' d v r:=by
  intro d v r i1 i2 h
  cases r with
  | iff n v f o l r=>exact absurd rfl (i1 _ _ _ _ _ _)
  | loop n t m b l r=>exact absurd rfl (i2 _ _ _ _ _ _)
  | last n=>cases d <;> (obtain ⟨a,dx,e,h1⟩:=h;exact ⟨a,dx,e,s _ _ h1⟩)
  | _=>cases d <;> (obtain ⟨a,dx,p,e,h1,h2⟩:=h;exact ⟨a,dx,p,e,s _ _ h1,s _ _ h2⟩)
 intro d
 induction d with
 | zero =>
  intro v r h
  cases r with
  | iff n v f o l r=>exact h.elim
  | loop n t m b l r=>exact h.elim
  | _=>exact leafs (fun _ _ _ _ _ _ z=>by cases z) (fun _ _ _ _ _ _ z=>by cases z) h
 | succ d ih =>
  intro v r h
  cases r with
  | iff n v f o l r =>
   obtain ⟨a,dx,p,pf,po,xf,xo,e,h1,h2,h3,h4,h5,h6⟩:=h
   exact ⟨a,dx,p,pf,po,xf,xo,e,s _ _ h1,s _ _ h2,s _ _ h3,s _ _ h4,Paired.cF h5 fun _ _=>ih,Paired.cF h6 fun _ _=>ih⟩
  | loop n t m b l r =>
   obtain ⟨a,dx,pb,xb,e,h1,h2,h3⟩:=h
   exact ⟨a,dx,pb,xb,e,s _ _ h1,s _ _ h2,Paired.cF h3 fun _ _=>ih⟩
  | _=>exact leafs (fun _ _ _ _ _ _ z=>by cases z) (fun _ _ _ _ _ _ z=>by cases z) h
theorem uu {H:Hp}{x dx:Addr}{R:VK}{v_number:V} (T:Txt K mg A) (hx:H x=none) (hd:H dx=none) (q:∀(H':Hp),ah H H'->H' x=some (.ins A.cH dx [("number",v_number)])->R .non H'):js K A (.ref x :: ([v_number] ++ [])) (upd (upd H dx (.own x)) x (.ins A.cH dx [])) R E0 :=
 ⟨x,A.cH,dx,[],_,rfl,ar,T.aQ.cl,T.fi,by decide,q _ (ah.out (ah.out (ah.upd hd _) hx _) hx _) ar⟩
def Mix (X H H':Hp):Hp:=fun a=>if X a ≠ none \/ H a=none then H' a else none
theorem Mix.get {X H H':Hp}{a:Addr}{o:HO} (h:Mix X H H' a=some o):(X a ≠ none \/ H a=none)/\H' a=some o:=by
 unfold Mix at h
 split at h
 ·exact ⟨by assumption,h⟩
 ·cases h
theorem Mix.of {X H H':Hp}{a:Addr}{o:HO} (h:X a ≠ none \/ H a=none) (e:H' a=some o):Mix X H H' a=some o:=by
 unfold Mix
 rw [if_pos h]
 exact e
theorem Mix.same {X H H':Hp}:ah (Mix X H H') H':=fun _ _ h=>(Mix.get h).2
def nq (A:Adr) (E:En) (kn d:Nat):Sp:=fun vs H Q _=>∃(B:Addr) (rs:List Rw) (X:Hp),vs=[.ref B]/\ah X H/\cJ E kn d X B rs/\rs.length <= 1000/\∀(R:Addr) (ys:List V) (H':Hp),ah H H'->H R=none->H' R=some (.lst ys)->Paired (dX A E.N (del [R] (Mix X H H')) d) ys rs->Q (.ref R) H'
def xE (A:Adr) (E:En) (kn:Nat):Nat->Sp
 | 0=>fun _ _ _ _=>False
 | d + 1=>nq A E kn d
theorem vc (T:Txt K mg A) (d:Nat) (D_law_made:Has P w K mg base (d + 4) "_law_made" ["_law_nodes_here"] (xE A E kn d)):Has P w K mg base (d + 5) "_law_made" ["_law_nodes_here"] (nq A E kn d):=by
 have D_SetRow_init:=o4 (P:=P) (w:=w) (base:=base) T
 have D_PutRow_init:=o6 (P:=P) (w:=w) (base:=base) T
 have D_SendRow_init:=nX (P:=P) (w:=w) (base:=base) T
 have D_SayRow_init:=pA (P:=P) (w:=w) (base:=base) T
 have D_CallRow_init:=oK (P:=P) (w:=w) (base:=base) T
 have D_IfRow_init:=qq (P:=P) (w:=w) (base:=base) T
 have D_LoopRow_init:=oe (P:=P) (w:=w) (base:=base) T
 have D_LastRow_init:=kf (P:=P) (w:=w) (mg:=mg) (base:=base) (A:=A) T.jt
 refine T.oy.has (k:=d + 4) fC (fun vs H Q E h=>?_) (fun f cdv A' outer s H vs Q E' hr hu h=>?_)
 ·obtain ⟨B,rs,X,rfl,_⟩:=h
  rfl
 ·obtain ⟨B,rs,X,rfl,s0,⟨xs,hB0,pr,wf⟩,hl,q⟩:=h
  have hB:=s0 _ _ hB0
  refine ⟨_,(ab (aE (i:=1) fC.nd rfl (Or.inl rfl) (cf af))
  (ab (dD PassesOwn.never rfl (eu (fv 0)) (pgn (i:=2) fC.nd rfl)
   (ab (aE (i:=3) fC.nd rfl (Or.inl rfl) (px hu (fv 2) ae))
   (ag (aS (ay (bz hu) (fv 3) au (aC _))
    (ag (aU (b8 (fv 1) (aa (bZ (hj:=by omega) T.bu D_SetRow_init hr (aa (px hu (fv 2) ae) (aa (px hu (fv 2) ae) (aa (px hu (fv 2) ae) af)))) af))))
    (ag (aS (ay (bz hu) (fv 3) au (aC _))
     (ag (aU (b8 (fv 1) (aa (bZ (hj:=by omega) T.bg D_PutRow_init hr (aa (px hu (fv 2) ae) (aa (px hu (fv 2) ae) (aa (px hu (fv 2) ae) (aa (px hu (fv 2) ae) af))))) af))))
     (ag (aS (ay (bz hu) (fv 3) au (aC _))
      (ag (aU (b8 (fv 1) (aa (bZ (hj:=by omega) T.aO D_SendRow_init hr (aa (px hu (fv 2) ae) (aa (px hu (fv 2) ae) (aa (px hu (fv 2) ae) af)))) af))))
      (ag (aS (ay (bz hu) (fv 3) au (aC _))
       (ag (aU (b8 (fv 1) (aa (bZ (hj:=by omega) T.aP D_SayRow_init hr (aa (px hu (fv 2) ae) (aa (px hu (fv 2) ae) (aa (px hu (fv 2) ae) (aa (px hu (fv 2) ae) af))))) af))))
       (ag (aS (ay (bz hu) (fv 3) au (aC _))
        (ag (aU (b8 (fv 1) (aa (bZ (hj:=by omega) T.aQ D_LastRow_init hr (aa (px hu (fv 2) ae) af)) af))))
        (ag (aS (ay (bz hu) (fv 3) au (aC _))
         (ag (aU (b8 (fv 1) (aa (bZ (hj:=by omega) T.aG D_CallRow_init hr (aa (px hu (fv 2) ae) (aa (px hu (fv 2) ae) (aa (cN uZ rfl T.er (by boot_by_name) (aa (px hu (fv 2) ae) af)) af)))) af))))
         (ag (aS (ay (bz hu) (fv 3) au (aC _))
          (ag (aU (b8 (fv 1) (aa (bZ (hj:=by omega) T.aI D_IfRow_init hr (aa (px hu (fv 2) ae) (aa (px hu (fv 2) ae) (aa (ao (hj:=by omega) D_law_made hr (aa (px hu (fv 2) ae) af)) (aa (ao (hj:=by omega) D_law_made hr (aa (px hu (fv 2) ae) af)) (aa (px hu (fv 2) ae) (aa (px hu (fv 2) ae) af))))))) af))))
          (ag (aU (b8 (fv 1) (aa (bZ (hj:=by omega) T.ax D_LoopRow_init hr (aa (px hu (fv 2) ae) (aa (px hu (fv 2) ae) (aa (px hu (fv 2) ae) (aa (ao (hj:=by omega) D_law_made hr (aa (px hu (fv 2) ae) af)) (aa (px hu (fv 2) ae) (aa (px hu (fv 2) ae) af))))))) af))))))))))))))))))))
  (ag (az (fv 1))))),?_⟩
  refine ⟨Nat.zero_le _,fun R hR=>?_⟩
  obtain ⟨s1,e1⟩:=alc hR (HO.lst [])
  generalize upd H R _=H1 at s1 e1 ⊢
  have pl:=Paired.length pr
  refine Or.inl ⟨⟨_,SqL.of (s1 _ _ hB)⟩,?_⟩
  refine dO (K:=K) (xs:=xs) (fun i σ Hc=>∃(ys:List V) (v2 v3:Option V),σ=[some (.ref B),some (.ref R),v2,v3]/\ah H Hc/\Hc R=some (.lst ys)/\Paired (dX A E.N (del [R] (Mix X H Hc)) d) ys (rs.take i)) ⟨[],none,none,rfl,s1,e1,.nil⟩ (fun i σ Hc _ ⟨_,_,_,_,z,_⟩=>SqL.of (z _ _ hB)) ?_ ?_
  ·rintro i v σ Hc hv ⟨ys,v2,v3,rfl,sc,hRc,pc⟩
   obtain ⟨r,hr',na⟩:=bW pr hv
   have wr:=wf r (List.mem_of_getElem? hr')
   have sx:ah X Hc:=s0.trans sc
   have ly:ys.length <= 1000:=by rw [Paired.length pc,List.length_take];omega
   have od:∀{a:Addr}{o o':HO}{H6:Hp},X a=some o'->H6 a=some o->del [R] (Mix X H H6) a=some o:=fun {a o o' H6} e e6=>ba (fun m=>by
    have z:=s0 _ _ e
    rw [List.mem_singleton.mp m,hR] at z
    cases z) (Mix.of (.inl (by rw [e];exact fun z=>by cases z)) e6)
   have nw:∀{a:Addr}{o:HO}{Hn H6:Hp},ah Hc Hn->Hn a=none->H6 a=some o->del [R] (Mix X H H6) a=some o:=fun {a o Hn H6} z e e6=>ba (fun m=>by rw [List.mem_singleton.mp m,z _ _ hRc] at e;cases e) (Mix.of (.inr (Dm.new (sc.trans z) a e)) e6)
   have nest:∀{R1:Addr}{Hm H4 H6:Hp}{ys1:List V}{fs:List Rw}{d':Nat},ah Hc Hm->ah H4 H6->Paired (dX A E.N (del [R1] (Mix X Hm H4)) d') ys1 fs->Paired (dX A E.N (del [R] (Mix X H H6)) d') ys1 fs:=fun {R1 Hm H4 H6 ys1 fs d'} z1 z2 p1=>Paired.cF p1 fun _ _=>dX.same fun a o e=>by
    obtain ⟨_,e2⟩:=dE e
    obtain ⟨e3,e4⟩:=Mix.get e2
    rcases e3 with e3 | e3
    ·cases ex:X a with
     | none=>exact absurd ex e3
     | some o'=>exact od ex (z2 _ _ e4)
    ·exact nw z1 e3 (z2 _ _ e4)
   have add:∀(Hn:Hp) (y:V) (v2 v3:Option V),ah Hc Hn->dX A E.N (del [R] (Mix X H Hn)) d y r->Hn R=some (.lst ys)/\∃(zs:List V) (u2 u3:Option V),[some (V.ref B),some (.ref R),v2,v3]=[some (.ref B),some (.ref R),u2,u3]/\ah H (upd Hn R (.lst (ys ++ [y])))/\(upd Hn R (.lst (ys ++ [y]))) R=some (.lst zs)/\Paired (dX A E.N (del [R] (Mix X H (upd Hn R (.lst (ys ++ [y]))))) d) zs (rs.take (i + 1)):=fun Hn y v2 v3 z ra=>by
    have zz:∀{G:Hp},ah G Hn->ah (del [R] (Mix X H G)) (del [R] (Mix X H (upd Hn R (.lst (ys ++ [y]))))):=fun g2 a o e=>by
     obtain ⟨h1,h2⟩:=dE e
     obtain ⟨h3,h4⟩:=Mix.get h2
     exact ba h1 (Mix.of h3 (aj (fun z=>h1 (by rw [z];exact List.mem_cons_self)) (g2 _ _ h4)))
    refine ⟨z _ _ hRc,_,v2,v3,rfl,ah.out (sc.trans z) hR _,ar,?_⟩
    rw [take_snoc hr']
    exact Paired.snoc (ra.same (zz (ah.refl _))) (Paired.cF pc fun _ _=>dX.same (zz z))
   cases r with
   | set n x vl =>
    obtain ⟨a,p,rfl,ea,ep⟩:∃a p,v=.ref a/\X a=some (.tup [.int n,.str "set",.str (E.N x),.ref p])/\X p=some (.tup (vV E.N vl)):=by cases d <;> exact na
    have ea':=SqT.of (K:=K) (sx _ _ ea)
    refine Or.inl ⟨_,_,Or.inr ea',rfl,?_⟩
    refine ⟨rfl,_,rfl,aW (fun _=>?_) (fun z=>absurd rfl (fy z))⟩
    refine ⟨Or.inl ⟨rfl,_,SqL.of hRc⟩,Or.inl ⟨_,_,Or.inr ea',rfl,Or.inl ⟨_,_,Or.inr ea',rfl,Or.inl ⟨_,_,Or.inr ea',rfl,?_⟩⟩⟩⟩
    refine fun r6 dx hr6 hd_ hne_=>wu hr6 hd_ fun H6 s6 hx=>⟨rfl,?_⟩
    have row:dX A E.N (del [R] (Mix X H H6)) d (.ref r6) (.set n x vl):=by
     have:∃a dx p,V.ref r6=.ref a/\del [R] (Mix X H H6) a=some (.ins A.cb dx [("number",.int n),("name",.str (E.N x)),("value",.ref p)])/\del [R] (Mix X H H6) p=some (.tup (vV E.N vl)):=⟨r6,dx,p,rfl,nw (ah.refl _) hr6 hx,od ep (s6 _ _ (sx _ _ ep))⟩
     cases d <;> exact this
    obtain ⟨h5,h6⟩:=add H6 (.ref r6) _ _ s6 row
    exact ⟨_,_,_,rfl,rfl,h5,aR (by omega),h6⟩
   | put n x pl vl =>
    obtain ⟨a,p,rfl,ea,ep⟩:∃a p,v=.ref a/\X a=some (.tup [.int n,.str "put",.str (E.N x),pl.v E.N,.ref p])/\X p=some (.tup (vV E.N vl)):=by cases d <;> exact na
    have ea':=SqT.of (K:=K) (sx _ _ ea)
    refine Or.inl ⟨_,_,Or.inr ea',rfl,?_⟩
    refine ⟨rfl,_,rfl,aW (fun z=>absurd (bo z) (by decide)) (fun _=>?_)⟩
    refine ⟨rfl,_,rfl,aW (fun _=>?_) (fun z=>absurd rfl (fy z))⟩
    refine ⟨Or.inl ⟨rfl,_,SqL.of hRc⟩,Or.inl ⟨_,_,Or.inr ea',rfl,Or.inl ⟨_,_,Or.inr ea',rfl,Or.inl ⟨_,_,Or.inr ea',rfl,Or.inl ⟨_,_,Or.inr ea',rfl,?_⟩⟩⟩⟩⟩
    refine fun r6 dx hr6 hd_ hne_=>vN hr6 hd_ fun H6 s6 hx=>⟨rfl,?_⟩
    have row:dX A E.N (del [R] (Mix X H H6)) d (.ref r6) (.put n x pl vl):=by
     have:∃a dx p,V.ref r6=.ref a/\del [R] (Mix X H H6) a=some (.ins A.bP dx [("number",.int n),("name",.str (E.N x)),("place",pl.v E.N),("value",.ref p)])/\del [R] (Mix X H H6) p=some (.tup (vV E.N vl)):=⟨r6,dx,p,rfl,nw (ah.refl _) hr6 hx,od ep (s6 _ _ (sx _ _ ep))⟩
     cases d <;> exact this
    obtain ⟨h5,h6⟩:=add H6 (.ref r6) _ _ s6 row
    exact ⟨_,_,_,rfl,rfl,h5,aR (by omega),h6⟩
   | snd n x vl =>
    obtain ⟨a,p,rfl,ea,ep⟩:∃a p,v=.ref a/\X a=some (.tup [.int n,.str "send",.str (E.N x),.ref p])/\X p=some (.tup (vV E.N vl)):=by cases d <;> exact na
    have ea':=SqT.of (K:=K) (sx _ _ ea)
    refine Or.inl ⟨_,_,Or.inr ea',rfl,?_⟩
    refine ⟨rfl,_,rfl,aW (fun z=>absurd (bo z) (by decide)) (fun _=>?_)⟩
    refine ⟨rfl,_,rfl,aW (fun z=>absurd (bo z) (by decide)) (fun _=>?_)⟩
    refine ⟨rfl,_,rfl,aW (fun _=>?_) (fun z=>absurd rfl (fy z))⟩
    refine ⟨Or.inl ⟨rfl,_,SqL.of hRc⟩,Or.inl ⟨_,_,Or.inr ea',rfl,Or.inl ⟨_,_,Or.inr ea',rfl,Or.inl ⟨_,_,Or.inr ea',rfl,?_⟩⟩⟩⟩
    refine fun r6 dx hr6 hd_ hne_=>tB hr6 hd_ fun H6 s6 hx=>⟨rfl,?_⟩
    have row:dX A E.N (del [R] (Mix X H H6)) d (.ref r6) (.snd n x vl):=by
     have:∃a dx p,V.ref r6=.ref a/\del [R] (Mix X H H6) a=some (.ins A.bp dx [("number",.int n),("name",.str (E.N x)),("value",.ref p)])/\del [R] (Mix X H H6) p=some (.tup (vV E.N vl)):=⟨r6,dx,p,rfl,nw (ah.refl _) hr6 hx,od ep (s6 _ _ (sx _ _ ep))⟩
     cases d <;> exact this
    obtain ⟨h5,h6⟩:=add H6 (.ref r6) _ _ s6 row
    exact ⟨_,_,_,rfl,rfl,h5,aR (by omega),h6⟩
   | say n x vl m =>
    obtain ⟨a,p,rfl,ea,ep⟩:∃a p,v=.ref a/\X a=some (.tup [.int n,.str "say",.str (E.N x),.ref p,.str (E.N m)])/\X p=some (.tup (vV E.N vl)):=by cases d <;> exact na
    have ea':=SqT.of (K:=K) (sx _ _ ea)
    refine Or.inl ⟨_,_,Or.inr ea',rfl,?_⟩
    refine ⟨rfl,_,rfl,aW (fun z=>absurd (bo z) (by decide)) (fun _=>?_)⟩
    refine ⟨rfl,_,rfl,aW (fun z=>absurd (bo z) (by decide)) (fun _=>?_)⟩
    refine ⟨rfl,_,rfl,aW (fun z=>absurd (bo z) (by decide)) (fun _=>?_)⟩
    refine ⟨rfl,_,rfl,aW (fun _=>?_) (fun z=>absurd rfl (fy z))⟩
    refine ⟨Or.inl ⟨rfl,_,SqL.of hRc⟩,Or.inl ⟨_,_,Or.inr ea',rfl,Or.inl ⟨_,_,Or.inr ea',rfl,Or.inl ⟨_,_,Or.inr ea',rfl,Or.inl ⟨_,_,Or.inr ea',rfl,?_⟩⟩⟩⟩⟩
    refine fun r6 dx hr6 hd_ hne_=>vW hr6 hd_ fun H6 s6 hx=>⟨rfl,?_⟩
    have row:dX A E.N (del [R] (Mix X H H6)) d (.ref r6) (.say n x vl m):=by
     have:∃a dx p,V.ref r6=.ref a/\del [R] (Mix X H H6) a=some (.ins A.bJ dx [("number",.int n),("name",.str (E.N x)),("value",.ref p),("mark",.str (E.N m))])/\del [R] (Mix X H H6) p=some (.tup (vV E.N vl)):=⟨r6,dx,p,rfl,nw (ah.refl _) hr6 hx,od ep (s6 _ _ (sx _ _ ep))⟩
     cases d <;> exact this
    obtain ⟨h5,h6⟩:=add H6 (.ref r6) _ _ s6 row
    exact ⟨_,_,_,rfl,rfl,h5,aR (by omega),h6⟩
   | last n =>
    obtain ⟨a,rfl,ea⟩:∃a,v=.ref a/\X a=some (.tup [.int n,.str "last"]):=by cases d <;> exact na
    have ea':=SqT.of (K:=K) (sx _ _ ea)
    refine Or.inl ⟨_,_,Or.inr ea',rfl,?_⟩
    refine ⟨rfl,_,rfl,aW (fun z=>absurd (bo z) (by decide)) (fun _=>?_)⟩
    refine ⟨rfl,_,rfl,aW (fun z=>absurd (bo z) (by decide)) (fun _=>?_)⟩
    refine ⟨rfl,_,rfl,aW (fun z=>absurd (bo z) (by decide)) (fun _=>?_)⟩
    refine ⟨rfl,_,rfl,aW (fun z=>absurd (bo z) (by decide)) (fun _=>?_)⟩
    refine ⟨rfl,_,rfl,aW (fun _=>?_) (fun z=>absurd rfl (fy z))⟩
    refine ⟨Or.inl ⟨rfl,_,SqL.of hRc⟩,Or.inl ⟨_,_,Or.inr ea',rfl,?_⟩⟩
    refine fun r6 dx hr6 hd_ hne_=>uu T hr6 hd_ fun H6 s6 hx=>⟨rfl,?_⟩
    have row:dX A E.N (del [R] (Mix X H H6)) d (.ref r6) (.last n):=by
     have:∃a dx,V.ref r6=.ref a/\del [R] (Mix X H H6) a=some (.ins A.cH dx [("number",.int n)]):=⟨r6,dx,rfl,nw (ah.refl _) hr6 hx⟩
     cases d <;> exact this
    obtain ⟨h5,h6⟩:=add H6 (.ref r6) _ _ s6 row
    exact ⟨_,_,_,rfl,rfl,h5,aR (by omega),h6⟩
   | call n ci ts =>
    obtain ⟨a,p,rfl,ea,ep⟩:∃a p,v=.ref a/\X a=some (.tup [.int n,.str "call",.str (E.N (nmD ci)),.ref p])/\X p=some (.lst (ts.map (Th.v E.N))):=by cases d <;> exact na
    have ea':=SqT.of (K:=K) (sx _ _ ea)
    refine Or.inl ⟨_,_,Or.inr ea',rfl,?_⟩
    refine ⟨rfl,_,rfl,aW (fun z=>absurd (bo z) (by decide)) (fun _=>?_)⟩
    refine ⟨rfl,_,rfl,aW (fun z=>absurd (bo z) (by decide)) (fun _=>?_)⟩
    refine ⟨rfl,_,rfl,aW (fun z=>absurd (bo z) (by decide)) (fun _=>?_)⟩
    refine ⟨rfl,_,rfl,aW (fun z=>absurd (bo z) (by decide)) (fun _=>?_)⟩
    refine ⟨rfl,_,rfl,aW (fun z=>absurd (bo z) (by decide)) (fun _=>?_)⟩
    refine ⟨rfl,_,rfl,aW (fun _=>?_) (fun z=>absurd rfl (fy z))⟩
    refine ⟨Or.inl ⟨rfl,_,SqL.of hRc⟩,Or.inl ⟨_,_,Or.inr ea',rfl,Or.inl ⟨_,_,Or.inr ea',rfl,Or.inl ⟨_,_,Or.inr ea',rfl,?_⟩⟩⟩⟩
    refine Or.inl ⟨p,_,rfl,Or.inl (SqL.of (sx _ _ ep)),fun l5 hl5=>?_⟩
    obtain ⟨s5,e5⟩:=alc hl5 (HO.lst (ts.map (Th.v E.N)))
    generalize upd Hc l5 _=H5 at s5 e5 ⊢
    refine fun r6 dx hr6 hd_ hne_=>sU (SqL.of e5) hr6 hd_ fun n6 H6 f6 s6 h6 hx=>⟨rfl,?_⟩
    have row:dX A E.N (del [R] (Mix X H H6)) d (.ref r6) (.call n ci ts):=by
     have:∃a dx p,V.ref r6=.ref a/\del [R] (Mix X H H6) a=some (.ins A.bC dx [("number",.int n),("name",.str (E.N (nmD ci))),("things",.ref p)])/\del [R] (Mix X H H6) p=some (.lst (ts.map (Th.v E.N))):=⟨r6,dx,n6,rfl,nw s5 hr6 hx,nw s5 f6 h6⟩
     cases d <;> exact this
    obtain ⟨h5,h6⟩:=add H6 (.ref r6) _ _ (s5.trans s6) row
    exact ⟨_,_,_,rfl,rfl,h5,aR (by omega),h6⟩
   | iff n vl fs os l r0 =>
    cases d with
    | zero=>exact (show False from na).elim
    | succ d =>
     obtain ⟨a,p,pf,po,xf,xo,rfl,ea,ep,hf,ho,pf',po'⟩:=na
     obtain ⟨_,l0,r1,l1,l2,w1,w2⟩:=wr
     have ea':=SqT.of (K:=K) (sx _ _ ea)
     refine Or.inl ⟨_,_,Or.inr ea',rfl,?_⟩
     refine ⟨rfl,_,rfl,aW (fun z=>absurd (bo z) (by decide)) (fun _=>?_)⟩
     refine ⟨rfl,_,rfl,aW (fun z=>absurd (bo z) (by decide)) (fun _=>?_)⟩
     refine ⟨rfl,_,rfl,aW (fun z=>absurd (bo z) (by decide)) (fun _=>?_)⟩
     refine ⟨rfl,_,rfl,aW (fun z=>absurd (bo z) (by decide)) (fun _=>?_)⟩
     refine ⟨rfl,_,rfl,aW (fun z=>absurd (bo z) (by decide)) (fun _=>?_)⟩
     refine ⟨rfl,_,rfl,aW (fun z=>absurd (bo z) (by decide)) (fun _=>?_)⟩
     refine ⟨rfl,_,rfl,aW (fun _=>?_) (fun z=>absurd rfl (fy z))⟩
     refine ⟨Or.inl ⟨rfl,_,SqL.of hRc⟩,Or.inl ⟨_,_,Or.inr ea',rfl,Or.inl ⟨_,_,Or.inr ea',rfl,Or.inl ⟨_,_,Or.inr ea',rfl,?_⟩⟩⟩⟩
     refine ⟨pf,fs,X,rfl,sx,⟨xf,hf,pf',w1⟩,l1,fun R1 ys1 H4 s4 hR1 eR1 p1=>?_⟩
     refine Or.inl ⟨_,_,Or.inr (SqT.of ((sx.trans s4) _ _ ea)),rfl,?_⟩
     refine ⟨po,os,X,rfl,sx.trans s4,⟨xo,ho,po',w2⟩,l2,fun R2 ys2 H5 s5 hR2 eR2 p2=>?_⟩
     have s45:=s4.trans s5
     have ea5:=SqT.of (K:=K) ((sx.trans s45) _ _ ea)
     refine Or.inl ⟨_,_,Or.inr ea5,rfl,Or.inl ⟨_,_,Or.inr ea5,rfl,?_⟩⟩
     refine fun r6 dx hr6 hd_ hne_=>yd (SqL.of (s5 _ _ eR1)) (SqL.of eR2) hr6 hd_ fun n1 n2 H6 f1 f2 s6 h1 h2 hx=>⟨rfl,?_⟩
     have row:dX A E.N (del [R] (Mix X H H6)) (d + 1) (.ref r6) (.iff n vl fs os l r0):=⟨r6,dx,p,n1,n2,ys1,ys2,rfl,nw s45 hr6 hx,od ep ((sx.trans (s45.trans s6)) _ _ ep),nw s45 f1 h1,nw s45 f2 h2,nest (ah.refl _) (s5.trans s6) p1,nest s4 s6 p2⟩
     obtain ⟨h5,h6⟩:=add H6 (.ref r6) _ _ (s45.trans s6) row
     exact ⟨_,_,_,rfl,rfl,h5,aR (by omega),h6⟩
   | loop n th m bs l r0 =>
    cases d with
    | zero=>exact (show False from na).elim
    | succ d =>
     obtain ⟨a,pb,xb,rfl,ea,hb,pb'⟩:=na
     obtain ⟨_,m0,m1,l0,r1,l1,w1⟩:=wr
     have ea':=SqT.of (K:=K) (sx _ _ ea)
     refine Or.inl ⟨_,_,Or.inr ea',rfl,?_⟩
     refine ⟨rfl,_,rfl,aW (fun z=>absurd (bo z) (by decide)) (fun _=>?_)⟩
     refine ⟨rfl,_,rfl,aW (fun z=>absurd (bo z) (by decide)) (fun _=>?_)⟩
     refine ⟨rfl,_,rfl,aW (fun z=>absurd (bo z) (by decide)) (fun _=>?_)⟩
     refine ⟨rfl,_,rfl,aW (fun z=>absurd (bo z) (by decide)) (fun _=>?_)⟩
     refine ⟨rfl,_,rfl,aW (fun z=>absurd (bo z) (by decide)) (fun _=>?_)⟩
     refine ⟨rfl,_,rfl,aW (fun z=>absurd (bo z) (by decide)) (fun _=>?_)⟩
     refine ⟨rfl,_,rfl,aW (fun z=>absurd (bo z) (by decide)) (fun _=>?_)⟩
     refine ⟨Or.inl ⟨rfl,_,SqL.of hRc⟩,Or.inl ⟨_,_,Or.inr ea',rfl,Or.inl ⟨_,_,Or.inr ea',rfl,Or.inl ⟨_,_,Or.inr ea',rfl,Or.inl ⟨_,_,Or.inr ea',rfl,?_⟩⟩⟩⟩⟩
     refine ⟨pb,bs,X,rfl,sx,⟨xb,hb,pb',w1⟩,l1,fun R1 ys1 H4 s4 hR1 eR1 p1=>?_⟩
     have ea5:=SqT.of (K:=K) ((sx.trans s4) _ _ ea)
     refine Or.inl ⟨_,_,Or.inr ea5,rfl,Or.inl ⟨_,_,Or.inr ea5,rfl,?_⟩⟩
     refine fun r6 dx hr6 hd_ hne_=>uA (SqL.of eR1) hr6 hd_ fun n1 H6 f1 s6 h1 hx=>⟨rfl,?_⟩
     have row:dX A E.N (del [R] (Mix X H H6)) (d + 1) (.ref r6) (.loop n th m bs l r0):=⟨r6,dx,n1,ys1,rfl,nw s4 hr6 hx,nw s4 f1 h1,nest (ah.refl _) s6 p1⟩
     obtain ⟨h5,h6⟩:=add H6 (.ref r6) _ _ (s4.trans s6) row
     exact ⟨_,_,_,rfl,rfl,h5,aR (by omega),h6⟩
  ·rintro σ Hc ⟨ys,v2,v3,rfl,sc,hRc,pc⟩
   rw [List.take_of_length_le (by omega)] at pc
   exact q R ys Hc sc hR hRc pc
theorem yz (T:Txt K mg A):∀d,Has P w K mg base (d + 5) "_law_made" ["_law_nodes_here"] (nq A E kn d)
 | 0=>vc T 0 (T.oy.has (k:=3) fC (fun _ _ _ _ h=>h.elim) (fun _ _ _ _ _ _ _ _ _ _ _ h=>h.elim))
 | d + 1=>vc T (d + 1) (yz T d)
end
section
variable {A:Adr}{E:En}{mo:Nat->Int}{ex:Nat->Option Int}{kn c:Nat}
def tK (E:En) (mo:Nat->Int) (ex:Nat->Option Int) (kn c:Nat):Prop:=∀i < kn,∃D:Dd,E.ds[i]?=some D/\D.nm=nmD i/\D.parts.length=i + 1/\(∀r ∈ D.body,Wf E c r)/\mo i=(D.body.map (aJ E c)).sum/\ex i=bw (D.body.map (aT E c))
def ou (E:En) (mo:Nat->Int) (ex:Nat->Option Int) (kn c d:Nat) (r:Rw):Prop:=Wf E (d + c + 1) r/\CIn kn (d + c + 1) r/\aJ E (d + c + 1) r=bE mo d r/\aT E (d + c + 1) r=cC ex d r
theorem mF (O:tK E mo ex kn c) (k2:kn <= 2) {d:Nat}{n:Int}{i:Nat}{ts:List Th} (h:i < kn/\ts.length=i + 1/\∀t ∈ ts,t.ok E):ou E mo ex kn c d (.call n i ts):=by
 obtain ⟨D,h1,_,h2,h3,h4,h5⟩:=O i h.1
 have hl:=h.2.1
 have hi:=h.1
 have m1:D.body.map (aJ E (d + c))=D.body.map (aJ E c):=map_eq fun r hr=>qQ (by omega) (h3 r hr)
 have m2:D.body.map (aT E (d + c))=D.body.map (aT E c):=map_eq fun r hr=>oJ (by omega) (h3 r hr)
 refine ⟨⟨h.2.2,by omega,D,h1,by omega,fun r hr=>?_⟩,h.1,?_,?_⟩
 ·have:=(h3 r hr).upN (n:=d)
  rw [Nat.add_comm c d] at this
  exact this
 ·unfold aJ
  rw [h1]
  dsimp only
  rw [m1,<- h4]
  cases d <;> rfl
 ·unfold aT
  rw [h1]
  dsimp only
  rw [m2,<- h5]
  cases d <;> rfl
theorem nG (O:tK E mo ex kn c) (k2:kn <= 2):∀(d:Nat) (r:Rw),WfL E kn d r->ou E mo ex kn c d r:=by
 intro d
 induction d with
 | zero =>
  intro r h
  cases r with
  | call n i ts=>exact mF O k2 h
  | iff=>exact (show False from h).elim
  | loop=>exact (show False from h).elim
  | _=>exact ⟨h,True.intro,rfl,rfl⟩
 | succ d ih =>
  intro r h
  have ed:d + 1 + c + 1=(d + c + 1) + 1:=by omega
  cases r with
  | call n i ts=>exact mF O k2 h
  | iff n v f o l r =>
   obtain ⟨hv,l0,r0,l1,l2,w1,w2⟩:=h
   have f1:f.map (aJ E (d + c + 1))=f.map (bE mo d):=map_eq fun r hr=>(ih r (w1 r hr)).2.2.1
   have f2:o.map (aJ E (d + c + 1))=o.map (bE mo d):=map_eq fun r hr=>(ih r (w2 r hr)).2.2.1
   have f3:f.map (aT E (d + c + 1))=f.map (cC ex d):=map_eq fun r hr=>(ih r (w1 r hr)).2.2.2
   have f4:o.map (aT E (d + c + 1))=o.map (cC ex d):=map_eq fun r hr=>(ih r (w2 r hr)).2.2.2
   unfold ou
   rw [ed]
   refine ⟨⟨hv,l0,r0,fun q hq=>(ih q (w1 q hq)).1,fun q hq=>(ih q (w2 q hq)).1⟩,⟨l1,l2,fun q hq=>(ih q (w1 q hq)).2.1,fun q hq=>(ih q (w2 q hq)).2.1⟩,?_,?_⟩
   ·unfold aJ bE fE
    rw [f1,f2]
    split <;> split <;> omega
   ·unfold aT cC
    rw [f3,f4]
    try rfl
  | loop n t m b l r =>
   obtain ⟨ht,m0,m1,l0,r0,l1,w1⟩:=h
   have f1:b.map (aJ E (d + c + 1))=b.map (bE mo d):=map_eq fun r hr=>(ih r (w1 r hr)).2.2.1
   have f3:b.map (aT E (d + c + 1))=b.map (cC ex d):=map_eq fun r hr=>(ih r (w1 r hr)).2.2.2
   unfold ou
   rw [ed]
   refine ⟨⟨ht,m0,m1,l0,r0,fun q hq=>(ih q (w1 q hq)).1⟩,⟨l1,fun q hq=>(ih q (w1 q hq)).2.1⟩,?_,?_⟩
   ·unfold aJ bE fE
    rw [f1,Int.add_comm l]
   ·unfold aT cC
    rw [f3]
    try rfl
  | _=>exact ⟨h,True.intro,rfl,rfl⟩
theorem fZ {α β:Type}{F G:α->β->Prop}:∀{xs:List α}{ys:List β},Paired F xs ys->(∀a b,b ∈ ys->F a b->G a b)->Paired G xs ys
 | _,_,.nil,_=>.nil
 | _,_,.cons h r,f=>.cons (f _ _ List.mem_cons_self h) (fZ r fun a b m=>f a b (List.mem_cons_of_mem _ m))
def zF (A:Adr) (E:En) (X:Hp) (kn c:Nat):Prop:=∀i < kn,∀D,E.ds[i]?=some D->∃da dy dn pp pb xs,E.dv[i]?=some (.ref da)/\X da=some (.ins A.bj dy [("number",dn),("name",.str (E.N D.nm)),("parts",.ref pp),("body",.ref pb)])/\X pp=some (.lst (D.parts.map fun j=>V.str (E.N j)))/\X pb=some (.lst xs)/\Paired (bO A E X c) xs D.body
theorem dX.at {X:Hp} (O:tK E mo ex kn c) (Vd:zF A E X kn c):∀(d:Nat) (v:V) (r:Rw),WfL E kn d r->dX A E.N X d v r->bO A E X (d + c + 1) v r:=by
 have call:∀(d:Nat) (v:V) (n:Int) (i:Nat) (ts:List Th),i < kn->(∃a dx p,v=.ref a/\X a=some (.ins A.bC dx [("number",.int n),("name",.str (E.N (nmD i))),("things",.ref p)])/\X p=some (.lst (ts.map (Th.v E.N))))->bO A E X (d + c + 1) v (.call n i ts):=fun d v n i ts hi ⟨a,dx,p,e,h1,h2⟩=>by
  obtain ⟨D,g1,g2,_⟩:=O i hi
  obtain ⟨da,dy,dn,pp,pb,xs,v1,v2,v3,v4,v5⟩:=Vd i hi D g1
  refine ⟨a,dx,p,D,e,g1,by rw [g2];exact h1,h2,da,dy,dn,pp,pb,xs,v1,v2,v3,v4,Paired.cF v5 fun _ _ z=>?_⟩
  have:=z.upN (n:=d)
  rw [Nat.add_comm c d] at this
  exact this
 intro d
 induction d with
 | zero =>
  intro v r w h
  cases r with
  | call n i ts=>exact call 0 v n i ts w.1 h
  | iff=>exact (show False from w).elim
  | loop=>exact (show False from w).elim
  | _=>exact h
 | succ d ih =>
  intro v r w h
  have ed:d + 1 + c + 1=(d + c + 1) + 1:=by omega
  cases r with
  | call n i ts=>exact call (d + 1) v n i ts w.1 h
  | iff n vl f o l q =>
   obtain ⟨_,_,_,_,_,w1,w2⟩:=w
   obtain ⟨a,dx,p,pf,po,xf,xo,e,h1,h2,h3,h4,h5,h6⟩:=h
   rw [ed]
   exact ⟨a,dx,p,pf,po,xf,xo,e,h1,h2,h3,h4,fZ h5 fun v r m z=>ih v r (w1 r m) z,fZ h6 fun v r m z=>ih v r (w2 r m) z⟩
  | loop n t m b l q =>
   obtain ⟨_,_,_,_,_,_,w1⟩:=w
   obtain ⟨a,dx,pb,xb,e,h1,h2,h3⟩:=h
   rw [ed]
   exact ⟨a,dx,pb,xb,e,h1,h2,fZ h3 fun v r m z=>ih v r (w1 r m) z⟩
  | _=>exact h
end
section
variable {P:Program}{w:World}{K:W.Frag}{mg:Str->Option Value}{base:Heap}{A:Adr}{E:En}
seal PE PA PS PSs PT PW
def xJ:Sp:=fun vs H Q _=>∃x:Int,vs=[.int x]/\Q (.bl true) H
theorem vi (T:Txt K mg A):Has P w K mg base 1 "_law_whole" ["_law_found"] xJ:=by
 refine T.pQ.has qW (fun vs H Q E h=>?_) (fun f cdv A' outer s H vs Q E hr hu h=>?_)
 ·obtain ⟨x,rfl,_⟩:=h
  rfl
 ·obtain ⟨y,rfl,q⟩:=h
  refine ⟨_,(ag (az (oa (aN bA rfl T.aH (by boot_by_name) (aa (fv 0) (aa (iS (v:=.ty "int") rfl T.sf (by boot_by_name) rfl) af))) (tQ (y4 (aN bA rfl T.aH (by boot_by_name) (aa (fv 0) (aa (iS (v:=.ty "bool") rfl T.oX (by boot_by_name) rfl) af)))))))),?_⟩
  refine ⟨_,_,_,true,rfl,(fun z=>by cases z),.int y,x9,true,rfl,cy ?_⟩
  exact ⟨_,_,_,false,rfl,(fun z=>by cases z),.int y,xP,false,rfl,q⟩
def wq (A:Adr):Sp:=fun vs H Q _=>∃(b db l sd tr e tc:Addr) (st m:Int) (x:Option Int) (us:List V) (ws:List (List V)),vs=[.ref b,.ref tc]/\H b=some (.ins A.ck db [("letters",.ref l),("said",.ref sd),("trace",.ref tr),("steps",.int st),("ends",.ref e)])/\H tc=some (.tup [.int m,eV x])/\H tr=some (.lst us)/\lJ H us ws/\Ris 0 ws st/\st <= m/\(∀y,x=some y->st=y)/\Q (.bl true) H
theorem yc (T:Txt K mg A):Has P w K mg base 2 "_law_within" ["_law_found","_law_cost_here"] (wq A):=by
 have D_law_whole:=vi (P:=P) (w:=w) (base:=base) T
 refine T.nC.has (k:=1) fz (fun vs H Q E h=>?_) (fun f cdv A' outer s H vs Q E' hr hu h=>?_)
 ·obtain ⟨b,db,l,sd,tr,e,tc,st,m,x,us,ws,rfl,_⟩:=h
  rfl
 ·obtain ⟨b,db,l,sd,tr,e,tc,st,m,x,us,ws,rfl,hb,hc,ht,tu,ri,le,hx,q⟩:=h
  have hc':=SqT.of (K:=K) hc
  have ul:=lJ.len tu
  refine ⟨_,(ab (aS (PW.pt (pw_or (kH (b9 (ao D_law_whole hr (aa (aA (fv 0) rfl) af)) (fun _=>rfl))) (pw_or (ay (sY) (aA (fv 0) rfl) (px hu (fv 1) ae) (aC _)) (pw_or1 (PW.pt (pw_and (ay (va) (px hu (fv 1) ae) cL (aC _)) (pw_and1 (ay (pq hu) (aA (fv 0) rfl) (px hu (fv 1) ae) (aC _)))))))))
   (ag (az kZ))
   aL)
  (ab (aE (i:=2) fz.nd rfl (Or.inl rfl) ae)
  (ab (dD PassesOwn.never rfl (eu (aA (fv 0) rfl)) (pgn (i:=3) fz.nd rfl)
   (ab (aS (PW.pt (pw_or (kH (b9 (ao D_law_whole hr (aa (px hu (fv 3) ae) af)) (fun _=>rfl))) (pw_or1 (ay (zJ) (px hu (fv 3) ae) (fv 2) (aC _)))))
    (ag (az kZ))
    aL)
   (ag (aE (i:=2) fz.nd rfl (Or.inl rfl) (px hu (fv 3) ae)))))
  (ag (az (lu (zJ) (fv 2) (aA (fv 0) rfl) (aC _))))))),?_⟩
  refine aF fun M1 K1=>?_
  have r1:M1 [some (.ref b),some (.ref tc),none,none] H:=K1 _ _ (by
   refine aF fun M0 K0=>?_
   refine K0 _ _ ?_
   refine aF fun M2 K2=>?_
   refine ⟨b,_,db,_,_,rfl,hb,T.c6.cl,T.fQ,rfl,Or.inl ⟨⟨_,SqL.of ht⟩,?_⟩⟩
   refine dO (K:=K) (xs:=us) (fun i σ H2=>H2=H/\∃(lo:Int) (v3:Option V),σ=[some (.ref b),some (.ref tc),some (.int lo),v3]/\Ris lo (ws.drop i) st) ⟨rfl,0,none,rfl,ri⟩ (fun i σ H2 _ h=>by rw [h.1];exact SqL.of ht) ?_ ?_
   ·rintro i v σ H2 hv ⟨rfl,lo,v3,rfl,rd⟩
    obtain ⟨w',hw,p,rfl,ep⟩:=bW tu hv
    rw [j3 hw] at rd
    obtain ⟨a,u,t,rfl,lt,r2⟩:=rd
    have ep':=SqT.of (K:=K) ep
    dsimp only
    refine aF fun M3 K3=>?_
    refine Or.inl ⟨_,_,Or.inr ep',rfl,t,rfl,_,rfl,aY ?_⟩
    refine Or.inl ⟨_,_,Or.inr ep',rfl,_,rfl,?_⟩
    rw [decide_eq_false (show ¬ t <= lo by omega)]
    refine aY (K3 _ _ ?_)
    exact Or.inl ⟨_,_,Or.inr ep',rfl,rfl,t,_,rfl,r2⟩
   ·rintro σ H2 ⟨rfl,lo,v3,rfl,rd⟩
    rw [ul,List.drop_length] at rd
    refine K2 _ _ ⟨b,_,db,_,_,rfl,hb,T.c6.cl,T.cw,rfl,?_⟩
    show Q (.bl (decide (lo <= st))) _
    rw [decide_eq_true (show lo <= st from rd)]
    exact q)
  refine ⟨b,_,db,_,_,rfl,hb,T.c6.cl,T.cw,rfl,st,rfl,_,rfl,aY ?_⟩
  refine ⟨b,_,db,_,_,rfl,hb,T.c6.cl,T.cw,rfl,Or.inl ⟨_,_,Or.inr hc',rfl,_,rfl,?_⟩⟩
  rw [decide_eq_false (show ¬ m < st by omega)]
  refine aY ?_
  cases x with
  | none=>exact Or.inl ⟨_,_,Or.inr hc',rfl,rfl,_,rfl,aY (aY r1)⟩
  | some y =>
   refine Or.inl ⟨_,_,Or.inr hc',rfl,rfl,_,rfl,cy ?_⟩
   refine ⟨b,_,db,_,_,rfl,hb,T.c6.cl,T.cw,rfl,Or.inl ⟨_,_,Or.inr hc',rfl,rfl,_,rfl,?_⟩⟩
   dsimp only
   rw [show eV (some y)=V.int y from rfl,j9,decide_eq_true (hx y rfl)]
   exact aY r1
end
section
variable {P:Program}{w:World}{K:W.Frag}{mg:Str->Option Value}{base:Heap}{A:Adr}{N:Nat->Str}
seal PE PA PS PSs PT PW
def z5 (c:Int):Nat:=(1 + c / 11 % 20).toNat
def z9 (c:Int):Nat:=(1 + c / 220 % 20).toNat
theorem Ds (c:Int):((z5 c:Nat):Int)=1 + c / 11 % 20:=by unfold z5;omega
theorem DC (c:Int):((z9 c:Nat):Int)=1 + c / 220 % 20:=by unfold z9;omega
def fG (c:Int):List Hd:=[.hand 0,.hand 1,.giv 2 0,.giv 3 0,.giv 4 0,.giv 5 (z5 c),.own 6 0,.own 7 0,.own 8 0,.own 9 (z9 c),.lt 10,.lt 11,.lt 12]
structure HdS (A:Adr) (N:Nat->Str) (H:Hp) (L:Addr) (Hc:Hp) (xs:List V) (hs:List Hd):Prop where
 s:ah H Hc
 e:Hc L=some (.lst xs)
 p:Paired (kB A N (del [L] Hc)) xs hs
theorem HdS.add {H Hc H6:Hp}{L r:Addr}{xs:List V}{hs:List Hd}{h:Hd} (D:HdS A N H L Hc xs hs) (L0:H L=none) (s:ah Hc H6) (hr:Hc r=none) (hx:∀X:Hp,(∀o,H6 r=some o->X r=some o)->kB A N X (.ref r) h):H6 L=some (.lst xs)/\HdS A N H L (upd H6 L (.lst (xs ++ [.ref r]))) (xs ++ [.ref r]) (hs ++ [h]):=by
 have rL:r ≠ L:=fun z=>by rw [z,D.e] at hr;cases hr
 have z:ah (del [L] Hc) (del [L] (upd H6 L (.lst (xs ++ [.ref r])))):=fun a o e=>by
  obtain ⟨h1,h2⟩:=dE e
  exact ba h1 (aj (fun z=>h1 (by rw [z];exact List.mem_cons_self)) (s _ _ h2))
 refine ⟨s _ _ D.e,ah.out (D.s.trans s) L0 _,ar,Paired.snoc (hx _ fun o e=>?_) (Paired.cF D.p fun _ _=>kB.same z)⟩
 exact ba (fun m=>rL (List.mem_singleton.mp m)) (aj rL e)
theorem HdS.len {H Hc:Hp}{L:Addr}{xs:List V}{hs:List Hd} (D:HdS A N H L Hc xs hs):xs.length=hs.length:=Paired.length D.p
def rQ (A:Adr) (N:Nat->Str):Sp:=fun vs H Q _=>∃(ln:Addr) (c:Int),vs=[.ref ln,.int c]/\H ln=some (.lst (nmL N))/\∀(L:Addr) (xs:List V) (H':Hp),ah H H'->H L=none->H' L=some (.lst xs)->Paired (kB A N H') xs (fG c)->Q (.ref L) H'
theorem zP (T:Txt K mg A):Has P w K mg base 5 "_law_heads" ["_law_names","_law_cell"] (rQ A N):=by
 have D_HandRow_init:=og (P:=P) (w:=w) (base:=base) T
 have D_GivenRow_init:=mP (P:=P) (w:=w) (base:=base) T
 have D_OwnRow_init:=o5 (P:=P) (w:=w) (base:=base) T
 have D_LetRow_init:=pv (P:=P) (w:=w) (base:=base) T
 refine T.pO.has (k:=4) eX (fun vs H Q E h=>?_) (fun f cdv A' outer s H vs Q E' hr hu h=>?_)
 ·obtain ⟨ln,c,rfl,_⟩:=h
  rfl
 ·obtain ⟨ln,c,rfl,hn,q⟩:=h
  have at':∀(Hc:Hp),ah H Hc->∀j:Nat,j < 18->SqL K Hc ln (nmL N)/\atI (nmL N) (j:Int)=some (.str (N j)):=fun Hc z j hj=>⟨SqL.of (z _ _ hn),dj N hj⟩
  refine ⟨_,(ab (aE (i:=2) eX.nd rfl (Or.inl rfl) (cf (aa (bZ T.cP D_HandRow_init hr (aa ae (aa (px hu (fv 0) ae) (aa (av bI (fv 1) ae) af)))) (aa (bZ T.cP D_HandRow_init hr (aa ae (aa (px hu (fv 0) ae) (aa (av bI (av bU (fv 1) ae) ae) af)))) af))))
  (ab (dD PassesOwn.never rfl (j2 rfl T.eJ (aa ae (aa ae af))) (pgn (i:=3) eX.nd rfl)
   (ag (aU (b8 (fv 2) (aa (bZ T.bh D_GivenRow_init hr (aa (av bf (fv 3) ae) (aa (px hu (fv 0) (fv 3)) (aa (av bI (av bI (av bU (fv 1) ae) (av bf (fv 3) ae)) ae) (aa ae af))))) af)))))
  (ab (aU (b8 (fv 2) (aa (bZ T.bh D_GivenRow_init hr (aa ae (aa (px hu (fv 0) ae) (aa (av bI (av bU (fv 1) ae) ae) (aa (av bf ae (av bI (av bU (fv 1) ae) ae)) af))))) af)))
  (ab (dD PassesOwn.never rfl (j2 rfl T.eJ (aa ae (aa ae af))) (pgn (i:=3) eX.nd rfl)
   (ag (aU (b8 (fv 2) (aa (bZ T.bG D_OwnRow_init hr (aa (av bf (fv 3) ae) (aa (px hu (fv 0) (fv 3)) (aa ae af)))) af)))))
  (ab (aU (b8 (fv 2) (aa (bZ T.bG D_OwnRow_init hr (aa ae (aa (px hu (fv 0) ae) (aa (av bf ae (av bI (av bU (fv 1) ae) ae)) af)))) af)))
  (ab (dD PassesOwn.never rfl (j2 rfl T.eJ (aa ae (aa ae af))) (pgn (i:=3) eX.nd rfl)
   (ag (aU (b8 (fv 2) (aa (bZ T.dW D_LetRow_init hr (aa (av bf (fv 3) ae) (aa (px hu (fv 0) (fv 3)) (aa (av bI (av bI (av bU (fv 1) ae) (fv 3)) ae) af)))) af)))))
  (ag (az (fv 2))))))))),?_⟩
  refine Or.inl ⟨_,_,Or.inl (SqL.of hn),dj N (i:=0) (by decide),(by show (0:Int) < 3;decide),?_⟩
  refine fun r1 dx1 hr1 hd_ hne_=>nH hr1 hd_ fun H1 s1 x1=>⟨rfl,?_⟩
  refine Or.inl ⟨_,_,Or.inl (SqL.of (s1 _ _ hn)),dj N (i:=1) (by decide),⟨by decide,by decide⟩,(by show (0:Int) < 3;decide),?_⟩
  refine fun r2 dx2 hr2 hd_ hne_=>nH hr2 hd_ fun H2 s2 x2=>⟨rfl,?_⟩
  refine ⟨by show 2 <= sizeLine;decide,fun L hL=>?_⟩
  have s12:=s1.trans s2
  have L0:H L=none:=ah.free s12 hL
  have D2:HdS A N H L (upd H2 L (.lst [.ref r1,.ref r2])) [.ref r1,.ref r2] ((fG c).take 2):=by
   have y1:=s2 _ _ x1
   have n1:r1 ≠ L:=fun z=>by rw [z,hL] at y1;cases y1
   have n2:r2 ≠ L:=fun z=>by rw [z,hL] at x2;cases x2
   refine ⟨s12.trans (ah.upd hL _),ar,.cons ?_ (.cons ?_ .nil)⟩
   ·exact ⟨r1,dx1,_,_,rfl,ba (fun m=>n1 (List.mem_singleton.mp m)) (aj n1 y1)⟩
   ·exact ⟨r2,dx2,_,_,rfl,ba (fun m=>n2 (List.mem_singleton.mp m)) (aj n2 x2)⟩
  generalize upd H2 L (.lst [.ref r1,.ref r2])=H3 at D2 ⊢
  clear s12 x1 x2 s1 s2 hr1 hr2 hL
  dsimp only
  refine aF fun M1 K1=>?_
  refine ⟨2,5,rfl,⟨by decide,by decide,by decide,by decide⟩,?_⟩
  refine fY (lo:=2) (fun i σ Hc=>∃(xs:List V) (v3:Option V),σ=[some (.ref ln),some (.int c),some (.ref L),v3]/\HdS A N H L Hc xs ((fG c).take (2 + i))) ⟨_,none,rfl,D2⟩ ?_ ?_
  ·rintro i σ Hc hi ⟨xs,v3,rfl,D⟩
   have hi3:i < 3:=hi
   have lx:xs.length <= 13:=by rw [D.len,List.length_take];show min _ 13 <= 13;omega
   have e2:(2 + (i:Int))=((2 + i:Nat):Int):=by omega
   refine ⟨Or.inl ⟨rfl,_,SqL.of D.e⟩,Or.inl ⟨_,_,Or.inl (SqL.of (D.s _ _ hn)),(by rw [e2];exact dj N (by omega)),⟨by decide,by decide⟩,(by show (0:Int) < 2 + (i:Int) + 1;omega),(by show (0:Int) < 3;decide),?_⟩⟩
   refine fun r6 dx hr6 hd_ hne_=>mj hr6 hd_ fun H6 s6 hx=>⟨rfl,?_⟩
   obtain ⟨h5,h6⟩:=D.add (h:=.giv (2 + i) 0) L0 s6 hr6 (fun X hX=>⟨r6,dx,_,_,rfl,hX _ hx⟩)
   refine ⟨_,_,_,rfl,rfl,h5,aR (by omega),xs ++ [.ref r6],_,rfl,?_⟩
   have:(fG c).take (2 + (i + 1))=(fG c).take (2 + i) ++ [.giv (2 + i) 0]:=by
    have:i=0 \/ i=1 \/ i=2:=by omega
    rcases this with rfl | rfl | rfl <;> rfl
   rw [this]
   exact h6
  rintro σ H4 ⟨xs4,v3,rfl,D4⟩
  refine K1 _ _ ?_
  have l4:xs4.length=5:=by rw [D4.len];rfl
  refine aF fun M2 K2=>?_
  refine ⟨Or.inl ⟨rfl,_,SqL.of D4.e⟩,Or.inl ⟨_,_,Or.inl (SqL.of (D4.s _ _ hn)),dj N (i:=5) (by decide),⟨by decide,by decide⟩,(by show (0:Int) < 3;decide),⟨by decide,by decide⟩,(by show (0:Int) < 20;decide),?_⟩⟩
  refine fun r5 dx5 hr5 hd_ hne_=>mj hr5 hd_ fun H5 s5 hx5=>⟨rfl,?_⟩
  rw [<- Ds] at hx5
  obtain ⟨h5,D5⟩:=D4.add (h:=.giv 5 (z5 c)) L0 s5 hr5 (fun X hX=>⟨r5,dx5,_,_,rfl,hX _ hx5⟩)
  refine ⟨_,_,_,rfl,rfl,h5,aR (by omega),K2 _ _ ?_⟩
  have D5':HdS A N H L _ _ ((fG c).take 6):=D5
  generalize upd H5 L (.lst (xs4 ++ [.ref r5]))=H6 at D5' ⊢
  clear D5 h5 hx5 s5 hr5 D4
  refine aF fun M3 K3=>?_
  refine ⟨6,9,rfl,⟨by decide,by decide,by decide,by decide⟩,?_⟩
  refine fY (lo:=6) (fun i σ Hc=>∃(xs:List V) (v3:Option V),σ=[some (.ref ln),some (.int c),some (.ref L),v3]/\HdS A N H L Hc xs ((fG c).take (6 + i))) ⟨_,_,rfl,D5'⟩ ?_ ?_
  ·rintro i σ Hc hi ⟨xs,v3,rfl,D⟩
   have hi3:i < 3:=hi
   have lx:xs.length <= 13:=by rw [D.len,List.length_take];show min _ 13 <= 13;omega
   have e2:(6 + (i:Int))=((6 + i:Nat):Int):=by omega
   refine ⟨Or.inl ⟨rfl,_,SqL.of D.e⟩,Or.inl ⟨_,_,Or.inl (SqL.of (D.s _ _ hn)),(by rw [e2];exact dj N (by omega)),?_⟩⟩
   refine fun r6 dx hr6 hd_ hne_=>qf hr6 hd_ fun H6 s6 hx=>⟨rfl,?_⟩
   obtain ⟨h5,h6⟩:=D.add (h:=.own (6 + i) 0) L0 s6 hr6 (fun X hX=>⟨r6,dx,_,rfl,hX _ hx⟩)
   refine ⟨_,_,_,rfl,rfl,h5,aR (by omega),xs ++ [.ref r6],_,rfl,?_⟩
   have:(fG c).take (6 + (i + 1))=(fG c).take (6 + i) ++ [.own (6 + i) 0]:=by
    have:i=0 \/ i=1 \/ i=2:=by omega
    rcases this with rfl | rfl | rfl <;> rfl
   rw [this]
   exact h6
  rintro σ H7 ⟨xs7,v7,rfl,D7⟩
  refine K3 _ _ ?_
  have l7:xs7.length=9:=by rw [D7.len];rfl
  refine aF fun M4 K4=>?_
  refine ⟨Or.inl ⟨rfl,_,SqL.of D7.e⟩,Or.inl ⟨_,_,Or.inl (SqL.of (D7.s _ _ hn)),dj N (i:=9) (by decide),⟨by decide,by decide⟩,(by show (0:Int) < 20;decide),?_⟩⟩
  refine fun r8 dx8 hr8 hd_ hne_=>qf hr8 hd_ fun H8 s8 hx8=>⟨rfl,?_⟩
  rw [<- DC] at hx8
  obtain ⟨h8,D8⟩:=D7.add (h:=.own 9 (z9 c)) L0 s8 hr8 (fun X hX=>⟨r8,dx8,_,rfl,hX _ hx8⟩)
  refine ⟨_,_,_,rfl,rfl,h8,aR (by omega),K4 _ _ ?_⟩
  have D8':HdS A N H L _ _ ((fG c).take 10):=D8
  generalize upd H8 L (.lst (xs7 ++ [.ref r8]))=H9 at D8' ⊢
  clear D8 h8 hx8 s8 hr8 D7
  refine aF fun M5 K5=>?_
  refine ⟨10,13,rfl,⟨by decide,by decide,by decide,by decide⟩,?_⟩
  refine fY (lo:=10) (fun i σ Hc=>∃(xs:List V) (v3:Option V),σ=[some (.ref ln),some (.int c),some (.ref L),v3]/\HdS A N H L Hc xs ((fG c).take (10 + i))) ⟨_,_,rfl,D8'⟩ ?_ ?_
  ·rintro i σ Hc hi ⟨xs,v3,rfl,D⟩
   have hi3:i < 3:=hi
   have lx:xs.length <= 13:=by rw [D.len,List.length_take];show min _ 13 <= 13;omega
   have e2:(10 + (i:Int))=((10 + i:Nat):Int):=by omega
   refine ⟨Or.inl ⟨rfl,_,SqL.of D.e⟩,Or.inl ⟨_,_,Or.inl (SqL.of (D.s _ _ hn)),(by rw [e2];exact dj N (by omega)),⟨by decide,by decide⟩,(by show (0:Int) < 10 + (i:Int);omega),(by show (0:Int) < 3;decide),?_⟩⟩
   refine fun r6 dx hr6 hd_ hne_=>wA hr6 hd_ fun H6 s6 hx=>⟨rfl,?_⟩
   obtain ⟨h5,h6⟩:=D.add (h:=.lt (10 + i)) L0 s6 hr6 (fun X hX=>⟨r6,dx,_,_,rfl,hX _ hx⟩)
   refine ⟨_,_,_,rfl,rfl,h5,aR (by omega),xs ++ [.ref r6],_,rfl,?_⟩
   have:(fG c).take (10 + (i + 1))=(fG c).take (10 + i) ++ [.lt (10 + i)]:=by
    have:i=0 \/ i=1 \/ i=2:=by omega
    rcases this with rfl | rfl | rfl <;> rfl
   rw [this]
   exact h6
  rintro σ H10 ⟨xs,v10,rfl,D⟩
  refine K5 _ _ ?_
  exact q L xs H10 D.s L0 D.e (Paired.cF D.p fun _ _=>kB.same aw)
end
section
variable {P:Program}{w:World}{K:W.Frag}{mg:Str->Option Value}{base:Heap}{A:Adr}{E:En}{mo:Nat->Int}{ex:Nat->Option Int}{kn:Nat}
def moL (l:List Int) (i:Nat):Int:=l.getD i 0
def exL (l:List (Option Int)) (i:Nat):Option Int:=l.getD i none
theorem co0 (D:jF E.N):kP E (moL []) (exL []) 0:=⟨D,by decide,fun i x h=>by simp [exL] at h⟩
theorem co1 (D:jF E.N) {c:Int}{x:Option Int} (h:∀y,x=some y->y=c):kP E (moL [c]) (exL [x]) 1:=⟨D,by decide,fun i y e=>by
 cases i with
 | zero=>exact h y e
 | succ i=>simp [exL] at e⟩
theorem co2 (D:jF E.N) {c1 c2:Int}{x1 x2:Option Int} (h1:∀y,x1=some y->y=c1) (h2:∀y,x2=some y->y=c2):kP E (moL [c1,c2]) (exL [x1,x2]) 2:=⟨D,by decide,fun i y e=>by
 match i,e with
 | 0,e=>exact h1 y e
 | 1,e=>exact h2 y e
 | i + 2,e=>simp [exL] at e⟩
def oB (ex:Nat->Option Int) (d:Nat) (rs:List Rw):Option Int:=bw (rs.map (cC ex d))
theorem qz (C:kP E mo ex kn) {d:Nat}{rs:List Rw} (y:Int) (e:oB ex d rs=some y):y=ee mo d rs:=iy (fun r _=>pG C.2.2 d r) e
structure so (E:En) (c:Int):Prop where
 N:E.N=nmV c
 th:∀i ∈ [2,3,4,6,7,8,14,16,17],i ∈ E.idx/\E.sz i=0
 l5:5 ∈ E.ls
 l9:9 ∈ E.ls
theorem so.D {c:Int} (Z:so E c):jF E.N:=by rw [Z.N];exact nr c
theorem so.la {c:Int} (Z:so E c) {s:La} (n1:s.S ≠ s.lm) (n2:s.S ≠ s.ll) (n3:s.lm ≠ s.ll) (th:∀i ∈ s.th,i ∈ [2,3,4,6,7,8,14,16,17]) (t3:3 < s.th.length) (kn:s.kn <= 2) (ms:∀m ∈ s.eR,1 <= m/\m <= 4) (ml:s.eR.length <= 2):lH E s :=
 ⟨n1,n2,n3,Z.D,fun i=>by rw [Z.N];exact CH c i,⟨fun z=>absurd t3 (by rw [z];decide),fun i hi=>Z.th i (th i hi)⟩,t3,kn,Z.l5,Z.l9,ms,ml⟩
structure Bk (H:Hp) (S lm lc:Addr) (kv:List (Key × V)) (ms:List V) (cs:List (Key × V)):Prop where
 hS:H S=some (.dK kv)
 hm:H lm=some (.lst ms)
 hc:H lc=some (.dK cs)
 n:S ≠ lc
variable {H H' H2 Hx:Hp}{S lm lc:Addr}{kv cs:List (Key × V)}{ms:List V}
theorem Bk.n1 (b:Bk H S lm lc kv ms cs):S ≠ lm:=fun z=>by have:=b.hS;rw [z,b.hm] at this;cases this
theorem Bk.n2 (b:Bk H S lm lc kv ms cs):lc ≠ lm:=fun z=>by have:=b.hc;rw [z,b.hm] at this;cases this
theorem Bk.al (b:Bk H S lm lc kv ms cs):∀a ∈ [S,lm,lc],H a ≠ none:=fun a m e=>by
 simp only [List.mem_cons,List.not_mem_nil,or_false] at m
 rcases m with rfl | rfl | rfl
 ·rw [b.hS] at e;cases e
 ·rw [b.hm] at e;cases e
 ·rw [b.hc] at e;cases e
theorem Bk.same (b:Bk H S lm lc kv ms cs) (z:ah H H'):Bk H' S lm lc kv ms cs:=⟨z _ _ b.hS,z _ _ b.hm,z _ _ b.hc,b.n⟩
theorem Bk.atS (b:Bk H S lm lc kv ms cs) (kv':List (Key × V)):Bk (upd H S (.dK kv')) S lm lc kv' ms cs:=⟨ar,aj b.n1.symm b.hm,aj b.n.symm b.hc,b.n⟩
theorem Bk.atC (b:Bk H S lm lc kv ms cs) (cs':List (Key × V)):Bk (upd H lc (.dK cs')) S lm lc kv ms cs':=⟨aj b.n b.hS,aj b.n2.symm b.hm,ar,b.n⟩
theorem Bk.dl (b:Bk H S lm lc kv ms cs) {p:Addr}{o:HO} (hp:H p=none) (e:H' p=some o):del [S,lm,lc] H' p=some o:=ba (fun m=>b.al p m hp) e
theorem Bk.zS (b:Bk H S lm lc kv ms cs) (o:HO):ah (del [S,lm,lc] H) (del [S,lm,lc] (upd H S o)):=(Go.at List.mem_cons_self o).same
theorem Bk.zC (b:Bk H S lm lc kv ms cs) (o:HO):ah (del [S,lm,lc] H) (del [S,lm,lc] (upd H lc o)):=(Go.at (by simp) o).same
theorem zN (z:ah H H') (M:List Addr):ah (del M H) (del M H'):=(Go.new z).same
structure Fx (E:En) (H X:Hp) (ln lth:Addr):Prop where
 z:ah H X
 hn:X ln=some (.lst (nmL E.N))
 ht:X lth=some (.lst (stV E [2,3,4,6,7,8]))
theorem Fx.same {X X':Hp}{ln lth:Addr} (f:Fx E H X ln lth) (z:ah X X'):Fx E H X' ln lth:=⟨f.z.trans z,z _ _ f.hn,z _ _ f.ht⟩
def mW (E:En) (mo:Nat->Int) (ex:Nat->Option Int) (X:Hp) (kn:Nat) (cs:List (Key × V)):Prop:=∃cv,cs=dk E.N ((List.range kn).map nmD) cv/\∀i < kn,∃p,cv (nmD i)=.ref p/\X p=some (.tup [.int (mo i),eV (ex i)])
theorem mW.same {X X':Hp} (z:ah X X') (h:mW E mo ex X kn cs):mW E mo ex X' kn cs:=by
 obtain ⟨cv,e,f⟩:=h
 refine ⟨cv,e,fun i hi=>?_⟩
 obtain ⟨p,e1,e2⟩:=f i hi
 exact ⟨p,e1,z _ _ e2⟩
theorem mW.co {X:Hp} (z:ah X H) (h:mW E mo ex X kn cs) (e:H lc=some (.dK cs)):pj E mo ex H lc kn:=by
 obtain ⟨cv,rfl,f⟩:=h
 refine ⟨cv,e,fun i hi=>?_⟩
 obtain ⟨p,e1,e2⟩:=f i hi
 exact ⟨p,e1,z _ _ e2⟩
theorem mW.put {X:Hp} (D:jF E.N) {c:Int}{x:Option Int}{mo':Nat->Int}{ex':Nat->Option Int}{p:Addr} (h:mW E mo ex X kn cs) (k2:kn <= 1) (hp:X p=some (.tup [.int c,eV x])) (m1:∀i < kn,mo' i=mo i/\ex' i=ex i) (m2:mo' kn=c/\ex' kn=x):mW E mo' ex' X (kn + 1) (putK cs (.inr (E.N (nmD kn))) (.ref p)):=by
 obtain ⟨cv,rfl,f⟩:=h
 have lt:∀j ∈ (List.range kn).map nmD,j < 18:=fun j hj=>by
  obtain ⟨i,hi,rfl⟩:=List.mem_map.mp hj
  have:=List.mem_range.mp hi
  unfold nmD
  omega
 have nin:nmD kn ∉ (List.range kn).map nmD:=fun hj=>by
  obtain ⟨i,hi,e⟩:=List.mem_map.mp hj
  have:=List.mem_range.mp hi
  unfold nmD at e
  omega
 refine ⟨rG cv (nmD kn) (.ref p),?_,fun i hi=>?_⟩
 ·rw [fJ D (by unfold nmD;omega) lt nin,List.range_succ,List.map_append]
  rfl
 ·by_cases e:i=kn
  ·subst e
   rw [m2.1,m2.2]
   exact ⟨p,dB _ _ _,hp⟩
  ·obtain ⟨q,e1,e2⟩:=f i (by omega)
   obtain ⟨a1,a2⟩:=m1 i (by omega)
   rw [a1,a2]
   exact ⟨q,by rw [fU _ _ (fun z=>e (by unfold nmD at z;omega))];exact e1,e2⟩
theorem xn {s:La}{y:Dy}{kv2:List V} (b:Bk H' s.S s.lm s.lc (stK s y.row) (stV E y.marks) cs) (zs:ah (del [s.S,s.lm,s.lc] Hx) (del [s.S,s.lm,s.lc] H')) (l0:Hx s.ll=none) (hl:H' s.ll=some (.lst (y.cells.map V.int))) {ln lth:Addr} (f:Fx E H (del [s.S,s.lm,s.lc] Hx) s.ln lth) (ho:del [s.S,s.lm,s.lc] Hx s.lo=some (.lst (s.eR.map V.int))) (hk:del [s.S,s.lm,s.lc] Hx s.lk=some (.lst kv2)) (pk:Paired (KnV E.N (del [s.S,s.lm,s.lc] Hx)) kv2 (List.range s.kn)) (ht:del [s.S,s.lm,s.lc] Hx s.lt=some (.lst (stV E s.th))) (hc:mW E mo ex (del [s.S,s.lm,s.lc] Hx) s.kn cs):cZ E mo ex H' s y:=by
 have z:ah (del [s.S,s.lm,s.lc] Hx) (del s.M H'):=fun a o e=>by
  obtain ⟨h1,h2⟩:=dE e
  obtain ⟨_,h3⟩:=dE (zs a o e)
  refine ba (fun m=>?_) h3
  unfold La.M at m
  simp only [List.mem_cons,List.not_mem_nil,or_false,not_or] at m h1
  rcases m with m | m | m
  ·exact h1.1 m
  ·exact h1.2.1 m
  ·rw [m,l0] at h2;cases h2
 have hlc:del s.M H' s.lc=some (.dK cs):=ba (fun m=>by
  unfold La.M at m
  simp only [List.mem_cons,List.not_mem_nil,or_false] at m
  rcases m with m | m | m
  ·exact b.n m.symm
  ·exact b.n2 m
  ·have:=b.hc;rw [m,hl] at this;cases this) b.hc
 exact ⟨⟨z _ _ f.hn,z _ _ ho,⟨kv2,z _ _ hk,Paired.cF pk fun _ _ ⟨p,e,q⟩=>⟨p,e,z _ _ q⟩⟩,z _ _ ht,hc.co z hlc⟩,b.hS,b.hm,hl⟩
theorem uk {s:La}{y y2:Dy} (b:Bk H' s.S s.lm s.lc (stK s y.row) (stV E y.marks) cs) (zs:ah (del [s.S,s.lm,s.lc] Hx) (del [s.S,s.lm,s.lc] H')) (l0:Hx s.ll=none) (hl:H' s.ll=some (.lst (y.cells.map V.int))) (g:Go s.M H' s.M H2) (L:cZ E mo ex H2 s y2):Bk H2 s.S s.lm s.lc (stK s y2.row) (stV E y2.marks) cs/\ah (del [s.S,s.lm,s.lc] Hx) (del [s.S,s.lm,s.lc] H2)/\ah (New H' H2) (del [s.S,s.lm,s.lc] H2):=by
 refine ⟨⟨L.dy.hS,L.dy.hm,g.o _ _ (fun m=>?_) b.hc,b.n⟩,fun a o e=>?_,fun a o e=>?_⟩
 ·unfold La.M at m
  simp only [List.mem_cons,List.not_mem_nil,or_false] at m
  rcases m with m | m | m
  ·exact b.n m.symm
  ·exact b.n2 m
  ·have:=b.hc;rw [m,hl] at this;cases this
 ·obtain ⟨h1,h2⟩:=dE e
  obtain ⟨_,h3⟩:=dE (zs a o e)
  refine ba h1 (g.o a o (fun m=>?_) h3)
  unfold La.M at m
  simp only [List.mem_cons,List.not_mem_nil,or_false,not_or] at m h1
  rcases m with m | m | m
  ·exact h1.1 m
  ·exact h1.2.1 m
  ·rw [m,l0] at h2;cases h2
 ·obtain ⟨e1,e2⟩:=New.get e
  exact b.dl e1 e2
def eO (ns:List Int) (i j:Nat):List Int:=((ns.drop (HT.sIx ns.length 0 (some (i:Int)))).take (HT.sIx ns.length ns.length (some (j:Int)) - HT.sIx ns.length 0 (some (i:Int)))).reverse
theorem nz (ns:List Int) {i j:Nat} (h:i <= j):(eO ns i j).length <= j - i:=by
 unfold eO
 rw [List.length_reverse,List.length_take,HT.vk,HT.vk]
 omega
theorem ua (ns:List Int) (i j:Nat):(iC (ns.map V.int) (some (i:Int)) (some (j:Int))).reverse=(eO ns i j).map V.int:=by
 unfold eO
 rw [xp,List.map_reverse]
end
section
variable {P:Program}{w:World}{K:W.Frag}{mg:Str->Option Value}{base:Heap}{A:Adr}{E:En}
seal PE PA PS PSs PT PW
def c1D (r1:List Rw):Int:=ee (moL []) 4 r1
def x1D (r1:List Rw):Option Int:=oB (exL []) 4 r1
def c2D (r1 r2:List Rw):Int:=ee (moL [c1D r1]) 4 r2
def x2D (r1 r2:List Rw):Option Int:=oB (exL [x1D r1]) 4 r2
def mo2 (r1 r2:List Rw):Nat->Int:=moL [c1D r1,c2D r1 r2]
def ex2 (r1 r2:List Rw):Nat->Option Int:=exL [x1D r1,x2D r1 r2]
structure B5 (E:En) (H:Hp) (t ln lb B1 B2 B3 tc:Addr) (n:Int) (r1 r2 r3:List Rw):Prop where
 t:H t=some (.tup [.ref ln,.ref lb,.int n,.ref tc])
 ln:H ln=some (.lst (nmL E.N))
 lb:H lb=some (.lst [.ref B1,.ref B2,.ref B3])
 b1:cJ E 0 4 H B1 r1
 b2:cJ E 1 4 H B2 r2
 b3:cJ E 2 4 H B3 r3
 l1:r1.length <= 100
 l2:r2.length <= 100
 l3:r3.length <= 100
 tc:H tc=some (.tup [.int (ee (mo2 r1 r2) 4 r3),eV (oB (ex2 r1 r2) 4 r3)])
 big:ee (mo2 r1 r2) 4 r3 <= 17280
structure Ix where
 E:En
 mo:Nat->Int
 ex:Nat->Option Int
 kn:Nat
 wt:Nat->Int
def ix0:Ix:=⟨⟨nmV 0,[],fun _=>0,[],[]⟩,moL [],exL [],0,fun _=>0⟩
def wt3 (k:Nat):Int:=if k=0 then 480 else if k=1 then 120 else 40
def st5 (ln lm lo lk:Addr):List (Key × V):=[(.inr "names",.ref ln),(.inr "row",.int 15),(.inr "marks",.ref lm),(.inr "mosts",.ref lo),(.inr "known",.ref lk)]
def st9 (ln:Addr) (row:Int) (lm lo lk lt:Addr) (ev:Int) (lc ll:Addr):List (Key × V):=[(.inr "names",.ref ln),(.inr "row",.int row),(.inr "marks",.ref lm),(.inr "mosts",.ref lo),(.inr "known",.ref lk),(.inr "things",.ref lt),(.inr "even",.int ev),(.inr "costs",.ref lc),(.inr "cells",.ref ll)]
def yr (K:W.Frag):Sp:=fun vs H Q _=>∃(E:En) (a:Addr) (ns:List Int),vs=[.ref a]/\SqL K H a (ns.map V.int)/\so E (cellAt ns 0) /\
 ∀(t ln lb B1 B2 B3 tc:Addr) (n:Int) (r1 r2 r3:List Rw) (H':Hp),ah H H'->B5 E H' t ln lb B1 B2 B3 tc n r1 r2 r3->Q (.ref t) H'
theorem zr {E:En}{ys:List V} (ly:ys.length=18) (hy:∀(i:Nat) y,ys[i]?=some y->y=.str (E.N i)):ys=nmL E.N:=by
 refine List.ext_getElem? fun i=>?_
 by_cases h:i < 18
 ·have lt:i < ys.length:=by omega
  rw [List.getElem?_map,List.getElem?_range h,List.getElem?_eq_getElem lt,hy i _ (List.getElem?_eq_getElem lt)]
  rfl
 ·rw [List.getElem?_eq_none (by omega),List.getElem?_eq_none (by simp;omega)]
theorem fresh_ne {H:Hp}{a b:Addr}{o:HO} (h:H a=none) (e:H b=some o):a ≠ b:=fun z=>by rw [z,e] at h;cases h
theorem yP {a b x:Addr} (h1:x ≠ a) (h2:x ≠ b):x ∉ [a,b]:=fun m=>by
 simp only [List.mem_cons,List.not_mem_nil,or_false] at m
 rcases m with m | m
 ·exact h1 m
 ·exact h2 m
theorem Dg {a b c x:Addr} (h1:x ≠ a) (h2:x ≠ b) (h3:x ≠ c):x ∉ [a,b,c]:=fun m=>by
 simp only [List.mem_cons,List.not_mem_nil,or_false] at m
 rcases m with m | m | m
 ·exact h1 m
 ·exact h2 m
 ·exact h3 m
theorem so.la' {c:Int} (Z:so E c) {S ln lm lo lk lt lc ll:Addr}{eR:List Int}{kn:Nat}{th:List Nat}{ev:Int} (n1:S ≠ lm) (n2:S ≠ ll) (n3:lm ≠ ll) (h:∀i ∈ th,i ∈ [2,3,4,6,7,8,14,16,17]) (t3:3 < th.length) (k2:kn <= 2) (ms:∀m ∈ eR,1 <= m/\m <= 4) (ml:eR.length <= 2):lH E ⟨S,ln,lm,lo,lk,lt,lc,ll,eR,kn,th,ev⟩:=Z.la n1 n2 n3 h t3 k2 ms ml
theorem zm (T:Txt K mg A):Has P w K mg base 17 "_law_drawn" ["_law_script"] (yr K):=by
 have D_law_cell_at:=tF (P:=P) (w:=w) (base:=base) T
 have D_law_name:=Bf (P:=P) (w:=w) (base:=base) T
 have D_law_nodes:=Has.ex (P:=P) (w:=w) (base:=base) (sp:=fun i:Ix=>k6 i.E i.mo i.ex i.kn i.wt 4) (p:=fun i=>kP i.E i.mo i.ex i.kn) ix0 (co0 (nr 0)) fun i h=>uM T h 4
 have D_law_cost:=Has.ex (P:=P) (w:=w) (base:=base) (sp:=fun i:Ix=>nc i.E i.mo i.ex i.kn 4) (p:=fun i=>kP i.E i.mo i.ex i.kn) ix0 (co0 (nr 0)) fun i h=>tD T h 4
 refine T.ql.has (k:=16) cU (fun vs H Q E h=>?_) (fun f cdv A' outer s H vs Q E' hr hu h=>?_)
 ·obtain ⟨E,a,ns,rfl,_⟩:=h
  rfl
 ·obtain ⟨E,a,ns,rfl,hA,Z,q⟩:=h
  have D:=Z.D
  refine ⟨_,(ab (oY (j:=1) (N:=["_law_k","_law_script"]) (own:=1) (fr:=[0]) (dC.of (by kernel_rfl!)) rfl cU.nd rfl (Or.inl rfl) (iF rfl T.eJ (aa ae af)) (fun b=>pgn (i:=0) (show List.Nodup (["_law_k","_law_script"]:List PySem.Str) by decide +kernel) rfl) (fun b=>kD) (fun b=>ao (hj:=by omega) D_law_name hr (aa (ao (hj:=by omega) D_law_cell_at hr (aa (fv 1) (aa ae af))) (aa (fv 0) af))))
  (ab (aE (i:=2) cU.nd rfl (Or.inl rfl) (av bf (eF gN (fv 1) (cK ae) (cK ae)) (eF gN (fv 1) (cK ae) (cK ae))))
  (ab (aE (i:=3) cU.nd rfl (Or.inl rfl) (yV (jE au (fv 1) (jE au ae (jE au (eF gN (fv 1) (cK ae) (cK ae)) (jE au (cf af) (jE au (cf af) (zU)))))) rfl rfl (by intro z;cases z) (by decide)))
  (ab (bN (av bf (fv 2) (eF gN (fv 1) (cK ae) (cK ae))) (bR (fv 3) au (bS hu set_list)))
  (ab (bN (av bI (av bU (ao (hj:=by omega) D_law_cell_at hr (aa (fv 0) (aa ae af))) ae) ae) (bR (fv 3) au (bS hu set_list)))
  (ab (bN (gp) (bR (fv 3) au (bS hu set_list)))
  (ab (bN (uf (eF gN (fv 0) (cK ae) (cK ae))) (bR (fv 3) au (bS hu set_list)))
  (ab (aE (i:=4) cU.nd rfl (Or.inl rfl) (ao (hj:=by omega) D_law_nodes hr (aa (fv 3) (aa ae (aa ae af)))))
  (ab (bN (ao (hj:=by omega) D_law_cost hr (aa (fv 4) (aa (px hu (fv 3) au) af))) (bR (px hu (fv 3) au) (px hu (fv 1) ae) (bS hu set_list)))
  (ab (bN (av bf (px hu (fv 3) au) ae) (bR (fv 3) au (bS hu set_list)))
  (ab (bN (cf (aa (cB (aa (px hu (fv 1) ae) (aa ae af))) af)) (bR (fv 3) au (bS hu set_list)))
  (ab (bN (av bf (fv 2) (eF gN (fv 1) (cK ae) (cK ae))) (bR (fv 3) au (bS hu set_list)))
  (ab (bN (uf (eF gN (fv 0) (cK ae) (cK ae))) (bR (fv 3) au (bS hu set_list)))
  (ab (aE (i:=5) cU.nd rfl (Or.inl rfl) (av mJ (px hu (fv 3) au) ae))
  (ab (aE (i:=6) cU.nd rfl (Or.inl rfl) (ao (hj:=by omega) D_law_nodes hr (aa (fv 3) (aa ae (aa ae af)))))
  (ab (bN (ao (hj:=by omega) D_law_cost hr (aa (fv 6) (aa (px hu (fv 3) au) af))) (bR (px hu (fv 3) au) (px hu (fv 1) ae) (bS hu set_list)))
  (ab (bN (av bf (px hu (fv 3) au) ae) (bR (fv 3) au (bS hu set_list)))
  (ab (bN (cf (aa (cB (aa (px hu (fv 1) ae) (aa ae af))) (aa (cB (aa (px hu (fv 1) ae) (aa ae af))) af))) (bR (fv 3) au (bS hu set_list)))
  (ab (bN (fv 2) (bR (fv 3) au (bS hu set_list)))
  (ab (bN (cf (aa ae (aa ae af))) (bR (fv 3) au (bS hu set_list)))
  (ab (bN (uf (eF gN (fv 0) (cK ae) (cK ae))) (bR (fv 3) au (bS hu set_list)))
  (ab (aE (i:=7) cU.nd rfl (Or.inl rfl) (ao (hj:=by omega) D_law_nodes hr (aa (fv 3) (aa ae (aa ae af)))))
  (ag (az (cB (aa (fv 1) (aa (cf (aa (fv 4) (aa (fv 6) (aa (fv 7) af)))) (aa (fv 5) (aa (ao (hj:=by omega) D_law_cost hr (aa (fv 7) (aa (px hu (fv 3) au) af))) af))))))))))))))))))))))))))))),?_⟩
  refine ⟨_,rfl,by decide,by decide,k7 (J:=Itr 0 18) (n:=18) (x:=fun j=>.int (0 + j)) (fun j y _=>y=.str (E.N j)) (aR (by decide)) (fun _ _=>Nat.le_refl _) (fun _ _ h _=>h) (fun _ _ _ _ _ _ y=>y) (fun b j H1 G hj s1 kk=>?_) (fun _ _ _ _ _ h=>h) (fun _ _ _ _ _ _ _ h=>h) (fun ln H1 ys ln0 s1 eln ly hy=>?_)⟩
  ·exact ⟨a,ns,0,rfl,s1.seq hA,by decide,cellAt ns 0,j,(by rw [Int.zero_add];rfl),by omega,fun H2 s2=>kk _ _ s2 (by rw [Z.N])⟩
  rw [zr ly hy] at eln
  clear hy ly
  try dsimp only
  refine aF fun M1 K1=>?_
  refine ⟨_,rfl,_,rfl,Or.inl ⟨ln,_,rfl,SqL.of eln,fun p1 hp1=>?_⟩⟩
  rw [show iC (nmL E.N) (some 2) (some 5)=stV E [2,3,4] from rfl]
  obtain ⟨s2,e2⟩:=alc hp1 (HO.lst (stV E [2,3,4]))
  generalize upd H1 p1 _=H2 at s2 e2 ⊢
  refine ⟨_,rfl,_,rfl,Or.inl ⟨ln,_,rfl,SqL.of (s2 _ _ eln),fun p2 hp2=>?_⟩⟩
  rw [show iC (nmL E.N) (some 6) (some 9)=stV E [6,7,8] from rfl]
  obtain ⟨s3,e3⟩:=alc hp2 (HO.lst (stV E [6,7,8]))
  generalize upd H2 p2 _=H3 at s3 e3 ⊢
  refine ⟨p1,p2,_,_,rfl,rfl,s3 _ _ e2,e3,(show 6 <= sizeLine by decide),fun lth hth=>K1 _ _ ?_⟩
  rw [show stV E [2,3,4] ++ stV E [6,7,8]=stV E [2,3,4,6,7,8] from rfl]
  obtain ⟨s4,e4⟩:=alc hth (HO.lst (stV E [2,3,4,6,7,8]))
  generalize upd H3 lth _=H4 at s4 e4 ⊢
  have n4:H4 ln=some (.lst (nmL E.N)):=((s2.trans s3).trans s4) _ _ eln
  have t4:ah H H4:=s1.trans ((s2.trans s3).trans s4)
  clear s2 s3 s4 e2 e3 hp1 hp2 hth eln s1 ln0
  try dsimp only
  refine aF fun M2 K2=>?_
  refine fun S hS0=>?_
  obtain ⟨s5,e5⟩:=alc hS0 (HO.dK [])
  generalize upd H4 S _=H5 at s5 e5 ⊢
  refine ⟨_,rfl,_,rfl,Or.inl ⟨ln,_,rfl,SqL.of (s5 _ _ n4),fun lm hlm=>?_⟩⟩
  rw [show iC (nmL E.N) (some 10) (some 13)=stV E [10,11,12] from rfl]
  obtain ⟨s6,e6⟩:=alc hlm (HO.lst (stV E [10,11,12]))
  generalize upd H5 lm _=H6 at s6 e6 ⊢
  refine ⟨Nat.zero_le _,fun lo hlo=>?_⟩
  obtain ⟨s7,e7⟩:=alc hlo (HO.lst [])
  generalize upd H6 lo _=H7 at s7 e7 ⊢
  refine ⟨Nat.zero_le _,fun lk hlk=>?_⟩
  obtain ⟨s8,e8⟩:=alc hlk (HO.lst [])
  generalize upd H7 lk _=H8 at s8 e8 ⊢
  have s58:=(s6.trans s7).trans s8
  refine ⟨s58 _ _ e5,[((.inr "names":Key),.ref ln),(.inr "row",.int 15),(.inr "marks",.ref lm),(.inr "mosts",.ref lo),(.inr "known",.ref lk)],rfl,(show 5 <= 15 by decide),K2 _ _ ?_⟩
  rw [show cA [] [((.inr "names":Key),V.ref ln),(.inr "row",.int 15),(.inr "marks",.ref lm),(.inr "mosts",.ref lo),(.inr "known",.ref lk)]=st5 ln lm lo lk from rfl]
  have lm4:H4 lm=none:=ah.free s5 hlm
  have loS:lo ≠ S:=fresh_ne hlo (s6 _ _ e5)
  have lom:lo ≠ lm:=fresh_ne hlo e6
  have lkS:lk ≠ S:=fresh_ne hlk ((s6.trans s7) _ _ e5)
  have lkm:lk ≠ lm:=fresh_ne hlk (s7 _ _ e6)
  have lmS:lm ≠ S:=fresh_ne hlm e5
  have s48:=s5.trans s58
  have F9:Fx E H (del [S,lm] (upd H8 S (.dK (st5 ln lm lo lk)))) ln lth:=by
   have zz:ah H4 (del [S,lm] (upd H8 S (.dK (st5 ln lm lo lk)))):=fun x o e=>by
    have xS:x ≠ S:=fun z=>by rw [z,hS0] at e;cases e
    have xm:x ≠ lm:=fun z=>by rw [z,lm4] at e;cases e
    exact ba (yP xS xm) (aj xS (s48 _ _ e))
   exact ⟨t4.trans zz,zz _ _ n4,zz _ _ e4⟩
  have o9:del [S,lm] (upd H8 S (.dK (st5 ln lm lo lk))) lo=some (.lst []):=ba (yP loS lom) (aj loS (s8 _ _ e7))
  have k9:del [S,lm] (upd H8 S (.dK (st5 ln lm lo lk))) lk=some (.lst []):=ba (yP lkS lkm) (aj lkS e8)
  have S9:(upd H8 S (.dK (st5 ln lm lo lk))) S=some (.dK (st5 ln lm lo lk)):=ar
  have m9:(upd H8 S (.dK (st5 ln lm lo lk))) lm=some (.lst (stV E [10,11,12])):=aj lmS ((s7.trans s8) _ _ e6)
  have hS1:H S=none:=ah.free t4 hS0
  have hm1:H lm=none:=ah.free t4 lm4
  generalize upd H8 S (.dK (st5 ln lm lo lk))=H9 at F9 o9 k9 S9 m9 ⊢
  clear s48 s58 s8 s7 s6 s5 e5 e6 e7 e8 hlo hlk hlm hS0 n4 e4 t4 lm4 loS lom lkS lkm
  try dsimp only
  refine aF fun M3 K3=>?_
  refine ⟨_,rfl,_,rfl,Or.inl ⟨ln,_,rfl,SqL.of (aw _ _ F9.hn),fun p3 hp3=>?_⟩⟩
  rw [show iC (nmL E.N) (some 14) (some 15)=stV E [14] from rfl]
  obtain ⟨s10,e10⟩:=alc hp3 (HO.lst (stV E [14]))
  generalize upd H9 p3 _=H10 at s10 e10 ⊢
  refine ⟨lth,p3,_,_,rfl,rfl,s10 _ _ (aw _ _ F9.ht),e10,(show 7 <= sizeLine by decide),fun lt hlt=>?_⟩
  rw [show stV E [2,3,4,6,7,8] ++ stV E [14]=stV E [2,3,4,6,7,8,14] from rfl]
  obtain ⟨s11,e11⟩:=alc hlt (HO.lst (stV E [2,3,4,6,7,8,14]))
  generalize upd H10 lt _=H11 at s11 e11 ⊢
  have s911:=s10.trans s11
  refine ⟨_,du.k (k:=.inr "things") (s911 _ _ S9) (show 5 < sizeLine by decide),K3 _ _ ?_⟩
  rw [show putK (st5 ln lm lo lk) (.inr "things") (.ref lt)=st5 ln lm lo lk ++ [(.inr "things",.ref lt)] from rfl]
  have ltS:lt ≠ S:=fresh_ne hlt (s10 _ _ S9)
  have ltm:lt ≠ lm:=fresh_ne hlt (s10 _ _ m9)
  have z12:ah (del [S,lm] H9) (del [S,lm] (upd H11 S (.dK (st5 ln lm lo lk ++ [(.inr "things",.ref lt)])))):=(zN s911 _).trans (Go.at List.mem_cons_self _).same
  have t12:del [S,lm] (upd H11 S (.dK (st5 ln lm lo lk ++ [(.inr "things",.ref lt)]))) lt=some (.lst (stV E [2,3,4,6,7,8,14])):=ba (yP ltS ltm) (aj ltS e11)
  have S12:(upd H11 S (.dK (st5 ln lm lo lk ++ [(.inr "things",.ref lt)]))) S=some (.dK (st5 ln lm lo lk ++ [(.inr "things",.ref lt)])):=ar
  have m12:(upd H11 S (.dK (st5 ln lm lo lk ++ [(.inr "things",.ref lt)]))) lm=some (.lst (stV E [10,11,12])):=aj lmS (s911 _ _ m9)
  have F12:=F9.same z12
  have o12:=z12 _ _ o9
  have k12:=z12 _ _ k9
  generalize upd H11 S (.dK (st5 ln lm lo lk ++ [(.inr "things",.ref lt)]))=H12 at F12 o12 k12 t12 S12 m12 ⊢
  clear z12 s911 s10 s11 e10 e11 hp3 hlt F9 o9 k9 S9 m9 ltS ltm
  try dsimp only
  obtain ⟨ev,hev⟩:∃ev:Int,ev=cellAt ns 0 / 4 % 2:=⟨_,rfl⟩
  refine aF fun M4 K4=>?_
  refine ⟨a,ns,0,rfl,(F12.z.trans aw).seq hA,by decide,⟨by decide,by decide⟩,(by show (0:Int) < 2;decide),upd H12 S (.dK (st5 ln lm lo lk ++ [(.inr "things",.ref lt),(.inr "even",.int ev)])),(by rw [hev];exact du.k (k:=.inr "even") S12 (show 6 < sizeLine by decide)),K4 _ _ ?_⟩
  have z13:ah (del [S,lm] H12) (del [S,lm] (upd H12 S (.dK (st5 ln lm lo lk ++ [(.inr "things",.ref lt),(.inr "even",.int ev)])))):=(Go.at List.mem_cons_self _).same
  have S13:(upd H12 S (.dK (st5 ln lm lo lk ++ [(.inr "things",.ref lt),(.inr "even",.int ev)]))) S=some (.dK (st5 ln lm lo lk ++ [(.inr "things",.ref lt),(.inr "even",.int ev)])):=ar
  have m13:(upd H12 S (.dK (st5 ln lm lo lk ++ [(.inr "things",.ref lt),(.inr "even",.int ev)]))) lm=some (.lst (stV E [10,11,12])):=aj lmS m12
  have F13:=F12.same z13
  have o13:=z13 _ _ o12
  have k13:=z13 _ _ k12
  have t13:=z13 _ _ t12
  generalize upd H12 S (.dK (st5 ln lm lo lk ++ [(.inr "things",.ref lt),(.inr "even",.int ev)]))=H13 at F13 o13 k13 t13 S13 m13 ⊢
  clear z13 F12 o12 k12 t12 S12 m12
  try dsimp only
  refine aF fun M5 K5=>?_
  refine fun lc hlc=>?_
  obtain ⟨s14,e14⟩:=alc hlc (HO.dK [])
  generalize upd H13 lc _=H14 at s14 e14 ⊢
  refine ⟨_,du.k (k:=.inr "costs") (s14 _ _ S13) (show 7 < sizeLine by decide),K5 _ _ ?_⟩
  rw [show putK (st5 ln lm lo lk ++ [(.inr "things",.ref lt),(.inr "even",.int ev)]) (.inr "costs") (.ref lc)=st5 ln lm lo lk ++ [(.inr "things",.ref lt),(.inr "even",.int ev),(.inr "costs",.ref lc)] from rfl]
  have lcS:lc ≠ S:=fresh_ne hlc S13
  have b15:Bk (upd H14 S (.dK (st5 ln lm lo lk ++ [(.inr "things",.ref lt),(.inr "even",.int ev),(.inr "costs",.ref lc)]))) S lm lc (st5 ln lm lo lk ++ [(.inr "things",.ref lt),(.inr "even",.int ev),(.inr "costs",.ref lc)]) (stV E [10,11,12]) []:=⟨ar,aj lmS (s14 _ _ m13),aj lcS e14,lcS.symm⟩
  have z15:ah (del [S,lm] H13) (del [S,lm,lc] (upd H14 S (.dK (st5 ln lm lo lk ++ [(.inr "things",.ref lt),(.inr "even",.int ev),(.inr "costs",.ref lc)])))):=fun x o e=>by
   obtain ⟨h1,h2⟩:=dE e
   have xS:x ≠ S:=fun z=>h1 (by rw [z];simp)
   have xm:x ≠ lm:=fun z=>h1 (by rw [z];simp)
   exact ba (Dg xS xm (fun z=>by rw [z,hlc] at h2;cases h2)) (aj xS (s14 _ _ h2))
  have F15:=F13.same z15
  have o15:=z15 _ _ o13
  have k15:=z15 _ _ k13
  have t15:=z15 _ _ t13
  have hc1:H lc=none:=ah.free (F13.z.trans aw) hlc
  generalize upd H14 S (.dK (st5 ln lm lo lk ++ [(.inr "things",.ref lt),(.inr "even",.int ev),(.inr "costs",.ref lc)]))=H15 at F15 o15 k15 t15 b15 ⊢
  clear z15 s14 e14 F13 o13 k13 t13 S13 m13 hlc lcS lmS
  try dsimp only
  refine aF fun M6 K6=>?_
  refine ⟨_,rfl,_,rfl,Or.inl ⟨a,_,rfl,(F15.z.trans aw).seq hA,fun p4 hp4=>?_⟩⟩
  obtain ⟨s16,e16⟩:=alc hp4 (HO.lst (iC (ns.map V.int) (some 3) (some 6)))
  generalize upd H15 p4 _=H16 at s16 e16 ⊢
  refine ⟨p4,_,rfl,SqL.of e16,fun ll hll=>?_⟩
  rw [show (iC (ns.map V.int) (some 3) (some 6)).reverse=(eO ns 3 6).map V.int from ua ns 3 6]
  obtain ⟨s17,e17⟩:=alc hll (HO.lst ((eO ns 3 6).map V.int))
  generalize upd H16 ll _=H17 at s17 e17 ⊢
  have l15:H15 ll=none:=ah.free s16 hll
  have b17:=b15.same (s16.trans s17)
  refine ⟨_,du.k (k:=.inr "cells") b17.hS (show 8 < sizeLine by decide),K6 _ _ ?_⟩
  rw [show putK (st5 ln lm lo lk ++ [(.inr "things",.ref lt),(.inr "even",.int ev),(.inr "costs",.ref lc)]) (.inr "cells") (.ref ll)=st9 ln 15 lm lo lk lt ev lc ll from rfl]
  have b18:=b17.atS (st9 ln 15 lm lo lk lt ev lc ll)
  have z18:=(zN (s16.trans s17) [S,lm,lc]).trans (b17.zS (.dK (st9 ln 15 lm lo lk lt ev lc ll)))
  have llS:S ≠ ll:=fun z=>by have:=b17.hS;rw [z,e17] at this;cases this
  have llm:lm ≠ ll:=(fresh_ne hll (s16 _ _ b15.hm)).symm
  have e18:(upd H17 S (.dK (st9 ln 15 lm lo lk lt ev lc ll))) ll=some (.lst ((eO ns 3 6).map V.int)):=aj llS.symm e17
  generalize upd H17 S (.dK (st9 ln 15 lm lo lk lt ev lc ll))=H18 at b18 z18 e18 ⊢
  clear s16 s17 e16 e17 hp4 hll b17
  try dsimp only
  have cs0:mW E (moL []) (exL []) (del [S,lm,lc] H15) 0 []:=⟨fun _=>.non,rfl,fun i h=>absurd h (Nat.not_lt_zero _)⟩
  have O1:lH E ⟨S,ln,lm,lo,lk,lt,lc,ll,[],0,[2,3,4,6,7,8,14],ev⟩:=Z.la' b18.n1 llS llm (by decide) (by decide) (by decide) (by decide) (by decide)
  have L1:cZ E (moL []) (exL []) H18 ⟨S,ln,lm,lo,lk,lt,lc,ll,[],0,[2,3,4,6,7,8,14],ev⟩ ⟨15,[10,11,12],eO ns 3 6⟩:=xn (kv2:=[]) b18 z18 l15 e18 (ln:=ln) F15 o15 k15 .nil t15 cs0
  have W1:Wts ⟨S,ln,lm,lo,lk,lt,lc,ll,[],0,[2,3,4,6,7,8,14],ev⟩ (moL []) (fun _=>4):=⟨fun _=>by decide,fun i h=>absurd h (Nat.not_lt_zero _),fun k m h=>by cases h⟩
  have q1:=nz ns (i:=3) (j:=6) (by decide)
  refine aF fun M7 K7=>?_
  refine ⟨⟨E,moL [],exL [],0,fun _=>4⟩,co0 D,⟨S,ln,lm,lo,lk,lt,lc,ll,[],0,[2,3,4,6,7,8,14],ev⟩,⟨15,[10,11,12],eO ns 3 6⟩,0,0,rfl,rfl,O1,L1,rfl,W1,(by show (eO ns 3 6).length <= 100;omega),fun B1 r1 y1 H19 g19 L19 bd1 n1 c1=>K7 _ _ ?_⟩
  obtain ⟨b19,z19,w19⟩:=uk (y:=⟨15,[10,11,12],eO ns 3 6⟩) b18 z18 l15 e18 g19 L19
  have b19:Bk H19 S lm lc (st9 ln y1.row lm lo lk lt ev lc ll) (stV E y1.marks) []:=b19
  have z19:ah (del [S,lm,lc] H15) (del [S,lm,lc] H19):=z19
  have bd1:cJ E 0 4 (del [S,lm,lc] H19) B1 r1:=bd1.same w19
  have n1:r1.length <= 100:=by have n1:r1.length + y1.cells.length <= (eO ns 3 6).length:=n1;omega
  have c1:c1D r1 <= 12:=by have c1:ee (moL []) 4 r1 + 4 * (y1.cells.length:Int) <= 4 * ((eO ns 3 6).length:Int):=c1;unfold c1D;omega
  have c10:0 <= c1D r1:=kT (kn:=0) (E:=E) (fun i h=>absurd h (Nat.not_lt_zero _)) bd1.choose_spec.2.2
  have F19:=F15.same z19
  have o19:=z19 _ _ o15
  have cs19:=cs0.same z19
  clear L1 O1 W1 g19 L19 w19 b18 z18 e18 l15 b15 llS llm F15 o15 k15 t15 cs0 q1 z19
  try dsimp only
  refine aF fun M8 K8=>?_
  obtain ⟨xs1,a1,a2,a3⟩:=bd1.same aw
  refine ⟨_,cj.k (k:=.inr "costs") b19.hS,⟨E,moL [],exL [],0,fun _=>4⟩,co0 D,B1,lc,xs1,r1,rfl,a1,a2,a3,cs19.co aw b19.hc,fun t1 H20 s20 t10 et1=>?_⟩
  have b20:=b19.same s20
  have z20:=zN s20 [S,lm,lc]
  have F20:=F19.same z20
  have o20:=z20 _ _ o19
  have et:del [S,lm,lc] H20 t1=some (.tup [.int (c1D r1),eV (x1D r1)]):=b19.dl t10 et1
  refine ⟨_,cj.k (k:=.inr "costs") b20.hS,Or.inl ⟨_,_,Or.inl (SqL.of (aw _ _ F20.hn)),dj E.N (i:=13) (by decide),_,du.k (k:=.inr (E.N 13)) b20.hc (show 0 < sizeLine by decide),K8 _ _ ?_⟩⟩
  have cs21:mW E (moL [c1D r1]) (exL [x1D r1]) (del [S,lm,lc] H20) 1 (putK [] (.inr (E.N 13)) (.ref t1)):=(cs19.same z20).put D (by decide) et (fun i h=>absurd h (Nat.not_lt_zero _)) ⟨rfl,rfl⟩
  have b21:=b20.atC (putK [] (.inr (E.N 13)) (.ref t1))
  have z21:=b20.zC (.dK (putK [] (.inr (E.N 13)) (.ref t1)))
  have F21:=F20.same z21
  have o21:=z21 _ _ o20
  have bd21:=bd1.same (z20.trans z21)
  have cs21:=cs21.same z21
  generalize upd H20 lc (.dK (putK [] (.inr (E.N 13)) (.ref t1)))=H21 at b21 F21 bd21 cs21 o21 ⊢
  have lcs:(putK ([]:List (Key × V)) (.inr (E.N 13)) (.ref t1)).length=1:=rfl
  generalize putK ([]:List (Key × V)) (.inr (E.N 13)) (.ref t1)=cv1 at b21 cs21 lcs
  clear s20 z20 F20 et z21 b20 b19 F19 cs19 bd1 a1 a2 a3 t10 et1 hS1 hm1 hc1
  try dsimp only
  refine aF fun M9 K9=>?_
  refine ⟨_,cj.k (k:=.inr "row") b21.hS,_,du.k (k:=.inr "row") b21.hS (show 9 < sizeLine by decide),K9 _ _ ?_⟩
  rw [show putK (st9 ln y1.row lm lo lk lt ev lc ll) (.inr "row") (.int (y1.row + 2))=st9 ln (y1.row + 2) lm lo lk lt ev lc ll from rfl]
  generalize y1.row + 2=row1
  have b22:=b21.atS (st9 ln row1 lm lo lk lt ev lc ll)
  have z22:=b21.zS (.dK (st9 ln row1 lm lo lk lt ev lc ll))
  have F22:=F21.same z22
  have o22:=z22 _ _ o21
  have bd22:=bd21.same z22
  have cs22:=cs21.same z22
  generalize upd H21 S (.dK (st9 ln row1 lm lo lk lt ev lc ll))=H22 at b22 F22 bd22 cs22 o22 ⊢
  clear b21 z22 F21 bd21 cs21
  try dsimp only
  refine aF fun M10 K10=>?_
  refine Or.inl ⟨_,_,Or.inl (SqL.of (aw _ _ F22.hn)),dj E.N (i:=13) (by decide),by show 2 <= sizeLine;decide,fun k1 hk1=>?_⟩
  obtain ⟨s23,e23⟩:=alc hk1 (HO.tup [V.str (E.N 13),.int 1])
  generalize upd H22 k1 _=H23 at s23 e23 ⊢
  refine ⟨by show 1 <= sizeLine;decide,fun lk1 hlk1=>?_⟩
  obtain ⟨s24,e24⟩:=alc hlk1 (HO.lst [V.ref k1])
  generalize upd H23 lk1 _=H24 at s24 e24 ⊢
  have b24:=b22.same (s23.trans s24)
  refine ⟨_,du.k (k:=.inr "known") b24.hS (show 9 < sizeLine by decide),K10 _ _ ?_⟩
  rw [show putK (st9 ln row1 lm lo lk lt ev lc ll) (.inr "known") (.ref lk1)=st9 ln row1 lm lo lk1 lt ev lc ll from rfl]
  have b25:=b24.atS (st9 ln row1 lm lo lk1 lt ev lc ll)
  have zb:=b24.zS (.dK (st9 ln row1 lm lo lk1 lt ev lc ll))
  have z25:=(zN (s23.trans s24) [S,lm,lc]).trans zb
  have F25:=F22.same z25
  have o25:=z25 _ _ o22
  have bd25:=bd22.same z25
  have cs25:=cs22.same z25
  have ek25:=zb _ _ ((b22.same s23).dl hlk1 e24)
  have et25:=zb _ _ ((zN s24 [S,lm,lc]) _ _ (b22.dl hk1 e23))
  generalize upd H24 S (.dK (st9 ln row1 lm lo lk1 lt ev lc ll))=H25 at b25 F25 bd25 cs25 ek25 et25 o25 ⊢
  clear b22 zb z25 F22 bd22 cs22 s23 s24 e23 e24 b24 hk1 hlk1
  try dsimp only
  refine aF fun M11 K11=>?_
  refine ⟨_,rfl,_,rfl,Or.inl ⟨ln,_,rfl,SqL.of (aw _ _ F25.hn),fun p5 hp5=>?_⟩⟩
  rw [show iC (nmL E.N) (some 16) (some 18)=stV E [16,17] from rfl]
  obtain ⟨s26,e26⟩:=alc hp5 (HO.lst (stV E [16,17]))
  generalize upd H25 p5 _=H26 at s26 e26 ⊢
  refine ⟨lth,p5,_,_,rfl,rfl,s26 _ _ (aw _ _ F25.ht),e26,(show 8 <= sizeLine by decide),fun lt1 hlt1=>?_⟩
  rw [show stV E [2,3,4,6,7,8] ++ stV E [16,17]=stV E [2,3,4,6,7,8,16,17] from rfl]
  obtain ⟨s27,e27⟩:=alc hlt1 (HO.lst (stV E [2,3,4,6,7,8,16,17]))
  generalize upd H26 lt1 _=H27 at s27 e27 ⊢
  have b27:=b25.same (s26.trans s27)
  refine ⟨_,du.k (k:=.inr "things") b27.hS (show 9 < sizeLine by decide),K11 _ _ ?_⟩
  rw [show putK (st9 ln row1 lm lo lk1 lt ev lc ll) (.inr "things") (.ref lt1)=st9 ln row1 lm lo lk1 lt1 ev lc ll from rfl]
  have b28:=b27.atS (st9 ln row1 lm lo lk1 lt1 ev lc ll)
  have zb:=b27.zS (.dK (st9 ln row1 lm lo lk1 lt1 ev lc ll))
  have z28:=(zN (s26.trans s27) [S,lm,lc]).trans zb
  have F28:=F25.same z28
  have bd28:=bd25.same z28
  have cs28:=cs25.same z28
  have ek28:=z28 _ _ ek25
  have et28:=z28 _ _ et25
  have o28:=z28 _ _ o25
  have lt28:=zb _ _ ((b25.same s26).dl hlt1 e27)
  generalize upd H27 S (.dK (st9 ln row1 lm lo lk1 lt1 ev lc ll))=H28 at b28 F28 bd28 cs28 ek28 et28 o28 lt28 ⊢
  clear b25 b27 zb z28 F25 bd25 cs25 ek25 et25 o25 s26 s27 e26 e27 hp5 hlt1
  try dsimp only
  refine aF fun M12 K12=>?_
  refine ⟨_,rfl,_,rfl,Or.inl ⟨a,_,rfl,(F28.z.trans aw).seq hA,fun p6 hp6=>?_⟩⟩
  obtain ⟨s29,e29⟩:=alc hp6 (HO.lst (iC (ns.map V.int) (some 6) (some 9)))
  generalize upd H28 p6 _=H29 at s29 e29 ⊢
  refine ⟨p6,_,rfl,SqL.of e29,fun ll1 hll1=>?_⟩
  rw [show (iC (ns.map V.int) (some 6) (some 9)).reverse=(eO ns 6 9).map V.int from ua ns 6 9]
  obtain ⟨s30,e30⟩:=alc hll1 (HO.lst ((eO ns 6 9).map V.int))
  generalize upd H29 ll1 _=H30 at s30 e30 ⊢
  have l28:H28 ll1=none:=ah.free s29 hll1
  have b30:=b28.same (s29.trans s30)
  refine ⟨_,du.k (k:=.inr "cells") b30.hS (show 9 < sizeLine by decide),K12 _ _ ?_⟩
  rw [show putK (st9 ln row1 lm lo lk1 lt1 ev lc ll) (.inr "cells") (.ref ll1)=st9 ln row1 lm lo lk1 lt1 ev lc ll1 from rfl]
  have b31:=b30.atS (st9 ln row1 lm lo lk1 lt1 ev lc ll1)
  have z31:=(zN (s29.trans s30) [S,lm,lc]).trans (b30.zS (.dK (st9 ln row1 lm lo lk1 lt1 ev lc ll1)))
  have llS:S ≠ ll1:=fun z=>by have:=b30.hS;rw [z,e30] at this;cases this
  have llm:lm ≠ ll1:=(fresh_ne hll1 (s29 _ _ b28.hm)).symm
  have e31:(upd H30 S (.dK (st9 ln row1 lm lo lk1 lt1 ev lc ll1))) ll1=some (.lst ((eO ns 6 9).map V.int)):=aj llS.symm e30
  generalize upd H30 S (.dK (st9 ln row1 lm lo lk1 lt1 ev lc ll1))=H31 at b31 z31 e31 ⊢
  clear s29 s30 e29 e30 hp6 hll1 b30
  try dsimp only
  refine aF fun M13 K13=>?_
  refine ⟨_,cj.k (k:=.inr "row") b31.hS,K13 _ _ ?_⟩
  try dsimp only
  have C1:kP E (moL [c1D r1]) (exL [x1D r1]) 1:=co1 D fun y e=>qz (co0 D) y e
  have O2:lH E ⟨S,ln,lm,lo,lk1,lt1,lc,ll1,[],1,[2,3,4,6,7,8,16,17],ev⟩:=Z.la' b31.n1 llS llm (by decide) (by decide) (by decide) (by decide) (by decide)
  have L2:cZ E (moL [c1D r1]) (exL [x1D r1]) H31 ⟨S,ln,lm,lo,lk1,lt1,lc,ll1,[],1,[2,3,4,6,7,8,16,17],ev⟩ ⟨row1,y1.marks,eO ns 6 9⟩:=xn (kv2:=[.ref k1]) b31 z31 l28 e31 (ln:=ln) F28 o28 ek28 (.cons ⟨k1,rfl,et28⟩ .nil) lt28 cs28
  have W2:Wts ⟨S,ln,lm,lo,lk1,lt1,lc,ll1,[],1,[2,3,4,6,7,8,16,17],ev⟩ (moL [c1D r1]) (fun _=>13):=⟨fun _=>by decide,fun i h=>by
   have h:i < 1:=h
   have:i=0:=by omega
   subst this
   exact ⟨c10,fun _=>by show 1 + c1D r1 <= 13;omega⟩,fun k m h=>by cases h⟩
  have q2:=nz ns (i:=6) (j:=9) (by decide)
  refine aF fun M14 K14=>?_
  refine ⟨⟨E,moL [c1D r1],exL [x1D r1],1,fun _=>13⟩,C1,⟨S,ln,lm,lo,lk1,lt1,lc,ll1,[],1,[2,3,4,6,7,8,16,17],ev⟩,⟨row1,y1.marks,eO ns 6 9⟩,0,0,rfl,rfl,O2,L2,rfl,W2,(by show (eO ns 6 9).length <= 100;omega),fun B2 r2 y2 H32 g32 L32 bd2 n2 c2=>K14 _ _ ?_⟩
  obtain ⟨b32,z32,w32⟩:=uk (y:=⟨row1,y1.marks,eO ns 6 9⟩) b31 z31 l28 e31 g32 L32
  have b32:Bk H32 S lm lc (st9 ln y2.row lm lo lk1 lt1 ev lc ll1) (stV E y2.marks) cv1:=b32
  have z32:ah (del [S,lm,lc] H28) (del [S,lm,lc] H32):=z32
  have bd2:cJ E 1 4 (del [S,lm,lc] H32) B2 r2:=bd2.same w32
  have n2:r2.length <= 100:=by have n2:r2.length + y2.cells.length <= (eO ns 6 9).length:=n2;omega
  have c2:c2D r1 r2 <= 39:=by have c2:ee (moL [c1D r1]) 4 r2 + 13 * (y2.cells.length:Int) <= 13 * ((eO ns 6 9).length:Int):=c2;unfold c2D;omega
  have c20:0 <= c2D r1 r2:=kT (kn:=1) (E:=E) (fun i h=>by
   have:i=0:=by omega
   subst this
   exact c10) bd2.choose_spec.2.2
  have F32:=F28.same z32
  have cs32:=cs28.same z32
  have bd32:=bd28.same z32
  clear L2 O2 W2 g32 L32 w32 b31 z31 e31 l28 b28 llS llm F28 o28 ek28 et28 lt28 cs28 bd28 q2 z32
  try dsimp only
  refine aF fun M15 K15=>?_
  obtain ⟨xs1,a1,a2,a3⟩:=bd2.same aw
  refine ⟨_,cj.k (k:=.inr "costs") b32.hS,⟨E,moL [c1D r1],exL [x1D r1],1,fun _=>13⟩,C1,B2,lc,xs1,r2,rfl,a1,a2,a3,cs32.co aw b32.hc,fun t2 H33 s33 t20 et2=>?_⟩
  have b33:=b32.same s33
  have z33:=zN s33 [S,lm,lc]
  have F33:=F32.same z33
  have et:del [S,lm,lc] H33 t2=some (.tup [.int (c2D r1 r2),eV (x2D r1 r2)]):=b32.dl t20 et2
  refine ⟨_,cj.k (k:=.inr "costs") b33.hS,Or.inl ⟨_,_,Or.inl (SqL.of (aw _ _ F33.hn)),dj E.N (i:=15) (by decide),_,du.k (k:=.inr (E.N 15)) b33.hc (by rw [lcs];decide),K15 _ _ ?_⟩⟩
  have cs34:mW E (mo2 r1 r2) (ex2 r1 r2) (del [S,lm,lc] H33) 2 (putK cv1 (.inr (E.N 15)) (.ref t2)):=(cs32.same z33).put D (by decide) et (fun i h=>by
   have:i=0:=by omega
   subst this
   exact ⟨rfl,rfl⟩) ⟨rfl,rfl⟩
  have b34:=b33.atC (putK cv1 (.inr (E.N 15)) (.ref t2))
  have z34:=b33.zC (.dK (putK cv1 (.inr (E.N 15)) (.ref t2)))
  have F34:=F33.same z34
  have bd134:=bd32.same (z33.trans z34)
  have bd234:=bd2.same (z33.trans z34)
  have cs34:=cs34.same z34
  generalize upd H33 lc (.dK (putK cv1 (.inr (E.N 15)) (.ref t2)))=H34 at b34 F34 bd134 bd234 cs34 ⊢
  generalize putK cv1 (.inr (E.N 15)) (.ref t2)=cv2 at b34 cs34
  clear s33 z33 F33 et z34 b33 b32 F32 cs32 bd2 bd32 a1 a2 a3 t20 et2 lcs
  try dsimp only
  refine aF fun M16 K16=>?_
  refine ⟨_,cj.k (k:=.inr "row") b34.hS,_,du.k (k:=.inr "row") b34.hS (show 9 < sizeLine by decide),K16 _ _ ?_⟩
  rw [show putK (st9 ln y2.row lm lo lk1 lt1 ev lc ll1) (.inr "row") (.int (y2.row + 2))=st9 ln (y2.row + 2) lm lo lk1 lt1 ev lc ll1 from rfl]
  generalize y2.row + 2=row2
  have b35:=b34.atS (st9 ln row2 lm lo lk1 lt1 ev lc ll1)
  have z35:=b34.zS (.dK (st9 ln row2 lm lo lk1 lt1 ev lc ll1))
  have F35:=F34.same z35
  have bd135:=bd134.same z35
  have bd235:=bd234.same z35
  have cs35:=cs34.same z35
  generalize upd H34 S (.dK (st9 ln row2 lm lo lk1 lt1 ev lc ll1))=H35 at b35 F35 bd135 bd235 cs35 ⊢
  clear b34 z35 F34 bd134 bd234 cs34
  try dsimp only
  refine aF fun M17 K17=>?_
  refine Or.inl ⟨_,_,Or.inl (SqL.of (aw _ _ F35.hn)),dj E.N (i:=13) (by decide),by show 2 <= sizeLine;decide,fun k2 hk2=>?_⟩
  obtain ⟨s36,e36⟩:=alc hk2 (HO.tup [V.str (E.N 13),.int 1])
  generalize upd H35 k2 _=H36 at s36 e36 ⊢
  refine Or.inl ⟨_,_,Or.inl (SqL.of (s36 _ _ (aw _ _ F35.hn))),dj E.N (i:=15) (by decide),by show 2 <= sizeLine;decide,fun k3 hk3=>?_⟩
  obtain ⟨s37,e37⟩:=alc hk3 (HO.tup [V.str (E.N 15),.int 2])
  generalize upd H36 k3 _=H37 at s37 e37 ⊢
  refine ⟨by show 2 <= sizeLine;decide,fun lk2 hlk2=>?_⟩
  obtain ⟨s38,e38⟩:=alc hlk2 (HO.lst [V.ref k2,.ref k3])
  generalize upd H37 lk2 _=H38 at s38 e38 ⊢
  have b38:=b35.same ((s36.trans s37).trans s38)
  refine ⟨_,du.k (k:=.inr "known") b38.hS (show 9 < sizeLine by decide),K17 _ _ ?_⟩
  rw [show putK (st9 ln row2 lm lo lk1 lt1 ev lc ll1) (.inr "known") (.ref lk2)=st9 ln row2 lm lo lk2 lt1 ev lc ll1 from rfl]
  have b39:=b38.atS (st9 ln row2 lm lo lk2 lt1 ev lc ll1)
  have zb:=b38.zS (.dK (st9 ln row2 lm lo lk2 lt1 ev lc ll1))
  have z39:=(zN ((s36.trans s37).trans s38) [S,lm,lc]).trans zb
  have F39:=F35.same z39
  have bd139:=bd135.same z39
  have bd239:=bd235.same z39
  have cs39:=cs35.same z39
  have ek39:=zb _ _ ((b35.same (s36.trans s37)).dl hlk2 e38)
  have eu39:=zb _ _ ((zN (s37.trans s38) [S,lm,lc]) _ _ (b35.dl hk2 e36))
  have ev39:=zb _ _ ((zN s38 [S,lm,lc]) _ _ ((b35.same s36).dl hk3 e37))
  generalize upd H38 S (.dK (st9 ln row2 lm lo lk2 lt1 ev lc ll1))=H39 at b39 F39 bd139 bd239 cs39 ek39 eu39 ev39 ⊢
  clear b35 zb z39 F35 bd135 bd235 cs35 s36 s37 s38 e36 e37 e38 b38 hk2 hk3 hlk2
  try dsimp only
  refine aF fun M18 K18=>?_
  refine ⟨_,du.k (k:=.inr "things") b39.hS (show 9 < sizeLine by decide),K18 _ _ ?_⟩
  rw [show putK (st9 ln row2 lm lo lk2 lt1 ev lc ll1) (.inr "things") (.ref lth)=st9 ln row2 lm lo lk2 lth ev lc ll1 from rfl]
  have b40:=b39.atS (st9 ln row2 lm lo lk2 lth ev lc ll1)
  have z40:=b39.zS (.dK (st9 ln row2 lm lo lk2 lth ev lc ll1))
  have F40:=F39.same z40
  have bd140:=bd139.same z40
  have bd240:=bd239.same z40
  have cs40:=cs39.same z40
  have ek40:=z40 _ _ ek39
  have eu40:=z40 _ _ eu39
  have ev40:=z40 _ _ ev39
  generalize upd H39 S (.dK (st9 ln row2 lm lo lk2 lth ev lc ll1))=H40 at b40 F40 bd140 bd240 cs40 ek40 eu40 ev40 ⊢
  clear b39 z40 F39 bd139 bd239 cs39 ek39 eu39 ev39
  try dsimp only
  refine aF fun M19 K19=>?_
  refine ⟨by show 2 <= sizeLine;decide,fun lo2 hlo2=>?_⟩
  obtain ⟨s41,e41⟩:=alc hlo2 (HO.lst [V.int 4,.int 3])
  generalize upd H40 lo2 _=H41 at s41 e41 ⊢
  have b41:=b40.same s41
  refine ⟨_,du.k (k:=.inr "mosts") b41.hS (show 9 < sizeLine by decide),K19 _ _ ?_⟩
  rw [show putK (st9 ln row2 lm lo lk2 lth ev lc ll1) (.inr "mosts") (.ref lo2)=st9 ln row2 lm lo2 lk2 lth ev lc ll1 from rfl]
  have b42:=b41.atS (st9 ln row2 lm lo2 lk2 lth ev lc ll1)
  have zb:=b41.zS (.dK (st9 ln row2 lm lo2 lk2 lth ev lc ll1))
  have z42:=(zN s41 [S,lm,lc]).trans zb
  have F42:=F40.same z42
  have bd142:=bd140.same z42
  have bd242:=bd240.same z42
  have cs42:=cs40.same z42
  have ek42:=z42 _ _ ek40
  have eu42:=z42 _ _ eu40
  have ev42:=z42 _ _ ev40
  have o42:=zb _ _ (b40.dl hlo2 e41)
  generalize upd H41 S (.dK (st9 ln row2 lm lo2 lk2 lth ev lc ll1))=H42 at b42 F42 bd142 bd242 cs42 ek42 eu42 ev42 o42 ⊢
  clear b40 b41 zb z42 F40 bd140 bd240 cs40 ek40 eu40 ev40 s41 e41 hlo2
  try dsimp only
  refine aF fun M20 K20=>?_
  refine ⟨_,rfl,_,rfl,Or.inl ⟨a,_,rfl,(F42.z.trans aw).seq hA,fun p7 hp7=>?_⟩⟩
  obtain ⟨s43,e43⟩:=alc hp7 (HO.lst (iC (ns.map V.int) (some 9) (some 45)))
  generalize upd H42 p7 _=H43 at s43 e43 ⊢
  refine ⟨p7,_,rfl,SqL.of e43,fun ll2 hll2=>?_⟩
  rw [show (iC (ns.map V.int) (some 9) (some 45)).reverse=(eO ns 9 45).map V.int from ua ns 9 45]
  obtain ⟨s44,e44⟩:=alc hll2 (HO.lst ((eO ns 9 45).map V.int))
  generalize upd H43 ll2 _=H44 at s44 e44 ⊢
  have l42:H42 ll2=none:=ah.free s43 hll2
  have b44:=b42.same (s43.trans s44)
  refine ⟨_,du.k (k:=.inr "cells") b44.hS (show 9 < sizeLine by decide),K20 _ _ ?_⟩
  rw [show putK (st9 ln row2 lm lo2 lk2 lth ev lc ll1) (.inr "cells") (.ref ll2)=st9 ln row2 lm lo2 lk2 lth ev lc ll2 from rfl]
  have b45:=b44.atS (st9 ln row2 lm lo2 lk2 lth ev lc ll2)
  have z45:=(zN (s43.trans s44) [S,lm,lc]).trans (b44.zS (.dK (st9 ln row2 lm lo2 lk2 lth ev lc ll2)))
  have llS:S ≠ ll2:=fun z=>by have:=b44.hS;rw [z,e44] at this;cases this
  have llm:lm ≠ ll2:=(fresh_ne hll2 (s43 _ _ b42.hm)).symm
  have e45:(upd H44 S (.dK (st9 ln row2 lm lo2 lk2 lth ev lc ll2))) ll2=some (.lst ((eO ns 9 45).map V.int)):=aj llS.symm e44
  generalize upd H44 S (.dK (st9 ln row2 lm lo2 lk2 lth ev lc ll2))=H45 at b45 z45 e45 ⊢
  clear s43 s44 e43 e44 hp7 hll2 b44
  try dsimp only
  have C2:kP E (mo2 r1 r2) (ex2 r1 r2) 2:=co2 D (fun y e=>qz (co0 D) y e) (fun y e=>qz C1 y e)
  have O3:lH E ⟨S,ln,lm,lo2,lk2,lth,lc,ll2,[4,3],2,[2,3,4,6,7,8],ev⟩:=Z.la' b45.n1 llS llm (by decide) (by decide) (by decide) (by decide) (by decide)
  have L3:cZ E (mo2 r1 r2) (ex2 r1 r2) H45 ⟨S,ln,lm,lo2,lk2,lth,lc,ll2,[4,3],2,[2,3,4,6,7,8],ev⟩ ⟨row2,y2.marks,eO ns 9 45⟩:=xn (kv2:=[.ref k2,.ref k3]) b45 z45 l42 e45 (ln:=ln) F42 o42 ek42 (.cons ⟨k2,rfl,eu42⟩ (.cons ⟨k3,rfl,ev42⟩ .nil)) F42.ht cs42
  have mo01:∀i < 2,0 <= mo2 r1 r2 i/\mo2 r1 r2 i <= 39:=fun i h=>by
   have:i=0 \/ i=1:=by omega
   rcases this with rfl | rfl
   ·exact ⟨c10,by show c1D r1 <= 39;omega⟩
   ·exact ⟨c20,c2⟩
  have w40:∀k,40 <= wt3 k:=fun k=>by unfold wt3;split;omega;split <;> omega
  have W3:Wts ⟨S,ln,lm,lo2,lk2,lth,lc,ll2,[4,3],2,[2,3,4,6,7,8],ev⟩ (mo2 r1 r2) wt3:=⟨fun k=>by have:=w40 k;omega,fun i h=>⟨(mo01 i h).1,fun k=>by have:=w40 k;have:=(mo01 i h).2;omega⟩,fun k m h=>by
   match k,h with
   | 0,h=>cases h;exact ⟨by decide,by decide⟩
   | 1,h=>cases h;exact ⟨by decide,by decide⟩
   | k + 2,h=>cases h⟩
  have q3:=nz ns (i:=9) (j:=45) (by decide)
  refine aF fun M21 K21=>?_
  refine ⟨⟨E,mo2 r1 r2,ex2 r1 r2,2,wt3⟩,C2,⟨S,ln,lm,lo2,lk2,lth,lc,ll2,[4,3],2,[2,3,4,6,7,8],ev⟩,⟨row2,y2.marks,eO ns 9 45⟩,0,0,rfl,rfl,O3,L3,rfl,W3,(by show (eO ns 9 45).length <= 100;omega),fun B3 r3 y3 H46 g46 L46 bd3 n3 c3=>K21 _ _ ?_⟩
  obtain ⟨b46,z46,w46⟩:=uk (y:=⟨row2,y2.marks,eO ns 9 45⟩) b45 z45 l42 e45 g46 L46
  have b46:Bk H46 S lm lc (st9 ln y3.row lm lo2 lk2 lth ev lc ll2) (stV E y3.marks) cv2:=b46
  have z46:ah (del [S,lm,lc] H42) (del [S,lm,lc] H46):=z46
  have bd3:cJ E 2 4 H46 B3 r3:=(bd3.same w46).same aw
  have n3:r3.length <= 100:=by have n3:r3.length + y3.cells.length <= (eO ns 9 45).length:=n3;omega
  have c3:ee (mo2 r1 r2) 4 r3 <= 17280:=by have c3:ee (mo2 r1 r2) 4 r3 + 480 * (y3.cells.length:Int) <= 480 * ((eO ns 9 45).length:Int):=c3;omega
  have F46:=F42.same z46
  have cs46:=cs42.same z46
  have bd146:=(bd142.same z46).same aw
  have bd246:=(bd242.same z46).same aw
  have t46:=F46.z.trans aw
  have hn46:=aw _ _ F46.hn
  clear L3 O3 W3 g46 L46 w46 b45 z45 e45 l42 b42 llS llm F42 o42 ek42 eu42 ev42 cs42 bd142 bd242 q3 z46
  try dsimp only
  refine ⟨by show 3 <= sizeLine;decide,fun lb hlb=>?_⟩
  obtain ⟨s47,e47⟩:=alc hlb (HO.lst [V.ref B1,.ref B2,.ref B3])
  generalize upd H46 lb _=H47 at s47 e47 ⊢
  have b47:=b46.same s47
  obtain ⟨xs3,a1,a2,a3⟩:=bd3.same s47
  refine ⟨_,cj.k (k:=.inr "costs") b47.hS,⟨E,mo2 r1 r2,ex2 r1 r2,2,wt3⟩,C2,B3,lc,xs3,r3,rfl,a1,a2,a3,cs46.co (aw.trans s47) b47.hc,fun tc H48 s48 tc0 etc=>?_⟩
  refine ⟨by show 4 <= sizeLine;decide,fun t ht=>?_⟩
  have s49:=ah.upd ht (HO.tup [V.ref ln,.ref lb,(.int (row1 - 1)),.ref tc])
  have z:=(s47.trans s48).trans s49
  exact q t ln lb B1 B2 B3 tc (row1 - 1) r1 r2 r3 _ (t46.trans z) ⟨ar,z _ _ hn46,(s48.trans s49) _ _ e47,bd146.same z,bd246.same z,bd3.same z,n1,n2,n3,s49 _ _ etc,c3⟩
end
section
variable {P:Program}{w:World}{K:W.Frag}{mg:Str->Option Value}{base:Heap}{A:Adr}{E:En}
seal PE PA PS PSs PT PW
def jW (A:Adr) (E:En) (H:Hp) (d:Addr) (nm:Nat) (ps:List Nat) (rs:List Rw):Prop:=∃dx dn pp pb ys,H d=some (.ins A.bj dx [("number",dn),("name",.str (E.N nm)),("parts",.ref pp),("body",.ref pb)])/\H pp=some (.lst (stV E ps))/\H pb=some (.lst ys)/\Paired (dX A E.N H 4) ys rs
theorem jW.same {H H':Hp} (z:ah H H') {d:Addr}{nm:Nat}{ps:List Nat}{rs:List Rw} (h:jW A E H d nm ps rs):jW A E H' d nm ps rs:=by
 obtain ⟨dx,dn,pp,pb,ys,h1,h2,h3,h4⟩:=h
 exact ⟨dx,dn,pp,pb,ys,z _ _ h1,z _ _ h2,z _ _ h3,Paired.cF h4 fun _ _=>dX.same z⟩
structure CL (A:Adr) (E:En) (H:Hp) (p:Pa) (c:Int) (hv xs:List V) (d1 d2:Addr) (r1 r2 r3:List Rw):Prop where
 pr:H p.pa=some (.ins A.Program p.dp [("heads",.ref p.hd),("deeds",.ref p.dd),("main",.ref p.mn)])
 hd:H p.hd=some (.lst hv)
 h:Paired (kB A E.N H) hv (fG c)
 dd:H p.dd=some (.lst [.ref d1,.ref d2])
 d1:jW A E H d1 13 [14] r1
 d2:jW A E H d2 15 [16,17] r2
 mn:H p.mn=some (.lst xs)
 m:Paired (dX A E.N H 4) xs r3
def tI (A:Adr):Sp:=fun vs H Q _=>∃(E:En) (t ln lb B1 B2 B3 tc:Addr) (n c:Int) (r1 r2 r3:List Rw),vs=[.ref t,.int c]/\B5 E H t ln lb B1 B2 B3 tc n r1 r2 r3 /\
 ∀(p:Pa) (hv xs:List V) (d1 d2:Addr) (H':Hp),ah H H'->CL A E H' p c hv xs d1 d2 r1 r2 r3->Q (.ref p.pa) H'
theorem vD (T:Txt K mg A):Has P w K mg base 10 "_law_program" ["_law_drawn_here","_law_cell"] (tI A):=by
 have D_DeedRow_init:=oh (P:=P) (w:=w) (base:=base) T
 have D_Program_init:=nV (P:=P) (w:=w) (base:=base) T
 have D_law_heads:=Has.ex (P:=P) (w:=w) (base:=base) (sp:=fun N:Nat->Str=>rQ A N) (p:=fun _=>True) (nmV 0) trivial fun N _=>zP T
 have D_law_made:=Has.ex (P:=P) (w:=w) (base:=base) (sp:=fun i:En × Nat=>nq A i.1 i.2 4) (p:=fun _=>True) (ix0.E,0) trivial fun i _=>yz T 4
 refine T.mK.has (k:=9) de (fun vs H Q E h=>?_) (fun f cdv A' outer s H vs Q E' hr hu h=>?_)
 ·obtain ⟨E,t,ln,lb,B1,B2,B3,tc,n,c,r1,r2,r3,rfl,_⟩:=h
  rfl
 ·obtain ⟨E,t,ln,lb,B1,B2,B3,tc,n,c,r1,r2,r3,rfl,R,q⟩:=h
  refine ⟨_,(ab (bN (fv 0) (ux rfl (fF (pgn (i:=2) de.nd rfl) (fF (pgn (i:=3) de.nd rfl) (fF (pgn (i:=4) de.nd rfl) (fF (pgn (i:=5) de.nd rfl) qw))))))
  (ab (aE (i:=6) de.nd rfl (Or.inl rfl) (cf (aa (bZ (hj:=by omega) T.cq D_DeedRow_init hr (aa ae (aa (px hu (fv 2) ae) (aa (cf (aa (px hu (fv 2) ae) af)) (aa (ao (hj:=by omega) D_law_made hr (aa (px hu (fv 3) ae) af)) af))))) af)))
  (ab (aU (b8 (fv 6) (aa (bZ (hj:=by omega) T.cq D_DeedRow_init hr (aa (fv 4) (aa (px hu (fv 2) ae) (aa (cf (aa (px hu (fv 2) ae) (aa (px hu (fv 2) ae) af))) (aa (ao (hj:=by omega) D_law_made hr (aa (px hu (fv 3) ae) af)) af))))) af)))
  (ag (az (bZ (hj:=by omega) T.cD D_Program_init hr (aa (ao (hj:=by omega) D_law_heads hr (aa (fv 2) (aa (fv 1) af))) (aa (fv 6) (aa (ao (hj:=by omega) D_law_made hr (aa (px hu (fv 3) ae) af)) af))))))))),?_⟩
  refine ⟨t,_,rfl,SqT.of R.t,rfl,_,_,rfl,_,_,rfl,_,_,rfl,_,_,rfl,rfl,?_⟩
  try dsimp only
  refine aF fun M1 K1=>?_
  refine Or.inl ⟨_,_,Or.inl (SqL.of R.ln),dj E.N (i:=13) (by decide),Or.inl ⟨_,_,Or.inl (SqL.of R.ln),dj E.N (i:=14) (by decide),by show 1 <= sizeLine;decide,fun p1 hp1=>?_⟩⟩
  obtain ⟨s1,e1⟩:=alc hp1 (HO.lst [V.str (E.N 14)])
  generalize upd H p1 _=H1 at s1 e1 ⊢
  refine Or.inl ⟨_,_,Or.inl (SqL.of (s1 _ _ R.lb)),rfl,(E,0),trivial,B1,r1,H1,rfl,ah.refl _,R.b1.same s1,(by have:=R.l1;omega),fun R1 ys1 H2 s2 hR1 eR1 p2=>?_⟩
  refine fun ra dx3 hr3 hd_ hne_=>oj (SqL.of (s2 _ _ e1)) (SqL.of eR1) hr3 hd_ fun n1 n2 H3 f1 f2 s3 h1 h2 hx3=>⟨rfl,?_⟩
  have q3:Paired (dX A E.N H3 4) ys1 r1:=Paired.cF p2 fun _ _=>dX.same ((aw.trans Mix.same).trans s3)
  have d3:jW A E H3 ra 13 [14] r1:=⟨dx3,_,n1,n2,ys1,hx3,h1,h2,q3⟩
  refine ⟨by show 1 <= sizeLine;decide,fun L hL=>K1 _ _ ?_⟩
  have s4:=ah.upd hL (HO.lst [V.ref ra])
  have e4:(upd H3 L (HO.lst [V.ref ra])) L=some (.lst [.ref ra]):=ar
  have d4:jW A E (del [L] (upd H3 L (HO.lst [V.ref ra]))) ra 13 [14] r1:=d3.same fun x o e=>ba (fun m=>by rw [List.mem_singleton.mp m,hL] at e;cases e) (s4 _ _ e)
  generalize upd H3 L (HO.lst [V.ref ra])=H4 at s4 e4 d4 ⊢
  have t3:=(s1.trans s2).trans s3
  have L0:H L=none:=ah.free t3 hL
  have t4:=t3.trans s4
  clear s1 s2 s3 s4 e1 p2 hR1 eR1 hx3 h1 h2 q3 d3 hr3 f1 f2 hL hp1 t3
  try dsimp only
  refine aF fun M2 K2=>?_
  refine ⟨Or.inl ⟨rfl,_,SqL.of e4⟩,Or.inl ⟨_,_,Or.inl (SqL.of (t4 _ _ R.ln)),dj E.N (i:=15) (by decide),Or.inl ⟨_,_,Or.inl (SqL.of (t4 _ _ R.ln)),dj E.N (i:=16) (by decide),Or.inl ⟨_,_,Or.inl (SqL.of (t4 _ _ R.ln)),dj E.N (i:=17) (by decide),by show 2 <= sizeLine;decide,fun p5 hp5=>?_⟩⟩⟩⟩
  obtain ⟨s5,e5⟩:=alc hp5 (HO.lst [V.str (E.N 16),.str (E.N 17)])
  generalize upd H4 p5 _=H5 at s5 e5 ⊢
  have t5:=t4.trans s5
  refine Or.inl ⟨_,_,Or.inl (SqL.of (t5 _ _ R.lb)),rfl,(E,1),trivial,B2,r2,H,rfl,t5,R.b2,(by have:=R.l2;omega),fun R2 ys2 H6 s6 hR2 eR2 p6=>?_⟩
  refine fun r7 dx7 hr7 hd_ hne_=>oj (SqL.of (s6 _ _ e5)) (SqL.of eR2) hr7 hd_ fun n1 n2 H7 f1 f2 s7 h1 h2 hx7=>⟨rfl,?_⟩
  have L6:H6 L=some (.lst [.ref ra]):=(s5.trans s6) _ _ e4
  have L7:=s7 _ _ L6
  have nL:∀{x:Addr},H6 x=none->x ≠ L:=fun h=>fresh_ne h L6
  have d8:jW A E (del [L] (upd H7 L (.lst [.ref ra,.ref r7]))) r7 15 [16,17] r2:=by
   have z:ah (del [R2] (Mix H H5 H6)) (del [L] (upd H7 L (.lst [.ref ra,.ref r7]))):=fun x o e=>by
    obtain ⟨_,e1⟩:=dE e
    obtain ⟨e2,e3⟩:=Mix.get e1
    have xL:x ≠ L:=fun z=>by
     rw [z] at e2
     rcases e2 with e2 | e2
     ·exact e2 L0
     ·rw [s5 _ _ e4] at e2;cases e2
    exact ba (fun m=>xL (List.mem_singleton.mp m)) (aj xL (s7 _ _ e3))
   have k:∀{x:Addr}{o:HO},H6 x=none->H7 x=some o->del [L] (upd H7 L (.lst [.ref ra,.ref r7])) x=some o:=fun h e=>ba (fun m=>nL h (List.mem_singleton.mp m)) (aj (nL h) e)
   exact ⟨dx7,_,n1,n2,ys2,k hr7 hx7,k f1 h1,k f2 h2,Paired.cF p6 fun _ _=>dX.same z⟩
  have z8:ah (del [L] H4) (del [L] (upd H7 L (.lst [.ref ra,.ref r7]))):=fun x o e=>by
   obtain ⟨e1,e2⟩:=dE e
   have xL:x ≠ L:=fun z=>e1 (by rw [z];simp)
   exact ba e1 (aj xL (((s5.trans s6).trans s7) _ _ e2))
  refine ⟨_,_,_,rfl,rfl,L7,aR (show 1 <= 1000 by decide),K2 _ _ ?_⟩
  have e8:(upd H7 L (.lst [.ref ra,.ref r7])) L=some (.lst [.ref ra,.ref r7]):=ar
  have t8:ah H (upd H7 L (.lst [.ref ra,.ref r7])):=ah.out (t5.trans (s6.trans s7)) L0 _
  have d18:=(d4.same z8).same aw
  have d28:=d8.same aw
  have e9:upd H7 L (.lst ([.ref ra] ++ [.ref r7]))=upd H7 L (.lst [.ref ra,.ref r7]):=rfl
  rw [e9]
  generalize upd H7 L (.lst [.ref ra,.ref r7])=H8 at e8 t8 d18 d28 ⊢
  clear e9 d4 d8 z8 nL L6 L7 s5 s6 s7 e5 p6 hR2 eR2 hx7 h1 h2 hr7 f1 f2 hp5 t5 e4 t4
  try dsimp only
  refine ⟨E.N,trivial,ln,c,rfl,t8 _ _ R.ln,fun hl hv H9 s9 _ ehl ph=>?_⟩
  have t9:=t8.trans s9
  refine Or.inl ⟨_,_,Or.inl (SqL.of (t9 _ _ R.lb)),rfl,(E,2),trivial,B3,r3,H9,rfl,ah.refl _,R.b3.same t9,(by have:=R.l3;omega),fun R3 ys3 H10 s10 hR3 eR3 p10=>?_⟩
  refine fun rp dxp hrp hd_ hne_=>um (SqL.of (s10 _ _ ehl)) (SqL.of ((s9.trans s10) _ _ e8)) (SqL.of eR3) hrp hd_ fun n1 n2 n3 H11 f1 f2 f3 s11 h1 h2 h3 hxp=>⟨rfl,?_⟩
  have s9':=s9.trans (s10.trans s11)
  exact q ⟨rp,dxp,n1,n2,n3⟩ hv ys3 ra r7 H11 (t9.trans (s10.trans s11)) ⟨hxp,h1,Paired.cF ph fun _ _=>kB.same (s10.trans s11),h2,d18.same s9',d28.same s9',h3,Paired.cF p10 fun _ _=>dX.same ((aw.trans Mix.same).trans s11)⟩
theorem vh:∀ys:List V,(∀y ∈ ys,∃n:Int,In n/\y=.int n)->∃ns:List Int,ys=ns.map V.int/\∀n ∈ ns,In n
 | [],_=>⟨[],rfl,fun _ h=>by cases h⟩
 | y :: r,h=>by
  obtain ⟨n,hn,rfl⟩:=h y List.mem_cons_self
  obtain ⟨ns,rfl,hns⟩:=vh r fun z hz=>h z (List.mem_cons_of_mem _ hz)
  refine ⟨n :: ns,rfl,fun m hm=>?_⟩
  rcases List.mem_cons.mp hm with rfl | hm
  ·exact hn
  ·exact hns m hm
def xj (K:W.Frag):Sp:=fun vs H Q _=>∃(E:En) (ln a:Addr) (ns:List Int) (k:Nat),vs=[.ref ln,.ref a,.int k]/\k <= 1/\H ln=some (.lst (nmL E.N))/\SqL K H a (ns.map V.int)/\jF E.N /\
 ∀(g:Addr) (gn:Nat->Int) (gl:Nat->List Int) (H':Hp),ah H H'->ow E (fG (cellAt ns 1)) H' g gn gl->Q (.ref g) H'
theorem zZ (T:Txt K mg A):Has P w K mg base 2 "_law_gifts" ["_law_names","_law_script","_law_turn"] (xj K):=by
 have D_law_cell_at:=tF (P:=P) (w:=w) (base:=base) T
 have D_law_mix:=vq (P:=P) (w:=w) (base:=base) T
 have D_law_number:=sD (P:=P) (w:=w) (base:=base) T
 refine T.pL.has (k:=1) eW (fun vs H Q E h=>?_) (fun f cdv A' outer s H vs Q E' hr hu h=>?_)
 ·obtain ⟨E,ln,a,ns,k,rfl,_⟩:=h
  rfl
 ·obtain ⟨E,ln,a,ns,k,rfl,k1,hn,hA,D,q⟩:=h
  refine ⟨_,(ab (aE (i:=3) eW.nd rfl (Or.inr rfl) (ao D_law_cell_at hr (aa (fv 1) (aa ae af))))
  (ab (aE (i:=4) eW.nd rfl (Or.inl rfl) (gp))
  (ab (dD PassesOwn.never rfl (j2 rfl T.eJ (aa ae (aa ae af))) (pgn (i:=5) eW.nd rfl)
   (ag (bN (ao D_law_number hr (aa (ao D_law_mix hr (aa (fv 3) (aa (av bf (fv 5) (av eZ ae (fv 2))) af))) af)) (bR (fv 4) (px hu (fv 0) (fv 5)) (bS hu set_list)))))
  (ab (aE (i:=6) eW.nd rfl (Or.inl rfl) (av bf ae (av bI (av bU (ao D_law_cell_at hr (aa (fv 1) (aa ae af))) ae) ae)))
  (ab (bN (j7 (N:=["_law_j","_law_cell","_law_turn"]) (own:=1) (fr:=[3,2]) (dC.of (by kernel_rfl!)) rfl (iF rfl T.eJ (aa (fv 6) af)) (fun b=>pgn (i:=0) (show List.Nodup (["_law_j","_law_cell","_law_turn"]:List PySem.Str) by decide +kernel) rfl) (fun b=>kD) (fun b=>ao D_law_number hr (aa (ao D_law_mix hr (aa (fv 1) (aa (av bf (av bf ae (fv 0)) (av eZ ae (fv 2))) af))) af))) (bR (fv 4) (px hu (fv 0) ae) (bS hu set_list)))
  (ag (az (fv 4)))))))),?_⟩
  refine ⟨a,ns,2,rfl,hA,by decide,?_⟩
  generalize cellAt ns 2=c
  try dsimp only
  refine fun g hg=>?_
  obtain ⟨s1,e1⟩:=alc hg (HO.dK [])
  generalize upd H g _=H1 at s1 e1 ⊢
  try dsimp only
  refine aF fun M1 K1=>?_
  refine ⟨2,5,rfl,⟨by decide,by decide,by decide,by decide⟩,?_⟩
  refine fY (lo:=2) (fun i σ Hc=>∃(gn:Nat->Int) (v5:Option V),σ=[some (.ref ln),some (.ref a),some (.int k),some (.int c),some (.ref g),v5,none]/\ah H Hc/\Hc g=some (.dK (dk E.N ([2,3,4].take i) fun j=>.int (gn j)))/\∀j,In (gn j)) ⟨fun _=>0,none,rfl,s1,e1,fun _=>(show In 0 from ⟨by decide,by decide⟩)⟩ ?_ ?_
  ·rintro i σ Hc hi ⟨gn,v5,rfl,sc,eg,ig⟩
   have hi3:i < 3:=hi
   have e2:(2 + (i:Int))=((2 + i:Nat):Int):=by omega
   have e3:(2 + (i:Int)) + 4 * (k:Int)=((2 + i + 4 * k:Nat):Int):=by omega
   refine ⟨.inl ⟨by decide,by decide⟩,c,2 + i + 4 * k,(by rw [<- e3];rfl),by omega,fun m H2 hm s2=>?_⟩
   have hm':=hm
   obtain ⟨m0,m1⟩:=hm'
   refine ⟨m,rfl,by omega,by omega,fun v hv=>?_⟩
   have eg2:=s2 _ _ eg
   refine Or.inl ⟨_,.str (E.N (2 + i)),Or.inl (SqL.of ((sc.trans s2) _ _ hn)),(by rw [e2];exact dj E.N (by omega)),_,du.k (k:=.inr (E.N (2 + i))) eg2 (aR (by rw [gE,List.length_take];show min i 3 <= 1000;omega)),?_⟩
   refine ⟨fun j=>if j=2 + i then v else gn j,_,rfl,ah.out (sc.trans s2) hg _,?_,fun j=>?_⟩
   ·rw [ar]
    have:i=0 \/ i=1 \/ i=2:=by omega
    rw [fJ D (by omega) (fun j hj=>by rcases this with rfl | rfl | rfl <;> simp at hj <;> omega) (fun hj=>by rcases this with rfl | rfl | rfl <;> simp at hj)]
    have et:([2,3,4]:List Nat).take (i + 1)=([2,3,4]:List Nat).take i ++ [2 + i]:=by rcases this with rfl | rfl | rfl <;> rfl
    rw [et]
    refine congrArg some (congrArg HO.dK (gz fun j _=>?_))
    by_cases e:j=2 + i
    ·rw [e,dB];dsimp only;rw [if_pos rfl]
    ·rw [fU _ _ e];dsimp only;rw [if_neg e]
   ·dsimp only
    split
    ·exact hv
    ·exact ig j
  rintro σ H3 ⟨gn,v5,rfl,s3,eg,ig⟩
  refine K1 _ _ ?_
  refine ⟨a,ns,1,rfl,s3.seq hA,by decide,⟨by decide,by decide⟩,(by show (0:Int) < 20;decide),?_⟩
  try dsimp only
  have mz:=bD (cellAt ns 1 / 11) (show (0:Int) < 20 by decide)
  have ez:(1 + cellAt ns 1 / 11 % 20).toNat=z5 (cellAt ns 1):=rfl
  have zb:z5 (cellAt ns 1) <= 20/\0 < z5 (cellAt ns 1):=by unfold z5;omega
  refine ⟨_,rfl,by omega,by omega,k7 (J:=Itr 0 (z5 (cellAt ns 1))) (n:=z5 (cellAt ns 1)) (x:=fun j=>.int (0 + j)) (fun _ y _=>∃n:Int,In n/\y=.int n) (aR (by omega)) (fun _ _=>Nat.le_refl _) (fun _ _ h _=>h) (fun _ _ _ _ _ _ y=>y) (fun b j H4 G hj s4 kk=>?_) (fun _ _ _ _ _ h=>h) (fun _ _ _ _ _ _ _ h=>h) (fun l H4 ys l0 s4 el ly hy=>?_)⟩
  ·have e3:5 + (0 + (j:Int)) + 4 * (k:Int)=((5 + j + 4 * k:Nat):Int):=by omega
   refine ⟨.inl ⟨by decide,by decide⟩,c,5 + j + 4 * k,(by rw [<- e3];rfl),by omega,fun m H5 hm s5=>?_⟩
   obtain ⟨m0,m1⟩:=hm
   exact ⟨m,rfl,by omega,by omega,fun v hv=>kk _ _ s5 ⟨v,hv,rfl⟩⟩
  obtain ⟨gs,rfl,hgs⟩:=vh ys fun y hm=>by
   obtain ⟨j,hj⟩:=List.getElem?_of_mem hm
   exact hy j y hj
  have eg4:=s4 _ _ eg
  refine Or.inl ⟨_,_,Or.inl (SqL.of ((s3.trans s4) _ _ hn)),dj E.N (i:=5) (by decide),_,du.k (k:=.inr (E.N 5)) eg4 (aR (by rw [gE,List.length_take];show min _ 3 <= 1000;omega)),?_⟩
  have lg:l ≠ g:=fresh_ne l0 eg
  refine q g gn (fun _=>gs) _ (ah.out (s3.trans s4) hg _) ⟨⟨_,ar,fun i z m=>?_⟩,ig,fun _=>hgs⟩
  rw [show ((5:Int) - 2).toNat=3 from rfl,show ([2,3,4]:List Nat).take 3=[2,3,4] from rfl,fJ D (by decide) (by decide) (by decide)]
  have lt:∀j ∈ ([2,3,4] ++ [5]:List Nat),j < 18:=by decide
  unfold fG at m
  simp only [List.mem_cons,List.not_mem_nil,or_false,reduceCtorEq,false_or,Hd.giv.injEq] at m
  rcases m with ⟨rfl,rfl⟩ | ⟨rfl,rfl⟩ | ⟨rfl,rfl⟩ | ⟨rfl,rfl⟩
  ·exact ⟨fun _=>iU D lt (by decide),fun h=>absurd h (Nat.lt_irrefl _)⟩
  ·exact ⟨fun _=>iU D lt (by decide),fun h=>absurd h (Nat.lt_irrefl _)⟩
  ·exact ⟨fun _=>iU D lt (by decide),fun h=>absurd h (Nat.lt_irrefl _)⟩
  ·refine ⟨fun h=>by omega,fun _=>⟨l,?_,aj lg el,?_⟩⟩
   ·rw [iU D lt (by decide),dB]
   ·rw [List.length_map] at ly
    exact ly
end
section
variable {A:Adr}{E:En}
def IDX:List Nat:=[2,3,4,5,6,7,8,9,14,16,17]
def SZ (c:Int) (i:Nat):Nat:=if i=5 then z5 c else if i=9 then z9 c else 0
def Ed (c0 c1:Int) (r1 r2:List Rw) (dv:List V):En:=⟨nmV c0,IDX,SZ c1,[⟨13,[14],r1⟩,⟨15,[16,17],r2⟩],dv⟩
def Ez (c0 c1:Int):En:=⟨nmV c0,IDX,SZ c1,[],[]⟩
theorem Ai (c:Int):1 <= z5 c/\z5 c <= 20:=by unfold z5;omega
theorem Ad (c:Int):1 <= z9 c/\z9 c <= 20:=by unfold z9;omega
theorem Cq (c0 c1:Int):so (Ez c0 c1) c0:=by
 refine ⟨rfl,fun i hi=>?_,lU (by show 5 ∈ IDX;decide) (Ai c1).1,lU (by show 9 ∈ IDX;decide) (Ad c1).1⟩
 have h:∀i ∈ [2,3,4,6,7,8,14,16,17],i ∈ IDX/\i ≠ 5/\i ≠ 9:=by decide
 obtain ⟨h1,h2,h3⟩:=h i hi
 refine ⟨h1,?_⟩
 show SZ c1 i=0
 unfold SZ
 rw [if_neg h2,if_neg h3]
theorem vg (c0 c1:Int) (r1 r2:List Rw) {dv:List V} (hd:dv.length=2):(Ed c0 c1 r1 r2 dv).Ok:=by
 refine ⟨nr c0,(show ∀j ∈ IDX,j < 18 by decide),(show IDX.Nodup by decide),fun d hd=>?_,(show [13,15].Nodup by decide),(show 2 <= 64 by decide),hd,fun d hd j hj=>?_,fun x=>?_,(show 11 <= 64 by decide)⟩
 ·have hd:d ∈ [(⟨13,[14],r1⟩:Dd),⟨15,[16,17],r2⟩]:=hd
  simp only [List.mem_cons,List.not_mem_nil,or_false] at hd
  rcases hd with rfl | rfl
  ·exact (by decide:13 < 18)
  ·exact (by decide:15 < 18)
 ·have hj':j=14 \/ j=16 \/ j=17:=by
   have hd:d ∈ [(⟨13,[14],r1⟩:Dd),⟨15,[16,17],r2⟩]:=hd
   simp only [List.mem_cons,List.not_mem_nil,or_false] at hd
   rcases hd with rfl | rfl
   ·have hj:j ∈ [14]:=hj
    simp at hj
    exact .inl hj
   ·have hj:j ∈ [16,17]:=hj
    simp at hj
    exact .inr hj
  have:j ∈ IDX/\SZ c1 j=0:=by rcases hj' with rfl | rfl | rfl <;> exact ⟨by decide,rfl⟩
  exact this
 ·show SZ c1 x <= 1000
  have:=Ai c1
  have:=Ad c1
  unfold SZ
  split
  ·omega
  ·split <;> omega
theorem Bd (c0 c1:Int) (r1 r2:List Rw) (dv:List V):Hds (Ed c0 c1 r1 r2 dv) (fG c1):=by
 refine ⟨rfl,fun i z h=>?_,fun i z h=>?_⟩
 ·unfold fG at h
  simp only [List.mem_cons,List.not_mem_nil,or_false,reduceCtorEq,false_or,Hd.giv.injEq] at h
  rcases h with ⟨rfl,rfl⟩ | ⟨rfl,rfl⟩ | ⟨rfl,rfl⟩ | ⟨rfl,rfl⟩ <;> rfl
 ·unfold fG at h
  simp only [List.mem_cons,List.not_mem_nil,or_false,reduceCtorEq,false_or,Hd.own.injEq] at h
  rcases h with ⟨rfl,rfl⟩ | ⟨rfl,rfl⟩ | ⟨rfl,rfl⟩ | ⟨rfl,rfl⟩ <;> rfl
theorem Th.lC {E F:En} (h1:E.idx=F.idx) (h2:E.sz=F.sz) {t:Th} (h:t.ok E):t.ok F:=by
 cases t with
 | i n=>exact h
 | x a=>exact ⟨h1 ▸ h.1,h2 ▸ h.2⟩
theorem Val.lC {E F:En} (h1:E.idx=F.idx) (h2:E.sz=F.sz) {v:Val} (h:v.ok E):v.ok F:=by
 cases v with
 | one a=>exact Th.lC h1 h2 h
 | op a w b=>exact ⟨Th.lC h1 h2 h.1,Th.lC h1 h2 h.2.1,h.2.2⟩
 | atl x b=>exact ⟨h1 ▸ h.1,h2 ▸ h.2.1,Th.lC h1 h2 h.2.2⟩
theorem WfL.en {E F:En}{kn:Nat} (h1:E.idx=F.idx) (h2:E.sz=F.sz):∀{d:Nat}{r:Rw},WfL E kn d r->WfL F kn d r:=by
 have leafs:∀{d:Nat}{r:Rw},(∀n v f o l q,r ≠ .iff n v f o l q)->(∀n t m b l q,r ≠ .loop n t m b l q)->WfL E kn d r->WfL F kn d r:=by
  intro d r i1 i2 h
  have vv:=fun {v:Val} (h:v.ok E)=>Val.lC (F:=F) h1 h2 h
  have tt:=fun {t:Th} (h:t.ok E)=>Th.lC (F:=F) h1 h2 h
  cases r with
  | iff n v f o l r=>exact absurd rfl (i1 _ _ _ _ _ _)
  | loop n t m b l r=>exact absurd rfl (i2 _ _ _ _ _ _)
  | set n x v=>cases d <;> exact ⟨h1 ▸ h.1,h2 ▸ h.2.1,vv h.2.2⟩
  | put n x p v=>cases d <;> exact ⟨h1 ▸ h.1,h2 ▸ h.2.1,tt h.2.2.1,vv h.2.2.2⟩
  | snd n x v =>
   have h':v.ok E:=by cases d <;> exact h
   have:v.ok F:=vv h'
   cases d <;> exact this
  | say n x v m=>cases d <;> exact ⟨h1 ▸ h.1,h2 ▸ h.2.1,vv h.2.2⟩
  | last n=>cases d <;> exact True.intro
  | call n i ts=>cases d <;> exact ⟨h.1,h.2.1,fun t m=>tt (h.2.2 t m)⟩
 intro d
 induction d with
 | zero =>
  intro r h
  cases r with
  | iff n v f o l r=>exact h.elim
  | loop n t m b l r=>exact h.elim
  | _=>exact leafs (fun _ _ _ _ _ _ z=>by cases z) (fun _ _ _ _ _ _ z=>by cases z) h
 | succ d ih =>
  intro r h
  cases r with
  | iff n v f o l r =>
   obtain ⟨a1,a2,a3,a4,a5,a6,a7⟩:=h
   exact ⟨Val.lC h1 h2 a1,a2,a3,a4,a5,fun q m=>ih (a6 q m),fun q m=>ih (a7 q m)⟩
  | loop n t m b l r =>
   obtain ⟨a1,a2,a3,a4,a5,a6,a7⟩:=h
   exact ⟨Th.lC h1 h2 a1,a2,a3,a4,a5,a6,fun q m=>ih (a7 q m)⟩
  | _=>exact leafs (fun _ _ _ _ _ _ z=>by cases z) (fun _ _ _ _ _ _ z=>by cases z) h
variable {c0 c1:Int}{r1 r2 r3:List Rw}{dv:List V}
structure All (F:En) (r1 r2 r3:List Rw):Prop where
 w1:∀r ∈ r1,WfL F 0 4 r
 w2:∀r ∈ r2,WfL F 1 4 r
 w3:∀r ∈ r3,WfL F 2 4 r
theorem All.o0 {F:En} (c:Nat):tK F (moL []) (exL []) 0 c:=fun i h=>absurd h (Nat.not_lt_zero _)
theorem All.b1 (W:All (Ed c0 c1 r1 r2 dv) r1 r2 r3) (r:Rw) (h:r ∈ r1):ou (Ed c0 c1 r1 r2 dv) (moL []) (exL []) 0 0 4 r:=nG (All.o0 0) (by decide) 4 r (W.w1 r h)
theorem All.s1 (W:All (Ed c0 c1 r1 r2 dv) r1 r2 r3) {c:Nat} (hc:5 <= c):(∀r ∈ r1,Wf (Ed c0 c1 r1 r2 dv) c r)/\c1D r1=(r1.map (aJ (Ed c0 c1 r1 r2 dv) c)).sum/\x1D r1=bw (r1.map (aT (Ed c0 c1 r1 r2 dv) c)):=by
 have w5:∀r ∈ r1,Wf (Ed c0 c1 r1 r2 dv) 5 r:=fun r h=>(W.b1 r h).1
 refine ⟨fun r h=>?_,?_,?_⟩
 ·have:=(w5 r h).upN (n:=c - 5)
  rw [show 5 + (c - 5)=c by omega] at this
  exact this
 ·unfold c1D ee
  rw [map_eq fun r h=>(qQ hc (w5 r h)).trans (W.b1 r h).2.2.1]
 ·unfold x1D oB
  rw [map_eq fun r h=>(oJ hc (w5 r h)).trans (W.b1 r h).2.2.2]
theorem All.o1 (W:All (Ed c0 c1 r1 r2 dv) r1 r2 r3) {c:Nat} (hc:5 <= c):tK (Ed c0 c1 r1 r2 dv) (moL [c1D r1]) (exL [x1D r1]) 1 c:=fun i h=>by
 have:i=0:=by omega
 subst this
 obtain ⟨a1,a2,a3⟩:=W.s1 hc
 exact ⟨⟨13,[14],r1⟩,rfl,rfl,rfl,a1,a2,a3⟩
theorem All.b2 (W:All (Ed c0 c1 r1 r2 dv) r1 r2 r3) (r:Rw) (h:r ∈ r2):ou (Ed c0 c1 r1 r2 dv) (moL [c1D r1]) (exL [x1D r1]) 1 5 4 r:=nG (W.o1 (by decide)) (by decide) 4 r (W.w2 r h)
theorem All.o2 (W:All (Ed c0 c1 r1 r2 dv) r1 r2 r3):tK (Ed c0 c1 r1 r2 dv) (mo2 r1 r2) (ex2 r1 r2) 2 10:=fun i h=>by
 have:i=0 \/ i=1:=by omega
 rcases this with rfl | rfl
 ·obtain ⟨a1,a2,a3⟩:=W.s1 (c:=10) (by decide)
  exact ⟨⟨13,[14],r1⟩,rfl,rfl,rfl,a1,a2,a3⟩
 ·refine ⟨⟨15,[16,17],r2⟩,rfl,rfl,rfl,fun r h=>(W.b2 r h).1,?_,?_⟩
  ·show ee (moL [c1D r1]) 4 r2=_
   unfold ee
   exact congrArg List.sum (map_eq fun r h=>(W.b2 r h).2.2.1.symm)
  ·show oB (exL [x1D r1]) 4 r2=_
   unfold oB
   exact congrArg bw (map_eq fun r h=>(W.b2 r h).2.2.2.symm)
theorem All.b3 (W:All (Ed c0 c1 r1 r2 dv) r1 r2 r3) (r:Rw) (h:r ∈ r3):ou (Ed c0 c1 r1 r2 dv) (mo2 r1 r2) (ex2 r1 r2) 2 10 4 r:=nG W.o2 (by decide) 4 r (W.w3 r h)
theorem All.most (W:All (Ed c0 c1 r1 r2 dv) r1 r2 r3):(r3.map (aJ (Ed c0 c1 r1 r2 dv) 15)).sum=ee (mo2 r1 r2) 4 r3:=by
 unfold ee
 exact congrArg List.sum (map_eq fun r h=>(W.b3 r h).2.2.1)
theorem All.exact (W:All (Ed c0 c1 r1 r2 dv) r1 r2 r3):bw (r3.map (aT (Ed c0 c1 r1 r2 dv) 15))=oB (ex2 r1 r2) 4 r3:=by
 unfold oB
 exact congrArg bw (map_eq fun r h=>(W.b3 r h).2.2.2)
theorem iu {X:Hp}{F:En}{mo:Nat->Int}{ex:Nat->Option Int}{kn c:Nat} (O:tK F mo ex kn c) (Vd:zF A F X kn c) {ys:List V}{rs:List Rw} (w:∀r ∈ rs,WfL F kn 4 r) (p:Paired (dX A F.N X 4) ys rs):Paired (bO A F X (4 + c + 1)) ys rs:=fZ p fun v r m h=>dX.at O Vd 4 v r (w r m) h
theorem lX {X:Hp}{F:En}{d n:Nat}{ys:List V}{rs:List Rw} (p:Paired (bO A F X d) ys rs):Paired (bO A F X (d + n)) ys rs:=Paired.cF p fun _ _ h=>h.upN
structure Ready (A:Adr) (F:En) (H:Hp) (p:Pa) (c:Int) (hv xs:List V) (r3:List Rw):Prop where
 pr:mL A F H p hv (fG c) xs
 bd:mG A F 15 H
 mn:y0 A F 15 H xs r3
theorem Ready.of {H:Hp}{p:Pa}{hv xs:List V}{d1 d2:Addr} (G:CL A (Ez c0 c1) H p c1 hv xs d1 d2 r1 r2 r3) (W:All (Ed c0 c1 r1 r2 [.ref d1,.ref d2]) r1 r2 r3) (l1:r1.length <= 100) (l2:r2.length <= 100) (l3:r3.length <= 100):Ready A (Ed c0 c1 r1 r2 [.ref d1,.ref d2]) H p c1 hv xs r3:=by
 obtain ⟨dx1,dn1,pp1,pb1,ys1,a1,a2,a3,a4⟩:=G.d1
 obtain ⟨dx2,dn2,pp2,pb2,ys2,e1,e2,e3,e4⟩:=G.d2
 have q1:Paired (bO A (Ed c0 c1 r1 r2 [.ref d1,.ref d2]) H 5) ys1 r1:=iu (All.o0 0) (fun i h=>absurd h (Nat.not_lt_zero _)) W.w1 a4
 have v1:zF A (Ed c0 c1 r1 r2 [.ref d1,.ref d2]) H 1 5:=fun i h D hD=>by
  have:i=0:=by omega
  subst this
  cases hD
  exact ⟨d1,dx1,dn1,pp1,pb1,ys1,rfl,a1,a2,a3,q1⟩
 have q2:Paired (bO A (Ed c0 c1 r1 r2 [.ref d1,.ref d2]) H 10) ys2 r2:=iu (W.o1 (by decide)) v1 W.w2 e4
 have v2:zF A (Ed c0 c1 r1 r2 [.ref d1,.ref d2]) H 2 10:=fun i h D hD=>by
  have:i=0 \/ i=1:=by omega
  rcases this with rfl | rfl
  ·cases hD
   exact ⟨d1,dx1,dn1,pp1,pb1,ys1,rfl,a1,a2,a3,lX (d:=5) (n:=5) q1⟩
  ·cases hD
   exact ⟨d2,dx2,dn2,pp2,pb2,ys2,rfl,e1,e2,e3,q2⟩
 have q3:Paired (bO A (Ed c0 c1 r1 r2 [.ref d1,.ref d2]) H 15) xs r3:=iu W.o2 v2 W.w3 G.m
 refine ⟨⟨G.pr,G.hd,G.dd,G.mn,G.h,.cons ⟨d1,dx1,dn1,pp1,pb1,rfl,a1,a2⟩ (.cons ⟨d2,dx2,dn2,pp2,pb2,rfl,e1,e2⟩ .nil),?_⟩,fun i v D hv' hD=>?_,⟨q3,by omega,fun r h=>(W.b3 r h).1,fun r h=>(W.b3 r h).2.1⟩⟩
 ·rw [Paired.length G.h]
  show 13 <= 64
  decide
 ·match i,hv',hD with
  | 0,hv',hD =>
   cases hv'
   cases hD
   refine ⟨⟨d1,dx1,dn1,pp1,pb1,ys1,rfl,a1,a3,lX (d:=5) (n:=10) q1⟩,by show r1.length <= 1000;omega,(W.s1 (c:=15) (by decide)).1,fun r h=>?_⟩
   exact (nG (All.o0 10) (by decide) 4 r (W.w1 r h)).2.1
  | 1,hv',hD =>
   cases hv'
   cases hD
   refine ⟨⟨d2,dx2,dn2,pp2,pb2,ys2,rfl,e1,e3,lX (d:=10) (n:=5) q2⟩,by show r2.length <= 1000;omega,fun r h=>(W.b2 r h).1.upN (n:=5),fun r h=>?_⟩
   exact (nG (W.o1 (c:=10) (by decide)) (by decide) 4 r (W.w2 r h)).2.1
  | i + 2,hv',hD=>cases hv'
end
section
variable {P:Program}{w:World}{K:W.Frag}{mg:Str->Option Value}{base:Heap}{A:Adr}
seal PE PA PS PSs PT PW
def qS (K:W.Frag):Sp:=fun vs H Q _=>∃(a:Addr) (ns:List Int),vs=[.ref a]/\SqL K H a (ns.map V.int)/\ns.length <= 63/\∀H',Q (.bl true) H'
theorem BM (T:Txt K mg A) (F:bM K mg "law" nI ["_law_script"]):Has P w K mg base 80 "law" ["_law_script"] (qS K):=by
 have D_law_cell_at:=tF (P:=P) (w:=w) (base:=base) T
 have D_law_drawn:=zm (P:=P) (w:=w) (base:=base) T
 have D_law_program:=vD (P:=P) (w:=w) (base:=base) T
 have D_law_whole:=vi (P:=P) (w:=w) (base:=base) T
 have D_law_within:=yc (P:=P) (w:=w) (base:=base) T
 have D_law_gifts:=zZ (P:=P) (w:=w) (base:=base) T
 have D_most:=Has.ex (P:=P) (w:=w) (base:=base) (sp:=fun E:En=>si A E 15) (p:=fun E=>E.Ok) (Ed 0 0 [] [] [.non,.non]) (vg 0 0 [] [] rfl) fun E h=>zo T h
 have D_exact:=Has.ex (P:=P) (w:=w) (base:=base) (sp:=fun E:En=>pN A E 15) (p:=fun E=>E.Ok) (Ed 0 0 [] [] [.non,.non]) (vg 0 0 [] [] rfl) fun E h=>wQ T h
 have D_run:=Has.ex (P:=P) (w:=w) (base:=base) (sp:=fun E:En=>xK A E 15) (p:=fun E=>E.Ok) (Ed 0 0 [] [] [.non,.non]) (vg 0 0 [] [] rfl) fun E h=>BV T h 15
 refine F.has (k:=79) lS (fun vs H Q E h=>?_) (fun f cdv A' outer s0 H vs Q E hr hu h=>?_)
 ·obtain ⟨a,ns,rfl,_⟩:=h
  rfl
 ·obtain ⟨a,ns,rfl,hA,hlen,q⟩:=h
  obtain ⟨c0,hc0⟩:∃c0,c0=cellAt ns 0:=⟨_,rfl⟩
  obtain ⟨c1,hc1⟩:∃c1,c1=cellAt ns 1:=⟨_,rfl⟩
  refine ⟨_,(ab (aE (i:=1) lS.nd rfl (Or.inl rfl) (ao D_law_drawn hr (aa (fv 0) af)))
  (ab (aE (i:=2) lS.nd rfl (Or.inl rfl) (ao D_law_program hr (aa (fv 1) (aa (ao D_law_cell_at hr (aa (fv 0) (aa ae af))) af))))
  (ab (aE (i:=3) lS.nd rfl (Or.inl rfl) (px hu (fv 1) ae))
  (ab (aE (i:=4) lS.nd rfl (Or.inl rfl) (cB (aa (ao D_most hr (aa (fv 2) af)) (aa (ao D_exact hr (aa (fv 2) af)) af))))
  (ab (aS (PW.pt (pw_or (kH (b9 (ao D_law_whole hr (aa (px hu (fv 4) ae) af)) (fun _=>rfl))) (pw_or (ay (pq hu) (px hu (fv 4) ae) (px hu (fv 3) ae) (aC _)) (pw_or1 (ay (pq hu) (lu (mU) (px hu (fv 4) ae) cL (aC _)) (lu (mU) (px hu (fv 3) ae) cL (aC _)) (aC _))))))
   (ag (az kZ))
   aL)
  (ab (aS (PW.pt (pw_and (ay (va) (px hu (fv 3) ae) cL (aC _)) (pw_and1 (PW.pt (pw_or (kH (b9 (ao D_law_whole hr (aa (px hu (fv 4) ae) af)) (fun _=>rfl))) (pw_or1 (ay (pq hu) (px hu (fv 4) ae) (px hu (fv 3) ae) (aC _))))))))
   (ag (az kZ))
   aL)
  (ab (dD PassesOwn.never rfl (iF rfl T.eJ (aa ae af)) (pgn (i:=5) lS.nd rfl)
   (ag (aS (kH (b9 (ao D_law_within hr (aa (ao D_run hr (aa (fv 2) (aa (ao D_law_gifts hr (aa (px hu (fv 1) ae) (aa (fv 0) (aa (fv 5) af)))) af))) (aa (fv 3) af))) (fun _=>rfl)))
    (ag (az kZ))
    aL)))
  (ag (az kZ))))))))),?_⟩
  refine ⟨Ez c0 c1,a,ns,rfl,hA,(by rw [<- hc0];exact Cq c0 c1),fun t ln lb B1 B2 B3 tc n r1 r2 r3 H1 s1 R=>?_⟩
  try dsimp only
  refine aF fun M1 K1=>?_
  refine ⟨a,ns,1,rfl,s1.seq hA,by decide,Ez c0 c1,t,ln,lb,B1,B2,B3,tc,n,c1,r1,r2,r3,(by rw [hc1];rfl),R,fun p hv xs d1 d2 H2 s2 G=>K1 _ _ ?_⟩
  have W:All (Ed c0 c1 r1 r2 [.ref d1,.ref d2]) r1 r2 r3:=by
   obtain ⟨_,_,_,w1⟩:=R.b1
   obtain ⟨_,_,_,w2⟩:=R.b2
   obtain ⟨_,_,_,w3⟩:=R.b3
   exact ⟨fun r h=>WfL.en (E:=Ez c0 c1) (F:=Ed c0 c1 r1 r2 [.ref d1,.ref d2]) rfl rfl (w1 r h),fun r h=>WfL.en (E:=Ez c0 c1) (F:=Ed c0 c1 r1 r2 [.ref d1,.ref d2]) rfl rfl (w2 r h),fun r h=>WfL.en (E:=Ez c0 c1) (F:=Ed c0 c1 r1 r2 [.ref d1,.ref d2]) rfl rfl (w3 r h)⟩
  have Y:=Ready.of G W R.l1 R.l2 R.l3
  have OK:=vg c0 c1 r1 r2 (dv:=[.ref d1,.ref d2]) rfl
  have ZH:=Bd c0 c1 r1 r2 [.ref d1,.ref d2]
  have em:=W.most
  have ex':=W.exact
  have big:=R.big
  have t2:=s2 _ _ R.t
  have tc2:=s2 _ _ R.tc
  have ln2:H2 ln=some (.lst (nmL (Ed c0 c1 r1 r2 [.ref d1,.ref d2]).N)):=s2 _ _ R.ln
  have z2:=s1.trans s2
  clear R G s1 s2 W
  have just:∀y,oB (ex2 r1 r2) 4 r3=some y->bw (r3.map (aT (Ed c0 c1 r1 r2 [.ref d1,.ref d2]) 15))=some y:=fun y e=>by rw [ex'];exact e
  generalize Ed c0 c1 r1 r2 [.ref d1,.ref d2]=F' at *
  generalize ee (mo2 r1 r2) 4 r3=m at *
  generalize oB (ex2 r1 r2) 4 r3=x at *
  try dsimp only
  refine aF fun M2 K2=>?_
  refine Or.inl ⟨_,_,Or.inr (SqT.of t2),rfl,K2 _ _ ?_⟩
  try dsimp only
  refine aF fun M3 K3=>?_
  refine ⟨F',OK,p,hv,xs,fG c1,r3,rfl,Y.pr,Y.bd,Y.mn,fun H3 s3=>?_⟩
  have mn3:y0 A F' 15 H3 xs r3:=⟨Paired.cF Y.mn.p fun _ _=>bO.same s3,Y.mn.l,Y.mn.w,Y.mn.c⟩
  refine ⟨F',OK,p,hv,xs,fG c1,r3,rfl,Y.pr.same s3,Y.bd.same s3,mn3,fun H4 s4=>?_⟩
  rw [em,ex']
  refine ⟨by show 2 <= sizeLine;decide,fun td htd=>K3 _ _ ?_⟩
  obtain ⟨s5,td5⟩:=alc htd (HO.tup [V.int m,eV x])
  generalize upd H4 td _=H5 at s5 td5 ⊢
  have z25:=(s3.trans s4).trans s5
  have tc5:=z25 _ _ tc2
  have td':=SqT.of (K:=K) td5
  have tc':=SqT.of (K:=K) tc5
  try dsimp only
  refine aF fun M4 K4=>?_
  have rest:M4 [some (.ref a),some (.ref t),some (.ref p.pa),some (.ref tc),some (.ref td),none] H5:=K4 _ _ (by
   refine aF fun M5 K5=>?_
   have rest2:M5 [some (.ref a),some (.ref t),some (.ref p.pa),some (.ref tc),some (.ref td),none] H5:=K5 _ _ (by
    refine aF fun M6 K6=>?_
    refine ⟨2,rfl,by decide,by decide,?_⟩
    refine fY (fun i σ Hc=>ah H2 Hc/\∃v5,σ=[some (.ref a),some (.ref t),some (.ref p.pa),some (.ref tc),some (.ref td),v5]) ⟨z25,none,rfl⟩ ?_ ?_
    ·rintro i σ Hc hi ⟨sc,v5,rfl⟩
     have hi2:i < 2:=hi
     refine Or.inl ⟨_,_,Or.inr (SqT.of (sc _ _ t2)),rfl,?_⟩
     refine ⟨F',ln,a,ns,i,(by rw [Int.zero_add];rfl),by omega,sc _ _ ln2,(z2.trans sc).seq hA,OK.D,fun g gn gl H6 s6 Gi=>?_⟩
     rw [<- hc1] at Gi
     have sc6:=sc.trans s6
     refine ⟨F',OK,p,g,hv,xs,fG c1,gn,gl,r3,rfl,Y.pr.same sc6,ZH,Gi,Paired.cF Y.mn.p (fun _ _=>bO.same sc6),Y.mn.w,(by rw [em];show m <= 1000000;omega),fun b db l sd tr e la H7 s7 Dn ok7=>?_⟩
     obtain ⟨us,ht,tu⟩:=Dn.ht
     have rm:=yo F' (s:=S.new F' (fG c1) gn gl) Y.mn.w ⟨rfl,rfl,rfl,rfl⟩
     rw [em] at rm
     have rx:=fun y (h:x=some y)=>wc F' (s:=S.new F' (fG c1) gn gl) Y.mn.w rfl (just y h)
     have rt:=wy F' (s:=S.new F' (fG c1) gn gl) Y.mn.w rfl rfl
     have sc7:=sc6.trans s7
     refine ⟨b,db,l,sd,tr,e,tc,_,m,x,us,_,rfl,Dn.hb,sc7 _ _ tc2,ht,tu,rt,rm,rx,?_⟩
     refine ⟨_,rfl,aY ?_⟩
     exact ⟨sc7,_,rfl⟩
    ·rintro σ Hc ⟨sc,v5,rfl⟩
     exact K6 _ _ (q _))
   cases x with
   | none=>exact Or.inl ⟨_,_,Or.inr tc',rfl,rfl,_,rfl,aY (aY rest2)⟩
   | some y =>
    refine Or.inl ⟨_,_,Or.inr tc',rfl,rfl,_,rfl,cy ?_⟩
    refine Or.inl ⟨_,_,Or.inr td',rfl,y,rfl,_,rfl,aY ?_⟩
    refine Or.inl ⟨_,_,Or.inr td',rfl,Or.inl ⟨_,_,Or.inr tc',rfl,rfl,_,rfl,?_⟩⟩
    dsimp only
    rw [show eV (some y)=V.int y from rfl,j9,decide_eq_true rfl]
    exact aY rest2)
  refine Or.inl ⟨_,_,Or.inr td',rfl,m,rfl,_,rfl,aY ?_⟩
  refine Or.inl ⟨_,_,Or.inr td',rfl,Or.inl ⟨_,_,Or.inr tc',rfl,rfl,_,rfl,?_⟩⟩
  dsimp only
  rw [j9,decide_eq_true rfl]
  refine aY ?_
  refine Or.inl ⟨_,_,Or.inr td',rfl,rfl,Or.inl ⟨_,_,Or.inr tc',rfl,rfl,rfl,_,rfl,?_⟩⟩
  dsimp only
  rw [decide_eq_true rfl]
  exact aY rest
end
abbrev FnI (K:W.Frag) (f:Addr) (x y:Str) (s:Stmt):Prop:=∃(oc:Value) (od:Option Addr) (kV dc pm:Value) (an:Option Addr) (cd ct:Value) (sl:Array (Option Value)),K.lookup f=some ⟨oc,od,.func (W.fnOf x y (d7 s) (cY s) (aq s) .none kV dc pm an cd ct),sl⟩/\W.codeIn K cd y=true/\W.keepIn K (.ref f)=true
abbrev cX (K:W.Frag) (x:Str) (s:Stmt):Prop:=∃f,W.nsIn K mainGlobals x=some (some (.ref f))/\FnI K f x x s
abbrev fb (K:W.Frag) (C:Addr) (m q:Str) (s:Stmt):Prop:=∃f,W.findIn K (.ref C) m=some (some (.ref f))/\W.isFn K (.ref f)=true/\FnI K f m q s
abbrev je (K:W.Frag) (C:Addr) (x:Str) (up:List Addr):Prop:=W.nsIn K mainGlobals x=some (some (.ref C))/\(∃cd,W.clsIn K C=some cd/\cd.mro=up.map Value.ref ++ [Value.type "object"])/\W.plainGet K C Str.empty=true/\W.hasDictIn K C=true/\W.plainOver K C=true/\W.findIn K (.ref C) "__setattr__"=some (some (.builtin "object.__setattr__"))/\W.typeIn K (.ref C)=some (.type "type")/\W.findIn K (.ref C) "__class__"=some (some (.builtin "object.__class__"))/\W.makesIn K C=true/\W.keepIn K (.ref C)=true
abbrev NsI (K:W.Frag) (x:Str):Prop:=W.nsIn K mainGlobals x=some none
abbrev NoI (K:W.Frag) (C:Addr) (x:Str):Prop:=W.findIn K (.ref C) x=some none
section
variable {K:W.Frag}{mg:Str->Option Value}{h:Heap}{x m q:Str}{s:Stmt}{ps:List Str}{C:Addr}{up:List Addr}
theorem c9 (X:K.In h) (G:h.Ns mainGlobals mg) (t:cX K x s) (b:∀(kV doc pm:Value) (an:Option Addr) (cdv ct:Value) (us:List Value),us.length=ps.length->bindArgs (W.fnOf x x (d7 s) (cY s) (aq s) .none kV doc pm an cdv ct) ⟨us,[]⟩=pure (ps.zip us)):bM K mg x s ps:=by
 obtain ⟨f,a,_,_,_,_,_,_,_,_,_,l,c,k⟩:=t
 exact xk X G a l c k b
theorem fe (t:fb K C m q s) (b:∀(kV doc pm:Value) (an:Option Addr) (cdv ct:Value) (us:List Value),us.length=ps.length->bindArgs (W.fnOf m q (d7 s) (cY s) (aq s) .none kV doc pm an cdv ct) ⟨us,[]⟩=pure (ps.zip us)):MFn K C m q s ps:=by
 obtain ⟨f,a,i,_,_,_,_,_,_,_,_,_,l,c,k⟩:=t
 exact Ap a i l c k b
theorem jQ (X:K.In h) (G:h.Ns mainGlobals mg) (cg:W.specialIn K (.builtin "object.__class__") "__get__"=some (some (.builtin "getset_descriptor.__get__"))) (ct:W.takesIn K (.builtin "object.__class__")=some true) (t:je K C x up):eA K mg C x up:=by
 obtain ⟨a,b,c,d,e,f,g,i,j,k⟩:=t
 exact ⟨W.mg_of X G a,⟨c,d,e,f⟩,b,g,i,cg,ct,j,k⟩
end
theorem ar0 {p:List Value->Prop} (h:p []):∀us:List Value,us.length=0->p us:=fun us e=>by
 cases us with
 | nil=>exact h
 | cons b t=>cases e
theorem arS {p:List Value->Prop}{n:Nat} (h:∀a,∀us:List Value,us.length=n->p (a :: us)):∀us:List Value,us.length=n + 1->p us:=fun us e=>by
 cases us with
 | nil=>cases e
 | cons b t=>exact h b t (Nat.succ.inj e)
theorem ar1 {p:List Value->Prop} (h:∀a0,p [a0]):∀us:List Value,us.length=1->p us:=arS fun a0=>ar0 (h a0)
theorem ar2 {p:List Value->Prop} (h:∀a0 a1,p [a0,a1]):∀us:List Value,us.length=2->p us:=arS fun a0=>arS fun a1=>ar0 (h a0 a1)
theorem ar3 {p:List Value->Prop} (h:∀a0 a1 a2,p [a0,a1,a2]):∀us:List Value,us.length=3->p us:=arS fun a0=>arS fun a1=>arS fun a2=>ar0 (h a0 a1 a2)
theorem ar4 {p:List Value->Prop} (h:∀a0 a1 a2 a3,p [a0,a1,a2,a3]):∀us:List Value,us.length=4->p us:=arS fun a0=>arS fun a1=>arS fun a2=>arS fun a3=>ar0 (h a0 a1 a2 a3)
theorem ar5 {p:List Value->Prop} (h:∀a0 a1 a2 a3 a4,p [a0,a1,a2,a3,a4]):∀us:List Value,us.length=5->p us:=arS fun a0=>arS fun a1=>arS fun a2=>arS fun a3=>arS fun a4=>ar0 (h a0 a1 a2 a3 a4)
theorem ar7 {p:List Value->Prop} (h:∀a0 a1 a2 a3 a4 a5 a6,p [a0,a1,a2,a3,a4,a5,a6]):∀us:List Value,us.length=7->p us:=arS fun a0=>arS fun a1=>arS fun a2=>arS fun a3=>arS fun a4=>arS fun a5=>arS fun a6=>ar0 (h a0 a1 a2 a3 a4 a5 a6)
theorem all_mk {l:W.OpenLaw}{w:World}{K:W.Frag}{h:Heap}{mg:Str->Option Value}{fa:Addr} (A:Adr) (X:K.In h) (G:h.Ns mainGlobals mg) (hfa:mg "law"=some (.ref fa))
 (t1:cX K "is_number" jC) (t2:cX K "is_good" lP) (t3:cX K "given_cell" iL) (t4:cX K "own_cell" kO)
 (t5:cX K "cells_of" kF) (t6:cX K "reckon" oP) (t7:cX K "round_place" gR) (t8:cX K "ends_of" mf)
 (t9:cX K "run" xy) (t10:cX K "most_of" ma) (t11:cX K "most_of_row" h9) (t12:cX K "exact_of" kJ)
 (t13:cX K "exact_of_row" gy) (t14:cX K "one_more" kE) (t15:cX K "exact_of_if" hG) (t16:cX K "exact_of_loop" fH)
 (t17:cX K "mosts" qr) (t18:cX K "exacts" ot) (t19:cX K "most" tE) (t20:cX K "exact" qV)
 (t21:cX K "_law_cell_at" gM) (t22:cX K "_law_mix" lZ) (t23:cX K "_law_name" kL) (t24:cX K "_law_number" iP)
 (t25:cX K "_law_thing" jH) (t26:cX K "_law_value" jz) (t27:cX K "_law_kind" kM) (t28:cX K "_law_plain" jU)
 (t29:cX K "_law_cost" kI) (t30:cX K "_law_two" lT) (t31:cX K "_law_idles" jT) (t32:cX K "_law_block" jq)
 (t33:cX K "_law_nodes" jg) (t34:cX K "_law_made" kC) (t35:cX K "_law_heads" jK) (t36:cX K "_law_drawn" ji)
 (t37:cX K "_law_program" hE) (t38:cX K "_law_gifts" jL) (t39:cX K "_law_whole" jx) (t40:cX K "_law_within" iK)
 (t41:cX K "law" nI) (rT:NsI K "all") (oX:NsI K "bool") (qT:NsI K "dict")
 (sf:NsI K "int") (aH:NsI K "isinstance") (iw:NsI K "len") (er:NsI K "list")
 (nP:NsI K "max") (ve:NsI K "min") (eJ:NsI K "range") (uI:NsI K "str")
 (vz:NsI K "sum") (vt:NsI K "zip") (g_MOST_NUMBER:∃k:Tok,W.nsIn K mainGlobals "MOST_NUMBER"=some (some (.int 999999999999 k))) (g_ROUND:∃k:Tok,W.nsIn K mainGlobals "ROUND"=some (some (.int 1000000000000 k)))
 (cg:W.specialIn K (.builtin "object.__class__") "__get__"=some (some (.builtin "getset_descriptor.__get__"))) (ct:W.takesIn K (.builtin "object.__class__")=some true) (x_Book:je K A.ck "Book" [A.ck]) (x_Row:je K A.Row "Row" [A.Row])
 (x_HandRow:je K A.bL "HandRow" [A.bL,A.Row]) (x_GivenRow:je K A.aX "GivenRow" [A.aX,A.Row]) (x_OwnRow:je K A.bF "OwnRow" [A.bF,A.Row]) (x_LetRow:je K A.cm "LetRow" [A.cm,A.Row])
 (x_SetRow:je K A.cb "SetRow" [A.cb,A.Row]) (x_PutRow:je K A.bP "PutRow" [A.bP,A.Row]) (x_SendRow:je K A.bp "SendRow" [A.bp,A.Row]) (x_SayRow:je K A.bJ "SayRow" [A.bJ,A.Row])
 (x_CallRow:je K A.bC "CallRow" [A.bC,A.Row]) (x_LastRow:je K A.cH "LastRow" [A.cH,A.Row]) (x_IfRow:je K A.bQ "IfRow" [A.bQ,A.Row]) (x_LoopRow:je K A.aV "LoopRow" [A.aV,A.Row])
 (x_DeedRow:je K A.bj "DeedRow" [A.bj,A.Row]) (x_Program:je K A.Program "Program" [A.Program]) (x_Run:je K A.Run "Run" [A.Run]) (m1:fb K A.ck "__init__" "Book.__init__" jR)
 (m2:fb K A.Row "__init__" "Row.__init__" fu) (m3:fb K A.bL "__init__" "HandRow.__init__" gk) (m4:fb K A.aX "__init__" "GivenRow.__init__" fL) (m5:fb K A.bF "__init__" "OwnRow.__init__" ie)
 (m6:fb K A.cm "__init__" "LetRow.__init__" gY) (m7:fb K A.cb "__init__" "SetRow.__init__" ik) (m8:fb K A.bP "__init__" "PutRow.__init__" gZ) (m9:fb K A.bp "__init__" "SendRow.__init__" gr)
 (m10:fb K A.bJ "__init__" "SayRow.__init__" gS) (m11:fb K A.bC "__init__" "CallRow.__init__" gw) (m12:fb K A.cH "__init__" "Row.__init__" fu) (m13:fb K A.bQ "__init__" "IfRow.__init__" iR)
 (m14:fb K A.aV "__init__" "LoopRow.__init__" gf) (m15:fb K A.bj "__init__" "DeedRow.__init__" gD) (m16:fb K A.Program "__init__" "Program.__init__" gi) (m17:fb K A.Run "__init__" "Run.__init__" kR)
 (m18:fb K A.Run "number_at" "Run.number_at" fI) (m19:fb K A.Run "number_for" "Run.number_for" fw) (m20:fb K A.Run "number_told" "Run.number_told" eT) (m21:fb K A.Run "pass_steps" "Run.pass_steps" fm)
 (m22:fb K A.Run "do_rows" "Run.do_rows" gO) (m23:fb K A.Run "do_row" "Run.do_row" iN) (m24:fb K A.Run "do_put" "Run.do_put" iM) (m25:fb K A.Run "do_call" "Run.do_call" ib)
 (m26:fb K A.Run "do_if" "Run.do_if" jP) (m27:fb K A.Run "do_loop" "Run.do_loop" gU) (n1:NoI K A.ck "letters") (n2:NoI K A.ck "said")
 (n3:NoI K A.ck "trace") (n4:NoI K A.ck "steps") (n5:NoI K A.ck "ends") (n6:NoI K A.bL "name")
 (n7:NoI K A.bL "rank") (n8:NoI K A.bL "number") (n9:NoI K A.aX "name") (n10:NoI K A.aX "rank")
 (n11:NoI K A.aX "size") (n12:NoI K A.aX "number") (n13:NoI K A.bF "name") (n14:NoI K A.bF "size")
 (n15:NoI K A.bF "number") (n16:NoI K A.cm "name") (n17:NoI K A.cm "rank") (n18:NoI K A.cm "number")
 (n19:NoI K A.cb "name") (n20:NoI K A.cb "value") (n21:NoI K A.cb "number") (n22:NoI K A.bP "name")
 (n23:NoI K A.bP "place") (n24:NoI K A.bP "value") (n25:NoI K A.bP "number") (n26:NoI K A.bp "name")
 (n27:NoI K A.bp "value") (n28:NoI K A.bp "number") (n29:NoI K A.bJ "name") (n30:NoI K A.bJ "value")
 (n31:NoI K A.bJ "mark") (n32:NoI K A.bJ "number") (n33:NoI K A.bC "name") (n34:NoI K A.bC "things")
 (n35:NoI K A.bC "number") (n36:NoI K A.cH "number") (n37:NoI K A.bQ "value") (n38:NoI K A.bQ "first")
 (n39:NoI K A.bQ "other") (n40:NoI K A.bQ "left") (n41:NoI K A.bQ "right") (n42:NoI K A.bQ "number")
 (n43:NoI K A.aV "thing") (n44:NoI K A.aV "most") (n45:NoI K A.aV "body") (n46:NoI K A.aV "left")
 (n47:NoI K A.aV "right") (n48:NoI K A.aV "number") (n49:NoI K A.bj "name") (n50:NoI K A.bj "parts")
 (n51:NoI K A.bj "body") (n52:NoI K A.bj "number") (n53:NoI K A.Program "heads") (n54:NoI K A.Program "deeds")
 (n55:NoI K A.Program "main") (n56:NoI K A.Run "deeds") (n57:NoI K A.Run "cells") (n58:NoI K A.Run "book")
 (y_Row_init:W.specialIn K (.ref A.Row) "__getattribute__"=some (some (.builtin "type.__getattribute__"))/\W.readsIn K A.Row (.type "type")=true/\∃f,W.findIn K (.ref A.Row) "__init__"=some (some (.ref f))/\W.findCls K (.ref A.Row) (.type "type") "__init__"=some (.val (.ref f))) (nod:[A.ck,A.Row,A.bL,A.aX,A.bF,A.cm,A.cb,A.bP,A.bp,A.bJ,A.bC,A.cH,A.bQ,A.aV,A.bj,A.Program,A.Run].Nodup)
:∃fd:FuncData,(∀(s:Shared) (v:Value),BindsTo s fd ⟨[v],[]⟩ [("_law_script",v)])/\∀base:Heap,K.In base->base.Ns mainGlobals mg->ka l.prog w K mg base CX0 80 fa fd ["_law_script"] (qS K):=by
 have T:Txt K mg A:={
  p9:=c9 X G t1 fun _ _ _ _ _ _=>ar1 fun _=>rfl,uY:=c9 X G t2 fun _ _ _ _ _ _=>ar2 fun _ _=>rfl,nK:=c9 X G t3 fun _ _ _ _ _ _=>ar2 fun _ _=>rfl,
  sh:=c9 X G t4 fun _ _ _ _ _ _=>ar1 fun _=>rfl,sj:=c9 X G t5 fun _ _ _ _ _ _=>ar2 fun _ _=>rfl,reckon:=c9 X G t6 fun _ _ _ _ _ _=>ar3 fun _ _ _=>rfl,
  mw:=c9 X G t7 fun _ _ _ _ _ _=>ar2 fun _ _=>rfl,vy:=c9 X G t8 fun _ _ _ _ _ _=>ar2 fun _ _=>rfl,run:=c9 X G t9 fun _ _ _ _ _ _=>ar2 fun _ _=>rfl,
  qP:=c9 X G t10 fun _ _ _ _ _ _=>ar2 fun _ _=>rfl,mC:=c9 X G t11 fun _ _ _ _ _ _=>ar2 fun _ _=>rfl,oH:=c9 X G t12 fun _ _ _ _ _ _=>ar2 fun _ _=>rfl,
  lj:=c9 X G t13 fun _ _ _ _ _ _=>ar2 fun _ _=>rfl,rf:=c9 X G t14 fun _ _ _ _ _ _=>ar1 fun _=>rfl,mB:=c9 X G t15 fun _ _ _ _ _ _=>ar2 fun _ _=>rfl,
  kA:=c9 X G t16 fun _ _ _ _ _ _=>ar2 fun _ _=>rfl,eR:=c9 X G t17 fun _ _ _ _ _ _=>ar1 fun _=>rfl,w6:=c9 X G t18 fun _ _ _ _ _ _=>ar1 fun _=>rfl,
  most:=c9 X G t19 fun _ _ _ _ _ _=>ar1 fun _=>rfl,exact:=c9 X G t20 fun _ _ _ _ _ _=>ar1 fun _=>rfl,my:=c9 X G t21 fun _ _ _ _ _ _=>ar2 fun _ _=>rfl,
  uU:=c9 X G t22 fun _ _ _ _ _ _=>ar2 fun _ _=>rfl,rR:=c9 X G t23 fun _ _ _ _ _ _=>ar2 fun _ _=>rfl,oQ:=c9 X G t24 fun _ _ _ _ _ _=>ar1 fun _=>rfl,
  pW:=c9 X G t25 fun _ _ _ _ _ _=>ar2 fun _ _=>rfl,pF:=c9 X G t26 fun _ _ _ _ _ _=>ar3 fun _ _ _=>rfl,q5:=c9 X G t27 fun _ _ _ _ _ _=>ar4 fun _ _ _ _=>rfl,
  qd:=c9 X G t28 fun _ _ _ _ _ _=>ar3 fun _ _ _=>rfl,nW:=c9 X G t29 fun _ _ _ _ _ _=>ar2 fun _ _=>rfl,vf:=c9 X G t30 fun _ _ _ _ _ _=>ar5 fun _ _ _ _ _=>rfl,
  pS:=c9 X G t31 fun _ _ _ _ _ _=>ar4 fun _ _ _ _=>rfl,lI:=c9 X G t32 fun _ _ _ _ _ _=>ar5 fun _ _ _ _ _=>rfl,qe:=c9 X G t33 fun _ _ _ _ _ _=>ar3 fun _ _ _=>rfl,
  oy:=c9 X G t34 fun _ _ _ _ _ _=>ar1 fun _=>rfl,pO:=c9 X G t35 fun _ _ _ _ _ _=>ar2 fun _ _=>rfl,ql:=c9 X G t36 fun _ _ _ _ _ _=>ar1 fun _=>rfl,
  mK:=c9 X G t37 fun _ _ _ _ _ _=>ar2 fun _ _=>rfl,pL:=c9 X G t38 fun _ _ _ _ _ _=>ar3 fun _ _ _=>rfl,pQ:=c9 X G t39 fun _ _ _ _ _ _=>ar1 fun _=>rfl,
  nC:=c9 X G t40 fun _ _ _ _ _ _=>ar2 fun _ _=>rfl,rT:=W.mg_none_of X G rT,oX:=W.mg_none_of X G oX,
  qT:=W.mg_none_of X G qT,sf:=W.mg_none_of X G sf,aH:=W.mg_none_of X G aH,
  iw:=W.mg_none_of X G iw,er:=W.mg_none_of X G er,nP:=W.mg_none_of X G nP,
  ve:=W.mg_none_of X G ve,eJ:=W.mg_none_of X G eJ,uI:=W.mg_none_of X G uI,
  vz:=W.mg_none_of X G vz,vt:=W.mg_none_of X G vt,kg:=g_MOST_NUMBER.imp fun _ e=>W.mg_of X G e,
  ni:=g_ROUND.imp fun _ e=>W.mg_of X G e,c6:=jQ X G cg ct x_Book,mE:=fe m1 fun _ _ _ _ _ _=>ar1 fun _=>rfl,
  gB:=n1,jM:=n2,fQ:=n3,
  cw:=n4,ju:=n5,iG:=jQ X G cg ct x_Row,
  nO:=fe m2 fun _ _ _ _ _ _=>ar2 fun _ _=>rfl,cP:=jQ X G cg ct x_HandRow,jV:=fe m3 fun _ _ _ _ _ _=>ar4 fun _ _ _ _=>rfl,
  jn:=n6,jY:=n7,iD:=n8,
  bh:=jQ X G cg ct x_GivenRow,ja:=fe m4 fun _ _ _ _ _ _=>ar5 fun _ _ _ _ _=>rfl,dz:=n9,
  i7:=n10,cM:=n11,gH:=n12,
  bG:=jQ X G cg ct x_OwnRow,ku:=fe m5 fun _ _ _ _ _ _=>ar4 fun _ _ _ _=>rfl,dA:=n13,
  fB:=n14,iZ:=n15,dW:=jQ X G cg ct x_LetRow,
  kh:=fe m6 fun _ _ _ _ _ _=>ar4 fun _ _ _ _=>rfl,kx:=n16,kb:=n17,
  jb:=n18,bu:=jQ X G cg ct x_SetRow,kr:=fe m7 fun _ _ _ _ _ _=>ar4 fun _ _ _ _=>rfl,
  gT:=n19,gu:=n20,fP:=n21,
  bg:=jQ X G cg ct x_PutRow,km:=fe m8 fun _ _ _ _ _ _=>ar5 fun _ _ _ _ _=>rfl,hV:=n22,
  gC:=n23,gh:=n24,fK:=n25,
  aO:=jQ X G cg ct x_SendRow,jw:=fe m9 fun _ _ _ _ _ _=>ar4 fun _ _ _ _=>rfl,gA:=n26,
  fO:=n27,dY:=n28,aP:=jQ X G cg ct x_SayRow,
  ko:=fe m10 fun _ _ _ _ _ _=>ar5 fun _ _ _ _ _=>rfl,gQ:=n29,gF:=n30,
  hZ:=n31,eN:=n32,aG:=jQ X G cg ct x_CallRow,
  jZ:=fe m11 fun _ _ _ _ _ _=>ar4 fun _ _ _ _=>rfl,dU:=n33,ft:=n34,
  fg:=n35,aQ:=jQ X G cg ct x_LastRow,jt:=fe m12 fun _ _ _ _ _ _=>ar2 fun _ _=>rfl,
  fi:=n36,aI:=jQ X G cg ct x_IfRow,k5:=fe m13 fun _ _ _ _ _ _=>ar7 fun _ _ _ _ _ _ _=>rfl,
  hJ:=n37,eB:=n38,eI:=n39,
  dZ:=n40,eE:=n41,f9:=n42,
  ax:=jQ X G cg ct x_LoopRow,jS:=fe m14 fun _ _ _ _ _ _=>ar7 fun _ _ _ _ _ _ _=>rfl,fN:=n43,
  dh:=n44,dN:=n45,dP:=n46,
  cQ:=n47,fo:=n48,cq:=jQ X G cg ct x_DeedRow,
  jB:=fe m15 fun _ _ _ _ _ _=>ar5 fun _ _ _ _ _=>rfl,dQ:=n49,eM:=n50,
  dR:=n51,ir:=n52,cD:=jQ X G cg ct x_Program,
  jl:=fe m16 fun _ _ _ _ _ _=>ar4 fun _ _ _ _=>rfl,eK:=n53,cO:=n54,
  dS:=n55,bV:=jQ X G cg ct x_Run,oN:=fe m17 fun _ _ _ _ _ _=>ar3 fun _ _ _=>rfl,
  iX:=fe m18 fun _ _ _ _ _ _=>ar2 fun _ _=>rfl,iH:=fe m19 fun _ _ _ _ _ _=>ar2 fun _ _=>rfl,gI:=fe m20 fun _ _ _ _ _ _=>ar2 fun _ _=>rfl,
  iJ:=fe m21 fun _ _ _ _ _ _=>ar2 fun _ _=>rfl,hU:=fe m22 fun _ _ _ _ _ _=>ar2 fun _ _=>rfl,lh:=fe m23 fun _ _ _ _ _ _=>ar2 fun _ _=>rfl,
  lD:=fe m24 fun _ _ _ _ _ _=>ar2 fun _ _=>rfl,gP:=fe m25 fun _ _ _ _ _ _=>ar2 fun _ _=>rfl,jv:=fe m26 fun _ _ _ _ _ _=>ar2 fun _ _=>rfl,
  hW:=fe m27 fun _ _ _ _ _ _=>ar2 fun _ _=>rfl,gJ:=n56,cW:=n57,
  f7:=n58,bX:=⟨y_Row_init.1,y_Row_init.2.1,y_Row_init.2.2⟩,nd:=nod }
 have F:bM K mg "law" nI ["_law_script"]:=c9 X G t41 fun _ _ _ _ _ _=>ar1 fun _=>rfl
 obtain ⟨f,a,oc,od,kV,dc,pm,an,cd,ct,sl,lk,_,_⟩:=t41
 refine ⟨W.fnOf "law" "law" (d7 nI) (cY nI) (aq nI) .none kV dc pm an cd ct,fun s v=>.of_eq rfl,fun base _ _=>?_⟩
 have e:=hfa.symm.trans (W.mg_of X G a)
 cases e
 exact AR (BM (P:=l.prog) (w:=w) (base:=base) T F) (W.mg_of X G a) lk
theorem walk {l:W.OpenLaw}{q:Program}{loose:List Str}{XP:(Str->Option Value)->Heap->Prop}{YP:World->Heap->Prop}{d:DefRec}{K:Params->W.Frag} (hn:l.most=some 63) (hdf:d.params.defaults=[]) (hY:∀(w:World) (h:Heap),YP w h->(K w.params).In h)
  (F:∀(w:World) (mg:Str->Option Value) (fa:Addr) (h:Heap),(K w.params).In h->h.Ns mainGlobals mg->mg d.name=some (.ref fa)->∃fd:FuncData,(∀(s:Shared) (u:Value),BindsTo s fd ⟨[u],[]⟩ [("_law_script",u)])/\∀base:Heap,(K w.params).In base->base.Ns mainGlobals mg->ka l.prog w (K w.params) mg base CX0 80 fa fd ["_law_script"] (qS (K w.params))) :
  W.WalkO q loose XP YP l.row.toRowW d [] (fun f vs=>PySem.call f vs) :=
 L2.zH (n:=63) (k:=80) (x:="_law_script") (CX:=fun _=>CX0) (sp:=fun w=>qS (K w.params)) hn (by decide) hdf ⟨rfl,by decide,by decide⟩ hY F (fun _ _ a ns hl _ hS=>⟨a,ns,rfl,hS,hl,fun _=>rfl⟩) fun _ _ _ _ _ z=>z
end K27
open PySem PySem.W PyProof.Rows
set_option maxRecDepth 100000 in
set_option maxHeartbeats 0 in
theorem PySem.Challenge.cw_hushrow_k27_most_and_exact_steps_holds : PySem.Challenge.rw_hushrow_k27_most_and_exact_steps.Holds := by
 w_on;o_law
 refine W.holds_open (q:=K27.lY) (loose:=[]) (Xt:=K27.test) (XP:=W.XL K27.lY []) (Yf:=(W.kHook K27.heapK K27.mD K27.iB).obs) (Ya:=(W.kHook K27.heapK K27.mD K27.iB).val) (YP:=(W.kHook K27.heapK K27.mD K27.iB).says) (N:=14196) K27.left (W.kHook K27.heapK K27.mD K27.iB).of (W.kHook K27.heapK K27.mD K27.iB).keeps
  (fun s e=>W.xl_of s (Bool.and_eq_true_iff.mp e).1) W.XL.keeps (by rfl) (by rfl) (by rfl) (fun s e=>W.recFacts_of (Bool.and_eq_true_iff.mp e).2) ?h4 ?h5 ?h6 ⟨rfl,rfl,rfl,rfl,rfl,by decide +kernel⟩ ?hw ?hc
 (case h4=>rfl);(case h5=>first | assumption | decide +kernel);(case h6=>decide +kernel);(case hw=>w_witness2)
 k_fill
 refine K27.walk (l:=PySem.Challenge.rw_hushrow_k27_most_and_exact_steps) rfl rfl (fun w h Y=>W.kIn_of Y) ?F
 case F =>
  intro w mg fa h KX G hmg
  refine K27.all_mk ⟨38,105,133,159,185,211,251,291,324,364,397,416,449,482,508,527,663⟩ KX G hmg ?_ ?_ ?_ ?_ ?_ ?_ ?_ ?_ ?_ ?_ ?_ ?_ ?_ ?_ ?_ ?_ ?_ ?_ ?_ ?_ ?_ ?_ ?_ ?_ ?_ ?_ ?_ ?_ ?_ ?_ ?_ ?_ ?_ ?_ ?_ ?_ ?_ ?_ ?_ ?_ ?_ ?_ ?_ ?_ ?_ ?_ ?_ ?_ ?_ ?_ ?_ ?_ ?_ ?_ ?_ ?_ ?_ ?_ ?_ ?_ ?_ ?_ ?_ ?_ ?_ ?_ ?_ ?_ ?_ ?_ ?_ ?_ ?_ ?_ ?_ ?_ ?_ ?_ ?_ ?_ ?_ ?_ ?_ ?_ ?_ ?_ ?_ ?_ ?_ ?_ ?_ ?_ ?_ ?_ ?_ ?_ ?_ ?_ ?_ ?_ ?_ ?_ ?_ ?_ ?_ ?_ ?_ ?_ ?_ ?_ ?_ ?_ ?_ ?_ ?_ ?_ ?_ ?_ ?_ ?_ ?_ ?_ ?_ ?_ ?_ ?_ ?_ ?_ ?_ ?_ ?_ ?_ ?_ ?_ ?_ ?_ ?_ ?_ ?_ ?_ ?_ ?_ ?_ ?_ ?_ ?_ ?_ ?_ ?_ ?_ ?_ ?_ ?_ ?_ ?_ ?_ ?_ ?_ ?_ ?_ ?_ ?_
  iterate 41 exact ⟨_,by k_is,_,_,_,_,_,_,_,_,_,by k_is,by k_is,by k_is⟩
  iterate 13 (show _=_;k_is)
  iterate 2 exact ⟨_,by k_is⟩
  iterate 2 (show _=_;k_is)
  iterate 17 exact ⟨by k_is,⟨_,by k_is,rfl⟩,by k_is,by k_is,by k_is,by k_is,by k_is,by k_is,by k_is,by k_is⟩
  iterate 27 exact ⟨_,by k_is,by k_is,_,_,_,_,_,_,_,_,_,by k_is,by k_is,by k_is⟩
  iterate 58 (show _=_;k_is)
  iterate 1 exact ⟨by k_is,by k_is,_,by k_is,by k_is⟩
  iterate 1 decide
