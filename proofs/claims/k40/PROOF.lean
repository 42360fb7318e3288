import PyProof.Rows.All
import Wide.All
import OpenK.AllK
import Wide.FinOn
import Lean
import PyProof.EqAt
import PyProof.EqKinds
import PyProof.TupleCall
import PyProof.AttrMissSeq
import KE.KDictList
import PyProof.WalksEnum
import PyProof.EnumMake
import PyProof.ZipIter
import PyProof.Rows.ZipGen
import PyProof.Rows.SumAny
import PyProof.DictUpdate
import KE.KRevSl
import PyProof.Rows.FStr
import PyProof.WalkInts
import PyProof.Rows.SortShellK
import PyProof.Rows.SortWalk
import PySem.Challenge.RW_hushrow_k40_demands
set_option Elab.async false
set_option linter.all false
set_option maxRecDepth 100000
namespace Hd
open PySem PySem.W PySem.Calls PyProof.Rows
def qw (tb:String->Option Builtin) (p:Program) (w:World) (n₀:Nat) (ann:Option Value):Nat->SharedT->Thread->Option SharedT
 | 0,_,_=>none
 | n + 1,s,t=>match through t with
  | true=>some s
  | false=>match stepOk n₀ ann t with
   | false=>none
   | true=>match stepT (denote tb) p w s t with
    | some (s',t')=>qw tb p w n₀ ann n s' t'
    | none=>none
theorem xr {tb:String->Option Builtin}{p:Program}{w:World}{n₀:Nat}{ann:Option Value}:∀{n:Nat}{s s':SharedT}{t:Thread},
  qw tb p w n₀ ann n s t=some s'->topRun tb p w n₀ ann n s.abs t=some s'.abs
 | 0,_,_,_,h=>by cases h
 | n + 1,s,s',t,h=>by
  unfold qw at h
  unfold topRun
  cases he:through t with
  | true=>rw [he] at h;cases h;rfl
  | false =>
   rw [he] at h
   cases hk:stepOk n₀ ann t with
   | false=>rw [hk] at h;cases h
   | true =>
    rw [hk] at h
    cases hs:stepT (denote tb) p w s t with
    | none=>rw [hs] at h;cases h
    | some r=>obtain ⟨s₂,t₂⟩:=r;rw [hs] at h;rw [stepT_spec hs];exact xr h
def Bw (p q:Program) (loose:List Str) (Xt:Shared->Bool) {α:Type} (Yf:Shared->α) (g0:Bool) (H:Heap) (s:Shared) :=
 (staticsOk (importedModules p.main.body) H s.heap && namesBound p s.heap && gensDone s && laidKept H s.heap,openSeen q loose (importedModules p.main.body) Xt g0 s,Yf s)
def w8 (p q:Program) (loose:List Str) (Xt:Shared->Bool) (g0:Bool) (H:Heap) (s:Shared) :=
 (staticsOk (importedModules p.main.body) H s.heap && namesBound p s.heap && gensDone s && laidKept H s.heap,openSeen q loose (importedModules p.main.body) Xt g0 s)
def treeOf:List Obj->Nat->BT->BT
 | [],_,t=>t
 | o :: r,i,t=>treeOf r (i + 1) (t.ins i o)
theorem yY {p q:Program}{loose:List Str}{Xt:Shared->Bool}{α:Type}{Yf:Shared->α}{Ya:World->α}{N:Nat}{g0:Bool}{H₀:Params->Heap}{gs₀:Array GenState}{d₀:Drawn}{k₀ m₀ n₀:Nat}{ann:Option Value}{T₀:Params->BT}{life:Life}
  (opn:∀w:World,(fencedOpening treeTable p w N).map (fun s=>(s.heap,s.gens,s.drawn,s.toks))=some (H₀ w.params,gs₀,d₀,k₀))
  (size:∀w:World,((H₀ w.params).isNs mainGlobals && gs₀.size == 0,(H₀ w.params).objs.size,(H₀ w.params).nsMap mainGlobals "__annotations__")=(true,m₀,ann))
  (tree:∀P:Params,absHeap (T₀ P) n₀ life=H₀ P)
  (look:∀(w:World) (os:OsState),(qw treeTable p w m₀ ann N ⟨T₀ w.params,n₀,life,gs₀,d₀,k₀,os⟩ (topStub p)).map (fun s=>Bw p q loose Xt Yf g0 (H₀ w.params) s.abs)=some (true,openGood q loose,Ya w)) :
  LeftO p q loose Xt Yf Ya N g0:=fun w=>by
 obtain ⟨⟨h,gs,d,k,os⟩,e,e'⟩:=Option.map_eq_some_iff.mp (opn w)
 obtain ⟨rfl,rfl,rfl,rfl⟩:h=H₀ w.params/\gs=gs₀/\d=d₀/\k=k₀:=by simpa using e'
 obtain ⟨z1,z2,z3⟩:_/\_/\_:=by simpa only [Prod.mk.injEq] using size w
 obtain ⟨s,hs,hl⟩:=Option.map_eq_some_iff.mp (look w os)
 obtain ⟨l1,l23⟩:=Prod.mk.inj hl
 obtain ⟨l2,l3⟩:=Prod.mk.inj l23
 have r:=xr hs
 have t:topFrom treeTable p w N ⟨H₀ w.params,gs,d,k,os⟩=some s.abs:=by
  unfold topFrom
  dsimp only
  rw [z1,z2,z3]
  unfold SharedT.abs at r
  dsimp only at r
  rw [tree w.params] at r
  show (topRun treeTable p w m₀ ann N ⟨H₀ w.params,gs,d,k,os⟩ (topStub p)).bind _=_
  rw [r]
  show (match staticsOk (importedModules p.main.body) (H₀ w.params) s.abs.heap && namesBound p s.abs.heap && gensDone s.abs && laidKept (H₀ w.params) s.abs.heap with | true=>_ | false=>_)=_
  rw [l1]
  rfl
 unfold openEnds
 rw [e]
 show (topFrom treeTable p w N _).map _=_
 rw [t]
 exact congrArg some (Prod.ext l2 l3)
theorem xF {p q:Program}{loose:List Str}{Xt:Shared->Bool}{α:Type}{Yf:Shared->α}{Ya:World->α}{N:Nat}{g0:Bool}{H₀:Params->Heap}{gs₀:Array GenState}{d₀:Drawn}{k₀ m₀ n₀:Nat}{ann:Option Value}{T₀:Params->BT}{life:Life}
  (opn:∀w:World,(fencedOpening treeTable p w N).map (fun s=>(s.heap,s.gens,s.drawn,s.toks))=some (H₀ w.params,gs₀,d₀,k₀))
  (size:∀w:World,((H₀ w.params).isNs mainGlobals && gs₀.size == 0,(H₀ w.params).objs.size,(H₀ w.params).nsMap mainGlobals "__annotations__")=(true,m₀,ann))
  (tree:∀P:Params,absHeap (T₀ P) n₀ life=H₀ P)
  (look1:∀(w:World) (os:OsState),(qw treeTable p w m₀ ann N ⟨T₀ w.params,n₀,life,gs₀,d₀,k₀,os⟩ (topStub p)).map (fun s=>w8 p q loose Xt g0 (H₀ w.params) s.abs)=some (true,openGood q loose))
  (look2:∀(w:World) (os:OsState),(qw treeTable p w m₀ ann N ⟨T₀ w.params,n₀,life,gs₀,d₀,k₀,os⟩ (topStub p)).map (fun s=>Yf s.abs)=some (Ya w)) :
  LeftO p q loose Xt Yf Ya N g0:=yY opn size tree fun w os=>by
 obtain ⟨s,hs,h1⟩:=Option.map_eq_some_iff.mp (look1 w os)
 have h2:=look2 w os
 rw [hs] at h2 ⊢
 exact congrArg some (Prod.ext (Prod.mk.inj h1).1 (Prod.ext (Prod.mk.inj h1).2 (Option.some.inj h2)))
end Hd
namespace L2
open PySem PySem.Spec PyProof.Rows
def inClass (s:Stmt) (j:Nat):Stmt:=match s with
 | .ClassDef _ _ _ body _ _ _ _ _ _ _=>body.getD j (.Pass ⟨0,0,0,0⟩)
 | _=>.Pass ⟨0,0,0,0⟩
def da (s:Stmt):Arguments:=match s with
 | .FunctionDef _ a _ _ _ _ _ _ _ _=>a
 | _=>{ posonlyargs:=[],args:=[],vararg:=none,kwonlyargs:=[],kw_defaults:=[],kwarg:=none,defaults:=[] }
def cG (s:Stmt):List Stmt:=match s with
 | .FunctionDef _ _ b _ _ _ _ _ _ _=>b
 | _=>[]
def av (s:Stmt):Scope:=match s with
 | .FunctionDef _ _ _ _ _ _ sc _ _ _=>sc
 | _=>{ kind:=.function,names:=[],isGenerator:=false,isCoroutine:=false }
end L2
namespace K40
open PySem
def top (i:Nat):Stmt:=PySem.Challenge.pw_hushrow_k40_demands.main.body.getD i (.Pass ⟨0,0,0,0⟩)
end K40
set_option maxHeartbeats 0
namespace K40
open PySem L2 PySem.W
noncomputable abbrev E (P:Params) (x:Str) (t:Nat) (v:Value):DictEntry:=⟨PyData.keyHash P x,.str x t,v⟩
noncomputable abbrev CO (n q:Str) (t:Nat) (l a:Int) (r:Nat) (m:Nat):Obj:=⟨.type "code",none,.fields #[.str n t,.str q (t + 1),.str "/claim/cut.py" (t + 2),.int l 0,.int a 0,.int 0 0,.int 0 0,.int 3 0,.ref r,.bool true,.int 181 0,.ref (r + 1),.none,.ref (r + 2),.ref (r + 3),.ref (r + 4),.int m 0,.int l 0,.str "/claim/cut.py" (m + 1)],#[]⟩
noncomputable abbrev FU (n q:Str) (s:Stmt) (m:Str) (t c:Nat):Obj:=⟨.type "function",none,.func (W.fnOf n q (da s) (cG s) (av s) .none .none .none (.str m t) none (.ref c) .none),#[]⟩
noncomputable def heapK (P:Params):W.Frag :=
 (nat_lit 2,⟨.none,none,.dict #[] 0,#[]⟩) ::
 (nat_lit 3,⟨(.type "dict"),none,.dict #[E P "__name__" 165 (.str "law_hushrow_k40_demands" 866),E P "__doc__" 166 .none,E P "__package__" 167 .none,E P "__loader__" 168 (.builtin "__main__.__loader__#opaque"),E P "__spec__" 169 .none,E P "__annotations__" 170 (.ref 6),E P "__builtins__" 171 (.ref 4),E P "__file__" 173 (.str "/claim/cut.py" 172),E P "__cached__" 174 .none,E P "_wall" 193 (.ref 21),E P "Row" 238 (.ref 52),E P "HandRow" 273 (.ref 80),E P "GivenRow" 310 (.ref 106),E P "OwnRow" 345 (.ref 132),E P "LetRow" 380 (.ref 158),E P "SetRow" 429 (.ref 198),E P "PutRow" 480 (.ref 238),E P "SendRow" 522 (.ref 271),E P "SayRow" 573 (.ref 311),E P "CallRow" 615 (.ref 344),E P "LastRow" 638 (.ref 363),E P "IfRow" 686 (.ref 396),E P "LoopRow" 734 (.ref 429),E P "DeedRow" 771 (.ref 455),E P "Program" 804 (.ref 474),E P "row_place" 813 (.ref 485),E P "laid_rows" 824 (.ref 492),E P "laid_inside" 833 (.ref 499),E P "laid_program" 842 (.ref 506),E P "ranks_told" 853 (.ref 513),E P "demands" 865 (.ref 520),E P "_law_cell_at" 875 (.ref 527),E P "_law_mix" 885 (.ref 534),E P "_law_name" 899 (.ref 541),E P "_law_number" 906 (.ref 548),E P "_law_heads" 912 (.ref 553),E P "_law_fit" 918 (.ref 558),E P "_law_thing" 930 (.ref 565),E P "_law_value" 943 (.ref 572),E P "_law_add" 953 (.ref 579),E P "_law_said" 959 (.ref 584),E P "_law_plain" 975 (.ref 591),E P "_law_opened" 981 (.ref 596),E P "_law_closed" 992 (.ref 603),E P "_law_else" 1000 (.ref 610),E P "_law_called" 1016 (.ref 617),E P "_law_turned" 1022 (.ref 622),E P "_law_body" 1035 (.ref 629),E P "_law_drawn" 1055 (.ref 636),E P "_law_plain_row" 1064 (.ref 643),E P "_law_nested_row" 1073 (.ref 650),E P "_law_tree" 1087 (.ref 657),E P "_law_due" 1097 (.ref 664),E P "_law_alike" 1103 (.ref 669),E P "law" 1114 (.ref 676)] 55,#[]⟩) ::
 (nat_lit 34,CO "__init__" "Row.__init__" 208 7 2 29 213) ::
 (nat_lit 35,FU "__init__" "Row.__init__" (inClass (top 2) 0) "hushrow.rows" 194 34) ::
 (nat_lit 51,⟨(.type "dict"),none,.dict #[E P "__module__" 203 (.str "hushrow.rows" 194),E P "__firstlineno__" 207 (.int (5) 206),E P "__init__" 215 (.ref 35),E P "reads" 222 (.ref 42),E P "target" 229 (.ref 49),E P "__static_attributes__" 231 (.ref 50),E P "__dict__" 233 (.ref 53),E P "__weakref__" 235 (.ref 54),E P "__doc__" 236 .none] 4,#[]⟩) ::
 (nat_lit 52,⟨(.type "type"),none,.cls { name:="Row",bases:=[(.type "object")],mro:=[(.ref 52),(.type "object")],ns:=51,qualname:="Row",hasDict:=true,slotNames:=[],subclasses:=[(.ref 80),(.ref 106),(.ref 132),(.ref 158),(.ref 198),(.ref 238),(.ref 271),(.ref 311),(.ref 344),(.ref 363),(.ref 396),(.ref 429),(.ref 455)],abstract:=false,collection:=none,hasDel:=false },#[none,none,(some (.str "Row" 196)),(some (.str "Row" 204)),(some (.builtin "object.__new__")),(some (.bool true))]⟩) ::
 (nat_lit 53,⟨(.type "getset_descriptor"),none,.fields #[(.str "__dict__" 232),(.ref 52),(.builtin "function.__dict__"),(.builtin "function.__dict__#set")],#[]⟩) ::
 (nat_lit 54,⟨(.type "getset_descriptor"),none,.fields #[(.str "__weakref__" 234),(.ref 52),(.builtin "ExceptionGroup.__weakref__"),.none],#[]⟩) ::
 (nat_lit 69,CO "__init__" "HandRow.__init__" 251 17 4 64 258) ::
 (nat_lit 70,FU "__init__" "HandRow.__init__" (inClass (top 3) 0) "hushrow.rows" 194 69) ::
 (nat_lit 79,⟨(.type "dict"),none,.dict #[E P "__module__" 246 (.str "hushrow.rows" 194),E P "__firstlineno__" 250 (.int (15) 249),E P "__init__" 260 (.ref 70),E P "shown" 267 (.ref 77),E P "__static_attributes__" 270 (.ref 78),E P "__doc__" 271 .none] 2,#[]⟩) ::
 (nat_lit 80,⟨(.type "type"),none,.cls { name:="HandRow",bases:=[(.ref 52)],mro:=[(.ref 80),(.ref 52),(.type "object")],ns:=79,qualname:="HandRow",hasDict:=true,slotNames:=[],subclasses:=[],abstract:=false,collection:=none,hasDel:=false },#[(some (.ref 57)),none,(some (.str "HandRow" 239)),(some (.str "HandRow" 247)),(some (.builtin "object.__new__")),(some (.bool true))]⟩) ::
 (nat_lit 95,CO "__init__" "GivenRow.__init__" 286 26 5 90 294) ::
 (nat_lit 96,FU "__init__" "GivenRow.__init__" (inClass (top 4) 0) "hushrow.rows" 194 95) ::
 (nat_lit 105,⟨(.type "dict"),none,.dict #[E P "__module__" 281 (.str "hushrow.rows" 194),E P "__firstlineno__" 285 (.int (24) 284),E P "__init__" 296 (.ref 96),E P "shown" 303 (.ref 103),E P "__static_attributes__" 307 (.ref 104),E P "__doc__" 308 .none] 2,#[]⟩) ::
 (nat_lit 106,⟨(.type "type"),none,.cls { name:="GivenRow",bases:=[(.ref 52)],mro:=[(.ref 106),(.ref 52),(.type "object")],ns:=105,qualname:="GivenRow",hasDict:=true,slotNames:=[],subclasses:=[],abstract:=false,collection:=none,hasDel:=false },#[(some (.ref 83)),none,(some (.str "GivenRow" 274)),(some (.str "GivenRow" 282)),(some (.builtin "object.__new__")),(some (.bool true))]⟩) ::
 (nat_lit 121,CO "__init__" "OwnRow.__init__" 323 36 4 116 330) ::
 (nat_lit 122,FU "__init__" "OwnRow.__init__" (inClass (top 5) 0) "hushrow.rows" 194 121) ::
 (nat_lit 131,⟨(.type "dict"),none,.dict #[E P "__module__" 318 (.str "hushrow.rows" 194),E P "__firstlineno__" 322 (.int (34) 321),E P "__init__" 332 (.ref 122),E P "shown" 339 (.ref 129),E P "__static_attributes__" 342 (.ref 130),E P "__doc__" 343 .none] 2,#[]⟩) ::
 (nat_lit 132,⟨(.type "type"),none,.cls { name:="OwnRow",bases:=[(.ref 52)],mro:=[(.ref 132),(.ref 52),(.type "object")],ns:=131,qualname:="OwnRow",hasDict:=true,slotNames:=[],subclasses:=[],abstract:=false,collection:=none,hasDel:=false },#[(some (.ref 109)),none,(some (.str "OwnRow" 311)),(some (.str "OwnRow" 319)),(some (.builtin "object.__new__")),(some (.bool true))]⟩) ::
 (nat_lit 147,CO "__init__" "LetRow.__init__" 358 45 4 142 365) ::
 (nat_lit 148,FU "__init__" "LetRow.__init__" (inClass (top 6) 0) "hushrow.rows" 194 147) ::
 (nat_lit 157,⟨(.type "dict"),none,.dict #[E P "__module__" 353 (.str "hushrow.rows" 194),E P "__firstlineno__" 357 (.int (43) 356),E P "__init__" 367 (.ref 148),E P "shown" 374 (.ref 155),E P "__static_attributes__" 377 (.ref 156),E P "__doc__" 378 .none] 2,#[]⟩) ::
 (nat_lit 158,⟨(.type "type"),none,.cls { name:="LetRow",bases:=[(.ref 52)],mro:=[(.ref 158),(.ref 52),(.type "object")],ns:=157,qualname:="LetRow",hasDict:=true,slotNames:=[],subclasses:=[],abstract:=false,collection:=none,hasDel:=false },#[(some (.ref 135)),none,(some (.str "LetRow" 346)),(some (.str "LetRow" 354)),(some (.builtin "object.__new__")),(some (.bool true))]⟩) ::
 (nat_lit 173,CO "__init__" "SetRow.__init__" 393 54 4 168 400) ::
 (nat_lit 174,FU "__init__" "SetRow.__init__" (inClass (top 7) 0) "hushrow.rows" 194 173) ::
 (nat_lit 197,⟨(.type "dict"),none,.dict #[E P "__module__" 388 (.str "hushrow.rows" 194),E P "__firstlineno__" 392 (.int (52) 391),E P "__init__" 402 (.ref 174),E P "shown" 409 (.ref 181),E P "reads" 416 (.ref 188),E P "target" 423 (.ref 195),E P "__static_attributes__" 426 (.ref 196),E P "__doc__" 427 .none] 2,#[]⟩) ::
 (nat_lit 198,⟨(.type "type"),none,.cls { name:="SetRow",bases:=[(.ref 52)],mro:=[(.ref 198),(.ref 52),(.type "object")],ns:=197,qualname:="SetRow",hasDict:=true,slotNames:=[],subclasses:=[],abstract:=false,collection:=none,hasDel:=false },#[(some (.ref 161)),none,(some (.str "SetRow" 381)),(some (.str "SetRow" 389)),(some (.builtin "object.__new__")),(some (.bool true))]⟩) ::
 (nat_lit 213,CO "__init__" "PutRow.__init__" 442 69 5 208 450) ::
 (nat_lit 214,FU "__init__" "PutRow.__init__" (inClass (top 8) 0) "hushrow.rows" 194 213) ::
 (nat_lit 237,⟨(.type "dict"),none,.dict #[E P "__module__" 437 (.str "hushrow.rows" 194),E P "__firstlineno__" 441 (.int (67) 440),E P "__init__" 452 (.ref 214),E P "shown" 459 (.ref 221),E P "reads" 466 (.ref 228),E P "target" 473 (.ref 235),E P "__static_attributes__" 477 (.ref 236),E P "__doc__" 478 .none] 2,#[]⟩) ::
 (nat_lit 238,⟨(.type "type"),none,.cls { name:="PutRow",bases:=[(.ref 52)],mro:=[(.ref 238),(.ref 52),(.type "object")],ns:=237,qualname:="PutRow",hasDict:=true,slotNames:=[],subclasses:=[],abstract:=false,collection:=none,hasDel:=false },#[(some (.ref 201)),none,(some (.str "PutRow" 430)),(some (.str "PutRow" 438)),(some (.builtin "object.__new__")),(some (.bool true))]⟩) ::
 (nat_lit 253,CO "__init__" "SendRow.__init__" 493 85 4 248 500) ::
 (nat_lit 254,FU "__init__" "SendRow.__init__" (inClass (top 9) 0) "hushrow.rows" 194 253) ::
 (nat_lit 270,⟨(.type "dict"),none,.dict #[E P "__module__" 488 (.str "hushrow.rows" 194),E P "__firstlineno__" 492 (.int (83) 491),E P "__init__" 502 (.ref 254),E P "shown" 509 (.ref 261),E P "reads" 516 (.ref 268),E P "__static_attributes__" 519 (.ref 269),E P "__doc__" 520 .none] 2,#[]⟩) ::
 (nat_lit 271,⟨(.type "type"),none,.cls { name:="SendRow",bases:=[(.ref 52)],mro:=[(.ref 271),(.ref 52),(.type "object")],ns:=270,qualname:="SendRow",hasDict:=true,slotNames:=[],subclasses:=[],abstract:=false,collection:=none,hasDel:=false },#[(some (.ref 241)),none,(some (.str "SendRow" 481)),(some (.str "SendRow" 489)),(some (.builtin "object.__new__")),(some (.bool true))]⟩) ::
 (nat_lit 286,CO "__init__" "SayRow.__init__" 535 97 5 281 543) ::
 (nat_lit 287,FU "__init__" "SayRow.__init__" (inClass (top 10) 0) "hushrow.rows" 194 286) ::
 (nat_lit 310,⟨(.type "dict"),none,.dict #[E P "__module__" 530 (.str "hushrow.rows" 194),E P "__firstlineno__" 534 (.int (95) 533),E P "__init__" 545 (.ref 287),E P "shown" 552 (.ref 294),E P "reads" 559 (.ref 301),E P "target" 566 (.ref 308),E P "__static_attributes__" 570 (.ref 309),E P "__doc__" 571 .none] 2,#[]⟩) ::
 (nat_lit 311,⟨(.type "type"),none,.cls { name:="SayRow",bases:=[(.ref 52)],mro:=[(.ref 311),(.ref 52),(.type "object")],ns:=310,qualname:="SayRow",hasDict:=true,slotNames:=[],subclasses:=[],abstract:=false,collection:=none,hasDel:=false },#[(some (.ref 274)),none,(some (.str "SayRow" 523)),(some (.str "SayRow" 531)),(some (.builtin "object.__new__")),(some (.bool true))]⟩) ::
 (nat_lit 326,CO "__init__" "CallRow.__init__" 586 113 4 321 593) ::
 (nat_lit 327,FU "__init__" "CallRow.__init__" (inClass (top 11) 0) "hushrow.rows" 194 326) ::
 (nat_lit 343,⟨(.type "dict"),none,.dict #[E P "__module__" 581 (.str "hushrow.rows" 194),E P "__firstlineno__" 585 (.int (111) 584),E P "__init__" 595 (.ref 327),E P "shown" 602 (.ref 334),E P "reads" 609 (.ref 341),E P "__static_attributes__" 612 (.ref 342),E P "__doc__" 613 .none] 2,#[]⟩) ::
 (nat_lit 344,⟨(.type "type"),none,.cls { name:="CallRow",bases:=[(.ref 52)],mro:=[(.ref 344),(.ref 52),(.type "object")],ns:=343,qualname:="CallRow",hasDict:=true,slotNames:=[],subclasses:=[],abstract:=false,collection:=none,hasDel:=false },#[(some (.ref 314)),none,(some (.str "CallRow" 574)),(some (.str "CallRow" 582)),(some (.builtin "object.__new__")),(some (.bool true))]⟩) ::
 (nat_lit 362,⟨(.type "dict"),none,.dict #[E P "__module__" 623 (.str "hushrow.rows" 194),E P "__firstlineno__" 627 (.int (123) 626),E P "shown" 634 (.ref 360),E P "__static_attributes__" 635 (.ref 361),E P "__doc__" 636 .none] 2,#[]⟩) ::
 (nat_lit 363,⟨(.type "type"),none,.cls { name:="LastRow",bases:=[(.ref 52)],mro:=[(.ref 363),(.ref 52),(.type "object")],ns:=362,qualname:="LastRow",hasDict:=true,slotNames:=[],subclasses:=[],abstract:=false,collection:=none,hasDel:=false },#[(some (.ref 347)),none,(some (.str "LastRow" 616)),(some (.str "LastRow" 624)),(some (.builtin "object.__new__")),(some (.bool true))]⟩) ::
 (nat_lit 378,CO "__init__" "IfRow.__init__" 651 129 7 373 661) ::
 (nat_lit 379,FU "__init__" "IfRow.__init__" (inClass (top 13) 0) "hushrow.rows" 194 378) ::
 (nat_lit 395,⟨(.type "dict"),none,.dict #[E P "__module__" 646 (.str "hushrow.rows" 194),E P "__firstlineno__" 650 (.int (127) 649),E P "__init__" 663 (.ref 379),E P "shown" 670 (.ref 386),E P "reads" 677 (.ref 393),E P "__static_attributes__" 683 (.ref 394),E P "__doc__" 684 .none] 2,#[]⟩) ::
 (nat_lit 396,⟨(.type "type"),none,.cls { name:="IfRow",bases:=[(.ref 52)],mro:=[(.ref 396),(.ref 52),(.type "object")],ns:=395,qualname:="IfRow",hasDict:=true,slotNames:=[],subclasses:=[],abstract:=false,collection:=none,hasDel:=false },#[(some (.ref 366)),none,(some (.str "IfRow" 639)),(some (.str "IfRow" 647)),(some (.builtin "object.__new__")),(some (.bool true))]⟩) ::
 (nat_lit 411,CO "__init__" "LoopRow.__init__" 699 144 7 406 709) ::
 (nat_lit 412,FU "__init__" "LoopRow.__init__" (inClass (top 14) 0) "hushrow.rows" 194 411) ::
 (nat_lit 428,⟨(.type "dict"),none,.dict #[E P "__module__" 694 (.str "hushrow.rows" 194),E P "__firstlineno__" 698 (.int (142) 697),E P "__init__" 711 (.ref 412),E P "shown" 718 (.ref 419),E P "reads" 725 (.ref 426),E P "__static_attributes__" 731 (.ref 427),E P "__doc__" 732 .none] 2,#[]⟩) ::
 (nat_lit 429,⟨(.type "type"),none,.cls { name:="LoopRow",bases:=[(.ref 52)],mro:=[(.ref 429),(.ref 52),(.type "object")],ns:=428,qualname:="LoopRow",hasDict:=true,slotNames:=[],subclasses:=[],abstract:=false,collection:=none,hasDel:=false },#[(some (.ref 399)),none,(some (.str "LoopRow" 687)),(some (.str "LoopRow" 695)),(some (.builtin "object.__new__")),(some (.bool true))]⟩) ::
 (nat_lit 444,CO "__init__" "DeedRow.__init__" 747 159 5 439 755) ::
 (nat_lit 445,FU "__init__" "DeedRow.__init__" (inClass (top 15) 0) "hushrow.rows" 194 444) ::
 (nat_lit 454,⟨(.type "dict"),none,.dict #[E P "__module__" 742 (.str "hushrow.rows" 194),E P "__firstlineno__" 746 (.int (157) 745),E P "__init__" 757 (.ref 445),E P "shown" 764 (.ref 452),E P "__static_attributes__" 768 (.ref 453),E P "__doc__" 769 .none] 2,#[]⟩) ::
 (nat_lit 455,⟨(.type "type"),none,.cls { name:="DeedRow",bases:=[(.ref 52)],mro:=[(.ref 455),(.ref 52),(.type "object")],ns:=454,qualname:="DeedRow",hasDict:=true,slotNames:=[],subclasses:=[],abstract:=false,collection:=none,hasDel:=false },#[(some (.ref 432)),none,(some (.str "DeedRow" 735)),(some (.str "DeedRow" 743)),(some (.builtin "object.__new__")),(some (.bool true))]⟩) ::
 (nat_lit 470,CO "__init__" "Program.__init__" 784 169 4 465 791) ::
 (nat_lit 471,FU "__init__" "Program.__init__" (inClass (top 16) 0) "hushrow.rows" 194 470) ::
 (nat_lit 473,⟨(.type "dict"),none,.dict #[E P "__module__" 779 (.str "hushrow.rows" 194),E P "__firstlineno__" 783 (.int (167) 782),E P "__init__" 793 (.ref 471),E P "__static_attributes__" 797 (.ref 472),E P "__dict__" 799 (.ref 475),E P "__weakref__" 801 (.ref 476),E P "__doc__" 802 .none] 4,#[]⟩) ::
 (nat_lit 474,⟨(.type "type"),none,.cls { name:="Program",bases:=[(.type "object")],mro:=[(.ref 474),(.type "object")],ns:=473,qualname:="Program",hasDict:=true,slotNames:=[],subclasses:=[],abstract:=false,collection:=none,hasDel:=false },#[none,none,(some (.str "Program" 772)),(some (.str "Program" 780)),(some (.builtin "object.__new__")),(some (.bool true))]⟩) ::
 (nat_lit 475,⟨(.type "getset_descriptor"),none,.fields #[(.str "__dict__" 798),(.ref 474),(.builtin "function.__dict__"),(.builtin "function.__dict__#set")],#[]⟩) ::
 (nat_lit 476,⟨(.type "getset_descriptor"),none,.fields #[(.str "__weakref__" 800),(.ref 474),(.builtin "ExceptionGroup.__weakref__"),.none],#[]⟩) ::
 (nat_lit 484,CO "row_place" "row_place" 807 174 1 479 811) ::
 (nat_lit 485,FU "row_place" "row_place" (top 18) "hushrow.places" 805 484) ::
 (nat_lit 491,CO "laid_rows" "laid_rows" 814 176 3 486 822) ::
 (nat_lit 492,FU "laid_rows" "laid_rows" (top 19) "hushrow.places" 805 491) ::
 (nat_lit 498,CO "laid_inside" "laid_inside" 825 182 2 493 831) ::
 (nat_lit 499,FU "laid_inside" "laid_inside" (top 20) "hushrow.places" 805 498) ::
 (nat_lit 505,CO "laid_program" "laid_program" 834 189 1 500 840) ::
 (nat_lit 506,FU "laid_program" "laid_program" (top 21) "hushrow.places" 805 505) ::
 (nat_lit 512,CO "ranks_told" "ranks_told" 845 195 1 507 851) ::
 (nat_lit 513,FU "ranks_told" "ranks_told" (top 23) "hushrow.looker" 843 512) ::
 (nat_lit 519,CO "demands" "demands" 854 201 1 514 863) ::
 (nat_lit 520,FU "demands" "demands" (top 24) "hushrow.looker" 843 519) ::
 (nat_lit 526,CO "_law_cell_at" "_law_cell_at" 868 211 2 521 873) ::
 (nat_lit 527,FU "_law_cell_at" "_law_cell_at" (top 26) "law_hushrow_k40_demands" 866 526) ::
 (nat_lit 533,CO "_law_mix" "_law_mix" 876 215 3 528 883) ::
 (nat_lit 534,FU "_law_mix" "_law_mix" (top 27) "law_hushrow_k40_demands" 866 533) ::
 (nat_lit 540,CO "_law_name" "_law_name" 886 221 2 535 897) ::
 (nat_lit 541,FU "_law_name" "_law_name" (top 28) "law_hushrow_k40_demands" 866 540) ::
 (nat_lit 547,CO "_law_number" "_law_number" 900 233 1 542 904) ::
 (nat_lit 548,FU "_law_number" "_law_number" (top 29) "law_hushrow_k40_demands" 866 547) ::
 (nat_lit 552,⟨(.type "code"),none,.fields #[(.str "_law_heads" 907),(.str "_law_heads" 908),(.str "/claim/cut.py" 909),(.int (239) 0),(.int (2) 0),(.int (0) 0),(.int (0) 0),(.int (3) 0),(.ref 549),(.bool true),(.int (181) 0),(.ref 550),.none,.none,.none,(.ref 551),(.int (910) 0),(.int (239) 0),(.str "/claim/cut.py" 911)],#[]⟩) ::
 (nat_lit 553,FU "_law_heads" "_law_heads" (top 30) "law_hushrow_k40_demands" 866 552) ::
 (nat_lit 557,⟨(.type "code"),none,.fields #[(.str "_law_fit" 913),(.str "_law_fit" 914),(.str "/claim/cut.py" 915),(.int (256) 0),(.int (5) 0),(.int (0) 0),(.int (0) 0),(.int (3) 0),(.ref 554),(.bool true),(.int (181) 0),(.ref 555),.none,.none,.none,(.ref 556),(.int (916) 0),(.int (256) 0),(.str "/claim/cut.py" 917)],#[]⟩) ::
 (nat_lit 558,FU "_law_fit" "_law_fit" (top 31) "law_hushrow_k40_demands" 866 557) ::
 (nat_lit 564,CO "_law_thing" "_law_thing" 919 258 4 559 928) ::
 (nat_lit 565,FU "_law_thing" "_law_thing" (top 32) "law_hushrow_k40_demands" 866 564) ::
 (nat_lit 571,CO "_law_value" "_law_value" 931 264 3 566 941) ::
 (nat_lit 572,FU "_law_value" "_law_value" (top 33) "law_hushrow_k40_demands" 866 571) ::
 (nat_lit 578,CO "_law_add" "_law_add" 944 274 3 573 951) ::
 (nat_lit 579,FU "_law_add" "_law_add" (top 34) "law_hushrow_k40_demands" 866 578) ::
 (nat_lit 583,⟨(.type "code"),none,.fields #[(.str "_law_said" 954),(.str "_law_said" 955),(.str "/claim/cut.py" 956),(.int (282) 0),(.int (3) 0),(.int (0) 0),(.int (0) 0),(.int (3) 0),(.ref 580),(.bool true),(.int (181) 0),(.ref 581),.none,.none,.none,(.ref 582),(.int (957) 0),(.int (282) 0),(.str "/claim/cut.py" 958)],#[]⟩) ::
 (nat_lit 584,FU "_law_said" "_law_said" (top 35) "law_hushrow_k40_demands" 866 583) ::
 (nat_lit 590,CO "_law_plain" "_law_plain" 960 292 4 585 973) ::
 (nat_lit 591,FU "_law_plain" "_law_plain" (top 36) "law_hushrow_k40_demands" 866 590) ::
 (nat_lit 595,⟨(.type "code"),none,.fields #[(.str "_law_opened" 976),(.str "_law_opened" 977),(.str "/claim/cut.py" 978),(.int (307) 0),(.int (4) 0),(.int (0) 0),(.int (0) 0),(.int (3) 0),(.ref 592),(.bool true),(.int (181) 0),(.ref 593),.none,.none,.none,(.ref 594),(.int (979) 0),(.int (307) 0),(.str "/claim/cut.py" 980)],#[]⟩) ::
 (nat_lit 596,FU "_law_opened" "_law_opened" (top 37) "law_hushrow_k40_demands" 866 595) ::
 (nat_lit 602,CO "_law_closed" "_law_closed" 982 326 1 597 990) ::
 (nat_lit 603,FU "_law_closed" "_law_closed" (top 38) "law_hushrow_k40_demands" 866 602) ::
 (nat_lit 609,CO "_law_else" "_law_else" 993 341 2 604 998) ::
 (nat_lit 610,FU "_law_else" "_law_else" (top 39) "law_hushrow_k40_demands" 866 609) ::
 (nat_lit 616,CO "_law_called" "_law_called" 1001 345 3 611 1014) ::
 (nat_lit 617,FU "_law_called" "_law_called" (top 40) "law_hushrow_k40_demands" 866 616) ::
 (nat_lit 621,⟨(.type "code"),none,.fields #[(.str "_law_turned" 1017),(.str "_law_turned" 1018),(.str "/claim/cut.py" 1019),(.int (359) 0),(.int (4) 0),(.int (0) 0),(.int (0) 0),(.int (3) 0),(.ref 618),(.bool true),(.int (181) 0),(.ref 619),.none,.none,.none,(.ref 620),(.int (1020) 0),(.int (359) 0),(.str "/claim/cut.py" 1021)],#[]⟩) ::
 (nat_lit 622,FU "_law_turned" "_law_turned" (top 41) "law_hushrow_k40_demands" 866 621) ::
 (nat_lit 628,CO "_law_body" "_law_body" 1023 370 4 623 1033) ::
 (nat_lit 629,FU "_law_body" "_law_body" (top 42) "law_hushrow_k40_demands" 866 628) ::
 (nat_lit 635,CO "_law_drawn" "_law_drawn" 1036 388 4 630 1053) ::
 (nat_lit 636,FU "_law_drawn" "_law_drawn" (top 43) "law_hushrow_k40_demands" 866 635) ::
 (nat_lit 642,CO "_law_plain_row" "_law_plain_row" 1056 414 2 637 1062) ::
 (nat_lit 643,FU "_law_plain_row" "_law_plain_row" (top 44) "law_hushrow_k40_demands" 866 642) ::
 (nat_lit 649,CO "_law_nested_row" "_law_nested_row" 1065 435 1 644 1071) ::
 (nat_lit 650,FU "_law_nested_row" "_law_nested_row" (top 45) "law_hushrow_k40_demands" 866 649) ::
 (nat_lit 656,CO "_law_tree" "_law_tree" 1074 443 1 651 1085) ::
 (nat_lit 657,FU "_law_tree" "_law_tree" (top 46) "law_hushrow_k40_demands" 866 656) ::
 (nat_lit 663,CO "_law_due" "_law_due" 1088 467 1 658 1095) ::
 (nat_lit 664,FU "_law_due" "_law_due" (top 47) "law_hushrow_k40_demands" 866 663) ::
 (nat_lit 668,⟨(.type "code"),none,.fields #[(.str "_law_alike" 1098),(.str "_law_alike" 1099),(.str "/claim/cut.py" 1100),(.int (478) 0),(.int (2) 0),(.int (0) 0),(.int (0) 0),(.int (3) 0),(.ref 665),(.bool true),(.int (181) 0),(.ref 666),.none,.none,.none,(.ref 667),(.int (1101) 0),(.int (478) 0),(.str "/claim/cut.py" 1102)],#[]⟩) ::
 (nat_lit 669,FU "_law_alike" "_law_alike" (top 48) "law_hushrow_k40_demands" 866 668) ::
 (nat_lit 675,CO "law" "law" 1104 487 1 670 1112) ::
 (nat_lit 676,FU "law" "law" (top 49) "law_hushrow_k40_demands" 866 675) :: []
noncomputable def lX:List Addr:=[2,3,34,35,51,52,53,54,69,70,79,80,95,96,105,106,121,122,131,132,147,148,157,158,173,174,197,198,213,214,237,238,253,254,270,271,286,287,310,311,326,327,343,344,362,363,378,379,395,396,411,412,428,429,444,445,454,455,470,471,473,474,475,476,484,485,491,492,498,499,505,506,512,513,519,520,526,527,533,534,540,541,547,548,552,553,557,558,564,565,571,572,578,579,583,584,590,591,595,596,602,603,609,610,616,617,621,622,628,629,635,636,642,643,649,650,656,657,663,664,668,669,675,676]
theorem gN (P:Params):lX=(heapK P).map (·.1):=by kernel_rfl
noncomputable abbrev prog:Program:=PySem.Challenge.pw_hushrow_k40_demands
noncomputable abbrev law:W.OpenLaw:=PySem.Challenge.rw_hushrow_k40_demands
noncomputable def lL:Program:={ prog with main:={ prog.main with body:=[top 0,top 2,top 3,top 4,top 5,top 6,top 7,top 8,top 9,top 10,top 11,top 12,top 13,top 14,top 15,top 16,top 18,top 19,top 20,top 21,top 23,top 24,top 26,top 27,top 28,top 29,top 30,top 31,top 32,top 33,top 34,top 35,top 36,top 37,top 38,top 39,top 40,top 41,top 42,top 43,top 44,top 45,top 46,top 47,top 48,top 49] } }
noncomputable abbrev hook:W.Hook:=W.kHook heapK lX gN
noncomputable abbrev test:Shared->Bool:=fun s=>xlAt lL [] s && recOk (RowW.records law.row.toRowW) s
noncomputable abbrev BX:Shared->List (Option Obj):=fun s=>lX.map s.heap.get?
noncomputable abbrev CP:World->List (Option Obj):=fun w=>(heapK w.params).map fun p=>some p.2
noncomputable def T₀ (P:Params):BT:=Hd.treeOf (boot_heap P).objs.toList 0 .nil
noncomputable def lookL (w:World) (os:OsState):=(Hd.qw treeTable prog w 11 (some (.ref 6)) 11022 ⟨T₀ w.params,11,{},Array.mk [],boot_drawn,boot_toks,os⟩ (topStub prog)).map fun s=>Hd.w8 prog lL [] test true (boot_heap w.params) s.abs
noncomputable def lookR (w:World) (os:OsState):=some (true,openGood lL [])
noncomputable def lookM (w:World) (os:OsState):=(Hd.qw treeTable prog w 11 (some (.ref 6)) 11022 ⟨T₀ w.params,11,{},Array.mk [],boot_drawn,boot_toks,os⟩ (topStub prog)).map fun s=>BX s.abs
noncomputable def lookS (w:World) (os:OsState):=some (CP w)
theorem lookL_self:lookL=lookL:=rfl
theorem lookR_self:lookR=lookR:=rfl
theorem lookM_self:lookM=lookM:=rfl
theorem lookS_self:lookS=lookS:=rfl
end K40
noncomputable def PySem.W.Fast.tw14598715356260435866:PySem.Params->PySem.Obj:=PySem.W.boot_o_0
theorem PySem.W.Fast.te14598715356260435866:PySem.W.boot_o_0=PySem.W.Fast.tw14598715356260435866:=rfl
noncomputable def PySem.W.Fast.tw11741673931838579636:PySem.Program:=PySem.Challenge.pw_hushrow_k40_demands
theorem PySem.W.Fast.te11741673931838579636:PySem.Challenge.pw_hushrow_k40_demands=PySem.W.Fast.tw11741673931838579636:=rfl
lay_quick K40.lookL K40.lookR K40.lookM K40.lookS
name_quick K40lookL for K40.lookL by K40.lookL_self
name_quick K40lookR for K40.lookR by K40.lookR_self
name_quick K40lookM for K40.lookM by K40.lookM_self
name_quick K40lookS for K40.lookS by K40.lookS_self
namespace K40
open PySem L2 PySem.W
theorem qN:W.Fast.K40lookL=W.Fast.K40lookR:=by kernel_rfl
theorem p6:W.Fast.K40lookM=W.Fast.K40lookS:=by kernel_rfl
theorem r8:lookL=lookR:=W.Fast.K40lookL_eq.trans (qN.trans W.Fast.K40lookR_eq.symm)
theorem qY:lookM=lookS:=W.Fast.K40lookM_eq.trans (p6.trans W.Fast.K40lookS_eq.symm)
theorem yA (P:Params):absHeap (T₀ P) 11 {}=boot_heap P:=by kernel_rfl
theorem yU (w:World):((boot_heap w.params).isNs mainGlobals && (Array.mk []:Array GenState).size == 0,(boot_heap w.params).objs.size,(boot_heap w.params).nsMap mainGlobals "__annotations__")=(true,11,some (.ref 6)):=by kernel_rfl
theorem left:LeftO prog lL [] test hook.obs hook.val 11022:=Hd.xF (boot_open (p:=prog) (N:=11022) (by kernel_rfl) rfl (fun _=>rfl)) yU yA (fun w os=>congrFun (congrFun r8 w) os) (fun w os=>congrFun (congrFun qY w) os)
end K40
namespace L2
open PySem PySem.Spec PyProof.Rows
abbrev Key:=Sum Int Str
def oN:Key->Value->Bool
 | .inl k,v=>Value.isInt k v
 | .inr x,v=>Value.isStrOf x v
def Df (w:World):Key->Int
 | .inl k=>hashInt k
 | .inr x=>hashStr w x
theorem cA:∀{k:Key}{v:Value},oN k v=true->(∃i t,k=Sum.inl i/\v=Value.int i t) \/ (∃x t,k=Sum.inr x/\v=Value.str x t)
 | .inl i,v,h=>by
  obtain ⟨t,e⟩:=Value.isInt_shape (k:=i) (v:=v) h
  exact .inl ⟨i,t,rfl,e⟩
 | .inr x,v,h=>by
  obtain ⟨t,e⟩:=Value.isStrOf_shape (x:=x) (v:=v) h
  exact .inr ⟨x,t,rfl,e⟩
theorem uT (i:Int) (t:Tok):oN (.inl i) (.int i t)=true:=by simp [oN,Value.isInt]
theorem vG (x:Str) (t:Tok):oN (.inr x) (.str x t)=true:=by simp [oN,Value.isStrOf]
theorem zS (a b:Int):decide ((Sum.inl a:Key)=Sum.inl b)=(a == b):=by
 by_cases e:a=b
 ·subst e;simp
 ·have h:¬ (Sum.inl a:Key)=Sum.inl b:=fun q=>e (Sum.inl.inj q)
  rw [decide_eq_false h]
  exact (beq_eq_false_iff_ne.mpr e).symm
theorem zO (a b:Str):decide ((Sum.inr a:Key)=Sum.inr b)=decide (a=b):=by
 by_cases e:a=b
 ·subst e;simp
 ·have h:¬ (Sum.inr a:Key)=Sum.inr b:=fun q=>e (Sum.inr.inj q)
  rw [decide_eq_false h,decide_eq_false e]
theorem AH (a:Int) (b:Str):decide ((Sum.inl a:Key)=Sum.inr b)=false:=decide_eq_false (fun q=>nomatch q)
theorem Ag (a:Str) (b:Int):decide ((Sum.inr a:Key)=Sum.inl b)=false:=decide_eq_false (fun q=>nomatch q)
def cn (prog:Program) (w:World):PySem.KeyKind prog w Key where
 is:=oN
 hash:=Df w
 inj:=fun v a b ha hb=>by
  rcases cA ha with ⟨i,t,rfl,rfl⟩ | ⟨x,t,rfl,rfl⟩
  ·rcases cA hb with ⟨j,u,rfl,e⟩ | ⟨y,u,rfl,e⟩
   ·injection e with e1 _;rw [e1]
   ·exact nomatch e
  ·rcases cA hb with ⟨j,u,rfl,e⟩ | ⟨y,u,rfl,e⟩
   ·exact nomatch e
   ·injection e with e1 _;rw [e1]
 byValue:=fun k v h=>by
  rcases cA h with ⟨i,t,rfl,rfl⟩ | ⟨x,t,rfl,rfl⟩ <;> rfl
 pyHash:=fun hv h=>by
  rcases cA hv with ⟨i,t,rfl,rfl⟩ | ⟨x,t,rfl,rfl⟩
  ·exact wpAny_pyHash_int h
  ·exact wpAny_pyHash_str h
 eqBool:=fun hu hv h=>by
  rcases cA hu with ⟨i,t,rfl,rfl⟩ | ⟨x,t,rfl,rfl⟩
  ·rcases cA hv with ⟨j,u,rfl,rfl⟩ | ⟨y,u,rfl,rfl⟩
   ·rw [zS] at h;exact wpAny_eqBool_int h
   ·rw [AH] at h;exact SeqAt.EqAt.int_str i t y u _ _ _ _ h
  ·rcases cA hv with ⟨j,u,rfl,rfl⟩ | ⟨y,u,rfl,rfl⟩
   ·rw [Ag] at h;exact SeqAt.EqAt.str_int x t j u _ _ _ _ h
   ·rw [zO] at h;exact wpAny_eqBool_str h
 «strs»:=fun k x t v h=>by
  rcases cA h with ⟨i,u,rfl,e⟩ | ⟨y,u,rfl,e⟩
  ·exact nomatch e
  ·injection e with e1 _
   subst e1
   cases v <;> rfl
theorem rb (prog:Program) (w:World) (i:Int) (t:Tok):(cn prog w).is (.inl i) (.int i t)=true:=uT i t
theorem rH (prog:Program) (w:World) (x:Str) (t:Tok):(cn prog w).is (.inr x) (.str x t)=true:=vG x t
end L2
namespace L2
open PySem PySem.Spec PyProof.Rows
inductive V where
 | non | bl (b:Bool) | int (i:Int) | str (x:Str) | byt (b:Array UInt8) | flt (b:UInt64) | ref (a:Addr) | ty (n:String)
 deriving DecidableEq
def RelV:V->Value->Prop
 | .non,u=>u=Value.none
 | .bl b,u=>u=Value.bool b
 | .int i,u=>∃t,u=Value.int i t
 | .str x,u=>∃t,u=Value.str x t
 | .byt b,u=>∃t,u=Value.bytes b t
 | .flt b,u=>∃t,u=Value.float b t
 | .ref a,u=>u=Value.ref a
 | .ty n,u=>u=Value.type n
abbrev Vals:List V->List Value->Prop:=Paired RelV
theorem Vals.length {xs:List V}{us:List Value} (r:Vals xs us):xs.length=us.length:=Paired.length r
theorem Vals.get:∀{xs:List V}{us:List Value}{i:Nat}{x:V},Vals xs us->xs[i]?=some x->∃u,us[i]?=some u/\RelV x u
 | _,_,_,_,.nil,e=>by simp at e
 | _,_,0,_,.cons r _,e=>by simp at e;subst e;exact ⟨_,rfl,r⟩
 | _,_,i + 1,x,.cons _ t,e=>by
  obtain ⟨u,h1,h2⟩:=Vals.get (i:=i) (x:=x) t (by simpa using e)
  exact ⟨u,by simpa using h1,h2⟩
theorem Vals.set {x:V}{u:Value} (r:RelV x u):∀{xs:List V}{us:List Value} (i:Nat),Vals xs us->Vals (xs.set i x) (us.set i u)
 | _,_,_,.nil=>.nil
 | _,_,0,.cons _ t=>.cons r t
 | _,_,i + 1,.cons q t=>.cons q (Vals.set r i t)
theorem Vals.append:∀{xs ys:List V}{us ws:List Value},Vals xs us->Vals ys ws->Vals (xs ++ ys) (us ++ ws)
 | _,_,_,_,.nil,s=>s
 | _,_,_,_,.cons r t,s=>.cons r (Vals.append t s)
theorem Vals.take:∀{xs:List V}{us:List Value} (n:Nat),Vals xs us->Vals (xs.take n) (us.take n)
 | _,_,0,_=>.nil
 | _,_,_ + 1,.nil=>.nil
 | _,_,n + 1,.cons r t=>.cons r (Vals.take n t)
theorem Vals.drop:∀{xs:List V}{us:List Value} (n:Nat),Vals xs us->Vals (xs.drop n) (us.drop n)
 | _,_,0,r=>r
 | _,_,_ + 1,.nil=>.nil
 | _,_,n + 1,.cons _ t=>Vals.drop n t
def lA:Option V->Option Value->Prop
 | some v,some u=>RelV v u
 | none,none=>True
 | _,_=>False
def KV {κ:Type}:List (κ × V)->List (κ × Value)->Prop:=Paired fun (p:κ × V) (q:κ × Value)=>p.1=q.1/\RelV p.2 q.2
def kV:Key->V
 | .inl i=>.int i
 | .inr x=>.str x
inductive HO where
 | lst (xs:List V)
 | tup (xs:List V)
 | dK (kvs:List (Key × V)) | dT (kvs:List (List Key × V))
 | set (S:Int->Bool) (n:Nat)
 | ins (C dx:Addr) (fs:List (Str × V))
 | own (x:Addr)
 | xd (fs:List (Str × V))
 | met (f x:Addr)
 | rng (lo hi:Int)
 | frz (o:Obj) (u:HO)
 | tbl (ps:Array Value)
 | ext (φ:Heap->Prop)
abbrev Hp:=Addr->Option HO
def upd (H:Hp) (a:Addr) (o:HO):Hp:=fun b=>if b=a then some o else H b
theorem ak {H:Hp}{a:Addr}{o:HO}:upd H a o a=some o:=by unfold upd;rw [if_pos rfl]
theorem aw {H:Hp}{a b:Addr}{o:HO} (h:b ≠ a):upd H a o b=H b:=by unfold upd;rw [if_neg h]
theorem BK {H:Hp}{a b:Addr}{o u:HO} (h:H a=some o) (h':H b=some u) (d:o ≠ u):a ≠ b:=by
 intro e;subst e;rw [h] at h';exact d (Option.some.inj h')
theorem eB {H:Hp}{a b:Addr}{o:HO} (h:H a=some o) (h':H b=none):a ≠ b:=by
 intro e;subst e;rw [h] at h';cases h'
section
variable (P:Program) (w:World)
def cI (H:Hp) (h:Heap) (a:Addr):HO->Prop
 | .lst xs=>xs.length <= sizeLine/\∃(its:List Value) (n:Nat),Vals xs its/\h.get? a=some { cls:=.type "list",data:=.seq its.toArray n }
 | .tup xs=>xs.length <= sizeLine/\∃its:List Value,Vals xs its/\IsTup h a its.toArray
 | .dK kvs=>kvs.length <= sizeLine/\(a == sysModules)=false/\∃vs,KV kvs vs/\h.DictOf (cn P w) a vs
 | .dT kvs=>kvs.length <= sizeLine/\(a == sysModules)=false/\∃xs:List (List Key × Addr × Value),
   Paired (fun (p:List Key × V) (q:List Key × Addr × Value)=>p.1=q.1/\H q.2.1=some (.tup (p.1.map kV))/\RelV p.2 q.2.2) kvs xs /\
   ∃o es ep,h.get? a=some o/\o.ExactDict/\o.data=.dict es ep/\es.toList=xs.map (entryOfKey (tupleKind (cn P w)))/\(xs.map (·.1)).Nodup
 | .set S n=>h.SetOf (intKind P w) a S n
 | .ins C dx fs=>H dx=some (.own a)/\fs.length <= 1000/\dx ≠ a/\h.get? a=some (W.instObj C dx) /\
   ∃mA,h.Ns1 dx mA/\(∀f,lA (fs.lookup f) (mA f))/\PySem.Within mA (fs.map (·.1))
 | .own _=>∃o,h.get? a=some o
 | .xd fs=>∃mA,h.Ns1 a mA/\∀f,lA (fs.lookup f) (mA f)
 | .rng lo hi=>∃t u v,h.get? a=some { cls:=.type "range",data:=.fields #[.int lo t,.int hi u,.int 1 v] }
 | .frz o u=>h.get? a=some o/\cI H h a u
 | .tbl ps=>h.get? a=some { cls:=.none,data:=.fields ps }
 | .met f x=>h.get? a=some (W.methodObj (.ref f) (.ref x))
 | .ext φ=>φ h/\(∃o,h.get? a=some o)/\∀h1 h2:Heap,φ h1->(∀o,h1.get? a=some o->h2.get? a=some o)->φ h2
def HOk (H:Hp) (h:Heap):Prop:=∀a o,H a=some o->cI P w H h a o
end
section
variable {P:Program}{w:World}{H H':Hp}{h h':Heap}{a:Addr}{o:HO}
theorem cI.lt (x:cI P w H h a o):a < h.objs.size:=by
 cases o with
 | lst xs=>obtain ⟨_,_,_,_,e⟩:=x;exact Heap.lt_size e
 | tup xs=>obtain ⟨_,_,_,p⟩:=x;exact p.lt
 | dK kvs=>obtain ⟨_,_,_,_,o,_,_,e,_⟩:=x;exact Heap.lt_size e
 | dT kvs=>obtain ⟨_,_,_,_,o,_,_,e,_⟩:=x;exact Heap.lt_size e
 | set S n=>obtain ⟨o,_,_,_,e,_⟩:=x;exact Heap.lt_size e
 | ins C dx fs=>obtain ⟨_,_,_,e,_⟩:=x;exact Heap.lt_size e
 | own y=>obtain ⟨_,e⟩:=x;exact Heap.lt_size e
 | xd fs=>obtain ⟨_,⟨_,_,_,e,_⟩,_⟩:=x;exact Heap.lt_size e
 | rng lo hi=>obtain ⟨_,_,_,e⟩:=x;exact Heap.lt_size e
 | frz ob u=>obtain ⟨e,_⟩:=x;exact Heap.lt_size e
 | tbl ps=>exact Heap.lt_size (show h.get? a=some _ from x)
 | met f y=>exact Heap.lt_size (show h.get? a=some _ from x)
 | ext φ=>obtain ⟨_,⟨_,e⟩,_⟩:=x;exact Heap.lt_size e
theorem Paired.dC {α β:Type}{F G:α->β->Prop}:∀{l₁:List α}{l₂:List β},Paired F l₁ l₂->(∀a b,F a b->G a b)->Paired G l₁ l₂
 | _,_,.nil,_=>.nil
 | _,_,.cons r t,f=>.cons (f _ _ r) (Paired.dC t f)
theorem cI.sM (x:cI P w H h a o) (k:∀b u,(b=a \/ H b=some (.own a))->h.get? b=some u->h'.get? b=some u)
  (ho:∀b,H b=some (.own a)->H' b=some (.own a)) (ht:∀b xs,H b=some (.tup xs)->H' b=some (.tup xs)):cI P w H' h' a o:=by
 induction o with
 | lst xs=>obtain ⟨z,its,n,r,e⟩:=x;exact ⟨z,its,n,r,k _ _ (.inl rfl) e⟩
 | tup xs=>obtain ⟨z,its,r,ob,e,c⟩:=x;exact ⟨z,its,r,ob,k _ _ (.inl rfl) e,c⟩
 | dK kvs=>obtain ⟨z,y,vs,r,ob,es,ep,e,c⟩:=x;exact ⟨z,y,vs,r,ob,es,ep,k _ _ (.inl rfl) e,c⟩
 | dT kvs =>
  obtain ⟨z,y,xs,r,ob,es,ep,e,c⟩:=x
  exact ⟨z,y,xs,Paired.dC r fun p q z=>⟨z.1,ht _ _ z.2.1,z.2.2⟩,ob,es,ep,k _ _ (.inl rfl) e,c⟩
 | set S n=>obtain ⟨ob,es,ep,t,e,c⟩:=x;exact ⟨ob,es,ep,t,k _ _ (.inl rfl) e,c⟩
 | ins C dx fs =>
  obtain ⟨d,z,ne,e,mA,⟨od,es,ep,e2,c⟩,r⟩:=x
  exact ⟨ho _ d,z,ne,k _ _ (.inl rfl) e,mA,⟨od,es,ep,k _ _ (.inr d) e2,c⟩,r⟩
 | own y=>obtain ⟨ob,e⟩:=x;exact ⟨ob,k _ _ (.inl rfl) e⟩
 | xd fs=>obtain ⟨mA,⟨od,es,ep,e,c⟩,r⟩:=x;exact ⟨mA,⟨od,es,ep,k _ _ (.inl rfl) e,c⟩,r⟩
 | rng lo hi=>obtain ⟨t,u,v,e⟩:=x;exact ⟨t,u,v,k _ _ (.inl rfl) e⟩
 | frz ob u ih=>obtain ⟨e,q⟩:=x;exact ⟨k _ _ (.inl rfl) e,ih q⟩
 | tbl ps =>
  have e:h.get? a=some { cls:=.none,data:=.fields ps }:=x
  show h'.get? a=some { cls:=.none,data:=.fields ps }
  exact k a _ (.inl rfl) e
 | met f y =>
  have e:h.get? a=some (W.methodObj (.ref f) (.ref y)):=x
  show h'.get? a=some (W.methodObj (.ref f) (.ref y))
  exact k a _ (.inl rfl) e
 | ext φ=>obtain ⟨p,⟨o,e⟩,st⟩:=x;exact ⟨st _ _ p fun o q=>k _ _ (.inl rfl) q,⟨o,k _ _ (.inl rfl) e⟩,st⟩
theorem HOk.lt (x:HOk P w H h) (e:H a=some o):a < h.objs.size:=(x a o e).lt
theorem HOk.fresh (x:HOk P w H h) (e:h.objs.size <= a):H a=none:=by
 cases q:H a with
 | none=>rfl
 | some u=>exact absurd (Nat.lt_of_lt_of_le (x.lt q) e) (Nat.lt_irrefl _)
theorem HOk.kept (x:HOk P w H h) (k:∀b u,h.get? b=some u->h'.get? b=some u):HOk P w H h':=fun a o e =>
 (x a o e).sM (fun b u _ q=>k b u q) (fun _ q=>q) fun _ _ q=>q
theorem HOk.laid (x:HOk P w H h) (k:∀b u,h.get? b=some u->h'.get? b=some u) (hp:h.objs.size <= a) (new:cI P w (upd H a o) h' a o):HOk P w (upd H a o) h':=fun b u e=>by
 have hn:=x.fresh hp
 by_cases hb:b=a
 ·subst hb;rw [ak] at e;cases e;exact new
 ·rw [aw hb] at e
  exact (x b u e).sM (fun c v _ q=>k c v q) (fun c q=>by rw [aw (eB q hn)];exact q) fun c xs q=>by rw [aw (eB q hn)];exact q
end
def Rd (H:Hp) (a:Addr) (u:HO):Prop:=H a=some u \/ ∃o,H a=some (.frz o u)
theorem Rd.ok {P:Program}{w:World}{H:Hp}{h:Heap}{a:Addr}{u:HO} (r:Rd H a u) (x:HOk P w H h):cI P w H h a u:=by
 rcases r with r | ⟨o,r⟩
 ·exact x a u r
 ·obtain ⟨_,q⟩:=x a _ r
  exact q
def Mut:Option HO->Prop
 | some (.lst _)=>True
 | some (.dK _)=>True
 | some (.dT _)=>True
 | some (.set _ _)=>True
 | some (.ins _ _ _)=>True
 | some (.ext _)=>True
 | _=>False
section
variable {P:Program}{w:World}{H:Hp}{h h':Heap}{x e:Addr}{o':HO}
theorem HOk.write (ok:HOk P w H h) (mu:Mut (H x)) (he:e=x \/ H e=some (.own x)) (k:∀b u,b ≠ e->h.get? b=some u->h'.get? b=some u) (heo:∃u,h'.get? e=some u)
  (new:cI P w (upd H x o') h' x o'):HOk P w (upd H x o') h':=fun b u q=>by
 have nown:∀c y,H c=some (.own y)->c ≠ x:=fun c y r z=>by subst z;rw [r] at mu;exact mu
 have ntup:∀c xs,H c=some (.tup xs)->c ≠ x:=fun c xs r z=>by subst z;rw [r] at mu;exact mu
 by_cases hb:b=x
 ·subst hb;rw [ak] at q;cases q;exact new
 ·rw [aw hb] at q
  by_cases hbe:b=e
  ·have q':H b=some (.own x):=by
    rcases he with z | z
    ·exact absurd (hbe.trans z) hb
    ·rw [hbe];exact z
   rw [q] at q';cases q'
   obtain ⟨v,hv⟩:=heo
   exact ⟨v,by rw [hbe];exact hv⟩
  ·refine (ok b u q).sM (fun c v hc r=>k c v ?_ r) (fun c r=>by rw [aw (nown c b r)];exact r) fun c xs r=>by rw [aw (ntup c xs r)];exact r
   rcases hc with rfl | hc
   ·exact hbe
   ·rintro rfl
    rcases he with z | z
    ·exact nown c b hc z
    ·rw [hc] at z;cases z;exact hb rfl
end
structure Un (fs ex:List Addr) (H H':Hp) (h h':Heap):Prop where
 keep:∀b o,h.get? b=some o->H b=none->b ∉ fs->b ∉ ex->h'.get? b=some o
 slot:∀b o,h.get? b=some o->H b=none->b ∈ fs->b ∉ ex->∃sl,h'.get? b=some { o with slots:=sl }
 free:∀b o,h.get? b=some o->H b=none->b ∉ ex->H' b=none
 there:∀b o,h.get? b=some o->b ∉ ex->∃o',h'.get? b=some o'
 pK:∀b xs,H b=some (.tup xs)->H' b=some (.tup xs)
 oj:∀b o u,H b=some (.frz o u)->H' b=some (.frz o u)
 qf:∀b ps,H b=some (.tbl ps)->∃more,H' b=some (.tbl (ps ++ more))
section
variable {fs fs' ex ex':List Addr}{H H1 H2:Hp}{h h1 h2 h':Heap}{a x e:Addr}{o:HO}
theorem Un.any (u:Un fs ex H H1 h h1) {b:Addr}{ob:Obj} (q:h.get? b=some ob) (n:H b=none) (hx:b ∉ ex):∃sl,h1.get? b=some { ob with slots:=sl }:=by
 by_cases hb:b ∈ fs
 ·exact u.slot b ob q n hb hx
 ·exact ⟨ob.slots,u.keep b ob q n hb hx⟩
theorem Un.kept (k:∀b u,h.get? b=some u->h'.get? b=some u):Un fs ex H H h h' :=
 ⟨fun b ob q _ _ _=>k b ob q,fun b ob q _ _ _=>⟨ob.slots,k b ob q⟩,fun _ _ _ n _=>n,fun b ob q _=>⟨ob,k b ob q⟩,fun _ _ q=>q,fun _ _ _ q=>q,fun _ ps q=>⟨#[],by rw [q];simp⟩⟩
theorem Un.refl:Un fs ex H H h h:=Un.kept fun _ _ q=>q
theorem Un.laid (k:∀b u,h.get? b=some u->h'.get? b=some u) (hp:h.objs.size <= a) (hn:H a=none):Un fs ex H (upd H a o) h h' where
 keep:=fun b u q _ _ _=>k b u q
 slot:=fun b u q _ _ _=>⟨u.slots,k b u q⟩
 free:=fun b u q n _=>by rw [aw (Nat.ne_of_lt (Nat.lt_of_lt_of_le (Heap.lt_size q) hp))];exact n
 there:=fun b u q _=>⟨u,k b u q⟩
 pK:=fun b xs q=>by rw [aw (eB q hn)];exact q
 oj:=fun b u xs q=>by rw [aw (eB q hn)];exact q
 qf:=fun b ps q=>⟨#[],by rw [aw (eB q hn),q];simp⟩
theorem Un.write (mu:Mut (H x)) (he:e=x \/ H e=some (.own x)) (k:∀b u,b ≠ e->h.get? b=some u->h'.get? b=some u) (heo:∃u,h'.get? e=some u):Un fs ex H (upd H x o) h h':=by
 have hx:∀b,H b=none->b ≠ x:=fun b n z=>by subst z;rw [n] at mu;exact mu
 have hb:∀b,H b=none->b ≠ e:=fun b n z=>by
  subst z
  rcases he with r | r
  ·exact hx b n r
  ·rw [n] at r;cases r
 have hm:∀b u,H b=some u->¬ Mut (some u)->b ≠ x:=fun b u q nm z=>by subst z;rw [q] at mu;exact nm mu
 refine ⟨fun b u q n _ _=>k b u (hb b n) q,fun b u q n _ _=>⟨u.slots,k b u (hb b n) q⟩,fun b u q n _=>by rw [aw (hx b n)];exact n,fun b u q _=>?_,
  fun b xs q=>by rw [aw (hm b _ q fun z=>z)];exact q,fun b u xs q=>by rw [aw (hm b _ q fun z=>z)];exact q,fun b ps q=>⟨#[],by rw [aw (hm b _ q fun z=>z),q];simp⟩⟩
 by_cases hbe:b=e
 ·subst hbe;exact heo
 ·exact ⟨u,k b u hbe q⟩
end
def trk (h:Heap) (H:Hp):List Addr:=(List.range h.objs.size).filter fun a=>(H a).isSome
def qg (h:Heap) (H:Hp):Heap:=W.hideAll h (trk h H)
theorem vj (h:Heap) (H:Hp):(qg h H).objs.size=h.objs.size:=W.hideAll_size _ _
theorem xU {h:Heap}{H:Hp}{b:Addr}{o:Obj} (e:h.get? b=some o) (n:H b=none):(qg h H).get? b=some o :=
 W.hideAll_get _ e fun hm=>by
  have q:(H b).isSome=true:=(List.mem_filter.mp hm).2
  rw [n] at q;simp at q
theorem yp {h:Heap}{H:Hp}{b:Addr}{o:Obj} (e:(qg h H).get? b=some o):h.get? b=some o/\H b=none:=by
 have e':h.get? b=some o:=W.of_hideAll (trk h H) e
 refine ⟨e',?_⟩
 cases q:H b with
 | none=>rfl
 | some x =>
  have hm:b ∈ trk h H:=List.mem_filter.mpr ⟨List.mem_range.mpr (Heap.lt_size e'),by simp [q]⟩
  have z:(qg h H).get? b=none:=W.hideAll_none (trk h H) hm
  rw [z] at e;cases e
end L2
namespace L2
open PySem PySem.Spec PyProof.Rows
structure Mod (K:W.Frag) (mg:Str->Option Value) (base:Heap):Prop where
 kin:K.In base
 glob:base.Ns mainGlobals mg
 blt:∃mb,base.Ns builtinsNs mb/\∀x:Str,x ≠ "__name__"->mb x=bootBuiltins x
 nolimit:base.NoLimit
structure Cx where
 prog:Program
 w:World
 K:W.Frag
 mg:Str->Option Value
 base:Heap
 A:Around
 N:List Str
 s₀:Shared
 H₀:Hp
 env:Env
 outer:List Env
 stack:List Env
 ex:List Addr
 fn:Str->Bool
 calm:Bool
 pn:List (Addr × Obj)
 xe:Value->Shared->Prop
def frs (l:List Env):List Addr:=l.filterMap (·.frame)
abbrev Cx.fs (X:Cx):List Addr:=frs X.outer
def Vis (sc:Scope) (x:Str):Prop:=sc.names.lookup x=some .local \/ sc.names.lookup x=some .cell \/ sc.names.lookup x=some .free
def Loc (sc:Scope) (x:Str):Prop:=sc.names.lookup x=some .local \/ sc.names.lookup x=some .cell
def Look (env:Env) (h:Heap) (m:Str->Option Value) (x:Str) (u:Value):Prop :=
 (env.kindOf x=some .local/\m x=some u) \/ ((env.kindOf x=some .cell \/ env.kindOf x=some .free)/\∃c,env.cells.lookup x=some c/\h.IsCell c (some u))
structure Cx.Ok (X:Cx):Prop where
 mod:Mod X.K X.mg X.base
 kind:X.env.scope.kind=.function
 glob:X.env.globals=mainGlobals
 blt:X.env.builtins=builtinsNs
 above:X.s₀.heap.objs.size <= X.env.locals
 inj:∀x y c,X.env.cells.lookup x=some c->X.env.cells.lookup y=some c->x=y
 has:∀x,(X.env.kindOf x=some .cell \/ X.env.kindOf x=some .free)->∃c,X.env.cells.lookup x=some c
 cab:∀x c,X.fn x=true->X.env.cells.lookup x=some c->X.s₀.heap.objs.size <= c
 hd:X.calm=true->X.A.handled=none
 frames:X.A.frames=some X.stack
 stk:X.stack=X.outer \/ (X.stack=X.env :: X.outer/\X.env.frame=some X.env.locals)
 exf:∀b ∈ X.ex,b ≠ X.env.locals/\∀x c,X.env.cells.lookup x=some c->c ≠ b
 bs:∀b o,X.base.get? b=some o->X.s₀.heap.get? b=some o/\X.H₀ b=none
 bsz:X.base.objs.size <= X.s₀.heap.objs.size
 wX:∀b o,X.base.get? b=some o->b ∉ X.ex
 xw:∀b ∈ X.ex,b ∉ X.fs
 my:X.s₀.heap.FunFrames X.base X.outer
 frf:∀b ∈ X.fs,X.H₀ b=none
structure Inv (X:Cx) (pins:List (Addr × Obj)) (σ:List (Option V)) (H:Hp) (s:Shared):Prop where
 ok:X.Ok
 os:s.os=X.s₀.os
 bare:AllBare s.gens
 base:Un X.fs X.ex X.H₀ H X.s₀.heap s.heap
 loc:∃m,s.heap.Ns X.env.locals m/\∀(i:Nat) (x:Str) (v:V),X.N[i]?=some x->σ[i]?=some (some v)->Vis X.env.scope x->∃u,RelV v u/\Look X.env s.heap m x u
 cell:∀x c,X.env.cells.lookup x=some c->∃v,s.heap.IsCell c v
 free:H X.env.locals=none
 jd:∀x c,X.env.cells.lookup x=some c->H c=none
 pin:∀p ∈ X.pn ++ pins,s.heap.get? p.1=some p.2/\H p.1=none/\p.1 ≠ X.env.locals/\p.1 ∉ X.fs/\∀v,p.2.data ≠ .cell v
 hok:HOk X.prog X.w H s.heap
 len:σ.length=X.N.length
section
variable {X:Cx}{pins:List (Addr × Obj)}{σ:List (Option V)}{H H':Hp}{s:Shared}{h':Heap}
theorem Cx.Ok.CN (ok:X.Ok) {b:Addr}{o:Obj} (e:X.base.get? b=some o):b ∉ X.fs:=fun hb=>by
 have:=(ok.my.mem hb).1
 rw [e] at this;cases this
theorem Inv.bs (I:Inv X pins σ H s):∀b o,X.base.get? b=some o->s.heap.get? b=some o/\H b=none:=fun b o e =>
 ⟨I.base.keep b o (I.ok.bs b o e).1 (I.ok.bs b o e).2 (I.ok.CN e) (I.ok.wX b o e),I.base.free b o (I.ok.bs b o e).1 (I.ok.bs b o e).2 (I.ok.wX b o e)⟩
theorem Inv.bk (I:Inv X pins σ H s):∀b o,X.base.get? b=some o->s.heap.get? b=some o:=fun b o e=>(I.bs b o e).1
theorem Inv.mod (I:Inv X pins σ H s):Mod X.K X.mg X.base:=I.ok.mod
theorem Inv.kIn (I:Inv X pins σ H s):X.K.In s.heap:=I.ok.mod.kin.keeps I.bk
theorem Inv.lt (I:Inv X pins σ H s):X.env.locals < s.heap.objs.size:=let ⟨_,hn,_⟩:=I.loc;hn.lt
theorem Inv.sz (I:Inv X pins σ H s):X.s₀.heap.objs.size <= s.heap.objs.size:=Nat.le_trans I.ok.above (Nat.le_of_lt I.lt)
theorem Inv.BA (I:Inv X pins σ H s) {a:Addr} (h:s.heap.objs.size <= a):a ∉ X.fs:=fun hb=>by
 obtain ⟨_,o,ho,_⟩:=I.ok.my.mem hb
 exact absurd (Nat.lt_of_lt_of_le (Heap.lt_size ho) (Nat.le_trans I.sz h)) (Nat.lt_irrefl _)
theorem Inv.cne (I:Inv X pins σ H s):∀x c,X.env.cells.lookup x=some c->c ≠ X.env.locals:=fun x c e z=>by
 obtain ⟨v,o,ho,hd⟩:=I.cell x c e
 obtain ⟨m,⟨o',es,ep,ho',hd',_⟩,_⟩:=I.loc
 rw [z,ho'] at ho;cases ho;rw [hd'] at hd;cases hd
theorem Inv.my (I:Inv X pins σ H s):s.heap.FunFrames X.base X.outer:=by
 have all:∀(l:List Env),(∀b ∈ frs l,b ∈ X.fs)->X.s₀.heap.FunFrames X.base l->s.heap.FunFrames X.base l:=by
  intro l
  induction l with
  | nil=>intro _ _;trivial
  | cons env r ih =>
   intro hs hl
   obtain ⟨hk,⟨L,o,hf,hn,ho,hd⟩,hr⟩:=hl
   have hL:L ∈ X.fs:=hs L (by unfold frs;rw [List.filterMap_cons,hf];exact List.mem_cons_self)
   obtain ⟨sl,e⟩:=I.base.slot L o ho (I.ok.frf L hL) hL fun z=>I.ok.xw L z hL
   exact ⟨hk,⟨L,_,hf,hn,e,hd⟩,ih (fun b hb=>hs b (by unfold frs;rw [List.filterMap_cons,hf];exact List.mem_cons_of_mem _ hb)) hr⟩
 exact all X.outer (fun _ hb=>hb) I.ok.my
theorem Inv.stack (I:Inv X pins σ H s):s.heap.FunFrames X.base X.stack:=by
 rcases I.ok.stk with e | ⟨e,hf⟩
 ·rw [e];exact I.my
 ·rw [e]
  obtain ⟨m,hn,_⟩:=I.loc
  refine .cons (by rw [I.ok.kind];decide) hf hn ?_ I.my
  exact Heap.get?_none_of_le (Nat.le_trans I.ok.bsz I.ok.above)
theorem Inv.sW (I:Inv X pins σ H s):∀b ∈ frs X.stack,b ∈ X.env.locals :: X.fs:=fun b hb=>by
 rcases I.ok.stk with e | ⟨e,hf⟩
 ·rw [e] at hb;exact List.mem_cons_of_mem _ hb
 ·rw [e] at hb
  unfold frs at hb
  rw [List.filterMap_cons,hf] at hb
  exact hb
theorem Inv.uo (I:Inv X pins σ H s):∀b ∈ frs X.stack,H b=none:=fun b hb=>by
 rcases List.mem_cons.mp (I.sW b hb) with e | hb
 ·rw [e];exact I.free
 ·obtain ⟨_,o,ho,_⟩:=I.ok.my.mem hb
  exact I.base.free b o ho (I.ok.frf b hb) fun z=>I.ok.xw b z hb
theorem Inv.step {g':Array GenState}{t':Nat}{d':Drawn}{ch:List Addr} (I:Inv X pins σ H s)
  (hch:∀b ∈ ch,(b ∈ X.ex \/ X.s₀.heap.objs.size <= b)/\b ≠ X.env.locals/\(∀x c,X.env.cells.lookup x=some c->c ≠ b)/\∀p ∈ X.pn ++ pins,p.1 ≠ b)
  (keep:∀b o,b ≠ X.env.locals->b ∉ X.fs->b ∉ ch->s.heap.get? b=some o->H b=none->h'.get? b=some o)
  (slot:∀b o,b ≠ X.env.locals->b ∈ X.fs->b ∉ ch->s.heap.get? b=some o->H b=none->∃sl,h'.get? b=some { o with slots:=sl }) (free:∀b o,b ∉ ch->s.heap.get? b=some o->H b=none->H' b=none)
  (there:∀b o,b ∉ ch->s.heap.get? b=some o->∃o',h'.get? b=some o')
  (pK:∀b xs,H b=some (.tup xs)->H' b=some (.tup xs)) (oj:∀b o u,H b=some (.frz o u)->H' b=some (.frz o u)) (qf:∀b ps,H b=some (.tbl ps)->∃more,H' b=some (.tbl (ps ++ more)))
  (ns:∀m,s.heap.Ns X.env.locals m->h'.Ns X.env.locals m) (hok:HOk X.prog X.w H' h') (hg:AllBare g') :
  Inv X pins σ H' { s with heap:=h',gens:=g',drawn:=d',toks:=t' }:=by
 have neL:∀b o,X.s₀.heap.get? b=some o->b ≠ X.env.locals:=fun b o e=>Nat.ne_of_lt (Nat.lt_of_lt_of_le (Heap.lt_size e) I.ok.above)
 have neC:∀b o,X.s₀.heap.get? b=some o->b ∉ X.ex->b ∉ ch:=fun b o e hx hb=>by
  rcases (hch b hb).1 with z | z
  ·exact hx z
  ·exact absurd (Nat.lt_of_lt_of_le (Heap.lt_size e) z) (Nat.lt_irrefl _)
 have cellK:∀x c,X.env.cells.lookup x=some c->∀v,s.heap.IsCell c v->h'.IsCell c v:=fun x c e v ⟨o,ho,hd⟩=>by
  have nch:c ∉ ch:=fun z=>(hch c z).2.2.1 x c e rfl
  by_cases hc:c ∈ X.fs
  ·obtain ⟨sl,q⟩:=slot c o (I.cne x c e) hc nch ho (I.jd x c e)
   exact ⟨_,q,hd⟩
  ·exact ⟨o,keep c o (I.cne x c e) hc nch ho (I.jd x c e),hd⟩
 refine ⟨I.ok,I.os,hg,⟨fun b o e n hb hx=>?_,fun b o e n hb hx=>?_,fun b o e n hx=>?_,fun b o e hx=>?_,fun b xs e=>pK b xs (I.base.pK b xs e),fun b o xs e=>oj b o xs (I.base.oj b o xs e),fun b ps e=>?_⟩,?_,fun x c e=>?_,?_,fun x c e=>?_,fun p hp=>?_,hok,I.len⟩
 ·exact keep b o (neL b o e) hb (neC b o e hx) (I.base.keep b o e n hb hx) (I.base.free b o e n hx)
 ·obtain ⟨sl,e1⟩:=I.base.slot b o e n hb hx
  obtain ⟨sl',e2⟩:=slot b _ (neL b o e) hb (neC b o e hx) e1 (I.base.free b o e n hx)
  exact ⟨sl',e2⟩
 ·obtain ⟨o',e1⟩:=I.base.there b o e hx
  exact free b o' (neC b o e hx) e1 (I.base.free b o e n hx)
 ·obtain ⟨o',e1⟩:=I.base.there b o e hx
  exact there b o' (neC b o e hx) e1
 ·obtain ⟨m1,e1⟩:=I.base.qf b ps e
  obtain ⟨m2,e2⟩:=qf b _ e1
  exact ⟨m1 ++ m2,by rw [e2,Array.append_assoc]⟩
 ·obtain ⟨m,hn,hl⟩:=I.loc
  refine ⟨m,ns m hn,fun i x v e1 e2 e3=>?_⟩
  obtain ⟨u,r,l⟩:=hl i x v e1 e2 e3
  refine ⟨u,r,?_⟩
  rcases l with l | ⟨k,c,e,z⟩
  ·exact .inl l
  ·exact .inr ⟨k,c,e,cellK x c e _ z⟩
 ·obtain ⟨v,z⟩:=I.cell x c e
  exact ⟨v,cellK x c e v z⟩
 ·obtain ⟨m,⟨o,_,_,ho,_⟩,_⟩:=I.loc
  exact free _ o (fun z=>(hch _ z).2.1 rfl) ho I.free
 ·obtain ⟨v,o,ho,hd⟩:=I.cell x c e
  exact free c o (fun z=>(hch c z).2.2.1 x c e rfl) ho (I.jd x c e)
 ·obtain ⟨e,n,ne,nf,d⟩:=I.pin p hp
  have nch:p.1 ∉ ch:=fun z=>(hch p.1 z).2.2.2 p hp rfl
  exact ⟨keep p.1 p.2 ne nf nch e n,free p.1 p.2 nch e n,ne,nf,d⟩
theorem Inv.un {t':Nat} (I:Inv X pins σ H s) (u:Un X.fs [] H H' s.heap h') (hok:HOk X.prog X.w H' h'):Inv X pins σ H' { s with heap:=h',toks:=t' }:=by
 obtain ⟨m,⟨o,es,ep,ho,r⟩,_⟩:=id I.loc
 obtain ⟨sl,hL⟩:=u.any ho I.free (by simp)
 exact I.step (g':=s.gens) (d':=s.drawn) (ch:=[]) (fun _ z=>nomatch z) (fun b o _ hb _ e n=>u.keep b o e n hb (by simp)) (fun b o _ hb _ e n=>u.slot b o e n hb (by simp)) (fun b o _ e n=>u.free b o e n (by simp)) (fun b o _ e=>u.there b o e (by simp)) u.pK u.oj u.qf (fun m' hm=>by
  obtain ⟨o',es',ep',ho',r'⟩:=hm
  rw [ho] at ho';cases ho'
  exact ⟨_,es',ep',hL,r'⟩) hok I.bare
theorem Inv.call {g':Array GenState}{t':Nat}{d':Drawn}{ch:List Addr} (I:Inv X pins σ H s) (u:Un (frs X.stack) ch H H' s.heap h') (hok:HOk X.prog X.w H' h') (hg:AllBare g')
  (hch:∀b ∈ ch,(b ∈ X.ex \/ X.s₀.heap.objs.size <= b)/\b ≠ X.env.locals/\(∀x c,X.env.cells.lookup x=some c->c ≠ b)/\∀p ∈ X.pn ++ pins,p.1 ≠ b) :
  Inv X pins σ H' { s with heap:=h',gens:=g',drawn:=d',toks:=t' }:=by
 obtain ⟨m,⟨o,es,ep,ho,r⟩,_⟩:=id I.loc
 obtain ⟨sl,hL⟩:=u.any ho I.free fun z=>(hch _ z).2.1 rfl
 exact I.step (ch:=ch) hch (fun b o hL hb hc e n=>u.keep b o e n (fun z=>(List.mem_cons.mp (I.sW b z)).elim hL hb) hc) (fun b o _ _ hc e n=>u.any e n hc) (fun b o hc e n=>u.free b o e n hc) (fun b o hc e=>u.there b o e hc) u.pK u.oj u.qf (fun m' hm=>by
  obtain ⟨o',es',ep',ho',r'⟩:=hm
  rw [ho] at ho';cases ho'
  exact ⟨_,es',ep',hL,r'⟩) hok hg
theorem Inv.turned {t':Nat}{it:Addr} (I:Inv X pins σ H s) (k:∀b o,b ≠ it->s.heap.get? b=some o->h'.get? b=some o) (hn:H it=none) (hL:it ≠ X.env.locals)
  (h1:it ∈ X.ex \/ X.s₀.heap.objs.size <= it) (h2:∀x c,X.env.cells.lookup x=some c->c ≠ it) (h3:∀p ∈ X.pn ++ pins,p.1 ≠ it):Inv X pins σ H { s with heap:=h',toks:=t' }:=by
 have nit:∀b u,H b=some u->b ≠ it:=fun b u e z=>by rw [z,hn] at e;cases e
 refine I.step (g':=s.gens) (d':=s.drawn) (ch:=[it]) (fun b hb=>?_) (fun b o _ _ hc e _=>k b o (fun z=>hc (by simp [z])) e) (fun b o _ _ hc e _=>⟨o.slots,k b o (fun z=>hc (by simp [z])) e⟩) (fun _ _ _ _ n=>n)
  (fun b o hc e=>⟨o,k b o (fun z=>hc (by simp [z])) e⟩) (fun _ _ e=>e) (fun _ _ _ e=>e) (fun b ps e=>⟨#[],by rw [e];simp⟩) (fun m hm=>?_) (fun b u e=>?_) I.bare
 ·have e:b=it:=by simpa using hb
  subst e
  exact ⟨h1,hL,h2,h3⟩
 ·obtain ⟨o,es,ep,ho,r⟩:=hm
  exact ⟨o,es,ep,k _ o (Ne.symm hL) ho,r⟩
 ·refine (I.hok b u e).sM (fun c v hc q=>k c v ?_ q) (fun _ q=>q) fun _ _ q=>q
  rcases hc with z | z
  ·rw [z];exact nit b u e
  ·exact nit c _ z
theorem Inv.tok (I:Inv X pins σ H s) (t:Nat):Inv X pins σ H { s with toks:=t }:=I.un (h':=s.heap) (t':=t) Un.refl I.hok
theorem Inv.kept {t':Nat} (I:Inv X pins σ H s) (k:∀b u,s.heap.get? b=some u->h'.get? b=some u):Inv X pins σ H { s with heap:=h',toks:=t' }:=I.un (Un.kept k) (I.hok.kept k)
theorem Inv.laid {a:Addr}{o:HO}{t':Nat} (I:Inv X pins σ H s) (k:∀b u,s.heap.get? b=some u->h'.get? b=some u) (hp:s.heap.objs.size <= a) (new:cI X.prog X.w (upd H a o) h' a o) :
  Inv X pins σ (upd H a o) { s with heap:=h',toks:=t' }:=I.un (Un.laid k hp (I.hok.fresh hp)) (I.hok.laid k hp new)
theorem Inv.write {x e:Addr}{o:HO}{t':Nat} (I:Inv X pins σ H s) (mu:Mut (H x)) (he:e=x \/ H e=some (.own x)) (k:∀b u,b ≠ e->s.heap.get? b=some u->h'.get? b=some u) (heo:∃u,h'.get? e=some u)
  (new:cI X.prog X.w (upd H x o) h' x o):Inv X pins σ (upd H x o) { s with heap:=h',toks:=t' }:=I.un (Un.write mu he k heo) (I.hok.write mu he k heo new)
theorem Inv.pI {pins':List (Addr × Obj)} (I:Inv X pins σ H s) (h:∀p ∈ pins',s.heap.get? p.1=some p.2/\H p.1=none/\p.1 ≠ X.env.locals/\p.1 ∉ X.fs/\∀v,p.2.data ≠ .cell v):Inv X pins' σ H s :=
 ⟨I.ok,I.os,I.bare,I.base,I.loc,I.cell,I.free,I.jd,fun p hp=>(List.mem_append.mp hp).elim (fun z=>I.pin p (List.mem_append_left _ z)) (h p),I.hok,I.len⟩
theorem rB {N:List Str} (hN:N.Nodup) {i j:Nat}{x:Str} (a:N[i]?=some x) (b:N[j]?=some x):i=j:=by
 obtain ⟨h1,e1⟩:=List.getElem?_eq_some_iff.mp a
 obtain ⟨h2,e2⟩:=List.getElem?_eq_some_iff.mp b
 exact (List.getElem_inj hN).mp (e1.trans e2.symm)
theorem vc {M:Model}{A:Around}{E:Value->Shared->Prop}{i:Nat}{x:Str}{v:V}{u:Value}{Q:Unit->Shared->Prop} (I:Inv X pins σ H s) (hN:X.N.Nodup) (hi:X.N[i]?=some x) (hx:Loc X.env.scope x) (r:RelV v u)
  (h:∀s',Inv X pins (σ.set i (some v)) H s'->(∃a,Heap.SameBut a s.heap s'.heap/\(a=X.env.locals \/ X.env.cells.lookup x=some a))->Q () s') (hf:X.fn x=true \/ X.env.scope.names.lookup x=some .local:=by first | exact .inl rfl | exact .inr rfl | assumption):wpAny M A (storeName X.env x u) Q E s:=by
 obtain ⟨m,hn,hl⟩:=id I.loc
 have hcls:(X.env.scope.kind == .class || (X.env.scope.kind == .module && X.env.locals != X.env.globals))=false:=by rw [I.ok.kind];rfl
 have hiσ:i < σ.length:=by rw [I.len];exact (List.getElem?_eq_some_iff.mp hi).1
 have cne:=I.cne
 have tracked:∀{a:Addr}{h':Heap},(∃o,s.heap.get? a=some o/\H a=none)->Heap.SameBut a s.heap h'->HOk X.prog X.w H h':=fun {a h'} ha hs b ob e=>by
  obtain ⟨_,_,hfree⟩:=ha
  refine (I.hok b ob e).sM (fun c w' hc q=>(hs.2 c ?_).trans q) (fun _ q=>q) fun _ _ q=>q
  rintro rfl
  rcases hc with rfl | hc
  ·rw [hfree] at e;cases e
  ·rw [hfree] at hc;cases hc
 rcases hx with hk | hk
 ·refine wpAny_storeName_local hk hn (fun h' hn' hs=>?_) hcls
  obtain ⟨oL,_,_,hoL,_⟩:=id hn
  refine h _ ⟨I.ok,I.os,I.bare,⟨fun b o e n hb hx=>?_,fun b o e n hb hx=>?_,I.base.free,fun b o e hx=>?_,I.base.pK,I.base.oj,I.base.qf⟩,⟨_,hn',fun j y v' e1 e2 e3=>?_⟩,fun y c e=>?_,I.free,I.jd,fun p hp=>?_,tracked ⟨oL,hoL,I.free⟩ hs,by simpa using I.len⟩ ⟨_,hs,.inl rfl⟩
  ·exact (hs.2 b (Nat.ne_of_lt (Nat.lt_of_lt_of_le (Heap.lt_size e) I.ok.above))).trans (I.base.keep b o e n hb hx)
  ·obtain ⟨sl,e1⟩:=I.base.slot b o e n hb hx
   exact ⟨sl,(hs.2 b (Nat.ne_of_lt (Nat.lt_of_lt_of_le (Heap.lt_size e) I.ok.above))).trans e1⟩
  ·obtain ⟨o',e1⟩:=I.base.there b o e hx
   exact ⟨o',(hs.2 b (Nat.ne_of_lt (Nat.lt_of_lt_of_le (Heap.lt_size e) I.ok.above))).trans e1⟩
  ·by_cases hj:j=i
   ·subst hj
    rw [hi] at e1;cases e1
    rw [List.getElem?_set_self hiσ] at e2
    cases e2
    exact ⟨u,r,.inl ⟨hk,by simp⟩⟩
   ·rw [List.getElem?_set_ne (Ne.symm hj)] at e2
    obtain ⟨u',r',q⟩:=hl j y v' e1 e2 e3
    refine ⟨u',r',?_⟩
    rcases q with ⟨k,e⟩ | ⟨k,c,e,z⟩
    ·refine .inl ⟨k,?_⟩
     have:y ≠ x:=fun e=>hj (rB hN e1 (e ▸ hi))
     simp [this,e]
    ·exact .inr ⟨k,c,e,z.sameBut hs (cne y c e)⟩
  ·obtain ⟨w',z⟩:=I.cell y c e
   exact ⟨w',z.sameBut hs (cne y c e)⟩
  ·obtain ⟨e,n,ne,nf,d⟩:=I.pin p hp
   exact ⟨(hs.2 p.1 ne).trans e,n,ne,nf,d⟩
 ·have hfn:X.fn x=true:=by
   rcases hf with z | z
   ·exact z
   ·rw [z] at hk;cases hk
  obtain ⟨c,hc⟩:=I.ok.has x (.inl hk)
  obtain ⟨w',z⟩:=I.cell x c hc
  refine wpAny_storeName_cell I.ok.kind hk hc z (fun h' hc' hs=>?_)
  obtain ⟨oc,hoc,hocd⟩:=id z
  refine h { s with heap:=h' } ⟨I.ok,I.os,I.bare,⟨fun b o e n hb hx=>?_,fun b o e n hb hx=>?_,I.base.free,fun b o e hx=>?_,I.base.pK,I.base.oj,I.base.qf⟩,⟨m,hn.sameBut hs (Ne.symm (cne x c hc)),fun j y v' e1 e2 e3=>?_⟩,fun y c' e=>?_,I.free,I.jd,fun p hp=>?_,tracked ⟨oc,hoc,I.jd x c hc⟩ hs,by simpa using I.len⟩ ⟨c,hs,.inr hc⟩
  ·exact (hs.2 b (Nat.ne_of_lt (Nat.lt_of_lt_of_le (Heap.lt_size e) (I.ok.cab x c hfn hc)))).trans (I.base.keep b o e n hb hx)
  ·obtain ⟨sl,e1⟩:=I.base.slot b o e n hb hx
   exact ⟨sl,(hs.2 b (Nat.ne_of_lt (Nat.lt_of_lt_of_le (Heap.lt_size e) (I.ok.cab x c hfn hc)))).trans e1⟩
  ·obtain ⟨o',e1⟩:=I.base.there b o e hx
   exact ⟨o',(hs.2 b (Nat.ne_of_lt (Nat.lt_of_lt_of_le (Heap.lt_size e) (I.ok.cab x c hfn hc)))).trans e1⟩
  ·by_cases hj:j=i
   ·subst hj
    rw [hi] at e1;cases e1
    rw [List.getElem?_set_self hiσ] at e2
    cases e2
    exact ⟨u,r,.inr ⟨.inl hk,c,hc,hc'⟩⟩
   ·rw [List.getElem?_set_ne (Ne.symm hj)] at e2
    obtain ⟨u',r',q⟩:=hl j y v' e1 e2 e3
    refine ⟨u',r',?_⟩
    rcases q with q | ⟨k,c',e,z'⟩
    ·exact .inl q
    ·refine .inr ⟨k,c',e,z'.sameBut hs ?_⟩
     rintro rfl
     exact hj (rB hN e1 (I.ok.inj _ _ _ e hc ▸ hi))
  ·by_cases hcc:c'=c
   ·subst hcc;exact ⟨_,hc'⟩
   ·obtain ⟨w2,z2⟩:=I.cell y c' e
    exact ⟨w2,z2.sameBut hs hcc⟩
  ·obtain ⟨e,n,ne,nf,d⟩:=I.pin p hp
   refine ⟨(hs.2 p.1 ?_).trans e,n,ne,nf,d⟩
   intro q
   rw [q,hoc] at e
   have q':oc=p.2:=Option.some.inj e
   exact d w' (by rw [<- q'];exact hocd)
theorem qp {M:Model}{A:Around}{E:Value->Shared->Prop}{i:Nat}{x:Str}{v:V}{u:Value}{Q:Unit->Shared->Prop} (I:Inv X pins σ H s) (hN:X.N.Nodup) (hi:X.N[i]?=some x) (hx:Loc X.env.scope x) (r:RelV v u)
  (h:∀s',Inv X pins (σ.set i (some v)) H s'->Q () s') (hf:X.fn x=true \/ X.env.scope.names.lookup x=some .local:=by first | exact .inl rfl | exact .inr rfl | assumption):wpAny M A (storeName X.env x u) Q E s :=
 vc I hN hi hx r (fun s' I' _=>h s' I') hf
theorem Inv.Bd {s':Shared}{ch:List Addr} (I:Inv X pins σ H s) (ho:s'.os=s.os) (u:Un (frs X.stack) ch H H' s.heap s'.heap) (hok:HOk X.prog X.w H' s'.heap) (hg:AllBare s'.gens)
  (hch:∀b ∈ ch,(b ∈ X.ex \/ X.s₀.heap.objs.size <= b)/\b ≠ X.env.locals/\(∀x c,X.env.cells.lookup x=some c->c ≠ b)/\∀p ∈ X.pn ++ pins,p.1 ≠ b):Inv X pins σ H' s':=by
 obtain ⟨h',g',d',t',o'⟩:=s'
 have e:o'=s.os:=ho
 subst e
 exact I.call (g':=g') (t':=t') (d':=d') u hok hg hch
end
abbrev XK:=Value->Option Addr->Hp->Prop
abbrev St:=List (Option V)
abbrev VK:=V->Hp->Prop
abbrev TE:=St->Hp->VK->Prop
abbrev TT:=St->Hp->(Bool->Hp->Prop)->Prop
abbrev TA:=St->Hp->(List V->Hp->Prop)->Prop
structure Ends where
 nx:St->Hp->Prop
 rt:VK
 bk:St->Hp->Prop:=fun _ _=>False
 ct:St->Hp->Prop:=fun _ _=>False
abbrev TS:=Ends->St->Hp->Prop
def EP (X:Cx) (pins:List (Addr × Obj)) (σ:St) (Q:VK) (u:Value) (s':Shared):Prop:=∃v H',Inv X pins σ H' s'/\RelV v u/\Q v H'
def TP (X:Cx) (pins:List (Addr × Obj)) (σ:St) (Q:Bool->Hp->Prop) (b:Bool) (s':Shared):Prop:=∃H',Inv X pins σ H' s'/\Q b H'
def AP (X:Cx) (pins:List (Addr × Obj)) (σ:St) (Q:List V->Hp->Prop) (us:List Value) (s':Shared):Prop:=∃vs H',Inv X pins σ H' s'/\Vals vs us/\Q vs H'
def SP (X:Cx) (pins:List (Addr × Obj)) (D:Ends) (f:Flow) (s':Shared):Prop :=
 match f with
 | .next=>∃σ' H',Inv X pins σ' H' s'/\D.nx σ' H'
 | .brk=>∃σ' H',Inv X pins σ' H' s'/\D.bk σ' H'
 | .cont=>∃σ' H',Inv X pins σ' H' s'/\D.ct σ' H'
 | .ret u=>∃v σ' H',Inv X pins σ' H' s'/\RelV v u/\D.rt v H'
def PE (X:Cx) (e:Expr) (t:TE):Prop :=
 ∀(pins:List (Addr × Obj)) (s:Shared) (σ:St) (H:Hp) (Q:VK),Inv X pins σ H s->t σ H Q->wpAny (model X.prog X.w) X.A (eval e X.env) (EP X pins σ Q) X.xe s
def PT (X:Cx) (e:Expr) (t:TT):Prop :=
 ∀(pins:List (Addr × Obj)) (s:Shared) (σ:St) (H:Hp) (Q:Bool->Hp->Prop),Inv X pins σ H s->t σ H Q->wpAny (model X.prog X.w) X.A (isTrue e X.env (eval e X.env)) (TP X pins σ Q) X.xe s
def PW (X:Cx) (e:Expr) (t:TT):Prop :=
 ∀(whole:Sem Value) (pins:List (Addr × Obj)) (s:Shared) (σ:St) (H:Hp) (Q:Bool->Hp->Prop),Inv X pins σ H s->t σ H Q->wpAny (model X.prog X.w) X.A (isTrue e X.env whole) (TP X pins σ Q) X.xe s
theorem PW.pt {X:Cx}{e:Expr}{t:TT} (h:PW X e t):PT X e t:=h _
def PA (X:Cx) (es:List Expr) (t:TA):Prop :=
 ∀(pos:Pos) (pins:List (Addr × Obj)) (s:Shared) (σ:St) (H:Hp) (Q:List V->Hp->Prop),Inv X pins σ H s->t σ H Q->wpAny (model X.prog X.w) X.A (spliced (backTo pos (starEach es X.env))) (AP X pins σ Q) X.xe s
def PS (X:Cx) (st:Stmt) (t:TS):Prop :=
 ∀(pins:List (Addr × Obj)) (s:Shared) (σ:St) (H:Hp) (D:Ends),Inv X pins σ H s->t D σ H->wpAny (model X.prog X.w) X.A (exec st X.env) (SP X pins D) X.xe s
def PSs (X:Cx) (st:List Stmt) (t:TS):Prop :=
 ∀(pins:List (Addr × Obj)) (s:Shared) (σ:St) (H:Hp) (D:Ends),Inv X pins σ H s->t D σ H->wpAny (model X.prog X.w) X.A (execs st X.env) (SP X pins D) X.xe s
theorem thn {α:Type}{t:Sem α}{Q Q':α->Shared->Prop}{M:Model}{A:Around}{E:Value->Shared->Prop}{s:Shared} (h:wpAny M A t Q E s) (hQ:∀a s,Q a s->Q' a s):wpAny M A t Q' E s:=wpAny_mono h hQ fun _ _ x=>x
end L2
namespace L2
open PySem PySem.Spec PyProof.Rows
section
variable {X:Cx}
def C3 (i:Nat):TE:=fun σ H Q=>∃v,σ[i]?=some (some v)/\Q v H
def tC (v:V):TE:=fun _ H Q=>Q v H
theorem As {i:Nat}{x:Str}{pos:Pos} (hN:X.N[i]?=some x) (hv:Vis X.env.scope x) (hd:(x == ("__debug__":Str))=false:=by decide) (hcd:(x == ("__classdict__":Str))=false:=by decide):PE X (.Name x pos) (C3 i):=by
 intro pins s σ H Q I h
 obtain ⟨v,e,h⟩:=h
 obtain ⟨m,hn,hl⟩:=I.loc
 obtain ⟨u,r,l⟩:=hl i x v hN e hv
 have fin:EP X pins σ Q u s:=⟨v,H,I,r,h⟩
 rcases l with ⟨hk,hm⟩ | ⟨hk,c,hc,hcell⟩
 ·exact wpAny_Name (wpAny_loadName_local I.ok.kind hk hn hm fin) hd
 ·rcases hk with hk | hk
  ·exact wpAny_Name (wpAny_loadName_cell I.ok.kind hk hc hcell fin) hd
  ·exact wpAny_Name (wpAny_loadName_free I.ok.kind hk hc hcell fin hcd) hd
theorem ab {i j pos}:PE X (.Constant (.int i) j pos) (tC (.int i)):=fun _ _ _ H _ I h=>wpAny_Constant_int ⟨.int i,H,I.tok _,⟨_,rfl⟩,h⟩
theorem j9 {b j pos}:PE X (.Constant (.bool b) j pos) (tC (.bl b)):=fun _ _ _ H _ I h=>Constant_bool ⟨.bl b,H,I,rfl,h⟩
theorem jf {j pos}:PE X (.Constant .none j pos) (tC .non):=fun _ _ _ H _ I h=>Constant_none ⟨.non,H,I,rfl,h⟩
theorem aj {x j pos}:PE X (.Constant (.str x) j pos) (tC (.str x)):=fun _ _ _ H _ I h=>Calls.Constant_str ⟨.str x,H,I.tok _,⟨_,rfl⟩,h⟩
def Gl (X:Cx) (x:Str):Prop:=X.env.kindOf x=some .globalImplicit
theorem mI {E:Value->Shared->Prop}{pins:List (Addr × Obj)}{s:Shared}{σ:St}{H:Hp}{x:Str}{u:Value}{pos:Pos}{Q:Value->Shared->Prop} (I:Inv X pins σ H s) (hg:Gl X x) (hm:X.mg x=some u) (h:Q u s)
  (hd:(x == ("__debug__":Str))=false:=by decide):wpAny (model X.prog X.w) X.A (eval (.Name x pos) X.env) Q E s :=
 Calls.Name_function_global I.ok.kind hg (Calls.loadGlobal_global (by rw [I.ok.glob];exact I.mod.glob.keeps I.bk) hm h) hd
theorem nD {E:Value->Shared->Prop}{pins:List (Addr × Obj)}{s:Shared}{σ:St}{H:Hp}{x:Str}{u:Value}{pos:Pos}{Q:Value->Shared->Prop} (I:Inv X pins σ H s) (hg:Gl X x) (hm:X.mg x=none) (hv:bootBuiltins x=some u) (h:Q u s)
  (hn:x ≠ "__name__":=by decide) (hd:(x == ("__debug__":Str))=false:=by decide):wpAny (model X.prog X.w) X.A (eval (.Name x pos) X.env) Q E s:=by
 obtain ⟨mb,h1,h2⟩:=I.mod.blt
 exact Calls.Name_function_global I.ok.kind hg (Calls.loadGlobal_builtin (by rw [I.ok.glob];exact I.mod.glob.keeps I.bk) hm (by rw [I.ok.blt];exact h1.keeps I.bk) ((h2 x hn).trans hv) h) hd
theorem yy {x:Str}{v:V}{u:Value}{pos:Pos} (hg:Gl X x) (hm:X.mg x=some u) (r:RelV v u) (hd:(x == ("__debug__":Str))=false:=by decide):PE X (.Name x pos) (tC v) :=
 fun _ _ _ H _ I h=>mI I hg hm ⟨v,H,I,r,h⟩ hd
theorem kI {x:Str}{v:V}{u:Value}{pos:Pos} (hg:Gl X x) (hm:X.mg x=none) (hv:bootBuiltins x=some u) (r:RelV v u) (hn:x ≠ "__name__":=by decide) (hd:(x == ("__debug__":Str))=false:=by decide):PE X (.Name x pos) (tC v) :=
 fun _ _ _ H _ I h=>nD I hg hm hv ⟨v,H,I,r,h⟩ hn hd
variable {a b:Expr}{ta tb:TE}{pos:Pos}
variable {tA tB':TT}{rest:List Expr}
def C4 (t u:TT):TT:=fun σ H Q=>t σ H fun c H1=>if c=true then u σ H1 Q else Q false H1
def tOr (t u:TT):TT:=fun σ H Q=>t σ H fun c H1=>if c=true then Q true H1 else u σ H1 Q
def C9 (t:TT):TT:=fun σ H Q=>t σ H fun c H1=>Q (!c) H1
theorem pw_and1 (ha:PT X a tA):PW X (.BoolOp .And [a] pos) tA:=by
 intro wh pins s σ H Q I h
 refine isTrue_and (thn (ha pins s σ H Q I h) fun c s1 e=>?_)
 cases c with
 | true=>exact isTrue_and_nil e
 | false=>exact e
theorem pw_or1 (ha:PT X a tA):PW X (.BoolOp .Or [a] pos) tA:=by
 intro wh pins s σ H Q I h
 refine isTrue_or (thn (ha pins s σ H Q I h) fun c s1 e=>?_)
 cases c with
 | false=>exact isTrue_or_nil e
 | true=>exact e
theorem pw_and (ha:PT X a tA) (hb:PW X (.BoolOp .And (b :: rest) pos) tB'):PW X (.BoolOp .And (a :: b :: rest) pos) (C4 tA tB'):=by
 intro wh pins s σ H Q I h
 refine isTrue_and (thn (ha pins s σ H _ I h) fun c s1 ⟨H1,I1,q1⟩=>?_)
 cases c with
 | true=>exact hb wh pins s1 σ H1 Q I1 q1
 | false=>exact ⟨H1,I1,q1⟩
theorem pw_or (ha:PT X a tA) (hb:PW X (.BoolOp .Or (b :: rest) pos) tB'):PW X (.BoolOp .Or (a :: b :: rest) pos) (tOr tA tB'):=by
 intro wh pins s σ H Q I h
 refine isTrue_or (thn (ha pins s σ H _ I h) fun c s1 ⟨H1,I1,q1⟩=>?_)
 cases c with
 | true=>exact ⟨H1,I1,q1⟩
 | false=>exact hb wh pins s1 σ H1 Q I1 q1
theorem qc (ha:PT X a tA):PT X (.UnaryOp .Not a pos) (C9 tA):=by
 intro pins s σ H Q I h
 exact isTrue_not (ha pins s σ H (fun c H1=>Q (!c) H1) I h)
def Cj (ta tb:TE):TE:=fun σ H Q=>ta σ H fun x H1=>∃c,x=.bl c/\if c=true then tb σ H1 Q else Q (.bl false) H1
def CA (ta tb:TE):TE:=fun σ H Q=>ta σ H fun x H1=>∃c,x=.bl c/\if c=true then Q (.bl true) H1 else tb σ H1 Q
theorem sP {op}{t:TE} (h:PE X a t):PE X (.BoolOp op [a] pos) t:=fun pins s σ H Q I hw=>BoolOp_one (h pins s σ H Q I hw)
theorem vS (ha:PE X a ta) (hb:PE X (.BoolOp .And (b :: rest) pos) tb):PE X (.BoolOp .And (a :: b :: rest) pos) (Cj ta tb):=by
 intro pins s σ H Q I h
 refine BoolOp_and (thn (ha pins s σ H _ I h) fun v s1 ⟨x,H1,I1,r1,q1⟩=>?_)
 obtain ⟨c,rfl,q1⟩:=q1
 cases r1
 refine wpAny_truthy_bool ?_
 cases c with
 | true=>exact hb pins s1 σ H1 Q I1 q1
 | false=>exact ⟨.bl false,H1,I1,rfl,q1⟩
theorem Bo (ha:PE X a ta) (hb:PE X (.BoolOp .Or (b :: rest) pos) tb):PE X (.BoolOp .Or (a :: b :: rest) pos) (CA ta tb):=by
 intro pins s σ H Q I h
 refine BoolOp_or (thn (ha pins s σ H _ I h) fun v s1 ⟨x,H1,I1,r1,q1⟩=>?_)
 obtain ⟨c,rfl,q1⟩:=q1
 cases r1
 refine wpAny_truthy_bool ?_
 cases c with
 | false=>exact hb pins s1 σ H1 Q I1 q1
 | true=>exact ⟨.bl true,H1,I1,rfl,q1⟩
end
end L2
namespace L2
open PySem PySem.Spec PyProof.Rows
def SqL (K:W.Frag) (H:Hp) (a:Addr) (xs:List V):Prop :=
 Rd H a (.lst xs) \/
  ∃(o:Obj) (its:Array Value) (n:Nat),K.lookup a=some o/\o.cls=.type "list"/\o.dict=none/\o.data=.seq its n/\its.size <= sizeLine/\Vals xs its.toList
def SqT (K:W.Frag) (H:Hp) (a:Addr) (xs:List V):Prop :=
 Rd H a (.tup xs) \/
  ∃(o:Obj) (its:Array Value) (n:Nat),K.lookup a=some o/\o.cls=.type "tuple"/\o.data=.seq its n/\its.size <= sizeLine/\Vals xs its.toList
def CT:Value->Option V
 | .none=>some .non
 | .bool b=>some (.bl b)
 | .int i _=>some (.int i)
 | .str x _=>some (.str x)
 | .bytes b _=>some (.byt b)
 | .float b _=>some (.flt b)
 | .ref a=>some (.ref a)
 | .type n=>some (.ty n)
 | _=>none
theorem RelV.abs {x:V}{u:Value} (r:RelV x u):CT u=some x:=by
 cases x with
 | non=>cases r;rfl
 | bl _=>cases r;rfl
 | int _=>obtain ⟨t,rfl⟩:=r;rfl
 | str _=>obtain ⟨t,rfl⟩:=r;rfl
 | byt _=>obtain ⟨t,rfl⟩:=r;rfl
 | flt _=>obtain ⟨t,rfl⟩:=r;rfl
 | ref _=>cases r;rfl
 | ty _=>cases r;rfl
theorem RelV.inj {x y:V}{u:Value} (r:RelV x u) (q:RelV y u):x=y:=Option.some.inj (r.abs.symm.trans q.abs)
theorem Vals.inj:∀{xs ys:List V}{us:List Value},Vals xs us->Vals ys us->xs=ys
 | _,_,_,.nil,.nil=>rfl
 | _,_,_,.cons r t,.cons r' t'=>by rw [r.inj r',Vals.inj t t']
section
variable {X:Cx}{pins:List (Addr × Obj)}{σ:St}{H:Hp}{s:Shared}{a:Addr}{xs ys:List V}
theorem SqL.of {K:W.Frag} (h:H a=some (.lst xs)):SqL K H a xs:=.inl (.inl h)
theorem SqT.of {K:W.Frag} (h:H a=some (.tup xs)):SqT K H a xs:=.inl (.inl h)
theorem Inv.list (I:Inv X pins σ H s) (h:SqL X.K H a xs):∃its:List Value,Vals xs its/\PlainL s.heap a its.toArray/\xs.length <= sizeLine:=by
 rcases h with h | ⟨o,its,n,hk,hc,hd,hs,hz,r⟩
 ·obtain ⟨z,its,n,r,e⟩:=h.ok I.hok
  exact ⟨its,r,⟨_,n,e,rfl,rfl,rfl⟩,z⟩
 ·refine ⟨its.toList,r,⟨o,n,I.kIn a o hk,hc,hd,by simpa using hs⟩,?_⟩
  have e:=r.length
  simp only [Array.length_toList] at e
  omega
theorem Inv.tuple (I:Inv X pins σ H s) (h:SqT X.K H a xs):∃its:List Value,Vals xs its/\IsTup s.heap a its.toArray/\xs.length <= sizeLine:=by
 rcases h with h | ⟨o,its,n,hk,hc,hs,hz,r⟩
 ·obtain ⟨z,its,r,p⟩:=h.ok I.hok
  exact ⟨its,r,p,z⟩
 ·refine ⟨its.toList,r,⟨o,I.kIn a o hk,hc,n,by simpa using hs⟩,?_⟩
  have e:=r.length
  simp only [Array.length_toList] at e
  omega
theorem Inv.ni (I:Inv X pins σ H s) (h:SqL X.K H a xs) (h':SqL X.K H a ys):xs=ys:=by
 obtain ⟨its,r,⟨o,n,e,_,_,d⟩,_⟩:=I.list h
 obtain ⟨its',r',⟨o',n',e',_,_,d'⟩,_⟩:=I.list h'
 rw [e] at e';cases e'
 rw [d] at d'
 injection d' with d1 _
 have:its=its':=by simpa using congrArg Array.toList d1
 subst this
 exact r.inj r'
theorem Inv.uJ (I:Inv X pins σ H s) (h:SqT X.K H a xs) (h':SqT X.K H a ys):xs=ys:=by
 obtain ⟨its,r,⟨o,e,_,n,d⟩,_⟩:=I.tuple h
 obtain ⟨its',r',⟨o',e',_,n',d'⟩,_⟩:=I.tuple h'
 rw [e] at e';cases e'
 rw [d] at d'
 injection d' with d1 _
 have:its=its':=by simpa using congrArg Array.toList d1
 subst this
 exact r.inj r'
end
abbrev Cx.oE (X:Cx) (E:Value->Shared->Prop):Cx:={ X with xe:=E }
abbrev Cx.nox (X:Cx):Cx:=X.oE fun _ _=>False
theorem Cx.Ok.oE {X:Cx} (ok:X.Ok) (E:Value->Shared->Prop):(X.oE E).Ok :=
 ⟨ok.mod,ok.kind,ok.glob,ok.blt,ok.above,ok.inj,ok.has,ok.cab,ok.hd,ok.frames,ok.stk,ok.exf,ok.bs,ok.bsz,ok.wX,ok.xw,ok.my,ok.frf⟩
theorem Cx.Ok.iM {X:Cx}{E:Value->Shared->Prop} (ok:(X.oE E).Ok):X.Ok :=
 ⟨ok.mod,ok.kind,ok.glob,ok.blt,ok.above,ok.inj,ok.has,ok.cab,ok.hd,ok.frames,ok.stk,ok.exf,ok.bs,ok.bsz,ok.wX,ok.xw,ok.my,ok.frf⟩
section
variable {X:Cx}{pins:List (Addr × Obj)}{σ:St}{H:Hp}{s:Shared}{E:Value->Shared->Prop}
theorem Inv.oE (I:Inv X pins σ H s) (E:Value->Shared->Prop):Inv (X.oE E) pins σ H s:=⟨I.ok.oE E,I.os,I.bare,I.base,I.loc,I.cell,I.free,I.jd,I.pin,I.hok,I.len⟩
theorem Inv.iM (I:Inv (X.oE E) pins σ H s):Inv X pins σ H s:=⟨I.ok.iM,I.os,I.bare,I.base,I.loc,I.cell,I.free,I.jd,I.pin,I.hok,I.len⟩
theorem SP.iM {D:Ends}{f:Flow}{s':Shared} (h:SP (X.oE E) pins D f s'):SP X pins D f s':=by
 cases f with
 | next=>obtain ⟨σ',H',I,q⟩:=h;exact ⟨σ',H',I.iM,q⟩
 | brk=>obtain ⟨σ',H',I,q⟩:=h;exact ⟨σ',H',I.iM,q⟩
 | cont=>obtain ⟨σ',H',I,q⟩:=h;exact ⟨σ',H',I.iM,q⟩
 | ret u=>obtain ⟨v,σ',H',I,r,q⟩:=h;exact ⟨v,σ',H',I.iM,r,q⟩
theorem PSs.nox {st:List Stmt}{t:TS} (h:PSs X.nox st t):PSs X st t:=fun pins s σ H D I hw =>
 wpAny_mono (h pins s σ H D (I.oE _) hw) (fun _ _ q=>q.iM) fun _ _ z=>False.elim z
end
section
variable {X:Cx}{st:Stmt}{rest:List Stmt}{t u:TS}{e:Expr}{te:TE}{pos:Pos}
def Bj:TS:=fun D σ H=>D.nx σ H
def A6 (t u:TS):TS:=fun D σ H=>t { D with nx:=u D } σ H
theorem aT:PSs X [] Bj:=fun _ _ σ H _ I h=>wpAny_execs_nil ⟨σ,H,I,h⟩
theorem ae (h1:PS X st t) (h2:PSs X rest u):PSs X (st :: rest) (A6 t u):=by
 intro pins s σ H D I h
 refine wpAny_execs_cons (thn (h1 pins s σ H { D with nx:=u D } I h) fun f s1 q=>?_)
 cases f with
 | next =>
  obtain ⟨σ',H',I',q⟩:=q
  exact h2 pins s1 σ' H' D I' q
 | ret v=>exact q
 | brk=>exact q
 | cont=>exact q
theorem ao (h1:PS X st t):PSs X [st] t:=by
 intro pins s σ H D I h
 refine wpAny_execs_cons (thn (h1 pins s σ H D I h) fun f s1 q=>?_)
 cases f with
 | next=>exact wpAny_execs_nil q
 | ret v=>exact q
 | brk=>exact q
 | cont=>exact q
theorem Inv.quiet {pins:List (Addr × Obj)}{σ:St}{H:Hp}{s:Shared} (I:Inv X pins σ H s):interactive X.env=false:=by simp [interactive,I.ok.kind]
def Br (te:TE):TS:=fun D σ H=>te σ H fun _ H1=>D.nx σ H1
theorem aL (he:PE X e te) (hs:swapsWith e none pos.line X.env=pure false:=by rfl):PS X (.Expr e pos) (Br te):=by
 intro pins s σ H D I h
 exact wpAny_Expr_any (thn (he pins s σ H _ I h) fun v s1 ⟨x,H1,I1,r1,q1⟩=>⟨σ,H1,I1,q1⟩) I.quiet hs
def C7 (te:TE):TS:=fun D σ H=>te σ H D.rt
theorem aW (he:PE X e te):PS X (.Return (some e) pos) (C7 te):=by
 intro pins s σ H D I h
 exact wpAny_Return_some (thn (he pins s σ H _ I h) fun v s1 ⟨x,H1,I1,r1,q1⟩=>⟨x,σ,H1,I1,r1,q1⟩)
def Cn:TS:=fun D _ H=>D.rt .non H
theorem pH:PS X (.Return none pos) Cn:=fun _ _ σ H _ I h=>wpAny_Return_none ⟨.non,σ,H,I,rfl,h⟩
def BD (c:TT) (t u:TS):TS:=fun D σ H=>c σ H fun b H1=>if b=true then t D σ H1 else u D σ H1
theorem ba {c:Expr}{a b:List Stmt}{tc:TT} (hc:PT X c tc) (ha:PSs X a t) (hb:PSs X b u):PS X (.If c a b pos) (BD tc t u):=by
 intro pins s σ H D I h
 refine wpAny_If (thn (hc pins s σ H _ I h) fun d s1 ⟨H1,I1,q1⟩=>?_)
 cases d with
 | true=>exact ha pins s1 σ H1 D I1 q1
 | false=>exact hb pins s1 σ H1 D I1 q1
end
abbrev TG:=V->St->Hp->(St->Hp->Prop)->Prop
abbrev TGs:=List V->St->Hp->(St->Hp->Prop)->Prop
def PG (X:Cx) (target:Expr) (t:TG):Prop :=
 ∀(pins:List (Addr × Obj)) (s:Shared) (σ:St) (H:Hp) (v:V) (u:Value) (Q:St->Hp->Prop),Inv X pins σ H s->RelV v u->t v σ H Q ->
  wpAny (model X.prog X.w) X.A (assign target X.env u) (fun _ s'=>∃σ' H',Inv X pins σ' H' s'/\Q σ' H') X.xe s
def PGs (X:Cx) (ts:List Expr) (t:TGs):Prop :=
 ∀(pins:List (Addr × Obj)) (s:Shared) (σ:St) (H:Hp) (vs:List V) (us:List Value) (Q:St->Hp->Prop),Inv X pins σ H s->Vals vs us->t vs σ H Q ->
  wpAny (model X.prog X.w) X.A (assignInOrder ((assignEach ts X.env).map (·.2)) us) (fun _ s'=>∃σ' H',Inv X pins σ' H' s'/\Q σ' H') X.xe s
abbrev yE:=V->V->V->Hp->(Hp->Prop)->Prop
def vW (X:Cx) (t:yE):Prop :=
 ∀(pins:List (Addr × Obj)) (s:Shared) (σ:St) (H:Hp) (o i v:V) (ov iv u:Value) (Q:Hp->Prop),Inv X pins σ H s->RelV o ov->RelV i iv->RelV v u->t o i v H Q ->
  wpAny (model X.prog X.w) X.A (setItem ov iv u) (fun _ s'=>∃H',Inv X pins σ H' s'/\Q H') X.xe s
section
variable {X:Cx}{pos:Pos}
def kO (i:Nat):TG:=fun v σ H Q=>Q (σ.set i (some v)) H
theorem tB {i:Nat}{x:Str} (hN:X.N.Nodup) (hi:X.N[i]?=some x) (hx:Loc X.env.scope x) (hf:X.fn x=true \/ X.env.scope.names.lookup x=some .local:=by first | exact .inl rfl | exact .inr rfl | assumption):PG X (.Name x pos) (kO i):=by
 intro pins s σ H v u Q I r h
 exact wpAny_assign_Name (qp I hN hi hx r (fun s' I'=>⟨_,H,I',h⟩) hf)
def C2:TGs:=fun vs σ H Q=>vs=[]/\Q σ H
def Ci (t:TG) (u:TGs):TGs:=fun vs σ H Q=>∃v r,vs=v :: r/\t v σ H fun σ' H'=>u r σ' H' Q
theorem tD:PGs X [] C2:=by
 intro pins s σ H vs us Q I r h
 obtain ⟨e,h⟩:=h
 subst e
 cases r
 exact assignInOrder_nil ⟨σ,H,I,h⟩
theorem jx {e:Expr}{es:List Expr}{t:TG}{u:TGs} (h1:PG X e t) (h2:PGs X es u)
  (hs:(assignEach (e :: es) X.env).map (·.2)=assign e X.env :: (assignEach es X.env).map (·.2):=by rfl):PGs X (e :: es) (Ci t u):=by
 intro pins s σ H vs us Q I r h
 obtain ⟨v,vr,e1,h⟩:=h
 subst e1
 cases r with
 | cons r rr =>
  rw [hs]
  refine assignInOrder_cons (thn (h1 pins s σ H _ _ _ I r h) fun _ s1 ⟨σ1,H1,I1,q1⟩=>?_)
  exact h2 pins s1 σ1 H1 _ _ Q I1 rr q1
def CQ (K:W.Frag) (n:Nat) (t:TGs):TG:=fun v σ H Q=>∃a xs,v=.ref a/\SqT K H a xs/\xs.length=n/\t xs σ H Q
theorem vY {es:List Expr}{k:Nat}{t:TGs}{n:Nat} (hc:X.calm=true) (h:PGs X es t)
  (hn:(assignEach es X.env).length=n:=by rfl) (hst:(assignEach es X.env).findIdx? (·.1)=none:=by rfl):PG X (.Tuple es k pos) (CQ X.K n t):=by
 intro pins s σ H v u Q I r hw
 obtain ⟨a,xs,e1,hq,hl,hw⟩:=hw
 subst e1
 cases r
 obtain ⟨its,rv,ht,hz⟩:=I.tuple hq
 refine assign_Tuple_tuple (I.ok.hd hc) ht (by simp [hn,<- hl,rv.length]) hst fun h' hx=>?_
 have I1:Inv X pins σ H { s with heap:=h' }:=I.kept (t':=s.toks) fun b o e=>hx b o (Nat.ne_of_lt (Heap.lt_size e)) e
 exact h pins _ σ H xs _ Q I1 (by simpa using rv) hw
def CK (to ti:TE) (t:yE):TG:=fun v σ H Q=>to σ H fun o H1=>ti σ H1 fun i H2=>t o i v H2 fun H3=>Q σ H3
theorem bP {o i:Expr}{to ti:TE}{t:yE} (ho:PE X o to) (hi:PE X i ti) (hs:vW X t)
  (ha:∀v,assign (.Subscript o i pos) X.env v=(do
   let ov <- holding [v] (eval o X.env)
   let iv <- holding [v,ov] (eval i X.env)
   standAt pos
   holding [v,ov,iv] (setItem ov iv v)
   release [v,ov,iv] []):=by intro _;rfl):PG X (.Subscript o i pos) (CK to ti t):=by
 intro pins s σ H v u Q I r h
 rw [ha]
 refine wpAny_bind (wpAny_holding (thn (ho pins s σ H _ I h) fun ov s1 ⟨x,H1,I1,r1,q1⟩=>?_))
 refine wpAny_bind (wpAny_holding (thn (hi pins s1 σ H1 _ I1 q1) fun iv s2 ⟨y,H2,I2,r2,q2⟩=>?_))
 refine wpAny_bind (wpAny_standAt (wpAny_bind (wpAny_holding (thn (hs pins s2 σ H2 x y v ov iv u _ I2 r1 r2 r q2) fun _ s3 ⟨H3,I3,q3⟩=>?_))))
 exact wpAny_release ⟨σ,H3,I3,q3⟩
def Ai (te:TE) (g:TG):TS:=fun D σ H=>te σ H fun x H1=>g x σ H1 D.nx
theorem bR {tg e:Expr}{te:TE}{g:TG} (he:PE X e te) (hg:PG X tg g) (hs:swapsWithSole [tg] e pos.line X.env=pure false:=by rfl) (hw:swappedStores [tg] e X.env=pure none:=by rfl)
  (h1:(assignEach [tg] X.env).map (·.2)=[assign tg X.env]:=by rfl):PS X (.Assign [tg] e pos) (Ai te g):=by
 intro pins s σ H D I h
 refine wpAny_Assign_stores (thn (he pins s σ H _ I h) fun v s1 ⟨x,H1,I1,r1,q1⟩=>?_) hs hw
 rw [h1]
 exact thn (hg pins s1 σ H1 x v _ I1 r1 q1) fun _ s2 q=>q
theorem ay {i:Nat}{x:Str}{e:Expr}{te:TE}{pos':Pos} (hN:X.N.Nodup) (hi:X.N[i]?=some x) (hx:Loc X.env.scope x) (he:PE X e te) (hs:swapsWith e (some (.Name x pos')) pos.line X.env=pure false:=by rfl) (hf:X.fn x=true \/ X.env.scope.names.lookup x=some .local:=by first | exact .inl rfl | exact .inr rfl | assumption) :
  PS X (.Assign [.Name x pos'] e pos) (Ai te (kO i)):=by
 intro pins s σ H D I h
 refine wpAny_Assign_Name (thn (he pins s σ H _ I h) fun v s1 ⟨y,H1,I1,r1,q1⟩=>?_) hs
 exact qp I1 hN hi hx r1 (fun s2 I2=>⟨_,H1,I2,q1⟩) hf
end
section
variable {X:Cx}{pos:Pos}
def Ax (c:TT) (tb:TS):TS:=fun D σ H=>∃W:Nat->St->Hp->Prop,(∃m,W m σ H)/\∀m σ H,W m σ H ->
 c σ H fun b H1=>if b=true then ∃N:St->Hp->Prop,(∀σ' H',N σ' H'->∃m',m' < m/\W m' σ' H')/\tb { D with nx:=N,ct:=N,bk:=D.nx } σ H1 else D.nx σ H1
theorem xG {c:Expr}{body:List Stmt}{tc:TT}{tb:TS} (hp:PassesOwn (model X.prog X.w) X.A X.env X.xe) (hc:PT X c tc) (hb:PSs X body tb):PS X (.While c body [] pos) (Ax tc tb):=by
 intro pins s σ H D I h
 obtain ⟨W,⟨m0,w0⟩,turn⟩:=h
 refine wpAny_While (codeAny_whileLoop (fun n s'=>∃σ' H',Inv X pins σ' H' s'/\W n σ' H') ?_ m0 ⟨σ,H,I,w0⟩)
 rintro n s1 ⟨σ1,H1,I1,w1⟩
 refine wpAny_passesOwn hp (thn (hc pins s1 σ1 H1 _ I1 (turn n σ1 H1 w1)) fun b s2 ⟨H2,I2,q2⟩=>?_)
 cases b with
 | true =>
  obtain ⟨N,hN,q2⟩:=q2
  rw [if_pos rfl]
  refine wpAny_passesOwn hp (thn (hb pins s2 σ1 H2 _ I2 q2) fun f s3 q3=>?_)
  cases f with
  | next =>
   obtain ⟨σ3,H3,I3,n3⟩:=q3
   obtain ⟨m',hm,w3⟩:=hN σ3 H3 n3
   exact ⟨m',hm,σ3,H3,I3,w3⟩
  | cont =>
   obtain ⟨σ3,H3,I3,n3⟩:=q3
   obtain ⟨m',hm,w3⟩:=hN σ3 H3 n3
   exact ⟨m',hm,σ3,H3,I3,w3⟩
  | brk=>exact q3
  | ret v=>exact q3
 | false =>
  rw [if_neg Bool.false_ne_true]
  exact wpAny_execs_nil ⟨σ1,H2,I2,q2⟩
end
structure It where
 go:Nat->Hp->Prop
 yld:Nat->Hp->V->Hp->Prop
 stop:Nat->Hp->Prop
def oK (X:Cx) (pins:List (Addr × Obj)) (H:Hp) (b:Addr):Prop :=
 H b=none/\b ≠ X.env.locals/\b ∉ X.fs/\(b ∈ X.ex \/ X.s₀.heap.objs.size <= b)/\(∀x c,X.env.cells.lookup x=some c->c ≠ b)/\∀p ∈ X.pn ++ pins,p.1 ≠ b
theorem Inv.u7 {X:Cx}{pins:List (Addr × Obj)}{σ:St}{H H':Hp}{s:Shared}{b:Addr} (I:Inv X pins σ H s) (hb:s.heap.objs.size <= b) (hn:H' b=none):oK X pins H' b:=by
 refine ⟨hn,Nat.ne_of_gt (Nat.lt_of_lt_of_le I.lt hb),I.BA hb,.inr (Nat.le_trans I.sz hb),fun x c e z=>?_,fun p hp z=>?_⟩
 ·obtain ⟨v,q⟩:=I.cell x c e
  exact absurd (Nat.lt_of_lt_of_le q.lt (by rw [z];exact hb)) (Nat.lt_irrefl _)
 ·exact absurd (Nat.lt_of_lt_of_le (Heap.lt_size (I.pin p hp).1) (by rw [z];exact hb)) (Nat.lt_irrefl _)
structure Turn (P:Program) (w:World) (K:W.Frag) (tg:Expr) (J:It) (fp:List Addr) (it:Addr) (tn:Nat->Heap->Prop):Prop where
 mem:it ∈ fp
 obj:∀i h,tn i h->∀b ∈ fp,∃o,h.get? b=some o/\∀v,o.data ≠ .cell v
 keep:∀i h h',tn i h->(∀b ∈ fp,∀o,h.get? b=some o->h'.get? b=some o)->tn i h'
 item:∀(X:Cx),X.prog=P->X.w=w->X.K=K->X.calm=true->∀(i:Nat) (pins:List (Addr × Obj)) (s:Shared) (σ:St) (H:Hp) (E:Value->Shared->Prop),Inv X pins σ H s->(∀b ∈ fp,oK X pins H b)->tn i s.heap->J.go i H ->
  wpAny (model P w) X.A (pyNext (.ref it)) (fun r s1=>∃u,r=some u /\
   wpAny (model P w) X.A (letOwnedTupleGo tg (.ref it) u) (fun _ s2=>∃x H',Inv X pins σ H' s2/\RelV x u/\J.yld i H x H'/\tn (i + 1) s2.heap/\∀b ∈ fp,H' b=none) E s1) E s
 done:∀(X:Cx),X.prog=P->X.w=w->X.K=K->X.calm=true->∀(i:Nat) (pins:List (Addr × Obj)) (s:Shared) (σ:St) (H:Hp) (E:Value->Shared->Prop),Inv X pins σ H s->(∀b ∈ fp,oK X pins H b)->tn i s.heap->J.stop i H ->
  wpAny (model P w) X.A (pyNext (.ref it)) (fun r s1=>r=none/\Inv X pins σ H s1) E s
 self:∀(A:Around) (i:Nat) (s:Shared) (Q:Value->Shared->Prop) (E:Value->Shared->Prop),tn i s.heap->Q (.ref it) s->wpAny (model P w) A (pyIter (.ref it)) Q E s
abbrev TI:=St->Hp->(It->Hp->Prop)->Prop
def PIE (X:Cx) (pins:List (Addr × Obj)) (σ:St) (tg:Expr) (R:It->Hp->Prop) (itv:Value) (s2:Shared):Prop :=
 ∃(it:Addr) (fp:List Addr) (tn:Nat->Heap->Prop) (J:It) (H':Hp),itv=.ref it/\Inv X pins σ H' s2/\Turn X.prog X.w X.K tg J fp it tn/\tn 0 s2.heap/\(∀b ∈ fp,oK X pins H' b)/\R J H'
def PI (X:Cx) (tg iter:Expr) (wi:TI):Prop :=
 ∀(pins:List (Addr × Obj)) (s:Shared) (σ:St) (H:Hp) (R:It->Hp->Prop),Inv X pins σ H s->wi σ H R ->
  wpAny (model X.prog X.w) X.A (eval iter X.env) (fun v s1=>wpAny (model X.prog X.w) X.A (pyIter v) (PIE X pins σ tg R) X.xe s1) X.xe s
theorem tw {M:Model}{A:Around}{E:Value->Shared->Prop}{s:Shared}{tg:Expr}{it:Addr}{u:Value}{o:Obj}{n:String}{vs:Array Value}{Q:Unit->Shared->Prop} (ho:s.heap.get? it=some o) (hc:o.cls=.type n) (hd:o.data=.fields vs)
    (hn:["enumerate","zip","dict_itemiterator","dict_reverseitemiterator","odict_iterator","itertools.zip_longest","itertools.pairwise"].contains n=false) (hQ:Q () s):wpAny M A (letOwnedTupleGo tg (.ref it) u) Q E s:=by
  unfold letOwnedTupleGo
  cases tg <;> first
    | exact wpAny_pure hQ
    | (cases u <;> first
        | exact wpAny_pure hQ
        | (refine wpAny_bind (wpAny_load ho ?_)
           rw [hc,hd]
           show wpAny M A (if (["enumerate","zip","dict_itemiterator","dict_reverseitemiterator","odict_iterator","itertools.zip_longest","itertools.pairwise"].contains n && vs[0]? == some (rawInt _))=true then _ else _) Q E s
           rw [if_neg (by intro h;rw [hn,Bool.false_and] at h;cases h)]
           exact wpAny_pure hQ))
def Itl (K:W.Frag) (a:Addr):It :=
 ⟨fun i H=>∃xs x,SqL K H a xs/\xs[i]?=some x,fun i H x H'=>H'=H/\∀xs,SqL K H a xs->xs[i]?=some x,fun i H=>∃xs,SqL K H a xs/\xs.length <= i⟩
def Itt (K:W.Frag) (a:Addr):It :=
 ⟨fun i H=>∃xs x,SqT K H a xs/\xs[i]?=some x,fun i H x H'=>H'=H/\∀xs,SqT K H a xs->xs[i]?=some x,fun i H=>∃xs,SqT K H a xs/\xs.length <= i⟩
def Itr (lo:Int) (n:Nat):It:=⟨fun i _=>i < n,fun i H x H'=>H'=H/\x=.int (lo + i),fun i _=>n <= i⟩
theorem vE {P:Program}{w:World}{K:W.Frag}{tg:Expr} (a it:Addr):Turn P w K tg (Itl K a) [it] it (fun i h=>h.IsListIter it a i) where
 mem:=by simp
 obj:=fun i h st b hb=>by
  have e:b=it:=by simpa using hb
  subst e
  obtain ⟨o,e,c,d⟩:=st
  exact ⟨o,e,fun v z=>by rw [d] at z;cases z⟩
 keep:=fun i h h' st k=>st.at fun o e=>k it (by simp) o e
 item:=by
  intro X hP hw hK hc i pins s σ H E I hf st hg
  subst hP hw hK
  obtain ⟨xs,x,hq,hx⟩:=hg
  obtain ⟨its,rv,p,hz⟩:=I.list hq
  obtain ⟨u,hu,ru⟩:=rv.get hx
  obtain ⟨f0,f1,f2,f3,f4,f5⟩:=hf it (by simp)
  refine wpAny_pyNext_list_item st p.isList (x:=u) (by simpa using hu) fun h' st' sb=>?_
  have I1:Inv X pins σ H { s with heap:=h' }:=I.turned (t':=s.toks) (fun b o hb e=>(sb.2 b hb).trans e) f0 f1 f3 f4 f5
  obtain ⟨o,e,c,d⟩:=id st'
  exact ⟨u,rfl,tw (s:={ s with heap:=h' }) e c d (by decide) ⟨x,H,I1,ru,⟨rfl,fun ys hy=>by rw [I.ni hy hq];exact hx⟩,st',fun b hb=>(hf b hb).1⟩⟩
 done:=by
  intro X hP hw hK hc i pins s σ H E I hf st hg
  subst hP hw hK
  obtain ⟨xs,hq,hx⟩:=hg
  obtain ⟨its,rv,p,hz⟩:=I.list hq
  obtain ⟨f0,f1,f2,f3,f4,f5⟩:=hf it (by simp)
  have hl:=rv.length
  exact wpAny_pyNext_list_end (I.ok.hd hc) st p.isList (by simp;omega) fun h' eb=>⟨rfl,I.turned (t':=s.toks) (fun b o hb e=>eb b o hb e) f0 f1 f3 f4 f5⟩
 self:=fun _ _ _ _ _ st h=>wpAny_pyIter_listiter st h
theorem tj {P:Program}{w:World}{K:W.Frag}{tg:Expr} (a it:Addr):Turn P w K tg (Itt K a) [it] it (fun i h=>h.IsTupleIter it a i) where
 mem:=by simp
 obj:=fun i h st b hb=>by
  have e:b=it:=by simpa using hb
  subst e
  obtain ⟨o,e,c,d⟩:=st
  exact ⟨o,e,fun v z=>by rw [d] at z;cases z⟩
 keep:=fun i h h' st k=>st.at fun o e=>k it (by simp) o e
 item:=by
  intro X hP hw hK hc i pins s σ H E I hf st hg
  subst hP hw hK
  obtain ⟨xs,x,hq,hx⟩:=hg
  obtain ⟨its,rv,p,hz⟩:=I.tuple hq
  obtain ⟨u,hu,ru⟩:=rv.get hx
  obtain ⟨f0,f1,f2,f3,f4,f5⟩:=hf it (by simp)
  refine wpAny_pyNext_tuple_item st (show s.heap.IsTuple a its.toArray from p) (x:=u) (by simpa using hu) fun h' st' sb=>?_
  have I1:Inv X pins σ H { s with heap:=h' }:=I.turned (t':=s.toks) (fun b o hb e=>(sb.2 b hb).trans e) f0 f1 f3 f4 f5
  obtain ⟨o,e,c,d⟩:=id st'
  exact ⟨u,rfl,tw (s:={ s with heap:=h' }) e c d (by decide) ⟨x,H,I1,ru,⟨rfl,fun ys hy=>by rw [I.uJ hy hq];exact hx⟩,st',fun b hb=>(hf b hb).1⟩⟩
 done:=by
  intro X hP hw hK hc i pins s σ H E I hf st hg
  subst hP hw hK
  obtain ⟨xs,hq,hx⟩:=hg
  obtain ⟨its,rv,p,hz⟩:=I.tuple hq
  obtain ⟨f0,f1,f2,f3,f4,f5⟩:=hf it (by simp)
  have hl:=rv.length
  exact wpAny_pyNext_tuple_end (I.ok.hd hc) st (show s.heap.IsTuple a its.toArray from p) (by simp;omega) fun h' eb=>⟨rfl,I.turned (t':=s.toks) (fun b o hb e=>eb b o hb e) f0 f1 f3 f4 f5⟩
 self:=fun _ _ _ _ _ st h=>wpAny_pyIter_tupleiter st h
theorem sS {P:Program}{w:World}{K:PySem.W.Frag}{tg:Expr} (it:Addr) (lo:Int) (n:Nat):Turn P w K tg (Itr lo n) [it] it (fun i h=>IsRangeIter h it (lo + (i:Nat) * 1) ((n:Int) - (i:Nat)) 1) where
 mem:=by simp
 obj:=fun i h st b hb=>by
  have e:b=it:=by simpa using hb
  subst e
  exact ⟨_,st,fun v z=>by
   have z':Data.fields _=Data.cell v:=z
   cases z'⟩
 keep:=fun i h h' st k=>k it (by simp) _ st
 item:=by
  intro X hP hw hK hc i pins s σ H E I hf st hg
  subst hP hw hK
  obtain ⟨f0,f1,f2,f3,f4,f5⟩:=hf it (by simp)
  have W:=Walks.range (prog:=X.prog) (w:=X.w) (I.ok.hd hc) it lo 1 n
  refine W.item i s _ _ hg st fun v h' tk hv st' kk=>?_
  obtain ⟨t,rfl⟩:=hv
  have I1:Inv X pins σ H { s with heap:=h',toks:=tk }:=I.turned (fun b o hb e=>kk b o (by simpa using hb) e) f0 f1 f3 f4 f5
  refine ⟨_,rfl,tw (s:={ s with heap:=h',toks:=tk }) (n:="range_iterator") st' rfl rfl (by decide) ⟨.int (lo + i),H,I1,⟨t,?_⟩,⟨rfl,rfl⟩,st',fun b hb=>(hf b hb).1⟩⟩
  rw [Int.mul_one]
 done:=by
  intro X hP hw hK hc i pins s σ H E I hf st hg
  subst hP hw hK
  obtain ⟨f0,f1,f2,f3,f4,f5⟩:=hf it (by simp)
  exact wpAny_pyNext_range_end (I.ok.hd hc) st (by have:n <= i:=hg;omega) fun h' eb=>⟨rfl,I.turned (t':=s.toks) (fun b o hb e=>eb b o hb e) f0 f1 f3 f4 f5⟩
 self:=fun _ _ _ _ _ st h=>wpAny_pyIter_rangeiter st h
end L2
namespace L2
open PySem PySem.Spec PyProof.Rows
section
variable {X:Cx}{tg:Expr}
theorem vO {pins:List (Addr × Obj)}{σ:St}{H:Hp}{s:Shared}{R:It->Hp->Prop}{E:Value->Shared->Prop}{lo hi:Int}{t u v:Tok}{tk:Nat} (I:Inv X pins σ H s) (h1:-(2 ^ 62) <= lo) (h2:lo < 2 ^ 62) (h3:-(2 ^ 62) <= hi) (h4:hi < 2 ^ 62)
  (q:R (Itr lo (hi - lo).toNat) H):wpAny (model X.prog X.w) X.A (pyIter (.ref s.heap.objs.size)) (PIE X pins σ tg R) E { s with heap:=s.heap.push { cls:=.type "range",data:=.fields #[.int lo t,.int hi u,.int 1 v] },toks:=tk }:=by
 refine wpAny_pyIter_range (IsRange.new ..) (small_one h1 h2 h3 h4) ?_
 have I1:Inv X pins σ H { s with heap:=s.heap.push { cls:=.type "range",data:=.fields #[.int lo t,.int hi u,.int 1 v] },toks:=tk }:=I.kept fun b o e=>Heap.get?_push_of_some _ e
 refine ⟨(s.heap.push { cls:=.type "range",data:=.fields #[.int lo t,.int hi u,.int 1 v] }).objs.size,[(s.heap.push { cls:=.type "range",data:=.fields #[.int lo t,.int hi u,.int 1 v] }).objs.size],_,_,H,rfl,
  I1.kept (t':=tk) fun b o e=>Heap.get?_push_of_some _ e,sS _ lo (hi - lo).toNat,?_,fun b hb=>?_,q⟩
 ·have e1:lo + ((0:Nat):Int) * 1=lo:=by simp
  have e2:(((hi - lo).toNat:Nat):Int) - ((0:Nat):Int)=Builtin.Range.rangeSize lo hi 1:=by rw [rangeSize_one];split <;> omega
  show IsRangeIter _ _ (lo + ((0:Nat):Int) * 1) ((((hi - lo).toNat:Nat):Int) - ((0:Nat):Int)) 1
  rw [e1,e2]
  exact Heap.get?_push_size _ rfl
 ·have e:b=(s.heap.push { cls:=.type "range",data:=.fields #[.int lo t,.int hi u,.int 1 v] }).objs.size:=by simpa using hb
  subst e
  exact I1.u7 (Nat.le_refl _) (I1.hok.fresh (Nat.le_refl _))
def Cg (ta:TA):TI:=fun σ H R=>ta σ H fun vs H1=>∃j:Int,vs=[.int j]/\-(2 ^ 62) <= j/\j < 2 ^ 62/\R (Itr 0 j.toNat) H1
theorem gX {a:Expr}{ta:TA}{p pos:Pos} (hg:Gl X "range") (hm:X.mg "range"=none) (ha:PA X [a] ta) (hs:starEach [a] X.env=[(false,eval a X.env)]:=by rfl):PI X tg (.Call (.Name "range" p) [a] [] pos) (Cg ta):=by
 intro pins s σ H R I h
 refine Call_ (nD I hg hm boot_range (PyProof.Rows.callWith_type1 (thn (ha pos pins s σ H _ I h) fun us s1 ⟨vs,H1,I1,r1,q1⟩=>?_) hs rfl))
 obtain ⟨j,e,q1,q2,q⟩:=q1
 subst e
 cases r1 with
 | cons r rr =>
  cases rr
  obtain ⟨t,rfl⟩:=r
  exact call_range_1 (vO I1 (by omega) (by omega) q1 q2 (by simpa using q))
def CD (wi:TI) (g:TG) (tb:TS):TS:=fun D σ H=>wi σ H fun J H1=>∃W:Nat->Nat->St->Hp->Prop,(∃m,W 0 m σ H1)/\∀i m σ H,W i m σ H ->
 (J.stop i H/\D.nx σ H) \/ (J.go i H/\∃N:St->Hp->Prop,(∀σ' H',N σ' H'->∃m',m' < m/\W (i + 1) m' σ' H')/\∀x H',J.yld i H x H'->g x σ H' fun σ2 H2=>tb { D with nx:=N,ct:=N,bk:=D.nx } σ2 H2)
def mY (fp:List Addr) (h:Heap):List (Addr × Obj):=fp.filterMap fun b=>(h.get? b).map fun o=>(b,o)
theorem h9 {fp:List Addr}{h:Heap}{b:Addr}{o:Obj} (hb:b ∈ fp) (e:h.get? b=some o):(b,o) ∈ mY fp h:=List.mem_filterMap.mpr ⟨b,hb,by rw [e];rfl⟩
theorem uG {fp:List Addr}{h:Heap}{p:Addr × Obj} (hp:p ∈ mY fp h):p.1 ∈ fp/\h.get? p.1=some p.2:=by
 obtain ⟨b,hb,e⟩:=List.mem_filterMap.mp hp
 cases q:h.get? b with
 | none=>rw [q] at e;cases e
 | some o =>
  rw [q] at e
  have e':(b,o)=p:=Option.some.inj e
  subst e'
  exact ⟨hb,q⟩
theorem Inv.pinned {pins:List (Addr × Obj)}{σ:St}{H:Hp}{s:Shared}{fp:List Addr} (I:Inv X pins σ H s) (hf:∀b ∈ fp,oK X pins H b) (ho:∀b ∈ fp,∃o,s.heap.get? b=some o/\∀v,o.data ≠ .cell v):Inv X (pins ++ mY fp s.heap) σ H s :=
 I.pI fun p hp=>(List.mem_append.mp hp).elim (fun z=>I.pin p (List.mem_append_right _ z)) fun z=>by
  obtain ⟨hb,e⟩:=uG z
  obtain ⟨f0,f1,f2,_⟩:=hf p.1 hb
  obtain ⟨o,e',d⟩:=ho p.1 hb
  rw [e] at e';cases e'
  exact ⟨e,f0,f1,f2,d⟩
theorem Inv.i7 {pins pl:List (Addr × Obj)}{σ:St}{H:Hp}{s:Shared} (I:Inv X (pins ++ pl) σ H s):Inv X pins σ H s:=I.pI fun p hp=>I.pin p (List.mem_append_right _ (List.mem_append_left _ hp))
theorem d5 {iter:Expr}{body:List Stmt}{wi:TI}{g:TG}{tb:TS}{pos:Pos} (hp:PassesOwn (model X.prog X.w) X.A X.env X.xe) (hc:X.calm=true) (hi:PI X tg iter wi) (hg:PG X tg g) (hb:PSs X body tb)
  (hs:∀x,foldedSetIterable iter X.env x=pure x:=by intro _;rfl):PS X (.For tg iter body [] pos) (CD wi g tb):=by
 intro pins s σ H D I h
 refine wpAny_For (thn (hi pins s σ H _ I h) fun v s1 h1=>thn h1 fun itv s2 h2=>?_) hs
 obtain ⟨it,fp,tn,J,H2,e,I2,T,st2,f2,W,⟨m0,w0⟩,turn⟩:=h2
 subst e
 have stat:∀{H':Hp},(∀b ∈ fp,H' b=none)->∀b ∈ fp,oK X pins H' b:=fun hn b hb=>⟨hn b hb,(f2 b hb).2⟩
 refine codeAny_forLoop_any (fun n s'=>∃i σ' H',Inv X pins σ' H' s'/\tn i s'.heap/\(∀b ∈ fp,H' b=none)/\W i n σ' H') ?_ m0 ⟨0,σ,H2,I2,st2,fun b hb=>(f2 b hb).1,w0⟩
 rintro n s3 ⟨i,σ3,H3,I3,st3,fr3,w3⟩
 rcases turn i n σ3 H3 w3 with ⟨stop,qn⟩ | ⟨go,N,hN,step⟩
 ·refine wpAny_passesOwn hp (thn (T.done X rfl rfl rfl hc i pins s3 σ3 H3 X.xe I3 (stat fr3) st3 stop) fun r s4 ⟨hr,I4⟩=>?_)
  subst hr
  exact wpAny_execs_nil ⟨σ3,H3,I4,qn⟩
 ·refine wpAny_passesOwn hp (thn (T.item X rfl rfl rfl hc i pins s3 σ3 H3 X.xe I3 (stat fr3) st3 go) fun r s4 ⟨u,hr,h4⟩=>?_)
  subst hr
  refine wpAny_passesOwn hp (thn h4 fun _ s5 ⟨x,H5,I5,r5,y5,st5,fr5⟩=>?_)
  have I5':=I5.pinned (stat fr5) (T.obj _ _ st5)
  refine wpAny_passesOwn hp (thn (hg _ s5 σ3 H5 x u _ I5' r5 (step x H5 y5)) fun _ s6 ⟨σ6,H6,I6,q6⟩=>?_)
  refine wpAny_passesOwn hp (thn (hb _ s6 σ6 H6 _ I6 q6) fun f s7 q7=>?_)
  have again:∀{σ7:St}{H7:Hp},Inv X (pins ++ mY fp s5.heap) σ7 H7 s7->N σ7 H7->∃m,m < n/\∃i σ' H',Inv X pins σ' H' s7/\tn i s7.heap/\(∀b ∈ fp,H' b=none)/\W i m σ' H':=fun {σ7 H7} I7 n7=>by
   obtain ⟨m',hm,w7⟩:=hN σ7 H7 n7
   refine ⟨m',hm,i + 1,σ7,H7,I7.i7,T.keep _ _ _ st5 fun b hb o e=>(I7.pin (b,o) (List.mem_append_right _ (List.mem_append_right _ (h9 hb e)))).1,fun b hb=>?_,w7⟩
   obtain ⟨o,e,d⟩:=T.obj _ _ st5 b hb
   exact (I7.pin (b,o) (List.mem_append_right _ (List.mem_append_right _ (h9 hb e)))).2.1
  cases f with
  | next=>obtain ⟨σ7,H7,I7,n7⟩:=q7;exact again I7 n7
  | cont=>obtain ⟨σ7,H7,I7,n7⟩:=q7;exact again I7 n7
  | brk=>obtain ⟨σ7,H7,I7,q7⟩:=q7;exact ⟨σ7,H7,I7.i7,q7⟩
  | ret v=>obtain ⟨x7,σ7,H7,I7,r7,q7⟩:=q7;exact ⟨x7,σ7,H7,I7.i7,r7,q7⟩
end
theorem dM {K:PySem.W.Frag}{a:Addr}{xs:List V}{g:TG}{tb:TS}{D:Ends}{σ:St}{H:Hp} (Pv:Nat->St->Hp->Prop) (h0:Pv 0 σ H) (hl:∀i σ H,i <= xs.length->Pv i σ H->SqL K H a xs)
  (hs:∀i x σ H,xs[i]?=some x->Pv i σ H->g x σ H fun σ2 H2=>tb { D with nx:=Pv (i + 1),ct:=Pv (i + 1),bk:=D.nx } σ2 H2) (hd:∀σ H,Pv xs.length σ H->D.nx σ H) :
  ∃W:Nat->Nat->St->Hp->Prop,(∃m,W 0 m σ H)/\∀i m σ H,W i m σ H ->
   ((Itl K a).stop i H/\D.nx σ H) \/ ((Itl K a).go i H/\∃N:St->Hp->Prop,(∀σ' H',N σ' H'->∃m',m' < m/\W (i + 1) m' σ' H')/\∀x H',(Itl K a).yld i H x H'->g x σ H' fun σ2 H2=>tb { D with nx:=N,ct:=N,bk:=D.nx } σ2 H2):=by
 refine ⟨fun i m σ H=>m=xs.length - i/\i <= xs.length/\Pv i σ H,⟨xs.length,by simp,Nat.zero_le _,h0⟩,?_⟩
 rintro i m σ H ⟨rfl,hi,p⟩
 have q:=hl i σ H hi p
 by_cases hlt:i < xs.length
 ·refine .inr ⟨⟨xs,xs[i],q,by simp [hlt]⟩,Pv (i + 1),fun σ' H' p'=>⟨xs.length - (i + 1),by omega,rfl,hlt,p'⟩,fun x H' y=>?_⟩
  obtain ⟨e,y⟩:=y
  subst e
  exact hs i x σ _ (y xs q) p
 ·have e:i=xs.length:=by omega
  subst e
  exact .inl ⟨⟨xs,q,Nat.le_refl _⟩,hd σ H p⟩
theorem kW {lo:Int}{n:Nat}{g:TG}{tb:TS}{D:Ends}{σ:St}{H:Hp} (Pv:Nat->St->Hp->Prop) (h0:Pv 0 σ H)
  (hs:∀i σ H,i < n->Pv i σ H->g (.int (lo + i)) σ H fun σ2 H2=>tb { D with nx:=Pv (i + 1),ct:=Pv (i + 1),bk:=D.nx } σ2 H2) (hd:∀σ H,Pv n σ H->D.nx σ H) :
  ∃W:Nat->Nat->St->Hp->Prop,(∃m,W 0 m σ H)/\∀i m σ H,W i m σ H ->
   ((Itr lo n).stop i H/\D.nx σ H) \/ ((Itr lo n).go i H/\∃N:St->Hp->Prop,(∀σ' H',N σ' H'->∃m',m' < m/\W (i + 1) m' σ' H')/\∀x H',(Itr lo n).yld i H x H'->g x σ H' fun σ2 H2=>tb { D with nx:=N,ct:=N,bk:=D.nx } σ2 H2):=by
 refine ⟨fun i m σ H=>m=n - i/\i <= n/\Pv i σ H,⟨n,by simp,Nat.zero_le _,h0⟩,?_⟩
 rintro i m σ H ⟨rfl,hi,p⟩
 by_cases hlt:i < n
 ·refine .inr ⟨hlt,Pv (i + 1),fun σ' H' p'=>⟨n - (i + 1),by omega,rfl,hlt,p'⟩,fun x H' y=>?_⟩
  obtain ⟨e,y⟩:=y
  subst e y
  exact hs i σ _ hlt p
 ·have e:i=n:=by omega
  subst e
  exact .inl ⟨Nat.le_refl _,hd σ H p⟩
end L2
namespace L2
open PySem PySem.Spec PyProof.Rows
abbrev R2:=V->V->Hp->VK->Prop
def OpR (X:Cx) (f:Value->Value->Sem Value) (r:R2):Prop :=
 ∀(pins:List (Addr × Obj)) (s:Shared) (σ:St) (H:Hp) (x y:V) (v u:Value) (Q:VK),Inv X pins σ H s->RelV x v->RelV y u->r x y H Q ->
  wpAny (model X.prog X.w) X.A (f v u) (EP X pins σ Q) X.xe s
def UnR (X:Cx) (f:Value->Sem Value) (r:V->Hp->VK->Prop):Prop :=
 ∀(pins:List (Addr × Obj)) (s:Shared) (σ:St) (H:Hp) (x:V) (v:Value) (Q:VK),Inv X pins σ H s->RelV x v->r x H Q ->
  wpAny (model X.prog X.w) X.A (f v) (EP X pins σ Q) X.xe s
def dg (X:Cx) (f:Value) (r:List V->Hp->VK->Prop):Prop :=
 ∀(pins:List (Addr × Obj)) (s:Shared) (σ:St) (H:Hp) (xs:List V) (us:List Value) (Q:VK),Inv X pins σ H s->Vals xs us->r xs H Q ->
  wpAny (model X.prog X.w) X.A (call f us) (EP X pins σ Q) X.xe s
def CY (X:Cx) (r:V->Hp->(Bool->Hp->Prop)->Prop):Prop :=
 ∀(pins:List (Addr × Obj)) (s:Shared) (σ:St) (H:Hp) (x:V) (v:Value) (Q:Bool->Hp->Prop),Inv X pins σ H s->RelV x v->r x H Q ->
  wpAny (model X.prog X.w) X.A (truthy v) (TP X pins σ Q) X.xe s
def tOp (r:R2) (ta tb:TE):TE:=fun σ H Q=>ta σ H fun x H1=>tb σ H1 fun y H2=>r x y H2 Q
def tUn (r:V->Hp->VK->Prop) (ta:TE):TE:=fun σ H Q=>ta σ H fun x H1=>r x H1 Q
def rI (C:Int->Int->Prop) (g:Int->Int->V):R2:=fun x y H Q=>∃i j,x=.int i/\y=.int j/\C i j/\Q (g i j) H
def rI0 (g:Int->Int->V):R2:=fun x y H Q=>∃i j,x=.int i/\y=.int j/\Q (g i j) H
def rU (g:Int->V):V->Hp->VK->Prop:=fun x H Q=>∃i,x=.int i/\Q (g i) H
section
variable {X:Cx}{a b c:Expr}{ta tb tc:TE}{pos:Pos}
theorem zA (ha:PE X a ta) (hb:PE X b tb) {pins:List (Addr × Obj)}{s:Shared}{σ:St}{H:Hp}{R:V->V->Hp->Prop} (I:Inv X pins σ H s)
  (h:ta σ H fun x H1=>tb σ H1 fun y H2=>R x y H2) {Q:Value->Shared->Prop}{f:Value->Value->Sem Value}
  (hf:∀v u s2 x y H2,Inv X pins σ H2 s2->RelV x v->RelV y u->R x y H2->wpAny (model X.prog X.w) X.A (f v u) Q X.xe s2) :
  wpAny (model X.prog X.w) X.A (eval a X.env) (fun v s₁=>wpAny (model X.prog X.w) X.A (eval b X.env) (fun u s₂=>wpAny (model X.prog X.w) X.A (f v u) Q X.xe s₂) X.xe s₁) X.xe s:=by
 refine thn (ha pins s σ H _ I h) fun v s1 ⟨x,H1,I1,r1,q1⟩=>?_
 refine thn (hb pins s1 σ H1 _ I1 q1) fun u s2 ⟨y,H2,I2,r2,q2⟩=>?_
 exact hf v u s2 x y H2 I2 r1 r2 q2
theorem ax {op:Operator}{r:R2} (ho:OpR X (binaryOp op) r) (ha:PE X a ta) (hb:PE X b tb):PE X (.BinOp a op b pos) (tOp r ta tb):=by
 intro pins s σ H Q I h
 exact wpAny_BinOp (zA ha hb I h fun v u s2 x y H2 I2 rx ry q=>ho pins s2 σ H2 x y v u Q I2 rx ry q)
theorem fB {op:UnaryOp}{r:V->Hp->VK->Prop} (ho:UnR X (unaryOp op) r) (ha:PE X a ta):PE X (.UnaryOp op a pos) (tUn r ta):=by
 intro pins s σ H Q I h
 exact UnaryOp_ (thn (ha pins s σ H _ I h) fun v s1 ⟨x,H1,I1,r1,q1⟩=>ho pins s1 σ H1 x v Q I1 r1 q1)
theorem opI {f:Value->Value->Sem Value}{C:Int->Int->Prop}{g:Int->Int->Int}
  (rule:∀(i j:Int) (t u:Tok) (s:Shared) (Q:Value->Shared->Prop) (E:Value->Shared->Prop),C i j->Q (.int (g i j) s.toks) { s with toks:=s.toks + 1 }->wpAny (model X.prog X.w) X.A (f (.int i t) (.int j u)) Q E s) :
  OpR X f (rI C fun i j=>.int (g i j)):=by
 intro pins s σ H x y v u Q I rx ry h
 obtain ⟨i,j,rfl,rfl,hc,q⟩:=h
 obtain ⟨t,rfl⟩:=rx
 obtain ⟨t',rfl⟩:=ry
 exact rule i j t t' s _ _ hc ⟨.int (g i j),H,I.tok _,⟨_,rfl⟩,q⟩
theorem Cv {f:Value->Value->Sem Value}{g:Int->Int->Int}
  (rule:∀(i j:Int) (t u:Tok) (s:Shared) (Q:Value->Shared->Prop) (E:Value->Shared->Prop),Q (.int (g i j) s.toks) { s with toks:=s.toks + 1 }->wpAny (model X.prog X.w) X.A (f (.int i t) (.int j u)) Q E s) :
  OpR X f (rI0 fun i j=>.int (g i j)):=by
 intro pins s σ H x y v u Q I rx ry h
 obtain ⟨i,j,rfl,rfl,q⟩:=h
 obtain ⟨t,rfl⟩:=rx
 obtain ⟨t',rfl⟩:=ry
 exact rule i j t t' s _ _ ⟨.int (g i j),H,I.tok _,⟨_,rfl⟩,q⟩
theorem yV {f:Value->Value->Sem Value}{g:Int->Int->Bool}
  (rule:∀(i j:Int) (t u:Tok) (s:Shared) (Q:Value->Shared->Prop) (E:Value->Shared->Prop),Q (.bool (g i j)) s->wpAny (model X.prog X.w) X.A (f (.int i t) (.int j u)) Q E s) :
  OpR X f (rI0 fun i j=>.bl (g i j)):=by
 intro pins s σ H x y v u Q I rx ry h
 obtain ⟨i,j,rfl,rfl,q⟩:=h
 obtain ⟨t,rfl⟩:=rx
 obtain ⟨t',rfl⟩:=ry
 exact rule i j t t' s _ _ ⟨.bl (g i j),H,I,rfl,q⟩
def BV (i j:Int):Prop:=0 <= j/\j <= 1000000/\i.natAbs < 2 ^ 64
def wY (i j:Int):Prop:=(-(2 ^ 64) < i/\i < 2 ^ 64) \/ (-(2 ^ 64) < j/\j < 2 ^ 64)
theorem wY.ok {i j:Int} (h:wY i j):IntMulOk i j:=by
 rcases h with ⟨h1,h2⟩ | ⟨h1,h2⟩
 ·exact .of_left (intBits_le_64 h1 h2)
 ·exact .of_right (intBits_le_64 h1 h2)
theorem sZ (k:Nat):(0:Int) <= 2 ^ k:=by
 rw [two_pow_cast]
 exact Int.natCast_nonneg _
theorem z6:OpR X (binaryOp .Add) (rI0 fun i j=>.int (i + j)):=Cv fun _ _ _ _ _ _ _ q=>add_int q
theorem zW:OpR X (binaryOp .Sub) (rI0 fun i j=>.int (i - j)):=Cv fun _ _ _ _ _ _ _ q=>sub_int q
theorem zx:OpR X (binaryOp .Mult) (rI wY fun i j=>.int (i * j)):=opI fun _ _ _ _ _ _ _ hc q=>mul_int q hc.ok
theorem zI:OpR X (binaryOp .Mod) (rI (fun _ j=>0 < j) fun i j=>.int (i % j)):=opI fun i j _ _ _ _ _ hc q=>by
 have h1:(0:Int) < j:=hc
 exact mod_int' (by omega) (by rw [Int.fmod_eq_emod_of_nonneg i (by omega)];exact q)
theorem zQ:OpR X (binaryOp .Pow) (rI BV fun i j=>.int (i ^ j.toNat)):=opI fun _ _ _ _ _ _ _ hc q=>pow_int_small hc.1 hc.2.1 hc.2.2 q
theorem Ac:OpR X (binaryOp .RShift) (rI (fun _ j=>0 <= j) fun i j=>.int (i / 2 ^ j.toNat)):=opI fun i j _ _ _ _ _ hc q =>
 rshift_int hc (by rw [Int.fdiv_eq_ediv_of_nonneg i (sZ _)];exact q)
theorem unI {f:Value->Sem Value}{g:Int->Int}
  (rule:∀(i:Int) (t:Tok) (s:Shared) (Q:Value->Shared->Prop) (E:Value->Shared->Prop),Q (.int (g i) s.toks) { s with toks:=s.toks + 1 }->wpAny (model X.prog X.w) X.A (f (.int i t)) Q E s) :
  UnR X f (rU fun i=>.int (g i)):=by
 intro pins s σ H x v Q I rx h
 obtain ⟨i,rfl,q⟩:=h
 obtain ⟨t,rfl⟩:=rx
 exact rule i t s _ _ ⟨.int (g i),H,I.tok _,⟨_,rfl⟩,q⟩
theorem dw:UnR X (unaryOp .USub) (rU fun i=>.int (-i)):=unI fun _ _ _ _ _ q=>neg_int q
end
def vi:V->V->Bool
 | .non,.non=>true | .non,.int _=>true | .int _,.non=>true | .non,.bl _=>true | .bl _,.non=>true | .non,.str _=>true | .str _,.non=>true
 | .int _,.int _=>true | .bl _,.bl _=>true | .str _,.str _=>true | .byt _,.byt _=>true
 | .int _,.str _=>true | .str _,.int _=>true | .bl _,.str _=>true | .str _,.bl _=>true
 | _,_=>false
def rEq:R2:=fun x y H Q=>vi x y=true/\Q (.bl (decide (x=y))) H
def rNe:R2:=fun x y H Q=>vi x y=true/\Q (.bl (!decide (x=y))) H
theorem uC {i j:Int}:decide (V.int i=V.int j)=(i == j):=by
 rw [Bool.eq_iff_iff]
 simp
theorem wV {i j:Bool}:decide (V.bl i=V.bl j)=(i == j):=by
 rw [Bool.eq_iff_iff]
 simp
theorem ux {i j:Str}:decide (V.str i=V.str j)=(i == j):=by
 rw [Bool.eq_iff_iff]
 simp
theorem tN {i j:Array UInt8}:decide (V.byt i=V.byt j)=(i.toList == j.toList):=by
 rw [Bool.eq_iff_iff]
 cases i
 cases j
 simp
section
variable {X:Cx}{a b c:Expr}{ta tb tc:TE}{pos:Pos}
theorem bF {pins:List (Addr × Obj)}{σ:St}{H:Hp}{s:Shared}{Q:VK}{k k':Bool} (I:Inv X pins σ H s) (q:Q (.bl k) H) (e:k=k'):EP X pins σ Q (.bool k') s:=by
 subst e
 exact ⟨.bl k,H,I,rfl,q⟩
theorem Co:OpR X (compareOp .Eq) rEq:=by
 intro pins s σ H x y v u Q I rx ry h
 obtain ⟨hs,q⟩:=h
 cases x with
 | non =>
  cases rx
  cases y with
  | non=>cases ry;exact PySem.EqNone.eq_none_none (bF I q (by simp))
  | bl j=>cases ry;exact PySem.EqNone.eq_none_bool (bF I q (by simp))
  | int j=>obtain ⟨t',rfl⟩:=ry;exact PySem.EqNone.eq_none_int (bF I q (by simp))
  | str j=>obtain ⟨t',rfl⟩:=ry;exact PySem.EqNone.eq_none_str (bF I q (by simp))
  | _=>exact absurd (show false=true from hs) Bool.false_ne_true
 | bl i =>
  cases rx
  cases y with
  | non=>cases ry;exact PySem.EqNone.eq_bool_none (bF I q (by simp))
  | bl j=>cases ry;exact eq_bool (bF I q wV)
  | str j=>obtain ⟨t',rfl⟩:=ry;exact PySem.EqMixed.eq_bool_str (bF I q (by simp))
  | _=>exact absurd (show false=true from hs) Bool.false_ne_true
 | int i =>
  obtain ⟨t,rfl⟩:=rx
  cases y with
  | non=>cases ry;exact PySem.EqNone.eq_int_none (bF I q (by simp))
  | int j=>obtain ⟨t',rfl⟩:=ry;exact eq_int (bF I q uC)
  | str j=>obtain ⟨t',rfl⟩:=ry;exact PySem.EqMixed.eq_int_str (bF I q (by simp))
  | _=>exact absurd (show false=true from hs) Bool.false_ne_true
 | str i =>
  obtain ⟨t,rfl⟩:=rx
  cases y with
  | non=>cases ry;exact PySem.EqNone.eq_str_none (bF I q (by simp))
  | bl j=>cases ry;exact PySem.EqMixed.eq_str_bool (bF I q (by simp))
  | int j=>obtain ⟨t',rfl⟩:=ry;exact PySem.EqMixed.eq_str_int (bF I q (by simp))
  | str j=>obtain ⟨t',rfl⟩:=ry;exact eq_str (bF I q ux)
  | _=>exact absurd (show false=true from hs) Bool.false_ne_true
 | byt i =>
  obtain ⟨t,rfl⟩:=rx
  cases y with
  | byt j=>obtain ⟨t',rfl⟩:=ry;exact W.eq_bytes (bF I q tN)
  | _=>exact absurd (show false=true from hs) Bool.false_ne_true
 | _=>cases y <;> exact absurd (show false=true from hs) Bool.false_ne_true
theorem Bi:OpR X (compareOp .NotEq) rNe:=by
 intro pins s σ H x y v u Q I rx ry h
 obtain ⟨hs,q⟩:=h
 cases x with
 | non =>
  cases rx
  cases y with
  | non=>cases ry;exact PySem.EqNone.ne_none_none (bF I q (by simp))
  | bl j=>cases ry;exact PySem.EqNone.ne_none_bool (bF I q (by simp))
  | int j=>obtain ⟨t',rfl⟩:=ry;exact PySem.EqNone.ne_none_int (bF I q (by simp))
  | str j=>obtain ⟨t',rfl⟩:=ry;exact PySem.EqNone.ne_none_str (bF I q (by simp))
  | _=>exact absurd (show false=true from hs) Bool.false_ne_true
 | bl i =>
  cases rx
  cases y with
  | non=>cases ry;exact PySem.EqNone.ne_bool_none (bF I q (by simp))
  | bl j=>cases ry;exact ne_bool (bF I q (congrArg not wV))
  | str j=>obtain ⟨t',rfl⟩:=ry;exact PySem.EqMixed.ne_bool_str (bF I q (by simp))
  | _=>exact absurd (show false=true from hs) Bool.false_ne_true
 | int i =>
  obtain ⟨t,rfl⟩:=rx
  cases y with
  | non=>cases ry;exact PySem.EqNone.ne_int_none (bF I q (by simp))
  | int j=>obtain ⟨t',rfl⟩:=ry;exact ne_int (bF I q (congrArg not uC))
  | str j=>obtain ⟨t',rfl⟩:=ry;exact PySem.EqMixed.ne_int_str (bF I q (by simp))
  | _=>exact absurd (show false=true from hs) Bool.false_ne_true
 | str i =>
  obtain ⟨t,rfl⟩:=rx
  cases y with
  | non=>cases ry;exact PySem.EqNone.ne_str_none (bF I q (by simp))
  | bl j=>cases ry;exact PySem.EqMixed.ne_str_bool (bF I q (by simp))
  | int j=>obtain ⟨t',rfl⟩:=ry;exact PySem.EqMixed.ne_str_int (bF I q (by simp))
  | str j=>obtain ⟨t',rfl⟩:=ry;exact ne_str (bF I q (congrArg not ux))
  | _=>exact absurd (show false=true from hs) Bool.false_ne_true
 | byt i =>
  obtain ⟨t,rfl⟩:=rx
  cases y with
  | byt j=>obtain ⟨t',rfl⟩:=ry;exact W.ne_bytes (bF I q (congrArg not tN))
  | _=>exact absurd (show false=true from hs) Bool.false_ne_true
 | _=>cases y <;> exact absurd (show false=true from hs) Bool.false_ne_true
theorem By:OpR X (compareOp .Lt) (rI0 fun i j=>.bl (decide (i < j))):=yV fun _ _ _ _ _ _ _ q=>lt_int q
theorem BJ:OpR X (compareOp .LtE) (rI0 fun i j=>.bl (decide (i <= j))):=yV fun _ _ _ _ _ _ _ q=>le_int q
theorem BE:OpR X (compareOp .Gt) (rI0 fun i j=>.bl (decide (j < i))):=yV fun _ _ _ _ _ _ _ q=>gt_int q
theorem BQ:OpR X (compareOp .GtE) (rI0 fun i j=>.bl (decide (j <= i))):=yV fun _ _ _ _ _ _ _ q=>ge_int q
theorem uQ:OpR X (compareOp .In) (fun x y H Q=>∃i j,x=.str i/\y=.str j/\Q (.bl (!(Builtin.Str.occurrences j i 0 j.length 1).isEmpty)) H):=by
 intro pins s σ H x y v u Q I rx ry h
 obtain ⟨i,j,rfl,rfl,q⟩:=h
 obtain ⟨t,rfl⟩:=rx
 obtain ⟨t',rfl⟩:=ry
 exact in_str (bF I q rfl)
theorem AB:OpR X (compareOp .Is) (fun x y H Q=>y=.non/\Q (.bl (decide (x=.non))) H):=by
 intro pins s σ H x y v u Q I rx ry h
 obtain ⟨rfl,q⟩:=h
 cases ry
 refine is_none_gen (bF I q ?_)
 cases x <;> first
  | (cases rx;rfl)
  | (obtain ⟨t,rfl⟩:=rx;rfl)
theorem OpR.or {f:Value->Value->Sem Value}{r r':R2} (h:OpR X f r) (h':OpR X f r'):OpR X f (fun x y H Q=>r x y H Q \/ r' x y H Q):=by
 intro pins s σ H x y v u Q I rx ry q
 rcases q with q | q
 ·exact h pins s σ H x y v u Q I rx ry q
 ·exact h' pins s σ H x y v u Q I rx ry q
theorem aG (b:Expr) {op:CmpOp} (h:op ≠ .In:=by decide) (h2:op ≠ .NotIn:=by decide):behindInMarks op b=false:=by
 have e1:(op == CmpOp.In)=false:=by cases op <;> first | rfl | exact absurd rfl h
 have e2:(op == CmpOp.NotIn)=false:=by cases op <;> first | rfl | exact absurd rfl h2
 cases b <;> simp [behindInMarks,e1,e2]
theorem fR {op:CmpOp}{r:R2} (ho:OpR X (compareOp op) r) (ha:PE X a ta) (hb:PE X b tb) (hm:behindInMarks op b=false):PE X (.Compare a [op] [b] pos) (tOp r ta tb):=by
 intro pins s σ H Q I h
 exact wpAny_Compare1 (zA ha hb I h fun v u s2 x y H2 I2 rx ry q=>ho pins s2 σ H2 x y v u Q I2 rx ry q) hm
def Cr (t:TE):TT:=fun σ H Q=>t σ H fun x H'=>∃k,x=.bl k/\Q k H'
theorem aC {op:CmpOp}{r:R2} (ho:OpR X (compareOp op) r) (ha:PE X a ta) (hb:PE X b tb) (hm:behindInMarks op b=false):PT X (.Compare a [op] [b] pos) (Cr (tOp r ta tb)):=by
 intro pins s σ H Q I h
 refine wpAny_isTrue_Compare1 (thn (ha pins s σ H _ I h) fun v s1 ⟨x,H1,I1,r1,q1⟩=>thn (hb pins s1 σ H1 _ I1 q1) fun u s2 ⟨y,H2,I2,r2,q2⟩ =>
  thn (ho pins s2 σ H2 x y v u _ I2 r1 r2 q2) fun c s3 ⟨z,H3,I3,r3,k,e,q3⟩=>?_) hm
 subst e
 cases r3
 exact wpAny_truthy_bool ⟨H3,I3,q3⟩
def ym (K:W.Frag) (x:V) (H:Hp) (k:Bool):Prop :=
 match x with
 | .non=>k=false
 | .bl b=>k=b
 | .int i=>k=(i != 0)
 | .str y=>y.length <= sizeLine/\k=((y.length:Int) != 0)
 | .byt y=>y.size <= sizeLine/\k=((y.size:Int) != 0)
 | .ref p=>(∃xs,SqL K H p xs/\k=!xs.isEmpty) \/ (∃xs,SqT K H p xs/\k=!xs.isEmpty) \/ ∃kvs,H p=some (.dK kvs)/\k=!kvs.isEmpty
 | _=>False
theorem sR {κ:Type}{kvs:List (κ × V)}{vs:List (κ × Value)} (r:KV kvs vs):(!vs.isEmpty)=!kvs.isEmpty:=by
 cases r <;> rfl
theorem mO {xs:List V}{its:List Value} (r:Vals xs its):(!its.toArray.isEmpty)=!xs.isEmpty:=by
 cases r <;> simp
theorem kX:(sizeLine:Nat) < 2 ^ 63:=by rw [sizeLine_eq];decide
theorem wm:CY X (fun x H Q=>∃k,ym X.K x H k/\Q k H):=by
 intro pins s σ H x v Q I rx h
 obtain ⟨k,e,q⟩:=h
 have hl:=kX
 have hs:sizeLine=16777216:=sizeLine_eq
 cases x with
 | non =>
  cases rx
  have e':k=false:=e
  subst e'
  exact truthy_none ⟨H,I,q⟩
 | bl b =>
  cases rx
  have e':k=b:=e
  subst e'
  exact wpAny_truthy_bool ⟨H,I,q⟩
 | int i =>
  obtain ⟨t,rfl⟩:=rx
  have e':k=(i != 0):=e
  subst e'
  exact PySem.P.truthy_int ⟨H,I,q⟩
 | str y =>
  obtain ⟨t,rfl⟩:=rx
  obtain ⟨hy,e'⟩:y.length <= sizeLine/\k=((y.length:Int) != 0):=e
  subst e'
  exact PySem.P.truthy_str (by omega) ⟨H,I.tok _,q⟩
 | byt y =>
  obtain ⟨t,rfl⟩:=rx
  obtain ⟨hy,e'⟩:y.size <= sizeLine/\k=((y.size:Int) != 0):=e
  subst e'
  exact W.truthy_bytes (by omega) ⟨H,I.tok _,q⟩
 | ref p =>
  cases rx
  have e':(∃xs,SqL X.K H p xs/\k=!xs.isEmpty) \/ (∃xs,SqT X.K H p xs/\k=!xs.isEmpty) \/ ∃kvs,H p=some (.dK kvs)/\k=!kvs.isEmpty:=e
  rcases e' with ⟨xs,hx,e'⟩ | ⟨xs,hx,e'⟩ | ⟨kvs,hx,e'⟩
  ·subst e'
   obtain ⟨its,r,pl,hz⟩:=I.list hx
   have hlen:=r.length
   exact wpAny_truthy_list pl.isList (by simp only [List.size_toArray];omega) ⟨H,I.tok _,by rw [mO r];exact q⟩
  ·subst e'
   obtain ⟨its,r,pl,hz⟩:=I.tuple hx
   have hlen:=r.length
   exact truthy_tuple pl (by simp only [List.size_toArray];omega) ⟨H,I.tok _,by rw [mO r];exact q⟩
  ·subst e'
   obtain ⟨hz,hS,vs,r,m⟩:kvs.length <= sizeLine/\(p == sysModules)=false/\∃vs,KV kvs vs/\s.heap.DictOf (cn X.prog X.w) p vs:=I.hok p _ hx
   have hlen:kvs.length=vs.length:=Paired.length r
   exact wpAny_truthy_dict hS m (by omega) ⟨H,I.tok _,by rw [sR r];exact q⟩
 | _=>exact (show False from e).elim
theorem xH (ha:PE X a ta) (he:∀whole,isTrue a X.env whole=(do let v <- whole;standAt a.pos;holding [v] (truthy v))) :
  PT X a (fun σ H Q=>ta σ H fun x H'=>∃k,ym X.K x H' k/\Q k H'):=by
 intro pins s σ H Q I h
 exact isTrue_plain (thn (ha pins s σ H _ I h) fun v s1 ⟨x,H1,I1,r1,q1⟩=>wm pins s1 σ H1 x v Q I1 r1 q1) (he _)
theorem sv:OpR X (binaryOp .Add) (fun x y H Q=>∃i j,x=.str i/\y=.str j/\i.length + j.length <= sizeLine/\Q (.str (i ++ j)) H):=by
 intro pins s σ H x y v u Q I rx ry h
 obtain ⟨i,j,rfl,rfl,hz,q⟩:=h
 obtain ⟨t,rfl⟩:=rx
 obtain ⟨t',rfl⟩:=ry
 exact add_str (fun t' tk=>⟨.str (i ++ j),H,I.tok _,⟨_,rfl⟩,q⟩) hz
theorem vals1 {x:V}{us:List Value} (r:Vals [x] us):∃u,us=[u]/\RelV x u:=by
 cases r with
 | cons r1 r2=>cases r2;exact ⟨_,rfl,r1⟩
theorem vals2 {x y:V}{us:List Value} (r:Vals [x,y] us):∃u w',us=[u,w']/\RelV x u/\RelV y w':=by
 cases r with
 | cons r1 r2 =>
  cases r2 with
  | cons r3 r4=>cases r4;exact ⟨_,_,rfl,r1,r3⟩
theorem uS (hc:X.calm=true):dg X (.builtin "max") (fun xs H Q=>∃i j,xs=[.int i,.int j]/\Q (.int (if j > i then j else i)) H):=by
 intro pins s σ H xs us Q I r h
 obtain ⟨i,j,rfl,q⟩:=h
 obtain ⟨u,w',rfl,⟨t,rfl⟩,⟨t',rfl⟩⟩:=vals2 r
 refine max_two_ints (I.ok.hd hc) fun h' tk k=>⟨_,H,I.kept k,?_,q⟩
 by_cases hj:j > i
 ·rw [if_pos hj,if_pos hj];exact ⟨_,rfl⟩
 ·rw [if_neg hj,if_neg hj];exact ⟨_,rfl⟩
def zP (K:W.Frag) (x:V) (H:Hp) (n:Nat):Prop :=
 match x with
 | .str y=>y.length <= sizeLine/\n=y.length
 | .byt y=>y.size <= sizeLine/\n=y.size
 | .ref p=>(∃xs,SqL K H p xs/\n=xs.length) \/ ∃xs,SqT K H p xs/\n=xs.length
 | _=>False
theorem wA:dg X (.builtin "len") (fun xs H Q=>∃x n,xs=[x]/\zP X.K x H n/\Q (.int n) H):=by
 intro pins s σ H xs us Q I r h
 obtain ⟨x,n,rfl,e,q⟩:=h
 obtain ⟨u,rfl,rx⟩:=vals1 r
 have hl:=kX
 have hs:sizeLine=16777216:=sizeLine_eq
 cases x with
 | str y =>
  obtain ⟨t,rfl⟩:=rx
  obtain ⟨hy,e'⟩:y.length <= sizeLine/\n=y.length:=e
  subst e'
  exact len_str (by omega) ⟨.int _,H,I.tok _,⟨_,rfl⟩,q⟩
 | byt y =>
  obtain ⟨t,rfl⟩:=rx
  obtain ⟨hy,e'⟩:y.size <= sizeLine/\n=y.size:=e
  subst e'
  exact W.len_bytes (by omega) ⟨.int _,H,I.tok _,⟨_,rfl⟩,q⟩
 | ref p =>
  cases rx
  have e':(∃xs,SqL X.K H p xs/\n=xs.length) \/ ∃xs,SqT X.K H p xs/\n=xs.length:=e
  rcases e' with ⟨xs,hx,e'⟩ | ⟨xs,hx,e'⟩
  ·subst e'
   obtain ⟨its,r',pl,hz⟩:=I.list hx
   have hlen:=r'.length
   exact Calls.call_len_list pl.isList (by simp only [List.size_toArray];omega) ⟨.int xs.length,H,I.tok _,⟨_,by simp only [List.size_toArray];rw [hlen]⟩,q⟩
  ·subst e'
   obtain ⟨its,r',pl,hz⟩:=I.tuple hx
   have hlen:=r'.length
   exact len_tuple pl (by simp only [List.size_toArray];omega) ⟨.int xs.length,H,I.tok _,⟨_,by simp only [List.size_toArray];rw [hlen]⟩,q⟩
 | _=>exact (show False from e).elim
end
end L2
namespace L2
open PySem PySem.Spec PyProof.Rows
structure vF (h:Heap) (x dx C:Addr) (mA:Str->Option Value):Prop where
 obj:h.get? x=some (W.instObj C dx)
 ns:h.Ns1 dx mA
 ne:dx ≠ x
theorem uL {h:Heap}{dx:Addr}{mA:Str->Option Value} (n:h.Ns1 dx mA):∃od,h.get? dx=some od/\∀name,W.lookIn name od=some (mA name):=by
 obtain ⟨o,es,ep,ho,hd,hk,_,hm⟩:=n
 refine ⟨o,ho,fun name=>?_⟩
 have e:=hm name
 unfold nsFind findBy at e
 rw [<- Array.find?_toList] at e
 unfold W.lookIn
 rw [hd]
 dsimp only
 split
 ·rename_i y q
  rw [q] at e
  exact congrArg some e
 ·rename_i q
  rw [q] at e
  have a:es.toList.any (·.refKey)=false:=by
   rw [List.any_eq_false]
   intro y hy
   obtain ⟨z,t,hkey⟩:=hk y (Array.mem_toList_iff.mp hy)
   simp [DictEntry.refKey,hkey]
  have a':¬ es.toList.any (·.refKey)=true:=by rw [a];exact Bool.false_ne_true
  rw [if_neg a']
  exact congrArg some e
theorem vF.look {h:Heap}{x dx C:Addr}{mA:Str->Option Value} (I:vF h x dx C mA):∃od,W.InstAt h x (W.instObj C dx) C (some od)/\∀name,W.lookIn name od=some (mA name) :=
 let ⟨od,ho,hl⟩:=uL I.ns
 ⟨od,⟨I.obj,rfl,rfl,ho⟩,hl⟩
section
variable {prog:Program}{w:World}{A:Around}{E:Value->Shared->Prop}{s:Shared}{K:W.Frag}{x dx C f:Addr}{mA:Str->Option Value}{name:Str}{v:Value}
theorem get_map {expr:Bool}{Q:Value->Shared->Prop} (X:K.In s.heap) (I:vF s.heap x dx C mA) (hg:W.plainGet K C name=true) (hh:W.hasDictIn K C=true)
  (ha:W.findIn K (.ref C) name=some none) (hv:mA name=some v) (hv':W.handedIn v=true) (h:Q v { s with toks:=s.toks + 1 }) :
  wpAny (model prog w) A (getAttr (.ref x) name expr) Q E s:=by
 obtain ⟨od,J,hl⟩:=I.look
 exact W.get_value X J (W.plainGet_of hg).1 (W.findObj_own hh ha rfl (by rw [hl,hv])) hv' h
theorem yn {ns:List Str}{Q:Unit->Shared->Prop} (X:K.In s.heap) (I:vF s.heap x dx C mA)
  (hs:W.findIn K (.ref C) "__setattr__"=some (some (.builtin "object.__setattr__"))) (hp:W.plainOver K C=true) (ht:W.takerIn K C name=some none) (hh:W.hasDictIn K C=true)
  (hw:PySem.Within mA ns) (hsz:ns.length <= sizeLine)
  (h:∀h',vF h' x dx C (fun y=>if y=name then some v else mA y)->Heap.SameBut dx s.heap h'->Q () { s with heap:=h',toks:=s.toks + 2 }) :
  wpAny (model prog w) A (setAttr (.ref x) name v) Q E s:=by
 obtain ⟨od,J,hl⟩:=I.look
 refine W.set_plain X J hs (W.osa_open (s:={ s with toks:=s.toks + 1 }) (r:=none) X J hp ht fun b=>?_)
 obtain ⟨cd,hc,hd'⟩:=W.any_some hh
 have hx:s.heap.get? x=some ⟨.ref C,some dx,.plain,#[]⟩:=I.obj
 refine wpAny_bind (wpAny_pure (wpAny_bind (wpAny_bind (wpAny_loadPart hx (wpAny_bind (W.Looks.here (s:={ s with toks:=s.toks + 1 }) (W.looks_clsIn X hc) ?_))))))
 rw [hd']
 refine wpAny_pure (a:=some dx) (wpAny_bind (wpAny_pure (wpAny_bind ?_)))
 refine wpAny_nsSet1 (s:={ s with toks:=s.toks + 1 }) I.ns fun h' hn2 hs2=>?_
 obtain ⟨oD,esD,epD,hoD,hdD,hcD⟩:=hn2.count (PySem.Within.cons name v hw)
 refine wpAny_bind (wpAny_lookBehind hoD (by rw [hdD];exact pastItsLine_dict (Nat.le_trans hcD (by rw [List.length_cons];omega))) ?_)
 exact wpAny_pure (h _ ⟨(hs2.2 _ (Ne.symm I.ne)).trans I.obj,hn2,I.ne⟩ hs2)
theorem wz {R:Result->Shared->Prop}{vs:List Value}{kw:List (Str × Value)} (X:K.In s.heap) (hm:W.makesIn K C=true)
  (hi:W.findIn K (.ref C) "__init__"=some (some (.ref f))) (hf:W.typeIn K (.ref f)=some (.type "function"))
  (h:codeAny (model prog w) (A.under (.builtin "type.__call__" ⟨.ref C :: vs,kw⟩)) (.call (.ref f) ⟨.ref (s.heap.objs.size + 1) :: vs,kw⟩) (W.InitBack (s.heap.objs.size + 1) R)
   { s with heap:=(s.heap.push W.emptyDict).push (W.instObj C s.heap.objs.size) }) :
  codeAny (model prog w) A (.call (.ref C) ⟨vs,kw⟩) R s:=by
 obtain ⟨hh,g,d,t,os⟩:=s
 exact W.make_core (W.makes_of X hm) (W.looks_findIn X hi) (fun self=>W.bind_fn X self hf) (.inl rfl) h
end
def jb (f:Str) (v:V):List (Str × V)->List (Str × V)
 | []=>[(f,v)]
 | (g,x) :: r=>if g=f then (g,v) :: r else (g,x) :: jb f v r
theorem lU (f g:Str) (v:V):∀fs:List (Str × V),(jb f v fs).lookup g=if g=f then some v else fs.lookup g
 | []=>by
  show List.lookup g [(f,v)]=_
  by_cases h:g=f
  ·have hb:(g == f)=true:=beq_iff_eq.mpr h
   simp only [List.lookup,hb,if_pos h]
  ·have hb:(g == f)=false:=beq_eq_false_iff_ne.mpr h
   simp only [List.lookup,hb,if_neg h]
 | (k,x) :: r=>by
  have ih:=lU f g v r
  rw [show jb f v ((k,x) :: r)=(if k=f then (k,v) :: r else (k,x) :: jb f v r) from rfl]
  by_cases hk:k=f
  ·rw [if_pos hk]
   by_cases h:g=k
   ·have hb:(g == k)=true:=beq_iff_eq.mpr h
    simp only [List.lookup,hb,if_pos (h.trans hk)]
   ·have hb:(g == k)=false:=beq_eq_false_iff_ne.mpr h
    simp only [List.lookup,hb,if_neg (fun e:g=f=>h (e.trans hk.symm))]
  ·rw [if_neg hk]
   by_cases h:g=k
   ·have hb:(g == k)=true:=beq_iff_eq.mpr h
    simp only [List.lookup,hb,if_neg (fun e:g=f=>hk (h.symm.trans e))]
   ·have hb:(g == k)=false:=beq_eq_false_iff_ne.mpr h
    simp only [List.lookup,hb]
    exact ih
theorem lM (f:Str) (v:V):∀fs:List (Str × V),f ∈ (jb f v fs).map (·.1)/\∀g,g ∈ fs.map (·.1)->g ∈ (jb f v fs).map (·.1)
 | []=>⟨by simp [jb],fun g h=>by simp at h⟩
 | (k,x) :: r=>by
  obtain ⟨i1,i2⟩:=lM f v r
  rw [show jb f v ((k,x) :: r)=(if k=f then (k,v) :: r else (k,x) :: jb f v r) from rfl]
  by_cases hk:k=f
  ·rw [if_pos hk]
   subst hk
   exact ⟨by simp,fun g h=>by simpa using h⟩
  ·rw [if_neg hk]
   refine ⟨?_,fun g h=>?_⟩
   ·rw [List.map_cons]
    exact List.mem_cons_of_mem _ i1
   ·rw [List.map_cons] at h ⊢
    rcases List.mem_cons.mp h with e | e
    ·exact List.mem_cons.mpr (.inl e)
    ·exact List.mem_cons_of_mem _ (i2 g e)
theorem lV (f:Str) (v:V):∀fs:List (Str × V),(jb f v fs).length <= fs.length + 1
 | []=>by simp [jb]
 | (k,x) :: r=>by
  have ih:=lV f v r
  rw [show jb f v ((k,x) :: r)=(if k=f then (k,v) :: r else (k,x) :: jb f v r) from rfl]
  by_cases hk:k=f
  ·rw [if_pos hk,List.length_cons,List.length_cons];omega
  ·rw [if_neg hk,List.length_cons,List.length_cons];omega
theorem lA.some_of {v:V}{o:Option Value} (r:lA (some v) o):∃u,o=some u/\RelV v u:=by
 cases o with
 | none=>exact (show False from r).elim
 | some u=>exact ⟨u,rfl,r⟩
theorem vg {v:V}{u:Value} (r:RelV v u):W.handedIn u=true:=by
 cases v with
 | non=>cases (show u=Value.none from r);rfl
 | bl b=>cases (show u=Value.bool b from r);rfl
 | int i=>obtain ⟨t,e⟩:=(show ∃t,u=Value.int i t from r);cases e;rfl
 | str x=>obtain ⟨t,e⟩:=(show ∃t,u=Value.str x t from r);cases e;rfl
 | byt b=>obtain ⟨t,e⟩:=(show ∃t,u=Value.bytes b t from r);cases e;rfl
 | flt b=>obtain ⟨t,e⟩:=(show ∃t,u=Value.float b t from r);cases e;rfl
 | ref a=>cases (show u=Value.ref a from r);rfl
 | ty n=>cases (show u=Value.type n from r);rfl
section
variable {P:Program}{w:World}{H H':Hp}{h h':Heap}{a C dx:Addr}{fs fs':List (Str × V)}
theorem pX (hok:HOk P w H h) (e:H a=some (.ins C dx fs)):∃mA,vF h a dx C mA/\(∀f,lA (fs.lookup f) (mA f))/\PySem.Within mA (fs.map (·.1))/\fs.length <= 1000/\H dx=some (.own a):=by
 obtain ⟨d,z,ne,ob,mA,n,r,q⟩:=(show cI P w H h a (.ins C dx fs) from hok a _ e)
 exact ⟨mA,⟨ob,n,ne⟩,r,q,z,d⟩
end
structure Cls (K:W.Frag) (C:Addr):Prop where
 pg:W.plainGet K C Str.empty=true
 hd:W.hasDictIn K C=true
 po:W.plainOver K C=true
 sa:W.findIn K (.ref C) "__setattr__"=some (some (.builtin "object.__setattr__"))
theorem Cls.get {K:W.Frag}{C:Addr} (c:Cls K C) (f:Str):W.plainGet K C f=true:=c.pg
def aQ (K:W.Frag) (C:Addr) (f:Str):Prop:=W.findIn K (.ref C) f=some none
theorem aQ.A8 {K:W.Frag}{C:Addr}{f:Str} (n:aQ K C f):W.takerIn K C f=some none:=by
 unfold W.takerIn
 rw [show W.findIn K (.ref C) f=some none from n]
 rfl
structure Con (K:W.Frag) (C:Addr) (f:Str) (v:V) (u:Value):Prop where
 at_:W.findIn K (.ref C) f=some (some u)
 rel:RelV v u
 get:W.specialIn K u "__get__"=some none
 cp:W.copiedNames.contains f=false
structure Meth (K:W.Frag) (C:Addr) (m:Str) (f:Addr):Prop where
 at_:W.findIn K (.ref C) m=some (some (.ref f))
 fn:W.isFn K (.ref f)=true
 kp:W.keepIn K (.ref f)=true
section
variable {X:Cx}{pins:List (Addr × Obj)}{σ:St}{H:Hp}{s:Shared}{a C dx:Addr}{fs:List (Str × V)}{f:Str}{v:V}{A:Around}{E:Value->Shared->Prop}
theorem sr {b:Bool}{Q:Value->Shared->Prop} (I:Inv X pins σ H s) (e:H a=some (.ins C dx fs)) (c:Cls X.K C) (n:aQ X.K C f) (l:fs.lookup f=some v)
  (h:∀u s',Inv X pins σ H s'->RelV v u->Q u s'):wpAny (model X.prog X.w) A (getAttr (.ref a) f b) Q E s:=by
 obtain ⟨mA,O,r,_,_,_⟩:=pX I.hok e
 obtain ⟨u,hu,ru⟩:=lA.some_of (v:=v) (o:=mA f) (by rw [<- l];exact r f)
 exact get_map I.kIn O (c.get f) c.hd n hu (vg ru) (h u _ (I.tok _) ru)
theorem sD {y:V}{u:Value}{Q:Unit->Shared->Prop} (I:Inv X pins σ H s) (e:H a=some (.ins C dx fs)) (c:Cls X.K C) (n:aQ X.K C f) (hl:fs.length < 1000) (ry:RelV y u)
  (h:∀s',Inv X pins σ (upd H a (.ins C dx (jb f y fs))) s'->Q () s'):wpAny (model X.prog X.w) A (setAttr (.ref a) f u) Q E s:=by
 obtain ⟨mA,O,r,wi,_,ho⟩:=pX I.hok e
 have hz:(fs.map (·.1)).length <= sizeLine:=by rw [List.length_map,sizeLine_eq];omega
 refine yn I.kIn O c.sa c.po n.A8 c.hd wi hz fun h' O' sb=>h _ ?_
 have hd:∃o,h'.get? dx=some o:=let ⟨o,_,_,e',_⟩:=O'.ns;⟨o,e'⟩
 refine I.write (x:=a) (e:=dx) (by rw [e];exact True.intro) (.inr ho) (fun b q hb z=>(sb.2 b hb).trans z) hd ?_
 refine ⟨by rw [aw O.ne];exact ho,?_,O.ne,O'.obj,_,O'.ns,fun g=>?_,fun g hg=>?_⟩
 ·have:=lV f y fs;omega
 ·show lA ((jb f y fs).lookup g) (if g=f then some u else mA g)
  rw [lU]
  by_cases q:g=f
  ·rw [if_pos q,if_pos q];exact ry
  ·rw [if_neg q,if_neg q];exact r g
 ·by_cases q:g=f
  ·rw [q];exact (lM f y fs).1
  ·refine (lM f y fs).2 g (wi g fun z=>hg ?_)
   show (if g=f then some u else mA g)=none
   rw [if_neg q];exact z
theorem Inv.made (I:Inv X pins σ H s):Inv X pins σ (upd (upd H s.heap.objs.size (.own (s.heap.objs.size + 1))) (s.heap.objs.size + 1) (.ins C s.heap.objs.size []))
  { s with heap:=(s.heap.push W.emptyDict).push (W.instObj C s.heap.objs.size) }:=by
 have e1:(s.heap.push W.emptyDict).get? s.heap.objs.size=some W.emptyDict:=Heap.get?_push_size s.heap rfl
 have e2:((s.heap.push W.emptyDict).push (W.instObj C s.heap.objs.size)).get? (s.heap.objs.size + 1)=some (W.instObj C s.heap.objs.size):=by
  have:=Heap.get?_push_size (s.heap.push W.emptyDict) (o:=W.instObj C s.heap.objs.size) rfl
  rwa [Heap.size_push] at this
 have e3:(s.heap.push W.emptyDict).Ns s.heap.objs.size (fun _=>none):=⟨W.emptyDict,#[],_,e1,rfl,(fun e he=>absurd he (by simp)),fun _=>rfl⟩
 have I1:=I.laid (a:=s.heap.objs.size) (o:=.own (s.heap.objs.size + 1)) (h':=s.heap.push W.emptyDict) (t':=s.toks) (fun b u q=>Heap.get?_push_of_some _ q) (Nat.le_refl _) ⟨_,e1⟩
 refine I1.laid (a:=s.heap.objs.size + 1) (o:=.ins C s.heap.objs.size []) (t':=s.toks) (fun b u q=>Heap.get?_push_of_some _ q) (Nat.le_of_eq (Heap.size_push _ _)) ?_
 have ne:s.heap.objs.size ≠ s.heap.objs.size + 1:=Nat.ne_of_lt (Nat.lt_succ_self _)
 refine ⟨by rw [aw ne,ak],Nat.zero_le _,ne,e2,fun _=>none,(Heap.Ns1.of_empty e3).at fun o q=>Heap.get?_push_of_some _ q,fun _=>True.intro,fun y hy=>absurd rfl hy⟩
theorem yi {prog:Program}{w:World}{env:Env}{e:Expr}{f:Str}{pos:Pos}{s:Shared}{Q:Value->Shared->Prop} (hb:attributeBase e f env (eval e env)=eval e env)
  (h:wpAny (model prog w) A (eval e env) (fun o s₁=>wpAny (model prog w) A (getAttr o f true) Q E s₁) E s):wpAny (model prog w) A (eval (.Attribute e f pos) env) Q E s :=
 Attribute_any_ h (by rw [arm_eval_Attribute,hb])
end
def CF (K:W.Frag) (ta:TE) (f:Str):TE:=fun σ H Q=>ta σ H fun x H1=>∃a C dx fs v,x=.ref a/\H1 a=some (.ins C dx fs)/\Cls K C/\aQ K C f/\fs.lookup f=some v/\Q v H1
def CI (K:W.Frag) (ta tv:TE) (f:Str):TS:=fun D σ H=>tv σ H fun y H1=>ta σ H1 fun x H2=>∃a C dx fs,x=.ref a/\H2 a=some (.ins C dx fs)/\Cls K C/\aQ K C f/\fs.length < 1000 /\
 D.nx σ (upd H2 a (.ins C dx (jb f y fs)))
section
variable {X:Cx}{o e value:Expr}{f:Str}{pos pos' tpos:Pos}{ta tv:TE}
theorem dA (he:PE X e ta) (hb:attributeBase e f X.env (eval e X.env)=eval e X.env):PE X (.Attribute e f pos) (CF X.K ta f):=by
 intro pins s σ H Q I h
 refine yi hb (thn (he pins s σ H _ I h) fun u s1 ⟨x,H1,I1,rx,a,C,dx,fs,v,ex,ea,c,n,l,q⟩=>?_)
 subst ex
 obtain rfl:u=Value.ref a:=rx
 exact sr I1 ea c n l fun u' s2 I2 ru=>⟨v,H1,I2,ru,q⟩
theorem bq (ha:PE X o ta) (hv:PE X value tv) (hs:swapsWith value (some (.Attribute o f pos')) pos.line X.env=pure false):PS X (.Assign [.Attribute o f pos'] value pos) (CI X.K ta tv f):=by
 intro pins s σ H D I h
 refine plainObj_wpAny_Assign_Attribute (thn (hv pins s σ H _ I h) fun u s1 ⟨y,H1,I1,ry,q⟩=>thn (ha pins s1 σ H1 _ I1 q) fun ov s2 ⟨x,H2,I2,rx,a,C,dx,fs,ex,ea,c,n,l,q2⟩=>?_) hs
 subst ex
 obtain rfl:ov=Value.ref a:=rx
 exact sD I2 ea c n l ry fun s3 I3=>⟨σ,_,I3,q2⟩
end
section
variable {X:Cx}{pins:List (Addr × Obj)}{σ:St}{H:Hp}{s:Shared}{A:Around}{E:Value->Shared->Prop}{Q:Value->Shared->Prop}{c:Value}{b:Bool}
inductive kx (K:W.Frag) (H:Hp):V->Value->Prop where
 | non:kx K H .non (.type "NoneType")
 | bl (x:Bool):kx K H (.bl x) (.type "bool")
 | int (i:Int):kx K H (.int i) (.type "int")
 | str (x:Str):kx K H (.str x) (.type "str")
 | flt (x:UInt64):kx K H (.flt x) (.type "float")
 | lst {a:Addr}{xs:List V} (e:H a=some (.lst xs)):kx K H (.ref a) (.type "list")
 | frz {a:Addr}{o:Obj}{xs:List V} (e:H a=some (.frz o (.lst xs))):kx K H (.ref a) (.type "list")
 | tup {a:Addr}{xs:List V} (e:H a=some (.tup xs)):kx K H (.ref a) (.type "tuple")
 | dK {a:Addr}{kvs:List (Key × V)} (e:H a=some (.dK kvs)):kx K H (.ref a) (.type "dict")
 | dT {a:Addr}{kvs:List (List Key × V)} (e:H a=some (.dT kvs)):kx K H (.ref a) (.type "dict")
 | ins {a C dx:Addr}{fs:List (Str × V)} (e:H a=some (.ins C dx fs)) (cl:Cls K C) (ha:W.findIn K (.ref C) "__class__"=some (some (.builtin "object.__class__")))
   (hn:W.specialIn K (.builtin "object.__class__") "__get__"=some (some (.builtin "getset_descriptor.__get__"))) (htk:W.takesIn K (.builtin "object.__class__")=some true)
   (hm:W.mroIn K C (.type "object")=some true):kx K H (.ref a) (.ref C)
theorem u6 {x:V}{u t:Value} (I:Inv X pins σ H s) (rx:RelV x u) (ty:kx X.K H x t) (e:W.kitOne X.K t c=some b) (h:∀tk,Q (.bool b) { s with toks:=tk }) :
  wpAny (model X.prog X.w) A (call (.builtin "isinstance") [u,c]) Q E s:=by
 cases ty with
 | non=>cases (show u=Value.none from rx);exact W.kia_one W.kitx_none I.kIn True.intro e (fun z=>nomatch z) h
 | bl y=>cases (show u=Value.bool y from rx);exact W.kia_one W.kitx_bool I.kIn True.intro e (fun z=>nomatch z) h
 | int i=>obtain ⟨t,q⟩:=(show ∃t,u=Value.int i t from rx);cases q;exact W.kia_one W.kitx_int I.kIn True.intro e (fun z=>nomatch z) h
 | str y=>obtain ⟨t,q⟩:=(show ∃t,u=Value.str y t from rx);cases q;exact W.kia_one W.kitx_str I.kIn True.intro e (fun z=>nomatch z) h
 | flt y=>obtain ⟨t,q⟩:=(show ∃t,u=Value.float y t from rx);cases q;exact W.kia_one W.kitx_float I.kIn True.intro e (fun z=>nomatch z) h
 | @lst a xs ea =>
  cases (show u=Value.ref a from rx)
  obtain ⟨_,_,n,_,h1⟩:=(show cI X.prog X.w H s.heap a (.lst xs) from I.hok a _ ea)
  exact W.kia_one W.kitx_list I.kIn ⟨_,h1,rfl⟩ e (fun z=>nomatch z) h
 | @frz a ob xs ea =>
  cases (show u=Value.ref a from rx)
  obtain ⟨_,_,_,n,_,h1⟩:=(show cI X.prog X.w H s.heap a (.frz ob (.lst xs)) from I.hok a _ ea)
  exact W.kia_one W.kitx_list I.kIn ⟨_,h1,rfl⟩ e (fun z=>nomatch z) h
 | @tup a xs ea =>
  cases (show u=Value.ref a from rx)
  obtain ⟨_,_,_,p⟩:=(show cI X.prog X.w H s.heap a (.tup xs) from I.hok a _ ea)
  obtain ⟨o,h1,h2,_⟩:=p
  exact W.kia_one W.kitx_tuple I.kIn ⟨o,h1,h2⟩ e (fun z=>nomatch z) h
 | @dK a kvs ea =>
  cases (show u=Value.ref a from rx)
  obtain ⟨_,_,vs,_,p⟩:=(show cI X.prog X.w H s.heap a (.dK kvs) from I.hok a _ ea)
  obtain ⟨o,es,ep,h1,h2,_⟩:=p
  exact W.kia_one W.kitx_dict I.kIn ⟨o,h1,h2.1⟩ e (fun z=>nomatch z) h
 | @dT a kvs ea =>
  cases (show u=Value.ref a from rx)
  obtain ⟨_,_,xs,_,o,es,ep,h1,h2,_⟩:=(show cI X.prog X.w H s.heap a (.dT kvs) from I.hok a _ ea)
  exact W.kia_one W.kitx_dict I.kIn ⟨o,h1,h2.1⟩ e (fun z=>nomatch z) h
 | @ins a C dx fs ea cl ha hn htk hm =>
  cases (show u=Value.ref a from rx)
  obtain ⟨mA,O,_⟩:=pX I.hok ea
  obtain ⟨od,J,_⟩:=O.look
  exact W.kia_one (W.kitx_own (cl.get _) cl.hd ha hn htk hm) I.kIn J e (fun z=>nomatch z) h
end
end L2
namespace L2
open PySem PySem.Spec PyProof.Rows
structure d4 (k:Nat) (A:Around):Prop where
 hd:A.handled=none
 dp:A.depth + 3 * k + 5 < recursionLimit
 un:A.units + 16 * k + 200 < cLine
theorem d4.mono {j k:Nat}{A:Around} (r:d4 k A) (h:j <= k):d4 j A:=⟨r.hd,by have:=r.dp;omega,by have:=r.un;omega⟩
theorem d4.deeper {k:Nat}{A:Around} (r:d4 (k + 1) A) (env:Env):d4 k (A.deeper env) :=
 ⟨r.hd,by have:=r.dp;show A.depth + 1 + 3 * k + 5 < _;omega,by have:=r.un;show A.units + 3 + 16 * k + 200 < _;omega⟩
theorem rP {A:Around}{C:Addr}{us:List Value}{kw:List (Str × Value)}:(A.under (.builtin "type.__call__" ⟨.ref C :: us,kw⟩)).depth=A.depth + 1:=by
 first | rfl | simp [Around.under,Code.weight,Code.isCreation,Code.isGuard,Code.isCaller,Code.frames,Code.isFrame,guardIds]
theorem rY {A:Around}{C:Addr}{us:List Value}{kw:List (Str × Value)}:(A.under (.builtin "type.__call__" ⟨.ref C :: us,kw⟩)).units=A.units + 1:=by
 first | rfl | simp [Around.under,Code.cUnits,Code.frames,Code.isFrame]
theorem d4.make {k:Nat}{A:Around} (r:d4 (k + 1) A) (C:Addr) (us:List Value) (kw:List (Str × Value)):d4 k (A.under (.builtin "type.__call__" ⟨.ref C :: us,kw⟩)) :=
 ⟨r.hd,by have:=r.dp;rw [rP];omega,by have:=r.un;rw [rY];omega⟩
theorem d4.depth {k:Nat}{A:Around} (r:d4 k A):A.depth < recursionLimit:=by have:=r.dp;omega
theorem d4.units {k:Nat}{A:Around} (r:d4 k A):A.units + 64 < cLine:=by have:=r.un;omega
def Cy:TA:=fun _ H Q=>Q [] H
def Ct (ta:TE) (tr:TA):TA:=fun σ H Q=>ta σ H fun x H1=>tr σ H1 fun xs H2=>Q (x :: xs) H2
section
variable {X:Cx}{e:Expr}{es:List Expr}{te:TE}{t:TA}{pos:Pos}
theorem ag:PA X [] Cy:=fun _ _ _ _ H Q I h=>Calls.spliced_nil ⟨[],H,I,.nil,h⟩
theorem aa (ha:PE X e te) (hr:PA X es t) (hs:starEach (e :: es) X.env=(false,eval e X.env) :: starEach es X.env:=by rfl):PA X (e :: es) (Ct te t):=by
 intro pos pins s σ H Q I h
 rw [hs]
 show wpAny _ _ (spliced ((false,eval e X.env) :: backTo pos (starEach es X.env))) _ _ s
 refine Calls.spliced_cons (thn (ha pins s σ H _ I h) fun u s1 ⟨x,H1,I1,r1,q1⟩=>?_)
 exact thn (hr pos pins s1 σ H1 _ I1 q1) fun us s2 ⟨xs,H2,I2,r2,q2⟩=>⟨x :: xs,H2,I2,.cons r1 r2,q2⟩
def CW (t:TA):TE:=fun σ H Q=>t σ H fun xs H1=>xs.length <= sizeLine/\∀p,H1 p=none->Q (.ref p) (upd H1 p (.tup xs))
def C5 (t:TA):TE:=fun σ H Q=>t σ H fun xs H1=>xs.length <= sizeLine/\∀p,H1 p=none->Q (.ref p) (upd H1 p (.lst xs))
theorem bf {x1} (h:PA X es t):PE X (.Tuple es x1 pos) (CW t):=by
 intro pins s σ H Q I hq
 refine wpAny_Tuple_spliced (thn (h pos pins s σ H _ I hq) fun us s1 ⟨xs,H1,I1,r,z,q⟩=>⟨by rw [<- r.length];exact z,?_⟩)
 have hf:H1 s1.heap.objs.size=none:=I1.hok.fresh (Nat.le_refl _)
 refine ⟨.ref s1.heap.objs.size,upd H1 s1.heap.objs.size (.tup xs),I1.laid (t':=s1.toks) (fun b u e=>Heap.get?_push_of_some _ e) (Nat.le_refl _) ?_,rfl,q _ hf⟩
 exact ⟨z,us,r,⟨_,Heap.get?_push_size _ rfl,rfl,_,rfl⟩⟩
theorem bD (h:PA X es t):PE X (.List es pos) (C5 t):=by
 intro pins s σ H Q I hq
 refine wpAny_List_spliced (thn (h pos pins s σ H _ I hq) fun us s1 ⟨xs,H1,I1,r,z,q⟩=>⟨by rw [<- r.length];exact z,?_⟩)
 have hf:H1 s1.heap.objs.size=none:=I1.hok.fresh (Nat.le_refl _)
 refine ⟨.ref s1.heap.objs.size,upd H1 s1.heap.objs.size (.lst xs),I1.laid (t':=s1.toks) (fun b u e=>Heap.get?_push_of_some _ e) (Nat.le_refl _) ?_,rfl,q _ hf⟩
 exact ⟨z,us,0,r,Heap.get?_push_size _ rfl⟩
end
abbrev Sp:=List V->Hp->VK->XK->Prop
abbrev CXT:=List Env->Hp->Shared->XK->Value->Shared->Prop
structure rO (P:Program) (w:World) (K:W.Frag) (mg:Str->Option Value) (base:Heap) (A:Around) (outer:List Env) (s:Shared) (H:Hp):Prop where
 frames:A.frames=some outer
 mod:Mod K mg base
 bs:∀b o,base.get? b=some o->s.heap.get? b=some o/\H b=none
 bsz:base.objs.size <= s.heap.objs.size
 my:s.heap.FunFrames base outer
 frf:∀b ∈ frs outer,H b=none
 hok:HOk P w H s.heap
 bare:AllBare s.gens
def CE (outer:List Env) (P:Program) (w:World) (H:Hp) (s:Shared) (Q:VK) (u:Value) (s':Shared):Prop :=
 ∃v H',s'.os=s.os/\AllBare s'.gens/\Un (frs outer) [] H H' s.heap s'.heap/\HOk P w H' s'.heap/\RelV v u/\Q v H'
def CR (CX:CXT) (outer:List Env) (P:Program) (w:World) (H:Hp) (s:Shared) (Q:VK) (E:XK) (r:Result) (s':Shared):Prop :=
 match r with
 | .ok (.ret u)=>CE outer P w H s Q u s'
 | .ok _=>False
 | .error e=>CX outer H s E e s'
structure kT (P:Program) (w:World) (K:W.Frag) (mg:Str->Option Value) (base:Heap) (CX:CXT) (k:Nat) (f:Addr) (fd:FuncData) (ps:List Str) (sp:Sp):Prop where
 len:∀vs H Q E,sp vs H Q E->vs.length=ps.length
 run:∀(A:Around) (outer:List Env) (s:Shared) (H:Hp) (args:Args) (us:List Value) (vs:List V) (Q:VK) (E:XK),d4 k A->rO P w K mg base A outer s H->BindsTo s fd args (ps.zip us)->Vals vs us->sp vs H Q E ->
  codeAny (model P w) A (.call (.ref f) args) (CR CX outer P w H s Q E) s
theorem rO.make {P:Program}{w:World}{K:W.Frag}{mg:Str->Option Value}{base:Heap}{A:Around}{outer:List Env}{s:Shared}{H:Hp} (e:rO P w K mg base A outer s H) (C:Addr) (us:List Value) (kw:List (Str × Value)) :
  rO P w K mg base (A.under (.builtin "type.__call__" ⟨.ref C :: us,kw⟩)) outer s H:=⟨by first | exact e.frames | (simpa [Around.under,Code.envs,Code.isFrame,pushEnvs] using e.frames),e.mod,e.bs,e.bsz,e.my,e.frf,e.hok,e.bare⟩
section
variable {X:Cx}{pins:List (Addr × Obj)}{σ:St}{H:Hp}{s s':Shared}
theorem Inv.xA (I:Inv X pins σ H s):rO X.prog X.w X.K X.mg X.base X.A X.stack s H :=
 ⟨I.ok.frames,I.ok.mod,I.bs,Nat.le_trans I.ok.bsz I.sz,I.stack,I.uo,I.hok,I.bare⟩
theorem Inv.after {Q:VK}{u:Value} (I:Inv X pins σ H s) (h:CE X.stack X.prog X.w H s Q u s'):EP X pins σ Q u s':=by
 obtain ⟨v,H',os,bare,un,hok,r,q⟩:=h
 obtain ⟨hh,g,d,t,os'⟩:=s'
 obtain rfl:os'=s.os:=os
 exact ⟨v,H',I.call (h':=hh) (g':=g) (d':=d) (t':=t) (ch:=[]) un hok bare (fun b z=>absurd z (by simp)),r,q⟩
end
def xX (sp:Sp) (dvs:List V) (E:XK) (t:TA):TE:=fun σ H Q=>t σ H fun vs H1=>sp (vs ++ dvs) H1 Q E
def zc (C:Addr) (sp:Sp) (dvs:List V) (E:XK) (t:TA):TE:=fun σ H Q=>t σ H fun vs H1=>∀x dx,H1 x=none->H1 dx=none->dx ≠ x ->
 sp (.ref x :: (vs ++ dvs)) (upd (upd H1 dx (.own x)) x (.ins C dx [])) (fun v H2=>v=.non/\Q (.ref x) H2) E
def Binds (K:W.Frag) (fd:FuncData) (ps:List Str) (ds:List Value):Prop :=
 ∀(s:Shared) (us:List Value),K.In s.heap->(us ++ ds).length=ps.length->BindsTo s fd ⟨us,[]⟩ (ps.zip (us ++ ds))
theorem Binds.all {K:W.Frag}{fd:FuncData}{ps:List Str} (h:∀us:List Value,us.length=ps.length->bindArgs fd ⟨us,[]⟩=pure (ps.zip us)):Binds K fd ps []:=fun s us _ hl=>by
 rw [List.append_nil] at hl ⊢
 exact .of_eq (h us hl)
def Passes (CX:CXT) (X:Cx) (E:XK):Prop:=∀(pins:List (Addr × Obj)) (σ:St) (H:Hp) (s:Shared) (e:Value) (s':Shared),Inv X pins σ H s->CX X.stack H s E e s'->X.xe e s'
section
variable {X:Cx}{CX:CXT}{k:Nat}{f C:Addr}{fd:FuncData}{ps:List Str}{sp:Sp}{dvs:List V}{ds:List Value}{E:XK}{x m:Str}{p pos apos:Pos}{e o:Expr}{es:List Expr}{ta:TE}{t:TA}
theorem wU {pins:List (Addr × Obj)}{σ:St}{H:Hp}{s:Shared}{Q:VK}{us:List Value}{vs:List V} (F:kT X.prog X.w X.K X.mg X.base CX k f fd ps sp) (hr:d4 k X.A) (hb:Binds X.K fd ps ds) (hd:Vals dvs ds) (hx:Passes CX X E)
  (I:Inv X pins σ H s) (r:Vals vs us) (h:sp (vs ++ dvs) H Q E):wpAny (model X.prog X.w) X.A (call (.ref f) us) (EP X pins σ Q) X.xe s:=by
 have r2:Vals (vs ++ dvs) (us ++ ds):=r.append hd
 have hl:(us ++ ds).length=ps.length:=by rw [<- r2.length];exact F.len _ _ _ _ h
 refine wpAny_call (codeAny_mono (F.run X.A X.stack s H ⟨us,[]⟩ (us ++ ds) (vs ++ dvs) Q E hr I.xA (hb s us I.kIn hl) r2 h) fun r s' hq=>?_)
 cases r with
 | error e=>exact hx pins σ H s e s' I hq
 | ok fl =>
  cases fl with
  | ret u=>exact I.after hq
  | next=>exact False.elim hq
  | brk=>exact False.elim hq
  | cont=>exact False.elim hq
theorem yl (F:kT X.prog X.w X.K X.mg X.base CX k f fd ps sp) (hr:d4 k X.A) (hg:Gl X x) (hm:X.mg x=some (.ref f)) (hk:W.keepIn X.K (.ref f)=true) (hb:Binds X.K fd ps ds) (hd:Vals dvs ds) (hx:Passes CX X E)
  (ha:PA X (e :: es) t) (hdb:(x == ("__debug__":Str))=false:=by decide) (he:starEach (e :: es) X.env=(false,eval e X.env) :: starEach es X.env:=by rfl) (hpl:(backTo pos (starEach es X.env)).any (·.1)=false:=by rfl) :
  PE X (.Call (.Name x p) (e :: es) [] pos) (xX sp dvs E t):=by
 intro pins s σ H Q I h
 refine wpAny_Call_Name_kw (mI I hg hm ?_ hdb)
 refine W.callWith_K (h₀:=X.base) I.ok.mod.kin hk (thn (ha pos pins s σ H _ I h) fun us s1 ⟨vs,H1,I1,r,q⟩=>⟨I1.kIn,?_⟩) he hpl
 exact wU F hr hb hd hx I1 r q
structure Mk (K:W.Frag) (C f:Addr):Prop where
 makes:W.makesIn K C=true
 init:W.findIn K (.ref C) "__init__"=some (some (.ref f))
 fn:W.isFn K (.ref f)=true
 kp:W.keepIn K (.ref C)=true
theorem wo {pins:List (Addr × Obj)}{σ:St}{H:Hp}{s:Shared}{Q:VK}{us:List Value}{vs:List V} (M:Mk X.K C f) (F:kT X.prog X.w X.K X.mg X.base CX k f fd ps sp) (hr:d4 (k + 1) X.A) (hb:Binds X.K fd ps ds) (hd:Vals dvs ds)
  (hx:Passes CX X E) (I:Inv X pins σ H s) (r:Vals vs us)
  (h:∀x dx,H x=none->H dx=none->dx ≠ x->sp (.ref x :: (vs ++ dvs)) (upd (upd H dx (.own x)) x (.ins C dx [])) (fun v H2=>v=.non/\Q (.ref x) H2) E) :
  wpAny (model X.prog X.w) X.A (call (.ref C) us) (EP X pins σ Q) X.xe s:=by
 have hq:=h (s.heap.objs.size + 1) s.heap.objs.size (I.hok.fresh (Nat.le_succ _)) (I.hok.fresh (Nat.le_refl _)) (Nat.ne_of_lt (Nat.lt_succ_self _))
 have I2:=Inv.made (C:=C) I
 have r2:Vals (V.ref (s.heap.objs.size + 1) :: (vs ++ dvs)) (Value.ref (s.heap.objs.size + 1) :: (us ++ ds)):=.cons rfl (r.append hd)
 have hl:(Value.ref (s.heap.objs.size + 1) :: us ++ ds).length=ps.length:=by
  have e:=r2.length
  rw [F.len _ _ _ _ hq] at e
  exact e.symm
 refine wpAny_call (wz (f:=f) I.kIn M.makes M.init (beq_iff_eq.mp M.fn) (codeAny_mono (F.run _ X.stack _ _ ⟨Value.ref (s.heap.objs.size + 1) :: us,[]⟩ (Value.ref (s.heap.objs.size + 1) :: (us ++ ds)) _ _ E (hr.make C us [])
  (I2.xA.make C us []) (hb _ (Value.ref (s.heap.objs.size + 1) :: us) I2.kIn hl) r2 hq) fun r s' hq'=>?_))
 cases r with
 | error e=>exact hx pins σ _ _ e s' I2 hq'
 | ok fl =>
  cases fl with
  | ret u =>
   obtain ⟨v,H',I3,rv,ev,q3⟩:=I2.after hq'
   subst ev
   exact ⟨rv,⟨V.ref (s.heap.objs.size + 1),H',I3,rfl,q3⟩⟩
  | next=>exact False.elim hq'
  | brk=>exact False.elim hq'
  | cont=>exact False.elim hq'
theorem xZ (M:Mk X.K C f) (F:kT X.prog X.w X.K X.mg X.base CX k f fd ps sp) (hr:d4 (k + 1) X.A) (hg:Gl X x) (hm:X.mg x=some (.ref C)) (hb:Binds X.K fd ps ds) (hd:Vals dvs ds) (hx:Passes CX X E)
  (ha:PA X (e :: es) t) (hdb:(x == ("__debug__":Str))=false:=by decide) (he:starEach (e :: es) X.env=(false,eval e X.env) :: starEach es X.env:=by rfl) (hpl:(backTo pos (starEach es X.env)).any (·.1)=false:=by rfl) :
  PE X (.Call (.Name x p) (e :: es) [] pos) (zc C sp dvs E t):=by
 intro pins s σ H Q I h
 refine wpAny_Call_Name_kw (mI I hg hm ?_ hdb)
 refine W.callWith_K (h₀:=X.base) I.ok.mod.kin M.kp (thn (ha pos pins s σ H _ I h) fun us s1 ⟨vs,H1,I1,r,q⟩=>⟨I1.kIn,?_⟩) he hpl
 exact wo M F hr hb hd hx I1 r q
end
section
variable {X:Cx}{CX:CXT}{k:Nat}{f C:Addr}{fd:FuncData}{ps ks:List Str}{sp:Sp}{E:XK}{x m:Str}{p pos apos kpos:Pos}{e o:Expr}{es:List Expr}{kws:List Keyword}{te ta:TE}{t tk:TA}{nm:Option Str}
structure KBinds (K:W.Frag) (fd:FuncData) (ps ks:List Str) (g:List Value->List Value->List Value) (gV:List V->List V->List V):Prop where
 to:∀(s:Shared) (us ws:List Value),K.In s.heap->(g us ws).length=ps.length->BindsTo s fd ⟨us,ks.zip ws⟩ (ps.zip (g us ws))
 rel:∀{vs:List V}{us:List Value}{zs:List V}{ws:List Value},Vals vs us->Vals zs ws->Vals (gV vs zs) (g us ws)
variable {g:List Value->List Value->List Value}{gV:List V->List V->List V}
end
structure aK (N P:List Str) (sc:Scope):Prop where
 kind:sc.kind=.function
 co:sc.isCoroutine=false
 gen:sc.isGenerator=false
 nd:N.Nodup
 pre:N.take P.length=P
 par:∀x ∈ P,sc.names.lookup x=some .local \/ sc.names.lookup x=some .cell
 AX:∀y ∈ sc.names,y.2 ≠ .free
theorem oS {kindOf:Str->Option NameKind}{x:Str}:∀{binds:List (Str × Value)}{m:Str->Option Value},(∀v,(x,v) ∉ binds)->bindL kindOf binds m x=m x
 | [],_,_=>rfl
 | (n,v) :: r,m,h=>by
  unfold bindL
  rw [oS fun w hw=>h w (List.mem_cons_of_mem _ hw)]
  split
  ·have:x ≠ n:=by rintro rfl;exact h v List.mem_cons_self
   simp [this]
  ·rfl
theorem oY {kindOf:Str->Option NameKind}{x:Str}:∀{binds:List (Str × Value)}{m:Str->Option Value},(∀v,(x,v) ∉ binds)->bindC kindOf binds m x=m x
 | [],_,_=>rfl
 | (n,v) :: r,m,h=>by
  unfold bindC
  rw [oY fun w hw=>h w (List.mem_cons_of_mem _ hw)]
  split
  ·rfl
  ·have:x ≠ n:=by rintro rfl;exact h v List.mem_cons_self
   simp [this]
theorem o6 {kindOf:Str->Option NameKind}{x:Str}{v:Value}:∀{P:List Str}{vs:List Value}{i:Nat}{m:Str->Option Value},P.Nodup->P[i]?=some x->vs[i]?=some v->kindOf x=some .local ->
  bindL kindOf (P.zip vs) m x=some v
 | [],_,_,_,_,h,_,_=>by simp at h
 | _ :: _,[],_,_,_,_,h,_=>by simp at h
 | p :: P,w :: vs,0,m,nd,h1,h2,hk=>by
  simp at h1 h2;subst h1;subst h2
  show bindL kindOf ((p,w) :: P.zip vs) m p=_
  unfold bindL
  rw [oS fun v hv=>(List.nodup_cons.mp nd).1 (List.of_mem_zip hv).1,if_pos hk]
  simp
 | p :: P,w :: vs,i + 1,m,nd,h1,h2,hk=>by
  show bindL kindOf ((p,w) :: P.zip vs) m x=_
  unfold bindL
  exact o6 (i:=i) (List.nodup_cons.mp nd).2 (by simpa using h1) (by simpa using h2) hk
theorem oR {kindOf:Str->Option NameKind}{x:Str}{v:Value}:∀{P:List Str}{vs:List Value}{i:Nat}{m:Str->Option Value},P.Nodup->P[i]?=some x->vs[i]?=some v->kindOf x ≠ some .local ->
  bindC kindOf (P.zip vs) m x=some v
 | [],_,_,_,_,h,_,_=>by simp at h
 | _ :: _,[],_,_,_,_,h,_=>by simp at h
 | p :: P,w :: vs,0,m,nd,h1,h2,hk=>by
  simp at h1 h2;subst h1;subst h2
  show bindC kindOf ((p,w) :: P.zip vs) m p=_
  unfold bindC
  rw [oY fun v hv=>(List.nodup_cons.mp nd).1 (List.of_mem_zip hv).1,if_neg hk]
  simp
 | p :: P,w :: vs,i + 1,m,nd,h1,h2,hk=>by
  show bindC kindOf ((p,w) :: P.zip vs) m x=_
  unfold bindC
  exact oR (i:=i) (List.nodup_cons.mp nd).2 (by simpa using h1) (by simpa using h2) hk
def start (N:List Str) (vs:List V):St:=vs.map some ++ List.replicate (N.length - vs.length) none
def qo (CX:CXT) (P:Program) (w:World) (K:W.Frag) (mg:Str->Option Value) (base:Heap) (N:List Str) (qual:Str) (scope:Scope) (f:Addr) (cd:Value) (A:Around) (outer:List Env) (s:Shared) (H:Hp) (E:XK):Cx where
 prog:=P
 w:=w
 K:=K
 mg:=mg
 base:=base
 A:=A.deeper (envOfC qual scope s.heap.objs.size f cd)
 N:=N
 s₀:=s
 H₀:=H
 env:=envOfC qual scope s.heap.objs.size f cd
 outer:=outer
 stack:=envOfC qual scope s.heap.objs.size f cd :: outer
 ex:=[]
 calm:=true
 fn:=fun _=>true
 pn:=[]
 xe:=fun e s'=>wpAny (model P w) (A.deeper (envOfC qual scope s.heap.objs.size f cd)) (leaving (envOfC qual scope s.heap.objs.size f cd) e) (fun _ s''=>CX outer H s E e s'') (fun e' s''=>CX outer H s E e' s'') s'
theorem rf {sc:Scope}{n:Nat}{x:Str} (h:sc.names.lookup x=some .cell):∃c,(cellsFrom n sc.names []).lookup x=some c:=by
 have q:=W.cellsFrom_some sc.names n [] (.inl h)
 exact Option.isSome_iff_exists.mp q
theorem vD {CX:CXT}{P:Program}{w:World}{K:W.Frag}{mg:Str->Option Value}{base:Heap}{N ps:List Str}{qual:Str}{scope:Scope}{f:Addr}{cd:Value}{A:Around}{outer:List Env}{s s1:Shared}{H:Hp}{E:XK}{us:List Value}{vs:List V}
  (S:aK N ps scope) (hd:A.handled=none) (e0:rO P w K mg base A outer s H) (hl:vs.length=ps.length) (r:Vals vs us)
  (x:InCallC s s.heap.objs.size (bindL (envOfC qual scope s.heap.objs.size f cd).kindOf (ps.zip us) fun _=>none) (cellsFrom (s.heap.objs.size + 1) scope.names []) (bindC (envOfC qual scope s.heap.objs.size f cd).kindOf (ps.zip us) fun _=>none) s1) :
  Inv (qo CX P w K mg base N qual scope f cd A outer s H E) [] (start N vs) H s1:=by
 have hpl:ps.length <= N.length:=by have:=congrArg List.length S.pre;rw [List.length_take] at this;omega
 obtain ⟨h1,tk,rfl,hk⟩:=x.done
 have noA:∀b:Addr,b ∉ (qo CX P w K mg base N qual scope f cd A outer s H E).ex:=fun b z=>absurd (show b ∈ ([]:List Addr) from z) (by simp)
 refine ⟨⟨e0.mod,S.kind,rfl,rfl,Nat.le_refl _,fun y z c h1 h2=>?_,fun y hy=>?_,fun y c _ h=>?_,fun _=>hd,Around.frames_deeper e0.frames,.inr ⟨rfl,rfl⟩,fun b z=>absurd z (noA b),e0.bs,e0.bsz,fun b _ _=>noA b,fun b z=>absurd z (noA b),e0.my,e0.frf⟩,
  rfl,e0.bare,Un.kept hk,⟨_,x.toInCall.ns,fun i y v h1 h2 h3=>?_⟩,fun y c h=>⟨_,x.cell y c h⟩,e0.hok.fresh (Nat.le_refl _),fun y c h=>?_,fun p hp=>absurd (show p ∈ ([]:List (Addr × Obj)) from hp) (by simp),e0.hok.kept hk,?_⟩
 ·exact name_of_addr x.apart (PySem.mem_of_lookup h1) (PySem.mem_of_lookup h2)
 ·have hy:scope.names.lookup y=some .cell \/ scope.names.lookup y=some .free:=hy
  rcases hy with hy | hy
  ·exact rf hy
  ·exact absurd rfl (S.AX _ (PySem.mem_of_lookup hy))
 ·exact Nat.le_of_lt (x.above y c (PySem.mem_of_lookup h))
 ·have hi:i < vs.length:=by
   unfold start at h2
   by_cases hi:i < vs.length
   ·exact hi
   ·rw [List.getElem?_append_right (by simpa using hi)] at h2
    rw [List.getElem?_replicate] at h2
    split at h2 <;> cases h2
  have ha:vs[i]?=some v:=by
   unfold start at h2
   rw [List.getElem?_append_left (by simpa using hi),List.getElem?_map] at h2
   cases e:vs[i]? with
   | none=>rw [e] at h2;cases h2
   | some a=>rw [e] at h2;cases h2;rfl
  obtain ⟨u,hu,rv⟩:=r.get ha
  have hp:ps[i]?=some y:=by
   rw [<- S.pre,List.getElem?_take_of_lt (by omega)];exact h1
  have ndP:ps.Nodup:=by rw [<- S.pre];exact S.nd.sublist (List.take_sublist _ _)
  refine ⟨u,rv,?_⟩
  rcases S.par y (List.mem_of_getElem? hp) with k | k
  ·exact .inl ⟨k,o6 ndP hp hu k⟩
  ·obtain ⟨c,e⟩:=rf (n:=s.heap.objs.size + 1) k
   refine .inr ⟨.inl k,c,e,?_⟩
   have q:=x.cell y c e
   rw [oR ndP hp hu (by show scope.names.lookup y ≠ _;rw [k];decide)] at q
   exact q
 ·exact e0.hok.fresh (Nat.le_of_lt (x.above y c (PySem.mem_of_lookup h)))
 ·unfold start
  show _=N.length
  rw [List.length_append,List.length_map,List.length_replicate]
  omega
theorem Bx {CX:CXT}{P:Program}{w:World}{K:W.Frag}{mg:Str->Option Value}{base:Heap}{k:Nat}{f:Addr}{name qual:Str}{params:Arguments}{body:List Stmt}{scope:Scope}{dV kV doc pm cdv ct oc:Value}{an od:Option Addr}
  {osl:Array (Option Value)}{N ps:List Str}{sp:Sp} (lk:K.lookup f=some ⟨oc,od,.func (W.fnOf name qual params body scope dV kV doc pm an cdv ct),osl⟩) (hcd:W.codeIn K cdv qual=true) (S:aK N ps scope)
  (len:∀vs H Q E,sp vs H Q E->vs.length=ps.length)
  (hbody:∀(A:Around) (outer:List Env) (s:Shared) (H:Hp) (vs:List V) (Q:VK) (E:XK),d4 k (A.deeper (envOfC qual scope s.heap.objs.size f cdv))->sp vs H Q E ->
   ∃t,PSs (qo CX P w K mg base N qual scope f cdv A outer s H E) body t/\t { nx:=fun _ H'=>Q .non H',rt:=Q } (start N vs) H) :
  kT P w K mg base CX (k + 1) f (W.fnOf name qual params body scope dV kV doc pm an cdv ct) ps sp:=by
 refine ⟨len,fun A outer s H args us vs Q E hr e0 hb r hsp=>?_⟩
 have hl:=len _ _ _ _ hsp
 have KX:K.In s.heap:=e0.mod.kin.keeps fun b o e=>(e0.bs b o e).1
 have lim:s.heap.NoLimit:=e0.mod.nolimit.keeps fun b o e=>(e0.bs b o e).1
 have hkind:∀y ∈ ps.zip us,scope.names.lookup y.1=some .local \/ (scope.names.lookup y.1=some .cell/\((cellsFrom (s.heap.objs.size + 1) scope.names []).lookup y.1).isSome=true):=fun ⟨n,v⟩ hy=>by
  rcases S.par n (List.of_mem_zip hy).1 with q | q
  ·exact .inl q
  ·exact .inr ⟨q,W.cellsFrom_some _ _ _ (.inl q)⟩
 refine codeAny_call_function hr.depth (KX _ _ lk) rfl S.co S.gen rfl (W.codeRec_of KX hcd) (hb _ _ _ _ ?_)
 refine wpAny_newFunctionEnv_cells S.kind hkind fun env he s1 x=>?_
 subst he
 refine ⟨lim.keeps x.toInCall.keep,codeAny_func ?_⟩
 obtain ⟨t,ht,hq⟩:=hbody A outer s H vs Q E (hr.deeper _) hsp
 have I:Inv (qo CX P w K mg base N qual scope f cdv A outer s H E) [] (start N vs) H s1:=vD S hr.hd e0 hl r x
 refine wpAny_mono (ht [] s1 (start N vs) H _ I hq) (fun fl s' hs=>?_) fun e s' hs=>hs
 have fin:∀{σ':St}{H':Hp}{v:V}{u:Value},Inv (qo CX P w K mg base N qual scope f cdv A outer s H E) [] σ' H' s'->RelV v u->Q v H'->CE outer P w H s Q u s' :=
  fun {σ' H' v u} J rv q=>⟨v,H',J.os,J.bare,J.base,J.hok,rv,q⟩
 cases fl with
 | ret u =>
  obtain ⟨v,σ',H',J,rv,q⟩:=hs
  exact fin J rv q
 | next =>
  obtain ⟨σ',H',J,q⟩:=hs
  exact fin (v:=V.non) (u:=Value.none) J rfl q
 | brk =>
  obtain ⟨_,_,_,q⟩:=hs
  exact False.elim q
 | cont =>
  obtain ⟨_,_,_,q⟩:=hs
  exact False.elim q
end L2
namespace L2
open PySem PySem.Spec PyProof.Rows
section
variable {X:Cx}{x:Str}{p pos:Pos}{e:Expr}{es:List Expr}{t:TA}{id T:String}{r:List V->Hp->VK->Prop}
def tCB (r:List V->Hp->VK->Prop) (t:TA):TE:=fun σ H Q=>t σ H fun vs H1=>r vs H1 Q
theorem aH (hc:dg X (.builtin id) r) (hg:Gl X x) (hm:X.mg x=none) (hv:bootBuiltins x=some (.builtin id)) (ha:PA X (e :: es) t) (hn:x ≠ "__name__":=by decide) (hdb:(x == ("__debug__":Str))=false:=by decide)
  (he:starEach (e :: es) X.env=(false,eval e X.env) :: starEach es X.env:=by rfl) (hpl:(backTo pos (starEach es X.env)).any (·.1)=false:=by rfl):PE X (.Call (.Name x p) (e :: es) [] pos) (tCB r t):=by
 intro pins s σ H Q I h
 refine wpAny_Call_Name_kw (nD I hg hm hv ?_ hn hdb)
 exact PyProof.Rows.callWith_builtin1 (thn (ha pos pins s σ H _ I h) fun us s1 ⟨vs,H1,I1,r1,q1⟩=>hc pins s1 σ H1 vs us Q I1 r1 q1) he hpl
theorem bE (hc:dg X (.type T) r) (hg:Gl X x) (hm:X.mg x=none) (hv:bootBuiltins x=some (.type T)) (ha:PA X (e :: es) t) (hn:x ≠ "__name__":=by decide) (hdb:(x == ("__debug__":Str))=false:=by decide)
  (he:starEach (e :: es) X.env=(false,eval e X.env) :: starEach es X.env:=by rfl) (hpl:(backTo pos (starEach es X.env)).any (·.1)=false:=by rfl):PE X (.Call (.Name x p) (e :: es) [] pos) (tCB r t):=by
 intro pins s σ H Q I h
 refine wpAny_Call_Name_kw (nD I hg hm hv ?_ hn hdb)
 exact PyProof.Rows.callWith_type1 (thn (ha pos pins s σ H _ I h) fun us s1 ⟨vs,H1,I1,r1,q1⟩=>hc pins s1 σ H1 vs us Q I1 r1 q1) he hpl
end
end L2
namespace HT
open PySem PyProof.Rows
section
open PySem.SeqAt
open PySem.AutoSeq1 (wpAny_loadPart')
open PySem.MeetsSeq PySem.MeetsSeq2 PySem.MeetsSeq3
end
section
variable {prog:Program}{w:World}{A:Around}{E:Value->Shared->Prop}{s:Shared}
theorem yW {t b:Addr}{vs ws:List Value}{Q:Value->Shared->Prop} (ht:IsTup s.heap t vs.toArray) (hb:IsTup s.heap b ws.toArray) (hv:vs ≠ [])
  (h1:ws=[]->Q (.ref t) s) (h2:ws ≠ []->Q (.ref s.heap.objs.size) { s with heap:=s.heap.push { cls:=.type "tuple",data:=.seq (vs ++ ws).toArray } })
  (hsz:vs.length + ws.length <= sizeLine):wpAny (model prog w) A (binaryOp .Add (.ref t) (.ref b)) Q E s:=by
 obtain ⟨⟨cls,dd,data,sl⟩,ho,hc,n,hd⟩:=id ht
 obtain ⟨⟨cls2,dd2,data2,sl2⟩,ho2,hc2,n2,hd2⟩:=id hb
 simp only at hc hd hc2 hd2
 subst hc hd hc2 hd2
 have e:vs.toArray ++ ws.toArray=(vs ++ ws).toArray:=by simp
 by_cases hw:ws=[]
 ·exact concat_meets ⟨_,ho,rfl⟩ ⟨_,ho2,rfl⟩ noFill_tuple_add seq_tuple_add PySem.F.slot_tuple_add PySem.F.entry_tuple_add (PySem.F.args_tuple_add_2 _ _)
   (tuple_addW1 t b vs.toArray ws.toArray n n2 dd dd2 sl sl2 (by simpa using hv) (by simp [hw])) ⟨ho,ho2,h1 hw⟩
 ·refine concat_meets ⟨_,ho,rfl⟩ ⟨_,ho2,rfl⟩ noFill_tuple_add seq_tuple_add PySem.F.slot_tuple_add PySem.F.entry_tuple_add (PySem.F.args_tuple_add_2 _ _)
   (tuple_addW2 t b vs.toArray ws.toArray n n2 dd dd2 sl sl2 (by simpa using hv) (by simpa using hw) (by rw [List.size_toArray,List.size_toArray];exact hsz)) ⟨ho,ho2,?_⟩
  rw [e]
  exact h2 hw
def sIx (n d:Nat):Option Int->Nat
 | none=>d
 | some v=>if v < 0 then (v + (n:Int)).toNat else min v.toNat n
theorem zw (n d:Nat) (hd:d <= n) (o:Option Int):sIx n d o <= n:=by
 cases o with
 | none=>exact hd
 | some v =>
  show (if v < 0 then (v + (n:Int)).toNat else min v.toNat n) <= n
  by_cases hv:v < 0
  ·rw [if_pos hv];omega
  ·rw [if_neg hv];exact Nat.min_le_right _ _
theorem ud (v:Int) (n d:Nat):(if v < 0 then max (v + (n:Int)) 0 else min v (n:Int))=((sIx n d (some v):Nat):Int):=by
 show (if v < 0 then max (v + (n:Int)) 0 else min v (n:Int))=(((if v < 0 then (v + (n:Int)).toNat else min v.toNat n):Nat):Int)
 by_cases hv:v < 0
 ·simp only [if_pos hv];omega
 ·simp only [if_neg hv];omega
theorem sV (lo hi:Option Int) (n:Nat):Builtin.Slice.sliceAdjust lo hi 1 (n:Int)=(((sIx n 0 lo:Nat):Int),((sIx n n hi:Nat):Int)):=by
 have h1:¬ ((1:Int) < 0):=by omega
 unfold Builtin.Slice.sliceAdjust
 simp only [h1,if_false]
 refine Prod.ext ?_ ?_
 ·cases lo with
  | none=>rfl
  | some v=>exact ud v n 0
 ·cases hi with
  | none=>rfl
  | some v=>exact ud v n n
theorem sY (i j:Nat):Builtin.Slice.slicePlaces (i:Int) (j:Int) 1=j - i:=by
 unfold Builtin.Slice.slicePlaces
 have h1:(1:Int) > 0:=by omega
 simp only [h1,if_true,Int.ediv_one]
 split <;> omega
theorem nB {v:Value}{o:Option Int}{Q:Option Int->Shared->Prop} (p:IsPart v o) (h:Q o s):wpAny (model prog w) A (Builtin.Slice.slicePartIndex v) Q E s:=by
 cases p with
 | none=>exact slicePart_none h
 | int i t=>exact slicePart_int h
theorem kU {sl:Addr}{vl vu:Value}{lo hi:Option Int}{n:Nat}{Q:Int × Int × Nat->Shared->Prop} (hs:s.heap.IsSliceOf sl vl vu .none) (pl:IsPart vl lo) (pu:IsPart vu hi)
  (h:Q (((sIx n 0 lo:Nat):Int),1,sIx n n hi - sIx n 0 lo) s):wpAny (model prog w) A (Builtin.Slice.sliceApplied (.ref sl) (pure (n:Int))) Q E s:=by
 obtain ⟨os,hos,hcs,hds⟩:=id hs
 unfold Builtin.Slice.sliceApplied Builtin.Slice.sliceFields
 refine wpAny_bind (wpAny_bind (wpAny_field hos hds (x:=vl) rfl (wpAny_bind (wpAny_field hos hds (x:=vu) rfl (wpAny_bind (wpAny_field hos hds (x:=.none) rfl (wpAny_pure ?_)))))))
 refine wpAny_bind (slicePart_none ?_)
 show wpAny _ _ (if ((1:Int) == 0)=true then _ else _) _ _ s
 rw [if_neg (by decide)]
 refine wpAny_bind (nB pl (wpAny_bind (nB pu (wpAny_bind (wpAny_pure ?_)))))
 show wpAny _ _ (match Builtin.Slice.sliceAdjust lo hi 1 (n:Int) with | (lo,hi)=>pure (lo,(1:Int),Builtin.Slice.slicePlaces lo hi 1)) _ _ s
 rw [sV lo hi n]
 show wpAny _ _ (pure (((sIx n 0 lo:Nat):Int),(1:Int),Builtin.Slice.slicePlaces ((sIx n 0 lo:Nat):Int) ((sIx n n hi:Nat):Int) 1)) _ _ s
 rw [sY]
 exact wpAny_pure h
theorem xc (xs:Array Value) (i k:Nat):((List.range k).filterMap fun (m:Nat)=>xs[((i:Int) + (m:Int) * 1).toNat]?).toArray=((xs.toList.drop i).take k).toArray:=by
 have e:(fun (m:Nat)=>xs[((i:Int) + (m:Int) * 1).toNat]?)=fun m=>xs[i + m]?:=by
  funext m
  have:((i:Int) + (m:Int) * 1).toNat=i + m:=by omega
  rw [this]
 rw [e]
 have:=pick_run xs i k
 rw [List.filterMap_map] at this
 have e2:((fun x=>xs[x]?) ∘ fun x=>i + x)=fun m=>xs[i + m]?:=rfl
 rw [e2] at this
 rw [this]
theorem kK {t sl:Addr}{items:Array Value}{vl vu:Value}{lo hi:Option Int}{Q:Value->Shared->Prop} (ht:IsTup s.heap t items) (hs:s.heap.IsSliceOf sl vl vu .none) (pl:IsPart vl lo) (pu:IsPart vu hi)
  (hw:¬ (sIx items.size 0 lo=0/\sIx items.size items.size hi=items.size))
  (h:Q (.ref s.heap.objs.size) { s with heap:=s.heap.push { cls:=.type "tuple",data:=.seq ((items.toList.drop (sIx items.size 0 lo)).take (sIx items.size items.size hi - sIx items.size 0 lo)).toArray } })
  (hsz:items.size <= sizeLine):wpAny (model prog w) A (getItem (.ref t) (.ref sl)) Q E s:=by
 have htake:sizeOk (.seq ((items.toList.drop (sIx items.size 0 lo)).take (sIx items.size items.size hi - sIx items.size 0 lo)).toArray):=by
  show ((items.toList.drop (sIx items.size 0 lo)).take (sIx items.size items.size hi - sIx items.size 0 lo)).toArray.size <= sizeLine
  rw [List.size_toArray,List.length_take,List.length_drop,Array.length_toList]
  omega
 have hj:sIx items.size items.size hi <= items.size:=zw _ _ (Nat.le_refl _) hi
 obtain ⟨os,hos,hcs,hds⟩:=id hs
 have hTs:s.TypeIs (.ref sl) "slice":=⟨os,hos,hcs⟩
 unfold getItem
 try with_reducible refine wpAny_holding ?_
 first | refine wpAny_bind (wpAny_pure ?_) | skip
 refine wpAny_bind (wpAny_sequenceKey ht.typeIs (by decide) ?_)
 refine wpAny_bind (wpAny_callSpecial?_slot (name:=Str.ofString "__getitem__") ht.typeIs PyProof.Rows.slot_tuple_getitem
  (wpAny_call_entry PyProof.Rows.slot_tuple_getitem ht.typeIs entry_tuple_getitem ?_ (args_tuple_getitem _ _)))
 show wpAny _ _ (Builtin.Tuple.tupleItemsOf (.ref t) >>= _) _ _ s
 refine wpAny_bind (tupleItemsOf_ ht ?_)
 refine wpAny_bind (wpAny_typeOf hTs ?_)
 rw [if_pos (by decide)]
 refine wpAny_bind (kU hs pl pu ?_)
 have hno:¬ ((((sIx items.size 0 lo:Nat):Int) == 0 && (1:Int) == 1 && (sIx items.size items.size hi - sIx items.size 0 lo) == items.size)=true):=by
  intro q
  rw [Bool.and_eq_true,Bool.and_eq_true] at q
  have q1:((sIx items.size 0 lo:Nat):Int)=0:=eq_of_beq q.1.1
  have q2:sIx items.size items.size hi - sIx items.size 0 lo=items.size:=eq_of_beq q.2
  exact hw ⟨by omega,by omega⟩
 show wpAny _ _ (if (((sIx items.size 0 lo:Nat):Int) == 0 && (1:Int) == 1 && (sIx items.size items.size hi - sIx items.size 0 lo) == items.size)=true then _ else _) _ _ s
 rw [if_neg hno,xc]
 first
  | exact wpAny_bind (m:=Builtin.Tuple.tupleExact _) (wpAny_newObj_type (wpAny_pure ⟨_,rfl,wpAny_pure h⟩) htake)
  | exact wpAny_bind (m:=Builtin.Tuple.tupleExact _) (wpAny_newObj_type (wpAny_bind (wpAny_pure (wpAny_pure ⟨_,rfl,wpAny_pure h⟩))) htake)
  | exact wpAny_bind (wpAny_bind (m:=Builtin.Tuple.tupleExact _) (wpAny_newObj_type (wpAny_pure (wpAny_pure ⟨_,rfl,wpAny_pure h⟩)) htake))
  | exact wpAny_bind (wpAny_bind (m:=Builtin.Tuple.tupleExact _) (wpAny_newObj_type (wpAny_pure ⟨_,rfl,wpAny_pure h⟩) htake))
end
end HT
namespace L2
open PySem PySem.Spec PyProof.Rows
abbrev TO:=St->Hp->(Option Int->Hp->Prop)->Prop
def PO (X:Cx) (e:Option Expr) (t:TO):Prop :=
 ∀(pins:List (Addr × Obj)) (s:Shared) (σ:St) (H:Hp) (Q:Option Int->Hp->Prop),Inv X pins σ H s->t σ H Q ->
  wpAny (model X.prog X.w) X.A (evalPart e X.env) (fun u s'=>∃o H',Inv X pins σ H' s'/\IsPart u o/\Q o H') X.xe s
def yk:TO:=fun _ H Q=>Q none H
def Cu (t:TE):TO:=fun σ H Q=>t σ H fun x H1=>∃i,x=.int i/\Q (some i) H1
theorem intsAre_of {ns:List Int}:∀{us:List Value},Vals (ns.map V.int) us->IntsAre us ns:=by
 induction ns with
 | nil=>intro us r;rw [List.map_nil] at r;cases r;exact .nil
 | cons n ns ih =>
  intro us r
  rw [List.map_cons] at r
  cases r with
  | cons r1 r2 =>
   obtain ⟨t,e⟩:=r1
   subst e
   exact .cons n t (ih r2)
section
variable {X:Cx}{e:Expr}{te:TE}{lo hi:Option Expr}{tl th:TO}{pos p2:Pos}
theorem ik:PO X none yk:=by
 intro pins s σ H Q I h
 rw [evalPart_none]
 exact wpAny_pure ⟨none,H,I,.none,h⟩
theorem bJ (h:PE X e te):PO X (some e) (Cu te):=by
 intro pins s σ H Q I hw
 rw [evalPart_some]
 refine thn (h pins s σ H _ I hw) fun u s1 ⟨x,H1,I1,r1,q1⟩=>?_
 obtain ⟨i,rfl,q⟩:=q1
 obtain ⟨t,rfl⟩:=r1
 exact ⟨some i,H1,I1,.int i t,q⟩
def SlR (X:Cx) (r:V->Option Int->Option Int->Hp->VK->Prop):Prop :=
 ∀(pins:List (Addr × Obj)) (s:Shared) (σ:St) (H:Hp) (x:V) (v vl vu:Value) (lo hi:Option Int) (sl:Addr) (Q:VK),Inv X pins σ H s->RelV x v->s.heap.IsSliceOf sl vl vu .none->IsPart vl lo->IsPart vu hi->r x lo hi H Q ->
  ∃T id,typeLookup (.type T) "__getitem__"=pure (some (.builtin id))/\s.TypeIs v T/\wpAny (model X.prog X.w) X.A (getItem v (.ref sl)) (EP X pins σ Q) X.xe s
theorem SlR.or {r r':V->Option Int->Option Int->Hp->VK->Prop} (h:SlR X r) (h':SlR X r'):SlR X (fun x lo hi H Q=>r x lo hi H Q \/ r' x lo hi H Q):=by
 intro pins s σ H x v vl vu lo hi sl Q I rx hs pl pu q
 rcases q with q | q
 ·exact h pins s σ H x v vl vu lo hi sl Q I rx hs pl pu q
 ·exact h' pins s σ H x v vl vu lo hi sl Q I rx hs pl pu q
def tSl (r:V->Option Int->Option Int->Hp->VK->Prop) (te:TE) (tl th:TO):TE:=fun σ H Q=>te σ H fun x H1=>tl σ H1 fun l H2=>th σ H2 fun u H3=>r x l u H3 Q
theorem cc {r:V->Option Int->Option Int->Hp->VK->Prop} (hr:SlR X r) (he:PE X e te) (hl:PO X lo tl) (hu:PO X hi th):PE X (.Subscript e (.Slice lo hi none p2) pos) (tSl r te tl th):=by
 intro pins s σ H Q I h
 refine Subscript_ (thn (he pins s σ H _ I h) fun v s1 ⟨x,H1,I1,r1,q1⟩=>?_)
 refine wpAny_Slice (thn (hl pins s1 σ H1 _ I1 q1) fun vl s2 ⟨l,H2,I2,pl,q2⟩=>thn (hu pins s2 σ H2 _ I2 q2) fun vu s3 ⟨u,H3,I3,pu,q3⟩=>?_)
 rw [evalPart_none]
 refine wpAny_pure ?_
 have I4:Inv X pins σ H3 { s3 with heap:=s3.heap.push { cls:=.type "slice",data:=.fields #[vl,vu,.none] } }:=I3.kept (t':=s3.toks) fun b ob q=>Heap.get?_push_of_some _ q
 obtain ⟨T,id,hT,ht,hg⟩:=hr pins { s3 with heap:=s3.heap.push { cls:=.type "slice",data:=.fields #[vl,vu,.none] } } σ H3 x v vl vu l u s3.heap.objs.size Q I4 r1 (Heap.IsSliceOf.new ..) pl pu q3
 show wpAny (model X.prog X.w) X.A (subscriptTail e (.Slice lo hi none p2) v (.ref s3.heap.objs.size)) (EP X pins σ Q) X.xe { s3 with heap:=s3.heap.push { cls:=.type "slice",data:=.fields #[vl,vu,.none] } }
 exact tail_any (ops:=[.ref s3.heap.objs.size,v]) ht hT hg (by with_unfolding_all rfl)
def eZ (xs:List V) (lo hi:Option Int):List V:=(xs.drop (HT.sIx xs.length 0 lo)).take (HT.sIx xs.length xs.length hi - HT.sIx xs.length 0 lo)
theorem lS (xs:List V) (lo hi:Option Int):(eZ xs lo hi).length <= xs.length:=by
 unfold eZ
 rw [List.length_take,List.length_drop]
 omega
def Aw (K:W.Frag):V->Option Int->Option Int->Hp->VK->Prop:=fun x lo hi H Q=>∃a xs,x=.ref a/\SqT K H a xs /\
 ¬ (HT.sIx xs.length 0 lo=0/\HT.sIx xs.length xs.length hi=xs.length)/\∀p,H p=none->Q (.ref p) (upd H p (.tup (eZ xs lo hi)))
theorem Ao:SlR X (Aw X.K):=by
 intro pins s σ H x v vl vu lo hi sl Q I rx hs pl pu h
 obtain ⟨a,xs,rfl,hx,hw,q⟩:=h
 cases rx
 obtain ⟨its,r,ht,hz⟩:=I.tuple hx
 have hlen:its.toArray.size=xs.length:=by rw [List.size_toArray];exact r.length.symm
 refine ⟨"tuple",_,PyProof.Rows.slot_tuple_getitem.lookup,ht.typeIs,?_⟩
 refine HT.kK ht hs pl pu (by rw [hlen];exact hw) ?_ (by rw [hlen];exact hz)
 rw [hlen]
 refine ⟨.ref s.heap.objs.size,_,I.laid (t':=s.toks) (o:=.tup (eZ xs lo hi)) (fun b ob q=>Heap.get?_push_of_some _ q) (Nat.le_refl _) ?_,rfl,q _ (I.hok.fresh (Nat.le_refl _))⟩
 exact ⟨Nat.le_trans (lS xs lo hi) hz,_,(r.drop (HT.sIx xs.length 0 lo)).take (HT.sIx xs.length xs.length hi - HT.sIx xs.length 0 lo),IsTup.new _ _⟩
def BF (K:W.Frag):R2:=fun x y H Q=>∃a b xs ys,x=.ref a/\y=.ref b/\SqT K H a xs/\SqT K H b ys/\xs ≠ []/\xs.length + ys.length <= sizeLine /\
 (ys=[]->Q (.ref a) H)/\(ys ≠ []->∀p,H p=none->Q (.ref p) (upd H p (.tup (xs ++ ys))))
theorem Vals.qa {xs:List V}{us:List Value} (r:Vals xs us):us=[] ↔ xs=[]:=by
 cases r with
 | nil=>simp
 | cons _ _=>simp
theorem pW:OpR X (binaryOp .Add) (BF X.K):=by
 intro pins s σ H x y v u Q I rx ry h
 obtain ⟨a,b,xs,ys,rfl,rfl,ha,hb,hx,hz,q1,q2⟩:=h
 cases rx
 cases ry
 obtain ⟨its,r1,p1,_⟩:=I.tuple ha
 obtain ⟨its2,r2,p2,_⟩:=I.tuple hb
 refine HT.yW p1 p2 (fun z=>hx (r1.qa.mp z)) (fun z=>⟨.ref a,H,I,rfl,q1 (r2.qa.mp z)⟩) (fun z=>?_) (by rw [<- r1.length,<- r2.length];exact hz)
 refine ⟨.ref s.heap.objs.size,_,I.laid (t':=s.toks) (o:=.tup (xs ++ ys)) (fun b ob q=>Heap.get?_push_of_some _ q) (Nat.le_refl _) ?_,rfl,q2 (fun w=>z (r2.qa.mpr w)) _ (I.hok.fresh (Nat.le_refl _))⟩
 exact ⟨by rw [List.length_append];exact hz,_,r1.append r2,IsTup.new _ _⟩
end
end L2
namespace L2
open PySem PySem.Spec PyProof.Rows
def ixN (n:Nat) (i:Int):Option Nat:=if 0 <= i then (if i < n then some i.toNat else none) else if -(n:Int) <= i then some (i + n).toNat else none
def atI {α:Type} (xs:List α) (i:Int):Option α:=(ixN xs.length i).bind fun j=>xs[j]?
theorem tW {n:Nat}{i:Int}{j:Nat} (h:ixN n i=some j):seqIndex? i n=some j/\j < n/\-(n:Int) <= i/\i < n:=by
 unfold ixN at h
 by_cases h0:0 <= i
 ·rw [if_pos h0] at h
  by_cases h1:i < n
  ·rw [if_pos h1] at h
   have e:i.toNat=j:=Option.some.inj h
   exact ⟨by rw [seqIndex_of h0 h1,e],by omega,by omega,h1⟩
  ·rw [if_neg h1] at h;cases h
 ·rw [if_neg h0] at h
  by_cases h1:-(n:Int) <= i
  ·rw [if_pos h1] at h
   have e:(i + n).toNat=j:=Option.some.inj h
   exact ⟨by rw [seqIndex_neg (by omega) h1,e],by omega,h1,by omega⟩
  ·rw [if_neg h1] at h;cases h
theorem pN {α:Type}{xs:List α}{i:Int}{v:α} (h:atI xs i=some v):∃j,seqIndex? i xs.length=some j/\xs[j]?=some v/\j < xs.length/\-(xs.length:Int) <= i/\i < xs.length:=by
 unfold atI at h
 cases e:ixN xs.length i with
 | none=>rw [e] at h;cases h
 | some j =>
  rw [e] at h
  obtain ⟨h1,h2,h3,h4⟩:=tW e
  exact ⟨j,h1,h,h2,h3,h4⟩
theorem aB {α:Type}{xs:List α}{j:Nat}{v:α} (h:xs[j]?=some v):atI xs (j:Int)=some v:=by
 have hj:j < xs.length:=(List.getElem?_eq_some_iff.mp h).1
 have e:ixN xs.length (j:Int)=some j:=by
  unfold ixN
  rw [if_pos (by omega),if_pos (by omega)];simp
 unfold atI;rw [e];exact h
theorem nN {α:Type} (xs:List α) (v:α):atI (xs ++ [v]) (-1)=some v:=by
 have hl:(xs ++ [v]).length=xs.length + 1:=by simp
 have e:ixN (xs ++ [v]).length (-1)=some xs.length:=by
  unfold ixN
  rw [hl,if_neg (by decide),if_pos (by omega)]
  congr 1
  omega
 unfold atI
 rw [e]
 show (xs ++ [v])[xs.length]?=some v
 simp
def uw (b:Expr):Prop:=∀o i,subscripted b false o i=operate [o,i] (getItem o i)
def IxR (X:Cx) (r:R2):Prop :=
 ∀(value slice:Expr) (pins:List (Addr × Obj)) (s:Shared) (σ:St) (H:Hp) (x y:V) (v u:Value) (Q:VK),Inv X pins σ H s->RelV x v->RelV y u->r x y H Q ->
  subscripted slice false v u=operate [v,u] (getItem v u)->wpAny (model X.prog X.w) X.A (subscriptTail value slice v u) (EP X pins σ Q) X.xe s
def MtR (X:Cx) (id:String) (r:V->List V->Hp->VK->Prop):Prop :=
 ∀(pins:List (Addr × Obj)) (s:Shared) (σ:St) (H:Hp) (x:V) (xs:List V) (v:Value) (us:List Value) (Q:VK),Inv X pins σ H s->RelV x v->Vals xs us->r x xs H Q ->
  wpAny (model X.prog X.w) X.A (call (.builtin id) (v :: us)) (EP X pins σ Q) X.xe s
section
variable {X:Cx}{a b:Expr}{ta tb:TE}{pos:Pos}
theorem Cb {r:R2} (hr:IxR X r) (ha:PE X a ta) (hb:PE X b tb) (hs:uw b):PE X (.Subscript a b pos) (tOp r ta tb):=by
 intro pins s σ H Q I h
 exact Subscript_ (zA ha hb I h fun v u s2 x y H2 I2 rx ry q=>hr a b pins s2 σ H2 x y v u Q I2 rx ry q (hs _ _))
def CU (K:W.Frag):R2:=fun x y H Q=>∃p xs i v,x=.ref p/\y=.int i/\SqL K H p xs/\atI xs i=some v/\Q v H
def C1 (K:W.Frag):R2:=fun x y H Q=>∃p xs i v,x=.ref p/\y=.int i/\SqT K H p xs/\atI xs i=some v/\Q v H
def CG:R2:=fun x y H Q=>∃z i c,x=.str z/\y=.int i/\z.length <= sizeLine/\atI z.cps.toList i=some c/\Q (.str ⟨#[c]⟩) H
theorem yT:IxR X (CU X.K):=by
 intro value slice pins s σ H x y v u Q I rx ry h hs
 obtain ⟨p,xs,i,z,rfl,rfl,hq,he,q⟩:=h
 cases rx
 obtain ⟨t,rfl⟩:=ry
 obtain ⟨its,r,pl,hz⟩:=I.list hq
 obtain ⟨j,h1,h2,h3,h4,h5⟩:=pN he
 obtain ⟨w,ew,rw'⟩:=r.get h2
 have hl:=r.length
 have hn:=kX
 have fin:EP X pins σ Q w s:=⟨z,H,I,rw',q⟩
 by_cases h0:0 <= i
 ·have hj:i.toNat=j:=by
   rw [seqIndex_of h0 h5] at h1
   exact Option.some.inj h1
  exact item_listR pl.isList h0 (by omega) (by rw [hj];simpa using ew) fin hs
 ·have hj:(i + (its.toArray.size:Int)).toNat=j:=by
   rw [seqIndex_neg (by omega) h4] at h1
   rw [List.size_toArray,<- hl]
   exact Option.some.inj h1
  exact subscriptTail_builtinR (x:=w) pl.isList.typeIs slot_list_getitem.lookup
   (wpAny_getItem_list_neg (Q:=fun r s'=>r=w/\EP X pins σ Q r s') pl.isList (by omega) (by rw [List.size_toArray] <;> omega) (by omega) (by rw [hj];simpa using ew) ⟨rfl,fin⟩) hs
theorem AK:IxR X (C1 X.K):=by
 intro value slice pins s σ H x y v u Q I rx ry h hs
 obtain ⟨p,xs,i,z,rfl,rfl,hq,he,q⟩:=h
 cases rx
 obtain ⟨t,rfl⟩:=ry
 obtain ⟨its,r,pl,hz⟩:=I.tuple hq
 obtain ⟨j,h1,h2,h3,h4,h5⟩:=pN he
 obtain ⟨w,ew,rw'⟩:=r.get h2
 have hl:=r.length
 have hn:=kX
 have fin:EP X pins σ Q w s:=⟨z,H,I,rw',q⟩
 exact subscriptTail_builtinR (x:=w) pl.typeIs slot_tuple_getitem.lookup
  (getItem_tuple (j:=j) (Q:=fun r s'=>r=w/\EP X pins σ Q r s') pl (by omega) (by omega) (by rw [List.size_toArray,<- hl];exact h1) (by simpa using ew) ⟨rfl,fin⟩) hs
theorem Ab:IxR X CG:=by
 intro value slice pins s σ H x y v u Q I rx ry h hs
 obtain ⟨z,i,c,rfl,rfl,hz,he,q⟩:=h
 obtain ⟨t,rfl⟩:=rx
 obtain ⟨t',rfl⟩:=ry
 obtain ⟨j,h1,h2,h3,h4,h5⟩:=pN he
 have hl:z.cps.toList.length=z.length:=by simp [Str.length]
 rw [hl] at h1 h4 h5
 have hn:=kX
 exact tail_any (typeIs_str s z t) slot_str_getitem.lookup (getItem_str (c:=c) (by
  have e1:decide (i < -(2 ^ 63:Int))=false:=decide_eq_false (by omega)
  have e2:decide (i ≥ 2 ^ 63)=false:=decide_eq_false (by omega)
  rw [e1,e2,Bool.or_false]) (by rw [h1];simpa using h2) ⟨.str ⟨#[c]⟩,H,I.tok _,⟨_,rfl⟩,q⟩) hs
theorem sg (its:List Value) (n j:Nat) (u:Value):Obj.mapSeq (·.setIfInBounds j u) { cls:=.type "list",data:=.seq its.toArray n }={ cls:=.type "list",data:=.seq (its.set j u).toArray n }:=by
 simp [Obj.mapSeq]
theorem Inv.lst {pins:List (Addr × Obj)}{σ:St}{H:Hp}{s:Shared}{p:Addr}{xs:List V} (I:Inv X pins σ H s) (h:H p=some (.lst xs)) :
  ∃(its:List Value) (n:Nat),Vals xs its/\s.heap.get? p=some { cls:=.type "list",data:=.seq its.toArray n }/\xs.length <= sizeLine:=by
 obtain ⟨z,its,n,r,e⟩:=I.hok p _ h
 exact ⟨its,n,r,e,z⟩
theorem Inv.AN {pins:List (Addr × Obj)}{σ:St}{H:Hp}{s:Shared}{p:Addr}{xs ys:List V}{its its':List Value}{n n':Nat}{f:Obj->Obj} (I:Inv X pins σ H s) (h:H p=some (.lst xs))
  (ho:s.heap.get? p=some { cls:=.type "list",data:=.seq its.toArray n }) (hf:f { cls:=.type "list",data:=.seq its.toArray n }={ cls:=.type "list",data:=.seq its'.toArray n' }) (r:Vals ys its') (hz:ys.length <= sizeLine) (t:Nat) :
  Inv X pins σ (upd H p (.lst ys)) { s with heap:=s.heap.update p f,toks:=t }:=by
 have e:(s.heap.update p f).get? p=some { cls:=.type "list",data:=.seq its'.toArray n' }:=by
  rw [Heap.get?_update_self f ho (by rw [hf] <;> rfl),hf]
 refine I.write (x:=p) (e:=p) (by rw [h];trivial) (.inl rfl) (fun b u hb q=>(Heap.get?_update_other _ _ (Ne.symm hb)).trans q) ⟨_,e⟩ ?_
 exact ⟨hz,its',n',r,e⟩
def za:V->V->V->Hp->(Hp->Prop)->Prop:=fun o i v H Q=>∃p xs k j,o=.ref p/\i=.int k/\H p=some (.lst xs)/\ixN xs.length k=some j/\Q (upd H p (.lst (xs.set j v)))
theorem set_list:vW X za:=by
 intro pins s σ H o i v ov iv u Q I ro ri rv h
 obtain ⟨p,xs,k,j,rfl,rfl,hp,hj,q⟩:=h
 cases ro
 obtain ⟨t,rfl⟩:=ri
 obtain ⟨its,n,r,ho,hz⟩:=I.lst hp
 obtain ⟨h1,h2,h3,h4⟩:=tW hj
 have hl:=r.length
 have hn:=kX
 have I':Inv X pins σ (upd H p (.lst (xs.set j v))) { s with heap:=s.heap.update p (Obj.mapSeq (·.setIfInBounds j u)) } :=
  I.AN hp ho (sg its n j u) (r.set rv j) (by rw [List.length_set];exact hz) s.toks
 by_cases h0:0 <= k
 ·have hk:k.toNat=j:=by
   rw [seqIndex_of h0 h4] at h1
   exact Option.some.inj h1
  exact W.ki_setAt ho h0 (by omega) (by rw [List.size_toArray,<- hl];exact h4) (by rw [hk];exact ⟨_,I',q⟩)
 ·have hk:(k + (its.toArray.size:Int)).toNat=j:=by
   rw [seqIndex_neg (by omega) h3] at h1
   rw [List.size_toArray,<- hl]
   exact Option.some.inj h1
  exact W.ki_setBack ho (by omega) (by rw [List.size_toArray,<- hl];exact h3) (by omega) (by rw [hk];exact ⟨_,I',q⟩)
theorem p8 (lo hi:Option Int) (n:Nat):(sliceBounds lo hi none n).1=((HT.sIx n 0 lo:Nat):Int)/\(sliceBounds lo hi none n).2.1=((HT.sIx n n hi:Nat):Int)/\(sliceBounds lo hi none n).2.2=1:=by
 refine ⟨?_,?_,rfl⟩
 ·cases lo with
  | none=>simp [sliceBounds,HT.sIx]
  | some i =>
   simp only [sliceBounds,HT.sIx,Option.getD_none,show (1:Int) > 0 by decide,if_true]
   by_cases h:i < 0
   ·simp only [h,if_true] <;> omega
   ·simp only [h,if_false] <;> omega
 ·cases hi with
  | none=>simp [sliceBounds,HT.sIx]
  | some i =>
   simp only [sliceBounds,HT.sIx,Option.getD_none,show (1:Int) > 0 by decide,if_true]
   by_cases h:i < 0
   ·simp only [h,if_true] <;> omega
   ·simp only [h,if_false] <;> omega
theorem oA (its:List Value) (lo hi:Option Int):slicePick its.toArray lo hi none=((its.drop (HT.sIx its.length 0 lo)).take (HT.sIx its.length its.length hi - HT.sIx its.length 0 lo)).toArray:=by
 obtain ⟨h1,h2,h3⟩:=p8 lo hi its.toArray.size
 unfold slicePick
 rw [h1,h2,h3]
 simp only [sliceRange_one,pick_run,List.size_toArray] <;> rfl
def zC (K:W.Frag):V->Option Int->Option Int->Hp->VK->Prop:=fun x lo hi H Q=>∃a xs,x=.ref a/\SqL K H a xs/\∀p,H p=none->Q (.ref p) (upd H p (.lst (eZ xs lo hi)))
theorem yg:SlR X (zC X.K):=by
 intro pins s σ H x v vl vu lo hi sl Q I rx hs pl pu h
 obtain ⟨a,xs,rfl,hx,q⟩:=h
 cases rx
 obtain ⟨its,r,ht,hz⟩:=I.list hx
 have hlen:=r.length
 refine ⟨"list",_,slot_list_getitem.lookup,ht.isList.typeIs,?_⟩
 refine wpAny_getItem_list_slice ht.isList hs pl pu .none (by simp) ?_ (by rw [List.size_toArray] <;> omega)
 rw [oA,<- hlen]
 refine ⟨.ref s.heap.objs.size,_,I.laid (t':=s.toks) (o:=.lst (eZ xs lo hi)) (fun b ob q=>Heap.get?_push_of_some _ q) (Nat.le_refl _) ?_,rfl,q _ (I.hok.fresh (Nat.le_refl _))⟩
 exact ⟨Nat.le_trans (lS xs lo hi) hz,_,0,(r.drop (HT.sIx xs.length 0 lo)).take (HT.sIx xs.length xs.length hi - HT.sIx xs.length 0 lo),Heap.get?_push_size _ rfl⟩
def j6:V->Bool
 | .non=>true
 | .bl _=>true
 | .int _=>true
 | .str _=>true
 | _=>false
def eqV:V->V->Bool
 | .non,.non=>true
 | .bl a,.bl b=>a == b
 | .bl a,.int b=>(if a then 1 else 0) == b
 | .int a,.bl b=>a == (if b then 1 else 0)
 | .int a,.int b=>a == b
 | .str a,.str b=>a == b
 | _,_=>false
theorem AW {A:Around}{s:Shared}{y x:V}{u v:Value} (ry:RelV y u) (rx:RelV x v) (fy:j6 y=true) (fx:j6 x=true):SeqAt.EqAt A s u v (eqV y x):=by
 cases y with
 | non =>
  cases ry
  cases x with
  | non=>cases rx;exact SeqAt.EqAt.same _
  | bl b=>cases rx;exact SeqAt.EqAt.none_bool b
  | int b=>obtain ⟨t,rfl⟩:=rx;exact SeqAt.EqAt.none_int b t
  | str b=>obtain ⟨t,rfl⟩:=rx;exact SeqAt.EqAt.none_str b t
  | _=>exact absurd (show false=true from fx) Bool.false_ne_true
 | bl a =>
  cases ry
  cases x with
  | non=>cases rx;exact SeqAt.EqAt.bool_none a
  | bl b=>cases rx;exact SeqAt.EqAt.bool_bool a b
  | int b=>obtain ⟨t,rfl⟩:=rx;exact SeqAt.EqAt.bool_int a b t
  | str b=>obtain ⟨t,rfl⟩:=rx;exact SeqAt.EqAt.bool_str a b t
  | _=>exact absurd (show false=true from fx) Bool.false_ne_true
 | int a =>
  obtain ⟨t',rfl⟩:=ry
  cases x with
  | non=>cases rx;exact SeqAt.EqAt.int_none a t'
  | bl b=>cases rx;exact SeqAt.EqAt.int_bool a t' b
  | int b=>obtain ⟨t,rfl⟩:=rx;exact SeqAt.EqAt.int_int a t' b t
  | str b=>obtain ⟨t,rfl⟩:=rx;exact SeqAt.EqAt.int_str a t' b t
  | _=>exact absurd (show false=true from fx) Bool.false_ne_true
 | str a =>
  obtain ⟨t',rfl⟩:=ry
  cases x with
  | non=>cases rx;exact SeqAt.EqAt.str_none a t'
  | bl b=>cases rx;exact SeqAt.EqAt.str_bool a t' b
  | int b=>obtain ⟨t,rfl⟩:=rx;exact SeqAt.EqAt.str_int a t' b t
  | str b=>obtain ⟨t,rfl⟩:=rx;exact SeqAt.EqAt.str_str a t' b t
  | _=>exact absurd (show false=true from fx) Bool.false_ne_true
 | _=>exact absurd (show false=true from fy) Bool.false_ne_true
def eqU (x:V) (u:Value):Bool:=match u with
 | .none=>eqV .non x
 | .bool b=>eqV (.bl b) x
 | .int i _=>eqV (.int i) x
 | .str z _=>eqV (.str z) x
 | _=>false
theorem vK {x y:V}{u:Value} (r:RelV y u) (f:j6 y=true):eqU x u=eqV y x:=by
 cases y with
 | non=>cases r;rfl
 | bl b=>cases r;rfl
 | int i=>obtain ⟨t,rfl⟩:=r;rfl
 | str z=>obtain ⟨t,rfl⟩:=r;rfl
 | _=>exact absurd (show false=true from f) Bool.false_ne_true
theorem qe {x:V}:∀{xs:List V}{us:List Value},Vals xs us->xs.all j6=true->us.any (eqU x)=xs.any fun y=>eqV y x
 | _,_,.nil,_=>rfl
 | y :: xs,u :: us,.cons r t,f=>by
  rw [List.all_cons,Bool.and_eq_true] at f
  rw [List.any_cons,List.any_cons,vK r f.1,qe t f.2]
theorem nX {A:Around}{s:Shared}{x:V}{v:Value} (rx:RelV x v) (fx:j6 x=true):∀{xs:List V}{us:List Value},Vals xs us->xs.all j6=true->∀u ∈ us,SeqAt.EqAt A s u v (eqU x u)
 | _,_,.nil,_=>fun u hu=>by cases hu
 | y :: xs,u :: us,.cons r t,f=>fun u' hu=>by
  rw [List.all_cons,Bool.and_eq_true] at f
  rcases List.mem_cons.mp hu with rfl | hu
  ·rw [vK r f.1];exact AW r rx f.1 fx
  ·exact nX rx fx t f.2 u' hu
def inV (x:V) (xs:List V):Bool:=xs.any fun y=>eqV y x
def rIn (K:W.Frag) (neg:Bool):R2:=fun x y H Q=>∃p xs,y=.ref p/\(SqL K H p xs \/ SqT K H p xs)/\j6 x=true/\xs.all j6=true/\Q (.bl (if neg then !inV x xs else inV x xs)) H
theorem vh:OpR X (compareOp .In) (rIn X.K false):=by
 intro pins s σ H x y v u Q I rx ry h
 obtain ⟨p,xs,rfl,hq,fx,fs,q⟩:=h
 cases ry
 rcases hq with hq | hq
 ·obtain ⟨its,r,pl,hz⟩:=I.list hq
  refine SeqAt.in_listAt (eqU x) pl.isList (fun w hw=>nX rx fx r fs w (by simpa using hw)) ⟨.bl _,H,I,rfl,?_⟩
  rw [show its.toArray.any (eqU x)=its.any (eqU x) by simp,qe r fs]
  exact q
 ·obtain ⟨its,r,pl,hz⟩:=I.tuple hq
  refine SeqAt.in_tupleAt (eqU x) pl (fun w hw=>nX rx fx r fs w (by simpa using hw)) ⟨.bl _,H,I,rfl,?_⟩
  rw [show its.toArray.any (eqU x)=its.any (eqU x) by simp,qe r fs]
  exact q
theorem dg.or {f:Value}{r r':List V->Hp->VK->Prop} (h:dg X f r) (h':dg X f r'):dg X f (fun xs H Q=>r xs H Q \/ r' xs H Q):=by
 intro pins s σ H xs us Q I rs q
 rcases q with q | q
 ·exact h pins s σ H xs us Q I rs q
 ·exact h' pins s σ H xs us Q I rs q
theorem qd:dg X (.type "list") (fun xs H Q=>∃p ys,xs=[.ref p]/\(SqL X.K H p ys \/ SqT X.K H p ys)/\∀l,H l=none->Q (.ref l) (upd H l (.lst ys))):=by
 intro pins s σ H xs us Q I r h
 obtain ⟨p,ys,rfl,hq,q⟩:=h
 obtain ⟨u,rfl,rx⟩:=vals1 r
 cases rx
 have fin:∀(its:List Value),Vals ys its->ys.length <= sizeLine->∀(h':Heap) (c':Nat),(∀b o',s.heap.get? b=some o'->h'.get? b=some o') ->
   h'.get? s.heap.objs.size=some { cls:=.type "list",dict:=none,data:=.seq its.toArray c',slots:=#[] }->EP X pins σ Q (.ref s.heap.objs.size) { s with heap:=h' }:=fun its r' hz h' c' kp e =>
  ⟨.ref s.heap.objs.size,_,I.laid (t':=s.toks) kp (Nat.le_refl _) (show cI X.prog X.w _ h' _ (.lst ys) from ⟨hz,its,c',r',e⟩),rfl,q _ (I.hok.fresh (Nat.le_refl _))⟩
 rcases hq with hq | hq
 ·obtain ⟨its,r',pl,hz⟩:=I.list hq
  have hlen:=r'.length
  obtain ⟨o,ho,hc,n,hd⟩:=pl.isList
  exact call_list_seq p (.inl rfl) ho hc hd (fun h' c' kp e=>fin its r' hz h' c' kp e) (by simp only [List.size_toArray] <;> omega)
 ·obtain ⟨its,r',pl,hz⟩:=I.tuple hq
  have hlen:=r'.length
  obtain ⟨o,ho,hc,n,hd⟩:=pl
  exact call_list_seq p (.inr rfl) ho hc hd (fun h' c' kp e=>fin its r' hz h' c' kp e) (by simp only [List.size_toArray] <;> omega)
def tyV (K:W.Frag) (T:String) (x:V) (H:Hp):Prop:=match x with
 | .str _=>T="str"
 | .int _=>T="int"
 | .ref p=>(T="list"/\∃xs,SqL K H p xs) \/ (T="tuple"/\∃o,K.lookup p=some o/\o.cls=.type "tuple"/\o.dict=none) \/
   (T="dict"/\((∃kvs,H p=some (.dK kvs)) \/ ∃kvs,H p=some (.dT kvs))) \/ (T="set"/\∃S n,H p=some (.set S n))
 | _=>False
theorem wx {pins:List (Addr × Obj)}{σ:St}{H:Hp}{s:Shared}{T:String}{x:V}{v:Value} (I:Inv X pins σ H s) (r:RelV x v) (ty:tyV X.K T x H) :
  s.TypeIs v T/\∀a,v=.ref a->∃ob,s.heap.get? a=some ob/\ob.dict=none:=by
 cases x with
 | str z =>
  obtain ⟨t,rfl⟩:=r
  cases (show T="str" from ty)
  exact ⟨typeIs_str s z t,fun _ e=>nomatch e⟩
 | int i =>
  obtain ⟨t,rfl⟩:=r
  cases (show T="int" from ty)
  exact ⟨typeIs_int s i t,fun _ e=>nomatch e⟩
 | ref p =>
  cases r
  rcases ty with ⟨rfl,xs,hq⟩ | ⟨rfl,o,hk,hc,hd⟩ | ⟨rfl,hk⟩ | ⟨rfl,S,n,hk⟩
  ·obtain ⟨its,_,pl,_⟩:=I.list hq
   refine ⟨pl.isList.typeIs,fun a e=>?_⟩
   cases e
   obtain ⟨o,n,e,c,hd,_⟩:=pl
   exact ⟨o,e,hd⟩
  ·refine ⟨⟨o,I.kIn p o hk,hc⟩,fun a e=>?_⟩
   cases e
   exact ⟨o,I.kIn _ o hk,hd⟩
  ·have z:∃o,s.heap.get? p=some o/\o.ExactDict:=by
    rcases hk with ⟨kvs,hk⟩ | ⟨kvs,hk⟩
    ·obtain ⟨_,_,_,_,o,_,_,e,ex,_⟩:=I.hok p _ hk
     exact ⟨o,e,ex⟩
    ·obtain ⟨_,_,_,_,o,_,_,e,ex,_⟩:=I.hok p _ hk
     exact ⟨o,e,ex⟩
   obtain ⟨o,e,ex⟩:=z
   refine ⟨⟨o,e,ex.1⟩,fun a e2=>?_⟩
   cases e2
   exact ⟨o,e,ex.2.1⟩
  ·obtain ⟨o,_,_,_,e,ex,_⟩:=I.hok p _ hk
   refine ⟨⟨o,e,ex.1⟩,fun a e2=>?_⟩
   cases e2
   exact ⟨o,e,ex.2.1⟩
 | _=>exact False.elim ty
def BS (K:W.Frag) (T:String) (r:V->List V->Hp->VK->Prop) (to:TE):TE:=fun σ H Q=>to σ H fun x H1=>tyV K T x H1/\r x [] H1 Q
def tBM (K:W.Frag) (T:String) (r:V->List V->Hp->VK->Prop) (to:TE) (t:TA):TE:=fun σ H Q=>to σ H fun x H1=>tyV K T x H1/\t σ H1 fun xs H2=>r x xs H2 Q
variable {o e:Expr}{es:List Expr}{to:TE}{t:TA}{name:Str}{apos cpos:Pos}{T id:String}{r:V->List V->Hp->VK->Prop}
theorem zv (pa:PlainAttrs T) (slot:Slot T name id) (hty:typeOf (.builtin id)=pure (.type "method_descriptor")) (hm:MtR X id r) (ho:PE X o to)
  (hbase:attributeBase o name X.env (eval o X.env)=eval o X.env:=by rfl) (hline:(apos.endLine == cpos.line)=true:=by rfl):PE X (.Call (.Attribute o name apos) [] [] cpos) (BS X.K T r to):=by
 intro pins s σ H Q I h
 refine wpAny_Call_method0_late hbase hline (thn (ho pins s σ H _ I h) fun v s1 ⟨x,H1,I1,r1,ty,q1⟩=>?_)
 obtain ⟨h1,h2⟩:=wx I1 r1 ty
 exact ⟨T,id,pa,slot,hty,h1,h2,Calls.callWith_builtin rfl (PySem.evalArgs_none (hm pins s1 σ H1 x [] v [] Q I1 r1 .nil q1))⟩
theorem xi (pa:PlainAttrs T) (slot:Slot T name id) (hty:typeOf (.builtin id)=pure (.type "method_descriptor")) (hm:MtR X id r) (ho:PE X o to) (ha:PA X (e :: es) t)
  (hbase:attributeBase o name X.env (eval o X.env)=eval o X.env:=by rfl)
  (hfew:((backTo cpos (starEach (e :: es) X.env)).all (fun x=>!x.1) && (backToKw cpos (keywordEach [] X.env)).all (fun x=>x.1.isSome)
   && decide ((e :: es).length + ([]:List Keyword).length + (if ([]:List Keyword).isEmpty then 0 else 1) < 30))=true:=by rfl)
  (hline:(apos.endLine == cpos.line)=true:=by rfl) (hs:starEach (e :: es) X.env=(false,eval e X.env) :: starEach es X.env:=by rfl) (hplain:(backTo cpos (starEach es X.env)).any (·.1)=false:=by rfl) :
  PE X (.Call (.Attribute o name apos) (e :: es) [] cpos) (tBM X.K T r to t):=by
 intro pins s σ H Q I h
 refine wpAny_Call_method_late hbase hfew hline rfl (thn (ho pins s σ H _ I h) fun v s1 ⟨x,H1,I1,r1,ty,q1⟩=>?_)
 obtain ⟨h1,h2⟩:=wx I1 r1 ty
 refine ⟨T,id,pa,slot,hty,h1,h2,?_⟩
 have hA:=ha cpos pins s1 σ H1 _ I1 q1
 rw [hs] at hA ⊢
 refine Calls.callWith_builtin (by show (false || (backTo cpos (starEach es X.env)).any (·.1))=false;rw [hplain] <;> rfl) (Calls.evalArgs_plain ?_)
 exact thn hA fun us s2 ⟨vs,H2,I2,r2,q2⟩=>hm pins s2 σ H2 x vs v us Q I2 r1 r2 q2
end
end L2
namespace L2
open PySem PySem.Spec PyProof.Rows
def MtM (X:Cx) (id:String) (r:V->List V->Hp->VK->Prop):Prop :=
 ∀(pins:List (Addr × Obj)) (s:Shared) (σ:St) (H:Hp) (x:V) (xs:List V) (v:Value) (us:List Value) (Q:VK),Inv X pins σ H s->RelV x v->Vals xs us->r x xs H Q ->
  wpAny (model X.prog X.w) X.A (call (.builtin id) (v :: us)) (EP X pins σ Q) X.xe s
theorem Vals.one:∀{x:V}{us:List Value},Vals [x] us->∃u,us=[u]/\RelV x u
 | _,_,.cons r .nil=>⟨_,rfl,r⟩
theorem Vals.zero:∀{us:List Value},Vals [] us->us=[]
 | _,.nil=>rfl
theorem Vals.dropLast {xs:List V}{us:List Value} (h:Vals xs us):Vals xs.dropLast us.dropLast:=by
 induction h with
 | nil=>exact .nil
 | cons r t ih =>
  cases t with
  | nil=>exact .nil
  | cons q t'=>exact .cons r ih
theorem Vals.rep {xs:List V}{us:List Value} (h:Vals xs us):∀k:Nat,Vals (List.replicate k xs).flatten (List.replicate k us).flatten
 | 0=>.nil
 | k + 1=>by
  rw [List.replicate_succ,List.replicate_succ,List.flatten_cons,List.flatten_cons]
  exact Vals.append h (Vals.rep h k)
theorem sC {α:Type} (l:List α):l.eraseIdx (l.length - 1)=l.dropLast:=by
 induction l with
 | nil=>rfl
 | cons a r ih =>
  cases r with
  | nil=>rfl
  | cons b r =>
   have e:(a :: b :: r).length - 1=((b :: r).length - 1) + 1:=by
    have h1:(a :: b :: r).length=r.length + 2:=rfl
    have h2:(b :: r).length=r.length + 1:=rfl
    omega
   rw [e,List.eraseIdx_cons_succ,ih]
   all_goals rfl
theorem foldl_rep (its:List Value):∀(k:Nat) (acc:List Value),
  List.foldl (fun x1 x2=>x1 ++ x2) acc.toArray (List.replicate k its.toArray)=(acc ++ (List.replicate k its).flatten).toArray
 | 0,acc=>by simp
 | k + 1,acc=>by
  have e:acc.toArray ++ its.toArray=(acc ++ its).toArray:=by simp
  have e2:(acc ++ its) ++ (List.replicate k its).flatten=acc ++ (List.replicate (k + 1) its).flatten:=by
   rw [List.replicate_succ,List.flatten_cons,List.append_assoc]
  rw [<- e2,<- foldl_rep its k (acc ++ its),<- e,List.replicate_succ,List.foldl_cons]
section
variable {X:Cx}{pins:List (Addr × Obj)}{σ:St}{H:Hp}{s:Shared}{l b:Addr}{xs ys zs:List V}
theorem Inv.Ad {its its':List Value}{n:Nat}{f:Array Value->Array Value}{t':Nat} (I:Inv X pins σ H s) (hH:H l=some (.lst xs))
  (e:s.heap.get? l=some { cls:=.type "list",data:=.seq its.toArray n }) (hf:f its.toArray=its'.toArray) (hv:Vals ys its') (hz:ys.length <= sizeLine) :
  Inv X pins σ (upd H l (.lst ys)) { s with heap:=s.heap.update l (Obj.mapSeq f),toks:=t' }:=by
 have q:=PySem.IsL.update e f
 rw [hf] at q
 refine I.write (x:=l) (e:=l) (by rw [hH];exact trivial) (.inl rfl) (fun b' u hb hu=>(Heap.get?_update_other s.heap (Obj.mapSeq f) (Ne.symm hb)).trans hu) ⟨_,q⟩ ?_
 exact ⟨hz,its',_,hv,q⟩
theorem Inv.AV {its:List Value}{t':Nat} (I:Inv X pins σ H s) (hv:Vals ys its) (hz:ys.length <= sizeLine) :
  Inv X pins σ (upd H s.heap.objs.size (.lst ys)) { s with heap:=s.heap.push { cls:=.type "list",data:=.seq its.toArray },toks:=t' } :=
 I.laid (fun _ _ q=>Heap.get?_push_of_some _ q) (Nat.le_refl _) ⟨hz,its,0,hv,Heap.get?_push_size _ rfl⟩
theorem Inv.fresh (I:Inv X pins σ H s):H s.heap.objs.size=none:=I.hok.fresh (Nat.le_refl _)
theorem Inv.sA (I:Inv X pins σ H s) (hH:H l=some (.lst xs)):xs.length <= sizeLine/\∃(its:List Value) (n:Nat),Vals xs its/\xs.length=its.length/\s.heap.get? l=some { cls:=.type "list",data:=.seq its.toArray n }:=by
 obtain ⟨z,its,n,r,e⟩:=I.hok l _ hH
 exact ⟨z,its,n,r,r.length,e⟩
theorem rq {n:Nat} (h:n <= sizeLine):Builtin.List.listTooLong n=false:=by
 unfold Builtin.List.listTooLong
 exact decide_eq_false (by omega)
end
section
variable {X:Cx}
def uD:V->List V->Hp->VK->Prop:=fun x vs H Q=>∃l xs y,x=.ref l/\vs=[y]/\H l=some (.lst xs)/\xs.length < sizeLine/\Q .non (upd H l (.lst (xs ++ [y])))
theorem pe:MtM X "list.append" uD:=by
 intro pins s σ H x vs v us Q I rx rv h
 obtain ⟨l,xs,y,rfl,rfl,hH,hz,q⟩:=h
 cases rx
 obtain ⟨u,rfl,ru⟩:=rv.one
 obtain ⟨z,its,n,r,hl,e⟩:=I.sA hH
 refine call_meets F.slot_list_append ⟨_,e,rfl⟩ F.entry_list_append (F.args_list_append_2 _ _) (PySem.list_append l its.toArray n u (by rw [List.size_toArray];omega)) ⟨e,?_⟩
 refine ⟨.non,_,I.Ad (its':=its ++ [u]) hH e (by simp) (r.append (.cons ru .nil)) ?_,rfl,q⟩
 rw [List.length_append,List.length_singleton]
 omega
def tV:V->List V->Hp->VK->Prop:=fun x vs H Q=>∃l b xs zs,x=.ref l/\vs=[.ref b]/\H l=some (.lst xs)/\H b=some (.lst zs)/\xs.length + zs.length <= sizeLine/\Q .non (upd H l (.lst (xs ++ zs)))
theorem vt:MtM X "list.extend" tV:=by
 intro pins s σ H x vs v us Q I rx rv h
 obtain ⟨l,b,xs,zs,rfl,rfl,hH,hB,hz,q⟩:=h
 cases rx
 obtain ⟨u,rfl,ru⟩:=rv.one
 cases ru
 obtain ⟨z,its,n,r,hl,e⟩:=I.sA hH
 obtain ⟨z2,its2,n2,r2,hl2,e2⟩:=I.sA hB
 have hsz:its.toArray.size + its2.toArray.size <= sizeLine:=by rw [List.size_toArray,List.size_toArray];omega
 have hlong:¬ (!its.toArray.isEmpty && Builtin.List.listTooLong (its.toArray.size + its2.toArray.size))=true:=by
  rw [rq hsz,Bool.and_false]
  exact Bool.false_ne_true
 refine call_meets F.slot_list_extend ⟨_,e,rfl⟩ F.entry_list_extend (F.args_list_extend_2 _ _)
  (AutoSeq1.list_extend_list_list_0 l its.toArray n b its2.toArray n2 hlong (by rw [List.size_toArray];omega) (by omega)) ⟨e,e2,?_⟩
 refine ⟨.non,_,I.Ad (its':=its ++ its2) hH e (by simp) (r.append r2) ?_,rfl,q⟩
 rw [List.length_append]
 omega
def BZ:V->List V->Hp->VK->Prop:=fun x vs H Q=>∃l xs y,x=.ref l/\vs=[]/\H l=some (.lst xs)/\xs[xs.length - 1]?=some y/\Q y (upd H l (.lst xs.dropLast))
theorem Av:MtM X "list.pop" BZ:=by
 intro pins s σ H x vs v us Q I rx rv h
 obtain ⟨l,xs,y,rfl,rfl,hH,hy,q⟩:=h
 cases rx
 have hus:=rv.zero
 subst hus
 obtain ⟨z,its,n,r,hl,e⟩:=I.sA hH
 obtain ⟨u,hu,ru⟩:=r.get hy
 have hy':its.toArray[its.toArray.size - 1]?=some u:=by
  show its.toArray[its.length - 1]?=some u
  rw [<- Array.getElem?_toList,<- hl]
  exact hu
 refine call_meets F.slot_list_pop ⟨_,e,rfl⟩ F.entry_list_pop (F.args_list_pop_1 _) (MeetsSeq.list_pop_last l its.toArray n u hy' (by rw [List.size_toArray];omega)) ⟨e,?_⟩
 refine ⟨y,_,I.Ad (its':=its.dropLast) hH e ?_ r.dropLast ?_,ru,q⟩
 ·show its.toArray.eraseIdxIfInBounds (its.toArray.size - 1)=its.dropLast.toArray
  rw [List.size_toArray,List.eraseIdxIfInBounds_toArray,sC]
 ·rw [List.length_dropLast]
  omega
def Bp:R2:=fun x y H Q=>∃l b xs zs,x=.ref l/\y=.ref b/\H l=some (.lst xs)/\H b=some (.lst zs)/\xs.length + zs.length <= sizeLine/\∀p,H p=none->Q (.ref p) (upd H p (.lst (xs ++ zs)))
theorem zZ:OpR X (binaryOp .Add) Bp:=by
 intro pins s σ H x y v u Q I rx ry h
 obtain ⟨l,b,xs,zs,rfl,rfl,hH,hB,hz,q⟩:=h
 cases rx
 cases ry
 obtain ⟨z,its,n,r,hl,e⟩:=I.sA hH
 obtain ⟨z2,its2,n2,r2,hl2,e2⟩:=I.sA hB
 refine PySem.P.add_list e e2 ?_ (by rw [List.size_toArray,List.size_toArray];omega)
 have ea:its.toArray ++ its2.toArray=(its ++ its2).toArray:=by simp
 rw [ea]
 exact ⟨.ref _,_,I.AV (t':=s.toks) (r.append r2) (by rw [List.length_append];omega),rfl,q _ I.fresh⟩
def CV:R2:=fun x y H Q=>∃l k xs,x=.ref l/\y=.int k/\H l=some (.lst xs)/\-(2 ^ 63) <= k/\k < 2 ^ 63/\xs.length * k.toNat <= sizeLine /\
 ∀p,H p=none->Q (.ref p) (upd H p (.lst (List.replicate k.toNat xs).flatten))
theorem len_rep {α:Type} (xs:List α) (k:Nat):(List.replicate k xs).flatten.length=k * xs.length:=by
 induction k with
 | zero=>simp
 | succ k ih=>rw [List.replicate_succ,List.flatten_cons,List.length_append,ih,Nat.succ_mul,Nat.add_comm]
theorem Ay:OpR X (binaryOp .Mult) CV:=by
 intro pins s σ H x y v u Q I rx ry h
 obtain ⟨l,k,xs,rfl,rfl,hH,h1,h2,hz,q⟩:=h
 cases rx
 obtain ⟨t,rfl⟩:=ry
 obtain ⟨z,its,n,r,hl,e⟩:=I.sA hH
 have hlen:its.toArray.size * k.toNat <= sizeLine:=by rw [List.size_toArray,<- hl];exact hz
 have hcap:¬ its.toArray.size * k.toNat > (2 ^ 63 - 1) / 8:=by
  have:(sizeLine:Nat) <= (2 ^ 63 - 1) / 8:=by decide
  omega
 have hfit:¬ (!Builtin.List.listFitsIndex k)=true:=by
  rw [fitsIndex_both h1 h2]
  exact Bool.false_ne_true
 have hlong:¬ Builtin.List.listTooLong (its.toArray.size * k.toNat)=true:=by
  rw [rq hlen]
  exact Bool.false_ne_true
 have hnew:List.foldl (fun x1 x2=>x1 ++ x2) #[] (List.replicate (if its.toArray.isEmpty=true then 0 else k.toNat) its.toArray)=(List.replicate k.toNat its).flatten.toArray:=by
  have f0:∀m:Nat,List.foldl (fun x1 x2=>x1 ++ x2) #[] (List.replicate m its.toArray)=(List.replicate m its).flatten.toArray:=fun m=>by
   have:=foldl_rep its m []
   rw [List.nil_append] at this
   exact this
  rw [f0]
  cases its with
  | nil=>simp
  | cons a r'=>rw [if_neg (by simp)]
 refine wpAny_binaryOp_repeat_ref (T:="list") (U:="int") (by decide) ⟨_,e,rfl⟩ (fun s'=>typeIs_int s' k t) noFill_list_mul F.fills_int_mul F.slot_int_rmul repeat_list F.slot_int_index.lookup
  (call_meets F.slot_int_rmul (typeIs_int s k t) F.entry_int_rmul (F.args_int_rmul_2 _ _) (int___rmul___int_list k t l its.toArray n)
   ⟨e,rfl,⟨_,e,rfl⟩,call_meets F.slot_list_mul ⟨_,e,rfl⟩ F.entry_list_mul (F.args_list_mul_2 _ _) (AutoListH.list___mul___list_int_3 l its.toArray n k t hfit hcap hlong) ⟨e,?_⟩⟩)
 rw [hnew]
 exact ⟨.ref _,_,I.AV (t':=s.toks) (r.rep k.toNat) (by rw [len_rep,Nat.mul_comm];exact hz),rfl,q _ I.fresh⟩
end
section
variable {prog:Program}{w:World}{A:Around}{E:Value->Shared->Prop}{s:Shared}
end
section
variable {X:Cx}
end
end L2
namespace Att
open PySem PySem.W PySem.Calls PyProof.Rows
theorem mn {P:Params}{h:Heap}:∀(ns:List Int) (vs:List Value),WellAll P h vs (ns.map WData.int)->IntsAre vs ns:=by
 intro ns
 induction ns with
 | nil =>
  intro vs w
  rw [List.map_nil] at w
  cases w
  exact .nil
 | cons n ns ih =>
  intro vs w
  rw [List.map_cons] at w
  cases w with
  | cons a b =>
   cases a
   exact .cons _ _ (ih _ b)
theorem vq {l:OpenLaw}{n:Nat} (hn:l.most=some n) {P:Params}{h:Heap}{args:List WData}{vals:List Value}
  (hpre:l.row.toRowW.claim.pre args=true) (hwl:WellAll P h vals args) :
  ∃a vs ns,vals=[Value.ref a]/\args=[WData.list (ns.map WData.int)]/\h.get? a=some { cls:=.type "list",data:=.seq vs.toArray }/\IntsAre vs ns/\ns.length <= n:=by
 have hsh:WShape.hasAll [] args [.list .int]=true:=(pre_splitW hpre).1
 have hc:l.pre.holds [] { args:=args }=true:=(pre_splitW hpre).2
 obtain ⟨d,r,rfl,h1,h2⟩:=hasAllW_cons hsh
 obtain rfl:=hasAllW_nil h2
 obtain ⟨xs,rfl,h3⟩:=hasW_list h1
 obtain ⟨ns,rfl⟩:=items_int h3
 have hlen:ns.length <= n:=by
  unfold OpenLaw.pre at hc
  have h4:(WTm.not (.lt (.lit (.int (n:Int))) (.len (.arg 0)))).holds [] { args:=[.list (ns.map .int)] }=true:=by
   have h4:=(holds_andW hc).1
   rw [hn] at h4
   exact h4
  have h5:=condW_of h4 (w_not (w_lt w_lit (w_len_list (w_arg rfl))))
  rw [List.length_map] at h5
  refine Nat.le_of_not_lt fun q=>?_
  have q':(n:Int) < ((ns.length:Nat):Int):=by omega
  first
   | (rw [decide_eq_true q'] at h5;exact absurd h5 (by decide))
   | (simp at h5;omega)
 cases hwl with
 | cons w1 w2 =>
  cases w2
  cases w1 with
  | list ho hall=>exact ⟨_,_,ns,rfl,rfl,ho,mn ns _ hall,hlen⟩
theorem vz (l:OpenLaw) (args:List WData):l.row.toRowW.claim.post args (.bool true) args=true :=
 postW_of (r:=l.row.toRowW) (X:=(true == true))
  (show WShape.has [] (.bool true) .bool=true by first | rfl | decide | simp [WShape.has,WShape.arms,WShape.armsAll])
  (show (WTm.eq .res (.lit (.bool true))).value [] { args:=args,res:=some (.bool true),after:=args }=some (.bool (true == true)) from w_eq_bool (w_res rfl) w_lit) rfl
theorem qt {l:OpenLaw}{n:Nat}{q:Program}{loose:List Str}{XP:(Str->Option Value)->Heap->Prop}{YP:World->Heap->Prop}{d:DefRec}
  (hn:l.most=some n) (hdf:d.params.defaults=[])
  (call:∀(w:World) (s₀ s₁:Shared) (mg mb:Str->Option Value) (fa:Addr) (o:Obj) (pm cd doc:Value) (a:Addr) (vs:List Value) (ns:List Int),
   Ground q loose [] XP w s₀ mg mb s₁.heap->YP w s₁.heap ->
   s₁.heap.get? fa=some o->o.data=.func (docDef d.name d.params d.body d.scope pm cd doc)->s₁.heap.CodeRec cd d.name->mg d.name=some (.ref fa) ->
   s₁.heap.get? a=some { cls:=.type "list",data:=.seq vs.toArray }->IntsAre vs ns->ns.length <= n->s₁.gens=#[] ->
   codeAny (model l.prog w) callerA (.call (.ref fa) ⟨[.ref a],[]⟩) (fun r s'=>r=.ok (.ret (.bool true))/\OldK s₁.heap s'.heap/\s'.os=s₁.os/\AllBare s'.gens) s₁) :
  WalkO q loose XP YP l.row.toRowW d [] (fun f vs=>PySem.call f vs):=by
 intro w s₀ s₁ mg mb G Y fa o pm cd doc dV kV ho hd hcd hD hmg hg args vals as hpre hlay hrd hwl hlo
 obtain rfl:dV=.none:=Dflts.none hD hdf
 obtain rfl:kV=.none:=Dflts.noKw hD
 obtain ⟨a,vs,ns,rfl,rfl,hobj,hints,hlen⟩:=vq hn hpre hwl
 refine enter_call (codeAny_mono (call w s₀ s₁ mg mb fa o pm cd doc a vs ns G Y ho (fd_plain hd) hcd hmg hobj hints hlen hg) fun r s' hq=>?_)
 obtain ⟨rfl,h2,h3,h4⟩:=hq
 exact ⟨.inl ⟨.bool true,.bool true,[],rfl,fun _=>rfl,.bool true,vz l _,fun _=>⟨List.Pairwise.nil,fun _ hm=>(nomatch hm)⟩⟩,h2,h3,h4⟩
section
variable {prog:Program}{w:World}{A:Around}{E:Value->Shared->Prop}{s:Shared}{K:Frag}
end
end Att
namespace L2
open PySem PySem.Spec PyProof.Rows
theorem o5:∀{vs:List Value}{ns:List Int},IntsAre vs ns->Vals (ns.map V.int) vs
 | _,_,.nil=>.nil
 | _,_,.cons n t h=>.cons ⟨t,rfl⟩ (o5 h)
def zu (H:Hp):Prop:=∀b,H b=none \/ ∃o xs,H b=some (.frz o (.lst xs))
theorem xq {P:Program}{w:World}{K:W.Frag}{mg mb:Str->Option Value}{CX:CXT}{k:Nat}{fa a:Addr}{fd:FuncData}{x:Str}{sp:Sp}{s₁:Shared}{vs:List Value}{ns:List Int}
  (KX:K.In s₁.heap) (hns:s₁.heap.Ns mainGlobals mg) (hb:s₁.heap.Ns builtinsNs mb) (hbb:∀x:Str,x ≠ "__name__"->mb x=bootBuiltins x) (hlim:s₁.heap.NoLimit) (hg:s₁.gens=#[])
  (ha:s₁.heap.get? a=some { cls:=.type "list",data:=.seq vs.toArray }) (hi:IntsAre vs ns) (hl:ns.length <= sizeLine) (hr:d4 k callerA)
  (F:∀base:Heap,K.In base->base.Ns mainGlobals mg->kT P w K mg base CX k fa fd [x] sp) (hbind:∀(s:Shared) (u:Value),BindsTo s fd ⟨[u],[]⟩ [(x,u)])
  (hsp:∀H:Hp,zu H->SqL K H a (ns.map V.int)->sp [.ref a] H (fun v _=>v=.bl true) fun _ _ _=>False)
  (hCX:∀H e s',CX [] H s₁ (fun _ _ _=>False) e s'->False) :
  codeAny (model P w) callerA (.call (.ref fa) ⟨[.ref a],[]⟩) (fun r s'=>r=.ok (.ret (.bool true))/\OldK s₁.heap s'.heap/\s'.os=s₁.os/\AllBare s'.gens) s₁:=by
 have rv:=o5 hi
 have lenV:=hi.length
 have core:∀H:Hp,zu H->SqL K H a (ns.map V.int)->HOk P w H s₁.heap->(∀b,H b ≠ none->b=a)->(H a ≠ none->K.lookup a=none) ->
   codeAny (model P w) callerA (.call (.ref fa) ⟨[.ref a],[]⟩) (fun r s'=>r=.ok (.ret (.bool true))/\OldK s₁.heap s'.heap/\s'.os=s₁.os/\AllBare s'.gens) s₁:=by
  intro H hO hS hok hA hK
  have base_of:∀{b:Addr}{o:Obj},s₁.heap.get? b=some o->H b=none->(qg s₁.heap H).get? b=some o:=fun e n=>xU e n
  have noA:∀{b:Addr}{o:Obj}{es:Array DictEntry}{ep:Nat},s₁.heap.get? b=some o->o.data=.dict es ep->H b=none:=fun {b o es ep} e d=>by
   cases q:H b with
   | none=>rfl
   | some u =>
    have e':b=a:=hA b (by rw [q];simp)
    subst e'
    rw [ha] at e;cases e
    have d':Data.seq vs.toArray _=Data.dict es ep:=d
    cases d'
  have nsK:∀{b:Addr}{m:Str->Option Value},s₁.heap.Ns b m->(qg s₁.heap H).Ns b m:=fun {b m} ⟨o,es,ep,e,d,r⟩=>⟨o,es,ep,base_of e (noA e d),d,r⟩
  have hKb:K.In (qg s₁.heap H):=fun b o e=>base_of (KX b o e) (by
   cases q:H b with
   | none=>rfl
   | some u =>
    have e':b=a:=hA b (by rw [q];simp)
    subst e'
    rw [hK (by rw [q];simp)] at e;cases e)
  have hM:Mod K mg (qg s₁.heap H):=⟨hKb,nsK hns,⟨mb,nsK hb,hbb⟩,let ⟨mc,h1,h2⟩:=hlim;⟨mc,nsK h1,h2⟩⟩
  have e0:rO P w K mg (qg s₁.heap H) callerA [] s₁ H:=⟨rfl,hM,fun b o e=>yp e,Nat.le_of_eq (vj _ _),trivial,fun b hb=>absurd (show b ∈ ([]:List Addr) from hb) (by simp),hok,.of_eq hg⟩
  refine codeAny_mono ((F _ hKb (nsK hns)).run callerA [] s₁ H ⟨[.ref a],[]⟩ [.ref a] [.ref a] _ _ hr e0 (hbind s₁ (.ref a)) (.cons rfl .nil) (hsp H hO hS)) fun r s' h=>?_
  cases r with
  | error e=>exact (hCX H e s' h).elim
  | ok fl =>
   cases fl with
   | next=>exact False.elim h
   | brk=>exact False.elim h
   | cont=>exact False.elim h
   | ret u =>
    obtain ⟨v,H',os,bare,un,hok',r',q⟩:=h
    have q':v=.bl true:=q
    subst q'
    obtain rfl:u=Value.bool true:=r'
    refine ⟨rfl,OldK.of_keep fun b o e=>?_,os,bare⟩
    cases q:H b with
    | none=>exact un.keep b o e q (by intro z;exact absurd (show b ∈ ([]:List Addr) from z) (by simp)) (by simp)
    | some u =>
     rcases hO b with z | ⟨ob,xs,z⟩
     ·rw [q] at z;cases z
     ·have z2:=un.oj b ob _ z
      obtain ⟨e1,_⟩:=hok b _ z
      obtain ⟨e2,_⟩:=hok' b _ z2
      rw [e] at e1;cases e1
      exact e2
 cases hk:K.lookup a with
 | some o =>
  have e:=KX a o hk
  rw [ha] at e
  cases e
  refine core (fun _=>none) (fun _=>.inl rfl) (.inr ⟨_,vs.toArray,_,hk,rfl,rfl,rfl,by rw [List.size_toArray,lenV];exact hl,by simpa using rv⟩) (fun b u z=>by have z':(none:Option HO)=some u:=z;cases z') (fun b z=>absurd rfl z) fun z=>absurd rfl z
 | none =>
  refine core (fun b=>if b=a then some (.frz { cls:=.type "list",data:=.seq vs.toArray } (.lst (ns.map V.int))) else none) (fun b=>?_) (.inl (.inr ⟨{ cls:=.type "list",data:=.seq vs.toArray },if_pos rfl⟩)) (fun b u z=>?_) (fun b z=>?_) fun _=>hk
  ·by_cases hb:b=a
   ·exact .inr ⟨_,_,if_pos hb⟩
   ·exact .inl (if_neg hb)
  ·by_cases hb:b=a
   ·have z':=(if_pos hb).symm.trans z
    cases z'
    subst hb
    exact ⟨ha,by rw [List.length_map];exact hl,vs,_,rv,ha⟩
   ·have z':=(if_neg hb).symm.trans z
    cases z'
  ·by_cases hb:b=a
   ·exact hb
   ·exact absurd (if_neg hb) z
end L2
namespace L2
open PySem PySem.Spec PyProof.Rows
theorem yf {l:W.OpenLaw}{n k:Nat}{q:Program}{loose:List Str}{XP:(Str->Option Value)->Heap->Prop}{YP:World->Heap->Prop}{d:DefRec}{K:Params->W.Frag}{CX:World->CXT}{sp:World->Sp}{x:Str}
  (hn:l.most=some n) (hn2:n <= sizeLine) (hdf:d.params.defaults=[]) (hr:d4 k callerA)
  (hY:∀(w:World) (h:Heap),YP w h->(K w.params).In h)
  (F:∀(w:World) (mg:Str->Option Value) (fa:Addr) (h:Heap),(K w.params).In h->h.Ns mainGlobals mg->mg d.name=some (.ref fa) ->
   ∃fd:FuncData,(∀(s:Shared) (u:Value),BindsTo s fd ⟨[u],[]⟩ [(x,u)]) /\
    ∀base:Heap,(K w.params).In base->base.Ns mainGlobals mg->kT l.prog w (K w.params) mg base (CX w) k fa fd [x] (sp w))
  (hsp:∀(w:World) (H:Hp) (a:Addr) (ns:List Int),ns.length <= n->zu H->SqL (K w.params) H a (ns.map V.int)->sp w [.ref a] H (fun v _=>v=.bl true) fun _ _ _=>False)
  (hCX:∀(w:World) (H:Hp) (s:Shared) (e:Value) (s':Shared),CX w [] H s (fun _ _ _=>False) e s'->False) :
  W.WalkO q loose XP YP l.row.toRowW d [] (fun f vs=>PySem.call f vs):=by
 refine Att.qt hn hdf fun w s₀ s₁ mg mb fa o pm cd doc a vs ns G Y ho hd hcd hmg hobj hints hlen hg=>?_
 have KX:=hY w _ Y
 obtain ⟨fd,hb,hF⟩:=F w mg fa _ KX G.T.g hmg
 exact xq KX G.T.g G.T.b G.T.builtins G.T.nolimit hg hobj hints (Nat.le_trans hlen hn2) hr hF hb (fun H hO hS=>hsp w H a ns hlen hO hS) fun H e s'=>hCX w H s₁ e s'
end L2
namespace L2
open PySem PySem.Spec PyProof.Rows
abbrev CX0:CXT:=fun _ _ _ _ _ _=>False
abbrev E0:XK:=fun _ _ _=>False
theorem wb {X:Cx}:Passes CX0 X E0:=fun _ _ _ _ _ _ _ h=>h.elim
structure Fun (K:W.Frag) (x qual:Str) (st:Stmt) (f:Addr) (fd:FuncData):Prop where
 ex:∃(oc:Value) (od:Option Addr) (kV doc pm:Value) (an:Option Addr) (cdv ct:Value) (osl:Array (Option Value)),
  fd=W.fnOf x qual (da st) (cG st) (av st) .none kV doc pm an cdv ct/\K.lookup f=some ⟨oc,od,.func fd,osl⟩/\W.codeIn K cdv qual=true
 kp:W.keepIn K (.ref f)=true
section
variable {P:Program}{w:World}{K:W.Frag}{mg:Str->Option Value}{base:Heap}
theorem Fun.ok {x qual:Str}{st:Stmt}{f:Addr}{fd:FuncData}{N ps:List Str}{k:Nat}{sp:Sp} (F:Fun K x qual st f fd) (S:aK N ps (av st)) (len:∀vs H Q E,sp vs H Q E->vs.length=ps.length)
  (hbody:∀(cdv:Value) (A:Around) (outer:List Env) (s:Shared) (H:Hp) (vs:List V) (Q:VK) (E:XK),d4 k (A.deeper (envOfC qual (av st) s.heap.objs.size f cdv))->sp vs H Q E ->
   ∃t,PSs (qo CX0 P w K mg base N qual (av st) f cdv A outer s H E).nox (cG st) t/\t { nx:=fun _ H'=>Q .non H',rt:=Q } (start N vs) H):kT P w K mg base CX0 (k + 1) f fd ps sp:=by
 obtain ⟨oc,od,kV,doc,pm,an,cdv,ct,osl,rfl,lk,hcd⟩:=F.ex
 refine Bx lk hcd S len fun A outer s H vs Q E hr hsp=>?_
 obtain ⟨t,h,q⟩:=hbody cdv A outer s H vs Q E hr hsp
 exact ⟨t,h.nox,q⟩
theorem Fun.binds {x qual:Str}{st:Stmt}{f:Addr}{fd:FuncData}{ps:List Str} (F:Fun K x qual st f fd)
  (h:∀(kV doc pm:Value) (an:Option Addr) (cdv ct:Value) (us:List Value),us.length=ps.length->bindArgs (W.fnOf x qual (da st) (cG st) (av st) .none kV doc pm an cdv ct) ⟨us,[]⟩=pure (ps.zip us)):Binds K fd ps []:=by
 obtain ⟨oc,od,kV,doc,pm,an,cdv,ct,osl,rfl,lk,hcd⟩:=F.ex
 exact .all (h kV doc pm an cdv ct)
theorem pV {x qual:Str}{st:Stmt}{f:Addr}{oc:Value}{od an:Option Addr}{osl:Array (Option Value)}{kV doc pm cdv ct:Value} (l:K.lookup f=some ⟨oc,od,.func (W.fnOf x qual (da st) (cG st) (av st) .none kV doc pm an cdv ct),osl⟩)
  (c:W.codeIn K cdv qual=true) (k:W.keepIn K (.ref f)=true):Fun K x qual st f (W.fnOf x qual (da st) (cG st) (av st) .none kV doc pm an cdv ct):=⟨⟨oc,od,kV,doc,pm,an,cdv,ct,osl,rfl,l,c⟩,k⟩
end
theorem aD {n:Nat} (h:n <= 1000):n < sizeLine:=Nat.lt_of_le_of_lt h (by decide)
section
variable {X:Cx}
end
theorem cS {A B:Prop} (h:B):if false=true then A else B:=by
 rw [if_neg Bool.false_ne_true]
 exact h
theorem gU {A B:Prop} (h:A):if true=true then A else B:=by
 rw [if_pos rfl]
 exact h
theorem aI {c A B:Prop} [Decidable c] (h1:c->A) (h2:¬ c->B):if c then A else B:=by
 by_cases h:c
 ·rw [if_pos h]
  exact h1 h
 ·rw [if_neg h]
  exact h2 h
def aq (H H':Hp):Prop:=∀b o,H b=some o->H' b=some o
theorem aq.refl (H:Hp):aq H H:=fun _ _ h=>h
theorem aq.trans {H H1 H2:Hp} (a:aq H H1) (b:aq H1 H2):aq H H2:=fun c o h=>b c o (a c o h)
theorem aq.free {H H':Hp} (e:aq H H') {l:Addr} (h:H' l=Option.none):H l=Option.none:=by
 cases q:H l with
 | none=>rfl
 | some o =>
  rw [e l o q] at h
  cases h
theorem aq.seq {K:W.Frag}{H H':Hp}{a:Addr}{xs:List V} (e:aq H H') (h:SqL K H a xs):SqL K H' a xs:=by
 rcases h with (h | ⟨o,h⟩) | h
 ·exact .inl (.inl (e _ _ h))
 ·exact .inl (.inr ⟨o,e _ _ h⟩)
 ·exact .inr h
end L2
namespace L2
open PySem PySem.Spec PyProof.Rows
theorem lI {α β:Type}{l:List α}{f:α->β->Sem (ForInStep β)} (g:β->α->β) (c:β) (h:∀x ∈ l,∀c,f x c=pure (.yield (g c x))) :
  forIn l c f=pure (l.foldl g c):=by
 induction l generalizing c with
 | nil=>rfl
 | cons x l ih =>
  rw [List.forIn_cons,h x List.mem_cons_self,pure_bind]
  exact ih _ fun y hy=>h y (List.mem_cons_of_mem _ hy)
def dP (env:Env) (cs:List (Str × Addr)) (x:Str × NameKind):List (Str × Addr) :=
 if x.2 == .free then (x.1,(env.cells.lookup x.1).getD 0) :: cs else cs
def mZ (env:Env) (names:List (Str × NameKind)):List (Str × Addr):=names.foldl (dP env) []
theorem mq {scope:Scope}{env:Env} (h:∀x ∈ scope.names,x.2=.free->∃c,env.cells.lookup x.1=some c):closureFor scope env=pure (mZ env scope.names):=by
 simp only [closureFor]
 rw [lI (dP env) [] (fun x hx c=>by
  obtain ⟨n,kind⟩:=x
  cases hk:kind == NameKind.free with
  | false=>simp only [dP,hk,Bool.false_eq_true,if_false]
  | true =>
   obtain ⟨a,ha⟩:=h (n,kind) hx (by simpa using hk)
   have ha':env.cells.lookup n=some a:=ha
   simp only [dP,hk,if_true,cellOf,ha',Option.getD_some,pure_bind])]
 rfl
theorem nH {env:Env}:∀{names:List (Str × NameKind)}{cs:List (Str × Addr)}{n:Str}{c:Addr},(n,c) ∈ names.foldl (dP env) cs->(n,c) ∈ cs \/ ((n,NameKind.free) ∈ names/\c=(env.cells.lookup n).getD 0)
 | [],_,_,_,h=>.inl h
 | (m,k) :: r,cs,n,c,h=>by
  rcases nH (names:=r) (cs:=dP env cs (m,k)) h with h | ⟨h,e⟩
  ·unfold dP at h
   by_cases hk:(k == NameKind.free)=true
   ·rw [if_pos hk] at h
    rcases List.mem_cons.mp h with e | h
    ·cases e
     have hk':k=.free:=by simpa using hk
     subst hk'
     exact .inr ⟨List.mem_cons_self,rfl⟩
    ·exact .inl h
   ·rw [if_neg hk] at h
    exact .inl h
  ·exact .inr ⟨List.mem_cons_of_mem _ h,e⟩
theorem o4 {env:Env}{p:Str × Addr}:∀{names:List (Str × NameKind)}{cs:List (Str × Addr)},p ∈ cs->p ∈ names.foldl (dP env) cs
 | [],_,h=>h
 | x :: r,cs,h=>o4 (names:=r) (cs:=dP env cs x) (by
  unfold dP
  split
  ·exact List.mem_cons_of_mem _ h
  ·exact h)
theorem pG {env:Env}{n:Str}:∀{names:List (Str × NameKind)}{cs:List (Str × Addr)},(n,NameKind.free) ∈ names->(n,(env.cells.lookup n).getD 0) ∈ names.foldl (dP env) cs
 | x :: r,cs,h=>by
  rcases List.mem_cons.mp h with e | h
  ·subst e
   refine o4 (names:=r) (cs:=dP env cs (n,.free)) ?_
   unfold dP
   rw [if_pos (by rfl)]
   exact List.mem_cons_self
  ·exact pG (names:=r) h
theorem fU {α:Type}:∀{l:List (Str × α)}{n:Str}{c:α},(n,c) ∈ l->∃c',l.lookup n=some c'
 | (k,v) :: r,n,c,h=>by
  rw [List.lookup_cons]
  cases hb:n == k with
  | true=>exact ⟨v,rfl⟩
  | false =>
   rcases List.mem_cons.mp h with e | h
   ·cases e;simp at hb
   ·exact fU h
theorem eE:∀{names:List (Str × NameKind)}{k:Nat}{acc:List (Str × Addr)}{n:Str}{c:Addr},(n,c) ∈ cellsFrom k names acc->(n,c) ∈ acc \/ (k <= c/\(n,NameKind.cell) ∈ names)
 | [],_,_,_,_,h=>.inl h
 | (m,kd) :: r,k,acc,n,c,h=>by
  unfold cellsFrom at h
  by_cases hk:(kd == NameKind.cell)=true
  ·rw [if_pos hk] at h
   have hk':kd=.cell:=by simpa using hk
   subst hk'
   rcases eE (names:=r) h with h | ⟨h1,h2⟩
   ·rcases List.mem_cons.mp h with e | h
    ·cases e
     exact .inr ⟨Nat.le_refl _,List.mem_cons_self⟩
    ·exact .inl h
   ·exact .inr ⟨by omega,List.mem_cons_of_mem _ h2⟩
  ·rw [if_neg hk] at h
   rcases eE (names:=r) h with h | ⟨h1,h2⟩
   ·exact .inl h
   ·exact .inr ⟨h1,List.mem_cons_of_mem _ h2⟩
theorem gu:∀{names:List (Str × NameKind)}{k:Nat}{acc:List (Str × Addr)},(∀n c,(n,c) ∈ acc->c < k)->(∀n n' c,(n,c) ∈ acc->(n',c) ∈ acc->n=n') ->
  ∀{n n':Str}{c:Addr},(n,c) ∈ cellsFrom k names acc->(n',c) ∈ cellsFrom k names acc->n=n'
 | [],_,_,_,hi,_,_,_,h,h'=>hi _ _ _ h h'
 | (m,kd) :: r,k,acc,hl,hi,n,n',c,h,h'=>by
  unfold cellsFrom at h h'
  by_cases hk:(kd == NameKind.cell)=true
  ·rw [if_pos hk] at h h'
   refine gu (names:=r) (acc:=(m,k) :: acc) (fun a b hab=>?_) (fun a a' b ha ha'=>?_) h h'
   ·rcases List.mem_cons.mp hab with e | e
    ·cases e;exact Nat.lt_succ_self _
    ·exact Nat.lt_succ_of_lt (hl _ _ e)
   ·rcases List.mem_cons.mp ha with e | e <;> rcases List.mem_cons.mp ha' with e' | e'
    ·cases e;cases e';rfl
    ·cases e;exact absurd (hl _ _ e') (Nat.lt_irrefl _)
    ·cases e';exact absurd (hl _ _ e) (Nat.lt_irrefl _)
    ·exact hi _ _ _ e e'
  ·rw [if_neg hk] at h h'
   exact gu (names:=r) hl hi h h'
theorem fA:∀{names:List (Str × NameKind)}{h:Heap}{acc:List (Str × Addr)}{n:Str}{c:Addr},(n,c) ∈ cellsFrom h.objs.size names acc->(n,c) ∈ acc \/ (pushCells h names).IsCell c none
 | [],_,_,_,_,q=>.inl q
 | (m,kd) :: r,h,acc,n,c,q=>by
  unfold cellsFrom at q
  unfold pushCells
  by_cases hk:(kd == NameKind.cell)=true
  ·rw [if_pos hk] at q
   rw [if_pos hk]
   have e:h.objs.size + 1=(h.push { cls:=.type "cell",data:=.cell none }).objs.size:=(Heap.size_push ..).symm
   rw [e] at q
   rcases fA (names:=r) q with q | q
   ·rcases List.mem_cons.mp q with e' | q
    ·cases e'
     exact .inr ⟨_,pushCells_keeps r _ _ _ (Heap.get?_push_size _ rfl),rfl⟩
    ·exact .inl q
   ·exact .inr q
  ·rw [if_neg hk] at q
   rw [if_neg hk]
   exact fA (names:=r) q
theorem gC {x:Str}:∀{names:List (Str × NameKind)}{k:Nat}{acc:List (Str × Addr)},(x,NameKind.cell) ∉ names->(cellsFrom k names acc).lookup x=acc.lookup x
 | [],_,_,_=>rfl
 | (m,kd) :: r,k,acc,h=>by
  unfold cellsFrom
  have hr:(x,NameKind.cell) ∉ r:=fun z=>h (List.mem_cons_of_mem _ z)
  by_cases hk:(kd == NameKind.cell)=true
  ·have hk':kd=.cell:=by simpa using hk
   subst hk'
   rw [if_pos hk,gC hr,List.lookup_cons]
   have ne:(x == m)=false:=by
    cases hb:x == m with
    | false=>rfl
    | true=>exact absurd (by rw [beq_iff_eq.mp hb];exact List.mem_cons_self) h
   rw [ne]
  ·rw [if_neg hk]
   exact gC hr
section
variable {M:Model}{A:Around}{E:Value->Shared->Prop}{s:Shared}
theorem qq {scope:Scope}{globals:Addr}{cl:List (Str × Addr)}{qual:Str}{xA:Env}{Q:Env->Shared->Prop}
  (h:Q (newEnv scope s.heap.objs.size globals (cellsFrom (s.heap.objs.size + 1) scope.names cl) qual none .none (some xA) builtinsNs) { s with heap:=pushCells (s.heap.push { cls:=.type "dict",data:=.dict #[] }) scope.names }) :
  wpAny M A (newFunctionEnv scope globals cl [] qual none .none (some xA)) Q E s:=by
 simp only [newFunctionEnv,Option.isSome_some,if_true]
 refine wpAny_bind (wpAny_alloc ?_)
 refine wpAny_bind (wpAny_layCells _ (fun name kind cells=>by cases hkc:kind == NameKind.cell <;> simp [hkc]) _ _ _ _ ?_)
 rw [show ({ s with heap:=s.heap.push { cls:=.type "dict",data:=.dict #[] } }:Shared).heap.objs.size=s.heap.objs.size + 1 from Heap.size_push ..]
 refine wpAny_bind ?_
 rw [List.forIn_nil]
 exact wpAny_pure (wpAny_pure h)
end
structure CB where
 C:Addr
 ex:List Addr
 s:Shared
 H:Hp
def cxC (X:Cx) (N:List Str) (scope:Scope) (b:CB):Cx:={ X with
 N:=N
 s₀:=b.s
 H₀:=b.H
 env:=compEnvC scope (cellsFrom (b.C + 1) scope.names (mZ X.env scope.names)) b.C X.env
 outer:=X.stack
 ex:=b.ex
 fn:=fun x=>scope.names.lookup x == some .cell
 pn:=[]
 xe:=fun _ _=>False }
theorem i5 {env:Env}{x:Str}:∀{names:List (Str × NameKind)},
  (names.map fun (n,k)=>if (k == NameKind.free && env.scope.kind == .function && env.kindOf n == some .cell) then (n,NameKind.cell) else (n,k)).lookup x =
   (names.lookup x).map fun k=>if (k == NameKind.free && env.scope.kind == .function && env.kindOf x == some .cell) then NameKind.cell else k
 | []=>rfl
 | (n,k) :: r=>by
  have ih:=@i5 env x r
  show List.lookup x ((if (k == NameKind.free && env.scope.kind == .function && env.kindOf n == some .cell)=true then (n,NameKind.cell) else (n,k)) :: _)=_
  cases hx:x == n with
  | true =>
   have e:x=n:=beq_iff_eq.mp hx
   subst e
   by_cases hc:(k == NameKind.free && env.scope.kind == .function && env.kindOf x == some .cell)=true
   ·rw [if_pos hc];simp only [List.lookup_cons,hx,Option.map_some,hc,if_true]
   ·rw [if_neg hc];simp only [List.lookup_cons,hx,Option.map_some];rw [if_neg hc]
  | false =>
   by_cases hc:(k == NameKind.free && env.scope.kind == .function && env.kindOf n == some .cell)=true
   ·rw [if_pos hc];simp only [List.lookup_cons,hx];exact ih
   ·rw [if_neg hc];simp only [List.lookup_cons,hx];exact ih
structure cV (psc:Scope) (PN N:List Str) (own:Nat) (fr:List Nat) (scope:Scope):Prop where
 kind:scope.kind=.function
 nd:(scope.names.map (·.1)).Nodup
 free:∀x ∈ scope.names,x.2=.free->psc.names.lookup x.1=some .cell \/ psc.names.lookup x.1=some .free
 len:N.length=own + fr.length
 frn:∀i,i < fr.length->N[own + i]?=(fr[i]?).bind fun j=>PN[j]?
 frk:∀i,i < fr.length->∀y,N[own + i]?=some y->scope.names.lookup y=some .free
def uB (psc:Scope) (PN N:List Str) (own:Nat) (fr:List Nat) (scope:Scope):Bool :=
 scope.kind == .function && decide (scope.names.map (·.1)).Nodup && scope.names.all (fun x=>x.2 != .free || (psc.names.lookup x.1 == some .cell || psc.names.lookup x.1 == some .free)) &&
  (N.length == own + fr.length) && ((fr.map fun j=>PN[j]?) == (N.drop own).map some) && (N.drop own).all (fun y=>scope.names.lookup y == some .free)
theorem cV.of {psc:Scope}{PN N:List Str}{own:Nat}{fr:List Nat}{scope:Scope} (h:uB psc PN N own fr scope=true):cV psc PN N own fr scope:=by
 unfold uB at h
 simp only [Bool.and_eq_true] at h
 obtain ⟨⟨⟨⟨⟨h1,h2⟩,h3⟩,h4⟩,h5⟩,h6⟩:=h
 have h4':N.length=own + fr.length:=eq_of_beq h4
 have h5':(fr.map fun j=>PN[j]?)=(N.drop own).map some:=eq_of_beq h5
 have dr:∀i,N[own + i]?=(N.drop own)[i]?:=fun i=>by rw [List.getElem?_drop]
 refine ⟨eq_of_beq h1,of_decide_eq_true h2,fun x hx hk=>?_,h4',fun i hi=>?_,fun i hi y hy=>?_⟩
 ·have q:=List.all_eq_true.mp h3 x hx
  rw [hk] at q
  simpa using q
 ·have q:=congrArg (fun l=>l[i]?) h5'
  simp only [List.getElem?_map] at q
  rw [dr]
  have ej:fr[i]?=some fr[i]:=List.getElem?_eq_getElem hi
  rw [ej] at q ⊢
  cases e:(N.drop own)[i]? with
  | none=>rw [e] at q;cases q
  | some y =>
   rw [e] at q
   exact (Option.some.inj q).symm
 ·rw [dr] at hy
  have q:=List.all_eq_true.mp h6 y (List.mem_of_getElem? hy)
  simpa using q
def cSt (own:Nat) (fr:List Nat) (σ:St):St:=List.replicate own none ++ fr.map fun j=>(σ[j]?).getD none
theorem fm {α:Type}:∀{l:List (Str × α)}{n:Str}{k:α},(l.map (·.1)).Nodup->(n,k) ∈ l->l.lookup n=some k
 | (m,v) :: r,n,k,nd,h=>by
  rw [List.map_cons,List.nodup_cons] at nd
  rw [List.lookup_cons]
  rcases List.mem_cons.mp h with e | h
  ·cases e;simp
  ·have ne:(n == m)=false:=by
    cases hb:n == m with
    | false=>rfl
    | true=>exact absurd (List.mem_map.mpr ⟨(n,k),h,beq_iff_eq.mp hb⟩) nd.1
   rw [ne]
   exact fm nd.2 h
section
variable {X:Cx}{pins:List (Addr × Obj)}{σ:St}{H:Hp}{s:Shared}{N:List Str}{own:Nat}{fr:List Nat}{scope:Scope}
theorem cV.cells (S:cV X.env.scope X.N N own fr scope) (ok:X.Ok):∀x ∈ scope.names,x.2=.free->∃c,X.env.cells.lookup x.1=some c:=fun x hx hk =>
 ok.has x.1 (S.free x hx hk)
theorem cV.cl (S:cV X.env.scope X.N N own fr scope) (ok:X.Ok) {n:Str}{c:Addr} (h:(n,c) ∈ mZ X.env scope.names):X.env.cells.lookup n=some c:=by
 rcases nH h with h | ⟨h,e⟩
 ·cases h
 ·obtain ⟨c',e'⟩:=S.cells ok (n,.free) h rfl
  have e2:X.env.cells.lookup n=some c':=e'
  rw [e2] at e
  rw [e,e2]
  rfl
theorem xn {D C:Addr}{h':Heap}{fp:List Addr} (S:cV X.env.scope X.N N own fr scope) (I:Inv X pins σ H s) (hD:D=s.heap.objs.size) (hC:C=s.heap.objs.size + 1)
  (hh:h'=pushCells ((s.heap.push { cls:=.type "list",data:=.seq #[] }).push { cls:=.type "dict",data:=.dict #[] }) scope.names) (hfp:∀b ∈ fp,oK X pins H b) (hlt:∀b ∈ fp,b < s.heap.objs.size) :
  Inv (cxC X N scope ⟨C,fp,s,H⟩) [] (cSt own fr σ) (upd H D (.lst [])) { s with heap:=h' }:=by
 subst hD hC
 have eD:(s.heap.push { cls:=.type "list",data:=.seq #[] }).objs.size=s.heap.objs.size + 1:=Heap.size_push ..
 have eC:((s.heap.push { cls:=.type "list",data:=.seq #[] }).push { cls:=.type "dict",data:=.dict #[] }).objs.size=s.heap.objs.size + 2:=by rw [Heap.size_push,eD]
 have keep:∀b o,s.heap.get? b=some o->h'.get? b=some o:=fun b o e=>by
  rw [hh]
  exact pushCells_keeps _ _ _ _ (Heap.get?_push_of_some _ (Heap.get?_push_of_some _ e))
 have lst:h'.get? s.heap.objs.size=some { cls:=.type "list",data:=.seq #[] }:=by
  rw [hh]
  exact pushCells_keeps _ _ _ _ (Heap.get?_push_of_some _ (Heap.get?_push_size _ rfl))
 have dct:h'.get? (s.heap.objs.size + 1)=some { cls:=.type "dict",data:=.dict #[] }:=by
  rw [hh]
  refine pushCells_keeps _ _ _ _ ?_
  have:=Heap.get?_push_size (s.heap.push { cls:=.type "list",data:=.seq #[] }) (o:={ cls:=.type "dict",data:=.dict #[] }) rfl
  rw [eD] at this
  exact this
 have hnD:H s.heap.objs.size=none:=I.hok.fresh (Nat.le_refl _)
 have hnC:H (s.heap.objs.size + 1)=none:=I.hok.fresh (Nat.le_succ _)
 have inCl:∀{n:Str}{c:Addr},(n,c) ∈ mZ X.env scope.names->X.env.cells.lookup n=some c:=fun h=>S.cl I.ok h
 have clt:∀{n:Str}{c:Addr},X.env.cells.lookup n=some c->c < s.heap.objs.size:=fun h=>by
  obtain ⟨v,z⟩:=I.cell _ _ h
  exact z.lt
 have cases_:∀{n:Str}{c:Addr},(cellsFrom (s.heap.objs.size + 1 + 1) scope.names (mZ X.env scope.names)).lookup n=some c->X.env.cells.lookup n=some c \/ (s.heap.objs.size + 2 <= c/\(n,NameKind.cell) ∈ scope.names/\h'.IsCell c none):=fun {n c} h=>by
  have hm:=PySem.mem_of_lookup h
  have hcell:=hm
  rw [show s.heap.objs.size + 1 + 1=((s.heap.push { cls:=.type "list",data:=.seq #[] }).push { cls:=.type "dict",data:=.dict #[] }).objs.size from eC.symm] at hcell
  rcases eE hm with h1 | ⟨h1,h2⟩
  ·exact .inl (inCl h1)
  ·rcases fA hcell with h3 | h3
   ·exact .inl (inCl h3)
   ·exact .inr ⟨h1,h2,by rw [hh];exact h3⟩
 have kindOf:∀x,(cxC X N scope ⟨s.heap.objs.size + 1,fp,s,H⟩).env.kindOf x=(scope.names.lookup x).map fun k=>if (k == NameKind.free && X.env.scope.kind == .function && X.env.kindOf x == some .cell) then NameKind.cell else k:=fun x=>i5
 have hasName:∀x,((cxC X N scope ⟨s.heap.objs.size + 1,fp,s,H⟩).env.kindOf x=some .cell \/ (cxC X N scope ⟨s.heap.objs.size + 1,fp,s,H⟩).env.kindOf x=some .free)->∃c,(cellsFrom (s.heap.objs.size + 1 + 1) scope.names (mZ X.env scope.names)).lookup x=some c:=fun x hx=>by
  rw [kindOf] at hx
  have h2:scope.names.lookup x=some .cell \/ scope.names.lookup x=some .free:=by
   cases e:scope.names.lookup x with
   | none=>rw [e] at hx;rcases hx with z | z <;> cases z
   | some k =>
    rw [e] at hx
    by_cases hk:k=.free
    ·exact .inr (by rw [hk])
    ·have hk':(k == NameKind.free)=false:=by simpa using hk
     simp only [Option.map_some,hk',Bool.false_and,Bool.false_eq_true,if_false] at hx
     rcases hx with z | z
     ·exact .inl z
     ·exact .inr z
  rcases h2 with h2 | h2
  ·exact Option.isSome_iff_exists.mp (W.cellsFrom_some scope.names _ _ (.inl h2))
  ·obtain ⟨c,hc⟩:=fU (pG (env:=X.env) (cs:=[]) (PySem.mem_of_lookup h2))
   exact Option.isSome_iff_exists.mp (W.cellsFrom_some scope.names _ _ (.inr (by rw [show (mZ X.env scope.names).lookup x=some c from hc];rfl)))
 have cellAt:∀x c,(cellsFrom (s.heap.objs.size + 1 + 1) scope.names (mZ X.env scope.names)).lookup x=some c->∃v,h'.IsCell c v:=fun x c e=>by
  rcases cases_ e with q | ⟨_,_,q⟩
  ·obtain ⟨v,o,ho,hd⟩:=I.cell x c q
   exact ⟨v,o,keep c o ho,hd⟩
  ·exact ⟨none,q⟩
 refine ⟨⟨I.ok.mod,S.kind,I.ok.glob,I.ok.blt,Nat.le_succ _,fun y z c h1 h2=>?_,hasName,fun y c hy h=>?_,I.ok.hd,I.ok.frames,.inl rfl,fun b hb=>⟨?_,fun x c e z=>?_⟩,fun b o e=>I.bs b o e,Nat.le_trans I.ok.bsz I.sz,fun b o e hb=>?_,fun b hb hf=>?_,I.stack,I.uo⟩,
  rfl,I.bare,?_,⟨fun _=>none,⟨_,#[],_,dct,rfl,fun e he=>absurd he (by simp),fun _=>rfl⟩,fun i x v h1 h2 h3=>?_⟩,cellAt,?_,fun x c e=>?_,fun p hp=>absurd (show p ∈ ([]:List (Addr × Obj)) from hp) (by simp),?_,?_⟩
 ·
  refine gu (fun n c hm=>?_) (fun n n' c hm hm'=>I.ok.inj n n' c (inCl hm) (inCl hm')) (PySem.mem_of_lookup h1) (PySem.mem_of_lookup h2)
  exact Nat.lt_succ_of_lt (Nat.lt_succ_of_lt (clt (inCl hm)))
 ·
  have hy':scope.names.lookup y=some .cell:=by simpa using (show (scope.names.lookup y == some .cell)=true from hy)
  rcases cases_ h with q | ⟨q,_⟩
  ·rcases eE (PySem.mem_of_lookup h) with q2 | ⟨q2,_⟩
   ·rcases nH q2 with z | ⟨z,_⟩
    ·cases z
    ·have:=fm S.nd z
     rw [hy'] at this
     cases this
   ·exact Nat.le_trans (Nat.le_add_right _ 2) q2
  ·exact Nat.le_trans (Nat.le_add_right _ 2) q
 ·exact Nat.ne_of_lt (Nat.lt_succ_of_lt (hlt b hb))
 ·rcases cases_ e with q | ⟨q,_⟩
  ·exact (hfp b hb).2.2.2.2.1 x c q z
  ·have hb':=hlt b hb
   rw [<- z] at hb'
   exact absurd (Nat.lt_of_lt_of_le hb' (Nat.le_trans (Nat.le_add_right _ 2) q)) (Nat.lt_irrefl _)
 ·rcases (hfp b hb).2.2.2.1 with z | z
  ·exact I.ok.wX b o e z
  ·exact Nat.lt_irrefl _ (Nat.lt_of_lt_of_le (Heap.lt_size e) (Nat.le_trans I.ok.bsz z))
 ·rcases List.mem_cons.mp (I.sW b hf) with z | z
  ·exact (hfp b hb).2.1 z
  ·exact (hfp b hb).2.2.1 z
 ·exact Un.laid keep (Nat.le_refl _) hnD
 ·
  have h1:N[i]?=some x:=h1
  have hlen:i < N.length:=(List.getElem?_eq_some_iff.mp h1).1
  by_cases hi:i < own
  ·exfalso
   have h2':(cSt own fr σ)[i]?=some none:=by
    unfold cSt
    rw [List.getElem?_append_left (by simpa using hi),List.getElem?_replicate,if_pos hi]
   rw [h2'] at h2
   cases h2
  ·have hfi:i - own < fr.length:=by have:=S.len;omega
   have ei:own + (i - own)=i:=by omega
   have hk:=S.frk (i - own) hfi x (by rw [ei];exact h1)
   have hn:=S.frn (i - own) hfi
   rw [ei,h1] at hn
   have ej:fr[i - own]?=some fr[i - own]:=List.getElem?_eq_getElem hfi
   rw [ej] at hn
   have hn':X.N[fr[i - own]]?=some x:=hn.symm
   have h2':(cSt own fr σ)[i]?=some ((σ[fr[i - own]]?).getD none):=by
    unfold cSt
    rw [List.getElem?_append_right (by simpa using Nat.not_lt.mp hi),List.length_replicate,List.getElem?_map,ej]
    rfl
   rw [h2'] at h2
   have h2'':(σ[fr[i - own]]?).getD none=some v:=Option.some.inj h2
   have hσ:σ[fr[i - own]]?=some (some v):=by
    cases e:σ[fr[i - own]]? with
    | none=>rw [e] at h2'';cases h2''
    | some w=>rw [e] at h2'';exact congrArg some h2''
   obtain ⟨m,hm,hl⟩:=I.loc
   have hfree:=S.free (x,.free) (PySem.mem_of_lookup hk) rfl
   obtain ⟨u,r,l⟩:=hl _ x v hn' hσ (hfree.elim (fun z=>.inr (.inl z)) fun z=>.inr (.inr z))
   refine ⟨u,r,.inr ?_⟩
   have hcell:∃c,X.env.cells.lookup x=some c/\s.heap.IsCell c (some u):=by
    rcases l with ⟨l,_⟩ | ⟨_,c,e,z⟩
    ·exfalso
     rcases hfree with z | z
     ·have l':X.env.scope.names.lookup x=some .local:=l
      have z':X.env.scope.names.lookup x=some .cell:=z
      rw [l'] at z';cases z'
     ·have l':X.env.scope.names.lookup x=some .local:=l
      have z':X.env.scope.names.lookup x=some .free:=z
      rw [l'] at z';cases z'
    ·exact ⟨c,e,z⟩
   obtain ⟨c,e,o,ho,hd⟩:=hcell
   refine ⟨?_,c,?_,o,keep c o ho,hd⟩
   ·rw [kindOf,hk]
    by_cases z:(X.env.scope.kind == .function && X.env.kindOf x == some .cell)=true
    ·left
     simp only [Option.map_some,beq_self_eq_true,Bool.true_and,z,if_true]
    ·right
     simp only [Option.map_some,beq_self_eq_true,Bool.true_and]
     rw [if_neg z]
   ·show (cellsFrom (s.heap.objs.size + 1 + 1) scope.names (mZ X.env scope.names)).lookup x=some c
    rw [gC fun z=>by
     have:=fm S.nd z
     rw [hk] at this
     cases this]
    obtain ⟨c',hc'⟩:=fU (pG (env:=X.env) (cs:=[]) (PySem.mem_of_lookup hk))
    have hc2:(mZ X.env scope.names).lookup x=some c':=hc'
    rw [hc2]
    have:=inCl (PySem.mem_of_lookup hc2)
    rw [e] at this
    exact this.symm
 ·show upd H s.heap.objs.size (.lst []) (s.heap.objs.size + 1)=none
  rw [aw (Nat.ne_of_gt (Nat.lt_succ_self _))]
  exact hnC
 ·rcases cases_ e with q | ⟨q,_⟩
  ·have:=clt q
   rw [aw (Nat.ne_of_lt this)]
   exact I.jd x c q
  ·rw [aw (Nat.ne_of_gt (Nat.lt_of_lt_of_le (Nat.lt_add_of_pos_right (by decide)) q))]
   exact I.hok.fresh (Nat.le_trans (Nat.le_add_right _ 2) q)
 ·exact I.hok.laid keep (Nat.le_refl _) ⟨Nat.zero_le _,[],0,.nil,lst⟩
 ·show (cSt own fr σ).length=N.length
  unfold cSt
  rw [List.length_append,List.length_replicate,List.length_map,S.len]
end
def PF (X:Cx) (ifs:List Expr) (t:TT):Prop :=
 ∀(pins:List (Addr × Obj)) (s:Shared) (σ:St) (H:Hp) (Q:Bool->Hp->Prop),Inv X pins σ H s->t σ H Q ->
  wpAny (model X.prog X.w) X.A (forIn ifs true fun c r=>if r=true then do let ok <- isTrue c X.env (eval c X.env);pure (ForInStep.yield ok) else pure (ForInStep.yield r)) (TP X pins σ Q) X.xe s
def Bh:TT:=fun _ H Q=>Q true H
theorem sj {X:Cx}:PF X [] Bh:=fun _ _ _ H _ I h=>wpAny_tests_nil ⟨H,I,h⟩
theorem pP {X:Cx}{c:Expr}{t:TT} (h:PT X c t):PF X [c] t:=fun pins s σ H Q I hw=>wpAny_tests_one (h pins s σ H Q I hw)
theorem pF {prog:Program}{w:World}{A:Around}{R:Result->Shared->Prop}{s:Shared}{elt target iter:Expr}{ifs:List Expr}{scope:Scope}{pos:Pos}{it acc:Value}{env:Env} (I:Nat->Shared->Prop)
  (turn:∀n s,I n s->wpAny (model prog w) A (pyNext it) (fun r s₁=>match r with
   | none=>R (.ok .next) s₁
   | some v=>wpAny (model prog w) A (letOwnedTupleGo target it v) (fun _ s₁'=>wpAny (model prog w) A (assign target env v) (fun _ s₂ =>
     wpAny (model prog w) A (forIn ifs true fun c r=>if r=true then do let ok <- isTrue c env (eval c env);pure (ForInStep.yield ok) else pure (ForInStep.yield r)) (fun ok s₃ =>
      if ok=true then wpAny (model prog w) A (eval elt env) (fun x s₄ =>
       wpAny (model prog w) A (call (.builtin "list.append") [acc,x]) (fun _ s₅=>∃m,m < n/\I m s₅) (fun _ _=>False) s₄) (fun _ _=>False) s₃
      else ∃m,m < n/\I m s₃) (fun _ _=>False) s₂) (fun _ _=>False) s₁') (fun _ _=>False) s₁) (fun _ _=>False) s)
  (n:Nat) (h:I n s) :
  codeAny (model prog w) A (.compLoop (.ListComp elt [⟨target,iter,ifs,0⟩] scope pos) 0 it acc env) R s:=by
 refine codeAny_loop rfl I (fun n s hI=>?_) n h
 show wpAny _ A ((compTurn (.ListComp elt [⟨target,iter,ifs,0⟩] scope pos) 0 it acc env).onRaise (fun x=>do noteFrame x env;theTreesLotGoes x)) _ _ s
 refine wpAny_noted ?_
 rw [compTurn_list]
 have no:∀{α:Type}{t:Sem α}{Q:α->Shared->Prop}{E':Value->Shared->Prop}{s':Shared},wpAny (model prog w) A t Q (fun _ _=>False) s'->wpAny (model prog w) A t Q E' s':=fun h=>wpAny_mono h (fun _ _ q=>q) fun _ _ z=>z.elim
 refine wpAny_bind (wpAny_standAt (wpAny_bind (no (wpAny_mono (turn n s hI) (fun r s₁ h₁=>?_) fun _ _ h'=>h'))))
 cases r with
 | none=>exact wpAny_pure h₁
 | some v =>
  refine wpAny_bind (no (wpAny_mono h₁ (fun _ s₁' h₁'=>?_) fun _ _ h'=>h'))
  refine wpAny_bind (no (wpAny_mono h₁' (fun _ s₂ h₂=>wpAny_bind (no (wpAny_mono h₂ (fun ok s₃ h₃=>?_) fun _ _ h'=>h'))) fun _ _ h'=>h'))
  cases ok with
  | false=>exact wpAny_pure ⟨rfl,h₃⟩
  | true =>
   exact wpAny_bind (wpAny_bind (no (wpAny_mono h₃ (fun x s₄ h₄=>wpAny_bind (no (wpAny_mono h₄ (fun _ s₅ h₅=>wpAny_pure (wpAny_pure ⟨rfl,h₅⟩)) fun _ _ h'=>h'))) fun _ _ h'=>h')))
structure lF (J:It) (own:Nat) (fr:List Nat) (g:CB->TG) (tf:CB->TT) (te:CB->TE) (Q:VK) (σ:St) (H1:Hp):Prop where
 go:∀(b:CB) (D:Addr),H1 D=none->∃W:Nat->Nat->St->Hp->Prop,(∃m,W 0 m (cSt own fr σ) (upd H1 D (.lst [])))/\∀i m σ' H',W i m σ' H' ->
  (J.stop i H'/\Q (.ref D) H') \/ (J.go i H'/\∃M:St->Hp->Prop,(∀σ2 H2,M σ2 H2->∃m',m' < m/\W (i + 1) m' σ2 H2)/\∀x H2,J.yld i H' x H2->g b x σ' H2 fun σ3 H3=>tf b σ3 H3 fun k H4 =>
   if k=true then te b σ3 H4 fun y H5=>∃ys,H5 D=some (.lst ys)/\ys.length < sizeLine/\M σ3 (upd H5 D (.lst (ys ++ [y]))) else M σ3 H4)
def xI (wi:TI) (own:Nat) (fr:List Nat) (g:CB->TG) (tf:CB->TT) (te:CB->TE):TE:=fun σ H Q=>wi σ H fun J H1=>lF J own fr g tf te Q σ H1
section
variable {X:Cx}{tg iter elt:Expr}{ifs:List Expr}{scope:Scope}{pos:Pos}{N:List Str}{own:Nat}{fr:List Nat}{wi:TI}{g:CB->TG}{tf:CB->TT}{te:CB->TE}
theorem qv {use:Option (Value->Sem Unit)}{R:Value->Shared->Prop}{pins:List (Addr × Obj)}{s:Shared}{σ:St}{H:Hp}{Q:VK} (S:cV X.env.scope X.N N own fr scope) (hc:X.calm=true) (hi:PI X tg iter wi)
  (hg:∀b,PG (cxC X N scope b) tg (g b)) (hf:∀b,PF (cxC X N scope b) ifs (tf b)) (he:∀b,PE (cxC X N scope b) elt (te b)) (hs:∀x,foldedSetIterable iter X.env x=pure x) (I:Inv X pins σ H s) (h:xI wi own fr g tf te σ H Q)
  (fin:∀(D C:Addr) (oC:Obj) (m:Str->Option Value) (H':Hp) (s':Shared),Inv X (pins ++ [(C,oC)]) σ H' s'->X.s₀.heap.objs.size <= C->(∀p ∈ X.pn ++ pins,p.1 ≠ C)->(∀h':Heap,h'.get? C=some oC->h'.Ns C m)->Q (.ref D) H'->compPost (model X.prog X.w) X.A X.xe use R (.ref D) C (.ok .next) s') :
  wpAny (model X.prog X.w) X.A (comprehension (.ListComp elt [⟨tg,iter,ifs,0⟩] scope pos) scope X.env (firstIterPos [⟨tg,iter,ifs,0⟩] pos) (newList []) false (eval iter X.env) use) R X.xe s:=by
 refine wpAny_comprehension_free rfl hs (mq (S.cells I.ok)) S.kind (fun x hx hk=>?_) (thn (hi pins s σ H _ I h) fun v s1 h1=>thn h1 fun itv s2 h2=>?_)
 ·have:=fm S.nd (show (x.1,x.2) ∈ scope.names from hx)
  rw [this,hk]
 obtain ⟨it,fp,tn,J,H2,e,I2,T,st2,f2,q⟩:=h2
 subst e
 refine wpAny_newObj_type ?_
 refine qq ?_
 have eD:(s2.heap.push { cls:=.type "list",data:=.seq #[] }).objs.size=s2.heap.objs.size + 1:=Heap.size_push ..
 have hD:H2 s2.heap.objs.size=none:=I2.hok.fresh (Nat.le_refl _)
 have hlt:∀b ∈ fp,b < s2.heap.objs.size:=fun b hb=>by
  obtain ⟨o,ho,_⟩:=T.obj 0 _ st2 b hb
  exact Heap.lt_size ho
 obtain ⟨W,⟨m0,w0⟩,turn⟩:=q.go ⟨s2.heap.objs.size + 1,fp,s2,H2⟩ s2.heap.objs.size hD
 have IX:=xn (fp:=fp) S I2 rfl rfl rfl f2 hlt
 have st4:tn 0 (pushCells ((s2.heap.push { cls:=.type "list",data:=.seq #[] }).push { cls:=.type "dict",data:=.dict #[] }) scope.names) :=
  T.keep 0 _ _ st2 fun b _ o e=>pushCells_keeps _ _ _ _ (Heap.get?_push_of_some _ (Heap.get?_push_of_some _ e))
 have fr0:∀b ∈ fp,upd H2 s2.heap.objs.size (.lst []) b=none:=fun b hb=>by
  rw [aw (Nat.ne_of_lt (hlt b hb))]
  exact (f2 b hb).1
 have cne:∀b ∈ fp,∀x c,(cxC X N scope ⟨s2.heap.objs.size + 1,fp,s2,H2⟩).env.cells.lookup x=some c->c ≠ b:=fun b hb=>((IX.ok.exf b hb).2)
 have stat:∀{H':Hp},(∀b ∈ fp,H' b=none)->∀b ∈ fp,oK (cxC X N scope ⟨s2.heap.objs.size + 1,fp,s2,H2⟩) [] H' b:=fun hn b hb =>
  ⟨hn b hb,(IX.ok.exf b hb).1,IX.ok.xw b hb,.inl hb,cne b hb,fun p hp=>absurd (show p ∈ ([]:List (Addr × Obj)) from hp) (by simp)⟩
 have e4:∀cenv:Env,cenv=newEnv scope (s2.heap.push { cls:=.type "list",data:=.seq #[] }).objs.size X.env.globals (cellsFrom ((s2.heap.push { cls:=.type "list",data:=.seq #[] }).objs.size + 1) scope.names (mZ X.env scope.names)) X.env.qual none .none (some X.env) builtinsNs ->
   ({ cenv with scope:=relabel scope X.env }:Env)=(cxC X N scope ⟨s2.heap.objs.size + 1,fp,s2,H2⟩).env/\cenv.locals=s2.heap.objs.size + 1:=fun cenv e=>by
  subst e
  rw [eD]
  exact ⟨rfl,rfl⟩
 obtain ⟨e5,e6⟩:=e4 _ rfl
 have loop:codeAny (model X.prog X.w) X.A (.compLoop (.ListComp elt [⟨tg,iter,ifs,0⟩] scope pos) 0 (.ref it) (.ref s2.heap.objs.size) (cxC X N scope ⟨s2.heap.objs.size + 1,fp,s2,H2⟩).env)
   (compPost (model X.prog X.w) X.A X.xe use R (.ref s2.heap.objs.size) (s2.heap.objs.size + 1)) { s2 with heap:=pushCells ((s2.heap.push { cls:=.type "list",data:=.seq #[] }).push { cls:=.type "dict",data:=.dict #[] }) scope.names }:=by
  refine pF (fun n s'=>∃i σ' H',Inv (cxC X N scope ⟨s2.heap.objs.size + 1,fp,s2,H2⟩) [] σ' H' s'/\tn i s'.heap/\(∀b ∈ fp,H' b=none)/\W i n σ' H') ?_ m0 ⟨0,_,_,IX,st4,fr0,w0⟩
  rintro n s5 ⟨i,σ5,H5,I5,st5,fr5,w5⟩
  rcases turn i n σ5 H5 w5 with ⟨stop,qn⟩ | ⟨go,M,hM,step⟩
  ·refine thn (T.done (cxC X N scope ⟨s2.heap.objs.size + 1,fp,s2,H2⟩) rfl rfl rfl hc i [] s5 σ5 H5 (fun _ _=>False) I5 (stat fr5) st5 stop) fun r s6 ⟨hr,I6⟩=>?_
   subst hr
   obtain ⟨m,hn,_⟩:=I6.loc
   obtain ⟨oC,es,ep,hoC,hd,hk,hm⟩:=id hn
   have IB:Inv X pins σ H5 s6:=I2.Bd (ch:=fp) I6.os I6.base I6.hok I6.bare fun b hb=>⟨(f2 b hb).2.2.2.1,(f2 b hb).2.1,(f2 b hb).2.2.2.2.1,(f2 b hb).2.2.2.2.2⟩
   have young:s2.heap.objs.size <= s2.heap.objs.size + 1:=Nat.le_succ _
   refine fin s2.heap.objs.size (s2.heap.objs.size + 1) oC m H5 s6 (IB.pI fun p hp=>?_) (Nat.le_trans I2.sz young) (fun p hp=>Nat.ne_of_lt (Nat.lt_of_lt_of_le (Heap.lt_size (I2.pin p hp).1) young)) (fun h' e=>⟨oC,es,ep,e,hd,hk,hm⟩) qn
   rcases List.mem_append.mp hp with z | z
   ·exact IB.pin p (List.mem_append_right _ z)
   ·have ep':p=(s2.heap.objs.size + 1,oC):=by simpa using z
    subst ep'
    exact ⟨hoC,I6.free,Nat.ne_of_gt (Nat.lt_of_lt_of_le I2.lt young),I2.BA young,fun v z=>by rw [hd] at z;cases z⟩
  ·refine thn (T.item (cxC X N scope ⟨s2.heap.objs.size + 1,fp,s2,H2⟩) rfl rfl rfl hc i [] s5 σ5 H5 (fun _ _=>False) I5 (stat fr5) st5 go) fun r s6 ⟨u,hr,h6⟩=>?_
   subst hr
   refine thn h6 fun _ s7 ⟨x,H7,I7,r7,y7,st7,fr7⟩=>?_
   have I7':=I7.pinned (stat fr7) (T.obj _ _ st7)
   refine thn (hg _ _ s7 σ5 H7 x u _ I7' r7 (step x H7 y7)) fun _ s8 ⟨σ8,H8,I8,q8⟩=>?_
   refine thn (hf _ _ s8 σ8 H8 _ I8 q8) fun k s9 ⟨H9,I9,q9⟩=>?_
   have again:∀{H10:Hp}{s10:Shared},Inv (cxC X N scope ⟨s2.heap.objs.size + 1,fp,s2,H2⟩) ([] ++ mY fp s7.heap) σ8 H10 s10->M σ8 H10 ->
     ∃m,m < n/\∃i σ' H',Inv (cxC X N scope ⟨s2.heap.objs.size + 1,fp,s2,H2⟩) [] σ' H' s10/\tn i s10.heap/\(∀b ∈ fp,H' b=none)/\W i m σ' H':=fun {H10 s10} I10 q10=>by
    obtain ⟨m',hm,w10⟩:=hM σ8 H10 q10
    refine ⟨m',hm,i + 1,σ8,H10,I10.i7,T.keep _ _ _ st7 fun b hb o e=>(I10.pin (b,o) (List.mem_append_right _ (List.mem_append_right _ (h9 hb e)))).1,fun b hb=>?_,w10⟩
    obtain ⟨o,e,d⟩:=T.obj _ _ st7 b hb
    exact (I10.pin (b,o) (List.mem_append_right _ (List.mem_append_right _ (h9 hb e)))).2.1
   cases k with
   | false=>exact again I9 q9
   | true =>
    refine thn (he _ _ s9 σ8 H9 _ I9 q9) fun w10 s10 ⟨y,H10,I10,r10,ys,hys,hz,q10⟩=>?_
    refine thn (pe _ s10 σ8 H10 (.ref s2.heap.objs.size) [y] (.ref s2.heap.objs.size) [w10] (fun _ H'=>M σ8 H') I10 rfl (.cons r10 .nil) ⟨_,ys,y,rfl,rfl,hys,hz,q10⟩) fun _ s11 ⟨_,H11,I11,_,q11⟩=>?_
    exact again I11 q11
 have go:codeAny (model X.prog X.w) X.A (.compStart (.ListComp elt [⟨tg,iter,ifs,0⟩] scope pos) 0 (.ref it) (.ref s2.heap.objs.size) (cxC X N scope ⟨s2.heap.objs.size + 1,fp,s2,H2⟩).env)
   (compPost (model X.prog X.w) X.A X.xe use R (.ref s2.heap.objs.size) (s2.heap.objs.size + 1)) { s2 with heap:=pushCells ((s2.heap.push { cls:=.type "list",data:=.seq #[] }).push { cls:=.type "dict",data:=.dict #[] }) scope.names } :=
  codeAny_compStart_list loop (T.self _ 0 _ _ _ st4 loop)
 have fin2:∀(env':Env) (L:Addr),env'=(cxC X N scope ⟨s2.heap.objs.size + 1,fp,s2,H2⟩).env->L=s2.heap.objs.size + 1 ->
   codeAny (model X.prog X.w) X.A (.compStart (.ListComp elt [⟨tg,iter,ifs,0⟩] scope pos) 0 (.ref it) (.ref s2.heap.objs.size) env') (compPost (model X.prog X.w) X.A X.xe use R (.ref s2.heap.objs.size) L)
    { s2 with heap:=pushCells ((s2.heap.push { cls:=.type "list",data:=.seq #[] }).push { cls:=.type "dict",data:=.dict #[] }) scope.names }:=by
  intro env' L h1 h2
  subst h1 h2
  exact go
 exact fin2 _ _ e5 e6
theorem pq {pins:List (Addr × Obj)}{C:Addr}{oC:Obj}{σ':St}{H':Hp}{s':Shared}{h':Heap} (I:Inv X (pins ++ [(C,oC)]) σ' H' s') (hy:X.s₀.heap.objs.size <= C) (hp:∀p ∈ X.pn ++ pins,p.1 ≠ C) (sb:Heap.SameBut C s'.heap h') :
  Inv X pins σ' H' { s' with heap:=h' }:=by
 have pC:=I.pin (C,oC) (List.mem_append_right _ (List.mem_append_right _ (by simp)))
 have I2:Inv X pins σ' H' s':=I.i7
 refine I2.turned (it:=C) (t':=s'.toks) (fun b o hb e=>(sb.2 b hb).trans e) pC.2.1 pC.2.2.1 (.inr hy) (fun x c e z=>?_) hp
 obtain ⟨v,o,ho,hd⟩:=I2.cell x c e
 rw [z,pC.1] at ho
 cases ho
 exact pC.2.2.2.2 v hd
theorem mF (S:cV X.env.scope X.N N own fr scope) (hc:X.calm=true) (hi:PI X tg iter wi) (hg:∀b,PG (cxC X N scope b) tg (g b)) (hf:∀b,PF (cxC X N scope b) ifs (tf b)) (he:∀b,PE (cxC X N scope b) elt (te b))
  (hs:∀x,foldedSetIterable iter X.env x=pure x:=by intro _;rfl):PE X (.ListComp elt [⟨tg,iter,ifs,0⟩] scope pos) (xI wi own fr g tf te):=by
 intro pins s σ H Q I h
 rw [eval_ListComp]
 refine qv (use:=none) S hc hi hg hf he hs I h fun D C oC m H' s' I' hy hp hm q=>?_
 have pC:=I'.pin (C,oC) (List.mem_append_right _ (List.mem_append_right _ (by simp)))
 exact ⟨m,hm _ pC.1,fun h' sb=>⟨.ref D,H',pq I' hy hp sb,rfl,q⟩⟩
theorem kf {j:Nat}{y:Str}{py spos:Pos} (S:cV X.env.scope X.N N own fr scope) (hc:X.calm=true) (hN:X.N.Nodup) (hj:X.N[j]?=some y) (hy:Loc X.env.scope y) (hi:PI X tg iter wi) (hg:∀b,PG (cxC X N scope b) tg (g b)) (hf:∀b,PF (cxC X N scope b) ifs (tf b))
  (he:∀b,PE (cxC X N scope b) elt (te b)) (hfn:X.fn y=true \/ X.env.scope.names.lookup y=some .local:=by first | exact .inl rfl | exact .inr rfl | assumption) (hs:∀x,foldedSetIterable iter X.env x=pure x:=by intro _;rfl)
  (hsw:swapsWith (.ListComp elt [⟨tg,iter,ifs,0⟩] scope pos) (some (.Name y py)) spos.line X.env=pure true:=by rfl) :
  PS X (.Assign [.Name y py] (.ListComp elt [⟨tg,iter,ifs,0⟩] scope pos) spos) (Ai (xI wi own fr g tf te) (kO j)):=by
 intro pins s σ H D I h
 rw [exec_Assign_Name_used _ _ _ _ hsw]
 refine wpAny_bind (wpAny_standAt (wpAny_bind ?_))
 show wpAny _ _ (do let _ <- comprehension (.ListComp elt [⟨tg,iter,ifs,0⟩] scope pos) scope X.env _ (newList []) false (eval iter X.env) (some (assign (.Name y py) X.env))) _ _ s
 refine wpAny_bind (thn (qv (use:=some (assign (.Name y py) X.env)) (R:=fun _ s'=>SP X pins D .next s') S hc hi hg hf he hs I h fun D' C oC m H' s' I' hy' hp hm q=>?_) fun _ s' q=>wpAny_pure (wpAny_pure q))
 show wpAny _ _ (assign (.Name y py) X.env (.ref D')) _ _ s'
 refine thn (tB hN hj hy hfn _ s' σ H' (.ref D') (.ref D') _ I' rfl q) fun _ s'' ⟨σ2,H2,I2,q2⟩=>?_
 have pC:=I2.pin (C,oC) (List.mem_append_right _ (List.mem_append_right _ (by simp)))
 exact ⟨m,hm _ pC.1,fun h' sb=>⟨σ2,H2,pq I2 hy' hp sb,q2⟩⟩
end
end L2
namespace L2
open PySem PySem.Spec PyProof.Rows
theorem PE.imp {X:Cx}{e:Expr}{t t':TE} (h:PE X e t) (k:∀σ H Q,t' σ H Q->t σ H Q):PE X e t':=fun pins s σ H Q I q=>h pins s σ H Q I (k σ H Q q)
theorem OpR.imp {X:Cx}{f:Value->Value->Sem Value}{r r':R2} (h:OpR X f r) (k:∀x y H Q,r' x y H Q->r x y H Q):OpR X f r':=fun pins s σ H x y v u Q I rx ry q=>h pins s σ H x y v u Q I rx ry (k x y H Q q)
def Cm (i:Nat):TE:=fun σ H Q=>match σ[i]? with
 | some (some v)=>Q v H
 | _=>False
section
variable {X:Cx}
theorem fv (i:Nat) {x:Str}{pos:Pos} (hN:X.N[i]?=some x:=by rfl) (hv:Vis X.env.scope x:=by first | exact Or.inl rfl | exact Or.inr (Or.inl rfl) | exact Or.inr (Or.inr rfl)) (hd:(x == ("__debug__":Str))=false:=by decide)
  (hcd:(x == ("__classdict__":Str))=false:=by decide):PE X (.Name x pos) (Cm i):=(As hN hv hd hcd).imp fun σ H Q q=>by
 unfold Cm at q
 cases e:σ[i]? with
 | none=>rw [e] at q;exact q.elim
 | some o =>
  cases o with
  | none=>rw [e] at q;exact q.elim
  | some v=>rw [e] at q;exact ⟨v,e,q⟩
def C6:R2:=fun x y H Q=>match x,y with
 | .int i,.int j=>Q (.int (i + j)) H
 | .str a,.str b=>a.length + b.length <= sizeLine/\Q (.str (a ++ b)) H
 | .ref p,.ref q=>Bp (.ref p) (.ref q) H Q
 | _,_=>False
theorem bp:OpR X (binaryOp .Add) C6:=by
 intro pins s σ H x y v u Q I rx ry h
 cases x with
 | int i =>
  cases y with
  | int j=>exact z6 pins s σ H _ _ v u Q I rx ry ⟨i,j,rfl,rfl,h⟩
  | _=>exact (show False from h).elim
 | str a =>
  cases y with
  | str b=>exact sv pins s σ H _ _ v u Q I rx ry ⟨a,b,rfl,rfl,h.1,h.2⟩
  | _=>exact (show False from h).elim
 | ref p =>
  cases y with
  | ref q=>exact zZ pins s σ H _ _ v u Q I rx ry h
  | _=>exact (show False from h).elim
 | _=>cases y <;> exact (show False from h).elim
def mi (C:Int->Int->Prop) (g:Int->Int->V):R2:=fun x y H Q=>match x,y with
 | .int i,.int j=>C i j/\Q (g i j) H
 | _,_=>False
def iz (g:Int->Int->V):R2:=fun x y H Q=>match x,y with
 | .int i,.int j=>Q (g i j) H
 | _,_=>False
theorem OpR.mi {f:Value->Value->Sem Value}{C:Int->Int->Prop}{g:Int->Int->V} (h:OpR X f (rI C g)):OpR X f (mi C g):=h.imp fun x y H Q q=>by
 cases x with
 | int i =>
  cases y with
  | int j=>exact ⟨i,j,rfl,rfl,q.1,q.2⟩
  | _=>exact (show False from q).elim
 | _=>cases y <;> exact (show False from q).elim
theorem OpR.iz {f:Value->Value->Sem Value}{g:Int->Int->V} (h:OpR X f (rI0 g)):OpR X f (iz g):=h.imp fun x y H Q q=>by
 cases x with
 | int i =>
  cases y with
  | int j=>exact ⟨i,j,rfl,rfl,q⟩
  | _=>exact (show False from q).elim
 | _=>cases y <;> exact (show False from q).elim
theorem mL:OpR X (binaryOp .Sub) (iz fun i j=>.int (i - j)):=zW.iz
theorem BR:OpR X (binaryOp .Mult) (mi wY fun i j=>.int (i * j)):=zx.mi
def zb (_ j:Int):Prop:=0 < j/\j < 2 ^ 64
theorem yZ {j:Int} (h:zb 0 j):j.natAbs.log2 < 9000:=by
 have h1:j.natAbs < 2 ^ 64:=by
  have h2:j < 2 ^ 64:=h.2
  have h3:0 < j:=h.1
  omega
 have h0:j.natAbs ≠ 0:=by have h3:0 < j:=h.1;omega
 have:=(Nat.log2_lt h0).mpr h1
 omega
theorem dz:OpR X (binaryOp .FloorDiv) (mi zb fun i j=>.int (i / j)):=(opI fun i j _ _ _ _ _ hc q=>by
 have h1:(0:Int) < j:=hc.1
 exact floordiv_int (by omega) (by rw [Int.fdiv_eq_ediv_of_nonneg i (by omega)];exact q) (.inl (PyProof.noPylong_of_log2 (yZ hc)))).mi
theorem cC:OpR X (binaryOp .Mod) (mi (fun _ j=>0 < j) fun i j=>.int (i % j)):=zI.mi
theorem tU:OpR X (binaryOp .Pow) (mi BV fun i j=>.int (i ^ j.toNat)):=zQ.mi
theorem uH:OpR X (compareOp .Lt) (iz fun i j=>.bl (decide (i < j))):=By.iz
theorem Am:OpR X (compareOp .LtE) (iz fun i j=>.bl (decide (i <= j))):=BJ.iz
theorem ou:OpR X (compareOp .Gt) (iz fun i j=>.bl (decide (j < i))):=BE.iz
theorem Dc:OpR X (compareOp .GtE) (iz fun i j=>.bl (decide (j <= i))):=BQ.iz
mutual
inductive iL (K:W.Frag) (H:Hp):V->PyData->Prop where
 | non:iL K H .non .none
 | bl (b:Bool):iL K H (.bl b) (.bool b)
 | int (i:Int):iL K H (.int i) (.int i)
 | str (x:Str):iL K H (.str x) (.str x)
 | lst {a:Addr}{xs:List V}{ds:List PyData} (h:SqL K H a xs) (r:hG K H xs ds):iL K H (.ref a) (.list ds)
 | tup {a:Addr}{xs:List V}{ds:List PyData} (h:SqT K H a xs) (r:hG K H xs ds):iL K H (.ref a) (.tuple ds)
inductive hG (K:W.Frag) (H:Hp):List V->List PyData->Prop where
 | nil:hG K H [] []
 | cons {x:V}{xs:List V}{d:PyData}{ds:List PyData} (h:iL K H x d) (r:hG K H xs ds):hG K H (x :: xs) (d :: ds)
end
mutual
theorem Inv.reads {pins:List (Addr × Obj)}{σ:St}{H:Hp}{s:Shared} (I:Inv X pins σ H s):∀{x:V}{d:PyData}{u:Value},iL X.K H x d->RelV x u->∃as,Reads s.heap u d as
 | _,_,_,.non,r=>by cases r;exact ⟨_,.none⟩
 | _,_,_,.bl b,r=>by cases r;exact ⟨_,.bool b⟩
 | _,_,_,.int i,r=>by obtain ⟨t,rfl⟩:=r;exact ⟨_,.int i t⟩
 | _,_,_,.str x,r=>by obtain ⟨t,rfl⟩:=r;exact ⟨_,.str x t⟩
 | _,_,_,.lst h q,r=>by
  cases r
  obtain ⟨its,rv,⟨o,n,e,hc,_,hd⟩,_⟩:=I.list h
  obtain ⟨as,z⟩:=I.readsAll q rv
  exact ⟨_,.list e hc hd (by simpa using z)⟩
 | _,_,_,.tup h q,r=>by
  cases r
  obtain ⟨its,rv,⟨o,e,hc,n,hd⟩,_⟩:=I.tuple h
  obtain ⟨as,z⟩:=I.readsAll q rv
  exact ⟨_,.tuple e hc hd (by simpa using z)⟩
theorem Inv.readsAll {pins:List (Addr × Obj)}{σ:St}{H:Hp}{s:Shared} (I:Inv X pins σ H s):∀{xs:List V}{ds:List PyData}{us:List Value},hG X.K H xs ds->Vals xs us->∃as,ReadsAll s.heap us ds as
 | _,_,_,.nil,r=>by cases r;exact ⟨_,.nil⟩
 | _,_,_,.cons h q,r=>by
  cases r with
  | cons r1 r2 =>
   obtain ⟨as,z⟩:=I.reads h r1
   obtain ⟨bs,z2⟩:=I.readsAll q r2
   exact ⟨_,.cons z z2⟩
end
def fEq (K:W.Frag):R2:=fun x y H Q=>match x,y with
 | .ref p,.ref q=>∃d e,iL K H (.ref p) d/\iL K H (.ref q) e/\SeqAt.shaped d=true/\SeqAt.shaped e=true/\Q (.bl (PyData.eqv d e)) H
 | x,y=>vi x y=true/\Q (.bl (decide (x=y))) H
def fNe (K:W.Frag):R2:=fun x y H Q=>match x,y with
 | .ref p,.ref q=>∃d e,iL K H (.ref p) d/\iL K H (.ref q) e/\SeqAt.shaped d=true/\SeqAt.shaped e=true/\Q (.bl (!PyData.eqv d e)) H
 | x,y=>vi x y=true/\Q (.bl (!decide (x=y))) H
theorem CS (hu:X.A.units + 64 < cLine):OpR X (compareOp .Eq) (fEq X.K):=by
 intro pins s σ H x y v u Q I rx ry h
 by_cases hr:∃p q,x=V.ref p/\y=V.ref q
 ·obtain ⟨p,q,rfl,rfl⟩:=hr
  obtain ⟨d,e,hd,he,sd,se,hq⟩:=h
  obtain ⟨as,z1⟩:=I.reads hd rx
  obtain ⟨bs,z2⟩:=I.reads he ry
  exact eq_dataH z1 z2 sd se hu ⟨.bl _,H,I,rfl,hq⟩
 ·refine Co pins s σ H x y v u Q I rx ry ?_
  cases x <;> cases y <;> first | exact h | exact absurd ⟨_,_,rfl,rfl⟩ hr
theorem wL (hu:X.A.units + 64 < cLine):OpR X (compareOp .NotEq) (fNe X.K):=by
 intro pins s σ H x y v u Q I rx ry h
 by_cases hr:∃p q,x=V.ref p/\y=V.ref q
 ·obtain ⟨p,q,rfl,rfl⟩:=hr
  obtain ⟨d,e,hd,he,sd,se,hq⟩:=h
  obtain ⟨as,z1⟩:=I.reads hd rx
  obtain ⟨bs,z2⟩:=I.reads he ry
  exact ne_dataH z1 z2 sd se hu ⟨.bl _,H,I,rfl,hq⟩
 ·refine Bi pins s σ H x y v u Q I rx ry ?_
  cases x <;> cases y <;> first | exact h | exact absurd ⟨_,_,rfl,rfl⟩ hr
def fIn (K:W.Frag) (neg:Bool):R2:=fun x y H Q=>match y with
 | .str j=>∃i,x=.str i/\Q (.bl (if neg then !(!(Builtin.Str.occurrences j i 0 j.length 1).isEmpty) else !(Builtin.Str.occurrences j i 0 j.length 1).isEmpty)) H
 | .ref p=>∃xs,(SqL K H p xs \/ SqT K H p xs)/\j6 x=true/\xs.all j6=true/\Q (.bl (if neg then !inV x xs else inV x xs)) H
 | _=>False
theorem CM:OpR X (compareOp .In) (fIn X.K false):=by
 intro pins s σ H x y v u Q I rx ry h
 cases y with
 | str j =>
  obtain ⟨i,rfl,q⟩:=h
  exact uQ pins s σ H _ _ v u Q I rx ry ⟨i,j,rfl,rfl,q⟩
 | ref p =>
  obtain ⟨xs,h1,h2,h3,q⟩:=h
  exact vh pins s σ H _ _ v u Q I rx ry ⟨p,xs,rfl,h1,h2,h3,q⟩
 | _=>exact (show False from h).elim
theorem A7:OpR X (compareOp .Is) (fun x y H Q=>y=.non/\Q (.bl (decide (x=.non))) H):=AB
def fIx (K:W.Frag):R2:=fun x y H Q=>match x,y with
 | .ref p,.int i=>∃xs v,(SqL K H p xs \/ SqT K H p xs)/\atI xs i=some v/\Q v H
 | .str z,.int i=>∃c,z.length <= sizeLine/\atI z.cps.toList i=some c/\Q (.str ⟨#[c]⟩) H
 | _,_=>False
theorem xu:IxR X (fIx X.K):=by
 intro value slice pins s σ H x y v u Q I rx ry h hs
 cases x with
 | ref p =>
  cases y with
  | int i =>
   obtain ⟨xs,w,h1 | h1,h2,q⟩:=h
   ·exact yT value slice pins s σ H _ _ v u Q I rx ry ⟨p,xs,i,w,rfl,rfl,h1,h2,q⟩ hs
   ·exact AK value slice pins s σ H _ _ v u Q I rx ry ⟨p,xs,i,w,rfl,rfl,h1,h2,q⟩ hs
  | _=>exact (show False from h).elim
 | str z =>
  cases y with
  | int i =>
   obtain ⟨c,h1,h2,q⟩:=h
   exact Ab value slice pins s σ H _ _ v u Q I rx ry ⟨z,i,c,rfl,rfl,h1,h2,q⟩ hs
  | _=>exact (show False from h).elim
 | _=>cases y <;> exact (show False from h).elim
def C0:V->Option Int->Option Int->Hp->VK->Prop:=fun x lo hi H Q=>∃z,x=.str z/\z.length <= sizeLine/\Q (.str (Txt.slice z lo hi)) H
def Its (x:Str):It:=⟨fun i _=>i < x.cps.size,fun i H v H'=>H'=H/\∃c,x.cps[i]?=some c/\v=.str ⟨#[c]⟩,fun i _=>x.cps.size <= i⟩
theorem vI {P:Program}{w:World}{K:PySem.W.Frag}{tg:Expr}{T:String} (hT:T="str_ascii_iterator" \/ T="str_iterator") (it:Addr) (x:Str) (t:Tok):Turn P w K tg (Its x) [it] it (fun i h=>i <= x.cps.size/\h.IsStrIter it T x t i) where
 mem:=by simp
 obj:=fun i h st b hb=>by
  have e:b=it:=by simpa using hb
  subst e
  obtain ⟨_,o,e,c,d⟩:=st
  exact ⟨o,e,fun v z=>by rw [d] at z;cases z⟩
 keep:=fun i h h' st k=>by
  obtain ⟨hi,o,e,r⟩:=st
  exact ⟨hi,o,k it (by simp) o e,r⟩
 item:=by
  intro X hP hw hK hc i pins s σ H E I hf st hg
  subst hP hw hK
  obtain ⟨f0,f1,f2,f3,f4,f5⟩:=hf it (by simp)
  have W:Walks X.prog X.w X.A it [it] [it] x.cps.size (SignAt x) (fun i h=>h.IsStrIter it T x t i):=by
   rcases hT with rfl | rfl
   ·exact Walks.strAscii (I.ok.hd hc) it x t
   ·exact Walks.strWide (I.ok.hd hc) it x t
  refine W.item i s _ _ hg st.2 fun v h' tk hv st' kk=>?_
  obtain ⟨c,u,hcp,rfl⟩:=hv
  have I1:Inv X pins σ H { s with heap:=h',toks:=tk }:=I.turned (fun b o hb e=>kk b o (by simpa using hb) e) f0 f1 f3 f4 f5
  obtain ⟨o,e,c',d⟩:=id st'
  refine ⟨_,rfl,tw (s:={ s with heap:=h',toks:=tk }) e c' d (by rcases hT with rfl | rfl <;> decide) ⟨.str ⟨#[c]⟩,H,I1,⟨u,rfl⟩,⟨rfl,c,hcp,rfl⟩,⟨hg,st'⟩,fun b hb=>(hf b hb).1⟩⟩
 done:=by
  intro X hP hw hK hc i pins s σ H E I hf st hg
  subst hP hw hK
  obtain ⟨f0,f1,f2,f3,f4,f5⟩:=hf it (by simp)
  have W:Walks X.prog X.w X.A it [it] [it] x.cps.size (SignAt x) (fun i h=>h.IsStrIter it T x t i):=by
   rcases hT with rfl | rfl
   ·exact Walks.strAscii (I.ok.hd hc) it x t
   ·exact Walks.strWide (I.ok.hd hc) it x t
  have e:i=x.cps.size:=Nat.le_antisymm st.1 hg
  subst e
  exact W.done s _ _ st.2 fun h' tk kk=>⟨rfl,I.turned (fun b o hb e=>kk b o (by simpa using hb) e) f0 f1 f3 f4 f5⟩
 self:=fun A i s Q E st h=>by
  rcases hT with rfl | rfl
  ·exact wpAny_pyIter_striter_ascii st.2 h
  ·exact wpAny_pyIter_striter_wide st.2 h
def C8 (K:W.Frag) (tl:TE):TI:=fun σ H R=>tl σ H fun x H1=>match x with
 | .ref a=>((∃xs,SqL K H1 a xs)/\R (Itl K a) H1) \/ ((∃xs,SqT K H1 a xs)/\R (Itt K a) H1)
 | .str z=>R (Its z) H1
 | _=>False
theorem dG {tg l:Expr}{tl:TE} (hl:PE X l tl):PI X tg l (C8 X.K tl):=by
 intro pins s σ H R I h
 refine thn (hl pins s σ H _ I h) fun v s1 ⟨x,H1,I1,r1,q1⟩=>?_
 cases x with
 | ref a =>
  cases r1
  rcases q1 with ⟨⟨xs,hq⟩,q⟩ | ⟨⟨xs,hq⟩,q⟩
  ·obtain ⟨its,rv,p,hz⟩:=I1.list hq
   refine wpAny_pyIter_list p.isList ?_
   refine ⟨s1.heap.objs.size,[s1.heap.objs.size],_,_,H1,rfl,I1.kept (t':=s1.toks) fun b o e=>Heap.get?_push_of_some _ e,vE a _,⟨_,Heap.get?_push_size _ rfl,rfl,rfl⟩,fun b hb=>?_,q⟩
   have e:b=s1.heap.objs.size:=by simpa using hb
   subst e
   exact I1.u7 (Nat.le_refl _) (I1.hok.fresh (Nat.le_refl _))
  ·obtain ⟨its,rv,p,hz⟩:=I1.tuple hq
   refine wpAny_pyIter_tuple (show s1.heap.IsTuple a its.toArray from p) ?_
   refine ⟨s1.heap.objs.size,[s1.heap.objs.size],_,_,H1,rfl,I1.kept (t':=s1.toks) fun b o e=>Heap.get?_push_of_some _ e,tj a _,⟨_,Heap.get?_push_size _ rfl,rfl,rfl⟩,fun b hb=>?_,q⟩
   have e:b=s1.heap.objs.size:=by simpa using hb
   subst e
   exact I1.u7 (Nat.le_refl _) (I1.hok.fresh (Nat.le_refl _))
 | str z =>
  obtain ⟨t,rfl⟩:=r1
  refine wpAny_pyIter_strU ?_
  refine ⟨s1.heap.objs.size,[s1.heap.objs.size],_,_,H1,rfl,I1.kept (t':=s1.toks) fun b o e=>Heap.get?_push_of_some _ e,vI (T:=strIterType z) ?_ _ z t,⟨Nat.zero_le _,_,Heap.get?_push_size _ rfl,rfl,rfl⟩,fun b hb=>?_,q1⟩
  ·unfold strIterType
   split
   ·exact .inl rfl
   ·exact .inr rfl
  ·have e:b=s1.heap.objs.size:=by simpa using hb
   subst e
   exact I1.u7 (Nat.le_refl _) (I1.hok.fresh (Nat.le_refl _))
 | _=>exact (show False from q1).elim
theorem cK {a:Expr}{ta:TE} (ha:PE X a ta) (he:∀whole,isTrue a X.env whole=(do let v <- whole;standAt a.pos;holding [v] (truthy v))) :
  PT X a (fun σ H Q=>ta σ H fun x H'=>∃k,ym X.K x H' k/\Q k H'):=xH ha he
theorem yI {a:Expr}{ta:TE}{pos:Pos} (ha:PE X a ta):PE X (.UnaryOp .Not a pos) (fun σ H Q=>ta σ H fun x H1=>∃k,ym X.K x H1 k/\Q (.bl (!k)) H1):=by
 intro pins s σ H Q I h
 refine UnaryOp_ (thn (ha pins s σ H _ I h) fun v s1 ⟨x,H1,I1,r1,q1⟩=>?_)
 obtain ⟨k,ht,q⟩:=q1
 exact not_of (thn (wm pins s1 σ H1 x v (fun b H2=>Q (.bl (!b)) H2) I1 r1 ⟨k,ht,q⟩) fun b s2 ⟨H2,I2,q2⟩=>⟨.bl (!b),H2,I2,rfl,q2⟩)
theorem BG:dg X (.builtin "len") (fun xs H Q=>∃x n,xs=[x]/\zP X.K x H n/\Q (.int n) H):=wA
theorem gB:dg X (.type "list") (fun xs H Q=>∃p ys,xs=[.ref p]/\(SqL X.K H p ys \/ SqT X.K H p ys)/\∀l,H l=none->Q (.ref l) (upd H l (.lst ys))):=qd
theorem uN {bs:List Bool}{its:List Value} (r:Vals (bs.map V.bl) its) {i:Nat}{v:Value} (h:its[i]?=some v):∃b,bs[i]?=some b/\v=.bool b:=by
 have hi:i < its.length:=(List.getElem?_eq_some_iff.mp h).1
 have hl:=r.length
 rw [List.length_map] at hl
 have hb:bs[i]?=some bs[i]:=List.getElem?_eq_getElem (by omega)
 obtain ⟨u,hu,ru⟩:=r.get (i:=i) (x:=V.bl bs[i]) (by rw [List.getElem?_map,hb];rfl)
 rw [h] at hu
 cases hu
 exact ⟨_,hb,ru⟩
theorem Bz (hc:X.calm=true:=by rfl):dg X (.builtin "all") (fun xs H Q=>∃(p:Addr) (bs:List Bool),xs=[.ref p]/\SqL X.K H p (bs.map V.bl)/\Q (.bl (bs.all id)) H):=by
 intro pins s σ H xs us Q I r h
 obtain ⟨p,bs,rfl,hq,q⟩:=h
 obtain ⟨u,rfl,rx⟩:=vals1 r
 cases rx
 obtain ⟨its,rv,pl,hz⟩:=I.list hq
 have hl:=pl.isList
 have hlt:p < s.heap.objs.size:=by obtain ⟨_,e,_⟩:=hl;exact Heap.lt_size e
 have hlen:its.toArray.size=bs.length:=by have:=rv.length;rw [List.length_map] at this;rw [List.size_toArray];omega
 refine call_all_walk (wpAny_pyIter_list hl ?_)
 refine ⟨s.heap.objs.size,[s.heap.objs.size,p],[s.heap.objs.size],its.toArray.size,_,_,fun i=>(bs[i]?).getD true,rfl,Walks.list (A:=X.A.in1) (I.ok.hd hc) _ p (Nat.ne_of_lt hlt) its.toArray,
  ⟨⟨_,Heap.get?_push_size _ rfl,rfl,rfl⟩,hl.push _⟩,fun i v s' Q' E' hP hQ=>?_,fun h' tk hk=>?_⟩
 ·obtain ⟨b,e,rfl⟩:=uN rv (by simpa using hP)
  simp only [e,Option.getD_some] at hQ
  exact wpAny_truthy_bool hQ
 ·rw [hlen,LSm.range_all bs]
  exact ⟨.bl _,H,I.kept (LSm.kept_iter hk),rfl,q⟩
def ya:V->Value
 | .ty n=>.type n
 | .ref a=>.ref a
 | _=>.none
theorem wK {y:V}{u:Value} (r:RelV y u) (h:ya y ≠ .none):u=ya y:=by
 cases y with
 | ty n=>exact r
 | ref a=>exact r
 | _=>exact absurd rfl h
theorem cW:dg X (.builtin "isinstance") (fun xs H Q=>∃x y t b,xs=[x,y]/\ya y ≠ .none/\kx X.K H x t/\W.kitOne X.K t (ya y)=some b/\Q (.bl b) H):=by
 intro pins s σ H xs us Q I r h
 obtain ⟨x,y,t,b,rfl,hy,ty,e,q⟩:=h
 obtain ⟨u,w',rfl,rx,ry⟩:=vals2 r
 rw [wK ry hy]
 exact u6 I rx ty e fun tk=>⟨.bl b,H,I.tok _,rfl,q⟩
theorem bW {o e:Expr}{to:TE}{t:TA}{apos cpos:Pos} (ho:PE X o to) (ha:PA X [e] t) (hbase:attributeBase o "append" X.env (eval o X.env)=eval o X.env:=by rfl)
  (hfew:((backTo cpos (starEach [e] X.env)).all (fun x=>!x.1) && (backToKw cpos (keywordEach [] X.env)).all (fun x=>x.1.isSome)
   && decide ([e].length + ([]:List Keyword).length + (if ([]:List Keyword).isEmpty then 0 else 1) < 30))=true:=by rfl)
  (hline:(apos.endLine == cpos.line)=true:=by rfl) (hs:starEach [e] X.env=(false,eval e X.env) :: starEach [] X.env:=by rfl) (hplain:(backTo cpos (starEach [] X.env)).any (·.1)=false:=by rfl) :
  PE X (.Call (.Attribute o "append" apos) [e] [] cpos) (tBM X.K "list" uD to t):=xi PySem.F.plainAttrs_list PySem.F.slot_list_append PySem.F.type_list_append pe ho ha hbase hfew hline hs hplain
end
def Has (P:Program) (w:World) (K:W.Frag) (mg:Str->Option Value) (base:Heap) (k:Nat) (x:Str) (ps:List Str) (sp:Sp):Prop :=
 ∃f fd,kT P w K mg base CX0 k f fd ps sp/\Binds K fd ps []/\W.keepIn K (.ref f)=true/\mg x=some (.ref f)/\∃oc od osl,K.lookup f=some ⟨oc,od,.func fd,osl⟩
structure b8 (K:W.Frag) (mg:Str->Option Value) (x:Str) (st:Stmt) (ps:List Str):Prop where
 ex:∃f fd,Fun K x x st f fd/\Binds K fd ps []/\mg x=some (.ref f)
theorem au {X:Cx}{j k:Nat}{x:Str}{ps:List Str}{sp:Sp}{e:Expr}{es:List Expr}{t:TA}{p pos:Pos} (D:Has X.prog X.w X.K X.mg X.base j x ps sp) (hr:d4 k X.A) (ha:PA X (e :: es) t) (hj:j <= k:=by decide) (hg:Gl X x:=by rfl)
  (hdb:(x == ("__debug__":Str))=false:=by decide) (he:starEach (e :: es) X.env=(false,eval e X.env) :: starEach es X.env:=by rfl) (hpl:(backTo pos (starEach es X.env)).any (·.1)=false:=by rfl) :
  PE X (.Call (.Name x p) (e :: es) [] pos) (xX sp [] E0 t):=by
 obtain ⟨f,fd,F,b,kp,m,_⟩:=D
 exact yl F (hr.mono hj) hg m kp b .nil wb ha hdb he hpl
theorem b8.has {P:Program}{w:World}{K:W.Frag}{mg:Str->Option Value}{base:Heap}{x:Str}{st:Stmt}{N ps:List Str}{k:Nat}{sp:Sp} (F:b8 K mg x st ps) (S:aK N ps (av st)) (len:∀vs H Q E,sp vs H Q E->vs.length=ps.length)
  (hbody:∀(f:Addr) (cdv:Value) (A:Around) (outer:List Env) (s:Shared) (H:Hp) (vs:List V) (Q:VK) (E:XK),d4 k (A.deeper (envOfC x (av st) s.heap.objs.size f cdv))->(A.deeper (envOfC x (av st) s.heap.objs.size f cdv)).units + 64 < cLine->sp vs H Q E ->
   ∃t,PSs (qo CX0 P w K mg base N x (av st) f cdv A outer s H E).nox (cG st) t/\t { nx:=fun _ H'=>Q .non H',rt:=Q } (start N vs) H):Has P w K mg base (k + 1) x ps sp:=by
 obtain ⟨f,fd,F,b,m⟩:=F.ex
 obtain ⟨oc,od,kV,doc,pm,an,cdv,ct,osl,e,lk,hcd⟩:=F.ex
 exact ⟨f,fd,F.ok S len fun cdv A outer s H vs Q E hr h=>hbody f cdv A outer s H vs Q E hr hr.units h,b,F.kp,m,oc,od,osl,lk⟩
end L2
namespace L2
open PySem PySem.Spec PyProof.Rows
theorem aq.upd {H:Hp}{p:Addr} (h:H p=none) (o:HO):aq H (upd H p o):=fun b u q=>by rw [aw (eB q h)];exact q
theorem aq.tup {K:W.Frag}{H H':Hp}{a:Addr}{xs:List V} (e:aq H H') (h:SqT K H a xs):SqT K H' a xs:=by
 rcases h with (h | ⟨o,h⟩) | h
 ·exact .inl (.inl (e _ _ h))
 ·exact .inl (.inr ⟨o,e _ _ h⟩)
 ·exact .inr h
mutual
theorem aq.rep {K:W.Frag}{H H':Hp} (e:aq H H'):∀{x:V}{d:PyData},iL K H x d->iL K H' x d
 | _,_,.non=>.non
 | _,_,.bl b=>.bl b
 | _,_,.int i=>.int i
 | _,_,.str x=>.str x
 | _,_,.lst h r=>.lst (e.seq h) (e.sL r)
 | _,_,.tup h r=>.tup (e.tup h) (e.sL r)
theorem aq.sL {K:W.Frag}{H H':Hp} (e:aq H H'):∀{xs:List V}{ds:List PyData},hG K H xs ds->hG K H' xs ds
 | _,_,.nil=>.nil
 | _,_,.cons h r=>.cons (e.rep h) (e.sL r)
end
def cFr (fr:List Nat) (σ:St):St:=fr.map fun j=>(σ[j]?).getD none
theorem nG {J:It}{n:Nat}{x:Nat->V}{fr:List Nat}{tf:CB->TT}{te:CB->TE}{Q:VK}{σ:St}{H1:Hp} (p:Nat->Bool) (f:Nat->V) (hn:n < sizeLine)
  (stop:∀H,aq H1 H->J.stop n H) (go:∀i H,i < n->aq H1 H->J.go i H) (yld:∀i H v H',i < n->aq H1 H->J.yld i H v H'->H'=H/\v=x i)
  (hf:∀b i H (R:Bool->Hp->Prop),i < n->aq H1 H->(∀H',aq H H'->R (p i) H')->tf b (some (x i) :: cFr fr σ) H R)
  (he:∀b i H (R:VK),i < n->p i=true->aq H1 H->(∀H',aq H H'->R (f i) H')->te b (some (x i) :: cFr fr σ) H R)
  (fin:∀D H,H1 D=none->aq H1 H->H D=some (.lst (((List.range n).filter p).map f))->Q (.ref D) H):lF J 1 fr (fun _=>kO 0) tf te Q σ H1:=by
 refine ⟨fun b D hD=>?_⟩
 have lenf:∀i,(((List.range i).filter p).map f).length <= i:=fun i=>by
  rw [List.length_map]
  exact Nat.le_trans (List.length_filter_le _ _) (Nat.le_of_eq List.length_range)
 refine ⟨fun i m σ' H'=>m=n - i/\i <= n/\(∃v0,σ'=v0 :: cFr fr σ)/\aq H1 H'/\H' D=some (.lst (((List.range i).filter p).map f)),⟨n,rfl,Nat.zero_le _,⟨none,rfl⟩,aq.upd hD _,ak⟩,?_⟩
 rintro i m σ' H' ⟨rfl,hi,⟨v0,rfl⟩,sm,hl⟩
 by_cases hlt:i < n
 ·refine .inr ⟨go i H' hlt sm,fun σ2 H2=>(∃v0,σ2=v0 :: cFr fr σ)/\aq H1 H2/\H2 D=some (.lst (((List.range (i + 1)).filter p).map f)),fun σ2 H2 q=>⟨n - (i + 1),by omega,rfl,hlt,q⟩,fun v H2 y=>?_⟩
  obtain ⟨rfl,rfl⟩:=yld i H' v H2 hlt sm y
  show tf b (some (x i) :: cFr fr σ) _ _
  refine hf b i _ _ hlt sm fun H3 s3=>?_
  have e1:(List.range (i + 1)).filter p=(List.range i).filter p ++ (if p i then [i] else []):=by
   rw [List.range_succ,List.filter_append]
   congr 1
   cases hp:p i <;> simp [hp]
  cases hp:p i with
  | false =>
   rw [if_neg Bool.false_ne_true]
   refine ⟨⟨_,rfl⟩,sm.trans s3,?_⟩
   rw [s3 _ _ hl,e1,hp]
   simp
  | true =>
   rw [if_pos rfl]
   refine he b i _ _ hlt hp (sm.trans s3) fun H4 s4=>⟨_,s4 _ _ (s3 _ _ hl),?_,⟨_,rfl⟩,?_,?_⟩
   ·exact Nat.lt_of_le_of_lt (lenf i) (Nat.lt_trans hlt hn)
   ·have sm4:aq H1 H4:=sm.trans (s3.trans s4)
    intro c o q
    by_cases hc:c=D
    ·rw [hc,hD] at q;cases q
    ·rw [aw hc];exact sm4 c o q
   ·rw [ak,e1,hp]
    simp
 ·have e:i=n:=by omega
  subst e
  exact .inl ⟨stop H' sm,fin D H' hD sm hl⟩
theorem map_range {α:Type}{β:Type} (xs:List α) (d:α) (f:α->β):(List.range xs.length).map (fun i=>f (xs.getD i d))=xs.map f:=by
 apply List.ext_getElem?
 intro i
 rw [List.getElem?_map,List.getElem?_map]
 by_cases h:i < xs.length
 ·rw [List.getElem?_range h,List.getElem?_eq_getElem h]
  simp [List.getD,List.getElem?_eq_getElem h]
 ·rw [List.getElem?_eq_none (by simpa using h),List.getElem?_eq_none (by simpa using h)]
  rfl
theorem kL {α:Type}{β:Type} (p:α->Bool) (f:α->β) (d:α):∀(xs:List α),((List.range xs.length).filter fun i=>p (xs.getD i d)).map (fun i=>f (xs.getD i d))=(xs.filter p).map f:=by
 intro xs
 have e:=map_range xs d id
 have e2:xs=(List.range xs.length).map fun i=>xs.getD i d:=by simpa using e.symm
 have e3:xs.filter p=((List.range xs.length).filter fun i=>p (xs.getD i d)).map fun i=>xs.getD i d:=by
  conv=>lhs;rw [e2]
  rw [List.filter_map]
  rfl
 rw [e3,List.map_map]
 rfl
theorem k7 {K:W.Frag}{a:Addr}{xs:List V}{fr:List Nat}{tf:CB->TT}{te:CB->TE}{Q:VK}{σ:St}{H1:Hp} (p:V->Bool) (f:V->V) (hx:SqL K H1 a xs) (hn:xs.length < sizeLine)
  (hf:∀b x H (R:Bool->Hp->Prop),x ∈ xs->aq H1 H->(∀H',aq H H'->R (p x) H')->tf b (some x :: cFr fr σ) H R)
  (he:∀b x H (R:VK),x ∈ xs->p x=true->aq H1 H->(∀H',aq H H'->R (f x) H')->te b (some x :: cFr fr σ) H R)
  (fin:∀D H,H1 D=none->aq H1 H->H D=some (.lst ((xs.filter p).map f))->Q (.ref D) H):lF (Itl K a) 1 fr (fun _=>kO 0) tf te Q σ H1:=by
 have mem:∀i,i < xs.length->xs.getD i .non ∈ xs:=fun i h=>by
  rw [List.getD_eq_getElem?_getD,List.getElem?_eq_getElem h]
  exact List.getElem_mem h
 refine nG (x:=fun i=>xs.getD i .non) (fun i=>p (xs.getD i .non)) (fun i=>f (xs.getD i .non)) hn (fun H s=>⟨xs,s.seq hx,Nat.le_refl _⟩) (fun i H h s=>⟨xs,xs[i],s.seq hx,List.getElem?_eq_getElem h⟩)
  (fun i H v H' h s y=>⟨y.1,?_⟩) (fun b i H R h s k=>hf b _ H R (mem i h) s k) (fun b i H R h hp s k=>he b _ H R (mem i h) hp s k) fun D H hD s e=>fin D H hD s ?_
 ·have:=y.2 xs (s.seq hx)
  rw [List.getD_eq_getElem?_getD,this]
  rfl
 ·rw [e,kL p f]
section
variable {X:Cx}
def AR (K:W.Frag):V->Option Int->Option Int->Hp->VK->Prop:=fun x lo hi H Q=>zC K x lo hi H Q \/ Aw K x lo hi H Q
theorem zM:SlR X (AR X.K):=yg.or Ao
end
theorem wk {α:Type} (f:α->V) (xs:List α) (lo hi:Option Int):eZ (xs.map f) lo hi=((xs.drop (HT.sIx xs.length 0 lo)).take (HT.sIx xs.length xs.length hi - HT.sIx xs.length 0 lo)).map f:=by
 unfold eZ
 rw [List.length_map,List.map_take,List.map_drop]
theorem vM {K:W.Frag}{mg:Str->Option Value}{h:Heap}{x:Str}{st:Stmt}{ps:List Str}{f:Addr}{oc:Value}{od an:Option Addr}{osl:Array (Option Value)}{kV doc pm cdv ct:Value} (X:K.In h) (G:h.Ns mainGlobals mg)
  (a:W.nsIn K mainGlobals x=some (some (.ref f))) (l:K.lookup f=some ⟨oc,od,.func (W.fnOf x x (da st) (cG st) (av st) .none kV doc pm an cdv ct),osl⟩) (c:W.codeIn K cdv x=true) (k:W.keepIn K (.ref f)=true)
  (hb:∀(kV doc pm:Value) (an:Option Addr) (cdv ct:Value) (us:List Value),us.length=ps.length->bindArgs (W.fnOf x x (da st) (cG st) (av st) .none kV doc pm an cdv ct) ⟨us,[]⟩=pure (ps.zip us)):b8 K mg x st ps :=
 ⟨f,_,pV l c k,(pV l c k).binds hb,W.mg_of X G a⟩
theorem AL {P:Program}{w:World}{K:W.Frag}{mg:Str->Option Value}{base:Heap}{k:Nat}{x:Str}{ps:List Str}{sp:Sp}{f:Addr}{oc:Value}{od:Option Addr}{osl:Array (Option Value)}{fd:FuncData} (D:Has P w K mg base k x ps sp) (m:mg x=some (.ref f))
  (l:K.lookup f=some ⟨oc,od,.func fd,osl⟩):kT P w K mg base CX0 k f fd ps sp:=by
 obtain ⟨g,gd,F,b,kp,mg',_,_,_,l'⟩:=id D
 rw [m] at mg'
 cases mg'
 rw [l] at l'
 cases l'
 exact F
end L2
namespace L2
open PySem PySem.Spec PyProof.Rows
section
variable {prog:Program}{w:World}{A:Around}{R:Result->Shared->Prop}{I l:Addr}{its:Array Value}{ns:List Int}{St:Nat->Heap->Prop}{fp wr:List Addr}{d:Value}
end
section
variable {X:Cx}
end
end L2
namespace L2
open PySem PySem.Spec PyProof.Rows
section
variable {X:Cx}
theorem AM:SlR X C0:=by
 intro pins s σ H x v vl vu lo hi sl Q I rx hs pl pu h
 obtain ⟨z,rfl,hz,q⟩:=h
 obtain ⟨t,rfl⟩:=rx
 have fin:∀t' k,EP X pins σ Q (.str (Txt.slice z lo hi) t') { s with toks:=k }:=fun t' k=>⟨.str _,H,I.tok _,⟨_,rfl⟩,q⟩
 have len:=Nat.le_trans (Txt.slice_le z lo hi) hz
 obtain ⟨o,ho,hc,hd⟩:=hs
 refine ⟨"str",_,PySem.F.slot_str_getitem.lookup,typeIs_str _ _ _,?_⟩
 cases pl with
 | none =>
  cases pu with
  | none=>exact wpAny_getItem_str_slice (l:=Option.none) (u:=Option.none) (st:=Option.none) ⟨o,ho,hc,hd⟩ rfl (post_val_or_str ⟨len,fun t' k=>fin t' k⟩)
  | int j uj=>exact wpAny_getItem_str_slice (l:=Option.none) (u:=some (j,uj)) (st:=Option.none) ⟨o,ho,hc,hd⟩ rfl (post_val_or_str ⟨len,fun t' k=>fin t' k⟩)
 | int i ui =>
  cases pu with
  | none=>exact wpAny_getItem_str_slice (l:=some (i,ui)) (u:=Option.none) (st:=Option.none) ⟨o,ho,hc,hd⟩ rfl (post_val_or_str ⟨len,fun t' k=>fin t' k⟩)
  | int j uj=>exact wpAny_getItem_str_slice (l:=some (i,ui)) (u:=some (j,uj)) (st:=Option.none) ⟨o,ho,hc,hd⟩ rfl (post_val_or_str ⟨len,fun t' k=>fin t' k⟩)
def fSl (K:W.Frag):V->Option Int->Option Int->Hp->VK->Prop:=fun x lo hi H Q=>match x with
 | .str z=>z.length <= sizeLine/\Q (.str (Txt.slice z lo hi)) H
 | x=>zC K x lo hi H Q \/ Aw K x lo hi H Q
theorem dj:SlR X (fSl X.K):=by
 intro pins s σ H x v vl vu lo hi sl Q I rx hs pl pu h
 by_cases hx:∃z,x=.str z
 ·obtain ⟨z,rfl⟩:=hx
  exact AM pins s σ H _ v vl vu lo hi sl Q I rx hs pl pu ⟨z,rfl,h.1,h.2⟩
 ·refine zM pins s σ H x v vl vu lo hi sl Q I rx hs pl pu ?_
  cases x <;> first | exact h | exact absurd ⟨_,rfl⟩ hx
theorem wq (hc:X.calm=true:=by rfl):dg X (.builtin "max") (fun xs H Q=>∃i j,xs=[.int i,.int j]/\Q (.int (if j > i then j else i)) H):=uS hc
end
end L2
namespace L2
open PySem PySem.Spec PyProof.Rows
section
variable {X:Cx}{tg:Expr}
theorem jB {x:Str}{pos:Pos}{a:Addr} (h:X.mg x=some (.ref a)) (hg:Gl X x:=by rfl) (hd:(x == ("__debug__":Str))=false:=by decide):PE X (.Name x pos) (tC (.ref a)):=yy hg h rfl hd
end
end L2
namespace L2
open PySem PySem.Spec PyProof.Rows
end L2
namespace L2
open PySem PySem.Spec PyProof.Rows
theorem qH {J:It}{n:Nat}{x:Nat->V}{fr:List Nat}{te:CB->TE}{Q:VK}{σ:St}{H1:Hp} (R:Nat->V->Hp->Prop) (hn:n < sizeLine)
  (stop:∀H,aq H1 H->J.stop n H) (go:∀i H,i < n->aq H1 H->J.go i H) (yld:∀i H v H',i < n->aq H1 H->J.yld i H v H'->H'=H/\v=x i)
  (he:∀b i H (G:VK),i < n->aq H1 H->(∀y H',aq H H'->R i y H'->G y H')->te b (some (x i) :: cFr fr σ) H G)
  (mono:∀i y H H',aq H H'->R i y H->R i y H') (st:∀i y H D ys zs,H D=some (.lst ys)->R i y H->R i y (upd H D (.lst zs)))
  (fin:∀D H ys,H1 D=none->aq H1 H->H D=some (.lst ys)->ys.length=n->(∀(i:Nat) y,ys[i]?=some y->R i y H)->Q (.ref D) H):lF J 1 fr (fun _=>kO 0) (fun _=>Bh) te Q σ H1:=by
 refine ⟨fun b D hD=>?_⟩
 refine ⟨fun i m σ' H'=>m=n - i/\i <= n/\(∃v0,σ'=v0 :: cFr fr σ)/\aq H1 H'/\∃ys,H' D=some (.lst ys)/\ys.length=i/\∀(j:Nat) y,ys[j]?=some y->R j y H',⟨n,rfl,Nat.zero_le _,⟨none,rfl⟩,aq.upd hD _,[],ak,rfl,fun j y h=>by cases h⟩,?_⟩
 rintro i m σ' H' ⟨rfl,hi,⟨v0,rfl⟩,sm,ys,hl,hy,hR⟩
 by_cases hlt:i < n
 ·refine .inr ⟨go i H' hlt sm,fun σ2 H2=>(∃v0,σ2=v0 :: cFr fr σ)/\aq H1 H2/\∃ys,H2 D=some (.lst ys)/\ys.length=i + 1/\∀(j:Nat) y,ys[j]?=some y->R j y H2,fun σ2 H2 q=>⟨n - (i + 1),by omega,rfl,hlt,q⟩,fun v H2 y=>?_⟩
  obtain ⟨rfl,rfl⟩:=yld i H' v H2 hlt sm y
  refine he b i _ _ hlt sm fun z H4 s4 rz=>⟨ys,s4 _ _ hl,by omega,⟨_,rfl⟩,?_,ys ++ [z],ak,by simp [hy],fun j y' hj=>?_⟩
  ·intro c o q
   by_cases hc:c=D
   ·rw [hc,hD] at q;cases q
   ·rw [aw hc];exact (sm.trans s4) c o q
  ·have hD4:=s4 _ _ hl
   by_cases hji:j < ys.length
   ·rw [List.getElem?_append_left hji] at hj
    exact st _ _ _ _ _ _ hD4 (mono _ _ _ _ s4 (hR j y' hj))
   ·by_cases e:j=ys.length
    ·subst e
     rw [List.getElem?_append_right (Nat.le_refl _)] at hj
     simp at hj
     subst hj
     rw [hy]
     exact st _ _ _ _ _ _ hD4 rz
    ·rw [List.getElem?_eq_none (by simp;omega)] at hj
     cases hj
 ·have e:i=n:=by omega
  subst e
  exact .inl ⟨stop H' sm,fin D H' ys hD sm hl hy hR⟩
end L2
namespace L2
open PySem PySem.Spec PyProof.Rows
section
variable {P:Program}{w:World}{K:W.Frag}{mg:Str->Option Value}{base:Heap}
structure MFn (K:W.Frag) (C:Addr) (m qual:Str) (st:Stmt) (ps:List Str):Prop where
 ex:∃f fd,Fun K m qual st f fd/\Binds K fd ps []/\Meth K C m f
def iK (P:Program) (w:World) (K:W.Frag) (mg:Str->Option Value) (base:Heap) (k:Nat) (C:Addr) (m:Str) (ps:List Str) (sp:Sp):Prop :=
 ∃f fd,kT P w K mg base CX0 k f fd ps sp/\Binds K fd ps []/\Meth K C m f
theorem MFn.has {C:Addr}{m qual:Str}{st:Stmt}{N ps:List Str}{k:Nat}{sp:Sp} (F:MFn K C m qual st ps) (S:aK N ps (av st)) (len:∀vs H Q E,sp vs H Q E->vs.length=ps.length)
  (hbody:∀(f:Addr) (cdv:Value) (A:Around) (outer:List Env) (s:Shared) (H:Hp) (vs:List V) (Q:VK) (E:XK),d4 k (A.deeper (envOfC qual (av st) s.heap.objs.size f cdv))->(A.deeper (envOfC qual (av st) s.heap.objs.size f cdv)).units + 64 < cLine->sp vs H Q E ->
   ∃t,PSs (qo CX0 P w K mg base N qual (av st) f cdv A outer s H E).nox (cG st) t/\t { nx:=fun _ H'=>Q .non H',rt:=Q } (start N vs) H):iK P w K mg base (k + 1) C m ps sp:=by
 obtain ⟨f,fd,F,b,m⟩:=F.ex
 exact ⟨f,fd,F.ok S len fun cdv A outer s H vs Q E hr h=>hbody f cdv A outer s H vs Q E hr hr.units h,b,m⟩
structure dI (K:W.Frag) (mg:Str->Option Value) (C:Addr) (x:Str) (up:List Addr):Prop where
 mg:mg x=some (.ref C)
 cl:Cls K C
 mro:∃cd,W.clsIn K C=some cd/\cd.mro=up.map Value.ref ++ [Value.type "object"]
 ty:W.typeIn K (.ref C)=some (.type "type")
 kc:W.findIn K (.ref C) "__class__"=some (some (.builtin "object.__class__"))
 cg:W.specialIn K (.builtin "object.__class__") "__get__"=some (some (.builtin "getset_descriptor.__get__"))
 ct:W.takesIn K (.builtin "object.__class__")=some true
 mks:W.makesIn K C=true
 kp:W.keepIn K (.ref C)=true
variable {C D:Addr}{x y:Str}{up vp:List Addr}
theorem dI.sub (O:dI K mg C x up) (b:Value):W.mroIn K C b=some ((up.map Value.ref ++ [Value.type "object"]).contains b):=by
 obtain ⟨cd,h1,h2⟩:=O.mro
 unfold W.mroIn
 rw [h1]
 show (if cd.mro.isEmpty=true then none else some (cd.mro.contains b))=_
 rw [h2,if_neg (by cases up <;> simp)]
theorem oy (up:List Addr) (D:Addr):(up.map Value.ref ++ [Value.type "object"]).contains (Value.ref D)=decide (D ∈ up):=by
 induction up with
 | nil=>rfl
 | cons a r ih =>
  show ((Value.ref D == Value.ref a) || (r.map Value.ref ++ [Value.type "object"]).contains (Value.ref D))=_
  rw [ih]
  by_cases h:D=a
  ·subst h;simp
  ·have:(Value.ref D == Value.ref a)=false:=by
    rw [Bool.eq_false_iff]
    intro z
    exact h (Value.ref.inj (beq_iff_eq.mp z))
   rw [this,Bool.false_or]
   simp [h]
theorem dI.kit (O:dI K mg C x up) (U:dI K mg D y vp) (hs:C ∈ up):W.kitOne K (.ref C) (.ref D)=some (decide (D ∈ up)):=by
 unfold W.kitOne
 split
 ·rename_i q
  have:C=D:=Value.ref.inj (beq_iff_eq.mp q)
  rw [<- this,decide_eq_true hs]
 ·obtain ⟨cd,h1,_⟩:=U.mro
  unfold W.kitCls
  dsimp only
  rw [h1,U.ty]
  rw [if_pos (by rfl)]
  show W.mroIn K C (.ref D)=_
  rw [O.sub,oy]
theorem dI.vo (O:dI K mg C x up) {H:Hp}{a dx:Addr}{fs:List (Str × V)} (e:H a=some (.ins C dx fs)):kx K H (.ref a) (.ref C) :=
 .ins e O.cl O.kc O.cg O.ct ((O.sub _).trans (by simp))
end
section
variable {X:Cx}{k j:Nat}{C:Addr}{x m:Str}{ps:List Str}{sp:Sp}{o e:Expr}{es:List Expr}{ta:TE}{t:TA}{p apos pos:Pos}{up:List Addr}
theorem cy (O:dI X.K X.mg C x up) (D:iK X.prog X.w X.K X.mg X.base j C "__init__" ps sp) (hr:d4 k X.A) (ha:PA X (e :: es) t) (hj:j + 1 <= k:=by decide) (hg:Gl X x:=by rfl) (hdb:(x == ("__debug__":Str))=false:=by decide)
  (he:starEach (e :: es) X.env=(false,eval e X.env) :: starEach es X.env:=by rfl) (hpl:(backTo pos (starEach es X.env)).any (·.1)=false:=by rfl):PE X (.Call (.Name x p) (e :: es) [] pos) (zc C sp [] E0 t):=by
 obtain ⟨f,fd,F,b,m⟩:=D
 exact xZ ⟨O.mks,m.at_,m.fn,O.kp⟩ F (hr.mono hj) hg O.mg b .nil wb ha hdb he hpl
structure OfC (K:W.Frag) (C:Addr) (m:Str):Prop where
 ga:W.specialIn K (.ref C) "__getattribute__"=some (some (.builtin "type.__getattribute__"))
 rd:W.readsIn K C (.type "type")=true
 fc:∃f,W.findIn K (.ref C) m=some (some (.ref f))/\W.findCls K (.ref C) (.type "type") m=some (.val (.ref f))
theorem cu {pl:Sem Bool} (O:dI X.K X.mg C x up) (W:OfC X.K C m) (D:iK X.prog X.w X.K X.mg X.base j C m ps sp) (hr:d4 k X.A) (ha:PA X (e :: es) t) (hj:j <= k:=by decide) (hg:Gl X x:=by rfl) (hdb:(x == ("__debug__":Str))=false:=by decide)
  (hst:starEach (e :: es) X.env=(false,eval e X.env) :: starEach es X.env:=by rfl) (hpl:(backTo pos (starEach es X.env)).any (·.1)=false:=by rfl)
  (ht:eval (.Call (.Attribute (.Name x p) m apos) (e :: es) [] pos) X.env=(do
   let ov <- eval (.Name x p) X.env
   standAt apos.atName
   let (f,first) <- holding [ov] (getMethod ov m pl)
   callWith pos f first (backTo pos (starEach (e :: es) X.env)) (backToKw pos (keywordEach [] X.env))):=by rfl) :
  PE X (.Call (.Attribute (.Name x p) m apos) (e :: es) [] pos) (xX sp [] E0 t):=by
 obtain ⟨f,fd,F,b,hm⟩:=D
 intro pins s σ H Q I h
 refine PySem.W.methodCall_KW (pl:=pl) (mI I hg O.mg ?_ hdb) ht
 obtain ⟨f',h1,h2⟩:=W.fc
 have ef:f=f':=by
  have:=hm.at_.symm.trans h1
  cases this
  rfl
 subst ef
 refine PySem.W.method_cls I.kIn W.ga (PySem.W.cls_value I.kIn W.rd h2 rfl ?_)
 refine PySem.W.callWith_K (h₀:=X.base) I.ok.mod.kin hm.kp (thn (ha pos pins _ σ H _ (I.tok _) h) fun us s2 ⟨vs,H2,I2,r,q2⟩=>⟨I2.kIn,?_⟩) hst hpl
 exact wU (us:=us) (vs:=vs) F (hr.mono hj) b .nil wb I2 r q2
end
theorem zU {K:W.Frag}{C:Addr}{m qual:Str}{st:Stmt}{ps:List Str}{f:Addr}{oc:Value}{od an:Option Addr}{osl:Array (Option Value)}{kV doc pm cdv ct:Value}
  (a:W.findIn K (.ref C) m=some (some (.ref f))) (fn:W.isFn K (.ref f)=true) (l:K.lookup f=some ⟨oc,od,.func (W.fnOf m qual (da st) (cG st) (av st) .none kV doc pm an cdv ct),osl⟩) (c:W.codeIn K cdv qual=true) (k:W.keepIn K (.ref f)=true)
  (hb:∀(kV doc pm:Value) (an:Option Addr) (cdv ct:Value) (us:List Value),us.length=ps.length->bindArgs (W.fnOf m qual (da st) (cG st) (av st) .none kV doc pm an cdv ct) ⟨us,[]⟩=pure (ps.zip us)):MFn K C m qual st ps :=
 ⟨f,_,pV l c k,(pV l c k).binds hb,⟨a,fn,k⟩⟩
end L2
namespace L2
open PySem PySem.Spec PyProof.Rows
end L2
namespace L2
open PySem
end L2
namespace L2
open PySem
end L2
namespace L2
open PySem PySem.Spec PyProof.Rows
section
variable {X:Cx}
def o8:V->Bool
 | .flt _=>false
 | .byt _=>false
 | _=>true
theorem lK {x:V}{u v:Value} (hx:o8 x=true) (ru:RelV x u) (rv:RelV x v) (A:Around) (s:Shared):SeqAt.EqAt A s u v true:=by
 cases x with
 | non=>cases ru;cases rv;exact .same _
 | bl b=>cases ru;cases rv;exact .same _
 | int i =>
  obtain ⟨t,rfl⟩:=ru
  obtain ⟨t',rfl⟩:=rv
  have:=SeqAt.EqAt.int_int (A:=A) (s:=s) i t i t'
  rwa [beq_self_eq_true] at this
 | str y =>
  obtain ⟨t,rfl⟩:=ru
  obtain ⟨t',rfl⟩:=rv
  have:=SeqAt.EqAt.str_str (A:=A) (s:=s) y t y t'
  rwa [beq_self_eq_true] at this
 | byt _=>cases hx
 | flt _=>cases hx
 | ref a=>cases ru;cases rv;exact .same _
 | ty n=>cases ru;cases rv;exact .same _
theorem Cq (hu:X.A.units + 64 < cLine):OpR X (compareOp .Eq) (fun x y H Q=>∃p q xs,x=.ref p/\y=.ref q/\SqL X.K H p xs/\SqL X.K H q xs/\xs.all o8=true/\Q (.bl true) H):=by
 intro pins s σ H x y v u Q I rx ry h
 obtain ⟨p,q,xs,rfl,rfl,hp,hq,hf,k⟩:=h
 cases rx
 cases ry
 obtain ⟨its,r1,⟨o,n,e1,c1,_,d1⟩,_⟩:=I.list hp
 obtain ⟨jts,r2,⟨o2,n2,e2,c2,_,d2⟩,_⟩:=I.list hq
 have l1:=r1.length
 have l2:=r2.length
 refine SeqAt.eq_listAt (e:=fun _=>true) ⟨o,e1,c1,n,d1⟩ ⟨o2,e2,c2,n2,d2⟩ (by simp;omega) (by omega) (fun j h1 h2=>?_) ?_
 ·simp at h1 h2
  obtain ⟨x,hx⟩:∃x,xs[j]?=some x:=⟨xs[j]'(by omega),List.getElem?_eq_getElem (by omega)⟩
  obtain ⟨u1,g1,w1⟩:=r1.get hx
  obtain ⟨u2,g2,w2⟩:=r2.get hx
  have z1:its.toArray[j]'(by simpa using h1)=u1:=by
   have:=List.getElem?_eq_getElem h1
   rw [g1] at this
   simpa using (Option.some.inj this).symm
  have z2:jts.toArray[j]'(by simpa using h2)=u2:=by
   have:=List.getElem?_eq_getElem h2
   rw [g2] at this
   simpa using (Option.some.inj this).symm
  rw [z1,z2]
  exact lK (List.all_eq_true.mp hf x (List.mem_of_getElem? hx)) w1 w2 _ _
 ·have:((List.range its.toArray.size).all fun _=>true)=true:=by simp
  rw [this]
  exact ⟨.bl true,H,I,rfl,k⟩
def CL (K:W.Frag):R2:=fun x y H Q=>match x,y with
 | .ref p,.ref q=>(∃d e,iL K H (.ref p) d/\iL K H (.ref q) e/\SeqAt.shaped d=true/\SeqAt.shaped e=true/\Q (.bl (PyData.eqv d e)) H) \/ (∃xs,SqL K H p xs/\SqL K H q xs/\xs.all o8=true/\Q (.bl true) H)
 | x,y=>vi x y=true/\Q (.bl (decide (x=y))) H
theorem Cc (hu:X.A.units + 64 < cLine):OpR X (compareOp .Eq) (CL X.K):=((CS hu).or (Cq hu)).imp fun x y H Q q=>by
 by_cases hr:∃p q,x=V.ref p/\y=V.ref q
 ·obtain ⟨p,q',rfl,rfl⟩:=hr
  rcases q with q | ⟨xs,h1,h2,h3,h4⟩
  ·exact .inl q
  ·exact .inr ⟨p,q',xs,rfl,rfl,h1,h2,h3,h4⟩
 ·refine .inl ?_
  cases x <;> cases y <;> first | exact q | exact absurd ⟨_,_,rfl,rfl⟩ hr
theorem kZ:dg X (.type "int") (fun xs H Q=>∃b,xs=[.bl b]/\Q (.int (if b=true then 1 else 0)) H):=by
 intro pins s σ H xs us Q I r h
 obtain ⟨b,rfl,q⟩:=h
 obtain ⟨u,rfl,rfl⟩:=vals1 r
 exact PySem.call_int_bool ⟨.int _,H,I.tok _,⟨_,rfl⟩,q⟩
end
end L2
namespace L2
open PySem PySem.Spec PyProof.Rows
section
variable {κ:Type} [DecidableEq κ]
def cF (kvs:List (κ × V)) (k:κ):Option V:=(kvs.find? fun kv=>decide (kv.1=k)).map (·.2)
def putK (kvs:List (κ × V)) (k:κ) (v:V):List (κ × V) :=
 if (kvs.any fun kv=>decide (kv.1=k))=true then kvs.map (fun kv=>if kv.1=k then (kv.1,v) else kv) else kvs ++ [(k,v)]
theorem cM {p:κ × V}{r:List (κ × V)}{k:κ} (e:p.1=k):cF (p :: r) k=some p.2:=by simp [cF,List.find?_cons,e]
theorem cQ {p:κ × V}{r:List (κ × V)}{k:κ} (e:¬ p.1=k):cF (p :: r) k=cF r k:=by simp [cF,List.find?_cons,e]
theorem kE (k:κ):∀kvs:List (κ × V),(kvs.any fun kv=>decide (kv.1=k))=(cF kvs k).isSome
 | []=>rfl
 | p :: r=>by
  rw [List.any_cons]
  by_cases e:p.1=k
  ·simp only [cM e,decide_eq_true e,Bool.true_or,Option.isSome_some]
  ·rw [cQ e,decide_eq_false e,Bool.false_or];exact kE k r
theorem qC (k j:κ) (y:V):∀kvs:List (κ × V),cF (kvs.map fun kv=>if kv.1=k then (kv.1,y) else kv) j=(cF kvs j).map fun x=>if j=k then y else x
 | []=>rfl
 | p :: r=>by
  have ih:=qC k j y r
  rw [List.map_cons]
  by_cases h:p.1=k
  ·rw [if_pos h]
   by_cases e:p.1=j
   ·rw [cM (p:=(p.1,y)) e,cM e,Option.map_some,if_pos (e.symm.trans h)]
   ·rw [cQ (p:=(p.1,y)) e,cQ e,ih]
  ·rw [if_neg h]
   by_cases e:p.1=j
   ·rw [cM (p:=p) e,cM e,Option.map_some,if_neg (fun z=>h (e.trans z))]
   ·rw [cQ (p:=p) e,cQ e,ih]
theorem oT (k j:κ) (y:V):∀kvs:List (κ × V),cF kvs k=none->cF (kvs ++ [(k,y)]) j=if j=k then some y else cF kvs j
 | [],_=>by
  by_cases e:k=j
  ·rw [if_pos e.symm];exact cM (p:=(k,y)) e
  ·rw [if_neg (fun z=>e z.symm)];exact cQ (p:=(k,y)) e
 | p :: r,hn=>by
  rw [List.cons_append]
  have hk:¬ p.1=k:=fun z=>by rw [cM z] at hn;cases hn
  rw [cQ hk] at hn
  have ih:=oT k j y r hn
  by_cases e:p.1=j
  ·rw [cM e,cM e,if_neg (fun z=>hk (e.trans z))]
  ·rw [cQ e,cQ e,ih]
theorem qK (kvs:List (κ × V)) (k j:κ) (y:V):cF (putK kvs k y) j=if j=k then some y else cF kvs j:=by
 unfold putK
 by_cases a:(kvs.any fun kv=>decide (kv.1=k))=true
 ·rw [if_pos a,qC]
  rw [kE] at a
  by_cases e:j=k
  ·obtain ⟨x,hx⟩:=Option.isSome_iff_exists.mp a
   rw [if_pos e,e,hx,Option.map_some,if_pos rfl]
  ·rw [if_neg e]
   cases cF kvs j with
   | none=>rfl
   | some x=>rw [Option.map_some,if_neg e]
 ·rw [if_neg a]
  refine oT k j y kvs ?_
  rw [kE] at a
  cases q:cF kvs k with
  | none=>rfl
  | some x=>rw [q] at a;exact (a rfl).elim
theorem jc (kvs:List (κ × V)) (k:κ) (v:V):(putK kvs k v).length <= kvs.length + 1:=by
 unfold putK
 split
 ·rw [List.length_map];omega
 ·rw [List.length_append,List.length_cons,List.length_nil];omega
theorem lA.lQ {o:Option V}{u:Option Value} (r:lA o u):o.isSome=u.isSome:=by
 cases o with
 | none=>cases u with
  | none=>rfl
  | some _=>exact (show False from r).elim
 | some _=>cases u with
  | none=>exact (show False from r).elim
  | some _=>rfl
theorem KV.val {kvs:List (κ × V)}{vs:List (κ × Value)} (r:KV kvs vs) (k:κ):lA (cF kvs k) (valueAt vs k):=by
 unfold KV at r
 induction r with
 | nil=>exact True.intro
 | @cons p q ps qs h t ih =>
  obtain ⟨h1,h2⟩:=h
  by_cases e:p.1=k
  ·have e':q.1=k:=h1.symm.trans e
   have b:valueAt (q :: qs) k=some q.2:=by simp [valueAt,List.find?_cons,e']
   rw [cM e,b];exact h2
  ·have e':¬ q.1=k:=fun z=>e (h1.trans z)
   have b:valueAt (q :: qs) k=valueAt qs k:=by simp [valueAt,List.find?_cons,e']
   rw [cQ e,b];exact ih
theorem KV.any {kvs:List (κ × V)}{vs:List (κ × Value)} (r:KV kvs vs) (k:κ):(kvs.any fun kv=>decide (kv.1=k))=vs.any fun kv=>decide (kv.1=k):=by
 unfold KV at r
 induction r with
 | nil=>rfl
 | cons h t ih=>rw [List.any_cons,List.any_cons,ih,h.1]
theorem KV.AS {kvs:List (κ × V)}{vs:List (κ × Value)} (r:KV kvs vs) (k:κ) {y:V}{u:Value} (ry:RelV y u) :
  KV (kvs.map fun kv=>if kv.1=k then (kv.1,y) else kv) (vs.map fun kv=>if kv.1=k then (kv.1,u) else kv):=by
 unfold KV at r ⊢
 induction r with
 | nil=>exact .nil
 | @cons p q ps qs h t ih =>
  rw [List.map_cons,List.map_cons]
  refine .cons ?_ ih
  obtain ⟨h1,h2⟩:=h
  by_cases e:p.1=k
  ·rw [if_pos e,if_pos (h1.symm.trans e)];exact ⟨h1,ry⟩
  ·rw [if_neg e,if_neg (fun z=>e (h1.trans z))];exact ⟨h1,h2⟩
theorem KV.put {kvs:List (κ × V)}{vs:List (κ × Value)} (r:KV kvs vs) (k:κ) {y:V}{u:Value} (ry:RelV y u):KV (putK kvs k y) (stored vs k u):=by
 unfold putK stored
 rw [r.any k]
 by_cases e:(vs.any fun kv=>decide (kv.1=k))=true
 ·rw [if_pos e,if_pos e];exact r.AS k ry
 ·rw [if_neg e,if_neg e];exact Paired.snoc r ⟨rfl,ry⟩
theorem KV.keys {kvs:List (κ × V)}{vs:List (κ × Value)} (r:KV kvs vs):kvs.map (·.1)=vs.map (·.1):=by
 unfold KV at r
 induction r with
 | nil=>rfl
 | cons h t ih=>rw [List.map_cons,List.map_cons,ih,h.1]
theorem KV.length {kvs:List (κ × V)}{vs:List (κ × Value)} (r:KV kvs vs):kvs.length=vs.length:=Paired.length r
end
theorem rh {P:Program}{w:World}{k:Key}{u:Value} (r:RelV (kV k) u):(cn P w).is k u=true:=by
 cases k with
 | inl i=>obtain ⟨t,e⟩:=(show ∃t,u=Value.int i t from r);subst e;exact rb P w i t
 | inr x=>obtain ⟨t,e⟩:=(show ∃t,u=Value.str x t from r);subst e;exact rH P w x t
theorem o9 {P:Program}{w:World}:∀{ks:List Key}{us:List Value},Vals (ks.map kV) us->ItemsAre (cn P w) ks us
 | [],_,r=>by rw [List.map_nil] at r;cases r;exact .nil
 | k :: ks,_,r=>by
  rw [List.map_cons] at r
  cases r with
  | cons h t=>exact .cons (rh h) (o9 t)
abbrev KT (H:Hp):List (List Key × V)->List (List Key × Addr × Value)->Prop:=Paired fun p q=>p.1=q.1/\H q.2.1=some (.tup (p.1.map kV))/\RelV p.2 q.2.2
theorem KT.val {H:Hp}{kvs:List (List Key × V)}{xs:List (List Key × Addr × Value)} (r:KT H kvs xs) (k:List Key):lA (cF kvs k) ((atKey xs k).map (·.2)):=by
 induction r with
 | nil=>exact True.intro
 | @cons p q ps qs h t ih =>
  obtain ⟨h1,_,h2⟩:=h
  by_cases e:p.1=k
  ·have e':q.1=k:=h1.symm.trans e
   have b:atKey (q :: qs) k=some q.2:=by simp [atKey,List.find?_cons,e']
   rw [cM e,b];exact h2
  ·have e':¬ q.1=k:=fun z=>e (h1.trans z)
   have b:atKey (q :: qs) k=atKey qs k:=by simp [atKey,List.find?_cons,e']
   rw [cQ e,b];exact ih
theorem KT.AS {H:Hp}{kvs:List (List Key × V)}{xs:List (List Key × Addr × Value)} (r:KT H kvs xs) (k:List Key) {y:V}{u:Value} (ry:RelV y u) :
  KT H (kvs.map fun kv=>if kv.1=k then (kv.1,y) else kv) (xs.map (putAt k u)):=by
 induction r with
 | nil=>exact .nil
 | @cons p q ps qs h t ih =>
  rw [List.map_cons,List.map_cons]
  refine .cons ?_ ih
  obtain ⟨h1,h2,h3⟩:=h
  unfold putAt
  by_cases e:p.1=k
  ·rw [if_pos e,if_pos (h1.symm.trans e)];exact ⟨h1,h2,ry⟩
  ·rw [if_neg e,if_neg (fun z=>e (h1.trans z))];exact ⟨h1,h2,h3⟩
theorem KT.put {H:Hp}{kvs:List (List Key × V)}{xs:List (List Key × Addr × Value)} (r:KT H kvs xs) (k:List Key) {b:Addr}{y:V}{u:Value} (hb:H b=some (.tup (k.map kV))) (ry:RelV y u) :
  KT H (putK kvs k y) (storedH xs k b u):=by
 have e:(kvs.any fun kv=>decide (kv.1=k))=(atKey xs k).isSome:=by
  rw [kE,(r.val k).lQ,Option.isSome_map]
 unfold putK storedH
 rw [e]
 by_cases q:(atKey xs k).isSome=true
 ·rw [if_pos q,if_pos q];exact r.AS k ry
 ·rw [if_neg q,if_neg q];exact Paired.snoc r ⟨rfl,hb,ry⟩
theorem KT.keeps {H H':Hp}{kvs:List (List Key × V)}{xs:List (List Key × Addr × Value)} (r:KT H kvs xs) (ht:∀b ys,H b=some (.tup ys)->H' b=some (.tup ys)):KT H' kvs xs :=
 Paired.dC r fun _ _ z=>⟨z.1,ht _ _ z.2.1,z.2.2⟩
section
variable {P:Program}{w:World}{H:Hp}{h:Heap}{a:Addr}
theorem zf {u:HO} (ok:HOk P w H h) (e:Rd H a u):cI P w H h a u:=e.ok ok
theorem jY {kvs:List (Key × V)} (ok:HOk P w H h) (e:Rd H a (.dK kvs)):kvs.length <= sizeLine/\(a == sysModules)=false/\∃vs,KV kvs vs/\h.DictOf (cn P w) a vs :=
 show cI P w H h a (.dK kvs) from zf ok e
theorem zr {kvs:List (Key × V)} (ok:HOk P w H h) (e:H a=some (.dK kvs)):kvs.length <= sizeLine/\(a == sysModules)=false/\∃vs,KV kvs vs/\h.DictOf (cn P w) a vs:=jY ok (.inl e)
theorem pU {ks:List Key} (ok:HOk P w H h) (e:H a=some (.tup (ks.map kV))):(tupleKind (cn P w)).is h ks a:=by
 obtain ⟨_,its,r,o,h1,h2,n,h3⟩:=(show cI P w H h a (.tup (ks.map kV)) from ok a _ e)
 exact ⟨o,its.toArray,n,h1,h2,h3,by simpa using o9 r⟩
theorem uz {kvs:List (List Key × V)} (ok:HOk P w H h) (e:Rd H a (.dT kvs)):kvs.length <= sizeLine/\(a == sysModules)=false /\
  ∃xs,KT H kvs xs/\h.DictOfH (tupleKind (cn P w)) a xs:=by
 obtain ⟨z,y,xs,r,o,es,ep,h1,h2,h3,h4,h5⟩:=(show cI P w H h a (.dT kvs) from zf ok e)
 refine ⟨z,y,xs,r,o,es,ep,h1,h2,h3,h4,fun x hx=>?_,h5⟩
 have all:∀{l:List (List Key × V)}{m:List (List Key × Addr × Value)},KT H l m->∀x ∈ m,(tupleKind (cn P w)).is h x.1 x.2.1:=by
  intro l m q
  induction q with
  | nil=>intro x hx;exact nomatch hx
  | @cons p q ps qs hq t ih =>
   intro x hx
   rcases List.mem_cons.mp hx with e | hx
   ·subst e
    exact pU ok (by rw [<- hq.1];exact hq.2.1)
   ·exact ih x hx
 exact all r x hx
theorem Bu {kvs:List (List Key × V)} (ok:HOk P w H h) (e:H a=some (.dT kvs)):kvs.length <= sizeLine/\(a == sysModules)=false /\
  ∃xs,KT H kvs xs/\h.DictOfH (tupleKind (cn P w)) a xs:=uz ok (.inl e)
end
def aN (H:Hp) (a:Addr) (y:V) (r:Option V):Prop :=
 (∃kvs k,Rd H a (.dK kvs)/\y=kV k/\r=cF kvs k) \/ ∃kvs k b,Rd H a (.dT kvs)/\y=.ref b/\H b=some (.tup (k.map kV))/\r=cF kvs k
def cZ (H:Hp) (a:Addr) (y v:V) (H':Hp):Prop :=
 (∃kvs k,H a=some (.dK kvs)/\y=kV k/\kvs.length < sizeLine/\H'=upd H a (.dK (putK kvs k v))) \/
 ∃kvs k b,H a=some (.dT kvs)/\y=.ref b/\H b=some (.tup (k.map kV))/\kvs.length < sizeLine/\H'=upd H a (.dT (putK kvs k v))
theorem aN.k {H:Hp}{a:Addr}{kvs:List (Key × V)}{k:Key} (e:H a=some (.dK kvs)):aN H a (kV k) (cF kvs k):=.inl ⟨kvs,k,.inl e,rfl,rfl⟩
theorem cZ.k {H:Hp}{a:Addr}{kvs:List (Key × V)}{k:Key}{v:V} (e:H a=some (.dK kvs)) (hl:kvs.length < sizeLine):cZ H a (kV k) v (upd H a (.dK (putK kvs k v))):=.inl ⟨kvs,k,e,rfl,hl,rfl⟩
section
variable {X:Cx}{pins:List (Addr × Obj)}{σ:St}{H:Hp}{s:Shared}{a:Addr}{y v:V}{u r:Value}{o:Option V}{A:Around}{E:Value->Shared->Prop}
theorem Inv.big (I:Inv X pins σ H s):sysModules < s.heap.objs.size:=by
 have h:mainGlobals < s.heap.objs.size:=(I.mod.glob.keeps I.bk).lt
 exact Nat.lt_trans (by decide) h
theorem uO {Q:Value->Shared->Prop} (hu:A.units + 1 < cLine) (I:Inv X pins σ H s) (g:aN H a y (some v)) (ry:RelV y u) (h:∀w' s',Inv X pins σ H s'->RelV v w'->Q w' s') :
  wpAny (model X.prog X.w) A (getItem (.ref a) u) Q E s:=by
 rcases g with ⟨kvs,k,e,ey,l⟩ | ⟨kvs,k,b,e,ey,eb,l⟩
 ·subst ey
  obtain ⟨z,hd,vs,rel,dd⟩:=jY I.hok e
  obtain ⟨w',hw,rw'⟩:=lA.some_of (v:=v) (o:=valueAt vs k) (by rw [l];exact rel.val k)
  exact wpAny_getItem_of (rh ry) dd.mapOf hw (h w' _ (I.tok _) rw')
 ·subst ey
  cases (show u=Value.ref b from ry)
  obtain ⟨z,hd,xs,rel,dd⟩:=uz I.hok e
  obtain ⟨w',hw,rw'⟩:=lA.some_of (v:=v) (o:=(atKey xs k).map (·.2)) (by rw [l];exact rel.val k)
  obtain ⟨p,hp,hp2⟩:=Option.map_eq_some_iff.mp hw
  refine wpAny_getItem_heap (tupleKind_room_in1 hu) (pU I.hok eb) dd hp ?_
  rw [hp2]
  exact h w' _ (I.tok _) rw'
theorem CC {Q:Value->Shared->Prop} (hu:A.units + 1 < cLine) (I:Inv X pins σ H s) (g:aN H a y o) (ry:RelV y u) (h:∀s',Inv X pins σ H s'->Q (.bool o.isSome) s') :
  wpAny (model X.prog X.w) A (compareOp .In u (.ref a)) Q E s:=by
 rcases g with ⟨kvs,k,e,ey,l⟩ | ⟨kvs,k,b,e,ey,eb,l⟩
 ·subst ey
  obtain ⟨z,hd,vs,rel,dd⟩:=jY I.hok e
  refine wpAny_in_of (rh ry) hd dd.mapOf ?_
  rw [<- (rel.val k).lQ,<- l]
  exact h _ (I.tok _)
 ·subst ey
  cases (show u=Value.ref b from ry)
  obtain ⟨z,hd,xs,rel,dd⟩:=uz I.hok e
  refine wpAny_in_heap (tupleKind_room_in1 hu) (pU I.hok eb) hd dd ?_
  have q:=(rel.val k).lQ
  rw [Option.isSome_map] at q
  rw [<- q,<- l]
  exact h _ (I.tok _)
theorem pM {h':Heap}{t':Nat}{ob:HO} (I:Inv X pins σ H s) (mu:Mut (H a)) (hs:Heap.SameBut a s.heap h') (he:∃q,h'.get? a=some q) (new:cI X.prog X.w (upd H a ob) h' a ob) :
  Inv X pins σ (upd H a ob) { s with heap:=h',toks:=t' } :=
 I.write (x:=a) (e:=a) mu (.inl rfl) (fun b q hb z=>(hs.2 b hb).trans z) he new
theorem kR {P:Program}{w:World}{H':Hp}{h':Heap}{kvs:List (Key × V)}{vs:List (Key × Value)} (z:kvs.length <= sizeLine) (hd:(a == sysModules)=false) (rel:KV kvs vs) (dd:h'.DictOf (cn P w) a vs) :
  cI P w H' h' a (.dK kvs):=⟨z,hd,vs,rel,dd⟩
theorem vH {H':Hp}{Q:Unit->Shared->Prop} (hu:A.units + 1 < cLine) (I:Inv X pins σ H s) (g:cZ H a y v H') (ry:RelV y u) (rv:RelV v r) (h:∀s',Inv X pins σ H' s'->Q () s') :
  wpAny (model X.prog X.w) A (setItem (.ref a) u r) Q E s:=by
 rcases g with ⟨kvs,k,e,ey,l,eH⟩ | ⟨kvs,k,b,e,ey,eb,l,eH⟩
 ·subst ey eH
  obtain ⟨z,hd,vs,rel,dd⟩:=zr I.hok e
  have hz:vs.length <= sizeLine:=by rw [<- rel.length];exact z
  have hl:(putK kvs k v).length <= sizeLine:=by have:=jc kvs k v;omega
  refine wpAny_setItem_pairs (hsz:=hz) (rh ry) dd fun h' dd' hs=>h _ ?_
  have he:∃q,h'.get? a=some q:=let ⟨q,_,_,hq,_⟩:=dd';⟨q,hq⟩
  exact pM I (by rw [e];exact True.intro) hs he (kR hl hd (rel.put k rv) dd')
 ·subst ey eH
  cases (show u=Value.ref b from ry)
  obtain ⟨z,hd,xs,rel,dd⟩:=Bu I.hok e
  have hz:xs.length <= sizeLine:=by rw [<- Paired.length rel];exact z
  have hl:(putK kvs k v).length <= sizeLine:=by have:=jc kvs k v;omega
  refine wpAny_setItem_heap (hsz:=hz) (tupleKind_room_in1 hu) (pU I.hok eb) dd fun h' dd' hs=>h _ ?_
  obtain ⟨q,es,ep,hq,h2,h3,h4,_,h5⟩:=dd'
  refine pM I (by rw [e];exact True.intro) hs ⟨q,hq⟩ ⟨hl,hd,_,(rel.put k eb rv).keeps fun c ys ec=>?_,q,es,ep,hq,h2,h3,h4,h5⟩
  rw [aw (BK ec e (fun z=>nomatch z))]
  exact ec
end
section
variable {X:Cx}{pins:List (Addr × Obj)}{σ:St}{H:Hp}{s:Shared}{a:Addr}{kvs:List (Key × V)}{k:Key}{u:Value}{A:Around}{E:Value->Shared->Prop}
theorem Cp {Q:Value->Shared->Prop} (I:Inv X pins σ H s) (e:Rd H a (.dK kvs)) (h:∀t s',Inv X pins σ H s'->Q (.int kvs.length t) s'):wpAny (model X.prog X.w) A (call (.builtin "len") [.ref a]) Q E s:=by
 obtain ⟨z,hd,vs,rel,dd⟩:=jY I.hok e
 refine call_len_dict hd dd (by rw [<- rel.length];rw [sizeLine_eq] at z;omega) ?_
 rw [<- rel.length]
 exact h _ _ (I.tok _)
end
theorem rG {X:Cx}{pins:List (Addr × Obj)}{σ:St}{H:Hp}{s:Shared}{a:Addr}{y:V}{o:Option V} (I:Inv X pins σ H s) (g:aN H a y o):s.TypeIs (.ref a) "dict":=by
 rcases g with ⟨kvs,k,e,_,_⟩ | ⟨kvs,k,b,e,_,_,_⟩
 ·obtain ⟨_,_,vs,_,dd⟩:=jY I.hok e
  exact dd.typeIs
 ·obtain ⟨_,_,xs,_,dd⟩:=uz I.hok e
  exact dd.typeIs
section
variable {X:Cx}{o i e value:Expr}{pos pos' tpos:Pos}{td ty tv:TE}
end
theorem rg {P:Program}{w:World}{H:Hp} (h:Heap) (hb:sysModules < h.objs.size):cI P w H (h.push { cls:=.type "dict",data:=.dict #[] }) h.objs.size (.dK []) :=
 ⟨Nat.zero_le _,beq_eq_false_iff_ne.mpr (Ne.symm (Nat.ne_of_lt hb)),[],.nil,Heap.DictOf.new h⟩
def Aj:TE:=fun _ H Q=>∀p,H p=none->Q (.ref p) (upd H p (.dK []))
section
variable {X:Cx}{pos:Pos}
theorem kQ:PE X (.Dict [] [] pos) Aj:=fun pins s σ H Q I h =>
 wpAny_Dict_empty ⟨.ref s.heap.objs.size,_,I.laid (a:=s.heap.objs.size) (o:=.dK []) (t':=s.toks) (fun _ _ q=>Heap.get?_push_of_some _ q) (Nat.le_refl _) (rg s.heap I.big),rfl,h _ (I.hok.fresh (Nat.le_refl _))⟩
end
def rL:List (TE × TE)->St->Hp->(List (V × V)->Hp->Prop)->Prop
 | [],_,H,Q=>Q [] H
 | (tk,tv) :: r,σ,H,Q=>tk σ H fun x H1=>tv σ H1 fun y H2=>rL r σ H2 fun ps H3=>Q ((x,y) :: ps) H3
abbrev VV:List (V × V)->List (Value × Value)->Prop:=Paired fun p q=>RelV p.1 q.1/\RelV p.2 q.2
def PPs (X:Cx) (pos:Pos) (keys:List (Option Expr)) (values:List Expr) (trs:List (TE × TE)):Prop :=
 ∀(pins:List (Addr × Obj)) (s:Shared) (σ:St) (H:Hp) (Q:List (V × V)->Hp->Prop),Inv X pins σ H s->rL trs σ H Q ->
  wpAny (model X.prog X.w) X.A (evalPairs (pairTrees keys values X.env pos)) (fun vs s'=>∃ps H',Inv X pins σ H' s'/\VV ps vs/\Q ps H') X.xe s
theorem mG {X:Cx}{pos:Pos}:PPs X pos [] [] []:=fun pins s σ H Q I h=>pairTrees_nil_walk ⟨[],H,I,.nil,h⟩
theorem bS {X:Cx}{pos:Pos}{k v:Expr}{ks:List (Option Expr)}{vs:List Expr}{tk tv:TE}{trs:List (TE × TE)} (hk:PE X k tk) (hv:PE X v tv) (hr:PPs X pos ks vs trs) :
  PPs X pos (some k :: ks) (v :: vs) ((tk,tv) :: trs):=fun pins s σ H Q I h =>
 pairTrees_cons_walk (thn (hk pins s σ H _ I h) fun u s1 ⟨x,H1,I1,rx,q1⟩=>thn (hv pins s1 σ H1 _ I1 q1) fun w2 s2 ⟨y,H2,I2,ry,q2⟩ =>
  thn (hr pins s2 σ H2 _ I2 q2) fun ws s3 ⟨ps,H3,I3,rel,q3⟩=>⟨(x,y) :: ps,H3,I3,.cons ⟨rx,ry⟩ rel,q3⟩)
def hZ (kvs more:List (Key × V)):List (Key × V):=more.foldl (fun acc kv=>putK acc kv.1 kv.2) kvs
theorem KV.merge:∀{more:List (Key × V)}{rs:List (Key × Value)}{kvs:List (Key × V)}{vs:List (Key × Value)},KV more rs->KV kvs vs->KV (hZ kvs more) (merged vs rs):=by
 intro more rs kvs vs r
 unfold KV at r
 induction r generalizing kvs vs with
 | nil=>intro q;exact q
 | @cons p q ps qs h t ih =>
  intro r0
  have e:KV (putK kvs p.1 p.2) (stored vs q.1 q.2):=by
   have:=r0.put p.1 h.2
   rw [<- h.1];exact this
  exact ih e
theorem jU:∀(more kvs:List (Key × V)),(hZ kvs more).length <= kvs.length + more.length
 | [],kvs=>by show kvs.length <= kvs.length + 0;omega
 | p :: r,kvs=>by
  have h1:=jU r (putK kvs p.1 p.2)
  have h2:=jc kvs p.1 p.2
  show (hZ (putK kvs p.1 p.2) r).length <= _
  rw [List.length_cons];omega
theorem nP {P:Program}{w:World}:∀{kvs:List (Key × V)}{ws:List (Value × Value)},VV (kvs.map fun kv=>(kV kv.1,kv.2)) ws->∃rs,Carries (cn P w) ws rs/\KV kvs rs
 | [],_,r=>by rw [List.map_nil] at r;cases r;exact ⟨[],True.intro,.nil⟩
 | p :: kvs,_,r=>by
  rw [List.map_cons] at r
  cases r with
  | @cons a b as bs h t =>
   obtain ⟨rs,c,q⟩:=nP (P:=P) (w:=w) t
   obtain ⟨b1,b2⟩:=b
   exact ⟨(p.1,b2) :: rs,⟨rh h.1,rfl,c⟩,.cons ⟨rfl,h.2⟩ q⟩
def Ck (trs:List (TE × TE)):TE:=fun σ H Q=>∀p,H p=none->rL trs σ (upd H p (.dK [])) fun ps H2=>H2 p=some (.dK [])/\∃kvs:List (Key × V),ps=kvs.map (fun kv=>(kV kv.1,kv.2))/\kvs.length <= 15/\Q (.ref p) (upd H2 p (.dK (hZ [] kvs)))
theorem mE {X:Cx}{pos:Pos}{keys:List (Option Expr)}{values:List Expr}{trs:List (TE × TE)} (h:PPs X pos keys values trs) (hall:keys.all (·.isSome)=true) (hl:keys.length=values.length) (h0:keys ≠ [])
  (h15:keys.length <= 15):PE X (.Dict keys values pos) (Ck trs):=by
 intro pins s σ H Q I q
 have hn:=I.hok.fresh (Nat.le_refl s.heap.objs.size)
 have I1:=I.laid (a:=s.heap.objs.size) (o:=.dK []) (h':=s.heap.push { cls:=.type "dict",data:=.dict #[] }) (t':=s.toks) (fun _ _ q=>Heap.get?_push_of_some _ q) (Nat.le_refl _) (rg s.heap I.big)
 refine wpAny_Dict_walk (knd:=cn X.prog X.w) hall hl h0 h15 (thn (h pins _ σ _ _ I1 (q _ hn)) fun ws s2 ⟨ps,H2,I2,rel,e,kvs,ep,lk,q2⟩=>?_)
 subst ep
 obtain ⟨rs,c,rk⟩:=nP (P:=X.prog) (w:=X.w) rel
 obtain ⟨z,hd,vs0,r0,dd⟩:=zr I2.hok e
 cases r0
 refine ⟨rs,c,dd,fun h' dd' hs=>⟨.ref s.heap.objs.size,_,?_,rfl,q2⟩⟩
 have hz:(hZ [] kvs).length <= sizeLine:=by
  have h1:=jU kvs []
  rw [List.length_nil] at h1
  rw [sizeLine_eq];omega
 have he:∃q,h'.get? s.heap.objs.size=some q:=let ⟨q,_,_,hq,_⟩:=dd';⟨q,hq⟩
 exact pM I2 (by rw [e];exact True.intro) hs he (kR hz hd (rk.merge .nil) dd')
structure M1 (X:Cx) (o:Expr) (m:Str) (apos:Pos) (e:Expr) (cpos:Pos):Prop where
 base:attributeBase o m X.env (eval o X.env)=eval o X.env
 few:((backTo cpos (starEach [e] X.env)).all (fun x=>!x.1) && (backToKw cpos (keywordEach [] X.env)).all (fun x=>x.1.isSome)
  && decide (([e]:List Expr).length + ([]:List Keyword).length + (if ([]:List Keyword).isEmpty then 0 else 1) < 30))=true
 line:(apos.endLine == cpos.line)=true
 trees:backTo cpos (starEach [e] X.env)=[(false,eval e X.env)]
structure M2 (X:Cx) (o:Expr) (m:Str) (apos:Pos) (e f:Expr) (cpos:Pos):Prop where
 base:attributeBase o m X.env (eval o X.env)=eval o X.env
 few:((backTo cpos (starEach [e,f] X.env)).all (fun x=>!x.1) && (backToKw cpos (keywordEach [] X.env)).all (fun x=>x.1.isSome)
  && decide (([e,f]:List Expr).length + ([]:List Keyword).length + (if ([]:List Keyword).isEmpty then 0 else 1) < 30))=true
 line:(apos.endLine == cpos.line)=true
 trees:backTo cpos (starEach [e,f] X.env)=[(false,eval e X.env),(false,eval f X.env)]
section
variable {X:Cx}{pins:List (Addr × Obj)}{σ:St}{H:Hp}{s:Shared}{a:Addr}{y d:V}{u r:Value}{o:Option V}{A:Around}{E:Value->Shared->Prop}
end
section
variable {X:Cx}{o e f:Expr}{apos cpos:Pos}{td ty tx:TE}
end
section
variable {X:Cx}{pins:List (Addr × Obj)}{σ:St}{H:Hp}{s:Shared}{a:Addr}{kvs:List (Key × V)}{A:Around}{E:Value->Shared->Prop}
end
section
variable {X:Cx}{pins:List (Addr × Obj)}{σ:St}{H:Hp}{s:Shared}{a:Addr}{y:V}{u:Value}{A:Around}{E:Value->Shared->Prop}
end
end L2
namespace L2
open PySem PySem.Spec PyProof.Rows
section
variable {X:Cx}
theorem qG (hu:X.A.units + 64 < cLine):IxR X (fun x y H Q=>∃a v,x=.ref a/\aN H a y (some v)/\Q v H):=by
 intro value slice pins s σ H x y v u Q I rx ry h hs
 obtain ⟨a,z,rfl,g,q⟩:=h
 cases rx
 have hT:=rG I g
 unfold subscriptTail
 refine wpAny_bind ?_
 rw [getitemInPython_of_ne hT.not_modules]
 refine wpAny_bind (wpAny_specialOf hT PySem.F.slot_dict_getitem.lookup ?_)
 have h₂:wpAny (model X.prog X.w) X.A (getItem (.ref a) u) (EP X pins σ Q) X.xe s:=uO (by omega) I g ry fun w' s3 I3 rw'=>⟨z,H,I3,rw',q⟩
 have fin:wpAny (model X.prog X.w) X.A (subscripted slice false (.ref a) u) (fun r s₃=>wpAny (model X.prog X.w) X.A (letTemporaryGo value (.ref a) r >>= fun _=>pure r) (EP X pins σ Q) X.xe s₃) X.xe s:=by
  rw [hs]
  exact wpAny_operating (wpAny_mono h₂ (fun r s₃ h₃=>wpAny_bind (wpAny_letTemporaryGo (wpAny_pure h₃))) fun _ _ x=>x)
 first
  | exact wpAny_pure (wpAny_bind fin)
  | exact wpAny_bind (wpAny_pure (wpAny_bind fin))
  | exact wpAny_bind fin
def Ce (K:W.Frag):R2:=fun x y H Q=>match x,y with
 | .ref p,.int i=>(∃xs v,(SqL K H p xs \/ SqT K H p xs)/\atI xs i=some v/\Q v H) \/ (∃v,aN H p (.int i) (some v)/\Q v H)
 | .ref p,.str k=>∃v,aN H p (.str k) (some v)/\Q v H
 | .str z,.int i=>∃c,z.length <= sizeLine/\atI z.cps.toList i=some c/\Q (.str ⟨#[c]⟩) H
 | _,_=>False
theorem Ae (hu:X.A.units + 64 < cLine):IxR X (Ce X.K):=by
 intro value slice pins s σ H x y v u Q I rx ry h hs
 cases x with
 | ref p =>
  cases y with
  | int i =>
   rcases h with h | ⟨w,g,q⟩
   ·exact xu value slice pins s σ H _ _ v u Q I rx ry h hs
   ·exact qG hu value slice pins s σ H _ _ v u Q I rx ry ⟨p,w,rfl,g,q⟩ hs
  | str k =>
   obtain ⟨w,g,q⟩:=h
   exact qG hu value slice pins s σ H _ _ v u Q I rx ry ⟨p,w,rfl,g,q⟩ hs
  | _=>exact (show False from h).elim
 | str z =>
  cases y with
  | int i=>exact xu value slice pins s σ H _ _ v u Q I rx ry h hs
  | _=>exact (show False from h).elim
 | _=>cases y <;> exact (show False from h).elim
theorem qT (hu:X.A.units + 64 < cLine):vW X (fun o i v H Q=>∃a H',o=.ref a/\cZ H a i v H'/\Q H'):=by
 intro pins s σ H o i v ov iv u Q I ro ri rv h
 obtain ⟨a,H',rfl,g,q⟩:=h
 cases ro
 exact vH (by omega) I g ri rv fun s4 I4=>⟨H',I4,q⟩
def BH:yE:=fun o i v H Q=>match o,i with
 | .ref p,.int k=>(∃xs j,H p=some (.lst xs)/\ixN xs.length k=some j/\Q (upd H p (.lst (xs.set j v)))) \/ (∃H',cZ H p (.int k) v H'/\Q H')
 | .ref p,.str k=>∃H',cZ H p (.str k) v H'/\Q H'
 | _,_=>False
theorem bO (hu:X.A.units + 64 < cLine) (hl:vW X za):vW X BH:=by
 intro pins s σ H o i v ov iv u Q I ro ri rv h
 cases o with
 | ref p =>
  cases i with
  | int k =>
   rcases h with ⟨xs,j,h1,h2,q⟩ | ⟨H',g,q⟩
   ·exact hl pins s σ H _ _ v ov iv u Q I ro ri rv ⟨p,xs,k,j,rfl,rfl,h1,h2,q⟩
   ·exact qT hu pins s σ H _ _ v ov iv u Q I ro ri rv ⟨p,H',rfl,g,q⟩
  | str k =>
   obtain ⟨H',g,q⟩:=h
   exact qT hu pins s σ H _ _ v ov iv u Q I ro ri rv ⟨p,H',rfl,g,q⟩
  | _=>exact (show False from h).elim
 | _=>cases i <;> exact (show False from h).elim
theorem BM (hu:X.A.units + 64 < cLine):OpR X (compareOp .In) (fun x y H Q=>∃a o,y=.ref a/\aN H a x o/\Q (.bl o.isSome) H):=by
 intro pins s σ H x y v u Q I rx ry h
 obtain ⟨a,o,rfl,g,q⟩:=h
 cases ry
 exact CC (by omega) I g rx fun s3 I3=>⟨.bl o.isSome,H,I3,rfl,q⟩
theorem tJ (hu:X.A.units + 64 < cLine):OpR X (compareOp .In) (fun x y H Q=>fIn X.K false x y H Q \/ ∃a o,y=.ref a/\aN H a x o/\Q (.bl o.isSome) H):=CM.or (BM hu)
theorem Aq:dg X (.builtin "len") (fun xs H Q=>∃a kvs,xs=[.ref a]/\Rd H a (.dK kvs)/\Q (.int (kvs.length:Nat)) H):=by
 intro pins s σ H xs us Q I r h
 obtain ⟨a,kvs,rfl,e,q⟩:=h
 obtain ⟨u,rfl,rfl⟩:=vals1 r
 exact Cp I e fun t s' I'=>⟨.int _,H,I',⟨_,rfl⟩,q⟩
end
end L2
namespace PySem
open Sem (wp)
section
variable {prog:Program}{w:World}{A:Around}{E:Value->Shared->Prop}{s:Shared}
end
end PySem
namespace L2
open PySem PySem.Spec PyProof.Rows
section
variable {X:Cx}{pins:List (Addr × Obj)}{σ:St}{H0:Hp}{A:Around}
end
end L2
namespace L2
open PySem PySem.Spec PyProof.Rows
section
variable {X:Cx}{pins:List (Addr × Obj)}{σ:St}{H:Hp}{s:Shared}
theorem Inv.tY {h':Heap}{t':Nat}{ch:List Addr} (I:Inv X pins σ H s) (hf:∀b ∈ ch,oK X pins H b) (k:∀b o,b ∉ ch->s.heap.get? b=some o->h'.get? b=some o):Inv X pins σ H { s with heap:=h',toks:=t' }:=by
 have nit:∀b u,H b=some u->b ∉ ch:=fun b u e z=>by rw [(hf b z).1] at e;cases e
 refine I.step (g':=s.gens) (d':=s.drawn) (ch:=ch) (fun b hb=>⟨(hf b hb).2.2.2.1,(hf b hb).2.1,(hf b hb).2.2.2.2.1,(hf b hb).2.2.2.2.2⟩) (fun b o _ _ hc e _=>k b o hc e) (fun b o _ _ hc e _=>⟨o.slots,k b o hc e⟩) (fun _ _ _ _ n=>n)
  (fun b o hc e=>⟨o,k b o hc e⟩) (fun _ _ e=>e) (fun _ _ _ e=>e) (fun b ps e=>⟨#[],by rw [e];simp⟩) (fun m hm=>?_) (fun b u e=>?_) I.bare
 ·obtain ⟨o,es,ep,ho,r⟩:=hm
  exact ⟨o,es,ep,k _ o (fun z=>(hf _ z).2.1 rfl) ho,r⟩
 ·refine (I.hok b u e).sM (fun c v hc q=>k c v ?_ q) (fun _ q=>q) fun _ _ q=>q
  rcases hc with rfl | hc
  ·exact nit _ _ e
  ·exact nit _ _ hc
theorem Inv.BN {T:Addr}{u:HO} (I:Inv X pins σ H s) (hf:oK X pins H T) (hz:X.s₀.heap.objs.size <= T) (new:cI X.prog X.w (upd H T u) s.heap T u):Inv X pins σ (upd H T u) s:=by
 obtain ⟨f0,f1,f2,f3,f4,f5⟩:=hf
 have ne0:∀b o,X.s₀.heap.get? b=some o->b ≠ T:=fun b o e=>Nat.ne_of_lt (Nat.lt_of_lt_of_le (Heap.lt_size e) hz)
 have neS:∀b v,H b=some v->b ≠ T:=fun b v e z=>by rw [z,f0] at e;cases e
 refine ⟨I.ok,I.os,I.bare,⟨I.base.keep,I.base.slot,fun b o e n hx=>by rw [aw (ne0 b o e)];exact I.base.free b o e n hx,I.base.there,fun b xs e=>by
   have:=I.base.pK b xs e
   rw [aw (neS b _ this)];exact this,fun b o v e=>by
   have:=I.base.oj b o v e
   rw [aw (neS b _ this)];exact this,fun b ps e=>by
   obtain ⟨more,q⟩:=I.base.qf b ps e
   exact ⟨more,by rw [aw (neS b _ q)];exact q⟩⟩,I.loc,I.cell,by rw [aw (Ne.symm f1)];exact I.free,fun x c e=>by rw [aw (f4 x c e)];exact I.jd x c e,
  fun p hp=>by rw [aw (f5 p hp)];exact I.pin p hp,fun b v e=>?_,I.len⟩
 by_cases hb:b=T
 ·subst hb;rw [ak] at e;cases e;exact new
 ·rw [aw hb] at e
  exact (I.hok b v e).sM (fun _ _ _ q=>q) (fun c q=>by rw [aw (neS c _ q)];exact q) fun c xs q=>by rw [aw (neS c _ q)];exact q
end
theorem Bf {P:Program}{w:World}{k:Key}{u:Value} (h:(cn P w).is k u=true):RelV (kV k) u:=by
 cases k with
 | inl i=>obtain ⟨t,e⟩:=Value.isInt_shape (show Value.isInt i u=true from h);exact ⟨t,e⟩
 | inr x=>obtain ⟨t,e⟩:=Value.isStrOf_shape (show Value.isStrOf x u=true from h);exact ⟨t,e⟩
section
variable {X:Cx}
end
end L2
namespace L2
open PySem PySem.Spec PyProof.Rows
theorem jP {α β:Type}{F:α->β->Prop}:∀{l₁:List α}{l₂:List β},l₁.length=l₂.length->(∀(i:Nat) a b,l₁[i]?=some a->l₂[i]?=some b->F a b)->Paired F l₁ l₂
 | [],[],_,_=>.nil
 | [],_ :: _,h,_=>by simp at h
 | _ :: _,[],h,_=>by simp at h
 | x :: xs,y :: ys,h,f=>.cons (f 0 x y rfl rfl) (jP (by simpa using h) fun i a b ha hb=>f (i + 1) a b (by simpa using ha) (by simpa using hb))
theorem uX {α β:Type}{F:α->β->Prop}{l₁:List α}{l₂:List β} (h:Paired F l₁ l₂):∀{i:Nat}{a:α}{b:β},l₁[i]?=some a->l₂[i]?=some b->F a b:=by
 induction h with
 | nil=>intro i a b h;simp at h
 | cons r t ih =>
  intro i a b ha hb
  cases i with
  | zero=>simp only [List.getElem?_cons_zero,Option.some.injEq] at ha hb;subst ha hb;exact r
  | succ j=>exact ih (by simpa using ha) (by simpa using hb)
section
variable {X:Cx}{tg:Expr}
theorem yh (hc:X.calm=true:=by rfl):dg X (.type "list") (fun xs H Q=>∃d kvs,xs=[.ref d]/\Rd H d (.dK kvs)/\∀l,H l=none->Q (.ref l) (upd H l (.lst (kvs.map fun kv=>kV kv.1)))):=by
 intro pins s σ H xs us Q I r h
 obtain ⟨d,kvs,rfl,e,q⟩:=h
 obtain ⟨u,rfl,rfl⟩:=vals1 r
 obtain ⟨z,hs,vs,rel,dd⟩:=jY I.hok e
 obtain ⟨ep,dat⟩:=dd.dictAt
 have hl:=rel.length
 refine W.kdl_call (W.kdl_dict (knd:=cn X.prog X.w) (kvs:=vs) (ep:=ep) hs) (I.ok.hd hc) dat (by omega) fun h' tk acc c hk hS hacc=>?_
 have hp:=I.hok.fresh (Nat.le_refl s.heap.objs.size)
 refine ⟨.ref s.heap.objs.size,_,I.laid (a:=s.heap.objs.size) (o:=.lst (kvs.map fun kv=>kV kv.1)) (t':=tk) hk (Nat.le_refl _) ⟨by rw [List.length_map];exact z,acc.toList,c,?_,by simpa using hS⟩,rfl,q _ hp⟩
 have hsz:acc.size=vs.length:=hacc.1
 refine jP (by simp [hsz,hl]) fun i x y hx hy=>?_
 rw [List.getElem?_map] at hx
 obtain ⟨k,v,hv,hk⟩:=hacc.2 i y (by rw [<- Array.getElem?_toList];exact hy)
 cases hkv:kvs[i]? with
 | none=>rw [hkv] at hx;cases hx
 | some kv =>
  rw [hkv] at hx
  have hx':kV kv.1=x:=Option.some.inj hx
  have:=congrArg (fun l=>l[i]?) rel.keys
  simp only [List.getElem?_map,hkv,hv] at this
  have hkk:kv.1=k:=by simpa using this
  rw [<- hx',hkk]
  exact Bf hk
end
section
variable {prog:Program}{w:World}{K:Type} [DecidableEq K] {knd:KeyKind prog w K}{A:Around}{E:Value->Shared->Prop}{s:Shared}
theorem jF {d:Addr}{Q:Unit->Shared->Prop} (hd:(d == sysModules)=false) (q:Q () s):wpAny (model prog w) A (Builtin.Dict.showsAll d) Q E s:=by
 unfold Builtin.Dict.showsAll
 rw [if_neg (by rw [hd];exact Bool.false_ne_true)]
 exact wpAny_pure q
theorem nW {k:K}{v:Value}{es:List DictEntry}{lvs:List (K × Value)} (h:Pairs knd es lvs):valueAt lvs k=some v->∃j e,(es.findIdx? fun e=>knd.is k e.key)=some j/\es[j]?=some e/\e.val=v:=by
 induction h with
 | nil=>intro z;cases z
 | @cons e kv es lvs h1 h2 t ih =>
  intro z
  by_cases hk:kv.1=k
  ·subst hk
   have:valueAt (kv :: lvs) kv.1=some kv.2:=by simp [valueAt,List.find?_cons]
   rw [this] at z
   exact ⟨0,e,by rw [List.findIdx?_cons,if_pos h1],rfl,by rw [h2];exact Option.some.inj z⟩
  ·have:valueAt (kv :: lvs) k=valueAt lvs k:=by simp [valueAt,List.find?_cons,hk]
   rw [this] at z
   obtain ⟨j,f,hj,hf,hv⟩:=ih z
   have hn:¬ knd.is k e.key=true:=fun q=>hk (knd.inj _ _ _ h1 q)
   exact ⟨j + 1,f,by rw [List.findIdx?_cons,if_neg hn,hj];rfl,hf,hv⟩
theorem tu {id:String}{a b:Addr}{kvs lvs:List (K × Value)}{Q:Bool->Shared->Prop} (hda:(a == sysModules)=false) (hdb:(b == sysModules)=false) (ha:s.heap.DictOf knd a kvs) (hb:s.heap.DictOf knd b lvs) (hl:kvs.length=lvs.length)
  (hv:∀(i:Nat) k v,kvs[i]?=some (k,v)->∃v',valueAt lvs k=some v'/\SeqAt.EqAt A s v v' true) (q:Q true s):wpAny (model prog w) A (Builtin.Dict.samePairs id a b) Q E s:=by
 obtain ⟨o,es,ep,ho,hx,hd,hk,hp,hn⟩:=ha
 obtain ⟨o2,es2,ep2,ho2,hx2,hd2,hk2,hp2,hn2⟩:=hb
 have hz:es.size=kvs.length:=by rw [<- hp.length];simp
 have hz2:es2.size=lvs.length:=by rw [<- hp2.length];simp
 unfold Builtin.Dict.samePairs
 refine wpAny_bind (jF hda ?_)
 refine wpAny_bind (jF hdb ?_)
 refine wpAny_bind (wpAny_dictEntries ho hd ?_)
 refine wpAny_bind (wpAny_dictEntries ho2 hd2 ?_)
 rw [if_neg (by simp;omega)]
 refine wpAny_bind (wpAny_dictEpoch ho hd ?_)
 refine wpAny_bind ?_
 rw [Std.Legacy.Range.forIn_eq_forIn_range']
 simp only [Std.Legacy.Range.size,Nat.sub_zero,Nat.add_sub_cancel,Nat.div_one]
 refine wpAny_forIn_list _ (fun rest b s'=>b=(none,())/\s'=s/\∀i ∈ rest,i < es.size) _ ?_ ?_ _ _ ⟨rfl,rfl,fun i hi=>?_⟩
 ·rintro i rest c s' ⟨rfl,rfl,hr⟩
  have hi:i < es.size:=hr i (by simp)
  refine wpAny_bind (wpAny_dictEntries ho hd ?_)
  rw [Array.getElem?_eq_getElem hi]
  obtain ⟨⟨k,v⟩,hkv⟩:∃kv,kvs[i]?=some kv:=⟨kvs[i]'(by omega),List.getElem?_eq_getElem (by omega)⟩
  obtain ⟨hkey,hval⟩:=hp.get? (e:=es[i]) (by simp [hi]) hkv
  obtain ⟨k',hk',hh⟩:=hk es[i] (Array.getElem_mem hi)
  obtain ⟨v',hv',he⟩:=hv i k v hkv
  have hkk:k'=k:=knd.inj _ _ _ hk' hkey
  subst hkk
  show wpAny _ _ (holding [es[i].key,es[i].val] _ >>= _) _ _ _
  refine wpAny_bind (wpAny_holding ?_)
  rw [hh,hval]
  refine wpAny_bind (wpAny_dictFind_of hkey ho2 hd2 hk2 ?_)
  obtain ⟨j,f,hj,hf,hfv⟩:=nW hp2 hv'
  rw [<- List.findIdx?_toArray,Array.toArray_toList] at hj
  rw [Array.getElem?_toList] at hf
  rw [hj]
  refine wpAny_bind (wpAny_dictEntries ho2 hd2 ?_)
  rw [hf]
  show wpAny _ _ (holding [f.val] (eqBool v f.val)) _ _ _
  rw [hfv]
  refine wpAny_holding (he _ _ _ _ ?_)
  rw [if_neg (by decide)]
  refine wpAny_bind (wpAny_dictEpoch ho hd ?_)
  rw [if_neg (by simp)]
  exact wpAny_pure ⟨rfl,rfl,fun z hz=>hr z (List.mem_cons_of_mem _ hz)⟩
 ·rintro c s' ⟨rfl,rfl,_⟩
  exact wpAny_pure q
 ·have:=(List.mem_range'_1.mp hi).2
  omega
end
theorem uf {κ:Type} [DecidableEq κ]:∀{kvs:List (κ × V)}{i:Nat}{k:κ}{v:V},(kvs.map (·.1)).Nodup->kvs[i]?=some (k,v)->cF kvs k=some v
 | [],i,k,v,_,h=>by simp at h
 | p :: r,0,k,v,_,h=>by
  simp only [List.getElem?_cons_zero,Option.some.injEq] at h
  subst h
  exact cM (p:=(k,v)) rfl
 | p :: r,i + 1,k,v,hn,h=>by
  rw [List.map_cons] at hn
  have hr:=List.nodup_cons.mp hn
  have hi:r[i]?=some (k,v):=by simpa using h
  have hne:¬ p.1=k:=fun z=>hr.1 (by rw [z];exact List.mem_map_of_mem (f:=(·.1)) (List.mem_of_getElem? hi))
  rw [cQ hne]
  exact uf hr.2 hi
section
variable {X:Cx}
def wI (K:W.Frag) (H:Hp) (v v':V):Prop:=(v=v'/\o8 v=true) \/ ∃p q xs,v=.ref p/\v'=.ref q/\SqL K H p xs/\SqL K H q xs/\xs.all o8=true
theorem yz {pins:List (Addr × Obj)}{σ:St}{H:Hp}{s:Shared}{A:Around}{v v':V}{u u':Value} (I:Inv X pins σ H s) (hu:A.units < cLine) (h:wI X.K H v v') (r:RelV v u) (r':RelV v' u'):SeqAt.EqAt A s u u' true:=by
 rcases h with ⟨rfl,hf⟩ | ⟨p,q,xs,rfl,rfl,hp,hq,hf⟩
 ·exact lK hf r r' A s
 ·cases r
  cases r'
  by_cases hpq:p=q
  ·subst hpq;exact .same _
  ·obtain ⟨its,r1,⟨o,n,e1,c1,_,d1⟩,_⟩:=I.list hp
   obtain ⟨jts,r2,⟨o2,n2,e2,c2,_,d2⟩,_⟩:=I.list hq
   have l1:=r1.length
   have l2:=r2.length
   have hR:=SeqAt.RcAt.lists (A:=A) (s:=s) (e:=fun _=>true) (l:=p) (b:=q) (items:=its.toArray) (items2:=jts.toArray) ⟨o,e1,c1,n,d1⟩ ⟨o2,e2,c2,n2,d2⟩ (by simp;omega) hu (fun j h1 h2=>by
    simp at h1 h2
    obtain ⟨x,hx⟩:∃x,xs[j]?=some x:=⟨xs[j]'(by omega),List.getElem?_eq_getElem (by omega)⟩
    obtain ⟨u1,g1,w1⟩:=r1.get hx
    obtain ⟨u2,g2,w2⟩:=r2.get hx
    have z1:its.toArray[j]'(by simpa using h1)=u1:=by
     have:=List.getElem?_eq_getElem h1
     rw [g1] at this
     simpa using (Option.some.inj this).symm
    have z2:jts.toArray[j]'(by simpa using h2)=u2:=by
     have:=List.getElem?_eq_getElem h2
     rw [g2] at this
     simpa using (Option.some.inj this).symm
    rw [z1,z2]
    exact lK (List.all_eq_true.mp hf x (List.mem_of_getElem? hx)) w1 w2 _ _)
   have:((List.range its.toArray.size).all fun _=>true)=true:=by simp
   rw [this] at hR
   exact .of_refs hpq hR
theorem A3 (hu:X.A.units + 64 < cLine):OpR X (compareOp .Eq) (fun x y H Q=>∃a b kvs lvs,x=.ref a/\y=.ref b/\Rd H a (.dK kvs)/\Rd H b (.dK lvs)/\kvs.length=lvs.length /\
  (∀k v,cF kvs k=some v->∃v',cF lvs k=some v'/\wI X.K H v v')/\Q (.bl true) H):=by
 intro pins s σ H x y v u Q I rx ry h
 obtain ⟨a,b,kvs,lvs,rfl,rfl,ha,hb,hl,hv,q⟩:=h
 cases rx
 cases ry
 obtain ⟨z,hs,vs,rel,dd⟩:=jY I.hok ha
 obtain ⟨z2,hs2,vs2,rel2,dd2⟩:=jY I.hok hb
 have e1:=rel.length
 have e2:=rel2.length
 refine wpAny_richCompare_same_room (op:=.Eq) dd.typeIs dd2.typeIs PySem.F.slot_dict_eq (wpAny_call_entry PySem.F.slot_dict_eq dd.typeIs PySem.F.entry_dict_eq ?_ (PySem.F.args_dict_eq_2 _ _)) (by omega)
 show wpAny _ _ (Builtin.Dict.dictSlotArgs "__eq__" ⟨[.ref a,.ref b],[]⟩ >>= _) _ _ _
 refine wpAny_bind ?_
 unfold Builtin.Dict.dictSlotArgs
 refine wpAny_bind (wpAny_notOrdered_dict dd.typeIs ?_)
 show wpAny _ _ (pure (Value.ref a,Value.ref b)) _ _ _
 refine wpAny_pure ?_
 refine wpAny_bind (wpAny_isInstance (T:="dict") (b:=true) dd2.typeIs (by rw [isSubtype_type];kernel_rfl) ?_)
 show wpAny _ _ (Builtin.Dict.samePairs "dict.__eq__" a b >>= _) _ _ _
 refine wpAny_bind (tu hs hs2 dd dd2 (by omega) (fun i k v hi=>?_) ?_)
 ·obtain ⟨⟨k',v'⟩,hkv⟩:∃kv,kvs[i]?=some kv:=⟨kvs[i]'(by have:=(List.getElem?_eq_some_iff.mp hi).1;omega),List.getElem?_eq_getElem _⟩
  have hr:k'=k/\RelV v' v:=uX rel hkv hi
  obtain ⟨rfl,hrv⟩:=hr
  obtain ⟨w',hw,hq⟩:=hv k' v' (uf (by rw [rel.keys];exact (dd.dictAt.choose_spec).nodup) hkv)
  have hval:=rel2.val k'
  rw [hw] at hval
  cases hvv:valueAt vs2 k' with
  | none=>rw [hvv] at hval;exact (show False from hval).elim
  | some u' =>
   rw [hvv] at hval
   exact ⟨u',rfl,yz I (show X.A.units + 1 < cLine by omega) hq hrv hval⟩
 ·show wpAny _ _ (ret (.bool true)) _ _ _
  exact wpAny_pure ⟨.bool true,rfl,(fun z=>nomatch z),.bl true,H,I,rfl,q⟩
end
end L2
namespace L2
open PySem PySem.Spec PyProof.Rows
section
variable {X:Cx}
structure pT (z y:Str) (ws:List Str):Prop where
 h1:(decide (z.length < y.length) || decide (Builtin.Str.strKind z < Builtin.Str.strKind y))=false
 hy:(y.length == 0)=false
 hf:(Builtin.Str.occurrences z y 0 z.length (z.length + 1)).isEmpty=false
 hx:z.length <= sizeLine
 hn:ws.length <= sizeLine
 e:Builtin.Str.partsBetween z (Builtin.Str.occurrences z y 0 z.length (z.length + 1)) y.length=ws
theorem o7:∀(tk:Nat) (ws:List Str),Vals (ws.map V.str) (strsFrom tk ws)
 | _,[]=>.nil
 | tk,x :: r=>.cons ⟨_,rfl⟩ (o7 (tk + 1) r)
theorem vU:MtR X "str.split" (fun x xs H Q=>∃(z y:Str) (ws:List Str),x=.str z/\xs=[.str y]/\pT z y ws/\∀l,H l=none->Q (.ref l) (upd H l (.lst (ws.map V.str)))):=by
 intro pins s σ H x xs v us Q I rx rs h
 obtain ⟨z,y,ws,rfl,rfl,ok,q⟩:=h
 obtain ⟨t,rfl⟩:=rx
 obtain ⟨u,rfl,ru⟩:=rs.one
 obtain ⟨t2,rfl⟩:=ru
 obtain ⟨h1,hy,hf,hx,hn,e⟩:=ok
 subst e
 refine call_meets F.slot_str_split (typeIs_str _ _ _) F.entry_str_split (F.args_str_split_2 _ _) (meets_str_split_sep z y t t2 h1 hy hf hx hn) ?_
 exact ⟨.ref _,_,I.AV (o7 _ _) (by rw [List.length_map];exact hn),rfl,q _ I.fresh⟩
theorem m_split {o e:Expr}{to:TE}{t:TA}{apos cpos:Pos} (ho:PE X o to) (ha:PA X [e] t) (hbase:attributeBase o "split" X.env (eval o X.env)=eval o X.env:=by rfl)
  (hfew:((backTo cpos (starEach [e] X.env)).all (fun x=>!x.1) && (backToKw cpos (keywordEach [] X.env)).all (fun x=>x.1.isSome)
   && decide ([e].length + ([]:List Keyword).length + (if ([]:List Keyword).isEmpty then 0 else 1) < 30))=true:=by rfl)
  (hline:(apos.endLine == cpos.line)=true:=by rfl) (hs:starEach [e] X.env=(false,eval e X.env) :: starEach [] X.env:=by rfl) (hplain:(backTo cpos (starEach [] X.env)).any (·.1)=false:=by rfl) :
  PE X (.Call (.Attribute o "split" apos) [e] [] cpos) (tBM X.K "str" (fun x xs H Q=>∃(z y:Str) (ws:List Str),x=.str z/\xs=[.str y]/\pT z y ws/\∀l,H l=none->Q (.ref l) (upd H l (.lst (ws.map V.str)))) to t) :=
 xi PySem.F.plainAttrs_str PySem.F.slot_str_split PySem.F.type_str_split vU ho ha hbase hfew hline hs hplain
def l9 (z:Str) (n:Int):Str:=if n < 1 then Str.empty else if (n == 1 || z.length == 0)=true then z else ⟨(List.replicate n.toNat z.cps).foldl (· ++ ·) #[]⟩
def Bq:R2:=fun x y H Q=>match x,y with
 | .int i,.int j=>wY i j/\Q (.int (i * j)) H
 | .str z,.int n=>n < 1000/\-1000 < n/\z.length <= 1000/\Q (.str (l9 z n)) H
 | .ref p,.int k=>∃xs,H p=some (.lst xs)/\-(2 ^ 63) <= k/\k < 2 ^ 63/\xs.length * k.toNat <= sizeLine/\∀l,H l=none->Q (.ref l) (upd H l (.lst (List.replicate k.toNat xs).flatten))
 | _,_=>False
theorem uY (xs:List (Array Nat)):∀acc:Array Nat,(xs.foldl (· ++ ·) acc).size=acc.size + (xs.map (·.size)).sum:=by
 induction xs with
 | nil=>intro acc;simp
 | cons x r ih=>intro acc;rw [List.foldl_cons,ih,Array.size_append,List.map_cons,List.sum_cons];omega
theorem qQ (z:Str) (n:Nat):(⟨(List.replicate n z.cps).foldl (· ++ ·) #[]⟩:Str).length=n * z.length:=by
 show ((List.replicate n z.cps).foldl (· ++ ·) #[]).size=_
 rw [uY,List.map_replicate]
 have:∀m k:Nat,(List.replicate m k).sum=m * k:=fun m k=>by
  induction m with
  | zero=>simp
  | succ m ih=>rw [List.replicate_succ,List.sum_cons,ih,Nat.succ_mul];omega
 rw [this]
 simp [Str.length]
theorem dh:OpR X (binaryOp .Mult) Bq:=by
 intro pins s σ H x y v u Q I rx ry h
 cases x with
 | int i =>
  cases y with
  | int j=>exact BR pins s σ H _ _ v u Q I rx ry h
  | _=>exact (show False from h).elim
 | str z =>
  cases y with
  | int n =>
   obtain ⟨h1,h2,h3,q⟩:=h
   obtain ⟨t,rfl⟩:=rx
   obtain ⟨t2,rfl⟩:=ry
   have hb:¬ n < 1->n.toNat * z.length <= 1000000:=fun hn=>by
    have e1:n.toNat <= 1000:=by omega
    exact Nat.le_trans (Nat.mul_le_mul e1 h3) (by decide)
   refine P.mul_str (by rw [decide_eq_false (by omega),decide_eq_false (by omega)];rfl) (fun hn _=>?_) (fun hn _=>?_) ?_
   ·intro z1
    have h0:(0:Int) < n:=by omega
    have:=Int.lt_mul_of_ediv_lt h0 z1
    have e2:((z.length:Int)) * n <= 1000 * 1000:=Int.mul_le_mul (by omega) (by omega) (by omega) (by decide)
    omega
   ·unfold Builtin.Str.tooLong
    have:=hb hn
    rw [Nat.mul_comm] at this
    refine decide_eq_false ?_
    rw [sizeLine_eq]
    omega
   ·unfold l9 at q
    by_cases c1:n < 1
    ·rw [if_pos c1] at q ⊢
     exact ⟨by decide,.str _,H,I.tok _,⟨_,rfl⟩,q⟩
    ·rw [if_neg c1] at q ⊢
     by_cases c2:(n == 1 || z.length == 0)=true
     ·rw [if_pos c2] at q ⊢
      exact ⟨.str _,H,I,⟨_,rfl⟩,q⟩
     ·rw [if_neg c2] at q ⊢
      refine ⟨?_,.str _,H,I.tok _,⟨_,rfl⟩,q⟩
      rw [qQ]
      have:=hb c1
      rw [sizeLine_eq]
      omega
  | _=>exact (show False from h).elim
 | ref p =>
  cases y with
  | int k =>
   obtain ⟨xs,h1,h2,h3,h4,q⟩:=h
   exact Ay pins s σ H _ _ v u Q I rx ry ⟨p,k,xs,rfl,rfl,h1,h2,h3,h4,q⟩
  | _=>exact (show False from h).elim
 | _=>cases y <;> exact (show False from h).elim
end
end L2
namespace L2
open PySem PySem.Spec PyProof.Rows
section
variable {X:Cx}
def zN (K:W.Frag) (H:Hp) (a b:Addr):Prop:=∃kvs lvs,Rd H a (.dK kvs)/\Rd H b (.dK lvs)/\kvs.length=lvs.length/\∀k v,cF kvs k=some v->∃v',cF lvs k=some v'/\wI K H v v'
def CH (K:W.Frag):R2:=fun x y H Q=>match x,y with
 | .ref p,.ref q=>((∃d e,iL K H (.ref p) d/\iL K H (.ref q) e/\SeqAt.shaped d=true/\SeqAt.shaped e=true/\Q (.bl (PyData.eqv d e)) H) \/ (∃xs,SqL K H p xs/\SqL K H q xs/\xs.all o8=true/\Q (.bl true) H)) \/ (zN K H p q/\Q (.bl true) H)
 | x,y=>vi x y=true/\Q (.bl (decide (x=y))) H
theorem bV (hu:X.A.units + 64 < cLine):OpR X (compareOp .Eq) (CH X.K):=((Cc hu).or (A3 hu)).imp fun x y H Q q=>by
 by_cases hr:∃p q,x=V.ref p/\y=V.ref q
 ·obtain ⟨p,q',rfl,rfl⟩:=hr
  rcases q with q | ⟨⟨kvs,lvs,h1,h2,h3,h4⟩,h5⟩
  ·exact .inl q
  ·exact .inr ⟨p,q',kvs,lvs,rfl,rfl,h1,h2,h3,h4,h5⟩
 ·refine .inl ?_
  cases x <;> cases y <;> first | exact q | exact absurd ⟨_,_,rfl,rfl⟩ hr
theorem b9:dg X (.builtin "len") (fun xs H Q=>(∃x n,xs=[x]/\zP X.K x H n/\Q (.int n) H) \/ ∃a kvs,xs=[.ref a]/\Rd H a (.dK kvs)/\Q (.int (kvs.length:Nat)) H):=BG.or Aq
theorem p9 (hc:X.calm=true:=by rfl):dg X (.type "list") (fun xs H Q=>(∃p ys,xs=[.ref p]/\(SqL X.K H p ys \/ SqT X.K H p ys)/\∀l,H l=none->Q (.ref l) (upd H l (.lst ys))) \/ ∃d kvs,xs=[.ref d]/\Rd H d (.dK kvs)/\∀l,H l=none->Q (.ref l) (upd H l (.lst (kvs.map fun kv=>kV kv.1)))):=gB.or (yh hc)
end
end L2
namespace L2
open PySem PySem.Spec PyProof.Rows
section
variable {X:Cx}{pins:List (Addr × Obj)}{σ:St}{H:Hp}{s:Shared}
def Itz (K:W.Frag) (a b:Addr):It :=
  ⟨fun i H=>∃xs ys x y,SqL K H a xs/\SqL K H b ys/\xs[i]?=some x/\ys[i]?=some y,
   fun i H v H'=>∃T x y,v=.ref T/\H T=none/\H'=upd H T (.tup [x,y])/\∀xs ys,SqL K H a xs->SqL K H b ys->xs[i]?=some x/\ys[i]?=some y,
   fun i H=>∃xs ys,SqL K H a xs/\SqL K H b ys/\(xs.length <= i \/ ys.length <= i)⟩
def A2 (z TI TO i1 i2 a b:Addr) (i:Nat) (h:Heap):Prop:=IsZip h z TI TO .none/\IsPair h TI (.ref i1) (.ref i2)/\(∃u v,IsPair h TO u v)/\h.IsListIter i1 a i/\h.IsListIter i2 b i
theorem wy {P:Program}{w:World}{K:W.Frag}{elts:List Expr}{x1}{pos:Pos}{a b z TI TO i1 i2:Addr} (D:ZipApart z TI TO i1 i2 a b) :
  Turn P w K (.Tuple elts x1 pos) (Itz K a b) [z,TI,TO,i1,i2] z (A2 z TI TO i1 i2 a b) where
 mem:=by simp
 obj:=fun i h st c hc=>by
  obtain ⟨hz,hI,⟨u,v,hO⟩,⟨o1,e1,_,d1⟩,⟨o2,e2,_,d2⟩⟩:=st
  simp only [List.mem_cons,List.not_mem_nil,or_false] at hc
  rcases hc with rfl | rfl | rfl | rfl | rfl
  ·exact ⟨_,hz,fun v q=>by cases (show Data.fields _=Data.cell v from q)⟩
  ·exact ⟨_,hI,fun v q=>by cases (show Data.seq _ _=Data.cell v from q)⟩
  ·exact ⟨_,hO,fun v q=>by cases (show Data.seq _ _=Data.cell v from q)⟩
  ·exact ⟨o1,e1,fun v q=>by rw [d1] at q;cases q⟩
  ·exact ⟨o2,e2,fun v q=>by rw [d2] at q;cases q⟩
 keep:=fun i h h' st k=>by
  obtain ⟨hz,hI,⟨u,v,hO⟩,h1,h2⟩:=st
  exact ⟨k z (by simp) _ hz,k TI (by simp) _ hI,⟨u,v,k TO (by simp) _ hO⟩,h1.at fun o e=>k i1 (by simp) o e,h2.at fun o e=>k i2 (by simp) o e⟩
 item:=by
  intro X hP hw hK hc i pins s σ H E I hf st hg
  subst hP hw hK
  obtain ⟨xs,ys,x,y,hq,hq',hx,hy⟩:=hg
  obtain ⟨its,rv,p,hz'⟩:=I.list hq
  obtain ⟨its',rv',p',hz''⟩:=I.list hq'
  obtain ⟨u,hu,ru⟩:=rv.get hx
  obtain ⟨v,hv,rv2⟩:=rv'.get hy
  obtain ⟨hz,hI,⟨u0,v0,hO⟩,h1,h2⟩:=st
  have hT:=I.u7 (H':=H) (Nat.le_refl s.heap.objs.size) (I.hok.fresh (Nat.le_refl _))
  have lt:∀{c:Addr}{o:Obj},s.heap.get? c=some o->s.heap.objs.size ≠ c:=fun e=>Nat.ne_of_gt (Heap.lt_size e)
  refine wpAny_pyNext_zip_item D hz hI hO h1 h2 p.isList p'.isList (x:=u) (y:=v) (by simpa using hu) (by simpa using hv) fun h' a1 a2 a3 a4 a5 a6 a7=>?_
  have I1:Inv X pins σ H { s with heap:=h',toks:=s.toks }:=I.tY (ch:=[z,TI,TO,i1,i2]) hf fun c o hc q=>a7 c o (fun e=>hc (by simp [e])) (fun e=>hc (by simp [e])) (fun e=>hc (by simp [e])) (fun e=>hc (by simp [e])) q
  have I2:=I1.BN (u:=.tup [x,y]) hT I.sz ⟨by show 2 <= sizeLine;decide,[u,v],.cons ru (.cons rv2 .nil),⟨_,a5,rfl,_,rfl⟩⟩
  refine ⟨_,rfl,wpAny_letOwnedTupleGo_zip (s:={ s with heap:=h' }) a1 fun h2' hz2 hs2=>?_⟩
  have f0:=hf z (by simp)
  have hI':h'.get? TI=_:=a7 TI _ D.TIz D.TITO D.TIi1 D.TIi2 hI
  have zT:z ≠ s.heap.objs.size:=Ne.symm (lt hz)
  refine ⟨.ref s.heap.objs.size,_,I2.turned (t':=s.toks) (it:=z) (fun c o hc q=>(hs2.2 c hc).trans q) (by rw [aw zT];exact f0.1) f0.2.1 f0.2.2.2.1 f0.2.2.2.2.1 f0.2.2.2.2.2,rfl,
   ⟨_,x,y,rfl,hT.1,rfl,fun xs' ys' q q'=>by rw [I.ni q hq,I.ni q' hq'];exact ⟨hx,hy⟩⟩,⟨hz2,(hs2.2 TI D.TIz).trans hI',⟨u,v,(hs2.2 TO D.TOz).trans a2⟩,a3.at fun o q=>(hs2.2 i1 D.i1z).trans q,a4.at fun o q=>(hs2.2 i2 D.i2z).trans q⟩,fun c hc=>?_⟩
  have cT:c ≠ s.heap.objs.size:=by
   simp only [List.mem_cons,List.not_mem_nil,or_false] at hc
   rcases hc with rfl | rfl | rfl | rfl | rfl
   ·exact zT
   ·exact Ne.symm (lt hI)
   ·exact Ne.symm (lt hO)
   ·obtain ⟨o,e,_⟩:=h1;exact Ne.symm (lt e)
   ·obtain ⟨o,e,_⟩:=h2;exact Ne.symm (lt e)
  rw [aw cT]
  exact (hf c hc).1
 done:=by
  intro X hP hw hK hc i pins s σ H E I hf st hg
  subst hP hw hK
  obtain ⟨xs,ys,hq,hq',hx⟩:=hg
  obtain ⟨its,rv,p,hz'⟩:=I.list hq
  obtain ⟨its',rv',p',hz''⟩:=I.list hq'
  obtain ⟨hz,hI,⟨u0,v0,hO⟩,h1,h2⟩:=st
  have hl:=rv.length
  have hl':=rv'.length
  refine wpAny_pyNext_zip_end (I.ok.hd hc) D hz hI hO h1 h2 p.isList p'.isList (by simp;omega) fun h' eb=>⟨rfl,?_⟩
  exact I.tY (ch:=[z,TI,TO,i1,i2]) hf fun c o hc q=>eb c o (fun e=>hc (by simp [e])) (fun e=>hc (by simp [e])) (fun e=>hc (by simp [e])) (fun e=>hc (by simp [e])) q
 self:=fun _ _ _ _ _ st h=>wpAny_pyIter_zip st.1 h
def CJ (K:W.Frag) (ta:TA):TI:=fun σ H R=>ta σ H fun vs H1=>∃a b,vs=[.ref a,.ref b]/\(∃xs,SqL K H1 a xs)/\(∃ys,SqL K H1 b ys)/\R (Itz K a b) H1
theorem u5:bootBuiltins "zip"=some (.type "zip"):=by decide +kernel
theorem Ak {a b:Expr}{ta:TA}{p pos:Pos}{elts:List Expr}{x1}{pos2:Pos} (hg:Gl X "zip") (hm:X.mg "zip"=none) (ha:PA X [a,b] ta) (he:starEach [a,b] X.env=(false,eval a X.env) :: starEach [b] X.env:=by rfl)
  (hpl:(backTo pos (starEach [b] X.env)).any (·.1)=false:=by rfl):PI X (.Tuple elts x1 pos2) (.Call (.Name "zip" p) [a,b] [] pos) (CJ X.K ta):=by
 intro pins s σ H R I h
 refine Call_ (nD I hg hm u5 (PyProof.Rows.callWith_type1 (thn (ha pos pins s σ H _ I h) fun us s1 ⟨vs,H1,I1,r1,q1⟩=>?_) he hpl))
 obtain ⟨a,b,e,⟨xs,hq⟩,⟨ys,hq'⟩,q⟩:=q1
 subst e
 obtain ⟨u,v,rfl,ru,rv⟩:=vals2 r1
 cases ru
 cases rv
 obtain ⟨its,rv1,p1,hz1⟩:=I1.list hq
 obtain ⟨its',rv2,p2,hz2⟩:=I1.list hq'
 have lt:∀{c:Addr}{zs:Array Value},s1.heap.IsList c zs->c < s1.heap.objs.size:=fun h=>by obtain ⟨o,e,_⟩:=h;exact Heap.lt_size e
 refine call_zip_2 p1.isList p2.isList fun h' hz hI hO h1 h2 hsz hk=>?_
 refine wpAny_pyIter_zip hz ?_
 refine ⟨s1.heap.objs.size + 4,[s1.heap.objs.size + 4,s1.heap.objs.size + 2,s1.heap.objs.size + 3,s1.heap.objs.size,s1.heap.objs.size + 1],_,_,H1,rfl,I1.kept (t':=s1.toks) hk,wy (zipApart_new (lt p1.isList) (lt p2.isList)),⟨hz,hI,⟨_,_,hO⟩,h1,h2⟩,fun c hc=>?_,q⟩
 have le:s1.heap.objs.size <= c:=by
  simp only [List.mem_cons,List.not_mem_nil,or_false] at hc
  rcases hc with h | h | h | h | h
  ·rw [h];exact Nat.le_add_right _ _
  ·rw [h];exact Nat.le_add_right _ _
  ·rw [h];exact Nat.le_add_right _ _
  ·rw [h];exact Nat.le_refl _
  ·rw [h];exact Nat.le_add_right _ _
 exact I1.u7 le (I1.hok.fresh le)
end
theorem yr {K:PySem.W.Frag}{a b:Addr}{xs ys:List V}{g:TG}{tb:TS}{D:Ends}{σ:St}{H:Hp} (Pv:Nat->St->Hp->Prop) (h0:Pv 0 σ H) (hl:∀i σ H,i <= xs.length->Pv i σ H->SqL K H a xs/\SqL K H b ys) (hle:xs.length=ys.length)
  (hs:∀i x y σ H T,xs[i]?=some x->ys[i]?=some y->Pv i σ H->H T=none->g (.ref T) σ (upd H T (.tup [x,y])) fun σ2 H2=>tb { D with nx:=Pv (i + 1),ct:=Pv (i + 1),bk:=D.nx } σ2 H2) (hd:∀σ H,Pv xs.length σ H->D.nx σ H) :
  ∃W:Nat->Nat->St->Hp->Prop,(∃m,W 0 m σ H)/\∀i m σ H,W i m σ H ->
   ((Itz K a b).stop i H/\D.nx σ H) \/ ((Itz K a b).go i H/\∃N:St->Hp->Prop,(∀σ' H',N σ' H'->∃m',m' < m/\W (i + 1) m' σ' H')/\∀x H',(Itz K a b).yld i H x H'->g x σ H' fun σ2 H2=>tb { D with nx:=N,ct:=N,bk:=D.nx } σ2 H2):=by
 refine ⟨fun i m σ H=>m=xs.length - i/\i <= xs.length/\Pv i σ H,⟨xs.length,by simp,Nat.zero_le _,h0⟩,?_⟩
 rintro i m σ H ⟨rfl,hi,p⟩
 obtain ⟨q,q'⟩:=hl i σ H hi p
 by_cases hlt:i < xs.length
 ·have hlt':i < ys.length:=by omega
  refine .inr ⟨⟨xs,ys,xs[i],ys[i],q,q',by simp [hlt],by simp [hlt']⟩,Pv (i + 1),fun σ' H' p'=>⟨xs.length - (i + 1),by omega,rfl,hlt,p'⟩,fun v H' y=>?_⟩
  obtain ⟨T,x,y,rfl,hT,rfl,h⟩:=y
  obtain ⟨e1,e2⟩:=h xs ys q q'
  exact hs i x y σ _ T e1 e2 p hT
 ·have e:i=xs.length:=by omega
  subst e
  exact .inl ⟨⟨xs,ys,q,q',Or.inl (Nat.le_refl _)⟩,hd σ H p⟩
theorem uW {K:W.Frag}{a:Addr}{xs:List V}{fr:List Nat}{tf:CB->TT}{te:CB->TE}{Q:VK}{σ:St}{H1:Hp} (p:V->Bool) (R:V->Hp->Prop) (hx:SqL K H1 a xs) (hn:xs.length < sizeLine)
  (hf:∀b x H (G:Bool->Hp->Prop),x ∈ xs->aq H1 H->(∀H',aq H H'->G (p x) H')->tf b (some x :: cFr fr σ) H G)
  (he:∀b x H (G:VK),x ∈ xs->p x=true->aq H1 H->(∀y H',aq H H'->R y H'->G y H')->te b (some x :: cFr fr σ) H G)
  (mono:∀y H H',aq H H'->R y H->R y H') (st:∀y H D ys zs,H D=some (.lst ys)->R y H->R y (upd H D (.lst zs)))
  (fin:∀D H ys,H1 D=none->aq H1 H->H D=some (.lst ys)->ys.length <= xs.length->(∀y ∈ ys,R y H)->Q (.ref D) H):lF (Itl K a) 1 fr (fun _=>kO 0) tf te Q σ H1:=by
 refine ⟨fun b D hD=>?_⟩
 refine ⟨fun i m σ' H'=>m=xs.length - i/\i <= xs.length/\(∃v0,σ'=v0 :: cFr fr σ)/\aq H1 H'/\∃ys,H' D=some (.lst ys)/\ys.length <= i/\∀y ∈ ys,R y H',⟨xs.length,rfl,Nat.zero_le _,⟨none,rfl⟩,aq.upd hD _,[],ak,Nat.le_refl _,fun y h=>by cases h⟩,?_⟩
 rintro i m σ' H' ⟨rfl,hi,⟨v0,rfl⟩,sm,ys,hl,hy,hR⟩
 by_cases hlt:i < xs.length
 ·refine .inr ⟨⟨xs,xs[i],sm.seq hx,List.getElem?_eq_getElem hlt⟩,fun σ2 H2=>(∃v0,σ2=v0 :: cFr fr σ)/\aq H1 H2/\∃ys,H2 D=some (.lst ys)/\ys.length <= i + 1/\∀y ∈ ys,R y H2,fun σ2 H2 q=>⟨xs.length - (i + 1),by omega,rfl,hlt,q⟩,fun v H2 y=>?_⟩
  obtain ⟨rfl,yv⟩:=y
  have ev:=yv xs (sm.seq hx)
  have mem:v ∈ xs:=List.mem_of_getElem? ev
  show tf b (some v :: cFr fr σ) _ _
  refine hf b v _ _ mem sm fun H3 s3=>?_
  cases hp:p v with
  | false =>
   rw [if_neg Bool.false_ne_true]
   exact ⟨⟨_,rfl⟩,sm.trans s3,ys,s3 _ _ hl,by omega,fun y h=>mono _ _ _ s3 (hR y h)⟩
  | true =>
   rw [if_pos rfl]
   refine he b v _ _ mem hp (sm.trans s3) fun z H4 s4 rz=>⟨ys,s4 _ _ (s3 _ _ hl),by omega,⟨_,rfl⟩,?_,ys ++ [z],ak,by simp;omega,fun y h=>?_⟩
   ·intro c o q
    by_cases hc:c=D
    ·rw [hc,hD] at q;cases q
    ·rw [aw hc];exact (sm.trans (s3.trans s4)) c o q
   ·have hD4:=s4 _ _ (s3 _ _ hl)
    rcases List.mem_append.mp h with h | h
    ·exact st _ _ _ _ _ hD4 (mono _ _ _ (s3.trans s4) (hR y h))
    ·rw [List.mem_singleton] at h
     subst h
     exact st _ _ _ _ _ hD4 rz
 ·have e:i=xs.length:=by omega
  subst e
  exact .inl ⟨⟨xs,sm.seq hx,Nat.le_refl _⟩,fin D H' ys hD sm hl hy hR⟩
end L2
set_option maxHeartbeats 4000000
namespace L2
open PySem PySem.Spec PyProof.Rows
end L2
namespace L2
open PySem PySem.Spec PyProof.Rows
section
variable {X:Cx}
end
end L2
namespace L2
open PySem PySem.Spec PyProof.Rows
section
variable {X:Cx}
theorem zp {o:Expr}{to:TE}{apos cpos:Pos} (ho:PE X o to) (hbase:attributeBase o "pop" X.env (eval o X.env)=eval o X.env:=by rfl) (hline:(apos.endLine == cpos.line)=true:=by rfl) :
  PE X (.Call (.Attribute o "pop" apos) [] [] cpos) (BS X.K "list" BZ to) :=
 zv PySem.F.plainAttrs_list PySem.F.slot_list_pop PySem.F.type_list_pop Av ho hbase hline
end
end L2
namespace L2
open PySem PySem.Spec PyProof.Rows
section
variable {X:Cx}
end
end L2
namespace L2
open PySem PySem.Spec PyProof.Rows
section
variable {X:Cx}
end
end L2
namespace L2
open PySem PySem.Spec PyProof.Rows
section
variable {X:Cx}
end
end L2
namespace L2
open PySem PySem.Spec PyProof.Rows
section
variable {X:Cx}
end
end L2
namespace L2
open PySem PySem.Spec PyProof.Rows
section
variable {X:Cx}
end
end L2
namespace L2
open PySem PySem.Spec PyProof.Rows
section
variable {X:Cx}
end
end L2
namespace L2
open PySem PySem.Spec PyProof.Rows
section
variable {X:Cx}{e:Expr}{te:TE}{es:List Expr}{t:Str->TE}{pos:Pos}
def PJ (X:Cx) (es:List Expr) (t:Str->TE):Prop :=
 ∀(acc:Str) (pins:List (Addr × Obj)) (s:Shared) (σ:St) (H:Hp) (Q:VK),Inv X pins σ H s->t acc σ H Q->wpAny (model X.prog X.w) X.A (joinParts acc (evalEach es X.env)) (EP X pins σ Q) X.xe s
theorem zG:PJ X [] (fun acc _ H Q=>acc.length <= sizeLine/\Q (.str acc) H):=fun acc pins s σ H Q I h=>by
 show wpAny _ _ (joinParts acc []) _ _ _
 exact joinParts_nil (Q:=EP X pins σ Q) ⟨.str acc,H,I.tok _,⟨_,rfl⟩,h.2⟩ h.1
theorem uq (he:PE X e te) (ht:PJ X es t):PJ X (e :: es) (fun acc σ H Q=>te σ H fun v H'=>∃x,v=.str x/\(acc ++ x).length <= sizeLine/\t (acc ++ x) σ H' Q):=fun acc pins s σ H Q I h=>by
 show wpAny _ _ (joinParts acc (eval e X.env :: evalEach es X.env)) _ _ _
 refine joinParts_cons (thn (he pins s σ H _ I h) fun v s1 ⟨x,H1,I1,r1,y,e1,l1,q1⟩=>?_)
 subst e1
 obtain ⟨tk,rfl⟩:=r1
 exact ⟨l1,ht _ pins s1 σ H1 Q I1 q1⟩
theorem yR {a b:Expr} (h:PJ X (a :: b :: es) t):PE X (.JoinedStr (a :: b :: es) pos) (fun σ H Q=>t Str.empty σ H Q):=fun pins s σ H Q I q=>JoinedStr_many (h Str.empty pins s σ H Q I q)
theorem zE (he:PE X e te):PE X (.FormattedValue e (-1) none pos) (fun σ H Q=>te σ H fun v H'=>(∃i:Int,v=.int i/\i.natAbs.log2 < 1920/\Q (.str (toString i:String)) H') \/ ∃x,v=.str x/\x.length <= sizeLine/\Q (.str x) H'):=fun pins s σ H Q I h=>by
 refine FormattedValue_plain (thn (he pins s σ H _ I h) fun v s1 ⟨x,H1,I1,r1,q1⟩=>?_)
 rcases q1 with ⟨i,rfl,hi,q1⟩ | ⟨y,rfl,hy,q1⟩
 ·obtain ⟨tk,rfl⟩:=r1
  exact formatField_int_small hi ⟨.str (toString i:String),H1,I1.tok _,⟨_,rfl⟩,q1⟩
 ·obtain ⟨tk,rfl⟩:=r1
  exact formatField_str (fun t' tk=>⟨.str y,H1,I1.tok _,⟨_,rfl⟩,q1⟩) hy
end
end L2
namespace L2
open PySem PySem.Spec PyProof.Rows
section
variable {X:Cx}
theorem zj:OpR X (binaryOp .RShift) (mi (fun _ j=>0 <= j) fun i j=>.int (i / 2 ^ j.toNat)):=Ac.mi
theorem qM {o e:Expr}{to:TE}{t:TA}{apos cpos:Pos} (ho:PE X o to) (ha:PA X [e] t) (hbase:attributeBase o "extend" X.env (eval o X.env)=eval o X.env:=by rfl)
  (hfew:((backTo cpos (starEach [e] X.env)).all (fun x=>!x.1) && (backToKw cpos (keywordEach [] X.env)).all (fun x=>x.1.isSome)
   && decide ([e].length + ([]:List Keyword).length + (if ([]:List Keyword).isEmpty then 0 else 1) < 30))=true:=by rfl)
  (hline:(apos.endLine == cpos.line)=true:=by rfl) (hs:starEach [e] X.env=(false,eval e X.env) :: starEach [] X.env:=by rfl) (hplain:(backTo cpos (starEach [] X.env)).any (·.1)=false:=by rfl) :
  PE X (.Call (.Attribute o "extend" apos) [e] [] cpos) (tBM X.K "list" tV to t) :=
 xi PySem.F.plainAttrs_list PySem.F.slot_list_extend PySem.F.type_list_extend vt ho ha hbase hfew hline hs hplain
theorem yx (val:Nat->Int):∀n,∀i ≤ n,val i <= val (argBest (fun i j=>decide (val i > val j)) n):=by
 intro n
 induction n with
 | zero=>intro i hi;rw [Nat.le_zero.mp hi];exact Int.le_refl _
 | succ n ih =>
  intro i hi
  have e:argBest (fun i j=>decide (val i > val j)) (n + 1)=if decide (val (n + 1) > val (argBest (fun i j=>decide (val i > val j)) n))=true then n + 1 else argBest (fun i j=>decide (val i > val j)) n:=rfl
  rw [e]
  by_cases h:val (n + 1) > val (argBest (fun i j=>decide (val i > val j)) n)
  ·rw [if_pos (decide_eq_true h)]
   rcases Nat.lt_or_ge i (n + 1) with z | z
   ·have:=ih i (by omega);omega
   ·rw [show i=n + 1 by omega];exact Int.le_refl _
  ·rw [if_neg (by rw [decide_eq_false h];exact Bool.false_ne_true)]
   rcases Nat.lt_or_ge i (n + 1) with z | z
   ·exact ih i (by omega)
   ·rw [show i=n + 1 by omega];omega
theorem Af (hc:X.calm=true:=by rfl):dg X (.builtin "max") (fun xs H Q=>∃(p:Addr) (ns:List Int),xs=[.ref p]/\SqL X.K H p (ns.map V.int)/\ns ≠ []/\∀m ∈ ns,(∀n ∈ ns,n <= m)->Q (.int m) H):=by
 intro pins s σ H xs us Q I r h
 obtain ⟨p,ns,rfl,hq,ne,q⟩:=h
 obtain ⟨u,rfl,rx⟩:=vals1 r
 cases rx
 obtain ⟨its,rv,pl,hz⟩:=I.list hq
 have hl:=pl.isList
 have ia:=intsAre_of rv
 obtain ⟨xs,hx⟩:=ia.allInts.items
 have hn:xs.toList.map (·.1)=ns:=by
  rw [<- nums_intItems,<- hx]
  exact ia.numsOf
 rw [hx] at hl
 have hs:xs.size=ns.length:=by rw [<- hn];simp
 have l0:0 < ns.length:=List.length_pos_iff.mpr ne
 have at':∀i,i < ns.length->ns[i]?=some (numAt xs i):=fun i hi=>by
  have hi':i < xs.size:=by omega
  unfold numAt
  rw [<- hn,List.getElem?_map]
  simp [hi']
 refine max_intList (I.ok.hd hc) hl (by omega) fun v h' tk hv hk=>?_
 obtain ⟨t,rfl⟩:=intItems_at hv
 have bl:argBest (fun i j=>decide (numAt xs i > numAt xs j)) (xs.size - 1) < ns.length:=by
  have z:=(Array.getElem?_eq_some_iff.mp hv).1
  rw [show (intItems xs).size=xs.size from Array.size_map ..] at z
  rw [<- hs]
  exact z
 refine ⟨.int _,H,I.kept (t':=tk) hk,⟨_,rfl⟩,q _ (List.mem_of_getElem? (at' _ bl)) fun n hn'=>?_⟩
 obtain ⟨i,hi⟩:=List.getElem?_of_mem hn'
 have hi':i < ns.length:=(List.getElem?_eq_some_iff.mp hi).1
 have e:=at' i hi'
 rw [hi] at e
 rw [Option.some.inj e]
 exact yx (numAt xs) _ i (by omega)
theorem oh {prog:Program}{w:World}{A:Around}{E:Value->Shared->Prop}{s:Shared}{l:Addr}{xs:Array (Int × Tok)}{Q:Value->Shared->Prop} (hl:s.heap.IsTuple l (intItems xs))
  (h:∀s₂:Shared,s₂={ s with heap:=s.heap.push { cls:=.type "tuple_iterator",data:=.fields #[.ref l,.int 0 0] } } ->
   (s₂.heap.IsTupleIter s.heap.objs.size l 0/\s₂.heap.IsTuple l (intItems xs))->(∀b ∈ [s.heap.objs.size,l],b < s₂.heap.objs.size)->l ≠ s.heap.objs.size->Q (.ref s.heap.objs.size) s₂) :
  wpAny (model prog w) A (pyIter (.ref l)) Q E s:=by
 have hlt:l < s.heap.objs.size:=by obtain ⟨_,e,_⟩:=hl;exact Heap.lt_size e
 refine wpAny_pyIter_tuple hl (h _ rfl ⟨⟨_,Heap.get?_push_size _ rfl,rfl,rfl⟩,hl.push _⟩ (fun b hb=>?_) (Nat.ne_of_lt hlt))
 show b < (s.heap.push _).objs.size
 rw [Heap.size_push]
 rcases List.mem_cons.mp hb with rfl | hb
 ·exact Nat.lt_succ_self _
 ·rcases List.mem_cons.mp hb with rfl | hb
  ·exact Nat.lt_succ_of_lt hlt
  ·cases hb
theorem AD (hc:X.calm=true:=by rfl):dg X (.builtin "sum") (fun xs H Q=>∃(p:Addr) (ns:List Int),xs=[.ref p]/\SqT X.K H p (ns.map V.int)/\Q (.int ns.sum) H):=by
 intro pins s σ H xs us Q I r h
 obtain ⟨p,ns,rfl,hq,q⟩:=h
 obtain ⟨u,rfl,rx⟩:=vals1 r
 cases rx
 obtain ⟨its,rv,hl,hz⟩:=I.tuple hq
 have ia:=intsAre_of rv
 obtain ⟨xs,hx⟩:=ia.allInts.items
 have hn:xs.toList.map (·.1)=ns:=by
  rw [<- nums_intItems,<- hx]
  exact ia.numsOf
 rw [hx] at hl
 obtain ⟨o,e1,e2,n,e3⟩:=hl
 refine call_sum_walkG (oh ⟨o,e1,e2,n,e3⟩ fun s₂ e st hfp hlI=>?_)
 subst e
 refine ⟨_,_,_,_,_,_,numAt xs,rfl,Walks.tuple (A:=X.A.in1) (I.ok.hd hc) _ p hlI (intItems xs),st,hfp,(fun _ _=>intItems_at),fun h' tk t' hk=>?_⟩
 have ez:(intItems xs).size=xs.size:=Array.size_map ..
 rw [ez,preSum_eq,List.take_of_length_le (by simp),hn]
 refine ⟨.int _,H,I.kept (t':=tk) (fun b o e=>?_),⟨_,rfl⟩,q⟩
 refine hk b o (fun hm=>?_) (Heap.get?_push_of_some _ e)
 rcases List.mem_cons.mp hm with z | hm
 ·exact absurd (z ▸ Heap.lt_size e) (Nat.lt_irrefl _)
 ·cases hm
end
end L2
namespace L2
open PySem PySem.Spec PyProof.Rows
def EqB (prog:Program) (w:World) (A:Around) (s:Shared) (y x:Value) (b:Bool):Prop:=∀(E:Value->Shared->Prop) (Q:Bool->Shared->Prop),Q b s->wpAny (model prog w) A (eqBool y x) Q E s
theorem contains_loopW {prog:Program}{w:World} (l:Addr) (items:Array Value) (n:Nat) (dd:Option Addr) (sl:Array (Option Value)) (x:Value) (e:Value->Bool) (k:Nat) :
  ∀i:Nat,items.size - i=k->MeetsIn prog w (Builtin.«list.__contains__.loop» ⟨[.ref l,x,rawInt i],[]⟩)
   (fun A R s=>s.heap.get? l=some { cls:=.type "list",dict:=dd,data:=.seq items n,slots:=sl }/\(∀y,y ∈ items->EqB prog w A.in1 s y x (e y))/\R (.ok (.ret (.bool ((items.toList.drop i).any e)))) s):=by
 induction k with
 | zero =>
  intro i hk A R s h
  obtain ⟨hp,g,d,tk,os⟩:=s;obtain ⟨hl,he,h⟩:=h
  wp_walk using PySem.AutoSeq1.wpAny_loadPart' hl
  have hi:items[((i:Nat):Int).toNat]?=none:=by simp;omega
  have hd:items.toList.drop i=[]:=by simp;omega
  rw [hd] at h
  rw [hi]
  wp_walk
  exact h
 | succ k ih =>
  intro i hk A R s h
  obtain ⟨hp,g,d,tk,os⟩:=s;obtain ⟨hl,he,h⟩:=h
  wp_walk using PySem.AutoSeq1.wpAny_loadPart' hl
  have hlt:i < items.size:=by omega
  have hi:items[((i:Nat):Int).toNat]?=some items[i]:=by simp [hlt]
  have hd:items.toList.drop i=items[i] :: items.toList.drop (i + 1):=by simp [List.drop_eq_getElem_cons,hlt]
  rw [hd,List.any_cons] at h
  rw [hi]
  refine wpAny_bind (he _ (Array.getElem_mem hlt) _ _ ?_)
  cases hb:e items[i] with
  | true =>
   rw [hb] at h
   wp_walk
   exact h
  | false =>
   rw [hb] at h
   have hc:((i:Int) + 1)=((i + 1:Nat):Int):=by push_cast;rfl
   wp_walk
   rw [hc]
   exact ⟨plainId_quiet MeetsSeq.plain_contains_loop _,codeAny_builtin MeetsSeq.entry_contains_loop (by
    rw [Around.under_plainId MeetsSeq.plain_contains_loop _]
    exact ih (i + 1) (by omega) A R _ ⟨hl,he,by simpa using h⟩)⟩
theorem list_containsW {prog:Program}{w:World} (l:Addr) (items:Array Value) (n:Nat) (dd:Option Addr) (sl:Array (Option Value)) (x:Value) (e:Value->Bool) :
  MeetsIn prog w (Builtin.«list.__contains__» ⟨[.ref l,x],[]⟩)
   (fun A R s=>s.heap.get? l=some { cls:=.type "list",dict:=dd,data:=.seq items n,slots:=sl }/\(∀y,y ∈ items->EqB prog w A.in1 s y x (e y))/\R (.ok (.ret (.bool (items.any e)))) s):=by
 intro A R s h
 obtain ⟨hp,g,d,tk,os⟩:=s;obtain ⟨hl,he,h⟩:=h
 wp_walk using PySem.AutoSeq1.wpAny_loadPart' hl
 exact ⟨plainId_quiet MeetsSeq.plain_contains_loop _,codeAny_builtin MeetsSeq.entry_contains_loop (by
  rw [Around.under_plainId MeetsSeq.plain_contains_loop _]
  exact contains_loopW l items n dd sl x e _ 0 rfl A R _ ⟨hl,he,by simpa using h⟩)⟩
section
variable {prog:Program}{w:World}{K:Type} [DecidableEq K] {knd:KeyKind prog w K}{A:Around}{E:Value->Shared->Prop}{s:Shared}
theorem sE {id:String}{a b:Addr}{k:K}{v v':Value}{kvs lvs:List (K × Value)}{Q:Bool->Shared->Prop} (hda:(a == sysModules)=false) (hdb:(b == sysModules)=false) (ha:s.heap.DictOf knd a ((k,v) :: kvs)) (hb:s.heap.DictOf knd b lvs) (hl:kvs.length + 1=lvs.length)
  (hv:valueAt lvs k=some v') (he:SeqAt.EqAt A s v v' false) (q:Q false s):wpAny (model prog w) A (Builtin.Dict.samePairs id a b) Q E s:=by
 obtain ⟨o,es,ep,ho,hx,hd,hk,hp,hn⟩:=ha
 obtain ⟨o2,es2,ep2,ho2,hx2,hd2,hk2,hp2,hn2⟩:=hb
 have hz:es.size=kvs.length + 1:=by have:=hp.length;simpa using this
 have hz2:es2.size=lvs.length:=by rw [<- hp2.length];simp
 unfold Builtin.Dict.samePairs
 refine wpAny_bind (jF hda ?_)
 refine wpAny_bind (jF hdb ?_)
 refine wpAny_bind (wpAny_dictEntries ho hd ?_)
 refine wpAny_bind (wpAny_dictEntries ho2 hd2 ?_)
 rw [if_neg (by simp;omega)]
 refine wpAny_bind (wpAny_dictEpoch ho hd ?_)
 refine wpAny_bind ?_
 rw [Std.Legacy.Range.forIn_eq_forIn_range']
 simp only [Std.Legacy.Range.size,Nat.sub_zero,Nat.add_sub_cancel,Nat.div_one]
 rw [hz,List.range'_succ]
 refine wpAny_forIn_list _ (fun rest c s'=>rest=0 :: List.range' (0 + 1) kvs.length/\c=(none,())/\s'=s) _ ?_ ?_ _ _ ⟨rfl,rfl,rfl⟩
 ·rintro i rest c s' ⟨e0,rfl,rfl⟩
  have hi0:i=0:=(List.cons.inj e0).1
  subst hi0
  have hi:0 < es.size:=by omega
  refine wpAny_bind (wpAny_dictEntries ho hd ?_)
  rw [Array.getElem?_eq_getElem hi]
  obtain ⟨hkey,hval⟩:=hp.get? (i:=0) (e:=es[0]) (by simp [hi]) rfl
  obtain ⟨k',hk',hh⟩:=hk es[0] (Array.getElem_mem hi)
  have hkk:k'=k:=knd.inj _ _ _ hk' hkey
  subst hkk
  show wpAny _ _ (holding [es[0].key,es[0].val] _ >>= _) _ _ _
  refine wpAny_bind (wpAny_holding ?_)
  rw [hh,hval]
  refine wpAny_bind (wpAny_dictFind_of hkey ho2 hd2 hk2 ?_)
  obtain ⟨j,f,hj,hf,hfv⟩:=nW hp2 hv
  rw [<- List.findIdx?_toArray,Array.toArray_toList] at hj
  rw [Array.getElem?_toList] at hf
  rw [hj]
  refine wpAny_bind (wpAny_dictEntries ho2 hd2 ?_)
  rw [hf]
  show wpAny _ _ (holding [f.val] (eqBool v f.val)) _ _ _
  rw [hfv]
  refine wpAny_holding (he _ _ _ _ ?_)
  rw [if_pos (by decide)]
  exact wpAny_pure (wpAny_pure q)
 ·rintro c s' ⟨e0,_,_⟩
  cases e0
end
section
variable {X:Cx}
def vR (H:Hp) (a b:Addr):Prop:=a ≠ b/\∃(k:Key) (i j:Int) (kvs lvs:List (Key × V)),Rd H a (.dK ((k,.int i) :: kvs))/\Rd H b (.dK ((k,.int j) :: lvs))/\kvs.length=lvs.length/\i ≠ j
theorem u3 {pins:List (Addr × Obj)}{σ:St}{H:Hp}{s:Shared}{A:Around}{a b:Addr} (I:Inv X pins σ H s) (hu:A.units + 2 < cLine) (h:vR H a b):EqB X.prog X.w A s (.ref a) (.ref b) false:=by
 obtain ⟨hab,k,i,j,kvs,lvs,ha,hb,hl,hv⟩:=h
 intro E Q hq
 unfold eqBool
 refine wpAny_holding (wpAny_ite_split (fun hab'=>absurd (Value.ref.inj (eq_of_beq hab')) hab) fun _=>wpAny_bind ?_)
 obtain ⟨z,hs,vs,rel,dd⟩:=jY I.hok ha
 obtain ⟨z2,hs2,vs2,rel2,dd2⟩:=jY I.hok hb
 have e1:=rel.length
 have e2:=rel2.length
 cases rel with
 | @cons _ u _ us r1 rest =>
  obtain ⟨k',v'⟩:=u
  obtain ⟨ek,t,ev⟩:=r1
  dsimp only at ek ev
  subst ek ev
  have hval:=rel2.val k
  rw [cM (p:=(k,V.int j)) rfl] at hval
  cases hvv:valueAt vs2 k with
  | none=>rw [hvv] at hval;exact (show False from hval).elim
  | some u' =>
   rw [hvv] at hval
   obtain ⟨t2,rfl⟩:=hval
   refine wpAny_richCompare_same_room (op:=.Eq) dd.typeIs dd2.typeIs PySem.F.slot_dict_eq (wpAny_call_entry PySem.F.slot_dict_eq dd.typeIs PySem.F.entry_dict_eq ?_ (PySem.F.args_dict_eq_2 _ _)) (by omega)
   show wpAny _ _ (Builtin.Dict.dictSlotArgs "__eq__" ⟨[.ref a,.ref b],[]⟩ >>= _) _ _ _
   refine wpAny_bind ?_
   unfold Builtin.Dict.dictSlotArgs
   refine wpAny_bind (wpAny_notOrdered_dict dd.typeIs ?_)
   show wpAny _ _ (pure (Value.ref a,Value.ref b)) _ _ _
   refine wpAny_pure ?_
   refine wpAny_bind (wpAny_isInstance (T:="dict") (b:=true) dd2.typeIs (by rw [isSubtype_type];kernel_rfl) ?_)
   show wpAny _ _ (Builtin.Dict.samePairs "dict.__eq__" a b >>= _) _ _ _
   simp only [List.length_cons] at e1 e2
   refine wpAny_bind (sE hs hs2 dd dd2 (by omega) hvv (by have:=SeqAt.EqAt.int_int (A:=A.in1) (s:=s) i t j t2;rw [beq_eq_false_iff_ne.mpr hv] at this;exact this) ?_)
   show wpAny _ _ (ret (.bool false)) _ _ _
   exact wpAny_pure ⟨.bool false,rfl,(fun z=>nomatch z),wpAny_truthy_bool hq⟩
theorem oW:∀{bs:List Addr}{its:List Value},Vals (bs.map V.ref) its->its=bs.map Value.ref
 | [],_,.nil=>rfl
 | b :: r,_,.cons r2 r3=>by cases r2;rw [oW r3];rfl
theorem xa (hu:X.A.units + 64 < cLine):OpR X (compareOp .NotIn) (fun x y H Q=>∃(a p:Addr) (bs:List Addr),x=.ref a/\y=.ref p/\SqL X.K H p (bs.map V.ref)/\(∀b ∈ bs,b ≠ a->vR H b a)/\Q (.bl (!decide (a ∈ bs))) H):=by
 intro pins s σ H x y v u Q I rx ry h
 obtain ⟨a,p,bs,rfl,rfl,hp,hb,q⟩:=h
 cases rx
 cases ry
 obtain ⟨its,r1,⟨o,n,e1,c1,_,d1⟩,_⟩:=I.list hp
 obtain ⟨oc,od,oda,osl⟩:=o
 dsimp only at c1 d1
 subst c1 d1
 have eits:its=bs.map Value.ref:=oW r1
 subst eits
 show wpAny _ X.A (do return Value.bool (!(<- contains (.ref p) (.ref a)))) _ _ s
 refine wpAny_bind (wpAny_contains_slot (T:="list") ⟨_,e1,rfl⟩ PySem.F.slot_list_contains (wpAny_mono (call_meetsIn PySem.F.slot_list_contains ⟨_,e1,rfl⟩ PySem.F.entry_list_contains (PySem.F.args_list_contains_2 _ _) (list_containsW p (bs.map Value.ref).toArray n od osl (.ref a) (fun v=>decide (v=.ref a)))
  (Q:=fun v s'=>s'=s/\v=.bool ((bs.map Value.ref).toArray.any fun v=>decide (v=.ref a))) ⟨e1,fun y hy=>?_,rfl,rfl⟩) (fun v s' hv=>?_) fun _ _ e=>e))
 ·have hy':y ∈ bs.map Value.ref:=by simpa using hy
  obtain ⟨b,hbm,rfl⟩:=List.mem_map.mp hy'
  by_cases e:b=a
  ·subst e
   rw [decide_eq_true rfl]
   exact fun E Q hq=>SeqAt.EqAt.same _ X.prog X.w E Q hq
  ·rw [decide_eq_false (fun z=>e (Value.ref.inj z))]
   exact u3 I (by show X.A.units + 1 + 2 < cLine;omega) (hb b hbm e)
 ·obtain ⟨rfl,rfl⟩:=hv
  have ea:((bs.map Value.ref).toArray.any fun v=>decide (v=.ref a))=decide (a ∈ bs):=by
   rw [List.any_toArray,List.any_map,Bool.eq_iff_iff,List.any_eq_true,decide_eq_true_iff]
   exact ⟨fun ⟨b,h1,h2⟩=>Value.ref.inj (of_decide_eq_true h2) ▸ h1,fun h=>⟨a,h,decide_eq_true rfl⟩⟩
  rw [ea]
  exact wpAny_truthy_bool (wpAny_pure ⟨.bl _,H,I,rfl,q⟩)
end
end L2
namespace L2
open PySem PySem.Spec PyProof.Rows
section
variable {prog:Program}{w:World}{A:Around}{E:Value->Shared->Prop}{s:Shared}
theorem oQ:∀(f n r:Nat),minRun' f n r <= n + r
 | 0,n,r=>Nat.le_refl _
 | f + 1,n,r=>by
  rw [minRun'_succ]
  split
  ·exact Nat.le_refl _
  ·have:=oQ f (n / 2) (max r (n % 2))
   omega
theorem qz {st:SortSt}{n:Nat}{Q:Unit->SortSt->Prop} (hn:(arrOf st).size=n) (h2:2 <= n) (hp:pendingOf st=#[])
  (hlt:∀x,1 <= x->x < n->∀Q:Option Bool->SortSt->Prop,Q (some false) st->wpS (model prog w) A E s (ltAt' x (x - 1)) Q st)
  (h:∀st',arrOf st'=arrOf st->failedOf st'=failedOf st->Q () st'):wpS (model prog w) A E s sortRuns' Q st:=by
 rw [sortRuns'_eq]
 refine wpS_bind (wpS_get ?_)
 dsimp only
 simp only [hn]
 have hmr:minRun' n n 0 <= n:=oQ n n 0
 generalize minRun' n n 0=mr at hmr ⊢
 refine wpS_bind (wpS_mono (wpS_forRange
  (I:=fun x c st'=>(x=0/\c=(none,0)/\st'=st) \/ (1 <= x/\c=(none,n)/\st'=setPending st #[(0,n,0)]))
  (Q:=fun c st'=>c=(none,n)/\st'=setPending st #[(0,n,0)]) ?step ?fin (.inl ⟨rfl,rfl,rfl⟩)) ?post)
 case fin =>
  rintro c st' (⟨hx,_,_⟩ | ⟨_,hc,hD⟩)
  ·omega
  ·exact ⟨hc,hD⟩
 case step =>
  rintro x c st' _ hx (⟨rfl,rfl,rfl⟩ | ⟨hx1,rfl,rfl⟩)
  ·dsimp only
   rw [if_neg (by omega)]
   simp only [Nat.sub_zero,Nat.zero_add]
   refine wpS_bind ?_
   rw [countRun0_eq]
   refine wpS_bind ?_
   unfold ascLoop
   refine wpS_forRange (I:=fun x c st''=>st''=st'/\c=(none,x)) ?s2 ?f2 ⟨rfl,rfl⟩
   case f2 =>
    rintro c st'' ⟨rfl,rfl⟩
    rw [show max 1 n=n by omega]
    dsimp only
    rw [if_pos (by simp)]
    refine wpS_pure ?_
    dsimp only
    rw [if_neg (by omega)]
    refine wpS_bind (wpS_get ?_)
    have hb:(pendingOf st'').back?=none:=by rw [hp];rfl
    rw [hb]
    dsimp only
    refine wpS_bind (wpS_modify (wpS_pure (.inr ⟨by omega,rfl,?_⟩)))
    show setPending st'' ((pendingOf st'').push (0,n,0))=_
    rw [hp]
    rfl
   case s2 =>
    rintro x c st'' hax hxn ⟨rfl,rfl⟩
    dsimp only
    refine wpS_bind (hlt x hax hxn _ ?_)
    simp only [Bool.false_eq_true,if_false]
    exact wpS_pure ⟨rfl,rfl⟩
  ·dsimp only
   rw [if_pos (Nat.le_refl _)]
   exact wpS_pure ⟨rfl,rfl⟩
 case post =>
  rintro c st' ⟨rfl,rfl⟩
  dsimp only
  refine wpS_bind (wpS_mono (wpS_forRange (I:=fun _ c st''=>st''=setPending st #[(0,n,0)]/\c=(none,())) (Q:=fun c st''=>st''=setPending st #[(0,n,0)]/\c=(none,())) ?_ (fun _ _ hh=>hh) ⟨rfl,rfl⟩) ?_)
  ·rintro x c st'' _ _ ⟨rfl,rfl⟩
   refine wpS_bind (wpS_get ?_)
   rw [if_pos (show (pendingOf (setPending st #[(0,n,0)])).size <= 1 from Nat.le_refl 1)]
   exact wpS_pure ⟨rfl,rfl⟩
  ·rintro c st'' ⟨rfl,rfl⟩
   exact wpS_pure (h _ rfl rfl)
theorem jg {α β:Type}{F G:α->β->Prop}:∀{xs:List α}{ys:List β},Paired F xs ys->(∀x y,x ∈ xs->F x y->G x y)->Paired G xs ys
 | _,_,.nil,_=>.nil
 | _,_,.cons h r,k=>.cons (k _ _ List.mem_cons_self h) (jg r fun x y m=>k x y (List.mem_cons_of_mem _ m))
theorem fT {α β:Type}{F:α->β->Prop}:∀{l₁:List α}{l₂:List β}{i:Nat}{a:α},Paired F l₁ l₂->l₁[i]?=some a->∃b,l₂[i]?=some b/\F a b
 | _,_,0,_,.cons h _,e=>by cases e;exact ⟨_,rfl,h⟩
 | _,_,i + 1,_,.cons _ r,e=>fT r (i:=i) (by simpa using e)
def fq (h:Heap) (v:Value) (i:Int):Prop:=∃p xs t r,v=.ref p/\h.IsTuple p xs/\xs.toList=.int i t :: r
theorem oq (b:Bool) (x y:Value):keyLt' (tuples' b) x y=(do
  let xs <- Builtin.List.listItems x;let ys <- Builtin.List.listItems y
  for ((p,q),i) in (xs.toList.zip ys.toList).zipIdx do
   if !(<- eqBool p q) then return <- oneLt' (b && i == 0) p q
  return decide (xs.size < ys.size)):=rfl
theorem qm {x y:Value}{i j:Int}{Q:Bool->Shared->Prop} (hx:fq s.heap x i) (hy:fq s.heap y j) (ne:i ≠ j) (h:Q (decide (i < j)) s):wpAny (model prog w) A (keyLt' (tuples' true) x y) Q E s:=by
 obtain ⟨p,xs,t,r,rfl,⟨o,e1,c1,n1,d1⟩,l1⟩:=hx
 obtain ⟨q,ys,t2,r2,rfl,⟨o2,e2,c2,n2,d2⟩,l2⟩:=hy
 rw [oq]
 refine wpAny_bind (listItems_at e1 d1 ?_)
 refine wpAny_bind (listItems_at e2 d2 ?_)
 rw [l1,l2]
 simp only [List.zip_cons_cons,List.zipIdx_cons,List.forIn_cons]
 refine wpAny_bind (wpAny_bind ?_)
 refine wpAny_bind ((by have:=SeqAt.EqAt.int_int (A:=A) (s:=s) i t j t2;rw [beq_eq_false_iff_ne.mpr ne] at this;exact this:SeqAt.EqAt A s (.int i t) (.int j t2) false) prog w _ _ ?_)
 rw [if_pos (by rfl)]
 refine wpAny_bind (oneLt_int ?_)
 exact wpAny_pure (wpAny_pure (wpAny_pure h))
theorem lJ (v:Value):firstOfTuple' v=(do
  if (<- typeOf v) != .type "tuple" then return none
  return (<- Builtin.List.listItems v)[0]?):=rfl
theorem qA {Q:List (Option Value)->Shared->Prop}:∀{vs:List Value}{is:List Int},Paired (fq s.heap) vs is->(∀ts:List (Option Value),(∀u ∈ ts,∃i t,u=some (Value.int i t))->ts.length=vs.length->Q ts s)->wpAny (model prog w) A (vs.mapM firstOfTuple') Q E s:=by
 intro vs
 induction vs generalizing Q with
 | nil=>intro is h q;rw [List.mapM_nil];exact wpAny_pure (q [] (fun _ z=>by cases z) rfl)
 | cons v vs ih =>
  intro is h q
  cases h with
  | @cons _ i _ is h1 h2 =>
   obtain ⟨p,xs,t,r,rfl,⟨o,e1,c1,n1,d1⟩,l1⟩:=h1
   rw [List.mapM_cons]
   refine wpAny_bind ?_
   rw [lJ]
   refine wpAny_bind (wpAny_typeOf (T:="tuple") ⟨o,e1,c1⟩ ?_)
   rw [if_neg (by simp)]
   refine wpAny_bind (listItems_at e1 d1 (wpAny_pure ?_))
   have x0:xs[0]?=some (.int i t):=by rw [<- Array.getElem?_toList,l1];rfl
   refine wpAny_bind (ih h2 fun ts ht hl=>wpAny_pure (q _ (fun u hu=>?_) (by simp [hl])))
   rcases List.mem_cons.mp hu with rfl | hu
   ·exact ⟨i,t,x0⟩
   ·exact ht u hu
theorem sf {Q:List Value->Shared->Prop}:∀{us:List Value},(∀u ∈ us,∃i t,u=Value.int i t)->Q (us.map fun _=>Value.type "int") s->wpAny (model prog w) A (us.mapM typeOf) Q E s:=by
 intro us
 induction us generalizing Q with
 | nil=>intro _ q;rw [List.mapM_nil];exact wpAny_pure q
 | cons u us ih =>
  intro h q
  obtain ⟨i,t,rfl⟩:=h u List.mem_cons_self
  rw [List.mapM_cons]
  refine wpAny_bind (wpAny_typeOf (typeIs_int _ _ _) ?_)
  exact wpAny_bind (ih (fun v hv=>h v (List.mem_cons_of_mem _ hv)) (wpAny_pure q))
theorem mV {v:Value}{vs:List Value}{is:List Int}{Q:SortKind->Shared->Prop} (h:Paired (fq s.heap) (v :: vs) is) (q:Q (tuples' true) s):wpAny (model prog w) A (keyKind' (v :: vs).toArray) Q E s:=by
 rw [keyKind'_eq,List.mapM_toArray]
 refine wpAny_bind (wpAny_map ?_)
 refine qA h fun ts ht hl=>?_
 have all:ts.toArray.all (·.isSome)=true:=by
  rw [List.all_toArray,List.all_eq_true]
  intro u hu
  obtain ⟨i,t,rfl⟩:=ht u hu
  rfl
 rw [if_pos all]
 refine wpAny_bind (wpAny_rule ?_)
 rw [oneTypeOnly'_eq]
 have ef:(ts.toArray.filterMap id)=(ts.filterMap id).toArray:=by simp
 rw [ef,List.mapM_toArray]
 have hf:∀u ∈ ts.filterMap id,∃i t,u=Value.int i t:=fun u hu=>by
  obtain ⟨a,ha,e⟩:=List.mem_filterMap.mp hu
  obtain ⟨i,t,rfl⟩:=ht a ha
  exact ⟨i,t,(Option.some.inj e).symm⟩
 obtain ⟨u0,us0,eu⟩:∃u0 us0,ts.filterMap id=u0 :: us0:=by
  cases ts with
  | nil=>simp at hl
  | cons a r =>
   obtain ⟨i,t,rfl⟩:=ht a List.mem_cons_self
   exact ⟨_,_,by rw [List.filterMap_cons_some];rfl⟩
 rw [eu] at hf ⊢
 refine wpAny_bind (wpAny_bind (wpAny_map (sf hf ?_)))
 have e0:(((u0 :: us0).map fun _=>Value.type "int").toArray)[0]?=some (Value.type "int"):=by simp
 rw [e0]
 have ea:((((u0 :: us0).map fun _=>Value.type "int").toArray).all fun x=>x == Value.type "int")=true:=by
  rw [List.all_toArray,List.all_map,List.all_eq_true]
  intro _ _
  rfl
 dsimp only
 rw [if_pos ea]
 exact wpAny_pure (wpAny_pure q)
theorem nE {a:Addr}{vs:List Value}{is:List Int}{n:Nat}{P:Fin->Shared->Prop} (ho:s.heap.get? a=some (seqObj "list" vs.toArray n)) (hz:vs.length <= sizeLine)
  (hF:Paired (fq s.heap) vs is) (hr:is.Pairwise (· < ·)) (na:∀v ∈ vs,v ≠ .ref a) (h:P (.done (.ret .none)) { s with heap:=sortedHeap s.heap a vs vs.toArray }) :
  wpAny (model prog w) A (Builtin.«list.sort» ⟨[.ref a],[]⟩) P E s:=by
 rw [list_sort_plain]
 have ha:a < s.heap.objs.size:=Heap.lt_size ho
 refine wpAny_bind (listItems_at ho rfl ?_)
 refine wpAny_bind (listUpdate_at ho rfl ?_)
 obtain ⟨e1,ho1⟩:∃e1,(s.heap.update a (Obj.mapSeq fun _=>#[])).get? a=some (seqObj "list" #[] e1):=⟨_,get?_update_seq ho (fun _=>#[])⟩
 refine wpAny_bind (seqEpoch_at ho1 rfl ?_)
 refine wpAny_bind (wpAny_newTuple ?_)
 refine wpAny_bind (wpAny_newList ?_)
 refine wpAny_holding ?_
 have ho6:(((s.heap.update a (Obj.mapSeq fun _=>#[])).push (seqObj "tuple" vs.toArray 0)).push (seqObj "list" #[] 0)).get? a=some (seqObj "list" #[] e1):=by
  rw [Heap.get?_push_ne _ _ _ (by rw [size_push',Heap.size_update];exact Nat.ne_of_lt (Nat.lt_succ_of_lt ha)),Heap.get?_push_ne _ _ _ (by rw [Heap.size_update];exact Nat.ne_of_lt ha)]
  exact ho1
 show wpAny (model prog w) A _ P E { s with heap:=((s.heap.update a (Obj.mapSeq fun _=>#[])).push (seqObj "tuple" vs.toArray 0)).push (seqObj "list" #[] 0) }
 dsimp only
 have hF6:Paired (fq (((s.heap.update a (Obj.mapSeq fun _=>#[])).push (seqObj "tuple" vs.toArray 0)).push (seqObj "list" #[] 0))) vs is:=by
  refine jg hF fun v i hv hi=>?_
  obtain ⟨p,xs,t,r,rfl,⟨o,f1,f2,n2,f3⟩,l⟩:=hi
  have pa:p ≠ a:=fun z=>na _ hv (by rw [z])
  have pl:=Heap.lt_size f1
  refine ⟨p,xs,t,r,rfl,⟨o,?_,f2,n2,f3⟩,l⟩
  rw [Heap.get?_push_ne _ _ _ (by rw [size_push',Heap.size_update];exact Nat.ne_of_lt (Nat.lt_succ_of_lt pl)),Heap.get?_push_ne _ _ _ (by rw [Heap.size_update];exact Nat.ne_of_lt pl),Heap.get?_update_ne _ _ _ _ pa]
  exact f1
 have hsz:vs.toArray.size=vs.length:=by simp
 have fin:=h
 have e2:(vs.toArray.zip vs.toArray).map (·.2)=vs.toArray:=by
  apply Array.ext'
  simp [List.map_snd_zip]
 by_cases h2:vs.toArray.size < 2
 ·rw [if_pos h2,if_pos h2]
  refine wpAny_bind (wpAny_pure ?_)
  rw [StateT.run_pure]
  refine wpAny_bind (wpAny_pure ?_)
  dsimp only
  refine wpAny_bind (seqEpoch_at ho6 rfl ?_)
  rw [show (arrOf (SortSt.mk' general' (vs.toArray.zip vs.toArray) #[] 7 none)).map (·.2)=vs.toArray from e2]
  refine wpAny_bind (listUpdate_at ho6 rfl ?_ (hsz2:=by rw [hsz];omega))
  simp only [bne_self_eq_false,Bool.false_eq_true,if_false]
  exact wpAny_pure fin
 ·rw [if_neg h2,if_neg h2]
  obtain ⟨v₁,rest,rfl⟩:∃v₁ rest,vs=v₁ :: rest:=by
   cases vs with
   | nil=>simp at h2
   | cons v r=>exact ⟨v,r,rfl⟩
  refine wpAny_bind (mV hF6 ?_)
  have hpz:(arrOf (SortSt.mk' (tuples' true) ((v₁ :: rest).toArray.zip (v₁ :: rest).toArray) #[] 7 none)).size=(v₁ :: rest).length:=by
   show ((v₁ :: rest).toArray.zip (v₁ :: rest).toArray).size=_
   simp
  refine wpAny_bind (wpAny_mono (qz (st:=SortSt.mk' (tuples' true) ((v₁ :: rest).toArray.zip (v₁ :: rest).toArray) #[] 7 none) (n:=(v₁ :: rest).length)
   (Q:=fun _ st'=>arrOf st'=(v₁ :: rest).toArray.zip (v₁ :: rest).toArray/\failedOf st'=none) hpz (by omega) rfl (fun x hx1 hx2 Q hq=>?lt) fun st' a1 a2=>⟨a1,a2⟩) ?_ fun _ _ e=>e)
  case lt =>
   generalize hvs:v₁ :: rest=vs at *
   obtain ⟨u,hu⟩:∃u,vs[x]?=some u:=⟨_,List.getElem?_eq_getElem hx2⟩
   obtain ⟨u',hu'⟩:∃u',vs[x - 1]?=some u':=⟨_,List.getElem?_eq_getElem (by omega)⟩
   obtain ⟨i,hi,fi⟩:=fT hF6 hu
   obtain ⟨j,hj,fj⟩:=fT hF6 hu'
   have hij:j < i:=by
    obtain ⟨li,ei⟩:=List.getElem?_eq_some_iff.mp hi
    obtain ⟨lj,ej⟩:=List.getElem?_eq_some_iff.mp hj
    have:=List.pairwise_iff_getElem.mp hr (x - 1) x lj li (by omega)
    rw [ei,ej] at this
    exact this
   have az:∀(y:Nat) (q:Value),vs[y]?=some q->(vs.toArray.zip vs.toArray)[y]?=some (q,q):=fun y q e=>by
    rw [<- Array.getElem?_toList]
    simp [List.getElem?_zip_eq_some,e]
   rw [ltAt'_eq]
   refine wpS_bind (wpS_get ?_)
   show wpS _ _ _ _ (do let y1 <- elem' (vs.toArray.zip vs.toArray) x;let y2 <- elem' (vs.toArray.zip vs.toArray) (x - 1);lt' y1 y2) Q _
   rw [elem'_eq,elem'_eq,az x u hu,az (x - 1) u' hu']
   refine wpS_bind (wpS_pure (wpS_bind (wpS_pure ?_)))
   rw [lt'_eq]
   refine wpS_bind (wpS_get ?_)
   refine wpS_bind (wpS_lift (wpAny_attempt (qm fi fj (by omega) ⟨rfl,?_⟩)))
   rw [decide_eq_false (by omega)]
   exact wpS_pure hq
  rintro ⟨⟨⟩,st'⟩ s' ⟨rfl,ha',hf⟩
  dsimp only at ha' hf ⊢
  refine wpAny_bind (seqEpoch_at ho6 rfl ?_)
  rw [ha',e2]
  refine wpAny_bind (listUpdate_at ho6 rfl ?_ (hsz2:=by rw [hsz];omega))
  rw [hf]
  simp only [bne_self_eq_false,Bool.false_eq_true,if_false]
  exact wpAny_pure fin
theorem qV {l:Addr}{vs:List Value}{is:List Int}{Q:Value->Shared->Prop} (hl:s.heap.IsList l vs.toArray) (hz:vs.length <= sizeLine) (hF:Paired (fq s.heap) vs is) (hr:is.Pairwise (· < ·))
  (h:Q (.ref (s.heap.objs.size + 1)) { s with heap:=sortedAll s.heap vs vs.toArray }):wpAny (model prog w) A (call (.builtin "sorted") [.ref l]) Q E s:=by
 refine Calls.call_function_entry kind_sorted plain_sorted entry_sorted (args_sorted1 _) ?_
 unfold Builtin.«sorted»
 refine wpAny_bind (m:=checkCount "sorted" 1 1 _) (wpAny_pure ?_)
 refine wpAny_bind (collect_list hl ?_)
 refine wpAny_bind (wpAny_newList ?_)
 have hsz:((s.heap.push (seqObj "list" #[] 0)).update s.heap.objs.size (Obj.mapSeq (· ++ vs.toArray))).objs.size=s.heap.objs.size + 1:=by
  rw [Heap.size_update,size_push']
 have hoL:(((s.heap.push (seqObj "list" #[] 0)).update s.heap.objs.size (Obj.mapSeq (· ++ vs.toArray))).push (seqObj "list" vs.toArray 0)).get? (s.heap.objs.size + 1)=some (seqObj "list" vs.toArray 0):=by
  rw [<- hsz];exact Heap.get?_push_size _ rfl
 have hF2:Paired (fq (((s.heap.push (seqObj "list" #[] 0)).update s.heap.objs.size (Obj.mapSeq (· ++ vs.toArray))).push (seqObj "list" vs.toArray 0))) vs is:=by
  refine jg hF fun v i hv hi=>?_
  obtain ⟨p,xs,t,r,rfl,⟨o,f1,f2,n2,f3⟩,l⟩:=hi
  have pl:=Heap.lt_size f1
  refine ⟨p,xs,t,r,rfl,⟨o,?_,f2,n2,f3⟩,l⟩
  rw [Heap.get?_push_ne _ _ _ (by rw [hsz];exact Nat.ne_of_lt (Nat.lt_succ_of_lt pl)),Heap.get?_update_ne _ _ _ _ (Nat.ne_of_lt pl),Heap.get?_push_ne _ _ _ (Nat.ne_of_lt pl)]
  exact f1
 have na:∀v ∈ vs,v ≠ .ref (s.heap.objs.size + 1):=fun v hv e=>by
  obtain ⟨k,hk⟩:=List.getElem?_of_mem hv
  obtain ⟨i,_,p,xs,t,r,e2,⟨o,f1,_⟩,_⟩:=fT hF hk
  rw [e] at e2
  cases e2
  have z:=Heap.lt_size f1
  exact absurd (Nat.lt_trans (Nat.lt_succ_self _) z) (Nat.lt_irrefl _)
 show wpAny _ _ _ _ _ { s with heap:=((s.heap.push (seqObj "list" #[] 0)).update s.heap.objs.size (Obj.mapSeq (· ++ vs.toArray))).push (seqObj "list" vs.toArray 0) }
 rw [hsz]
 refine wpAny_bind (wpAny_holding (wpAny_call_entry slot_list_sort ⟨_,hoL,rfl⟩ entry_list_sort (nE hoL hz hF2 hr na ⟨_,rfl,?_⟩) (args_list_sort _)))
 exact wpAny_pure ⟨_,rfl,h⟩
end
section
variable {X:Cx}
theorem u9:dg X (.builtin "sorted") (fun xs H Q=>∃(p:Addr) (ys:List V) (is:List Int),xs=[.ref p]/\SqL X.K H p ys/\Paired (fun v i=>∃a r,v=V.ref a/\SqT X.K H a (.int i :: r)) ys is/\is.Pairwise (· < ·)/\∀l,H l=none->Q (.ref l) (upd H l (.lst ys))):=by
 intro pins s σ H xs us Q I r h
 obtain ⟨p,ys,is,rfl,hq,hF,hr,q⟩:=h
 obtain ⟨u,rfl,rx⟩:=vals1 r
 cases rx
 obtain ⟨its,rv,pl,hz⟩:=I.list hq
 have hl:=pl.isList
 have el:=rv.length
 have hF':Paired (fq s.heap) its is:=by
  clear q hl pl hq hr hz el
  induction hF generalizing its with
  | nil=>cases rv;exact .nil
  | cons h1 h2 ih =>
   cases rv with
   | cons r1 r2 =>
    refine .cons ?_ (ih _ r2)
    obtain ⟨a,rr,rfl,ht⟩:=h1
    cases r1
    obtain ⟨jts,r3,hT,_⟩:=I.tuple ht
    cases r3 with
    | cons r4 r5 =>
     obtain ⟨t,rfl⟩:=r4
     exact ⟨a,_,t,_,rfl,hT,rfl⟩
 have hp:s.heap.objs.size <= s.heap.objs.size + 1:=Nat.le_succ _
 have hn:H (s.heap.objs.size + 1)=none:=I.hok.fresh hp
 refine qV hl (by omega) hF' hr ⟨.ref (s.heap.objs.size + 1),_,I.laid (t':=s.toks) (fun b o e=>sortedAll_old e) hp ?_,rfl,q _ hn⟩
 obtain ⟨e,he⟩:=sortedAll_at s.heap its its.toArray
 exact ⟨by omega,its,e,rv,he⟩
end
end L2
namespace K40
open PySem L2
theorem scM {N P:List Str}{sc:Scope} (k:sc.kind=.function:=by rfl) (c:sc.isCoroutine=false:=by rfl) (g:sc.isGenerator=false:=by rfl) (n:N.Nodup:=by decide +kernel) (p:N.take P.length=P:=by rfl) (q:∀x ∈ P,sc.names.lookup x=some .local \/ sc.names.lookup x=some .cell:=by decide +kernel) (f:∀y ∈ sc.names,y.2 ≠ .free:=by decide +kernel):aK N P sc:=⟨k,c,g,n,p,q,f⟩
theorem px {X:Cx}{a b:Expr}{ta tb:TE}{pos:Pos} (hu:X.A.units + 64 < cLine) (ha:PE X a ta) (hb:PE X b tb) (hs:uw b:=by exact fun _ _=>rfl):PE X (.Subscript a b pos) (tOp (Ce X.K) ta tb):=Cb (Ae hu) ha hb hs
theorem pgn {X:Cx}{pos:Pos}{i:Nat}{x:Str} (hN:X.N.Nodup) (hi:X.N[i]?=some x) (hx:Loc X.env.scope x:=by first | exact Or.inl rfl | exact Or.inr rfl) (hf:X.fn x=true \/ X.env.scope.names.lookup x=some .local:=by first | exact .inl rfl | exact .inr rfl | assumption):PG X (.Name x pos) (kO i):=tB hN hi hx hf
abbrev jr:Stmt:=top 18
theorem pQ:aK ["number"] ["number"] (av jr):=scM
abbrev je:Stmt:=top 19
theorem fk:aK ["rows","place","loop","found","row"] ["rows","place","loop"] (av je):=scM
abbrev gw:Stmt:=top 20
theorem i9:aK ["row","loop","here"] ["row","loop"] (av gw):=scM
abbrev fJ:Stmt:=top 21
theorem eT:aK ["program","found","deed"] ["program"] (av fJ):=scM
abbrev g8:Stmt:=top 23
theorem gG:aK ["program","ranks","head"] ["program"] (av g8):=scM
abbrev lE:Stmt:=top 24
theorem eg:aK ["program","ranks","found","row","place","loop"] ["program"] (av lE):=scM
abbrev gF:Stmt:=top 26
theorem nQ:aK ["_law_script","_law_k"] ["_law_script","_law_k"] (av gF):=scM
abbrev lB:Stmt:=top 27
theorem km:aK ["_law_cell","_law_way","_law_many","_law_number_here"] ["_law_cell","_law_way","_law_many"] (av lB):=scM
abbrev kb:Stmt:=top 28
theorem cY:aK ["_law_cell","_law_k","_law_letters","_law_way","_law_words","_law_size","_law_at","_law_stem"] ["_law_cell","_law_k"] (av kb):=scM
abbrev hW:Stmt:=top 29
theorem oG:aK ["_law_cell"] ["_law_cell"] (av hW):=scM
abbrev iR:Stmt:=top 30
theorem bA:aK ["_law_script","_law_state","_law_names","_law_ranks","_law_size","_law_heads_here","_law_turn","_law_row","_law_name_here","_law_rank"] ["_law_script","_law_state"] (av iR):=scM
abbrev lN:Stmt:=top 31
theorem rZ:aK ["_law_state","_law_some","_law_loose","_law_low","_law_high"] ["_law_state","_law_some","_law_loose","_law_low","_law_high"] (av lN):=scM
abbrev jn:Stmt:=top 32
theorem g9:aK ["_law_state","_law_cell","_law_way","_law_high","_law_some","_law_pick"] ["_law_state","_law_cell","_law_way","_law_high"] (av jn):=scM
abbrev i8:Stmt:=top 33
theorem dH:aK ["_law_state","_law_cell","_law_high","_law_way","_law_one","_law_some","_law_word"] ["_law_state","_law_cell","_law_high"] (av i8):=scM
abbrev kY:Stmt:=top 34
theorem nC:aK ["_law_state","_law_row","_law_steps","_law_frame"] ["_law_state","_law_row","_law_steps"] (av kY):=scM
abbrev kj:Stmt:=top 35
theorem eG:aK ["_law_state","_law_cell","_law_loose","_law_marks","_law_mark","_law_some","_law_name_here"] ["_law_state","_law_cell","_law_loose"] (av kj):=scM
abbrev iO:Stmt:=top 36
theorem bZ:aK ["_law_state","_law_cell","_law_kind","_law_loose","_law_low","_law_word","_law_some","_law_name_here","_law_high","_law_row"] ["_law_state","_law_cell","_law_kind","_law_loose"] (av iO):=scM
abbrev ip:Stmt:=top 37
theorem bt:aK ["_law_state","_law_cell","_law_kind","_law_loose","_law_frame","_law_low","_law_high","_law_idles","_law_times","_law_row","_law_some","_law_rank"] ["_law_state","_law_cell","_law_kind","_law_loose"] (av ip):=scM
abbrev hJ:Stmt:=top 38
theorem cB:aK ["_law_state","_law_frame","_law_rows","_law_row","_law_cost"] ["_law_state"] (av hJ):=scM
abbrev ko:Stmt:=top 39
theorem qS:aK ["_law_state","_law_frame"] ["_law_state","_law_frame"] (av ko):=scM
abbrev g7:Stmt:=top 40
theorem cj:aK ["_law_state","_law_cell","_law_loose","_law_frame","_law_some","_law_name_here","_law_deed","_law_things","_law_part","_law_high"] ["_law_state","_law_cell","_law_loose"] (av g7):=scM
abbrev hU:Stmt:=top 41
theorem fY:aK ["_law_state","_law_cell","_law_kind","_law_loose","_law_frame","_law_loops"] ["_law_state","_law_cell","_law_kind","_law_loose"] (av hU):=scM
abbrev ke:Stmt:=top 42
theorem fS:aK ["_law_state","_law_cells","_law_rank","_law_limit","_law_cell","_law_kind","_law_loose"] ["_law_state","_law_cells","_law_rank","_law_limit"] (av ke):=scM
abbrev jo:Stmt:=top 43
theorem bI:aK ["_law_script","_law_mode","_law_even","_law_limit","_law_state","_law_names","_law_cell","_law_at","_law_j","_law_rank","_law_name_here","_law_parts","_law_part","_law_many"] ["_law_script","_law_mode","_law_even","_law_limit"] (av jo):=scM
abbrev eJ:Stmt:=top 44
theorem gY:aK ["_law_number_here","_law_row","_law_word"] ["_law_number_here","_law_row"] (av eJ):=scM
abbrev dU:Stmt:=top 45
theorem dN:aK ["_law_frame","_law_number_here","_law_row"] ["_law_frame"] (av dU):=scM
abbrev kh:Stmt:=top 46
theorem cx:aK ["_law_rows","_law_heads_here","_law_deeds","_law_frames","_law_k","_law_word","_law_frame","_law_some"] ["_law_rows"] (av kh):=scM
abbrev lg:Stmt:=top 47
theorem ic:aK ["_law_rows","_law_ranks","_law_found","_law_k"] ["_law_rows"] (av lg):=scM
abbrev jk:Stmt:=top 48
theorem ku:aK ["_law_found","_law_due_here","_law_pair"] ["_law_found","_law_due_here"] (av jk):=scM
abbrev nI:Stmt:=top 49
theorem mP:aK ["_law_script","_law_rows","_law_program","_law_due_here","_law_found"] ["_law_script"] (av nI):=scM
abbrev d6:Stmt:=inClass (top 2) 0
theorem qR:aK ["self","number"] ["self","number"] (av d6):=scM
abbrev fC:Stmt:=inClass (top 3) 0
theorem l6:aK ["self","number","name","rank"] ["self","number","name","rank"] (av fC):=scM
abbrev eU:Stmt:=inClass (top 4) 0
theorem lD:aK ["self","number","name","rank","size"] ["self","number","name","rank","size"] (av eU):=scM
abbrev fZ:Stmt:=inClass (top 5) 0
theorem nY:aK ["self","number","name","size"] ["self","number","name","size"] (av fZ):=scM
abbrev gy:Stmt:=inClass (top 6) 0
theorem nz:aK ["self","number","name","rank"] ["self","number","name","rank"] (av gy):=scM
abbrev gI:Stmt:=inClass (top 7) 0
theorem nL:aK ["self","number","name","value"] ["self","number","name","value"] (av gI):=scM
abbrev gi:Stmt:=inClass (top 8) 0
theorem nj:aK ["self","number","name","place","value"] ["self","number","name","place","value"] (av gi):=scM
abbrev fH:Stmt:=inClass (top 9) 0
theorem mw:aK ["self","number","name","value"] ["self","number","name","value"] (av fH):=scM
abbrev gH:Stmt:=inClass (top 10) 0
theorem mR:aK ["self","number","name","value","mark"] ["self","number","name","value","mark"] (av gH):=scM
abbrev fD:Stmt:=inClass (top 11) 0
theorem mh:aK ["self","number","name","things"] ["self","number","name","things"] (av fD):=scM
abbrev ig:Stmt:=inClass (top 13) 0
theorem oB:aK ["self","number","value","first","other","left","right"] ["self","number","value","first","other","left","right"] (av ig):=scM
abbrev fL:Stmt:=inClass (top 14) 0
theorem mj:aK ["self","number","thing","most","body","left","right"] ["self","number","thing","most","body","left","right"] (av fL):=scM
abbrev fG:Stmt:=inClass (top 15) 0
theorem l8:aK ["self","number","name","parts","body"] ["self","number","name","parts","body"] (av fG):=scM
abbrev fw:Stmt:=inClass (top 16) 0
theorem md:aK ["self","heads","deeds","main"] ["self","heads","deeds","main"] (av fw):=scM
structure Adr where
 Row:Addr
 bC:Addr
 a8:Addr
 b7:Addr
 bY:Addr
 b5:Addr
 bN:Addr
 bx:Addr
 bM:Addr
 bz:Addr
 cH:Addr
 bH:Addr
 aZ:Addr
 bj:Addr
 Program:Addr
structure Txt (K:W.Frag) (mg:Str->Option Value) (A:Adr):Prop where
 oM:b8 K mg "row_place" jr ["number"]
 lO:b8 K mg "laid_rows" je ["rows","place","loop"]
 lT:b8 K mg "laid_inside" gw ["row","loop"]
 kN:b8 K mg "laid_program" fJ ["program"]
 mJ:b8 K mg "ranks_told" g8 ["program"]
 uc:b8 K mg "demands" lE ["program"]
 lR:b8 K mg "_law_cell_at" gF ["_law_script","_law_k"]
 tI:b8 K mg "_law_mix" lB ["_law_cell","_law_way","_law_many"]
 rn:b8 K mg "_law_name" kb ["_law_cell","_law_k"]
 nT:b8 K mg "_law_number" hW ["_law_cell"]
 pA:b8 K mg "_law_heads" iR ["_law_script","_law_state"]
 tZ:b8 K mg "_law_fit" lN ["_law_state","_law_some","_law_loose","_law_low","_law_high"]
 oZ:b8 K mg "_law_thing" jn ["_law_state","_law_cell","_law_way","_law_high"]
 pB:b8 K mg "_law_value" i8 ["_law_state","_law_cell","_law_high"]
 tP:b8 K mg "_law_add" kY ["_law_state","_law_row","_law_steps"]
 qE:b8 K mg "_law_said" kj ["_law_state","_law_cell","_law_loose"]
 pj:b8 K mg "_law_plain" iO ["_law_state","_law_cell","_law_kind","_law_loose"]
 nU:b8 K mg "_law_opened" ip ["_law_state","_law_cell","_law_kind","_law_loose"]
 mS:b8 K mg "_law_closed" hJ ["_law_state"]
 qW:b8 K mg "_law_else" ko ["_law_state","_law_frame"]
 nZ:b8 K mg "_law_called" g7 ["_law_state","_law_cell","_law_loose"]
 mX:b8 K mg "_law_turned" hU ["_law_state","_law_cell","_law_kind","_law_loose"]
 qD:b8 K mg "_law_body" ke ["_law_state","_law_cells","_law_rank","_law_limit"]
 oP:b8 K mg "_law_drawn" jo ["_law_script","_law_mode","_law_even","_law_limit"]
 jX:b8 K mg "_law_plain_row" eJ ["_law_number_here","_law_row"]
 iQ:b8 K mg "_law_nested_row" dU ["_law_frame"]
 qO:b8 K mg "_law_tree" kh ["_law_rows"]
 tH:b8 K mg "_law_due" lg ["_law_rows"]
 pv:b8 K mg "_law_alike" jk ["_law_found","_law_due_here"]
 tG:mg "all"=none
 ql:mg "bool"=none
 j3:mg "int"=none
 bu:mg "isinstance"=none
 cD:mg "len"=none
 di:mg "list"=none
 mT:mg "max"=none
 fP:mg "range"=none
 kD:mg "sorted"=none
 tF:mg "str"=none
 uA:mg "sum"=none
 mB:mg "tuple"=none
 tE:mg "zip"=none
 gW:dI K mg A.Row "Row" [A.Row]
 nA:MFn K A.Row "__init__" "Row.__init__" d6 ["self","number"]
 aY:dI K mg A.bC "HandRow" [A.bC,A.Row]
 iT:MFn K A.bC "__init__" "HandRow.__init__" fC ["self","number","name","rank"]
 fE:aQ K A.bC "name"
 fN:aQ K A.bC "rank"
 dW:aQ K A.bC "number"
 bQ:dI K mg A.a8 "GivenRow" [A.a8,A.Row]
 iF:MFn K A.a8 "__init__" "GivenRow.__init__" eU ["self","number","name","rank","size"]
 iG:aQ K A.a8 "name"
 iq:aQ K A.a8 "rank"
 iJ:aQ K A.a8 "size"
 dO:aQ K A.a8 "number"
 cP:dI K mg A.b7 "OwnRow" [A.b7,A.Row]
 jQ:MFn K A.b7 "__init__" "OwnRow.__init__" fZ ["self","number","name","size"]
 jV:aQ K A.b7 "name"
 j2:aQ K A.b7 "size"
 eW:aQ K A.b7 "number"
 bb:dI K mg A.bY "LetRow" [A.bY,A.Row]
 jO:MFn K A.bY "__init__" "LetRow.__init__" gy ["self","number","name","rank"]
 fW:aQ K A.bY "name"
 gh:aQ K A.bY "rank"
 eK:aQ K A.bY "number"
 cO:dI K mg A.b5 "SetRow" [A.b5,A.Row]
 jT:MFn K A.b5 "__init__" "SetRow.__init__" gI ["self","number","name","value"]
 jS:aQ K A.b5 "name"
 iV:aQ K A.b5 "value"
 eP:aQ K A.b5 "number"
 cz:dI K mg A.bN "PutRow" [A.bN,A.Row]
 j8:MFn K A.bN "__init__" "PutRow.__init__" gi ["self","number","name","place","value"]
 jR:aQ K A.bN "name"
 jz:aQ K A.bN "place"
 jv:aQ K A.bN "value"
 eO:aQ K A.bN "number"
 aX:dI K mg A.bx "SendRow" [A.bx,A.Row]
 jm:MFn K A.bx "__init__" "SendRow.__init__" fH ["self","number","name","value"]
 fK:aQ K A.bx "name"
 iE:aQ K A.bx "value"
 c8:aQ K A.bx "number"
 a9:dI K mg A.bM "SayRow" [A.bM,A.Row]
 jW:MFn K A.bM "__init__" "SayRow.__init__" gH ["self","number","name","value","mark"]
 jN:aQ K A.bM "name"
 iU:aQ K A.bM "value"
 fX:aQ K A.bM "mark"
 du:aQ K A.bM "number"
 ck:dI K mg A.bz "CallRow" [A.bz,A.Row]
 iY:MFn K A.bz "__init__" "CallRow.__init__" fD ["self","number","name","things"]
 ji:aQ K A.bz "name"
 gL:aQ K A.bz "things"
 dX:aQ K A.bz "number"
 cN:dI K mg A.cH "LastRow" [A.cH,A.Row]
 iW:MFn K A.cH "__init__" "Row.__init__" d6 ["self","number"]
 dS:aQ K A.cH "number"
 bo:dI K mg A.bH "IfRow" [A.bH,A.Row]
 kP:MFn K A.bH "__init__" "IfRow.__init__" ig ["self","number","value","first","other","left","right"]
 j7:aQ K A.bH "value"
 gJ:aQ K A.bH "first"
 f9:aQ K A.bH "other"
 kG:aQ K A.bH "left"
 j5:aQ K A.bH "right"
 fF:aQ K A.bH "number"
 aU:dI K mg A.aZ "LoopRow" [A.aZ,A.Row]
 iZ:MFn K A.aZ "__init__" "LoopRow.__init__" fL ["self","number","thing","most","body","left","right"]
 iy:aQ K A.aZ "thing"
 iS:aQ K A.aZ "most"
 ft:aQ K A.aZ "body"
 jj:aQ K A.aZ "left"
 iw:aQ K A.aZ "right"
 dZ:aQ K A.aZ "number"
 bT:dI K mg A.bj "DeedRow" [A.bj,A.Row]
 iX:MFn K A.bj "__init__" "DeedRow.__init__" fG ["self","number","name","parts","body"]
 fO:aQ K A.bj "name"
 iD:aQ K A.bj "parts"
 fM:aQ K A.bj "body"
 dY:aQ K A.bj "number"
 dD:dI K mg A.Program "Program" [A.Program]
 jy:MFn K A.Program "__init__" "Program.__init__" fw ["self","heads","deeds","main"]
 eX:aQ K A.Program "heads"
 eQ:aQ K A.Program "deeds"
 fI:aQ K A.Program "main"
 bL:OfC K A.Row "__init__"
 nd:[A.Row,A.bC,A.a8,A.b7,A.bY,A.b5,A.bN,A.bx,A.bM,A.bz,A.cH,A.bH,A.aZ,A.bj,A.Program].Nodup
section
variable {P:Program}{w:World}{K:W.Frag}{mg:Str->Option Value}{base:Heap}{A:Adr}
theorem alc {H:Hp}{p:Addr} (h:H p=none) (o:HO):aq H (upd H p o)/\upd H p o p=some o:=⟨aq.upd h o,ak⟩
theorem xJ:W.kitOne K (.type "int") (.type "int")=some true:=by kernel_rfl!
theorem w6:W.kitOne K (.type "int") (.type "bool")=some false:=by kernel_rfl!
theorem zH:W.kitOne K (.type "tuple") (.type "tuple")=some true:=by kernel_rfl!
theorem Ar:W.kitOne K (.type "list") (.type "list")=some true:=by kernel_rfl!
theorem sz {n:Nat} (h:n <= 1000):n <= sizeLine:=Nat.le_of_lt (aD h)
theorem cX (x:Int) {m:Int} (hm:0 < m):0 <= x % m/\x % m < m:=⟨Int.emod_nonneg x (show m ≠ 0 by omega),Int.emod_lt_of_pos x hm⟩
theorem yq {α:Type}{xs:List α}{k:Int} (h0:0 <= k) (h1:k < (xs.length:Int)):∃x,xs[k.toNat]?=some x/\atI xs k=some x:=by
 have hk:k.toNat < xs.length:=by omega
 have e:=aB (xs:=xs) (j:=k.toNat) (List.getElem?_eq_getElem hk)
 rw [show ((k.toNat:Nat):Int)=k by omega] at e
 exact ⟨_,List.getElem?_eq_getElem hk,e⟩
theorem ki {α:Type} (f:α->V) {xs:List α}{k:Int} (h0:0 <= k) (h1:k < (xs.length:Int)):∃x,x ∈ xs/\xs[k.toNat]?=some x/\atI (xs.map f) k=some (f x):=by
 obtain ⟨x,e1,e2⟩:=yq (xs:=xs.map f) h0 (by rw [List.length_map];exact h1)
 rw [List.getElem?_map] at e1
 cases h:xs[k.toNat]? with
 | none=>rw [h] at e1;cases e1
 | some y =>
  rw [h] at e1
  have:f y=x:=Option.some.inj e1
  exact ⟨y,List.mem_of_getElem? h,rfl,by rw [this];exact e2⟩
theorem Cf (i j:Int):decide (V.int i=V.int j)=decide (i=j):=decide_eq_decide.mpr ⟨fun h=>V.int.inj h,fun h=>by rw [h]⟩
theorem BY (i j:Str):decide (V.str i=V.str j)=decide (i=j):=decide_eq_decide.mpr ⟨fun h=>V.str.inj h,fun h=>by rw [h]⟩
theorem qP {α:Type} (xs:List α):xs.filter (fun _=>true)=xs:=List.filter_eq_self.mpr fun _ _=>rfl
end
section
variable {P:Program}{w:World}{K:W.Frag}{mg:Str->Option Value}{base:Heap}{A:Adr}
theorem aq.out {H0 H:Hp} (s:aq H0 H) {x:Addr} (h:H0 x=none) (u:HO):aq H0 (upd H x u):=fun a o q=>by
 rw [aw (fun z=>by rw [z,h] at q;cases q)]
 exact s a o q
theorem af {H:Hp}{x a:Addr}{u o:HO} (n:a ≠ x) (e:H a=some o):upd H x u a=some o:=by rw [aw n];exact e
structure IA (H0:Hp) (x C dx:Addr) (fs:List (Str × V)) (H:Hp):Prop where
 s:aq H0 H
 i:H x=some (.ins C dx fs)
theorem IA.one {H:Hp}{x C dx:Addr} (hx:H x=none) (hd:H dx=none):IA H x C dx [] (upd (upd H dx (.own x)) x (.ins C dx [])):=⟨aq.out (aq.upd hd _) hx _,ak⟩
theorem IA.put {H0 H:Hp}{x C dx:Addr}{fs:List (Str × V)} (a:IA H0 x C dx fs H) (hx:H0 x=none) (gs:List (Str × V)):IA H0 x C dx gs (upd H x (.ins C dx gs)):=⟨aq.out a.s hx _,ak⟩
theorem IA.ne {H0 H:Hp}{x C dx p:Addr}{fs:List (Str × V)} (a:IA H0 x C dx fs H) (hp:H p=none):p ≠ x:=fun z=>by rw [z,a.i] at hp;cases hp
theorem IA.new {H0 H:Hp}{x C dx p:Addr}{fs:List (Str × V)} (a:IA H0 x C dx fs H) (hp:H p=none) (o:HO):IA H0 x C dx fs (upd H p o):=⟨a.s.trans (aq.upd hp _),af (a.ne hp).symm a.i⟩
theorem IA.nw {H0 H:Hp}{x C dx:Addr}{fs:List (Str × V)} (_:IA H0 x C dx fs H) (p:Addr) (o:HO):upd H p o p=some o:=ak
def jh (K:W.Frag) (A:Adr):Sp:=fun vs H Q _=>∃(x C dx:Addr) (fs:List (Str × V)) (n:V),vs=[.ref x,n]/\H x=some (.ins C dx fs)/\Cls K C/\aQ K C "number"/\fs.length < 1000/\Q .non (upd H x (.ins C dx (jb "number" n fs)))
theorem j4 {C:Addr} (F:MFn K C "__init__" "Row.__init__" d6 ["self","number"]):iK P w K mg base 2 C "__init__" ["self","number"] (jh K A):=by
 refine F.has (k:=1) qR (fun vs H Q E h=>?_) (fun f cdv A' outer s H vs Q E hr hu h=>?_)
 ·obtain ⟨x,C,dx,fs,n,rfl,_⟩:=h
  rfl
 ·obtain ⟨x,C,dx,fs,n,rfl,hx,c,na,hl,q⟩:=h
  refine ⟨_,(ao (bq (fv 0) (fv 1) rfl)),?_⟩
  exact ⟨x,C,dx,fs,rfl,hx,c,na,hl,q⟩
theorem cb (T:Txt K mg A):iK P w K mg base 2 A.Row "__init__" ["self","number"] (jh K A):=j4 T.nA
def iI (K:W.Frag) (A:Adr):Sp:=fun vs G R _=>∃(x dx:Addr) (v0 v1 v2:V) (H:Hp),vs=[.ref x,v0,v1,v2]/\G=upd (upd H dx (.own x)) x (.ins A.bC dx [])/\H x=none/\H dx=none/\∀(H':Hp),aq H H'->H' x=some (.ins A.bC dx [("number",v0),("name",v1),("rank",v2)])->R .non H'
theorem mQ (T:Txt K mg A):iK P w K mg base 3 A.bC "__init__" ["self","number","name","rank"] (iI K A):=by
 have D_Row_init:=cb (P:=P) (w:=w) (base:=base) T
 refine T.iT.has (k:=2) l6 (fun vs G R E h=>?_) (fun f cdv A' outer s G vs R E hr hu h=>?_)
 ·obtain ⟨x,dx,v0,v1,v2,H,rfl,_⟩:=h
  rfl
 ·obtain ⟨x,dx,v0,v1,v2,H,rfl,rfl,hx,hd,q⟩:=h
  refine ⟨_,(ae (aL (cu T.gW T.bL D_Row_init hr (aa (fv 0) (aa (fv 1) ag))))
  (ae (bq (fv 0) (fv 2) rfl)
  (ao (bq (fv 0) (fv 3) rfl)))),?_⟩
  have a:=IA.one (C:=A.bC) hx hd
  refine ⟨x,A.bC,dx,[],v0,rfl,a.i,T.aY.cl,T.dW,by decide,?_⟩
  replace a:=a.put hx [("number",v0)]
  refine ⟨x,A.bC,dx,_,rfl,a.i,T.aY.cl,T.fE,by simp,?_⟩
  replace a:=a.put hx [("number",v0),("name",v1)]
  refine ⟨x,A.bC,dx,_,rfl,a.i,T.aY.cl,T.fN,by simp,?_⟩
  replace a:=a.put hx [("number",v0),("name",v1),("rank",v2)]
  exact q _ a.s a.i
theorem so {H:Hp}{x dx:Addr}{R:VK}{v0 v1 v2:V} (hx:H x=none) (hd:H dx=none) (q:∀(H':Hp),aq H H'->H' x=some (.ins A.bC dx [("number",v0),("name",v1),("rank",v2)])->R .non H'):iI K A (.ref x :: ([v0,v1,v2] ++ [])) (upd (upd H dx (.own x)) x (.ins A.bC dx [])) R E0:=⟨x,dx,_,_,_,H,rfl,rfl,hx,hd,q⟩
def gM (K:W.Frag) (A:Adr):Sp:=fun vs G R _=>∃(x dx:Addr) (v0 v1 v2 v3:V) (H:Hp),vs=[.ref x,v0,v1,v2,v3]/\G=upd (upd H dx (.own x)) x (.ins A.a8 dx [])/\H x=none/\H dx=none/\∀(H':Hp),aq H H'->H' x=some (.ins A.a8 dx [("number",v0),("name",v1),("rank",v2),("size",v3)])->R .non H'
theorem lZ (T:Txt K mg A):iK P w K mg base 3 A.a8 "__init__" ["self","number","name","rank","size"] (gM K A):=by
 have D_Row_init:=cb (P:=P) (w:=w) (base:=base) T
 refine T.iF.has (k:=2) lD (fun vs G R E h=>?_) (fun f cdv A' outer s G vs R E hr hu h=>?_)
 ·obtain ⟨x,dx,v0,v1,v2,v3,H,rfl,_⟩:=h
  rfl
 ·obtain ⟨x,dx,v0,v1,v2,v3,H,rfl,rfl,hx,hd,q⟩:=h
  refine ⟨_,(ae (aL (cu T.gW T.bL D_Row_init hr (aa (fv 0) (aa (fv 1) ag))))
  (ae (bq (fv 0) (fv 2) rfl)
  (ae (bq (fv 0) (fv 3) rfl)
  (ao (bq (fv 0) (fv 4) rfl))))),?_⟩
  have a:=IA.one (C:=A.a8) hx hd
  refine ⟨x,A.a8,dx,[],v0,rfl,a.i,T.bQ.cl,T.dO,by decide,?_⟩
  replace a:=a.put hx [("number",v0)]
  refine ⟨x,A.a8,dx,_,rfl,a.i,T.bQ.cl,T.iG,by simp,?_⟩
  replace a:=a.put hx [("number",v0),("name",v1)]
  refine ⟨x,A.a8,dx,_,rfl,a.i,T.bQ.cl,T.iq,by simp,?_⟩
  replace a:=a.put hx [("number",v0),("name",v1),("rank",v2)]
  refine ⟨x,A.a8,dx,_,rfl,a.i,T.bQ.cl,T.iJ,by simp,?_⟩
  replace a:=a.put hx [("number",v0),("name",v1),("rank",v2),("size",v3)]
  exact q _ a.s a.i
theorem qx {H:Hp}{x dx:Addr}{R:VK}{v0 v1 v2 v3:V} (hx:H x=none) (hd:H dx=none) (q:∀(H':Hp),aq H H'->H' x=some (.ins A.a8 dx [("number",v0),("name",v1),("rank",v2),("size",v3)])->R .non H'):gM K A (.ref x :: ([v0,v1,v2,v3] ++ [])) (upd (upd H dx (.own x)) x (.ins A.a8 dx [])) R E0:=⟨x,dx,_,_,_,_,H,rfl,rfl,hx,hd,q⟩
def iP (K:W.Frag) (A:Adr):Sp:=fun vs G R _=>∃(x dx:Addr) (v0 v1 v2:V) (H:Hp),vs=[.ref x,v0,v1,v2]/\G=upd (upd H dx (.own x)) x (.ins A.b7 dx [])/\H x=none/\H dx=none/\∀(H':Hp),aq H H'->H' x=some (.ins A.b7 dx [("number",v0),("name",v1),("size",v2)])->R .non H'
theorem ox (T:Txt K mg A):iK P w K mg base 3 A.b7 "__init__" ["self","number","name","size"] (iP K A):=by
 have D_Row_init:=cb (P:=P) (w:=w) (base:=base) T
 refine T.jQ.has (k:=2) nY (fun vs G R E h=>?_) (fun f cdv A' outer s G vs R E hr hu h=>?_)
 ·obtain ⟨x,dx,v0,v1,v2,H,rfl,_⟩:=h
  rfl
 ·obtain ⟨x,dx,v0,v1,v2,H,rfl,rfl,hx,hd,q⟩:=h
  refine ⟨_,(ae (aL (cu T.gW T.bL D_Row_init hr (aa (fv 0) (aa (fv 1) ag))))
  (ae (bq (fv 0) (fv 2) rfl)
  (ao (bq (fv 0) (fv 3) rfl)))),?_⟩
  have a:=IA.one (C:=A.b7) hx hd
  refine ⟨x,A.b7,dx,[],v0,rfl,a.i,T.cP.cl,T.eW,by decide,?_⟩
  replace a:=a.put hx [("number",v0)]
  refine ⟨x,A.b7,dx,_,rfl,a.i,T.cP.cl,T.jV,by simp,?_⟩
  replace a:=a.put hx [("number",v0),("name",v1)]
  refine ⟨x,A.b7,dx,_,rfl,a.i,T.cP.cl,T.j2,by simp,?_⟩
  replace a:=a.put hx [("number",v0),("name",v1),("size",v2)]
  exact q _ a.s a.i
theorem vB {H:Hp}{x dx:Addr}{R:VK}{v0 v1 v2:V} (hx:H x=none) (hd:H dx=none) (q:∀(H':Hp),aq H H'->H' x=some (.ins A.b7 dx [("number",v0),("name",v1),("size",v2)])->R .non H'):iP K A (.ref x :: ([v0,v1,v2] ++ [])) (upd (upd H dx (.own x)) x (.ins A.b7 dx [])) R E0:=⟨x,dx,_,_,_,H,rfl,rfl,hx,hd,q⟩
def iN (K:W.Frag) (A:Adr):Sp:=fun vs G R _=>∃(x dx:Addr) (v0 v1 v2:V) (H:Hp),vs=[.ref x,v0,v1,v2]/\G=upd (upd H dx (.own x)) x (.ins A.bY dx [])/\H x=none/\H dx=none/\∀(H':Hp),aq H H'->H' x=some (.ins A.bY dx [("number",v0),("name",v1),("rank",v2)])->R .non H'
theorem om (T:Txt K mg A):iK P w K mg base 3 A.bY "__init__" ["self","number","name","rank"] (iN K A):=by
 have D_Row_init:=cb (P:=P) (w:=w) (base:=base) T
 refine T.jO.has (k:=2) nz (fun vs G R E h=>?_) (fun f cdv A' outer s G vs R E hr hu h=>?_)
 ·obtain ⟨x,dx,v0,v1,v2,H,rfl,_⟩:=h
  rfl
 ·obtain ⟨x,dx,v0,v1,v2,H,rfl,rfl,hx,hd,q⟩:=h
  refine ⟨_,(ae (aL (cu T.gW T.bL D_Row_init hr (aa (fv 0) (aa (fv 1) ag))))
  (ae (bq (fv 0) (fv 2) rfl)
  (ao (bq (fv 0) (fv 3) rfl)))),?_⟩
  have a:=IA.one (C:=A.bY) hx hd
  refine ⟨x,A.bY,dx,[],v0,rfl,a.i,T.bb.cl,T.eK,by decide,?_⟩
  replace a:=a.put hx [("number",v0)]
  refine ⟨x,A.bY,dx,_,rfl,a.i,T.bb.cl,T.fW,by simp,?_⟩
  replace a:=a.put hx [("number",v0),("name",v1)]
  refine ⟨x,A.bY,dx,_,rfl,a.i,T.bb.cl,T.gh,by simp,?_⟩
  replace a:=a.put hx [("number",v0),("name",v1),("rank",v2)]
  exact q _ a.s a.i
theorem vv {H:Hp}{x dx:Addr}{R:VK}{v0 v1 v2:V} (hx:H x=none) (hd:H dx=none) (q:∀(H':Hp),aq H H'->H' x=some (.ins A.bY dx [("number",v0),("name",v1),("rank",v2)])->R .non H'):iN K A (.ref x :: ([v0,v1,v2] ++ [])) (upd (upd H dx (.own x)) x (.ins A.bY dx [])) R E0:=⟨x,dx,_,_,_,H,rfl,rfl,hx,hd,q⟩
def ja (K:W.Frag) (A:Adr):Sp:=fun vs G R _=>∃(x dx:Addr) (v0 v1 v2:V) (H:Hp),vs=[.ref x,v0,v1,v2]/\G=upd (upd H dx (.own x)) x (.ins A.b5 dx [])/\H x=none/\H dx=none/\∀(H':Hp),aq H H'->H' x=some (.ins A.b5 dx [("number",v0),("name",v1),("value",v2)])->R .non H'
theorem oz (T:Txt K mg A):iK P w K mg base 3 A.b5 "__init__" ["self","number","name","value"] (ja K A):=by
 have D_Row_init:=cb (P:=P) (w:=w) (base:=base) T
 refine T.jT.has (k:=2) nL (fun vs G R E h=>?_) (fun f cdv A' outer s G vs R E hr hu h=>?_)
 ·obtain ⟨x,dx,v0,v1,v2,H,rfl,_⟩:=h
  rfl
 ·obtain ⟨x,dx,v0,v1,v2,H,rfl,rfl,hx,hd,q⟩:=h
  refine ⟨_,(ae (aL (cu T.gW T.bL D_Row_init hr (aa (fv 0) (aa (fv 1) ag))))
  (ae (bq (fv 0) (fv 2) rfl)
  (ao (bq (fv 0) (fv 3) rfl)))),?_⟩
  have a:=IA.one (C:=A.b5) hx hd
  refine ⟨x,A.b5,dx,[],v0,rfl,a.i,T.cO.cl,T.eP,by decide,?_⟩
  replace a:=a.put hx [("number",v0)]
  refine ⟨x,A.b5,dx,_,rfl,a.i,T.cO.cl,T.jS,by simp,?_⟩
  replace a:=a.put hx [("number",v0),("name",v1)]
  refine ⟨x,A.b5,dx,_,rfl,a.i,T.cO.cl,T.iV,by simp,?_⟩
  replace a:=a.put hx [("number",v0),("name",v1),("value",v2)]
  exact q _ a.s a.i
theorem uU {H:Hp}{x dx:Addr}{R:VK}{v0 v1 v2:V} (hx:H x=none) (hd:H dx=none) (q:∀(H':Hp),aq H H'->H' x=some (.ins A.b5 dx [("number",v0),("name",v1),("value",v2)])->R .non H'):ja K A (.ref x :: ([v0,v1,v2] ++ [])) (upd (upd H dx (.own x)) x (.ins A.b5 dx [])) R E0:=⟨x,dx,_,_,_,H,rfl,rfl,hx,hd,q⟩
def jt (K:W.Frag) (A:Adr):Sp:=fun vs G R _=>∃(x dx:Addr) (v0 v1 v2 v3:V) (H:Hp),vs=[.ref x,v0,v1,v2,v3]/\G=upd (upd H dx (.own x)) x (.ins A.bN dx [])/\H x=none/\H dx=none/\∀(H':Hp),aq H H'->H' x=some (.ins A.bN dx [("number",v0),("name",v1),("place",v2),("value",v3)])->R .non H'
theorem oJ (T:Txt K mg A):iK P w K mg base 3 A.bN "__init__" ["self","number","name","place","value"] (jt K A):=by
 have D_Row_init:=cb (P:=P) (w:=w) (base:=base) T
 refine T.j8.has (k:=2) nj (fun vs G R E h=>?_) (fun f cdv A' outer s G vs R E hr hu h=>?_)
 ·obtain ⟨x,dx,v0,v1,v2,v3,H,rfl,_⟩:=h
  rfl
 ·obtain ⟨x,dx,v0,v1,v2,v3,H,rfl,rfl,hx,hd,q⟩:=h
  refine ⟨_,(ae (aL (cu T.gW T.bL D_Row_init hr (aa (fv 0) (aa (fv 1) ag))))
  (ae (bq (fv 0) (fv 2) rfl)
  (ae (bq (fv 0) (fv 3) rfl)
  (ao (bq (fv 0) (fv 4) rfl))))),?_⟩
  have a:=IA.one (C:=A.bN) hx hd
  refine ⟨x,A.bN,dx,[],v0,rfl,a.i,T.cz.cl,T.eO,by decide,?_⟩
  replace a:=a.put hx [("number",v0)]
  refine ⟨x,A.bN,dx,_,rfl,a.i,T.cz.cl,T.jR,by simp,?_⟩
  replace a:=a.put hx [("number",v0),("name",v1)]
  refine ⟨x,A.bN,dx,_,rfl,a.i,T.cz.cl,T.jz,by simp,?_⟩
  replace a:=a.put hx [("number",v0),("name",v1),("place",v2)]
  refine ⟨x,A.bN,dx,_,rfl,a.i,T.cz.cl,T.jv,by simp,?_⟩
  replace a:=a.put hx [("number",v0),("name",v1),("place",v2),("value",v3)]
  exact q _ a.s a.i
theorem uV {H:Hp}{x dx:Addr}{R:VK}{v0 v1 v2 v3:V} (hx:H x=none) (hd:H dx=none) (q:∀(H':Hp),aq H H'->H' x=some (.ins A.bN dx [("number",v0),("name",v1),("place",v2),("value",v3)])->R .non H'):jt K A (.ref x :: ([v0,v1,v2,v3] ++ [])) (upd (upd H dx (.own x)) x (.ins A.bN dx [])) R E0:=⟨x,dx,_,_,_,_,H,rfl,rfl,hx,hd,q⟩
def ix (K:W.Frag) (A:Adr):Sp:=fun vs G R _=>∃(x dx:Addr) (v0 v1 v2:V) (H:Hp),vs=[.ref x,v0,v1,v2]/\G=upd (upd H dx (.own x)) x (.ins A.bx dx [])/\H x=none/\H dx=none/\∀(H':Hp),aq H H'->H' x=some (.ins A.bx dx [("number",v0),("name",v1),("value",v2)])->R .non H'
theorem mU (T:Txt K mg A):iK P w K mg base 3 A.bx "__init__" ["self","number","name","value"] (ix K A):=by
 have D_Row_init:=cb (P:=P) (w:=w) (base:=base) T
 refine T.jm.has (k:=2) mw (fun vs G R E h=>?_) (fun f cdv A' outer s G vs R E hr hu h=>?_)
 ·obtain ⟨x,dx,v0,v1,v2,H,rfl,_⟩:=h
  rfl
 ·obtain ⟨x,dx,v0,v1,v2,H,rfl,rfl,hx,hd,q⟩:=h
  refine ⟨_,(ae (aL (cu T.gW T.bL D_Row_init hr (aa (fv 0) (aa (fv 1) ag))))
  (ae (bq (fv 0) (fv 2) rfl)
  (ao (bq (fv 0) (fv 3) rfl)))),?_⟩
  have a:=IA.one (C:=A.bx) hx hd
  refine ⟨x,A.bx,dx,[],v0,rfl,a.i,T.aX.cl,T.c8,by decide,?_⟩
  replace a:=a.put hx [("number",v0)]
  refine ⟨x,A.bx,dx,_,rfl,a.i,T.aX.cl,T.fK,by simp,?_⟩
  replace a:=a.put hx [("number",v0),("name",v1)]
  refine ⟨x,A.bx,dx,_,rfl,a.i,T.aX.cl,T.iE,by simp,?_⟩
  replace a:=a.put hx [("number",v0),("name",v1),("value",v2)]
  exact q _ a.s a.i
theorem rQ {H:Hp}{x dx:Addr}{R:VK}{v0 v1 v2:V} (hx:H x=none) (hd:H dx=none) (q:∀(H':Hp),aq H H'->H' x=some (.ins A.bx dx [("number",v0),("name",v1),("value",v2)])->R .non H'):ix K A (.ref x :: ([v0,v1,v2] ++ [])) (upd (upd H dx (.own x)) x (.ins A.bx dx [])) R E0:=⟨x,dx,_,_,_,H,rfl,rfl,hx,hd,q⟩
def jq (K:W.Frag) (A:Adr):Sp:=fun vs G R _=>∃(x dx:Addr) (v0 v1 v2 v3:V) (H:Hp),vs=[.ref x,v0,v1,v2,v3]/\G=upd (upd H dx (.own x)) x (.ins A.bM dx [])/\H x=none/\H dx=none/\∀(H':Hp),aq H H'->H' x=some (.ins A.bM dx [("number",v0),("name",v1),("value",v2),("mark",v3)])->R .non H'
theorem og (T:Txt K mg A):iK P w K mg base 3 A.bM "__init__" ["self","number","name","value","mark"] (jq K A):=by
 have D_Row_init:=cb (P:=P) (w:=w) (base:=base) T
 refine T.jW.has (k:=2) mR (fun vs G R E h=>?_) (fun f cdv A' outer s G vs R E hr hu h=>?_)
 ·obtain ⟨x,dx,v0,v1,v2,v3,H,rfl,_⟩:=h
  rfl
 ·obtain ⟨x,dx,v0,v1,v2,v3,H,rfl,rfl,hx,hd,q⟩:=h
  refine ⟨_,(ae (aL (cu T.gW T.bL D_Row_init hr (aa (fv 0) (aa (fv 1) ag))))
  (ae (bq (fv 0) (fv 2) rfl)
  (ae (bq (fv 0) (fv 3) rfl)
  (ao (bq (fv 0) (fv 4) rfl))))),?_⟩
  have a:=IA.one (C:=A.bM) hx hd
  refine ⟨x,A.bM,dx,[],v0,rfl,a.i,T.a9.cl,T.du,by decide,?_⟩
  replace a:=a.put hx [("number",v0)]
  refine ⟨x,A.bM,dx,_,rfl,a.i,T.a9.cl,T.jN,by simp,?_⟩
  replace a:=a.put hx [("number",v0),("name",v1)]
  refine ⟨x,A.bM,dx,_,rfl,a.i,T.a9.cl,T.iU,by simp,?_⟩
  replace a:=a.put hx [("number",v0),("name",v1),("value",v2)]
  refine ⟨x,A.bM,dx,_,rfl,a.i,T.a9.cl,T.fX,by simp,?_⟩
  replace a:=a.put hx [("number",v0),("name",v1),("value",v2),("mark",v3)]
  exact q _ a.s a.i
theorem ve {H:Hp}{x dx:Addr}{R:VK}{v0 v1 v2 v3:V} (hx:H x=none) (hd:H dx=none) (q:∀(H':Hp),aq H H'->H' x=some (.ins A.bM dx [("number",v0),("name",v1),("value",v2),("mark",v3)])->R .non H'):jq K A (.ref x :: ([v0,v1,v2,v3] ++ [])) (upd (upd H dx (.own x)) x (.ins A.bM dx [])) R E0:=⟨x,dx,_,_,_,_,H,rfl,rfl,hx,hd,q⟩
def iA (K:W.Frag) (A:Adr):Sp:=fun vs G R _=>∃(x dx:Addr) (v0 v1:V) (t0:Addr) (l0:List V) (H:Hp),vs=[.ref x,v0,v1,.ref t0]/\G=upd (upd H dx (.own x)) x (.ins A.bz dx [])/\H x=none/\H dx=none/\SqL K H t0 l0/\∀(n0:Addr) (H':Hp),H n0=none->aq H H'->H' n0=some (.lst l0)->H' x=some (.ins A.bz dx [("number",v0),("name",v1),("things",.ref n0)])->R .non H'
theorem mM (T:Txt K mg A):iK P w K mg base 3 A.bz "__init__" ["self","number","name","things"] (iA K A):=by
 have D_Row_init:=cb (P:=P) (w:=w) (base:=base) T
 refine T.iY.has (k:=2) mh (fun vs G R E h=>?_) (fun f cdv A' outer s G vs R E hr hu h=>?_)
 ·obtain ⟨x,dx,v0,v1,t0,l0,H,rfl,_⟩:=h
  rfl
 ·obtain ⟨x,dx,v0,v1,t0,l0,H,rfl,rfl,hx,hd,s0,q⟩:=h
  refine ⟨_,(ae (aL (cu T.gW T.bL D_Row_init hr (aa (fv 0) (aa (fv 1) ag))))
  (ae (bq (fv 0) (fv 2) rfl)
  (ao (bq (fv 0) (bE gB rfl T.di (by boot_by_name) (aa (fv 3) ag)) rfl)))),?_⟩
  have a:=IA.one (C:=A.bz) hx hd
  refine ⟨x,A.bz,dx,[],v0,rfl,a.i,T.ck.cl,T.dX,by decide,?_⟩
  replace a:=a.put hx [("number",v0)]
  refine ⟨x,A.bz,dx,_,rfl,a.i,T.ck.cl,T.ji,by simp,?_⟩
  replace a:=a.put hx [("number",v0),("name",v1)]
  refine ⟨_,l0,rfl,.inl (a.s.seq s0),fun n0 f0=>?_⟩
  have e0:=a.ne f0
  have h0:=aq.free a.s f0
  have k0:=a.nw n0 (HO.lst l0)
  replace a:=a.new f0 (HO.lst l0)
  refine ⟨x,A.bz,dx,_,rfl,a.i,T.ck.cl,T.gL,by simp,?_⟩
  replace a:=a.put hx [("number",v0),("name",v1),("things",.ref n0)]
  replace k0:=af (u:=.ins A.bz dx [("number",v0),("name",v1),("things",.ref n0)]) e0 k0
  exact q n0 _ h0 a.s k0 a.i
theorem sQ {H:Hp}{x dx:Addr}{R:VK}{v0 v1:V}{t0:Addr}{l0:List V} (s0:SqL K H t0 l0) (hx:H x=none) (hd:H dx=none) (q:∀(n0:Addr) (H':Hp),H n0=none->aq H H'->H' n0=some (.lst l0)->H' x=some (.ins A.bz dx [("number",v0),("name",v1),("things",.ref n0)])->R .non H'):iA K A (.ref x :: ([v0,v1,.ref t0] ++ [])) (upd (upd H dx (.own x)) x (.ins A.bz dx [])) R E0:=⟨x,dx,_,_,_,_,H,rfl,rfl,hx,hd,s0,q⟩
def jZ (K:W.Frag) (A:Adr):Sp:=fun vs G R _=>∃(x dx:Addr) (v0 v1 v2 v3:V) (t0 t1:Addr) (l0 l1:List V) (H:Hp),vs=[.ref x,v0,v1,.ref t0,.ref t1,v2,v3]/\G=upd (upd H dx (.own x)) x (.ins A.bH dx [])/\H x=none/\H dx=none/\SqL K H t0 l0/\SqL K H t1 l1/\∀(n0 n1:Addr) (H':Hp),H n0=none->H n1=none->aq H H'->H' n0=some (.lst l0)->H' n1=some (.lst l1)->H' x=some (.ins A.bH dx [("number",v0),("value",v1),("first",.ref n0),("other",.ref n1),("left",v2),("right",v3)])->R .non H'
theorem p5 (T:Txt K mg A):iK P w K mg base 3 A.bH "__init__" ["self","number","value","first","other","left","right"] (jZ K A):=by
 have D_Row_init:=cb (P:=P) (w:=w) (base:=base) T
 refine T.kP.has (k:=2) oB (fun vs G R E h=>?_) (fun f cdv A' outer s G vs R E hr hu h=>?_)
 ·obtain ⟨x,dx,v0,v1,v2,v3,t0,t1,l0,l1,H,rfl,_⟩:=h
  rfl
 ·obtain ⟨x,dx,v0,v1,v2,v3,t0,t1,l0,l1,H,rfl,rfl,hx,hd,s0,s1,q⟩:=h
  refine ⟨_,(ae (aL (cu T.gW T.bL D_Row_init hr (aa (fv 0) (aa (fv 1) ag))))
  (ae (bq (fv 0) (fv 2) rfl)
  (ae (bq (fv 0) (bE gB rfl T.di (by boot_by_name) (aa (fv 3) ag)) rfl)
  (ae (bq (fv 0) (bE gB rfl T.di (by boot_by_name) (aa (fv 4) ag)) rfl)
  (ae (bq (fv 0) (fv 5) rfl)
  (ao (bq (fv 0) (fv 6) rfl))))))),?_⟩
  have a:=IA.one (C:=A.bH) hx hd
  refine ⟨x,A.bH,dx,[],v0,rfl,a.i,T.bo.cl,T.fF,by decide,?_⟩
  replace a:=a.put hx [("number",v0)]
  refine ⟨x,A.bH,dx,_,rfl,a.i,T.bo.cl,T.j7,by simp,?_⟩
  replace a:=a.put hx [("number",v0),("value",v1)]
  refine ⟨_,l0,rfl,.inl (a.s.seq s0),fun n0 f0=>?_⟩
  have e0:=a.ne f0
  have h0:=aq.free a.s f0
  have k0:=a.nw n0 (HO.lst l0)
  replace a:=a.new f0 (HO.lst l0)
  refine ⟨x,A.bH,dx,_,rfl,a.i,T.bo.cl,T.gJ,by simp,?_⟩
  replace a:=a.put hx [("number",v0),("value",v1),("first",.ref n0)]
  replace k0:=af (u:=.ins A.bH dx [("number",v0),("value",v1),("first",.ref n0)]) e0 k0
  refine ⟨_,l1,rfl,.inl (a.s.seq s1),fun n1 f1=>?_⟩
  have e1:=a.ne f1
  have h1:=aq.free a.s f1
  replace k0:=aq.upd f1 (HO.lst l1) _ _ k0
  have k1:=a.nw n1 (HO.lst l1)
  replace a:=a.new f1 (HO.lst l1)
  refine ⟨x,A.bH,dx,_,rfl,a.i,T.bo.cl,T.f9,by simp,?_⟩
  replace a:=a.put hx [("number",v0),("value",v1),("first",.ref n0),("other",.ref n1)]
  replace k0:=af (u:=.ins A.bH dx [("number",v0),("value",v1),("first",.ref n0),("other",.ref n1)]) e0 k0
  replace k1:=af (u:=.ins A.bH dx [("number",v0),("value",v1),("first",.ref n0),("other",.ref n1)]) e1 k1
  refine ⟨x,A.bH,dx,_,rfl,a.i,T.bo.cl,T.kG,by simp,?_⟩
  replace a:=a.put hx [("number",v0),("value",v1),("first",.ref n0),("other",.ref n1),("left",v2)]
  replace k0:=af (u:=.ins A.bH dx [("number",v0),("value",v1),("first",.ref n0),("other",.ref n1),("left",v2)]) e0 k0
  replace k1:=af (u:=.ins A.bH dx [("number",v0),("value",v1),("first",.ref n0),("other",.ref n1),("left",v2)]) e1 k1
  refine ⟨x,A.bH,dx,_,rfl,a.i,T.bo.cl,T.j5,by simp,?_⟩
  replace a:=a.put hx [("number",v0),("value",v1),("first",.ref n0),("other",.ref n1),("left",v2),("right",v3)]
  replace k0:=af (u:=.ins A.bH dx [("number",v0),("value",v1),("first",.ref n0),("other",.ref n1),("left",v2),("right",v3)]) e0 k0
  replace k1:=af (u:=.ins A.bH dx [("number",v0),("value",v1),("first",.ref n0),("other",.ref n1),("left",v2),("right",v3)]) e1 k1
  exact q n0 n1 _ h0 h1 a.s k0 k1 a.i
theorem wB {H:Hp}{x dx:Addr}{R:VK}{v0 v1 v2 v3:V}{t0:Addr}{l0:List V} (s0:SqL K H t0 l0) {t1:Addr}{l1:List V} (s1:SqL K H t1 l1) (hx:H x=none) (hd:H dx=none) (q:∀(n0 n1:Addr) (H':Hp),H n0=none->H n1=none->aq H H'->H' n0=some (.lst l0)->H' n1=some (.lst l1)->H' x=some (.ins A.bH dx [("number",v0),("value",v1),("first",.ref n0),("other",.ref n1),("left",v2),("right",v3)])->R .non H'):jZ K A (.ref x :: ([v0,v1,.ref t0,.ref t1,v2,v3] ++ [])) (upd (upd H dx (.own x)) x (.ins A.bH dx [])) R E0:=⟨x,dx,_,_,_,_,_,_,_,_,H,rfl,rfl,hx,hd,s0,s1,q⟩
def ir (K:W.Frag) (A:Adr):Sp:=fun vs G R _=>∃(x dx:Addr) (v0 v1 v2 v3 v4:V) (t0:Addr) (l0:List V) (H:Hp),vs=[.ref x,v0,v1,v2,.ref t0,v3,v4]/\G=upd (upd H dx (.own x)) x (.ins A.aZ dx [])/\H x=none/\H dx=none/\SqL K H t0 l0/\∀(n0:Addr) (H':Hp),H n0=none->aq H H'->H' n0=some (.lst l0)->H' x=some (.ins A.aZ dx [("number",v0),("thing",v1),("most",v2),("body",.ref n0),("left",v3),("right",v4)])->R .non H'
theorem nK (T:Txt K mg A):iK P w K mg base 3 A.aZ "__init__" ["self","number","thing","most","body","left","right"] (ir K A):=by
 have D_Row_init:=cb (P:=P) (w:=w) (base:=base) T
 refine T.iZ.has (k:=2) mj (fun vs G R E h=>?_) (fun f cdv A' outer s G vs R E hr hu h=>?_)
 ·obtain ⟨x,dx,v0,v1,v2,v3,v4,t0,l0,H,rfl,_⟩:=h
  rfl
 ·obtain ⟨x,dx,v0,v1,v2,v3,v4,t0,l0,H,rfl,rfl,hx,hd,s0,q⟩:=h
  refine ⟨_,(ae (aL (cu T.gW T.bL D_Row_init hr (aa (fv 0) (aa (fv 1) ag))))
  (ae (bq (fv 0) (fv 2) rfl)
  (ae (bq (fv 0) (fv 3) rfl)
  (ae (bq (fv 0) (bE gB rfl T.di (by boot_by_name) (aa (fv 4) ag)) rfl)
  (ae (bq (fv 0) (fv 5) rfl)
  (ao (bq (fv 0) (fv 6) rfl))))))),?_⟩
  have a:=IA.one (C:=A.aZ) hx hd
  refine ⟨x,A.aZ,dx,[],v0,rfl,a.i,T.aU.cl,T.dZ,by decide,?_⟩
  replace a:=a.put hx [("number",v0)]
  refine ⟨x,A.aZ,dx,_,rfl,a.i,T.aU.cl,T.iy,by simp,?_⟩
  replace a:=a.put hx [("number",v0),("thing",v1)]
  refine ⟨x,A.aZ,dx,_,rfl,a.i,T.aU.cl,T.iS,by simp,?_⟩
  replace a:=a.put hx [("number",v0),("thing",v1),("most",v2)]
  refine ⟨_,l0,rfl,.inl (a.s.seq s0),fun n0 f0=>?_⟩
  have e0:=a.ne f0
  have h0:=aq.free a.s f0
  have k0:=a.nw n0 (HO.lst l0)
  replace a:=a.new f0 (HO.lst l0)
  refine ⟨x,A.aZ,dx,_,rfl,a.i,T.aU.cl,T.ft,by simp,?_⟩
  replace a:=a.put hx [("number",v0),("thing",v1),("most",v2),("body",.ref n0)]
  replace k0:=af (u:=.ins A.aZ dx [("number",v0),("thing",v1),("most",v2),("body",.ref n0)]) e0 k0
  refine ⟨x,A.aZ,dx,_,rfl,a.i,T.aU.cl,T.jj,by simp,?_⟩
  replace a:=a.put hx [("number",v0),("thing",v1),("most",v2),("body",.ref n0),("left",v3)]
  replace k0:=af (u:=.ins A.aZ dx [("number",v0),("thing",v1),("most",v2),("body",.ref n0),("left",v3)]) e0 k0
  refine ⟨x,A.aZ,dx,_,rfl,a.i,T.aU.cl,T.iw,by simp,?_⟩
  replace a:=a.put hx [("number",v0),("thing",v1),("most",v2),("body",.ref n0),("left",v3),("right",v4)]
  replace k0:=af (u:=.ins A.aZ dx [("number",v0),("thing",v1),("most",v2),("body",.ref n0),("left",v3),("right",v4)]) e0 k0
  exact q n0 _ h0 a.s k0 a.i
theorem sk {H:Hp}{x dx:Addr}{R:VK}{v0 v1 v2 v3 v4:V}{t0:Addr}{l0:List V} (s0:SqL K H t0 l0) (hx:H x=none) (hd:H dx=none) (q:∀(n0:Addr) (H':Hp),H n0=none->aq H H'->H' n0=some (.lst l0)->H' x=some (.ins A.aZ dx [("number",v0),("thing",v1),("most",v2),("body",.ref n0),("left",v3),("right",v4)])->R .non H'):ir K A (.ref x :: ([v0,v1,v2,.ref t0,v3,v4] ++ [])) (upd (upd H dx (.own x)) x (.ins A.aZ dx [])) R E0:=⟨x,dx,_,_,_,_,_,_,_,H,rfl,rfl,hx,hd,s0,q⟩
def iH (K:W.Frag) (A:Adr):Sp:=fun vs G R _=>∃(x dx:Addr) (v0 v1:V) (t0 t1:Addr) (l0 l1:List V) (H:Hp),vs=[.ref x,v0,v1,.ref t0,.ref t1]/\G=upd (upd H dx (.own x)) x (.ins A.bj dx [])/\H x=none/\H dx=none/\SqL K H t0 l0/\SqL K H t1 l1/\∀(n0 n1:Addr) (H':Hp),H n0=none->H n1=none->aq H H'->H' n0=some (.lst l0)->H' n1=some (.lst l1)->H' x=some (.ins A.bj dx [("number",v0),("name",v1),("parts",.ref n0),("body",.ref n1)])->R .non H'
theorem nu (T:Txt K mg A):iK P w K mg base 3 A.bj "__init__" ["self","number","name","parts","body"] (iH K A):=by
 have D_Row_init:=cb (P:=P) (w:=w) (base:=base) T
 refine T.iX.has (k:=2) l8 (fun vs G R E h=>?_) (fun f cdv A' outer s G vs R E hr hu h=>?_)
 ·obtain ⟨x,dx,v0,v1,t0,t1,l0,l1,H,rfl,_⟩:=h
  rfl
 ·obtain ⟨x,dx,v0,v1,t0,t1,l0,l1,H,rfl,rfl,hx,hd,s0,s1,q⟩:=h
  refine ⟨_,(ae (aL (cu T.gW T.bL D_Row_init hr (aa (fv 0) (aa (fv 1) ag))))
  (ae (bq (fv 0) (fv 2) rfl)
  (ae (bq (fv 0) (bE gB rfl T.di (by boot_by_name) (aa (fv 3) ag)) rfl)
  (ao (bq (fv 0) (bE gB rfl T.di (by boot_by_name) (aa (fv 4) ag)) rfl))))),?_⟩
  have a:=IA.one (C:=A.bj) hx hd
  refine ⟨x,A.bj,dx,[],v0,rfl,a.i,T.bT.cl,T.dY,by decide,?_⟩
  replace a:=a.put hx [("number",v0)]
  refine ⟨x,A.bj,dx,_,rfl,a.i,T.bT.cl,T.fO,by simp,?_⟩
  replace a:=a.put hx [("number",v0),("name",v1)]
  refine ⟨_,l0,rfl,.inl (a.s.seq s0),fun n0 f0=>?_⟩
  have e0:=a.ne f0
  have h0:=aq.free a.s f0
  have k0:=a.nw n0 (HO.lst l0)
  replace a:=a.new f0 (HO.lst l0)
  refine ⟨x,A.bj,dx,_,rfl,a.i,T.bT.cl,T.iD,by simp,?_⟩
  replace a:=a.put hx [("number",v0),("name",v1),("parts",.ref n0)]
  replace k0:=af (u:=.ins A.bj dx [("number",v0),("name",v1),("parts",.ref n0)]) e0 k0
  refine ⟨_,l1,rfl,.inl (a.s.seq s1),fun n1 f1=>?_⟩
  have e1:=a.ne f1
  have h1:=aq.free a.s f1
  replace k0:=aq.upd f1 (HO.lst l1) _ _ k0
  have k1:=a.nw n1 (HO.lst l1)
  replace a:=a.new f1 (HO.lst l1)
  refine ⟨x,A.bj,dx,_,rfl,a.i,T.bT.cl,T.fM,by simp,?_⟩
  replace a:=a.put hx [("number",v0),("name",v1),("parts",.ref n0),("body",.ref n1)]
  replace k0:=af (u:=.ins A.bj dx [("number",v0),("name",v1),("parts",.ref n0),("body",.ref n1)]) e0 k0
  replace k1:=af (u:=.ins A.bj dx [("number",v0),("name",v1),("parts",.ref n0),("body",.ref n1)]) e1 k1
  exact q n0 n1 _ h0 h1 a.s k0 k1 a.i
theorem rW {H:Hp}{x dx:Addr}{R:VK}{v0 v1:V}{t0:Addr}{l0:List V} (s0:SqL K H t0 l0) {t1:Addr}{l1:List V} (s1:SqL K H t1 l1) (hx:H x=none) (hd:H dx=none) (q:∀(n0 n1:Addr) (H':Hp),H n0=none->H n1=none->aq H H'->H' n0=some (.lst l0)->H' n1=some (.lst l1)->H' x=some (.ins A.bj dx [("number",v0),("name",v1),("parts",.ref n0),("body",.ref n1)])->R .non H'):iH K A (.ref x :: ([v0,v1,.ref t0,.ref t1] ++ [])) (upd (upd H dx (.own x)) x (.ins A.bj dx [])) R E0:=⟨x,dx,_,_,_,_,_,_,H,rfl,rfl,hx,hd,s0,s1,q⟩
def iB (K:W.Frag) (A:Adr):Sp:=fun vs G R _=>∃(x dx:Addr) (t0 t1 t2:Addr) (l0 l1 l2:List V) (H:Hp),vs=[.ref x,.ref t0,.ref t1,.ref t2]/\G=upd (upd H dx (.own x)) x (.ins A.Program dx [])/\H x=none/\H dx=none/\SqL K H t0 l0/\SqL K H t1 l1/\SqL K H t2 l2/\∀(n0 n1 n2:Addr) (H':Hp),H n0=none->H n1=none->H n2=none->aq H H'->H' n0=some (.lst l0)->H' n1=some (.lst l1)->H' n2=some (.lst l2)->H' x=some (.ins A.Program dx [("heads",.ref n0),("deeds",.ref n1),("main",.ref n2)])->R .non H'
theorem mK (T:Txt K mg A):iK P w K mg base 3 A.Program "__init__" ["self","heads","deeds","main"] (iB K A):=by
 refine T.jy.has (k:=2) md (fun vs G R E h=>?_) (fun f cdv A' outer s G vs R E hr hu h=>?_)
 ·obtain ⟨x,dx,t0,t1,t2,l0,l1,l2,H,rfl,_⟩:=h
  rfl
 ·obtain ⟨x,dx,t0,t1,t2,l0,l1,l2,H,rfl,rfl,hx,hd,s0,s1,s2,q⟩:=h
  refine ⟨_,(ae (bq (fv 0) (bE gB rfl T.di (by boot_by_name) (aa (fv 1) ag)) rfl)
  (ae (bq (fv 0) (bE gB rfl T.di (by boot_by_name) (aa (fv 2) ag)) rfl)
  (ao (bq (fv 0) (bE gB rfl T.di (by boot_by_name) (aa (fv 3) ag)) rfl)))),?_⟩
  have a:=IA.one (C:=A.Program) hx hd
  refine ⟨_,l0,rfl,.inl (a.s.seq s0),fun n0 f0=>?_⟩
  have e0:=a.ne f0
  have h0:=aq.free a.s f0
  have k0:=a.nw n0 (HO.lst l0)
  replace a:=a.new f0 (HO.lst l0)
  refine ⟨x,A.Program,dx,[],rfl,a.i,T.dD.cl,T.eX,by simp,?_⟩
  replace a:=a.put hx [("heads",.ref n0)]
  replace k0:=af (u:=.ins A.Program dx [("heads",.ref n0)]) e0 k0
  refine ⟨_,l1,rfl,.inl (a.s.seq s1),fun n1 f1=>?_⟩
  have e1:=a.ne f1
  have h1:=aq.free a.s f1
  replace k0:=aq.upd f1 (HO.lst l1) _ _ k0
  have k1:=a.nw n1 (HO.lst l1)
  replace a:=a.new f1 (HO.lst l1)
  refine ⟨x,A.Program,dx,_,rfl,a.i,T.dD.cl,T.eQ,by simp,?_⟩
  replace a:=a.put hx [("heads",.ref n0),("deeds",.ref n1)]
  replace k0:=af (u:=.ins A.Program dx [("heads",.ref n0),("deeds",.ref n1)]) e0 k0
  replace k1:=af (u:=.ins A.Program dx [("heads",.ref n0),("deeds",.ref n1)]) e1 k1
  refine ⟨_,l2,rfl,.inl (a.s.seq s2),fun n2 f2=>?_⟩
  have e2:=a.ne f2
  have h2:=aq.free a.s f2
  replace k0:=aq.upd f2 (HO.lst l2) _ _ k0
  replace k1:=aq.upd f2 (HO.lst l2) _ _ k1
  have k2:=a.nw n2 (HO.lst l2)
  replace a:=a.new f2 (HO.lst l2)
  refine ⟨x,A.Program,dx,_,rfl,a.i,T.dD.cl,T.fI,by simp,?_⟩
  replace a:=a.put hx [("heads",.ref n0),("deeds",.ref n1),("main",.ref n2)]
  replace k0:=af (u:=.ins A.Program dx [("heads",.ref n0),("deeds",.ref n1),("main",.ref n2)]) e0 k0
  replace k1:=af (u:=.ins A.Program dx [("heads",.ref n0),("deeds",.ref n1),("main",.ref n2)]) e1 k1
  replace k2:=af (u:=.ins A.Program dx [("heads",.ref n0),("deeds",.ref n1),("main",.ref n2)]) e2 k2
  exact q n0 n1 n2 _ h0 h1 h2 a.s k0 k1 k2 a.i
theorem rS {H:Hp}{x dx:Addr}{R:VK}{t0:Addr}{l0:List V} (s0:SqL K H t0 l0) {t1:Addr}{l1:List V} (s1:SqL K H t1 l1) {t2:Addr}{l2:List V} (s2:SqL K H t2 l2) (hx:H x=none) (hd:H dx=none) (q:∀(n0 n1 n2:Addr) (H':Hp),H n0=none->H n1=none->H n2=none->aq H H'->H' n0=some (.lst l0)->H' n1=some (.lst l1)->H' n2=some (.lst l2)->H' x=some (.ins A.Program dx [("heads",.ref n0),("deeds",.ref n1),("main",.ref n2)])->R .non H'):iB K A (.ref x :: ([.ref t0,.ref t1,.ref t2] ++ [])) (upd (upd H dx (.own x)) x (.ins A.Program dx [])) R E0:=⟨x,dx,_,_,_,_,_,_,H,rfl,rfl,hx,hd,s0,s1,s2,q⟩
end
section
variable {P:Program}{w:World}{K:W.Frag}{mg:Str->Option Value}{base:Heap}{A:Adr}{N:Nat->Str}
theorem ah {t u:TS}{D:Ends}{σ:St}{H:Hp} (h:∀N:St->Hp->Prop,(∀σ H,u D σ H->N σ H)->t { D with nx:=N } σ H):A6 t u D σ H:=h (u D) fun _ _ z=>z
def pE (N:Nat->Str):Prop:=∀i j,i < 25->j < 25->N i=N j->i=j
def dk (N:Nat->Str) (idx:List Nat) (f:Nat->V):List (Key × V):=idx.map fun i=>(Sum.inr (N i),f i)
theorem key_ne (D:pE N) {i j:Nat} (hi:i < 25) (hj:j < 25) (h:i ≠ j):(Sum.inr (N i):Key) ≠ Sum.inr (N j):=fun e=>h (D i j hi hj (Sum.inr.inj e))
theorem xx (D:pE N) {f:Nat->V}{i:Nat}:∀{idx:List Nat},(∀j ∈ idx,j < 25)->i ∈ idx->L2.cF (dk N idx f) (.inr (N i))=some (f i)
 | j :: r,hb,m=>by
  by_cases e:j=i
  ·subst e
   unfold L2.cF dk
   rw [List.map_cons,List.find?_cons]
   simp
  ·have hj:=hb j List.mem_cons_self
   have m':i ∈ r:=by
    rcases List.mem_cons.mp m with z | z
    ·exact absurd z.symm e
    ·exact z
   have hi:=hb i m
   have ih:=xx D (f:=f) (i:=i) (idx:=r) (fun k hk=>hb k (List.mem_cons_of_mem _ hk)) m'
   unfold L2.cF dk at ih ⊢
   rw [List.map_cons,List.find?_cons,decide_eq_false (key_ne D hj hi e)]
   exact ih
theorem xj (D:pE N) {f:Nat->V}{i:Nat} (hi:i < 25) {idx:List Nat} (hb:∀j ∈ idx,j < 25):((dk N idx f).any fun kv=>decide (kv.1=(Sum.inr (N i):Key)))=decide (i ∈ idx):=by
 unfold dk
 rw [List.any_map]
 by_cases m:i ∈ idx
 ·rw [decide_eq_true m,List.any_eq_true]
  exact ⟨i,m,decide_eq_true rfl⟩
 ·rw [decide_eq_false m,List.any_eq_false]
  intro j hj
  show ¬ decide ((Sum.inr (N j):Key)=Sum.inr (N i))=true
  rw [decide_eq_false (key_ne D (hb j hj) hi (fun z=>m (z ▸ hj)))]
  exact Bool.false_ne_true
theorem rC {f g:Nat->V}{idx:List Nat} (h:∀i ∈ idx,f i=g i):dk N idx f=dk N idx g:=List.map_congr_left fun i hi=>by rw [h i hi]
def oI (f:Nat->V) (i:Nat) (v:V):Nat->V:=fun j=>if j=i then v else f j
theorem jE (f:Nat->V) (i:Nat) (v:V):oI f i v i=v:=if_pos rfl
theorem mH (f:Nat->V) {i j:Nat} (v:V) (h:j ≠ i):oI f i v j=f j:=if_neg h
theorem wQ (D:pE N) {f:Nat->V}{i:Nat}{v:V}{idx:List Nat} (hb:∀j ∈ idx,j < 25) (m:i ∈ idx):putK (dk N idx f) (.inr (N i)) v=dk N idx (oI f i v):=by
 unfold putK
 rw [xj D (hb i m) hb,decide_eq_true m,if_pos rfl]
 unfold dk
 rw [List.map_map]
 refine List.map_congr_left fun j hj=>?_
 show (if (Sum.inr (N j):Key)=Sum.inr (N i) then ((Sum.inr (N j):Key),v) else (Sum.inr (N j),f j))=(Sum.inr (N j),oI f i v j)
 by_cases e:j=i
 ·rw [e,if_pos rfl,jE]
 ·rw [if_neg (key_ne D (hb j hj) (hb i m) e),mH _ _ e]
theorem kR (D:pE N) {f:Nat->V}{i:Nat}{v:V}{idx:List Nat} (hi:i < 25) (hb:∀j ∈ idx,j < 25) (m:i ∉ idx):putK (dk N idx f) (.inr (N i)) v=dk N (idx ++ [i]) (oI f i v):=by
 unfold putK
 rw [xj D hi hb,decide_eq_false m,if_neg Bool.false_ne_true]
 unfold dk
 rw [List.map_append,List.map_cons,List.map_nil,jE]
 congr 1
 refine List.map_congr_left fun j hj=>?_
 rw [mH _ _ (fun z=>m (by rw [<- z];exact hj))]
def ins (idx:List Nat) (i:Nat):List Nat:=if i ∈ idx then idx else idx ++ [i]
theorem qj (idx:List Nat) (i:Nat):(ins idx i).length <= idx.length + 1:=by
 unfold ins
 split
 ·omega
 ·simp
theorem yN {idx:List Nat}{i j:Nat} (h:j ∈ ins idx i):j=i \/ j ∈ idx:=by
 unfold ins at h
 split at h
 ·exact Or.inr h
 ·rcases List.mem_append.mp h with z | z
  ·exact Or.inr z
  ·exact Or.inl (List.mem_singleton.mp z)
theorem xK (idx:List Nat) (i:Nat):i ∈ ins idx i:=by
 unfold ins
 split
 ·assumption
 ·simp
theorem mD {idx:List Nat}{i j:Nat} (h:j ∈ idx):j ∈ ins idx i:=by
 unfold ins
 split
 ·exact h
 ·exact List.mem_append_left _ h
theorem vP (D:pE N) {f:Nat->V}{i:Nat}{v:V}{idx:List Nat} (hi:i < 25) (hb:∀j ∈ idx,j < 25):putK (dk N idx f) (.inr (N i)) v=dk N (ins idx i) (oI f i v):=by
 unfold ins
 by_cases m:i ∈ idx
 ·rw [if_pos m];exact wQ D hb m
 ·rw [if_neg m];exact kR D hi hb m
theorem nJ (f:Nat->V) (idx:List Nat):(dk N idx f).length=idx.length:=List.length_map _
theorem bX {α β:Type}{F:α->β->Prop}:∀{l₁:List α}{l₂:List β}{i:Nat}{a:α},Paired F l₁ l₂->l₁[i]?=some a->∃b,l₂[i]?=some b/\F a b
 | _,_,_,_,.nil,h=>by cases h
 | _,_,0,_,.cons h _,e=>by cases e;exact ⟨_,rfl,h⟩
 | _,_,i + 1,_,.cons _ r,e=>by
  have:∃b,_:=bX (i:=i) r e
  exact this
theorem pw {α β:Type} (f:β->α->β) (b:β) {xs:List α}{i:Nat}{x:α} (h:xs[i]?=some x):(xs.take (i + 1)).foldl f b=f ((xs.take i).foldl f b) x:=by
 rw [List.take_add_one,h,List.foldl_append]
 rfl
abbrev cls (A:Adr):List Addr:=[A.Row,A.bC,A.a8,A.b7,A.bY,A.b5,A.bN,A.bx,A.bM,A.bz,A.cH,A.bH,A.aZ,A.bj,A.Program]
theorem ar (T:Txt K mg A) (i j:Nat) (hi:i < 15:=by decide) (hj:j < 15:=by decide) (h:i ≠ j:=by decide):(cls A)[i]'hi ≠ (cls A)[j]'hj:=fun e=>h ((List.getElem_inj T.nd).mp e)
theorem sI {C:Addr}{x:Str}{up:List Addr} (O:dI K mg C x up) (hs:C ∈ up:=by exact List.mem_cons_self):W.kitOne K (.ref C) (.ref C)=some true:=by
 rw [O.kit O hs,decide_eq_true hs]
theorem bw {C D R:Addr}{x y:Str}{vp:List Addr} (O:dI K mg C x [C,R]) (U:dI K mg D y vp) (h1:D ≠ C) (h2:D ≠ R):W.kitOne K (.ref C) (.ref D)=some false:=by
 rw [O.kit U List.mem_cons_self,decide_eq_false]
 intro m
 rcases List.mem_cons.mp m with e | m
 ·exact h1 e
 ·rcases List.mem_cons.mp m with e | m
  ·exact h2 e
  ·cases m
def In (n:Int):Prop:=0 <= n/\n < 1000000000000
abbrev opW:List Str:=["+","-","*","over","rest","<","="]
theorem kg (D:pE N) {H:Hp}{d:Addr}{idx:List Nat}{f:Nat->V} (h:Rd H d (.dK (dk N idx f))) (hb:∀j ∈ idx,j < 25) {k:Nat} (hk:k ∈ idx):aN H d (.str (N k)) (some (f k)):=by
 rw [<- xx D (f:=f) hb hk]
 exact .inl ⟨_,_,h,rfl,rfl⟩
end
section
inductive Th where
 | i (n:Int) | x (a:Nat)
inductive Val where
 | one (a:Th) | op (a:Th) (w:Str) (b:Th) | atl (x:Nat) (b:Th)
def Th.v (N:Nat->Str):Th->V
 | .i n=>.int n
 | .x a=>.str (N a)
def vV (N:Nat->Str):Val->List V
 | .one a=>[a.v N]
 | .op a w b=>[a.v N,.str w,b.v N]
 | .atl x b=>[.str (N x),.str "at",b.v N]
inductive Lr where
 | hand (i:Nat) (r:Int) | giv (i:Nat) (r z:Int) | own (i:Nat) (z:Int) | lt (i:Nat) (r:Int)
 | set (x:Nat) (v:Val) | put (x:Nat) (p:Th) (v:Val) | snd (h:Nat) (v:Val) | say (x:Nat) (v:Val) (m:Nat)
 | call (i:Nat) (ts:List Th) | last | iff (v:Val) (l r:Int) | loop (t:Th) (m l r:Int) | els | fin | deed (i:Nat) (ps:List Nat) | main
def Lr.w:Lr->Str
 | .hand _ _=>"hand" | .giv _ _ _=>"given" | .own _ _=>"own" | .lt _ _=>"let" | .set _ _=>"set" | .put _ _ _=>"put" | .snd _ _=>"send" | .say _ _ _=>"say"
 | .call _ _=>"call" | .last=>"last" | .iff _ _ _=>"if" | .loop _ _ _ _=>"loop" | .els=>"else" | .fin=>"end" | .deed _ _=>"deed" | .main=>"main"
abbrev nV (N:Nat->Str) (ns:List Nat):List V:=ns.map fun i=>V.str (N i)
def Lr.tl (N:Nat->Str) (p:Addr):Lr->List V
 | .hand i r=>[.str (N i),.int r]
 | .giv i r z=>[.str (N i),.int r,.int z]
 | .own i z=>[.str (N i),.int z]
 | .lt i r=>[.str (N i),.int r]
 | .set x _=>[.str (N x),.ref p]
 | .put x t _=>[.str (N x),t.v N,.ref p]
 | .snd h _=>[.str (N h),.ref p]
 | .say x _ m=>[.str (N x),.ref p,.str (N m)]
 | .call i _=>[.str (N i),.ref p]
 | .last=>[]
 | .iff _ l r=>[.ref p,.int l,.int r]
 | .loop t m l r=>[t.v N,.int m,.int l,.int r]
 | .els=>[]
 | .fin=>[]
 | .deed i _=>[.str (N i),.ref p]
 | .main=>[]
def Lr.ob (N:Nat->Str):Lr->Option HO
 | .set _ v=>some (.tup (vV N v))
 | .put _ _ v=>some (.tup (vV N v))
 | .snd _ v=>some (.tup (vV N v))
 | .say _ v _=>some (.tup (vV N v))
 | .iff v _ _=>some (.tup (vV N v))
 | .call _ ts=>some (.lst (ts.map (Th.v N)))
 | .deed _ ps=>some (.lst (nV N ps))
 | _=>none
def bK (N:Nat->Str) (X:Hp) (v:V) (r:Lr):Prop:=∃a p,v=.ref a/\X a=some (.tup (.str r.w :: r.tl N p))/\∀o,r.ob N=some o->X p=some o
theorem bK.same {N:Nat->Str}{X X':Hp} (s:aq X X') {v:V}{r:Lr} (h:bK N X v r):bK N X' v r:=by
 obtain ⟨a,p,e,h1,h2⟩:=h
 exact ⟨a,p,e,s _ _ h1,fun o ho=>s _ _ (h2 o ho)⟩
def Th.ok (ns:List Nat):Th->Prop
 | .i n=>In n
 | .x a=>a ∈ ns
def Val.ok (ns:List Nat):Val->Prop
 | .one a=>a.ok ns
 | .op a w b=>a.ok ns/\b.ok ns/\w ∈ opW
 | .atl x b=>x ∈ [6,10]/\b.ok ns
structure Dl where
 nm:Nat
 ps:List Nat
 sp:Int
 co:Int
 lp:Addr
def Lr.ok (ns tg:List Nat) (dd:List Dl):Lr->Prop
 | .set x v=>x ∈ tg/\v.ok ns
 | .put x p v=>x=10/\p.ok ns/\v.ok ns
 | .snd h v=>h ∈ [0,1,2]/\v.ok ns
 | .say x v m=>x ∈ tg/\v.ok ns/\m ∈ [11,12]
 | .call i ts=>∃d ∈ dd,d.nm=i/\ts.length=d.ps.length/\∀t ∈ ts,t.ok ns
 | .last=>True
 | _=>False
inductive Tr where
 | leaf (r:Lr)
 | iff (v:Val) (l r:Int) (f o:List Tr)
 | loop (t:Th) (m l r:Int) (b:List Tr)
mutual
def flat:Tr->List Lr
 | .leaf r=>[r]
 | .iff v l r f o=>.iff v l r :: (aP f ++ (.els :: (aP o ++ [.fin])))
 | .loop t m l r b=>.loop t m l r :: (aP b ++ [.fin])
def aP:List Tr->List Lr
 | []=>[]
 | t :: ts=>flat t ++ aP ts
end
theorem jI (a b:List Tr):aP (a ++ b)=aP a ++ aP b:=by
 induction a with
 | nil=>simp [aP]
 | cons t r ih=>simp [aP,ih]
mutual
def Tr.ok (ns tg:List Nat) (dd:List Dl):Tr->Prop
 | .leaf r=>r.ok ns tg dd
 | .iff v l r f o=>v.ok ns/\0 <= l/\0 <= r/\df ns tg dd f/\df ns tg dd o
 | .loop t m l r b=>t.ok ns/\1 <= m/\m <= 3/\0 <= l/\0 <= r/\df ns tg dd b
def df (ns tg:List Nat) (dd:List Dl):List Tr->Prop
 | []=>True
 | t :: ts=>t.ok ns tg dd/\df ns tg dd ts
end
theorem jJ {ns tg:List Nat}{dd:List Dl}{a b:List Tr} (ha:df ns tg dd a) (hb:df ns tg dd b):df ns tg dd (a ++ b):=by
 induction a with
 | nil=>exact hb
 | cons t r ih=>exact ⟨ha.1,ih ha.2⟩
def rK (dd:List Dl):Lr->Int
 | .call i _=>match dd.find? (fun d=>decide (d.nm=i)) with
  | some d=>1 + d.sp
  | none=>1
 | _=>1
mutual
def oo (dd:List Dl) (h:Int):Tr->Int
 | .leaf r=>h * rK dd r
 | .iff _ l r f o=>h * (1 + 1 * (l + r)) + cm dd h f + cm dd h o
 | .loop _ m l r b=>h * (1 + m * (l + r)) + cm dd (h * m) b
def cm (dd:List Dl) (h:Int):List Tr->Int
 | []=>0
 | t :: ts=>oo dd h t + cm dd h ts
end
theorem jA (dd:List Dl) (h:Int) (a b:List Tr):cm dd h (a ++ b)=cm dd h a + cm dd h b:=by
 induction a with
 | nil=>simp [cm]
 | cons t r ih=>simp [cm,ih];omega
inductive Bk where
 | iff (v:Val) | loop (t:Th) (m:Int)
structure Fz where
 bk:Bk
 l:Int
 r:Int
 fst:Option (List Tr)
 rows:List Tr
 rank:Int
 aA:Int
 cost:Int
 fc:Option Int
def Bk.m:Bk->Int
 | .iff _=>1
 | .loop _ m=>m
def Bk.lr (l r:Int):Bk->Lr
 | .iff v=>.iff v l r
 | .loop t m=>.loop t m l r
def Fz.op (f:Fz):Lr:=f.bk.lr f.l f.r
def ur:Option (List Tr)->List Lr
 | none=>[]
 | some t=>aP t ++ [.els]
def Fz.eI (f:Fz):List Lr:=ur f.fst ++ aP f.rows
def bh:List Fz->List Lr
 | []=>[]
 | f :: r=>f.op :: (f.eI ++ bh r)
theorem cL (a b:List Fz):bh (a ++ b)=bh a ++ bh b:=by
 induction a with
 | nil=>rfl
 | cons t r ih=>simp [bh,ih]
def ats (b:Nat):List Fz->List Nat
 | []=>[]
 | f :: r=>b :: ats (b + 1 + f.eI.length) r
theorem jG (b:Nat) (g:List Fz) (f:Fz):ats b (g ++ [f])=ats b g ++ [b + (bh g).length]:=by
 induction g generalizing b with
 | nil=>rfl
 | cons t r ih =>
  simp only [List.cons_append,ats,ih,bh,List.length_cons,List.length_append]
  rw [show b + 1 + t.eI.length + (bh r).length=b + (t.eI.length + (bh r).length + 1) by omega]
theorem fh (b:Nat) (g:List Fz):(ats b g).length=g.length:=by
 induction g generalizing b with
 | nil=>rfl
 | cons t r ih=>simp [ats,ih]
def kB (dd:List Dl) (h:Int):Option (List Tr)->Int
 | none=>0
 | some t=>cm dd h t
def iC (dd:List Dl) (h:Int):List Fz->Int
 | []=>0
 | f :: r=>h * (1 + f.bk.m * (f.l + f.r)) + kB dd (h * f.bk.m) f.fst + cm dd (h * f.bk.m) f.rows + iC dd (h * f.bk.m) r
def cf (h:Int):List Fz->Int
 | []=>h
 | f :: r=>cf (h * f.bk.m) r
theorem d9 (h:Int) (g:List Fz) (f:Fz):cf h (g ++ [f])=cf h g * f.bk.m:=by
 induction g generalizing h with
 | nil=>rfl
 | cons t r ih=>exact ih _
theorem cJ (dd:List Dl) (h:Int) (g:List Fz) (f:Fz):iC dd h (g ++ [f])=iC dd h g + (cf h g * (1 + f.bk.m * (f.l + f.r)) + kB dd (cf h g * f.bk.m) f.fst + cm dd (cf h g * f.bk.m) f.rows):=by
 induction g generalizing h with
 | nil=>simp [iC,cf]
 | cons t r ih=>simp only [List.cons_append,iC,cf,ih];omega
end
section
variable {P:Program}{w:World}{K:W.Frag}{mg:Str->Option Value}{base:Heap}{A:Adr}
def del (X:List Addr) (H:Hp):Hp:=fun a=>if a ∈ X then none else H a
theorem bG {X:List Addr}{H:Hp}:aq (del X H) H:=fun a o h=>by
 unfold del at h
 split at h
 ·cases h
 ·exact h
theorem aV {X:List Addr}{H:Hp}{a:Addr}{o:HO} (h:a ∉ X) (e:H a=some o):del X H a=some o:=by
 unfold del
 rw [if_neg h]
 exact e
theorem bg {X:List Addr}{H:Hp}{a:Addr}{o:HO} (h:del X H a=some o):a ∉ X/\H a=some o:=by
 unfold del at h
 split at h
 ·cases h
 ·exact ⟨by assumption,h⟩
structure Go (M:List Addr) (H:Hp) (M':List Addr) (H':Hp):Prop where
 o:∀a o,a ∉ M->H a=some o->H' a=some o
 m:∀a ∈ M',a ∈ M \/ H a=none
theorem Go.trans {M M1 M2:List Addr}{H H1 H2:Hp} (g:Go M H M1 H1) (g':Go M1 H1 M2 H2):Go M H M2 H2:=by
 refine ⟨fun a o h e=>g'.o a o (fun m=>?_) (g.o a o h e),fun a m=>?_⟩
 ·rcases g.m a m with z | z
  ·exact h z
  ·rw [z] at e;cases e
 ·rcases g'.m a m with z | z
  ·exact g.m a z
  ·by_cases h:a ∈ M
   ·exact .inl h
   ·refine .inr ?_
    cases e:H a with
    | none=>rfl
    | some o=>rw [g.o a o h e] at z;cases z
theorem Go.same {M M':List Addr}{H H':Hp} (g:Go M H M' H'):aq (del M H) (del M' H'):=fun a o h=>by
 obtain ⟨h1,h2⟩:=bg h
 refine aV (fun m=>?_) (g.o a o h1 h2)
 rcases g.m a m with z | z
 ·exact h1 z
 ·rw [z] at h2;cases h2
theorem Go.refl (M:List Addr) (H:Hp):Go M H M H:=⟨fun _ _ _ h=>h,fun _ h=>.inl h⟩
theorem Go.new {M:List Addr}{H H':Hp} (s:aq H H'):Go M H M H':=⟨fun a o _ h=>s a o h,fun _ h=>.inl h⟩
theorem Go.at {M:List Addr}{H:Hp}{x:Addr} (h:x ∈ M) (u:HO):Go M H M (upd H x u):=⟨fun a o m e=>(aw (fun z:a=x=>m (by rw [z];exact h))).trans e,fun _ h=>.inl h⟩
theorem Go.to {M M1 M2:List Addr}{H H1:Hp} (g:Go M H M1 H1) (h:∀a ∈ M2,a ∈ M1 \/ a ∈ M \/ H a=none):Go M H M2 H1:=⟨g.o,fun a m=>by
 rcases h a m with z | z | z
 ·exact g.m a z
 ·exact .inl z
 ·exact .inr z⟩
theorem Go.keep {M:List Addr}{H0 H H':Hp} (g:Go M H M H') (s:aq H0 H) (f:∀a ∈ M,H0 a=none):aq H0 H':=fun a o h=>g.o a o (fun m=>by rw [f a m] at h;cases h) (s a o h)
theorem Paired.snoc {α β:Type}{F:α->β->Prop}{x:α}{y:β} (h:F x y):∀{xs:List α}{ys:List β},Paired F xs ys->Paired F (xs ++ [x]) (ys ++ [y])
 | _,_,.nil=>.cons h .nil
 | _,_,.cons g r=>.cons g (Paired.snoc h r)
theorem Paired.two {α β:Type}{F:α->β->Prop}:∀{xs zs:List α}{ys ws:List β},Paired F xs ys->Paired F zs ws->Paired F (xs ++ zs) (ys ++ ws)
 | _,_,_,_,.nil,h=>h
 | _,_,_,_,.cons g r,h=>.cons g (Paired.two r h)
structure Gc where
 N:Nat->Str
 S:Addr
 LR:Addr
 LV:Addr
 LD:Addr
 LH:Addr
 LL:Addr
 LT:Addr
 LN:Addr
 mode:Int
 ev:Bool
 vk:List Nat
 vw:Nat->Int
 tg:List Nat
 ns:List Nat
 dd:List Dl
 lim:Int
 pre:List Lr
 br:Int
structure Gd where
 lm:Addr
 marks:List Nat
 lo:Addr
 a0:Addr
 as:List Addr
 rows:List V
 bs:List Tr
 bc:Int
 fz:List Fz
 spent:Int
def zD:Option Int->V
 | none=>.non
 | some n=>.int n
def stK (g:Gc) (d:Gd):List (Key × V):=[(.inr "rows",.ref g.LR),(.inr "view",.ref g.LV),(.inr "deeds",.ref g.LD),(.inr "mode",.int g.mode),(.inr "even",.bl g.ev),(.inr "marks",.ref d.lm),(.inr "hands",.ref g.LH),(.inr "lists",.ref g.LL),(.inr "targets",.ref g.LT),(.inr "numbers",.ref g.LN),(.inr "open",.ref d.lo),(.inr "spent",.int d.spent),(.inr "limit",.int g.lim)]
def frK (at_:Nat) (rank aA cost:Int) (fc:Option Int):List (Key × V):=[(.inr "at",.int (at_:Int)),(.inr "rank",.int rank),(.inr "heft",.int aA),(.inr "cost",.int cost),(.inr "first",zD fc)]
def fzK (p:Nat × Fz):List (Key × V):=frK p.1 p.2.rank p.2.aA p.2.cost p.2.fc
def Gd.M (g:Gc) (d:Gd):List Addr:=g.S :: g.LR :: d.lo :: d.a0 :: d.as
def Gd.b (g:Gc) (d:Gd):Nat:=(g.pre ++ aP d.bs).length
def Gd.lrs (g:Gc) (d:Gd):List Lr:=g.pre ++ aP d.bs ++ bh d.fz
structure fV (g:Gc):Prop where
 D:pE g.N
 vb:∀i ∈ g.vk,i < 25/\0 <= g.vw i/\g.vw i <= 2
 tv:∀i ∈ g.tg,i ∈ g.vk
 nv:∀i ∈ g.ns,i ∈ g.vk
 cv:∀i ∈ [0,1,2,6,10,11,12],i ∈ g.vk
 t9:9 ∈ g.tg
 v9:g.vw 9=2
 v2:g.vw 2=2
 dv:∀e ∈ g.dd,e.nm ∈ g.vk/\e.ps.length <= 2/\0 <= e.sp/\0 <= e.co/\∀p ∈ e.ps,p ∈ g.vk
 dn:(g.dd.map Dl.nm).Nodup
 dl:g.dd.length <= 4
 tl:g.tg.length <= 5
 nl:g.ns.length <= 8
 br:0 <= g.br/\g.br <= 2
 pl:g.pre.length <= 500
structure sJ (X:Hp) (g:Gc):Prop where
 hv:X g.LV=some (.dK (dk g.N g.vk fun i=>.int (g.vw i)))
 hd:∃ts:Nat->Addr,X g.LD=some (.dK (dk g.N (g.dd.map Dl.nm) fun i=>.ref (ts i)))/\∀e ∈ g.dd,X (ts e.nm)=some (.tup [.ref e.lp,.int e.sp,.int e.co])/\X e.lp=some (.lst (nV g.N e.ps))
 hh:X g.LH=some (.lst (nV g.N [0,1,2]))
 hl:X g.LL=some (.lst (nV g.N [6,10]))
 ht:X g.LT=some (.lst (nV g.N g.tg))
 hn:X g.LN=some (.lst (nV g.N g.ns))
theorem sJ.same {X X':Hp}{g:Gc} (s:aq X X') (h:sJ X g):sJ X' g:=by
 obtain ⟨ts,h1,h2⟩:=h.hd
 exact ⟨s _ _ h.hv,⟨ts,s _ _ h1,fun e m=>⟨s _ _ (h2 e m).1,s _ _ (h2 e m).2⟩⟩,s _ _ h.hh,s _ _ h.hl,s _ _ h.ht,s _ _ h.hn⟩
structure kS (H:Hp) (g:Gc) (d:Gd):Prop where
 hS:H g.S=some (.dK (stK g d))
 hR:H g.LR=some (.lst d.rows)
 hO:H d.lo=some (.lst (.ref d.a0 :: d.as.map V.ref))
 h0:H d.a0=some (.dK (frK 0 g.br 1 d.bc none))
 hf:Paired (fun a p=>H a=some (.dK (fzK p))) d.as ((ats (d.b g) d.fz).zip d.fz)
theorem kS.same {H H':Hp}{g:Gc}{d:Gd} (s:aq H H') (h:kS H g d):kS H' g d:=⟨s _ _ h.hS,s _ _ h.hR,s _ _ h.hO,s _ _ h.h0,Paired.dC h.hf fun _ _ e=>s _ _ e⟩
def Az (ns:List Nat):Bk->Prop
 | .iff v=>v.ok ns
 | .loop t m=>t.ok ns/\1 <= m/\m <= 3
structure BU (g:Gc) (f:Fz):Prop where
 bk:Az g.ns f.bk
 l0:0 <= f.l
 r0:0 <= f.r
 rows:df g.ns g.tg g.dd f.rows
 fst:∀t,f.fst=some t->df g.ns g.tg g.dd t
 lp:∀t m,f.bk=.loop t m->f.fst=none
 fc:f.fc=none ↔ f.fst=none
 f0:∀n,f.fc=some n->0 <= n
 rank:0 <= f.rank/\f.rank <= 2
 cost:0 <= f.cost
def gT (h:Int):List Fz->Prop
 | []=>True
 | f :: r=>f.aA=h * f.bk.m/\gT f.aA r
theorem gT.app {h:Int}{g:List Fz}{f:Fz} (hg:gT h g) (hf:f.aA=cf h g * f.bk.m):gT h (g ++ [f]):=by
 induction g generalizing h with
 | nil=>exact ⟨hf,True.intro⟩
 | cons t r ih=>exact ⟨hg.1,ih hg.2 (by rw [hg.1];exact hf)⟩
theorem gT.inv {h:Int}{g:List Fz}{f:Fz} (hg:gT h (g ++ [f])):gT h g/\f.aA=cf h g * f.bk.m:=by
 induction g generalizing h with
 | nil=>exact ⟨True.intro,hg.1⟩
 | cons t r ih =>
  obtain ⟨a,b⟩:=ih hg.2
  exact ⟨⟨hg.1,a⟩,by rw [hg.1] at b;exact b⟩
structure sT (g:Gc) (d:Gd):Prop where
 nd:(d.M g).Nodup
 mks:∀m ∈ d.marks,m ∈ [11,12]
 ml:d.marks.length <= 2
 bs:df g.ns g.tg g.dd d.bs
 bc:0 <= d.bc
 fz:∀f ∈ d.fz,BU g f
 fl:d.fz.length <= 3
 hf:gT 1 d.fz
 h36:∀f ∈ d.fz,1 <= f.aA/\f.aA <= 36
 pay:g.ev=false->cm g.dd 1 d.bs + iC g.dd 1 d.fz <= d.spent
 sp:0 <= d.spent/\(d.spent <= g.lim \/ d.spent=0)
 rl:(d.lrs g).length + 2 * d.fz.length <= 1000
structure BAt (g:Gc) (H:Hp) (d:Gd):Prop where
 st:sJ (del (d.M g) H) g
 hm:del (d.M g) H d.lm=some (.lst (nV g.N d.marks))
 hr:Paired (bK g.N (del (d.M g) H)) d.rows (d.lrs g)
 dy:kS H g d
 ok:sT g d
variable {g:Gc}{d d':Gd}{H H':Hp}
theorem BAt.same (z:aq H H') (h:BAt g H d):BAt g H' d:=by
 have s:=(Go.new (M:=d.M g) z).same
 exact ⟨h.st.same s,s _ _ h.hm,Paired.dC h.hr fun _ _=>bK.same s,h.dy.same z,h.ok⟩
theorem BAt.al (h:BAt g H d):∀a ∈ d.M g,H a ≠ none:=fun a m e=>by
 unfold Gd.M at m
 rcases List.mem_cons.mp m with rfl | m
 ·rw [h.dy.hS] at e;cases e
 rcases List.mem_cons.mp m with rfl | m
 ·rw [h.dy.hR] at e;cases e
 rcases List.mem_cons.mp m with rfl | m
 ·rw [h.dy.hO] at e;cases e
 rcases List.mem_cons.mp m with rfl | m
 ·rw [h.dy.h0] at e;cases e
 obtain ⟨i,hi⟩:=List.getElem?_of_mem m
 obtain ⟨p,_,hp⟩:=bX h.dy.hf hi
 rw [hp] at e;cases e
theorem BAt.go (h:BAt g H d) (z:Go (d.M g) H (d'.M g) H') (dy:kS H' g d') (ok:sT g d') (hm:del (d'.M g) H' d'.lm=some (.lst (nV g.N d'.marks))) (hr:Paired (bK g.N (del (d'.M g) H')) d'.rows (d'.lrs g)):BAt g H' d':=⟨h.st.same z.same,hm,hr,dy,ok⟩
theorem inS (g:Gc) (d:Gd):g.S ∈ d.M g:=List.mem_cons_self
theorem inR (g:Gc) (d:Gd):g.LR ∈ d.M g:=List.mem_cons_of_mem _ List.mem_cons_self
theorem inO (g:Gc) (d:Gd):d.lo ∈ d.M g:=List.mem_cons_of_mem _ (List.mem_cons_of_mem _ List.mem_cons_self)
theorem in0 (g:Gc) (d:Gd):d.a0 ∈ d.M g:=List.mem_cons_of_mem _ (List.mem_cons_of_mem _ (List.mem_cons_of_mem _ List.mem_cons_self))
theorem inA (g:Gc) (d:Gd) {a:Addr} (h:a ∈ d.as):a ∈ d.M g:=List.mem_cons_of_mem _ (List.mem_cons_of_mem _ (List.mem_cons_of_mem _ (List.mem_cons_of_mem _ h)))
end
section
variable {P:Program}{w:World}{K:W.Frag}{mg:Str->Option Value}{base:Heap}{A:Adr}
abbrev LET:Str:="abcdefghijklmnopqrstuvwxyz"
def me (k:Int):Nat:=(97 + k).toNat
theorem rM {k:Int} (h0:0 <= k) (h1:k < 26):atI LET.cps.toList k=some (me k):=by
 obtain ⟨n,rfl⟩:∃n:Nat,k=(n:Int):=⟨k.toNat,by omega⟩
 have h:∀m:Fin 26,atI LET.cps.toList ((m.val:Nat):Int)=some (me ((m.val:Nat):Int)):=by decide +kernel
 exact h ⟨n,by omega⟩
theorem yO {z:Str}{n:Int} (hz:z.length <= 1) (h1:n < 1000):(l9 z n).length <= 1000:=by
 unfold l9
 split
 ·decide
 ·split
  ·omega
  ·rw [qQ]
   have:n.toNat * z.length <= n.toNat * 1:=Nat.mul_le_mul_left _ hz
   omega
theorem lW (x y:Str):(x ++ y).length=x.length + y.length:=by
 show (x.cps ++ y.cps).size=x.cps.size + y.cps.size
 exact Array.size_append
abbrev A0:Str:="set put send say by if else end loop most idle last call deed main at over rest"
abbrev Ap:Str:=" hand given own let open house closed"
def words:List Str:=["set","put","send","say","by","if","else","end","loop","most","idle","last","call","deed","main","at","over","rest","hand","given","own","let","open","house","closed"]
theorem vJ:pT (A0 ++ Ap) " " words:=⟨by decide +kernel,by decide +kernel,by decide +kernel,by decide +kernel,by decide,by decide +kernel⟩
theorem qy:words.Nodup:=by decide +kernel
theorem lu:words.length=25:=rfl
def nmV (c:Int) (k:Nat):Str :=
 if decide (V.int (c % 4)=V.int 0)=true then words.getD ((c / 4 % 25 + k) % 25).toNat Str.empty
 else if decide (V.int (c % 4)=V.int 1)=true then l9 ⟨#[me ((c / 4 % 26 + (k:Int) / 8) % 26)]⟩ ((k:Int) % 8 + 1)
 else Txt.slice (l9 ⟨#[me (c / 288 % 26)]⟩ (c / 4 % 8)) none (some (c / 32 % (c / 4 % 8 + 1))) ++ ⟨#[me ((k + c / 7488 % 26) % 26)]⟩ ++ Txt.slice (l9 ⟨#[me (c / 288 % 26)]⟩ (c / 4 % 8)) (some (c / 32 % (c / 4 % 8 + 1))) none
theorem qu (c:Nat) {n:Int} (hn:1 <= n):(l9 ⟨#[c]⟩ n).cps.toList=List.replicate n.toNat c:=by
 unfold l9
 rw [if_neg (by omega)]
 by_cases e:n=1
 ·subst e
  rfl
 ·have h1:¬ (n == 1 || (⟨#[c]⟩:Str).length == 0)=true:=by
   rw [Bool.or_eq_true]
   rintro (h | h)
   ·exact e (eq_of_beq h)
   ·exact absurd h (show ¬ ((1:Nat) == 0)=true by decide)
  rw [if_neg h1]
  have f:∀(m:Nat) (acc:Array Nat),((List.replicate m #[c]).foldl (· ++ ·) acc).toList=acc.toList ++ List.replicate m c:=by
   intro m
   induction m with
   | zero=>intro acc;simp
   | succ m ih =>
    intro acc
    rw [List.replicate_succ,List.foldl_cons,ih,List.replicate_succ]
    simp
  have:=f n.toNat #[]
  simpa using this
theorem qF {a b:Int} (ha:0 <= a) (hb:0 <= b) (h:me a=me b):a=b:=by
 unfold me at h
 omega
theorem yB {a b:Str}{x y:Nat} (h:a ++ ⟨#[x]⟩ ++ b=a ++ ⟨#[y]⟩ ++ b):x=y:=by
 have h1:((a.cps ++ #[x]) ++ b.cps).toList=((a.cps ++ #[y]) ++ b.cps).toList:=congrArg (fun z:Str=>z.cps.toList) h
 simp only [Array.toList_append] at h1
 have h2:=List.append_inj_left' h1 rfl
 have h3:=List.append_inj_right h2 rfl
 simpa using h3
theorem ug (c:Int):pE (nmV c):=by
 intro i j hi hj e
 unfold nmV at e
 split at e
 ·have m1:=cX (c / 4 % 25 + i) (show (0:Int) < 25 by decide)
  have m2:=cX (c / 4 % 25 + j) (show (0:Int) < 25 by decide)
  have b1:((c / 4 % 25 + i) % 25).toNat < words.length:=by rw [lu];omega
  have b2:((c / 4 % 25 + j) % 25).toNat < words.length:=by rw [lu];omega
  rw [List.getD_eq_getElem?_getD,List.getD_eq_getElem?_getD,List.getElem?_eq_getElem b1,List.getElem?_eq_getElem b2] at e
  have:=(List.getElem_inj qy).mp (show words[((c / 4 % 25 + i) % 25).toNat]=words[((c / 4 % 25 + j) % 25).toNat] from e)
  omega
 split at e
 ·have m1:=cX (c / 4 % 26 + (i:Int) / 8) (show (0:Int) < 26 by decide)
  have m2:=cX (c / 4 % 26 + (j:Int) / 8) (show (0:Int) < 26 by decide)
  have h1:=congrArg (fun z:Str=>z.cps.toList) e
  rw [qu _ (by omega),qu _ (by omega)] at h1
  have h2:=congrArg List.length h1
  rw [List.length_replicate,List.length_replicate] at h2
  obtain ⟨n,hn⟩:∃n,((i:Int) % 8 + 1).toNat=n + 1:=⟨((i:Int) % 8).toNat,by omega⟩
  rw [<- h2,hn,List.replicate_succ,List.replicate_succ] at h1
  have h3:=qF m1.1 m2.1 (List.cons.inj h1).1
  omega
 ·have m1:=cX ((i:Int) + c / 7488 % 26) (show (0:Int) < 26 by decide)
  have m2:=cX ((j:Int) + c / 7488 % 26) (show (0:Int) < 26 by decide)
  have h3:=qF m1.1 m2.1 (yB e)
  omega
def yP:Sp:=fun vs H Q _=>∃(c:Int) (k:Nat),vs=[.int c,.int k]/\k <= 100/\∀(H':Hp),aq H H'->Q (.str (nmV c k)) H'
theorem Au (T:Txt K mg A):Has P w K mg base 1 "_law_name" ["_law_cell","_law_k"] yP:=by
 refine T.rn.has cY (fun vs H Q E h=>?_) (fun f cdv A' outer s H vs Q E hr hu h=>?_)
 ·obtain ⟨c,k,rfl,_⟩:=h
  rfl
 ·obtain ⟨c,k,rfl,h1,q⟩:=h
  unfold nmV at q
  refine ⟨_,(ae (ay (i:=2) cY.nd rfl (Or.inl rfl) aj)
  (ae (ay (i:=3) cY.nd rfl (Or.inl rfl) (ax cC (fv 0) ab))
  (ae (ba (aC (bV hu) (fv 3) ab (aG _))
   (ae (ay (i:=4) cY.nd rfl (Or.inl rfl) aj)
   (ao (aW (px hu (m_split (ax bp (fv 4) aj) (aa aj ag)) (ax cC (ax bp (ax cC (ax dz (fv 0) ab) ab) (fv 1)) ab)))))
   aT)
  (ae (ba (aC (bV hu) (fv 3) ab (aG _))
   (ao (aW (ax dh (px hu (fv 2) (ax cC (ax bp (ax cC (ax dz (fv 0) ab) ab) (ax dz (fv 1) ab)) ab)) (ax bp (ax cC (fv 1) ab) ab))))
   aT)
  (ae (ay (i:=5) cY.nd rfl (Or.inl rfl) (ax cC (ax dz (fv 0) ab) ab))
  (ae (ay (i:=6) cY.nd rfl (Or.inl rfl) (ax cC (ax dz (fv 0) ab) (ax bp (fv 5) ab)))
  (ae (ay (i:=7) cY.nd rfl (Or.inl rfl) (ax dh (px hu (fv 2) (ax cC (ax dz (fv 0) ab) ab)) (fv 5)))
  (ao (aW (ax bp (ax bp (cc dj (fv 7) ik (bJ (fv 6))) (px hu (fv 2) (ax cC (ax bp (fv 1) (ax cC (ax dz (fv 0) ab) ab)) ab))) (cc dj (fv 7) (bJ (fv 6)) ik))))))))))),?_⟩
  refine ⟨(by show (0:Int) < 4;decide),rfl,_,rfl,?_⟩
  refine aI (fun b1=>?_) (fun b1=>?_)
  ·rw [if_pos b1] at q
   refine ⟨(by decide +kernel),rfl,_,_,words,rfl,rfl,vJ,fun l hl=>?_⟩
   obtain ⟨s1,e1⟩:=alc hl (HO.lst (words.map V.str))
   generalize upd H l _=H1 at s1 e1 ⊢
   obtain ⟨j0,j1⟩:=cX (c / 4 % 25 + k) (show (0:Int) < 25 by decide)
   have hk:((c / 4 % 25 + k) % 25).toNat < words.length:=by rw [lu];omega
   have e:atI (words.map V.str) ((c / 4 % 25 + k) % 25)=some (.str (words.getD ((c / 4 % 25 + k) % 25).toNat Str.empty)):=by
    have e:=aB (xs:=words.map V.str) (j:=((c / 4 % 25 + k) % 25).toNat) (v:=.str (words.getD ((c / 4 % 25 + k) % 25).toNat Str.empty)) (by rw [List.getElem?_map,List.getElem?_eq_getElem hk,List.getD_eq_getElem?_getD,List.getElem?_eq_getElem hk];rfl)
    rw [show ((((c / 4 % 25 + k) % 25).toNat:Nat):Int)=(c / 4 % 25 + k) % 25 by omega] at e
    exact e
   exact ⟨⟨by decide,by decide⟩,(by show (0:Int) < 25;decide),(by show (0:Int) < 25;decide),Or.inl ⟨_,_,Or.inl (SqL.of e1),e,q _ s1⟩⟩
  ·rw [if_neg b1] at q
   refine ⟨rfl,_,rfl,?_⟩
   refine aI (fun b2=>?_) (fun b2=>?_)
   ·rw [if_pos b2] at q
    obtain ⟨j0,j1⟩:=cX (c / 4 % 26 + (k:Int) / 8) (show (0:Int) < 26 by decide)
    obtain ⟨m0,m1⟩:=cX (k:Int) (show (0:Int) < 8 by decide)
    exact ⟨⟨by decide,by decide⟩,(by show (0:Int) < 26;decide),⟨by decide,by decide⟩,(by show (0:Int) < 26;decide),_,by decide +kernel,rM j0 j1,(by show (0:Int) < 8;decide),by omega,by omega,by show 1 <= 1000;decide,q _ (aq.refl _)⟩
   ·rw [if_neg b2] at q
    obtain ⟨m0,m1⟩:=cX (c / 4) (show (0:Int) < 8 by decide)
    obtain ⟨j0,j1⟩:=cX (c / 288) (show (0:Int) < 26 by decide)
    obtain ⟨i0,i1⟩:=cX (k + c / 7488 % 26) (show (0:Int) < 26 by decide)
    have rl:(l9 ⟨#[me (c / 288 % 26)]⟩ (c / 4 % 8)).length <= 1000:=yO (Nat.le_refl _) (by omega)
    refine ⟨⟨by decide,by decide⟩,(by show (0:Int) < 8;decide),⟨by decide,by decide⟩,(by show (0:Int) < c / 4 % 8 + 1;omega),⟨by decide,by decide⟩,(by show (0:Int) < 26;decide),_,by decide +kernel,rM j0 j1,by omega,by omega,by show 1 <= 1000;decide,?_⟩
    have s1:=PySem.Txt.slice_le (l9 ⟨#[me (c / 288 % 26)]⟩ (c / 4 % 8)) none (some (c / 32 % (c / 4 % 8 + 1)))
    have s2:=PySem.Txt.slice_le (l9 ⟨#[me (c / 288 % 26)]⟩ (c / 4 % 8)) (some (c / 32 % (c / 4 % 8 + 1))) none
    refine ⟨_,rfl,sz rl,⟨by decide,by decide⟩,(by show (0:Int) < 26;decide),(by show (0:Int) < 26;decide),_,by decide +kernel,rM i0 i1,?_⟩
    refine ⟨Nat.le_trans (m:=1000 + 1) (Nat.add_le_add_right (Nat.le_trans s1 rl) 1) (by decide),_,rfl,sz rl,?_⟩
    refine ⟨?_,q _ (aq.refl _)⟩
    rw [lW]
    exact Nat.le_trans (m:=1000 + 1 + 1000) (Nat.add_le_add (Nat.add_le_add_right (Nat.le_trans s1 rl) 1) (Nat.le_trans s2 rl)) (by decide)
def cellAt (ns:List Int) (k:Int):Int:=if k < (ns.length:Int) then ns.getD k.toNat 0 else 0
theorem AY {ns:List Int}{k:Int} (h0:0 <= k) (h1:k < (ns.length:Int)):atI (ns.map V.int) k=some (.int (ns.getD k.toNat 0)):=by
 have hk:k.toNat < ns.length:=by omega
 have e:=aB (xs:=ns.map V.int) (j:=k.toNat) (v:=.int (ns.getD k.toNat 0)) (by rw [List.getElem?_map,List.getElem?_eq_getElem hk,List.getD_eq_getElem?_getD,List.getElem?_eq_getElem hk];rfl)
 rw [show ((k.toNat:Nat):Int)=k by omega] at e
 exact e
def yG (K:W.Frag):Sp:=fun vs H Q _=>∃(a:Addr) (ns:List Int) (k:Int),vs=[.ref a,.int k]/\SqL K H a (ns.map V.int)/\0 <= k/\Q (.int (cellAt ns k)) H
theorem sH (T:Txt K mg A):Has P w K mg base 1 "_law_cell_at" ["_law_script","_law_k"] (yG K):=by
 refine T.lR.has nQ (fun vs H Q E h=>?_) (fun f cdv A' outer s H vs Q E hr hu h=>?_)
 ·obtain ⟨a,ns,k,rfl,_⟩:=h
  rfl
 ·obtain ⟨a,ns,k,rfl,hS,h0,q⟩:=h
  unfold cellAt at q
  have el:(((ns.map V.int).length:Nat):Int)=(ns.length:Int):=by rw [List.length_map]
  refine ⟨_,(ae (ba (aC (uH) (fv 1) (aH b9 rfl T.cD (by boot_by_name) (aa (fv 0) ag)) (aG _))
   (ao (aW (px hu (fv 0) (fv 1))))
   aT)
  (ao (aW ab))),?_⟩
  refine Or.inl ⟨_,_,rfl,Or.inl ⟨_,hS,rfl⟩,_,rfl,?_⟩
  refine aI (fun c=>?_) (fun c=>?_)
  ·have c':k < (((ns.map V.int).length:Nat):Int):=of_decide_eq_true c
   rw [el] at c'
   rw [if_pos c'] at q
   exact Or.inl ⟨_,_,Or.inl hS,AY h0 c',q⟩
  ·have c':¬ k < (((ns.map V.int).length:Nat):Int):=of_decide_eq_false (Bool.eq_false_iff.mpr c)
   rw [el] at c'
   rw [if_neg c'] at q
   exact q
theorem zi:((10:Int) ^ (12:Int).toNat)=1000000000000:=by decide
def yS:List Int:=[48271,69621,39373,16807,40692,30323,51749]
def yX:List Int:=[1000033,999983,999979,1000037,999961,1000039,999959]
theorem zF (w:Nat) (h:w <= 6):∃a b:Int,atI (yS.map V.int) (w:Int)=some (.int a)/\atI (yX.map V.int) (w:Int)=some (.int b)/\0 < a/\a < 100000/\0 < b:=by
 have:w=0 \/ w=1 \/ w=2 \/ w=3 \/ w=4 \/ w=5 \/ w=6:=by omega
 rcases this with rfl | rfl | rfl | rfl | rfl | rfl | rfl <;> exact ⟨_,_,rfl,rfl,by decide,by decide,by decide⟩
def zV:Sp:=fun vs H Q _=>∃(c:Int) (k:Nat) (n:Int),vs=[.int c,.int k,.int n]/\k <= 6/\0 < n/\∀(m:Int) (H':Hp),0 <= m->m < n->aq H H'->Q (.int m) H'
theorem kA (T:Txt K mg A):Has P w K mg base 1 "_law_mix" ["_law_cell","_law_way","_law_many"] zV:=by
 refine T.tI.has km (fun vs H Q E h=>?_) (fun f cdv A' outer s H vs Q E hr hu h=>?_)
 ·obtain ⟨c,k,n,rfl,_⟩:=h
  rfl
 ·obtain ⟨c,k,n,rfl,hk,n0,q⟩:=h
  refine ⟨_,(ae (ba (aC (wL hu) (ax dz (fv 0) (ax tU ab ab)) ab (aG _))
   (ao (aW (ax cC (ax zj (fv 0) (ax bp (ax dh ab (fv 1)) ab)) (fv 2))))
   aT)
  (ae (ay (i:=3) km.nd rfl (Or.inl rfl) (ax bp (ax cC (fv 0) ab) ab))
  (ae (ay (i:=3) km.nd rfl (Or.inl rfl) (ax dh (fv 3) (px hu (bD (aa ab (aa ab (aa ab (aa ab (aa ab (aa ab (aa ab ag)))))))) (fv 1))))
  (ao (aW (ax cC (ax cC (fv 3) (px hu (bD (aa ab (aa ab (aa ab (aa ab (aa ab (aa ab (aa ab ag)))))))) (fv 1))) (fv 2))))))),?_⟩
  refine ⟨⟨by decide,by decide,by decide⟩,⟨by decide,by decide⟩,rfl,_,rfl,aI (fun _=>?_) (fun _=>?_)⟩
  ·have m:=cX (c / 2 ^ (12 * (k:Int) + 1).toNat) n0
   exact ⟨.inl ⟨by decide,by decide⟩,(by show (0:Int) <= 12 * (k:Int) + 1;omega),n0,q _ _ m.1 m.2 (aq.refl _)⟩
  obtain ⟨a,b,ea,eb,a0,a1,b0⟩:=zF k hk
  refine ⟨(by show (0:Int) < 1000003;decide),?_⟩
  refine ⟨by show 7 <= sizeLine;decide,fun l hl=>?_⟩
  obtain ⟨s1,e1⟩:=alc hl (HO.lst (yS.map V.int))
  change upd H l (HO.lst (yS.map V.int)) l=_ at e1
  refine Or.inl ⟨_,_,Or.inl (SqL.of e1),ea,.inr ⟨by omega,by omega⟩,?_⟩
  refine ⟨by show 7 <= sizeLine;decide,fun l2 hl2=>?_⟩
  have s2:=aq.upd hl2 (HO.lst (yX.map V.int))
  have e2:upd (upd H l (HO.lst (yS.map V.int))) l2 (HO.lst (yX.map V.int)) l2=some (.lst (yX.map V.int)):=ak
  have m:=cX ((c % 1000003 + 1) * a % b) n0
  exact Or.inl ⟨_,_,Or.inl (SqL.of e2),eb,b0,n0,q _ _ m.1 m.2 (s1.trans s2)⟩
def vA:Sp:=fun vs H Q _=>∃c:Int,vs=[.int c]/\∀n,In n->Q (.int n) H
theorem wG (T:Txt K mg A):Has P w K mg base 1 "_law_number" ["_law_cell"] vA:=by
 refine T.nT.has oG (fun vs H Q E h=>?_) (fun f cdv A' outer s H vs Q E hr hu h=>?_)
 ·obtain ⟨c,rfl,_⟩:=h
  rfl
 ·obtain ⟨c,rfl,q⟩:=h
  refine ⟨_,(ae (ba (aC (uH) (ax cC (fv 0) ab) ab (aG _))
   (ao (aW (ax cC (ax dz (fv 0) ab) ab)))
   aT)
  (ae (ba (aC (bV hu) (ax cC (fv 0) ab) ab (aG _))
   (ao (aW (ax mL (ax mL (ax tU ab ab) ab) (ax cC (ax dz (fv 0) ab) ab))))
   aT)
  (ao (aW (ax cC (ax dz (fv 0) ab) (ax tU ab ab)))))),?_⟩
  have m4:=cX (c / 4) (show (0:Int) < 4 by decide)
  have m3:=cX (c / 4) (show (0:Int) < 3 by decide)
  have mm:=cX (c / 4) (show (0:Int) < 1000000000000 by decide)
  refine ⟨(by show (0:Int) < 4;decide),_,rfl,aI (fun _=>?_) (fun _=>?_)⟩
  ·exact ⟨⟨by decide,by decide⟩,(by show (0:Int) < 4;decide),q _ ⟨m4.1,by omega⟩⟩
  refine ⟨(by show (0:Int) < 4;decide),rfl,_,rfl,aI (fun _=>?_) (fun _=>?_)⟩
  ·exact ⟨⟨by decide,by decide,by decide⟩,⟨by decide,by decide⟩,(by show (0:Int) < 3;decide),by rw [zi];exact q _ ⟨by omega,by omega⟩⟩
  ·exact ⟨⟨by decide,by decide⟩,⟨by decide,by decide,by decide⟩,(by show (0:Int) < 10 ^ (12:Int).toNat;decide),by rw [zi];exact q _ ⟨mm.1,mm.2⟩⟩
end
section
variable {P:Program}{w:World}{K:W.Frag}{mg:Str->Option Value}{base:Heap}{A:Adr}{g:Gc}{d:Gd}
seal PE PA PS PSs PT PW
def uK (g:Gc) (lo:Bool) (a b:Int) (i:Nat):Bool:=lo || (decide (a <= g.vw i) && decide (g.vw i <= b))
def yw (g:Gc) (lo:Bool) (a b:Int):V->Bool
 | .str x=>(List.range 25).any fun i=>decide (g.N i=x) && uK g lo a b i
 | _=>false
theorem tX (O:fV g) {lo:Bool}{a b:Int}{i:Nat} (h:i < 25):yw g lo a b (.str (g.N i))=uK g lo a b i:=by
 unfold yw
 dsimp only
 rw [Bool.eq_iff_iff,List.any_eq_true]
 constructor
 ·rintro ⟨j,hj,e⟩
  rw [Bool.and_eq_true,decide_eq_true_iff] at e
  rw [O.D j i (List.mem_range.mp hj) h e.1] at e
  exact e.2
 ·exact fun e=>⟨i,List.mem_range.mpr h,by rw [decide_eq_true rfl,e];rfl⟩
theorem qJ (O:fV g) {lo:Bool}{a b:Int}:∀{xs:List Nat},(∀i ∈ xs,i ∈ g.vk)->((nV g.N xs).filter (yw g lo a b)).map (fun x=>x)=nV g.N (xs.filter (uK g lo a b))
 | [],_=>rfl
 | i :: r,h=>by
  have ih:=qJ O (lo:=lo) (a:=a) (b:=b) (xs:=r) fun j hj=>h j (List.mem_cons_of_mem _ hj)
  have e:=tX O (lo:=lo) (a:=a) (b:=b) (O.vb i (h i List.mem_cons_self)).1
  show ((V.str (g.N i) :: nV g.N r).filter _).map _=_
  rw [List.map_id'] at ih ⊢
  rw [List.filter_cons,List.filter_cons,e]
  cases uK g lo a b i
  ·simpa using ih
  ·simpa using ih
structure Fits (g:Gc) (xs:List Nat) (a b:Int) (ys:List Nat):Prop where
 sub:∀i ∈ ys,i ∈ xs
 has:∀i ∈ xs,a <= g.vw i->g.vw i <= b->i ∈ ys
 len:ys.length <= xs.length
def Al (K:W.Frag):Sp:=fun vs H Q _=>∃(g:Gc) (d:Gd) (l:Addr) (lo:Bool) (a b:Int) (xs:List Nat),vs=[.ref g.S,.ref l,.bl lo,.int a,.int b]/\fV g/\BAt g H d/\SqL K H l (nV g.N xs)/\(∀i ∈ xs,i ∈ g.vk)/\xs.length <= 1000 /\
 ∀(D:Addr) (ys:List Nat) (H':Hp),aq H H'->H D=none->H' D=some (.lst (nV g.N ys))->Fits g xs a b ys->Q (.ref D) H'
theorem qI (T:Txt K mg A):Has P w K mg base 1 "_law_fit" ["_law_state","_law_some","_law_loose","_law_low","_law_high"] (Al K):=by
 refine T.tZ.has rZ (fun vs H Q E h=>?_) (fun f cdv A' outer s H vs Q E hr hu h=>?_)
 ·obtain ⟨g,d,l,lo,a,b,xs,rfl,_⟩:=h
  rfl
 ·obtain ⟨g,d,l,lo,a,b,xs,rfl,O,B,hl,hx,xl,q⟩:=h
  have vb:∀j ∈ g.vk,j < 25:=fun j hj=>(O.vb j hj).1
  refine ⟨_,(ao (aW (mF (N:=["_law_name_here","_law_loose","_law_low","_law_high","_law_state"]) (own:=1) (fr:=[2,3,4,0]) (cV.of (by kernel_rfl!)) rfl (dG (fv 1)) (fun b=>pgn (i:=0) (show List.Nodup (["_law_name_here","_law_loose","_law_low","_law_high","_law_state"]:List PySem.Str) by decide +kernel) rfl) (fun b=>pP (PW.pt (pw_or (cK (fv 1) (fun _=>rfl)) (pw_or1 (PW.pt (pw_and (aC (Am) (fv 2) (px hu (px hu (fv 4) aj) (fv 0)) (aG _)) (pw_and1 (aC (Am) (px hu (px hu (fv 4) aj) (fv 0)) (fv 3) (aG _))))))))) (fun b=>fv 0)))),?_⟩
  refine Or.inl ⟨⟨_,hl⟩,k7 (K:=K) (yw g lo a b) (fun x=>x) hl (aD (by rw [List.length_map];exact xl)) (fun b' x H2 R hm s2 k=>?_) (fun b' x H2 R hm hp s2 k=>k _ (aq.refl _)) (fun D H2 hD s2 e=>?_)⟩
  ·obtain ⟨i,hi,rfl⟩:=List.mem_map.mp hm
   have hi':=hx i hi
   rw [tX O (O.vb i hi').1] at k
   have hS:=s2 _ _ B.dy.hS
   have hv:=kg O.D (.inl (s2 _ _ (bG _ _ B.st.hv))) vb hi'
   unfold uK at k
   cases lo with
   | true=>exact ⟨true,rfl,gU (k _ (aq.refl _))⟩
   | false =>
    refine ⟨false,rfl,cS ?_⟩
    refine ⟨_,aN.k (k:=.inr "view") hS,_,hv,_,rfl,aI (fun c=>?_) (fun c=>?_)⟩
    ·refine ⟨_,aN.k (k:=.inr "view") hS,_,hv,_,rfl,?_⟩
     have:=k _ (aq.refl _)
     rw [c] at this
     exact this
    ·have:=k _ (aq.refl _)
     rw [Bool.eq_false_iff.mpr c] at this
     exact this
  ·rw [qJ O hx] at e
   refine q D _ H2 s2 hD e ⟨fun i hi=>(List.mem_filter.mp hi).1,fun i hi h1 h2=>List.mem_filter.mpr ⟨hi,?_⟩,List.length_filter_le _ _⟩
   unfold uK
   rw [decide_eq_true h1,decide_eq_true h2,Bool.and_true,Bool.or_true]
def wc (K:W.Frag):Sp:=fun vs H Q _=>∃(g:Gc) (d:Gd) (c:Int) (k:Nat) (b:Int),vs=[.ref g.S,.int c,.int k,.int b]/\fV g/\BAt g H d/\k <= 6 /\
 ∀(t:Th) (H':Hp),aq H H'->t.ok g.ns->Q (t.v g.N) H'
theorem mz (T:Txt K mg A):Has P w K mg base 2 "_law_thing" ["_law_state","_law_cell","_law_way","_law_high"] (wc K):=by
 have D_law_fit:=qI (P:=P) (w:=w) (base:=base) T
 have D_law_mix:=kA (P:=P) (w:=w) (base:=base) T
 have D_law_number:=wG (P:=P) (w:=w) (base:=base) T
 refine T.oZ.has (k:=1) g9 (fun vs H Q E h=>?_) (fun f cdv A' outer s H vs Q E hr hu h=>?_)
 ·obtain ⟨g,d,c,k,b,rfl,_⟩:=h
  rfl
 ·obtain ⟨g,d,c,k,b,rfl,O,B,hk,q⟩:=h
  have nl:=O.nl
  refine ⟨_,(ae (ay (i:=4) g9.nd rfl (Or.inl rfl) (au D_law_fit hr (aa (fv 0) (aa (px hu (fv 0) aj) (aa j9 (aa ab (aa (fv 3) ag)))))))
  (ae (ay (i:=5) g9.nd rfl (Or.inl rfl) (au D_law_mix hr (aa (fv 1) (aa (fv 2) (aa (ax bp (aH b9 rfl T.cD (by boot_by_name) (aa (fv 4) ag)) ab) ag)))))
  (ae (ba (aC (uH) (fv 5) (aH b9 rfl T.cD (by boot_by_name) (aa (fv 4) ag)) (aG _))
   (ao (aW (px hu (fv 4) (fv 5))))
   aT)
  (ao (aW (au D_law_number hr (aa (px hu (bD (aa (ax dz (ax dh (ax cC (fv 1) ab) (ax bp (fv 2) ab)) ab) (aa (ax zj (fv 1) (ax bp ab (ax dh ab (fv 2)))) ag))) (bE kZ rfl T.j3 (by boot_by_name) (aa (fR (wL hu) (ax dz (fv 1) (ax tU ab ab)) ab (aG _)) ag))) ag))))))),?_⟩
  refine ⟨_,aN.k (k:=.inr "numbers") B.dy.hS,g,d,g.LN,false,0,b,g.ns,rfl,O,B,SqL.of (bG _ _ B.st.hn),O.nv,by omega,fun D ys H1 s1 hD eD F=>?_⟩
  have e:(((nV g.N ys).length:Nat):Int)=(ys.length:Int):=by rw [List.length_map]
  try dsimp only
  refine Or.inl ⟨_,_,rfl,Or.inl ⟨_,SqL.of eD,rfl⟩,c,k,_,rfl,hk,(by omega),fun m H2 m0 m1 s2=>?_⟩
  have eD2:=s2 _ _ eD
  try dsimp only
  refine Or.inl ⟨_,_,rfl,Or.inl ⟨_,SqL.of eD2,rfl⟩,_,rfl,aI (fun z=>?_) (fun _=>?_)⟩
  ·have z:=of_decide_eq_true z
   rw [e] at z
   obtain ⟨x,hx,_,ha⟩:=ki (fun i=>V.str (g.N i)) m0 z
   exact Or.inl ⟨_,_,Or.inl (SqL.of eD2),ha,q (.x x) H2 (s1.trans s2) (F.sub x hx)⟩
  ·refine ⟨(by show (0:Int) < 1000003;decide),.inr ⟨by omega,by omega⟩,⟨by decide,by decide⟩,.inl ⟨by decide,by decide⟩,(by show (0:Int) <= 85 + 44 * (k:Int);omega),?_⟩
   refine ⟨by show 2 <= sizeLine;decide,fun l hl=>?_⟩
   obtain ⟨s3,e3⟩:=alc hl (HO.lst [V.int (c % 1000003 * ((k:Int) + 5) / 3),V.int (c / 2 ^ (85 + 44 * (k:Int)).toNat)])
   refine ⟨⟨by decide,by decide,by decide⟩,⟨by decide,by decide⟩,rfl,_,rfl,?_⟩
   refine Or.inl ?_
   have fin:∀n,In n->Q (.int n) _:=fun n hn=>q (.i n) _ ((s1.trans s2).trans s3) hn
   cases (!decide (V.int (c / 10 ^ (18:Int).toNat)=V.int 0))
   ·exact ⟨_,_,Or.inl (SqL.of e3),rfl,_,rfl,fin⟩
   ·exact ⟨_,_,Or.inl (SqL.of e3),rfl,_,rfl,fin⟩
def opL:List Str:=["+","-","*","over","rest","<","="]
def xN (K:W.Frag):Sp:=fun vs H Q _=>∃(g:Gc) (d:Gd) (c b:Int),vs=[.ref g.S,.int c,.int b]/\fV g/\BAt g H d /\
 ∀(p:Addr) (val:Val) (H':Hp),aq H H'->H p=none->H' p=some (.tup (vV g.N val))->val.ok g.ns->Q (.ref p) H'
theorem pD (T:Txt K mg A):Has P w K mg base 3 "_law_value" ["_law_state","_law_cell","_law_high"] (xN K):=by
 have D_law_fit:=qI (P:=P) (w:=w) (base:=base) T
 have D_law_mix:=kA (P:=P) (w:=w) (base:=base) T
 have D_law_thing:=mz (P:=P) (w:=w) (base:=base) T
 refine T.pB.has (k:=2) dH (fun vs H Q E h=>?_) (fun f cdv A' outer s H vs Q E hr hu h=>?_)
 ·obtain ⟨g,d,c,b,rfl,_⟩:=h
  rfl
 ·obtain ⟨g,d,c,b,rfl,O,B,q⟩:=h
  refine ⟨_,(ae (ay (i:=3) dH.nd rfl (Or.inl rfl) (au D_law_mix hr (aa (fv 1) (aa ab (aa ab ag)))))
  (ae (ay (i:=4) dH.nd rfl (Or.inl rfl) (au D_law_thing hr (aa (fv 0) (aa (fv 1) (aa ab (aa (fv 2) ag))))))
  (ae (ay (i:=5) dH.nd rfl (Or.inl rfl) (au D_law_fit hr (aa (fv 0) (aa (px hu (fv 0) aj) (aa j9 (aa ab (aa (fv 2) ag)))))))
  (ae (ba (aC (uH) (fv 3) ab (aG _))
   (ao (aW (bf (aa (fv 4) ag))))
   aT)
  (ae (ba (PW.pt (pw_and (aC (bV hu) (fv 3) ab (aG _)) (pw_and1 (aC (ou) (aH b9 rfl T.cD (by boot_by_name) (aa (fv 5) ag)) ab (aG _)))))
   (ao (aW (bf (aa (px hu (fv 5) (au D_law_mix hr (aa (fv 1) (aa ab (aa (aH b9 rfl T.cD (by boot_by_name) (aa (fv 5) ag)) ag))))) (aa aj (aa (fv 4) ag))))))
   aT)
  (ae (ay (i:=6) dH.nd rfl (Or.inl rfl) (px hu (bD (aa aj (aa aj (aa aj (aa aj (aa aj (aa aj (aa aj ag)))))))) (au D_law_mix hr (aa (fv 1) (aa ab (aa ab ag))))))
  (ao (aW (bf (aa (fv 4) (aa (fv 6) (aa (au D_law_thing hr (aa (fv 0) (aa (fv 1) (aa ab (aa (fv 2) ag))))) ag)))))))))))),?_⟩
  refine ⟨c,6,9,rfl,by decide,by decide,fun m H1 m0 m1 s1=>?_⟩
  have B1:=B.same s1
  try dsimp only
  refine ⟨g,d,c,1,b,rfl,O,B1,by decide,fun t H2 s2 ht=>?_⟩
  have B2:=B1.same s2
  have z2:=s1.trans s2
  try dsimp only
  refine ⟨_,aN.k (k:=.inr "lists") B2.dy.hS,g,d,g.LL,false,0,b,[6,10],rfl,O,B2,SqL.of (bG _ _ B2.st.hl),(fun i hi=>O.cv i (by revert i;decide)),by decide,fun D ys H3 s3 hD eD F=>?_⟩
  have B3:=B2.same s3
  have z3:=z2.trans s3
  have e:(((nV g.N ys).length:Nat):Int)=(ys.length:Int):=by rw [List.length_map]
  have new:∀{x:Addr}{H4:Hp},aq H3 H4->H4 x=none->H x=none:=fun z h=>aq.free (z3.trans z) h
  try dsimp only
  refine ah fun M0 K0=>?_
  refine ⟨_,rfl,aI (fun _=>?_) (fun _=>K0 _ _ ?_)⟩
  ·exact ⟨by show 1 <= sizeLine;decide,fun p hp=>q p (.one t) _ (z3.trans (aq.upd hp _)) (new (aq.refl _) hp) ak ht⟩
  refine ah fun M1 K1=>?_
  have rest:M1 [some (.ref g.S),some (.int c),some (.int b),some (.int m),some (t.v g.N),some (.ref D),none] H3:=K1 _ _ (by
   refine ⟨by show 7 <= sizeLine;decide,fun l hl=>?_⟩
   obtain ⟨s4,e4⟩:=alc hl (HO.lst (opL.map V.str))
   change upd H3 l (HO.lst (opL.map V.str)) l=_ at e4
   refine ⟨c,4,7,rfl,by decide,by decide,fun m2 H5 n0 n1 s5=>?_⟩
   obtain ⟨x,hx,_,ha⟩:=ki V.str (xs:=opL) n0 n1
   refine Or.inl ⟨_,_,Or.inl (SqL.of (s5 _ _ e4)),ha,?_⟩
   have z5:=s4.trans s5
   refine ⟨g,d,c,2,b,rfl,O,(B3.same s4).same s5,by decide,fun t2 H6 s6 ht2=>?_⟩
   exact ⟨by show 3 <= sizeLine;decide,fun p hp=>q p (.op t x t2) _ ((z3.trans (z5.trans s6)).trans (aq.upd hp _)) (new (z5.trans s6) hp) ak ⟨ht,ht2,hx⟩⟩)
  refine ⟨rfl,_,rfl,aI (fun _=>?_) (fun _=>cS rest)⟩
  refine Or.inl ⟨_,_,rfl,Or.inl ⟨_,SqL.of eD,rfl⟩,_,rfl,aI (fun z=>?_) (fun _=>rest)⟩
  have z:=of_decide_eq_true z
  rw [e] at z
  refine Or.inl ⟨_,_,rfl,Or.inl ⟨_,SqL.of eD,rfl⟩,c,3,_,rfl,by decide,(by rw [e];exact z),fun m2 H5 n0 n1 s5=>?_⟩
  rw [e] at n1
  obtain ⟨x,hx,_,ha⟩:=ki (fun i=>V.str (g.N i)) n0 n1
  refine Or.inl ⟨_,_,Or.inl (SqL.of (s5 _ _ eD)),ha,?_⟩
  exact ⟨by show 3 <= sizeLine;decide,fun p hp=>q p (.atl x t) _ ((z3.trans s5).trans (aq.upd hp _)) (new s5 hp) ak ⟨F.sub x hx,ht⟩⟩
end
section
variable {P:Program}{w:World}{K:W.Frag}{mg:Str->Option Value}{base:Heap}{A:Adr}{g:Gc}{d:Gd}{H:Hp}
seal PE PA PS PSs PT PW
structure dJ (g:Gc) (d:Gd) (H:Hp) (a:Addr) (at_:Nat) (rank aA cost:Int) (fc:Option Int):Prop where
 last:atI (V.ref d.a0 :: d.as.map V.ref) (-1)=some (.ref a)
 fr:H a=some (.dK (frK at_ rank aA cost fc))
 mem:a ∈ d.M g
 nS:a ≠ g.S
 nR:a ≠ g.LR
 nO:a ≠ d.lo
 rk:0 <= rank/\rank <= 2
 hf:aA=cf 1 d.fz
 hb:1 <= aA/\aA <= 36
 c0:0 <= cost
 lf:fc ≠ none->∃fs f,d.fz=fs ++ [f]/\f.fc=fc
theorem hE {α:Type} (xs:List α) (x:α):atI (xs ++ [x]) (-1)=some x:=by
 unfold atI ixN
 rw [if_neg (by decide),if_pos (by simp;omega)]
 show (xs ++ [x])[(-1 + (((xs ++ [x]).length:Nat):Int)).toNat]?=some x
 rw [show (-1 + (((xs ++ [x]).length:Nat):Int)).toNat=xs.length by simp;omega]
 simp
theorem fQ (h:(d.M g).Nodup):g.S ≠ g.LR/\g.S ≠ d.lo/\g.LR ≠ d.lo/\∀a ∈ d.a0 :: d.as,a ≠ g.S/\a ≠ g.LR/\a ≠ d.lo:=by
 unfold Gd.M at h
 obtain ⟨h1,h⟩:=List.nodup_cons.mp h
 obtain ⟨h2,h⟩:=List.nodup_cons.mp h
 obtain ⟨h3,h⟩:=List.nodup_cons.mp h
 exact ⟨fun e=>h1 (by rw [e];simp),fun e=>h1 (by rw [e];simp),fun e=>h2 (by rw [e];simp),fun a m=>⟨fun e=>h1 (by rw [<- e];simp at m ⊢;right;right;exact m),fun e=>h2 (by rw [<- e];simp at m ⊢;right;exact m),fun e=>h3 (by rw [<- e];exact m)⟩⟩
theorem jw {α:Type} (xs:List α):xs=[] \/ ∃ys y,xs=ys ++ [y]:=by
 cases h:xs.reverse with
 | nil=>exact .inl (List.reverse_eq_nil_iff.mp h)
 | cons y r=>exact .inr ⟨r.reverse,y,by rw [<- List.reverse_reverse xs,h];simp⟩
theorem jC {α β:Type}{xs:List α}{ys:List β}{x:α}{y:β} (h:xs.length=ys.length):(xs ++ [x]).zip (ys ++ [y])=xs.zip ys ++ [(x,y)]:=by
 rw [List.zip_append h]
 rfl
theorem Paired.pY {α β:Type}{F:α->β->Prop}:∀{xs:List α}{ys:List β}{y:β},Paired F xs (ys ++ [y])->∃us u,xs=us ++ [u]/\Paired F us ys/\F u y
 | _,[],_,.cons h .nil=>⟨[],_,rfl,.nil,h⟩
 | _,_ :: ys,_,.cons h r=>by
  obtain ⟨us,u,e,p,q⟩:=Paired.pY (ys:=ys) r
  exact ⟨_ :: us,u,by rw [e];rfl,.cons h p,q⟩
theorem kS.pY (dy:kS H g d) {fs:List Fz}{f:Fz} (e:d.fz=fs ++ [f]):∃us a,d.as=us ++ [a]/\Paired (fun a p=>H a=some (.dK (fzK p))) us ((ats (d.b g) fs).zip fs)/\H a=some (.dK (fzK (d.b g + (bh fs).length,f))):=by
 have h:=dy.hf
 rw [e,jG,jC (fh _ _)] at h
 exact Paired.pY h
theorem BAt.top (h:BAt g H d) (O:fV g):∃a at_ rank aA cost fc,dJ g d H a at_ rank aA cost fc:=by
 obtain ⟨n1,n2,n3,n4⟩:=fQ h.ok.nd
 rcases jw d.fz with e | ⟨fs,f,e⟩
 ·have hf:=h.dy.hf
  rw [e] at hf
  have ha:d.as=[]:=by
   cases ha:d.as with
   | nil=>rfl
   | cons a r=>rw [ha] at hf;cases hf
  obtain ⟨m1,m2,m3⟩:=n4 d.a0 List.mem_cons_self
  exact ⟨d.a0,0,g.br,1,d.bc,none,⟨by rw [ha];exact hE [] _,h.dy.h0,in0 g d,m1,m2,m3,O.br,by rw [e];rfl,⟨by decide,by decide⟩,h.ok.bc,fun z=>absurd rfl z⟩⟩
 ·obtain ⟨us,a,ea,p,fa⟩:=h.dy.pY e
  have ma:a ∈ d.as:=by rw [ea];simp
  obtain ⟨m1,m2,m3⟩:=n4 a (List.mem_cons_of_mem _ ma)
  have mf:f ∈ d.fz:=by rw [e];simp
  have F:=h.ok.fz f mf
  have hh:=h.ok.hf
  rw [e] at hh
  refine ⟨a,_,f.rank,f.aA,f.cost,f.fc,⟨?_,fa,inA g d ma,m1,m2,m3,F.rank,?_,h.ok.h36 f mf,F.cost,fun _=>⟨fs,f,e,rfl⟩⟩⟩
  ·rw [ea,List.map_append]
   exact hE (V.ref d.a0 :: us.map V.ref) _
  ·rw [e,d9]
   exact hh.inv.2
def dQ (H:Hp) (g:Gc) (d:Gd) (v:V) (n:Int) (a:Addr) (at_:Nat) (rank aA cost:Int) (fc:Option Int):Hp:=upd (upd (upd H g.S (.dK (stK g { d with spent:=d.spent + aA * n }))) g.LR (.lst (d.rows ++ [v]))) a (.dK (frK at_ rank aA (cost + 1) fc))
def rT:Sp:=fun vs H Q _=>∃(g:Gc) (d:Gd) (v:V) (n:Int) (a:Addr) (at_:Nat) (rank aA cost:Int) (fc:Option Int),vs=[.ref g.S,v,.int n]/\kS H g d/\(d.M g).Nodup/\d.rows.length <= 1000/\dJ g d H a at_ rank aA cost fc/\Q (.bl false) H/\(d.spent + aA * n <= g.lim->Q (.bl true) (dQ H g d v n a at_ rank aA cost fc))
theorem qL (T:Txt K mg A):Has P w K mg base 1 "_law_add" ["_law_state","_law_row","_law_steps"] rT:=by
 refine T.tP.has nC (fun vs H Q E h=>?_) (fun f cdv A' outer s H vs Q E hr hu h=>?_)
 ·obtain ⟨g,d,v,n,a,at_,rank,aA,cost,fc,rfl,_⟩:=h
  rfl
 ·obtain ⟨g,d,v,n,a,at_,rank,aA,cost,fc,rfl,dy,nd,rl,T1,q1,q2⟩:=h
  obtain ⟨n1,n2,n3,n4⟩:=fQ nd
  refine ⟨_,(ae (ay (i:=3) nC.nd rfl (Or.inl rfl) (px hu (px hu (fv 0) aj) (fB dw ab)))
  (ae (ba (aC (ou) (ax bp (px hu (fv 0) aj) (ax dh (px hu (fv 3) aj) (fv 2))) (px hu (fv 0) aj) (aG _))
   (ao (aW j9))
   aT)
  (ae (bR (ax bp (px hu (fv 0) aj) (ax dh (px hu (fv 3) aj) (fv 2))) (bP (fv 0) aj (bO hu set_list)))
  (ae (aL (bW (px hu (fv 0) aj) (aa (fv 1) ag)))
  (ae (bR (ax bp (px hu (fv 3) aj) ab) (bP (fv 3) aj (bO hu set_list)))
  (ao (aW j9))))))),?_⟩
  refine ⟨_,aN.k (k:=.inr "open") dy.hS,_,rfl,Or.inl ⟨_,_,Or.inl (SqL.of dy.hO),T1.last,?_⟩⟩
  try dsimp only
  refine ah fun M1 K1=>?_
  refine ⟨_,aN.k (k:=.inr "spent") dy.hS,_,aN.k (k:=.inr "heft") T1.fr,.inl ⟨by have:=T1.hb;omega,by have:=T1.hb;omega⟩,_,aN.k (k:=.inr "limit") dy.hS,_,rfl,aI (fun _=>q1) (fun c=>K1 _ _ ?_)⟩
  have c:¬ g.lim < d.spent + aA * n:=fun z=>c (decide_eq_true z)
  have q2:=q2 (by omega)
  try dsimp only
  refine ah fun M2 K2=>?_
  refine ⟨_,aN.k (k:=.inr "spent") dy.hS,_,aN.k (k:=.inr "heft") T1.fr,.inl ⟨by have:=T1.hb;omega,by have:=T1.hb;omega⟩,_,cZ.k (k:=.inr "spent") dy.hS (show 13 < sizeLine by decide),K2 _ _ ?_⟩
  unfold dQ at q2
  rw [show putK (stK g d) (.inr "spent") (.int (d.spent + aA * n))=stK g { d with spent:=d.spent + aA * n } from rfl]
  have hS1:upd H g.S (.dK (stK g { d with spent:=d.spent + aA * n })) g.S=some (.dK (stK g { d with spent:=d.spent + aA * n })):=ak
  have hR1:upd H g.S (.dK (stK g { d with spent:=d.spent + aA * n })) g.LR=some (.lst d.rows):=af n1.symm dy.hR
  have hF1:upd H g.S (.dK (stK g { d with spent:=d.spent + aA * n })) a=some (.dK (frK at_ rank aA cost fc)):=af T1.nS T1.fr
  generalize upd H g.S (.dK (stK g { d with spent:=d.spent + aA * n }))=H1 at hS1 hR1 hF1 q2 ⊢
  try dsimp only
  refine ah fun M3 K3=>?_
  refine ⟨_,aN.k (k:=.inr "rows") hS1,Or.inl ⟨rfl,_,SqL.of hR1⟩,_,_,_,rfl,rfl,hR1,aD rl,K3 _ _ ?_⟩
  have hF2:upd H1 g.LR (.lst (d.rows ++ [v])) a=some (.dK (frK at_ rank aA cost fc)):=af T1.nR hF1
  generalize upd H1 g.LR (.lst (d.rows ++ [v]))=H2 at hF2 q2 ⊢
  try dsimp only
  exact ⟨_,aN.k (k:=.inr "cost") hF2,_,cZ.k (k:=.inr "cost") hF2 (show 5 < sizeLine by decide),q2⟩
end
section
variable {P:Program}{w:World}{K:W.Frag}{mg:Str->Option Value}{base:Heap}{A:Adr}{g:Gc}{d:Gd}{H:Hp}
def mu (g:Gc) (d:Gd):Nat:=(d.lrs g).length + 2 * d.fz.length
theorem wj {a b:Option Int} (h:zD a=zD b):a=b:=by
 cases a with
 | none=>cases b with
  | none=>rfl
  | some n=>cases h
 | some m=>cases b with
  | none=>cases h
  | some n=>cases h;rfl
theorem tK {a b:Nat}{r1 r2 h1 h2 c1 c2:Int}{f1 f2:Option Int} (h:frK a r1 h1 c1 f1=frK b r2 h2 c2 f2):a=b/\r1=r2/\h1=h2/\c1=c2/\f1=f2:=by
 unfold frK at h
 simp only [List.cons.injEq,Prod.mk.injEq,V.int.injEq,true_and,and_true] at h
 obtain ⟨e1,e2,e3,e4,e5⟩:=h
 exact ⟨by omega,e2,e3,e4,wj e5⟩
theorem wZ {a:Addr}{k1 k2:List (Key × V)} (h:H a=some (.dK k1)) (h':H a=some (.dK k2)):k1=k2:=by
 rw [h] at h'
 exact HO.dK.inj (Option.some.inj h')
theorem dJ.cases (h:kS H g d) {a:Addr}{at_:Nat}{rank aA cost:Int}{fc:Option Int} (T:dJ g d H a at_ rank aA cost fc):(d.fz=[]/\d.as=[]/\a=d.a0/\at_=0/\rank=g.br/\aA=1/\cost=d.bc/\fc=none) \/ ∃fs f us,d.fz=fs ++ [f]/\d.as=us ++ [a]/\Paired (fun a p=>H a=some (.dK (fzK p))) us ((ats (d.b g) fs).zip fs)/\at_=d.b g + (bh fs).length/\rank=f.rank/\aA=f.aA/\cost=f.cost/\fc=f.fc:=by
 rcases jw d.fz with e | ⟨fs,f,e⟩
 ·have hf:=h.hf
  rw [e] at hf
  have ha:d.as=[]:=by
   cases ha:d.as with
   | nil=>rfl
   | cons a r=>rw [ha] at hf;cases hf
  have l:=T.last
  rw [ha] at l
  have l2:=hE ([]:List V) (.ref d.a0)
  have e0:a=d.a0:=by
   have:=l.symm.trans l2
   cases this
   rfl
  subst e0
  obtain ⟨a1,a2,a3,a4,a5⟩:=tK (wZ T.fr h.h0)
  exact .inl ⟨e,ha,rfl,a1,a2,a3,a4,a5⟩
 ·obtain ⟨us,a',ea,p,fa⟩:=h.pY e
  have l:=T.last
  rw [ea,List.map_append] at l
  have l2:=hE (V.ref d.a0 :: us.map V.ref) (.ref a')
  have e0:a=a':=by
   have:=l.symm.trans l2
   cases this
   rfl
  subst e0
  obtain ⟨a1,a2,a3,a4,a5⟩:=tK (wZ T.fr fa)
  exact .inr ⟨fs,f,us,e,ea,p,a1,a2,a3,a4,a5⟩
variable {v:V}{r:Lr}{n:Int}{a:Addr}{at_:Nat}{rank aA cost:Int}{fc:Option Int}
theorem Aa (T:dJ g d H a at_ rank aA cost fc) (nd:(d.M g).Nodup):dQ H g d v n a at_ rank aA cost fc g.S=some (.dK (stK g { d with spent:=d.spent + aA * n })):=by
 unfold dQ
 rw [aw T.nS.symm,aw (fQ nd).1,ak]
theorem zB (T:dJ g d H a at_ rank aA cost fc):dQ H g d v n a at_ rank aA cost fc g.LR=some (.lst (d.rows ++ [v])):=by
 unfold dQ
 rw [aw T.nR.symm,ak]
theorem pZ:dQ H g d v n a at_ rank aA cost fc a=some (.dK (frK at_ rank aA (cost + 1) fc)):=ak
theorem qk {x:Addr} (h1:x ≠ g.S) (h2:x ≠ g.LR) (h3:x ≠ a):dQ H g d v n a at_ rank aA cost fc x=H x:=by
 unfold dQ
 rw [aw h3,aw h2,aw h1]
theorem kH (T:dJ g d H a at_ rank aA cost fc):Go (d.M g) H (d.M g) (dQ H g d v n a at_ rank aA cost fc):=((Go.at (inS g d) _).trans (Go.at (inR g d) _)).trans (Go.at T.mem _)
theorem rj (h:(d.M g).Nodup):d.a0 ∉ d.as/\d.as.Nodup:=by
 unfold Gd.M at h
 obtain ⟨_,h⟩:=List.nodup_cons.mp h
 obtain ⟨_,h⟩:=List.nodup_cons.mp h
 obtain ⟨_,h⟩:=List.nodup_cons.mp h
 obtain ⟨h4,h5⟩:=List.nodup_cons.mp h
 exact ⟨h4,h5⟩
theorem Paired.rE {α β:Type}{F G:α->β->Prop}:∀{xs:List α}{ys:List β},Paired F xs ys->(∀x ∈ xs,∀y,F x y->G x y)->Paired G xs ys
 | _,_,.nil,_=>.nil
 | _,_,.cons h r,k=>.cons (k _ List.mem_cons_self _ h) (Paired.rE r fun x m=>k x (List.mem_cons_of_mem _ m))
theorem BAt.add (h:BAt g H d) (O:fV g) (T:dJ g d H a at_ rank aA cost fc) (hv:bK g.N (del (d.M g) H) v r) (ok:r.ok g.ns g.tg g.dd) (c:rK g.dd r <= n) (n0:0 <= n) (fit:d.spent + aA * n <= g.lim) (m3:mu g d + 3 <= 1000) :
  ∃d':Gd,d'.M g=d.M g/\BAt g (dQ H g d v n a at_ rank aA cost fc) d'/\mu g d' <= mu g d + 3/\d'.fz.length=d.fz.length/\dJ g d' (dQ H g d v n a at_ rank aA cost fc) a at_ rank aA (cost + 1) fc/\d'.marks=d.marks:=by
 have nd:=h.ok.nd
 obtain ⟨n1,n2,n3,n4⟩:=fQ nd
 obtain ⟨nd1,nd2⟩:=rj nd
 have go:=kH (v:=v) (n:=n) T
 have hS:=Aa (v:=v) (n:=n) T nd
 have hR:=zB (v:=v) (n:=n) T
 have hO:dQ H g d v n a at_ rank aA cost fc d.lo=some (.lst (.ref d.a0 :: d.as.map V.ref)):=by rw [qk n2.symm n3.symm T.nO.symm];exact h.dy.hO
 have hb:=T.hb
 have ht:aA * rK g.dd r <= aA * n:=Int.mul_le_mul_of_nonneg_left c (by omega)
 have h0:0 <= aA * n:=Int.mul_nonneg (by omega) n0
 have rows:Paired (bK g.N (del (d.M g) (dQ H g d v n a at_ rank aA cost fc))) (d.rows ++ [v]) (d.lrs g ++ [r]):=Paired.snoc (hv.same go.same) (Paired.dC h.hr fun _ _=>bK.same go.same)
 have sp:=h.ok.sp
 unfold mu at m3 ⊢
 rcases T.cases h.dy with ⟨ez,eas,ea,et,er,eh,ec,ef⟩ | ⟨fs,f,us,ez,eas,pu,et,er,eh,ec,ef⟩
 ·have lr:Gd.lrs g { d with rows:=d.rows ++ [v],spent:=d.spent + aA * n,bs:=d.bs ++ [.leaf r],bc:=d.bc + 1 }=d.lrs g ++ [r]:=by
   unfold Gd.lrs
   dsimp only
   rw [ez,jI]
   simp [bh,aP,flat]
  have h0':dQ H g d v n a at_ rank aA cost fc d.a0=some (.dK (frK 0 g.br 1 (d.bc + 1) none)):=by rw [ea] at *;rw [pZ,et,er,eh,ec,ef]
  have len:(d.lrs g ++ [r]).length=(d.lrs g).length + 1:=by simp
  have B:BAt g (dQ H g d v n a at_ rank aA cost fc) { d with rows:=d.rows ++ [v],spent:=d.spent + aA * n,bs:=d.bs ++ [.leaf r],bc:=d.bc + 1 }:=by
   refine h.go (d':={ d with rows:=d.rows ++ [v],spent:=d.spent + aA * n,bs:=d.bs ++ [.leaf r],bc:=d.bc + 1 }) go ⟨hS,hR,hO,h0',?_⟩ ⟨nd,h.ok.mks,h.ok.ml,jJ h.ok.bs ⟨ok,True.intro⟩,by have:=h.ok.bc;show 0 <= d.bc + 1;omega,h.ok.fz,h.ok.fl,h.ok.hf,h.ok.h36,fun e=>?_,⟨by show 0 <= d.spent + aA * n;omega,.inl fit⟩,?_⟩ (go.same _ _ h.hm) (by rw [lr];exact rows)
   ·dsimp only
    rw [ez,eas]
    exact .nil
   ·have:=h.ok.pay e
    dsimp only
    rw [jA]
    simp only [cm,oo]
    rw [eh] at ht ⊢
    omega
   ·rw [lr,len]
    dsimp only
    omega
  refine ⟨{ d with rows:=d.rows ++ [v],spent:=d.spent + aA * n,bs:=d.bs ++ [.leaf r],bc:=d.bc + 1 },rfl,B,?_,rfl,⟨?_,pZ,T.mem,T.nS,T.nR,T.nO,T.rk,T.hf,T.hb,by have:=T.c0;omega,fun z=>absurd ef z⟩,rfl⟩
  ·rw [lr,len]
   dsimp only
   omega
  ·exact T.last
 ·have lr:Gd.lrs g { d with rows:=d.rows ++ [v],spent:=d.spent + aA * n,fz:=fs ++ [{ f with rows:=f.rows ++ [.leaf r],cost:=f.cost + 1 }] }=d.lrs g ++ [r]:=by
   unfold Gd.lrs
   dsimp only
   rw [ez,cL,cL]
   simp [bh,aP,flat,Fz.op,Fz.eI,jI]
  have len:(d.lrs g ++ [r]).length=(d.lrs g).length + 1:=by simp
  have hh:=h.ok.hf
  rw [ez] at hh
  have F:=h.ok.fz f (by rw [ez];simp)
  have f36:=h.ok.h36 f (by rw [ez];simp)
  have fl:=h.ok.fl
  rw [ez,List.length_append] at fl
  have a0a:d.a0 ≠ a:=fun z=>nd1 (by rw [z,eas];simp)
  have ua:∀x ∈ us,x ≠ a:=fun x hx z=>by
   rw [eas] at nd2
   exact (List.nodup_append.mp nd2).2.2 x hx a (by simp) z
  have um:∀x ∈ us,x ∈ d.a0 :: d.as:=fun x hx=>by rw [eas];simp [hx]
  have B:BAt g (dQ H g d v n a at_ rank aA cost fc) { d with rows:=d.rows ++ [v],spent:=d.spent + aA * n,fz:=fs ++ [{ f with rows:=f.rows ++ [.leaf r],cost:=f.cost + 1 }] }:=by
   refine h.go (d':={ d with rows:=d.rows ++ [v],spent:=d.spent + aA * n,fz:=fs ++ [{ f with rows:=f.rows ++ [.leaf r],cost:=f.cost + 1 }] }) go ⟨hS,hR,hO,?_,?_⟩ ⟨nd,h.ok.mks,h.ok.ml,h.ok.bs,h.ok.bc,fun x hx=>?_,?_,?_,fun x hx=>?_,fun e=>?_,⟨by show 0 <= d.spent + aA * n;omega,.inl fit⟩,?_⟩ (go.same _ _ h.hm) (by rw [lr];exact rows)
   ·have m:=n4 d.a0 List.mem_cons_self
    rw [qk m.1 m.2.1 a0a]
    exact h.dy.h0
   ·dsimp only [Gd.b]
    rw [eas,jG,jC (fh _ _)]
    refine Paired.snoc ?_ (Paired.rE pu fun x hx y e=>?_)
    ·rw [pZ,et,er,eh,ec,ef]
     rfl
    ·have m:=n4 x (um x hx)
     rw [qk m.1 m.2.1 (ua x hx)]
     exact e
   ·rcases List.mem_append.mp hx with hx | hx
    ·exact h.ok.fz x (by rw [ez];simp [hx])
    ·rw [List.mem_singleton.mp hx]
     exact ⟨F.bk,F.l0,F.r0,jJ F.rows ⟨ok,True.intro⟩,F.fst,F.lp,F.fc,F.f0,F.rank,by have:=F.cost;show 0 <= f.cost + 1;omega⟩
   ·dsimp only
    rw [List.length_append]
    exact fl
   ·exact gT.app hh.inv.1 hh.inv.2
   ·rcases List.mem_append.mp hx with hx | hx
    ·exact h.ok.h36 x (by rw [ez];simp [hx])
    ·rw [List.mem_singleton.mp hx]
     exact f36
   ·have p:=h.ok.pay e
    rw [ez,cJ] at p
    dsimp only
    rw [cJ]
    dsimp only
    rw [jA]
    simp only [cm,oo]
    have e2:=hh.inv.2
    rw [eh,e2] at ht ⊢
    omega
   ·rw [lr,len]
    dsimp only
    rw [ez,List.length_append] at m3
    rw [List.length_append]
    simp only [List.length_singleton] at m3 ⊢
    omega
  refine ⟨{ d with rows:=d.rows ++ [v],spent:=d.spent + aA * n,fz:=fs ++ [{ f with rows:=f.rows ++ [.leaf r],cost:=f.cost + 1 }] },rfl,B,?_,by dsimp only;rw [ez,List.length_append,List.length_append];rfl,⟨T.last,pZ,T.mem,T.nS,T.nR,T.nO,T.rk,?_,T.hb,by have:=T.c0;omega,fun z=>⟨fs,_,rfl,by dsimp only;rw [ef]⟩⟩,rfl⟩
  ·rw [lr,len]
   dsimp only
   rw [ez,List.length_append,List.length_append]
   simp only [List.length_singleton]
   omega
  ·dsimp only
   rw [d9,T.hf,ez,d9]
end
section
variable {P:Program}{w:World}{K:W.Frag}{mg:Str->Option Value}{base:Heap}{A:Adr}{g:Gc}{d:Gd}{H:Hp}
seal PE PA PS PSs PT PW
theorem BAt.mark (h:BAt g H d) {D:Addr}{ms:List Nat} (hD:H D=some (.lst (nV g.N ms))) (nM:D ∉ d.M g) (sub:∀m ∈ ms,m ∈ d.marks) (len:ms.length <= d.marks.length):BAt g (upd H g.S (.dK (stK g { d with lm:=D,marks:=ms }))) { d with lm:=D,marks:=ms }:=by
 obtain ⟨n1,n2,n3,n4⟩:=fQ h.ok.nd
 have go:Go (d.M g) H (d.M g) (upd H g.S (.dK (stK g { d with lm:=D,marks:=ms }))):=Go.at (inS g d) _
 have ml:=h.ok.ml
 refine h.go (d':={ d with lm:=D,marks:=ms }) go ⟨ak,af n1.symm h.dy.hR,af n2.symm h.dy.hO,af (n4 _ List.mem_cons_self).1 h.dy.h0,Paired.rE h.dy.hf fun x hx y e=>af (n4 x (List.mem_cons_of_mem _ hx)).1 e⟩ ⟨h.ok.nd,fun m hm=>h.ok.mks m (sub m hm),by show ms.length <= 2;omega,h.ok.bs,h.ok.bc,h.ok.fz,h.ok.fl,h.ok.hf,h.ok.h36,h.ok.pay,h.ok.sp,h.ok.rl⟩ ?_ (Paired.dC h.hr fun _ _=>bK.same go.same)
 exact aV nM (af (fun z:D=g.S=>nM (by rw [z];exact inS g d)) hD)
def xD (g:Gc) (d:Gd) (H:Hp) (Q:VK) (u:V):Prop:=∀(d':Gd) (H':Hp),Go (d.M g) H (d'.M g) H'->BAt g H' d'->mu g d' <= mu g d + 3->Q u H'
theorem BAt.free (h:BAt g H d) {x:Addr} (e:H x=none):x ∉ d.M g:=fun m=>h.al x m e
theorem BAt.new (h:BAt g H d) {H':Hp} (z:aq H H') {x:Addr}{o:HO} (e:H x=none) (e':H' x=some o):del (d.M g) H' x=some o:=aV (h.free e) e'
def yu (K:W.Frag):Sp:=fun vs H Q _=>∃(g:Gc) (d:Gd) (c:Int) (lo:Bool),vs=[.ref g.S,.int c,.bl lo]/\fV g/\BAt g H d/\mu g d + 3 <= 1000/\(∀H',aq H H'->Q (.bl false) H')/\xD g d H Q (.bl true)
theorem AA (T:Txt K mg A):Has P w K mg base 4 "_law_said" ["_law_state","_law_cell","_law_loose"] (yu K):=by
 have D_law_fit:=qI (P:=P) (w:=w) (base:=base) T
 have D_law_mix:=kA (P:=P) (w:=w) (base:=base) T
 have D_law_value:=pD (P:=P) (w:=w) (base:=base) T
 have D_law_add:=qL (P:=P) (w:=w) (base:=base) T
 refine T.qE.has (k:=3) eG (fun vs H Q E h=>?_) (fun f cdv A' outer s H vs Q E hr hu h=>?_)
 ·obtain ⟨g,d,c,lo,rfl,_⟩:=h
  rfl
 ·obtain ⟨g,d,c,lo,rfl,O,B,m3,q1,q2⟩:=h
  obtain ⟨a,at_,rank,aA,cost,fc,T1⟩:=B.top O
  have vb:∀j ∈ g.vk,j < 25:=fun j hj=>(O.vb j hj).1
  have mv:∀m ∈ d.marks,m ∈ g.vk/\m ∈ [11,12]:=fun m hm=>⟨O.cv m (by have:=B.ok.mks m hm;simp at this ⊢;omega),B.ok.mks m hm⟩
  have ml:=B.ok.ml
  refine ⟨_,(ae (ay (i:=3) eG.nd rfl (Or.inl rfl) (au D_law_fit hr (aa (fv 0) (aa (px hu (fv 0) aj) (aa (fv 2) (aa (px hu (px hu (px hu (fv 0) aj) (fB dw ab)) aj) (aa ab ag)))))))
  (ae (ba (aC (bV hu) (aH b9 rfl T.cD (by boot_by_name) (aa (fv 3) ag)) ab (aG _))
   (ao (aW j9))
   aT)
  (ae (ay (i:=4) eG.nd rfl (Or.inr rfl) (px hu (fv 3) (au D_law_mix hr (aa (fv 1) (aa ab (aa (aH b9 rfl T.cD (by boot_by_name) (aa (fv 3) ag)) ag))))))
  (ae (ay (i:=5) eG.nd rfl (Or.inl rfl) (au D_law_fit hr (aa (fv 0) (aa (px hu (fv 0) aj) (aa (fv 2) (aa (px hu (px hu (fv 0) aj) (fv 4)) (aa ab ag)))))))
  (ae (ay (i:=6) eG.nd rfl (Or.inl rfl) (px hu (fv 5) (au D_law_mix hr (aa (fv 1) (aa ab (aa (aH b9 rfl T.cD (by boot_by_name) (aa (fv 5) ag)) ag))))))
  (ae (ba (cK (au D_law_add hr (aa (fv 0) (aa (bf (aa aj (aa (fv 6) (aa (au D_law_value hr (aa (fv 0) (aa (fv 1) (aa ab ag)))) (aa (fv 4) ag))))) (aa ab ag)))) (fun _=>rfl))
   (ao (bR (mF (N:=["_law_one","_law_mark"]) (own:=1) (fr:=[4]) (cV.of (by kernel_rfl!)) rfl (dG (px hu (fv 0) aj)) (fun b=>pgn (i:=0) (show List.Nodup (["_law_one","_law_mark"]:List PySem.Str) by decide +kernel) rfl) (fun b=>pP (aC (wL hu) (fv 0) (fv 1) (aG _))) (fun b=>fv 0)) (bP (fv 0) aj (bO hu set_list))))
   aT)
  (ao (aW j9)))))))),?_⟩
  refine ⟨_,aN.k (k:=.inr "marks") B.dy.hS,_,aN.k (k:=.inr "open") B.dy.hS,_,rfl,Or.inl ⟨_,_,Or.inl (SqL.of B.dy.hO),T1.last,_,aN.k (k:=.inr "rank") T1.fr,g,d,d.lm,lo,rank,2,d.marks,rfl,O,B,SqL.of (bG _ _ B.hm),(fun i hi=>(mv i hi).1),by omega,fun D ys H1 s1 hD eD F=>?_⟩⟩
  have B1:=B.same s1
  have e:(((nV g.N ys).length:Nat):Int)=(ys.length:Int):=by rw [List.length_map]
  try dsimp only
  refine ah fun M1 K1=>?_
  refine Or.inl ⟨_,_,rfl,Or.inl ⟨_,SqL.of eD,rfl⟩,rfl,_,rfl,aI (fun _=>q1 _ s1) (fun z=>K1 _ _ ?_)⟩
  have y0:0 < ys.length:=by
   rw [Cf,decide_eq_true_iff,e] at z
   omega
  try dsimp only
  refine ah fun M2 K2=>?_
  refine Or.inl ⟨_,_,rfl,Or.inl ⟨_,SqL.of eD,rfl⟩,c,5,_,rfl,by decide,(by rw [e];omega),fun k1 H2 a0 a1 s2=>?_⟩
  rw [e] at a1
  obtain ⟨mk,hmk,_,ha⟩:=ki (fun i=>V.str (g.N i)) a0 a1
  refine Or.inl ⟨_,_,Or.inl (SqL.of (s2 _ _ eD)),ha,K2 _ _ ?_⟩
  have B2:=B1.same s2
  have mkm:=F.sub mk hmk
  have mkv:=(mv mk mkm).1
  try dsimp only
  refine ah fun M3 K3=>?_
  refine ⟨_,aN.k (k:=.inr "targets") B2.dy.hS,_,aN.k (k:=.inr "view") B2.dy.hS,_,kg O.D (.inl (bG _ _ B2.st.hv)) vb mkv,?_⟩
  refine ⟨g,d,g.LT,lo,g.vw mk,2,g.tg,rfl,O,B2,SqL.of (bG _ _ B2.st.ht),O.tv,by have:=O.tl;omega,fun D3 zs H3 s3 hD3 eD3 F3=>K3 _ _ ?_⟩
  have e3:(((nV g.N zs).length:Nat):Int)=(zs.length:Int):=by rw [List.length_map]
  have z9:9 ∈ zs:=F3.has 9 O.t9 (by rw [O.v9];exact (O.vb mk mkv).2.2) (by rw [O.v9];decide)
  have z0:0 < zs.length:=List.length_pos_iff.mpr fun e=>by rw [e] at z9;cases z9
  have B3:=B2.same s3
  try dsimp only
  refine ah fun M4 K4=>?_
  refine Or.inl ⟨_,_,rfl,Or.inl ⟨_,SqL.of eD3,rfl⟩,c,0,_,rfl,by decide,(by rw [e3];omega),fun k2 H4 b0 b1 s4=>?_⟩
  rw [e3] at b1
  obtain ⟨x,hx,_,hax⟩:=ki (fun i=>V.str (g.N i)) b0 b1
  refine Or.inl ⟨_,_,Or.inl (SqL.of (s4 _ _ eD3)),hax,K4 _ _ ?_⟩
  have B4:=B3.same s4
  have t4:=((s1.trans s2).trans s3).trans s4
  have xt:=F3.sub x hx
  try dsimp only
  refine ah fun M5 K5=>?_
  refine ⟨g,d,c,2,rfl,O,B4,fun p val H5 s5 hp ep hv=>?_⟩
  have B5:=B4.same s5
  refine ⟨by show 4 <= sizeLine;decide,fun r hr'=>?_⟩
  have s6:=aq.upd hr' (HO.tup [V.str "say",.str (g.N x),.ref p,.str (g.N mk)])
  have e6:upd H5 r (HO.tup [V.str "say",.str (g.N x),.ref p,.str (g.N mk)]) r=some (.tup [V.str "say",.str (g.N x),.ref p,.str (g.N mk)]):=ak
  generalize upd H5 r (HO.tup [V.str "say",.str (g.N x),.ref p,.str (g.N mk)])=H6 at s6 e6 ⊢
  have B6:=B5.same s6
  have t6:=(t4.trans s5).trans s6
  have T6:dJ g d H6 a at_ rank aA cost fc:=⟨T1.last,t6 _ _ T1.fr,T1.mem,T1.nS,T1.nR,T1.nO,T1.rk,T1.hf,T1.hb,T1.c0,T1.lf⟩
  have hrow:bK g.N (del (d.M g) H6) (.ref r) (.say x val mk):=⟨r,p,rfl,B5.new s6 hr' e6,fun o ho=>by
   cases ho
   exact B4.new (s5.trans s6) hp (s6 _ _ ep)⟩
  have go6:Go (d.M g) H (d.M g) H6:=Go.new t6
  have rl:d.rows.length <= 1000:=by
   have:=Paired.length B6.hr
   unfold mu at m3
   omega
  refine ⟨g,d,.ref r,1,a,at_,rank,aA,cost,fc,rfl,B6.dy,B6.ok.nd,rl,T6,⟨false,rfl,cS (K5 _ _ (q2 d H6 go6 B6 (by omega)))⟩,fun fit=>⟨true,rfl,gU ?_⟩⟩
  obtain ⟨d7,M7,B7,mu7,_,_,mk7⟩:=B6.add O T6 hrow (show x ∈ g.tg/\val.ok g.ns/\mk ∈ [11,12] from ⟨xt,hv,(mv mk mkm).2⟩) (show (1:Int) <= 1 from Int.le_refl _) (by decide) fit m3
  have go7:Go (d.M g) H (d7.M g) (dQ H6 g d (.ref r) 1 a at_ rank aA cost fc):=by
   rw [M7]
   exact go6.trans (kH T6)
  generalize dQ H6 g d (.ref r) 1 a at_ rank aA cost fc=H7 at B7 go7 ⊢
  have hm7:=bG _ _ B7.hm
  have ml7:=B7.ok.ml
  refine ⟨_,aN.k (k:=.inr "marks") B7.dy.hS,?_⟩
  refine Or.inl ⟨⟨_,SqL.of hm7⟩,k7 (K:=K) (fun v=>!decide (v=.str (g.N mk))) (fun x=>x) (SqL.of hm7) (aD (by rw [List.length_map];omega)) (fun b' x H2 R hm s2 k=>?_) (fun b' x H2 R hm hp s2 k=>k _ (aq.refl _)) (fun D8 H8 hD8 s8 e8=>?_)⟩
  ·obtain ⟨i,_,rfl⟩:=List.mem_map.mp hm
   exact ⟨rfl,_,rfl,k _ (aq.refl _)⟩
  ·rw [List.map_id',List.filter_map] at e8
   have B8:=B7.same s8
   refine ⟨_,cZ.k (k:=.inr "marks") B8.dy.hS (show 13 < sizeLine by decide),K5 _ _ ?_⟩
   have B9:=B8.mark e8 (B7.free hD8) (fun m hm=>(List.mem_filter.mp hm).1) (List.length_filter_le _ _)
   exact q2 { d7 with lm:=D8,marks:=d7.marks.filter ((fun v=>!decide (v=V.str (g.N mk))) ∘ fun i=>V.str (g.N i)) } _ (go7.trans ((Go.new s8).trans (Go.at (inS g d7) _))) B9 mu7
end
section
variable {P:Program}{w:World}{K:W.Frag}{mg:Str->Option Value}{base:Heap}{A:Adr}{g:Gc}{d:Gd}{H:Hp}
seal PE PA PS PSs PT PW
def b01 (b:Bool):Int:=if b=true then 1 else 0
theorem BP (x y:V) (b:Bool):atI [x,y] (b01 b)=some (if b=true then y else x):=by cases b <;> rfl
theorem dJ.same {a:Addr}{at_:Nat}{rank aA cost:Int}{fc:Option Int}{H':Hp} (T:dJ g d H a at_ rank aA cost fc) (s:aq H H'):dJ g d H' a at_ rank aA cost fc:=⟨T.last,s _ _ T.fr,T.mem,T.nS,T.nR,T.nO,T.rk,T.hf,T.hb,T.c0,T.lf⟩
theorem rF (O:fV g) {H':Hp}{r:Lr}{v:V}{n:Int}{Q:VK}{a:Addr}{at_:Nat}{rank aA cost:Int}{fc:Option Int} (B:BAt g H' d) (go:Go (d.M g) H (d.M g) H') (m3:mu g d + 3 <= 1000) (T1:dJ g d H' a at_ rank aA cost fc) (hv:bK g.N (del (d.M g) H') v r) (ok:r.ok g.ns g.tg g.dd) (c:rK g.dd r <= n) (n0:0 <= n)
  (q1:Q (.bl false) H') (q2:∀d',d'.M g=d.M g->BAt g (dQ H' g d v n a at_ rank aA cost fc) d'->mu g d' <= mu g d + 3->dJ g d' (dQ H' g d v n a at_ rank aA cost fc) a at_ rank aA (cost + 1) fc->Q (.bl true) (dQ H' g d v n a at_ rank aA cost fc)):rT [.ref g.S,v,.int n] H' Q E0:=by
 have rl:d.rows.length <= 1000:=by
  have:=Paired.length B.hr
  unfold mu at m3
  omega
 refine ⟨g,d,v,n,a,at_,rank,aA,cost,fc,rfl,B.dy,B.ok.nd,rl,T1,q1,fun fit=>?_⟩
 obtain ⟨d',M',B',mu',_,T',_⟩:=B.add O T1 hv ok c n0 fit m3
 exact q2 d' M' B' mu' T'
def nh (K:W.Frag):Sp:=fun vs H Q _=>∃(g:Gc) (d:Gd) (c k:Int) (lo:Bool),vs=[.ref g.S,.int c,.int k,.bl lo]/\fV g/\BAt g H d/\mu g d + 3 <= 1000/\xD g d H Q .non
theorem mC (T:Txt K mg A):Has P w K mg base 5 "_law_plain" ["_law_state","_law_cell","_law_kind","_law_loose"] (nh K):=by
 have D_law_fit:=qI (P:=P) (w:=w) (base:=base) T
 have D_law_mix:=kA (P:=P) (w:=w) (base:=base) T
 have D_law_thing:=mz (P:=P) (w:=w) (base:=base) T
 have D_law_value:=pD (P:=P) (w:=w) (base:=base) T
 have D_law_add:=qL (P:=P) (w:=w) (base:=base) T
 have D_law_said:=AA (P:=P) (w:=w) (base:=base) T
 refine T.pj.has (k:=4) bZ (fun vs H Q E h=>?_) (fun f cdv A' outer s H vs Q E hr hu h=>?_)
 ·obtain ⟨g,d,c,k,lo,rfl,_⟩:=h
  rfl
 ·obtain ⟨g,d,c,k,lo,rfl,O,B,m3,q⟩:=h
  obtain ⟨a,at_,rank,aA,cost,fc,T1⟩:=B.top O
  have vb:∀j ∈ g.vk,j < 25:=fun j hj=>(O.vb j hj).1
  refine ⟨_,(ae (ay (i:=4) bZ.nd rfl (Or.inl rfl) (px hu (px hu (px hu (fv 0) aj) (fB dw ab)) aj))
  (ae (ba (PW.pt (pw_and (aC (bV hu) (fv 2) ab (aG _)) (pw_and1 (cK (au D_law_said hr (aa (fv 0) (aa (fv 1) (aa (fv 3) ag)))) (fun _=>rfl)))))
   (ao (pH))
   aT)
  (ae (ay (i:=5) bZ.nd rfl (Or.inl rfl) (px hu (bD (aa aj (aa aj ag))) (bE kZ rfl T.j3 (by boot_by_name) (aa (fR (tJ hu) (fv 2) (bf (aa ab (aa ab ag))) ((by with_unfolding_all rfl))) ag))))
  (ae (ay (i:=6) bZ.nd rfl (Or.inl rfl) (au D_law_fit hr (aa (fv 0) (aa (px hu (bD (aa (px hu (fv 0) aj) (aa (px hu (fv 0) aj) ag))) (bE kZ rfl T.j3 (by boot_by_name) (aa (fR (tJ hu) (fv 2) (bf (aa ab (aa ab ag))) ((by with_unfolding_all rfl))) ag))) (aa (fv 3) (aa (fv 4) (aa ab ag)))))))
  (ae (ay (i:=7) bZ.nd rfl (Or.inl rfl) (px hu (fv 6) (au D_law_mix hr (aa (fv 1) (aa ab (aa (aH b9 rfl T.cD (by boot_by_name) (aa (fv 6) ag)) ag))))))
  (ae (ba (PW.pt (pw_and (aC (bV hu) (fv 2) ab (aG _)) (pw_and1 (PW.pt (pw_or (cK (fv 3) (fun _=>rfl)) (pw_or1 (aC (Dc) (px hu (px hu (fv 0) aj) (px hu (px hu (fv 0) aj) ab)) (fv 4) (aG _))))))))
   (ae (ay (i:=5) bZ.nd rfl (Or.inl rfl) aj)
   (ao (ay (i:=7) bZ.nd rfl (Or.inl rfl) (px hu (px hu (fv 0) aj) ab))))
   aT)
  (ae (ay (i:=8) bZ.nd rfl (Or.inl rfl) (px hu (bD (aa (px hu (px hu (fv 0) aj) (fv 7)) (aa ab ag))) (bE kZ rfl T.j3 (by boot_by_name) (aa (fv 3) ag))))
  (ae (ay (i:=9) bZ.nd rfl (Or.inl rfl) (bf (aa (fv 5) (aa (fv 7) (aa (au D_law_value hr (aa (fv 0) (aa (fv 1) (aa (fv 8) ag)))) ag)))))
  (ae (ba (aC (bV hu) (fv 5) aj (aG _))
   (ao (ay (i:=9) bZ.nd rfl (Or.inl rfl) (bf (aa (fv 5) (aa (fv 7) (aa (au D_law_thing hr (aa (fv 0) (aa (fv 1) (aa ab (aa (fv 8) ag))))) (aa (px hu (fv 9) ab) ag)))))))
   aT)
  (ao (aL (au D_law_add hr (aa (fv 0) (aa (fv 9) (aa ab ag))))))))))))))),?_⟩
  refine ⟨_,aN.k (k:=.inr "open") B.dy.hS,_,rfl,Or.inl ⟨_,_,Or.inl (SqL.of B.dy.hO),T1.last,_,aN.k (k:=.inr "rank") T1.fr,?_⟩⟩
  try dsimp only
  refine ah fun M1 K1=>?_
  have main:∀H1,aq H H1->M1 [some (.ref g.S),some (.int c),some (.int k),some (.bl lo),some (.int rank),none,none,none,none,none] H1:=fun H1 s1=>K1 _ _ (by
   have B1:=B.same s1
   obtain ⟨b,hb⟩:∃b:Bool,inV (.int k) [.int 5,.int 6]=b:=⟨_,rfl⟩
   refine ah fun M2 K2=>?_
   refine ⟨by show 2 <= sizeLine;decide,fun l hl=>?_⟩
   obtain ⟨s2,e2⟩:=alc hl (HO.lst [V.str "set",.str "send"])
   generalize upd H1 l _=H2 at s2 e2 ⊢
   refine ⟨by show 2 <= sizeLine;decide,fun t ht=>?_⟩
   obtain ⟨s3,e3⟩:=alc ht (HO.tup [V.int 5,.int 6])
   generalize upd H2 t _=H3 at s3 e3 ⊢
   refine Or.inl ⟨_,Or.inr (SqT.of e3),rfl,rfl,_,rfl,Or.inl ⟨_,_,Or.inl (SqL.of (s3 _ _ e2)),((congrArg (fun z=>atI [V.str "set",.str "send"] (b01 z)) hb).trans (BP _ _ b)),K2 _ _ ?_⟩⟩
   have B3:=(B1.same s2).same s3
   have t3:=(s1.trans s2).trans s3
   clear s2 s3 e2 e3 hl ht B1 s1
   try dsimp only
   refine ah fun M3 K3=>?_
   refine ⟨_,aN.k (k:=.inr "targets") B3.dy.hS,_,aN.k (k:=.inr "hands") B3.dy.hS,by show 2 <= sizeLine;decide,fun l hl=>?_⟩
   obtain ⟨s4,e4⟩:=alc hl (HO.lst [V.ref g.LT,.ref g.LH])
   generalize upd H3 l _=H4 at s4 e4 ⊢
   refine ⟨by show 2 <= sizeLine;decide,fun t ht=>?_⟩
   obtain ⟨s5,e5⟩:=alc ht (HO.tup [V.int 5,.int 6])
   generalize upd H4 t _=H5 at s5 e5 ⊢
   refine Or.inl ⟨_,Or.inr (SqT.of e5),rfl,rfl,_,rfl,Or.inl ⟨_,_,Or.inl (SqL.of (s5 _ _ e4)),((congrArg (fun z=>atI [V.ref g.LT,.ref g.LH] (b01 z)) hb).trans (BP _ _ b)),?_⟩⟩
   have B5:=(B3.same s4).same s5
   have t5:=(t3.trans s4).trans s5
   have lt:∃(l':Addr) (xs:List Nat),(if b=true then V.ref g.LH else V.ref g.LT)=.ref l'/\SqL K H5 l' (nV g.N xs)/\(∀i ∈ xs,i ∈ g.vk)/\xs.length <= 1000/\(∃i ∈ xs,g.vw i=2)/\∀i ∈ xs,if b=true then i ∈ [0,1,2] else i ∈ g.tg:=by
    cases b with
    | true=>exact ⟨g.LH,[0,1,2],rfl,SqL.of (bG _ _ B5.st.hh),fun i hi=>O.cv i (by simp at hi ⊢;omega),by decide,⟨2,by decide,O.v2⟩,fun i hi=>hi⟩
    | false=>exact ⟨g.LT,g.tg,rfl,SqL.of (bG _ _ B5.st.ht),O.tv,by have:=O.tl;omega,⟨9,O.t9,O.v9⟩,fun i hi=>hi⟩
   obtain ⟨l',xs,el,hl',xv,xl,⟨i2,hi2,v2⟩,xok⟩:=lt
   rw [el]
   refine ⟨g,d,l',lo,rank,2,xs,rfl,O,B5,hl',xv,xl,fun D ys H6 s6 hD eD F=>K3 _ _ ?_⟩
   have B6:=B5.same s6
   have t6:=t5.trans s6
   have e:(((nV g.N ys).length:Nat):Int)=(ys.length:Int):=by rw [List.length_map]
   have y2:i2 ∈ ys:=F.has i2 hi2 (by rw [v2];exact T1.rk.2) (by rw [v2];decide)
   have y0:0 < ys.length:=List.length_pos_iff.mpr fun e=>by rw [e] at y2;cases y2
   clear s4 s5 e4 e5 hl ht B3 B5 t3 t5 el hl'
   try dsimp only
   refine ah fun M4 K4=>?_
   refine Or.inl ⟨_,_,rfl,Or.inl ⟨_,SqL.of eD,rfl⟩,c,0,_,rfl,by decide,(by rw [e];omega),fun k2 H7 b0 b1 s7=>?_⟩
   rw [e] at b1
   obtain ⟨x,hx,_,hax⟩:=ki (fun i=>V.str (g.N i)) b0 b1
   refine Or.inl ⟨_,_,Or.inl (SqL.of (s7 _ _ eD)),hax,K4 _ _ ?_⟩
   have B7:=B6.same s7
   have t7:=t6.trans s7
   have xo:=xok x (F.sub x hx)
   have xv':=xv x (F.sub x hx)
   try dsimp only
   refine ah fun M5 K5=>?_
   have fin:∀(wd:Str) (y:Nat),y ∈ g.vk->(wd="put"/\y=10 \/ wd=(if b=true then ("send":Str) else "set")/\y=x)->M5 [some (.ref g.S),some (.int c),some (.int k),some (.bl lo),some (.int rank),some (.str wd),some (.ref D),some (.str (g.N y)),none,none] H7:=fun wd y yv hw=>K5 _ _ (by
    refine ah fun M6 K6=>?_
    refine ⟨_,aN.k (k:=.inr "view") B7.dy.hS,_,kg O.D (.inl (bG _ _ B7.st.hv)) vb yv,by show 2 <= sizeLine;decide,fun l hl=>?_⟩
    obtain ⟨s8,e8⟩:=alc hl (HO.lst [V.int (g.vw y),.int 2])
    generalize upd H7 l _=H8 at s8 e8 ⊢
    have ehi:∃hi:Int,atI [V.int (g.vw y),.int 2] (b01 lo)=some (.int hi):=by cases lo <;> exact ⟨_,rfl⟩
    obtain ⟨hi,ehi⟩:=ehi
    refine ⟨_,rfl,Or.inl ⟨_,_,Or.inl (SqL.of e8),ehi,K6 _ _ ?_⟩⟩
    have B8:=B7.same s8
    have t8:=t7.trans s8
    try dsimp only
    refine ah fun M7 K7=>?_
    refine ⟨g,d,c,hi,rfl,O,B8,fun p val H9 s9 hp ep hv=>?_⟩
    have B9:=B8.same s9
    refine ⟨by show 3 <= sizeLine;decide,fun r hr'=>K7 _ _ ?_⟩
    have s10:=aq.upd hr' (HO.tup [V.str wd,.str (g.N y),.ref p])
    have e10:upd H9 r (HO.tup [V.str wd,.str (g.N y),.ref p]) r=some (.tup [V.str wd,.str (g.N y),.ref p]):=ak
    generalize upd H9 r (HO.tup [V.str wd,.str (g.N y),.ref p])=H10 at s10 e10 ⊢
    have B10:=B9.same s10
    have t10:=(t8.trans s9).trans s10
    have pp:∀{Hz:Hp},aq H10 Hz->del (d.M g) Hz p=some (.tup (vV g.N val)):=fun z=>B8.new ((s9.trans s10).trans z) hp ((s10.trans z) _ _ ep)
    try dsimp only
    refine ah fun M8 K8=>?_
    have last:∀(H11:Hp) (r':Addr) (lr:Lr),aq H10 H11->bK g.N (del (d.M g) H11) (.ref r') lr->lr.ok g.ns g.tg g.dd->rK g.dd lr <= 1->M8 [some (.ref g.S),some (.int c),some (.int k),some (.bl lo),some (.int rank),some (.str wd),some (.ref D),some (.str (g.N y)),some (.int hi),some (.ref r')] H11:=fun H11 r' lr s11 hlr ok cs=>K8 _ _ (by
     have t11:=t10.trans s11
     have go:=Go.new (M:=d.M g) t11
     refine rF (Q:=fun _ H'=>Q .non H') O (H:=H) (B10.same s11) go m3 (T1.same t11) hlr ok cs (by decide) (q d H11 go (B10.same s11) (by omega)) fun d' M' B' mu' _=>?_
     exact q d' _ (by rw [M'];exact go.trans (kH (T1.same t11))) B' mu')
    refine ⟨rfl,_,rfl,aI (fun z=>?_) (fun z=>?_)⟩
    ·rw [BY,decide_eq_true_iff] at z
     refine ⟨g,d,c,5,hi,rfl,O,B10,by decide,fun th H11 s11 hth=>?_⟩
     refine Or.inl ⟨_,_,Or.inr (SqT.of (s11 _ _ e10)),rfl,by show 4 <= sizeLine;decide,fun r2 hr2=>?_⟩
     have y10:y=10:=by
      rcases hw with ⟨_,z2⟩ | ⟨z2,_⟩
      ·exact z2
      ·rw [z] at z2
       cases b
       ·exact absurd z2 (by decide)
       ·exact absurd z2 (by decide)
     have s12:=aq.upd hr2 (HO.tup [V.str wd,.str (g.N y),th.v g.N,.ref p])
     refine last _ r2 (.put y th val) (s11.trans s12) ⟨r2,p,rfl,(B10.same s11).new s12 hr2 ?_,fun o ho=>by cases ho;exact pp (s11.trans s12)⟩ ⟨y10,hth,hv⟩ (Int.le_refl _)
     rw [ak,z]
     rfl
    ·rw [BY,decide_eq_true_iff] at z
     rcases hw with ⟨z2,_⟩ | ⟨z2,zy⟩
     ·exact absurd z2 z
     ·have hr10:del (d.M g) H10 r=some (.tup [V.str wd,.str (g.N y),.ref p]):=B9.new s10 hr' e10
      rw [z2] at hr10
      subst zy
      cases b with
      | true=>exact last H10 r (.snd y val) (aq.refl _) ⟨r,p,rfl,hr10,fun o ho=>by cases ho;exact pp (aq.refl _)⟩ ⟨xo,hv⟩ (Int.le_refl _)
      | false=>exact last H10 r (.set y val) (aq.refl _) ⟨r,p,rfl,hr10,fun o ho=>by cases ho;exact pp (aq.refl _)⟩ ⟨xo,hv⟩ (Int.le_refl _))
   have same:=fin (if b=true then ("send":Str) else "set") x xv' (.inr ⟨rfl,rfl⟩)
   have eqw:(if b=true then V.str "send" else V.str "set")=V.str (if b=true then ("send":Str) else "set"):=by cases b <;> rfl
   rw [eqw]
   have hl7:=SqL.of (K:=K) (bG _ _ B7.st.hl)
   have put:=fin "put" 10 (O.cv 10 (by decide)) (.inl ⟨rfl,rfl⟩)
   refine ⟨rfl,_,rfl,aI (fun _=>?_) (fun _=>cS same)⟩
   cases lo with
   | true=>exact ⟨true,rfl,gU (gU ⟨_,aN.k (k:=.inr "lists") B7.dy.hS,Or.inl ⟨_,_,Or.inl hl7,rfl,put⟩⟩)⟩
   | false =>
    refine ⟨false,rfl,cS ?_⟩
    refine ⟨_,aN.k (k:=.inr "view") B7.dy.hS,_,aN.k (k:=.inr "lists") B7.dy.hS,Or.inl ⟨_,_,Or.inl hl7,rfl,_,kg O.D (.inl (bG _ _ B7.st.hv)) vb (O.cv 10 (by decide)),_,rfl,aI (fun _=>?_) (fun _=>same)⟩⟩
    exact ⟨_,aN.k (k:=.inr "lists") B7.dy.hS,Or.inl ⟨_,_,Or.inl hl7,rfl,put⟩⟩)
  refine ⟨rfl,_,rfl,aI (fun _=>?_) (fun _=>cS (main _ (aq.refl _)))⟩
  refine ⟨g,d,c,lo,rfl,O,B,m3,fun H1 s1=>⟨false,rfl,cS (main H1 s1)⟩,fun d' H' go B' mu'=>⟨true,rfl,gU (q d' H' go B' mu')⟩⟩
end
section
variable {P:Program}{w:World}{K:W.Frag}{mg:Str->Option Value}{base:Heap}{A:Adr}{g:Gc}{d:Gd}{H:Hp}
theorem ju {H:Hp}{x y:Addr}{u v:HO} (h:x ≠ y):upd (upd H x u) y v=upd (upd H y v) x u:=by
 funext z
 by_cases e1:z=x
 ·rw [e1,aw h,ak,ak]
 ·by_cases e2:z=y
  ·rw [e2,ak,aw h.symm,ak]
  ·rw [aw e2,aw e1,aw e1,aw e2]
structure Dd (g:Gc) (d d':Gd):Prop where
 M:d'.M g=d.M g
 rows:d'.rows=d.rows
 lrs:d'.lrs g=d.lrs g
 b:d'.b g=d.b g
 spent:d'.spent=d.spent
 lo:d'.lo=d.lo
 a0:d'.a0=d.a0
 as:d'.as=d.as
 lm:d'.lm=d.lm
 marks:d'.marks=d.marks
 len:d'.fz.length=d.fz.length
 aA:cf 1 d'.fz=cf 1 d.fz
 flat:bh d'.fz=bh d.fz
theorem BAt.bump (h:BAt g H d) {a:Addr}{at_:Nat}{rank aA cost:Int}{fc:Option Int} (T:dJ g d H a at_ rank aA cost fc) {c:Int} (c0:0 <= c):∃d',Dd g d d'/\BAt g (upd H a (.dK (frK at_ rank aA c fc))) d'/\dJ g d' (upd H a (.dK (frK at_ rank aA c fc))) a at_ rank aA c fc:=by
 obtain ⟨n1,n2,n3,n4⟩:=fQ h.ok.nd
 obtain ⟨nd1,nd2⟩:=rj h.ok.nd
 have go:Go (d.M g) H (d.M g) (upd H a (.dK (frK at_ rank aA c fc))):=Go.at T.mem _
 have hS:=af (u:=HO.dK (frK at_ rank aA c fc)) T.nS.symm h.dy.hS
 have hR:=af (u:=HO.dK (frK at_ rank aA c fc)) T.nR.symm h.dy.hR
 have hO:=af (u:=HO.dK (frK at_ rank aA c fc)) T.nO.symm h.dy.hO
 rcases T.cases h.dy with ⟨ez,eas,ea,et,er,eh,ec,ef⟩ | ⟨fs,f,us,ez,eas,pu,et,er,eh,ec,ef⟩
 ·have B:BAt g (upd H a (.dK (frK at_ rank aA c fc))) { d with bc:=c }:=by
   refine h.go (d':={ d with bc:=c }) go ⟨hS,hR,hO,?_,?_⟩ ⟨h.ok.nd,h.ok.mks,h.ok.ml,h.ok.bs,c0,h.ok.fz,h.ok.fl,h.ok.hf,h.ok.h36,h.ok.pay,h.ok.sp,h.ok.rl⟩ (go.same _ _ h.hm) (Paired.dC h.hr fun _ _=>bK.same go.same)
   ·dsimp only
    rw [<- ea,ak,et,er,eh,ef]
   ·dsimp only
    rw [ez,eas]
    exact .nil
  exact ⟨{ d with bc:=c },⟨rfl,rfl,rfl,rfl,rfl,rfl,rfl,rfl,rfl,rfl,rfl,rfl,rfl⟩,B,⟨T.last,ak,T.mem,T.nS,T.nR,T.nO,T.rk,T.hf,T.hb,c0,fun z=>absurd ef z⟩⟩
 ·have F:=h.ok.fz f (by rw [ez];simp)
  have f36:=h.ok.h36 f (by rw [ez];simp)
  have hh:=h.ok.hf
  rw [ez] at hh
  have a0a:d.a0 ≠ a:=fun z=>nd1 (by rw [z,eas];simp)
  have ua:∀x ∈ us,x ≠ a:=fun x hx z=>by
   rw [eas] at nd2
   exact (List.nodup_append.mp nd2).2.2 x hx a (by simp) z
  have fl:bh (fs ++ [{ f with cost:=c }])=bh d.fz:=by rw [ez,cL,cL];rfl
  have ln:(fs ++ [{ f with cost:=c }]).length=d.fz.length:=by rw [ez];simp
  have lr:Gd.lrs g { d with fz:=fs ++ [{ f with cost:=c }] }=d.lrs g:=by
   unfold Gd.lrs
   dsimp only
   rw [fl]
  have B:BAt g (upd H a (.dK (frK at_ rank aA c fc))) { d with fz:=fs ++ [{ f with cost:=c }] }:=by
   refine h.go (d':={ d with fz:=fs ++ [{ f with cost:=c }] }) go ⟨hS,hR,hO,af a0a h.dy.h0,?_⟩ ⟨h.ok.nd,h.ok.mks,h.ok.ml,h.ok.bs,h.ok.bc,fun x hx=>?_,?_,gT.app hh.inv.1 hh.inv.2,fun x hx=>?_,fun e=>?_,h.ok.sp,?_⟩ (go.same _ _ h.hm) (by rw [lr];exact Paired.dC h.hr fun _ _=>bK.same go.same)
   ·dsimp only [Gd.b]
    rw [eas,jG,jC (fh _ _)]
    refine Paired.snoc ?_ (Paired.rE pu fun x hx y e=>af (ua x hx) e)
    rw [ak,et,er,eh,ef]
    rfl
   ·rcases List.mem_append.mp hx with hx | hx
    ·exact h.ok.fz x (by rw [ez];simp [hx])
    ·rw [List.mem_singleton.mp hx]
     exact ⟨F.bk,F.l0,F.r0,F.rows,F.fst,F.lp,F.fc,F.f0,F.rank,c0⟩
   ·dsimp only
    rw [ln]
    exact h.ok.fl
   ·rcases List.mem_append.mp hx with hx | hx
    ·exact h.ok.h36 x (by rw [ez];simp [hx])
    ·rw [List.mem_singleton.mp hx]
     exact f36
   ·have p:=h.ok.pay e
    rw [ez,cJ] at p
    dsimp only
    rw [cJ]
    exact p
   ·rw [lr]
    dsimp only
    rw [ln]
    exact h.ok.rl
  have he:cf 1 (fs ++ [{ f with cost:=c }])=cf 1 d.fz:=by rw [ez,d9,d9]
  exact ⟨{ d with fz:=fs ++ [{ f with cost:=c }] },⟨rfl,rfl,lr,rfl,rfl,rfl,rfl,rfl,rfl,rfl,ln,he,fl⟩,B,⟨T.last,ak,T.mem,T.nS,T.nR,T.nO,T.rk,by rw [T.hf];exact he.symm,T.hb,c0,fun z=>⟨fs,_,rfl,by dsimp only;rw [ef]⟩⟩⟩
def gP (H:Hp) (g:Gc) (d:Gd) (v:V) (sp:Int) (F:Addr) (rank aA:Int):Hp:=upd (upd (upd (upd H g.S (.dK (stK g { d with spent:=sp }))) g.LR (.lst (d.rows ++ [v]))) F (.dK (frK d.rows.length rank aA 0 none))) d.lo (.lst (.ref d.a0 :: d.as.map V.ref ++ [.ref F]))
theorem BAt.A5 (h:BAt g H d) {v:V}{bk:Bk}{l r rank sp:Int}{F:Addr} (hF:H F=none) (hv:bK g.N (del (d.M g) H) v (bk.lr l r)) (ok:Az g.ns bk) (l0:0 <= l) (r0:0 <= r) (rk:0 <= rank/\rank <= 2) (fl:d.fz.length <= 2) (h12:cf 1 d.fz <= 12) (h1:1 <= cf 1 d.fz) (esp:sp=d.spent + cf 1 d.fz * (1 + bk.m * (l + r))) (lim:sp <= g.lim) (m3:mu g d + 3 <= 1000) :
  ∃d':Gd,Go (d.M g) H (d'.M g) (gP H g d v sp F rank (cf 1 d.fz * bk.m))/\BAt g (gP H g d v sp F rank (cf 1 d.fz * bk.m)) d'/\mu g d' <= mu g d + 3:=by
 obtain ⟨n1,n2,n3,n4⟩:=fQ h.ok.nd
 have FM:=h.free hF
 have FS:F ≠ g.S:=fun z=>FM (by rw [z];exact inS g d)
 have FR:F ≠ g.LR:=fun z=>FM (by rw [z];exact inR g d)
 have FO:F ≠ d.lo:=fun z=>FM (by rw [z];exact inO g d)
 have F0:F ≠ d.a0:=fun z=>FM (by rw [z];exact in0 g d)
 have FA:∀x ∈ d.as,x ≠ F:=fun x hx z=>FM (by rw [<- z];exact inA g d hx)
 have m1:1 <= bk.m/\bk.m <= 3:=by
  cases bk with
  | iff v=>exact ⟨(show (1:Int) <= 1 by decide),(show (1:Int) <= 3 by decide)⟩
  | loop t m=>exact ⟨ok.2.1,ok.2.2⟩
 generalize hh:cf 1 d.fz=ht at *
 have hm1:1 <= ht * bk.m/\ht * bk.m <= 36:=by
  have a1:ht * 1 <= ht * bk.m:=Int.mul_le_mul_of_nonneg_left m1.1 (by omega)
  have a2:ht * bk.m <= ht * 3:=Int.mul_le_mul_of_nonneg_left m1.2 (by omega)
  omega
 have p0:0 <= ht * (1 + bk.m * (l + r)):=Int.mul_nonneg (by omega) (by have:=Int.mul_nonneg (show 0 <= bk.m by omega) (show 0 <= l + r by omega);omega)
 obtain ⟨f,hf⟩:∃f:Fz,f=⟨bk,l,r,none,[],rank,ht * bk.m,0,none⟩:=⟨_,rfl⟩
 obtain ⟨d',hd'⟩:∃d':Gd,d'={ d with rows:=d.rows ++ [v],spent:=sp,as:=d.as ++ [F],fz:=d.fz ++ [f] }:=⟨_,rfl⟩
 have ff:bh [f]=[bk.lr l r]:=by rw [hf];rfl
 have lr:d'.lrs g=d.lrs g ++ [bk.lr l r]:=by
  rw [hd']
  unfold Gd.lrs
  dsimp only
  rw [cL,ff,List.append_assoc,List.append_assoc,List.append_assoc]
 have rl:=Paired.length h.hr
 have lb:d.b g + (bh d.fz).length=d.rows.length:=by
  rw [rl]
  unfold Gd.b Gd.lrs
  rw [List.length_append (as:=g.pre ++ aP d.bs)]
 have Mm:∀a ∈ d'.M g,a ∈ d.M g \/ a=F:=fun a m=>by
  rw [hd'] at m
  unfold Gd.M at m ⊢
  simp only [List.mem_cons,List.mem_append,List.mem_singleton,List.not_mem_nil,or_false] at m ⊢
  rcases m with m | m | m | m | m | m
  ·exact .inl (.inl m)
  ·exact .inl (.inr (.inl m))
  ·exact .inl (.inr (.inr (.inl m)))
  ·exact .inl (.inr (.inr (.inr (.inl m))))
  ·exact .inl (.inr (.inr (.inr (.inr m))))
  ·exact .inr m
 have go:Go (d.M g) H (d'.M g) (gP H g d v sp F rank (ht * bk.m)):=⟨fun a o m e=>by
  unfold gP
  have aF:a ≠ F:=fun z=>by rw [z,hF] at e;cases e
  rw [aw (fun z=>m (by rw [z];exact inO g d)),aw aF,aw (fun z=>m (by rw [z];exact inR g d)),aw (fun z=>m (by rw [z];exact inS g d))]
  exact e,fun a m=>by
  rcases Mm a m with z | z
  ·exact .inl z
  ·exact .inr (by rw [z];exact hF)⟩
 have oth:∀x,x ≠ g.S->x ≠ g.LR->x ≠ F->x ≠ d.lo->gP H g d v sp F rank (ht * bk.m) x=H x:=fun x h1 h2 h3 h4=>by
  unfold gP
  rw [aw h4,aw h3,aw h2,aw h1]
 have B:BAt g (gP H g d v sp F rank (ht * bk.m)) d':=by
  refine h.go go ?_ ?_ ?_ ?_
  ·rw [hd']
   refine ⟨?_,?_,?_,?_,?_⟩
   ·unfold gP
    rw [aw n2,aw FS.symm,aw n1,ak]
    rfl
   ·unfold gP
    rw [aw n3,aw FR.symm,ak]
   ·unfold gP
    rw [ak,List.map_append]
    rfl
   ·have m:=n4 d.a0 List.mem_cons_self
    rw [oth d.a0 m.1 m.2.1 F0.symm m.2.2]
    exact h.dy.h0
   ·dsimp only [Gd.b]
    rw [jG,jC (fh _ _)]
    refine Paired.snoc ?_ (Paired.rE h.dy.hf fun x hx y e=>?_)
    ·unfold gP
     rw [aw FO,ak]
     have:(g.pre ++ aP d.bs).length + (bh d.fz).length=d.rows.length:=lb
     rw [this,hf]
     rfl
    ·have m:=n4 x (List.mem_cons_of_mem _ hx)
     rw [oth x m.1 m.2.1 (FA x hx) m.2.2]
     exact e
  ·rw [hd'] at lr ⊢
   have fl3:(d.fz ++ [f]).length=d.fz.length + 1:=by simp
   have sp0:=h.ok.sp.1
   refine ⟨?_,h.ok.mks,h.ok.ml,h.ok.bs,h.ok.bc,fun x hx=>?_,?_,gT.app h.ok.hf (by rw [hf,hh]),fun x hx=>?_,fun e=>?_,⟨by show 0 <= sp;omega,.inl lim⟩,?_⟩
   ·have nd:=h.ok.nd
    unfold Gd.M at nd FM ⊢
    dsimp only
    rw [show g.S :: g.LR :: d.lo :: d.a0 :: (d.as ++ [F])=(g.S :: g.LR :: d.lo :: d.a0 :: d.as) ++ [F] from rfl]
    exact List.nodup_append.mpr ⟨nd,by simp,fun a ha b hb z=>by rw [List.mem_singleton.mp hb] at z;exact FM (z ▸ ha)⟩
   ·rcases List.mem_append.mp hx with hx | hx
    ·exact h.ok.fz x hx
    ·rw [List.mem_singleton.mp hx,hf]
     exact ⟨ok,l0,r0,True.intro,fun _ z=>(by cases z),fun _ _ _=>rfl,⟨fun _=>rfl,fun _=>rfl⟩,fun _ z=>(by cases z),rk,Int.le_refl _⟩
   ·dsimp only
    omega
   ·rcases List.mem_append.mp hx with hx | hx
    ·exact h.ok.h36 x hx
    ·rw [List.mem_singleton.mp hx,hf]
     exact hm1
   ·have p:=h.ok.pay e
    dsimp only
    rw [cJ,hh,hf]
    simp only [kB,cm]
    omega
   ·unfold mu at m3
    rw [lr,List.length_append]
    dsimp only
    simp only [List.length_singleton]
    omega
  ·have e:d'.lm=d.lm:=by rw [hd']
   have e2:d'.marks=d.marks:=by rw [hd']
   rw [e,e2]
   exact go.same _ _ h.hm
  ·rw [lr]
   have e:d'.rows=d.rows ++ [v]:=by rw [hd']
   rw [e]
   exact Paired.snoc (hv.same go.same) (Paired.dC h.hr fun _ _=>bK.same go.same)
 refine ⟨d',go,B,?_⟩
 unfold mu
 rw [lr,List.length_append,hd']
 dsimp only
 simp only [List.length_singleton,List.length_append]
 omega
end
section
variable {P:Program}{w:World}{K:W.Frag}{mg:Str->Option Value}{base:Heap}{A:Adr}{g:Gc}{d:Gd}{H:Hp}
seal PE PA PS PSs PT PW
theorem zL:W.kitOne K (.type "str") (.type "str")=some true:=by kernel_rfl!
theorem A1:W.kitOne K (.type "int") (.type "str")=some false:=by kernel_rfl!
theorem fresh_ne {H:Hp}{x y:Addr}{o:HO} (h:H x=none) (e:H y=some o):x ≠ y:=fun z=>by rw [z,e] at h;cases h
theorem kJ {H:Hp}{x:Addr}{u v:HO}:upd (upd H x u) x v=upd H x v:=by
 funext z
 by_cases e:z=x
 ·rw [e,ak,ak]
 ·rw [aw e,aw e,aw e]
theorem u4 {v:V}{n:Int}{a:Addr}{at_:Nat}{rank aA cost:Int}{fc:Option Int} (h1:a ≠ g.S) (h2:a ≠ g.LR):dQ H g d v n a at_ rank aA cost fc=upd (upd (upd H a (.dK (frK at_ rank aA (cost + 1) fc))) g.S (.dK (stK g { d with spent:=d.spent + aA * n }))) g.LR (.lst (d.rows ++ [v])):=by
 unfold dQ
 rw [ju h2.symm,ju (x:=g.S) (y:=a) h1.symm]
def VOk (g:Gc) (v:V):Prop:=(∃n,v=.int n) \/ ∃i ∈ g.vk,v=.str (g.N i)
theorem VOk.th (O:fV g) {t:Th} (h:t.ok g.ns):VOk g (t.v g.N):=by
 cases t with
 | i n=>exact .inl ⟨n,rfl⟩
 | x a=>exact .inr ⟨a,O.nv a h,rfl⟩
theorem wW (O:fV g) {v:Val} (h:v.ok g.ns):∃x y,atI (vV g.N v) 0=some x/\atI (vV g.N v) (-1)=some y/\VOk g x/\VOk g y:=by
 cases v with
 | one a=>exact ⟨_,_,rfl,rfl,.th O h,.th O h⟩
 | op a w b=>exact ⟨_,_,rfl,rfl,.th O h.1,.th O h.2.1⟩
 | atl x b=>exact ⟨_,_,rfl,rfl,.inr ⟨x,O.cv x (by have:=h.1;simp at this ⊢;omega),rfl⟩,.th O h.2⟩
theorem o3:∀{ys:List V},(∀y ∈ ys,∃n:Int,y=.int n/\0 <= n/\n <= 2)->∃ns:List Int,ys=ns.map V.int/\∀n ∈ ns,0 <= n/\n <= 2
 | [],_=>⟨[],rfl,fun _ h=>by cases h⟩
 | y :: r,h=>by
  obtain ⟨n,rfl,h0⟩:=h y List.mem_cons_self
  obtain ⟨ns,rfl,hn⟩:=o3 fun z hz=>h z (List.mem_cons_of_mem _ hz)
  exact ⟨n :: ns,rfl,fun m hm=>by
   rcases List.mem_cons.mp hm with rfl | hm
   ·exact h0
   ·exact hn m hm⟩
def isS:V->Bool
 | .str _=>true
 | _=>false
def uR (K:W.Frag):Sp:=fun vs H Q _=>∃(g:Gc) (d:Gd) (c k:Int) (lo:Bool),vs=[.ref g.S,.int c,.int k,.bl lo]/\fV g/\BAt g H d/\mu g d + 3 <= 1000/\xD g d H Q .non
theorem wC (T:Txt K mg A):Has P w K mg base 6 "_law_opened" ["_law_state","_law_cell","_law_kind","_law_loose"] (uR K):=by
 have D_law_mix:=kA (P:=P) (w:=w) (base:=base) T
 have D_law_thing:=mz (P:=P) (w:=w) (base:=base) T
 have D_law_value:=pD (P:=P) (w:=w) (base:=base) T
 have D_law_add:=qL (P:=P) (w:=w) (base:=base) T
 have D_law_plain:=mC (P:=P) (w:=w) (base:=base) T
 refine T.nU.has (k:=5) bt (fun vs H Q E h=>?_) (fun f cdv A' outer s H vs Q E hr hu h=>?_)
 ·obtain ⟨g,d,c,k,lo,rfl,_⟩:=h
  rfl
 ·obtain ⟨g,d,c,k,lo,rfl,O,B,m3,q⟩:=h
  obtain ⟨a,at_,rank,aA,cost,fc,T1⟩:=B.top O
  have vb:∀j ∈ g.vk,j < 25:=fun j hj=>(O.vb j hj).1
  have rl:d.rows.length <= 1000:=by
   have:=Paired.length B.hr
   unfold mu at m3
   omega
  refine ⟨_,(ae (ay (i:=4) bt.nd rfl (Or.inl rfl) (px hu (px hu (fv 0) aj) (fB dw ab)))
  (ae (ba (PW.pt (pw_or (aC (ou) (aH b9 rfl T.cD (by boot_by_name) (aa (px hu (fv 0) aj) ag)) ab (aG _)) (pw_or1 (aC (ou) (px hu (fv 4) aj) ab (aG _)))))
   (ae (aL (au D_law_plain hr (aa (fv 0) (aa (fv 1) (aa ab (aa (fv 3) ag))))))
   (ao (pH)))
   aT)
  (ae (ay (i:=5) bt.nd rfl (Or.inl rfl) (aH wq rfl T.mT (by boot_by_name) (aa (px hu (fv 4) aj) (aa (au D_law_mix hr (aa (fv 1) (aa ab (aa ab ag)))) ag))))
  (ae (ay (i:=6) bt.nd rfl (Or.inl rfl) (px hu (bD (aa (fv 5) (aa ab ag))) (bE kZ rfl T.j3 (by boot_by_name) (aa (fv 3) ag))))
  (ae (ay (i:=7) bt.nd rfl (Or.inl rfl) (bf (aa (ax dh (au D_law_mix hr (aa (fv 1) (aa ab (aa ab ag)))) (au D_law_mix hr (aa (fv 1) (aa ab (aa ab ag))))) (aa (ax dh (au D_law_mix hr (aa (fv 1) (aa ab (aa ab ag)))) (au D_law_mix hr (aa (fv 1) (aa ab (aa ab ag))))) ag))))
  (ae (ay (i:=8) bt.nd rfl (Or.inl rfl) ab)
  (ae (ay (i:=9) bt.nd rfl (Or.inl rfl) (ax pW (bf (aa aj (aa (au D_law_value hr (aa (fv 0) (aa (fv 1) (aa (fv 6) ag)))) ag))) (fv 7)))
  (ae (ay (i:=10) bt.nd rfl (Or.inl rfl) (bD (aa (px hu (px hu (fv 9) ab) ab) (aa (px hu (px hu (fv 9) ab) (fB dw ab)) ag))))
  (ae (ba (aC (bV hu) (fv 2) ab (aG _))
   (ae (ay (i:=8) bt.nd rfl (Or.inl rfl) (ax bp ab (au D_law_mix hr (aa (fv 1) (aa ab (aa ab ag))))))
   (ae (ay (i:=10) bt.nd rfl (Or.inl rfl) (bD (aa (au D_law_thing hr (aa (fv 0) (aa (fv 1) (aa ab (aa (fv 6) ag))))) ag)))
   (ao (ay (i:=9) bt.nd rfl (Or.inl rfl) (ax pW (bf (aa aj (aa (px hu (fv 10) ab) (aa (fv 8) ag)))) (fv 7))))))
   aT)
  (ae (ay (i:=11) bt.nd rfl (Or.inl rfl) (aH Af rfl T.mT (by boot_by_name) (aa (ax bp (bD (aa (fv 5) ag)) (mF (N:=["_law_thing_here","_law_state"]) (own:=1) (fr:=[0]) (cV.of (by kernel_rfl!)) rfl (dG (fv 10)) (fun b=>pgn (i:=0) (show List.Nodup (["_law_thing_here","_law_state"]:List PySem.Str) by decide +kernel) rfl) (fun b=>pP (cK (aH cW rfl T.bu (by boot_by_name) (aa (fv 0) (aa (kI (v:=.ty "str") rfl T.tF (by boot_by_name) rfl) ag))) (fun _=>rfl))) (fun b=>px hu (px hu (fv 1) aj) (fv 0)))) ag)))
  (ao (ba (cK (au D_law_add hr (aa (fv 0) (aa (fv 9) (aa (ax bp ab (ax dh (fv 8) (aH AD rfl T.uA (by boot_by_name) (aa (fv 7) ag)))) ag)))) (fun _=>rfl))
   (ae (ay (i:=4) bt.nd rfl (Or.inl rfl) (mE (bS aj (ax mL (aH b9 rfl T.cD (by boot_by_name) (aa (px hu (fv 0) aj) ag)) ab) (bS aj (fv 11) (bS aj (ax dh (px hu (fv 4) aj) (fv 8)) (bS aj ab (bS aj jf (mG)))))) rfl rfl (by intro z;cases z) (by decide)))
   (ao (aL (bW (px hu (fv 0) aj) (aa (fv 4) ag)))))
   aT)))))))))))),?_⟩
  refine ⟨_,aN.k (k:=.inr "open") B.dy.hS,_,rfl,Or.inl ⟨_,_,Or.inl (SqL.of B.dy.hO),T1.last,?_⟩⟩
  try dsimp only
  refine ah fun M1 K1=>?_
  have body:nh K [.ref g.S,.int c,.int 0,.bl lo] H (fun _ H'=>Q .non H') E0:=⟨g,d,c,0,lo,rfl,O,B,m3,fun d' H' go B' mu'=>q d' H' go B' mu'⟩
  have la:=Paired.length B.dy.hf
  rw [List.length_zip,fh,Nat.min_self] at la
  refine ⟨_,aN.k (k:=.inr "open") B.dy.hS,Or.inl ⟨_,_,rfl,Or.inl ⟨_,SqL.of B.dy.hO,rfl⟩,_,rfl,aI (fun _=>gU body) (fun c1=>?_)⟩⟩
  refine ⟨_,aN.k (k:=.inr "heft") T1.fr,_,rfl,aI (fun _=>body) (fun c2=>K1 _ _ ?_)⟩
  have f2:d.fz.length <= 2:=by
   have c1:¬ (3:Int) < (((V.ref d.a0 :: d.as.map V.ref).length:Nat):Int):=fun z=>c1 (decide_eq_true z)
   simp only [List.length_cons,List.length_map] at c1
   omega
  have h12:aA <= 12:=by
   have c2:¬ (12:Int) < aA:=fun z=>c2 (decide_eq_true z)
   omega
  clear c1 c2 body
  try dsimp only
  refine ah fun M2 K2=>?_
  refine ⟨_,aN.k (k:=.inr "rank") T1.fr,c,3,3,rfl,by decide,by decide,fun mr H1 r0 r1 s1=>⟨_,_,rfl,K2 _ _ ?_⟩⟩
  obtain ⟨low,hlow⟩:∃low,low=(if mr > rank then mr else rank):=⟨_,rfl⟩
  have lw:0 <= low/\low <= 2:=by
   have:=T1.rk
   rw [hlow]
   split <;> omega
  rw [<- hlow]
  have B1:=B.same s1
  try dsimp only
  refine ah fun M3 K3=>?_
  refine ⟨by show 2 <= sizeLine;decide,fun l hl=>?_⟩
  obtain ⟨s2,e2⟩:=alc hl (HO.lst [V.int low,.int 2])
  generalize upd H1 l _=H2 at s2 e2 ⊢
  obtain ⟨hi,ehi⟩:∃hi:Int,atI [V.int low,.int 2] (b01 lo)=some (.int hi):=by cases lo <;> exact ⟨_,rfl⟩
  refine ⟨_,rfl,Or.inl ⟨_,_,Or.inl (SqL.of e2),ehi,K3 _ _ ?_⟩⟩
  have B2:=B1.same s2
  try dsimp only
  refine ah fun M4 K4=>?_
  refine ⟨c,4,3,rfl,by decide,by decide,fun i1 Ha a0 a1 sa=>⟨c,5,2,rfl,by decide,by decide,fun i2 Hb b0 b1 sb=>⟨.inl ⟨by omega,by omega⟩,c,2,2,rfl,by decide,by decide,fun i3 Hc c0 c1 sc=>⟨c,5,2,rfl,by decide,by decide,fun i4 Hd d0 d1 sd=>⟨.inl ⟨by omega,by omega⟩,by show 2 <= sizeLine;decide,fun ti hti=>K4 _ _ ?_⟩⟩⟩⟩⟩
  obtain ⟨l',hl'⟩:∃l',l'=i1 * i2:=⟨_,rfl⟩
  obtain ⟨r',hr'⟩:∃r',r'=i3 * i4:=⟨_,rfl⟩
  have l0:0 <= l':=by rw [hl'];exact Int.mul_nonneg a0 b0
  have r0':0 <= r':=by rw [hr'];exact Int.mul_nonneg c0 d0
  rw [<- hl',<- hr']
  obtain ⟨s3,e3⟩:=alc hti (HO.tup [V.int l',.int r'])
  generalize upd Hd ti _=H3 at s3 e3 ⊢
  have z3:aq H H3:=(s1.trans s2).trans ((((sa.trans sb).trans sc).trans sd).trans s3)
  have B3:=B.same z3
  clear s1 s2 sa sb sc sd s3 e2 hl hti B1 B2 hlow a0 a1 b0 b1 c0 c1 d0 d1 hl' hr' r0 r1
  try dsimp only
  refine ah fun M5 K5=>?_
  refine K5 _ _ ?_
  try dsimp only
  refine ah fun M6 K6=>?_
  refine ⟨g,d,c,hi,rfl,O,B3,fun p val H4 s4 hp ep hv=>?_⟩
  refine ⟨by show 2 <= sizeLine;decide,fun t1 ht1=>?_⟩
  obtain ⟨s5,e5⟩:=alc ht1 (HO.tup [V.str "if",.ref p])
  generalize upd H4 t1 _=H5 at s5 e5 ⊢
  have e35:=(s4.trans s5) _ _ e3
  refine ⟨t1,ti,_,_,rfl,rfl,SqT.of e5,SqT.of e35,(by intro z;cases z),(by show 4 <= sizeLine;decide),(fun z=>by cases z),fun _ rw' hrw=>K6 _ _ ?_⟩
  obtain ⟨s6,e6⟩:=alc hrw (HO.tup [V.str "if",.ref p,.int l',.int r'])
  change aq H5 (upd H5 rw' (HO.tup ([V.str "if",.ref p] ++ [V.int l',.int r']))) at s6
  change upd H5 rw' (HO.tup ([V.str "if",.ref p] ++ [V.int l',.int r'])) rw'=_ at e6
  generalize upd H5 rw' _=H6 at s6 e6 ⊢
  obtain ⟨x0,y0,ex,ey,vx,vy⟩:=wW O hv
  have ep6:=(s5.trans s6) _ _ ep
  try dsimp only
  refine ah fun M7 K7=>?_
  refine Or.inl ⟨_,_,Or.inr (SqT.of e6),rfl,Or.inl ⟨_,_,Or.inr (SqT.of ep6),ex,Or.inl ⟨_,_,Or.inr (SqT.of e6),rfl,_,rfl,Or.inl ⟨_,_,Or.inr (SqT.of ep6),ey,?_⟩⟩⟩⟩
  refine ⟨by show 2 <= sizeLine;decide,fun ls hls=>K7 _ _ ?_⟩
  obtain ⟨s7,e7⟩:=alc hls (HO.lst [x0,y0])
  generalize upd H6 ls _=H7 at s7 e7 ⊢
  have z4:aq H H4:=z3.trans s4
  have z7:aq H H7:=((z4.trans s5).trans s6).trans s7
  have B7:=B.same z7
  try dsimp only
  refine ah fun M8 K8=>?_
  have fin:∀(H8:Hp) (tm:Int) (bk:Bk) (rw2 ls2:Addr) (vs:List V),aq H7 H8->tm=bk.m->Az g.ns bk->1 <= tm->tm <= 3->bK g.N (del (d.M g) H8) (.ref rw2) (bk.lr l' r')->H8 ls2=some (.lst vs)->(∀v ∈ vs,VOk g v)->vs.length <= 2->M8 [some (.ref g.S),some (.int c),some (.int k),some (.bl lo),some (.ref a),some (.int low),some (.int hi),some (.ref ti),some (.int tm),some (.ref rw2),some (.ref ls2),none] H8:=fun H8 tm bk rw2 ls2 vs s8 etm bok t1' t3' hrow els vok vl=>K8 _ _ (by
   have z8:=z7.trans s8
   have B8:=B.same z8
   have T8:=T1.same z8
   refine ah fun N1 J1=>?_
   refine ⟨by show 1 <= sizeLine;decide,fun l1 hl1=>?_⟩
   obtain ⟨s9,e9⟩:=alc hl1 (HO.lst [V.int low])
   generalize upd H8 l1 _=H9 at s9 e9 ⊢
   have els9:=s9 _ _ els
   have B9:=B8.same s9
   refine Or.inl ⟨⟨_,SqL.of els9⟩,uW (K:=K) isS (fun y _=>∃n:Int,y=.int n/\0 <= n/\n <= 2) (SqL.of els9) (aD (by omega)) (fun b x H2 G hx s2 k=>?_) (fun b x H2 G hx hp s2 k=>?_) (fun _ _ _ _ h=>h) (fun _ _ _ _ _ _ h=>h) (fun D H10 ys hD s10 eD _ hy=>?_)⟩
   ·rcases vok x hx with ⟨n,rfl⟩ | ⟨i,hi',rfl⟩
    ·exact ⟨_,_,_,false,rfl,(fun z=>by cases z),.int n,A1,false,rfl,k _ (aq.refl _)⟩
    ·exact ⟨_,_,_,true,rfl,(fun z=>by cases z),.str _,zL,true,rfl,k _ (aq.refl _)⟩
   ·rcases vok x hx with ⟨n,rfl⟩ | ⟨i,hi',rfl⟩
    ·cases hp
    ·have B10:=B9.same s2
     exact ⟨_,aN.k (k:=.inr "view") B10.dy.hS,_,kg O.D (.inl (bG _ _ B10.st.hv)) vb hi',k _ _ (aq.refl _) ⟨_,rfl,(O.vb i hi').2⟩⟩
   obtain ⟨ns,rfl,hns⟩:=o3 hy
   refine ⟨l1,D,_,_,rfl,rfl,s10 _ _ e9,eD,?_,fun l2 hl2=>?_⟩
   ·rename_i nl
    rw [List.length_map] at nl ⊢
    exact sz (by simp;omega)
   obtain ⟨s11,e11⟩:=alc hl2 (HO.lst ((low :: ns).map V.int))
   change aq H10 (upd H10 l2 (HO.lst ([V.int low] ++ ns.map V.int))) at s11
   change upd H10 l2 (HO.lst ([V.int low] ++ ns.map V.int)) l2=_ at e11
   generalize upd H10 l2 _=H11 at s11 e11 ⊢
   refine ⟨l2,low :: ns,rfl,SqL.of e11,(by intro z;cases z),fun rk hrk _=>J1 _ _ ?_⟩
   have rk2:0 <= rk/\rk <= 2:=by
    rcases List.mem_cons.mp hrk with rfl | hrk
    ·exact lw
    ·exact hns rk hrk
   have s811:=(s9.trans s10).trans s11
   have z11:=z8.trans s811
   have B11:=B8.same s811
   have T11:=T8.same s811
   have go11:Go (d.M g) H (d.M g) H11:=Go.new z11
   have hrow11:bK g.N (del (d.M g) H11) (.ref rw2) (bk.lr l' r'):=hrow.same (Go.new (M:=d.M g) s811).same
   try dsimp only
   refine ⟨ti,[l',r'],rfl,SqT.of ((((s4.trans s5).trans s6).trans s7).trans (s8.trans s811) _ _ e3),.inl ⟨by omega,by omega⟩,?_⟩
   rw [show [l',r'].sum=l' + r' by simp]
   refine ⟨g,d,.ref rw2,1 + tm * (l' + r'),a,at_,rank,aA,cost,fc,rfl,B11.dy,B11.ok.nd,rl,T11,⟨false,rfl,cS (q d H11 go11 B11 (by omega))⟩,fun fit=>⟨true,rfl,gU ?_⟩⟩
   rw [u4 T1.nS T1.nR]
   obtain ⟨d1,L1,Bb,Tb⟩:=B11.bump T11 (c:=cost + 1) (by have:=T1.c0;omega)
   have goB:Go (d.M g) H11 (d.M g) (upd H11 a (.dK (frK at_ rank aA (cost + 1) fc))):=Go.at T11.mem _
   generalize hHb:upd H11 a (.dK (frK at_ rank aA (cost + 1) fc))=Hb at Bb Tb goB ⊢
   obtain ⟨n1,n2,n3,n4⟩:=fQ B.ok.nd
   obtain ⟨st,hst⟩:∃st,st=stK g { d with spent:=d.spent + aA * (1 + tm * (l' + r')) }:=⟨_,rfl⟩
   rw [<- hst]
   have hS12:upd (upd Hb g.S (.dK st)) g.LR (.lst (d.rows ++ [.ref rw2])) g.S=some (.dK st):=by rw [aw n1,ak]
   have hR12:upd (upd Hb g.S (.dK st)) g.LR (.lst (d.rows ++ [.ref rw2])) g.LR=some (.lst (d.rows ++ [.ref rw2])):=ak
   have hO12:upd (upd Hb g.S (.dK st)) g.LR (.lst (d.rows ++ [.ref rw2])) d.lo=some (.lst (.ref d.a0 :: d.as.map V.ref)):=by
    have:=Bb.dy.hO
    rw [L1.lo,L1.a0,L1.as] at this
    rw [aw n3.symm,aw n2.symm]
    exact this
   have hF12:upd (upd Hb g.S (.dK st)) g.LR (.lst (d.rows ++ [.ref rw2])) a=some (.dK (frK at_ rank aA (cost + 1) fc)):=by
    rw [aw T1.nR,aw T1.nS]
    exact Tb.fr
   have gS:∀{H':Hp} (x:Str),H' g.S=some (.dK st)->∀v,L2.cF (stK g { d with spent:=d.spent + aA * (1 + tm * (l' + r')) }) (.inr x)=some v->aN H' g.S (.str x) (some v):=fun x h v e=>by
    rw [hst] at h
    rw [<- e]
    exact aN.k (k:=.inr x) h
   generalize hH12:upd (upd Hb g.S (.dK st)) g.LR (.lst (d.rows ++ [.ref rw2]))=H12 at hS12 hR12 hO12 hF12 ⊢
   try dsimp only
   refine ah fun N2 J2=>?_
   refine fun F hF=>?_
   have FS:F ≠ g.S:=fresh_ne hF hS12
   have FR:F ≠ g.LR:=fresh_ne hF hR12
   have FO:F ≠ d.lo:=fresh_ne hF hO12
   have Fa:F ≠ a:=fresh_ne hF hF12
   refine ⟨_,gS "rows" (af FS.symm hS12) _ rfl,Or.inl ⟨_,_,rfl,Or.inl ⟨_,SqL.of (af FR.symm hR12),rfl⟩,_,aN.k (k:=.inr "heft") (af Fa.symm hF12),.inl ⟨by have:=T1.hb;omega,by have:=T1.hb;omega⟩,?_⟩⟩
   refine ⟨ak,[((.inr "at":Key),.int ((((d.rows ++ [V.ref rw2]).length:Nat):Int) - 1)),(.inr "rank",.int rk),(.inr "heft",.int (aA * tm)),(.inr "cost",.int 0),(.inr "first",.non)],rfl,(show 5 <= 15 by decide),J2 _ _ ?_⟩
   rw [kJ,show (hZ [] [((.inr "at":Key),V.int ((((d.rows ++ [V.ref rw2]).length:Nat):Int) - 1)),(.inr "rank",.int rk),(.inr "heft",.int (aA * tm)),(.inr "cost",.int 0),(.inr "first",.non)])=frK d.rows.length rk (aA * tm) 0 none by
    rw [show ((((d.rows ++ [V.ref rw2]).length:Nat):Int) - 1)=(d.rows.length:Int) by rw [List.length_append];simp]
    rfl]
   try dsimp only
   have hO13:upd H12 F (.dK (frK d.rows.length rk (aA * tm) 0 none)) d.lo=some (.lst (.ref d.a0 :: d.as.map V.ref)):=af FO.symm hO12
   refine ⟨_,gS "open" (af FS.symm hS12) _ rfl,Or.inl ⟨rfl,_,SqL.of hO13⟩,_,_,_,rfl,rfl,hO13,aD (by rw [List.length_cons,List.length_map];omega),?_⟩
   have hFb:Hb F=none:=by
    rw [<- hH12] at hF
    rw [aw FR,aw FS] at hF
    exact hF
   have eh:cf 1 d1.fz=aA:=by rw [L1.aA];exact T1.hf.symm
   have rowb:bK g.N (del (d1.M g) Hb) (.ref rw2) (bk.lr l' r'):=by rw [L1.M];exact hrow11.same goB.same
   have mu1:mu g d1=mu g d:=by unfold mu;rw [L1.lrs,L1.len]
   obtain ⟨d',go',B',mu'⟩:=Bb.A5 (v:=.ref rw2) (bk:=bk) (l:=l') (r:=r') (rank:=rk) (sp:=d.spent + aA * (1 + tm * (l' + r'))) hFb rowb bok l0 r0' rk2 (by rw [L1.len];exact f2) (by rw [eh];exact h12) (by rw [eh];exact T1.hb.1) (by rw [eh,L1.spent,etm]) fit (by rw [mu1];exact m3)
   have eq:gP Hb g d1 (.ref rw2) (d.spent + aA * (1 + tm * (l' + r'))) F rk (cf 1 d1.fz * bk.m)=upd (upd H12 F (.dK (frK d.rows.length rk (aA * tm) 0 none))) d.lo (.lst (.ref d.a0 :: d.as.map V.ref ++ [.ref F])):=by
    unfold gP
    rw [eh,<- etm,L1.rows,L1.lo,L1.a0,L1.as,<- hH12,hst]
    unfold stK
    rw [L1.lm]
   rw [eq] at go' B'
   refine q d' _ (go11.trans (goB.trans ?_)) B' (by omega)
   rw [L1.M] at go'
   exact go')
  have row6:bK g.N (del (d.M g) H7) (.ref rw') (Bk.lr l' r' (.iff val)):=⟨rw',p,rfl,((B.same z4).same s5).new (s6.trans s7) hrw (s7 _ _ e6),fun o ho=>by
   cases ho
   exact B3.new (((s4.trans s5).trans s6).trans s7) hp (s7 _ _ ep6)⟩
  have first:=fin H7 1 (.iff val) rw' ls [x0,y0] (aq.refl _) rfl hv (by decide) (by decide) row6 e7 (fun v hv'=>by
   simp only [List.mem_cons,List.not_mem_nil,or_false] at hv'
   rcases hv' with rfl | rfl
   ·exact vx
   ·exact vy) (Nat.le_refl 2)
  refine ⟨rfl,_,rfl,aI (fun _=>?_) (fun _=>first)⟩
  refine ah fun N1 J1=>?_
  refine ⟨c,6,3,rfl,by decide,by decide,fun i6 Ha a0 a1 sa=>J1 _ _ ?_⟩
  try dsimp only
  refine ah fun N2 J2=>?_
  have Ba:=B7.same sa
  refine ⟨g,d,c,1,hi,rfl,O,Ba,by decide,fun th Hb sb hth=>?_⟩
  refine ⟨by show 1 <= sizeLine;decide,fun l3 hl3=>J2 _ _ ?_⟩
  obtain ⟨sc,ec⟩:=alc hl3 (HO.lst [th.v g.N])
  generalize upd Hb l3 _=Hc at sc ec ⊢
  have Bc:=(Ba.same sb).same sc
  try dsimp only
  refine Or.inl ⟨_,_,Or.inl (SqL.of ec),rfl,?_⟩
  refine ⟨by show 3 <= sizeLine;decide,fun t2 ht2=>?_⟩
  obtain ⟨sd,ed⟩:=alc ht2 (HO.tup [V.str "loop",th.v g.N,.int (1 + i6)])
  generalize upd Hc t2 _=Hd at sd ed ⊢
  have e3d:=(((s4.trans s5).trans s6).trans s7).trans (((sa.trans sb).trans sc).trans sd) _ _ e3
  refine ⟨t2,ti,_,_,rfl,rfl,SqT.of ed,SqT.of e3d,(by intro z;cases z),(by show 5 <= sizeLine;decide),(fun z=>by cases z),fun _ rl2 hrl2=>?_⟩
  have se:=aq.upd hrl2 (HO.tup ([V.str "loop",th.v g.N,.int (1 + i6)] ++ [V.int l',.int r']))
  have ee:upd Hd rl2 (HO.tup ([V.str "loop",th.v g.N,.int (1 + i6)] ++ [V.int l',.int r'])) rl2=some (.tup [V.str "loop",th.v g.N,.int (1 + i6),.int l',.int r']):=ak
  generalize upd Hd rl2 _=He at se ee ⊢
  refine fin He (1 + i6) (.loop th (1 + i6)) rl2 l3 [th.v g.N] ((((sa.trans sb).trans sc).trans sd).trans se) rfl ⟨hth,by omega,by omega⟩ (by omega) (by omega) ⟨rl2,0,rfl,(Bc.same sd).new se hrl2 ee,fun o ho=>by cases ho⟩ ((sd.trans se) _ _ ec) (fun v hv'=>by rw [List.mem_singleton.mp hv'];exact .th O hth) (by show 1 <= 2;decide)
end
section
variable {P:Program}{w:World}{K:W.Frag}{mg:Str->Option Value}{base:Heap}{A:Adr}{g:Gc}{d:Gd}{H:Hp}
theorem AO (dy:kS H g d) (ok:sT g d) (O:fV g):∃a at_ rank aA cost fc,dJ g d H a at_ rank aA cost fc:=by
 obtain ⟨n1,n2,n3,n4⟩:=fQ ok.nd
 rcases jw d.fz with e | ⟨fs,f,e⟩
 ·have hf:=dy.hf
  rw [e] at hf
  have ha:d.as=[]:=by
   cases ha:d.as with
   | nil=>rfl
   | cons a r=>rw [ha] at hf;cases hf
  obtain ⟨m1,m2,m3⟩:=n4 d.a0 List.mem_cons_self
  exact ⟨d.a0,0,g.br,1,d.bc,none,⟨by rw [ha];exact hE [] _,dy.h0,in0 g d,m1,m2,m3,O.br,by rw [e];rfl,⟨by decide,by decide⟩,ok.bc,fun z=>absurd rfl z⟩⟩
 ·obtain ⟨us,a,ea,p,fa⟩:=dy.pY e
  have ma:a ∈ d.as:=by rw [ea];simp
  obtain ⟨m1,m2,m3⟩:=n4 a (List.mem_cons_of_mem _ ma)
  have mf:f ∈ d.fz:=by rw [e];simp
  have F:=ok.fz f mf
  have hh:=ok.hf
  rw [e] at hh
  refine ⟨a,_,f.rank,f.aA,f.cost,f.fc,⟨?_,fa,inA g d ma,m1,m2,m3,F.rank,?_,ok.h36 f mf,F.cost,fun _=>⟨fs,f,e,rfl⟩⟩⟩
  ·rw [ea,List.map_append]
   exact hE (V.ref d.a0 :: us.map V.ref) _
  ·rw [e,d9]
   exact hh.inv.2
theorem yH {H':Hp}{nd:Tr}{rows':List V}{cst:Int} (st:sJ (del (d.M g) H') g) (hm:del (d.M g) H' d.lm=some (.lst (nV g.N d.marks))) (D1:kS H g d) (ok:sT g d) {a:Addr}{at_:Nat}{rank aA cost:Int}{fc:Option Int} (T:dJ g d H a at_ rank aA cost fc)
  (hS:H' g.S=some (.dK (stK g d))) (hR:H' g.LR=some (.lst rows')) (hO:H' d.lo=some (.lst (.ref d.a0 :: d.as.map V.ref))) (hp:H' a=some (.dK (frK at_ rank aA (cost + cst) fc))) (oth:∀x ∈ d.a0 :: d.as,x ≠ a->H' x=H x) (c0:0 <= cst) (nok:nd.ok g.ns g.tg g.dd)
  (pay:g.ev=false->cm g.dd 1 d.bs + iC g.dd 1 d.fz + oo g.dd (cf 1 d.fz) nd <= d.spent) (hr:Paired (bK g.N (del (d.M g) H')) rows' (d.lrs g ++ flat nd)) (len:(d.lrs g ++ flat nd).length + 2 * d.fz.length <= 1000) :
  ∃d':Gd,d'.M g=d.M g/\BAt g H' d'/\mu g d'=(d.lrs g ++ flat nd).length + 2 * d.fz.length/\d'.fz.length=d.fz.length:=by
 obtain ⟨n1,n2,n3,n4⟩:=fQ ok.nd
 obtain ⟨nd1,nd2⟩:=rj ok.nd
 rcases T.cases D1 with ⟨ez,eas,ea,et,er,eh,ec,ef⟩ | ⟨fs,f,us,ez,eas,pu,et,er,eh,ec,ef⟩
 ·have lr:Gd.lrs g { d with rows:=rows',bs:=d.bs ++ [nd],bc:=d.bc + cst }=d.lrs g ++ flat nd:=by
   unfold Gd.lrs
   dsimp only
   rw [ez,jI]
   simp [bh,aP]
  refine ⟨{ d with rows:=rows',bs:=d.bs ++ [nd],bc:=d.bc + cst },rfl,⟨st,hm,by rw [lr];exact hr,⟨hS,hR,hO,?_,?_⟩,⟨ok.nd,ok.mks,ok.ml,jJ ok.bs ⟨nok,True.intro⟩,by have:=ok.bc;show 0 <= d.bc + cst;omega,ok.fz,ok.fl,ok.hf,ok.h36,fun e=>?_,ok.sp,by rw [lr];exact len⟩⟩,by unfold mu;rw [lr],rfl⟩
  ·dsimp only
   rw [<- ea,hp,et,er,eh,ec,ef]
  ·dsimp only
   rw [ez,eas]
   exact .nil
  ·have:=pay e
   dsimp only
   rw [jA]
   simp only [cm]
   rw [ez] at this ⊢
   simp only [iC,cf] at this ⊢
   omega
 ·have F:=ok.fz f (by rw [ez];simp)
  have f36:=ok.h36 f (by rw [ez];simp)
  have hh:=ok.hf
  rw [ez] at hh
  have a0a:d.a0 ≠ a:=fun z=>nd1 (by rw [z,eas];simp)
  have ua:∀x ∈ us,x ≠ a:=fun x hx z=>by
   rw [eas] at nd2
   exact (List.nodup_append.mp nd2).2.2 x hx a (by simp) z
  have lr:Gd.lrs g { d with rows:=rows',fz:=fs ++ [{ f with rows:=f.rows ++ [nd],cost:=f.cost + cst }] }=d.lrs g ++ flat nd:=by
   unfold Gd.lrs
   dsimp only
   rw [ez,cL,cL]
   simp [bh,aP,Fz.op,Fz.eI,jI]
  have ln:(fs ++ [{ f with rows:=f.rows ++ [nd],cost:=f.cost + cst }]).length=d.fz.length:=by rw [ez];simp
  refine ⟨{ d with rows:=rows',fz:=fs ++ [{ f with rows:=f.rows ++ [nd],cost:=f.cost + cst }] },rfl,⟨st,hm,by rw [lr];exact hr,⟨hS,hR,hO,?_,?_⟩,⟨ok.nd,ok.mks,ok.ml,ok.bs,ok.bc,fun x hx=>?_,?_,gT.app hh.inv.1 hh.inv.2,fun x hx=>?_,fun e=>?_,ok.sp,by rw [lr];dsimp only;rw [ln];exact len⟩⟩,by unfold mu;rw [lr];dsimp only;rw [ln],ln⟩
  ·rw [oth d.a0 List.mem_cons_self a0a]
   exact D1.h0
  ·dsimp only [Gd.b]
   rw [eas,jG,jC (fh _ _)]
   refine Paired.snoc ?_ (Paired.rE pu fun x hx y e=>?_)
   ·rw [hp,et,er,eh,ec,ef]
    rfl
   ·rw [oth x (by rw [eas];simp [hx]) (ua x hx)]
    exact e
  ·rcases List.mem_append.mp hx with hx | hx
   ·exact ok.fz x (by rw [ez];simp [hx])
   ·rw [List.mem_singleton.mp hx]
    exact ⟨F.bk,F.l0,F.r0,jJ F.rows ⟨nok,True.intro⟩,F.fst,F.lp,F.fc,F.f0,F.rank,by have:=F.cost;show 0 <= f.cost + cst;omega⟩
  ·dsimp only
   rw [ln]
   exact ok.fl
  ·rcases List.mem_append.mp hx with hx | hx
   ·exact ok.h36 x (by rw [ez];simp [hx])
   ·rw [List.mem_singleton.mp hx]
    exact f36
  ·have p:=pay e
   rw [ez,cJ,d9] at p
   dsimp only
   rw [cJ]
   dsimp only
   rw [jA]
   simp only [cm]
   omega
def kF (H:Hp) (g:Gc) (d:Gd) (t a:Addr) (at_:Nat) (rank aA cost:Int):Hp:=upd (upd (upd H t (.tup [.str "else"])) g.LR (.lst (d.rows ++ [.ref t]))) a (.dK (frK at_ rank aA 0 (some cost)))
def l7 (f:Fz):Fz:={ f with fst:=some f.rows,rows:=[],cost:=0,fc:=some f.cost }
theorem BAt.els (h:BAt g H d) {fs:List Fz}{f:Fz}{us:List Addr}{a t:Addr}{v:Val} (ez:d.fz=fs ++ [f]) (ea:d.as=us ++ [a]) (ib:f.bk=.iff v) (nf:f.fst=none) (ht:H t=none) (m3:mu g d + 3 <= 1000) :
  BAt g (kF H g d t a (d.b g + (bh fs).length) f.rank f.aA f.cost) { d with rows:=d.rows ++ [.ref t],fz:=fs ++ [l7 f] }:=by
 obtain ⟨n1,n2,n3,n4⟩:=fQ h.ok.nd
 obtain ⟨nd1,nd2⟩:=rj h.ok.nd
 obtain ⟨us',a',ea',pu,fa⟩:=h.dy.pY ez
 rw [ea] at ea'
 obtain ⟨eu,ex⟩:=List.append_inj' ea' rfl
 cases ex
 subst eu
 have ma:a ∈ d.a0 :: d.as:=by rw [ea];simp
 obtain ⟨aS,aR,aO⟩:=n4 a ma
 have tM:=h.free ht
 have tS:t ≠ g.S:=fun z=>tM (by rw [z];exact inS g d)
 have tR:t ≠ g.LR:=fun z=>tM (by rw [z];exact inR g d)
 have tA:∀x ∈ d.a0 :: d.as,x ≠ t:=fun x hx z=>tM (by
  rw [<- z]
  rcases List.mem_cons.mp hx with rfl | hx
  ·exact in0 g d
  ·exact inA g d hx)
 have tO:t ≠ d.lo:=fun z=>tM (by rw [z];exact inO g d)
 have a0a:d.a0 ≠ a:=fun z=>nd1 (by rw [z,ea];simp)
 have ua:∀x ∈ us,x ≠ a:=fun x hx z=>by
  rw [ea] at nd2
  exact (List.nodup_append.mp nd2).2.2 x hx a (by simp) z
 have F:=h.ok.fz f (by rw [ez];simp)
 have f36:=h.ok.h36 f (by rw [ez];simp)
 have hh:=h.ok.hf
 rw [ez] at hh
 have go:Go (d.M g) H (d.M g) (kF H g d t a (d.b g + (bh fs).length) f.rank f.aA f.cost):=((Go.new (aq.upd ht _)).trans (Go.at (inR g d) _)).trans (Go.at (inA g d (by rw [ea];simp)) _)
 have lr:Gd.lrs g { d with rows:=d.rows ++ [.ref t],fz:=fs ++ [l7 f] }=d.lrs g ++ [.els]:=by
  unfold Gd.lrs l7
  dsimp only
  rw [ez,cL,cL]
  simp [bh,aP,Fz.op,Fz.eI,ur,nf]
 have ln:(fs ++ [l7 f]).length=d.fz.length:=by rw [ez];simp
 have oth:∀x,x ≠ t->x ≠ g.LR->x ≠ a->kF H g d t a (d.b g + (bh fs).length) f.rank f.aA f.cost x=H x:=fun x h1 h2 h3=>by
  unfold kF
  rw [aw h3,aw h2,aw h1]
 have hlen:(d.lrs g ++ [Lr.els]).length=(d.lrs g).length + 1:=by simp
 refine h.go (d':={ d with rows:=d.rows ++ [.ref t],fz:=fs ++ [l7 f] }) go ⟨?_,?_,?_,?_,?_⟩ ⟨h.ok.nd,h.ok.mks,h.ok.ml,h.ok.bs,h.ok.bc,fun x hx=>?_,?_,gT.app hh.inv.1 hh.inv.2,fun x hx=>?_,fun e=>?_,h.ok.sp,?_⟩ (go.same _ _ h.hm) ?_
 ·rw [oth g.S tS.symm n1 aS.symm]
  exact h.dy.hS
 ·unfold kF
  rw [aw aR.symm,ak]
 ·rw [oth d.lo tO.symm n3.symm aO.symm]
  exact h.dy.hO
 ·rw [oth d.a0 (tA _ List.mem_cons_self) (n4 _ List.mem_cons_self).2.1 a0a]
  exact h.dy.h0
 ·dsimp only [Gd.b]
  rw [ea,jG,jC (fh _ _)]
  refine Paired.snoc ?_ (Paired.rE pu fun x hx y e=>?_)
  ·unfold kF
   rw [ak]
   rfl
  ·have mx:x ∈ d.a0 :: d.as:=by rw [ea];simp [hx]
   exact (oth x (tA x mx) (n4 x mx).2.1 (ua x hx)).trans e
 ·rcases List.mem_append.mp hx with hx | hx
  ·exact h.ok.fz x (by rw [ez];simp [hx])
  ·rw [List.mem_singleton.mp hx]
   exact ⟨F.bk,F.l0,F.r0,True.intro,fun t z=>(by cases z;exact F.rows),fun t m z=>(by rw [show (l7 f).bk=f.bk from rfl,ib] at z;cases z),⟨fun z=>(by cases z),fun z=>(by cases z)⟩,fun n z=>(by cases z;exact F.cost),F.rank,Int.le_refl _⟩
 ·dsimp only
  rw [ln]
  exact h.ok.fl
 ·rcases List.mem_append.mp hx with hx | hx
  ·exact h.ok.h36 x (by rw [ez];simp [hx])
  ·rw [List.mem_singleton.mp hx]
   exact f36
 ·have p:=h.ok.pay e
  rw [ez,cJ,nf] at p
  dsimp only
  rw [cJ]
  simp only [l7,kB,cm] at p ⊢
  omega
 ·rw [lr,hlen]
  unfold mu at m3
  dsimp only
  rw [ln]
  omega
 ·rw [lr]
  refine Paired.snoc ⟨t,0,rfl,?_,fun o ho=>by cases ho⟩ (Paired.dC h.hr fun _ _=>bK.same go.same)
  refine aV tM ?_
  unfold kF
  rw [aw (tA a ma).symm,aw tR,ak]
  rfl
section
seal PE PA PS PSs PT PW
def yd:Sp:=fun vs H Q _=>∃(g:Gc) (d:Gd) (a:Addr) (at_:Nat) (rank aA cost:Int) (fc:Option Int),vs=[.ref g.S,.ref a]/\H g.S=some (.dK (stK g d))/\H g.LR=some (.lst d.rows)/\d.rows.length <= 1000/\H a=some (.dK (frK at_ rank aA cost fc))/\a ≠ g.S/\a ≠ g.LR/\g.S ≠ g.LR/\∀t,H t=none->Q .non (kF H g d t a at_ rank aA cost)
theorem xO (T:Txt K mg A):Has P w K mg base 1 "_law_else" ["_law_state","_law_frame"] yd:=by
 refine T.qW.has qS (fun vs H Q E h=>?_) (fun f cdv A' outer s H vs Q E hr hu h=>?_)
 ·obtain ⟨g,d,a,at_,rank,aA,cost,fc,rfl,_⟩:=h
  rfl
 ·obtain ⟨g,d,a,at_,rank,aA,cost,fc,rfl,hS,hR,rl,hF,aS,aR,n1,q⟩:=h
  refine ⟨_,(ae (aL (bW (px hu (fv 0) aj) (aa (bf (aa aj ag)) ag)))
  (ae (bR (px hu (fv 1) aj) (bP (fv 1) aj (bO hu set_list)))
  (ao (bR ab (bP (fv 1) aj (bO hu set_list)))))),?_⟩
  refine ah fun M1 K1=>?_
  refine ⟨_,aN.k (k:=.inr "rows") hS,Or.inl ⟨rfl,_,SqL.of hR⟩,by show 1 <= sizeLine;decide,fun t ht=>?_⟩
  have tR:t ≠ g.LR:=fresh_ne ht hR
  have ta:t ≠ a:=fresh_ne ht hF
  refine ⟨_,_,_,rfl,rfl,af tR.symm hR,aD rl,K1 _ _ ?_⟩
  have hF1:upd (upd H t (.tup [.str "else"])) g.LR (.lst (d.rows ++ [.ref t])) a=some (.dK (frK at_ rank aA cost fc)):=af aR (af ta.symm hF)
  have q:=q t ht
  unfold kF at q
  generalize upd (upd H t (.tup [.str "else"])) g.LR (.lst (d.rows ++ [.ref t]))=H1 at hF1 q ⊢
  try dsimp only
  refine ah fun M2 K2=>?_
  refine ⟨_,aN.k (k:=.inr "cost") hF1,_,cZ.k (k:=.inr "first") hF1 (show 5 < sizeLine by decide),K2 _ _ ?_⟩
  rw [show putK (frK at_ rank aA cost fc) (.inr "first") (.int cost)=frK at_ rank aA cost (some cost) from rfl]
  try dsimp only
  refine ⟨_,cZ.k (k:=.inr "cost") ak (show 5 < sizeLine by decide),?_⟩
  rw [show putK (frK at_ rank aA cost (some cost)) (.inr "cost") (.int 0)=frK at_ rank aA 0 (some cost) from rfl,kJ]
  exact q
end
end
section
variable {P:Program}{w:World}{K:W.Frag}{mg:Str->Option Value}{base:Heap}{A:Adr}{g:Gc}{d:Gd}{H:Hp}
theorem AG {dd:List Dl} (h:∀e ∈ dd,0 <= e.sp) (r:Lr):0 <= rK dd r:=by
 cases r with
 | call i ts =>
  show 0 <= (match dd.find? (fun d=>decide (d.nm=i)) with
   | some d=>1 + d.sp
   | none=>1)
  cases e:dd.find? (fun d=>decide (d.nm=i)) with
  | none=>exact (by decide:(0:Int) <= 1)
  | some x =>
   have:=h x (List.mem_of_find?_eq_some e)
   show 0 <= 1 + x.sp
   omega
 | _=>exact (by decide:(0:Int) <= 1)
mutual
theorem yM {ns tg:List Nat}{dd:List Dl} (O:∀e ∈ dd,0 <= e.sp):∀(t:Tr) {h:Int},0 <= h->t.ok ns tg dd->0 <= oo dd h t
 | .leaf r,h,h0,_=>Int.mul_nonneg h0 (AG O r)
 | .iff v l r f o,h,h0,k=>by
  have a:=gZ O f h0 k.2.2.2.1
  have b:=gZ O o h0 k.2.2.2.2
  have l0:=k.2.1
  have r0:=k.2.2.1
  have:=Int.mul_nonneg h0 (show 0 <= 1 + 1 * (l + r) by omega)
  unfold oo
  omega
 | .loop t m l r b,h,h0,k=>by
  have m1:=k.2.1
  have l0:=k.2.2.2.1
  have r0:=k.2.2.2.2.1
  have a:=gZ O b (Int.mul_nonneg h0 (show 0 <= m by omega)) k.2.2.2.2.2
  have:=Int.mul_nonneg h0 (show 0 <= 1 + m * (l + r) by have:=Int.mul_nonneg (show 0 <= m by omega) (show 0 <= l + r by omega);omega)
  unfold oo
  omega
theorem gZ {ns tg:List Nat}{dd:List Dl} (O:∀e ∈ dd,0 <= e.sp):∀(ts:List Tr) {h:Int},0 <= h->df ns tg dd ts->0 <= cm dd h ts
 | [],_,_,_=>Int.le_refl _
 | t :: ts,h,h0,k=>by
  have a:=yM O t h0 k.1
  have b:=gZ O ts h0 k.2
  unfold cm
  omega
end
def kM (f:Fz) (l r:Int):Tr:=match f.bk with
 | .iff v=>.iff v l r (f.fst.getD []) f.rows
 | .loop t m=>.loop t m l r f.rows
def Full (f:Fz):Prop:=∀v,f.bk=.iff v->∃t,f.fst=some t
theorem va {f:Fz}{l r:Int} (h:Full f) (lp:∀t m,f.bk=.loop t m->f.fst=none):flat (kM f l r)=f.bk.lr l r :: (f.eI ++ [.fin]):=by
 unfold kM Fz.eI
 cases e:f.bk with
 | iff v =>
  obtain ⟨t,et⟩:=h v e
  rw [et]
  simp [flat,Bk.lr,ur]
 | loop t m =>
  rw [lp t m e]
  simp [flat,Bk.lr,ur]
theorem yo {f:Fz}{l r:Int} (F:BU g f) (h:Full f) (l0:0 <= l) (r0:0 <= r):(kM f l r).ok g.ns g.tg g.dd:=by
 have bk:=F.bk
 unfold kM
 cases e:f.bk with
 | iff v =>
  rw [e] at bk
  obtain ⟨t,et⟩:=h v e
  rw [et]
  exact ⟨bk,l0,r0,F.fst t et,F.rows⟩
 | loop t m =>
  rw [e] at bk
  exact ⟨bk.1,bk.2.1,bk.2.2,l0,r0,F.rows⟩
theorem vn {f:Fz}{h:Int} (hf:Full f) (lp:∀t m,f.bk=.loop t m->f.fst=none):oo g.dd h (kM f f.l f.r)=h * (1 + f.bk.m * (f.l + f.r)) + kB g.dd (h * f.bk.m) f.fst + cm g.dd (h * f.bk.m) f.rows:=by
 unfold kM
 cases e:f.bk with
 | iff v =>
  obtain ⟨t,et⟩:=hf v e
  rw [et]
  simp [oo,Bk.m,kB]
 | loop t m =>
  rw [lp t m e]
  simp [oo,Bk.m,kB]
theorem Paired.set {α β:Type}{F:α->β->Prop}{x:α}{y:β} (h:F x y):∀{i:Nat}{xs:List α}{ys:List β},Paired F xs ys->Paired F (xs.set i x) (ys.set i y)
 | _,_,_,.nil=>.nil
 | 0,_,_,.cons _ r=>.cons h r
 | i + 1,_,_,.cons k r=>.cons k (Paired.set h r)
def js (d:Gd) (us:List Addr) (fs:List Fz):Gd:={ d with as:=us,fz:=fs }
theorem yQ (ok:sT g d) (O:fV g) {us:List Addr}{a:Addr}{fs:List Fz}{f:Fz} (ez:d.fz=fs ++ [f]) (ea:d.as=us ++ [a]):sT g (js d us fs):=by
 have hh:=ok.hf
 rw [ez] at hh
 have fl:=ok.fl
 rw [ez,List.length_append] at fl
 simp only [List.length_singleton] at fl
 have F:=ok.fz f (by rw [ez];simp)
 have rl:=ok.rl
 have sub:(d.M g).Nodup:=ok.nd
 refine ⟨?_,ok.mks,ok.ml,ok.bs,ok.bc,fun x hx=>ok.fz x (by rw [ez];exact List.mem_append_left _ hx),by show fs.length <= 3;omega,hh.inv.1,fun x hx=>ok.h36 x (by rw [ez];exact List.mem_append_left _ hx),fun e=>?_,ok.sp,?_⟩
 ·unfold Gd.M at sub ⊢
  rw [ea] at sub
  show (g.S :: g.LR :: d.lo :: d.a0 :: us).Nodup
  rw [show g.S :: g.LR :: d.lo :: d.a0 :: (us ++ [a])=(g.S :: g.LR :: d.lo :: d.a0 :: us) ++ [a] from rfl] at sub
  exact (List.nodup_append.mp sub).1
 ·have p:=ok.pay e
  rw [ez,cJ] at p
  have sp:∀e ∈ g.dd,0 <= e.sp:=fun e he=>(O.dv e he).2.2.1
  have h0:0 <= cf 1 fs:=by
   have h36:=(ok.h36 f (by rw [ez];simp)).1
   rw [hh.inv.2] at h36
   have mb:1 <= f.bk.m:=by
    have:=F.bk
    cases eb:f.bk with
    | iff v=>exact (show (1:Int) <= 1 by decide)
    | loop t m=>rw [eb] at this;exact this.2.1
   rcases Int.lt_or_le (cf 1 fs) 0 with z | z
   ·have:=Int.mul_le_mul_of_nonneg_right (show cf 1 fs <= 0 by omega) (show 0 <= f.bk.m by omega)
    omega
   ·exact z
  have mb:0 <= f.bk.m:=by
   have:=F.bk
   cases eb:f.bk with
   | iff v=>exact (show (0:Int) <= 1 by decide)
   | loop t m=>rw [eb] at this;have:=this.2.1;show 0 <= m;omega
  have hm:=Int.mul_nonneg h0 mb
  have a1:=gZ sp f.rows hm F.rows
  have a2:0 <= kB g.dd (cf 1 fs * f.bk.m) f.fst:=by
   cases ef:f.fst with
   | none=>exact Int.le_refl _
   | some t=>exact gZ sp t hm (F.fst t ef)
  have a3:=Int.mul_nonneg h0 (show 0 <= 1 + f.bk.m * (f.l + f.r) by have:=Int.mul_nonneg mb (show 0 <= f.l + f.r by have:=F.l0;have:=F.r0;omega);omega)
  show cm g.dd 1 d.bs + iC g.dd 1 fs <= d.spent
  omega
 ·have e1:Gd.lrs g (js d us fs)=g.pre ++ aP d.bs ++ bh fs:=rfl
  have e2:d.lrs g=(g.pre ++ aP d.bs ++ bh fs) ++ bh [f]:=by
   unfold Gd.lrs
   rw [ez,cL,List.append_assoc (g.pre ++ aP d.bs)]
  rw [e1]
  have e3:(d.lrs g).length=(g.pre ++ aP d.bs ++ bh fs).length + (bh [f]).length:=by rw [e2,List.length_append (bs:=bh [f])]
  have e4:d.fz.length=fs.length + 1:=by rw [ez];simp
  rw [e3,e4] at rl
  show (g.pre ++ aP d.bs ++ bh fs).length + 2 * fs.length <= 1000
  omega
end
section
variable {P:Program}{w:World}{K:W.Frag}{mg:Str->Option Value}{base:Heap}{A:Adr}{g:Gc}{d:Gd}{H:Hp}
seal PE PA PS PSs PT PW
theorem tQ {fs:List Fz}{f:Fz} (ez:d.fz=fs ++ [f]):d.lrs g=(g.pre ++ aP d.bs ++ bh fs) ++ f.op :: f.eI:=by
 unfold Gd.lrs
 rw [ez,cL,List.append_assoc (g.pre ++ aP d.bs)]
 simp [bh]
theorem q0 {α:Type} (xs:List α) (x:α):(xs ++ [x])[(xs ++ [x]).length - 1]?=some x:=by simp
theorem yC {α:Type}{A S:List α}{x y:α}{n:Nat} (h:A.length=n):(A ++ x :: S).set n y=A ++ y :: S:=by
 subst h
 simp
theorem wH {n i:Nat} (h:i < n):ixN n (i:Int)=some i:=by
 unfold ixN
 rw [if_pos (by omega),if_pos (by omega)]
 simp
def uI:Sp:=fun vs H Q _=>∃(g:Gc) (d:Gd),vs=[.ref g.S]/\fV g/\BAt g H d/\d.fz ≠ []/\mu g d + 3 <= 1000/\∀(d':Gd) (H':Hp),Go (d.M g) H (d'.M g) H'->BAt g H' d'->mu g d' <= mu g d->d'.fz.length + 1=d.fz.length->Q .non H'
theorem rJ (T:Txt K mg A):Has P w K mg base 2 "_law_closed" ["_law_state"] uI:=by
 have D_law_else:=xO (P:=P) (w:=w) (base:=base) T
 refine T.mS.has (k:=1) cB (fun vs H Q E h=>?_) (fun f cdv A' outer s H vs Q E hr hu h=>?_)
 ·obtain ⟨g,d,rfl,_⟩:=h
  rfl
 ·obtain ⟨g,d,rfl,O,B,ne,m3,q⟩:=h
  obtain ⟨fs,f,ez⟩:∃fs f,d.fz=fs ++ [f]:=(jw d.fz).resolve_left ne
  obtain ⟨us,a,ea,pu,fa⟩:=B.dy.pY ez
  obtain ⟨n1,n2,n3,n4⟩:=fQ B.ok.nd
  have ma:a ∈ d.a0 :: d.as:=by rw [ea];simp
  obtain ⟨aS,aR,aO⟩:=n4 a ma
  have rl:d.rows.length + 3 <= 1000:=by
   have:=Paired.length B.hr
   unfold mu at m3
   omega
  have lb:(g.pre ++ aP d.bs ++ bh fs).length=d.b g + (bh fs).length:=by
   unfold Gd.b
   rw [List.length_append (bs:=bh fs)]
  obtain ⟨at_,hat⟩:∃at_,at_=d.b g + (bh fs).length:=⟨_,rfl⟩
  rw [<- hat] at fa lb
  have gx:(d.lrs g)[at_]?=some f.op:=by
   rw [tQ ez,<- lb]
   simp
  obtain ⟨rv,hrv,hrw⟩:∃rv,d.rows[at_]?=some rv/\bK g.N (del (d.M g) H) rv f.op:=by
   have hl:=Paired.length B.hr
   have:at_ < d.rows.length:=by
    rw [hl]
    exact (List.getElem?_eq_some_iff.mp gx).1
   obtain ⟨y,h1,h2⟩:=bX B.hr (List.getElem?_eq_getElem this)
   rw [gx] at h1
   cases h1
   exact ⟨_,List.getElem?_eq_getElem this,h2⟩
  obtain ⟨ra,rp,rfl,hra,hrp⟩:=hrw
  have LL:(V.ref d.a0 :: d.as.map V.ref).dropLast=V.ref d.a0 :: us.map V.ref:=by
   rw [ea,List.map_append]
   exact List.dropLast_concat (l₁:=V.ref d.a0 :: us.map V.ref)
  refine ⟨_,(ae (ay (i:=1) cB.nd rfl (Or.inl rfl) (zp (px hu (fv 0) aj)))
  (ae (ay (i:=2) cB.nd rfl (Or.inl rfl) (px hu (fv 0) aj))
  (ae (ay (i:=3) cB.nd rfl (Or.inl rfl) (px hu (fv 2) (px hu (fv 1) aj)))
  (ae (ba (PW.pt (pw_and (aC (bV hu) (px hu (fv 3) ab) aj (aG _)) (pw_and1 (aC (A7) (px hu (fv 1) aj) jf (aG _)))))
   (ao (aL (au D_law_else hr (aa (fv 0) (aa (fv 1) ag)))))
   aT)
  (ae (ay (i:=4) cB.nd rfl (Or.inl rfl) ab)
  (ae (ba (PW.pt (pw_and (cK (px hu (fv 0) aj) (fun _=>rfl)) (pw_and1 (aC (bV hu) (px hu (fv 3) ab) aj (aG _)))))
   (ae (ay (i:=4) cB.nd rfl (Or.inl rfl) (ax bp (px hu (fv 3) ab) (aH wq rfl T.mT (by boot_by_name) (aa (px hu (fv 1) aj) (aa (px hu (fv 1) aj) ag)))))
   (ao (bR (bf (aa aj (aa (px hu (fv 3) ab) (aa (ax mL (fv 4) (px hu (fv 1) aj)) (aa (ax mL (fv 4) (px hu (fv 1) aj)) ag))))) (bP (fv 2) (px hu (fv 1) aj) (bO hu set_list)))))
   (ao (ba (cK (px hu (fv 0) aj) (fun _=>rfl))
    (ae (bR (ax pW (cc dj (fv 3) ik (bJ ab)) (bf (aa (ax bp (px hu (fv 1) aj) (px hu (fv 3) ab)) ag))) (bP (fv 2) (px hu (fv 1) aj) (bO hu set_list)))
    (ao (ay (i:=4) cB.nd rfl (Or.inl rfl) (ax dh (px hu (fv 3) ab) (ax bp (px hu (fv 1) aj) (px hu (fv 3) ab))))))
    aT)))
  (ae (aL (bW (fv 2) (aa (bf (aa aj ag)) ag)))
  (ao (bR (ax bp (px hu (px hu (px hu (fv 0) aj) (fB dw ab)) aj) (fv 4)) (bP (px hu (px hu (fv 0) aj) (fB dw ab)) aj (bO hu set_list))))))))))),?_⟩
  refine ah fun M1 K1=>?_
  refine ⟨_,aN.k (k:=.inr "open") B.dy.hS,Or.inl ⟨rfl,_,SqL.of B.dy.hO⟩,_,_,.ref a,rfl,rfl,B.dy.hO,(by rw [ea,List.map_append];exact q0 (V.ref d.a0 :: us.map V.ref) (V.ref a)),K1 _ _ ?_⟩
  rw [LL]
  obtain ⟨L,hL⟩:∃L,L=HO.lst (V.ref d.a0 :: us.map V.ref):=⟨_,rfl⟩
  rw [<- hL]
  have hS1:upd H d.lo L g.S=some (.dK (stK g d)):=af n2 B.dy.hS
  have hR1:upd H d.lo L g.LR=some (.lst d.rows):=af n3 B.dy.hR
  have hF1:upd H d.lo L a=some (.dK (frK at_ f.rank f.aA f.cost f.fc)):=af aO fa
  have raM:ra ∉ d.M g:=(bg hra).1
  have raO:ra ≠ d.lo:=fun z=>raM (by rw [z];exact inO g d)
  have hra1:upd H d.lo L ra=some (.tup (.str f.op.w :: f.op.tl g.N rp)):=af raO (bg hra).2
  try dsimp only
  refine ah fun M2 K2=>?_
  refine ⟨_,aN.k (k:=.inr "rows") hS1,K2 _ _ ?_⟩
  try dsimp only
  refine ah fun M3 K3=>?_
  refine ⟨_,aN.k (k:=.inr "at") hF1,Or.inl ⟨_,_,Or.inl (SqL.of hR1),aB hrv,K3 _ _ ?_⟩⟩
  try dsimp only
  refine ah fun M4 K4=>?_
  have rest:∀(He:Hp) (de:Gd) (fe:Fz),BAt g He de->de.fz=fs ++ [fe]->de.as=us ++ [a]->de.M g=d.M g->de.lo=d.lo->de.a0=d.a0->de.b g=d.b g->fe.bk=f.bk->fe.l=f.l->fe.r=f.r->Full fe->de.rows[at_]?=some (.ref ra)->Go (d.M g) H (d.M g) He->mu g de <= mu g d + 1->M4 [some (.ref g.S),some (.ref a),some (.ref g.LR),some (.ref ra),none] (upd He d.lo L):=fun He de fe Be eze eae eM elo ea0 eb ebk el er full hrve goe mue=>K4 _ _ (by
   have Fe:=Be.ok.fz fe (by rw [eze];simp)
   obtain ⟨us',a',ea',pu',fa'⟩:=Be.dy.pY eze
   rw [eae] at ea'
   obtain ⟨eu,ex⟩:=List.append_inj' ea' rfl
   cases ex
   subst eu
   rw [eb,<- hat] at fa'
   rw [eb] at pu'
   have lrse:de.lrs g=(g.pre ++ aP de.bs ++ bh fs) ++ fe.op :: fe.eI:=tQ eze
   have lbe:(g.pre ++ aP de.bs ++ bh fs).length=at_:=by
    rw [hat,<- eb]
    unfold Gd.b
    rw [List.length_append (bs:=bh fs)]
   have rle:de.rows.length + 2 <= 1000:=by
    have:=Paired.length Be.hr
    unfold mu at mue m3
    rw [eze,ez] at mue
    simp only [List.length_append,List.length_singleton] at mue
    omega
   have gxe:(de.lrs g)[at_]?=some fe.op:=by
    rw [lrse,<- lbe]
    simp
   obtain ⟨y,hy1,hy2⟩:=bX Be.hr hrve
   rw [gxe] at hy1
   cases hy1
   obtain ⟨ra',rp',e0,hra',hrp'⟩:=hy2
   cases e0
   rw [eM] at hra' hrp'
   have hS2:upd He d.lo L g.S=some (.dK (stK g de)):=af n2 Be.dy.hS
   have hR2:upd He d.lo L g.LR=some (.lst de.rows):=af n3 Be.dy.hR
   have hF2:upd He d.lo L a=some (.dK (frK at_ fe.rank fe.aA fe.cost fe.fc)):=af aO fa'
   have hra2:upd He d.lo L ra=some (.tup (.str fe.op.w :: fe.op.tl g.N rp')):=af raO (bg hra').2
   have hO2:upd He d.lo L d.lo=some L:=ak
   have go2:Go (d.M g) He (d.M g) (upd He d.lo L):=Go.at (inO g d) _
   have D0:kS (upd He d.lo L) g (js de us fs):=⟨hS2,hR2,(by show upd He d.lo L de.lo=_;rw [elo,hO2,hL];show _=some (HO.lst (V.ref de.a0 :: us.map V.ref));rw [ea0]),af (by show de.a0 ≠ d.lo;rw [ea0];exact (n4 _ List.mem_cons_self).2.2) Be.dy.h0,(by
    show Paired _ us ((ats (de.b g) fs).zip fs)
    rw [eb]
    exact Paired.rE pu' fun x hx y e=>af (n4 x (by rw [ea];simp [hx])).2.2 e)⟩
   have ok0:sT g (js de us fs):=yQ Be.ok O eze eae
   obtain ⟨pa,pat,prk,pht,pc,pfc,T0⟩:=AO D0 ok0 O
   have pam:pa ∈ d.a0 :: us:=by
    have:=T0.last
    have e2:(js de us fs).a0=d.a0:=ea0
    have e3:(js de us fs).as=us:=rfl
    rw [e2,e3] at this
    unfold atI at this
    obtain ⟨j,_,hj⟩:=Option.bind_eq_some_iff.mp this
    have hm:=List.mem_of_getElem? hj
    rcases List.mem_cons.mp hm with z | z
    ·cases z;exact List.mem_cons_self
    ·obtain ⟨u,hu1,hu2⟩:=List.mem_map.mp z
     cases hu2
     exact List.mem_cons_of_mem _ hu1
   have pam':pa ∈ d.a0 :: d.as:=by
    rcases List.mem_cons.mp pam with z | z
    ·exact z ▸ List.mem_cons_self
    ·rw [ea];simp [z]
   obtain ⟨pS,pR,pO⟩:=n4 pa pam'
   refine ah fun N1 J1=>?_
   refine J1 _ _ ?_
   try dsimp only
   refine ah fun N2 J2=>?_
   have fin:∀(H3:Hp) (rows3:List V) (cst l' r':Int),Go (d.M g) (upd He d.lo L) (d.M g) H3->H3 g.S=some (.dK (stK g de))->H3 d.lo=some L->H3 g.LR=some (.lst rows3)->(∀x ∈ d.a0 :: us,H3 x=upd He d.lo L x)->(∀x ∈ d.M g,H3 x ≠ none)->rows3.length=de.rows.length->Paired (bK g.N (del (d.M g) H3)) rows3 ((g.pre ++ aP de.bs ++ bh fs) ++ f.bk.lr l' r' :: fe.eI)->0 <= cst->0 <= l'->0 <= r'->(g.ev=false->l'=f.l/\r'=f.r)->N2 [some (.ref g.S),some (.ref a),some (.ref g.LR),some (.ref ra),some (.int cst)] H3:=fun H3 rows3 cst l' r' go3 hS3 hO3 hR3 ot3 al3 rl3 hr3 c0 l0 r0 evf=>J2 _ _ (by
    refine ah fun N3 J3=>?_
    refine ⟨Or.inl ⟨rfl,_,SqL.of hR3⟩,by show 1 <= sizeLine;decide,fun te hte=>?_⟩
    have teR:te ≠ g.LR:=fresh_ne hte hR3
    have teS:te ≠ g.S:=fresh_ne hte hS3
    have teO:te ≠ d.lo:=fresh_ne hte hO3
    refine ⟨_,_,_,rfl,rfl,af teR.symm hR3,aD (by omega),J3 _ _ ?_⟩
    have hp3:H3 pa=some (.dK (frK pat prk pht pc pfc)):=by rw [ot3 pa pam];exact T0.fr
    have tep:te ≠ pa:=fresh_ne hte hp3
    obtain ⟨H5,hH5⟩:∃H5,H5=upd (upd H3 te (.tup [.str "end"])) g.LR (.lst (rows3 ++ [.ref te])):=⟨_,rfl⟩
    rw [<- hH5]
    have hS5:H5 g.S=some (.dK (stK g de)):=by rw [hH5];exact af n1 (af teS.symm hS3)
    have hO5:H5 d.lo=some L:=by rw [hH5];exact af n3.symm (af teO.symm hO3)
    have hp5:H5 pa=some (.dK (frK pat prk pht pc pfc)):=by rw [hH5];exact af pR (af tep.symm hp3)
    have go5:Go (d.M g) H3 (d.M g) H5:=by rw [hH5];exact (Go.new (aq.upd hte _)).trans (Go.at (inR g d) _)
    have pl:=T0.last
    rw [show (js de us fs).a0=d.a0 from ea0,show (js de us fs).as=us from rfl] at pl
    have hO5':=hO5
    rw [hL] at hO5'
    have gO:aN H5 g.S (.str "open") (some (.ref d.lo)):=by
     have:=aN.k (k:=.inr "open") hS5
     rw [show L2.cF (stK g de) (.inr "open")=some (.ref de.lo) from rfl,elo] at this
     exact this
    try dsimp only
    refine ⟨_,gO,_,rfl,Or.inl ⟨_,_,Or.inl (SqL.of hO5'),pl,_,aN.k (k:=.inr "cost") hp5,_,gO,_,rfl,Or.inl ⟨_,_,Or.inl (SqL.of hO5'),pl,_,cZ.k (k:=.inr "cost") hp5 (show 5 < sizeLine by decide),?_⟩⟩⟩
    rw [show putK (frK pat prk pht pc pfc) (.inr "cost") (.int (pc + cst))=frK pat prk pht (pc + cst) pfc from rfl]
    have M0:∀x ∈ Gd.M g (js de us fs),x ∈ d.M g:=fun x hx=>by
     have hx:x ∈ g.S :: g.LR :: de.lo :: de.a0 :: us:=hx
     rw [elo,ea0] at hx
     unfold Gd.M
     rw [ea]
     simp only [List.mem_cons,List.mem_append,List.mem_singleton,List.not_mem_nil,or_false] at hx ⊢
     rcases hx with z | z | z | z | z
     ·exact .inl z
     ·exact .inr (.inl z)
     ·exact .inr (.inr (.inl z))
     ·exact .inr (.inr (.inr (.inl z)))
     ·exact .inr (.inr (.inr (.inr (.inl z))))
    have go6:Go (d.M g) H5 (Gd.M g (js de us fs)) (upd H5 pa (.dK (frK pat prk pht (pc + cst) pfc))):=(Go.at (show pa ∈ d.M g by
     rcases List.mem_cons.mp pam' with z | z
     ·exact z ▸ in0 g d
     ·exact inA g d z) _).to fun x hx=>.inl (M0 x hx)
    have goF:Go (d.M g) He (Gd.M g (js de us fs)) (upd H5 pa (.dK (frK pat prk pht (pc + cst) pfc))):=((go2.trans go3).trans go5).trans go6
    obtain ⟨H6,hH6⟩:∃H6,H6=upd H5 pa (.dK (frK pat prk pht (pc + cst) pfc)):=⟨_,rfl⟩
    rw [<- hH6] at go6 goF ⊢
    have Hbk:f.bk=fe.bk:=ebk.symm
    have fl:=va (f:=fe) (l:=l') (r:=r') full Fe.lp
    have lr0:Gd.lrs g (js de us fs)=g.pre ++ aP de.bs ++ bh fs:=rfl
    have s35:=(go5.trans go6).same
    have hte5:del (Gd.M g (js de us fs)) H6 te=some (.tup [.str "end"]):=by
     refine aV (fun z=>?_) ?_
     ·have:=M0 te z
      exact al3 te this hte
     ·rw [hH6,aw tep,hH5,aw teR,ak]
    have hr6:Paired (bK g.N (del (Gd.M g (js de us fs)) H6)) (rows3 ++ [.ref te]) (Gd.lrs g (js de us fs) ++ flat (kM fe l' r')):=by
     rw [fl,lr0,show g.pre ++ aP de.bs ++ bh fs ++ (fe.bk.lr l' r' :: (fe.eI ++ [Lr.fin]))=(g.pre ++ aP de.bs ++ bh fs ++ (fe.bk.lr l' r' :: fe.eI)) ++ [Lr.fin] by simp]
     refine Paired.snoc ⟨te,0,rfl,hte5,fun o ho=>by cases ho⟩ ?_
     rw [<- Hbk]
     exact Paired.dC hr3 fun _ _=>bK.same s35
    have hS6:H6 g.S=some (.dK (stK g de)):=by rw [hH6];exact af pS.symm hS5
    have hR6:H6 g.LR=some (.lst (rows3 ++ [.ref te])):=by rw [hH6,aw pR.symm,hH5,ak]
    have hO6:H6 d.lo=some L:=by rw [hH6];exact af pO.symm hO5
    have ot6:∀x ∈ d.a0 :: us,x ≠ pa->H6 x=upd He d.lo L x:=fun x hx ne=>by
     have xm:x ∈ d.a0 :: d.as:=by
      rcases List.mem_cons.mp hx with z | z
      ·exact z ▸ List.mem_cons_self
      ·rw [ea];simp [z]
     have xe:x ≠ te:=fun z=>by
      have:=al3 x (by
       rcases List.mem_cons.mp xm with z | z
       ·exact z ▸ in0 g d
       ·exact inA g d z)
      rw [z] at this
      exact this hte
     rw [hH6,aw ne,hH5,aw (n4 x xm).2.1,aw xe]
     exact ot3 x hx
    have sF:=goF.same
    rw [<- eM] at sF
    have ln:(Gd.lrs g (js de us fs) ++ flat (kM fe l' r')).length=(de.lrs g).length + 1:=by
     rw [fl,lr0,lrse]
     simp only [List.length_append,List.length_cons,List.length_nil]
     omega
    have fzl:de.fz.length=fs.length + 1:=by rw [eze];simp
    have fzl':d.fz.length=fs.length + 1:=by rw [ez];simp
    have z0:(js de us fs).fz.length=fs.length:=rfl
    obtain ⟨d',M',B',mu',fl'⟩:=yH (H':=H6) (nd:=kM fe l' r') (rows':=rows3 ++ [.ref te]) (cst:=cst) (Be.st.same sF) (sF _ _ Be.hm) D0 ok0 T0 hS6 hR6 (by
     show H6 de.lo=some (.lst (.ref de.a0 :: us.map V.ref))
     rw [elo,ea0,hO6,hL]) (by rw [hH6];exact ak) (fun x hx ne=>ot6 x (by rw [<- ea0];exact hx) ne) c0 (yo Fe full l0 r0) (fun ev=>by
     obtain ⟨e1,e2⟩:=evf ev
     have p:=Be.ok.pay ev
     rw [eze,cJ] at p
     rw [e1,e2,<- el,<- er,vn full Fe.lp]
     show cm g.dd 1 de.bs + iC g.dd 1 fs + _ <= de.spent
     show cm g.dd 1 de.bs + iC g.dd 1 fs + (cf 1 fs * (1 + fe.bk.m * (fe.l + fe.r)) + kB g.dd (cf 1 fs * fe.bk.m) fe.fst + cm g.dd (cf 1 fs * fe.bk.m) fe.rows) <= de.spent
     omega) hr6 (by
     rw [ln,z0]
     unfold mu at mue m3
     omega)
    refine q d' H6 ?_ B' ?_ ?_
    ·rw [M']
     exact goe.trans goF
    ·rw [mu',ln,z0]
     unfold mu at mue ⊢
     omega
    ·rw [fl',z0,fzl'])
   have alE:∀x ∈ d.M g,upd He d.lo L x ≠ none:=fun x hx e=>by
    by_cases z:x=d.lo
    ·rw [z,ak] at e;cases e
    ·rw [aw z] at e
     exact Be.al x (by rw [eM];exact hx) e
   have hr2:Paired (bK g.N (del (d.M g) (upd He d.lo L))) de.rows (de.lrs g):=by
    have:=Be.hr
    rw [eM] at this
    exact Paired.dC this fun _ _=>bK.same go2.same
   have gE:∀{H':Hp},H' g.S=some (.dK (stK g de))->aN H' g.S (.str "even") (some (.bl g.ev)):=fun h=>aN.k (k:=.inr "even") h
   have atl:at_ < de.rows.length:=(List.getElem?_eq_some_iff.mp hrve).1
   have aM:a ∈ d.M g:=inA g d (by rw [ea];simp)
   have put:∀(H3:Hp) (t2:Addr) (lr':Lr) (l' r' cst:Int),aq (upd He d.lo L) H3->H3 t2 ≠ none->t2 ∉ d.M g->bK g.N (del (d.M g) H3) (.ref t2) (f.bk.lr l' r')->0 <= cst->0 <= l'->0 <= r'->g.ev=true->N2 [some (.ref g.S),some (.ref a),some (.ref g.LR),some (.ref ra),some (.int cst)] (upd H3 g.LR (.lst (de.rows.set at_ (.ref t2)))):=fun H3 t2 lr' l' r' cst s3 _ tM hlr c0 l0 r0 ev=>by
    have go3:Go (d.M g) (upd He d.lo L) (d.M g) (upd H3 g.LR (.lst (de.rows.set at_ (.ref t2)))):=(Go.new s3).trans (Go.at (inR g d) _)
    have go3':Go (d.M g) H3 (d.M g) (upd H3 g.LR (.lst (de.rows.set at_ (.ref t2)))):=Go.at (inR g d) _
    refine fin _ (de.rows.set at_ (.ref t2)) cst l' r' go3 (af n1 (s3 _ _ hS2)) (af n3.symm (s3 _ _ hO2)) ak (fun x hx=>?_) (fun x hx e=>?_) (List.length_set ..) ?_ c0 l0 r0 (fun z=>by rw [ev] at z;cases z)
    ·have xm:x ∈ d.a0 :: d.as:=by
      rcases List.mem_cons.mp hx with z | z
      ·exact z ▸ List.mem_cons_self
      ·rw [ea];simp [z]
     rw [aw (n4 x xm).2.1]
     have xM:x ∈ d.M g:=by
      rcases List.mem_cons.mp xm with z | z
      ·exact z ▸ in0 g d
      ·exact inA g d z
     cases e:upd He d.lo L x with
     | none=>exact absurd e (alE x xM)
     | some o=>exact s3 _ _ e
    ·by_cases z:x=g.LR
     ·rw [z,ak] at e;cases e
     ·rw [aw z] at e
      cases e2:upd He d.lo L x with
      | none=>exact alE x hx e2
      | some o=>rw [s3 _ _ e2] at e;cases e
    ·have h1:=Paired.set (i:=at_) (hlr.same go3'.same) (Paired.dC hr2 fun _ _=>bK.same go3.same)
     rw [lrse,yC lbe] at h1
     exact h1
   by_cases ev:g.ev=true
   ·refine ⟨_,gE hS2,_,rfl,aI (fun _=>?_) (fun c=>absurd ev c)⟩
    cases hbk:fe.bk with
    | iff v =>
     have eop:fe.op=.iff v fe.l fe.r:=by unfold Fz.op;rw [hbk];rfl
     rw [eop] at hra2 hrp'
     obtain ⟨tf,etf⟩:=full v hbk
     obtain ⟨ff,eff⟩:∃ff,fe.fc=some ff:=by
      cases e:fe.fc with
      | none=>rw [Fe.fc.mp e] at etf;cases etf
      | some n=>exact ⟨n,rfl⟩
     rw [eff] at hF2
     refine Or.inl ⟨_,_,Or.inr (SqT.of hra2),rfl,rfl,_,rfl,gU ?_⟩
     refine ah fun N4 J4=>?_
     refine Or.inl ⟨_,_,Or.inr (SqT.of hra2),rfl,_,aN.k (k:=.inr "first") hF2,_,aN.k (k:=.inr "cost") hF2,_,_,rfl,J4 _ _ ?_⟩
     obtain ⟨mx,hmx⟩:∃mx,mx=(if fe.cost > ff then fe.cost else ff):=⟨_,rfl⟩
     rw [<- hmx]
     have fl0:=Fe.l0
     have fr0:=Fe.r0
     have fcost:=Fe.cost
     have ff0:=Fe.f0 ff eff
     have mx1:ff <= mx/\fe.cost <= mx:=by rw [hmx];split <;> omega
     try dsimp only
     refine Or.inl ⟨_,_,Or.inr (SqT.of hra2),rfl,_,aN.k (k:=.inr "first") hF2,_,aN.k (k:=.inr "cost") hF2,by show 4 <= sizeLine;decide,fun t2 ht2=>?_⟩
     have s3:=aq.upd ht2 (HO.tup [V.str "if",.ref rp',.int (fe.l + mx - ff),.int (fe.l + mx - fe.cost)])
     have tM:t2 ∉ d.M g:=fun z=>alE t2 z ht2
     refine ⟨_,aN.k (k:=.inr "at") (s3 _ _ hF2),Or.inl ⟨_,_,s3 _ _ hR2,wH atl,?_⟩⟩
     refine put _ t2 .fin (fe.l + mx - ff) (fe.l + mx - fe.cost) (fe.l + mx) s3 (by rw [ak];intro z;cases z) tM ⟨t2,rp',rfl,?_,fun o ho=>?_⟩ (by omega) (by omega) (by omega) ev
     ·rw [<- ebk,hbk]
      exact aV tM ak
     ·rw [<- ebk,hbk] at ho
      exact (go2.trans (Go.new s3)).same _ _ (hrp' o ho)
    | loop th m =>
     have eop:fe.op=.loop th m fe.l fe.r:=by unfold Fz.op;rw [hbk];rfl
     rw [eop] at hra2 hrp'
     have bok:=Fe.bk
     rw [hbk] at bok
     have m1:=bok.2.1
     have m3':=bok.2.2
     have fl0:=Fe.l0
     have fcost:=Fe.cost
     refine Or.inl ⟨_,_,Or.inr (SqT.of hra2),rfl,rfl,_,rfl,cS ?_⟩
     refine ⟨_,gE hS2,_,rfl,aI (fun _=>?_) (fun c=>absurd ev c)⟩
     refine ah fun N4 J4=>?_
     refine ⟨_,rfl,Or.inr ⟨ra,_,rfl,SqT.of hra2,(show ¬ (0=0/\4=5) by decide),fun t3 ht3=>?_⟩⟩
     rw [show eZ (V.str (Lr.loop th m fe.l fe.r).w :: (Lr.loop th m fe.l fe.r).tl g.N rp') none (some 4)=[V.str "loop",th.v g.N,.int m,.int fe.l] from rfl]
     obtain ⟨s3,e3⟩:=alc ht3 (HO.tup [V.str "loop",th.v g.N,.int m,.int fe.l])
     generalize upd (upd He d.lo L) t3 _=H3 at s3 e3 ⊢
     refine ⟨_,aN.k (k:=.inr "cost") (s3 _ _ hF2),Or.inl ⟨_,_,Or.inr (SqT.of (s3 _ _ hra2)),rfl,by show 1 <= sizeLine;decide,fun t4 ht4=>?_⟩⟩
     obtain ⟨s4,e4⟩:=alc ht4 (HO.tup [V.int (fe.cost + fe.l)])
     generalize upd H3 t4 _=H4 at s4 e4 ⊢
     refine ⟨t3,t4,_,_,rfl,rfl,SqT.of (s4 _ _ e3),SqT.of e4,(by intro z;cases z),(by show 5 <= sizeLine;decide),(fun z=>by cases z),fun _ t5 ht5=>?_⟩
     have s34:=s3.trans s4
     have s5:=aq.upd ht5 (HO.tup ([V.str "loop",th.v g.N,.int m,.int fe.l] ++ [V.int (fe.cost + fe.l)]))
     have s35:=s34.trans s5
     have tM:t5 ∉ d.M g:=fun z=>alE t5 z (aq.free s34 ht5)
     have e5:upd H4 t5 (HO.tup ([V.str "loop",th.v g.N,.int m,.int fe.l] ++ [V.int (fe.cost + fe.l)])) t5=some (.tup [V.str "loop",th.v g.N,.int m,.int fe.l,.int (fe.cost + fe.l)]):=ak
     generalize upd H4 t5 _=H5 at s5 s35 e5 ⊢
     refine ⟨_,aN.k (k:=.inr "at") (s35 _ _ hF2),Or.inl ⟨_,_,s35 _ _ hR2,wH atl,J4 _ _ ?_⟩⟩
     have raR:ra ≠ g.LR:=fun z=>raM (by rw [z];exact inR g d)
     try dsimp only
     refine Or.inl ⟨_,_,Or.inr (SqT.of (af raR (s35 _ _ hra2))),rfl,_,aN.k (k:=.inr "cost") (af aR (s35 _ _ hF2)),Or.inl ⟨_,_,Or.inr (SqT.of (af raR (s35 _ _ hra2))),rfl,.inl ⟨by omega,by omega⟩,?_⟩⟩
     refine put H5 t5 .fin fe.l (fe.cost + fe.l) (m * (fe.cost + fe.l)) s35 (by rw [e5];intro z;cases z) tM ⟨t5,0,rfl,?_,fun o ho=>?_⟩ (Int.mul_nonneg (by omega) (by omega)) fl0 (by omega) ev
     ·rw [<- ebk,hbk]
      exact aV tM e5
     ·rw [<- ebk,hbk] at ho
      cases ho
   ·have goA:=fin (upd He d.lo L) de.rows 0 f.l f.r (Go.refl _ _) hS2 hO2 hR2 (fun _ _=>rfl) alE rfl (by
     rw [lrse] at hr2
     have:fe.op=f.bk.lr f.l f.r:=by unfold Fz.op;rw [ebk,el,er]
     rw [this] at hr2
     exact hr2) (Int.le_refl _) (by rw [<- el];exact Fe.l0) (by rw [<- er];exact Fe.r0) fun _=>⟨rfl,rfl⟩
    refine ⟨_,gE hS2,_,rfl,aI (fun c=>absurd c ev) (fun _=>cS ?_)⟩
    exact ⟨_,gE hS2,_,rfl,aI (fun c=>absurd c ev) (fun _=>goA)⟩)
  have Ff:=B.ok.fz f (by rw [ez];simp)
  cases hbk:f.bk with
  | iff v =>
   have eop:f.op=.iff v f.l f.r:=by unfold Fz.op;rw [hbk];rfl
   rw [eop] at hra1
   refine Or.inl ⟨_,_,Or.inr (SqT.of hra1),rfl,rfl,_,rfl,gU ?_⟩
   cases ef:f.fst with
   | some tf =>
    obtain ⟨ff,eff⟩:∃ff,f.fc=some ff:=by
     cases e:f.fc with
     | none=>rw [Ff.fc.mp e] at ef;cases ef
     | some n=>exact ⟨n,rfl⟩
    have hF1':=hF1
    rw [eff] at hF1'
    refine ⟨_,aN.k (k:=.inr "first") hF1',rfl,_,rfl,cS ?_⟩
    exact rest H d f B ez ea rfl rfl rfl rfl rfl rfl rfl (fun v' _=>⟨tf,ef⟩) hrv (Go.refl _ _) (by omega)
   | none =>
    have efc:f.fc=none:=Ff.fc.mpr ef
    have hF1':=hF1
    rw [efc] at hF1'
    refine ⟨_,aN.k (k:=.inr "first") hF1',rfl,_,rfl,gU ?_⟩
    refine ⟨g,d,a,at_,f.rank,f.aA,f.cost,none,rfl,hS1,hR1,by omega,hF1',aS,aR,n1,fun t ht=>?_⟩
    have tO:t ≠ d.lo:=fun z=>by rw [z,ak] at ht;cases ht
    have ht0:H t=none:=by rw [aw tO] at ht;exact ht
    have eq:kF (upd H d.lo L) g d t a at_ f.rank f.aA f.cost=upd (kF H g d t a at_ f.rank f.aA f.cost) d.lo L:=by
     unfold kF
     rw [ju (x:=d.lo) (y:=t) tO.symm,ju (x:=d.lo) (y:=g.LR) n3.symm,ju (x:=d.lo) (y:=a) aO.symm]
    rw [eq]
    have Be:=B.els ez ea hbk ef ht0 m3
    rw [<- hat] at Be
    have goe:Go (d.M g) H (d.M g) (kF H g d t a at_ f.rank f.aA f.cost):=((Go.new (aq.upd ht0 _)).trans (Go.at (inR g d) _)).trans (Go.at (inA g d (by rw [ea];simp)) _)
    have lrl:(Gd.lrs g { d with rows:=d.rows ++ [.ref t],fz:=fs ++ [l7 f] }).length=(d.lrs g).length + 1:=by
     have h1:=Paired.length Be.hr
     have h2:=Paired.length B.hr
     rw [<- h1,<- h2]
     simp
    refine rest _ { d with rows:=d.rows ++ [.ref t],fz:=fs ++ [l7 f] } (l7 f) Be rfl ea rfl rfl rfl rfl rfl rfl rfl (fun v' _=>⟨f.rows,rfl⟩) ?_ goe ?_
    ·show (d.rows ++ [V.ref t])[at_]?=_
     rw [List.getElem?_append_left (List.getElem?_eq_some_iff.mp hrv).1]
     exact hrv
    ·unfold mu
     rw [lrl]
     dsimp only
     rw [ez]
     simp only [List.length_append,List.length_singleton]
     omega
  | loop th m =>
   have eop:f.op=.loop th m f.l f.r:=by unfold Fz.op;rw [hbk];rfl
   rw [eop] at hra1
   refine Or.inl ⟨_,_,Or.inr (SqT.of hra1),rfl,rfl,_,rfl,cS (cS ?_)⟩
   exact rest H d f B ez ea rfl rfl rfl rfl rfl rfl rfl (fun v' z=>by rw [hbk] at z;cases z) hrv (Go.refl _ _) (by omega)
end
section
variable {P:Program}{w:World}{K:W.Frag}{mg:Str->Option Value}{base:Heap}{A:Adr}{g:Gc}{d:Gd}{H:Hp}
seal PE PA PS PSs PT PW
theorem uk:∀{dd:List Dl}{e:Dl},(dd.map Dl.nm).Nodup->e ∈ dd->dd.find? (fun d=>decide (d.nm=e.nm))=some e
 | x :: r,e,nd,m=>by
  rw [List.map_cons] at nd
  obtain ⟨n1,n2⟩:=List.nodup_cons.mp nd
  rw [List.find?_cons]
  rcases List.mem_cons.mp m with rfl | m
  ·rw [decide_eq_true rfl]
  ·rw [decide_eq_false (fun z=>n1 (by rw [z];exact List.mem_map_of_mem m))]
   exact uk n2 m
def vm (K:W.Frag):Sp:=fun vs H Q _=>∃(g:Gc) (d:Gd) (c:Int) (lo:Bool),vs=[.ref g.S,.int c,.bl lo]/\fV g/\BAt g H d/\mu g d + 3 <= 1000/\xD g d H Q .non
theorem xk (T:Txt K mg A):Has P w K mg base 6 "_law_called" ["_law_state","_law_cell","_law_loose"] (vm K):=by
 have D_law_fit:=qI (P:=P) (w:=w) (base:=base) T
 have D_law_mix:=kA (P:=P) (w:=w) (base:=base) T
 have D_law_thing:=mz (P:=P) (w:=w) (base:=base) T
 have D_law_add:=qL (P:=P) (w:=w) (base:=base) T
 have D_law_plain:=mC (P:=P) (w:=w) (base:=base) T
 refine T.nZ.has (k:=5) cj (fun vs H Q E h=>?_) (fun f cdv A' outer s H vs Q E hr hu h=>?_)
 ·obtain ⟨g,d,c,lo,rfl,_⟩:=h
  rfl
 ·obtain ⟨g,d,c,lo,rfl,O,B,m3,q⟩:=h
  obtain ⟨a,at_,rank,aA,cost,fc,T1⟩:=B.top O
  have vb:∀j ∈ g.vk,j < 25:=fun j hj=>(O.vb j hj).1
  have dl:=O.dl
  have dvk:∀i ∈ g.dd.map Dl.nm,i ∈ g.vk:=fun i hi=>by
   obtain ⟨e,he,rfl⟩:=List.mem_map.mp hi
   exact (O.dv e he).1
  refine ⟨_,(ae (ay (i:=3) cj.nd rfl (Or.inl rfl) (px hu (px hu (fv 0) aj) (fB dw ab)))
  (ae (ay (i:=4) cj.nd rfl (Or.inl rfl) (au D_law_fit hr (aa (fv 0) (aa (bE p9 rfl T.di (by boot_by_name) (aa (px hu (fv 0) aj) ag)) (aa (fv 2) (aa (px hu (fv 3) aj) (aa ab ag)))))))
  (ae (ba (aC (bV hu) (aH b9 rfl T.cD (by boot_by_name) (aa (fv 4) ag)) ab (aG _))
   (ae (aL (au D_law_plain hr (aa (fv 0) (aa (fv 1) (aa ab (aa (fv 2) ag))))))
   (ao (pH)))
   aT)
  (ae (ay (i:=5) cj.nd rfl (Or.inl rfl) (px hu (fv 4) (au D_law_mix hr (aa (fv 1) (aa ab (aa (aH b9 rfl T.cD (by boot_by_name) (aa (fv 4) ag)) ag))))))
  (ae (ay (i:=6) cj.nd rfl (Or.inl rfl) (px hu (px hu (fv 0) aj) (fv 5)))
  (ae (ay (i:=7) cj.nd rfl (Or.inl rfl) (bD ag))
  (ae (d5 PassesOwn.never rfl (dG (px hu (fv 6) ab)) (pgn (i:=8) cj.nd rfl)
   (ae (ay (i:=9) cj.nd rfl (Or.inl rfl) (px hu (bD (aa (px hu (px hu (fv 0) aj) (fv 8)) (aa ab ag))) (bE kZ rfl T.j3 (by boot_by_name) (aa (fv 2) ag))))
   (ao (aL (bW (fv 7) (aa (au D_law_thing hr (aa (fv 0) (aa (fv 1) (aa (ax bp ab (aH b9 rfl T.cD (by boot_by_name) (aa (fv 7) ag))) (aa (fv 9) ag))))) ag))))))
  (ao (ba (cK (au D_law_add hr (aa (fv 0) (aa (bf (aa aj (aa (fv 5) (aa (fv 7) ag)))) (aa (ax bp ab (px hu (fv 6) ab)) ag)))) (fun _=>rfl))
   (ao (bR (ax bp (px hu (fv 3) aj) (px hu (fv 6) ab)) (bP (fv 3) aj (bO hu set_list))))
   aT))))))))),?_⟩
  refine ⟨_,aN.k (k:=.inr "open") B.dy.hS,_,rfl,Or.inl ⟨_,_,Or.inl (SqL.of B.dy.hO),T1.last,?_⟩⟩
  try dsimp only
  refine ah fun M1 K1=>?_
  obtain ⟨ts,hd1,hd2⟩:=B.st.hd
  refine ⟨_,aN.k (k:=.inr "deeds") B.dy.hS,Or.inr ⟨g.LD,_,rfl,.inl (bG _ _ hd1),fun l hl=>?_⟩⟩
  have ek:((dk g.N (g.dd.map Dl.nm) fun i=>V.ref (ts i)).map fun kv=>kV kv.1)=nV g.N (g.dd.map Dl.nm):=by
   unfold dk
   rw [List.map_map]
   rfl
  rw [ek]
  obtain ⟨s1,e1⟩:=alc hl (HO.lst (nV g.N (g.dd.map Dl.nm)))
  generalize upd H l _=H1 at s1 e1 ⊢
  have B1:=B.same s1
  refine ⟨_,aN.k (k:=.inr "rank") (s1 _ _ T1.fr),g,d,l,lo,rank,2,g.dd.map Dl.nm,rfl,O,B1,SqL.of e1,dvk,by rw [List.length_map];omega,fun D ys H2 s2 hD eD F=>K1 _ _ ?_⟩
  have B2:=B1.same s2
  have e:(((nV g.N ys).length:Nat):Int)=(ys.length:Int):=by rw [List.length_map]
  try dsimp only
  refine ah fun M2 K2=>?_
  refine Or.inl ⟨_,_,rfl,Or.inl ⟨_,SqL.of eD,rfl⟩,rfl,_,rfl,aI (fun _=>?_) (fun z=>K2 _ _ ?_)⟩
  ·exact ⟨g,d,c,0,lo,rfl,O,B2,m3,fun d' H' go B' mu'=>q d' H' ((Go.new (s1.trans s2)).trans go) B' mu'⟩
  have y0:0 < ys.length:=by
   rw [Cf,decide_eq_true_iff,e] at z
   omega
  try dsimp only
  refine ah fun M3 K3=>?_
  refine Or.inl ⟨_,_,rfl,Or.inl ⟨_,SqL.of eD,rfl⟩,c,0,_,rfl,by decide,(by rw [e];omega),fun k2 H3 b0 b1 s3=>?_⟩
  rw [e] at b1
  obtain ⟨x,hx,_,hax⟩:=ki (fun i=>V.str (g.N i)) b0 b1
  refine Or.inl ⟨_,_,Or.inl (SqL.of (s3 _ _ eD)),hax,K3 _ _ ?_⟩
  have B3:=B2.same s3
  have t3:=(s1.trans s2).trans s3
  obtain ⟨dl',hdl,rfl⟩:=List.mem_map.mp (F.sub x hx)
  obtain ⟨ts3,hd3,hd4⟩:=B3.st.hd
  obtain ⟨he1,he2⟩:=hd4 dl' hdl
  have he1':=bG _ _ he1
  have he2':=bG _ _ he2
  obtain ⟨dv1,dv2,dv3,dv4,dv5⟩:=O.dv dl' hdl
  try dsimp only
  refine ah fun M4 K4=>?_
  refine ⟨_,aN.k (k:=.inr "deeds") B3.dy.hS,_,kg O.D (.inl (bG _ _ hd3)) (fun j hj=>vb j (dvk j hj)) (List.mem_map_of_mem hdl),K4 _ _ ?_⟩
  try dsimp only
  refine ah fun M5 K5=>?_
  refine ⟨Nat.zero_le _,fun D5 hD5=>K5 _ _ ?_⟩
  have D5M:=B3.free hD5
  obtain ⟨s5,e5⟩:=alc hD5 (HO.lst [])
  generalize upd H3 D5 _=H5 at s5 e5 ⊢
  have D5p:D5 ≠ dl'.lp:=fresh_ne hD5 he2'
  try dsimp only
  refine ah fun M6 K6=>?_
  refine Or.inl ⟨_,_,Or.inr (SqT.of (s5 _ _ he1')),rfl,?_⟩
  refine Or.inl ⟨⟨_,SqL.of (s5 _ _ he2')⟩,dM (K:=K) (xs:=nV g.N dl'.ps) (fun i σ Hc=>aq H3 Hc/\(∃ths:List Th,Hc D5=some (.lst (ths.map (Th.v g.N)))/\ths.length=i/\∀t ∈ ths,t.ok g.ns)/\∃v8 v9,σ=[some (.ref g.S),some (.int c),some (.bl lo),some (.ref a),some (.ref D),some (.str (g.N dl'.nm)),some (.ref (ts3 dl'.nm)),some (.ref D5),v8,v9]) ⟨s5,⟨[],e5,rfl,fun _ z=>(by cases z)⟩,none,none,rfl⟩ (fun i σ Hc _ ⟨sc,_⟩=>SqL.of (sc _ _ he2')) ?_ ?_⟩
  ·rintro i v σ Hc hv ⟨sc,⟨ths,eh,hlen,hok⟩,v8,v9,rfl⟩
   have hv':(nV g.N dl'.ps)[i]?=some v:=hv
   rw [List.getElem?_map] at hv'
   obtain ⟨pt,hpt,rfl⟩:=Option.map_eq_some_iff.mp hv'
   have ptv:=dv5 pt (List.mem_of_getElem? hpt)
   have il:i < 2:=by
    have:=(List.getElem?_eq_some_iff.mp hpt).1
    omega
   have Bc:=B3.same sc
   try dsimp only
   refine ah fun N1 J1=>?_
   refine ⟨_,aN.k (k:=.inr "view") Bc.dy.hS,_,kg O.D (.inl (bG _ _ Bc.st.hv)) vb ptv,by show 2 <= sizeLine;decide,fun l2 hl2=>?_⟩
   obtain ⟨s6,e6⟩:=alc hl2 (HO.lst [V.int (g.vw pt),.int 2])
   generalize upd Hc l2 _=H6 at s6 e6 ⊢
   obtain ⟨hi',ehi⟩:∃hi:Int,atI [V.int (g.vw pt),.int 2] (b01 lo)=some (.int hi):=by cases lo <;> exact ⟨_,rfl⟩
   refine ⟨_,rfl,Or.inl ⟨_,_,Or.inl (SqL.of e6),ehi,J1 _ _ ?_⟩⟩
   have B6:=Bc.same s6
   have eh6:=s6 _ _ eh
   have el:(((ths.map (Th.v g.N)).length:Nat):Int)=(i:Int):=by rw [List.length_map,hlen]
   try dsimp only
   refine ⟨Or.inl ⟨rfl,_,SqL.of eh6⟩,Or.inl ⟨_,_,rfl,Or.inl ⟨_,SqL.of eh6,rfl⟩,g,d,c,1 + i,hi',(by rw [el];rfl),O,B6,by omega,fun t H7 s7 ht=>?_⟩⟩
   refine ⟨_,_,_,rfl,rfl,s7 _ _ eh6,aD (by rw [List.length_map];omega),aq.out ((sc.trans s6).trans s7) hD5 _,⟨ths ++ [t],?_,by simp [hlen],fun t' ht'=>?_⟩,_,_,rfl⟩
   ·rw [ak,List.map_append]
    rfl
   ·rcases List.mem_append.mp ht' with z | z
    ·exact hok t' z
    ·rw [List.mem_singleton.mp z];exact ht
  rintro σ Hc ⟨sc,⟨ths,eh,hlen,hok⟩,v8,v9,rfl⟩
  have hlen:ths.length=dl'.ps.length:=by rw [hlen,List.length_map]
  refine K6 _ _ ?_
  have Bc:=B3.same sc
  have tc:=t3.trans sc
  have he1c:=sc _ _ he1'
  try dsimp only
  refine ⟨by show 3 <= sizeLine;decide,fun rw' hrw=>?_⟩
  have s6:=aq.upd hrw (HO.tup [V.str "call",.str (g.N dl'.nm),.ref D5])
  have e6:upd Hc rw' (HO.tup [V.str "call",.str (g.N dl'.nm),.ref D5]) rw'=some (.tup [V.str "call",.str (g.N dl'.nm),.ref D5]):=ak
  generalize upd Hc rw' _=H6 at s6 e6 ⊢
  have B6:=Bc.same s6
  have t6:=tc.trans s6
  have T6:=T1.same t6
  have go6:Go (d.M g) H (d.M g) H6:=Go.new t6
  have hrow:bK g.N (del (d.M g) H6) (.ref rw') (.call dl'.nm ths):=⟨rw',D5,rfl,Bc.new s6 hrw e6,fun o ho=>by
   cases ho
   exact aV D5M (s6 _ _ eh)⟩
  refine Or.inl ⟨_,.int dl'.sp,Or.inr (SqT.of (s6 _ _ he1c)),rfl,?_⟩
  have rl:d.rows.length <= 1000:=by
   have:=Paired.length B6.hr
   unfold mu at m3
   omega
  have cs:rK g.dd (.call dl'.nm ths) <= 1 + dl'.sp:=by
   show (match g.dd.find? (fun d=>decide (d.nm=dl'.nm)) with
    | some d=>1 + d.sp
    | none=>1) <= 1 + dl'.sp
   rw [uk O.dn hdl]
   exact Int.le_refl _
  refine ⟨g,d,.ref rw',1 + dl'.sp,a,at_,rank,aA,cost,fc,rfl,B6.dy,B6.ok.nd,rl,T6,⟨false,rfl,cS (q d H6 go6 B6 (by omega))⟩,fun fit=>⟨true,rfl,gU ?_⟩⟩
  obtain ⟨d7,M7,B7,mu7,_,T7,_⟩:=B6.add O T6 hrow ⟨dl',hdl,rfl,hlen,hok⟩ cs (by omega) fit m3
  have go7:Go (d.M g) H (d7.M g) (dQ H6 g d (.ref rw') (1 + dl'.sp) a at_ rank aA cost fc):=by
   rw [M7]
   exact go6.trans (kH T6)
  have tsM:ts3 dl'.nm ∉ d.M g:=(bg he1).1
  have he7:dQ H6 g d (.ref rw') (1 + dl'.sp) a at_ rank aA cost fc (ts3 dl'.nm)=some (.tup [.ref dl'.lp,.int dl'.sp,.int dl'.co]):=by
   rw [qk (fun z=>tsM (by rw [z];exact inS g d)) (fun z=>tsM (by rw [z];exact inR g d)) (fun z=>tsM (by rw [z];exact T1.mem))]
   exact s6 _ _ he1c
  generalize dQ H6 g d (.ref rw') (1 + dl'.sp) a at_ rank aA cost fc=H7 at B7 T7 go7 he7 ⊢
  obtain ⟨d8,L8,B8,T8⟩:=B7.bump T7 (c:=cost + 1 + dl'.co) (by have:=T1.c0;omega)
  refine ⟨_,aN.k (k:=.inr "cost") T7.fr,Or.inl ⟨_,_,Or.inr (SqT.of he7),rfl,_,cZ.k (k:=.inr "cost") T7.fr (show 5 < sizeLine by decide),?_⟩⟩
  refine q d8 _ ?_ B8 (by unfold mu;rw [L8.lrs,L8.len];exact mu7)
  rw [L8.M]
  exact go7.trans (Go.at T7.mem _)
end
section
variable {P:Program}{w:World}{K:W.Frag}{mg:Str->Option Value}{base:Heap}{A:Adr}{g:Gc}{d:Gd}{H:Hp}
seal PE PA PS PSs PT PW
theorem wD:∀{fs:List Fz}{b x:Nat},x ∈ ats b fs->x < b + (bh fs).length
 | f :: r,b,x,h=>by
  simp only [ats,List.mem_cons] at h
  simp only [bh,List.length_cons,List.length_append]
  rcases h with rfl | h
  ·omega
  ·have:=wD h
   omega
def Ah:Bk->Bool
 | .loop _ _=>true
 | .iff _=>false
def lpV (d:Gd) (v:V):Bool:=(d.as.zip d.fz).any fun q=>decide (v=.ref q.1) && Ah q.2.bk
theorem xY (nd:d.as.Nodup) (len:d.as.length=d.fz.length) {i:Nat}{a:Addr}{f:Fz} (ha:d.as[i]?=some a) (hf:d.fz[i]?=some f):lpV d (.ref a)=Ah f.bk:=by
 unfold lpV
 rw [Bool.eq_iff_iff,List.any_eq_true]
 constructor
 ·rintro ⟨⟨b,f'⟩,hm,e⟩
  rw [Bool.and_eq_true,decide_eq_true_iff] at e
  obtain ⟨j,hj⟩:=List.getElem?_of_mem hm
  rw [List.getElem?_zip_eq_some] at hj
  obtain ⟨e1,e2⟩:=e
  have eb:a=b:=V.ref.inj e1
  obtain ⟨la,ea⟩:=List.getElem?_eq_some_iff.mp ha
  obtain ⟨lb,eb'⟩:=List.getElem?_eq_some_iff.mp hj.1
  have ij:i=j:=(List.getElem_inj nd).mp (by rw [ea,eb',eb])
  rw [<- ij,hf] at hj
  cases hj.2
  exact e2
 ·exact fun e=>⟨(a,f),List.mem_of_getElem? (List.getElem?_zip_eq_some.mpr ⟨ha,hf⟩),by rw [decide_eq_true rfl,e];rfl⟩
theorem qX (dy:kS H g d) {a:Addr} (m:a ∈ d.as):∃(i:Nat) (f:Fz),d.as[i]?=some a/\d.fz[i]?=some f/\H a=some (.dK (fzK ((ats (d.b g) d.fz)[i]?.getD 0,f)))/\(ats (d.b g) d.fz)[i]?=some ((ats (d.b g) d.fz)[i]?.getD 0):=by
 obtain ⟨i,hi⟩:=List.getElem?_of_mem m
 obtain ⟨⟨x,f⟩,h1,h2⟩:=bX dy.hf hi
 rw [List.getElem?_zip_eq_some] at h1
 exact ⟨i,f,hi,h1.2,by rw [h1.1];exact h2,by rw [h1.1];rfl⟩
theorem zt {i:Nat}:∀{fs:List Fz}{b:List Lr}{f:Fz}{x:Nat},fs[i]?=some f->(ats b.length fs)[i]?=some x->(b ++ bh fs)[x]?=some f.op:=by
 induction i with
 | zero =>
  intro fs b f x h1 h2
  cases fs with
  | nil=>cases h1
  | cons y r =>
   simp only [List.getElem?_cons_zero,Option.some.injEq] at h1
   simp only [ats,List.getElem?_cons_zero,Option.some.injEq] at h2
   subst h1 h2
   simp [bh]
 | succ i ih =>
  intro fs b f x h1 h2
  cases fs with
  | nil=>cases h1
  | cons y r =>
   simp only [List.getElem?_cons_succ] at h1
   simp only [ats,List.getElem?_cons_succ] at h2
   have:=ih (fs:=r) (b:=b ++ (y.op :: y.eI)) (f:=f) (x:=x) h1 (by rw [show (b ++ (y.op :: y.eI)).length=b.length + 1 + y.eI.length by simp;omega];exact h2)
   simpa [bh] using this
theorem sG {t:TT}{b o:TS}{D:Ends}{σ:St}{H:Hp} (h:∀X:St->Hp->Prop,(∀σ H,o D σ H->X σ H)->t σ H fun c H1=>if c=true then b D σ H1 else X σ H1):BD t b o D σ H:=h (o D) fun _ _ z=>z
def uE (K:W.Frag):Sp:=fun vs H Q _=>∃(g:Gc) (d:Gd) (c k:Int) (lo:Bool),vs=[.ref g.S,.int c,.int k,.bl lo]/\fV g/\BAt g H d/\mu g d + 3 <= 1000/\xD g d H Q .non
theorem wa (T:Txt K mg A):Has P w K mg base 6 "_law_turned" ["_law_state","_law_cell","_law_kind","_law_loose"] (uE K):=by
 have D_law_add:=qL (P:=P) (w:=w) (base:=base) T
 have D_law_else:=xO (P:=P) (w:=w) (base:=base) T
 have D_law_closed:=rJ (P:=P) (w:=w) (base:=base) T
 have D_law_plain:=mC (P:=P) (w:=w) (base:=base) T
 refine T.mX.has (k:=5) fY (fun vs H Q E h=>?_) (fun f cdv A' outer s H vs Q E hr hu h=>?_)
 ·obtain ⟨g,d,c,k,lo,rfl,_⟩:=h
  rfl
 ·obtain ⟨g,d,c,k,lo,rfl,O,B,m3,q⟩:=h
  obtain ⟨a,at_,rank,aA,cost,fc,T1⟩:=B.top O
  obtain ⟨nd1,nd2⟩:=rj B.ok.nd
  obtain ⟨n1,n2,n3,n4⟩:=fQ B.ok.nd
  have la:=Paired.length B.dy.hf
  rw [List.length_zip,fh,Nat.min_self] at la
  have fl:=B.ok.fl
  have rl:d.rows.length <= 1000:=by
   have:=Paired.length B.hr
   unfold mu at m3
   omega
  refine ⟨_,(ae (ay (i:=4) fY.nd rfl (Or.inl rfl) (px hu (px hu (fv 0) aj) (fB dw ab)))
  (ae (kf (j:=5) (N:=["_law_one","_law_state"]) (own:=1) (fr:=[0]) (cV.of (by kernel_rfl!)) rfl fY.nd rfl (Or.inl rfl) (dG (cc dj (px hu (fv 0) aj) (bJ ab) ik)) (fun b=>pgn (i:=0) (show List.Nodup (["_law_one","_law_state"]:List PySem.Str) by decide +kernel) rfl) (fun b=>pP (aC (bV hu) (px hu (px hu (px hu (fv 1) aj) (px hu (fv 0) aj)) ab) aj (aG _))) (fun b=>fv 0))
  (ao (ba (PW.pt (pw_and (aC (bV hu) (fv 2) ab (aG _)) (pw_and (aC (ou) (aH b9 rfl T.cD (by boot_by_name) (aa (fv 5) ag)) ab (aG _)) (pw_and1 (PW.pt (pw_or (cK (fv 3) (fun _=>rfl)) (pw_or1 (aC (Am) (px hu (fv 4) aj) (px hu (px hu (fv 5) (fB dw ab)) aj) (aG _)))))))))
   (ao (aL (au D_law_add hr (aa (fv 0) (aa (bf (aa aj ag)) (aa ab ag))))))
   (ao (ba (PW.pt (pw_and (aC (bV hu) (fv 2) ab (aG _)) (pw_and (aC (ou) (aH b9 rfl T.cD (by boot_by_name) (aa (px hu (fv 0) aj) ag)) ab (aG _)) (pw_and (aC (xa hu) (fv 4) (fv 5) ((by with_unfolding_all rfl))) (pw_and1 (aC (A7) (px hu (fv 4) aj) jf (aG _)))))))
    (ao (aL (au D_law_else hr (aa (fv 0) (aa (fv 4) ag)))))
    (ao (ba (PW.pt (pw_and (aC (ou) (fv 2) ab (aG _)) (pw_and1 (aC (ou) (aH b9 rfl T.cD (by boot_by_name) (aa (px hu (fv 0) aj) ag)) ab (aG _)))))
     (ao (aL (au D_law_closed hr (aa (fv 0) ag))))
     (ao (aL (au D_law_plain hr (aa (fv 0) (aa (fv 1) (aa (ax bp (ax cC (fv 2) ab) ab) (aa (fv 3) ag))))))))))))))),?_⟩
  refine ⟨_,aN.k (k:=.inr "open") B.dy.hS,_,rfl,Or.inl ⟨_,_,Or.inl (SqL.of B.dy.hO),T1.last,?_⟩⟩
  try dsimp only
  refine ah fun M1 K1=>?_
  refine ⟨_,aN.k (k:=.inr "open") B.dy.hS,_,rfl,Or.inl ⟨d.lo,_,rfl,SqL.of B.dy.hO,fun l1 hl1=>?_⟩⟩
  have ec:eZ (V.ref d.a0 :: d.as.map V.ref) (some 1) none=d.as.map V.ref:=by
   unfold eZ
   rw [show HT.sIx (V.ref d.a0 :: d.as.map V.ref).length 0 (some 1)=1 by show min 1 (d.as.map V.ref).length.succ=1;omega]
   show (d.as.map V.ref).take (d.as.map V.ref).length=_
   exact List.take_length
  rw [ec]
  obtain ⟨s1,e1⟩:=alc hl1 (HO.lst (d.as.map V.ref))
  generalize upd H l1 _=H1 at s1 e1 ⊢
  have B1:=B.same s1
  refine Or.inl ⟨⟨_,SqL.of e1⟩,k7 (K:=K) (lpV d) (fun x=>x) (SqL.of e1) (aD (by rw [List.length_map];omega)) (fun b' x H2 R hm s2 kk=>?_) (fun b' x H2 R hm hp s2 kk=>kk _ (aq.refl _)) (fun D H2 hD s2 eD=>K1 _ _ ?_)⟩
  ·obtain ⟨x',hx',rfl⟩:=List.mem_map.mp hm
   have B2:=B1.same s2
   obtain ⟨i,fr,h1,h2,h3,h4⟩:=qX B2.dy hx'
   rw [xY nd2 (by omega) h1 h2] at kk
   have gx:=zt h2 h4 (b:=g.pre ++ aP d.bs)
   have hl:=Paired.length B2.hr
   have li:(ats (d.b g) d.fz)[i]?.getD 0 < d.rows.length:=by
    rw [hl]
    exact (List.getElem?_eq_some_iff.mp gx).1
   obtain ⟨y,y1,y2⟩:=bX B2.hr (List.getElem?_eq_getElem li)
   have gx':(d.lrs g)[(ats (d.b g) d.fz)[i]?.getD 0]?=some fr.op:=gx
   rw [gx'] at y1
   cases y1
   obtain ⟨ra,rp,er,hra,_⟩:=y2
   refine ⟨_,aN.k (k:=.inr "rows") B2.dy.hS,_,aN.k (k:=.inr "at") h3,Or.inl ⟨_,_,Or.inl (SqL.of B2.dy.hR),aB (List.getElem?_eq_getElem li),?_⟩⟩
   rw [er]
   refine Or.inl ⟨_,.str fr.op.w,Or.inr (SqT.of (bG _ _ hra)),aB (j:=0) rfl,rfl,_,rfl,?_⟩
   have ew:decide (V.str fr.op.w=V.str "loop")=Ah fr.bk:=by
    unfold Fz.op
    cases fr.bk <;> rfl
   rw [ew]
   exact kk _ (aq.refl _)
  obtain ⟨bs,hbs⟩:∃bs:List Addr,bs=d.as.filter (fun a=>lpV d (.ref a)):=⟨_,rfl⟩
  have eD':H2 D=some (.lst (bs.map V.ref)):=by
   rw [eD,List.map_id',List.filter_map,hbs]
   rfl
  have bsub:∀b ∈ bs,b ∈ d.as:=fun b hb=>by rw [hbs] at hb;exact (List.mem_filter.mp hb).1
  have B2:=B1.same s2
  have t2:=s1.trans s2
  have T2:=T1.same t2
  have go2:Go (d.M g) H (d.M g) H2:=Go.new t2
  have eo:(((V.ref d.a0 :: d.as.map V.ref).length:Nat):Int)=(d.as.length:Int) + 1:=by simp
  have eb:(((bs.map V.ref).length:Nat):Int)=(bs.length:Int):=by rw [List.length_map]
  clear eD e1 hl1 hD B1 s1 s2
  try dsimp only
  have plain:nh K [.ref g.S,.int c,.int (k % 4 + 4),.bl lo] H2 (fun _ H'=>Q .non H') E0:=⟨g,d,c,k % 4 + 4,lo,rfl,O,B2,m3,fun d' H' go B' mu'=>q d' H' (go2.trans go) B' mu'⟩
  refine sG fun X1 J1=>?_
  have x1:X1 [some (.ref g.S),some (.int c),some (.int k),some (.bl lo),some (.ref a),some (.ref D)] H2:=J1 _ _ (by
   refine sG fun X2 J2=>?_
   have x2:X2 [some (.ref g.S),some (.int c),some (.int k),some (.bl lo),some (.ref a),some (.ref D)] H2:=J2 _ _ (by
    refine sG fun X3 J3=>?_
    have x3:X3 [some (.ref g.S),some (.int c),some (.int k),some (.bl lo),some (.ref a),some (.ref D)] H2:=J3 _ _ ⟨(by show (0:Int) < 4;decide),plain⟩
    refine ⟨_,rfl,aI (fun _=>?_) (fun _=>cS x3)⟩
    refine ⟨_,aN.k (k:=.inr "open") B2.dy.hS,Or.inl ⟨_,_,rfl,Or.inl ⟨_,SqL.of B2.dy.hO,rfl⟩,_,rfl,aI (fun z=>?_) (fun _=>x3)⟩⟩
    have z:=of_decide_eq_true z
    rw [eo] at z
    exact ⟨g,d,rfl,O,B2,(fun e=>by rw [e] at la;simp at la;rw [la] at z;simp at z),m3,fun d' H' go B' mu' _=>q d' H' (go2.trans go) B' (by omega)⟩)
   refine ⟨rfl,_,rfl,aI (fun _=>?_) (fun _=>cS x2)⟩
   refine ⟨_,aN.k (k:=.inr "open") B2.dy.hS,Or.inl ⟨_,_,rfl,Or.inl ⟨_,SqL.of B2.dy.hO,rfl⟩,_,rfl,aI (fun z=>?_) (fun _=>cS x2)⟩⟩
   have z:=of_decide_eq_true z
   rw [eo] at z
   rcases T2.cases B2.dy with ⟨_,eas,_⟩ | ⟨fs,f,us,ez,eas,pu,et,er,eh,ec',ef⟩
   ·rw [eas] at z
    simp at z
   have iu:d.as[us.length]?=some a:=by rw [eas];simp
   have fu:d.fz[us.length]?=some f:=by
    have e1:us.length=fs.length:=by
     rw [eas,ez] at la
     simpa using la
    rw [ez,e1]
    simp
   have lpa:=xY nd2 la iu fu
   refine ⟨a,D,bs,rfl,rfl,SqL.of eD',(fun b hb ne=>?_),_,rfl,aI (fun z1=>?_) (fun _=>cS x2)⟩
   ·have hb':=bsub b hb
    rw [eas] at hb'
    rcases List.mem_append.mp hb' with hu | hu
    ·obtain ⟨j,hj⟩:=List.getElem?_of_mem hu
     obtain ⟨⟨x,f'⟩,h1,h2⟩:=bX pu hj
     rw [List.getElem?_zip_eq_some] at h1
     have lt:=wD (List.mem_of_getElem? h1.1)
     exact ⟨ne,.inr "at",(x:Int),(at_:Int),_,_,.inl h2,.inl T2.fr,rfl,by omega⟩
    ·exact absurd (List.mem_singleton.mp hu) ne
   ·have nb:a ∉ bs:=fun m=>by
     rw [decide_eq_true m] at z1
     cases z1
    have ib:∃v,f.bk=.iff v:=by
     cases eb':f.bk with
     | iff v=>exact ⟨v,rfl⟩
     | loop th m =>
      rw [eb'] at lpa
      exact absurd (by rw [hbs];exact List.mem_filter.mpr ⟨by rw [eas];simp,lpa⟩) nb
    obtain ⟨v,ib⟩:=ib
    refine ⟨_,aN.k (k:=.inr "first") T2.fr,rfl,_,rfl,aI (fun z2=>?_) (fun _=>x2)⟩
    have fn:fc=none:=by
     have z2:=of_decide_eq_true z2
     cases fc with
     | none=>rfl
     | some n=>cases z2
    have Ff:=B2.ok.fz f (by rw [ez];simp)
    have nf:f.fst=none:=Ff.fc.mp (by rw [<- ef];exact fn)
    refine ⟨g,d,a,at_,rank,aA,cost,fc,rfl,B2.dy.hS,B2.dy.hR,rl,T2.fr,T2.nS,T2.nR,n1,fun t ht=>?_⟩
    have Be:=B2.els ez eas ib nf ht m3
    rw [<- et,<- er,<- eh,<- ec'] at Be
    have goe:Go (d.M g) H2 (d.M g) (kF H2 g d t a at_ rank aA cost):=((Go.new (aq.upd ht _)).trans (Go.at (inR g d) _)).trans (Go.at T2.mem _)
    refine q { d with rows:=d.rows ++ [.ref t],fz:=fs ++ [l7 f] } _ (go2.trans goe) Be ?_
    have h1:=Paired.length Be.hr
    have h2:=Paired.length B2.hr
    have h3:(d.rows ++ [V.ref t]).length=d.rows.length + 1:=by simp
    have h4:(fs ++ [l7 f]).length=d.fz.length:=by rw [ez];simp
    unfold mu
    dsimp only at h1 ⊢
    omega)
  have addL:∀t,H2 t=none->rT [.ref g.S,.ref t,.int 1] (upd H2 t (.tup [.str "last"])) (fun _ H'=>Q .non H') E0:=fun t ht=>by
   have s3:=aq.upd ht (HO.tup [V.str "last"])
   have B3:=B2.same s3
   have T3:=T2.same s3
   have go3:Go (d.M g) H (d.M g) (upd H2 t (HO.tup [V.str "last"])):=go2.trans (Go.new s3)
   refine rF O (H:=H) B3 go3 m3 T3 (r:=.last) ⟨t,0,rfl,B2.new s3 ht ak,fun o ho=>by cases ho⟩ True.intro (Int.le_refl _) (by decide) (q d _ go3 B3 (by omega)) fun d' M' B' mu' _=>?_
   exact q d' _ (by rw [M'];exact go3.trans (kH T3)) B' mu'
  refine ⟨rfl,_,rfl,aI (fun _=>?_) (fun _=>cS x1)⟩
  refine Or.inl ⟨_,_,rfl,Or.inl ⟨_,SqL.of eD',rfl⟩,_,rfl,aI (fun z=>?_) (fun _=>cS x1)⟩
  have z:=of_decide_eq_true z
  rw [eb] at z
  cases lo with
  | true=>exact ⟨true,rfl,gU ⟨by show 1 <= sizeLine;decide,fun t ht=>addL t ht⟩⟩
  | false =>
   refine ⟨false,rfl,cS ?_⟩
   obtain ⟨cs,b,eb'⟩:∃cs b,bs=cs ++ [b]:=(jw bs).resolve_left fun e=>by rw [e] at z;simp at z
   obtain ⟨i,fb,h1,h2,h3,h4⟩:=qX B2.dy (bsub b (by rw [eb'];simp))
   refine ⟨_,aN.k (k:=.inr "rank") T2.fr,_,rfl,Or.inl ⟨_,.ref b,Or.inl (SqL.of eD'),(by rw [eb',List.map_append];exact hE _ _),_,aN.k (k:=.inr "rank") h3,_,rfl,aI (fun _=>?_) (fun _=>x1)⟩⟩
   exact ⟨by show 1 <= sizeLine;decide,fun t ht=>addL t ht⟩
end
section
variable {P:Program}{w:World}{K:W.Frag}{mg:Str->Option Value}{base:Heap}{A:Adr}{g:Gc}{d:Gd}{H:Hp}
seal PE PA PS PSs PT PW
def yK (g:Gc) (lm:Addr):List (Key × V):=[(.inr "rows",.ref g.LR),(.inr "view",.ref g.LV),(.inr "deeds",.ref g.LD),(.inr "mode",.int g.mode),(.inr "even",.bl g.ev),(.inr "marks",.ref lm),(.inr "hands",.ref g.LH),(.inr "lists",.ref g.LL),(.inr "targets",.ref g.LT),(.inr "numbers",.ref g.LN)]
structure xC (g:Gc) (H:Hp) (lm:Addr) (marks:List Nat) (rows:List V):Prop where
 hS:H g.S=some (.dK (yK g lm)) \/ ∃x y z,H g.S=some (.dK (yK g lm ++ [(.inr "open",x),(.inr "spent",y),(.inr "limit",z)]))
 hR:H g.LR=some (.lst rows)
 ne:g.S ≠ g.LR
 st:sJ (del [g.S,g.LR] H) g
 hm:del [g.S,g.LR] H lm=some (.lst (nV g.N marks))
 hr:Paired (bK g.N (del [g.S,g.LR] H)) rows g.pre
 mks:∀m ∈ marks,m ∈ [11,12]
 ml:marks.length <= 2
structure BL (g:Gc) (H:Hp) (d:Gd) (rows:List V):Prop where
 hS:H g.S=some (.dK (stK g d))
 hR:H g.LR=some (.lst rows)
 hO:H d.lo=some (.lst [.ref d.a0])
 h0:H d.a0=some (.dK (frK 0 g.br 1 d.bc none))
 no:d.lo ≠ g.S/\d.lo ≠ g.LR/\d.a0 ≠ g.S/\d.a0 ≠ g.LR
 st:sJ (del [g.S,g.LR] H) g
 hm:del [g.S,g.LR] H d.lm=some (.lst (nV g.N d.marks))
 hr:Paired (bK g.N (del [g.S,g.LR] H)) rows (g.pre ++ aP d.bs ++ [.fin])
 mks:∀m ∈ d.marks,m ∈ [11,12]
 ml:d.marks.length <= 2
 bs:df g.ns g.tg g.dd d.bs
 bc:0 <= d.bc
 sp:0 <= d.spent/\(d.spent <= g.lim \/ d.spent=0)
 pay:g.ev=false->cm g.dd 1 d.bs <= d.spent
def ye (K:W.Frag):Sp:=fun vs H Q _=>∃(g:Gc) (cl lm:Addr) (cells:List Int) (marks:List Nat) (rows:List V),vs=[.ref g.S,.ref cl,.int g.br,.int g.lim]/\fV g/\xC g H lm marks rows/\H cl=some (.lst (cells.map V.int))/\cl ≠ g.LR/\cells.length <= 63 /\
 ∀(d:Gd) (rows':List V) (H':Hp),Go [g.S,g.LR] H [g.S,g.LR] H'->BL g H' d rows'->(aP d.bs).length <= 3 * cells.length->Q .non H'
theorem AE (T:Txt K mg A):Has P w K mg base 7 "_law_body" ["_law_state","_law_cells","_law_rank","_law_limit"] (ye K):=by
 have D_law_mix:=kA (P:=P) (w:=w) (base:=base) T
 have D_law_plain:=mC (P:=P) (w:=w) (base:=base) T
 have D_law_opened:=wC (P:=P) (w:=w) (base:=base) T
 have D_law_called:=xk (P:=P) (w:=w) (base:=base) T
 have D_law_turned:=wa (P:=P) (w:=w) (base:=base) T
 have D_law_closed:=rJ (P:=P) (w:=w) (base:=base) T
 refine T.qD.has (k:=6) fS (fun vs H Q E h=>?_) (fun f cdv A' outer s H vs Q E hr hu h=>?_)
 ·obtain ⟨g,cl,lm,cells,marks,rows,rfl,_⟩:=h
  rfl
 ·obtain ⟨g,cl,lm,cells,marks,rows,rfl,O,R,hcl,clR,cln,q⟩:=h
  have pl:=O.pl
  refine ⟨_,(ae (bR (bD (aa (mE (bS aj ab (bS aj (fv 2) (bS aj ab (bS aj ab (bS aj jf (mG)))))) rfl rfl (by intro z;cases z) (by decide)) ag)) (bP (fv 0) aj (bO hu set_list)))
  (ae (bR ab (bP (fv 0) aj (bO hu set_list)))
  (ae (bR (fv 3) (bP (fv 0) aj (bO hu set_list)))
  (ae (d5 PassesOwn.never rfl (dG (fv 1)) (pgn (i:=4) fS.nd rfl)
   (ae (ay (i:=5) fS.nd rfl (Or.inl rfl) (ax cC (au D_law_mix hr (aa (fv 4) (aa ab (aa ab ag)))) ab))
   (ae (ay (i:=6) fS.nd rfl (Or.inl rfl) (Bo (fR (bV hu) (px hu (fv 0) aj) ab (aG _)) (sP (vS (fR (bV hu) (px hu (fv 0) aj) ab (aG _)) (sP (fR (bV hu) (ax cC (au D_law_mix hr (aa (fv 4) (aa ab (aa ab ag)))) ab) ab (aG _)))))))
   (ao (ba (aC (uH) (fv 5) ab (aG _))
    (ao (aL (au D_law_plain hr (aa (fv 0) (aa (fv 4) (aa (fv 5) (aa (fv 6) ag)))))))
    (ao (ba (aC (uH) (fv 5) ab (aG _))
     (ao (aL (au D_law_opened hr (aa (fv 0) (aa (fv 4) (aa (fv 5) (aa (fv 6) ag)))))))
     (ao (ba (aC (bV hu) (fv 5) ab (aG _))
      (ao (aL (au D_law_called hr (aa (fv 0) (aa (fv 4) (aa (fv 6) ag))))))
      (ao (aL (au D_law_turned hr (aa (fv 0) (aa (fv 4) (aa (fv 5) (aa (fv 6) ag))))))))))))))))
  (ae (xG PassesOwn.never (aC (ou) (aH b9 rfl T.cD (by boot_by_name) (aa (px hu (fv 0) aj) ag)) ab (aG _))
   (ao (aL (au D_law_closed hr (aa (fv 0) ag)))))
  (ao (aL (bW (px hu (fv 0) aj) (aa (bf (aa aj ag)) ag))))))))),?_⟩
  refine ah fun M1 K1=>?_
  refine fun a0 ha0=>?_
  refine ⟨ak,[((.inr "at":Key),.int 0),(.inr "rank",.int g.br),(.inr "heft",.int 1),(.inr "cost",.int 0),(.inr "first",.non)],rfl,(show 5 <= 15 by decide),?_⟩
  rw [kJ,show (hZ [] [((.inr "at":Key),V.int 0),(.inr "rank",.int g.br),(.inr "heft",.int 1),(.inr "cost",.int 0),(.inr "first",.non)])=frK 0 g.br 1 0 none from rfl]
  obtain ⟨s1,e1⟩:=alc ha0 (HO.dK (frK 0 g.br 1 0 none))
  generalize upd H a0 _=H1 at s1 e1 ⊢
  refine ⟨by show 1 <= sizeLine;decide,fun lo hlo=>?_⟩
  obtain ⟨s2,e2⟩:=alc hlo (HO.lst [V.ref a0])
  generalize upd H1 lo _=H2 at s2 e2 ⊢
  have z2:=s1.trans s2
  have e12:=s2 _ _ e1
  have hlo0:H lo=none:=aq.free s1 hlo
  have loa:lo ≠ a0:=fresh_ne hlo e1
  have hcl2:=z2 _ _ hcl
  have hR2:=z2 _ _ R.hR
  obtain ⟨d0,hd0⟩:∃d0:Gd,d0=⟨lm,marks,lo,a0,[],rows,[],0,[],0⟩:=⟨_,rfl⟩
  have stores:∃kvs,H2 g.S=some (.dK kvs)/\kvs.length <= 13/\putK (putK (putK kvs (.inr "open") (.ref lo)) (.inr "spent") (.int 0)) (.inr "limit") (.int g.lim)=stK g d0/\(putK kvs (.inr "open") (.ref lo)).length <= 13/\(putK (putK kvs (.inr "open") (.ref lo)) (.inr "spent") (.int 0)).length <= 13:=by
   rw [hd0]
   rcases R.hS with h | ⟨x,y,z,h⟩
   ·exact ⟨_,z2 _ _ h,(by decide:10 <= 13),rfl,(by decide:11 <= 13),(by decide:12 <= 13)⟩
   ·exact ⟨_,z2 _ _ h,(by decide:13 <= 13),rfl,(by decide:13 <= 13),(by decide:13 <= 13)⟩
  obtain ⟨kvs,hS2,l1,est,l2,l3⟩:=stores
  refine ⟨_,cZ.k (k:=.inr "open") hS2 (aD (by omega)),K1 _ _ ?_⟩
  try dsimp only
  refine ah fun M2 K2=>?_
  refine ⟨_,cZ.k (k:=.inr "spent") ak (aD (by omega)),K2 _ _ ?_⟩
  try dsimp only
  refine ah fun M3 K3=>?_
  refine ⟨_,cZ.k (k:=.inr "limit") ak (aD (by omega)),K3 _ _ ?_⟩
  rw [kJ,kJ,est]
  have ne:=R.ne
  have loS:lo ≠ g.S:=by rcases R.hS with h | ⟨x,y,z,h⟩ <;> exact fresh_ne hlo (s1 _ _ h)
  have loR:lo ≠ g.LR:=fresh_ne hlo (s1 _ _ R.hR)
  have a0S:a0 ≠ g.S:=by rcases R.hS with h | ⟨x,y,z,h⟩ <;> exact fresh_ne ha0 h
  have a0R:a0 ≠ g.LR:=fresh_ne ha0 R.hR
  have clS:cl ≠ g.S:=fun z=>by rw [z] at hcl2;rw [hS2] at hcl2;cases hcl2
  have Md:d0.M g=[g.S,g.LR,lo,a0]:=by rw [hd0];rfl
  have go3:Go [g.S,g.LR] H (d0.M g) (upd H2 g.S (.dK (stK g d0))):=by
   rw [Md]
   exact ((Go.new z2).trans (Go.at List.mem_cons_self _)).to fun x hx=>by
    simp only [List.mem_cons,List.not_mem_nil,or_false] at hx ⊢
    rcases hx with z | z | z | z
    ·exact .inl (.inl z)
    ·exact .inl (.inr z)
    ·exact .inr (.inr (by rw [z];exact hlo0))
    ·exact .inr (.inr (by rw [z];exact ha0))
  have s3:=go3.same
  have lrs0:d0.lrs g=g.pre:=by rw [hd0];unfold Gd.lrs;simp [aP,bh]
  have B0:BAt g (upd H2 g.S (.dK (stK g d0))) d0:=by
   refine ⟨R.st.same s3,?_,?_,⟨ak,?_,?_,?_,?_⟩,⟨?_,?_,?_,?_,?_,?_,?_,?_,?_,?_,?_,?_⟩⟩
   ·have:=s3 _ _ R.hm
    rw [hd0] at this ⊢
    exact this
   ·rw [lrs0]
    have:=Paired.dC R.hr fun _ _=>bK.same (X':=del (d0.M g) (upd H2 g.S (.dK (stK g d0)))) s3
    rw [show d0.rows=rows by rw [hd0]]
    exact this
   ·rw [show d0.rows=rows by rw [hd0]]
    exact af ne.symm hR2
   ·rw [hd0]
    exact af loS e2
   ·rw [hd0]
    exact af a0S e12
   ·rw [hd0]
    exact .nil
   ·rw [Md]
    simp [ne,loS.symm,a0S.symm,loR.symm,a0R.symm,loa]
   ·rw [hd0];exact R.mks
   ·rw [hd0];exact R.ml
   ·rw [hd0];exact True.intro
   ·rw [hd0];exact Int.le_refl _
   ·rw [hd0];exact fun _ z=>(by cases z)
   ·rw [hd0];exact Nat.zero_le _
   ·rw [hd0];exact True.intro
   ·rw [hd0];exact fun _ z=>(by cases z)
   ·rw [hd0];exact fun _=>Int.le_refl _
   ·rw [hd0];exact ⟨Int.le_refl _,.inr rfl⟩
   ·rw [lrs0,hd0]
    show g.pre.length + 0 <= 1000
    omega
  have mu0:mu g d0=g.pre.length:=by unfold mu;rw [lrs0,hd0];rfl
  have hcl3:upd H2 g.S (.dK (stK g d0)) cl=some (.lst (cells.map V.int)):=af clS hcl2
  generalize upd H2 g.S (.dK (stK g d0))=H3 at go3 s3 B0 hcl3 ⊢
  have clM:cl ∉ d0.M g:=by
   rw [Md]
   simp only [List.mem_cons,List.not_mem_nil,or_false]
   rintro (y | y | y | y)
   ·exact clS y
   ·exact clR y
   ·rw [y,hlo0] at hcl;cases hcl
   ·rw [y,ha0] at hcl;cases hcl
  clear s1 s2 e1 e2 e12 hcl2 hR2 z2 hS2 est l1 l2 l3 s3 ha0 hlo
  try dsimp only
  refine ah fun M4 K4=>?_
  refine Or.inl ⟨⟨_,SqL.of hcl3⟩,dM (K:=K) (xs:=cells.map V.int) (fun i σ Hc=>∃(d:Gd) (v4 v5 v6:Option V),σ=[some (.ref g.S),some (.ref cl),some (.int g.br),some (.int g.lim),v4,v5,v6]/\BAt g Hc d/\Go (d0.M g) H3 (d.M g) Hc/\mu g d <= g.pre.length + 3 * i) ⟨d0,none,none,none,rfl,B0,Go.refl _ _,by omega⟩ (fun i σ Hc _ ⟨d,_,_,_,_,_,gc,_⟩=>SqL.of (gc.o _ _ clM hcl3)) ?_ ?_⟩
  ·rintro i v σ Hc hv ⟨d,v4,v5,v6,rfl,B,gc,mui⟩
   rw [List.getElem?_map] at hv
   obtain ⟨c,hc,rfl⟩:=Option.map_eq_some_iff.mp hv
   have il:i < cells.length:=(List.getElem?_eq_some_iff.mp hc).1
   try dsimp only
   refine ah fun N1 J1=>?_
   refine ⟨c,0,97,rfl,by decide,by decide,fun m Ha m0 m1 sa=>⟨(by show (0:Int) < 16;decide),J1 _ _ ?_⟩⟩
   have Ba:=B.same sa
   try dsimp only
   refine ah fun N2 J2=>?_
   have go:∀(kd:Int) (lo':Bool) (Hb:Hp),aq Ha Hb->N2 [some (.ref g.S),some (.ref cl),some (.int g.br),some (.int g.lim),some (.int c),some (.int kd),some (.bl lo')] Hb  :=fun kd lo' Hb sb=>J2 _ _ (by
    have Bb:=Ba.same sb
    have gb:Go (d0.M g) H3 (d.M g) Hb:=gc.trans (Go.new (sa.trans sb))
    have m3:mu g d + 3 <= 1000:=by omega
    have nx:∀(d':Gd) (H':Hp),Go (d.M g) Hb (d'.M g) H'->BAt g H' d'->mu g d' <= mu g d + 3->∃(d'':Gd) (v4 v5 v6:Option V),[some (.ref g.S),some (.ref cl),some (.int g.br),some (.int g.lim),some (.int c),some (.int kd),some (.bl lo')]=[some (.ref g.S),some (.ref cl),some (.int g.br),some (.int g.lim),v4,v5,v6]/\BAt g H' d''/\Go (d0.M g) H3 (d''.M g) H'/\mu g d'' <= g.pre.length + 3 * (i + 1):=fun d' H' g' B' mu'=>⟨d',_,_,_,rfl,B',gb.trans g',by omega⟩
    refine ⟨_,rfl,aI (fun _=>?_) (fun _=>⟨_,rfl,aI (fun _=>?_) (fun _=>⟨rfl,_,rfl,aI (fun _=>?_) (fun _=>?_)⟩)⟩)⟩
    ·exact ⟨g,d,c,kd,lo',rfl,O,Bb,m3,fun d' H' g' B' mu'=>nx d' H' g' B' mu'⟩
    ·exact ⟨g,d,c,kd,lo',rfl,O,Bb,m3,fun d' H' g' B' mu'=>nx d' H' g' B' mu'⟩
    ·exact ⟨g,d,c,lo',rfl,O,Bb,m3,fun d' H' g' B' mu'=>nx d' H' g' B' mu'⟩
    ·exact ⟨g,d,c,kd,lo',rfl,O,Bb,m3,fun d' H' g' B' mu'=>nx d' H' g' B' mu'⟩)
   have gm:=aN.k (k:=.inr "mode") Ba.dy.hS
   refine ⟨_,gm,rfl,_,rfl,aI (fun _=>?_) (fun _=>?_)⟩
   ·exact go _ true Ha (aq.refl _)
   ·refine ⟨_,gm,rfl,_,rfl,aI (fun _=>?_) (fun _=>go _ false Ha (aq.refl _))⟩
    refine ⟨c,1,101,rfl,by decide,by decide,fun m2 Hb _ _ sb=>⟨(by show (0:Int) < 9;decide),rfl,go _ _ Hb sb⟩⟩
  rintro σ Hc ⟨d,v4,v5,v6,rfl,B,gc,mui⟩
  rw [List.length_map] at mui
  refine K4 _ _ ?_
  try dsimp only
  refine ah fun M5 K5=>?_
  refine ⟨fun m σ Hc=>∃(d:Gd),m=d.fz.length/\σ=[some (.ref g.S),some (.ref cl),some (.int g.br),some (.int g.lim),v4,v5,v6]/\BAt g Hc d/\Go (d0.M g) H3 (d.M g) Hc/\mu g d <= g.pre.length + 3 * cells.length,⟨_,d,rfl,rfl,B,gc,mui⟩,?_⟩
  rintro m σ Hc ⟨d,rfl,rfl,B,gc,mui⟩
  have la:=Paired.length B.dy.hf
  rw [List.length_zip,fh,Nat.min_self] at la
  have eo:(((V.ref d.a0 :: d.as.map V.ref).length:Nat):Int)=(d.as.length:Int) + 1:=by simp
  refine ⟨_,aN.k (k:=.inr "open") B.dy.hS,Or.inl ⟨_,_,rfl,Or.inl ⟨_,SqL.of B.dy.hO,rfl⟩,_,rfl,aI (fun z=>?_) (fun z=>K5 _ _ ?_)⟩⟩
  ·have z:=of_decide_eq_true z
   rw [eo] at z
   refine ⟨fun σ' H'=>∃(d':Gd),d'.fz.length < d.fz.length/\σ'=[some (.ref g.S),some (.ref cl),some (.int g.br),some (.int g.lim),v4,v5,v6]/\BAt g H' d'/\Go (d0.M g) H3 (d'.M g) H'/\mu g d' <= g.pre.length + 3 * cells.length,fun σ' H' ⟨d',h1,h2,h3,h4,h5⟩=>⟨_,h1,d',rfl,h2,h3,h4,h5⟩,?_⟩
   exact ⟨g,d,rfl,O,B,(fun e=>by rw [e] at la;simp at la;rw [la] at z;simp at z),by omega,fun d' H' g' B' mu' fl'=>⟨d',by omega,rfl,B',gc.trans g',by omega⟩⟩
  have z:¬ (1:Int) < (d.as.length:Int) + 1:=fun y=>z (decide_eq_true (by rw [eo];exact y))
  have ea:d.as=[]:=List.length_eq_zero_iff.mp (by omega)
  have ez:d.fz=[]:=List.length_eq_zero_iff.mp (by rw [<- la,ea];rfl)
  have Mc:d.M g=[g.S,g.LR,d.lo,d.a0]:=by unfold Gd.M;rw [ea]
  obtain ⟨n1,n2,n3,n4⟩:=fQ B.ok.nd
  obtain ⟨m1,m2,m3⟩:=n4 d.a0 List.mem_cons_self
  have hl:=Paired.length B.hr
  try dsimp only
  refine ⟨_,aN.k (k:=.inr "rows") B.dy.hS,Or.inl ⟨rfl,_,SqL.of B.dy.hR⟩,by show 1 <= sizeLine;decide,fun te hte=>?_⟩
  have teM:=B.free hte
  have teS:te ≠ g.S:=fun z=>teM (by rw [z];exact inS g d)
  have teR:te ≠ g.LR:=fun z=>teM (by rw [z];exact inR g d)
  have teO:te ≠ d.lo:=fun z=>teM (by rw [z];exact inO g d)
  have te0:te ≠ d.a0:=fun z=>teM (by rw [z];exact in0 g d)
  refine ⟨_,_,_,rfl,rfl,af teR.symm B.dy.hR,aD (by unfold mu at mui;omega),?_⟩
  have go5:Go (d.M g) Hc (d.M g) (upd (upd Hc te (.tup [.str "end"])) g.LR (.lst (d.rows ++ [.ref te]))):=(Go.new (aq.upd hte _)).trans (Go.at (inR g d) _)
  have goA:Go [g.S,g.LR] H [g.S,g.LR] (upd (upd Hc te (.tup [.str "end"])) g.LR (.lst (d.rows ++ [.ref te]))):=(go3.trans (gc.trans go5)).to fun x hx=>by
   refine .inl ?_
   rw [Mc]
   simp only [List.mem_cons,List.not_mem_nil,or_false] at hx ⊢
   rcases hx with z | z
   ·exact .inl z
   ·exact .inr (.inl z)
  have sub:aq (del (d.M g) Hc) (del [g.S,g.LR] (upd (upd Hc te (.tup [.str "end"])) g.LR (.lst (d.rows ++ [.ref te])))):=fun x o e=>by
   obtain ⟨h1,h2⟩:=bg (go5.same _ _ e)
   refine aV (fun z=>h1 ?_) h2
   rw [Mc]
   simp only [List.mem_cons,List.not_mem_nil,or_false] at z ⊢
   rcases z with z | z
   ·exact .inl z
   ·exact .inr (.inl z)
  have elr:d.lrs g=g.pre ++ aP d.bs:=by unfold Gd.lrs;rw [ez];simp [bh]
  have hr:=B.hr
  rw [elr] at hr
  refine q d (d.rows ++ [.ref te]) _ goA ⟨?_,ak,?_,?_,⟨n2.symm,n3.symm,m1,m2⟩,B.st.same sub,sub _ _ B.hm,Paired.snoc ⟨te,0,rfl,?_,fun o ho=>by cases ho⟩ (Paired.dC hr fun _ _=>bK.same sub),B.ok.mks,B.ok.ml,B.ok.bs,B.ok.bc,B.ok.sp,fun e=>?_⟩ ?_
  ·exact af n1 (af teS.symm B.dy.hS)
  ·have:=B.dy.hO
   rw [ea] at this
   exact af n3.symm (af teO.symm this)
  ·exact af m2 (af te0.symm B.dy.h0)
  ·have:=B.ok.pay e
   rw [ez] at this
   simpa [iC] using this
  ·unfold mu at mui
   rw [elr,List.length_append] at mui
   omega
  ·refine aV (fun z=>?_) (af teR ak)
   simp only [List.mem_cons,List.not_mem_nil,or_false] at z
   rcases z with z | z
   ·exact teS z
   ·exact teR z
end
section
variable {P:Program}{w:World}{K:W.Frag}{mg:Str->Option Value}{base:Heap}{A:Adr}{N:Nat->Str}
seal PE PA PS PSs PT PW
def nmL (N:Nat->Str):List V:=(List.range 25).map fun i=>.str (N i)
theorem eY (N:Nat->Str) {i:Nat} (h:i < 25):atI (nmL N) (i:Int)=some (.str (N i)):=by
 refine aB ?_
 unfold nmL
 rw [List.getElem?_map,List.getElem?_range h]
 rfl
theorem vL {n:Nat}{ys:List V}{f:Nat->V} (ly:ys.length=n) (hy:∀(i:Nat) y,ys[i]?=some y->y=f i):ys=(List.range n).map f:=by
 refine List.ext_getElem? fun i=>?_
 by_cases h:i < n
 ·have lt:i < ys.length:=by omega
  rw [List.getElem?_map,List.getElem?_range h,List.getElem?_eq_getElem lt,hy i _ (List.getElem?_eq_getElem lt)]
  rfl
 ·rw [List.getElem?_eq_none (by omega),List.getElem?_eq_none (by simp;omega)]
def rkL (rk:Nat->Int):List V:=(List.range 7).map fun i=>.int (rk i)
theorem oe (rk:Nat->Int) {i:Nat} (h:i < 7):atI (rkL rk) (i:Int)=some (.int (rk i)):=by
 refine aB ?_
 unfold rkL
 rw [List.getElem?_map,List.getElem?_range h]
 rfl
theorem BW {ys:List V} (ly:ys.length=7) (hy:∀(i:Nat) y,ys[i]?=some y->∃n:Int,y=.int n/\0 <= n/\n < 3):∃rk:Nat->Int,ys=rkL rk/\∀i,0 <= rk i/\rk i <= 2:=by
 have h:∀i:Nat,∃n:Int,(∀y,ys[i]?=some y->y=.int n)/\0 <= n/\n <= 2:=fun i=>by
  cases e:ys[i]? with
  | none=>exact ⟨0,fun _ z=>(by cases z),by decide,by decide⟩
  | some y =>
   obtain ⟨n,e1,e2,e3⟩:=hy i y e
   exact ⟨n,fun _ z=>(by cases z;exact e1),e2,by omega⟩
 exact ⟨fun i=>(h i).choose,vL ly fun i y e=>(h i).choose_spec.1 y e,fun i=>(h i).choose_spec.2⟩
def cw (rk:Nat->Int) (z:Int):List Lr:=[.hand 0 0,.hand 1 1,.hand 2 2,.giv 3 (2 - rk 0 % 2) 0,.giv 4 (rk 1) 0,.giv 5 0 0,.giv 6 (rk 2) z,.own 7 0,.own 8 0,.own 9 0,.own 10 z,.lt 11 (rk 3),.lt 12 (rk 4 % 2)]
def v1 (rk:Nat->Int) (z:Int) (j:Nat):Int:=[0,1,2,2 - rk 0 % 2,rk 1,0,rk 2,0,0,0,z,rk 3,rk 4 % 2].getD j 0
def w4 (rk:Nat->Int):List Int:=[0,rk 5,2,rk 6]
def v2 (rk:Nat->Int) (z:Int) (i j:Nat):Int:=if 7 <= j/\j < 7 + i then (w4 rk).getD (j - 7) 0 else v1 rk z j
theorem Go.to' {S LV:Addr}{H H':Hp} (g:Go [LV] H [LV] H') (_:S ≠ LV):Go [S,LV] H [S,LV] H':=⟨fun a o m e=>g.o a o (fun z=>m (List.mem_cons_of_mem _ z)) e,fun _ m=>.inl m⟩
theorem Paired.zg {α β:Type}{F:α->β->Prop}:∀(t:Nat) {xs:List α}{ys:List β},Paired F xs ys->Paired F (xs.drop t) (ys.drop t)
 | 0,_,_,h=>h
 | _ + 1,_,_,.nil=>.nil
 | t + 1,_,_,.cons _ r=>Paired.zg t r
theorem Paired.zl {α β:Type}{F:α->β->Prop}:∀(t:Nat) {xs:List α}{ys:List β},Paired F xs ys->Paired F (xs.take t) (ys.take t)
 | 0,_,_,_=>.nil
 | _ + 1,_,_,.nil=>.nil
 | t + 1,_,_,.cons h r=>.cons h (Paired.zl t r)
def rot (t:Nat) (xs:List Lr):List Lr:=xs.drop t ++ xs.take t
structure Hs (N:Nat->Str) (H0 Hc:Hp) (xs:List V) (hs:List Lr):Prop where
 s:aq H0 Hc
 p:Paired (bK N Hc) xs hs
theorem Hs.to {H0 Hc H':Hp}{xs:List V}{hs:List Lr} (D:Hs N H0 Hc xs hs) (s:aq Hc H'):Hs N H0 H' xs hs:=⟨D.s.trans s,Paired.dC D.p fun _ _=>bK.same s⟩
theorem Hs.add {H0 Hc:Hp}{t:Addr}{xs:List V}{hs:List Lr} (D:Hs N H0 Hc xs hs) (ht:Hc t=none) (h:Lr) (ho:h.ob N=none) (ys:List V) (e:ys=.str h.w :: h.tl N t):Hs N H0 (upd Hc t (.tup ys)) (xs ++ [.ref t]) (hs ++ [h]):=by
 subst e
 refine ⟨D.s.trans (aq.upd ht _),Paired.snoc ⟨t,t,rfl,ak,fun o z=>by rw [ho] at z;cases z⟩ (Paired.dC D.p fun _ _=>bK.same (aq.upd ht _))⟩
theorem Hs.oi {H0 Hc:Hp}{t L:Addr}{o:HO}{xs:List V}{hs:List Lr} (D:Hs N H0 Hc xs hs) (eL:Hc L=some o) (ht:Hc t=none) (h:Lr) (ho:h.ob N=none) (ys:List V) (e:ys=.str h.w :: h.tl N t):Hs N H0 (upd Hc t (.tup ys)) (xs ++ [.ref t]) (hs ++ [h])/\upd Hc t (.tup ys) L=some o:=⟨D.add ht h ho ys e,aq.upd ht _ _ _ eL⟩
theorem Hs.len {H0 Hc:Hp}{xs:List V}{hs:List Lr} (D:Hs N H0 Hc xs hs):xs.length=hs.length:=Paired.length D.p
theorem tT {n t:Nat} (d:Nat) (h:t <= n):HT.sIx n d (some (t:Int))=t:=by
 unfold HT.sIx
 show (if (t:Int) < 0 then ((t:Int) + n).toNat else min (t:Int).toNat n)=t
 rw [if_neg (by omega),Int.toNat_natCast]
 omega
theorem zX {xs:List V}{t:Nat} (h:t <= xs.length):eZ xs (some (t:Int)) none=xs.drop t:=by
 unfold eZ
 rw [tT _ h,show HT.sIx xs.length xs.length none=xs.length from rfl]
 exact List.take_of_length_le (by rw [List.length_drop];omega)
theorem zK {xs:List V}{t:Nat} (h:t <= xs.length):eZ xs none (some (t:Int))=xs.take t:=by
 unfold eZ
 rw [tT _ h,show HT.sIx xs.length 0 none=0 from rfl]
 rfl
def st5 (LR LV LD:Addr) (mode:Int) (ev:Bool):List (Key × V):=[(.inr "rows",.ref LR),(.inr "view",.ref LV),(.inr "deeds",.ref LD),(.inr "mode",.int mode),(.inr "even",.bl ev)]
def st6 (LR LV LD:Addr) (mode:Int) (ev:Bool) (lm:Addr):List (Key × V):=st5 LR LV LD mode ev ++ [(.inr "marks",.ref lm)]
theorem Cs {H:Hp}{v:V}{rk:Nat->Int}{z:Int}{i:Nat}{h:Lr} (hi:(cw rk z)[i]?=some h) (a:bK N H v h):∃t xs,v=.ref t/\H t=some (.tup xs)/\atI xs 1=some (.str (N i))/\atI xs 2=some (.int (v1 rk z i)):=by
 obtain ⟨t,p,e,h1,_⟩:=a
 have hb:i < 13:=(List.getElem?_eq_some_iff.mp hi).1
 have:i=0 \/ i=1 \/ i=2 \/ i=3 \/ i=4 \/ i=5 \/ i=6 \/ i=7 \/ i=8 \/ i=9 \/ i=10 \/ i=11 \/ i=12:=by omega
 rcases this with rfl | rfl | rfl | rfl | rfl | rfl | rfl | rfl | rfl | rfl | rfl | rfl | rfl <;> (cases hi;exact ⟨t,_,e,h1,rfl,rfl⟩)
def wR (K:W.Frag):Sp:=fun vs H Q _=>∃(a S LR0 LV LD:Addr) (ns:List Int) (mode:Int) (ev:Bool),vs=[.ref a,.ref S]/\SqL K H a (ns.map V.int)/\H S=some (.dK (st5 LR0 LV LD mode ev))/\H LV=some (.dK (dk (nmV (cellAt ns 1)) [] fun _=>.int 0)) /\
 ∀(ln LR lm:Addr) (rk:Nat->Int) (z:Int) (t:Nat) (rows:List V) (H':Hp),(∀i,0 <= rk i/\rk i <= 2)->1 <= z->z <= 4->Go [S,LV] H [S,LV] H'->H ln=none->H LR=none->H lm=none->ln ≠ LR->lm ≠ LR ->
  H' S=some (.dK (st6 LR LV LD mode ev lm))->H' LV=some (.dK (dk (nmV (cellAt ns 1)) (List.range 13) fun i=>.int (v2 rk z 4 i)))->H' LR=some (.lst rows)->H' lm=some (.lst (nV (nmV (cellAt ns 1)) [11,12]))->H' ln=some (.lst (nmL (nmV (cellAt ns 1)))) ->
  Paired (bK (nmV (cellAt ns 1)) (del [S,LR,LV] H')) rows (rot t (cw rk z))->Q (.ref ln) H'
theorem yb (T:Txt K mg A):Has P w K mg base 2 "_law_heads" ["_law_script","_law_state"] (wR K):=by
 have D_law_cell_at:=sH (P:=P) (w:=w) (base:=base) T
 have D_law_name:=Au (P:=P) (w:=w) (base:=base) T
 have D_law_mix:=kA (P:=P) (w:=w) (base:=base) T
 refine T.pA.has (k:=1) bA (fun vs H Q E h=>?_) (fun f cdv A' outer s H vs Q E' hr hu h=>?_)
 ·obtain ⟨a,S,LR0,LV,LD,ns,mode,ev,rfl,_⟩:=h
  rfl
 ·obtain ⟨a,S,LR0,LV,LD,ns,mode,ev,rfl,hA,hS,hV,q⟩:=h
  have D:=ug (cellAt ns 1)
  obtain ⟨N,eN⟩:∃N,N=nmV (cellAt ns 1):=⟨_,rfl⟩
  rw [<- eN] at D q hV
  refine ⟨_,(ae (kf (j:=2) (N:=["_law_k","_law_script"]) (own:=1) (fr:=[0]) (cV.of (by kernel_rfl!)) rfl bA.nd rfl (Or.inl rfl) (gX rfl T.fP (aa ab ag)) (fun b=>pgn (i:=0) (show List.Nodup (["_law_k","_law_script"]:List PySem.Str) by decide +kernel) rfl) (fun b=>sj) (fun b=>au D_law_name hr (aa (au D_law_cell_at hr (aa (fv 1) (aa ab ag))) (aa (fv 0) ag))))
  (ae (kf (j:=3) (N:=["_law_way","_law_script"]) (own:=1) (fr:=[0]) (cV.of (by kernel_rfl!)) rfl bA.nd rfl (Or.inl rfl) (gX rfl T.fP (aa ab ag)) (fun b=>pgn (i:=0) (show List.Nodup (["_law_way","_law_script"]:List PySem.Str) by decide +kernel) rfl) (fun b=>sj) (fun b=>au D_law_mix hr (aa (au D_law_cell_at hr (aa (fv 1) (aa ab ag))) (aa (fv 0) (aa ab ag)))))
  (ae (ay (i:=4) bA.nd rfl (Or.inl rfl) (ax bp ab (au D_law_mix hr (aa (au D_law_cell_at hr (aa (fv 0) (aa ab ag))) (aa ab (aa ab ag))))))
  (ae (ay (i:=5) bA.nd rfl (Or.inl rfl) (bD (aa (bf (aa aj (aa (px hu (fv 2) ab) (aa ab ag)))) (aa (bf (aa aj (aa (px hu (fv 2) ab) (aa ab ag)))) (aa (bf (aa aj (aa (px hu (fv 2) ab) (aa ab ag)))) ag)))))
  (ae (ay (i:=5) bA.nd rfl (Or.inl rfl) (ax bp (fv 5) (bD (aa (bf (aa aj (aa (px hu (fv 2) ab) (aa (ax mL ab (ax cC (px hu (fv 3) ab) ab)) (aa ab ag))))) (aa (bf (aa aj (aa (px hu (fv 2) ab) (aa (px hu (fv 3) ab) (aa ab ag))))) ag)))))
  (ae (ay (i:=5) bA.nd rfl (Or.inl rfl) (ax bp (fv 5) (bD (aa (bf (aa aj (aa (px hu (fv 2) ab) (aa ab (aa ab ag))))) (aa (bf (aa aj (aa (px hu (fv 2) ab) (aa (px hu (fv 3) ab) (aa (fv 4) ag))))) ag)))))
  (ae (ay (i:=5) bA.nd rfl (Or.inl rfl) (ax bp (fv 5) (bD (aa (bf (aa aj (aa (px hu (fv 2) ab) (aa ab ag)))) (aa (bf (aa aj (aa (px hu (fv 2) ab) (aa ab ag)))) (aa (bf (aa aj (aa (px hu (fv 2) ab) (aa ab ag)))) (aa (bf (aa aj (aa (px hu (fv 2) ab) (aa (fv 4) ag)))) ag)))))))
  (ae (ay (i:=5) bA.nd rfl (Or.inl rfl) (ax bp (fv 5) (bD (aa (bf (aa aj (aa (px hu (fv 2) ab) (aa (px hu (fv 3) ab) ag)))) (aa (bf (aa aj (aa (px hu (fv 2) ab) (aa (ax cC (px hu (fv 3) ab) ab) ag)))) ag)))))
  (ae (ay (i:=6) bA.nd rfl (Or.inl rfl) (au D_law_mix hr (aa (au D_law_cell_at hr (aa (fv 0) (aa ab ag))) (aa ab (aa ab ag)))))
  (ae (bR (ax bp (cc dj (fv 5) (bJ (fv 6)) ik) (cc dj (fv 5) ik (bJ (fv 6)))) (bP (fv 1) aj (bO hu set_list)))
  (ae (d5 PassesOwn.never rfl (dG (fv 5)) (pgn (i:=7) bA.nd rfl)
   (ao (bR (px hu (fv 7) ab) (bP (px hu (fv 1) aj) (px hu (fv 7) ab) (bO hu set_list)))))
  (ae (d5 PassesOwn.never rfl (Ak rfl T.tE (aa (cc dj (fv 2) (bJ ab) (bJ ab)) (aa (bD (aa ab (aa (px hu (fv 3) ab) (aa ab (aa (px hu (fv 3) ab) ag))))) ag))) (vY rfl (jx (pgn (i:=8) bA.nd rfl) (jx (pgn (i:=9) bA.nd rfl) tD)))
   (ao (bR (fv 9) (bP (px hu (fv 1) aj) (fv 8) (bO hu set_list)))))
  (ae (bR (cc dj (fv 2) (bJ ab) (bJ ab)) (bP (fv 1) aj (bO hu set_list)))
  (ao (aW (fv 2)))))))))))))))),?_⟩
  refine ah fun M1 K1=>?_
  refine ⟨_,rfl,by decide,by decide,qH (J:=Itr 0 25) (n:=25) (x:=fun j=>.int (0 + j)) (fun j y _=>y=.str (N j)) (aD (by decide)) (fun _ _=>Nat.le_refl _) (fun _ _ h _=>h) (fun _ _ _ _ _ _ y=>y) (fun b j H1 G hj s1 kk=>?_) (fun _ _ _ _ _ h=>h) (fun _ _ _ _ _ _ _ h=>h) (fun ln H1 ys ln0 s1 eln ly hy=>K1 _ _ ?_)⟩
  ·exact ⟨a,ns,1,rfl,s1.seq hA,by decide,cellAt ns 1,j,(by rw [Int.zero_add];rfl),by omega,fun H2 s2=>kk _ _ s2 (by rw [eN])⟩
  rw [vL ly hy,show ((List.range 25).map fun i=>V.str (N i))=nmL N from rfl] at eln
  clear hy ly
  try dsimp only
  refine ah fun M2 K2=>?_
  refine ⟨_,rfl,by decide,by decide,qH (J:=Itr 0 7) (n:=7) (x:=fun j=>.int (0 + j)) (fun j y _=>∃n:Int,y=.int n/\0 <= n/\n < 3) (aD (by decide)) (fun _ _=>Nat.le_refl _) (fun _ _ h _=>h) (fun _ _ _ _ _ _ y=>y) (fun b j H2 G hj s2 kk=>?_) (fun _ _ _ _ _ h=>h) (fun _ _ _ _ _ _ _ h=>h) (fun lk H2 ys lk0 s2 elk ly hy=>K2 _ _ ?_)⟩
  ·exact ⟨a,ns,2,rfl,(s1.trans s2).seq hA,by decide,cellAt ns 2,j,3,(by rw [Int.zero_add];rfl),by omega,by decide,fun m H3 m0 m1 s3=>kk _ _ s3 ⟨m,rfl,m0,m1⟩⟩
  obtain ⟨rk,rfl,hrk⟩:=BW ly hy
  clear hy ly
  have s12:=s1.trans s2
  have eln2:=s2 _ _ eln
  try dsimp only
  refine ah fun M3 K3=>?_
  refine ⟨a,ns,2,rfl,s12.seq hA,by decide,cellAt ns 2,0,4,rfl,by decide,by decide,fun m H3 m0 m1 s3=>K3 _ _ ?_⟩
  obtain ⟨z,hz⟩:∃z:Int,z=1 + m:=⟨_,rfl⟩
  rw [<- hz]
  have z1:1 <= z:=by omega
  have z4:z <= 4:=by omega
  have s13:=s12.trans s3
  have eln3:=s3 _ _ eln2
  have elk3:=s3 _ _ elk
  have ln1:H ln=none:=ln0
  clear s1 s2 s3 s12 eln eln2 elk lk0 ln0 hz m0 m1
  have nm:∀(Hc:Hp),aq H3 Hc->SqL K Hc ln (nmL N):=fun Hc z=>SqL.of (z _ _ eln3)
  have rm:∀(Hc:Hp),aq H3 Hc->SqL K Hc lk (rkL rk):=fun Hc z=>SqL.of (z _ _ elk3)
  try dsimp only
  refine ah fun M4 K4=>?_
  have D0:Hs N H3 H3 [] []:=⟨aq.refl _,.nil⟩
  refine Or.inl ⟨_,_,Or.inl (nm _ D0.s),eY N (i:=0) (by decide),by show 3 <= sizeLine;decide,fun t0 ht0=>?_⟩
  have D1:=D0.add ht0 (.hand 0 0) rfl [V.str "hand",.str (N 0),.int 0] rfl
  generalize upd H3 t0 _=X1 at D1 ⊢
  refine Or.inl ⟨_,_,Or.inl (nm _ D1.s),eY N (i:=1) (by decide),by show 3 <= sizeLine;decide,fun t1 ht1=>?_⟩
  have D2:=D1.add ht1 (.hand 1 1) rfl [V.str "hand",.str (N 1),.int 1] rfl
  generalize upd X1 t1 _=X2 at D2 ⊢
  refine Or.inl ⟨_,_,Or.inl (nm _ D2.s),eY N (i:=2) (by decide),by show 3 <= sizeLine;decide,fun t2 ht2=>?_⟩
  have D3:=D2.add ht2 (.hand 2 2) rfl [V.str "hand",.str (N 2),.int 2] rfl
  generalize upd X2 t2 _=X3 at D3 ⊢
  refine ⟨by show 3 <= sizeLine;decide,fun L1 hL1=>K4 _ _ ?_⟩
  obtain ⟨sL1,eL1⟩:=alc hL1 (HO.lst [V.ref t0,.ref t1,.ref t2])
  generalize upd X3 L1 _=X4 at sL1 eL1 ⊢
  have D4:=D3.to sL1
  clear D0 D1 D2 D3 sL1 hL1 ht0 ht1 ht2
  try dsimp only
  refine ah fun M5 K5=>?_
  refine Or.inl ⟨_,_,Or.inl (nm _ D4.s),eY N (i:=3) (by decide),Or.inl ⟨_,_,Or.inl (rm _ D4.s),oe rk (i:=0) (by decide),(by show (0:Int) < 2;decide),by show 4 <= sizeLine;decide,fun t3 ht3=>?_⟩⟩
  obtain ⟨D5,x5⟩:=D4.oi eL1 ht3 (.giv 3 (2 - rk 0 % 2) 0) rfl [V.str "given",.str (N 3),.int (2 - rk 0 % 2),.int 0] rfl
  generalize upd X4 t3 _=X5 at D5 x5 ⊢
  refine Or.inl ⟨_,_,Or.inl (nm _ D5.s),eY N (i:=4) (by decide),Or.inl ⟨_,_,Or.inl (rm _ D5.s),oe rk (i:=1) (by decide),by show 4 <= sizeLine;decide,fun t4 ht4=>?_⟩⟩
  obtain ⟨D6,x6⟩:=D5.oi x5 ht4 (.giv 4 (rk 1) 0) rfl [V.str "given",.str (N 4),.int (rk 1),.int 0] rfl
  generalize upd X5 t4 _=X6 at D6 x6 ⊢
  refine ⟨by show 2 <= sizeLine;decide,fun L2 hL2=>?_⟩
  obtain ⟨sL2,eL2⟩:=alc hL2 (HO.lst [V.ref t3,.ref t4])
  generalize upd X6 L2 _=X7 at sL2 eL2 ⊢
  refine ⟨L1,L2,_,_,rfl,rfl,sL2 _ _ x6,eL2,(show 5 <= sizeLine by decide),fun L3 hL3=>K5 _ _ ?_⟩
  obtain ⟨sL3,eL3⟩:=alc hL3 (HO.lst ([V.ref t0,.ref t1,.ref t2] ++ [V.ref t3,.ref t4]))
  generalize upd X7 L3 _=X8 at sL3 eL3 ⊢
  have D8:=D6.to (sL2.trans sL3)
  clear D4 D5 D6 x5 x6 sL2 eL2 sL3 hL2 hL3 ht3 ht4 eL1
  try dsimp only
  refine ah fun M6 K6=>?_
  refine Or.inl ⟨_,_,Or.inl (nm _ D8.s),eY N (i:=5) (by decide),by show 4 <= sizeLine;decide,fun t5 ht5=>?_⟩
  obtain ⟨D9,x9⟩:=D8.oi eL3 ht5 (.giv 5 0 0) rfl [V.str "given",.str (N 5),.int 0,.int 0] rfl
  generalize upd X8 t5 _=X9 at D9 x9 ⊢
  refine Or.inl ⟨_,_,Or.inl (nm _ D9.s),eY N (i:=6) (by decide),Or.inl ⟨_,_,Or.inl (rm _ D9.s),oe rk (i:=2) (by decide),by show 4 <= sizeLine;decide,fun t6 ht6=>?_⟩⟩
  obtain ⟨D10,x10⟩:=D9.oi x9 ht6 (.giv 6 (rk 2) z) rfl [V.str "given",.str (N 6),.int (rk 2),.int z] rfl
  generalize upd X9 t6 _=X10 at D10 x10 ⊢
  refine ⟨by show 2 <= sizeLine;decide,fun L4 hL4=>?_⟩
  obtain ⟨sL4,eL4⟩:=alc hL4 (HO.lst [V.ref t5,.ref t6])
  generalize upd X10 L4 _=X11 at sL4 eL4 ⊢
  refine ⟨L3,L4,_,_,rfl,rfl,sL4 _ _ x10,eL4,(show 7 <= sizeLine by decide),fun L5 hL5=>K6 _ _ ?_⟩
  obtain ⟨sL5,eL5⟩:=alc hL5 (HO.lst ([V.ref t0,.ref t1,.ref t2] ++ [V.ref t3,.ref t4] ++ [V.ref t5,.ref t6]))
  generalize upd X11 L5 _=X12 at sL5 eL5 ⊢
  have D12:=D10.to (sL4.trans sL5)
  clear D8 D9 D10 x9 x10 sL4 eL4 sL5 hL4 hL5 ht5 ht6 eL3
  try dsimp only
  refine ah fun M7 K7=>?_
  refine Or.inl ⟨_,_,Or.inl (nm _ D12.s),eY N (i:=7) (by decide),by show 3 <= sizeLine;decide,fun t7 ht7=>?_⟩
  obtain ⟨D13,x13⟩:=D12.oi eL5 ht7 (.own 7 0) rfl [V.str "own",.str (N 7),.int 0] rfl
  generalize upd X12 t7 _=X13 at D13 x13 ⊢
  refine Or.inl ⟨_,_,Or.inl (nm _ D13.s),eY N (i:=8) (by decide),by show 3 <= sizeLine;decide,fun t8 ht8=>?_⟩
  obtain ⟨D14,x14⟩:=D13.oi x13 ht8 (.own 8 0) rfl [V.str "own",.str (N 8),.int 0] rfl
  generalize upd X13 t8 _=X14 at D14 x14 ⊢
  refine Or.inl ⟨_,_,Or.inl (nm _ D14.s),eY N (i:=9) (by decide),by show 3 <= sizeLine;decide,fun t9 ht9=>?_⟩
  obtain ⟨D15,x15⟩:=D14.oi x14 ht9 (.own 9 0) rfl [V.str "own",.str (N 9),.int 0] rfl
  generalize upd X14 t9 _=X15 at D15 x15 ⊢
  refine Or.inl ⟨_,_,Or.inl (nm _ D15.s),eY N (i:=10) (by decide),by show 3 <= sizeLine;decide,fun t10 ht10=>?_⟩
  obtain ⟨D16,x16⟩:=D15.oi x15 ht10 (.own 10 z) rfl [V.str "own",.str (N 10),.int z] rfl
  generalize upd X15 t10 _=X16 at D16 x16 ⊢
  refine ⟨by show 4 <= sizeLine;decide,fun L6 hL6=>?_⟩
  obtain ⟨sL6,eL6⟩:=alc hL6 (HO.lst [V.ref t7,.ref t8,.ref t9,.ref t10])
  generalize upd X16 L6 _=X17 at sL6 eL6 ⊢
  refine ⟨L5,L6,_,_,rfl,rfl,sL6 _ _ x16,eL6,(show 11 <= sizeLine by decide),fun L7 hL7=>K7 _ _ ?_⟩
  obtain ⟨sL7,eL7⟩:=alc hL7 (HO.lst ([V.ref t0,.ref t1,.ref t2] ++ [V.ref t3,.ref t4] ++ [V.ref t5,.ref t6] ++ [V.ref t7,.ref t8,.ref t9,.ref t10]))
  generalize upd X17 L7 _=X18 at sL7 eL7 ⊢
  have D18:=D16.to (sL6.trans sL7)
  clear D12 D13 D14 D15 D16 x13 x14 x15 x16 sL6 eL6 sL7 hL6 hL7 ht7 ht8 ht9 ht10 eL5
  try dsimp only
  refine ah fun M8 K8=>?_
  refine Or.inl ⟨_,_,Or.inl (nm _ D18.s),eY N (i:=11) (by decide),Or.inl ⟨_,_,Or.inl (rm _ D18.s),oe rk (i:=3) (by decide),by show 3 <= sizeLine;decide,fun t11 ht11=>?_⟩⟩
  obtain ⟨D19,x19⟩:=D18.oi eL7 ht11 (.lt 11 (rk 3)) rfl [V.str "let",.str (N 11),.int (rk 3)] rfl
  generalize upd X18 t11 _=X19 at D19 x19 ⊢
  refine Or.inl ⟨_,_,Or.inl (nm _ D19.s),eY N (i:=12) (by decide),Or.inl ⟨_,_,Or.inl (rm _ D19.s),oe rk (i:=4) (by decide),(by show (0:Int) < 2;decide),by show 3 <= sizeLine;decide,fun t12 ht12=>?_⟩⟩
  obtain ⟨D20,x20⟩:=D19.oi x19 ht12 (.lt 12 (rk 4 % 2)) rfl [V.str "let",.str (N 12),.int (rk 4 % 2)] rfl
  generalize upd X19 t12 _=X20 at D20 x20 ⊢
  refine ⟨by show 2 <= sizeLine;decide,fun L8 hL8=>?_⟩
  obtain ⟨sL8,eL8⟩:=alc hL8 (HO.lst [V.ref t11,.ref t12])
  generalize upd X20 L8 _=X21 at sL8 eL8 ⊢
  refine ⟨L7,L8,_,_,rfl,rfl,sL8 _ _ x20,eL8,(show 13 <= sizeLine by decide),fun L9 hL9=>K8 _ _ ?_⟩
  have L90':H L9=none:=aq.free (s13.trans (D20.to sL8).s) hL9
  obtain ⟨xs,hxs⟩:∃xs,xs=[V.ref t0,.ref t1,.ref t2] ++ [V.ref t3,.ref t4] ++ [V.ref t5,.ref t6] ++ [V.ref t7,.ref t8,.ref t9,.ref t10] ++ [V.ref t11,.ref t12]:=⟨_,rfl⟩
  rw [<- hxs]
  obtain ⟨sL9,eL9⟩:=alc hL9 (HO.lst xs)
  generalize upd X21 L9 _=X22 at sL9 eL9 ⊢
  have D22:Hs N H3 X22 xs (cw rk z):=by
   rw [hxs]
   exact D20.to (sL8.trans sL9)
  clear D18 D19 D20 x19 x20 sL8 eL8 sL9 hL8 hL9 ht11 ht12 eL7 hxs
  have s3:=D22.s
  have t22:=s13.trans s3
  have lx:xs.length=13:=by rw [D22.len];rfl
  have e22:=s3 _ _ eln3
  have k22:=s3 _ _ elk3
  have L90:H L9=none:=L90'
  try dsimp only
  refine ah fun M9 K9=>?_
  refine ⟨a,ns,2,rfl,t22.seq hA,by decide,cellAt ns 2,5,13,rfl,by decide,by decide,fun m X23 m0 m1 s23=>K9 _ _ ?_⟩
  obtain ⟨t,rfl⟩:∃t:Nat,m=(t:Int):=⟨m.toNat,by omega⟩
  have tx:t <= xs.length:=by omega
  try dsimp only
  refine ah fun M10 K10=>?_
  refine ⟨_,rfl,Or.inl ⟨L9,_,rfl,SqL.of (s23 _ _ eL9),fun p1 hp1=>?_⟩⟩
  rw [zX tx]
  obtain ⟨s24,e24⟩:=alc hp1 (HO.lst (xs.drop t))
  generalize upd X23 p1 _=X24 at s24 e24 ⊢
  refine ⟨_,rfl,Or.inl ⟨L9,_,rfl,SqL.of ((s23.trans s24) _ _ eL9),fun p2 hp2=>?_⟩⟩
  rw [zK tx]
  obtain ⟨s25,e25⟩:=alc hp2 (HO.lst (xs.take t))
  generalize upd X24 p2 _=X25 at s25 e25 ⊢
  refine ⟨p1,p2,_,_,rfl,rfl,s25 _ _ e24,e25,sz (by rw [List.length_drop,List.length_take];omega),fun LR hLR=>?_⟩
  obtain ⟨s26,e26⟩:=alc hLR (HO.lst (xs.drop t ++ xs.take t))
  generalize upd X25 LR _=X26 at s26 e26 ⊢
  have s2226:=((s23.trans s24).trans s25).trans s26
  have t26:=t22.trans s2226
  have t25:=t22.trans ((s23.trans s24).trans s25)
  refine ⟨_,cZ.k (k:=.inr "rows") (t26 _ _ hS) (show 5 < sizeLine by decide),K10 _ _ ?_⟩
  rw [show putK (st5 LR0 LV LD mode ev) (.inr "rows") (.ref LR)=st5 LR LV LD mode ev from rfl]
  have LR0':H LR=none:=aq.free t25 hLR
  have LRS:LR ≠ S:=fresh_ne LR0' hS
  have LRV:LR ≠ LV:=fresh_ne LR0' hV
  have lnR:ln ≠ LR:=fun z=>by
   have:=((s23.trans s24).trans s25) _ _ e22
   rw [z,hLR] at this;cases this
  have lnS:ln ≠ S:=fresh_ne ln1 hS
  have lnV:ln ≠ LV:=fresh_ne ln1 hV
  have SV:S ≠ LV:=fun z=>by
   rw [z,hV] at hS
   have:=congrArg (fun o:Option HO=>match o with | some (.dK l)=>l.length | _=>0) hS
   revert this
   show ¬ (0=5)
   decide
  have LkS:lk ≠ S:=fun z=>by
   have:=t22 _ _ hS
   rw [<- z,k22] at this;cases this
  have LkV:lk ≠ LV:=fun z=>by
   have:=t22 _ _ hV
   rw [<- z,k22] at this;cases this
  have L9S:L9 ≠ S:=fresh_ne L90 hS
  have L9V:L9 ≠ LV:=fresh_ne L90 hV
  have g27:Go [S,LV] H [S,LV] (upd X26 S (.dK (st5 LR LV LD mode ev))):=(Go.new t26).trans (Go.at List.mem_cons_self _)
  have lr27:Paired (bK N (del [S,LR,LV] (upd X26 S (.dK (st5 LR LV LD mode ev))))) xs (cw rk z):=by
   refine Paired.dC D22.p fun v h e=>?_
   obtain ⟨b,p,e1,e2,e3⟩:=e
   have k:∀(x:Addr) (o:HO),X22 x=some o->(∀y,o ≠ .dK y)->del [S,LR,LV] (upd X26 S (.dK (st5 LR LV LD mode ev))) x=some o:=fun x o e nd=>by
    have xS:x ≠ S:=fun z=>by rw [z,t22 _ _ hS] at e;cases e;exact nd _ rfl
    have xV:x ≠ LV:=fun z=>by rw [z,t22 _ _ hV] at e;cases e;exact nd _ rfl
    have xR:x ≠ LR:=fun z=>by
     have:=((s23.trans s24).trans s25) _ _ e
     rw [z,hLR] at this;cases this
    refine aV (fun m=>?_) (af xS (s2226 _ _ e))
    simp only [List.mem_cons,List.not_mem_nil,or_false] at m
    rcases m with m | m | m
    ·exact xS m
    ·exact xR m
    ·exact xV m
   refine ⟨b,p,e1,k _ _ e2 (fun y z=>by cases z),fun o ho=>k _ _ (e3 o ho) (fun y z=>?_)⟩
   subst z
   cases h <;> cases ho
  have S27:upd X26 S (.dK (st5 LR LV LD mode ev)) S=some (.dK (st5 LR LV LD mode ev)):=ak
  have V27:=af (u:=.dK (st5 LR LV LD mode ev)) SV.symm (t26 _ _ hV)
  have R27:=af (u:=.dK (st5 LR LV LD mode ev)) LRS e26
  have n27:=af (u:=.dK (st5 LR LV LD mode ev)) lnS (s2226 _ _ e22)
  have k27:=af (u:=.dK (st5 LR LV LD mode ev)) LkS (s2226 _ _ k22)
  have x27:=af (u:=.dK (st5 LR LV LD mode ev)) L9S (s2226 _ _ eL9)
  generalize upd X26 S (.dK (st5 LR LV LD mode ev))=X27 at g27 lr27 S27 V27 R27 n27 k27 x27 ⊢
  clear s2226 s26 s25 s24 s23 e26 e25 e24 hp1 hp2 hLR t26 t25 t22 e22 k22 D22 s3 s13 eL9 nm rm eln3 elk3
  try dsimp only
  refine ah fun M11 K11=>?_
  refine Or.inl ⟨⟨_,SqL.of x27⟩,dM (K:=K) (xs:=xs) (fun i σ Hc=>∃v7,σ=[some (.ref a),some (.ref S),some (.ref ln),some (.ref lk),some (.int z),some (.ref L9),some (.int t),v7,none,none]/\Go [LV] X27 [LV] Hc/\Hc LV=some (.dK (dk N (List.range i) fun j=>.int (v1 rk z j)))) ⟨none,rfl,Go.refl _ _,V27⟩ (fun i σ Hc _ ⟨_,_,gc,_⟩=>SqL.of (gc.o _ _ (fun m=>L9V (List.mem_singleton.mp m)) x27)) ?_ ?_⟩
  ·rintro i v σ Hc hv ⟨v7,rfl,gc,eV⟩
   obtain ⟨h,hh,hat⟩:=bX lr27 hv
   obtain ⟨tt,ys,rfl,ey,a1,a2⟩:=Cs hh hat
   obtain ⟨ny,ey⟩:=bg ey
   have ty:Hc tt=some (.tup ys):=gc.o _ _ (fun m=>ny (by rw [List.mem_singleton.mp m];simp)) ey
   have i13:i < 13:=(List.getElem?_eq_some_iff.mp hh).1
   have Sc:Hc S=some (.dK (st5 LR LV LD mode ev)):=gc.o _ _ (fun m=>SV (List.mem_singleton.mp m)) S27
   try dsimp only
   refine Or.inl ⟨_,_,Or.inr (SqT.of ty),a2,_,aN.k (k:=.inr "view") Sc,Or.inl ⟨_,_,Or.inr (SqT.of ty),a1,?_⟩⟩
   refine ⟨_,cZ.k (k:=.inr (N i)) eV (aD (by rw [nJ,List.length_range];omega)),_,rfl,gc.trans (Go.at List.mem_cons_self _),?_⟩
   rw [kR D (by omega) (fun j hj=>by have:=List.mem_range.mp hj;omega) (fun m=>by have:=List.mem_range.mp m;omega),<- List.range_succ]
   rw [ak]
   congr 2
   refine rC fun j hj=>?_
   by_cases e:j=i
   ·rw [e,jE]
   ·rw [mH _ _ e]
  rintro σ X28 ⟨v7,rfl,g28,V28⟩
  rw [lx] at V28
  refine K11 _ _ ?_
  have nV1:∀x:Addr,x ≠ LV->x ∉ [LV]:=fun x h m=>h (List.mem_singleton.mp m)
  have n28:=g28.o _ _ (nV1 _ lnV) n27
  have k28:=g28.o _ _ (nV1 _ LkV) k27
  have S28:=g28.o _ _ (nV1 _ SV) S27
  try dsimp only
  refine ah fun M12 K12=>?_
  refine ⟨_,rfl,_,rfl,Or.inl ⟨ln,_,rfl,SqL.of n28,fun p3 hp3=>?_⟩⟩
  rw [show eZ (nmL N) (some 7) (some 11)=nV N [7,8,9,10] from rfl]
  obtain ⟨s29,e29⟩:=alc hp3 (HO.lst (nV N [7,8,9,10]))
  generalize upd X28 p3 _=X29 at s29 e29 ⊢
  refine Or.inl ⟨_,_,Or.inl (SqL.of (s29 _ _ k28)),oe rk (i:=5) (by decide),Or.inl ⟨_,_,Or.inl (SqL.of (s29 _ _ k28)),oe rk (i:=6) (by decide),by show 4 <= sizeLine;decide,fun p4 hp4=>?_⟩⟩
  rw [show [V.int 0,V.int (rk 5),V.int 2,V.int (rk 6)]=(w4 rk).map V.int from rfl]
  obtain ⟨s30,e30⟩:=alc hp4 (HO.lst ((w4 rk).map V.int))
  generalize upd X29 p4 _=X30 at s30 e30 ⊢
  have s2830:=s29.trans s30
  have V30:=s2830 _ _ V28
  have S30:=s2830 _ _ S28
  have n30:=s2830 _ _ n28
  have e29':=s30 _ _ e29
  have p3V:p3 ≠ LV:=fresh_ne hp3 V28
  have p4V:p4 ≠ LV:=fresh_ne hp4 (s29 _ _ V28)
  have gA:Go [S,LV] H [S,LV] X30:=(g27.trans (g28.to' SV)).trans (Go.new s2830)
  refine ⟨_,_,rfl,⟨_,SqL.of e29'⟩,⟨_,SqL.of e30⟩,?_⟩
  refine yr (K:=K) (xs:=nV N [7,8,9,10]) (ys:=(w4 rk).map V.int) (fun i σ Hc=>∃v8 v9,σ=[some (.ref a),some (.ref S),some (.ref ln),some (.ref lk),some (.int z),some (.ref L9),some (.int t),v7,v8,v9]/\Go [LV] X30 [LV] Hc/\Hc LV=some (.dK (dk N (List.range 13) fun j=>.int (v2 rk z i j)))) ⟨none,none,rfl,Go.refl _ _,?_⟩ (fun i σ Hc _ ⟨_,_,_,gc,_⟩=>⟨SqL.of (gc.o _ _ (nV1 _ p3V) e29'),SqL.of (gc.o _ _ (nV1 _ p4V) e30)⟩) rfl ?_ ?_
  ·rw [V30,show (fun j:Nat=>V.int (v2 rk z 0 j))=fun j=>.int (v1 rk z j) from funext fun j=>by unfold v2;rw [if_neg (by omega)]]
  ·rintro i x y σ Hc tp hx hy ⟨v8,v9,rfl,gc,eV⟩ htp
   have i4:i < 4:=(List.getElem?_eq_some_iff.mp hx).1
   have ex:x=.str (N (7 + i)):=by
    have:i=0 \/ i=1 \/ i=2 \/ i=3:=by omega
    rcases this with rfl | rfl | rfl | rfl <;> (cases hx;rfl)
   have ey:y=.int ((w4 rk).getD i 0):=by
    have:i=0 \/ i=1 \/ i=2 \/ i=3:=by omega
    rcases this with rfl | rfl | rfl | rfl <;> (cases hy;rfl)
   subst ex ey
   obtain ⟨s4,e4⟩:=alc htp (HO.tup [V.str (N (7 + i)),.int ((w4 rk).getD i 0)])
   generalize upd Hc tp _=Hd at s4 e4 ⊢
   have Sc:Hd S=some (.dK (st5 LR LV LD mode ev)):=s4 _ _ (gc.o _ _ (nV1 _ SV) S30)
   refine ⟨tp,_,rfl,SqT.of e4,rfl,_,_,rfl,_,_,rfl,rfl,?_⟩
   refine ⟨_,aN.k (k:=.inr "view") Sc,_,cZ.k (k:=.inr (N (7 + i))) (s4 _ _ eV) (aD (by rw [nJ,List.length_range];decide)),_,_,rfl,(gc.trans (Go.new s4)).trans (Go.at List.mem_cons_self _),?_⟩
   rw [wQ D (fun j hj=>by have:=List.mem_range.mp hj;omega) (List.mem_range.mpr (by omega)),ak]
   congr 2
   refine rC fun j hj=>?_
   unfold v2
   by_cases e:j=7 + i
   ·rw [e,jE,if_pos (by omega),show 7 + i - 7=i by omega]
   ·rw [mH _ _ e]
    by_cases e2:7 <= j/\j < 7 + i
    ·rw [if_pos e2,if_pos (by omega)]
    ·rw [if_neg e2,if_neg (by omega)]
  rintro σ X31 ⟨v8,v9,rfl,g31,V31⟩
  have V31:X31 LV=some (.dK (dk N (List.range 13) fun j=>.int (v2 rk z 4 j))):=V31
  refine K12 _ _ ?_
  have S31:=g31.o _ _ (nV1 _ SV) S30
  have n31:=g31.o _ _ (nV1 _ lnV) n30
  try dsimp only
  refine ah fun M13 K13=>?_
  refine ⟨_,rfl,_,rfl,Or.inl ⟨ln,_,rfl,SqL.of n31,fun lm hlm=>?_⟩⟩
  rw [show eZ (nmL N) (some 11) (some 13)=nV N [11,12] from rfl]
  obtain ⟨s32,e32⟩:=alc hlm (HO.lst (nV N [11,12]))
  generalize upd X31 lm _=X32 at s32 e32 ⊢
  refine ⟨_,cZ.k (k:=.inr "marks") (s32 _ _ S31) (show 5 < sizeLine by decide),K13 _ _ ?_⟩
  rw [show putK (st5 LR LV LD mode ev) (.inr "marks") (.ref lm)=st6 LR LV LD mode ev lm from rfl]
  have R31:=g31.o _ _ (nV1 _ LRV) (s2830 _ _ (g28.o _ _ (nV1 _ LRV) R27))
  have lmS:lm ≠ S:=fresh_ne hlm S31
  have lmR:lm ≠ LR:=fresh_ne hlm R31
  have g32:=(gA.trans (g31.to' SV)).trans (Go.new s32)
  have lm0:H lm=none:=by
   cases e:H lm with
   | none=>rfl
   | some o =>
    have lmV:lm ≠ LV:=fresh_ne hlm V31
    have:=(gA.trans (g31.to' SV)).o lm o (fun m=>by
     simp only [List.mem_cons,List.not_mem_nil,or_false] at m
     rcases m with m | m
     ·exact lmS m
     ·exact lmV m) e
    rw [hlm] at this
    cases this
  have g2731:Go [LV] X27 [LV] X32:=((g28.trans (Go.new s2830)).trans g31).trans (Go.new s32)
  refine q ln LR lm rk z t (xs.drop t ++ xs.take t) _ hrk z1 z4 (g32.trans (Go.at List.mem_cons_self _)) ln1 LR0' lm0 lnR lmR ak (af SV.symm (s32 _ _ V31)) (af LRS (s32 _ _ R31)) (af lmS e32) (af lnS (s32 _ _ n31)) ?_
  have lrZ:Paired (bK N (del [S,LR,LV] (upd X32 S (.dK (st6 LR LV LD mode ev lm))))) xs (cw rk z):=Paired.dC lr27 fun _ _=>bK.same fun x o e=>by
   obtain ⟨m,e⟩:=bg e
   refine aV m (af (fun y=>m (by rw [y];exact List.mem_cons_self)) (g2731.o _ _ (fun y=>m ?_) e))
   rw [List.mem_singleton.mp y]
   simp
  exact Paired.two (Paired.zg t lrZ) (Paired.zl t lrZ)
end
section
variable {P:Program}{w:World}{K:W.Frag}{mg:Str->Option Value}{base:Heap}{A:Adr}{N:Nat->Str}
seal PE PA PS PSs PT PW
theorem bK.but {X X':Hp}{v:V}{r:Lr} (h:bK N X v r) (k:∀x o,X x=some o->(∀y,o ≠ .dK y)->X' x=some o):bK N X' v r:=by
 obtain ⟨b,p,e1,e2,e3⟩:=h
 refine ⟨b,p,e1,k _ _ e2 (fun y z=>by cases z),fun o ho=>k _ _ (e3 o ho) (fun y z=>?_)⟩
 subst z
 cases r <;> cases ho
def bU:List Dl->List (List Tr)->List Lr
 | d :: ds,b :: bs=>.deed d.nm d.ps :: (aP b ++ (.fin :: bU ds bs))
 | _,_=>[]
theorem lq:∀{ds:List Dl}{bs:List (List Tr)} (d:Dl) (b:List Tr),ds.length=bs.length->bU (ds ++ [d]) (bs ++ [b])=bU ds bs ++ (.deed d.nm d.ps :: (aP b ++ [.fin]))
 | [],[],_,_,_=>rfl
 | d' :: ds,b' :: bs,d,b,h=>by
  have:=lq (ds:=ds) (bs:=bs) d b (by simpa using h)
  simp [bU,this]
structure xp (ev:Bool) (lim:Int) (dls:List Dl) (bss:List (List Tr)):Prop where
 len:dls.length=bss.length
 l4:dls.length <= 4
 nm:dls.map Dl.nm=(List.range dls.length).map fun j=>13 + 3 * j
 ps:∀j d,dls[j]?=some d->∃m,m <= 2/\d.ps=List.range' (14 + 3 * j) m
 sp:∀d ∈ dls,0 <= d.sp/\(d.sp <= lim \/ d.sp=0)/\0 <= d.co
 bs:∀j d b,dls[j]?=some d->bss[j]?=some b->df ([3,4,5] ++ ([7,8,9] ++ d.ps)) ([7,8,9] ++ d.ps) (dls.take j) b/\(ev=false->cm (dls.take j) 1 b <= d.sp)
structure ot (k:Nat) (vk:List Nat) (vw:Nat->Int):Prop where
 b:∀i ∈ vk,i < k/\0 <= vw i/\vw i <= 2
 h:∀i,i < 13->i ∈ vk
 v9:vw 9=2
 v2:vw 2=2
 l:vk.length <= 64
def oH (f:Nat->Int) (i:Nat) (v:Int):Nat->Int:=fun j=>if j=i then v else f j
theorem zq (f:Nat->Int) (i:Nat) (v:Int):oI (fun j=>V.int (f j)) i (.int v)=fun j=>V.int (oH f i v j):=funext fun j=>by
 unfold oI oH
 split <;> rfl
theorem ot.put {k:Nat}{vk:List Nat}{vw:Nat->Int} (h:ot k vk vw) {i:Nat}{v:Int} (h0:13 <= i) (hi:i < k) (hv:0 <= v/\v <= 2) (hl:vk.length <= 63):ot k (ins vk i) (oH vw i v):=by
 refine ⟨fun j hj=>?_,fun j hj=>mD (h.h j hj),?_,?_,Nat.le_trans (qj _ _) (by omega)⟩
 ·rcases yN hj with e | e
  ·subst e
   exact ⟨hi,by unfold oH;rw [if_pos rfl];exact hv⟩
  ·refine ⟨(h.b j e).1,?_⟩
   unfold oH
   split
   ·exact hv
   ·exact (h.b j e).2
 ·unfold oH
  rw [if_neg (by omega)]
  exact h.v9
 ·unfold oH
  rw [if_neg (by omega)]
  exact h.v2
theorem ot.up {k k':Nat}{vk:List Nat}{vw:Nat->Int} (h:ot k vk vw) (e:k <= k'):ot k' vk vw:=⟨fun i m=>⟨Nat.lt_of_lt_of_le (h.b i m).1 e,(h.b i m).2⟩,h.h,h.v9,h.v2,h.l⟩
def st8 (LR LV LD:Addr) (mode:Int) (ev:Bool) (lm LH LL:Addr):List (Key × V):=[(.inr "rows",.ref LR),(.inr "view",.ref LV),(.inr "deeds",.ref LD),(.inr "mode",.int mode),(.inr "even",.bl ev),(.inr "marks",.ref lm),(.inr "hands",.ref LH),(.inr "lists",.ref LL)]
theorem uF {i m:Nat} (hi:i < 4) (hm:m <= 2):eZ (nmL N) (some (14 + 3 * (0 + (i:Int)))) (some (14 + 3 * (0 + (i:Int)) + (m:Int)))=nV N (List.range' (14 + 3 * i) m):=by
 have a:i=0 \/ i=1 \/ i=2 \/ i=3:=by omega
 have b:m=0 \/ m=1 \/ m=2:=by omega
 rcases a with rfl | rfl | rfl | rfl <;> rcases b with rfl | rfl | rfl <;> rfl
theorem oO {ns:List Int}{a m:Int} (h0:0 <= a) (hm:0 <= m):∃cs:List Int,eZ (ns.map V.int) (some a) (some (a + m))=cs.map V.int/\(cs.length:Int) <= m:=by
 rw [wk]
 refine ⟨_,rfl,?_⟩
 obtain ⟨a,rfl⟩:∃n:Nat,a=(n:Int):=⟨a.toNat,by omega⟩
 obtain ⟨m,rfl⟩:∃n:Nat,m=(n:Int):=⟨m.toNat,by omega⟩
 rw [List.length_take,List.length_drop]
 have e:∀(d x:Nat),HT.sIx ns.length d (some (x:Int))=min x ns.length:=fun d x=>by
  show (if (x:Int) < 0 then ((x:Int) + ns.length).toNat else min (x:Int).toNat ns.length)=min x ns.length
  rw [if_neg (by omega),Int.toNat_natCast]
 rw [show (a:Int) + (m:Int)=((a + m:Nat):Int) by omega,e,e]
 omega
structure Bt (N:Nat->Str) (S LR LV LD lm LH LL:Addr) (mode:Int) (ev:Bool) (lim:Int) (Hc:Hp) (hds:List Lr) (rows:List V) (dls:List Dl) (bss:List (List Tr)) (marks:List Nat) (vk:List Nat) (vw:Nat->Int):Prop where
 hS:Hc S=some (.dK (st8 LR LV LD mode ev lm LH LL)) \/ ∃x1 x2 x3 x4 x5,Hc S=some (.dK (st8 LR LV LD mode ev lm LH LL ++ [(.inr "targets",x1),(.inr "numbers",x2),(.inr "open",x3),(.inr "spent",x4),(.inr "limit",x5)]))
 hR:Hc LR=some (.lst rows)
 hV:Hc LV=some (.dK (dk N vk fun i=>.int (vw i)))
 hD:∃ts:Nat->Addr,Hc LD=some (.dK (dk N (dls.map Dl.nm) fun i=>.ref (ts i)))/\∀e ∈ dls,(ts e.nm ≠ LR/\Hc (ts e.nm)=some (.tup [.ref e.lp,.int e.sp,.int e.co]))/\e.lp ≠ LR/\Hc e.lp=some (.lst (nV N e.ps))
 hH:Hc LH=some (.lst (nV N [0,1,2]))
 hL:Hc LL=some (.lst (nV N [6,10]))
 hm:Hc lm=some (.lst (nV N marks))
 hr:Paired (bK N (del [LR] Hc)) rows (hds ++ bU dls bss)
 ne:LH ≠ LR/\LL ≠ LR/\lm ≠ LR
 mks:∀m ∈ marks,m ∈ [11,12]
 ml:marks.length <= 2
 dd:xp ev lim dls bss
 vd:∀e ∈ dls,e.nm ∈ vk/\∀p ∈ e.ps,p ∈ vk
structure zJ (ev:Bool) (lim:Int) (lrs:List Lr) (rk:Nat->Int) (z:Int) (t:Nat) (dls:List Dl) (bss:List (List Tr)) (mb:List Tr):Prop where
 e:lrs=rot t (cw rk z) ++ bU dls bss ++ (.main :: (aP mb ++ [.fin]))
 hk:∀i,0 <= rk i/\rk i <= 2
 hz:1 <= z/\z <= 4
 dd:xp ev (lim / 4) dls bss
 ob:df [3,4,5,7,8,9] [7,8,9] dls mb
 l:lrs.length <= 200
 pay:ev=false->∃sp,cm dls 1 mb <= sp/\(sp <= lim \/ sp=0)
theorem gQ {α:Type}{xs:List α}{x y:α}{j:Nat} (h:(xs ++ [x])[j]?=some y):xs[j]?=some y/\j < xs.length \/ j=xs.length/\y=x:=by
 by_cases e:j < xs.length
 ·rw [List.getElem?_append_left e] at h
  exact .inl ⟨h,e⟩
 ·rw [List.getElem?_append_right (by omega)] at h
  have l:=(List.getElem?_eq_some_iff.mp h).1
  have e2:j - xs.length=0:=by simpa using l
  rw [e2] at h
  exact .inr ⟨by omega,(Option.some.inj h).symm⟩
theorem xp.add {ev:Bool}{lim:Int}{dls:List Dl}{bss:List (List Tr)} (h:xp ev lim dls bss) (l:dls.length < 4) {d:Dl}{b:List Tr} (nm:d.nm=13 + 3 * dls.length) (ps:∃m,m <= 2/\d.ps=List.range' (14 + 3 * dls.length) m)
  (sp:0 <= d.sp/\(d.sp <= lim \/ d.sp=0)/\0 <= d.co) (ob:df ([3,4,5] ++ ([7,8,9] ++ d.ps)) ([7,8,9] ++ d.ps) dls b) (pay:ev=false->cm dls 1 b <= d.sp):xp ev lim (dls ++ [d]) (bss ++ [b]):=by
 refine ⟨by simp [h.len],by simp;omega,?_,fun j e hj=>?_,fun e m=>?_,fun j e b' hj hb=>?_⟩
 ·rw [List.map_append,h.nm,List.length_append,List.length_singleton,List.range_succ,List.map_append]
  simp [nm]
 ·rcases gQ hj with ⟨h1,_⟩ | ⟨h1,h2⟩
  ·exact h.ps j e h1
  ·subst h1 h2
   exact ps
 ·rcases List.mem_append.mp m with m | m
  ·exact h.sp e m
  ·rw [List.mem_singleton.mp m]
   exact sp
 ·rcases gQ hj with ⟨h1,h2⟩ | ⟨h1,h2⟩
  ·rcases gQ hb with ⟨h3,_⟩ | ⟨h3,_⟩
   ·rw [List.take_append_of_le_length (by omega)]
    exact h.bs j e b' h1 h3
   ·have:=h.len
    omega
  ·rcases gQ hb with ⟨_,h4⟩ | ⟨_,h4⟩
   ·have:=h.len
    omega
   ·subst h1 h2 h4
    rw [List.take_append_of_le_length (Nat.le_refl _),List.take_length]
    exact ⟨ob,pay⟩
theorem cU {xs:List V}:∀y,HO.lst xs ≠ .dK y:=fun _ z=>by cases z
theorem mN {xs:List V}:∀y,HO.tup xs ≠ .dK y:=fun _ z=>by cases z
theorem Bt.st {S LR LV LD lm LH LL:Addr}{mode:Int}{ev:Bool}{lim:Int}{Hc:Hp}{hds:List Lr}{rows:List V}{dls:List Dl}{bss:List (List Tr)}{marks vk:List Nat}{vw:Nat->Int} (B:Bt N S LR LV LD lm LH LL mode ev lim Hc hds rows dls bss marks vk vw) :
  ∃kvs,Hc S=some (.dK kvs)/\L2.cF kvs (.inr "view")=some (.ref LV)/\L2.cF kvs (.inr "rows")=some (.ref LR)/\kvs.length <= 13/\∀LT LN:Addr,(putK kvs (.inr "targets") (.ref LT)).length <= 13/\L2.cF (putK kvs (.inr "targets") (.ref LT)) (.inr "targets")=some (.ref LT) /\
   ∀g:Gc,g.LR=LR->g.LV=LV->g.LD=LD->g.mode=mode->g.ev=ev->g.LH=LH->g.LL=LL->g.LT=LT->g.LN=LN->(putK (putK kvs (.inr "targets") (.ref LT)) (.inr "numbers") (.ref LN)=yK g lm \/ ∃x y z,putK (putK kvs (.inr "targets") (.ref LT)) (.inr "numbers") (.ref LN)=yK g lm ++ [(.inr "open",x),(.inr "spent",y),(.inr "limit",z)]):=by
 rcases B.hS with h | ⟨x1,x2,x3,x4,x5,h⟩
 ·refine ⟨_,h,rfl,rfl,(show 8 <= 13 by decide),fun LT LN=>⟨(show 9 <= 13 by decide),rfl,?_⟩⟩
  rintro g rfl rfl rfl rfl rfl rfl rfl rfl rfl
  exact .inl rfl
 ·refine ⟨_,h,rfl,rfl,(show 13 <= 13 by decide),fun LT LN=>⟨(show 13 <= 13 by decide),rfl,?_⟩⟩
  rintro g rfl rfl rfl rfl rfl rfl rfl rfl rfl
  exact .inr ⟨x3,x4,x5,rfl⟩
end
section
variable {P:Program}{w:World}{K:W.Frag}{mg:Str->Option Value}{base:Heap}{A:Adr}{N:Nat->Str}
seal PE PA PS PSs PT PW
def xT (K:W.Frag):Sp:=fun vs H Q _=>∃(a:Addr) (ns:List Int) (mode:Int) (ev:Bool) (lim:Int),vs=[.ref a,.int mode,.bl ev,.int lim]/\SqL K H a (ns.map V.int) /\
 ∀(LR:Addr) (rows:List V) (lrs:List Lr) (rk:Nat->Int) (z:Int) (t:Nat) (dls:List Dl) (bss:List (List Tr)) (mb:List Tr) (H':Hp),aq H H'->H LR=none->H' LR=some (.lst rows)->Paired (bK (nmV (cellAt ns 1)) (del [LR] H')) rows lrs->zJ ev lim lrs rk z t dls bss mb->Q (.ref LR) H'
theorem yc (T:Txt K mg A):Has P w K mg base 8 "_law_drawn" ["_law_script","_law_mode","_law_even","_law_limit"] (xT K):=by
 have D_law_cell_at:=sH (P:=P) (w:=w) (base:=base) T
 have D_law_mix:=kA (P:=P) (w:=w) (base:=base) T
 have D_law_heads:=yb (P:=P) (w:=w) (base:=base) T
 have D_law_body:=AE (P:=P) (w:=w) (base:=base) T
 refine T.oP.has (k:=7) bI (fun vs H Q E h=>?_) (fun f cdv A' outer s H vs Q E' hr hu h=>?_)
 ·obtain ⟨a,ns,mode,ev,lim,rfl,_⟩:=h
  rfl
 ·obtain ⟨a,ns,mode,ev,lim,rfl,hA,q⟩:=h
  have D:=ug (cellAt ns 1)
  obtain ⟨N,eN⟩:∃N,N=nmV (cellAt ns 1):=⟨_,rfl⟩
  rw [<- eN] at D q
  refine ⟨_,(ae (ay (i:=4) bI.nd rfl (Or.inl rfl) (mE (bS aj (bD ag) (bS aj (kQ) (bS aj (kQ) (bS aj (fv 1) (bS aj (fv 2) (mG)))))) rfl rfl (by intro z;cases z) (by decide)))
  (ae (ay (i:=5) bI.nd rfl (Or.inl rfl) (au D_law_heads hr (aa (fv 0) (aa (fv 4) ag))))
  (ae (bR (cc dj (fv 5) ik (bJ ab)) (bP (fv 4) aj (bO hu set_list)))
  (ae (bR (bD (aa (px hu (fv 5) ab) (aa (px hu (fv 5) ab) ag))) (bP (fv 4) aj (bO hu set_list)))
  (ae (ay (i:=6) bI.nd rfl (Or.inl rfl) (au D_law_cell_at hr (aa (fv 0) (aa ab ag))))
  (ae (ay (i:=7) bI.nd rfl (Or.inl rfl) ab)
  (ae (d5 PassesOwn.never rfl (gX rfl T.fP (aa (au D_law_mix hr (aa (fv 6) (aa ab (aa ab ag)))) ag)) (pgn (i:=8) bI.nd rfl)
   (ae (ay (i:=9) bI.nd rfl (Or.inl rfl) (au D_law_mix hr (aa (fv 6) (aa (ax bp ab (fv 8)) (aa ab ag)))))
   (ae (ay (i:=10) bI.nd rfl (Or.inl rfl) (px hu (fv 5) (ax bp ab (ax dh ab (fv 8)))))
   (ae (ay (i:=11) bI.nd rfl (Or.inl rfl) (cc dj (fv 5) (bJ (ax bp ab (ax dh ab (fv 8)))) (bJ (ax bp (ax bp ab (ax dh ab (fv 8))) (au D_law_mix hr (aa (fv 6) (aa (ax bp ab (fv 8)) (aa ab ag))))))))
   (ae (bR (fv 9) (bP (px hu (fv 4) aj) (fv 10) (bO hu set_list)))
   (ae (d5 PassesOwn.never rfl (dG (fv 11)) (pgn (i:=12) bI.nd rfl)
    (ao (bR (aH wq rfl T.mT (by boot_by_name) (aa (fv 9) (aa (au D_law_mix hr (aa (fv 6) (aa ab (aa ab ag)))) ag))) (bP (px hu (fv 4) aj) (fv 12) (bO hu set_list)))))
   (ae (aL (bW (px hu (fv 4) aj) (aa (bf (aa aj (aa (fv 10) (aa (fv 11) ag)))) ag)))
   (ae (bR (ax bp (cc dj (fv 5) (bJ ab) (bJ ab)) (fv 11)) (bP (fv 4) aj (bO hu set_list)))
   (ae (bR (ax bp (cc dj (fv 5) (bJ ab) (bJ ab)) (px hu (fv 4) aj)) (bP (fv 4) aj (bO hu set_list)))
   (ae (ay (i:=13) bI.nd rfl (Or.inl rfl) (au D_law_mix hr (aa (fv 6) (aa (ax mL ab (fv 8)) (aa ab ag)))))
   (ae (aL (au D_law_body hr (aa (fv 4) (aa (cc dj (fv 0) (bJ (fv 7)) (bJ (ax bp (fv 7) (fv 13)))) (aa (fv 9) (aa (ax dz (fv 3) ab) ag))))))
   (ae (bR (bf (aa (fv 11) (aa (px hu (fv 4) aj) (aa (px hu (px hu (px hu (fv 4) aj) ab) aj) ag)))) (bP (px hu (fv 4) aj) (fv 10) (bO hu set_list)))
   (ao (ay (i:=7) bI.nd rfl (Or.inl rfl) (ax bp (fv 7) (fv 13))))))))))))))))
  (ae (aL (bW (px hu (fv 4) aj) (aa (bf (aa aj ag)) ag)))
  (ae (bR (cc dj (fv 5) (bJ ab) (bJ ab)) (bP (fv 4) aj (bO hu set_list)))
  (ae (bR (ax bp (cc dj (fv 5) (bJ ab) (bJ ab)) (px hu (fv 4) aj)) (bP (fv 4) aj (bO hu set_list)))
  (ae (aL (au D_law_body hr (aa (fv 4) (aa (cc dj (fv 0) (bJ (fv 7)) (bJ (ax bp (fv 7) ab))) (aa ab (aa (fv 3) ag))))))
  (ao (aW (px hu (fv 4) aj)))))))))))))),?_⟩
  refine ah fun M1 K1=>?_
  refine fun S hS0=>?_
  obtain ⟨s1,e1⟩:=alc hS0 (HO.dK [])
  generalize upd H S _=H1 at s1 e1 ⊢
  refine ⟨Nat.zero_le _,fun L0 hL0=>?_⟩
  obtain ⟨s2,e2⟩:=alc hL0 (HO.lst [])
  generalize upd H1 L0 _=H2 at s2 e2 ⊢
  refine fun LV hLV=>?_
  obtain ⟨s3,e3⟩:=alc hLV (HO.dK [])
  generalize upd H2 LV _=H3 at s3 e3 ⊢
  refine fun LD hLD=>?_
  obtain ⟨s4,e4⟩:=alc hLD (HO.dK [])
  generalize upd H3 LD _=H4 at s4 e4 ⊢
  have s24:=(s2.trans s3).trans s4
  refine ⟨s24 _ _ e1,[((.inr "rows":Key),.ref L0),(.inr "view",.ref LV),(.inr "deeds",.ref LD),(.inr "mode",.int mode),(.inr "even",.bl ev)],rfl,(show 5 <= 15 by decide),K1 _ _ ?_⟩
  rw [show hZ [] [((.inr "rows":Key),V.ref L0),(.inr "view",.ref LV),(.inr "deeds",.ref LD),(.inr "mode",.int mode),(.inr "even",.bl ev)]=st5 L0 LV LD mode ev from rfl]
  have VS:LV ≠ S:=fresh_ne hLV ((s2) _ _ e1)
  have DS:LD ≠ S:=fresh_ne hLD ((s2.trans s3) _ _ e1)
  have DV:LD ≠ LV:=fresh_ne hLD e3
  have S0:H S=none:=hS0
  have V0:H LV=none:=aq.free (s1.trans s2) hLV
  have D0:H LD=none:=aq.free ((s1.trans s2).trans s3) hLD
  have t4:=s1.trans s24
  have g5:Go [S] H [S] (upd H4 S (.dK (st5 L0 LV LD mode ev))):=(Go.new t4).trans (Go.at List.mem_cons_self _)
  have k5:aq H (upd H4 S (.dK (st5 L0 LV LD mode ev))):=g5.keep (aq.refl _) (fun x m=>by rw [List.mem_singleton.mp m];exact S0)
  have S5:upd H4 S (.dK (st5 L0 LV LD mode ev)) S=some (.dK (st5 L0 LV LD mode ev)):=ak
  have V5:upd H4 S (.dK (st5 L0 LV LD mode ev)) LV=some (.dK []):=af VS (s4 _ _ e3)
  have D5:upd H4 S (.dK (st5 L0 LV LD mode ev)) LD=some (.dK []):=af DS e4
  generalize upd H4 S (.dK (st5 L0 LV LD mode ev))=H5 at k5 S5 V5 D5 ⊢
  clear g5 t4 s24 s4 s3 s2 s1 e1 e2 e3 e4 hLD hLV hL0 hS0
  try dsimp only
  refine ah fun M2 K2=>?_
  refine ⟨a,S,L0,LV,LD,ns,mode,ev,rfl,k5.seq hA,S5,V5,fun ln LR lm rk z t rows0 H6 hrk z1 z4 g6 ln5 LR5 lm5 lnR lmR S6 V6 R6 m6 n6 lr6=>K2 _ _ ?_⟩
  rw [<- eN] at V6 m6 n6 lr6
  have nSV:∀x,x ≠ S->x ≠ LV->x ∉ [S,LV]:=fun x h1 h2 m=>by
   simp only [List.mem_cons,List.not_mem_nil,or_false] at m
   rcases m with m | m
   ·exact h1 m
   ·exact h2 m
  have RS:LR ≠ S:=fresh_ne LR5 S5
  have RV:LR ≠ LV:=fresh_ne LR5 V5
  have RD:LR ≠ LD:=fresh_ne LR5 D5
  have LR0:H LR=none:=aq.free k5 LR5
  have D6:=g6.o _ _ (nSV _ DS DV) D5
  have k6:aq H H6:=g6.keep k5 (fun x m=>by
   simp only [List.mem_cons,List.not_mem_nil,or_false] at m
   rcases m with m | m
   ·rw [m];exact S0
   ·rw [m];exact V0)
  have lnS:ln ≠ S:=fresh_ne ln5 S5
  have lnV:ln ≠ LV:=fresh_ne ln5 V5
  have lnD:ln ≠ LD:=fresh_ne ln5 D5
  have lmS:lm ≠ S:=fresh_ne lm5 S5
  have lmV:lm ≠ LV:=fresh_ne lm5 V5
  have lmD:lm ≠ LD:=fresh_ne lm5 D5
  have ln0:H ln=none:=aq.free k5 ln5
  clear g6 k5 S5 V5 D5 ln5 LR5 lm5
  try dsimp only
  refine ah fun M3 K3=>?_
  refine ⟨_,rfl,Or.inl ⟨ln,_,rfl,SqL.of n6,fun LH hLH=>?_⟩⟩
  rw [show eZ (nmL N) none (some 3)=nV N [0,1,2] from rfl]
  obtain ⟨s7,e7⟩:=alc hLH (HO.lst (nV N [0,1,2]))
  generalize upd H6 LH _=H7 at s7 e7 ⊢
  have HS:LH ≠ S:=fresh_ne hLH S6
  have HV:LH ≠ LV:=fresh_ne hLH V6
  have HR:LH ≠ LR:=fresh_ne hLH R6
  have HD:LH ≠ LD:=fresh_ne hLH D6
  refine ⟨_,cZ.k (k:=.inr "hands") (s7 _ _ S6) (show 6 < sizeLine by decide),K3 _ _ ?_⟩
  try dsimp only
  refine ah fun M4 K4=>?_
  refine Or.inl ⟨_,_,Or.inl (SqL.of (af lnS (s7 _ _ n6))),eY N (i:=6) (by decide),Or.inl ⟨_,_,Or.inl (SqL.of (af lnS (s7 _ _ n6))),eY N (i:=10) (by decide),by show 2 <= sizeLine;decide,fun LL hLL=>?_⟩⟩
  have LLS:LL ≠ S:=fresh_ne hLL ak
  have hLL7:H7 LL=none:=by rw [aw LLS] at hLL;exact hLL
  have LLV:LL ≠ LV:=fresh_ne hLL7 (s7 _ _ V6)
  have LLR:LL ≠ LR:=fresh_ne hLL7 (s7 _ _ R6)
  have LLD:LL ≠ LD:=fresh_ne hLL7 (s7 _ _ D6)
  have LLH:LL ≠ LH:=fresh_ne hLL7 e7
  refine ⟨_,cZ.k (k:=.inr "lists") (af LLS.symm ak) (show 7 < sizeLine by decide),K4 _ _ ?_⟩
  have go8:∀(x:Addr) (o:HO),x ≠ S->H7 x=some o->upd (upd (upd H7 S (.dK (putK (st6 LR LV LD mode ev lm) (.inr "hands") (.ref LH)))) LL (.lst [.str (N 6),.str (N 10)])) S (.dK (putK (putK (st6 LR LV LD mode ev lm) (.inr "hands") (.ref LH)) (.inr "lists") (.ref LL))) x=some o:=fun x o h e=>af h (af (fun z=>by rw [z,hLL7] at e;cases e) (af h e))
  have S8:upd (upd (upd H7 S (.dK (putK (st6 LR LV LD mode ev lm) (.inr "hands") (.ref LH)))) LL (.lst [.str (N 6),.str (N 10)])) S (.dK (putK (putK (st6 LR LV LD mode ev lm) (.inr "hands") (.ref LH)) (.inr "lists") (.ref LL))) S=some (.dK (st8 LR LV LD mode ev lm LH LL)):=ak
  have L8:upd (upd (upd H7 S (.dK (putK (st6 LR LV LD mode ev lm) (.inr "hands") (.ref LH)))) LL (.lst [.str (N 6),.str (N 10)])) S (.dK (putK (putK (st6 LR LV LD mode ev lm) (.inr "hands") (.ref LH)) (.inr "lists") (.ref LL))) LL=some (.lst (nV N [6,10])):=af LLS ak
  generalize upd (upd (upd H7 S (.dK (putK (st6 LR LV LD mode ev lm) (.inr "hands") (.ref LH)))) LL (.lst [.str (N 6),.str (N 10)])) S (.dK (putK (putK (st6 LR LV LD mode ev lm) (.inr "hands") (.ref LH)) (.inr "lists") (.ref LL)))=H8 at go8 S8 L8 ⊢
  have k8:aq H H8:=fun x o e=>go8 x o (fun z=>by rw [z,S0] at e;cases e) (s7 _ _ (k6 _ _ e))
  have n8:=go8 _ _ lnS (s7 _ _ n6)
  have hd0:ot 13 (List.range 13) (v2 rk z 4):=by
   refine ⟨fun i m=>⟨List.mem_range.mp m,?_⟩,fun i h=>List.mem_range.mpr h,rfl,rfl,by decide⟩
   have i13:=List.mem_range.mp m
   have r0:=hrk 0
   have r1:=hrk 1
   have r2:=hrk 2
   have r3:=hrk 3
   have r4:=hrk 4
   have r5:=hrk 5
   have r6:=hrk 6
   have:i=0 \/ i=1 \/ i=2 \/ i=3 \/ i=4 \/ i=5 \/ i=6 \/ i=7 \/ i=8 \/ i=9 \/ i=10 \/ i=11 \/ i=12:=by omega
   rcases this with rfl | rfl | rfl | rfl | rfl | rfl | rfl | rfl | rfl | rfl | rfl | rfl | rfl <;> (simp [v2,v1,w4];try omega)
  have B8:Bt N S LR LV LD lm LH LL mode ev (lim / 4) H8 (rot t (cw rk z)) rows0 [] [] [11,12] (List.range 13) (v2 rk z 4):=by
   refine ⟨.inl S8,go8 _ _ RS (s7 _ _ R6),go8 _ _ VS (s7 _ _ V6),⟨fun _=>S,go8 _ _ DS (s7 _ _ D6),fun e m=>by cases m⟩,go8 _ _ HS e7,L8,go8 _ _ lmS (s7 _ _ m6),?_,⟨HR,LLR,lmR⟩,fun _ h=>h,by decide,⟨rfl,by decide,rfl,fun j d e=>(by cases e),fun d m=>(by cases m),fun j d b e=>(by cases e)⟩,fun e m=>(by cases m)⟩
   rw [show bU [] []=[] from rfl,List.append_nil]
   refine Paired.dC lr6 fun v h l=>l.but fun x o e nd=>?_
   obtain ⟨m,e⟩:=bg e
   simp only [List.mem_cons,List.not_mem_nil,or_false,not_or] at m
   exact aV (fun y=>m.2.1 (List.mem_singleton.mp y)) (go8 _ _ m.1 (s7 _ _ e))
  have lr0:(rot t (cw rk z)).length=13:=by
   unfold rot
   rw [List.length_append,List.length_drop,List.length_take]
   show 13 - t + min t 13=13
   omega
  clear go8 S8 L8 s7 e7 k6 hLL hLL7 hLH S6 V6 R6 m6 n6 lr6 D6
  try dsimp only
  refine ah fun M5 K5=>?_
  refine ⟨a,ns,3,rfl,k8.seq hA,by decide,K5 _ _ ?_⟩
  obtain ⟨c,hc⟩:∃c,c=cellAt ns 3:=⟨_,rfl⟩
  rw [<- hc]
  try dsimp only
  refine ah fun M6 K6=>K6 _ _ ?_
  try dsimp only
  refine ah fun M7 K7=>?_
  refine ⟨c,0,5,rfl,by decide,by decide,fun n H9 n0 n1 s9=>?_⟩
  obtain ⟨n,rfl⟩:∃k:Nat,n=(k:Int):=⟨n.toNat,by omega⟩
  refine ⟨n,rfl,by omega,by omega,?_⟩
  rw [Int.toNat_natCast]
  have k9:aq H H9:=k8.trans s9
  have n9:=s9 _ _ n8
  have B9:Bt N S LR LV LD lm LH LL mode ev (lim / 4) H9 (rot t (cw rk z)) rows0 [] [] [11,12] (List.range 13) (v2 rk z 4):=by
   obtain ⟨ts,h1,_⟩:=B8.hD
   refine ⟨?_,s9 _ _ B8.hR,s9 _ _ B8.hV,⟨ts,s9 _ _ h1,fun e m=>by cases m⟩,s9 _ _ B8.hH,s9 _ _ B8.hL,s9 _ _ B8.hm,Paired.dC B8.hr fun v h l=>l.same (Go.new s9).same,B8.ne,B8.mks,B8.ml,B8.dd,B8.vd⟩
   rcases B8.hS with h | ⟨x1,x2,x3,x4,x5,h⟩
   ·exact .inl (s9 _ _ h)
   ·exact .inr ⟨x1,x2,x3,x4,x5,s9 _ _ h⟩
  have l0:rows0.length=13:=by
   have:=Paired.length B8.hr
   rw [this,List.length_append,lr0]
   rfl
  have fr0:∀x ∈ [S,LR,LV,LD],H x=none:=fun x m=>by
   simp only [List.mem_cons,List.not_mem_nil,or_false] at m
   rcases m with m | m | m | m
   ·rw [m];exact S0
   ·rw [m];exact LR0
   ·rw [m];exact V0
   ·rw [m];exact D0
  have ln4:ln ∉ [S,LR,LV,LD]:=fun m=>by
   simp only [List.mem_cons,List.not_mem_nil,or_false] at m
   rcases m with m | m | m | m
   ·exact lnS m
   ·exact lnR m
   ·exact lnV m
   ·exact lnD m
  clear B8 k8 n8 s9
  refine kW (lo:=0) (fun i σ Hc=>∃(lm:Addr) (rows:List V) (dls:List Dl) (bss:List (List Tr)) (marks vk:List Nat) (vw:Nat->Int) (at_:Int) (v8 v9 v10 v11 v12 v13:Option V),σ=[some (.ref a),some (.int mode),some (.bl ev),some (.int lim),some (.ref S),some (.ref ln),some (.int c),some (.int at_),v8,v9,v10,v11,v12,v13]/\0 <= at_/\dls.length=i/\Go [S,LR,LV,LD] H9 [S,LR,LV,LD] Hc/\Bt N S LR LV LD lm LH LL mode ev (lim / 4) Hc (rot t (cw rk z)) rows dls bss marks vk vw/\ot (13 + 3 * i) vk vw/\rows.length <= 13 + 14 * i/\vk.length <= 13 + 3 * i) ⟨lm,rows0,[],[],[11,12],_,_,8,none,none,none,none,none,none,rfl,by decide,rfl,Go.refl _ _,B9,hd0,by omega,by show 13 <= 13;decide⟩ ?_ ?_
  ·rintro i σ Hc hi ⟨lm,rows,dls,bss,marks,vk,vw,at_,v8,v9,v10,v11,v12,v13,rfl,at0,dl,gc,B,W0,rl,vl⟩
   have i4:i < 4:=by omega
   have kc:aq H Hc:=gc.keep k9 fr0
   have nc:=gc.o _ _ ln4 n9
   obtain ⟨kvs,eS,gv,gr,lk,fin⟩:=B.st
   have GV:∀Hx:Hp,Hx S=some (.dK kvs)->aN Hx S (.str "view") (some (.ref LV)):=fun Hx e=>by rw [<- gv];exact aN.k (k:=.inr "view") e
   have GR:∀Hx:Hp,Hx S=some (.dK kvs)->aN Hx S (.str "rows") (some (.ref LR)):=fun Hx e=>by rw [<- gr];exact aN.k (k:=.inr "rows") e
   try dsimp only
   refine ah fun N1 J1=>?_
   refine ⟨c,1 + i,3,(congrArg (fun x:Int=>[V.int c,V.int x,V.int 3]) (show 1 + (0 + (i:Int))=((1 + i:Nat):Int) by omega)),by omega,by decide,fun r Ha r0 r1 sa=>J1 _ _ ?_⟩
   try dsimp only
   refine ah fun N2 J2=>?_
   refine ⟨Or.inl ⟨by decide,by decide⟩,Or.inl ⟨_,_,Or.inl (SqL.of (sa _ _ nc)),(by rw [show 13 + 3 * (0 + (i:Int))=((13 + 3 * i:Nat):Int) by omega];exact eY N (by omega)),J2 _ _ ?_⟩⟩
   try dsimp only
   refine ah fun N3 J3=>?_
   refine ⟨Or.inl ⟨by decide,by decide⟩,_,rfl,Or.inl ⟨by decide,by decide⟩,c,3 + i,3,(congrArg (fun x:Int=>[V.int c,V.int x,V.int 3]) (show 3 + (0 + (i:Int))=((3 + i:Nat):Int) by omega)),by omega,by decide,fun m Hb m0 m1 sb=>⟨_,rfl,Or.inl ⟨ln,_,rfl,SqL.of ((sa.trans sb) _ _ nc),fun lp hlp=>J3 _ _ ?_⟩⟩⟩
   obtain ⟨m,rfl⟩:∃k:Nat,m=(k:Int):=⟨m.toNat,by omega⟩
   rw [uF i4 (by omega)]
   obtain ⟨ps,hps⟩:∃ps,ps=List.range' (14 + 3 * i) m:=⟨_,rfl⟩
   rw [<- hps]
   have pm:∀p ∈ ps,14 + 3 * i <= p/\p < 14 + 3 * i + m:=fun p hp=>by rw [hps] at hp;simpa using List.mem_range'_1.mp hp
   have pl:ps.length=m:=by rw [hps];simp
   obtain ⟨sc,ec⟩:=alc hlp (HO.lst (nV N ps))
   generalize upd Hb lp _=Hd at sc ec ⊢
   have sd:=(sa.trans sb).trans sc
   have lpR:lp ≠ LR:=fresh_ne hlp ((sa.trans sb) _ _ B.hR)
   have lpS:lp ≠ S:=fresh_ne hlp ((sa.trans sb) _ _ eS)
   have lpV:lp ≠ LV:=fresh_ne hlp ((sa.trans sb) _ _ B.hV)
   clear hlp
   try dsimp only
   refine ah fun N4 J4=>?_
   refine ⟨_,GV _ (sd _ _ eS),_,cZ.k (k:=.inr (N (13 + 3 * i))) (sd _ _ B.hV) (aD (by rw [nJ];omega)),J4 _ _ ?_⟩
   rw [vP D (by omega) (fun j hj=>by have:=(W0.b j hj).1;omega),zq]
   have V1:ot (13 + 3 * (i + 1)) (ins vk (13 + 3 * i)) (oH vw (13 + 3 * i) r):=(W0.up (by omega)).put (by omega) (by omega) ⟨r0,by omega⟩ (by omega)
   have nk:13 + 3 * i ∈ ins vk (13 + 3 * i):=xK _ _
   have ok1:∀j ∈ vk,j ∈ ins vk (13 + 3 * i):=fun j h=>mD h
   have lk1:=qj vk (13 + 3 * i)
   generalize ins vk (13 + 3 * i)=vk1 at V1 nk ok1 lk1 ⊢
   generalize oH vw (13 + 3 * i) r=vw1 at V1 ⊢
   have ge:Go [LV] Hc [LV] (upd Hd LV (.dK (dk N vk1 fun j=>.int (vw1 j)))):=(Go.new sd).trans (Go.at List.mem_cons_self _)
   have eV:upd Hd LV (.dK (dk N vk1 fun j=>.int (vw1 j))) LV=some (.dK (dk N vk1 fun j=>.int (vw1 j))):=ak
   have ep:=af (u:=.dK (dk N vk1 fun j=>.int (vw1 j))) lpV ec
   generalize upd Hd LV (.dK (dk N vk1 fun j=>.int (vw1 j)))=He at ge eV ep ⊢
   have nV1:∀x:Addr,x ≠ LV->x ∉ [LV]:=fun x h m=>h (List.mem_singleton.mp m)
   clear sc sd sa sb ec
   try dsimp only
   refine ah fun N5 J5=>?_
   refine Or.inl ⟨⟨_,SqL.of ep⟩,dM (K:=K) (xs:=nV N ps) (fun j σ Hx=>∃(vk2:List Nat) (vw2:Nat->Int) (v12:Option V),σ=[some (.ref a),some (.int mode),some (.bl ev),some (.int lim),some (.ref S),some (.ref ln),some (.int c),some (.int at_),some (.int (0 + (i:Int))),some (.int r),some (.str (N (13 + 3 * i))),some (.ref lp),v12,v13]/\Go [LV] He [LV] Hx/\Hx LV=some (.dK (dk N vk2 fun j=>.int (vw2 j)))/\ot (13 + 3 * (i + 1)) vk2 vw2/\(∀j ∈ vk1,j ∈ vk2)/\(∀p ∈ ps.take j,p ∈ vk2)/\vk2.length <= 13 + 3 * i + 1 + j) ⟨vk1,vw1,v12,rfl,Go.refl _ _,eV,V1,fun _ h=>h,fun p hp=>(by cases hp),by omega⟩ (fun j σ Hx _ ⟨_,_,_,_,gx,_⟩=>SqL.of (gx.o _ _ (nV1 _ lpV) ep)) ?_ ?_⟩
   ·rintro j v σ Hx hv ⟨vk2,vw2,v12,rfl,gx,eV2,V2,ok2,pk2,lk2⟩
    rw [List.getElem?_map] at hv
    obtain ⟨p,hp,rfl⟩:=Option.map_eq_some_iff.mp hv
    have pb:=pm p (List.mem_of_getElem? hp)
    have jl:j < ps.length:=(List.getElem?_eq_some_iff.mp hp).1
    try dsimp only
    refine ⟨c,5,3,rfl,by decide,by decide,fun m2 Hy h0 h1 sy=>⟨_,_,rfl,?_⟩⟩
    obtain ⟨u,hu'⟩:∃u:Int,u=if m2 > r then m2 else r:=⟨_,rfl⟩
    rw [<- hu']
    have ub:0 <= u/\u <= 2:=by rw [hu'];split <;> omega
    refine ⟨_,GV _ (sy _ _ (gx.o _ _ (nV1 _ VS.symm) (ge.o _ _ (nV1 _ VS.symm) eS))),_,cZ.k (k:=.inr (N p)) (sy _ _ eV2) (aD (by rw [nJ];omega)),ins vk2 p,oH vw2 p u,_,rfl,(gx.trans (Go.new sy)).trans (Go.at List.mem_cons_self _),?_,V2.put (by omega) (by omega) ub (by omega),fun j h=>mD (ok2 j h),fun x hx=>?_,Nat.le_trans (qj _ _) (by omega)⟩
    ·rw [vP D (by omega) (fun j hj=>by have:=(V2.b j hj).1;omega),zq,ak]
    ·rw [List.take_add_one,hp] at hx
     rcases List.mem_append.mp hx with h | h
     ·exact mD (pk2 x h)
     ·have:x=p:=by simpa using h
      rw [this]
      exact xK _ _
   rintro σ Hf ⟨vk2,vw2,v12',rfl,gx,eV2,V2,ok2,pk2,lk2⟩
   rw [List.length_map,List.take_length] at pk2
   rw [List.length_map] at lk2
   refine J5 _ _ ?_
   have gf:Go [LV] Hc [LV] Hf:=ge.trans gx
   have Sf:=gf.o _ _ (nV1 _ VS.symm) eS
   have Rf:=gf.o _ _ (nV1 _ RV) B.hR
   have pf:=gx.o _ _ (nV1 _ lpV) ep
   have nf:=gf.o _ _ (nV1 _ lnV) nc
   try dsimp only
   refine ah fun N6 J6=>?_
   refine ⟨_,GR _ Sf,Or.inl ⟨rfl,_,SqL.of Rf⟩,by show 3 <= sizeLine;decide,fun td htd=>?_⟩
   have tdR:td ≠ LR:=fresh_ne htd Rf
   refine ⟨_,_,_,rfl,rfl,af tdR.symm Rf,aD (by omega),J6 _ _ ?_⟩
   have tdS:td ≠ S:=fresh_ne htd Sf
   have tdV:td ≠ LV:=fresh_ne htd eV2
   have tdp:td ≠ lp:=fresh_ne htd pf
   have gg:Go [S,LR,LV] Hc [S,LR,LV] (upd (upd Hf td (.tup [.str "deed",.str (N (13 + 3 * i)),.ref lp])) LR (.lst (rows ++ [.ref td]))):=by
    have h1:Go [S,LR,LV] Hc [S,LR,LV] Hf:=⟨fun x o m e=>gf.o x o (fun y=>m (by rw [List.mem_singleton.mp y];simp)) e,fun _ m=>.inl m⟩
    exact (h1.trans (Go.new (aq.upd htd _))).trans (Go.at (List.mem_cons_of_mem _ List.mem_cons_self) _)
   have Sg:=af (u:=.lst (rows ++ [.ref td])) RS.symm (af (u:=.tup [.str "deed",.str (N (13 + 3 * i)),.ref lp]) tdS.symm Sf)
   have Rg:upd (upd Hf td (.tup [.str "deed",.str (N (13 + 3 * i)),.ref lp])) LR (.lst (rows ++ [.ref td])) LR=some (.lst (rows ++ [.ref td])):=ak
   have Vg:=af (u:=.lst (rows ++ [.ref td])) RV.symm (af (u:=.tup [.str "deed",.str (N (13 + 3 * i)),.ref lp]) tdV.symm eV2)
   have pg:=af (u:=.lst (rows ++ [.ref td])) lpR (af (u:=.tup [.str "deed",.str (N (13 + 3 * i)),.ref lp]) tdp.symm pf)
   have ng:=af (u:=.lst (rows ++ [.ref td])) lnR (af (u:=.tup [.str "deed",.str (N (13 + 3 * i)),.ref lp]) (fresh_ne htd nf).symm nf)
   have tg:upd (upd Hf td (.tup [.str "deed",.str (N (13 + 3 * i)),.ref lp])) LR (.lst (rows ++ [.ref td])) td=some (.tup [.str "deed",.str (N (13 + 3 * i)),.ref lp]):=af tdR ak
   generalize upd (upd Hf td (.tup [.str "deed",.str (N (13 + 3 * i)),.ref lp])) LR (.lst (rows ++ [.ref td]))=Hg at gg Sg Rg Vg pg ng tg ⊢
   clear htd Sf Rf pf nf gf eV2 gx ep ge eV
   try dsimp only
   refine ah fun N7 J7=>?_
   refine ⟨_,rfl,_,rfl,Or.inl ⟨ln,_,rfl,SqL.of ng,fun p1 hp1=>?_⟩⟩
   rw [show eZ (nmL N) (some 7) (some 10)=nV N [7,8,9] from rfl]
   obtain ⟨sh,eh⟩:=alc hp1 (HO.lst (nV N [7,8,9]))
   generalize upd Hg p1 _=Hh at sh eh ⊢
   refine ⟨p1,lp,_,_,rfl,rfl,eh,sh _ _ pg,sz (by rw [List.length_map,List.length_map];show 3 + ps.length <= 1000;omega),fun LT hLT=>?_⟩
   rw [show nV N [7,8,9] ++ nV N ps=nV N ([7,8,9] ++ ps) by simp]
   obtain ⟨si,ei⟩:=alc hLT (HO.lst (nV N ([7,8,9] ++ ps)))
   generalize upd Hh LT _=Hi at si ei ⊢
   have TS:LT ≠ S:=fresh_ne hLT (sh _ _ Sg)
   have TR:LT ≠ LR:=fresh_ne hLT (sh _ _ Rg)
   have shi:=sh.trans si
   refine ⟨_,cZ.k (k:=.inr "targets") (shi _ _ Sg) (aD (by omega)),J7 _ _ ?_⟩
   have gj:Go [S] Hg [S] (upd Hi S (.dK (putK kvs (.inr "targets") (.ref LT)))):=(Go.new shi).trans (Go.at List.mem_cons_self _)
   have Sj:upd Hi S (.dK (putK kvs (.inr "targets") (.ref LT))) S=some (.dK (putK kvs (.inr "targets") (.ref LT))):=ak
   have Tj:=af (u:=.dK (putK kvs (.inr "targets") (.ref LT))) TS ei
   generalize upd Hi S (.dK (putK kvs (.inr "targets") (.ref LT)))=Hj at gj Sj Tj ⊢
   clear sh eh si ei shi hLT hp1
   have nS1:∀x:Addr,x ≠ S->x ∉ [S]:=fun x h m=>h (List.mem_singleton.mp m)
   try dsimp only
   refine ah fun N8 J8=>?_
   refine ⟨_,rfl,_,rfl,Or.inl ⟨ln,_,rfl,SqL.of (gj.o _ _ (nS1 _ lnS) ng),fun p2 hp2=>?_⟩⟩
   rw [show eZ (nmL N) (some 3) (some 6)=nV N [3,4,5] from rfl]
   obtain ⟨sh,eh⟩:=alc hp2 (HO.lst (nV N [3,4,5]))
   generalize upd Hj p2 _=Hh at sh eh ⊢
   refine ⟨.ref LT,(by rw [<- (fin LT LT).2.1];exact aN.k (k:=.inr "targets") (sh _ _ Sj)),p2,LT,_,_,rfl,rfl,eh,sh _ _ Tj,sz (by rw [List.length_map,List.length_map,List.length_append];show 3 + (3 + ps.length) <= 1000;omega),fun LN hLN=>?_⟩
   rw [show nV N [3,4,5] ++ nV N ([7,8,9] ++ ps)=nV N ([3,4,5] ++ ([7,8,9] ++ ps)) by simp]
   obtain ⟨si,ei⟩:=alc hLN (HO.lst (nV N ([3,4,5] ++ ([7,8,9] ++ ps))))
   generalize upd Hh LN _=Hi at si ei ⊢
   have Rj:=gj.o _ _ (nS1 _ RS) Rg
   have NS:LN ≠ S:=fresh_ne hLN (sh _ _ Sj)
   have NR:LN ≠ LR:=fresh_ne hLN (sh _ _ Rj)
   have shi:=sh.trans si
   refine ⟨_,cZ.k (k:=.inr "numbers") (shi _ _ Sj) (aD (by have:=(fin LT LT).1;omega)),J8 _ _ ?_⟩
   have gk:Go [S] Hg [S] (upd Hi S (.dK (putK (putK kvs (.inr "targets") (.ref LT)) (.inr "numbers") (.ref LN)))):=gj.trans ((Go.new shi).trans (Go.at List.mem_cons_self _))
   have Sk:upd Hi S (.dK (putK (putK kvs (.inr "targets") (.ref LT)) (.inr "numbers") (.ref LN))) S=some (.dK (putK (putK kvs (.inr "targets") (.ref LT)) (.inr "numbers") (.ref LN))):=ak
   have Tk:=af (u:=.dK (putK (putK kvs (.inr "targets") (.ref LT)) (.inr "numbers") (.ref LN))) TS (shi _ _ Tj)
   have Nk:=af (u:=.dK (putK (putK kvs (.inr "targets") (.ref LT)) (.inr "numbers") (.ref LN))) NS ei
   generalize upd Hi S (.dK (putK (putK kvs (.inr "targets") (.ref LT)) (.inr "numbers") (.ref LN)))=Hk at gk Sk Tk Nk ⊢
   clear sh eh si ei shi hLN hp2 gj Sj Tj Rj
   try dsimp only
   refine ah fun N9 J9=>?_
   refine ⟨c,6 - i,5,(congrArg (fun x:Int=>[V.int c,V.int x,V.int 5]) (show 6 - (0 + (i:Int))=((6 - i:Nat):Int) by omega)),by omega,by decide,fun many Hl y0 y1 sl=>J9 _ _ ?_⟩
   have kl:∀(x:Addr) (o:HO),x ≠ S->x ≠ LR->x ≠ LV->Hc x=some o->Hl x=some o:=fun x o h1 h2 h3 e=>sl _ _ (gk.o _ _ (nS1 _ h1) (gg.o _ _ (fun m=>by
    simp only [List.mem_cons,List.not_mem_nil,or_false] at m
    rcases m with m | m | m
    ·exact h1 m
    ·exact h2 m
    ·exact h3 m) e))
   have kn:∀(x:Addr) (o:HO),x ≠ LR->(∀y,o ≠ .dK y)->Hc x=some o->Hl x=some o:=fun x o h1 nd e=>kl x o (fun y=>by rw [y,eS] at e;exact nd _ (Option.some.inj e).symm) h1 (fun y=>by rw [y,B.hV] at e;exact nd _ (Option.some.inj e).symm) e
   have gl:Go [S,LR,LV] Hc [S,LR,LV] Hl:=⟨fun x o m e=>by
    simp only [List.mem_cons,List.not_mem_nil,or_false,not_or] at m
    exact kl x o m.1 m.2.1 m.2.2 e,fun _ m=>.inl m⟩
   have hc':aq H Hl:=fun x o e=>kl x o (fun y=>by rw [y,S0] at e;cases e) (fun y=>by rw [y,LR0] at e;cases e) (fun y=>by rw [y,V0] at e;cases e) (kc _ _ e)
   have Sl:=sl _ _ Sk
   have Rl:=sl _ _ (gk.o _ _ (nS1 _ RS) Rg)
   have Vl:=sl _ _ (gk.o _ _ (nS1 _ VS) Vg)
   have pL:=sl _ _ (gk.o _ _ (nS1 _ lpS) pg)
   have tL:=sl _ _ (gk.o _ _ (nS1 _ tdS) tg)
   have Tl:=sl _ _ Tk
   have Nl:=sl _ _ Nk
   clear gk sl gg Sk Rg Vg pg tg Tk Nk Sg ng
   try dsimp only
   refine ah fun N10 J10=>?_
   refine ⟨_,rfl,_,rfl,Or.inl ⟨a,_,rfl,hc'.seq hA,fun cl hcl=>?_⟩⟩
   obtain ⟨cs,ecs,lcs⟩:=oO (ns:=ns) at0 y0
   rw [ecs]
   obtain ⟨sm,em⟩:=alc hcl (HO.lst (cs.map V.int))
   generalize upd Hl cl _=Hm at sm em ⊢
   have clR:cl ≠ LR:=fresh_ne hcl Rl
   clear hcl
   have lenR:=Paired.length B.hr
   have n2:∀x,x ≠ S->x ≠ LR->x ∉ [S,LR]:=fun x h1 h2 m=>by
    simp only [List.mem_cons,List.not_mem_nil,or_false] at m
    rcases m with m | m
    ·exact h1 m
    ·exact h2 m
   have nS:∀(x:Addr) (o:HO),(∀y,o ≠ .dK y)->Hm x=some o->x ≠ S:=fun x o nd e y=>by
    rw [y,sm _ _ Sl] at e
    exact nd _ (Option.some.inj e).symm
   obtain ⟨ts,hLDc,hts⟩:=B.hD
   have LDm:=sm _ _ (kl _ _ DS RD.symm DV hLDc)
   obtain ⟨g,hg⟩:∃g:Gc,g=⟨N,S,LR,LV,LD,LH,LL,LT,LN,mode,ev,vk2,vw2,[7,8,9] ++ ps,[3,4,5] ++ ([7,8,9] ++ ps),dls,lim / 4,rot t (cw rk z) ++ bU dls bss ++ [.deed (13 + 3 * i) ps],r⟩:=⟨_,rfl⟩
   have dn:∀k,k <= 4->((List.range k).map fun j=>13 + 3 * j).Nodup:=by decide
   have dvk:∀e ∈ dls,e.nm ∈ vk2/\∀p ∈ e.ps,p ∈ vk2:=fun e m=>⟨ok2 _ (ok1 _ (B.vd e m).1),fun p hp=>ok2 _ (ok1 _ ((B.vd e m).2 p hp))⟩
   have tv:∀j ∈ [7,8,9] ++ ps,j ∈ vk2:=fun j hj=>by
    rcases List.mem_append.mp hj with h | h
    ·refine V2.h j ?_
     simp only [List.mem_cons,List.not_mem_nil,or_false] at h
     omega
    ·exact pk2 j h
   have GO:fV g:=by
    rw [hg]
    refine ⟨D,fun j hj=>⟨by have:=(V2.b j hj).1;omega,(V2.b j hj).2⟩,tv,fun j hj=>?_,fun j hj=>V2.h j ?_,(by show 9 ∈ [7,8,9] ++ ps;simp),V2.v9,V2.v2,fun e m=>?_,?_,B.dd.l4,(by show ([7,8,9] ++ ps).length <= 5;simp;omega),(by show ([3,4,5] ++ ([7,8,9] ++ ps)).length <= 8;simp;omega),⟨r0,(by show r <= 2;omega)⟩,?_⟩
    ·rcases List.mem_append.mp hj with h | h
     ·refine V2.h j ?_
      simp only [List.mem_cons,List.not_mem_nil,or_false] at h
      omega
     ·exact tv j h
    ·simp only [List.mem_cons,List.not_mem_nil,or_false] at hj
     omega
    ·obtain ⟨j,hj⟩:=List.getElem?_of_mem m
     obtain ⟨k,hk,ek⟩:=B.dd.ps j e hj
     have sp:=B.dd.sp e m
     exact ⟨(dvk e m).1,by rw [ek,List.length_range'];exact hk,sp.1,sp.2.2,(dvk e m).2⟩
    ·show (dls.map Dl.nm).Nodup
     rw [B.dd.nm]
     exact dn _ B.dd.l4
    ·show (rot t (cw rk z) ++ bU dls bss ++ [Lr.deed (13 + 3 * i) ps]).length <= 500
     rw [List.length_append,<- lenR]
     show rows.length + 1 <= 500
     omega
   have PA:xC g Hm lm marks (rows ++ [.ref td]):=by
    have fg:=(fin LT LN).2.2 g (by rw [hg]) (by rw [hg]) (by rw [hg]) (by rw [hg]) (by rw [hg]) (by rw [hg]) (by rw [hg]) (by rw [hg]) (by rw [hg])
    refine ⟨?_,?_,?_,?_,?_,?_,B.mks,B.ml⟩
    ·rw [show g.S=S by rw [hg]]
     rcases fg with h | ⟨x,y,z,h⟩
     ·exact .inl (by rw [<- h];exact sm _ _ Sl)
     ·exact .inr ⟨x,y,z,by rw [<- h];exact sm _ _ Sl⟩
    ·rw [hg]
     exact sm _ _ Rl
    ·rw [hg]
     exact RS.symm
    ·rw [hg]
     have lst:∀(x:Addr) (xs:List V),x ≠ LR->Hm x=some (.lst xs)->del [S,LR] Hm x=some (.lst xs):=fun x xs h e=>aV (n2 _ (nS x _ cU e) h) e
     refine ⟨aV (n2 _ VS RV.symm) (sm _ _ Vl),⟨ts,aV (n2 _ DS RD.symm) LDm,fun e m=>?_⟩,lst _ _ B.ne.1 (sm _ _ (kn _ _ B.ne.1 cU B.hH)),lst _ _ B.ne.2.1 (sm _ _ (kn _ _ B.ne.2.1 cU B.hL)),lst _ _ TR (sm _ _ Tl),lst _ _ NR (sm _ _ Nl)⟩
     obtain ⟨⟨h1,h2⟩,h3,h4⟩:=hts e m
     have h2':=sm _ _ (kn _ _ h1 mN h2)
     exact ⟨aV (n2 _ (nS _ _ mN h2') h1) h2',lst _ _ h3 (sm _ _ (kn _ _ h3 cU h4))⟩
    ·rw [hg]
     have h:=sm _ _ (kn _ _ B.ne.2.2 cU B.hm)
     exact aV (n2 _ (nS _ _ cU h) B.ne.2.2) h
    ·rw [hg]
     refine Paired.snoc ⟨td,lp,rfl,aV (n2 _ tdS tdR) (sm _ _ tL),fun o ho=>?_⟩ (Paired.dC B.hr fun v h l=>l.but fun x o e nd=>?_)
     ·obtain ⟨m,e⟩:=bg e
      have xR:x ≠ LR:=fun y=>m (by rw [y];exact List.mem_cons_self)
      have h:=sm _ _ (kn _ _ xR nd e)
      exact aV (n2 _ (nS _ _ nd h) xR) h
     ·cases ho
      exact aV (n2 _ lpS lpR) (sm _ _ pL)
   refine ⟨⟨by decide,by decide⟩,g,cl,lm,cs,marks,rows ++ [.ref td],(by rw [hg];rfl),GO,PA,em,(by rw [hg];exact clR),by omega,fun d rows' Hn gn E fl=>J10 _ _ ?_⟩
   rw [show g.S=S by rw [hg],show g.LR=LR by rw [hg]] at gn
   have ES:Hn S=some (.dK (stK g d)):=by
    have:=E.hS
    rw [show g.S=S by rw [hg]] at this
    exact this
   have ER:Hn LR=some (.lst rows'):=by
    have:=E.hR
    rw [show g.LR=LR by rw [hg]] at this
    exact this
   have Em:=E.hm
   have Er:=E.hr
   rw [show g.S=S by rw [hg],show g.LR=LR by rw [hg],show g.N=N by rw [hg]] at Em Er
   have Ln:=gn.o _ _ (n2 _ DS RD.symm) LDm
   try dsimp only
   refine ah fun N11 J11=>?_
   refine ⟨_,aN.k (k:=.inr "spent") ES,_,aN.k (k:=.inr "open") ES,Or.inl ⟨_,_,Or.inl (SqL.of E.hO),aB (j:=0) rfl,_,aN.k (k:=.inr "cost") E.h0,by show 3 <= sizeLine;decide,fun t2 ht2=>?_⟩⟩
   have t2S:t2 ≠ S:=fresh_ne ht2 ES
   have t2R:t2 ≠ LR:=fresh_ne ht2 ER
   have t2D:t2 ≠ LD:=fresh_ne ht2 Ln
   have gD:aN (upd Hn t2 (.tup [.ref lp,.int d.spent,.int d.bc])) S (.str "deeds") (some (.ref g.LD)):=aN.k (k:=.inr "deeds") (af t2S.symm ES)
   rw [show g.LD=LD by rw [hg]] at gD
   refine ⟨_,gD,_,cZ.k (k:=.inr (N (13 + 3 * i))) (af t2D.symm Ln) (aD (by rw [nJ,List.length_map];omega)),J11 _ _ ?_⟩
   have nm':(13 + 3 * i) ∉ dls.map Dl.nm:=fun m=>by
    rw [B.dd.nm,dl] at m
    obtain ⟨j,hj,e⟩:=List.mem_map.mp m
    have:=List.mem_range.mp hj
    omega
   rw [kR D (by omega) (fun j hj=>by
    obtain ⟨e,he,rfl⟩:=List.mem_map.mp hj
    have:=(W0.b _ (B.vd e he).1).1
    omega) nm']
   obtain ⟨tz,htz⟩:∃tz:Nat->Addr,tz=fun j=>if j=13 + 3 * i then t2 else ts j:=⟨_,rfl⟩
   rw [show oI (fun j=>V.ref (ts j)) (13 + 3 * i) (.ref t2)=fun j=>V.ref (tz j) from funext fun j=>by rw [htz];unfold oI;dsimp only;split <;> rfl]
   obtain ⟨dl',hdl'⟩:∃dl':Dl,dl'=⟨13 + 3 * i,ps,d.spent,d.bc,lp⟩:=⟨_,rfl⟩
   rw [show dls.map Dl.nm ++ [13 + 3 * i]=(dls ++ [dl']).map Dl.nm by rw [hdl'];simp]
   have tl':tz (13 + 3 * i)=t2:=by rw [htz];exact if_pos rfl
   have to':∀e ∈ dls,tz e.nm=ts e.nm:=fun e m=>by
    rw [htz]
    exact if_neg fun y=>nm' (by rw [<- y];exact List.mem_map_of_mem m)
   have kz:∀(x:Addr) (o:HO),x ≠ LR->(∀y,o ≠ .dK y)->Hn x=some o->upd (upd Hn t2 (.tup [.ref lp,.int d.spent,.int d.bc])) LD (.dK (dk N ((dls ++ [dl']).map Dl.nm) fun j=>.ref (tz j))) x=some o:=fun x o _ nd e=>af (fun y=>by rw [y,Ln] at e;exact nd _ (Option.some.inj e).symm) (af (fun y=>by rw [y,ht2] at e;cases e) e)
   have kn2:∀(x:Addr) (o:HO),x ≠ LR->(∀y,o ≠ .dK y)->Hc x=some o->upd (upd Hn t2 (.tup [.ref lp,.int d.spent,.int d.bc])) LD (.dK (dk N ((dls ++ [dl']).map Dl.nm) fun j=>.ref (tz j))) x=some o:=fun x o h nd e=>by
    have h1:=sm _ _ (kn x o h nd e)
    exact kz x o h nd (gn.o _ _ (n2 _ (nS _ _ nd h1) h) h1)
   have lpn:=gn.o _ _ (n2 _ lpS lpR) (sm _ _ pL)
   have gz:Go [S,LR,LV,LD] Hc [S,LR,LV,LD] (upd (upd Hn t2 (.tup [.ref lp,.int d.spent,.int d.bc])) LD (.dK (dk N ((dls ++ [dl']).map Dl.nm) fun j=>.ref (tz j)))):=by
    have w1:Go [S,LR,LV,LD] Hc [S,LR,LV,LD] Hl:=⟨fun x o m e=>by
     simp only [List.mem_cons,List.not_mem_nil,or_false,not_or] at m
     exact kl x o m.1 m.2.1 m.2.2.1 e,fun _ m=>.inl m⟩
    have w2:Go [S,LR,LV,LD] Hm [S,LR,LV,LD] Hn:=⟨fun x o m e=>by
     simp only [List.mem_cons,List.not_mem_nil,or_false,not_or] at m
     exact gn.o x o (n2 _ m.1 m.2.1) e,fun _ m=>.inl m⟩
    exact (((w1.trans (Go.new sm)).trans w2).trans (Go.new (aq.upd ht2 _))).trans (Go.at (by simp) _)
   have pre':g.pre ++ aP d.bs ++ [.fin]=rot t (cw rk z) ++ bU (dls ++ [dl']) (bss ++ [d.bs]):=by
    rw [lq _ _ B.dd.len,hg,hdl']
    simp
   rw [pre'] at Er
   have lenE:=Paired.length Er
   rw [lq _ _ B.dd.len,<- List.append_assoc,List.length_append,<- lenR] at lenE
   have dmR:d.lm ≠ LR:=fun y=>(bg Em).1 (by rw [y];simp)
   have Bn:Bt N S LR LV LD d.lm LH LL mode ev (lim / 4) (upd (upd Hn t2 (.tup [.ref lp,.int d.spent,.int d.bc])) LD (.dK (dk N ((dls ++ [dl']).map Dl.nm) fun j=>.ref (tz j)))) (rot t (cw rk z)) rows' (dls ++ [dl']) (bss ++ [d.bs]) d.marks vk2 vw2:=by
    refine ⟨.inr ⟨.ref LT,.ref LN,.ref d.lo,.int d.spent,.int (lim / 4),?_⟩,af RD (af t2R.symm ER),af DV.symm (af (fresh_ne ht2 (gn.o _ _ (n2 _ VS RV.symm) (sm _ _ Vl))).symm (gn.o _ _ (n2 _ VS RV.symm) (sm _ _ Vl))),⟨tz,ak,fun e m=>?_⟩,kn2 _ _ B.ne.1 cU B.hH,kn2 _ _ B.ne.2.1 cU B.hL,kz _ _ dmR cU (bg Em).2,Paired.dC Er fun v h l=>l.but fun x o e nd=>?_,⟨B.ne.1,B.ne.2.1,dmR⟩,E.mks,E.ml,?_,fun e m=>?_⟩
    ·have h:=af (u:=.dK (dk N ((dls ++ [dl']).map Dl.nm) fun j=>.ref (tz j))) DS.symm (af (u:=.tup [.ref lp,.int d.spent,.int d.bc]) t2S.symm ES)
     rw [hg] at h
     exact h
    ·rcases List.mem_append.mp m with m | m
     ·obtain ⟨⟨h1,h2⟩,h3,h4⟩:=hts e m
      rw [to' e m]
      exact ⟨⟨h1,kn2 _ _ h1 mN h2⟩,h3,kn2 _ _ h3 cU h4⟩
     ·rw [List.mem_singleton.mp m,show dl'.nm=13 + 3 * i by rw [hdl'],show dl'.lp=lp by rw [hdl'],show dl'.sp=d.spent by rw [hdl'],show dl'.co=d.bc by rw [hdl'],show dl'.ps=ps by rw [hdl'],tl']
      exact ⟨⟨t2R,af t2D ak⟩,lpR,kz _ _ lpR cU lpn⟩
    ·obtain ⟨m,e⟩:=bg e
     have xR:x ≠ LR:=fun y=>m (by rw [y];simp)
     exact aV (fun y=>xR (List.mem_singleton.mp y)) (kz _ _ xR nd e)
    ·have ebs:=E.bs
     have esp:=E.sp
     have epy:=E.pay
     rw [hg] at ebs esp epy
     exact B.dd.add (by omega) (by rw [hdl',dl]) ⟨m,by omega,by rw [hdl',dl];exact hps⟩ (by rw [hdl'];exact ⟨esp.1,esp.2,E.bc⟩) (by rw [hdl'];exact ebs) (by rw [hdl'];exact epy)
    ·rcases List.mem_append.mp m with m | m
     ·exact dvk e m
     ·rw [List.mem_singleton.mp m,hdl']
      exact ⟨ok2 _ nk,pk2⟩
   try dsimp only
   exact ⟨d.lm,rows',dls ++ [dl'],bss ++ [d.bs],d.marks,vk2,vw2,at_ + many,_,_,_,_,_,_,rfl,by omega,by simp [dl],gc.trans gz,Bn,V2,by simp at lenE;omega,by omega⟩
  rintro σ Hc ⟨lm,rows,dls,bss,marks,vk,vw,at_,v8,v9,v10,v11,v12,v13,rfl,at0,dl,gc,B,W0,rl,vl⟩
  refine K7 _ _ ?_
  have kc:aq H Hc:=gc.keep k9 fr0
  have nc:=gc.o _ _ ln4 n9
  obtain ⟨kvs,eS,gv,gr,lk,fin⟩:=B.st
  have GR:∀Hx:Hp,Hx S=some (.dK kvs)->aN Hx S (.str "rows") (some (.ref LR)):=fun Hx e=>by rw [<- gr];exact aN.k (k:=.inr "rows") e
  have dl4:=B.dd.l4
  try dsimp only
  refine ah fun N6 J6=>?_
  refine ⟨_,GR _ eS,Or.inl ⟨rfl,_,SqL.of B.hR⟩,by show 1 <= sizeLine;decide,fun td htd=>?_⟩
  have tdR:td ≠ LR:=fresh_ne htd B.hR
  refine ⟨_,_,_,rfl,rfl,af tdR.symm B.hR,aD (by omega),J6 _ _ ?_⟩
  have tdS:td ≠ S:=fresh_ne htd eS
  have tdV:td ≠ LV:=fresh_ne htd B.hV
  have gg:Go [S,LR,LV] Hc [S,LR,LV] (upd (upd Hc td (.tup [.str "main"])) LR (.lst (rows ++ [.ref td]))):=(Go.new (aq.upd htd _)).trans (Go.at (List.mem_cons_of_mem _ List.mem_cons_self) _)
  have Sg:=af (u:=.lst (rows ++ [.ref td])) RS.symm (af (u:=.tup [.str "main"]) tdS.symm eS)
  have Rg:upd (upd Hc td (.tup [.str "main"])) LR (.lst (rows ++ [.ref td])) LR=some (.lst (rows ++ [.ref td])):=ak
  have Vg:=af (u:=.lst (rows ++ [.ref td])) RV.symm (af (u:=.tup [.str "main"]) tdV.symm B.hV)
  have ng:=af (u:=.lst (rows ++ [.ref td])) lnR (af (u:=.tup [.str "main"]) (fresh_ne htd nc).symm nc)
  have tg:upd (upd Hc td (.tup [.str "main"])) LR (.lst (rows ++ [.ref td])) td=some (.tup [.str "main"]):=af tdR ak
  generalize upd (upd Hc td (.tup [.str "main"])) LR (.lst (rows ++ [.ref td]))=Hg at gg Sg Rg Vg ng tg ⊢
  clear htd
  try dsimp only
  refine ah fun N7 J7=>?_
  refine ⟨_,rfl,_,rfl,Or.inl ⟨ln,_,rfl,SqL.of ng,fun LT hLT=>?_⟩⟩
  rw [show eZ (nmL N) (some 7) (some 10)=nV N [7,8,9] from rfl]
  obtain ⟨si,ei⟩:=alc hLT (HO.lst (nV N [7,8,9]))
  generalize upd Hg LT _=Hi at si ei ⊢
  have TS:LT ≠ S:=fresh_ne hLT Sg
  have TR:LT ≠ LR:=fresh_ne hLT Rg
  refine ⟨_,cZ.k (k:=.inr "targets") (si _ _ Sg) (aD (by omega)),J7 _ _ ?_⟩
  have gj:Go [S] Hg [S] (upd Hi S (.dK (putK kvs (.inr "targets") (.ref LT)))):=(Go.new si).trans (Go.at List.mem_cons_self _)
  have Sj:upd Hi S (.dK (putK kvs (.inr "targets") (.ref LT))) S=some (.dK (putK kvs (.inr "targets") (.ref LT))):=ak
  have Tj:=af (u:=.dK (putK kvs (.inr "targets") (.ref LT))) TS ei
  generalize upd Hi S (.dK (putK kvs (.inr "targets") (.ref LT)))=Hj at gj Sj Tj ⊢
  clear si ei hLT
  have nS1:∀x:Addr,x ≠ S->x ∉ [S]:=fun x h m=>h (List.mem_singleton.mp m)
  try dsimp only
  refine ah fun N8 J8=>?_
  refine ⟨_,rfl,_,rfl,Or.inl ⟨ln,_,rfl,SqL.of (gj.o _ _ (nS1 _ lnS) ng),fun p2 hp2=>?_⟩⟩
  rw [show eZ (nmL N) (some 3) (some 6)=nV N [3,4,5] from rfl]
  obtain ⟨sh,eh⟩:=alc hp2 (HO.lst (nV N [3,4,5]))
  generalize upd Hj p2 _=Hh at sh eh ⊢
  refine ⟨.ref LT,(by rw [<- (fin LT LT).2.1];exact aN.k (k:=.inr "targets") (sh _ _ Sj)),p2,LT,_,_,rfl,rfl,eh,sh _ _ Tj,sz (by show 6 <= 1000;decide),fun LN hLN=>?_⟩
  rw [show nV N [3,4,5] ++ nV N [7,8,9]=nV N [3,4,5,7,8,9] from rfl]
  obtain ⟨si,ei⟩:=alc hLN (HO.lst (nV N [3,4,5,7,8,9]))
  generalize upd Hh LN _=Hi at si ei ⊢
  have Rj:=gj.o _ _ (nS1 _ RS) Rg
  have NS:LN ≠ S:=fresh_ne hLN (sh _ _ Sj)
  have NR:LN ≠ LR:=fresh_ne hLN (sh _ _ Rj)
  have shi:=sh.trans si
  refine ⟨_,cZ.k (k:=.inr "numbers") (shi _ _ Sj) (aD (by have:=(fin LT LT).1;omega)),J8 _ _ ?_⟩
  have gk:Go [S] Hg [S] (upd Hi S (.dK (putK (putK kvs (.inr "targets") (.ref LT)) (.inr "numbers") (.ref LN)))):=gj.trans ((Go.new shi).trans (Go.at List.mem_cons_self _))
  have Sl:upd Hi S (.dK (putK (putK kvs (.inr "targets") (.ref LT)) (.inr "numbers") (.ref LN))) S=some (.dK (putK (putK kvs (.inr "targets") (.ref LT)) (.inr "numbers") (.ref LN))):=ak
  have Tl:=af (u:=.dK (putK (putK kvs (.inr "targets") (.ref LT)) (.inr "numbers") (.ref LN))) TS (shi _ _ Tj)
  have Nl:=af (u:=.dK (putK (putK kvs (.inr "targets") (.ref LT)) (.inr "numbers") (.ref LN))) NS ei
  generalize upd Hi S (.dK (putK (putK kvs (.inr "targets") (.ref LT)) (.inr "numbers") (.ref LN)))=Hl at gk Sl Tl Nl ⊢
  clear sh eh si ei shi hLN hp2 gj Sj Tj Rj
  have kl:∀(x:Addr) (o:HO),x ≠ S->x ≠ LR->x ≠ LV->Hc x=some o->Hl x=some o:=fun x o h1 h2 h3 e=>gk.o _ _ (nS1 _ h1) (gg.o _ _ (fun m=>by
   simp only [List.mem_cons,List.not_mem_nil,or_false] at m
   rcases m with m | m | m
   ·exact h1 m
   ·exact h2 m
   ·exact h3 m) e)
  have kn:∀(x:Addr) (o:HO),x ≠ LR->(∀y,o ≠ .dK y)->Hc x=some o->Hl x=some o:=fun x o h1 nd e=>kl x o (fun y=>by rw [y,eS] at e;exact nd _ (Option.some.inj e).symm) h1 (fun y=>by rw [y,B.hV] at e;exact nd _ (Option.some.inj e).symm) e
  have hc':aq H Hl:=fun x o e=>kl x o (fun y=>by rw [y,S0] at e;cases e) (fun y=>by rw [y,LR0] at e;cases e) (fun y=>by rw [y,V0] at e;cases e) (kc _ _ e)
  have Rl:=gk.o _ _ (nS1 _ RS) Rg
  have Vl:=gk.o _ _ (nS1 _ VS) Vg
  have tL:=gk.o _ _ (nS1 _ tdS) tg
  clear gk gg Rg Vg tg Sg ng
  try dsimp only
  refine ah fun N10 J10=>?_
  refine ⟨_,rfl,_,rfl,Or.inl ⟨a,_,rfl,hc'.seq hA,fun cl hcl=>?_⟩⟩
  obtain ⟨cs,ecs,lcs⟩:=oO (ns:=ns) at0 (show (0:Int) <= 40 by decide)
  rw [ecs]
  obtain ⟨sm,em⟩:=alc hcl (HO.lst (cs.map V.int))
  generalize upd Hl cl _=Hm at sm em ⊢
  have clR:cl ≠ LR:=fresh_ne hcl Rl
  clear hcl
  have lenR:=Paired.length B.hr
  have n2:∀x,x ≠ S->x ≠ LR->x ∉ [S,LR]:=fun x h1 h2 m=>by
   simp only [List.mem_cons,List.not_mem_nil,or_false] at m
   rcases m with m | m
   ·exact h1 m
   ·exact h2 m
  have nS:∀(x:Addr) (o:HO),(∀y,o ≠ .dK y)->Hm x=some o->x ≠ S:=fun x o nd e y=>by
   rw [y,sm _ _ Sl] at e
   exact nd _ (Option.some.inj e).symm
  obtain ⟨ts,hLDc,hts⟩:=B.hD
  have LDm:=sm _ _ (kl _ _ DS RD.symm DV hLDc)
  obtain ⟨g,hg⟩:∃g:Gc,g=⟨N,S,LR,LV,LD,LH,LL,LT,LN,mode,ev,vk,vw,[7,8,9],[3,4,5,7,8,9],dls,lim,rot t (cw rk z) ++ bU dls bss ++ [.main],0⟩:=⟨_,rfl⟩
  have dn:∀k,k <= 4->((List.range k).map fun j=>13 + 3 * j).Nodup:=by decide
  have low:∀(l:List Nat),(∀x ∈ l,x < 13)->∀j ∈ l,j ∈ vk:=fun l h j hj=>W0.h j (h j hj)
  have GO:fV g:=by
   rw [hg]
   refine ⟨D,fun j hj=>⟨by have:=(W0.b j hj).1;omega,(W0.b j hj).2⟩,low [7,8,9] (by decide),low [3,4,5,7,8,9] (by decide),low [0,1,2,6,10,11,12] (by decide),(by show 9 ∈ [7,8,9];decide),W0.v9,W0.v2,fun e m=>?_,?_,B.dd.l4,(by show 3 <= 5;decide),(by show 6 <= 8;decide),⟨(by show (0:Int) <= 0;decide),(by show (0:Int) <= 2;decide)⟩,?_⟩
   ·obtain ⟨j,hj⟩:=List.getElem?_of_mem m
    obtain ⟨k,hk,ek⟩:=B.dd.ps j e hj
    have sp:=B.dd.sp e m
    exact ⟨(B.vd e m).1,by rw [ek,List.length_range'];exact hk,sp.1,sp.2.2,(B.vd e m).2⟩
   ·show (dls.map Dl.nm).Nodup
    rw [B.dd.nm]
    exact dn _ B.dd.l4
   ·show (rot t (cw rk z) ++ bU dls bss ++ [Lr.main]).length <= 500
    rw [List.length_append,<- lenR]
    show rows.length + 1 <= 500
    omega
  have PA:xC g Hm lm marks (rows ++ [.ref td]):=by
   have fg:=(fin LT LN).2.2 g (by rw [hg]) (by rw [hg]) (by rw [hg]) (by rw [hg]) (by rw [hg]) (by rw [hg]) (by rw [hg]) (by rw [hg]) (by rw [hg])
   refine ⟨?_,?_,?_,?_,?_,?_,B.mks,B.ml⟩
   ·rw [show g.S=S by rw [hg]]
    rcases fg with h | ⟨x,y,z,h⟩
    ·exact .inl (by rw [<- h];exact sm _ _ Sl)
    ·exact .inr ⟨x,y,z,by rw [<- h];exact sm _ _ Sl⟩
   ·rw [hg]
    exact sm _ _ Rl
   ·rw [hg]
    exact RS.symm
   ·rw [hg]
    have lst:∀(x:Addr) (xs:List V),x ≠ LR->Hm x=some (.lst xs)->del [S,LR] Hm x=some (.lst xs):=fun x xs h e=>aV (n2 _ (nS x _ cU e) h) e
    refine ⟨aV (n2 _ VS RV.symm) (sm _ _ Vl),⟨ts,aV (n2 _ DS RD.symm) LDm,fun e m=>?_⟩,lst _ _ B.ne.1 (sm _ _ (kn _ _ B.ne.1 cU B.hH)),lst _ _ B.ne.2.1 (sm _ _ (kn _ _ B.ne.2.1 cU B.hL)),lst _ _ TR (sm _ _ Tl),lst _ _ NR (sm _ _ Nl)⟩
    obtain ⟨⟨h1,h2⟩,h3,h4⟩:=hts e m
    have h2':=sm _ _ (kn _ _ h1 mN h2)
    exact ⟨aV (n2 _ (nS _ _ mN h2') h1) h2',lst _ _ h3 (sm _ _ (kn _ _ h3 cU h4))⟩
   ·rw [hg]
    have h:=sm _ _ (kn _ _ B.ne.2.2 cU B.hm)
    exact aV (n2 _ (nS _ _ cU h) B.ne.2.2) h
   ·rw [hg]
    refine Paired.snoc ⟨td,td,rfl,aV (n2 _ tdS tdR) (sm _ _ tL),fun o ho=>by cases ho⟩ (Paired.dC B.hr fun v h l=>l.but fun x o e nd=>?_)
    obtain ⟨m,e⟩:=bg e
    have xR:x ≠ LR:=fun y=>m (by rw [y];exact List.mem_cons_self)
    have h:=sm _ _ (kn _ _ xR nd e)
    exact aV (n2 _ (nS _ _ nd h) xR) h
  refine ⟨g,cl,lm,cs,marks,rows ++ [.ref td],(by rw [hg];rfl),GO,PA,em,(by rw [hg];exact clR),by omega,fun d rows' Hn gn E fl=>J10 _ _ ?_⟩
  rw [show g.S=S by rw [hg],show g.LR=LR by rw [hg]] at gn
  have ES:Hn S=some (.dK (stK g d)):=by
   have:=E.hS
   rw [show g.S=S by rw [hg]] at this
   exact this
  have ER:Hn LR=some (.lst rows'):=by
   have:=E.hR
   rw [show g.LR=LR by rw [hg]] at this
   exact this
  have Er:=E.hr
  rw [show g.S=S by rw [hg],show g.LR=LR by rw [hg],show g.N=N by rw [hg]] at Er
  have pre':g.pre ++ aP d.bs ++ [.fin]=rot t (cw rk z) ++ bU dls bss ++ (.main :: (aP d.bs ++ [.fin])):=by
   rw [hg]
   simp
  have kn':aq H Hn:=fun x o e=>gn.o _ _ (n2 _ (fun y=>by rw [y,S0] at e;cases e) (fun y=>by rw [y,LR0] at e;cases e)) (sm _ _ (hc' _ _ e))
  rw [pre'] at Er
  have gR:aN Hn S (.str "rows") (some (.ref g.LR)):=aN.k (k:=.inr "rows") ES
  rw [show g.LR=LR by rw [hg]] at gR
  try dsimp only
  refine ⟨_,gR,?_⟩
  have ebs:=E.bs
  have esp:=E.sp
  have epy:=E.pay
  rw [hg] at ebs esp epy
  refine q LR rows' _ rk z t dls bss d.bs Hn kn' LR0 ER (Paired.dC Er fun v h l=>l.same fun x o e=>?_) ⟨rfl,hrk,⟨z1,z4⟩,B.dd,ebs,?_,fun e=>⟨d.spent,epy e,esp.2⟩⟩
  ·obtain ⟨m,e⟩:=bg e
   exact aV (fun y=>m (by rw [List.mem_singleton.mp y];simp)) e
  ·rw [List.length_append,<- lenR]
   simp
   omega
end
section
variable {P:Program}{w:World}{K:W.Frag}{mg:Str->Option Value}{base:Heap}{A:Adr}{N:Nat->Str}
seal PE PA PS PSs PT PW
theorem aJ {a b:Str} (h:decide (V.str a=V.str b)=true):a=b:=V.str.inj (of_decide_eq_true h)
theorem cq {a b:Str} (h:¬ decide (V.str a=V.str b)=true):a ≠ b:=fun e=>h (decide_eq_true (by rw [e]))
def uZ (A:Adr) (N:Nat->Str) (X:Hp) (v:V) (n:Int):Lr->Prop
 | .hand i r=>∃a dx,v=.ref a/\X a=some (.ins A.bC dx [("number",.int n),("name",.str (N i)),("rank",.int r)])
 | .giv i r z=>∃a dx,v=.ref a/\X a=some (.ins A.a8 dx [("number",.int n),("name",.str (N i)),("rank",.int r),("size",.int z)])
 | .own i z=>∃a dx,v=.ref a/\X a=some (.ins A.b7 dx [("number",.int n),("name",.str (N i)),("size",.int z)])
 | .lt i r=>∃a dx,v=.ref a/\X a=some (.ins A.bY dx [("number",.int n),("name",.str (N i)),("rank",.int r)])
 | .set x val=>∃a dx p,v=.ref a/\X a=some (.ins A.b5 dx [("number",.int n),("name",.str (N x)),("value",.ref p)])/\X p=some (.tup (vV N val))
 | .put x pl val=>∃a dx p,v=.ref a/\X a=some (.ins A.bN dx [("number",.int n),("name",.str (N x)),("place",pl.v N),("value",.ref p)])/\X p=some (.tup (vV N val))
 | .snd h val=>∃a dx p,v=.ref a/\X a=some (.ins A.bx dx [("number",.int n),("name",.str (N h)),("value",.ref p)])/\X p=some (.tup (vV N val))
 | .say x val m=>∃a dx p,v=.ref a/\X a=some (.ins A.bM dx [("number",.int n),("name",.str (N x)),("value",.ref p),("mark",.str (N m))])/\X p=some (.tup (vV N val))
 | .call i ts=>∃a dx p,v=.ref a/\X a=some (.ins A.bz dx [("number",.int n),("name",.str (N i)),("things",.ref p)])/\X p=some (.lst (ts.map (Th.v N)))
 | .last =>∃a dx,v=.ref a/\X a=some (.ins A.cH dx [("number",.int n)])
 | _=>False
theorem uZ.same {X X':Hp} (s:aq X X') {v:V}{n:Int}{r:Lr} (h:uZ A N X v n r):uZ A N X' v n r:=by
 cases r with
 | hand i r=>obtain ⟨a,dx,e,h1⟩:=h;exact ⟨a,dx,e,s _ _ h1⟩
 | giv i r z=>obtain ⟨a,dx,e,h1⟩:=h;exact ⟨a,dx,e,s _ _ h1⟩
 | own i z=>obtain ⟨a,dx,e,h1⟩:=h;exact ⟨a,dx,e,s _ _ h1⟩
 | lt i r=>obtain ⟨a,dx,e,h1⟩:=h;exact ⟨a,dx,e,s _ _ h1⟩
 | set x val=>obtain ⟨a,dx,p,e,h1,h2⟩:=h;exact ⟨a,dx,p,e,s _ _ h1,s _ _ h2⟩
 | put x pl val=>obtain ⟨a,dx,p,e,h1,h2⟩:=h;exact ⟨a,dx,p,e,s _ _ h1,s _ _ h2⟩
 | snd h val=>obtain ⟨a,dx,p,e,h1,h2⟩:=h;exact ⟨a,dx,p,e,s _ _ h1,s _ _ h2⟩
 | say x val m=>obtain ⟨a,dx,p,e,h1,h2⟩:=h;exact ⟨a,dx,p,e,s _ _ h1,s _ _ h2⟩
 | call i ts=>obtain ⟨a,dx,p,e,h1,h2⟩:=h;exact ⟨a,dx,p,e,s _ _ h1,s _ _ h2⟩
 | last =>obtain ⟨a,dx,e,h1⟩:=h;exact ⟨a,dx,e,s _ _ h1⟩
 | _=>exact h.elim
theorem su {H:Hp}{x dx:Addr}{R:VK}{v0:V} (T:Txt K mg A) (hx:H x=none) (hd:H dx=none) (q:∀(H':Hp),aq H H'->H' x=some (.ins A.cH dx [("number",v0)])->R .non H'):jh K A (.ref x :: ([v0] ++ [])) (upd (upd H dx (.own x)) x (.ins A.cH dx [])) R E0 :=
 ⟨x,A.cH,dx,[],_,rfl,ak,T.cN.cl,T.dS,by decide,q _ (aq.out (aq.out (aq.upd hd _) hx _) hx _) ak⟩
def Lr.lY:Lr->Bool
 | .iff _ _ _=>false | .loop _ _ _ _=>false | .els=>false | .fin=>false | .deed _ _=>false | .main=>false
 | _=>true
def pJ (A:Adr):Sp:=fun vs H Q _=>∃(N:Nat->Str) (M:List Addr) (n:Int) (v:V) (r:Lr),vs=[.int n,v]/\bK N (del M H) v r/\r.lY=true/\(∀m ∈ M,H m ≠ none) /\
 ∀(a:Addr) (H':Hp),aq H H'->H a=none->uZ A N (del M H') (.ref a) n r->Q (.ref a) H'
theorem rA (T:Txt K mg A):Has P w K mg base 5 "_law_plain_row" ["_law_number_here","_law_row"] (pJ A):=by
 have D_HandRow_init:=mQ (P:=P) (w:=w) (base:=base) T
 have D_GivenRow_init:=lZ (P:=P) (w:=w) (base:=base) T
 have D_OwnRow_init:=ox (P:=P) (w:=w) (base:=base) T
 have D_LetRow_init:=om (P:=P) (w:=w) (base:=base) T
 have D_SetRow_init:=oz (P:=P) (w:=w) (base:=base) T
 have D_PutRow_init:=oJ (P:=P) (w:=w) (base:=base) T
 have D_SendRow_init:=mU (P:=P) (w:=w) (base:=base) T
 have D_SayRow_init:=og (P:=P) (w:=w) (base:=base) T
 have D_CallRow_init:=mM (P:=P) (w:=w) (base:=base) T
 have D_LastRow_init:=j4 (P:=P) (w:=w) (mg:=mg) (base:=base) (A:=A) T.iW
 refine T.jX.has (k:=4) gY (fun vs H Q E h=>?_) (fun f cdv A' outer s H vs Q E' hr hu h=>?_)
 ·obtain ⟨N,M,n,v,r,rfl,_⟩:=h
  rfl
 ·obtain ⟨N,M,n,v,r,rfl,⟨t,p,rfl,et0,ep⟩,fb,hM,q⟩:=h
  have et:=(bg et0).2
  have nw:∀{x:Addr}{o:HO}{H':Hp},H x=none->H' x=some o->del M H' x=some o:=fun {x o H'} h e=>aV (fun m=>hM x m h) e
  have od:∀{x:Addr}{o:HO}{H':Hp},aq H H'->del M H x=some o->del M H' x=some o:=fun {x o H'} z e=>aV (bg e).1 (z _ _ (bg e).2)
  have et':=SqT.of (K:=K) et
  refine ⟨_,(ae (ay (i:=2) gY.nd rfl (Or.inl rfl) (px hu (fv 1) ab))
  (ae (ba (aC (bV hu) (fv 2) aj (aG _))
   (ao (aW (cy T.aY D_HandRow_init hr (aa (fv 0) (aa (px hu (fv 1) ab) (aa (px hu (fv 1) ab) ag))))))
   aT)
  (ae (ba (aC (bV hu) (fv 2) aj (aG _))
   (ao (aW (cy T.bQ D_GivenRow_init hr (aa (fv 0) (aa (px hu (fv 1) ab) (aa (px hu (fv 1) ab) (aa (px hu (fv 1) ab) ag)))))))
   aT)
  (ae (ba (aC (bV hu) (fv 2) aj (aG _))
   (ao (aW (cy T.cP D_OwnRow_init hr (aa (fv 0) (aa (px hu (fv 1) ab) (aa (px hu (fv 1) ab) ag))))))
   aT)
  (ae (ba (aC (bV hu) (fv 2) aj (aG _))
   (ao (aW (cy T.bb D_LetRow_init hr (aa (fv 0) (aa (px hu (fv 1) ab) (aa (px hu (fv 1) ab) ag))))))
   aT)
  (ae (ba (aC (bV hu) (fv 2) aj (aG _))
   (ao (aW (cy T.cO D_SetRow_init hr (aa (fv 0) (aa (px hu (fv 1) ab) (aa (px hu (fv 1) ab) ag))))))
   aT)
  (ae (ba (aC (bV hu) (fv 2) aj (aG _))
   (ao (aW (cy T.cz D_PutRow_init hr (aa (fv 0) (aa (px hu (fv 1) ab) (aa (px hu (fv 1) ab) (aa (px hu (fv 1) ab) ag)))))))
   aT)
  (ae (ba (aC (bV hu) (fv 2) aj (aG _))
   (ao (aW (cy T.aX D_SendRow_init hr (aa (fv 0) (aa (px hu (fv 1) ab) (aa (px hu (fv 1) ab) ag))))))
   aT)
  (ae (ba (aC (bV hu) (fv 2) aj (aG _))
   (ao (aW (cy T.a9 D_SayRow_init hr (aa (fv 0) (aa (px hu (fv 1) ab) (aa (px hu (fv 1) ab) (aa (px hu (fv 1) ab) ag)))))))
   aT)
  (ae (ba (aC (bV hu) (fv 2) aj (aG _))
   (ao (aW (cy T.ck D_CallRow_init hr (aa (fv 0) (aa (px hu (fv 1) ab) (aa (bE p9 rfl T.di (by boot_by_name) (aa (px hu (fv 1) ab) ag)) ag))))))
   aT)
  (ao (aW (cy T.cN D_LastRow_init hr (aa (fv 0) ag)))))))))))))),?_⟩
  refine ah fun M0 K0=>?_
  refine Or.inl ⟨_,_,Or.inr et',aB (j:=0) rfl,K0 _ _ ?_⟩
  clear K0 M0
  try dsimp only
  cases r with
  | hand i r =>
   refine ah fun M1 K1=>?_
   refine ⟨rfl,_,rfl,aI (fun _=>?_) (fun z=>absurd rfl (cq z))⟩
   refine Or.inl ⟨_,_,Or.inr et',aB (j:=1) rfl,Or.inl ⟨_,_,Or.inr et',aB (j:=2) rfl,?_⟩⟩
   refine fun r6 dx hr6 hd_ hne_=>so hr6 hd_ fun H6 s6 hx=>⟨rfl,?_⟩
   exact q r6 H6 s6 hr6 ⟨r6,dx,rfl,nw hr6 hx⟩
  | giv i r z =>
   refine ah fun M1 K1=>?_
   refine ⟨rfl,_,rfl,aI (fun z=>absurd (aJ z) (show ¬ ("given":Str)="hand" by decide)) (fun _=>K1 _ _ ?_)⟩
   clear K1 M1
   try dsimp only
   refine ah fun M2 K2=>?_
   refine ⟨rfl,_,rfl,aI (fun _=>?_) (fun z=>absurd rfl (cq z))⟩
   refine Or.inl ⟨_,_,Or.inr et',aB (j:=1) rfl,Or.inl ⟨_,_,Or.inr et',aB (j:=2) rfl,Or.inl ⟨_,_,Or.inr et',aB (j:=3) rfl,?_⟩⟩⟩
   refine fun r6 dx hr6 hd_ hne_=>qx hr6 hd_ fun H6 s6 hx=>⟨rfl,?_⟩
   exact q r6 H6 s6 hr6 ⟨r6,dx,rfl,nw hr6 hx⟩
  | own i z =>
   refine ah fun M1 K1=>?_
   refine ⟨rfl,_,rfl,aI (fun z=>absurd (aJ z) (show ¬ ("own":Str)="hand" by decide)) (fun _=>K1 _ _ ?_)⟩
   clear K1 M1
   try dsimp only
   refine ah fun M2 K2=>?_
   refine ⟨rfl,_,rfl,aI (fun z=>absurd (aJ z) (show ¬ ("own":Str)="given" by decide)) (fun _=>K2 _ _ ?_)⟩
   clear K2 M2
   try dsimp only
   refine ah fun M3 K3=>?_
   refine ⟨rfl,_,rfl,aI (fun _=>?_) (fun z=>absurd rfl (cq z))⟩
   refine Or.inl ⟨_,_,Or.inr et',aB (j:=1) rfl,Or.inl ⟨_,_,Or.inr et',aB (j:=2) rfl,?_⟩⟩
   refine fun r6 dx hr6 hd_ hne_=>vB hr6 hd_ fun H6 s6 hx=>⟨rfl,?_⟩
   exact q r6 H6 s6 hr6 ⟨r6,dx,rfl,nw hr6 hx⟩
  | lt i r =>
   refine ah fun M1 K1=>?_
   refine ⟨rfl,_,rfl,aI (fun z=>absurd (aJ z) (show ¬ ("let":Str)="hand" by decide)) (fun _=>K1 _ _ ?_)⟩
   clear K1 M1
   try dsimp only
   refine ah fun M2 K2=>?_
   refine ⟨rfl,_,rfl,aI (fun z=>absurd (aJ z) (show ¬ ("let":Str)="given" by decide)) (fun _=>K2 _ _ ?_)⟩
   clear K2 M2
   try dsimp only
   refine ah fun M3 K3=>?_
   refine ⟨rfl,_,rfl,aI (fun z=>absurd (aJ z) (show ¬ ("let":Str)="own" by decide)) (fun _=>K3 _ _ ?_)⟩
   clear K3 M3
   try dsimp only
   refine ah fun M4 K4=>?_
   refine ⟨rfl,_,rfl,aI (fun _=>?_) (fun z=>absurd rfl (cq z))⟩
   refine Or.inl ⟨_,_,Or.inr et',aB (j:=1) rfl,Or.inl ⟨_,_,Or.inr et',aB (j:=2) rfl,?_⟩⟩
   refine fun r6 dx hr6 hd_ hne_=>vv hr6 hd_ fun H6 s6 hx=>⟨rfl,?_⟩
   exact q r6 H6 s6 hr6 ⟨r6,dx,rfl,nw hr6 hx⟩
  | set x val =>
   refine ah fun M1 K1=>?_
   refine ⟨rfl,_,rfl,aI (fun z=>absurd (aJ z) (show ¬ ("set":Str)="hand" by decide)) (fun _=>K1 _ _ ?_)⟩
   clear K1 M1
   try dsimp only
   refine ah fun M2 K2=>?_
   refine ⟨rfl,_,rfl,aI (fun z=>absurd (aJ z) (show ¬ ("set":Str)="given" by decide)) (fun _=>K2 _ _ ?_)⟩
   clear K2 M2
   try dsimp only
   refine ah fun M3 K3=>?_
   refine ⟨rfl,_,rfl,aI (fun z=>absurd (aJ z) (show ¬ ("set":Str)="own" by decide)) (fun _=>K3 _ _ ?_)⟩
   clear K3 M3
   try dsimp only
   refine ah fun M4 K4=>?_
   refine ⟨rfl,_,rfl,aI (fun z=>absurd (aJ z) (show ¬ ("set":Str)="let" by decide)) (fun _=>K4 _ _ ?_)⟩
   clear K4 M4
   try dsimp only
   refine ah fun M5 K5=>?_
   refine ⟨rfl,_,rfl,aI (fun _=>?_) (fun z=>absurd rfl (cq z))⟩
   refine Or.inl ⟨_,_,Or.inr et',aB (j:=1) rfl,Or.inl ⟨_,_,Or.inr et',aB (j:=2) rfl,?_⟩⟩
   refine fun r6 dx hr6 hd_ hne_=>uU hr6 hd_ fun H6 s6 hx=>⟨rfl,?_⟩
   exact q r6 H6 s6 hr6 ⟨r6,dx,p,rfl,nw hr6 hx,od s6 (ep _ rfl)⟩
  | put x pl val =>
   refine ah fun M1 K1=>?_
   refine ⟨rfl,_,rfl,aI (fun z=>absurd (aJ z) (show ¬ ("put":Str)="hand" by decide)) (fun _=>K1 _ _ ?_)⟩
   clear K1 M1
   try dsimp only
   refine ah fun M2 K2=>?_
   refine ⟨rfl,_,rfl,aI (fun z=>absurd (aJ z) (show ¬ ("put":Str)="given" by decide)) (fun _=>K2 _ _ ?_)⟩
   clear K2 M2
   try dsimp only
   refine ah fun M3 K3=>?_
   refine ⟨rfl,_,rfl,aI (fun z=>absurd (aJ z) (show ¬ ("put":Str)="own" by decide)) (fun _=>K3 _ _ ?_)⟩
   clear K3 M3
   try dsimp only
   refine ah fun M4 K4=>?_
   refine ⟨rfl,_,rfl,aI (fun z=>absurd (aJ z) (show ¬ ("put":Str)="let" by decide)) (fun _=>K4 _ _ ?_)⟩
   clear K4 M4
   try dsimp only
   refine ah fun M5 K5=>?_
   refine ⟨rfl,_,rfl,aI (fun z=>absurd (aJ z) (show ¬ ("put":Str)="set" by decide)) (fun _=>K5 _ _ ?_)⟩
   clear K5 M5
   try dsimp only
   refine ah fun M6 K6=>?_
   refine ⟨rfl,_,rfl,aI (fun _=>?_) (fun z=>absurd rfl (cq z))⟩
   refine Or.inl ⟨_,_,Or.inr et',aB (j:=1) rfl,Or.inl ⟨_,_,Or.inr et',aB (j:=2) rfl,Or.inl ⟨_,_,Or.inr et',aB (j:=3) rfl,?_⟩⟩⟩
   refine fun r6 dx hr6 hd_ hne_=>uV hr6 hd_ fun H6 s6 hx=>⟨rfl,?_⟩
   exact q r6 H6 s6 hr6 ⟨r6,dx,p,rfl,nw hr6 hx,od s6 (ep _ rfl)⟩
  | snd h val =>
   refine ah fun M1 K1=>?_
   refine ⟨rfl,_,rfl,aI (fun z=>absurd (aJ z) (show ¬ ("send":Str)="hand" by decide)) (fun _=>K1 _ _ ?_)⟩
   clear K1 M1
   try dsimp only
   refine ah fun M2 K2=>?_
   refine ⟨rfl,_,rfl,aI (fun z=>absurd (aJ z) (show ¬ ("send":Str)="given" by decide)) (fun _=>K2 _ _ ?_)⟩
   clear K2 M2
   try dsimp only
   refine ah fun M3 K3=>?_
   refine ⟨rfl,_,rfl,aI (fun z=>absurd (aJ z) (show ¬ ("send":Str)="own" by decide)) (fun _=>K3 _ _ ?_)⟩
   clear K3 M3
   try dsimp only
   refine ah fun M4 K4=>?_
   refine ⟨rfl,_,rfl,aI (fun z=>absurd (aJ z) (show ¬ ("send":Str)="let" by decide)) (fun _=>K4 _ _ ?_)⟩
   clear K4 M4
   try dsimp only
   refine ah fun M5 K5=>?_
   refine ⟨rfl,_,rfl,aI (fun z=>absurd (aJ z) (show ¬ ("send":Str)="set" by decide)) (fun _=>K5 _ _ ?_)⟩
   clear K5 M5
   try dsimp only
   refine ah fun M6 K6=>?_
   refine ⟨rfl,_,rfl,aI (fun z=>absurd (aJ z) (show ¬ ("send":Str)="put" by decide)) (fun _=>K6 _ _ ?_)⟩
   clear K6 M6
   try dsimp only
   refine ah fun M7 K7=>?_
   refine ⟨rfl,_,rfl,aI (fun _=>?_) (fun z=>absurd rfl (cq z))⟩
   refine Or.inl ⟨_,_,Or.inr et',aB (j:=1) rfl,Or.inl ⟨_,_,Or.inr et',aB (j:=2) rfl,?_⟩⟩
   refine fun r6 dx hr6 hd_ hne_=>rQ hr6 hd_ fun H6 s6 hx=>⟨rfl,?_⟩
   exact q r6 H6 s6 hr6 ⟨r6,dx,p,rfl,nw hr6 hx,od s6 (ep _ rfl)⟩
  | say x val m =>
   refine ah fun M1 K1=>?_
   refine ⟨rfl,_,rfl,aI (fun z=>absurd (aJ z) (show ¬ ("say":Str)="hand" by decide)) (fun _=>K1 _ _ ?_)⟩
   clear K1 M1
   try dsimp only
   refine ah fun M2 K2=>?_
   refine ⟨rfl,_,rfl,aI (fun z=>absurd (aJ z) (show ¬ ("say":Str)="given" by decide)) (fun _=>K2 _ _ ?_)⟩
   clear K2 M2
   try dsimp only
   refine ah fun M3 K3=>?_
   refine ⟨rfl,_,rfl,aI (fun z=>absurd (aJ z) (show ¬ ("say":Str)="own" by decide)) (fun _=>K3 _ _ ?_)⟩
   clear K3 M3
   try dsimp only
   refine ah fun M4 K4=>?_
   refine ⟨rfl,_,rfl,aI (fun z=>absurd (aJ z) (show ¬ ("say":Str)="let" by decide)) (fun _=>K4 _ _ ?_)⟩
   clear K4 M4
   try dsimp only
   refine ah fun M5 K5=>?_
   refine ⟨rfl,_,rfl,aI (fun z=>absurd (aJ z) (show ¬ ("say":Str)="set" by decide)) (fun _=>K5 _ _ ?_)⟩
   clear K5 M5
   try dsimp only
   refine ah fun M6 K6=>?_
   refine ⟨rfl,_,rfl,aI (fun z=>absurd (aJ z) (show ¬ ("say":Str)="put" by decide)) (fun _=>K6 _ _ ?_)⟩
   clear K6 M6
   try dsimp only
   refine ah fun M7 K7=>?_
   refine ⟨rfl,_,rfl,aI (fun z=>absurd (aJ z) (show ¬ ("say":Str)="send" by decide)) (fun _=>K7 _ _ ?_)⟩
   clear K7 M7
   try dsimp only
   refine ah fun M8 K8=>?_
   refine ⟨rfl,_,rfl,aI (fun _=>?_) (fun z=>absurd rfl (cq z))⟩
   refine Or.inl ⟨_,_,Or.inr et',aB (j:=1) rfl,Or.inl ⟨_,_,Or.inr et',aB (j:=2) rfl,Or.inl ⟨_,_,Or.inr et',aB (j:=3) rfl,?_⟩⟩⟩
   refine fun r6 dx hr6 hd_ hne_=>ve hr6 hd_ fun H6 s6 hx=>⟨rfl,?_⟩
   exact q r6 H6 s6 hr6 ⟨r6,dx,p,rfl,nw hr6 hx,od s6 (ep _ rfl)⟩
  | call i ts =>
   refine ah fun M1 K1=>?_
   refine ⟨rfl,_,rfl,aI (fun z=>absurd (aJ z) (show ¬ ("call":Str)="hand" by decide)) (fun _=>K1 _ _ ?_)⟩
   clear K1 M1
   try dsimp only
   refine ah fun M2 K2=>?_
   refine ⟨rfl,_,rfl,aI (fun z=>absurd (aJ z) (show ¬ ("call":Str)="given" by decide)) (fun _=>K2 _ _ ?_)⟩
   clear K2 M2
   try dsimp only
   refine ah fun M3 K3=>?_
   refine ⟨rfl,_,rfl,aI (fun z=>absurd (aJ z) (show ¬ ("call":Str)="own" by decide)) (fun _=>K3 _ _ ?_)⟩
   clear K3 M3
   try dsimp only
   refine ah fun M4 K4=>?_
   refine ⟨rfl,_,rfl,aI (fun z=>absurd (aJ z) (show ¬ ("call":Str)="let" by decide)) (fun _=>K4 _ _ ?_)⟩
   clear K4 M4
   try dsimp only
   refine ah fun M5 K5=>?_
   refine ⟨rfl,_,rfl,aI (fun z=>absurd (aJ z) (show ¬ ("call":Str)="set" by decide)) (fun _=>K5 _ _ ?_)⟩
   clear K5 M5
   try dsimp only
   refine ah fun M6 K6=>?_
   refine ⟨rfl,_,rfl,aI (fun z=>absurd (aJ z) (show ¬ ("call":Str)="put" by decide)) (fun _=>K6 _ _ ?_)⟩
   clear K6 M6
   try dsimp only
   refine ah fun M7 K7=>?_
   refine ⟨rfl,_,rfl,aI (fun z=>absurd (aJ z) (show ¬ ("call":Str)="send" by decide)) (fun _=>K7 _ _ ?_)⟩
   clear K7 M7
   try dsimp only
   refine ah fun M8 K8=>?_
   refine ⟨rfl,_,rfl,aI (fun z=>absurd (aJ z) (show ¬ ("call":Str)="say" by decide)) (fun _=>K8 _ _ ?_)⟩
   clear K8 M8
   try dsimp only
   refine ah fun M9 K9=>?_
   refine ⟨rfl,_,rfl,aI (fun _=>?_) (fun z=>absurd rfl (cq z))⟩
   refine Or.inl ⟨_,_,Or.inr et',aB (j:=1) rfl,Or.inl ⟨_,_,Or.inr et',aB (j:=2) rfl,?_⟩⟩
   have epp:=(bg (ep _ rfl)).2
   refine Or.inl ⟨p,_,rfl,Or.inl (SqL.of epp),fun l5 hl5=>?_⟩
   obtain ⟨s5,e5⟩:=alc hl5 (HO.lst (ts.map (Th.v N)))
   generalize upd H l5 _=H5 at s5 e5 ⊢
   refine fun r6 dx hr6 hd_ hne_=>sQ (SqL.of e5) hr6 hd_ fun n6 H6 f6 s6 h6 hx=>⟨rfl,?_⟩
   exact q r6 H6 (s5.trans s6) (aq.free s5 hr6) ⟨r6,dx,n6,rfl,nw (aq.free s5 hr6) hx,nw (aq.free s5 f6) h6⟩
  | last  =>
   refine ah fun M1 K1=>?_
   refine ⟨rfl,_,rfl,aI (fun z=>absurd (aJ z) (show ¬ ("last":Str)="hand" by decide)) (fun _=>K1 _ _ ?_)⟩
   clear K1 M1
   try dsimp only
   refine ah fun M2 K2=>?_
   refine ⟨rfl,_,rfl,aI (fun z=>absurd (aJ z) (show ¬ ("last":Str)="given" by decide)) (fun _=>K2 _ _ ?_)⟩
   clear K2 M2
   try dsimp only
   refine ah fun M3 K3=>?_
   refine ⟨rfl,_,rfl,aI (fun z=>absurd (aJ z) (show ¬ ("last":Str)="own" by decide)) (fun _=>K3 _ _ ?_)⟩
   clear K3 M3
   try dsimp only
   refine ah fun M4 K4=>?_
   refine ⟨rfl,_,rfl,aI (fun z=>absurd (aJ z) (show ¬ ("last":Str)="let" by decide)) (fun _=>K4 _ _ ?_)⟩
   clear K4 M4
   try dsimp only
   refine ah fun M5 K5=>?_
   refine ⟨rfl,_,rfl,aI (fun z=>absurd (aJ z) (show ¬ ("last":Str)="set" by decide)) (fun _=>K5 _ _ ?_)⟩
   clear K5 M5
   try dsimp only
   refine ah fun M6 K6=>?_
   refine ⟨rfl,_,rfl,aI (fun z=>absurd (aJ z) (show ¬ ("last":Str)="put" by decide)) (fun _=>K6 _ _ ?_)⟩
   clear K6 M6
   try dsimp only
   refine ah fun M7 K7=>?_
   refine ⟨rfl,_,rfl,aI (fun z=>absurd (aJ z) (show ¬ ("last":Str)="send" by decide)) (fun _=>K7 _ _ ?_)⟩
   clear K7 M7
   try dsimp only
   refine ah fun M8 K8=>?_
   refine ⟨rfl,_,rfl,aI (fun z=>absurd (aJ z) (show ¬ ("last":Str)="say" by decide)) (fun _=>K8 _ _ ?_)⟩
   clear K8 M8
   try dsimp only
   refine ah fun M9 K9=>?_
   refine ⟨rfl,_,rfl,aI (fun z=>absurd (aJ z) (show ¬ ("last":Str)="call" by decide)) (fun _=>K9 _ _ ?_)⟩
   clear K9 M9
   try dsimp only
   refine fun r6 dx hr6 hd_ hne_=>su T hr6 hd_ fun H6 s6 hx=>⟨rfl,?_⟩
   exact q r6 H6 s6 hr6 ⟨r6,dx,rfl,nw hr6 hx⟩
  | _=>cases fb
end
section
variable {P:Program}{w:World}{K:W.Frag}{mg:Str->Option Value}{base:Heap}{A:Adr}{N:Nat->Str}
seal PE PA PS PSs PT PW
inductive Pt where
 | leaf (n:Int) (r:Lr)
 | iff (n:Int) (v:Val) (l r:Int) (f o:List Pt)
 | loop (n:Int) (t:Th) (m l r:Int) (b:List Pt)
 | deed (n:Int) (i:Nat) (ps:List Nat) (b:List Pt)
mutual
def cE (A:Adr) (N:Nat->Str) (X:Hp):V->Pt->Prop
 | v,.leaf n r=>uZ A N X v n r
 | v,.iff n val l r f o=>∃a dx p pf po xf xo,v=.ref a/\X a=some (.ins A.bH dx [("number",.int n),("value",.ref p),("first",.ref pf),("other",.ref po),("left",.int l),("right",.int r)])/\X p=some (.tup (vV N val))/\X pf=some (.lst xf)/\X po=some (.lst xo)/\aE A N X xf f/\aE A N X xo o
 | v,.loop n t m l r b=>∃a dx pb xb,v=.ref a/\X a=some (.ins A.aZ dx [("number",.int n),("thing",t.v N),("most",.int m),("body",.ref pb),("left",.int l),("right",.int r)])/\X pb=some (.lst xb)/\aE A N X xb b
 | v,.deed n i ps b=>∃a dx pp pb xb,v=.ref a/\X a=some (.ins A.bj dx [("number",.int n),("name",.str (N i)),("parts",.ref pp),("body",.ref pb)])/\X pp=some (.lst (nV N ps))/\X pb=some (.lst xb)/\aE A N X xb b
def aE (A:Adr) (N:Nat->Str) (X:Hp):List V->List Pt->Prop
 | vs,[]=>vs=[]
 | vs,t :: ts=>∃x xs,vs=x :: xs/\cE A N X x t/\aE A N X xs ts
end
mutual
theorem cE.same {X X':Hp} (s:aq X X'):∀(t:Pt) (v:V),cE A N X v t->cE A N X' v t
 | .leaf n r,v,h=>by
  unfold cE at h ⊢
  exact uZ.same s h
 | .iff n val l r f o,v,h=>by
  unfold cE at h ⊢
  obtain ⟨a,dx,p,pf,po,xf,xo,e,h1,h2,h3,h4,h5,h6⟩:=h
  exact ⟨a,dx,p,pf,po,xf,xo,e,s _ _ h1,s _ _ h2,s _ _ h3,s _ _ h4,aE.same s f _ h5,aE.same s o _ h6⟩
 | .loop n t m l r b,v,h=>by
  unfold cE at h ⊢
  obtain ⟨a,dx,pb,xb,e,h1,h2,h3⟩:=h
  exact ⟨a,dx,pb,xb,e,s _ _ h1,s _ _ h2,aE.same s b _ h3⟩
 | .deed n i ps b,v,h=>by
  unfold cE at h ⊢
  obtain ⟨a,dx,pp,pb,xb,e,h1,h2,h3,h4⟩:=h
  exact ⟨a,dx,pp,pb,xb,e,s _ _ h1,s _ _ h2,s _ _ h3,aE.same s b _ h4⟩
theorem aE.same {X X':Hp} (s:aq X X'):∀(ts:List Pt) (vs:List V),aE A N X vs ts->aE A N X' vs ts
 | [],vs,h=>by
  unfold aE at h ⊢
  exact h
 | t :: ts,vs,h=>by
  unfold aE at h ⊢
  obtain ⟨x,xs,e,h1,h2⟩:=h
  exact ⟨x,xs,e,cE.same s t _ h1,aE.same s ts _ h2⟩
end
theorem aE.snoc {X:Hp}{x:V}{t:Pt} (h:cE A N X x t):∀{ts:List Pt}{vs:List V},aE A N X vs ts->aE A N X (vs ++ [x]) (ts ++ [t])
 | [],vs,h'=>by
  unfold aE at h'
  subst h'
  show aE A N X [x] [t]
  unfold aE
  exact ⟨x,[],rfl,h,by unfold aE;rfl⟩
 | t' :: ts,vs,h'=>by
  unfold aE at h'
  obtain ⟨y,ys,e,h1,h2⟩:=h'
  subst e
  show aE A N X (y :: (ys ++ [x])) (t' :: (ts ++ [t]))
  unfold aE
  exact ⟨y,ys ++ [x],rfl,h1,aE.snoc h h2⟩
theorem aE.nil {X:Hp}:aE A N X [] []:=by
 unfold aE
 rfl
theorem aE.len {X:Hp}:∀{ts:List Pt}{vs:List V},aE A N X vs ts->vs.length=ts.length
 | [],vs,h=>by
  unfold aE at h
  rw [h]
  rfl
 | t :: ts,vs,h=>by
  unfold aE at h
  obtain ⟨y,ys,e,h1,h2⟩:=h
  subst e
  simp [aE.len h2]
theorem aE.get {X:Hp}:∀{ts:List Pt}{vs:List V}{i:Nat}{v:V},aE A N X vs ts->vs[i]?=some v->∃t,ts[i]?=some t/\cE A N X v t
 | [],vs,i,v,h,e=>by
  unfold aE at h
  rw [h] at e
  cases e
 | t :: ts,vs,i,v,h,e=>by
  unfold aE at h
  obtain ⟨y,ys,e',h1,h2⟩:=h
  subst e'
  cases i with
  | zero=>cases e;exact ⟨t,rfl,h1⟩
  | succ i=>exact aE.get (i:=i) h2 e
def nst (n:Int) (f o:List Pt):Lr->Pt
 | .iff v l r=>.iff n v l r f o
 | .loop t m l r=>.loop n t m l r o
 | .deed i ps=>.deed n i ps o
 | r=>.leaf n r
def Lr.yJ:Lr->Bool
 | .iff _ _ _=>true | .loop _ _ _ _=>true | .deed _ _=>true
 | _=>false
def frT (n:Int) (row:V) (lf lr:Addr):List (Key × V):=[(.inr "number",.int n),(.inr "row",row),(.inr "first",.ref lf),(.inr "rows",.ref lr)]
def oF (A:Adr):Sp:=fun vs H Q _=>∃(N:Nat->Str) (M:List Addr) (fr lf lr:Addr) (n:Int) (v:V) (r:Lr) (xf xo:List V) (f o:List Pt),vs=[.ref fr]/\H fr=some (.dK (frT n v lf lr))/\bK N (del M H) v r/\r.yJ=true/\(∀m ∈ M,H m ≠ none)/\H lf=some (.lst xf)/\H lr=some (.lst xo)/\aE A N (del M H) xf f/\aE A N (del M H) xo o /\
 ∀(a:Addr) (H':Hp),aq H H'->H a=none->cE A N (del M H') (.ref a) (nst n f o r)->Q (.ref a) H'
theorem qh (T:Txt K mg A):Has P w K mg base 5 "_law_nested_row" ["_law_frame"] (oF A):=by
 have D_IfRow_init:=p5 (P:=P) (w:=w) (base:=base) T
 have D_LoopRow_init:=nK (P:=P) (w:=w) (base:=base) T
 have D_DeedRow_init:=nu (P:=P) (w:=w) (base:=base) T
 refine T.iQ.has (k:=4) dN (fun vs H Q E h=>?_) (fun f cdv A' outer s H vs Q E' hr hu h=>?_)
 ·obtain ⟨N,M,fr,lf,lr,n,v,r,xf,xo,f,o,rfl,_⟩:=h
  rfl
 ·obtain ⟨N,M,fr,lf,lr,n,v,r,xf,xo,tf,to,rfl,hfr,⟨t,p,rfl,et0,ep⟩,fb,hM,hlf,hlr,pf,po,q⟩:=h
  have et:=(bg et0).2
  have nw:∀{x:Addr}{o:HO}{H':Hp},H x=none->H' x=some o->del M H' x=some o:=fun {x o H'} h e=>aV (fun m=>hM x m h) e
  have od:∀{H':Hp},aq H H'->aq (del M H) (del M H'):=fun {H'} z=>(Go.new z).same
  have et':=SqT.of (K:=K) et
  refine ⟨_,(ae (ay (i:=1) dN.nd rfl (Or.inl rfl) (px hu (fv 0) aj))
  (ae (ay (i:=2) dN.nd rfl (Or.inl rfl) (px hu (fv 0) aj))
  (ae (ba (aC (bV hu) (px hu (fv 2) ab) aj (aG _))
   (ao (aW (cy T.bo D_IfRow_init hr (aa (fv 1) (aa (px hu (fv 2) ab) (aa (px hu (fv 0) aj) (aa (px hu (fv 0) aj) (aa (px hu (fv 2) ab) (aa (px hu (fv 2) ab) ag)))))))))
   aT)
  (ae (ba (aC (bV hu) (px hu (fv 2) ab) aj (aG _))
   (ao (aW (cy T.aU D_LoopRow_init hr (aa (fv 1) (aa (px hu (fv 2) ab) (aa (px hu (fv 2) ab) (aa (px hu (fv 0) aj) (aa (px hu (fv 2) ab) (aa (px hu (fv 2) ab) ag)))))))))
   aT)
  (ao (aW (cy T.bT D_DeedRow_init hr (aa (fv 1) (aa (px hu (fv 2) ab) (aa (bE p9 rfl T.di (by boot_by_name) (aa (px hu (fv 2) ab) ag)) (aa (px hu (fv 0) aj) ag))))))))))),?_⟩
  refine ah fun M1 K1=>?_
  refine ⟨_,aN.k (k:=.inr "number") hfr,K1 _ _ ?_⟩
  clear K1 M1
  try dsimp only
  refine ah fun M2 K2=>?_
  refine ⟨_,aN.k (k:=.inr "row") hfr,K2 _ _ ?_⟩
  clear K2 M2
  try dsimp only
  cases r with
  | iff val l r =>
   refine ah fun M3 K3=>?_
   refine Or.inl ⟨_,_,Or.inr et',aB (j:=0) rfl,rfl,_,rfl,aI (fun _=>?_) (fun z=>absurd rfl (cq z))⟩
   refine Or.inl ⟨_,_,Or.inr et',aB (j:=1) rfl,_,aN.k (k:=.inr "first") hfr,_,aN.k (k:=.inr "rows") hfr,Or.inl ⟨_,_,Or.inr et',aB (j:=2) rfl,Or.inl ⟨_,_,Or.inr et',aB (j:=3) rfl,?_⟩⟩⟩
   refine fun r6 dx hr6 hd_ hne_=>wB (SqL.of hlf) (SqL.of hlr) hr6 hd_ fun n6 n7 H6 f6 f7 s6 h6 h7 hx=>⟨rfl,?_⟩
   refine q r6 H6 s6 hr6 ?_
   show cE A N (del M H6) (.ref r6) (.iff n val l r tf to)
   unfold cE
   exact ⟨r6,dx,p,n6,n7,xf,xo,rfl,nw hr6 hx,od s6 _ _ (ep _ rfl),nw f6 h6,nw f7 h7,aE.same (od s6) _ _ pf,aE.same (od s6) _ _ po⟩
  | loop th m l r =>
   refine ah fun M3 K3=>?_
   refine Or.inl ⟨_,_,Or.inr et',aB (j:=0) rfl,rfl,_,rfl,aI (fun z=>absurd (aJ z) (show ¬ ("loop":Str)="if" by decide)) (fun _=>K3 _ _ ?_)⟩
   clear K3 M3
   try dsimp only
   refine ah fun M3 K3=>?_
   refine Or.inl ⟨_,_,Or.inr et',aB (j:=0) rfl,rfl,_,rfl,aI (fun _=>?_) (fun z=>absurd rfl (cq z))⟩
   refine Or.inl ⟨_,_,Or.inr et',aB (j:=1) rfl,Or.inl ⟨_,_,Or.inr et',aB (j:=2) rfl,_,aN.k (k:=.inr "rows") hfr,Or.inl ⟨_,_,Or.inr et',aB (j:=3) rfl,Or.inl ⟨_,_,Or.inr et',aB (j:=4) rfl,?_⟩⟩⟩⟩
   refine fun r6 dx hr6 hd_ hne_=>sk (SqL.of hlr) hr6 hd_ fun n6 H6 f6 s6 h6 hx=>⟨rfl,?_⟩
   refine q r6 H6 s6 hr6 ?_
   show cE A N (del M H6) (.ref r6) (.loop n th m l r to)
   unfold cE
   exact ⟨r6,dx,n6,xo,rfl,nw hr6 hx,nw f6 h6,aE.same (od s6) _ _ po⟩
  | deed i ps =>
   refine ah fun M3 K3=>?_
   refine Or.inl ⟨_,_,Or.inr et',aB (j:=0) rfl,rfl,_,rfl,aI (fun z=>absurd (aJ z) (show ¬ ("deed":Str)="if" by decide)) (fun _=>K3 _ _ ?_)⟩
   clear K3 M3
   try dsimp only
   refine ah fun M3 K3=>?_
   refine Or.inl ⟨_,_,Or.inr et',aB (j:=0) rfl,rfl,_,rfl,aI (fun z=>absurd (aJ z) (show ¬ ("deed":Str)="loop" by decide)) (fun _=>K3 _ _ ?_)⟩
   clear K3 M3
   try dsimp only
   have epp:=(bg (ep _ rfl)).2
   refine Or.inl ⟨_,_,Or.inr et',aB (j:=1) rfl,Or.inl ⟨_,_,Or.inr et',aB (j:=2) rfl,?_⟩⟩
   refine Or.inl ⟨p,_,rfl,Or.inl (SqL.of epp),fun l5 hl5=>?_⟩
   obtain ⟨s5,e5⟩:=alc hl5 (HO.lst (nV N ps))
   generalize upd H l5 _=H5 at s5 e5 ⊢
   refine ⟨_,aN.k (k:=.inr "rows") (s5 _ _ hfr),?_⟩
   refine fun r6 dx hr6 hd_ hne_=>rW (SqL.of e5) (SqL.of (s5 _ _ hlr)) hr6 hd_ fun n6 n7 H6 f6 f7 s6 h6 h7 hx=>⟨rfl,?_⟩
   refine q r6 H6 (s5.trans s6) (aq.free s5 hr6) ?_
   show cE A N (del M H6) (.ref r6) (.deed n i ps to)
   unfold cE
   exact ⟨r6,dx,n6,n7,xo,rfl,nw (aq.free s5 hr6) hx,nw (aq.free s5 f6) h6,nw (aq.free s5 f7) h7,aE.same (od (s5.trans s6)) _ _ po⟩
  | _=>cases fb
end
section
variable {P:Program}{w:World}{K:W.Frag}{mg:Str->Option Value}{base:Heap}{A:Adr}{N:Nat->Str}
structure Zf where
 n:Int
 op:Lr
 fst:List Pt
 rows:List Pt
structure Zs where
 heads:List Pt
 y9:List Pt
 fs:List Zf
def Lr.wg:Lr->Bool
 | .iff _ _ _=>true | .loop _ _ _ _=>true | .deed _ _=>true | .main=>true
 | _=>false
def Zf.done (f:Zf):Pt:=nst f.n f.fst f.rows f.op
inductive Stp (k:Nat):Zs->Lr->Zs->Prop
 | opn {h d:List Pt}{fs:List Zf}{r:Lr} (b:r.wg=true):Stp k ⟨h,d,fs⟩ r ⟨h,d,⟨(k:Int) + 1,r,[],[]⟩ :: fs⟩
 | els {h d:List Pt}{f:Zf}{fs:List Zf}:Stp k ⟨h,d,f :: fs⟩ .els ⟨h,d,⟨f.n,f.op,f.rows,[]⟩ :: fs⟩
 | fin1 {h d:List Pt}{f g:Zf}{fs:List Zf} (b:f.op.yJ=true):Stp k ⟨h,d,f :: g :: fs⟩ .fin ⟨h,d,⟨g.n,g.op,g.fst,g.rows ++ [f.done]⟩ :: fs⟩
 | fin0 {h d:List Pt}{f:Zf} (b:f.op.yJ=true):Stp k ⟨h,d,[f]⟩ .fin ⟨h,d ++ [f.done],[]⟩
 | head {h d:List Pt}{r:Lr} (b:r.lY=true):Stp k ⟨h,d,[]⟩ r ⟨h ++ [.leaf ((k:Int) + 1) r],d,[]⟩
 | row {h d:List Pt}{f:Zf}{fs:List Zf}{r:Lr} (b:r.lY=true):Stp k ⟨h,d,f :: fs⟩ r ⟨h,d,⟨f.n,f.op,f.fst,f.rows ++ [.leaf ((k:Int) + 1) r]⟩ :: fs⟩
inductive hX:Nat->Zs->List Lr->Zs->Prop
 | nil {k:Nat}{s:Zs}:hX k s [] s
 | cons {k:Nat}{s s' s2:Zs}{r:Lr}{rs:List Lr} (h:Stp k s r s') (t:hX (k + 1) s' rs s2):hX k s (r :: rs) s2
theorem hX.app {k:Nat}{s s1 s2:Zs}{a b:List Lr} (h:hX k s a s1) (h2:hX (k + a.length) s1 b s2):hX k s (a ++ b) s2:=by
 induction h with
 | nil=>exact h2
 | cons h t ih =>
  refine .cons h (ih ?_)
  rw [List.length_cons] at h2
  rw [show ∀k n:Nat,k + 1 + n=k + (n + 1) from fun k n=>by omega]
  exact h2
mutual
def pt (k:Nat):Tr->Pt
 | .leaf r=>.leaf ((k:Int) + 1) r
 | .iff v l r f o=>.iff ((k:Int) + 1) v l r (pts (k + 1) f) (pts (k + 1 + (aP f).length + 1) o)
 | .loop t m l r b=>.loop ((k:Int) + 1) t m l r (pts (k + 1) b)
def pts (k:Nat):List Tr->List Pt
 | []=>[]
 | t :: ts=>pt k t :: pts (k + (flat t).length) ts
end
theorem xh {ns tg:List Nat}{dd:List Dl}{r:Lr} (h:r.ok ns tg dd):r.lY=true:=by
 cases r <;> first | rfl | exact h.elim
mutual
theorem AU {ns tg:List Nat}{dd:List Dl}:∀(t:Tr) (k:Nat) (h d:List Pt) (f:Zf) (fs:List Zf),t.ok ns tg dd->hX k ⟨h,d,f :: fs⟩ (flat t) ⟨h,d,⟨f.n,f.op,f.fst,f.rows ++ [pt k t]⟩ :: fs⟩
 | .leaf r,k,h,d,f,fs,ok=>by
  unfold Tr.ok at ok
  unfold flat pt
  exact .cons (.row (xh ok)) .nil
 | .iff v l r a b,k,h,d,f,fs,ok=>by
  unfold Tr.ok at ok
  obtain ⟨_,_,_,oa,ob⟩:=ok
  unfold flat pt
  refine .cons (.opn rfl) ?_
  refine hX.app (jH a (k + 1) h d _ _ oa) ?_
  refine .cons .els ?_
  refine hX.app (jH b _ h d _ _ ob) ?_
  exact .cons (.fin1 rfl) .nil
 | .loop t m l r b,k,h,d,f,fs,ok=>by
  unfold Tr.ok at ok
  obtain ⟨_,_,_,_,_,ob⟩:=ok
  unfold flat pt
  refine .cons (.opn rfl) ?_
  refine hX.app (jH b (k + 1) h d _ _ ob) ?_
  exact .cons (.fin1 rfl) .nil
theorem jH {ns tg:List Nat}{dd:List Dl}:∀(ts:List Tr) (k:Nat) (h d:List Pt) (f:Zf) (fs:List Zf),df ns tg dd ts->hX k ⟨h,d,f :: fs⟩ (aP ts) ⟨h,d,⟨f.n,f.op,f.fst,f.rows ++ pts k ts⟩ :: fs⟩
 | [],k,h,d,f,fs,ok=>by
  unfold aP pts
  rw [List.append_nil]
  exact .nil
 | t :: ts,k,h,d,f,fs,ok=>by
  unfold df at ok
  unfold aP pts
  have h1:=AU t k h d f fs ok.1
  have h2:=jH ts (k + (flat t).length) h d ⟨f.n,f.op,f.fst,f.rows ++ [pt k t]⟩ fs ok.2
  rw [show f.rows ++ [pt k t] ++ pts (k + (flat t).length) ts=f.rows ++ pt k t :: pts (k + (flat t).length) ts by simp] at h2
  exact h1.app h2
end
def ptD (k:Nat):List Dl->List (List Tr)->List Pt
 | d :: ds,b :: bs=>.deed ((k:Int) + 1) d.nm d.ps (pts (k + 1) b) :: ptD (k + 1 + (aP b).length + 1) ds bs
 | _,_=>[]
theorem vT:∀(ds:List Dl) (bs:List (List Tr)) (k:Nat) (h e:List Pt),(∀b ∈ bs,∃ns tg dd,df ns tg dd b)->hX k ⟨h,e,[]⟩ (bU ds bs) ⟨h,e ++ ptD k ds bs,[]⟩
 | [],_,k,h,e,_=>by
  unfold bU ptD
  rw [List.append_nil]
  exact .nil
 | d :: ds,[],k,h,e,_=>by
  unfold bU ptD
  rw [List.append_nil]
  exact .nil
 | d :: ds,b :: bs,k,h,e,ok=>by
  unfold bU ptD
  obtain ⟨ns,tg,dd,ob⟩:=ok b List.mem_cons_self
  refine .cons (.opn rfl) ?_
  refine hX.app (jH b (k + 1) h e _ _ ob) ?_
  refine .cons (.fin0 rfl) ?_
  have:=vT ds bs (k + 1 + (aP b).length + 1) h (e ++ [.deed ((k:Int) + 1) d.nm d.ps (pts (k + 1) b)]) (fun x hx=>ok x (List.mem_cons_of_mem _ hx))
  rw [List.append_assoc] at this
  exact this
def lfs (k:Nat):List Lr->List Pt
 | []=>[]
 | r :: rs=>.leaf ((k:Int) + 1) r :: lfs (k + 1) rs
theorem xQ:∀(rs:List Lr) (k:Nat) (h e:List Pt),(∀r ∈ rs,r.lY=true)->hX k ⟨h,e,[]⟩ rs ⟨h ++ lfs k rs,e,[]⟩
 | [],k,h,e,_=>by
  unfold lfs
  rw [List.append_nil]
  exact .nil
 | r :: rs,k,h,e,ok=>by
  unfold lfs
  refine .cons (.head (ok r List.mem_cons_self)) ?_
  have:=xQ rs (k + 1) (h ++ [.leaf ((k:Int) + 1) r]) e (fun x hx=>ok x (List.mem_cons_of_mem _ hx))
  rw [List.append_assoc] at this
  exact this
theorem vX {ev:Bool}{lim:Int}{lrs:List Lr}{rk:Nat->Int}{z:Int}{t:Nat}{dls:List Dl}{bss:List (List Tr)}{mb:List Tr} (D:zJ ev lim lrs rk z t dls bss mb) :
  ∃body,lrs=body ++ [.fin]/\∃n:Nat,hX 0 ⟨[],[],[]⟩ body ⟨lfs 0 (rot t (cw rk z)),ptD (rot t (cw rk z)).length dls bss,[⟨(n:Int) + 1,.main,[],pts (n + 1) mb⟩]⟩/\n=(rot t (cw rk z)).length + (bU dls bss).length:=by
 refine ⟨rot t (cw rk z) ++ bU dls bss ++ (.main :: aP mb),by rw [D.e];simp,_,?_,rfl⟩
 have hb:∀r ∈ rot t (cw rk z),r.lY=true:=fun r hr=>by
  have:r ∈ cw rk z:=by
   rcases List.mem_append.mp hr with h | h
   ·exact List.mem_of_mem_drop h
   ·exact List.mem_of_mem_take h
  simp only [cw,List.mem_cons,List.not_mem_nil,or_false] at this
  rcases this with e | e | e | e | e | e | e | e | e | e | e | e | e <;> (rw [e];rfl)
 have h1:=xQ (rot t (cw rk z)) 0 [] [] hb
 have h2:=vT dls bss (0 + (rot t (cw rk z)).length) ([] ++ lfs 0 (rot t (cw rk z))) [] (fun b hb=>by
  obtain ⟨j,hj⟩:=List.getElem?_of_mem hb
  have jl:j < dls.length:=by
   rw [D.dd.len]
   exact (List.getElem?_eq_some_iff.mp hj).1
  exact ⟨_,_,_,(D.dd.bs j _ b (List.getElem?_eq_getElem jl) hj).1⟩)
 have h12:=h1.app h2
 refine h12.app (.cons (.opn rfl) ?_)
 have h3:=jH mb (0 + (rot t (cw rk z) ++ bU dls bss).length + 1) (lfs 0 (rot t (cw rk z))) (ptD (rot t (cw rk z)).length dls bss) ⟨((0 + (rot t (cw rk z) ++ bU dls bss).length:Nat):Int) + 1,.main,[],[]⟩ [] D.ob
 simpa using h3
end
section
variable {P:Program}{w:World}{K:W.Frag}{mg:Str->Option Value}{base:Heap}{A:Adr}{N:Nat->Str}
structure Fa where
 fr:Addr
 lf:Addr
 lr:Addr
def Fa.l (a:Fa):List Addr:=[a.fr,a.lf,a.lr]
def Tm (lh ld lf:Addr) (as:List Fa):List Addr:=lh :: ld :: lf :: as.flatMap Fa.l
def vQ (A:Adr) (N:Nat->Str) (X H:Hp) (a:Fa) (f:Zf):Prop:=∃v xf xo,H a.fr=some (.dK (frT f.n v a.lf a.lr))/\bK N X v f.op/\H a.lf=some (.lst xf)/\H a.lr=some (.lst xo)/\aE A N X xf f.fst/\aE A N X xo f.rows
theorem vQ.go {X X' H H':Hp}{a:Fa}{f:Zf} (s:aq X X') (k:∀x ∈ a.l,∀o,H x=some o->H' x=some o) (h:vQ A N X H a f):vQ A N X' H' a f:=by
 obtain ⟨v,xf,xo,h1,h2,h3,h4,h5,h6⟩:=h
 exact ⟨v,xf,xo,k _ (by simp [Fa.l]) _ h1,h2.same s,k _ (by simp [Fa.l]) _ h3,k _ (by simp [Fa.l]) _ h4,aE.same s _ _ h5,aE.same s _ _ h6⟩
theorem Paired.mapM {α β:Type}{F G:α->β->Prop}:∀{xs:List α}{ys:List β},Paired F xs ys->(∀a b,a ∈ xs->F a b->G a b)->Paired G xs ys
 | _,_,.nil,_=>.nil
 | _,_,.cons h r,k=>.cons (k _ _ List.mem_cons_self h) (Paired.mapM r fun a b m=>k a b (List.mem_cons_of_mem _ m))
structure eA (A:Adr) (N:Nat->Str) (H:Hp) (lh ld lf:Addr) (as:List Fa) (s:Zs) (i:Nat):Prop where
 hh:∃xs,H lh=some (.lst xs)/\aE A N (del (Tm lh ld lf as) H) xs s.heads
 hd:∃xs,H ld=some (.lst xs)/\aE A N (del (Tm lh ld lf as) H) xs s.y9
 hf:H lf=some (.lst (as.reverse.map fun a=>V.ref a.fr))
 fr:Paired (vQ A N (del (Tm lh ld lf as) H) H) as s.fs
 nd:(Tm lh ld lf as).Nodup
 bd:s.heads.length <= i/\s.y9.length <= i/\s.fs.length <= i/\∀f ∈ s.fs,f.rows.length <= i
variable {H H':Hp}{lh ld lf:Addr}{as:List Fa}{a:Fa}{s:Zs}{i:Nat}{h d:List Pt}{f:Zf}{fs:List Zf}
theorem eA.same (z:aq H H') (t:eA A N H lh ld lf as s i):eA A N H' lh ld lf as s i:=by
 have sx:=(Go.new (M:=Tm lh ld lf as) z).same
 obtain ⟨x1,h1,p1⟩:=t.hh
 obtain ⟨x2,h2,p2⟩:=t.hd
 exact ⟨⟨x1,z _ _ h1,aE.same sx _ _ p1⟩,⟨x2,z _ _ h2,aE.same sx _ _ p2⟩,z _ _ t.hf,Paired.dC t.fr fun _ _ q=>q.go sx fun x _ o e=>z _ _ e,t.nd,t.bd⟩
theorem gK {b:Fa}{x:Addr} (hb:b ∈ as) (hx:x ∈ b.l):x ∈ as.flatMap Fa.l:=List.mem_flatMap.mpr ⟨b,hb,hx⟩
theorem eA.al (t:eA A N H lh ld lf as s i):∀x ∈ Tm lh ld lf as,H x ≠ none:=fun x m e=>by
 obtain ⟨x1,h1,_⟩:=t.hh
 obtain ⟨x2,h2,_⟩:=t.hd
 unfold Tm at m
 rcases List.mem_cons.mp m with rfl | m
 ·rw [h1] at e;cases e
 rcases List.mem_cons.mp m with rfl | m
 ·rw [h2] at e;cases e
 rcases List.mem_cons.mp m with rfl | m
 ·rw [t.hf] at e;cases e
 obtain ⟨b,hb,hx⟩:=List.mem_flatMap.mp m
 obtain ⟨j,hj⟩:=List.getElem?_of_mem hb
 obtain ⟨f,_,v,xf,xo,q1,_,q3,q4,_⟩:=bX t.fr hj
 simp only [Fa.l,List.mem_cons,List.not_mem_nil,or_false] at hx
 rcases hx with rfl | rfl | rfl
 ·rw [q1] at e;cases e
 ·rw [q3] at e;cases e
 ·rw [q4] at e;cases e
theorem tm3 (nd:(Tm lh ld lf as).Nodup):lh ≠ ld/\lh ≠ lf/\ld ≠ lf/\(∀x ∈ as.flatMap Fa.l,x ≠ lh/\x ≠ ld/\x ≠ lf)/\(as.flatMap Fa.l).Nodup:=by
 unfold Tm at nd
 obtain ⟨n1,nd⟩:=List.nodup_cons.mp nd
 obtain ⟨n2,nd⟩:=List.nodup_cons.mp nd
 obtain ⟨n3,nd⟩:=List.nodup_cons.mp nd
 refine ⟨fun e=>n1 (by rw [e];simp),fun e=>n1 (by rw [e];simp),fun e=>n2 (by rw [e];simp),fun x m=>⟨fun e=>n1 ?_,fun e=>n2 ?_,fun e=>n3 ?_⟩,nd⟩
 ·rw [<- e];simp only [List.mem_cons];exact .inr (.inr m)
 ·rw [<- e];simp only [List.mem_cons];exact .inr m
 ·rw [<- e];exact m
theorem rX (nd:((a :: as).flatMap Fa.l).Nodup):a.fr ≠ a.lf/\a.fr ≠ a.lr/\a.lf ≠ a.lr/\(∀x ∈ as.flatMap Fa.l,x ≠ a.fr/\x ≠ a.lf/\x ≠ a.lr)/\(as.flatMap Fa.l).Nodup:=by
 rw [List.flatMap_cons] at nd
 have e:a.l=[a.fr,a.lf,a.lr]:=rfl
 rw [e] at nd
 obtain ⟨n1,nd⟩:=List.nodup_cons.mp (show (a.fr :: a.lf :: a.lr :: as.flatMap Fa.l).Nodup from nd)
 obtain ⟨n2,nd⟩:=List.nodup_cons.mp nd
 obtain ⟨n3,nd⟩:=List.nodup_cons.mp nd
 refine ⟨fun e=>n1 (by rw [e];simp),fun e=>n1 (by rw [e];simp),fun e=>n2 (by rw [e];simp),fun x m=>⟨fun e=>n1 ?_,fun e=>n2 ?_,fun e=>n3 ?_⟩,nd⟩
 ·rw [<- e];simp only [List.mem_cons];exact .inr (.inr m)
 ·rw [<- e];simp only [List.mem_cons];exact .inr m
 ·rw [<- e];exact m
theorem eA.Cw {xs:List V}{x:V}{p:Pt} (t:eA A N H lh ld lf as ⟨h,d,fs⟩ i) (e:H lh=some (.lst xs)) (hp:cE A N (del (Tm lh ld lf as) H) x p):eA A N (upd H lh (.lst (xs ++ [x]))) lh ld lf as ⟨h ++ [p],d,fs⟩ (i + 1):=by
 obtain ⟨n1,n2,n3,n4,n5⟩:=tm3 t.nd
 have sx:=(Go.at (M:=Tm lh ld lf as) (H:=H) (x:=lh) (by simp [Tm]) (.lst (xs ++ [x]))).same
 obtain ⟨x1,h1,p1⟩:=t.hh
 obtain ⟨x2,h2,p2⟩:=t.hd
 rw [e] at h1
 cases h1
 refine ⟨⟨_,ak,(aE.same sx _ _ p1).snoc (cE.same sx _ _ hp)⟩,⟨x2,af n1.symm h2,aE.same sx _ _ p2⟩,af n2.symm t.hf,Paired.mapM t.fr fun b q hb r=>r.go sx fun y hy o z=>af (n4 y (gK hb hy)).1 z,t.nd,?_⟩
 obtain ⟨b1,b2,b3,b4⟩:=t.bd
 exact ⟨by simp at b1 ⊢;omega,Nat.le_succ_of_le b2,Nat.le_succ_of_le b3,fun f hf=>Nat.le_succ_of_le (b4 f hf)⟩
theorem eA.Bg {xs:List V}{x:V}{p:Pt} (t:eA A N H lh ld lf as ⟨h,d,fs⟩ i) (e:H ld=some (.lst xs)) (hp:cE A N (del (Tm lh ld lf as) H) x p):eA A N (upd H ld (.lst (xs ++ [x]))) lh ld lf as ⟨h,d ++ [p],fs⟩ (i + 1):=by
 obtain ⟨n1,n2,n3,n4,n5⟩:=tm3 t.nd
 have sx:=(Go.at (M:=Tm lh ld lf as) (H:=H) (x:=ld) (by simp [Tm]) (.lst (xs ++ [x]))).same
 obtain ⟨x1,h1,p1⟩:=t.hh
 obtain ⟨x2,h2,p2⟩:=t.hd
 rw [e] at h2
 cases h2
 refine ⟨⟨x1,af n1 h1,aE.same sx _ _ p1⟩,⟨_,ak,(aE.same sx _ _ p2).snoc (cE.same sx _ _ hp)⟩,af n3.symm t.hf,Paired.mapM t.fr fun b q hb r=>r.go sx fun y hy o z=>af (n4 y (gK hb hy)).2.1 z,t.nd,?_⟩
 obtain ⟨b1,b2,b3,b4⟩:=t.bd
 exact ⟨Nat.le_succ_of_le b1,by simp at b2 ⊢;omega,Nat.le_succ_of_le b3,fun f hf=>Nat.le_succ_of_le (b4 f hf)⟩
theorem eA.zm {xs:List V}{x:V}{p:Pt} (t:eA A N H lh ld lf (a :: as) ⟨h,d,f :: fs⟩ i) (e:H a.lr=some (.lst xs)) (hp:cE A N (del (Tm lh ld lf (a :: as)) H) x p):eA A N (upd H a.lr (.lst (xs ++ [x]))) lh ld lf (a :: as) ⟨h,d,⟨f.n,f.op,f.fst,f.rows ++ [p]⟩ :: fs⟩ (i + 1):=by
 obtain ⟨n1,n2,n3,n4,n5⟩:=tm3 t.nd
 obtain ⟨m1,m2,m3,m4,_⟩:=rX n5
 have im:a.lr ∈ (a :: as).flatMap Fa.l:=gK List.mem_cons_self (by simp [Fa.l])
 obtain ⟨k1,k2,k3⟩:=n4 _ im
 have sx:=(Go.at (M:=Tm lh ld lf (a :: as)) (H:=H) (x:=a.lr) (by unfold Tm;simp only [List.mem_cons];exact .inr (.inr (.inr im))) (.lst (xs ++ [x]))).same
 obtain ⟨x1,h1,p1⟩:=t.hh
 obtain ⟨x2,h2,p2⟩:=t.hd
 cases t.fr with
 | cons q r =>
  obtain ⟨v,xf,xo,q1,q2,q3,q4,q5,q6⟩:=q
  rw [e] at q4
  cases q4
  refine ⟨⟨x1,af k1.symm h1,aE.same sx _ _ p1⟩,⟨x2,af k2.symm h2,aE.same sx _ _ p2⟩,af k3.symm t.hf,.cons ⟨v,xf,xs ++ [x],af m2 q1,q2.same sx,af m3 q3,ak,aE.same sx _ _ q5,(aE.same sx _ _ q6).snoc (cE.same sx _ _ hp)⟩ (Paired.mapM r fun b q hb r=>r.go sx fun y hy o z=>af (m4 y (gK hb hy)).2.2 z),t.nd,?_⟩
  obtain ⟨b1,b2,b3,b4⟩:=t.bd
  refine ⟨Nat.le_succ_of_le b1,Nat.le_succ_of_le b2,Nat.le_succ_of_le b3,fun f' hf=>?_⟩
  rcases List.mem_cons.mp hf with rfl | hf
  ·have:=b4 f List.mem_cons_self
   simp
   exact this
  ·exact Nat.le_succ_of_le (b4 f' (List.mem_cons_of_mem _ hf))
theorem nr {x:Addr} (m:x ∈ Tm lh ld lf as):x ∈ Tm lh ld lf (a :: as):=by
 unfold Tm at m ⊢
 simp only [List.mem_cons,List.flatMap_cons,List.mem_append] at m ⊢
 rcases m with m | m | m | m
 ·exact .inl m
 ·exact .inr (.inl m)
 ·exact .inr (.inr (.inl m))
 ·exact .inr (.inr (.inr (.inr m)))
theorem eA.pop (t:eA A N H lh ld lf (a :: as) ⟨h,d,f :: fs⟩ i):eA A N (upd H lf (.lst (as.reverse.map fun a=>V.ref a.fr))) lh ld lf as ⟨h,d,fs⟩ i/\vQ A N (del (Tm lh ld lf (a :: as)) (upd H lf (.lst (as.reverse.map fun a=>V.ref a.fr)))) (upd H lf (.lst (as.reverse.map fun a=>V.ref a.fr))) a f:=by
 obtain ⟨n1,n2,n3,n4,n5⟩:=tm3 t.nd
 obtain ⟨m1,m2,m3,m4,m5⟩:=rX n5
 have sx:=(Go.at (M:=Tm lh ld lf (a :: as)) (H:=H) (x:=lf) (by simp [Tm]) (.lst (as.reverse.map fun a=>V.ref a.fr))).same
 have sy:aq (del (Tm lh ld lf (a :: as)) (upd H lf (.lst (as.reverse.map fun a=>V.ref a.fr)))) (del (Tm lh ld lf as) (upd H lf (.lst (as.reverse.map fun a=>V.ref a.fr)))):=fun x o e=>aV (fun m=>(bg e).1 (nr m)) (bg e).2
 have sz':=sx.trans sy
 obtain ⟨x1,h1,p1⟩:=t.hh
 obtain ⟨x2,h2,p2⟩:=t.hd
 cases t.fr with
 | cons q r =>
  refine ⟨⟨⟨x1,af n2 h1,aE.same sz' _ _ p1⟩,⟨x2,af n3 h2,aE.same sz' _ _ p2⟩,ak,Paired.mapM r fun b q hb r=>r.go sz' fun y hy o z=>af (n4 y (gK (List.mem_cons_of_mem _ hb) hy)).2.2 z,?_,?_⟩,q.go sx fun y hy o z=>af (n4 y (gK List.mem_cons_self hy)).2.2 z⟩
  ·have nd:=t.nd
   unfold Tm at nd ⊢
   rw [List.flatMap_cons] at nd
   refine nd.sublist ?_
   exact ((List.sublist_append_right _ _).cons₂ _).cons₂ _ |>.cons₂ _
  ·obtain ⟨b1,b2,b3,b4⟩:=t.bd
   exact ⟨b1,b2,Nat.le_of_succ_le b3,fun f' hf=>b4 f' (List.mem_cons_of_mem _ hf)⟩
theorem eA.opn {H1:Hp}{fr l1 l2:Addr}{n:Int}{v:V}{r:Lr} (t:eA A N H lh ld lf as ⟨h,d,fs⟩ i) (s1:aq H H1) (f0:H fr=none) (f1:H l1=none) (f2:H l2=none) (d1:fr ≠ l1) (d2:fr ≠ l2) (d3:l1 ≠ l2) (e0:H1 fr=some (.dK (frT n v l1 l2))) (e1:H1 l1=some (.lst [])) (e2:H1 l2=some (.lst [])) (lr:bK N (del (Tm lh ld lf as) H) v r) :
  eA A N (upd H1 lf (.lst ((as.reverse.map fun a=>V.ref a.fr) ++ [.ref fr]))) lh ld lf (⟨fr,l1,l2⟩ :: as) ⟨h,d,⟨n,r,[],[]⟩ :: fs⟩ (i + 1):=by
 obtain ⟨n1,n2,n3,n4,n5⟩:=tm3 t.nd
 have al:=t.al
 have o0:fr ∉ Tm lh ld lf as:=fun m=>al _ m f0
 have o1:l1 ∉ Tm lh ld lf as:=fun m=>al _ m f1
 have o2:l2 ∉ Tm lh ld lf as:=fun m=>al _ m f2
 have il:lf ∈ Tm lh ld lf as:=by simp [Tm]
 have g:Go (Tm lh ld lf as) H (Tm lh ld lf (⟨fr,l1,l2⟩ :: as)) (upd H1 lf (.lst ((as.reverse.map fun a=>V.ref a.fr) ++ [.ref fr]))):=((Go.new s1).trans (Go.at il _)).to fun x m=>by
  unfold Tm at m
  simp only [List.mem_cons,List.flatMap_cons,List.mem_append,Fa.l,List.not_mem_nil,or_false] at m
  rcases m with m | m | m | (m | m | m) | m
  ·exact .inl (by rw [m];simp [Tm])
  ·exact .inl (by rw [m];simp [Tm])
  ·exact .inl (by rw [m];exact il)
  ·exact .inr (.inr (by rw [m];exact f0))
  ·exact .inr (.inr (by rw [m];exact f1))
  ·exact .inr (.inr (by rw [m];exact f2))
  ·exact .inl (by unfold Tm;simp only [List.mem_cons];exact .inr (.inr (.inr m)))
 have sx:=g.same
 obtain ⟨x1,h1,p1⟩:=t.hh
 obtain ⟨x2,h2,p2⟩:=t.hd
 have frl:fr ≠ lf:=fun z=>o0 (by rw [z];exact il)
 have l1l:l1 ≠ lf:=fun z=>o1 (by rw [z];exact il)
 have l2l:l2 ≠ lf:=fun z=>o2 (by rw [z];exact il)
 refine ⟨⟨x1,af n2 (s1 _ _ h1),aE.same sx _ _ p1⟩,⟨x2,af n3 (s1 _ _ h2),aE.same sx _ _ p2⟩,?_,.cons ⟨v,[],[],af frl e0,lr.same sx,af l1l e1,af l2l e2,aE.nil,aE.nil⟩ (Paired.mapM t.fr fun b q hb r=>r.go sx fun y hy o z=>af (n4 y (gK hb hy)).2.2 (s1 _ _ z)),?_,?_⟩
 ·rw [ak,List.reverse_cons,List.map_append]
  rfl
 ·unfold Tm
  rw [List.flatMap_cons]
  show (lh :: ld :: lf :: fr :: l1 :: l2 :: as.flatMap Fa.l).Nodup
  have nn:∀x,x ∉ Tm lh ld lf as->x ≠ lh/\x ≠ ld/\x ≠ lf/\x ∉ as.flatMap Fa.l:=fun x hx=>by
   unfold Tm at hx
   simp only [List.mem_cons,not_or] at hx
   exact hx
  obtain ⟨a1,a2,a3,a4⟩:=nn _ o0
  obtain ⟨b1,b2,b3,b4⟩:=nn _ o1
  obtain ⟨c1,c2,c3,c4⟩:=nn _ o2
  have y1:lh ∉ as.flatMap Fa.l:=fun m=>(n4 _ m).1 rfl
  have y2:ld ∉ as.flatMap Fa.l:=fun m=>(n4 _ m).2.1 rfl
  have y3:lf ∉ as.flatMap Fa.l:=fun m=>(n4 _ m).2.2 rfl
  simp only [List.nodup_cons,List.mem_cons,not_or]
  exact ⟨⟨n1,n2,a1.symm,b1.symm,c1.symm,y1⟩,⟨n3,a2.symm,b2.symm,c2.symm,y2⟩,⟨a3.symm,b3.symm,c3.symm,y3⟩,⟨d1,d2,a4⟩,⟨d3,b4⟩,c4,n5⟩
 ·obtain ⟨b1,b2,b3,b4⟩:=t.bd
  refine ⟨Nat.le_succ_of_le b1,Nat.le_succ_of_le b2,Nat.succ_le_succ b3,fun f hf=>?_⟩
  rcases List.mem_cons.mp hf with rfl | hf
  ·exact Nat.zero_le _
  ·exact Nat.le_succ_of_le (b4 f hf)
end
section
variable {P:Program}{w:World}{K:W.Frag}{mg:Str->Option Value}{base:Heap}{A:Adr}{N:Nat->Str}
seal PE PA PS PSs PT PW
theorem eA.els {H H3:Hp}{lh ld lf l:Addr}{as:List Fa}{a:Fa}{i:Nat}{h d:List Pt}{f:Zf}{fs:List Zf}{v:V}{xo:List V} (t:eA A N H lh ld lf (a :: as) ⟨h,d,f :: fs⟩ i) (q2:bK N (del (Tm lh ld lf (a :: as)) H) v f.op) (q4:H a.lr=some (.lst xo)) (q6:aE A N (del (Tm lh ld lf (a :: as)) H) xo f.rows) (l0:H l=none) (k:∀x o,x ≠ a.fr->H x=some o->H3 x=some o) (e1:H3 a.fr=some (.dK (frT f.n v a.lr l))) (e2:H3 l=some (.lst [])) :
  eA A N H3 lh ld lf (⟨a.fr,a.lr,l⟩ :: as) ⟨h,d,⟨f.n,f.op,f.rows,[]⟩ :: fs⟩ (i + 1)/\Go (Tm lh ld lf (a :: as)) H (Tm lh ld lf (⟨a.fr,a.lr,l⟩ :: as)) H3:=by
 obtain ⟨n1,n2,n3,n4,n5⟩:=tm3 t.nd
 obtain ⟨m1,m2,m3,m4,m5⟩:=rX n5
 have al:=t.al
 have ol:l ∉ Tm lh ld lf (a :: as):=fun m=>al _ m l0
 have imf:a.fr ∈ (a :: as).flatMap Fa.l:=gK List.mem_cons_self (by simp [Fa.l])
 have imr:a.lr ∈ (a :: as).flatMap Fa.l:=gK List.mem_cons_self (by simp [Fa.l])
 obtain ⟨k1,k2,k3⟩:=n4 _ imf
 obtain ⟨r1,r2,r3⟩:=n4 _ imr
 have g:Go (Tm lh ld lf (a :: as)) H (Tm lh ld lf (⟨a.fr,a.lr,l⟩ :: as)) H3:=by
  refine ⟨fun x o m e=>k x o (fun z=>m ?_) e,fun x m=>?_⟩
  ·rw [z];unfold Tm;simp only [List.mem_cons];exact .inr (.inr (.inr imf))
  ·unfold Tm at m
   simp only [List.mem_cons,List.flatMap_cons,List.mem_append,Fa.l,List.not_mem_nil,or_false] at m
   unfold Tm
   simp only [List.mem_cons,List.flatMap_cons,List.mem_append,Fa.l,List.not_mem_nil,or_false]
   rcases m with m | m | m | (m | m | m) | m
   ·exact .inl (.inl m)
   ·exact .inl (.inr (.inl m))
   ·exact .inl (.inr (.inr (.inl m)))
   ·exact .inl (.inr (.inr (.inr (.inl (.inl m)))))
   ·exact .inl (.inr (.inr (.inr (.inl (.inr (.inr m))))))
   ·exact .inr (by rw [m];exact l0)
   ·exact .inl (.inr (.inr (.inr (.inr m))))
 have sx:=g.same
 obtain ⟨x1,h1,p1⟩:=t.hh
 obtain ⟨x2,h2,p2⟩:=t.hd
 refine ⟨?_,g⟩
 have hf:=t.hf
 rw [List.reverse_cons,List.map_append] at hf
 cases t.fr with
 | cons q r =>
  refine ⟨⟨x1,k _ _ k1.symm h1,aE.same sx _ _ p1⟩,⟨x2,k _ _ k2.symm h2,aE.same sx _ _ p2⟩,?_,.cons ⟨v,xo,[],e1,q2.same sx,k _ _ m2.symm q4,e2,aE.same sx _ _ q6,aE.nil⟩ (Paired.mapM r fun b q hb r=>r.go sx fun y hy o z=>k _ _ (m4 y (gK hb hy)).1 z),?_,?_⟩
  ·rw [List.reverse_cons,List.map_append]
   exact k _ _ k3.symm hf
  ·unfold Tm
   rw [List.flatMap_cons]
   show (lh :: ld :: lf :: a.fr :: a.lr :: l :: as.flatMap Fa.l).Nodup
   unfold Tm at ol
   simp only [List.mem_cons,List.flatMap_cons,List.mem_append,Fa.l,List.not_mem_nil,or_false,not_or] at ol
   obtain ⟨c1,c2,c3,⟨c4,c5,c6⟩,c7⟩:=ol
   have sub:∀x,x ∈ as.flatMap Fa.l->x ∈ (a :: as).flatMap Fa.l:=fun x m=>by rw [List.flatMap_cons];exact List.mem_append_right _ m
   have y1:lh ∉ as.flatMap Fa.l:=fun m=>(n4 _ (sub _ m)).1 rfl
   have y2:ld ∉ as.flatMap Fa.l:=fun m=>(n4 _ (sub _ m)).2.1 rfl
   have y3:lf ∉ as.flatMap Fa.l:=fun m=>(n4 _ (sub _ m)).2.2 rfl
   have y4:a.fr ∉ as.flatMap Fa.l:=fun m=>(m4 _ m).1 rfl
   have y5:a.lr ∉ as.flatMap Fa.l:=fun m=>(m4 _ m).2.2 rfl
   simp only [List.nodup_cons,List.mem_cons,not_or]
   exact ⟨⟨n1,n2,k1.symm,r1.symm,Ne.symm c1,y1⟩,⟨n3,k2.symm,r2.symm,Ne.symm c2,y2⟩,⟨k3.symm,r3.symm,Ne.symm c3,y3⟩,⟨m2,Ne.symm c4,y4⟩,⟨Ne.symm c6,y5⟩,c7,m5⟩
  ·obtain ⟨b1,b2,b3,b4⟩:=t.bd
   refine ⟨Nat.le_succ_of_le b1,Nat.le_succ_of_le b2,Nat.le_succ_of_le b3,fun f' hf=>?_⟩
   rcases List.mem_cons.mp hf with rfl | hf
   ·exact Nat.zero_le _
   ·exact Nat.le_succ_of_le (b4 f' (List.mem_cons_of_mem _ hf))
def rR (A:Adr) (N:Nat->Str) (X:Hp) (v:V) (hs ds ms:List Pt):Prop:=∃a dx n0 n1 n2 x0 x1 x2,v=.ref a/\X a=some (.ins A.Program dx [("heads",.ref n0),("deeds",.ref n1),("main",.ref n2)])/\X n0=some (.lst x0)/\X n1=some (.lst x1)/\X n2=some (.lst x2)/\aE A N X x0 hs/\aE A N X x1 ds/\aE A N X x2 ms
theorem rR.same {X X':Hp} (s:aq X X') {v:V}{hs ds ms:List Pt} (h:rR A N X v hs ds ms):rR A N X' v hs ds ms:=by
 obtain ⟨a,dx,n0,n1,n2,x0,x1,x2,e,h1,h2,h3,h4,h5,h6,h7⟩:=h
 exact ⟨a,dx,n0,n1,n2,x0,x1,x2,e,s _ _ h1,s _ _ h2,s _ _ h3,s _ _ h4,aE.same s _ _ h5,aE.same s _ _ h6,aE.same s _ _ h7⟩
abbrev op4:List V:=[.str "if",.str "loop",.str "deed",.str "main"]
theorem zd (r:Lr):inV (.str r.w) op4=r.wg:=by
 cases r <;> (first | exact (show inV (V.str "hand") op4=false by decide) | exact (show inV (V.str "given") op4=false by decide) | exact (show inV (V.str "own") op4=false by decide) | exact (show inV (V.str "let") op4=false by decide) | exact (show inV (V.str "set") op4=false by decide) | exact (show inV (V.str "put") op4=false by decide) | exact (show inV (V.str "send") op4=false by decide) | exact (show inV (V.str "say") op4=false by decide) | exact (show inV (V.str "call") op4=false by decide) | exact (show inV (V.str "last") op4=false by decide) | exact (show inV (V.str "if") op4=true by decide) | exact (show inV (V.str "loop") op4=true by decide) | exact (show inV (V.str "else") op4=false by decide) | exact (show inV (V.str "end") op4=false by decide) | exact (show inV (V.str "deed") op4=true by decide) | exact (show inV (V.str "main") op4=true by decide))
end
section
variable {P:Program}{w:World}{K:W.Frag}{mg:Str->Option Value}{base:Heap}{A:Adr}{N:Nat->Str}
seal PE PA PS PSs PT PW
theorem kr {r:Lr} (b:r.lY=true) (c:r.wg=true):False:=by
 cases r <;> first | exact Bool.noConfusion b | exact Bool.noConfusion c
theorem xW {r:Lr} (b:r.lY=true):r.w ≠ "else"/\r.w ≠ "end":=by
 cases r with
 | hand _ _=>exact (show ("hand":Str) ≠ "else"/\("hand":Str) ≠ "end" by decide)
 | giv _ _ _=>exact (show ("given":Str) ≠ "else"/\("given":Str) ≠ "end" by decide)
 | own _ _=>exact (show ("own":Str) ≠ "else"/\("own":Str) ≠ "end" by decide)
 | lt _ _=>exact (show ("let":Str) ≠ "else"/\("let":Str) ≠ "end" by decide)
 | set _ _=>exact (show ("set":Str) ≠ "else"/\("set":Str) ≠ "end" by decide)
 | put _ _ _=>exact (show ("put":Str) ≠ "else"/\("put":Str) ≠ "end" by decide)
 | snd _ _=>exact (show ("send":Str) ≠ "else"/\("send":Str) ≠ "end" by decide)
 | say _ _ _=>exact (show ("say":Str) ≠ "else"/\("say":Str) ≠ "end" by decide)
 | call _ _=>exact (show ("call":Str) ≠ "else"/\("call":Str) ≠ "end" by decide)
 | last=>exact (show ("last":Str) ≠ "else"/\("last":Str) ≠ "end" by decide)
 | _=>exact Bool.noConfusion b
theorem zh {r:Lr} (b:r.yJ=true):r.w ≠ "main":=by
 cases r with
 | iff _ _ _=>exact (show ("if":Str) ≠ "main" by decide)
 | loop _ _ _ _=>exact (show ("loop":Str) ≠ "main" by decide)
 | deed _ _=>exact (show ("deed":Str) ≠ "main" by decide)
 | _=>exact Bool.noConfusion b
theorem xE {X:Hp}{v:V}{r:Lr} (h:bK N X v r):∃t xs,v=.ref t/\X t=some (.tup (.str r.w :: xs)):=by
 obtain ⟨t,p,e,h1,_⟩:=h
 exact ⟨t,_,e,h1⟩
def yt (A:Adr):Sp:=fun vs H Q _=>∃(N:Nat->Str) (LR:Addr) (rows:List V) (body:List Lr) (n:Int) (fo hs ds ms:List Pt),vs=[.ref LR]/\H LR=some (.lst rows)/\Paired (bK N H) rows (body ++ [.fin])/\hX 0 ⟨[],[],[]⟩ body ⟨hs,ds,[⟨n,.main,fo,ms⟩]⟩/\body.length <= 500 /\
 ∀(v:V) (H':Hp),aq H H'->rR A N H' v hs ds ms->Q v H'
theorem zR (T:Txt K mg A):Has P w K mg base 6 "_law_tree" ["_law_rows"] (yt A):=by
 have D_Program_init:=mK (P:=P) (w:=w) (base:=base) T
 have D_law_plain_row:=rA (P:=P) (w:=w) (base:=base) T
 have D_law_nested_row:=qh (P:=P) (w:=w) (base:=base) T
 refine T.qO.has (k:=5) cx (fun vs H Q E h=>?_) (fun f cdv A' outer s H vs Q E' hr hu h=>?_)
 ·obtain ⟨N,LR,rows,body,n,fo,hs,ds,ms,rfl,_⟩:=h
  rfl
 ·obtain ⟨N,LR,rows,body,n,fo,hs,ds,ms,rfl,hLR,pr,st,bl,q⟩:=h
  have lr:rows.length=body.length + 1:=by
   have:=Paired.length pr
   rw [this,List.length_append]
   rfl
  refine ⟨_,(ae (ay (i:=1) cx.nd rfl (Or.inl rfl) (bD ag))
  (ae (ay (i:=2) cx.nd rfl (Or.inl rfl) (bD ag))
  (ae (ay (i:=3) cx.nd rfl (Or.inl rfl) (bD ag))
  (ae (d5 PassesOwn.never rfl (gX rfl T.fP (aa (aH b9 rfl T.cD (by boot_by_name) (aa (fv 0) ag)) ag)) (pgn (i:=4) cx.nd rfl)
   (ae (ay (i:=5) cx.nd rfl (Or.inl rfl) (px hu (px hu (fv 0) (fv 4)) ab))
   (ao (ba (aC (tJ hu) (fv 5) (bf (aa aj (aa aj (aa aj (aa aj ag))))) ((by with_unfolding_all rfl)))
    (ao (aL (bW (fv 3) (aa (mE (bS aj (ax bp (fv 4) ab) (bS aj (px hu (fv 0) (fv 4)) (bS aj (bD ag) (bS aj (bD ag) (mG))))) rfl rfl (by intro z;cases z) (by decide)) ag))))
    (ao (ba (aC (bV hu) (fv 5) aj (aG _))
     (ae (bR (px hu (px hu (fv 3) (fB dw ab)) aj) (bP (px hu (fv 3) (fB dw ab)) aj (bO hu set_list)))
     (ao (bR (bD ag) (bP (px hu (fv 3) (fB dw ab)) aj (bO hu set_list)))))
     (ao (ba (aC (bV hu) (fv 5) aj (aG _))
      (ae (ay (i:=6) cx.nd rfl (Or.inl rfl) (zp (fv 3)))
      (ae (ba (aC (bV hu) (px hu (px hu (fv 6) aj) ab) aj (aG _))
       (ao (aW (cy T.dD D_Program_init hr (aa (fv 1) (aa (fv 2) (aa (px hu (fv 6) aj) ag))))))
       aT)
      (ae (ay (i:=7) cx.nd rfl (Or.inl rfl) (fv 2))
      (ae (ba (aC (ou) (aH b9 rfl T.cD (by boot_by_name) (aa (fv 3) ag)) ab (aG _))
       (ao (ay (i:=7) cx.nd rfl (Or.inl rfl) (px hu (px hu (fv 3) (fB dw ab)) aj)))
       aT)
      (ao (aL (bW (fv 7) (aa (au D_law_nested_row hr (aa (fv 6) ag)) ag))))))))
      (ao (ba (aC (bV hu) (aH b9 rfl T.cD (by boot_by_name) (aa (fv 3) ag)) ab (aG _))
       (ao (aL (bW (fv 1) (aa (au D_law_plain_row hr (aa (ax bp (fv 4) ab) (aa (px hu (fv 0) (fv 4)) ag))) ag))))
       (ao (aL (bW (px hu (px hu (fv 3) (fB dw ab)) aj) (aa (au D_law_plain_row hr (aa (ax bp (fv 4) ab) (aa (px hu (fv 0) (fv 4)) ag))) ag))))))))))))))
  (ao (aW jf)))))),?_⟩
  refine ah fun M1 K1=>?_
  refine ⟨Nat.zero_le _,fun lh hlh=>K1 _ _ ?_⟩
  obtain ⟨s1,e1⟩:=alc hlh (HO.lst [])
  generalize upd H lh _=H1 at s1 e1 ⊢
  clear K1 M1
  try dsimp only
  refine ah fun M1 K1=>?_
  refine ⟨Nat.zero_le _,fun ld hld=>K1 _ _ ?_⟩
  obtain ⟨s2,e2⟩:=alc hld (HO.lst [])
  generalize upd H1 ld _=H2 at s2 e2 ⊢
  clear K1 M1
  try dsimp only
  refine ah fun M1 K1=>?_
  refine ⟨Nat.zero_le _,fun lf hlf=>K1 _ _ ?_⟩
  obtain ⟨s3,e3⟩:=alc hlf (HO.lst [])
  generalize upd H2 lf _=H3 at s3 e3 ⊢
  clear K1 M1
  have s03:=(s1.trans s2).trans s3
  have d0:H ld=none:=aq.free s1 hld
  have f0:H lf=none:=aq.free (s1.trans s2) hlf
  have g3:Go [] H (Tm lh ld lf []) H3:=(Go.new s03).to fun x m=>by
   simp only [Tm,List.flatMap_nil,List.mem_cons,List.not_mem_nil,or_false] at m
   rcases m with m | m | m
   ·exact .inr (.inr (by rw [m];exact hlh))
   ·exact .inr (.inr (by rw [m];exact d0))
   ·exact .inr (.inr (by rw [m];exact f0))
  have T3:eA A N H3 lh ld lf [] ⟨[],[],[]⟩ 0:=by
   have hd:ld ≠ lh:=fresh_ne hld e1
   have hf1:lf ≠ lh:=fresh_ne hlf (s2 _ _ e1)
   have hf2:lf ≠ ld:=fresh_ne hlf e2
   refine ⟨⟨[],(s2.trans s3) _ _ e1,aE.nil⟩,⟨[],s3 _ _ e2,aE.nil⟩,e3,.nil,?_,⟨Nat.le_refl _,Nat.le_refl _,Nat.le_refl _,fun f m=>(by cases m)⟩⟩
   simp [Tm,hd.symm,hf1.symm,hf2.symm]
  clear s1 s2 s3 e1 e2 e3 hld hlf hlh
  try dsimp only
  refine ah fun M1 K1=>?_
  refine Or.inl ⟨_,_,rfl,Or.inl ⟨_,SqL.of (s03 _ _ hLR),rfl⟩,_,rfl,by rw [lr];omega,by rw [lr];omega,?_⟩
  rw [Int.toNat_natCast]
  refine kW (lo:=0) (fun i σ Hc=>∃(as:List Fa) (z:Zs) (v4 v5 v6 v7:Option V),σ=[some (.ref LR),some (.ref lh),some (.ref ld),some (.ref lf),v4,v5,v6,v7]/\i <= body.length/\Go [] H (Tm lh ld lf as) Hc/\eA A N Hc lh ld lf as z i/\hX i z (body.drop i) ⟨hs,ds,[⟨n,.main,fo,ms⟩]⟩) ⟨[],_,none,none,none,none,rfl,Nat.zero_le _,g3,T3,st⟩ ?_ ?_
  ·rintro i σ Hc hi ⟨as,z,v4,v5,v6,v7,rfl,ib,gc,Tc,st⟩
   have sx:aq H (del (Tm lh ld lf as) Hc):=fun x o e=>gc.same _ _ (aV (fun m=>by cases m) e)
   have sc:aq H Hc:=sx.trans bG
   obtain ⟨v,hv⟩:∃v,rows[i]?=some v:=⟨_,List.getElem?_eq_getElem hi⟩
   obtain ⟨r,hr',la⟩:=bX pr hv
   have la:=la.same sx
   obtain ⟨t,p,rfl,et0,ep⟩:=la
   have la:bK N (del (Tm lh ld lf as) Hc) (.ref t) r:=⟨t,p,rfl,et0,ep⟩
   have et:=SqT.of (K:=K) (bg et0).2
   have ai:atI rows (0 + (i:Int))=some (.ref t):=by rw [Int.zero_add];exact aB hv
   have ai':∀Hx,aq Hc Hx->SqL K Hx LR rows:=fun Hx zz=>SqL.of (zz _ _ (sc _ _ hLR))
   try dsimp only
   refine ah fun N1 J1=>?_
   refine Or.inl ⟨_,_,Or.inl (ai' _ (aq.refl _)),ai,Or.inl ⟨_,_,Or.inr et,aB (j:=0) rfl,J1 _ _ ?_⟩⟩
   clear J1 N1
   try dsimp only
   refine ⟨by show 4 <= sizeLine;decide,fun tp htp=>?_⟩
   obtain ⟨sd,ed⟩:=alc htp (HO.tup op4)
   generalize upd Hc tp _=Hd at sd ed ⊢
   have Td:=Tc.same sd
   have gd:Go [] H (Tm lh ld lf as) Hd:=gc.trans (Go.new sd)
   have lad:bK N (del (Tm lh ld lf as) Hd) (.ref t) r:=la.same (Go.new sd).same
   have etd:=SqT.of (K:=K) (sd _ _ (bg et0).2)
   have b6:i <= 500:=by omega
   clear Tc gc la htp
   refine Or.inl ⟨_,Or.inr (SqT.of ed),rfl,rfl,_,rfl,aI (fun c=>?_) (fun c=>?_)⟩
   ·
    have c':r.wg=true:=by rw [<- zd];exact c
    rcases gQ hr' with ⟨hb,il⟩ | ⟨_,rfl⟩
    rotate_left
    ·cases c'
    have ed':body.drop i=r :: body.drop (i + 1):=by rw [List.drop_eq_getElem_cons il,(List.getElem?_eq_some_iff.mp hb).2]
    rw [ed'] at st
    refine ⟨Or.inl ⟨rfl,_,SqL.of Td.hf⟩,fun fr hfr=>?_⟩
    obtain ⟨s1,e1⟩:=alc hfr (HO.dK [])
    generalize upd Hd fr _=X1 at s1 e1 ⊢
    refine Or.inl ⟨_,_,Or.inl (ai' _ (sd.trans s1)),ai,⟨Nat.zero_le _,fun l1 hl1=>?_⟩⟩
    obtain ⟨s2,e2⟩:=alc hl1 (HO.lst [])
    generalize upd X1 l1 _=X2 at s2 e2 ⊢
    refine ⟨Nat.zero_le _,fun l2 hl2=>?_⟩
    obtain ⟨s3,e3⟩:=alc hl2 (HO.lst [])
    generalize upd X2 l2 _=X3 at s3 e3 ⊢
    refine ⟨(s2.trans s3) _ _ e1,[((.inr "number":Key),.int (0 + (i:Int) + 1)),(.inr "row",.ref t),(.inr "first",.ref l1),(.inr "rows",.ref l2)],rfl,(show 4 <= 15 by decide),?_⟩
    rw [show hZ [] [((.inr "number":Key),V.int (0 + (i:Int) + 1)),(.inr "row",.ref t),(.inr "first",.ref l1),(.inr "rows",.ref l2)]=frT ((i:Int) + 1) (.ref t) l1 l2 by rw [Int.zero_add];rfl]
    have n1:l1 ≠ fr:=fresh_ne hl1 e1
    have n2:l2 ≠ fr:=fresh_ne hl2 (s2 _ _ e1)
    have n3:l2 ≠ l1:=fresh_ne hl2 e2
    have k4:aq Hd (upd X3 fr (.dK (frT ((i:Int) + 1) (.ref t) l1 l2))):=aq.out ((s1.trans s2).trans s3) hfr _
    have T4:∀fs h d,z=⟨h,d,fs⟩->eA A N _ lh ld lf (⟨fr,l1,l2⟩ :: as) ⟨h,d,⟨(i:Int) + 1,r,[],[]⟩ :: fs⟩ (i + 1):=fun fs h d e=>eA.opn (H:=Hd) (by rw [<- e];exact Td) k4 hfr (aq.free s1 hl1) (aq.free (s1.trans s2) hl2) n1.symm n2.symm n3.symm ak (af n1 (s3 _ _ e2)) (af n2 e3) lad
    refine ⟨_,_,_,rfl,rfl,k4 _ _ Td.hf,aD (by have:=Td.bd.2.2.1;have:=Paired.length Td.fr;rw [List.length_map,List.length_reverse];omega),?_⟩
    have g4:Go [] H (Tm lh ld lf (⟨fr,l1,l2⟩ :: as)) (upd (upd X3 fr (.dK (frT ((i:Int) + 1) (.ref t) l1 l2))) lf (.lst ((as.reverse.map fun a=>V.ref a.fr) ++ [.ref fr]))):=(gd.trans ((Go.new k4).trans (Go.at (by simp [Tm]) _))).to fun x m=>by
     unfold Tm at m
     simp only [List.mem_cons,List.flatMap_cons,List.mem_append,Fa.l,List.not_mem_nil,or_false] at m
     unfold Tm
     simp only [List.mem_cons]
     rcases m with m | m | m | (m | m | m) | m
     ·exact .inl (.inl m)
     ·exact .inl (.inr (.inl m))
     ·exact .inl (.inr (.inr (.inl m)))
     ·exact .inr (.inr (by rw [m];exact aq.free (sc.trans sd) hfr))
     ·exact .inr (.inr (by rw [m];exact aq.free ((sc.trans sd).trans s1) hl1))
     ·exact .inr (.inr (by rw [m];exact aq.free (((sc.trans sd).trans s1).trans s2) hl2))
     ·exact .inl (.inr (.inr (.inr m)))
    cases st with
    | cons h1 h2 =>
     cases h1 with
     | opn b=>exact ⟨_,_,_,_,_,_,rfl,il,g4,T4 _ _ _ rfl,h2⟩
     | els=>cases c'
     | fin1 b=>cases c'
     | fin0 b=>cases c'
     | head b=>exact (kr b c').elim
     | row b=>exact (kr b c').elim
   ·have c':r.wg=false:=by
     rw [<- zd]
     exact Bool.eq_false_iff.mpr c
    clear c
    rcases gQ hr' with ⟨hb,il⟩ | ⟨ie,rfl⟩
    ·have ed':body.drop i=r :: body.drop (i + 1):=by rw [List.drop_eq_getElem_cons il,(List.getElem?_eq_some_iff.mp hb).2]
     rw [ed'] at st
     cases st with
     | cons h1 h2 =>
      cases h1 with
      | opn b=>rw [b] at c';cases c'
      | els =>
       rename_i h d f fs
       have fr:=Td.fr
       cases as with
       | nil=>cases fr
       | cons a as =>
       cases fr with
       | cons fa fr =>
       obtain ⟨v,xf,xo,q1,q2,q3,q4,q5,q6⟩:=fa
       have lst:atI ((a :: as).reverse.map fun a=>V.ref a.fr) (-1)=some (.ref a.fr):=by
        rw [List.reverse_cons,List.map_append]
        exact nN _ _
       obtain ⟨n1,n2,n3,n4,n5⟩:=tm3 Td.nd
       have imf:a.fr ∈ (a :: as).flatMap Fa.l:=gK List.mem_cons_self (by simp [Fa.l])
       obtain ⟨k1,k2,k3⟩:=n4 _ imf
       refine ⟨rfl,_,rfl,aI (fun _=>?_) (fun z=>absurd rfl (cq z))⟩
       refine ah fun N1 J1=>?_
       refine ⟨_,rfl,Or.inl ⟨_,_,Or.inl (SqL.of Td.hf),lst,_,aN.k (k:=.inr "rows") q1,_,rfl,Or.inl ⟨_,_,Or.inl (SqL.of Td.hf),lst,_,cZ.k (k:=.inr "first") q1 (show 4 < sizeLine by decide),J1 _ _ ?_⟩⟩⟩
       clear J1 N1
       rw [show putK (frT f.n v a.lf a.lr) (.inr "first") (.ref a.lr)=frT f.n v a.lr a.lr from rfl]
       have hf1:=af (u:=.dK (frT f.n v a.lr a.lr)) k3.symm Td.hf
       refine ⟨Nat.zero_le _,fun l hl=>?_⟩
       have lfr:l ≠ a.fr:=fresh_ne hl ak
       have l0:Hd l=none:=by rw [aw lfr] at hl;exact hl
       have llf:l ≠ lf:=fresh_ne l0 Td.hf
       refine ⟨_,rfl,Or.inl ⟨_,_,Or.inl (SqL.of (af llf.symm hf1)),lst,_,cZ.k (k:=.inr "rows") (af lfr.symm ak) (show 4 < sizeLine by decide),?_⟩⟩
       rw [show putK (frT f.n v a.lr a.lr) (.inr "rows") (.ref l)=frT f.n v a.lr l from rfl]
       obtain ⟨T5,g5⟩:=Td.els (H3:=upd (upd (upd Hd a.fr (.dK (frT f.n v a.lr a.lr))) l (.lst [])) a.fr (.dK (frT f.n v a.lr l))) q2 q4 q6 l0 (fun x o h e=>af h (af (fun z=>by rw [z,l0] at e;cases e) (af h e))) ak (af lfr ak)
       exact ⟨_,_,_,_,_,_,rfl,il,gd.trans g5,T5,h2⟩
      | fin1 b =>
       rename_i h d f g fs
       have fr:=Td.fr
       cases as with
       | nil=>cases fr
       | cons a as =>
       cases as with
       | nil=>cases fr with | cons _ fr=>cases fr
       | cons a2 as =>
       obtain ⟨Tp,v,xf,xo,q1,q2,q3,q4,q5,q6⟩:=Td.pop
       have dl:((a :: a2 :: as).reverse.map fun a=>V.ref a.fr).dropLast=(a2 :: as).reverse.map fun a=>V.ref a.fr:=by
        rw [List.reverse_cons,List.map_append]
        exact List.dropLast_concat
       refine ⟨rfl,_,rfl,aI (fun z=>absurd (aJ z) (show ¬ ("end":Str)="else" by decide)) (fun _=>?_)⟩
       refine ⟨rfl,_,rfl,aI (fun _=>?_) (fun z=>absurd rfl (cq z))⟩
       refine ah fun N1 J1=>?_
       refine ⟨Or.inl ⟨rfl,_,SqL.of Td.hf⟩,_,_,.ref a.fr,rfl,rfl,Td.hf,(by rw [List.reverse_cons,List.map_append];exact q0 _ _),J1 _ _ ?_⟩
       clear J1 N1
       rw [dl]
       have alp:∀m ∈ Tm lh ld lf (a :: a2 :: as),upd Hd lf (.lst ((a2 :: as).reverse.map fun a=>V.ref a.fr)) m ≠ none:=fun m hm e=>by
        by_cases z:m=lf
        ·rw [z,ak] at e;cases e
        ·rw [aw z] at e;exact Td.al m hm e
       have gp:Go [] H (Tm lh ld lf (a :: a2 :: as)) (upd Hd lf (.lst ((a2 :: as).reverse.map fun a=>V.ref a.fr))):=gd.trans (Go.at (by simp [Tm]) _)
       generalize upd Hd lf (.lst ((a2 :: as).reverse.map fun a=>V.ref a.fr))=Hp at Tp q1 q2 q3 q4 q5 q6 alp gp ⊢
       obtain ⟨t',xs',rfl,et'⟩:=xE q2
       try dsimp only
       refine ah fun N1 J1=>?_
       refine ⟨_,aN.k (k:=.inr "row") q1,Or.inl ⟨_,_,Or.inr (SqT.of (bg et').2),aB (j:=0) rfl,rfl,_,rfl,aI (fun z=>absurd (aJ z) (zh b)) (fun _=>J1 _ _ ?_)⟩⟩
       clear J1 N1
       try dsimp only
       refine ah fun N1 J1=>J1 _ _ ?_
       clear J1 N1
       try dsimp only
       refine ah fun N1 J1=>?_
       refine Or.inl ⟨_,_,rfl,Or.inl ⟨_,SqL.of Tp.hf,rfl⟩,_,rfl,aI (fun _=>?_) (fun z=>absurd (decide_eq_true (by simp)) z)⟩
       have lst:atI ((a2 :: as).reverse.map fun a=>V.ref a.fr) (-1)=some (.ref a2.fr):=by
        rw [List.reverse_cons,List.map_append]
        exact nN _ _
       have fr2:=Tp.fr
       cases fr2 with
       | cons fa fr2 =>
       obtain ⟨v',xf',xo',y1,y2,y3,y4,y5,y6⟩:=fa
       refine ⟨_,rfl,Or.inl ⟨_,_,Or.inl (SqL.of Tp.hf),lst,_,aN.k (k:=.inr "rows") y1,J1 _ _ ?_⟩⟩
       clear J1 N1
       try dsimp only
       refine ⟨Or.inl ⟨rfl,_,SqL.of y4⟩,N,Tm lh ld lf (a :: a2 :: as),a.fr,a.lf,a.lr,f.n,.ref t',f.op,xf,xo,f.fst,f.rows,rfl,q1,q2,b,alp,q3,q4,q5,q6,fun ra Hq sq h0 hp=>?_⟩
       have Tq:=Tp.same sq
       have ly:xo'.length <= 1000:=by
        have:=aE.len y6
        have:=Tp.bd.2.2.2 g List.mem_cons_self
        omega
       refine ⟨_,_,_,rfl,rfl,sq _ _ y4,aD ly,?_⟩
       have T6:=Tq.zm (sq _ _ y4) (cE.same (fun x o e=>aV (fun m=>(bg e).1 (nr m)) (bg e).2) _ _ hp)
       have g6:Go [] H (Tm lh ld lf (a2 :: as)) (upd Hq a2.lr (.lst (xo' ++ [.ref ra]))):=(((gp.to fun x m=>.inl (nr m)).trans (Go.new sq)).trans (Go.at (by unfold Tm;simp only [List.mem_cons];exact .inr (.inr (.inr (gK List.mem_cons_self (by simp [Fa.l]))))) _))
       exact ⟨_,_,_,_,_,_,rfl,il,g6,T6,h2⟩
      | fin0 b =>
       rename_i h d f
       have fr:=Td.fr
       cases as with
       | nil=>cases fr
       | cons a as =>
       cases as with
       | cons a2 as=>cases fr with | cons _ fr=>cases fr
       | nil =>
       obtain ⟨Tp,v,xf,xo,q1,q2,q3,q4,q5,q6⟩:=Td.pop
       refine ⟨rfl,_,rfl,aI (fun z=>absurd (aJ z) (show ¬ ("end":Str)="else" by decide)) (fun _=>?_)⟩
       refine ⟨rfl,_,rfl,aI (fun _=>?_) (fun z=>absurd rfl (cq z))⟩
       refine ah fun N1 J1=>?_
       refine ⟨Or.inl ⟨rfl,_,SqL.of Td.hf⟩,_,_,.ref a.fr,rfl,rfl,Td.hf,rfl,J1 _ _ ?_⟩
       clear J1 N1
       rw [show (([a].reverse.map fun a=>V.ref a.fr).dropLast)=([]:List Fa).reverse.map fun a=>V.ref a.fr from rfl]
       have alp:∀m ∈ Tm lh ld lf [a],upd Hd lf (.lst (([]:List Fa).reverse.map fun a=>V.ref a.fr)) m ≠ none:=fun m hm e=>by
        by_cases z:m=lf
        ·rw [z,ak] at e;cases e
        ·rw [aw z] at e;exact Td.al m hm e
       have gp:Go [] H (Tm lh ld lf [a]) (upd Hd lf (.lst (([]:List Fa).reverse.map fun a=>V.ref a.fr))):=gd.trans (Go.at (by simp [Tm]) _)
       generalize upd Hd lf (.lst (([]:List Fa).reverse.map fun a=>V.ref a.fr))=Hp at Tp q1 q2 q3 q4 q5 q6 alp gp ⊢
       obtain ⟨t',xs',rfl,et'⟩:=xE q2
       try dsimp only
       refine ah fun N1 J1=>?_
       refine ⟨_,aN.k (k:=.inr "row") q1,Or.inl ⟨_,_,Or.inr (SqT.of (bg et').2),aB (j:=0) rfl,rfl,_,rfl,aI (fun z=>absurd (aJ z) (zh b)) (fun _=>J1 _ _ ?_)⟩⟩
       clear J1 N1
       try dsimp only
       refine ah fun N1 J1=>J1 _ _ ?_
       clear J1 N1
       try dsimp only
       refine ah fun N1 J1=>?_
       refine Or.inl ⟨_,_,rfl,Or.inl ⟨_,SqL.of Tp.hf,rfl⟩,_,rfl,aI (fun z=>absurd (of_decide_eq_true z) (by simp)) (fun _=>J1 _ _ ?_)⟩
       clear J1 N1
       try dsimp only
       obtain ⟨xd,ed1,pd⟩:=Tp.hd
       refine ⟨Or.inl ⟨rfl,_,SqL.of ed1⟩,N,Tm lh ld lf [a],a.fr,a.lf,a.lr,f.n,.ref t',f.op,xf,xo,f.fst,f.rows,rfl,q1,q2,b,alp,q3,q4,q5,q6,fun ra Hq sq h0 hp=>?_⟩
       have Tq:=Tp.same sq
       have ly:xd.length <= 1000:=by
        have h1:=aE.len pd
        have h2:=Tp.bd.2.1
        rw [h1]
        exact Nat.le_trans h2 (by omega)
       refine ⟨_,_,_,rfl,rfl,sq _ _ ed1,aD ly,?_⟩
       have T6:=Tq.Bg (sq _ _ ed1) (cE.same (fun x o e=>aV (fun m=>(bg e).1 (nr m)) (bg e).2) _ _ hp)
       have g6:Go [] H (Tm lh ld lf []) (upd Hq ld (.lst (xd ++ [.ref ra]))):=(((gp.to fun x m=>.inl (nr m)).trans (Go.new sq)).trans (Go.at (by simp [Tm]) _))
       exact ⟨_,_,_,_,_,_,rfl,il,g6,T6,h2⟩
      | head b =>
       rename_i h d
       have fr:=Td.fr
       cases as with
       | cons a as=>cases fr
       | nil =>
       obtain ⟨w1,w2⟩:=xW b
       refine ⟨rfl,_,rfl,aI (fun z=>absurd (aJ z) w1) (fun _=>?_)⟩
       refine ⟨rfl,_,rfl,aI (fun z=>absurd (aJ z) w2) (fun _=>?_)⟩
       refine Or.inl ⟨_,_,rfl,Or.inl ⟨_,SqL.of Td.hf,rfl⟩,rfl,_,rfl,aI (fun _=>?_) (fun z=>absurd (decide_eq_true rfl) z)⟩
       obtain ⟨xd,ed1,pd⟩:=Td.hh
       refine ⟨Or.inl ⟨rfl,_,SqL.of ed1⟩,Or.inl ⟨_,_,Or.inl (ai' _ sd),ai,N,Tm lh ld lf [],_,_,r,rfl,lad,b,Td.al,fun ra Hq sq h0 hp=>?_⟩⟩
       have Tq:=Td.same sq
       have ly:xd.length <= 1000:=by
        have h1:=aE.len pd
        have h2:=Td.bd.1
        rw [h1]
        exact Nat.le_trans h2 (by omega)
       refine ⟨_,_,_,rfl,rfl,sq _ _ ed1,aD ly,?_⟩
       rw [Int.zero_add] at hp
       have T6:=Tq.Cw (sq _ _ ed1) (p:=.leaf ((i:Int) + 1) r) (by unfold cE;exact hp)
       have g6:Go [] H (Tm lh ld lf []) (upd Hq lh (.lst (xd ++ [.ref ra]))):=((gd.trans (Go.new sq)).trans (Go.at (by simp [Tm]) _))
       exact ⟨_,_,_,_,_,_,rfl,il,g6,T6,h2⟩
      | row b =>
       rename_i h d f fs
       have fr:=Td.fr
       cases as with
       | nil=>cases fr
       | cons a as =>
       cases fr with
       | cons fa fr =>
       obtain ⟨v,xf,xo,q1,q2,q3,q4,q5,q6⟩:=fa
       have lst:atI ((a :: as).reverse.map fun a=>V.ref a.fr) (-1)=some (.ref a.fr):=by
        rw [List.reverse_cons,List.map_append]
        exact nN _ _
       obtain ⟨w1,w2⟩:=xW b
       refine ⟨rfl,_,rfl,aI (fun z=>absurd (aJ z) w1) (fun _=>?_)⟩
       refine ⟨rfl,_,rfl,aI (fun z=>absurd (aJ z) w2) (fun _=>?_)⟩
       refine Or.inl ⟨_,_,rfl,Or.inl ⟨_,SqL.of Td.hf,rfl⟩,rfl,_,rfl,aI (fun z=>absurd (of_decide_eq_true z) (fun y=>by have:=V.int.inj y;simp at this;omega)) (fun _=>?_)⟩
       refine ⟨_,rfl,Or.inl ⟨_,_,Or.inl (SqL.of Td.hf),lst,_,aN.k (k:=.inr "rows") q1,Or.inl ⟨rfl,_,SqL.of q4⟩,Or.inl ⟨_,_,Or.inl (ai' _ sd),ai,N,Tm lh ld lf (a :: as),_,_,r,rfl,lad,b,Td.al,fun ra Hq sq h0 hp=>?_⟩⟩⟩
       have Tq:=Td.same sq
       have ly:xo.length <= 1000:=by
        have h1:=aE.len q6
        have h2:=Td.bd.2.2.2 f List.mem_cons_self
        omega
       refine ⟨_,_,_,rfl,rfl,sq _ _ q4,aD ly,?_⟩
       rw [Int.zero_add] at hp
       have T6:=Tq.zm (sq _ _ q4) (p:=.leaf ((i:Int) + 1) r) (by unfold cE;exact hp)
       have g6:Go [] H (Tm lh ld lf (a :: as)) (upd Hq a.lr (.lst (xo ++ [.ref ra]))):=((gd.trans (Go.new sq)).trans (Go.at (by unfold Tm;simp only [List.mem_cons];exact .inr (.inr (.inr (gK List.mem_cons_self (by simp [Fa.l]))))) _))
       exact ⟨_,_,_,_,_,_,rfl,il,g6,T6,h2⟩
    ·rw [ie,List.drop_length] at st
     cases st
     have fr:=Td.fr
     cases as with
     | nil=>cases fr
     | cons a as =>
     cases as with
     | cons a2 as=>cases fr with | cons _ fr=>cases fr
     | nil =>
     obtain ⟨Tp,v,xf,xo,q1,q2,q3,q4,q5,q6⟩:=Td.pop
     refine ⟨rfl,_,rfl,aI (fun z=>absurd (aJ z) (show ¬ ("end":Str)="else" by decide)) (fun _=>?_)⟩
     refine ⟨rfl,_,rfl,aI (fun _=>?_) (fun z=>absurd rfl (cq z))⟩
     refine ah fun N1 J1=>?_
     refine ⟨Or.inl ⟨rfl,_,SqL.of Td.hf⟩,_,_,.ref a.fr,rfl,rfl,Td.hf,rfl,J1 _ _ ?_⟩
     clear J1 N1
     rw [show (([a].reverse.map fun a=>V.ref a.fr).dropLast)=([]:List Fa).reverse.map fun a=>V.ref a.fr from rfl]
     have gp:Go [] H (Tm lh ld lf [a]) (upd Hd lf (.lst (([]:List Fa).reverse.map fun a=>V.ref a.fr))):=gd.trans (Go.at (by simp [Tm]) _)
     generalize upd Hd lf (.lst (([]:List Fa).reverse.map fun a=>V.ref a.fr))=Hp at Tp q1 q2 q3 q4 q5 q6 gp ⊢
     obtain ⟨t',xs',rfl,et'⟩:=xE q2
     have sp:aq H Hp:=fun x o e=>gp.o x o (fun m=>by cases m) e
     obtain ⟨x1,h1,p1⟩:=Tp.hh
     obtain ⟨x2,h2,p2⟩:=Tp.hd
     try dsimp only
     refine ah fun N1 J1=>?_
     refine ⟨_,aN.k (k:=.inr "row") q1,Or.inl ⟨_,_,Or.inr (SqT.of (bg et').2),aB (j:=0) rfl,rfl,_,rfl,aI (fun _=>?_) (fun z=>absurd rfl (cq z))⟩⟩
     refine ⟨_,aN.k (k:=.inr "rows") q1,?_⟩
     refine fun r6 dx hr6 hd_ hne_=>rS (SqL.of h1) (SqL.of h2) (SqL.of q4) hr6 hd_ fun n6 n7 n8 H6 f6 f7 f8 s6 h6 h7 h8 hx=>⟨rfl,?_⟩
     have s6':∀{M:List Addr},aq (del M Hp) H6:=fun x o e=>s6 _ _ (bg e).2
     exact q _ H6 (sp.trans s6) ⟨r6,dx,n6,n7,n8,x1,x2,xo,rfl,hx,h6,h7,h8,aE.same s6' _ _ p1,aE.same s6' _ _ p2,aE.same s6' _ _ q6⟩
  ·rintro σ Hc ⟨as,z,v4,v5,v6,v7,rfl,ib,_⟩
   exact absurd ib (by rw [lr];omega)
end
section
variable {P:Program}{w:World}{K:W.Frag}{mg:Str->Option Value}{base:Heap}{A:Adr}{N:Nat->Str}
seal PE PA PS PSs PT PW
def Pt.no:Pt->Int
 | .leaf n _=>n
 | .iff n _ _ _ _ _=>n
 | .loop n _ _ _ _ _=>n
 | .deed n _ _ _=>n
def Lr.cl (A:Adr):Lr->Addr
 | .hand _ _=>A.bC
 | .giv _ _ _=>A.a8
 | .own _ _=>A.b7
 | .lt _ _=>A.bY
 | .set _ _=>A.b5
 | .put _ _ _=>A.bN
 | .snd _ _=>A.bx
 | .say _ _ _=>A.bM
 | .call _ _=>A.bz
 | _=>A.cH
def Pt.cl (A:Adr):Pt->Addr
 | .leaf _ r=>r.cl A
 | .iff _ _ _ _ _ _=>A.bH
 | .loop _ _ _ _ _ _=>A.aZ
 | .deed _ _ _ _=>A.bj
theorem r9 (T:Txt K mg A) (p:Pt):∃x up,dI K mg (p.cl A) x up:=by
 cases p with
 | leaf n r =>
  cases r with
  | hand _ _=>exact ⟨_,_,T.aY⟩
  | giv _ _ _=>exact ⟨_,_,T.bQ⟩
  | own _ _=>exact ⟨_,_,T.cP⟩
  | lt _ _=>exact ⟨_,_,T.bb⟩
  | set _ _=>exact ⟨_,_,T.cO⟩
  | put _ _ _=>exact ⟨_,_,T.cz⟩
  | snd _ _=>exact ⟨_,_,T.aX⟩
  | say _ _ _=>exact ⟨_,_,T.a9⟩
  | call _ _=>exact ⟨_,_,T.ck⟩
  | _=>exact ⟨_,_,T.cN⟩
 | iff _ _ _ _ _ _=>exact ⟨_,_,T.bo⟩
 | loop _ _ _ _ _ _=>exact ⟨_,_,T.aU⟩
 | deed _ _ _ _=>exact ⟨_,_,T.bT⟩
theorem A9 (T:Txt K mg A) (p:Pt):Cls K (p.cl A)/\aQ K (p.cl A) "number":=by
 cases p with
 | leaf n r =>
  cases r with
  | hand _ _=>exact ⟨T.aY.cl,T.dW⟩
  | giv _ _ _=>exact ⟨T.bQ.cl,T.dO⟩
  | own _ _=>exact ⟨T.cP.cl,T.eW⟩
  | lt _ _=>exact ⟨T.bb.cl,T.eK⟩
  | set _ _=>exact ⟨T.cO.cl,T.eP⟩
  | put _ _ _=>exact ⟨T.cz.cl,T.eO⟩
  | snd _ _=>exact ⟨T.aX.cl,T.c8⟩
  | say _ _ _=>exact ⟨T.a9.cl,T.du⟩
  | call _ _=>exact ⟨T.ck.cl,T.dX⟩
  | _=>exact ⟨T.cN.cl,T.dS⟩
 | iff _ _ _ _ _ _=>exact ⟨T.bo.cl,T.fF⟩
 | loop _ _ _ _ _ _=>exact ⟨T.aU.cl,T.dZ⟩
 | deed _ _ _ _=>exact ⟨T.bT.cl,T.dY⟩
theorem wN {X:Hp}{v:V}{p:Pt} (h:cE A N X v p):∃a dx fs,v=.ref a/\X a=some (.ins (p.cl A) dx (("number",.int p.no) :: fs)):=by
 cases p with
 | leaf n r =>
  unfold cE at h
  cases r with
  | hand _ _=>obtain ⟨a,dx,e,h1⟩:=h;exact ⟨a,dx,_,e,h1⟩
  | giv _ _ _=>obtain ⟨a,dx,e,h1⟩:=h;exact ⟨a,dx,_,e,h1⟩
  | own _ _=>obtain ⟨a,dx,e,h1⟩:=h;exact ⟨a,dx,_,e,h1⟩
  | lt _ _=>obtain ⟨a,dx,e,h1⟩:=h;exact ⟨a,dx,_,e,h1⟩
  | set _ _=>obtain ⟨a,dx,p,e,h1,h2⟩:=h;exact ⟨a,dx,_,e,h1⟩
  | put _ _ _=>obtain ⟨a,dx,p,e,h1,h2⟩:=h;exact ⟨a,dx,_,e,h1⟩
  | snd _ _=>obtain ⟨a,dx,p,e,h1,h2⟩:=h;exact ⟨a,dx,_,e,h1⟩
  | say _ _ _=>obtain ⟨a,dx,p,e,h1,h2⟩:=h;exact ⟨a,dx,_,e,h1⟩
  | call _ _=>obtain ⟨a,dx,p,e,h1,h2⟩:=h;exact ⟨a,dx,_,e,h1⟩
  | last =>obtain ⟨a,dx,e,h1⟩:=h;exact ⟨a,dx,_,e,h1⟩
  | _=>exact h.elim
 | iff n val l r f o =>
  unfold cE at h
  obtain ⟨a,dx,p,pf,po,xf,xo,e,h1,_⟩:=h
  exact ⟨a,dx,_,e,h1⟩
 | loop n t m l r b =>
  unfold cE at h
  obtain ⟨a,dx,pb,xb,e,h1,_⟩:=h
  exact ⟨a,dx,_,e,h1⟩
 | deed n i ps b =>
  unfold cE at h
  obtain ⟨a,dx,pp,pb,xb,e,h1,_⟩:=h
  exact ⟨a,dx,_,e,h1⟩
def Pt.isIf:Pt->Bool
 | .iff _ _ _ _ _ _=>true
 | _=>false
theorem xy (T:Txt K mg A) (p:Pt):W.kitOne K (.ref (p.cl A)) (.ref A.bH)=some p.isIf:=by
 cases p with
 | leaf n r =>
  cases r with
  | hand _ _=>exact (bw T.aY T.bo (ar T 11 1) (ar T 11 0))
  | giv _ _ _=>exact (bw T.bQ T.bo (ar T 11 2) (ar T 11 0))
  | own _ _=>exact (bw T.cP T.bo (ar T 11 3) (ar T 11 0))
  | lt _ _=>exact (bw T.bb T.bo (ar T 11 4) (ar T 11 0))
  | set _ _=>exact (bw T.cO T.bo (ar T 11 5) (ar T 11 0))
  | put _ _ _=>exact (bw T.cz T.bo (ar T 11 6) (ar T 11 0))
  | snd _ _=>exact (bw T.aX T.bo (ar T 11 7) (ar T 11 0))
  | say _ _ _=>exact (bw T.a9 T.bo (ar T 11 8) (ar T 11 0))
  | call _ _=>exact (bw T.ck T.bo (ar T 11 9) (ar T 11 0))
  | _=>exact (bw T.cN T.bo (ar T 11 10) (ar T 11 0))
 | iff _ _ _ _ _ _=>exact sI T.bo
 | loop _ _ _ _ _ _=>exact (bw T.aU T.bo (ar T 11 12) (ar T 11 0))
 | deed _ _ _ _=>exact (bw T.bT T.bo (ar T 11 13) (ar T 11 0))
def Pt.AJ:Pt->Bool
 | .loop _ _ _ _ _ _=>true
 | _=>false
theorem nq (T:Txt K mg A) (p:Pt):W.kitOne K (.ref (p.cl A)) (.ref A.aZ)=some p.AJ:=by
 cases p with
 | leaf n r =>
  cases r with
  | hand _ _=>exact (bw T.aY T.aU (ar T 12 1) (ar T 12 0))
  | giv _ _ _=>exact (bw T.bQ T.aU (ar T 12 2) (ar T 12 0))
  | own _ _=>exact (bw T.cP T.aU (ar T 12 3) (ar T 12 0))
  | lt _ _=>exact (bw T.bb T.aU (ar T 12 4) (ar T 12 0))
  | set _ _=>exact (bw T.cO T.aU (ar T 12 5) (ar T 12 0))
  | put _ _ _=>exact (bw T.cz T.aU (ar T 12 6) (ar T 12 0))
  | snd _ _=>exact (bw T.aX T.aU (ar T 12 7) (ar T 12 0))
  | say _ _ _=>exact (bw T.a9 T.aU (ar T 12 8) (ar T 12 0))
  | call _ _=>exact (bw T.ck T.aU (ar T 12 9) (ar T 12 0))
  | _=>exact (bw T.cN T.aU (ar T 12 10) (ar T 12 0))
 | iff _ _ _ _ _ _=>exact (bw T.bo T.aU (ar T 12 11) (ar T 12 0))
 | loop _ _ _ _ _ _=>exact sI T.aU
 | deed _ _ _ _=>exact (bw T.bT T.aU (ar T 12 13) (ar T 12 0))
def Pt.vN:Pt->Bool
 | .leaf _ (.snd _ _)=>true
 | _=>false
theorem sO (T:Txt K mg A) (p:Pt):W.kitOne K (.ref (p.cl A)) (.ref A.bx)=some p.vN:=by
 cases p with
 | leaf n r =>
  cases r with
  | hand _ _=>exact (bw T.aY T.aX (ar T 7 1) (ar T 7 0))
  | giv _ _ _=>exact (bw T.bQ T.aX (ar T 7 2) (ar T 7 0))
  | own _ _=>exact (bw T.cP T.aX (ar T 7 3) (ar T 7 0))
  | lt _ _=>exact (bw T.bb T.aX (ar T 7 4) (ar T 7 0))
  | set _ _=>exact (bw T.cO T.aX (ar T 7 5) (ar T 7 0))
  | put _ _ _=>exact (bw T.cz T.aX (ar T 7 6) (ar T 7 0))
  | snd _ _=>exact sI T.aX
  | say _ _ _=>exact (bw T.a9 T.aX (ar T 7 8) (ar T 7 0))
  | call _ _=>exact (bw T.ck T.aX (ar T 7 9) (ar T 7 0))
  | _=>exact (bw T.cN T.aX (ar T 7 10) (ar T 7 0))
 | iff _ _ _ _ _ _=>exact (bw T.bo T.aX (ar T 7 11) (ar T 7 0))
 | loop _ _ _ _ _ _=>exact (bw T.aU T.aX (ar T 7 12) (ar T 7 0))
 | deed _ _ _ _=>exact (bw T.bT T.aX (ar T 7 13) (ar T 7 0))
def Pt.ze:Pt->Bool
 | .leaf _ (.say _ _ _)=>true
 | _=>false
theorem vf (T:Txt K mg A) (p:Pt):W.kitOne K (.ref (p.cl A)) (.ref A.bM)=some p.ze:=by
 cases p with
 | leaf n r =>
  cases r with
  | hand _ _=>exact (bw T.aY T.a9 (ar T 8 1) (ar T 8 0))
  | giv _ _ _=>exact (bw T.bQ T.a9 (ar T 8 2) (ar T 8 0))
  | own _ _=>exact (bw T.cP T.a9 (ar T 8 3) (ar T 8 0))
  | lt _ _=>exact (bw T.bb T.a9 (ar T 8 4) (ar T 8 0))
  | set _ _=>exact (bw T.cO T.a9 (ar T 8 5) (ar T 8 0))
  | put _ _ _=>exact (bw T.cz T.a9 (ar T 8 6) (ar T 8 0))
  | snd _ _=>exact (bw T.aX T.a9 (ar T 8 7) (ar T 8 0))
  | say _ _ _=>exact sI T.a9
  | call _ _=>exact (bw T.ck T.a9 (ar T 8 9) (ar T 8 0))
  | _=>exact (bw T.cN T.a9 (ar T 8 10) (ar T 8 0))
 | iff _ _ _ _ _ _=>exact (bw T.bo T.a9 (ar T 8 11) (ar T 8 0))
 | loop _ _ _ _ _ _=>exact (bw T.aU T.a9 (ar T 8 12) (ar T 8 0))
 | deed _ _ _ _=>exact (bw T.bT T.a9 (ar T 8 13) (ar T 8 0))
def Pt.AI:Pt->Bool
 | .leaf _ (.hand _ _)=>true
 | _=>false
theorem rV (T:Txt K mg A) (p:Pt):W.kitOne K (.ref (p.cl A)) (.ref A.bC)=some p.AI:=by
 cases p with
 | leaf n r =>
  cases r with
  | hand _ _=>exact sI T.aY
  | giv _ _ _=>exact (bw T.bQ T.aY (ar T 1 2) (ar T 1 0))
  | own _ _=>exact (bw T.cP T.aY (ar T 1 3) (ar T 1 0))
  | lt _ _=>exact (bw T.bb T.aY (ar T 1 4) (ar T 1 0))
  | set _ _=>exact (bw T.cO T.aY (ar T 1 5) (ar T 1 0))
  | put _ _ _=>exact (bw T.cz T.aY (ar T 1 6) (ar T 1 0))
  | snd _ _=>exact (bw T.aX T.aY (ar T 1 7) (ar T 1 0))
  | say _ _ _=>exact (bw T.a9 T.aY (ar T 1 8) (ar T 1 0))
  | call _ _=>exact (bw T.ck T.aY (ar T 1 9) (ar T 1 0))
  | _=>exact (bw T.cN T.aY (ar T 1 10) (ar T 1 0))
 | iff _ _ _ _ _ _=>exact (bw T.bo T.aY (ar T 1 11) (ar T 1 0))
 | loop _ _ _ _ _ _=>exact (bw T.aU T.aY (ar T 1 12) (ar T 1 0))
 | deed _ _ _ _=>exact (bw T.bT T.aY (ar T 1 13) (ar T 1 0))
def Pt.isLet:Pt->Bool
 | .leaf _ (.lt _ _)=>true
 | _=>false
theorem vC (T:Txt K mg A) (p:Pt):W.kitOne K (.ref (p.cl A)) (.ref A.bY)=some p.isLet:=by
 cases p with
 | leaf n r =>
  cases r with
  | hand _ _=>exact (bw T.aY T.bb (ar T 4 1) (ar T 4 0))
  | giv _ _ _=>exact (bw T.bQ T.bb (ar T 4 2) (ar T 4 0))
  | own _ _=>exact (bw T.cP T.bb (ar T 4 3) (ar T 4 0))
  | lt _ _=>exact sI T.bb
  | set _ _=>exact (bw T.cO T.bb (ar T 4 5) (ar T 4 0))
  | put _ _ _=>exact (bw T.cz T.bb (ar T 4 6) (ar T 4 0))
  | snd _ _=>exact (bw T.aX T.bb (ar T 4 7) (ar T 4 0))
  | say _ _ _=>exact (bw T.a9 T.bb (ar T 4 8) (ar T 4 0))
  | call _ _=>exact (bw T.ck T.bb (ar T 4 9) (ar T 4 0))
  | _=>exact (bw T.cN T.bb (ar T 4 10) (ar T 4 0))
 | iff _ _ _ _ _ _=>exact (bw T.bo T.bb (ar T 4 11) (ar T 4 0))
 | loop _ _ _ _ _ _=>exact (bw T.aU T.bb (ar T 4 12) (ar T 4 0))
 | deed _ _ _ _=>exact (bw T.bT T.bb (ar T 4 13) (ar T 4 0))
theorem uP:∀n:Fin 1001,((n.val:Int).natAbs.log2 < 1920)/\(Str.ofString (toString (n.val:Int))).length <= 20:=by decide +kernel
def w9:Sp:=fun vs H Q _=>∃(n:Int),vs=[.int n]/\0 <= n/\n <= 1000/\∀x:Str,Q (.str x) H
theorem yj (T:Txt K mg A):Has P w K mg base 1 "row_place" ["number"] w9:=by
 refine T.oM.has pQ (fun vs H Q E h=>?_) (fun f cdv A' outer s H vs Q E' hr hu h=>?_)
 ·obtain ⟨n,rfl,_⟩:=h
  rfl
 ·obtain ⟨n,rfl,h0,h1,q⟩:=h
  obtain ⟨n,rfl⟩:∃k:Nat,n=(k:Int):=⟨n.toNat,by omega⟩
  obtain ⟨k1,k2⟩:=uP ⟨n,by omega⟩
  refine ⟨_,(ao (aW (yR (uq aj (uq (zE (fv 0)) zG))))),?_⟩
  refine ⟨_,rfl,(by decide),Or.inl ⟨_,rfl,k1,_,rfl,?_⟩⟩
  have l:(Str.empty ++ ("row ":Str) ++ Str.ofString (toString (n:Int))).length <= sizeLine:=by
   rw [lW]
   exact Nat.le_trans (Nat.add_le_add_left k2 _) (by decide)
  exact ⟨l,l,q _⟩
end
section
variable {P:Program}{w:World}{K:W.Frag}{mg:Str->Option Value}{base:Heap}{A:Adr}{N:Nat->Str}
seal PE PA PS PSs PT PW
mutual
def dE:Pt->List Pt
 | .leaf _ _=>[]
 | .iff _ _ _ _ f o=>bB f ++ bB o
 | .loop _ _ _ _ _ b=>bB b
 | .deed _ _ _ _=>[]
def bB:List Pt->List Pt
 | []=>[]
 | t :: ts=>t :: (dE t ++ bB ts)
end
mutual
def dep:Pt->Nat
 | .leaf _ _=>0
 | .iff _ _ _ _ f o=>max (jL f) (jL o) + 1
 | .loop _ _ _ _ _ b=>jL b + 1
 | .deed _ _ _ b=>0
def jL:List Pt->Nat
 | []=>0
 | t :: ts=>max (dep t) (jL ts)
end
theorem qr {t:Pt}:∀{ts:List Pt},t ∈ ts->dep t <= jL ts
 | t' :: ts,m=>by
  unfold jL
  rcases List.mem_cons.mp m with rfl | m
  ·exact Nat.le_max_left _ _
  ·exact Nat.le_trans (qr m) (Nat.le_max_right _ _)
theorem kC:∀(a b:List Pt),bB (a ++ b)=bB a ++ bB b
 | [],b=>by simp [bB]
 | t :: a,b=>by
  have h1:bB (t :: (a ++ b))=t :: (dE t ++ bB (a ++ b)):=by rw [bB]
  have h2:bB (t :: a)=t :: (dE t ++ bB a):=by rw [bB]
  show bB (t :: (a ++ b))=_
  rw [h1,h2,kC a b]
  simp
theorem lC {ts:List Pt}{t:Pt}{i:Nat} (h:ts[i]?=some t):bB (ts.take (i + 1))=bB (ts.take i) ++ t :: dE t:=by
 rw [List.take_add_one,h,kC]
 show bB (ts.take i) ++ bB [t]=_
 rw [show bB [t]=t :: dE t by simp [bB]]
def Nb (ts:List Pt):Prop:=∀t ∈ ts,0 <= t.no/\t.no <= 1000
theorem AZ {ts:List Pt}{t:Pt} (h:Nb (bB ts)) (m:t ∈ ts):Nb (t :: dE t):=by
 obtain ⟨i,hi⟩:=List.getElem?_of_mem m
 have e:bB ts=bB (ts.take i) ++ (t :: dE t) ++ bB (ts.drop (i + 1)):=by
  rw [<- lC hi,<- kC,List.take_append_drop]
 exact fun x hx=>h x (by rw [e];exact List.mem_append_left _ (List.mem_append_right _ hx))
def Ly (A:Adr) (N:Nat->Str) (X H:Hp) (ys:List V) (ps:List Pt):Prop:=Paired (fun y p=>∃tp v pl lo,y=V.ref tp/\H tp=some (.tup [v,pl,lo])/\cE A N X v p) ys ps
theorem Ly.same {X H H':Hp} (s:∀x w,H x=some (.tup w)->H' x=some (.tup w)) {ys:List V}{ps:List Pt} (h:Ly A N X H ys ps):Ly A N X H' ys ps:=Paired.dC h fun _ _ ⟨tp,v,pl,lo,e,h1,h2⟩=>⟨tp,v,pl,lo,e,s _ _ h1,h2⟩
def qb (A:Adr) (d:Nat):Sp:=fun vs H Q _=>∃(N:Nat->Str) (X:Hp) (L:Addr) (xs:List V) (pl lo:V) (ts:List Pt),vs=[.ref L,pl,lo]/\aq X H/\X L=some (.lst xs)/\aE A N X xs ts/\jL ts <= d/\Nb (bB ts)/\(bB ts).length <= 900 /\
 ∀(R:Addr) (ys:List V) (H':Hp),aq H H'->H R=none->H' R=some (.lst ys)->Ly A N X H' ys (bB ts)->Q (.ref R) H'
def oU (A:Adr) (d:Nat):Sp:=fun vs H Q _=>∃(N:Nat->Str) (X:Hp) (v lo:V) (t:Pt),vs=[v,lo]/\aq X H/\cE A N X v t/\dep t <= d/\Nb (t :: dE t)/\(dE t).length <= 900 /\
 ∀(R:Addr) (ys:List V) (H':Hp),aq H H'->H R=none->H' R=some (.lst ys)->Ly A N X H' ys (dE t)->Q (.ref R) H'
def wu (A:Adr):Nat->Sp
 | 0=>fun _ _ _ _=>False
 | d + 1=>qb A d
theorem uv (T:Txt K mg A) (d j:Nat) (D_laid_inside:Has P w K mg base j "laid_inside" ["row","loop"] (oU A d)):Has P w K mg base (j + 1) "laid_rows" ["rows","place","loop"] (qb A d):=by
 refine T.lO.has (k:=j) fk (fun vs H Q E h=>?_) (fun f cdv A' outer s H vs Q E' hr hu h=>?_)
 ·obtain ⟨N,X,L,xs,pl,lo,ts,rfl,_⟩:=h
  rfl
 ·obtain ⟨N,X,L,xs,pl,lo,ts,rfl,s0,hL,pt,dp,nb,ln,q⟩:=h
  refine ⟨_,(ae (ay (i:=3) fk.nd rfl (Or.inl rfl) (bD ag))
  (ae (d5 PassesOwn.never rfl (dG (fv 0)) (pgn (i:=4) fk.nd rfl)
   (ae (aL (bW (fv 3) (aa (bf (aa (fv 4) (aa (fv 1) (aa (fv 2) ag)))) ag)))
   (ao (aL (qM (fv 3) (aa (au (hj:=by omega) D_laid_inside hr (aa (fv 4) (aa (fv 2) ag))) ag))))))
  (ao (aW (fv 3))))),?_⟩
  refine ah fun M1 K1=>?_
  refine ⟨Nat.zero_le _,fun R hR=>K1 _ _ ?_⟩
  obtain ⟨s1,e1⟩:=alc hR (HO.lst [])
  generalize upd H R _=H1 at s1 e1 ⊢
  clear K1 M1
  try dsimp only
  refine ah fun M1 K1=>?_
  refine Or.inl ⟨⟨_,SqL.of ((s0.trans s1) _ _ hL)⟩,dM (K:=K) (xs:=xs) (fun i σ Hc=>∃(ys:List V) (v4:Option V),σ=[some (.ref L),some pl,some lo,some (.ref R),v4]/\aq H Hc/\Hc R=some (.lst ys)/\Ly A N X Hc ys (bB (ts.take i))) ⟨[],none,rfl,s1,e1,by rw [show bB (ts.take 0)=[] by show bB []=[];rw [bB]];exact .nil⟩ (fun i σ Hc _ ⟨_,_,_,z,_⟩=>SqL.of ((s0.trans z) _ _ hL)) ?_ ?_⟩
  ·rintro i v σ Hc hv ⟨ys,v4,rfl,sc,hRc,ly⟩
   obtain ⟨t,ht,pa⟩:=pt.get hv
   have mt:t ∈ ts:=List.mem_of_getElem? ht
   have le:(bB (ts.take i)).length + (1 + (dE t).length) <= 900:=by
    have e:bB ts=bB (ts.take i) ++ (t :: dE t) ++ bB (ts.drop (i + 1)):=by
     rw [<- lC ht,<- kC,List.take_append_drop]
    rw [e] at ln
    simp at ln
    omega
   have lly:=Paired.length ly
   try dsimp only
   refine ah fun N1 J1=>?_
   refine ⟨Or.inl ⟨rfl,_,SqL.of hRc⟩,by show 3 <= sizeLine;decide,fun tp htp=>?_⟩
   have tpR:tp ≠ R:=fresh_ne htp hRc
   refine ⟨_,_,_,rfl,rfl,af tpR.symm hRc,aD (by omega),J1 _ _ ?_⟩
   clear J1 N1
   have s2:aq H (upd (upd Hc tp (.tup [v,pl,lo])) R (.lst (ys ++ [.ref tp]))):=aq.out (sc.trans (aq.upd htp _)) hR _
   have e2:upd (upd Hc tp (.tup [v,pl,lo])) R (.lst (ys ++ [.ref tp])) R=some (.lst (ys ++ [.ref tp])):=ak
   have l2:Ly A N X (upd (upd Hc tp (.tup [v,pl,lo])) R (.lst (ys ++ [.ref tp]))) (ys ++ [.ref tp]) (bB (ts.take i) ++ [t]):=by
    refine Paired.snoc ⟨tp,v,pl,lo,rfl,af tpR ak,pa⟩ (ly.same fun x w e=>?_)
    exact af (fun y=>by rw [y,hRc] at e;cases e) (af (fun y=>by rw [y,htp] at e;cases e) e)
   generalize upd (upd Hc tp (.tup [v,pl,lo])) R (.lst (ys ++ [.ref tp]))=Hd at s2 e2 l2 ⊢
   try dsimp only
   refine ⟨Or.inl ⟨rfl,_,SqL.of e2⟩,N,X,v,lo,t,rfl,s0.trans s2,pa,Nat.le_trans (qr mt) dp,AZ nb mt,by omega,fun R2 zs He s3 hR2 eR2 l3=>?_⟩
   have lz:=Paired.length l3
   refine ⟨_,_,_,_,rfl,rfl,s3 _ _ e2,eR2,sz (by rw [List.length_append,lz,lly];simp;omega),?_⟩
   refine ⟨_,_,rfl,aq.out (s2.trans s3) hR _,ak,?_⟩
   rw [lC ht,show bB (ts.take i) ++ t :: dE t=bB (ts.take i) ++ [t] ++ dE t by simp]
   have dR:∀x w,He x=some (.tup w)->upd He R (.lst (ys ++ [.ref tp] ++ zs)) x=some (.tup w):=fun x w e=>af (fun y=>by rw [y,s3 _ _ e2] at e;cases e) e
   exact Paired.two (l2.same fun x w e=>dR x w (s3 _ _ e)) (l3.same dR)
  rintro σ Hc ⟨ys,v4,rfl,sc,hRc,ly⟩
  rw [show ts.take xs.length=ts by rw [pt.len];exact List.take_length] at ly
  refine K1 _ _ ?_
  exact q R ys Hc sc hR hRc ly
theorem oV (T:Txt K mg A) (d j:Nat) (D_laid_rows:Has P w K mg base (j + 1) "laid_rows" ["rows","place","loop"] (wu A d)):Has P w K mg base (j + 2) "laid_inside" ["row","loop"] (oU A d):=by
 have D_row_place:=yj (P:=P) (w:=w) (base:=base) T
 refine T.lT.has (k:=j + 1) i9 (fun vs H Q E h=>?_) (fun f cdv A' outer s H vs Q E' hr hu h=>?_)
 ·obtain ⟨N,X,v,lo,t,rfl,_⟩:=h
  rfl
 ·obtain ⟨N,X,v,lo,t,rfl,s0,pa,dp,nb,ln,q⟩:=h
  obtain ⟨a,dx,fs,rfl,ha⟩:=wN pa
  obtain ⟨c1,c2⟩:=A9 T t
  obtain ⟨x,up,ow⟩:=r9 T t
  have nt:=nb t List.mem_cons_self
  refine ⟨_,(ae (ay (i:=2) i9.nd rfl (Or.inl rfl) (au (hj:=by omega) D_row_place hr (aa (dA (fv 0) rfl) ag)))
  (ae (ba (cK (aH cW rfl T.bu (by boot_by_name) (aa (fv 0) (aa (jB T.bo.mg) ag))) (fun _=>rfl))
   (ao (aW (ax bp (au (hj:=by omega) D_laid_rows hr (aa (dA (fv 0) rfl) (aa (fv 2) (aa (fv 1) ag)))) (au (hj:=by omega) D_laid_rows hr (aa (dA (fv 0) rfl) (aa (fv 2) (aa (fv 1) ag)))))))
   aT)
  (ae (ba (cK (aH cW rfl T.bu (by boot_by_name) (aa (fv 0) (aa (jB T.aU.mg) ag))) (fun _=>rfl))
   (ao (aW (au (hj:=by omega) D_laid_rows hr (aa (dA (fv 0) rfl) (aa (fv 2) (aa (fv 2) ag))))))
   aT)
  (ao (aW (bD ag)))))),?_⟩
  refine ah fun M1 K1=>?_
  refine ⟨a,_,dx,_,_,rfl,s0 _ _ ha,c1,c2,rfl,t.no,rfl,nt.1,nt.2,fun here=>K1 _ _ ?_⟩
  clear K1 M1
  try dsimp only
  refine ah fun M1 K1=>?_
  refine ⟨_,_,_,t.isIf,rfl,(fun z=>by cases z),ow.vo (s0 _ _ ha),xy T t,t.isIf,rfl,?_⟩
  cases t with
  | iff n val l r f o =>
   refine gU ?_
   unfold cE at pa
   obtain ⟨a',dx',p,pf,po,xf,xo,ea,h1,h2,h3,h4,h5,h6⟩:=pa
   cases ea
   unfold dep at dp
   cases d with
   | zero=>omega
   | succ d =>
   unfold dE at nb ln q
   have nf:Nb (bB f):=fun y hy=>nb y (List.mem_cons_of_mem _ (List.mem_append_left _ hy))
   have no:Nb (bB o):=fun y hy=>nb y (List.mem_cons_of_mem _ (List.mem_append_right _ hy))
   rw [List.length_append] at ln
   refine ⟨a,_,dx',_,_,rfl,s0 _ _ h1,T.bo.cl,T.gJ,rfl,?_⟩
   refine ⟨N,X,pf,xf,_,_,f,rfl,s0,h3,h5,by omega,nf,by omega,fun R1 y1 H1 s1 n1 e1 l1=>?_⟩
   refine ⟨a,_,dx',_,_,rfl,(s0.trans s1) _ _ h1,T.bo.cl,T.f9,rfl,?_⟩
   refine ⟨N,X,po,xo,_,_,o,rfl,s0.trans s1,h4,h6,by omega,no,by omega,fun R2 y2 H2 s2 n2 e2 l2=>?_⟩
   have z1:=Paired.length l1
   have z2:=Paired.length l2
   refine ⟨R1,R2,_,_,rfl,rfl,s2 _ _ e1,e2,sz (by rw [z1,z2];omega),fun R hR=>?_⟩
   have s3:aq H2 (upd H2 R (.lst (y1 ++ y2))):=aq.upd hR _
   exact q R _ _ ((s1.trans s2).trans s3) (aq.free (s1.trans s2) hR) ak (Paired.two (l1.same fun x w e=>s3 _ _ (s2 _ _ e)) (l2.same fun x w e=>s3 _ _ e))
  | loop n t m l r b =>
   refine cS (K1 _ _ ?_)
   clear K1 M1
   try dsimp only
   refine ah fun M1 K1=>?_
   unfold cE at pa
   obtain ⟨a',dx',pb,xb,ea,h1,h2,h3⟩:=pa
   cases ea
   refine ⟨_,_,_,true,rfl,(fun z=>by cases z),T.aU.vo (s0 _ _ h1),sI T.aU,true,rfl,gU ?_⟩
   unfold dep at dp
   cases d with
   | zero=>omega
   | succ d =>
   unfold dE at nb ln q
   refine ⟨a,_,dx',_,_,rfl,s0 _ _ h1,T.aU.cl,T.ft,rfl,?_⟩
   exact ⟨N,X,pb,xb,_,_,b,rfl,s0,h2,h3,by omega,fun y hy=>nb y (List.mem_cons_of_mem _ hy),ln,fun R1 y1 H1 s1 n1 e1 l1=>q R1 y1 H1 s1 n1 e1 l1⟩
  | leaf n r =>
   refine cS (K1 _ _ ?_)
   clear K1 M1
   try dsimp only
   refine ah fun M1 K1=>?_
   refine ⟨_,_,_,false,rfl,(fun z=>by cases z),ow.vo (s0 _ _ ha),nq T (.leaf n r),false,rfl,cS (K1 _ _ ?_)⟩
   clear K1 M1
   refine ⟨Nat.zero_le _,fun R hR=>q R [] _ (aq.upd hR _) hR ak ?_⟩
   unfold dE
   exact .nil
  | deed n i ps b =>
   refine cS (K1 _ _ ?_)
   clear K1 M1
   try dsimp only
   refine ah fun M1 K1=>?_
   refine ⟨_,_,_,false,rfl,(fun z=>by cases z),ow.vo (s0 _ _ ha),nq T (.deed n i ps b),false,rfl,cS (K1 _ _ ?_)⟩
   clear K1 M1
   refine ⟨Nat.zero_le _,fun R hR=>q R [] _ (aq.upd hR _) hR ak ?_⟩
   unfold dE
   exact .nil
theorem wM (T:Txt K mg A):∀d,Has P w K mg base (2 * d + 3) "laid_rows" ["rows","place","loop"] (qb A d)
 | 0=>uv T 0 2 (oV T 0 0 (T.lO.has (k:=0) fk (fun _ _ _ _ h=>h.elim) (fun _ _ _ _ _ _ _ _ _ _ _ h=>h.elim)))
 | d + 1=>uv T (d + 1) (2 * d + 4) (oV T (d + 1) (2 * d + 2) (wM T d))
end
section
variable {P:Program}{w:World}{K:W.Frag}{mg:Str->Option Value}{base:Heap}{A:Adr}{N:Nat->Str}
seal PE PA PS PSs PT PW
def qZ:Pt->List Pt
 | .deed _ _ _ b=>b
 | _=>[]
def cR (ds:List Pt):List Pt:=ds.flatMap fun p=>bB (qZ p)
theorem mW {ts:List Pt}{t:Pt}{i:Nat} (h:ts[i]?=some t):cR (ts.take (i + 1))=cR (ts.take i) ++ bB (qZ t):=by
 unfold cR
 rw [List.take_add_one,h]
 simp
def sN:Pt->Prop
 | .deed _ _ _ _=>True
 | _=>False
def vZ (A:Adr) (d:Nat):Sp:=fun vs H Q _=>∃(N:Nat->Str) (X:Hp) (v:V) (hs ds ms:List Pt),vs=[v]/\aq X H/\rR A N X v hs ds ms/\(∀p ∈ ds,sN p/\jL (qZ p) <= d)/\jL ms <= d/\Nb (cR ds ++ bB ms)/\(cR ds ++ bB ms).length <= 900 /\
 ∀(R:Addr) (ys:List V) (H':Hp),aq H H'->H R=none->H' R=some (.lst ys)->Ly A N X H' ys (cR ds ++ bB ms)->Q (.ref R) H'
theorem x8 (T:Txt K mg A) (d:Nat):Has P w K mg base (2 * d + 4) "laid_program" ["program"] (vZ A d):=by
 have D_laid_rows:=wM (P:=P) (w:=w) (base:=base) T d
 refine T.kN.has (k:=2 * d + 3) eT (fun vs H Q E h=>?_) (fun f cdv A' outer s H vs Q E' hr hu h=>?_)
 ·obtain ⟨N,X,v,hs,ds,ms,rfl,_⟩:=h
  rfl
 ·obtain ⟨N,X,v,hs,ds,ms,rfl,s0,⟨a,dx,n0,n1,n2,x0,x1,x2,rfl,ha,e0,e1,e2,p0,p1,p2⟩,hd,dm,nb,ln,q⟩:=h
  rw [List.length_append] at ln
  refine ⟨_,(ae (ay (i:=1) eT.nd rfl (Or.inl rfl) (bD ag))
  (ae (d5 PassesOwn.never rfl (dG (dA (fv 0) rfl)) (pgn (i:=2) eT.nd rfl)
   (ao (aL (qM (fv 1) (aa (au (hj:=by omega) D_laid_rows hr (aa (dA (fv 2) rfl) (aa (dA (fv 2) rfl) (aa jf ag)))) ag)))))
  (ao (aW (ax bp (fv 1) (au (hj:=by omega) D_laid_rows hr (aa (dA (fv 0) rfl) (aa jf (aa jf ag))))))))),?_⟩
  refine ah fun M1 K1=>?_
  refine ⟨Nat.zero_le _,fun R hR=>K1 _ _ ?_⟩
  obtain ⟨s1,eR⟩:=alc hR (HO.lst [])
  generalize upd H R _=H1 at s1 eR ⊢
  clear K1 M1
  try dsimp only
  refine ah fun M1 K1=>?_
  refine ⟨a,_,dx,_,_,rfl,(s0.trans s1) _ _ ha,T.dD.cl,T.eQ,rfl,?_⟩
  refine Or.inl ⟨⟨_,SqL.of ((s0.trans s1) _ _ e1)⟩,dM (K:=K) (xs:=x1) (fun i σ Hc=>∃(ys:List V) (v2:Option V),σ=[some (.ref a),some (.ref R),v2]/\aq H Hc/\Hc R=some (.lst ys)/\Ly A N X Hc ys (cR (ds.take i))) ⟨[],none,rfl,s1,eR,.nil⟩ (fun i σ Hc _ ⟨_,_,_,z,_⟩=>SqL.of ((s0.trans z) _ _ e1)) ?_ ?_⟩
  ·rintro i v σ Hc hv ⟨ys,v2,rfl,sc,hRc,ly⟩
   obtain ⟨t,ht,pa⟩:=p1.get hv
   have mt:t ∈ ds:=List.mem_of_getElem? ht
   obtain ⟨dt,dd⟩:=hd t mt
   cases t with
   | deed n i' ps b =>
    unfold cE at pa
    obtain ⟨a',dx',pp,pb,xb,rfl,h1,h2,h3,h4⟩:=pa
    have le:(cR (ds.take i)).length + (bB b).length <= 900:=by
     have e:cR ds=cR (ds.take i) ++ bB b ++ cR (ds.drop (i + 1)):=by
      rw [<- show _=_ ++ bB b from mW ht]
      unfold cR
      rw [<- List.flatMap_append,List.take_append_drop]
     rw [e] at ln
     simp at ln
     omega
    have nbb:Nb (bB b):=fun y hy=>nb y (List.mem_append_left _ (List.mem_flatMap.mpr ⟨_,mt,hy⟩))
    have lly:=Paired.length ly
    refine ⟨Or.inl ⟨rfl,_,SqL.of hRc⟩,a',_,dx',_,_,rfl,(s0.trans sc) _ _ h1,T.bT.cl,T.fM,rfl,a',_,dx',_,_,rfl,(s0.trans sc) _ _ h1,T.bT.cl,T.fO,rfl,N,X,pb,xb,_,_,b,rfl,s0.trans sc,h3,h4,dd,nbb,by omega,fun R2 zs He s3 hR2 eR2 l3=>?_⟩
    have lz:=Paired.length l3
    refine ⟨_,_,_,_,rfl,rfl,s3 _ _ hRc,eR2,sz (by rw [lz,lly];omega),?_⟩
    refine ⟨_,_,rfl,aq.out (sc.trans s3) hR _,ak,?_⟩
    rw [mW ht]
    have dR:∀x w,He x=some (.tup w)->upd He R (.lst (ys ++ zs)) x=some (.tup w):=fun x w e=>af (fun y=>by rw [y,s3 _ _ hRc] at e;cases e) e
    exact Paired.two (ly.same fun x w e=>dR x w (s3 _ _ e)) (l3.same dR)
   | _=>exact dt.elim
  rintro σ Hc ⟨ys,v2,rfl,sc,hRc,ly⟩
  rw [show ds.take x1.length=ds by rw [p1.len];exact List.take_length] at ly
  refine K1 _ _ ?_
  have lly:=Paired.length ly
  try dsimp only
  refine ⟨a,_,dx,_,_,rfl,(s0.trans sc) _ _ ha,T.dD.cl,T.fI,rfl,N,X,n2,x2,_,_,ms,rfl,s0.trans sc,e2,p2,dm,fun y hy=>nb y (List.mem_append_right _ hy),by omega,fun R2 zs He s3 hR2 eR2 l3=>?_⟩
  have lz:=Paired.length l3
  refine ⟨R,R2,_,_,rfl,rfl,s3 _ _ hRc,eR2,sz (by rw [lz,lly];omega),fun R3 hR3=>?_⟩
  have s4:aq He (upd He R3 (.lst (ys ++ zs))):=aq.upd hR3 _
  exact q R3 _ _ ((sc.trans s3).trans s4) (aq.free (sc.trans s3) hR3) ak (Paired.two (ly.same fun x w e=>s4 _ _ (s3 _ _ e)) (l3.same fun x w e=>s4 _ _ e))
def hdK:Lr->Option (Nat × Int)
 | .hand i r=>some (i,r)
 | .lt i r=>some (i,r)
 | _=>none
def rkS (N:Nat->Str) (kvs:List (Key × V)) (r:Lr):List (Key × V):=match hdK r with
 | some (i,n)=>putK kvs (.inr (N i)) (.int n)
 | none=>kvs
def rks (N:Nat->Str) (rs:List Lr):List (Key × V):=rs.foldl (rkS N) []
theorem we (kvs:List (Key × V)) (k:Key) (v:V):(putK kvs k v).length <= kvs.length + 1:=by
 unfold putK
 split
 ·rw [List.length_map];omega
 ·simp
theorem yD (N:Nat->Str) (kvs:List (Key × V)) (r:Lr):(rkS N kvs r).length <= kvs.length + 1:=by
 unfold rkS
 split
 ·exact we _ _ _
 ·omega
theorem qi (N:Nat->Str):∀(rs:List Lr) (kvs:List (Key × V)),(rs.foldl (rkS N) kvs).length <= kvs.length + rs.length
 | [],kvs=>by simp
 | r :: rs,kvs=>by
  have h1:=qi N rs (rkS N kvs r)
  have h2:=yD N kvs r
  simp only [List.foldl_cons,List.length_cons]
  omega
theorem uu:∀{rs:List Lr}{k i:Nat}{p:Pt},(lfs k rs)[i]?=some p->∃r,rs[i]?=some r/\p=.leaf (((k + i:Nat):Int) + 1) r
 | r :: rs,k,0,p,h=>by
  cases h
  exact ⟨r,rfl,rfl⟩
 | r :: rs,k,i + 1,p,h=>by
  obtain ⟨r',h1,h2⟩:=uu (rs:=rs) (k:=k + 1) (i:=i) h
  refine ⟨r',h1,?_⟩
  rw [h2,show k + 1 + i=k + (i + 1) by omega]
theorem ue:∀(rs:List Lr) (k:Nat),(lfs k rs).length=rs.length
 | [],_=>rfl
 | r :: rs,k=>by
  show (lfs (k + 1) rs).length + 1=rs.length + 1
  rw [ue rs]
def xg (A:Adr):Sp:=fun vs H Q _=>∃(N:Nat->Str) (v:V) (rs:List Lr) (k:Nat) (ds ms:List Pt),vs=[v]/\rR A N H v (lfs k rs) ds ms/\rs.length <= 500 /\
 ∀(D:Addr) (H':Hp),aq H H'->H D=none->H' D=some (.dK (rks N rs))->Q (.ref D) H'
theorem y8 (T:Txt K mg A):Has P w K mg base 1 "ranks_told" ["program"] (xg A):=by
 refine T.mJ.has gG (fun vs H Q E h=>?_) (fun f cdv A' outer s H vs Q E' hr hu h=>?_)
 ·obtain ⟨N,v,rs,k,ds,ms,rfl,_⟩:=h
  rfl
 ·obtain ⟨N,v,rs,k,ds,ms,rfl,⟨a,dx,n0,n1,n2,x0,x1,x2,rfl,ha,e0,e1,e2,p0,p1,p2⟩,ln,q⟩:=h
  refine ⟨_,(ae (ay (i:=1) gG.nd rfl (Or.inl rfl) (kQ))
  (ae (d5 PassesOwn.never rfl (dG (dA (fv 0) rfl)) (pgn (i:=2) gG.nd rfl)
   (ao (ba (PW.pt (pw_or (cK (aH cW rfl T.bu (by boot_by_name) (aa (fv 2) (aa (jB T.aY.mg) ag))) (fun _=>rfl)) (pw_or1 (cK (aH cW rfl T.bu (by boot_by_name) (aa (fv 2) (aa (jB T.bb.mg) ag))) (fun _=>rfl)))))
    (ao (bR (dA (fv 2) rfl) (bP (fv 1) (dA (fv 2) rfl) (bO hu set_list))))
    aT)))
  (ao (aW (fv 1))))),?_⟩
  refine ah fun M1 K1=>?_
  refine fun D hD=>K1 _ _ ?_
  obtain ⟨s1,eD⟩:=alc hD (HO.dK [])
  generalize upd H D _=H1 at s1 eD ⊢
  clear K1 M1
  try dsimp only
  refine ah fun M1 K1=>?_
  refine ⟨a,_,dx,_,_,rfl,s1 _ _ ha,T.dD.cl,T.eX,rfl,?_⟩
  refine Or.inl ⟨⟨_,SqL.of (s1 _ _ e0)⟩,dM (K:=K) (xs:=x0) (fun i σ Hc=>∃(v2:Option V),σ=[some (.ref a),some (.ref D),v2]/\aq H Hc/\Hc D=some (.dK (rks N (rs.take i)))) ⟨none,rfl,s1,eD⟩ (fun i σ Hc _ ⟨_,_,z,_⟩=>SqL.of (z _ _ e0)) ?_ ?_⟩
  ·rintro i v σ Hc hv ⟨v2,rfl,sc,hDc⟩
   obtain ⟨t,ht,pa⟩:=p0.get hv
   obtain ⟨r,hr',rfl⟩:=uu ht
   have il:i < rs.length:=(List.getElem?_eq_some_iff.mp hr').1
   have kl:(rks N (rs.take i)).length <= 1000:=by
    have:=qi N (rs.take i) []
    unfold rks
    rw [List.length_take] at this
    simp at this
    omega
   have st:rks N (rs.take (i + 1))=rkS N (rks N (rs.take i)) r:=pw (rkS N) [] hr'
   obtain ⟨a1,dx1,fs1,rfl,ha1⟩:=wN pa
   obtain ⟨x,up,ow⟩:=r9 T (.leaf (((k + i:Nat):Int) + 1) r)
   have ty:=ow.vo (sc _ _ ha1)
   have k1:=rV T (.leaf (((k + i:Nat):Int) + 1) r)
   have k2:=vC T (.leaf (((k + i:Nat):Int) + 1) r)
   rw [st]
   try dsimp only
   cases r with
   | hand j m =>
    unfold cE at pa
    obtain ⟨a2,dx2,ea,h1⟩:=pa
    cases ea
    refine ⟨_,_,_,true,rfl,(fun z=>by cases z),ty,k1,?_⟩
    refine ⟨true,rfl,gU ⟨a1,_,dx2,_,_,rfl,sc _ _ h1,T.aY.cl,T.fN,rfl,a1,_,dx2,_,_,rfl,sc _ _ h1,T.aY.cl,T.fE,rfl,_,cZ.k (k:=.inr (N j)) hDc (aD kl),_,rfl,aq.out sc hD _,ak⟩⟩
   | lt j m =>
    unfold cE at pa
    obtain ⟨a2,dx2,ea,h1⟩:=pa
    cases ea
    refine ⟨_,_,_,false,rfl,(fun z=>by cases z),ty,k1,?_⟩
    refine ⟨false,rfl,cS ?_⟩
    refine ⟨_,_,_,true,rfl,(fun z=>by cases z),ty,k2,true,rfl,?_⟩
    refine gU ⟨a1,_,dx2,_,_,rfl,sc _ _ h1,T.bb.cl,T.gh,rfl,a1,_,dx2,_,_,rfl,sc _ _ h1,T.bb.cl,T.fW,rfl,_,cZ.k (k:=.inr (N j)) hDc (aD kl),_,rfl,aq.out sc hD _,ak⟩
   | _ =>
    refine ⟨_,_,_,false,rfl,(fun z=>by cases z),ty,k1,?_⟩
    refine ⟨false,rfl,cS ?_⟩
    refine ⟨_,_,_,false,rfl,(fun z=>by cases z),ty,k2,false,rfl,?_⟩
    exact cS ⟨_,rfl,sc,hDc⟩
  rintro σ Hc ⟨v2,rfl,sc,hDc⟩
  rw [show rs.take x0.length=rs by rw [p0.len,ue];exact List.take_length] at hDc
  refine K1 _ _ ?_
  exact q D Hc sc hD hDc
end
section
variable {P:Program}{w:World}{K:W.Frag}{mg:Str->Option Value}{base:Heap}{A:Adr}{N:Nat->Str}
seal PE PA PS PSs PT PW
def ky:Lr->Option Nat
 | .snd h _=>some h
 | .say _ _ m=>some m
 | _=>none
def dq:Pt->Option (Int × Nat)
 | .leaf n r=>(ky r).map fun h=>(n,h)
 | _=>none
def LL (k:Nat):List Lr->List (Int × Nat)
 | []=>[]
 | r :: rs=>(match ky r with
  | some h=>[((k:Int) + 1,h)]
  | none=>[]) ++ LL (k + 1) rs
theorem gq:∀(a b:List Lr) (k:Nat),LL k (a ++ b)=LL k a ++ LL (k + a.length) b
 | [],b,k=>rfl
 | r :: a,b,k=>by
  show _ ++ LL (k + 1) (a ++ b)=(_ ++ LL (k + 1) a) ++ LL (k + (a.length + 1)) b
  rw [gq a b,List.append_assoc,show k + 1 + a.length=k + (a.length + 1) by omega]
theorem c9 {k:Nat}{r:Lr}{rs:List Lr} (h:ky r=none):LL k (r :: rs)=LL (k + 1) rs:=by
 show (match ky r with | some h=>[((k:Int) + 1,h)] | none=>[]) ++ LL (k + 1) rs=_
 rw [h]
 rfl
theorem AQ {k:Nat}{r:Lr}:LL k [r]=[Pt.leaf ((k:Int) + 1) r].filterMap dq:=by
 show (match ky r with | some h=>[((k:Int) + 1,h)] | none=>[]) ++ []=_
 rw [List.append_nil]
 cases h:ky r with
 | none=>simp [dq,h]
 | some x=>simp [dq,h]
mutual
theorem Cz:∀(t:Tr) (k:Nat),(pt k t :: dE (pt k t)).filterMap dq=LL k (flat t)
 | .leaf r,k=>by
  rw [pt,dE,flat]
  exact AQ.symm
 | .iff v l r f o,k=>by
  rw [pt,dE,flat,c9 rfl,gq,c9 rfl,gq,c9 rfl,show LL (k + 1 + (aP f).length + 1 + (aP o).length + 1) []=[] from rfl,List.append_nil,<- pk f,<- pk o,<- List.filterMap_append]
  rfl
 | .loop t m l r b,k=>by
  rw [pt,dE,flat,c9 rfl,gq,c9 rfl,show LL (k + 1 + (aP b).length + 1) []=[] from rfl,List.append_nil,<- pk b]
  rfl
theorem pk:∀(ts:List Tr) (k:Nat),(bB (pts k ts)).filterMap dq=LL k (aP ts)
 | [],k=>by
  rw [pts,bB,aP]
  rfl
 | t :: ts,k=>by
  rw [pts,bB,aP,gq,<- Cz t,<- pk ts,<- List.filterMap_append]
  rfl
end
theorem Bv:∀(ds:List Dl) (bs:List (List Tr)) (k:Nat),(cR (ptD k ds bs)).filterMap dq=LL k (bU ds bs)
 | [],_,k=>by
  rw [ptD,bU]
  ·rfl
  ·intros;contradiction
  ·intros;contradiction
 | d :: ds,[],k=>by
  rw [ptD,bU]
  ·rfl
  ·intros;contradiction
  ·intros;contradiction
 | d :: ds,b :: bs,k=>by
  rw [ptD,bU,c9 rfl,gq,c9 rfl,<- pk b,<- Bv ds bs,<- List.filterMap_append]
  rfl
theorem rD:∀{rs:List Lr}{k:Nat},(∀r ∈ rs,ky r=none)->LL k rs=[]
 | [],k,_=>rfl
 | r :: rs,k,h=>by
  rw [c9 (h r List.mem_cons_self)]
  exact rD fun x hx=>h x (List.mem_cons_of_mem _ hx)
theorem zk:∀(rs:List Lr) (k:Nat),(∀x ∈ LL k rs,(k:Int) < x.1)/\((LL k rs).map (·.1)).Pairwise (· < ·)
 | [],k=>⟨fun x h=>(by cases h),List.Pairwise.nil⟩
 | r :: rs,k=>by
  obtain ⟨h1,h2⟩:=zk rs (k + 1)
  cases e:ky r with
  | none =>
   rw [c9 e]
   exact ⟨fun x hx=>by have:=h1 x hx;omega,h2⟩
  | some h =>
   have e':LL k (r :: rs)=((k:Int) + 1,h) :: LL (k + 1) rs:=by
    show (match ky r with | some h=>[((k:Int) + 1,h)] | none=>[]) ++ LL (k + 1) rs=_
    rw [e]
    rfl
   rw [e']
   refine ⟨fun x hx=>?_,?_⟩
   ·rcases List.mem_cons.mp hx with rfl | hx
    ·show (k:Int) < (k:Int) + 1
     omega
    ·have:=h1 x hx
     omega
   ·rw [List.map_cons]
    refine .cons (fun y hy=>?_) h2
    obtain ⟨x,hx,rfl⟩:=List.mem_map.mp hy
    have:=h1 x hx
    show (k:Int) + 1 < x.1
    omega
def Pz (H:Hp) (ys:List V) (l:List (Int × Int)):Prop:=Paired (fun y p=>∃t,y=V.ref t/\H t=some (.tup [.int p.1,.int p.2])) ys l
theorem Pz.same {H H':Hp} (s:∀x w,H x=some (.tup w)->H' x=some (.tup w)) {ys:List V}{l:List (Int × Int)} (h:Pz H ys l):Pz H' ys l:=Paired.dC h fun _ _ ⟨t,e,h1⟩=>⟨t,e,s _ _ h1⟩
def pzD (l:List (Int × Int)):List PyData:=l.map fun p=>.tuple [.int p.1,.int p.2]
theorem Pz.rep {H:Hp}:∀{ys:List V}{l:List (Int × Int)},Pz H ys l->hG K H ys (pzD l)
 | _,_,.nil=>.nil
 | _,_,.cons h r=>by
  obtain ⟨t,e,h1⟩:=h
  subst e
  exact .cons (.tup (SqT.of h1) (.cons (.int _) (.cons (.int _) .nil))) (Pz.rep r)
theorem sU:∀l:List (Int × Int),PyData.canLayAll0 (pzD l)=true
 | []=>rfl
 | p :: l=>by
  have:=sU l
  simp only [pzD,List.map_cons,PyData.canLayAll0,PyData.canLay0,Bool.and_true,Bool.true_and]
  exact this
theorem xB:∀l:List (Int × Int),PyData.depthAll (pzD l) <= 3
 | []=>by simp [pzD,PyData.depthAll]
 | p :: l=>by
  have:=xB l
  simp only [pzD,List.map_cons,PyData.depthAll,PyData.depth] at this ⊢
  omega
theorem oX (l:List (Int × Int)):SeqAt.shaped (.list (pzD l))=true:=by
 have h1:=sU l
 have h2:=xB l
 unfold SeqAt.shaped
 simp only [PyData.canLay0,PyData.depth,h1]
 simp
 omega
end
section
variable {P:Program}{w:World}{K:W.Frag}{mg:Str->Option Value}{base:Heap}{A:Adr}{N:Nat->Str}
seal PE PA PS PSs PT PW
def tl (rv:Nat->Int) (l:List (Int × Nat)):List (Int × Int):=l.map fun p=>(p.1,rv p.2)
structure BO (N:Nat->Str) (rs:List Lr) (ds ms:List Pt) (rv:Nat->Int):Prop where
 hd:∀p ∈ ds,sN p/\jL (qZ p) <= 100
 dm:jL ms <= 100
 nb:Nb (cR ds ++ bB ms)
 ln:(cR ds ++ bB ms).length <= 900
 rl:rs.length <= 500
 rv:∀p ∈ (cR ds ++ bB ms).filterMap dq,L2.cF (rks N rs) (.inr (N p.2))=some (.int (rv p.2))
 up:(((cR ds ++ bB ms).filterMap dq).map (·.1)).Pairwise (· < ·)
def tq (A:Adr):Sp:=fun vs H Q _=>∃(N:Nat->Str) (X:Hp) (v:V) (rs:List Lr) (ds ms:List Pt) (rv:Nat->Int),vs=[v]/\aq X H/\rR A N X v (lfs 0 rs) ds ms/\BO N rs ds ms rv /\
 ∀(R:Addr) (ys:List V) (H':Hp),aq H H'->H R=none->H' R=some (.lst ys)->Pz H' ys (tl rv ((cR ds ++ bB ms).filterMap dq))->Q (.ref R) H'
theorem uM (T:Txt K mg A):Has P w K mg base 205 "demands" ["program"] (tq A):=by
 have D_ranks_told:=y8 (P:=P) (w:=w) (base:=base) T
 have D_laid_program:=x8 (P:=P) (w:=w) (base:=base) T 100
 refine T.uc.has (k:=204) eg (fun vs H Q E h=>?_) (fun f cdv A' outer s H vs Q E' hr hu h=>?_)
 ·obtain ⟨N,X,v,rs,ds,ms,rv,rfl,_⟩:=h
  rfl
 ·obtain ⟨N,X,v,rs,ds,ms,rv,rfl,s0,pg,O,q⟩:=h
  refine ⟨_,(ae (ay (i:=1) eg.nd rfl (Or.inl rfl) (au D_ranks_told hr (aa (fv 0) ag)))
  (ae (ay (i:=2) eg.nd rfl (Or.inl rfl) (bD ag))
  (ae (d5 PassesOwn.never rfl (dG (au D_laid_program hr (aa (fv 0) ag))) (vY rfl (jx (pgn (i:=3) eg.nd rfl) (jx (pgn (i:=4) eg.nd rfl) (jx (pgn (i:=5) eg.nd rfl) tD))))
   (ao (ba (cK (aH cW rfl T.bu (by boot_by_name) (aa (fv 3) (aa (jB T.aX.mg) ag))) (fun _=>rfl))
    (ao (aL (bW (fv 2) (aa (bf (aa (dA (fv 3) rfl) (aa (px hu (fv 1) (dA (fv 3) rfl)) ag))) ag))))
    (ao (ba (cK (aH cW rfl T.bu (by boot_by_name) (aa (fv 3) (aa (jB T.a9.mg) ag))) (fun _=>rfl))
     (ao (aL (bW (fv 2) (aa (bf (aa (dA (fv 3) rfl) (aa (px hu (fv 1) (dA (fv 3) rfl)) ag))) ag))))
     aT)))))
  (ao (aW (aH u9 rfl T.kD (by boot_by_name) (aa (fv 2) ag))))))),?_⟩
  refine ah fun M1 K1=>?_
  refine ⟨N,v,rs,0,ds,ms,rfl,pg.same s0,O.rl,fun D H1 s1 hD eD=>K1 _ _ ?_⟩
  clear K1 M1
  try dsimp only
  refine ah fun M1 K1=>?_
  refine ⟨Nat.zero_le _,fun F hF=>K1 _ _ ?_⟩
  obtain ⟨s2,eF⟩:=alc hF (HO.lst [])
  generalize upd H1 F _=H2 at s2 eF ⊢
  clear K1 M1
  have eD2:=s2 _ _ eD
  have FD:F ≠ D:=fresh_ne hF eD
  try dsimp only
  refine ah fun M1 K1=>?_
  refine ⟨N,X,v,lfs 0 rs,ds,ms,rfl,(s0.trans s1).trans s2,pg,O.hd,O.dm,O.nb,O.ln,fun R ys H3 s3 hR eR ly=>?_⟩
  have RF:R ≠ F:=fresh_ne hR eF
  have t3:=(s1.trans s2).trans s3
  have F0:H F=none:=aq.free s1 hF
  have nF:∀x:Addr,x ≠ F->x ∉ [F]:=fun x h m=>h (List.mem_singleton.mp m)
  obtain ⟨L,hL⟩:∃L,L=cR ds ++ bB ms:=⟨_,rfl⟩
  have orv:=O.rv
  have oup:=O.up
  have oln:=O.ln
  rw [<- hL] at ly orv oup oln q
  have lly:=Paired.length ly
  refine Or.inl ⟨⟨_,SqL.of eR⟩,dM (K:=K) (xs:=ys) (fun i σ Hc=>∃(zs:List V) (v3 v4 v5:Option V),σ=[some v,some (.ref D),some (.ref F),v3,v4,v5]/\Go [F] H3 [F] Hc/\Hc F=some (.lst zs)/\Pz Hc zs (tl rv ((L.take i).filterMap dq))) ⟨[],none,none,none,rfl,Go.refl _ _,s3 _ _ eF,.nil⟩ (fun i σ Hc _ ⟨_,_,_,_,_,z,_⟩=>SqL.of (z.o _ _ (nF _ RF) eR)) ?_ ?_⟩
  ·rintro i y σ Hc hy ⟨zs,v3,v4,v5,rfl,gc,eFc,pz⟩
   obtain ⟨p,hp,tp,v,pl,lo,rfl,etp,pa⟩:=bX ly hy
   have etp':Hc tp=some (.tup [v,pl,lo]):=gc.o _ _ (nF _ (fun y=>by rw [y,s3 _ _ eF] at etp;cases etp)) etp
   have eDc:=gc.o _ _ (nF _ FD.symm) (s3 _ _ eD2)
   have sX:aq X Hc:=fun x o e=>gc.o _ _ (nF _ (fun y=>by have:=s0 _ _ e;rw [y,F0] at this;cases this)) (t3 _ _ (s0 _ _ e))
   have st:(L.take (i + 1)).filterMap dq=(L.take i).filterMap dq ++ [p].filterMap dq:=by
    rw [List.take_add_one,hp,List.filterMap_append]
    rfl
   have lz:zs.length <= 1000:=by
    have h1:=Paired.length pz
    have h2:=List.length_filterMap_le dq (L.take i)
    unfold tl at h1
    rw [List.length_map] at h1
    rw [List.length_take] at h2
    omega
   rw [st]
   try dsimp only
   refine ⟨tp,_,rfl,SqT.of etp',rfl,_,_,rfl,_,_,rfl,_,_,rfl,rfl,?_⟩
   obtain ⟨a1,dx1,fs1,rfl,ha1⟩:=wN pa
   obtain ⟨x,up,ow⟩:=r9 T p
   have ty:=ow.vo (sX _ _ ha1)
   have k1:=sO T p
   have k2:=vf T p
   have mp:p ∈ L:=List.mem_of_getElem? hp
   cases hS:p.vN with
   | true =>
    rw [hS] at k1
    obtain ⟨n,h,val,rfl⟩:∃n h val,p=.leaf n (.snd h val):=by
     cases p with
     | leaf n r=>cases r with
      | snd h val=>exact ⟨n,h,val,rfl⟩
      | _=>cases hS
     | _=>cases hS
    have mm:(n,h) ∈ L.filterMap dq:=List.mem_filterMap.mpr ⟨_,mp,rfl⟩
    unfold cE at pa
    obtain ⟨a2,dx2,p2,ea,h1,h2⟩:=pa
    cases ea
    refine ⟨_,_,_,true,rfl,(fun z=>by cases z),ty,k1,true,rfl,gU ?_⟩
    refine ⟨Or.inl ⟨rfl,_,SqL.of eFc⟩,a1,_,dx2,_,_,rfl,sX _ _ h1,T.aX.cl,T.c8,rfl,a1,_,dx2,_,_,rfl,sX _ _ h1,T.aX.cl,T.fK,rfl,.int (rv h),?_,by show 2 <= sizeLine;decide,fun t2 ht2=>?_⟩
    ·rw [<- orv (n,h) mm]
     exact aN.k (k:=.inr (N h)) eDc
    have t2F:t2 ≠ F:=fresh_ne ht2 eFc
    refine ⟨_,_,_,rfl,rfl,af t2F.symm eFc,aD lz,_,_,_,_,rfl,(gc.trans (Go.new (aq.upd ht2 _))).trans (Go.at List.mem_cons_self _),ak,?_⟩
    unfold tl
    rw [List.map_append]
    exact Paired.snoc ⟨t2,rfl,af t2F ak⟩ (pz.same fun x w e=>af (fun y=>by rw [y,eFc] at e;cases e) (af (fun y=>by rw [y,ht2] at e;cases e) e))
   | false =>
   rw [hS] at k1
   cases hY:p.ze with
   | true =>
    rw [hY] at k2
    obtain ⟨n,x,val,h,rfl⟩:∃n x val h,p=.leaf n (.say x val h):=by
     cases p with
     | leaf n r=>cases r with
      | say x val h=>exact ⟨n,x,val,h,rfl⟩
      | _=>cases hY
     | _=>cases hY
    have mm:(n,h) ∈ L.filterMap dq:=List.mem_filterMap.mpr ⟨_,mp,rfl⟩
    unfold cE at pa
    obtain ⟨a2,dx2,p2,ea,h1,h2⟩:=pa
    cases ea
    refine ⟨_,_,_,false,rfl,(fun z=>by cases z),ty,k1,false,rfl,cS ?_⟩
    refine ⟨_,_,_,true,rfl,(fun z=>by cases z),ty,k2,true,rfl,gU ?_⟩
    refine ⟨Or.inl ⟨rfl,_,SqL.of eFc⟩,a1,_,dx2,_,_,rfl,sX _ _ h1,T.a9.cl,T.du,rfl,a1,_,dx2,_,_,rfl,sX _ _ h1,T.a9.cl,T.fX,rfl,.int (rv h),?_,by show 2 <= sizeLine;decide,fun t2 ht2=>?_⟩
    ·rw [<- orv (n,h) mm]
     exact aN.k (k:=.inr (N h)) eDc
    have t2F:t2 ≠ F:=fresh_ne ht2 eFc
    refine ⟨_,_,_,rfl,rfl,af t2F.symm eFc,aD lz,_,_,_,_,rfl,(gc.trans (Go.new (aq.upd ht2 _))).trans (Go.at List.mem_cons_self _),ak,?_⟩
    unfold tl
    rw [List.map_append]
    exact Paired.snoc ⟨t2,rfl,af t2F ak⟩ (pz.same fun x w e=>af (fun y=>by rw [y,eFc] at e;cases e) (af (fun y=>by rw [y,ht2] at e;cases e) e))
   | false =>
    rw [hY] at k2
    have e:dq p=none:=by
     cases p with
     | leaf n r=>cases r with
      | snd _ _=>cases hS
      | say _ _ _=>cases hY
      | _=>rfl
     | _=>rfl
    refine ⟨_,_,_,false,rfl,(fun z=>by cases z),ty,k1,false,rfl,cS ?_⟩
    refine ⟨_,_,_,false,rfl,(fun z=>by cases z),ty,k2,false,rfl,cS ?_⟩
    refine ⟨zs,_,_,_,rfl,gc,eFc,?_⟩
    rw [show [p].filterMap dq=[] by simp [e],List.append_nil]
    exact pz
  rintro σ Hc ⟨zs,v3,v4,v5,rfl,gc,eFc,pz⟩
  rw [show L.take ys.length=L by rw [lly];exact List.take_length] at pz
  refine K1 _ _ ?_
  try dsimp only
  have sc:aq H Hc:=fun x o e=>gc.o _ _ (nF _ (fun y=>by rw [y,F0] at e;cases e)) (t3 _ _ e)
  refine ⟨F,zs,(L.filterMap dq).map (·.1),rfl,SqL.of eFc,?_,oup,fun l hl=>?_⟩
  ·have g:∀{ys:List V}{l:List (Int × Nat)},Pz Hc ys (tl rv l)->Paired (fun v i=>∃a r,v=V.ref a/\SqT K Hc a (.int i :: r)) ys (l.map (·.1)):=by
    intro ys l h
    induction l generalizing ys with
    | nil=>cases h;exact .nil
    | cons p l ih =>
     cases h with
     | cons h r =>
      obtain ⟨t,e,h1⟩:=h
      exact .cons ⟨t,_,e,SqT.of h1⟩ (ih r)
   exact g pz
  ·exact q l zs _ (sc.trans (aq.upd hl _)) (aq.free sc hl) ak (pz.same fun x w e=>aq.upd hl _ _ _ e)
end
section
variable {P:Program}{w:World}{K:W.Frag}{mg:Str->Option Value}{base:Heap}{A:Adr}{N:Nat->Str}
seal PE PA PS PSs PT PW
abbrev hl2:List V:=[.str "hand",.str "let"]
theorem zo (r:Lr):inV (.str r.w) hl2=(hdK r).isSome:=by
 cases r <;> (first | exact (show inV (V.str "hand") hl2=true by decide) | exact (show inV (V.str "given") hl2=false by decide) | exact (show inV (V.str "own") hl2=false by decide) | exact (show inV (V.str "let") hl2=true by decide) | exact (show inV (V.str "set") hl2=false by decide) | exact (show inV (V.str "put") hl2=false by decide) | exact (show inV (V.str "send") hl2=false by decide) | exact (show inV (V.str "say") hl2=false by decide) | exact (show inV (V.str "call") hl2=false by decide) | exact (show inV (V.str "last") hl2=false by decide) | exact (show inV (V.str "if") hl2=false by decide) | exact (show inV (V.str "loop") hl2=false by decide) | exact (show inV (V.str "else") hl2=false by decide) | exact (show inV (V.str "end") hl2=false by decide) | exact (show inV (V.str "deed") hl2=false by decide) | exact (show inV (V.str "main") hl2=false by decide))
theorem An {X:Hp}{v:V}{r:Lr}{j:Nat}{m:Int} (h:bK N X v r) (e:hdK r=some (j,m)):∃t,v=.ref t/\X t=some (.tup [.str r.w,.str (N j),.int m]):=by
 obtain ⟨t,p,e',h1,_⟩:=h
 cases r with
 | hand i r=>cases e;exact ⟨t,e',h1⟩
 | lt i r=>cases e;exact ⟨t,e',h1⟩
 | _=>cases e
theorem qU {r:Lr} (e:ky r=none):r.w ≠ "send"/\r.w ≠ "say":=by
 cases r with
 | hand _ _=>exact (show ("hand":Str) ≠ "send"/\("hand":Str) ≠ "say" by decide)
 | giv _ _ _=>exact (show ("given":Str) ≠ "send"/\("given":Str) ≠ "say" by decide)
 | own _ _=>exact (show ("own":Str) ≠ "send"/\("own":Str) ≠ "say" by decide)
 | lt _ _=>exact (show ("let":Str) ≠ "send"/\("let":Str) ≠ "say" by decide)
 | set _ _=>exact (show ("set":Str) ≠ "send"/\("set":Str) ≠ "say" by decide)
 | put _ _ _=>exact (show ("put":Str) ≠ "send"/\("put":Str) ≠ "say" by decide)
 | snd _ _=>cases e
 | say _ _ _=>cases e
 | call _ _=>exact (show ("call":Str) ≠ "send"/\("call":Str) ≠ "say" by decide)
 | last=>exact (show ("last":Str) ≠ "send"/\("last":Str) ≠ "say" by decide)
 | iff _ _ _=>exact (show ("if":Str) ≠ "send"/\("if":Str) ≠ "say" by decide)
 | loop _ _ _ _=>exact (show ("loop":Str) ≠ "send"/\("loop":Str) ≠ "say" by decide)
 | els=>exact (show ("else":Str) ≠ "send"/\("else":Str) ≠ "say" by decide)
 | fin=>exact (show ("end":Str) ≠ "send"/\("end":Str) ≠ "say" by decide)
 | deed _ _=>exact (show ("deed":Str) ≠ "send"/\("deed":Str) ≠ "say" by decide)
 | main=>exact (show ("main":Str) ≠ "send"/\("main":Str) ≠ "say" by decide)
theorem rN:∀(rs:List Lr) (k:Nat),(LL k rs).length <= rs.length
 | [],_=>Nat.le_refl _
 | r :: rs,k=>by
  have:=rN rs (k + 1)
  show ((match ky r with | some h=>[((k:Int) + 1,h)] | none=>[]) ++ LL (k + 1) rs).length <= rs.length + 1
  cases ky r <;> simp <;> omega
def zY (K:W.Frag):Sp:=fun vs H Q _=>∃(N:Nat->Str) (LR:Addr) (rows:List V) (lrs:List Lr) (rv:Nat->Int),vs=[.ref LR]/\H LR=some (.lst rows)/\Paired (bK N H) rows lrs/\lrs.length <= 500/\(∀i r h,lrs[i]?=some r->ky r=some h->L2.cF (rks N (lrs.take i)) (.inr (N h))=some (.int (rv h))) /\
 ∀(F:Addr) (ys:List V) (H':Hp),aq H H'->H F=none->H' F=some (.lst ys)->Pz H' ys (tl rv (LL 0 lrs))->Q (.ref F) H'
theorem BI (T:Txt K mg A):Has P w K mg base 1 "_law_due" ["_law_rows"] (zY K):=by
 refine T.tH.has ic (fun vs H Q E h=>?_) (fun f cdv A' outer s H vs Q E' hr hu h=>?_)
 ·obtain ⟨N,LR,rows,lrs,rv,rfl,_⟩:=h
  rfl
 ·obtain ⟨N,LR,rows,lrs,rv,rfl,hLR,pr,ln,hrv,q⟩:=h
  have lr:=Paired.length pr
  refine ⟨_,(ae (ay (i:=1) ic.nd rfl (Or.inl rfl) (kQ))
  (ae (ay (i:=2) ic.nd rfl (Or.inl rfl) (bD ag))
  (ae (d5 PassesOwn.never rfl (gX rfl T.fP (aa (aH b9 rfl T.cD (by boot_by_name) (aa (fv 0) ag)) ag)) (pgn (i:=3) ic.nd rfl)
   (ae (ba (aC (tJ hu) (px hu (px hu (fv 0) (fv 3)) ab) (bf (aa aj (aa aj ag))) ((by with_unfolding_all rfl)))
    (ao (bR (px hu (px hu (fv 0) (fv 3)) ab) (bP (fv 1) (px hu (px hu (fv 0) (fv 3)) ab) (bO hu set_list))))
    aT)
   (ae (ba (aC (bV hu) (px hu (px hu (fv 0) (fv 3)) ab) aj (aG _))
    (ao (aL (bW (fv 2) (aa (bf (aa (ax bp (fv 3) ab) (aa (px hu (fv 1) (px hu (px hu (fv 0) (fv 3)) ab)) ag))) ag))))
    aT)
   (ao (ba (aC (bV hu) (px hu (px hu (fv 0) (fv 3)) ab) aj (aG _))
    (ao (aL (bW (fv 2) (aa (bf (aa (ax bp (fv 3) ab) (aa (px hu (fv 1) (px hu (px hu (fv 0) (fv 3)) ab)) ag))) ag))))
    aT)))))
  (ao (aW (fv 2)))))),?_⟩
  refine ah fun M1 K1=>?_
  refine fun D hD=>K1 _ _ ?_
  obtain ⟨s1,eD⟩:=alc hD (HO.dK [])
  generalize upd H D _=H1 at s1 eD ⊢
  clear K1 M1
  try dsimp only
  refine ah fun M1 K1=>?_
  refine ⟨Nat.zero_le _,fun F hF=>K1 _ _ ?_⟩
  obtain ⟨s2,eF⟩:=alc hF (HO.lst [])
  generalize upd H1 F _=H2 at s2 eF ⊢
  clear K1 M1
  have F0:H F=none:=aq.free s1 hF
  have FD:F ≠ D:=fresh_ne hF eD
  have s02:=s1.trans s2
  try dsimp only
  refine ah fun M1 K1=>?_
  refine Or.inl ⟨_,_,rfl,Or.inl ⟨_,SqL.of (s02 _ _ hLR),rfl⟩,_,rfl,by rw [lr];omega,by rw [lr];omega,?_⟩
  rw [Int.toNat_natCast]
  refine kW (lo:=0) (fun i σ Hc=>∃(zs:List V) (v3:Option V),σ=[some (.ref LR),some (.ref D),some (.ref F),v3]/\aq H Hc/\Hc D=some (.dK (rks N (lrs.take i)))/\Hc F=some (.lst zs)/\Pz Hc zs (tl rv (LL 0 (lrs.take i)))) ⟨[],none,rfl,s02,s2 _ _ eD,eF,.nil⟩ ?_ ?_
  ·rintro i σ Hc hi ⟨zs,v3,rfl,sc,eDc,eFc,pz⟩
   obtain ⟨v,hv⟩:∃v,rows[i]?=some v:=⟨_,List.getElem?_eq_getElem hi⟩
   obtain ⟨r,hr',la⟩:=bX pr hv
   have il:i < lrs.length:=(List.getElem?_eq_some_iff.mp hr').1
   have ai0:atI rows (0 + (i:Int))=some v:=by rw [Int.zero_add];exact aB hv
   have st:rks N (lrs.take (i + 1))=rkS N (rks N (lrs.take i)) r:=pw (rkS N) [] hr'
   have sl:LL 0 (lrs.take (i + 1))=LL 0 (lrs.take i) ++ LL i [r]:=by
    rw [List.take_add_one,hr']
    show LL 0 (lrs.take i ++ [r])=_
    rw [gq,List.length_take,show 0 + min i lrs.length=i by omega]
   have kl:(rks N (lrs.take i)).length <= 1000:=by
    have:=qi N (lrs.take i) []
    unfold rks
    rw [List.length_take] at this
    simp at this
    omega
   have lz:zs.length <= 900:=by
    have h1:=Paired.length pz
    have h2:=rN (lrs.take i) 0
    unfold tl at h1
    rw [List.length_map] at h1
    rw [List.length_take] at h2
    omega
   obtain ⟨t,p,rfl,et0,ep⟩:=la
   have la:bK N H (.ref t) r:=⟨t,p,rfl,et0,ep⟩
   have SL:∀Hx,aq H Hx->SqL K Hx LR rows:=fun Hx z=>SqL.of (z _ _ hLR)
   have ST:∀Hx,aq H Hx->SqT K Hx t (.str r.w :: r.tl N p):=fun Hx z=>SqT.of (z _ _ et0)
   rw [st,sl]
   try dsimp only
   refine ah fun N1 J1=>?_
   refine Or.inl ⟨_,_,Or.inl (SL _ sc),ai0,Or.inl ⟨_,_,Or.inr (ST _ sc),aB (j:=0) rfl,by show 2 <= sizeLine;decide,fun tp htp=>?_⟩⟩
   obtain ⟨sd,ed⟩:=alc htp (HO.tup hl2)
   generalize upd Hc tp _=Hd at sd ed ⊢
   have scd:=sc.trans sd
   have pzd:=pz.same fun x w e=>sd _ _ e
   refine Or.inl ⟨_,Or.inr (SqT.of ed),rfl,rfl,_,rfl,aI (fun c=>?_) (fun c=>J1 _ _ ?_)⟩
   ·
    have c':(hdK r).isSome=true:=by rw [<- zo];exact c
    obtain ⟨⟨j,m⟩,hj⟩:=Option.isSome_iff_exists.mp c'
    obtain ⟨t',ea,e3⟩:=An la hj
    cases ea
    have S3:SqT K Hd t [.str r.w,.str (N j),.int m]:=SqT.of (scd _ _ e3)
    have kn:ky r=none:=by cases r <;> first | rfl | cases hj
    refine Or.inl ⟨_,_,Or.inl (SL _ scd),ai0,Or.inl ⟨_,_,Or.inr S3,aB (j:=2) rfl,Or.inl ⟨_,_,Or.inl (SL _ scd),ai0,Or.inl ⟨_,_,Or.inr S3,aB (j:=1) rfl,_,cZ.k (k:=.inr (N j)) (sd _ _ eDc) (aD kl),J1 _ _ ?_⟩⟩⟩⟩
    clear J1 N1
    have s3:aq H (upd Hd D (.dK (putK (rks N (lrs.take i)) (.inr (N j)) (.int m)))):=aq.out scd hD _
    have eF3:=af (u:=.dK (putK (rks N (lrs.take i)) (.inr (N j)) (.int m))) FD (sd _ _ eFc)
    have pz3:Pz (upd Hd D (.dK (putK (rks N (lrs.take i)) (.inr (N j)) (.int m)))) zs (tl rv (LL 0 (lrs.take i))):=pzd.same fun x w e=>af (fun y=>by rw [y,sd _ _ eDc] at e;cases e) e
    have eD3:upd Hd D (.dK (putK (rks N (lrs.take i)) (.inr (N j)) (.int m))) D=some (.dK (rkS N (rks N (lrs.take i)) r)):=by
     rw [ak]
     unfold rkS
     rw [hj]
    generalize upd Hd D (.dK (putK (rks N (lrs.take i)) (.inr (N j)) (.int m)))=He at s3 eF3 pz3 eD3 ⊢
    obtain ⟨w1,w2⟩:=qU kn
    try dsimp only
    refine ah fun N1 J1=>?_
    refine Or.inl ⟨_,_,Or.inl (SL _ s3),ai0,Or.inl ⟨_,_,Or.inr (ST _ s3),aB (j:=0) rfl,rfl,_,rfl,aI (fun z=>absurd (aJ z) w1) (fun _=>J1 _ _ ?_)⟩⟩
    clear J1 N1
    try dsimp only
    refine Or.inl ⟨_,_,Or.inl (SL _ s3),ai0,Or.inl ⟨_,_,Or.inr (ST _ s3),aB (j:=0) rfl,rfl,_,rfl,aI (fun z=>absurd (aJ z) w2) (fun _=>?_)⟩⟩
    rw [show LL i [r]=[] by rw [c9 kn];rfl,List.append_nil]
    exact ⟨zs,_,rfl,s3,eD3,eF3,pz3⟩
   ·clear J1 N1
    have hn:hdK r=none:=by
     cases e:hdK r with
     | none=>rfl
     | some x =>
      exact absurd (show inV (.str r.w) hl2=true by rw [zo,e];rfl) c
    have eDd:Hd D=some (.dK (rkS N (rks N (lrs.take i)) r)):=by
     unfold rkS
     rw [hn]
     exact sd _ _ eDc
    have eDo:=sd _ _ eDc
    have eFd:=sd _ _ eFc
    have add:∀(h:Nat) (t2:Addr),ky r=some h->Hd t2=none->∃(zs':List V) (v3:Option V),[some (V.ref LR),some (.ref D),some (.ref F),some (.int (0 + (i:Int)))]=[some (V.ref LR),some (.ref D),some (.ref F),v3]/\aq H (upd (upd Hd t2 (.tup [.int (0 + (i:Int) + 1),.int (rv h)])) F (.lst (zs ++ [.ref t2])))/\(upd (upd Hd t2 (.tup [.int (0 + (i:Int) + 1),.int (rv h)])) F (.lst (zs ++ [.ref t2]))) D=some (.dK (rkS N (rks N (lrs.take i)) r))/\(upd (upd Hd t2 (.tup [.int (0 + (i:Int) + 1),.int (rv h)])) F (.lst (zs ++ [.ref t2]))) F=some (.lst zs')/\Pz (upd (upd Hd t2 (.tup [.int (0 + (i:Int) + 1),.int (rv h)])) F (.lst (zs ++ [.ref t2]))) zs' (tl rv (LL 0 (lrs.take i) ++ LL i [r])):=fun h t2 hk ht2=>by
     have t2F:t2 ≠ F:=fresh_ne ht2 eFd
     refine ⟨_,_,rfl,aq.out (scd.trans (aq.upd ht2 _)) F0 _,af FD.symm (af (fresh_ne ht2 eDd).symm eDd),ak,?_⟩
     rw [show LL i [r]=[((i:Int) + 1,h)] by
      show (match ky r with | some h=>[((i:Int) + 1,h)] | none=>[]) ++ []=_
      rw [hk]
      rfl]
     unfold tl
     rw [List.map_append]
     refine Paired.snoc ⟨t2,rfl,?_⟩ (pzd.same fun x w e=>af (fun y=>by rw [y,eFd] at e;cases e) (af (fun y=>by rw [y,ht2] at e;cases e) e))
     rw [Int.zero_add]
     exact af t2F ak
    have get:∀h,ky r=some h->aN Hd D (.str (N h)) (some (.int (rv h))):=fun h hk=>by
     rw [<- hrv i r h hr' hk]
     exact aN.k (k:=.inr (N h)) eDo
    cases hk:ky r with
    | none =>
     obtain ⟨w1,w2⟩:=qU hk
     try dsimp only
     refine ah fun N1 J1=>?_
     refine Or.inl ⟨_,_,Or.inl (SL _ scd),ai0,Or.inl ⟨_,_,Or.inr (ST _ scd),aB (j:=0) rfl,rfl,_,rfl,aI (fun z=>absurd (aJ z) w1) (fun _=>J1 _ _ ?_)⟩⟩
     clear J1 N1
     try dsimp only
     refine Or.inl ⟨_,_,Or.inl (SL _ scd),ai0,Or.inl ⟨_,_,Or.inr (ST _ scd),aB (j:=0) rfl,rfl,_,rfl,aI (fun z=>absurd (aJ z) w2) (fun _=>?_)⟩⟩
     rw [show LL i [r]=[] by rw [c9 hk];rfl,List.append_nil]
     exact ⟨zs,_,rfl,scd,eDd,eFd,pzd⟩
    | some h =>
     have add:=add h
     cases r with
     | snd h' val =>
      cases hk
      try dsimp only
      refine ah fun N1 J1=>?_
      refine Or.inl ⟨_,_,Or.inl (SL _ scd),ai0,Or.inl ⟨_,_,Or.inr (ST _ scd),aB (j:=0) rfl,rfl,_,rfl,aI (fun _=>?_) (fun z=>absurd rfl (cq z))⟩⟩
      refine ⟨Or.inl ⟨rfl,_,SqL.of eFd⟩,Or.inl ⟨_,_,Or.inl (SL _ scd),ai0,Or.inl ⟨_,_,Or.inr (ST _ scd),aB (j:=1) rfl,.int (rv h),get h rfl,by show 2 <= sizeLine;decide,fun t2 ht2=>?_⟩⟩⟩
      refine ⟨_,_,_,rfl,rfl,af (fresh_ne ht2 eFd).symm eFd,aD (by omega),J1 _ _ ?_⟩
      clear J1 N1
      have ad:=add t2 rfl ht2
      generalize upd (upd Hd t2 (.tup [.int (0 + (i:Int) + 1),.int (rv h)])) F (.lst (zs ++ [.ref t2]))=He at ad ⊢
      obtain ⟨zs',v3,e1,e2,e3⟩:=ad
      try dsimp only
      refine Or.inl ⟨_,_,Or.inl (SL _ e2),ai0,Or.inl ⟨_,_,Or.inr (ST _ e2),aB (j:=0) rfl,rfl,_,rfl,aI (fun z=>absurd (aJ z) (show ¬ ("send":Str)="say" by decide)) (fun _=>?_)⟩⟩
      exact ⟨zs',v3,e1,e2,e3⟩
     | say x val h' =>
      cases hk
      try dsimp only
      refine ah fun N1 J1=>?_
      refine Or.inl ⟨_,_,Or.inl (SL _ scd),ai0,Or.inl ⟨_,_,Or.inr (ST _ scd),aB (j:=0) rfl,rfl,_,rfl,aI (fun z=>absurd (aJ z) (show ¬ ("say":Str)="send" by decide)) (fun _=>J1 _ _ ?_)⟩⟩
      clear J1 N1
      try dsimp only
      refine Or.inl ⟨_,_,Or.inl (SL _ scd),ai0,Or.inl ⟨_,_,Or.inr (ST _ scd),aB (j:=0) rfl,rfl,_,rfl,aI (fun _=>?_) (fun z=>absurd rfl (cq z))⟩⟩
      refine ⟨Or.inl ⟨rfl,_,SqL.of eFd⟩,Or.inl ⟨_,_,Or.inl (SL _ scd),ai0,Or.inl ⟨_,_,Or.inr (ST _ scd),aB (j:=3) rfl,.int (rv h),get h rfl,by show 2 <= sizeLine;decide,fun t2 ht2=>?_⟩⟩⟩
      exact ⟨_,_,_,rfl,rfl,af (fresh_ne ht2 eFd).symm eFd,aD (by omega),add t2 rfl ht2⟩
     | _=>cases hk
  rintro σ Hc ⟨zs,v3,rfl,sc,eDc,eFc,pz⟩
  rw [show lrs.take rows.length=lrs by rw [lr];exact List.take_length] at pz
  refine K1 _ _ ?_
  exact q F zs Hc sc F0 eFc pz
end
section
variable {P:Program}{w:World}{K:W.Frag}{mg:Str->Option Value}{base:Heap}{A:Adr}{N:Nat->Str}
seal PE PA PS PSs PT PW
theorem wO {K:W.Frag}{a:Addr}{xs:List V}{fr:List Nat}{tf:CB->TT}{te:CB->TE}{Q:VK}{σ:St}{H1:Hp} (p:V->Bool) (f:V->V) (hx:H1 a=some (.tup xs)) (hn:xs.length < sizeLine)
  (hf:∀b x H (R:Bool->Hp->Prop),x ∈ xs->aq H1 H->(∀H',aq H H'->R (p x) H')->tf b (some x :: cFr fr σ) H R)
  (he:∀b x H (R:VK),x ∈ xs->p x=true->aq H1 H->(∀H',aq H H'->R (f x) H')->te b (some x :: cFr fr σ) H R)
  (fin:∀D H,H1 D=none->aq H1 H->H D=some (.lst ((xs.filter p).map f))->Q (.ref D) H):lF (Itt K a) 1 fr (fun _=>kO 0) tf te Q σ H1:=by
 have mem:∀i,i < xs.length->xs.getD i .non ∈ xs:=fun i h=>by
  rw [List.getD_eq_getElem?_getD,List.getElem?_eq_getElem h]
  exact List.getElem_mem h
 refine nG (x:=fun i=>xs.getD i .non) (fun i=>p (xs.getD i .non)) (fun i=>f (xs.getD i .non)) hn (fun H s=>⟨xs,SqT.of (s _ _ hx),Nat.le_refl _⟩) (fun i H h s=>⟨xs,xs[i],SqT.of (s _ _ hx),List.getElem?_eq_getElem h⟩)
  (fun i H v H' h s y=>⟨y.1,?_⟩) (fun b i H R h s k=>hf b _ H R (mem i h) s k) (fun b i H R h hp s k=>he b _ H R (mem i h) hp s k) fun D H hD s e=>fin D H hD s ?_
 ·have:=y.2 xs (SqT.of (s _ _ hx))
  rw [List.getD_eq_getElem?_getD,this]
  rfl
 ·rw [e,kL p f]
def xP (K:W.Frag):Sp:=fun vs H Q _=>∃(p q:Addr) (ys zs:List V) (l:List (Int × Int)),vs=[.ref p,.ref q]/\H p=some (.lst ys)/\H q=some (.lst zs)/\Pz H ys l/\Pz H zs l/\l.length <= 900/\∀(H':Hp),aq H H'->Q (.bl true) H'
theorem yL (T:Txt K mg A):Has P w K mg base 1 "_law_alike" ["_law_found","_law_due_here"] (xP K):=by
 refine T.pv.has ku (fun vs H Q E h=>?_) (fun f cdv A' outer s H vs Q E' hr hu h=>?_)
 ·obtain ⟨p,q,ys,zs,l,rfl,_⟩:=h
  rfl
 ·obtain ⟨p,r,ys,zs,l,rfl,hp,hr',py,pz,ln,q⟩:=h
  have ly:=Paired.length py
  have lz:=Paired.length pz
  refine ⟨_,(ae (ba (PW.pt (pw_or (qc (cK (aH cW rfl T.bu (by boot_by_name) (aa (fv 0) (aa (kI (v:=.ty "list") rfl T.di (by boot_by_name) rfl) ag))) (fun _=>rfl))) (pw_or1 (aC (wL hu) (aH b9 rfl T.cD (by boot_by_name) (aa (fv 0) ag)) (aH b9 rfl T.cD (by boot_by_name) (aa (fv 1) ag)) (aG _)))))
   (ao (aW j9))
   aT)
  (ae (d5 PassesOwn.never rfl (dG (fv 0)) (pgn (i:=2) ku.nd rfl)
   (ae (ba (PW.pt (pw_or (qc (cK (aH cW rfl T.bu (by boot_by_name) (aa (fv 2) (aa (kI (v:=.ty "tuple") rfl T.mB (by boot_by_name) rfl) ag))) (fun _=>rfl))) (pw_or1 (aC (wL hu) (aH b9 rfl T.cD (by boot_by_name) (aa (fv 2) ag)) ab (aG _)))))
    (ao (aW j9))
    aT)
   (ao (ba (qc (cK (aH Bz rfl T.tG (by boot_by_name) (aa (mF (N:=["_law_one"]) (own:=1) (fr:=[]) (cV.of (by kernel_rfl!)) rfl (dG (fv 2)) (fun b=>pgn (i:=0) (show List.Nodup (["_law_one"]:List PySem.Str) by decide +kernel) rfl) (fun b=>sj) (fun b=>vS (aH cW rfl T.bu (by boot_by_name) (aa (fv 0) (aa (kI (v:=.ty "int") rfl T.j3 (by boot_by_name) rfl) ag))) (sP (yI (aH cW rfl T.bu (by boot_by_name) (aa (fv 0) (aa (kI (v:=.ty "bool") rfl T.ql (by boot_by_name) rfl) ag))))))) ag)) (fun _=>rfl)))
    (ao (aW j9))
    aT))))
  (ao (aW (fR (bV hu) (fv 0) (fv 1) (aG _)))))),?_⟩
  refine ah fun M1 K1=>?_
  refine ⟨_,_,_,true,rfl,(fun z=>by cases z),.lst hp,Ar,true,rfl,cS ?_⟩
  refine Or.inl ⟨_,_,rfl,Or.inl ⟨_,SqL.of hp,rfl⟩,Or.inl ⟨_,_,rfl,Or.inl ⟨_,SqL.of hr',rfl⟩,?_⟩⟩
  rw [ly,lz]
  refine ⟨rfl,_,rfl,aI (fun z=>absurd z (by simp)) (fun _=>K1 _ _ ?_)⟩
  clear K1 M1
  try dsimp only
  refine ah fun M1 K1=>?_
  refine Or.inl ⟨⟨_,SqL.of hp⟩,dM (K:=K) (xs:=ys) (fun i σ Hc=>∃(v2:Option V),σ=[some (.ref p),some (.ref r),v2]/\aq H Hc) ⟨none,rfl,aq.refl _⟩ (fun i σ Hc _ ⟨_,_,z⟩=>SqL.of (z _ _ hp)) ?_ ?_⟩
  ·rintro i v σ Hc hv ⟨v2,rfl,sc⟩
   obtain ⟨⟨n,m⟩,hl,t,rfl,et0⟩:=bX py hv
   have et:=sc _ _ et0
   try dsimp only
   refine ah fun N1 J1=>?_
   refine ⟨_,_,_,true,rfl,(fun z=>by cases z),.tup et,zH,true,rfl,cS ?_⟩
   refine Or.inl ⟨_,_,rfl,Or.inr ⟨_,SqT.of et,rfl⟩,?_⟩
   refine ⟨rfl,_,rfl,aI (fun z=>absurd z (by simp)) (fun _=>J1 _ _ ?_)⟩
   clear J1 N1
   try dsimp only
   refine Or.inr ⟨⟨_,SqT.of et⟩,wO (K:=K) (fun _=>true) (fun x=>.bl true) et (aD (by show 2 <= 1000;decide)) (fun b x H2 R _ _ k=>k _ (aq.refl _)) (fun b x H4 R hx _ s4 k=>?_) (fun L H4 hL s4 e=>?_)⟩
   ·simp only [List.mem_cons,List.not_mem_nil,or_false] at hx
    rcases hx with rfl | rfl
    ·exact ⟨_,_,_,true,rfl,(fun z=>by cases z),.int n,xJ,true,rfl,gU ⟨_,_,_,false,rfl,(fun z=>by cases z),.int n,w6,false,rfl,k _ (aq.refl _)⟩⟩
    ·exact ⟨_,_,_,true,rfl,(fun z=>by cases z),.int m,xJ,true,rfl,gU ⟨_,_,_,false,rfl,(fun z=>by cases z),.int m,w6,false,rfl,k _ (aq.refl _)⟩⟩
   ·rw [qP] at e
    refine ⟨L,[true,true],rfl,SqL.of e,true,rfl,cS ?_⟩
    exact ⟨_,rfl,sc.trans s4⟩
  rintro σ Hc ⟨v2,rfl,sc⟩
  refine K1 _ _ ?_
  try dsimp only
  refine Or.inl (Or.inl ⟨_,_,.lst (SqL.of (sc _ _ hp)) ((py.same fun x w e=>sc _ _ e).rep),.lst (SqL.of (sc _ _ hr')) ((pz.same fun x w e=>sc _ _ e).rep),oX l,oX l,?_⟩)
  rw [SeqAt.eqv_refl _ (by simp only [PyData.canLay0];exact sU l)]
  exact q _ sc
mutual
theorem Bl:∀(t:Tr) (k:Nat),2 * dep (pt k t) <= (flat t).length
 | .leaf r,k=>by
  rw [pt,dep,flat]
  simp
 | .iff v l r f o,k=>by
  have h1:=lP f (k + 1)
  have h2:=lP o (k + 1 + (aP f).length + 1)
  rw [pt,dep,flat]
  simp only [List.length_cons,List.length_append,List.length_nil]
  omega
 | .loop t m l r b,k=>by
  have h1:=lP b (k + 1)
  rw [pt,dep,flat]
  simp only [List.length_cons,List.length_append,List.length_nil]
  omega
theorem lP:∀(ts:List Tr) (k:Nat),2 * jL (pts k ts) <= (aP ts).length
 | [],k=>by
  rw [pts,jL,aP]
  simp
 | t :: ts,k=>by
  have h1:=Bl t k
  have h2:=lP ts (k + (flat t).length)
  rw [pts,jL,aP,List.length_append]
  omega
end
mutual
theorem CZ:∀(t:Tr) (k:Nat),∀x ∈ pt k t :: dE (pt k t),(k:Int) < x.no/\x.no <= k + (flat t).length
 | .leaf r,k,x,m=>by
  rw [pt,dE] at m
  rw [flat,List.mem_singleton.mp m]
  show (k:Int) < (k:Int) + 1/\(k:Int) + 1 <= k + ([r].length:Nat)
  simp
  omega
 | .iff v l r f o,k,x,m=>by
  rw [pt,dE] at m
  rw [flat]
  simp only [List.length_cons,List.length_append,List.length_nil]
  rcases List.mem_cons.mp m with e | m
  ·rw [e]
   show (k:Int) < (k:Int) + 1/\(k:Int) + 1 <= _
   omega
  ·rcases List.mem_append.mp m with m | m
   ·have:=ph f (k + 1) x m
    omega
   ·have:=ph o (k + 1 + (aP f).length + 1) x m
    omega
 | .loop t m' l r b,k,x,m=>by
  rw [pt,dE] at m
  rw [flat]
  simp only [List.length_cons,List.length_append,List.length_nil]
  rcases List.mem_cons.mp m with e | m
  ·rw [e]
   show (k:Int) < (k:Int) + 1/\(k:Int) + 1 <= _
   omega
  ·have:=ph b (k + 1) x m
   omega
theorem ph:∀(ts:List Tr) (k:Nat),∀x ∈ bB (pts k ts),(k:Int) < x.no/\x.no <= k + (aP ts).length
 | [],k,x,m=>by
  rw [pts,bB] at m
  cases m
 | t :: ts,k,x,m=>by
  rw [pts,bB,<- List.cons_append] at m
  rw [aP,List.length_append]
  rcases List.mem_append.mp m with m | m
  ·have:=CZ t k x m
   omega
  ·have:=ph ts (k + (flat t).length) x m
   omega
end
mutual
theorem A4:∀(t:Tr) (k:Nat),(dE (pt k t)).length + 1 <= (flat t).length
 | .leaf r,k=>by
  rw [pt,dE,flat]
  simp
 | .iff v l r f o,k=>by
  have h1:=lH f (k + 1)
  have h2:=lH o (k + 1 + (aP f).length + 1)
  rw [pt,dE,flat]
  simp only [List.length_cons,List.length_append,List.length_nil]
  omega
 | .loop t m l r b,k=>by
  have h1:=lH b (k + 1)
  rw [pt,dE,flat]
  simp only [List.length_cons,List.length_append,List.length_nil]
  omega
theorem lH:∀(ts:List Tr) (k:Nat),(bB (pts k ts)).length <= (aP ts).length
 | [],k=>by
  rw [pts,bB,aP]
  simp
 | t :: ts,k=>by
  have h1:=A4 t k
  have h2:=lH ts (k + (flat t).length)
  rw [pts,bB,aP]
  simp only [List.length_cons,List.length_append]
  omega
end
mutual
theorem BC {ns tg:List Nat}{dd:List Dl}:∀(t:Tr),t.ok ns tg dd->∀r ∈ flat t,hdK r=none/\∀h,ky r=some h->h ∈ [0,1,2,11,12]
 | .leaf r,ok,x,m=>by
  unfold Tr.ok at ok
  rw [flat] at m
  rw [List.mem_singleton.mp m]
  cases r with
  | snd h val =>
   refine ⟨rfl,fun y e=>?_⟩
   cases e
   have:=ok.1
   simp only [List.mem_cons,List.not_mem_nil,or_false] at this ⊢
   omega
  | say x val m =>
   refine ⟨rfl,fun y e=>?_⟩
   cases e
   have:=ok.2.2
   simp only [List.mem_cons,List.not_mem_nil,or_false] at this ⊢
   omega
  | hand _ _=>exact ok.elim
  | lt _ _=>exact ok.elim
  | _=>exact ⟨rfl,fun y e=>by cases e⟩
 | .iff v l r f o,ok,x,m=>by
  unfold Tr.ok at ok
  rw [flat] at m
  simp only [List.mem_cons,List.mem_append,List.not_mem_nil,or_false] at m
  rcases m with e | m | e | m | e
  ·rw [e];exact ⟨rfl,fun y e=>by cases e⟩
  ·exact lG f ok.2.2.2.1 x m
  ·rw [e];exact ⟨rfl,fun y e=>by cases e⟩
  ·exact lG o ok.2.2.2.2 x m
  ·rw [e];exact ⟨rfl,fun y e=>by cases e⟩
 | .loop t m' l r b,ok,x,m=>by
  unfold Tr.ok at ok
  rw [flat] at m
  simp only [List.mem_cons,List.mem_append,List.not_mem_nil,or_false] at m
  rcases m with e | m | e
  ·rw [e];exact ⟨rfl,fun y e=>by cases e⟩
  ·exact lG b ok.2.2.2.2.2 x m
  ·rw [e];exact ⟨rfl,fun y e=>by cases e⟩
theorem lG {ns tg:List Nat}{dd:List Dl}:∀(ts:List Tr),df ns tg dd ts->∀r ∈ aP ts,hdK r=none/\∀h,ky r=some h->h ∈ [0,1,2,11,12]
 | [],ok,x,m=>by
  rw [aP] at m
  cases m
 | t :: ts,ok,x,m=>by
  unfold df at ok
  rw [aP] at m
  rcases List.mem_append.mp m with m | m
  ·exact BC t ok.1 x m
  ·exact lG ts ok.2 x m
end
end
section
variable {P:Program}{w:World}{K:W.Frag}{mg:Str->Option Value}{base:Heap}{A:Adr}{N:Nat->Str}
seal PE PA PS PSs PT PW
theorem wF:∀(ds:List Dl) (bs:List (List Tr)) (k:Nat),∀p ∈ ptD k ds bs,sN p/\2 * jL (qZ p) <= (bU ds bs).length
 | [],_,k,p,m=>by
  rw [ptD] at m
  ·cases m
  ·intros;contradiction
 | d :: ds,[],k,p,m=>by
  rw [ptD] at m
  ·cases m
  ·intros;contradiction
 | d :: ds,b :: bs,k,p,m=>by
  rw [ptD] at m
  rw [bU]
  simp only [List.length_cons,List.length_append]
  rcases List.mem_cons.mp m with e | m
  ·rw [e]
   have:=lP b (k + 1)
   exact ⟨True.intro,by show 2 * jL (pts (k + 1) b) <= _;omega⟩
  ·have:=wF ds bs _ p m
   exact ⟨this.1,by omega⟩
theorem wt:∀(ds:List Dl) (bs:List (List Tr)) (k:Nat),∀x ∈ cR (ptD k ds bs),(k:Int) < x.no/\x.no <= k + (bU ds bs).length
 | [],_,k,p,m=>by
  rw [ptD] at m
  ·cases m
  ·intros;contradiction
 | d :: ds,[],k,p,m=>by
  rw [ptD] at m
  ·cases m
  ·intros;contradiction
 | d :: ds,b :: bs,k,p,m=>by
  rw [ptD] at m
  rw [bU]
  simp only [List.length_cons,List.length_append]
  have m:p ∈ bB (pts (k + 1) b) ++ cR (ptD (k + 1 + (aP b).length + 1) ds bs):=m
  rcases List.mem_append.mp m with m | m
  ·have:=ph b (k + 1) p m
   omega
  ·have:=wt ds bs _ p m
   omega
theorem uy:∀(ds:List Dl) (bs:List (List Tr)) (k:Nat),(cR (ptD k ds bs)).length <= (bU ds bs).length
 | [],_,k=>by
  rw [ptD]
  ·exact Nat.zero_le _
  ·intros;contradiction
 | d :: ds,[],k=>by
  rw [ptD]
  ·exact Nat.zero_le _
  ·intros;contradiction
 | d :: ds,b :: bs,k=>by
  rw [ptD,bU]
  have h1:=lH b (k + 1)
  have h2:=uy ds bs (k + 1 + (aP b).length + 1)
  show (bB (pts (k + 1) b) ++ cR (ptD (k + 1 + (aP b).length + 1) ds bs)).length <= _
  simp only [List.length_cons,List.length_append]
  omega
theorem Cd:∀(ds:List Dl) (bs:List (List Tr)),(∀b ∈ bs,∃ns tg dd,df ns tg dd b)->∀r ∈ bU ds bs,hdK r=none/\∀h,ky r=some h->h ∈ [0,1,2,11,12]
 | [],_,_,p,m=>by
  rw [bU] at m
  ·cases m
  ·intros;contradiction
 | d :: ds,[],_,p,m=>by
  rw [bU] at m
  ·cases m
  ·intros;contradiction
 | d :: ds,b :: bs,ok,p,m=>by
  rw [bU] at m
  simp only [List.mem_cons,List.mem_append] at m
  obtain ⟨ns,tg,dd,ob⟩:=ok b List.mem_cons_self
  rcases m with e | m | e | m
  ·rw [e];exact ⟨rfl,fun y e=>by cases e⟩
  ·exact lG b ob p m
  ·rw [e];exact ⟨rfl,fun y e=>by cases e⟩
  ·exact Cd ds bs (fun x hx=>ok x (List.mem_cons_of_mem _ hx)) p m
theorem wJ:∀{rs:List Lr}{k:Nat}{p:Int × Nat},p ∈ LL k rs->∃r ∈ rs,ky r=some p.2
 | r :: rs,k,p,m=>by
  have m:p ∈ (match ky r with | some h=>[((k:Int) + 1,h)] | none=>[]) ++ LL (k + 1) rs:=m
  rcases List.mem_append.mp m with m | m
  ·cases e:ky r with
   | none=>rw [e] at m;cases m
   | some h =>
    rw [e] at m
    have:=List.mem_singleton.mp m
    exact ⟨r,List.mem_cons_self,by rw [e,this]⟩
  ·obtain ⟨r',h1,h2⟩:=wJ m
   exact ⟨r',List.mem_cons_of_mem _ h1,h2⟩
theorem uh (N:Nat->Str) (h:Nat):∀(rs:List Lr) (kvs:List (Key × V)),((∃m:Int,L2.cF kvs (.inr (N h))=some (.int m)) \/ ∃r ∈ rs,∃n,hdK r=some (h,n))->∃m:Int,L2.cF (rs.foldl (rkS N) kvs) (.inr (N h))=some (.int m)
 | [],kvs,c=>by
  rcases c with c | ⟨r,m,_⟩
  ·exact c
  ·cases m
 | r :: rs,kvs,c=>by
  refine uh N h rs (rkS N kvs r) ?_
  unfold rkS
  rcases c with ⟨m,c⟩ | ⟨r',m,n,c⟩
  ·refine .inl ?_
   cases e:hdK r with
   | none=>exact ⟨m,c⟩
   | some x =>
    obtain ⟨i,y⟩:=x
    dsimp only
    rw [L2.qK]
    split
    ·exact ⟨y,rfl⟩
    ·exact ⟨m,c⟩
  ·rcases List.mem_cons.mp m with e | m
   ·subst e
    refine .inl ⟨n,?_⟩
    rw [c]
    dsimp only
    rw [L2.qK,if_pos rfl]
   ·exact .inr ⟨r',m,n,c⟩
theorem qB (N:Nat->Str):∀(rs:List Lr) (kvs:List (Key × V)),(∀r ∈ rs,hdK r=none)->rs.foldl (rkS N) kvs=kvs
 | [],kvs,_=>rfl
 | r :: rs,kvs,h=>by
  have e:rkS N kvs r=kvs:=by
   unfold rkS
   rw [h r List.mem_cons_self]
  rw [List.foldl_cons,e]
  exact qB N rs kvs fun x hx=>h x (List.mem_cons_of_mem _ hx)
def yF (N:Nat->Str) (hds:List Lr) (h:Nat):Int:=match L2.cF (rks N hds) (.inr (N h)) with
 | some (.int m)=>m
 | _=>0
theorem jD {t:Nat}{xs:List Lr}{r:Lr}:r ∈ rot t xs ↔ r ∈ xs:=by
 unfold rot
 rw [List.mem_append]
 constructor
 ·rintro (h | h)
  ·exact List.mem_of_mem_drop h
  ·exact List.mem_of_mem_take h
 ·intro h
  rw [<- List.take_append_drop t xs] at h
  rcases List.mem_append.mp h with h | h
  ·exact .inr h
  ·exact .inl h
theorem Ca {t:Nat}{rk:Nat->Int}{z:Int}{h:Nat} (m:h ∈ [0,1,2,11,12]):L2.cF (rks N (rot t (cw rk z))) (.inr (N h))=some (.int (yF N (rot t (cw rk z)) h)):=by
 have e:∃r ∈ rot t (cw rk z),∃n,hdK r=some (h,n):=by
  simp only [List.mem_cons,List.not_mem_nil,or_false] at m
  rcases m with rfl | rfl | rfl | rfl | rfl
  ·exact ⟨.hand 0 0,jD.mpr (by simp [cw]),_,rfl⟩
  ·exact ⟨.hand 1 1,jD.mpr (by simp [cw]),_,rfl⟩
  ·exact ⟨.hand 2 2,jD.mpr (by simp [cw]),_,rfl⟩
  ·exact ⟨.lt 11 (rk 3),jD.mpr (by simp [cw]),_,rfl⟩
  ·exact ⟨.lt 12 (rk 4 % 2),jD.mpr (by simp [cw]),_,rfl⟩
 obtain ⟨v,hv⟩:=uh N h (rot t (cw rk z)) [] (.inr e)
 unfold yF
 rw [show L2.cF (rks N (rot t (cw rk z))) (.inr (N h))=some (.int v) from hv]
theorem Bm {t:Nat}{rk:Nat->Int}{z:Int}{r:Lr} (m:r ∈ rot t (cw rk z)):ky r=none:=by
 have m:=jD.mp m
 simp only [cw,List.mem_cons,List.not_mem_nil,or_false] at m
 rcases m with e | e | e | e | e | e | e | e | e | e | e | e | e <;> (rw [e];rfl)
end
section
variable {P:Program}{w:World}{K:W.Frag}{mg:Str->Option Value}{base:Heap}{A:Adr}{N:Nat->Str}
seal PE PA PS PSs PT PW
structure Bs (N:Nat->Str) (lrs body:List Lr) (rs:List Lr) (n:Nat) (ds ms:List Pt) (rv:Nat->Int):Prop where
 e:lrs=body ++ [.fin]
 st:hX 0 ⟨[],[],[]⟩ body ⟨lfs 0 rs,ds,[⟨(n:Int) + 1,.main,[],ms⟩]⟩
 l:lrs.length <= 200
 dm:BO N rs ds ms rv
 due:∀i r h,lrs[i]?=some r->ky r=some h->L2.cF (rks N (lrs.take i)) (.inr (N h))=some (.int (rv h))
 same:(cR ds ++ bB ms).filterMap dq=LL 0 lrs
theorem AF (N:Nat->Str) {ev:Bool}{lim:Int}{lrs:List Lr}{rk:Nat->Int}{z:Int}{t:Nat}{dls:List Dl}{bss:List (List Tr)}{mb:List Tr} (D:zJ ev lim lrs rk z t dls bss mb):∃body rs n ds ms rv,Bs N lrs body rs n ds ms rv:=by
 obtain ⟨body,e,n,st,en⟩:=vX D
 have okb:∀b ∈ bss,∃ns tg dd,df ns tg dd b:=fun b hb=>by
  obtain ⟨j,hj⟩:=List.getElem?_of_mem hb
  have jl:j < dls.length:=by
   rw [D.dd.len]
   exact (List.getElem?_eq_some_iff.mp hj).1
  exact ⟨_,_,_,(D.dd.bs j _ b (List.getElem?_eq_getElem jl) hj).1⟩
 obtain ⟨hds,hh⟩:∃hds,hds=rot t (cw rk z):=⟨_,rfl⟩
 have hky:∀r ∈ hds,ky r=none:=fun r m=>Bm (by rw [<- hh];exact m)
 have hrv:∀h,h ∈ [0,1,2,11,12]->L2.cF (rks N hds) (.inr (N h))=some (.int (yF N hds h)):=fun h m=>by rw [hh];exact Ca m
 have De:=D.e
 rw [<- hh] at st en De
 have ll:lrs.length=hds.length + (bU dls bss).length + (1 + ((aP mb).length + 1)):=by
  rw [De]
  simp
  omega
 have l:=D.l
 have same:(cR (ptD hds.length dls bss) ++ bB (pts (n + 1) mb)).filterMap dq=LL 0 lrs:=by
  rw [De,gq,gq,rD hky,List.nil_append,c9 rfl,gq,c9 rfl,show ∀k,LL k []=[] from fun _=>rfl,List.append_nil,List.filterMap_append,Bv,pk,en]
  simp
 have tail:∀r ∈ bU dls bss ++ (.main :: (aP mb ++ [.fin])),hdK r=none/\∀h,ky r=some h->h ∈ [0,1,2,11,12]:=fun r m=>by
  simp only [List.mem_append,List.mem_cons,List.not_mem_nil,or_false] at m
  rcases m with m | e | m | e
  ·exact Cd _ _ okb r m
  ·rw [e];exact ⟨rfl,fun y e=>by cases e⟩
  ·exact lG mb D.ob r m
  ·rw [e];exact ⟨rfl,fun y e=>by cases e⟩
 have De2:lrs=hds ++ (bU dls bss ++ (.main :: (aP mb ++ [.fin]))):=by rw [De];simp
 have key:∀r ∈ lrs,∀h,ky r=some h->h ∈ [0,1,2,11,12]:=fun r m h hk=>by
  rw [De2] at m
  rcases List.mem_append.mp m with m | m
  ·rw [hky r m] at hk;cases hk
  ·exact (tail r m).2 h hk
 refine ⟨body,hds,n,ptD hds.length dls bss,pts (n + 1) mb,yF N hds,e,st,l,⟨?_,?_,?_,?_,?_,?_,?_⟩,?_,same⟩
 ·intro p m
  obtain ⟨h1,h2⟩:=wF dls bss hds.length p m
  exact ⟨h1,by omega⟩
 ·have:=lP mb (n + 1)
  omega
 ·intro x m
  rcases List.mem_append.mp m with m | m
  ·have:=wt dls bss hds.length x m
   omega
  ·have:=ph mb (n + 1) x m
   omega
 ·have h1:=uy dls bss hds.length
  have h2:=lH mb (n + 1)
  rw [List.length_append]
  omega
 ·omega
 ·intro p m
  rw [same] at m
  obtain ⟨r,h1,h2⟩:=wJ m
  exact hrv _ (key r h1 _ h2)
 ·rw [same]
  exact (zk lrs 0).2
 ·intro i r h hi hk
  have ge:hds.length <= i:=by
   by_cases c:i < hds.length
   ·rw [De2,List.getElem?_append_left c] at hi
    rw [hky r (List.mem_of_getElem? hi)] at hk
    cases hk
   ·omega
  have mr:r ∈ lrs:=List.mem_of_getElem? hi
  have e2:rks N (lrs.take i)=rks N hds:=by
   rw [De2,List.take_append,List.take_of_length_le ge]
   unfold rks
   rw [List.foldl_append]
   exact qB N _ _ fun x hx=>(tail x (List.mem_of_mem_take hx)).1
  rw [e2]
  exact hrv h (key r mr h hk)
def p7 (K:W.Frag):Sp:=fun vs H Q _=>∃(a:Addr) (ns:List Int),vs=[.ref a]/\SqL K H a (ns.map V.int)/\ns.length <= 63/\∀H',Q (.bl true) H'
theorem BB (T:Txt K mg A) (F:b8 K mg "law" nI ["_law_script"]):Has P w K mg base 210 "law" ["_law_script"] (p7 K):=by
 have D_law_cell_at:=sH (P:=P) (w:=w) (base:=base) T
 have D_law_drawn:=yc (P:=P) (w:=w) (base:=base) T
 have D_law_tree:=zR (P:=P) (w:=w) (base:=base) T
 have D_law_due:=BI (P:=P) (w:=w) (base:=base) T
 have D_law_alike:=yL (P:=P) (w:=w) (base:=base) T
 have D_demands:=uM (P:=P) (w:=w) (base:=base) T
 refine F.has (k:=209) mP (fun vs H Q E h=>?_) (fun f cdv A' outer s0 H vs Q E hr hu h=>?_)
 ·obtain ⟨a,ns,rfl,_⟩:=h
  rfl
 ·obtain ⟨a,ns,rfl,hA,hlen,q⟩:=h
  refine ⟨_,(ae (ay (i:=1) mP.nd rfl (Or.inl rfl) (au D_law_drawn hr (aa (fv 0) (aa (ax cC (au D_law_cell_at hr (aa (fv 0) (aa ab ag))) ab) (aa (fR (bV hu) (ax cC (ax dz (au D_law_cell_at hr (aa (fv 0) (aa ab ag))) ab) ab) ab (aG _)) (aa ab ag))))))
  (ae (ay (i:=2) mP.nd rfl (Or.inl rfl) (au D_law_tree hr (aa (fv 1) ag)))
  (ae (ay (i:=3) mP.nd rfl (Or.inl rfl) (au D_law_due hr (aa (fv 1) ag)))
  (ae (ay (i:=4) mP.nd rfl (Or.inl rfl) (au D_demands hr (aa (fv 2) ag)))
  (ae (ba (qc (cK (au D_law_alike hr (aa (fv 4) (aa (fv 3) ag))) (fun _=>rfl)))
   (ao (aW j9))
   aT)
  (ae (aL (bW (fv 4) (aa (bf (aa ab (aa ab ag))) ag)))
  (ao (aW (au D_law_alike hr (aa (au D_demands hr (aa (fv 2) ag)) (aa (fv 3) ag))))))))))),?_⟩
  refine ah fun M1 K1=>?_
  refine ⟨a,ns,0,rfl,hA,by decide,(by show (0:Int) < 3;decide),a,ns,0,rfl,hA,by decide,⟨by decide,by decide⟩,(by show (0:Int) < 2;decide),rfl,?_⟩
  refine ⟨a,ns,_,_,900,rfl,hA,fun LR rows lrs rk z t dls bss mb H1 s1 hLR eLR pr D=>K1 _ _ ?_⟩
  clear K1 M1
  obtain ⟨N,hN⟩:∃N,N=nmV (cellAt ns 1):=⟨_,rfl⟩
  rw [<- hN] at pr
  obtain ⟨body,rs,n,ds,ms,rv,O⟩:=AF N D
  have pr1:Paired (bK N H1) rows lrs:=Paired.dC pr fun _ _ l=>l.same bG
  have pr2:=pr1
  rw [O.e] at pr2
  have bl:body.length <= 500:=by
   have:=O.l
   rw [O.e,List.length_append] at this
   omega
  try dsimp only
  refine ah fun M1 K1=>?_
  refine ⟨N,LR,rows,body,_,_,_,ds,ms,rfl,eLR,pr2,O.st,bl,fun v H2 s2 pg=>K1 _ _ ?_⟩
  clear K1 M1
  try dsimp only
  refine ah fun M1 K1=>?_
  refine ⟨N,LR,rows,lrs,rv,rfl,s2 _ _ eLR,Paired.dC pr1 fun _ _ l=>l.same s2,by have:=O.l;omega,O.due,fun F ys H3 s3 hF eF py=>K1 _ _ ?_⟩
  clear K1 M1
  have pg3:=pg.same s3
  have ll:(tl rv (LL 0 lrs)).length <= 900:=by
   unfold tl
   rw [List.length_map]
   have:=rN lrs 0
   have:=O.l
   omega
  try dsimp only
  refine ah fun M1 K1=>?_
  refine ⟨N,H3,v,rs,ds,ms,rv,rfl,aq.refl _,pg3,O.dm,fun R zs H4 s4 hR eR pz=>K1 _ _ ?_⟩
  clear K1 M1
  rw [O.same] at pz
  try dsimp only
  refine ah fun M1 K1=>?_
  refine ⟨R,F,zs,ys,_,rfl,eR,s4 _ _ eF,pz,py.same fun x w e=>s4 _ _ e,ll,fun H5 s5=>⟨true,rfl,cS (K1 _ _ ?_)⟩⟩
  clear K1 M1
  have eR5:=s5 _ _ eR
  have lz:zs.length <= 900:=by
   have:=Paired.length pz
   omega
  try dsimp only
  refine ah fun M1 K1=>?_
  refine ⟨Or.inl ⟨rfl,_,SqL.of eR5⟩,by show 2 <= sizeLine;decide,fun t2 ht2=>?_⟩
  have t2R:t2 ≠ R:=fresh_ne ht2 eR5
  refine ⟨_,_,_,rfl,rfl,af t2R.symm eR5,aD (by omega),K1 _ _ ?_⟩
  clear K1 M1
  have s6:aq H3 (upd (upd H5 t2 (.tup [.int 0,.int 0])) R (.lst (zs ++ [.ref t2]))):=aq.out ((s4.trans s5).trans (aq.upd ht2 _)) hR _
  generalize upd (upd H5 t2 (.tup [.int 0,.int 0])) R (.lst (zs ++ [.ref t2]))=H6 at s6 ⊢
  try dsimp only
  refine ⟨N,H3,v,rs,ds,ms,rv,rfl,s6,pg3,O.dm,fun R2 xs H7 s7 hR2 eR2 px=>?_⟩
  rw [O.same] at px
  exact ⟨R2,F,xs,ys,_,rfl,eR2,(s6.trans s7) _ _ eF,px,py.same fun x w e=>(s6.trans s7) _ _ e,ll,fun H8 _=>q H8⟩
end
abbrev FnI (K:W.Frag) (f:Addr) (x y:Str) (s:Stmt):Prop:=∃(oc:Value) (od:Option Addr) (kV dc pm:Value) (an:Option Addr) (cd ct:Value) (sl:Array (Option Value)),K.lookup f=some ⟨oc,od,.func (W.fnOf x y (da s) (cG s) (av s) .none kV dc pm an cd ct),sl⟩/\W.codeIn K cd y=true/\W.keepIn K (.ref f)=true
abbrev dB (K:W.Frag) (x:Str) (s:Stmt):Prop:=∃f,W.nsIn K mainGlobals x=some (some (.ref f))/\FnI K f x x s
abbrev jK (K:W.Frag) (C:Addr) (m q:Str) (s:Stmt):Prop:=∃f,W.findIn K (.ref C) m=some (some (.ref f))/\W.isFn K (.ref f)=true/\FnI K f m q s
abbrev jM (K:W.Frag) (C:Addr) (x:Str) (up:List Addr):Prop:=W.nsIn K mainGlobals x=some (some (.ref C))/\(∃cd,W.clsIn K C=some cd/\cd.mro=up.map Value.ref ++ [Value.type "object"])/\W.plainGet K C Str.empty=true/\W.hasDictIn K C=true/\W.plainOver K C=true/\W.findIn K (.ref C) "__setattr__"=some (some (.builtin "object.__setattr__"))/\W.typeIn K (.ref C)=some (.type "type")/\W.findIn K (.ref C) "__class__"=some (some (.builtin "object.__class__"))/\W.makesIn K C=true/\W.keepIn K (.ref C)=true
abbrev NsI (K:W.Frag) (x:Str):Prop:=W.nsIn K mainGlobals x=some none
abbrev NoI (K:W.Frag) (C:Addr) (x:Str):Prop:=W.findIn K (.ref C) x=some none
section
variable {K:W.Frag}{mg:Str->Option Value}{h:Heap}{x m q:Str}{s:Stmt}{ps:List Str}{C:Addr}{up:List Addr}
theorem dF (X:K.In h) (G:h.Ns mainGlobals mg) (t:dB K x s) (b:∀(kV doc pm:Value) (an:Option Addr) (cdv ct:Value) (us:List Value),us.length=ps.length->bindArgs (W.fnOf x x (da s) (cG s) (av s) .none kV doc pm an cdv ct) ⟨us,[]⟩=pure (ps.zip us)):b8 K mg x s ps:=by
 obtain ⟨f,a,_,_,_,_,_,_,_,_,_,l,c,k⟩:=t
 exact vM X G a l c k b
theorem ka (t:jK K C m q s) (b:∀(kV doc pm:Value) (an:Option Addr) (cdv ct:Value) (us:List Value),us.length=ps.length->bindArgs (W.fnOf m q (da s) (cG s) (av s) .none kV doc pm an cdv ct) ⟨us,[]⟩=pure (ps.zip us)):MFn K C m q s ps:=by
 obtain ⟨f,a,i,_,_,_,_,_,_,_,_,_,l,c,k⟩:=t
 exact zU a i l c k b
theorem kq (X:K.In h) (G:h.Ns mainGlobals mg) (cg:W.specialIn K (.builtin "object.__class__") "__get__"=some (some (.builtin "getset_descriptor.__get__"))) (ct:W.takesIn K (.builtin "object.__class__")=some true) (t:jM K C x up):dI K mg C x up:=by
 obtain ⟨a,b,c,d,e,f,g,i,j,k⟩:=t
 exact ⟨W.mg_of X G a,⟨c,d,e,f⟩,b,g,i,cg,ct,j,k⟩
end
theorem ar0 {p:List Value->Prop} (h:p []):∀us:List Value,us.length=0->p us:=fun us e=>by
 cases us with
 | nil=>exact h
 | cons b t=>cases e
theorem arS {p:List Value->Prop}{n:Nat} (h:∀a,∀us:List Value,us.length=n->p (a :: us)):∀us:List Value,us.length=n + 1->p us:=fun us e=>by
 cases us with
 | nil=>cases e
 | cons b t=>exact h b t (Nat.succ.inj e)
theorem ar1 {p:List Value->Prop} (h:∀a0,p [a0]):∀us:List Value,us.length=1->p us:=arS fun a0=>ar0 (h a0)
theorem ar2 {p:List Value->Prop} (h:∀a0 a1,p [a0,a1]):∀us:List Value,us.length=2->p us:=arS fun a0=>arS fun a1=>ar0 (h a0 a1)
theorem ar3 {p:List Value->Prop} (h:∀a0 a1 a2,p [a0,a1,a2]):∀us:List Value,us.length=3->p us:=arS fun a0=>arS fun a1=>arS fun a2=>ar0 (h a0 a1 a2)
theorem ar4 {p:List Value->Prop} (h:∀a0 a1 a2 a3,p [a0,a1,a2,a3]):∀us:List Value,us.length=4->p us:=arS fun a0=>arS fun a1=>arS fun a2=>arS fun a3=>ar0 (h a0 a1 a2 a3)
theorem ar5 {p:List Value->Prop} (h:∀a0 a1 a2 a3 a4,p [a0,a1,a2,a3,a4]):∀us:List Value,us.length=5->p us:=arS fun a0=>arS fun a1=>arS fun a2=>arS fun a3=>arS fun a4=>ar0 (h a0 a1 a2 a3 a4)
theorem ar7 {p:List Value->Prop} (h:∀a0 a1 a2 a3 a4 a5 a6,p [a0,a1,a2,a3,a4,a5,a6]):∀us:List Value,us.length=7->p us:=arS fun a0=>arS fun a1=>arS fun a2=>arS fun a3=>arS fun a4=>arS fun a5=>arS fun a6=>ar0 (h a0 a1 a2 a3 a4 a5 a6)
theorem all_mk {l:W.OpenLaw}{w:World}{K:W.Frag}{h:Heap}{mg:Str->Option Value}{fa:Addr} (A:Adr) (X:K.In h) (G:h.Ns mainGlobals mg) (hfa:mg "law"=some (.ref fa))
 (t1:dB K "row_place" jr) (t2:dB K "laid_rows" je) (t3:dB K "laid_inside" gw) (t4:dB K "laid_program" fJ)
 (t5:dB K "ranks_told" g8) (t6:dB K "demands" lE) (t7:dB K "_law_cell_at" gF) (t8:dB K "_law_mix" lB)
 (t9:dB K "_law_name" kb) (t10:dB K "_law_number" hW) (t11:dB K "_law_heads" iR) (t12:dB K "_law_fit" lN)
 (t13:dB K "_law_thing" jn) (t14:dB K "_law_value" i8) (t15:dB K "_law_add" kY) (t16:dB K "_law_said" kj)
 (t17:dB K "_law_plain" iO) (t18:dB K "_law_opened" ip) (t19:dB K "_law_closed" hJ) (t20:dB K "_law_else" ko)
 (t21:dB K "_law_called" g7) (t22:dB K "_law_turned" hU) (t23:dB K "_law_body" ke) (t24:dB K "_law_drawn" jo)
 (t25:dB K "_law_plain_row" eJ) (t26:dB K "_law_nested_row" dU) (t27:dB K "_law_tree" kh) (t28:dB K "_law_due" lg)
 (t29:dB K "_law_alike" jk) (t30:dB K "law" nI) (tG:NsI K "all") (ql:NsI K "bool")
 (j3:NsI K "int") (bu:NsI K "isinstance") (cD:NsI K "len") (di:NsI K "list")
 (mT:NsI K "max") (fP:NsI K "range") (kD:NsI K "sorted") (tF:NsI K "str")
 (uA:NsI K "sum") (mB:NsI K "tuple") (tE:NsI K "zip") (cg:W.specialIn K (.builtin "object.__class__") "__get__"=some (some (.builtin "getset_descriptor.__get__")))
 (ct:W.takesIn K (.builtin "object.__class__")=some true) (x_Row:jM K A.Row "Row" [A.Row]) (x_HandRow:jM K A.bC "HandRow" [A.bC,A.Row]) (x_GivenRow:jM K A.a8 "GivenRow" [A.a8,A.Row])
 (x_OwnRow:jM K A.b7 "OwnRow" [A.b7,A.Row]) (x_LetRow:jM K A.bY "LetRow" [A.bY,A.Row]) (x_SetRow:jM K A.b5 "SetRow" [A.b5,A.Row]) (x_PutRow:jM K A.bN "PutRow" [A.bN,A.Row])
 (x_SendRow:jM K A.bx "SendRow" [A.bx,A.Row]) (x_SayRow:jM K A.bM "SayRow" [A.bM,A.Row]) (x_CallRow:jM K A.bz "CallRow" [A.bz,A.Row]) (x_LastRow:jM K A.cH "LastRow" [A.cH,A.Row])
 (x_IfRow:jM K A.bH "IfRow" [A.bH,A.Row]) (x_LoopRow:jM K A.aZ "LoopRow" [A.aZ,A.Row]) (x_DeedRow:jM K A.bj "DeedRow" [A.bj,A.Row]) (x_Program:jM K A.Program "Program" [A.Program])
 (m1:jK K A.Row "__init__" "Row.__init__" d6) (m2:jK K A.bC "__init__" "HandRow.__init__" fC) (m3:jK K A.a8 "__init__" "GivenRow.__init__" eU) (m4:jK K A.b7 "__init__" "OwnRow.__init__" fZ)
 (m5:jK K A.bY "__init__" "LetRow.__init__" gy) (m6:jK K A.b5 "__init__" "SetRow.__init__" gI) (m7:jK K A.bN "__init__" "PutRow.__init__" gi) (m8:jK K A.bx "__init__" "SendRow.__init__" fH)
 (m9:jK K A.bM "__init__" "SayRow.__init__" gH) (m10:jK K A.bz "__init__" "CallRow.__init__" fD) (m11:jK K A.cH "__init__" "Row.__init__" d6) (m12:jK K A.bH "__init__" "IfRow.__init__" ig)
 (m13:jK K A.aZ "__init__" "LoopRow.__init__" fL) (m14:jK K A.bj "__init__" "DeedRow.__init__" fG) (m15:jK K A.Program "__init__" "Program.__init__" fw) (n1:NoI K A.bC "name")
 (n2:NoI K A.bC "rank") (n3:NoI K A.bC "number") (n4:NoI K A.a8 "name") (n5:NoI K A.a8 "rank")
 (n6:NoI K A.a8 "size") (n7:NoI K A.a8 "number") (n8:NoI K A.b7 "name") (n9:NoI K A.b7 "size")
 (n10:NoI K A.b7 "number") (n11:NoI K A.bY "name") (n12:NoI K A.bY "rank") (n13:NoI K A.bY "number")
 (n14:NoI K A.b5 "name") (n15:NoI K A.b5 "value") (n16:NoI K A.b5 "number") (n17:NoI K A.bN "name")
 (n18:NoI K A.bN "place") (n19:NoI K A.bN "value") (n20:NoI K A.bN "number") (n21:NoI K A.bx "name")
 (n22:NoI K A.bx "value") (n23:NoI K A.bx "number") (n24:NoI K A.bM "name") (n25:NoI K A.bM "value")
 (n26:NoI K A.bM "mark") (n27:NoI K A.bM "number") (n28:NoI K A.bz "name") (n29:NoI K A.bz "things")
 (n30:NoI K A.bz "number") (n31:NoI K A.cH "number") (n32:NoI K A.bH "value") (n33:NoI K A.bH "first")
 (n34:NoI K A.bH "other") (n35:NoI K A.bH "left") (n36:NoI K A.bH "right") (n37:NoI K A.bH "number")
 (n38:NoI K A.aZ "thing") (n39:NoI K A.aZ "most") (n40:NoI K A.aZ "body") (n41:NoI K A.aZ "left")
 (n42:NoI K A.aZ "right") (n43:NoI K A.aZ "number") (n44:NoI K A.bj "name") (n45:NoI K A.bj "parts")
 (n46:NoI K A.bj "body") (n47:NoI K A.bj "number") (n48:NoI K A.Program "heads") (n49:NoI K A.Program "deeds")
 (n50:NoI K A.Program "main") (y_Row_init:W.specialIn K (.ref A.Row) "__getattribute__"=some (some (.builtin "type.__getattribute__"))/\W.readsIn K A.Row (.type "type")=true/\∃f,W.findIn K (.ref A.Row) "__init__"=some (some (.ref f))/\W.findCls K (.ref A.Row) (.type "type") "__init__"=some (.val (.ref f))) (nod:[A.Row,A.bC,A.a8,A.b7,A.bY,A.b5,A.bN,A.bx,A.bM,A.bz,A.cH,A.bH,A.aZ,A.bj,A.Program].Nodup)
:∃fd:FuncData,(∀(s:Shared) (v:Value),BindsTo s fd ⟨[v],[]⟩ [("_law_script",v)])/\∀base:Heap,K.In base->base.Ns mainGlobals mg->kT l.prog w K mg base CX0 210 fa fd ["_law_script"] (p7 K):=by
 have T:Txt K mg A:={
  oM:=dF X G t1 fun _ _ _ _ _ _=>ar1 fun _=>rfl,lO:=dF X G t2 fun _ _ _ _ _ _=>ar3 fun _ _ _=>rfl,lT:=dF X G t3 fun _ _ _ _ _ _=>ar2 fun _ _=>rfl,
  kN:=dF X G t4 fun _ _ _ _ _ _=>ar1 fun _=>rfl,mJ:=dF X G t5 fun _ _ _ _ _ _=>ar1 fun _=>rfl,uc:=dF X G t6 fun _ _ _ _ _ _=>ar1 fun _=>rfl,
  lR:=dF X G t7 fun _ _ _ _ _ _=>ar2 fun _ _=>rfl,tI:=dF X G t8 fun _ _ _ _ _ _=>ar3 fun _ _ _=>rfl,rn:=dF X G t9 fun _ _ _ _ _ _=>ar2 fun _ _=>rfl,
  nT:=dF X G t10 fun _ _ _ _ _ _=>ar1 fun _=>rfl,pA:=dF X G t11 fun _ _ _ _ _ _=>ar2 fun _ _=>rfl,tZ:=dF X G t12 fun _ _ _ _ _ _=>ar5 fun _ _ _ _ _=>rfl,
  oZ:=dF X G t13 fun _ _ _ _ _ _=>ar4 fun _ _ _ _=>rfl,pB:=dF X G t14 fun _ _ _ _ _ _=>ar3 fun _ _ _=>rfl,tP:=dF X G t15 fun _ _ _ _ _ _=>ar3 fun _ _ _=>rfl,
  qE:=dF X G t16 fun _ _ _ _ _ _=>ar3 fun _ _ _=>rfl,pj:=dF X G t17 fun _ _ _ _ _ _=>ar4 fun _ _ _ _=>rfl,nU:=dF X G t18 fun _ _ _ _ _ _=>ar4 fun _ _ _ _=>rfl,
  mS:=dF X G t19 fun _ _ _ _ _ _=>ar1 fun _=>rfl,qW:=dF X G t20 fun _ _ _ _ _ _=>ar2 fun _ _=>rfl,nZ:=dF X G t21 fun _ _ _ _ _ _=>ar3 fun _ _ _=>rfl,
  mX:=dF X G t22 fun _ _ _ _ _ _=>ar4 fun _ _ _ _=>rfl,qD:=dF X G t23 fun _ _ _ _ _ _=>ar4 fun _ _ _ _=>rfl,oP:=dF X G t24 fun _ _ _ _ _ _=>ar4 fun _ _ _ _=>rfl,
  jX:=dF X G t25 fun _ _ _ _ _ _=>ar2 fun _ _=>rfl,iQ:=dF X G t26 fun _ _ _ _ _ _=>ar1 fun _=>rfl,qO:=dF X G t27 fun _ _ _ _ _ _=>ar1 fun _=>rfl,
  tH:=dF X G t28 fun _ _ _ _ _ _=>ar1 fun _=>rfl,pv:=dF X G t29 fun _ _ _ _ _ _=>ar2 fun _ _=>rfl,tG:=W.mg_none_of X G tG,
  ql:=W.mg_none_of X G ql,j3:=W.mg_none_of X G j3,bu:=W.mg_none_of X G bu,
  cD:=W.mg_none_of X G cD,di:=W.mg_none_of X G di,mT:=W.mg_none_of X G mT,
  fP:=W.mg_none_of X G fP,kD:=W.mg_none_of X G kD,tF:=W.mg_none_of X G tF,
  uA:=W.mg_none_of X G uA,mB:=W.mg_none_of X G mB,tE:=W.mg_none_of X G tE,
  gW:=kq X G cg ct x_Row,nA:=ka m1 fun _ _ _ _ _ _=>ar2 fun _ _=>rfl,aY:=kq X G cg ct x_HandRow,
  iT:=ka m2 fun _ _ _ _ _ _=>ar4 fun _ _ _ _=>rfl,fE:=n1,fN:=n2,
  dW:=n3,bQ:=kq X G cg ct x_GivenRow,iF:=ka m3 fun _ _ _ _ _ _=>ar5 fun _ _ _ _ _=>rfl,
  iG:=n4,iq:=n5,iJ:=n6,
  dO:=n7,cP:=kq X G cg ct x_OwnRow,jQ:=ka m4 fun _ _ _ _ _ _=>ar4 fun _ _ _ _=>rfl,
  jV:=n8,j2:=n9,eW:=n10,
  bb:=kq X G cg ct x_LetRow,jO:=ka m5 fun _ _ _ _ _ _=>ar4 fun _ _ _ _=>rfl,fW:=n11,
  gh:=n12,eK:=n13,cO:=kq X G cg ct x_SetRow,
  jT:=ka m6 fun _ _ _ _ _ _=>ar4 fun _ _ _ _=>rfl,jS:=n14,iV:=n15,
  eP:=n16,cz:=kq X G cg ct x_PutRow,j8:=ka m7 fun _ _ _ _ _ _=>ar5 fun _ _ _ _ _=>rfl,
  jR:=n17,jz:=n18,jv:=n19,
  eO:=n20,aX:=kq X G cg ct x_SendRow,jm:=ka m8 fun _ _ _ _ _ _=>ar4 fun _ _ _ _=>rfl,
  fK:=n21,iE:=n22,c8:=n23,
  a9:=kq X G cg ct x_SayRow,jW:=ka m9 fun _ _ _ _ _ _=>ar5 fun _ _ _ _ _=>rfl,jN:=n24,
  iU:=n25,fX:=n26,du:=n27,
  ck:=kq X G cg ct x_CallRow,iY:=ka m10 fun _ _ _ _ _ _=>ar4 fun _ _ _ _=>rfl,ji:=n28,
  gL:=n29,dX:=n30,cN:=kq X G cg ct x_LastRow,
  iW:=ka m11 fun _ _ _ _ _ _=>ar2 fun _ _=>rfl,dS:=n31,bo:=kq X G cg ct x_IfRow,
  kP:=ka m12 fun _ _ _ _ _ _=>ar7 fun _ _ _ _ _ _ _=>rfl,j7:=n32,gJ:=n33,
  f9:=n34,kG:=n35,j5:=n36,
  fF:=n37,aU:=kq X G cg ct x_LoopRow,iZ:=ka m13 fun _ _ _ _ _ _=>ar7 fun _ _ _ _ _ _ _=>rfl,
  iy:=n38,iS:=n39,ft:=n40,
  jj:=n41,iw:=n42,dZ:=n43,
  bT:=kq X G cg ct x_DeedRow,iX:=ka m14 fun _ _ _ _ _ _=>ar5 fun _ _ _ _ _=>rfl,fO:=n44,
  iD:=n45,fM:=n46,dY:=n47,
  dD:=kq X G cg ct x_Program,jy:=ka m15 fun _ _ _ _ _ _=>ar4 fun _ _ _ _=>rfl,eX:=n48,
  eQ:=n49,fI:=n50,bL:=⟨y_Row_init.1,y_Row_init.2.1,y_Row_init.2.2⟩,
  nd:=nod }
 have F:b8 K mg "law" nI ["_law_script"]:=dF X G t30 fun _ _ _ _ _ _=>ar1 fun _=>rfl
 obtain ⟨f,a,oc,od,kV,dc,pm,an,cd,ct,sl,lk,_,_⟩:=t30
 refine ⟨W.fnOf "law" "law" (da nI) (cG nI) (av nI) .none kV dc pm an cd ct,fun s v=>.of_eq rfl,fun base _ _=>?_⟩
 have e:=hfa.symm.trans (W.mg_of X G a)
 cases e
 exact AL (BB (P:=l.prog) (w:=w) (base:=base) T F) (W.mg_of X G a) lk
theorem walk {l:W.OpenLaw}{q:Program}{loose:List Str}{XP:(Str->Option Value)->Heap->Prop}{YP:World->Heap->Prop}{d:DefRec}{K:Params->W.Frag} (hn:l.most=some 63) (hdf:d.params.defaults=[]) (hY:∀(w:World) (h:Heap),YP w h->(K w.params).In h)
  (F:∀(w:World) (mg:Str->Option Value) (fa:Addr) (h:Heap),(K w.params).In h->h.Ns mainGlobals mg->mg d.name=some (.ref fa)->∃fd:FuncData,(∀(s:Shared) (u:Value),BindsTo s fd ⟨[u],[]⟩ [("_law_script",u)])/\∀base:Heap,(K w.params).In base->base.Ns mainGlobals mg->kT l.prog w (K w.params) mg base CX0 210 fa fd ["_law_script"] (p7 (K w.params))) :
  W.WalkO q loose XP YP l.row.toRowW d [] (fun f vs=>PySem.call f vs) :=
 L2.yf (n:=63) (k:=210) (x:="_law_script") (CX:=fun _=>CX0) (sp:=fun w=>p7 (K w.params)) hn (by decide) hdf ⟨rfl,by decide,by decide⟩ hY F (fun _ _ a ns hl _ hS=>⟨a,ns,rfl,hS,hl,fun _=>rfl⟩) fun _ _ _ _ _ z=>z
end K40
open PySem PySem.W PyProof.Rows
set_option maxRecDepth 100000 in
set_option maxHeartbeats 0 in
theorem PySem.Challenge.cw_hushrow_k40_demands_holds : PySem.Challenge.rw_hushrow_k40_demands.Holds := by
 w_on;o_law
 refine W.holds_open (q:=K40.lL) (loose:=[]) (Xt:=K40.test) (XP:=W.XL K40.lL []) (Yf:=(W.kHook K40.heapK K40.lX K40.gN).obs) (Ya:=(W.kHook K40.heapK K40.lX K40.gN).val) (YP:=(W.kHook K40.heapK K40.lX K40.gN).says) (N:=11022) K40.left (W.kHook K40.heapK K40.lX K40.gN).of (W.kHook K40.heapK K40.lX K40.gN).keeps
  (fun s e=>W.xl_of s (Bool.and_eq_true_iff.mp e).1) W.XL.keeps (by rfl) (by rfl) (by rfl) (fun s e=>W.recFacts_of (Bool.and_eq_true_iff.mp e).2) ?h4 ?h5 ?h6 ⟨rfl,rfl,rfl,rfl,rfl,by decide +kernel⟩ ?hw ?hc
 (case h4=>rfl);(case h5=>first | assumption | decide +kernel);(case h6=>decide +kernel);(case hw=>w_witness2)
 k_fill
 refine K40.walk (l:=PySem.Challenge.rw_hushrow_k40_demands) rfl rfl (fun w h Y=>W.kIn_of Y) ?F
 case F =>
  intro w mg fa h KX G hmg
  refine K40.all_mk ⟨52,80,106,132,158,198,238,271,311,344,363,396,429,455,474⟩ KX G hmg ?_ ?_ ?_ ?_ ?_ ?_ ?_ ?_ ?_ ?_ ?_ ?_ ?_ ?_ ?_ ?_ ?_ ?_ ?_ ?_ ?_ ?_ ?_ ?_ ?_ ?_ ?_ ?_ ?_ ?_ ?_ ?_ ?_ ?_ ?_ ?_ ?_ ?_ ?_ ?_ ?_ ?_ ?_ ?_ ?_ ?_ ?_ ?_ ?_ ?_ ?_ ?_ ?_ ?_ ?_ ?_ ?_ ?_ ?_ ?_ ?_ ?_ ?_ ?_ ?_ ?_ ?_ ?_ ?_ ?_ ?_ ?_ ?_ ?_ ?_ ?_ ?_ ?_ ?_ ?_ ?_ ?_ ?_ ?_ ?_ ?_ ?_ ?_ ?_ ?_ ?_ ?_ ?_ ?_ ?_ ?_ ?_ ?_ ?_ ?_ ?_ ?_ ?_ ?_ ?_ ?_ ?_ ?_ ?_ ?_ ?_ ?_ ?_ ?_ ?_ ?_ ?_ ?_ ?_ ?_ ?_ ?_ ?_ ?_ ?_ ?_ ?_
  iterate 30 exact ⟨_,by k_is,_,_,_,_,_,_,_,_,_,by k_is,by k_is,by k_is⟩
  iterate 15 (show _=_;k_is)
  iterate 15 exact ⟨by k_is,⟨_,by k_is,rfl⟩,by k_is,by k_is,by k_is,by k_is,by k_is,by k_is,by k_is,by k_is⟩
  iterate 15 exact ⟨_,by k_is,by k_is,_,_,_,_,_,_,_,_,_,by k_is,by k_is,by k_is⟩
  iterate 50 (show _=_;k_is)
  iterate 1 exact ⟨by k_is,by k_is,_,by k_is,by k_is⟩
  iterate 1 decide
