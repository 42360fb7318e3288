import PyProof.Rows.All
import Wide.All
import OpenK.AllK
import Wide.FinOn
import Lean
import PyProof.EqAt
import PyProof.EqKinds
import PyProof.TupleCall
import PyProof.AttrMissSeq
import KE.KDictList
import PyProof.WalksEnum
import PyProof.EnumMake
import PyProof.ZipIter
import PyProof.Rows.ZipGen
import PyProof.Rows.SumAny
import PyProof.DictUpdate
import KE.KRevSl
import PyProof.Rows.FStr
import PyProof.WalkInts
import PyProof.Rows.SortShellK
import PyProof.Rows.SortWalk
import PySem.Challenge.RW_hushrow_k31_links
set_option Elab.async false
set_option linter.all false
set_option maxRecDepth 100000
namespace Hd
open PySem PySem.W PySem.Calls PyProof.Rows
def ji (tb:String->Option Builtin) (p:Program) (w:World) (n₀:Nat) (ann:Option Value):Nat->SharedT->Thread->Option SharedT
 | 0,_,_=>none
 | n + 1,s,t=>match through t with
  | true=>some s
  | false=>match stepOk n₀ ann t with
   | false=>none
   | true=>match stepT (denote tb) p w s t with
    | some (s',t')=>ji tb p w n₀ ann n s' t'
    | none=>none
theorem zR {tb:String->Option Builtin}{p:Program}{w:World}{n₀:Nat}{ann:Option Value}:∀{n:Nat}{s s':SharedT}{t:Thread},
  ji tb p w n₀ ann n s t=some s'->topRun tb p w n₀ ann n s.abs t=some s'.abs
 | 0,_,_,_,h=>by cases h
 | n + 1,s,s',t,h=>by
  unfold ji at h
  unfold topRun
  cases he:through t with
  | true=>rw [he] at h;cases h;rfl
  | false =>
   rw [he] at h
   cases hk:stepOk n₀ ann t with
   | false=>rw [hk] at h;cases h
   | true =>
    rw [hk] at h
    cases hs:stepT (denote tb) p w s t with
    | none=>rw [hs] at h;cases h
    | some r=>obtain ⟨s₂,t₂⟩:=r;rw [hs] at h;rw [stepT_spec hs];exact zR h
def Fp (p q:Program) (loose:List Str) (Xt:Shared->Bool) {α:Type} (Yf:Shared->α) (g0:Bool) (H:Heap) (s:Shared) :=
 (staticsOk (importedModules p.main.body) H s.heap && namesBound p s.heap && gensDone s && laidKept H s.heap,openSeen q loose (importedModules p.main.body) Xt g0 s,Yf s)
def zI (p:Program) (H:Heap) (s:Shared):=staticsOk (importedModules p.main.body) H s.heap && namesBound p s.heap && gensDone s && laidKept H s.heap
def treeOf:List Obj->Nat->BT->BT
 | [],_,t=>t
 | o :: r,i,t=>treeOf r (i + 1) (t.ins i o)
theorem A9 {p q:Program}{loose:List Str}{Xt:Shared->Bool}{α:Type}{Yf:Shared->α}{Ya:World->α}{N:Nat}{g0:Bool}{H₀:Params->Heap}{gs₀:Array GenState}{d₀:Drawn}{k₀ m₀ n₀:Nat}{ann:Option Value}{T₀:Params->BT}{life:Life}
  (opn:∀w:World,(fencedOpening treeTable p w N).map (fun s=>(s.heap,s.gens,s.drawn,s.toks))=some (H₀ w.params,gs₀,d₀,k₀))
  (size:∀w:World,((H₀ w.params).isNs mainGlobals && gs₀.size == 0,(H₀ w.params).objs.size,(H₀ w.params).nsMap mainGlobals "__annotations__")=(true,m₀,ann))
  (tree:∀P:Params,absHeap (T₀ P) n₀ life=H₀ P)
  (look:∀(w:World) (os:OsState),(ji treeTable p w m₀ ann N ⟨T₀ w.params,n₀,life,gs₀,d₀,k₀,os⟩ (topStub p)).map (fun s=>Fp p q loose Xt Yf g0 (H₀ w.params) s.abs)=some (true,openGood q loose,Ya w)) :
  LeftO p q loose Xt Yf Ya N g0:=fun w=>by
 obtain ⟨⟨h,gs,d,k,os⟩,e,e'⟩:=Option.map_eq_some_iff.mp (opn w)
 obtain ⟨rfl,rfl,rfl,rfl⟩:h=H₀ w.params/\gs=gs₀/\d=d₀/\k=k₀:=by simpa using e'
 obtain ⟨z1,z2,z3⟩:_/\_/\_:=by simpa only [Prod.mk.injEq] using size w
 obtain ⟨s,hs,hl⟩:=Option.map_eq_some_iff.mp (look w os)
 obtain ⟨l1,l23⟩:=Prod.mk.inj hl
 obtain ⟨l2,l3⟩:=Prod.mk.inj l23
 have r:=zR hs
 have t:topFrom treeTable p w N ⟨H₀ w.params,gs,d,k,os⟩=some s.abs:=by
  unfold topFrom
  dsimp only
  rw [z1,z2,z3]
  unfold SharedT.abs at r
  dsimp only at r
  rw [tree w.params] at r
  show (topRun treeTable p w m₀ ann N ⟨H₀ w.params,gs,d,k,os⟩ (topStub p)).bind _=_
  rw [r]
  show (match staticsOk (importedModules p.main.body) (H₀ w.params) s.abs.heap && namesBound p s.abs.heap && gensDone s.abs && laidKept (H₀ w.params) s.abs.heap with | true=>_ | false=>_)=_
  rw [l1]
  rfl
 unfold openEnds
 rw [e]
 show (topFrom treeTable p w N _).map _=_
 rw [t]
 exact congrArg some (Prod.ext l2 l3)
theorem zD {p q:Program}{loose:List Str}{Xt:Shared->Bool}{α:Type}{Yf:Shared->α}{Ya:World->α}{N:Nat}{g0:Bool}{H₀:Params->Heap}{gs₀:Array GenState}{d₀:Drawn}{k₀ m₀ n₀:Nat}{ann:Option Value}{T₀:Params->BT}{life:Life}
  (opn:∀w:World,(fencedOpening treeTable p w N).map (fun s=>(s.heap,s.gens,s.drawn,s.toks))=some (H₀ w.params,gs₀,d₀,k₀))
  (size:∀w:World,((H₀ w.params).isNs mainGlobals && gs₀.size == 0,(H₀ w.params).objs.size,(H₀ w.params).nsMap mainGlobals "__annotations__")=(true,m₀,ann))
  (tree:∀P:Params,absHeap (T₀ P) n₀ life=H₀ P)
  (look1:∀(w:World) (os:OsState),(ji treeTable p w m₀ ann N ⟨T₀ w.params,n₀,life,gs₀,d₀,k₀,os⟩ (topStub p)).map (fun s=>zI p (H₀ w.params) s.abs)=some true)
  (look3:∀(w:World) (os:OsState),(ji treeTable p w m₀ ann N ⟨T₀ w.params,n₀,life,gs₀,d₀,k₀,os⟩ (topStub p)).map (fun s=>(openSeen q loose (importedModules p.main.body) Xt g0 s.abs).1)=some (openGood q loose).1)
  (look7:∀(w:World) (os:OsState),(ji treeTable p w m₀ ann N ⟨T₀ w.params,n₀,life,gs₀,d₀,k₀,os⟩ (topStub p)).map (fun s=>(openSeen q loose (importedModules p.main.body) Xt g0 s.abs).2.1)=some (openGood q loose).2.1)
  (look5:∀(w:World) (os:OsState),(ji treeTable p w m₀ ann N ⟨T₀ w.params,n₀,life,gs₀,d₀,k₀,os⟩ (topStub p)).map (fun s=>(openSeen q loose (importedModules p.main.body) Xt g0 s.abs).2.2.1)=some true)
  (look6:∀(w:World) (os:OsState),(ji treeTable p w m₀ ann N ⟨T₀ w.params,n₀,life,gs₀,d₀,k₀,os⟩ (topStub p)).map (fun s=>(openSeen q loose (importedModules p.main.body) Xt g0 s.abs).2.2.2.1)=some true)
  (look4:∀(w:World) (os:OsState),(ji treeTable p w m₀ ann N ⟨T₀ w.params,n₀,life,gs₀,d₀,k₀,os⟩ (topStub p)).map (fun s=>(openSeen q loose (importedModules p.main.body) Xt g0 s.abs).2.2.2.2)=some (openGood q loose).2.2.2.2)
  (look2:∀(w:World) (os:OsState),(ji treeTable p w m₀ ann N ⟨T₀ w.params,n₀,life,gs₀,d₀,k₀,os⟩ (topStub p)).map (fun s=>Yf s.abs)=some (Ya w)) :
  LeftO p q loose Xt Yf Ya N g0:=A9 opn size tree fun w os=>by
 obtain ⟨s,hs,h1⟩:=Option.map_eq_some_iff.mp (look1 w os)
 have h2:=look2 w os
 have h3:=look3 w os
 have h4:=look4 w os
 have h5:=look5 w os
 have h6:=look6 w os
 have h7:=look7 w os
 rw [hs] at h2 h3 h4 h5 h6 h7 ⊢
 exact congrArg some (Prod.ext h1 (Prod.ext (Prod.ext (Option.some.inj h3) (Prod.ext (Option.some.inj h7) (Prod.ext (Option.some.inj h5) (Prod.ext (Option.some.inj h6) (Option.some.inj h4))))) (Option.some.inj h2)))
end Hd
namespace L2
open PySem PySem.Spec PyProof.Rows
def inClass (s:Stmt) (j:Nat):Stmt:=match s with
 | .ClassDef _ _ _ body _ _ _ _ _ _ _=>body.getD j (.Pass ⟨0,0,0,0⟩)
 | _=>.Pass ⟨0,0,0,0⟩
def bD (s:Stmt):Arguments:=match s with
 | .FunctionDef _ a _ _ _ _ _ _ _ _=>a
 | _=>{ posonlyargs:=[],args:=[],vararg:=none,kwonlyargs:=[],kw_defaults:=[],kwarg:=none,defaults:=[] }
def bq (s:Stmt):List Stmt:=match s with
 | .FunctionDef _ _ b _ _ _ _ _ _ _=>b
 | _=>[]
def aq (s:Stmt):Scope:=match s with
 | .FunctionDef _ _ _ _ _ _ sc _ _ _=>sc
 | _=>{ kind:=.function,names:=[],isGenerator:=false,isCoroutine:=false }
end L2
namespace K31
open PySem
def top (i:Nat):Stmt:=PySem.Challenge.pw_hushrow_k31_links.main.body.getD i (.Pass ⟨0,0,0,0⟩)
end K31
set_option genSizeOf false
set_option maxHeartbeats 0
namespace K31
open PySem L2 PySem.W
noncomputable abbrev Ey (P:Params) (x:Str) (t:Nat) (v:Value):DictEntry:=⟨PyData.keyHash P x,.str x t,v⟩
noncomputable abbrev FL (P:Params) (a:Nat) (l:Int) (b:Nat):=Ey P "__firstlineno__" a (.int l b)
noncomputable abbrev SA (P:Params) (a b:Nat):=Ey P "__static_attributes__" a (.ref b)
noncomputable abbrev DO (P:Params) (a:Nat):=Ey P "__doc__" a .none
noncomputable abbrev M3O (P:Params) (a:Nat):=Ey P "__module__" a (.str "hushrow.rows" 205)
noncomputable abbrev ER (P:Params) (x:Str) (a b:Nat):=Ey P x a (.ref b)
noncomputable abbrev DI (x:Array DictEntry) (n:Nat):Obj:=⟨.type "dict",none,.dict x n,#[]⟩
noncomputable abbrev WR (x:Str) (a b:Nat) (y:String):Obj:=⟨.type "getset_descriptor",none,.fields #[.str x a,.ref b,.builtin y,.none],#[]⟩
noncomputable abbrev CX (n:Str) (a c:Nat) (bs m s:List Value) (d:Option Value) (u v:Nat) (w:String):Obj:=⟨.type "type",none,.cls { name:=n,bases:=bs,mro:=.ref a :: m,ns:=c,qualname:=n,hasDict:=true,slotNames:=[],subclasses:=s,abstract:=false,collection:=none,hasDel:=false },#[d,none,some (.str n u),some (.str n v),some (.builtin w),some (.bool true)]⟩
noncomputable abbrev CO (n q:Str) (t:Nat) (l a:Int) (r:Nat) (m:Nat):Obj:=⟨.type "code",none,.fields #[.str n t,.str q (t + 1),.str "/claim/cut.py" (t + 2),.int l 0,.int a 0,.int 0 0,.int 0 0,.int 3 0,.ref r,.bool true,.int 181 0,.ref (r + 1),.none,.ref (r + 2),.ref (r + 3),.ref (r + 4),.int m 0,.int l 0,.str "/claim/cut.py" (m + 1)],#[]⟩
noncomputable abbrev FU (n q:Str) (s:Stmt) (m:Str) (t c:Nat):Obj:=⟨.type "function",none,.func (W.fnOf n q (bD s) (bq s) (aq s) .none .none .none (.str m t) none (.ref c) .none),#[]⟩
noncomputable abbrev FD (n q:Str) (s:Stmt) (d:Nat) (m:Str) (t c:Nat):Obj:=⟨.type "function",none,.func (W.fnOf n q (bD s) (bq s) (aq s) (.ref d) .none .none (.str m t) none (.ref c) .none),#[]⟩
noncomputable abbrev F7T (x:Str) (i c:Nat):=FU x x (top i) "hushrow.costs" 824 c
noncomputable abbrev F8T (x:Str) (i c:Nat):=FU x x (top i) "hushrow.places" 888 c
noncomputable abbrev F9T (x:Str) (i c:Nat):=FU x x (top i) "hushrow.links" 928 c
noncomputable abbrev eI (x:Str) (i c:Nat):=FU x x (top i) "law_hushrow_k31_links" 984 c
noncomputable abbrev iN (x y:Str) (i j c:Nat):=FU x y (inClass (top i) j) "hushrow.rows" 205 c
noncomputable def heapK (P:Params):W.Frag :=
 (nat_lit 2,⟨.none,none,.dict #[] 0,#[]⟩) ::
 (nat_lit 3,DI #[Ey P "__name__" 165 (.str "law_hushrow_k31_links" 984),DO P 166,Ey P "__package__" 167 .none,Ey P "__loader__" 168 (.builtin "__main__.__loader__#opaque"),Ey P "__spec__" 169 .none,ER P "__annotations__" 170 6,ER P "__builtins__" 171 4,Ey P "__file__" 173 (.str "/claim/cut.py" 172),Ey P "__cached__" 174 .none,ER P "_wall" 193 21,ER P "names_in" 204 28,ER P "each_once" 215 35,ER P "Row" 258 66,ER P "HandRow" 293 94,ER P "GivenRow" 330 120,ER P "OwnRow" 365 146,ER P "LetRow" 400 172,ER P "SetRow" 449 212,ER P "PutRow" 500 252,ER P "SendRow" 542 285,ER P "SayRow" 593 325,ER P "CallRow" 634 356,ER P "LastRow" 657 375,ER P "IfRow" 705 408,ER P "LoopRow" 753 441,ER P "DeedRow" 790 467,ER P "Program" 823 486,ER P "exact_of" 836 497,ER P "exact_of_row" 844 504,ER P "one_more" 851 511,ER P "exact_of_if" 861 518,ER P "exact_of_loop" 870 525,ER P "balanced" 878 532,ER P "exacts" 887 539,Ey P "CLOCK" 891 (.str "the clock" 890),ER P "row_place" 898 546,ER P "laid_rows" 909 553,ER P "laid_inside" 918 560,ER P "laid_program" 927 567,ER P "drawn" 935 572,ER P "row_links" 946 579,ER P "said_links" 955 586,ER P "called_links" 968 593,ER P "step_links" 977 600,ER P "links" 983 606,ER P "_law_cell_at" 994 613,ER P "_law_more" 1000 618,ER P "_law_mix" 1011 625,ER P "_law_names" 1017 630,ER P "_law_pick" 1025 637,ER P "_law_heads" 1031 642,ER P "_law_scope" 1041 649,ER P "_law_thing" 1049 656,ER P "_law_value" 1060 663,ER P "_law_plain" 1073 670,ER P "_law_opened" 1087 677,ER P "_law_closed" 1094 684,ER P "_law_row" 1100 689,ER P "_law_body" 1112 696,ER P "_law_flat" 1130 703,ER P "_law_row_made" 1138 710,ER P "_law_rows_made" 1152 717,ER P "_law_program" 1166 724,ER P "_law_lain" 1177 731,ER P "_law_told" 1183 736,ER P "_law_in_value" 1189 741,ER P "_law_of_row" 1202 748,ER P "_law_due" 1208 753,ER P "_law_links" 1219 760,ER P "law" 1230 767] 70) ::
 (nat_lit 27,CO "names_in" "names_in" 196 5 1 22 202) ::
 (nat_lit 28,FU "names_in" "names_in" (top 2) "hushrow.things" 194 27) ::
 (nat_lit 34,CO "each_once" "each_once" 207 12 1 29 213) ::
 (nat_lit 35,FU "each_once" "each_once" (top 4) "hushrow.rows" 205 34) ::
 (nat_lit 48,CO "__init__" "Row.__init__" 228 20 2 43 233) ::
 (nat_lit 49,iN "__init__" "Row.__init__" 5 0 48) ::
 (nat_lit 65,DI #[M3O P 223,FL P 227 18 226,ER P "__init__" 235 49,ER P "reads" 242 56,ER P "target" 249 63,SA P 251 64,ER P "__dict__" 253 67,ER P "__weakref__" 255 68,DO P 256] 4) ::
 (nat_lit 66,CX "Row" 66 65 [.type "object"] [.type "object"] [.ref 94,.ref 120,.ref 146,.ref 172,.ref 212,.ref 252,.ref 285,.ref 325,.ref 356,.ref 375,.ref 408,.ref 441,.ref 467] none 216 224 "object.__new__") ::
 (nat_lit 67,⟨(.type "getset_descriptor"),none,.fields #[(.str "__dict__" 252),(.ref 66),(.builtin "function.__dict__"),(.builtin "function.__dict__#set")],#[]⟩) ::
 (nat_lit 68,WR "__weakref__" 254 66 "ExceptionGroup.__weakref__") ::
 (nat_lit 83,CO "__init__" "HandRow.__init__" 271 30 4 78 278) ::
 (nat_lit 84,iN "__init__" "HandRow.__init__" 6 0 83) ::
 (nat_lit 93,DI #[M3O P 266,FL P 270 28 269,ER P "__init__" 280 84,ER P "shown" 287 91,SA P 290 92,DO P 291] 2) ::
 (nat_lit 94,CX "HandRow" 94 93 [.ref 66] [.ref 66,.type "object"] [] (some (.ref 71)) 259 267 "object.__new__") ::
 (nat_lit 109,CO "__init__" "GivenRow.__init__" 306 39 5 104 314) ::
 (nat_lit 110,iN "__init__" "GivenRow.__init__" 7 0 109) ::
 (nat_lit 119,DI #[M3O P 301,FL P 305 37 304,ER P "__init__" 316 110,ER P "shown" 323 117,SA P 327 118,DO P 328] 2) ::
 (nat_lit 120,CX "GivenRow" 120 119 [.ref 66] [.ref 66,.type "object"] [] (some (.ref 97)) 294 302 "object.__new__") ::
 (nat_lit 135,CO "__init__" "OwnRow.__init__" 343 49 4 130 350) ::
 (nat_lit 136,iN "__init__" "OwnRow.__init__" 8 0 135) ::
 (nat_lit 145,DI #[M3O P 338,FL P 342 47 341,ER P "__init__" 352 136,ER P "shown" 359 143,SA P 362 144,DO P 363] 2) ::
 (nat_lit 146,CX "OwnRow" 146 145 [.ref 66] [.ref 66,.type "object"] [] (some (.ref 123)) 331 339 "object.__new__") ::
 (nat_lit 161,CO "__init__" "LetRow.__init__" 378 58 4 156 385) ::
 (nat_lit 162,iN "__init__" "LetRow.__init__" 9 0 161) ::
 (nat_lit 171,DI #[M3O P 373,FL P 377 56 376,ER P "__init__" 387 162,ER P "shown" 394 169,SA P 397 170,DO P 398] 2) ::
 (nat_lit 172,CX "LetRow" 172 171 [.ref 66] [.ref 66,.type "object"] [] (some (.ref 149)) 366 374 "object.__new__") ::
 (nat_lit 187,CO "__init__" "SetRow.__init__" 413 67 4 182 420) ::
 (nat_lit 188,iN "__init__" "SetRow.__init__" 10 0 187) ::
 (nat_lit 201,CO "reads" "SetRow.reads" 430 75 1 196 434) ::
 (nat_lit 202,iN "reads" "SetRow.reads" 10 2 201) ::
 (nat_lit 211,DI #[M3O P 408,FL P 412 65 411,ER P "__init__" 422 188,ER P "shown" 429 195,ER P "reads" 436 202,ER P "target" 443 209,SA P 446 210,DO P 447] 2) ::
 (nat_lit 212,CX "SetRow" 212 211 [.ref 66] [.ref 66,.type "object"] [] (some (.ref 175)) 401 409 "object.__new__") ::
 (nat_lit 227,CO "__init__" "PutRow.__init__" 462 82 5 222 470) ::
 (nat_lit 228,iN "__init__" "PutRow.__init__" 11 0 227) ::
 (nat_lit 241,CO "reads" "PutRow.reads" 480 91 1 236 484) ::
 (nat_lit 242,iN "reads" "PutRow.reads" 11 2 241) ::
 (nat_lit 251,DI #[M3O P 457,FL P 461 80 460,ER P "__init__" 472 228,ER P "shown" 479 235,ER P "reads" 486 242,ER P "target" 493 249,SA P 497 250,DO P 498] 2) ::
 (nat_lit 252,CX "PutRow" 252 251 [.ref 66] [.ref 66,.type "object"] [] (some (.ref 215)) 450 458 "object.__new__") ::
 (nat_lit 267,CO "__init__" "SendRow.__init__" 513 98 4 262 520) ::
 (nat_lit 268,iN "__init__" "SendRow.__init__" 12 0 267) ::
 (nat_lit 281,CO "reads" "SendRow.reads" 530 106 1 276 534) ::
 (nat_lit 282,iN "reads" "SendRow.reads" 12 2 281) ::
 (nat_lit 284,DI #[M3O P 508,FL P 512 96 511,ER P "__init__" 522 268,ER P "shown" 529 275,ER P "reads" 536 282,SA P 539 283,DO P 540] 2) ::
 (nat_lit 285,CX "SendRow" 285 284 [.ref 66] [.ref 66,.type "object"] [] (some (.ref 255)) 501 509 "object.__new__") ::
 (nat_lit 300,CO "__init__" "SayRow.__init__" 555 110 5 295 563) ::
 (nat_lit 301,iN "__init__" "SayRow.__init__" 13 0 300) ::
 (nat_lit 324,DI #[M3O P 550,FL P 554 108 553,ER P "__init__" 565 301,ER P "shown" 572 308,ER P "reads" 579 315,ER P "target" 586 322,SA P 590 323,DO P 591] 2) ::
 (nat_lit 325,CX "SayRow" 325 324 [.ref 66] [.ref 66,.type "object"] [] (some (.ref 288)) 543 551 "object.__new__") ::
 (nat_lit 340,CO "__init__" "CallRow.__init__" 606 126 4 335 613) ::
 (nat_lit 341,iN "__init__" "CallRow.__init__" 14 0 340) ::
 (nat_lit 355,DI #[M3O P 601,FL P 605 124 604,ER P "__init__" 615 341,ER P "shown" 622 348,ER P "reads" 628 353,SA P 631 354,DO P 632] 2) ::
 (nat_lit 356,CX "CallRow" 356 355 [.ref 66] [.ref 66,.type "object"] [] (some (.ref 328)) 594 602 "object.__new__") ::
 (nat_lit 374,DI #[M3O P 642,FL P 646 136 645,ER P "shown" 653 372,SA P 654 373,DO P 655] 2) ::
 (nat_lit 375,CX "LastRow" 375 374 [.ref 66] [.ref 66,.type "object"] [] (some (.ref 359)) 635 643 "object.__new__") ::
 (nat_lit 390,CO "__init__" "IfRow.__init__" 670 142 7 385 680) ::
 (nat_lit 391,iN "__init__" "IfRow.__init__" 16 0 390) ::
 (nat_lit 404,CO "reads" "IfRow.reads" 690 153 1 399 694) ::
 (nat_lit 405,iN "reads" "IfRow.reads" 16 2 404) ::
 (nat_lit 407,DI #[M3O P 665,FL P 669 140 668,ER P "__init__" 682 391,ER P "shown" 689 398,ER P "reads" 696 405,SA P 702 406,DO P 703] 2) ::
 (nat_lit 408,CX "IfRow" 408 407 [.ref 66] [.ref 66,.type "object"] [] (some (.ref 378)) 658 666 "object.__new__") ::
 (nat_lit 423,CO "__init__" "LoopRow.__init__" 718 157 7 418 728) ::
 (nat_lit 424,iN "__init__" "LoopRow.__init__" 17 0 423) ::
 (nat_lit 437,CO "reads" "LoopRow.reads" 738 168 1 432 742) ::
 (nat_lit 438,iN "reads" "LoopRow.reads" 17 2 437) ::
 (nat_lit 440,DI #[M3O P 713,FL P 717 155 716,ER P "__init__" 730 424,ER P "shown" 737 431,ER P "reads" 744 438,SA P 750 439,DO P 751] 2) ::
 (nat_lit 441,CX "LoopRow" 441 440 [.ref 66] [.ref 66,.type "object"] [] (some (.ref 411)) 706 714 "object.__new__") ::
 (nat_lit 456,CO "__init__" "DeedRow.__init__" 766 172 5 451 774) ::
 (nat_lit 457,iN "__init__" "DeedRow.__init__" 18 0 456) ::
 (nat_lit 466,DI #[M3O P 761,FL P 765 170 764,ER P "__init__" 776 457,ER P "shown" 783 464,SA P 787 465,DO P 788] 2) ::
 (nat_lit 467,CX "DeedRow" 467 466 [.ref 66] [.ref 66,.type "object"] [] (some (.ref 444)) 754 762 "object.__new__") ::
 (nat_lit 482,CO "__init__" "Program.__init__" 803 182 4 477 810) ::
 (nat_lit 483,iN "__init__" "Program.__init__" 19 0 482) ::
 (nat_lit 485,DI #[M3O P 798,FL P 802 180 801,ER P "__init__" 812 483,SA P 816 484,ER P "__dict__" 818 487,ER P "__weakref__" 820 488,DO P 821] 4) ::
 (nat_lit 486,CX "Program" 486 485 [.type "object"] [.type "object"] [] none 791 799 "object.__new__") ::
 (nat_lit 487,⟨(.type "getset_descriptor"),none,.fields #[(.str "__dict__" 817),(.ref 486),(.builtin "function.__dict__"),(.builtin "function.__dict__#set")],#[]⟩) ::
 (nat_lit 488,WR "__weakref__" 819 486 "ExceptionGroup.__weakref__") ::
 (nat_lit 496,CO "exact_of" "exact_of" 826 187 2 491 834) ::
 (nat_lit 497,F7T "exact_of" 21 496) ::
 (nat_lit 503,CO "exact_of_row" "exact_of_row" 837 195 2 498 842) ::
 (nat_lit 504,F7T "exact_of_row" 22 503) ::
 (nat_lit 510,CO "one_more" "one_more" 845 203 1 505 849) ::
 (nat_lit 511,F7T "one_more" 23 510) ::
 (nat_lit 517,CO "exact_of_if" "exact_of_if" 852 205 2 512 859) ::
 (nat_lit 518,F7T "exact_of_if" 24 517) ::
 (nat_lit 524,CO "exact_of_loop" "exact_of_loop" 862 211 2 519 868) ::
 (nat_lit 525,F7T "exact_of_loop" 25 524) ::
 (nat_lit 531,CO "balanced" "balanced" 871 216 2 526 876) ::
 (nat_lit 532,F7T "balanced" 26 531) ::
 (nat_lit 538,CO "exacts" "exacts" 879 218 1 533 885) ::
 (nat_lit 539,F7T "exacts" 27 538) ::
 (nat_lit 545,CO "row_place" "row_place" 892 225 1 540 896) ::
 (nat_lit 546,F8T "row_place" 30 545) ::
 (nat_lit 552,CO "laid_rows" "laid_rows" 899 227 3 547 907) ::
 (nat_lit 553,F8T "laid_rows" 31 552) ::
 (nat_lit 559,CO "laid_inside" "laid_inside" 910 233 2 554 916) ::
 (nat_lit 560,F8T "laid_inside" 32 559) ::
 (nat_lit 566,CO "laid_program" "laid_program" 919 240 1 561 925) ::
 (nat_lit 567,F8T "laid_program" 33 566) ::
 (nat_lit 571,⟨(.type "code"),none,.fields #[(.str "drawn" 930),(.str "drawn" 931),(.str "/claim/cut.py" 932),(.int (246) 0),(.int (4) 0),(.int (0) 0),(.int (0) 0),(.int (3) 0),(.ref 568),(.bool true),(.int (181) 0),(.ref 569),.none,.none,.none,(.ref 570),(.int (933) 0),(.int (246) 0),(.str "/claim/cut.py" 934)],#[]⟩) ::
 (nat_lit 572,F9T "drawn" 35 571) ::
 (nat_lit 578,CO "row_links" "row_links" 936 248 4 573 944) ::
 (nat_lit 579,F9T "row_links" 36 578) ::
 (nat_lit 585,CO "said_links" "said_links" 947 261 2 580 953) ::
 (nat_lit 586,F9T "said_links" 37 585) ::
 (nat_lit 592,CO "called_links" "called_links" 956 265 3 587 966) ::
 (nat_lit 593,F9T "called_links" 38 592) ::
 (nat_lit 599,CO "step_links" "step_links" 969 273 2 594 975) ::
 (nat_lit 600,F9T "step_links" 39 599) ::
 (nat_lit 601,⟨(.type "tuple"),none,.seq #[(.bool false)] 0,#[]⟩) ::
 (nat_lit 605,⟨(.type "code"),none,.fields #[(.str "links" 978),(.str "links" 979),(.str "/claim/cut.py" 980),(.int (280) 0),(.int (2) 0),(.int (0) 0),(.int (0) 0),(.int (3) 0),(.ref 602),(.bool true),(.int (181) 0),(.ref 603),.none,.none,.none,(.ref 604),(.int (981) 0),(.int (280) 0),(.str "/claim/cut.py" 982)],#[]⟩) ::
 (nat_lit 606,FD "links" "links" (top 40) 601 "hushrow.links" 928 605) ::
 (nat_lit 612,CO "_law_cell_at" "_law_cell_at" 986 290 2 607 992) ::
 (nat_lit 613,eI "_law_cell_at" 42 612) ::
 (nat_lit 617,⟨(.type "code"),none,.fields #[(.str "_law_more" 995),(.str "_law_more" 996),(.str "/claim/cut.py" 997),(.int (297) 0),(.int (3) 0),(.int (0) 0),(.int (0) 0),(.int (3) 0),(.ref 614),(.bool true),(.int (181) 0),(.ref 615),.none,.none,.none,(.ref 616),(.int (998) 0),(.int (297) 0),(.str "/claim/cut.py" 999)],#[]⟩) ::
 (nat_lit 618,eI "_law_more" 43 617) ::
 (nat_lit 624,CO "_law_mix" "_law_mix" 1001 299 2 619 1009) ::
 (nat_lit 625,eI "_law_mix" 44 624) ::
 (nat_lit 629,⟨(.type "code"),none,.fields #[(.str "_law_names" 1012),(.str "_law_names" 1013),(.str "/claim/cut.py" 1014),(.int (308) 0),(.int (3) 0),(.int (0) 0),(.int (0) 0),(.int (3) 0),(.ref 626),(.bool true),(.int (181) 0),(.ref 627),.none,.none,.none,(.ref 628),(.int (1015) 0),(.int (308) 0),(.str "/claim/cut.py" 1016)],#[]⟩) ::
 (nat_lit 630,eI "_law_names" 45 629) ::
 (nat_lit 636,CO "_law_pick" "_law_pick" 1018 324 2 631 1023) ::
 (nat_lit 637,eI "_law_pick" 46 636) ::
 (nat_lit 641,⟨(.type "code"),none,.fields #[(.str "_law_heads" 1026),(.str "_law_heads" 1027),(.str "/claim/cut.py" 1028),(.int (326) 0),(.int (2) 0),(.int (0) 0),(.int (0) 0),(.int (3) 0),(.ref 638),(.bool true),(.int (181) 0),(.ref 639),.none,.none,.none,(.ref 640),(.int (1029) 0),(.int (326) 0),(.str "/claim/cut.py" 1030)],#[]⟩) ::
 (nat_lit 642,eI "_law_heads" 47 641) ::
 (nat_lit 648,CO "_law_scope" "_law_scope" 1032 334 2 643 1039) ::
 (nat_lit 649,eI "_law_scope" 48 648) ::
 (nat_lit 655,CO "_law_thing" "_law_thing" 1042 339 2 650 1047) ::
 (nat_lit 656,eI "_law_thing" 49 655) ::
 (nat_lit 662,CO "_law_value" "_law_value" 1050 343 2 657 1058) ::
 (nat_lit 663,eI "_law_value" 50 662) ::
 (nat_lit 669,CO "_law_plain" "_law_plain" 1061 352 3 664 1071) ::
 (nat_lit 670,eI "_law_plain" 51 669) ::
 (nat_lit 676,CO "_law_opened" "_law_opened" 1074 364 4 671 1085) ::
 (nat_lit 677,eI "_law_opened" 52 676) ::
 (nat_lit 683,CO "_law_closed" "_law_closed" 1088 379 1 678 1092) ::
 (nat_lit 684,eI "_law_closed" 53 683) ::
 (nat_lit 688,⟨(.type "code"),none,.fields #[(.str "_law_row" 1095),(.str "_law_row" 1096),(.str "/claim/cut.py" 1097),(.int (386) 0),(.int (3) 0),(.int (0) 0),(.int (0) 0),(.int (3) 0),(.ref 685),(.bool true),(.int (181) 0),(.ref 686),.none,.none,.none,(.ref 687),(.int (1098) 0),(.int (386) 0),(.str "/claim/cut.py" 1099)],#[]⟩) ::
 (nat_lit 689,eI "_law_row" 54 688) ::
 (nat_lit 695,CO "_law_body" "_law_body" 1101 401 4 690 1110) ::
 (nat_lit 696,eI "_law_body" 55 695) ::
 (nat_lit 702,CO "_law_flat" "_law_flat" 1113 409 2 697 1128) ::
 (nat_lit 703,eI "_law_flat" 56 702) ::
 (nat_lit 709,CO "_law_row_made" "_law_row_made" 1131 426 2 704 1136) ::
 (nat_lit 710,eI "_law_row_made" 57 709) ::
 (nat_lit 716,CO "_law_rows_made" "_law_rows_made" 1139 446 2 711 1150) ::
 (nat_lit 717,eI "_law_rows_made" 58 716) ::
 (nat_lit 723,CO "_law_program" "_law_program" 1153 462 1 718 1164) ::
 (nat_lit 724,eI "_law_program" 59 723) ::
 (nat_lit 730,CO "_law_lain" "_law_lain" 1167 476 1 725 1175) ::
 (nat_lit 731,eI "_law_lain" 60 730) ::
 (nat_lit 735,⟨(.type "code"),none,.fields #[(.str "_law_told" 1178),(.str "_law_told" 1179),(.str "/claim/cut.py" 1180),(.int (494) 0),(.int (3) 0),(.int (0) 0),(.int (0) 0),(.int (3) 0),(.ref 732),(.bool true),(.int (181) 0),(.ref 733),.none,.none,.none,(.ref 734),(.int (1181) 0),(.int (494) 0),(.str "/claim/cut.py" 1182)],#[]⟩) ::
 (nat_lit 736,eI "_law_told" 61 735) ::
 (nat_lit 740,⟨(.type "code"),none,.fields #[(.str "_law_in_value" 1184),(.str "_law_in_value" 1185),(.str "/claim/cut.py" 1186),(.int (496) 0),(.int (1) 0),(.int (0) 0),(.int (0) 0),(.int (3) 0),(.ref 737),(.bool true),(.int (181) 0),(.ref 738),.none,.none,.none,(.ref 739),(.int (1187) 0),(.int (496) 0),(.str "/claim/cut.py" 1188)],#[]⟩) ::
 (nat_lit 741,eI "_law_in_value" 62 740) ::
 (nat_lit 747,CO "_law_of_row" "_law_of_row" 1190 498 5 742 1200) ::
 (nat_lit 748,eI "_law_of_row" 63 747) ::
 (nat_lit 752,⟨(.type "code"),none,.fields #[(.str "_law_due" 1203),(.str "_law_due" 1204),(.str "/claim/cut.py" 1205),(.int (517) 0),(.int (1) 0),(.int (0) 0),(.int (0) 0),(.int (3) 0),(.ref 749),(.bool true),(.int (181) 0),(.ref 750),.none,.none,.none,(.ref 751),(.int (1206) 0),(.int (517) 0),(.str "/claim/cut.py" 1207)],#[]⟩) ::
 (nat_lit 753,eI "_law_due" 64 752) ::
 (nat_lit 759,CO "_law_links" "_law_links" 1209 539 2 754 1217) ::
 (nat_lit 760,eI "_law_links" 65 759) ::
 (nat_lit 766,CO "law" "law" 1220 552 1 761 1228) ::
 (nat_lit 767,eI "law" 66 766) :: []
noncomputable def ny:List Addr:=[2,3,27,28,34,35,48,49,65,66,67,68,83,84,93,94,109,110,119,120,135,136,145,146,161,162,171,172,187,188,201,202,211,212,227,228,241,242,251,252,267,268,281,282,284,285,300,301,324,325,340,341,355,356,374,375,390,391,404,405,407,408,423,424,437,438,440,441,456,457,466,467,482,483,485,486,487,488,496,497,503,504,510,511,517,518,524,525,531,532,538,539,545,546,552,553,559,560,566,567,571,572,578,579,585,586,592,593,599,600,601,605,606,612,613,617,618,624,625,629,630,636,637,641,642,648,649,655,656,662,663,669,670,676,677,683,684,688,689,695,696,702,703,709,710,716,717,723,724,730,731,735,736,740,741,747,748,752,753,759,760,766,767]
theorem iy (P:Params):ny=(heapK P).map (·.1):=by kernel_rfl
noncomputable abbrev prog:Program:=PySem.Challenge.pw_hushrow_k31_links
noncomputable abbrev law:W.OpenLaw:=PySem.Challenge.rw_hushrow_k31_links
noncomputable def fe:Program:={ prog with main:={ prog.main with body:=[top 0,top 2,top 4,top 5,top 6,top 7,top 8,top 9,top 10,top 11,top 12,top 13,top 14,top 15,top 16,top 17,top 18,top 19,top 21,top 22,top 23,top 24,top 25,top 26,top 27,top 29,top 30,top 31,top 32,top 33,top 35,top 36,top 37,top 38,top 39,top 42,top 43,top 44,top 45,top 46,top 47,top 48,top 49,top 50,top 51,top 52,top 53,top 54,top 55,top 56,top 57,top 58,top 59,top 60,top 61,top 62,top 63,top 64,top 65,top 66] } }
noncomputable abbrev hook:W.Hook:=W.kHook heapK ny iy
noncomputable abbrev test:Shared->Bool:=fun s=>xlAt fe [] s && recOk (RowW.records law.row.toRowW) s
noncomputable abbrev EW:Shared->List (Option Obj):=fun s=>ny.map s.heap.get?
noncomputable abbrev F6:World->List (Option Obj):=fun w=>(heapK w.params).map fun p=>some p.2
noncomputable def T₀ (P:Params):BT:=Hd.treeOf (boot_heap P).objs.toList 0 .nil
noncomputable def lookL (w:World) (os:OsState):=(Hd.ji treeTable prog w 11 (some (.ref 6)) 11898 ⟨T₀ w.params,11,{},Array.mk [],boot_drawn,boot_toks,os⟩ (topStub prog)).map fun s=>Hd.zI prog (boot_heap w.params) s.abs
noncomputable def ra (w:World) (os:OsState):=some true
noncomputable def lookO (w:World) (os:OsState):=(Hd.ji treeTable prog w 11 (some (.ref 6)) 11898 ⟨T₀ w.params,11,{},Array.mk [],boot_drawn,boot_toks,os⟩ (topStub prog)).map fun s=>(openSeen fe ["links"] (importedModules prog.main.body) test true s.abs).1
noncomputable def lookQ (w:World) (os:OsState):=some (openGood fe ["links"]).1
noncomputable def lookY (w:World) (os:OsState):=(Hd.ji treeTable prog w 11 (some (.ref 6)) 11898 ⟨T₀ w.params,11,{},Array.mk [],boot_drawn,boot_toks,os⟩ (topStub prog)).map fun s=>(openSeen fe ["links"] (importedModules prog.main.body) test true s.abs).2.1
noncomputable def lookB (w:World) (os:OsState):=some (openGood fe ["links"]).2.1
noncomputable def lookW (w:World) (os:OsState):=(Hd.ji treeTable prog w 11 (some (.ref 6)) 11898 ⟨T₀ w.params,11,{},Array.mk [],boot_drawn,boot_toks,os⟩ (topStub prog)).map fun s=>(openSeen fe ["links"] (importedModules prog.main.body) test true s.abs).2.2.1
noncomputable def lookX (w:World) (os:OsState):=(Hd.ji treeTable prog w 11 (some (.ref 6)) 11898 ⟨T₀ w.params,11,{},Array.mk [],boot_drawn,boot_toks,os⟩ (topStub prog)).map fun s=>(openSeen fe ["links"] (importedModules prog.main.body) test true s.abs).2.2.2.1
noncomputable def lookU (w:World) (os:OsState):=(Hd.ji treeTable prog w 11 (some (.ref 6)) 11898 ⟨T₀ w.params,11,{},Array.mk [],boot_drawn,boot_toks,os⟩ (topStub prog)).map fun s=>(openSeen fe ["links"] (importedModules prog.main.body) test true s.abs).2.2.2.2
noncomputable def lookV (w:World) (os:OsState):=some (openGood fe ["links"]).2.2.2.2
noncomputable def lookM (w:World) (os:OsState):=(Hd.ji treeTable prog w 11 (some (.ref 6)) 11898 ⟨T₀ w.params,11,{},Array.mk [],boot_drawn,boot_toks,os⟩ (topStub prog)).map fun s=>EW s.abs
noncomputable def lookS (w:World) (os:OsState):=some (F6 w)
theorem lookL_self:lookL=lookL:=rfl
theorem lookO_self:lookO=lookO:=rfl
theorem lookQ_self:lookQ=lookQ:=rfl
theorem lookY_self:lookY=lookY:=rfl
theorem lookB_self:lookB=lookB:=rfl
theorem lookW_self:lookW=lookW:=rfl
theorem lookX_self:lookX=lookX:=rfl
theorem lookU_self:lookU=lookU:=rfl
theorem lookV_self:lookV=lookV:=rfl
theorem lookM_self:lookM=lookM:=rfl
theorem lookS_self:lookS=lookS:=rfl
end K31
noncomputable def PySem.W.Fast.tw14598715356260435866:PySem.Params->PySem.Obj:=PySem.W.boot_o_0
theorem PySem.W.Fast.te14598715356260435866:PySem.W.boot_o_0=PySem.W.Fast.tw14598715356260435866:=rfl
noncomputable def PySem.W.Fast.tw8236809330076867403:PySem.Program:=PySem.Challenge.pw_hushrow_k31_links
theorem PySem.W.Fast.te8236809330076867403:PySem.Challenge.pw_hushrow_k31_links=PySem.W.Fast.tw8236809330076867403:=rfl
noncomputable def PySem.W.Fast.tw13541402199257132061:PySem.Params->PySem.W.Frag:=K31.heapK
theorem PySem.W.Fast.te13541402199257132061:K31.heapK=PySem.W.Fast.tw13541402199257132061:=rfl
lay_quick K31.lookL K31.lookO K31.lookQ K31.lookY K31.lookB K31.lookW K31.lookX K31.lookU K31.lookV K31.lookM K31.lookS
name_quick K31lookL for K31.lookL by K31.lookL_self
name_quick K31lookO for K31.lookO by K31.lookO_self
name_quick K31lookQ for K31.lookQ by K31.lookQ_self
name_quick K31lookY for K31.lookY by K31.lookY_self
name_quick K31lookB for K31.lookB by K31.lookB_self
name_quick K31lookW for K31.lookW by K31.lookW_self
name_quick K31lookX for K31.lookX by K31.lookX_self
name_quick K31lookU for K31.lookU by K31.lookU_self
name_quick K31lookV for K31.lookV by K31.lookV_self
name_quick K31lookM for K31.lookM by K31.lookM_self
name_quick K31lookS for K31.lookS by K31.lookS_self
namespace K31
open PySem L2 PySem.W
theorem rM:W.Fast.K31lookY=W.Fast.K31lookB:=by kernel_rfl
theorem sv:W.Fast.K31lookM=W.Fast.K31lookS:=by kernel_rfl
theorem sN:W.Fast.K31lookO=W.Fast.K31lookQ:=by kernel_rfl
theorem tB:W.Fast.K31lookL=ra:=by kernel_rfl
theorem tD:lookY=lookB:=W.Fast.K31lookY_eq.trans (rM.trans W.Fast.K31lookB_eq.symm)
theorem rT:W.Fast.K31lookW=ra:=by kernel_rfl
theorem ud:lookW=ra:=W.Fast.K31lookW_eq.trans rT
theorem sC:W.Fast.K31lookX=ra:=by kernel_rfl
theorem tI:lookX=ra:=W.Fast.K31lookX_eq.trans sC
theorem sT:W.Fast.K31lookU=W.Fast.K31lookV:=by kernel_rfl
theorem uI:lookU=lookV:=W.Fast.K31lookU_eq.trans (sT.trans W.Fast.K31lookV_eq.symm)
theorem tQ:lookO=lookQ:=W.Fast.K31lookO_eq.trans (sN.trans W.Fast.K31lookQ_eq.symm)
theorem vI:lookL=ra:=W.Fast.K31lookL_eq.trans tB
theorem uE:lookM=lookS:=W.Fast.K31lookM_eq.trans (sv.trans W.Fast.K31lookS_eq.symm)
theorem BD (P:Params):absHeap (T₀ P) 11 {}=boot_heap P:=by kernel_rfl
theorem Bo (w:World):((boot_heap w.params).isNs mainGlobals && (Array.mk []:Array GenState).size == 0,(boot_heap w.params).objs.size,(boot_heap w.params).nsMap mainGlobals "__annotations__")=(true,11,some (.ref 6)):=by kernel_rfl
theorem left:LeftO prog fe ["links"] test hook.obs hook.val 11898:=Hd.zD (boot_open (p:=prog) (N:=11898) (by kernel_rfl) rfl (fun _=>rfl)) Bo BD (fun w os=>congrFun (congrFun vI w) os) (fun w os=>congrFun (congrFun tQ w) os) (fun w os=>congrFun (congrFun tD w) os) (fun w os=>congrFun (congrFun ud w) os) (fun w os=>congrFun (congrFun tI w) os) (fun w os=>congrFun (congrFun uI w) os) (fun w os=>congrFun (congrFun uE w) os)
end K31
namespace L2
open PySem PySem.Spec PyProof.Rows
abbrev Key:=Sum Int Str
def qT:Key->Value->Bool
 | .inl k,v=>Value.isInt k v
 | .inr x,v=>Value.isStrOf x v
def Gj (w:World):Key->Int
 | .inl k=>hashInt k
 | .inr x=>hashStr w x
theorem bR:∀{k:Key}{v:Value},qT k v=true->(∃i t,k=Sum.inl i/\v=Value.int i t) \/ (∃x t,k=Sum.inr x/\v=Value.str x t)
 | .inl i,v,h=>by
  obtain ⟨t,e⟩:=Value.isInt_shape (k:=i) (v:=v) h
  exact .inl ⟨i,t,rfl,e⟩
 | .inr x,v,h=>by
  obtain ⟨t,e⟩:=Value.isStrOf_shape (x:=x) (v:=v) h
  exact .inr ⟨x,t,rfl,e⟩
theorem xN (i:Int) (t:Tok):qT (.inl i) (.int i t)=true:=by simp [qT,Value.isInt]
theorem xS (x:Str) (t:Tok):qT (.inr x) (.str x t)=true:=by simp [qT,Value.isStrOf]
theorem C9 (a b:Int):decide ((Sum.inl a:Key)=Sum.inl b)=(a == b):=by
 by_cases e:a=b
 ·subst e;simp
 ·have h:¬ (Sum.inl a:Key)=Sum.inl b:=fun q=>e (Sum.inl.inj q)
  rw [decide_eq_false h]
  exact (beq_eq_false_iff_ne.mpr e).symm
theorem Cr (a b:Str):decide ((Sum.inr a:Key)=Sum.inr b)=decide (a=b):=by
 by_cases e:a=b
 ·subst e;simp
 ·have h:¬ (Sum.inr a:Key)=Sum.inr b:=fun q=>e (Sum.inr.inj q)
  rw [decide_eq_false h,decide_eq_false e]
theorem DA (a:Int) (b:Str):decide ((Sum.inl a:Key)=Sum.inr b)=false:=decide_eq_false (fun q=>nomatch q)
theorem Dl (a:Str) (b:Int):decide ((Sum.inr a:Key)=Sum.inl b)=false:=decide_eq_false (fun q=>nomatch q)
def bJ (prog:Program) (w:World):PySem.KeyKind prog w Key where
 is:=qT
 hash:=Gj w
 inj:=fun v a b ha hb=>by
  rcases bR ha with ⟨i,t,rfl,rfl⟩ | ⟨x,t,rfl,rfl⟩
  ·rcases bR hb with ⟨j,u,rfl,e⟩ | ⟨y,u,rfl,e⟩
   ·injection e with e1 _;rw [e1]
   ·exact nomatch e
  ·rcases bR hb with ⟨j,u,rfl,e⟩ | ⟨y,u,rfl,e⟩
   ·exact nomatch e
   ·injection e with e1 _;rw [e1]
 byValue:=fun k v h=>by
  rcases bR h with ⟨i,t,rfl,rfl⟩ | ⟨x,t,rfl,rfl⟩ <;> rfl
 pyHash:=fun hv h=>by
  rcases bR hv with ⟨i,t,rfl,rfl⟩ | ⟨x,t,rfl,rfl⟩
  ·exact wpAny_pyHash_int h
  ·exact wpAny_pyHash_str h
 eqBool:=fun hu hv h=>by
  rcases bR hu with ⟨i,t,rfl,rfl⟩ | ⟨x,t,rfl,rfl⟩
  ·rcases bR hv with ⟨j,u,rfl,rfl⟩ | ⟨y,u,rfl,rfl⟩
   ·rw [C9] at h;exact wpAny_eqBool_int h
   ·rw [DA] at h;exact SeqAt.EqAt.int_str i t y u _ _ _ _ h
  ·rcases bR hv with ⟨j,u,rfl,rfl⟩ | ⟨y,u,rfl,rfl⟩
   ·rw [Dl] at h;exact SeqAt.EqAt.str_int x t j u _ _ _ _ h
   ·rw [Cr] at h;exact wpAny_eqBool_str h
 «strs»:=fun k x t v h=>by
  rcases bR h with ⟨i,u,rfl,e⟩ | ⟨y,u,rfl,e⟩
  ·exact nomatch e
  ·injection e with e1 _
   subst e1
   cases v <;> rfl
theorem u4 (prog:Program) (w:World) (i:Int) (t:Tok):(bJ prog w).is (.inl i) (.int i t)=true:=xN i t
theorem uo (prog:Program) (w:World) (x:Str) (t:Tok):(bJ prog w).is (.inr x) (.str x t)=true:=xS x t
end L2
namespace L2
open PySem PySem.Spec PyProof.Rows
inductive V where
 | non | bl (b:Bool) | int (i:Int) | str (x:Str) | byt (b:Array UInt8) | flt (b:UInt64) | ref (a:Addr) | ty (n:String)
 deriving DecidableEq
def RelV:V->Value->Prop
 | .non,u=>u=Value.none
 | .bl b,u=>u=Value.bool b
 | .int i,u=>∃t,u=Value.int i t
 | .str x,u=>∃t,u=Value.str x t
 | .byt b,u=>∃t,u=Value.bytes b t
 | .flt b,u=>∃t,u=Value.float b t
 | .ref a,u=>u=Value.ref a
 | .ty n,u=>u=Value.type n
abbrev Vals:List V->List Value->Prop:=Paired RelV
theorem Vals.length {xs:List V}{us:List Value} (r:Vals xs us):xs.length=us.length:=Paired.length r
theorem Vals.get:∀{xs:List V}{us:List Value}{i:Nat}{x:V},Vals xs us->xs[i]?=some x->∃u,us[i]?=some u/\RelV x u
 | _,_,_,_,.nil,e=>by simp at e
 | _,_,0,_,.cons r _,e=>by simp at e;subst e;exact ⟨_,rfl,r⟩
 | _,_,i + 1,x,.cons _ t,e=>by
  obtain ⟨u,h1,h2⟩:=Vals.get (i:=i) (x:=x) t (by simpa using e)
  exact ⟨u,by simpa using h1,h2⟩
theorem Vals.set {x:V}{u:Value} (r:RelV x u):∀{xs:List V}{us:List Value} (i:Nat),Vals xs us->Vals (xs.set i x) (us.set i u)
 | _,_,_,.nil=>.nil
 | _,_,0,.cons _ t=>.cons r t
 | _,_,i + 1,.cons q t=>.cons q (Vals.set r i t)
theorem Vals.append:∀{xs ys:List V}{us ws:List Value},Vals xs us->Vals ys ws->Vals (xs ++ ys) (us ++ ws)
 | _,_,_,_,.nil,s=>s
 | _,_,_,_,.cons r t,s=>.cons r (Vals.append t s)
theorem Vals.take:∀{xs:List V}{us:List Value} (n:Nat),Vals xs us->Vals (xs.take n) (us.take n)
 | _,_,0,_=>.nil
 | _,_,_ + 1,.nil=>.nil
 | _,_,n + 1,.cons r t=>.cons r (Vals.take n t)
theorem Vals.drop:∀{xs:List V}{us:List Value} (n:Nat),Vals xs us->Vals (xs.drop n) (us.drop n)
 | _,_,0,r=>r
 | _,_,_ + 1,.nil=>.nil
 | _,_,n + 1,.cons _ t=>Vals.drop n t
theorem Vals.none_of:∀{xs:List V}{us:List Value}{i:Nat},Vals xs us->xs[i]?=none->us[i]?=none:=fun {xs us i} r e=>by
 have h1:=r.length
 have h2:xs.length <= i:=List.getElem?_eq_none_iff.mp e
 exact List.getElem?_eq_none_iff.mpr (by omega)
def kb:Option V->Option Value->Prop
 | some v,some u=>RelV v u
 | none,none=>True
 | _,_=>False
def KV {κ:Type}:List (κ × V)->List (κ × Value)->Prop:=Paired fun (p:κ × V) (q:κ × Value)=>p.1=q.1/\RelV p.2 q.2
def kV:Key->V
 | .inl i=>.int i
 | .inr x=>.str x
inductive HO where
 | lst (xs:List V)
 | tup (xs:List V)
 | dK (kvs:List (Key × V)) | dT (kvs:List (List Key × V))
 | set (S:Int->Bool) (n:Nat)
 | ins (C dx:Addr) (fs:List (Str × V))
 | own (x:Addr)
 | xd (fs:List (Str × V))
 | met (f x:Addr)
 | rng (lo hi:Int)
 | frz (o:Obj) (u:HO)
 | tbl (ps:Array Value)
 | ext (φ:Heap->Prop)
abbrev Hp:=Addr->Option HO
def upd (H:Hp) (a:Addr) (o:HO):Hp:=fun b=>if b=a then some o else H b
theorem ao {H:Hp}{a:Addr}{o:HO}:upd H a o a=some o:=by unfold upd;rw [if_pos rfl]
theorem aQ {H:Hp}{a b:Addr}{o:HO} (h:b ≠ a):upd H a o b=H b:=by unfold upd;rw [if_neg h]
theorem AM {H:Hp}{a:Addr}{o u:HO}:upd (upd H a o) a u=upd H a u:=by
 funext b;unfold upd;split <;> rfl
theorem Ff {H:Hp}{a b:Addr}{o u:HO} (h:H a=some o) (h':H b=some u) (d:o ≠ u):a ≠ b:=by
 intro e;subst e;rw [h] at h';exact d (Option.some.inj h')
theorem dC {H:Hp}{a b:Addr}{o:HO} (h:H a=some o) (h':H b=none):a ≠ b:=by
 intro e;subst e;rw [h] at h';cases h'
section
variable (P:Program) (w:World)
def bW (H:Hp) (h:Heap) (a:Addr):HO->Prop
 | .lst xs=>xs.length <= sizeLine/\∃(its:List Value) (n:Nat),Vals xs its/\h.get? a=some { cls:=.type "list",data:=.seq its.toArray n }
 | .tup xs=>xs.length <= sizeLine/\∃its:List Value,Vals xs its/\IsTup h a its.toArray
 | .dK kvs=>kvs.length <= sizeLine/\(a == sysModules)=false/\∃vs,KV kvs vs/\h.DictOf (bJ P w) a vs
 | .dT kvs=>kvs.length <= sizeLine/\(a == sysModules)=false/\∃xs:List (List Key × Addr × Value),
   Paired (fun (p:List Key × V) (q:List Key × Addr × Value)=>p.1=q.1/\H q.2.1=some (.tup (p.1.map kV))/\RelV p.2 q.2.2) kvs xs /\
   ∃o es ep,h.get? a=some o/\o.ExactDict/\o.data=.dict es ep/\es.toList=xs.map (entryOfKey (tupleKind (bJ P w)))/\(xs.map (·.1)).Nodup
 | .set S n=>h.SetOf (intKind P w) a S n
 | .ins C dx fs=>H dx=some (.own a)/\fs.length <= 1000/\dx ≠ a/\h.get? a=some (W.instObj C dx) /\
   ∃mA,h.Ns1 dx mA/\(∀f,kb (fs.lookup f) (mA f))/\PySem.Within mA (fs.map (·.1))
 | .own _=>∃o,h.get? a=some o
 | .xd fs=>∃mA,h.Ns1 a mA/\∀f,kb (fs.lookup f) (mA f)
 | .rng lo hi=>∃t u v,h.get? a=some { cls:=.type "range",data:=.fields #[.int lo t,.int hi u,.int 1 v] }
 | .frz o u=>h.get? a=some o/\bW H h a u
 | .tbl ps=>h.get? a=some { cls:=.none,data:=.fields ps }
 | .met f x=>h.get? a=some (W.methodObj (.ref f) (.ref x))
 | .ext φ=>φ h/\(∃o,h.get? a=some o)/\∀h1 h2:Heap,φ h1->(∀o,h1.get? a=some o->h2.get? a=some o)->φ h2
def HOk (H:Hp) (h:Heap):Prop:=∀a o,H a=some o->bW P w H h a o
end
section
variable {P:Program}{w:World}{H H':Hp}{h h':Heap}{a:Addr}{o:HO}
theorem bW.lt (x:bW P w H h a o):a < h.objs.size:=by
 cases o with
 | lst xs=>obtain ⟨_,_,_,_,e⟩:=x;exact Heap.lt_size e
 | tup xs=>obtain ⟨_,_,_,p⟩:=x;exact p.lt
 | dK kvs=>obtain ⟨_,_,_,_,o,_,_,e,_⟩:=x;exact Heap.lt_size e
 | dT kvs=>obtain ⟨_,_,_,_,o,_,_,e,_⟩:=x;exact Heap.lt_size e
 | set S n=>obtain ⟨o,_,_,_,e,_⟩:=x;exact Heap.lt_size e
 | ins C dx fs=>obtain ⟨_,_,_,e,_⟩:=x;exact Heap.lt_size e
 | own y=>obtain ⟨_,e⟩:=x;exact Heap.lt_size e
 | xd fs=>obtain ⟨_,⟨_,_,_,e,_⟩,_⟩:=x;exact Heap.lt_size e
 | rng lo hi=>obtain ⟨_,_,_,e⟩:=x;exact Heap.lt_size e
 | frz ob u=>obtain ⟨e,_⟩:=x;exact Heap.lt_size e
 | tbl ps=>exact Heap.lt_size (show h.get? a=some _ from x)
 | met f y=>exact Heap.lt_size (show h.get? a=some _ from x)
 | ext φ=>obtain ⟨_,⟨_,e⟩,_⟩:=x;exact Heap.lt_size e
theorem Paired.nX {α β:Type}{F G:α->β->Prop}:∀{l₁:List α}{l₂:List β},Paired F l₁ l₂->(∀a b,F a b->G a b)->Paired G l₁ l₂
 | _,_,.nil,_=>.nil
 | _,_,.cons r t,f=>.cons (f _ _ r) (Paired.nX t f)
theorem bW.ve (x:bW P w H h a o) (k:∀b u,(b=a \/ H b=some (.own a))->h.get? b=some u->h'.get? b=some u)
  (ho:∀b,H b=some (.own a)->H' b=some (.own a)) (ht:∀b xs,H b=some (.tup xs)->H' b=some (.tup xs)):bW P w H' h' a o:=by
 induction o with
 | lst xs=>obtain ⟨z,its,n,r,e⟩:=x;exact ⟨z,its,n,r,k _ _ (.inl rfl) e⟩
 | tup xs=>obtain ⟨z,its,r,ob,e,c⟩:=x;exact ⟨z,its,r,ob,k _ _ (.inl rfl) e,c⟩
 | dK kvs=>obtain ⟨z,y,vs,r,ob,es,ep,e,c⟩:=x;exact ⟨z,y,vs,r,ob,es,ep,k _ _ (.inl rfl) e,c⟩
 | dT kvs =>
  obtain ⟨z,y,xs,r,ob,es,ep,e,c⟩:=x
  exact ⟨z,y,xs,Paired.nX r fun p q z=>⟨z.1,ht _ _ z.2.1,z.2.2⟩,ob,es,ep,k _ _ (.inl rfl) e,c⟩
 | set S n=>obtain ⟨ob,es,ep,t,e,c⟩:=x;exact ⟨ob,es,ep,t,k _ _ (.inl rfl) e,c⟩
 | ins C dx fs =>
  obtain ⟨d,z,ne,e,mA,⟨od,es,ep,e2,c⟩,r⟩:=x
  exact ⟨ho _ d,z,ne,k _ _ (.inl rfl) e,mA,⟨od,es,ep,k _ _ (.inr d) e2,c⟩,r⟩
 | own y=>obtain ⟨ob,e⟩:=x;exact ⟨ob,k _ _ (.inl rfl) e⟩
 | xd fs=>obtain ⟨mA,⟨od,es,ep,e,c⟩,r⟩:=x;exact ⟨mA,⟨od,es,ep,k _ _ (.inl rfl) e,c⟩,r⟩
 | rng lo hi=>obtain ⟨t,u,v,e⟩:=x;exact ⟨t,u,v,k _ _ (.inl rfl) e⟩
 | frz ob u ih=>obtain ⟨e,q⟩:=x;exact ⟨k _ _ (.inl rfl) e,ih q⟩
 | tbl ps =>
  have e:h.get? a=some { cls:=.none,data:=.fields ps }:=x
  show h'.get? a=some { cls:=.none,data:=.fields ps }
  exact k a _ (.inl rfl) e
 | met f y =>
  have e:h.get? a=some (W.methodObj (.ref f) (.ref y)):=x
  show h'.get? a=some (W.methodObj (.ref f) (.ref y))
  exact k a _ (.inl rfl) e
 | ext φ=>obtain ⟨p,⟨o,e⟩,st⟩:=x;exact ⟨st _ _ p fun o q=>k _ _ (.inl rfl) q,⟨o,k _ _ (.inl rfl) e⟩,st⟩
theorem HOk.lt (x:HOk P w H h) (e:H a=some o):a < h.objs.size:=(x a o e).lt
theorem HOk.fresh (x:HOk P w H h) (e:h.objs.size <= a):H a=none:=by
 cases q:H a with
 | none=>rfl
 | some u=>exact absurd (Nat.lt_of_lt_of_le (x.lt q) e) (Nat.lt_irrefl _)
theorem HOk.kept (x:HOk P w H h) (k:∀b u,h.get? b=some u->h'.get? b=some u):HOk P w H h':=fun a o e =>
 (x a o e).ve (fun b u _ q=>k b u q) (fun _ q=>q) fun _ _ q=>q
theorem HOk.laid (x:HOk P w H h) (k:∀b u,h.get? b=some u->h'.get? b=some u) (hp:h.objs.size <= a) (new:bW P w (upd H a o) h' a o):HOk P w (upd H a o) h':=fun b u e=>by
 have hn:=x.fresh hp
 by_cases hb:b=a
 ·subst hb;rw [ao] at e;cases e;exact new
 ·rw [aQ hb] at e
  exact (x b u e).ve (fun c v _ q=>k c v q) (fun c q=>by rw [aQ (dC q hn)];exact q) fun c xs q=>by rw [aQ (dC q hn)];exact q
end
def Rd (H:Hp) (a:Addr) (u:HO):Prop:=H a=some u \/ ∃o,H a=some (.frz o u)
theorem Rd.ok {P:Program}{w:World}{H:Hp}{h:Heap}{a:Addr}{u:HO} (r:Rd H a u) (x:HOk P w H h):bW P w H h a u:=by
 rcases r with r | ⟨o,r⟩
 ·exact x a u r
 ·obtain ⟨_,q⟩:=x a _ r
  exact q
def Mut:Option HO->Prop
 | some (.lst _)=>True
 | some (.dK _)=>True
 | some (.dT _)=>True
 | some (.set _ _)=>True
 | some (.ins _ _ _)=>True
 | some (.ext _)=>True
 | _=>False
section
variable {P:Program}{w:World}{H:Hp}{h h':Heap}{x e:Addr}{o':HO}
theorem HOk.write (ok:HOk P w H h) (mu:Mut (H x)) (he:e=x \/ H e=some (.own x)) (k:∀b u,b ≠ e->h.get? b=some u->h'.get? b=some u) (heo:∃u,h'.get? e=some u)
  (new:bW P w (upd H x o') h' x o'):HOk P w (upd H x o') h':=fun b u q=>by
 have nown:∀c y,H c=some (.own y)->c ≠ x:=fun c y r z=>by subst z;rw [r] at mu;exact mu
 have ntup:∀c xs,H c=some (.tup xs)->c ≠ x:=fun c xs r z=>by subst z;rw [r] at mu;exact mu
 by_cases hb:b=x
 ·subst hb;rw [ao] at q;cases q;exact new
 ·rw [aQ hb] at q
  by_cases hbe:b=e
  ·have q':H b=some (.own x):=by
    rcases he with z | z
    ·exact absurd (hbe.trans z) hb
    ·rw [hbe];exact z
   rw [q] at q';cases q'
   obtain ⟨v,hv⟩:=heo
   exact ⟨v,by rw [hbe];exact hv⟩
  ·refine (ok b u q).ve (fun c v hc r=>k c v ?_ r) (fun c r=>by rw [aQ (nown c b r)];exact r) fun c xs r=>by rw [aQ (ntup c xs r)];exact r
   rcases hc with rfl | hc
   ·exact hbe
   ·rintro rfl
    rcases he with z | z
    ·exact nown c b hc z
    ·rw [hc] at z;cases z;exact hb rfl
end
structure Un (fs ex:List Addr) (H H':Hp) (h h':Heap):Prop where
 keep:∀b o,h.get? b=some o->H b=none->b ∉ fs->b ∉ ex->h'.get? b=some o
 slot:∀b o,h.get? b=some o->H b=none->b ∈ fs->b ∉ ex->∃sl,h'.get? b=some { o with slots:=sl }
 free:∀b o,h.get? b=some o->H b=none->b ∉ ex->H' b=none
 there:∀b o,h.get? b=some o->b ∉ ex->∃o',h'.get? b=some o'
 rN:∀b xs,H b=some (.tup xs)->H' b=some (.tup xs)
 p6:∀b o u,H b=some (.frz o u)->H' b=some (.frz o u)
 rY:∀b ps,H b=some (.tbl ps)->∃more,H' b=some (.tbl (ps ++ more))
section
variable {fs fs' ex ex':List Addr}{H H1 H2:Hp}{h h1 h2 h':Heap}{a x e:Addr}{o:HO}
theorem Un.any (u:Un fs ex H H1 h h1) {b:Addr}{ob:Obj} (q:h.get? b=some ob) (n:H b=none) (hx:b ∉ ex):∃sl,h1.get? b=some { ob with slots:=sl }:=by
 by_cases hb:b ∈ fs
 ·exact u.slot b ob q n hb hx
 ·exact ⟨ob.slots,u.keep b ob q n hb hx⟩
theorem Un.kept (k:∀b u,h.get? b=some u->h'.get? b=some u):Un fs ex H H h h' :=
 ⟨fun b ob q _ _ _=>k b ob q,fun b ob q _ _ _=>⟨ob.slots,k b ob q⟩,fun _ _ _ n _=>n,fun b ob q _=>⟨ob,k b ob q⟩,fun _ _ q=>q,fun _ _ _ q=>q,fun _ ps q=>⟨#[],by rw [q];simp⟩⟩
theorem Un.refl:Un fs ex H H h h:=Un.kept fun _ _ q=>q
theorem Un.laid (k:∀b u,h.get? b=some u->h'.get? b=some u) (hp:h.objs.size <= a) (hn:H a=none):Un fs ex H (upd H a o) h h' where
 keep:=fun b u q _ _ _=>k b u q
 slot:=fun b u q _ _ _=>⟨u.slots,k b u q⟩
 free:=fun b u q n _=>by rw [aQ (Nat.ne_of_lt (Nat.lt_of_lt_of_le (Heap.lt_size q) hp))];exact n
 there:=fun b u q _=>⟨u,k b u q⟩
 rN:=fun b xs q=>by rw [aQ (dC q hn)];exact q
 p6:=fun b u xs q=>by rw [aQ (dC q hn)];exact q
 rY:=fun b ps q=>⟨#[],by rw [aQ (dC q hn),q];simp⟩
theorem Un.write (mu:Mut (H x)) (he:e=x \/ H e=some (.own x)) (k:∀b u,b ≠ e->h.get? b=some u->h'.get? b=some u) (heo:∃u,h'.get? e=some u):Un fs ex H (upd H x o) h h':=by
 have hx:∀b,H b=none->b ≠ x:=fun b n z=>by subst z;rw [n] at mu;exact mu
 have hb:∀b,H b=none->b ≠ e:=fun b n z=>by
  subst z
  rcases he with r | r
  ·exact hx b n r
  ·rw [n] at r;cases r
 have hm:∀b u,H b=some u->¬ Mut (some u)->b ≠ x:=fun b u q nm z=>by subst z;rw [q] at mu;exact nm mu
 refine ⟨fun b u q n _ _=>k b u (hb b n) q,fun b u q n _ _=>⟨u.slots,k b u (hb b n) q⟩,fun b u q n _=>by rw [aQ (hx b n)];exact n,fun b u q _=>?_,
  fun b xs q=>by rw [aQ (hm b _ q fun z=>z)];exact q,fun b u xs q=>by rw [aQ (hm b _ q fun z=>z)];exact q,fun b ps q=>⟨#[],by rw [aQ (hm b _ q fun z=>z),q];simp⟩⟩
 by_cases hbe:b=e
 ·subst hbe;exact heo
 ·exact ⟨u,k b u hbe q⟩
end
def trk (h:Heap) (H:Hp):List Addr:=(List.range h.objs.size).filter fun a=>(H a).isSome
def rn (h:Heap) (H:Hp):Heap:=W.hideAll h (trk h H)
theorem ye (h:Heap) (H:Hp):(rn h H).objs.size=h.objs.size:=W.hideAll_size _ _
theorem yP {h:Heap}{H:Hp}{b:Addr}{o:Obj} (e:h.get? b=some o) (n:H b=none):(rn h H).get? b=some o :=
 W.hideAll_get _ e fun hm=>by
  have q:(H b).isSome=true:=(List.mem_filter.mp hm).2
  rw [n] at q;simp at q
theorem BP {h:Heap}{H:Hp}{b:Addr}{o:Obj} (e:(rn h H).get? b=some o):h.get? b=some o/\H b=none:=by
 have e':h.get? b=some o:=W.of_hideAll (trk h H) e
 refine ⟨e',?_⟩
 cases q:H b with
 | none=>rfl
 | some x =>
  have hm:b ∈ trk h H:=List.mem_filter.mpr ⟨List.mem_range.mpr (Heap.lt_size e'),by simp [q]⟩
  have z:(rn h H).get? b=none:=W.hideAll_none (trk h H) hm
  rw [z] at e;cases e
end L2
namespace L2
open PySem PySem.Spec PyProof.Rows
structure Mod (K:W.Frag) (mg:Str->Option Value) (base:Heap):Prop where
 kin:K.In base
 glob:base.Ns mainGlobals mg
 blt:∃mb,base.Ns builtinsNs mb/\∀x:Str,x ≠ "__name__"->mb x=bootBuiltins x
 nolimit:base.NoLimit
structure Cx where
 prog:Program
 w:World
 K:W.Frag
 mg:Str->Option Value
 base:Heap
 A:Around
 N:List Str
 s₀:Shared
 H₀:Hp
 env:Env
 outer:List Env
 stack:List Env
 ex:List Addr
 fn:Str->Bool
 calm:Bool
 pn:List (Addr × Obj)
 xe:Value->Shared->Prop
def frs (l:List Env):List Addr:=l.filterMap (·.frame)
abbrev Cx.fs (X:Cx):List Addr:=frs X.outer
def Vis (sc:Scope) (x:Str):Prop:=sc.names.lookup x=some .local \/ sc.names.lookup x=some .cell \/ sc.names.lookup x=some .free
def Loc (sc:Scope) (x:Str):Prop:=sc.names.lookup x=some .local \/ sc.names.lookup x=some .cell
def Look (env:Env) (h:Heap) (m:Str->Option Value) (x:Str) (u:Value):Prop :=
 (env.kindOf x=some .local/\m x=some u) \/ ((env.kindOf x=some .cell \/ env.kindOf x=some .free)/\∃c,env.cells.lookup x=some c/\h.IsCell c (some u))
structure Cx.Ok (X:Cx):Prop where
 mod:Mod X.K X.mg X.base
 kind:X.env.scope.kind=.function
 glob:X.env.globals=mainGlobals
 blt:X.env.builtins=builtinsNs
 above:X.s₀.heap.objs.size <= X.env.locals
 inj:∀x y c,X.env.cells.lookup x=some c->X.env.cells.lookup y=some c->x=y
 has:∀x,(X.env.kindOf x=some .cell \/ X.env.kindOf x=some .free)->∃c,X.env.cells.lookup x=some c
 cab:∀x c,X.fn x=true->X.env.cells.lookup x=some c->X.s₀.heap.objs.size <= c
 hd:X.calm=true->X.A.handled=none
 frames:X.A.frames=some X.stack
 stk:X.stack=X.outer \/ (X.stack=X.env :: X.outer/\X.env.frame=some X.env.locals)
 exf:∀b ∈ X.ex,b ≠ X.env.locals/\∀x c,X.env.cells.lookup x=some c->c ≠ b
 bs:∀b o,X.base.get? b=some o->X.s₀.heap.get? b=some o/\X.H₀ b=none
 bsz:X.base.objs.size <= X.s₀.heap.objs.size
 zN:∀b o,X.base.get? b=some o->b ∉ X.ex
 yV:∀b ∈ X.ex,b ∉ X.fs
 nL:X.s₀.heap.FunFrames X.base X.outer
 frf:∀b ∈ X.fs,X.H₀ b=none
structure Inv (X:Cx) (pins:List (Addr × Obj)) (σ:List (Option V)) (H:Hp) (s:Shared):Prop where
 ok:X.Ok
 os:s.os=X.s₀.os
 bare:AllBare s.gens
 base:Un X.fs X.ex X.H₀ H X.s₀.heap s.heap
 loc:∃m,s.heap.Ns X.env.locals m/\∀(i:Nat) (x:Str) (v:V),X.N[i]?=some x->σ[i]?=some (some v)->Vis X.env.scope x->∃u,RelV v u/\Look X.env s.heap m x u
 cell:∀x c,X.env.cells.lookup x=some c->∃v,s.heap.IsCell c v
 free:H X.env.locals=none
 jA:∀x c,X.env.cells.lookup x=some c->H c=none
 pin:∀p ∈ X.pn ++ pins,s.heap.get? p.1=some p.2/\H p.1=none/\p.1 ≠ X.env.locals/\p.1 ∉ X.fs/\∀v,p.2.data ≠ .cell v
 hok:HOk X.prog X.w H s.heap
 len:σ.length=X.N.length
section
variable {X:Cx}{pins:List (Addr × Obj)}{σ:List (Option V)}{H H':Hp}{s:Shared}{h':Heap}
theorem Cx.Ok.Fy (ok:X.Ok) {b:Addr}{o:Obj} (e:X.base.get? b=some o):b ∉ X.fs:=fun hb=>by
 have:=(ok.nL.mem hb).1
 rw [e] at this;cases this
theorem Inv.bs (I:Inv X pins σ H s):∀b o,X.base.get? b=some o->s.heap.get? b=some o/\H b=none:=fun b o e =>
 ⟨I.base.keep b o (I.ok.bs b o e).1 (I.ok.bs b o e).2 (I.ok.Fy e) (I.ok.zN b o e),I.base.free b o (I.ok.bs b o e).1 (I.ok.bs b o e).2 (I.ok.zN b o e)⟩
theorem Inv.bk (I:Inv X pins σ H s):∀b o,X.base.get? b=some o->s.heap.get? b=some o:=fun b o e=>(I.bs b o e).1
theorem Inv.mod (I:Inv X pins σ H s):Mod X.K X.mg X.base:=I.ok.mod
theorem Inv.kIn (I:Inv X pins σ H s):X.K.In s.heap:=I.ok.mod.kin.keeps I.bk
theorem Inv.lt (I:Inv X pins σ H s):X.env.locals < s.heap.objs.size:=let ⟨_,hn,_⟩:=I.loc;hn.lt
theorem Inv.sz (I:Inv X pins σ H s):X.s₀.heap.objs.size <= s.heap.objs.size:=Nat.le_trans I.ok.above (Nat.le_of_lt I.lt)
theorem Inv.EC (I:Inv X pins σ H s) {a:Addr} (h:s.heap.objs.size <= a):a ∉ X.fs:=fun hb=>by
 obtain ⟨_,o,ho,_⟩:=I.ok.nL.mem hb
 exact absurd (Nat.lt_of_lt_of_le (Heap.lt_size ho) (Nat.le_trans I.sz h)) (Nat.lt_irrefl _)
theorem Inv.cne (I:Inv X pins σ H s):∀x c,X.env.cells.lookup x=some c->c ≠ X.env.locals:=fun x c e z=>by
 obtain ⟨v,o,ho,hd⟩:=I.cell x c e
 obtain ⟨m,⟨o',es,ep,ho',hd',_⟩,_⟩:=I.loc
 rw [z,ho'] at ho;cases ho;rw [hd'] at hd;cases hd
theorem Inv.nL (I:Inv X pins σ H s):s.heap.FunFrames X.base X.outer:=by
 have all:∀(l:List Env),(∀b ∈ frs l,b ∈ X.fs)->X.s₀.heap.FunFrames X.base l->s.heap.FunFrames X.base l:=by
  intro l
  induction l with
  | nil=>intro _ _;trivial
  | cons env r ih =>
   intro hs hl
   obtain ⟨hk,⟨L,o,hf,hn,ho,hd⟩,hr⟩:=hl
   have hL:L ∈ X.fs:=hs L (by unfold frs;rw [List.filterMap_cons,hf];exact List.mem_cons_self)
   obtain ⟨sl,e⟩:=I.base.slot L o ho (I.ok.frf L hL) hL fun z=>I.ok.yV L z hL
   exact ⟨hk,⟨L,_,hf,hn,e,hd⟩,ih (fun b hb=>hs b (by unfold frs;rw [List.filterMap_cons,hf];exact List.mem_cons_of_mem _ hb)) hr⟩
 exact all X.outer (fun _ hb=>hb) I.ok.nL
theorem Inv.stack (I:Inv X pins σ H s):s.heap.FunFrames X.base X.stack:=by
 rcases I.ok.stk with e | ⟨e,hf⟩
 ·rw [e];exact I.nL
 ·rw [e]
  obtain ⟨m,hn,_⟩:=I.loc
  refine .cons (by rw [I.ok.kind];decide) hf hn ?_ I.nL
  exact Heap.get?_none_of_le (Nat.le_trans I.ok.bsz I.ok.above)
theorem Inv.vW (I:Inv X pins σ H s):∀b ∈ frs X.stack,b ∈ X.env.locals :: X.fs:=fun b hb=>by
 rcases I.ok.stk with e | ⟨e,hf⟩
 ·rw [e] at hb;exact List.mem_cons_of_mem _ hb
 ·rw [e] at hb
  unfold frs at hb
  rw [List.filterMap_cons,hf] at hb
  exact hb
theorem Inv.wm (I:Inv X pins σ H s):∀b ∈ frs X.stack,H b=none:=fun b hb=>by
 rcases List.mem_cons.mp (I.vW b hb) with e | hb
 ·rw [e];exact I.free
 ·obtain ⟨_,o,ho,_⟩:=I.ok.nL.mem hb
  exact I.base.free b o ho (I.ok.frf b hb) fun z=>I.ok.yV b z hb
theorem Inv.step {g':Array GenState}{t':Nat}{d':Drawn}{ch:List Addr} (I:Inv X pins σ H s)
  (hch:∀b ∈ ch,(b ∈ X.ex \/ X.s₀.heap.objs.size <= b)/\b ≠ X.env.locals/\(∀x c,X.env.cells.lookup x=some c->c ≠ b)/\∀p ∈ X.pn ++ pins,p.1 ≠ b)
  (keep:∀b o,b ≠ X.env.locals->b ∉ X.fs->b ∉ ch->s.heap.get? b=some o->H b=none->h'.get? b=some o)
  (slot:∀b o,b ≠ X.env.locals->b ∈ X.fs->b ∉ ch->s.heap.get? b=some o->H b=none->∃sl,h'.get? b=some { o with slots:=sl }) (free:∀b o,b ∉ ch->s.heap.get? b=some o->H b=none->H' b=none)
  (there:∀b o,b ∉ ch->s.heap.get? b=some o->∃o',h'.get? b=some o')
  (rN:∀b xs,H b=some (.tup xs)->H' b=some (.tup xs)) (p6:∀b o u,H b=some (.frz o u)->H' b=some (.frz o u)) (rY:∀b ps,H b=some (.tbl ps)->∃more,H' b=some (.tbl (ps ++ more)))
  (ns:∀m,s.heap.Ns X.env.locals m->h'.Ns X.env.locals m) (hok:HOk X.prog X.w H' h') (hg:AllBare g') :
  Inv X pins σ H' { s with heap:=h',gens:=g',drawn:=d',toks:=t' }:=by
 have neL:∀b o,X.s₀.heap.get? b=some o->b ≠ X.env.locals:=fun b o e=>Nat.ne_of_lt (Nat.lt_of_lt_of_le (Heap.lt_size e) I.ok.above)
 have neC:∀b o,X.s₀.heap.get? b=some o->b ∉ X.ex->b ∉ ch:=fun b o e hx hb=>by
  rcases (hch b hb).1 with z | z
  ·exact hx z
  ·exact absurd (Nat.lt_of_lt_of_le (Heap.lt_size e) z) (Nat.lt_irrefl _)
 have cellK:∀x c,X.env.cells.lookup x=some c->∀v,s.heap.IsCell c v->h'.IsCell c v:=fun x c e v ⟨o,ho,hd⟩=>by
  have nch:c ∉ ch:=fun z=>(hch c z).2.2.1 x c e rfl
  by_cases hc:c ∈ X.fs
  ·obtain ⟨sl,q⟩:=slot c o (I.cne x c e) hc nch ho (I.jA x c e)
   exact ⟨_,q,hd⟩
  ·exact ⟨o,keep c o (I.cne x c e) hc nch ho (I.jA x c e),hd⟩
 refine ⟨I.ok,I.os,hg,⟨fun b o e n hb hx=>?_,fun b o e n hb hx=>?_,fun b o e n hx=>?_,fun b o e hx=>?_,fun b xs e=>rN b xs (I.base.rN b xs e),fun b o xs e=>p6 b o xs (I.base.p6 b o xs e),fun b ps e=>?_⟩,?_,fun x c e=>?_,?_,fun x c e=>?_,fun p hp=>?_,hok,I.len⟩
 ·exact keep b o (neL b o e) hb (neC b o e hx) (I.base.keep b o e n hb hx) (I.base.free b o e n hx)
 ·obtain ⟨sl,e1⟩:=I.base.slot b o e n hb hx
  obtain ⟨sl',e2⟩:=slot b _ (neL b o e) hb (neC b o e hx) e1 (I.base.free b o e n hx)
  exact ⟨sl',e2⟩
 ·obtain ⟨o',e1⟩:=I.base.there b o e hx
  exact free b o' (neC b o e hx) e1 (I.base.free b o e n hx)
 ·obtain ⟨o',e1⟩:=I.base.there b o e hx
  exact there b o' (neC b o e hx) e1
 ·obtain ⟨m1,e1⟩:=I.base.rY b ps e
  obtain ⟨m2,e2⟩:=rY b _ e1
  exact ⟨m1 ++ m2,by rw [e2,Array.append_assoc]⟩
 ·obtain ⟨m,hn,hl⟩:=I.loc
  refine ⟨m,ns m hn,fun i x v e1 e2 e3=>?_⟩
  obtain ⟨u,r,l⟩:=hl i x v e1 e2 e3
  refine ⟨u,r,?_⟩
  rcases l with l | ⟨k,c,e,z⟩
  ·exact .inl l
  ·exact .inr ⟨k,c,e,cellK x c e _ z⟩
 ·obtain ⟨v,z⟩:=I.cell x c e
  exact ⟨v,cellK x c e v z⟩
 ·obtain ⟨m,⟨o,_,_,ho,_⟩,_⟩:=I.loc
  exact free _ o (fun z=>(hch _ z).2.1 rfl) ho I.free
 ·obtain ⟨v,o,ho,hd⟩:=I.cell x c e
  exact free c o (fun z=>(hch c z).2.2.1 x c e rfl) ho (I.jA x c e)
 ·obtain ⟨e,n,ne,nf,d⟩:=I.pin p hp
  have nch:p.1 ∉ ch:=fun z=>(hch p.1 z).2.2.2 p hp rfl
  exact ⟨keep p.1 p.2 ne nf nch e n,free p.1 p.2 nch e n,ne,nf,d⟩
theorem Inv.un {t':Nat} (I:Inv X pins σ H s) (u:Un X.fs [] H H' s.heap h') (hok:HOk X.prog X.w H' h'):Inv X pins σ H' { s with heap:=h',toks:=t' }:=by
 obtain ⟨m,⟨o,es,ep,ho,r⟩,_⟩:=id I.loc
 obtain ⟨sl,hL⟩:=u.any ho I.free (by simp)
 exact I.step (g':=s.gens) (d':=s.drawn) (ch:=[]) (fun _ z=>nomatch z) (fun b o _ hb _ e n=>u.keep b o e n hb (by simp)) (fun b o _ hb _ e n=>u.slot b o e n hb (by simp)) (fun b o _ e n=>u.free b o e n (by simp)) (fun b o _ e=>u.there b o e (by simp)) u.rN u.p6 u.rY (fun m' hm=>by
  obtain ⟨o',es',ep',ho',r'⟩:=hm
  rw [ho] at ho';cases ho'
  exact ⟨_,es',ep',hL,r'⟩) hok I.bare
theorem Inv.call {g':Array GenState}{t':Nat}{d':Drawn}{ch:List Addr} (I:Inv X pins σ H s) (u:Un (frs X.stack) ch H H' s.heap h') (hok:HOk X.prog X.w H' h') (hg:AllBare g')
  (hch:∀b ∈ ch,(b ∈ X.ex \/ X.s₀.heap.objs.size <= b)/\b ≠ X.env.locals/\(∀x c,X.env.cells.lookup x=some c->c ≠ b)/\∀p ∈ X.pn ++ pins,p.1 ≠ b) :
  Inv X pins σ H' { s with heap:=h',gens:=g',drawn:=d',toks:=t' }:=by
 obtain ⟨m,⟨o,es,ep,ho,r⟩,_⟩:=id I.loc
 obtain ⟨sl,hL⟩:=u.any ho I.free fun z=>(hch _ z).2.1 rfl
 exact I.step (ch:=ch) hch (fun b o hL hb hc e n=>u.keep b o e n (fun z=>(List.mem_cons.mp (I.vW b z)).elim hL hb) hc) (fun b o _ _ hc e n=>u.any e n hc) (fun b o hc e n=>u.free b o e n hc) (fun b o hc e=>u.there b o e hc) u.rN u.p6 u.rY (fun m' hm=>by
  obtain ⟨o',es',ep',ho',r'⟩:=hm
  rw [ho] at ho';cases ho'
  exact ⟨_,es',ep',hL,r'⟩) hok hg
theorem Inv.turned {t':Nat}{it:Addr} (I:Inv X pins σ H s) (k:∀b o,b ≠ it->s.heap.get? b=some o->h'.get? b=some o) (hn:H it=none) (hL:it ≠ X.env.locals)
  (h1:it ∈ X.ex \/ X.s₀.heap.objs.size <= it) (h2:∀x c,X.env.cells.lookup x=some c->c ≠ it) (h3:∀p ∈ X.pn ++ pins,p.1 ≠ it):Inv X pins σ H { s with heap:=h',toks:=t' }:=by
 have nit:∀b u,H b=some u->b ≠ it:=fun b u e z=>by rw [z,hn] at e;cases e
 refine I.step (g':=s.gens) (d':=s.drawn) (ch:=[it]) (fun b hb=>?_) (fun b o _ _ hc e _=>k b o (fun z=>hc (by simp [z])) e) (fun b o _ _ hc e _=>⟨o.slots,k b o (fun z=>hc (by simp [z])) e⟩) (fun _ _ _ _ n=>n)
  (fun b o hc e=>⟨o,k b o (fun z=>hc (by simp [z])) e⟩) (fun _ _ e=>e) (fun _ _ _ e=>e) (fun b ps e=>⟨#[],by rw [e];simp⟩) (fun m hm=>?_) (fun b u e=>?_) I.bare
 ·have e:b=it:=by simpa using hb
  subst e
  exact ⟨h1,hL,h2,h3⟩
 ·obtain ⟨o,es,ep,ho,r⟩:=hm
  exact ⟨o,es,ep,k _ o (Ne.symm hL) ho,r⟩
 ·refine (I.hok b u e).ve (fun c v hc q=>k c v ?_ q) (fun _ q=>q) fun _ _ q=>q
  rcases hc with z | z
  ·rw [z];exact nit b u e
  ·exact nit c _ z
theorem Inv.tok (I:Inv X pins σ H s) (t:Nat):Inv X pins σ H { s with toks:=t }:=I.un (h':=s.heap) (t':=t) Un.refl I.hok
theorem Inv.kept {t':Nat} (I:Inv X pins σ H s) (k:∀b u,s.heap.get? b=some u->h'.get? b=some u):Inv X pins σ H { s with heap:=h',toks:=t' }:=I.un (Un.kept k) (I.hok.kept k)
theorem Inv.laid {a:Addr}{o:HO}{t':Nat} (I:Inv X pins σ H s) (k:∀b u,s.heap.get? b=some u->h'.get? b=some u) (hp:s.heap.objs.size <= a) (new:bW X.prog X.w (upd H a o) h' a o) :
  Inv X pins σ (upd H a o) { s with heap:=h',toks:=t' }:=I.un (Un.laid k hp (I.hok.fresh hp)) (I.hok.laid k hp new)
theorem Inv.write {x e:Addr}{o:HO}{t':Nat} (I:Inv X pins σ H s) (mu:Mut (H x)) (he:e=x \/ H e=some (.own x)) (k:∀b u,b ≠ e->s.heap.get? b=some u->h'.get? b=some u) (heo:∃u,h'.get? e=some u)
  (new:bW X.prog X.w (upd H x o) h' x o):Inv X pins σ (upd H x o) { s with heap:=h',toks:=t' }:=I.un (Un.write mu he k heo) (I.hok.write mu he k heo new)
theorem Inv.rZ {pins':List (Addr × Obj)} (I:Inv X pins σ H s) (h:∀p ∈ pins',s.heap.get? p.1=some p.2/\H p.1=none/\p.1 ≠ X.env.locals/\p.1 ∉ X.fs/\∀v,p.2.data ≠ .cell v):Inv X pins' σ H s :=
 ⟨I.ok,I.os,I.bare,I.base,I.loc,I.cell,I.free,I.jA,fun p hp=>(List.mem_append.mp hp).elim (fun z=>I.pin p (List.mem_append_left _ z)) (h p),I.hok,I.len⟩
theorem uJ {N:List Str} (hN:N.Nodup) {i j:Nat}{x:Str} (a:N[i]?=some x) (b:N[j]?=some x):i=j:=by
 obtain ⟨h1,e1⟩:=List.getElem?_eq_some_iff.mp a
 obtain ⟨h2,e2⟩:=List.getElem?_eq_some_iff.mp b
 exact (List.getElem_inj hN).mp (e1.trans e2.symm)
theorem xO {M:Model}{A:Around}{E:Value->Shared->Prop}{i:Nat}{x:Str}{v:V}{u:Value}{Q:Unit->Shared->Prop} (I:Inv X pins σ H s) (hN:X.N.Nodup) (hi:X.N[i]?=some x) (hx:Loc X.env.scope x) (r:RelV v u)
  (h:∀s',Inv X pins (σ.set i (some v)) H s'->(∃a,Heap.SameBut a s.heap s'.heap/\(a=X.env.locals \/ X.env.cells.lookup x=some a))->Q () s') (hf:X.fn x=true \/ X.env.scope.names.lookup x=some .local:=by first | exact .inl rfl | exact .inr rfl | assumption):wpAny M A (storeName X.env x u) Q E s:=by
 obtain ⟨m,hn,hl⟩:=id I.loc
 have hcls:(X.env.scope.kind == .class || (X.env.scope.kind == .module && X.env.locals != X.env.globals))=false:=by rw [I.ok.kind];rfl
 have hiσ:i < σ.length:=by rw [I.len];exact (List.getElem?_eq_some_iff.mp hi).1
 have cne:=I.cne
 have tracked:∀{a:Addr}{h':Heap},(∃o,s.heap.get? a=some o/\H a=none)->Heap.SameBut a s.heap h'->HOk X.prog X.w H h':=fun {a h'} ha hs b ob e=>by
  obtain ⟨_,_,hfree⟩:=ha
  refine (I.hok b ob e).ve (fun c w' hc q=>(hs.2 c ?_).trans q) (fun _ q=>q) fun _ _ q=>q
  rintro rfl
  rcases hc with rfl | hc
  ·rw [hfree] at e;cases e
  ·rw [hfree] at hc;cases hc
 rcases hx with hk | hk
 ·refine wpAny_storeName_local hk hn (fun h' hn' hs=>?_) hcls
  obtain ⟨oL,_,_,hoL,_⟩:=id hn
  refine h _ ⟨I.ok,I.os,I.bare,⟨fun b o e n hb hx=>?_,fun b o e n hb hx=>?_,I.base.free,fun b o e hx=>?_,I.base.rN,I.base.p6,I.base.rY⟩,⟨_,hn',fun j y v' e1 e2 e3=>?_⟩,fun y c e=>?_,I.free,I.jA,fun p hp=>?_,tracked ⟨oL,hoL,I.free⟩ hs,by simpa using I.len⟩ ⟨_,hs,.inl rfl⟩
  ·exact (hs.2 b (Nat.ne_of_lt (Nat.lt_of_lt_of_le (Heap.lt_size e) I.ok.above))).trans (I.base.keep b o e n hb hx)
  ·obtain ⟨sl,e1⟩:=I.base.slot b o e n hb hx
   exact ⟨sl,(hs.2 b (Nat.ne_of_lt (Nat.lt_of_lt_of_le (Heap.lt_size e) I.ok.above))).trans e1⟩
  ·obtain ⟨o',e1⟩:=I.base.there b o e hx
   exact ⟨o',(hs.2 b (Nat.ne_of_lt (Nat.lt_of_lt_of_le (Heap.lt_size e) I.ok.above))).trans e1⟩
  ·by_cases hj:j=i
   ·subst hj
    rw [hi] at e1;cases e1
    rw [List.getElem?_set_self hiσ] at e2
    cases e2
    exact ⟨u,r,.inl ⟨hk,by simp⟩⟩
   ·rw [List.getElem?_set_ne (Ne.symm hj)] at e2
    obtain ⟨u',r',q⟩:=hl j y v' e1 e2 e3
    refine ⟨u',r',?_⟩
    rcases q with ⟨k,e⟩ | ⟨k,c,e,z⟩
    ·refine .inl ⟨k,?_⟩
     have:y ≠ x:=fun e=>hj (uJ hN e1 (e ▸ hi))
     simp [this,e]
    ·exact .inr ⟨k,c,e,z.sameBut hs (cne y c e)⟩
  ·obtain ⟨w',z⟩:=I.cell y c e
   exact ⟨w',z.sameBut hs (cne y c e)⟩
  ·obtain ⟨e,n,ne,nf,d⟩:=I.pin p hp
   exact ⟨(hs.2 p.1 ne).trans e,n,ne,nf,d⟩
 ·have hfn:X.fn x=true:=by
   rcases hf with z | z
   ·exact z
   ·rw [z] at hk;cases hk
  obtain ⟨c,hc⟩:=I.ok.has x (.inl hk)
  obtain ⟨w',z⟩:=I.cell x c hc
  refine wpAny_storeName_cell I.ok.kind hk hc z (fun h' hc' hs=>?_)
  obtain ⟨oc,hoc,hocd⟩:=id z
  refine h { s with heap:=h' } ⟨I.ok,I.os,I.bare,⟨fun b o e n hb hx=>?_,fun b o e n hb hx=>?_,I.base.free,fun b o e hx=>?_,I.base.rN,I.base.p6,I.base.rY⟩,⟨m,hn.sameBut hs (Ne.symm (cne x c hc)),fun j y v' e1 e2 e3=>?_⟩,fun y c' e=>?_,I.free,I.jA,fun p hp=>?_,tracked ⟨oc,hoc,I.jA x c hc⟩ hs,by simpa using I.len⟩ ⟨c,hs,.inr hc⟩
  ·exact (hs.2 b (Nat.ne_of_lt (Nat.lt_of_lt_of_le (Heap.lt_size e) (I.ok.cab x c hfn hc)))).trans (I.base.keep b o e n hb hx)
  ·obtain ⟨sl,e1⟩:=I.base.slot b o e n hb hx
   exact ⟨sl,(hs.2 b (Nat.ne_of_lt (Nat.lt_of_lt_of_le (Heap.lt_size e) (I.ok.cab x c hfn hc)))).trans e1⟩
  ·obtain ⟨o',e1⟩:=I.base.there b o e hx
   exact ⟨o',(hs.2 b (Nat.ne_of_lt (Nat.lt_of_lt_of_le (Heap.lt_size e) (I.ok.cab x c hfn hc)))).trans e1⟩
  ·by_cases hj:j=i
   ·subst hj
    rw [hi] at e1;cases e1
    rw [List.getElem?_set_self hiσ] at e2
    cases e2
    exact ⟨u,r,.inr ⟨.inl hk,c,hc,hc'⟩⟩
   ·rw [List.getElem?_set_ne (Ne.symm hj)] at e2
    obtain ⟨u',r',q⟩:=hl j y v' e1 e2 e3
    refine ⟨u',r',?_⟩
    rcases q with q | ⟨k,c',e,z'⟩
    ·exact .inl q
    ·refine .inr ⟨k,c',e,z'.sameBut hs ?_⟩
     rintro rfl
     exact hj (uJ hN e1 (I.ok.inj _ _ _ e hc ▸ hi))
  ·by_cases hcc:c'=c
   ·subst hcc;exact ⟨_,hc'⟩
   ·obtain ⟨w2,z2⟩:=I.cell y c' e
    exact ⟨w2,z2.sameBut hs hcc⟩
  ·obtain ⟨e,n,ne,nf,d⟩:=I.pin p hp
   refine ⟨(hs.2 p.1 ?_).trans e,n,ne,nf,d⟩
   intro q
   rw [q,hoc] at e
   have q':oc=p.2:=Option.some.inj e
   exact d w' (by rw [<- q'];exact hocd)
theorem oJ {M:Model}{A:Around}{E:Value->Shared->Prop}{i:Nat}{x:Str}{v:V}{u:Value}{Q:Unit->Shared->Prop} (I:Inv X pins σ H s) (hN:X.N.Nodup) (hi:X.N[i]?=some x) (hx:Loc X.env.scope x) (r:RelV v u)
  (h:∀s',Inv X pins (σ.set i (some v)) H s'->Q () s') (hf:X.fn x=true \/ X.env.scope.names.lookup x=some .local:=by first | exact .inl rfl | exact .inr rfl | assumption):wpAny M A (storeName X.env x u) Q E s :=
 xO I hN hi hx r (fun s' I' _=>h s' I') hf
theorem Inv.Eg {s':Shared}{ch:List Addr} (I:Inv X pins σ H s) (ho:s'.os=s.os) (u:Un (frs X.stack) ch H H' s.heap s'.heap) (hok:HOk X.prog X.w H' s'.heap) (hg:AllBare s'.gens)
  (hch:∀b ∈ ch,(b ∈ X.ex \/ X.s₀.heap.objs.size <= b)/\b ≠ X.env.locals/\(∀x c,X.env.cells.lookup x=some c->c ≠ b)/\∀p ∈ X.pn ++ pins,p.1 ≠ b):Inv X pins σ H' s':=by
 obtain ⟨h',g',d',t',o'⟩:=s'
 have e:o'=s.os:=ho
 subst e
 exact I.call (g':=g') (t':=t') (d':=d') u hok hg hch
end
abbrev XK:=Value->Option Addr->Hp->Prop
abbrev St:=List (Option V)
abbrev VK:=V->Hp->Prop
abbrev TE:=St->Hp->VK->Prop
abbrev TT:=St->Hp->(Bool->Hp->Prop)->Prop
abbrev TA:=St->Hp->(List V->Hp->Prop)->Prop
structure Ends where
 nx:St->Hp->Prop
 rt:VK
 bk:St->Hp->Prop:=fun _ _=>False
 ct:St->Hp->Prop:=fun _ _=>False
abbrev TS:=Ends->St->Hp->Prop
def EP (X:Cx) (pins:List (Addr × Obj)) (σ:St) (Q:VK) (u:Value) (s':Shared):Prop:=∃v H',Inv X pins σ H' s'/\RelV v u/\Q v H'
def TP (X:Cx) (pins:List (Addr × Obj)) (σ:St) (Q:Bool->Hp->Prop) (b:Bool) (s':Shared):Prop:=∃H',Inv X pins σ H' s'/\Q b H'
def AP (X:Cx) (pins:List (Addr × Obj)) (σ:St) (Q:List V->Hp->Prop) (us:List Value) (s':Shared):Prop:=∃vs H',Inv X pins σ H' s'/\Vals vs us/\Q vs H'
def SP (X:Cx) (pins:List (Addr × Obj)) (D:Ends) (f:Flow) (s':Shared):Prop :=
 match f with
 | .next=>∃σ' H',Inv X pins σ' H' s'/\D.nx σ' H'
 | .brk=>∃σ' H',Inv X pins σ' H' s'/\D.bk σ' H'
 | .cont=>∃σ' H',Inv X pins σ' H' s'/\D.ct σ' H'
 | .ret u=>∃v σ' H',Inv X pins σ' H' s'/\RelV v u/\D.rt v H'
def PE (X:Cx) (e:Expr) (t:TE):Prop :=
 ∀(pins:List (Addr × Obj)) (s:Shared) (σ:St) (H:Hp) (Q:VK),Inv X pins σ H s->t σ H Q->wpAny (model X.prog X.w) X.A (eval e X.env) (EP X pins σ Q) X.xe s
def PT (X:Cx) (e:Expr) (t:TT):Prop :=
 ∀(pins:List (Addr × Obj)) (s:Shared) (σ:St) (H:Hp) (Q:Bool->Hp->Prop),Inv X pins σ H s->t σ H Q->wpAny (model X.prog X.w) X.A (isTrue e X.env (eval e X.env)) (TP X pins σ Q) X.xe s
def PW (X:Cx) (e:Expr) (t:TT):Prop :=
 ∀(whole:Sem Value) (pins:List (Addr × Obj)) (s:Shared) (σ:St) (H:Hp) (Q:Bool->Hp->Prop),Inv X pins σ H s->t σ H Q->wpAny (model X.prog X.w) X.A (isTrue e X.env whole) (TP X pins σ Q) X.xe s
theorem PW.pt {X:Cx}{e:Expr}{t:TT} (h:PW X e t):PT X e t:=h _
def PA (X:Cx) (es:List Expr) (t:TA):Prop :=
 ∀(pos:Pos) (pins:List (Addr × Obj)) (s:Shared) (σ:St) (H:Hp) (Q:List V->Hp->Prop),Inv X pins σ H s->t σ H Q->wpAny (model X.prog X.w) X.A (spliced (backTo pos (starEach es X.env))) (AP X pins σ Q) X.xe s
def PS (X:Cx) (st:Stmt) (t:TS):Prop :=
 ∀(pins:List (Addr × Obj)) (s:Shared) (σ:St) (H:Hp) (D:Ends),Inv X pins σ H s->t D σ H->wpAny (model X.prog X.w) X.A (exec st X.env) (SP X pins D) X.xe s
def PSs (X:Cx) (st:List Stmt) (t:TS):Prop :=
 ∀(pins:List (Addr × Obj)) (s:Shared) (σ:St) (H:Hp) (D:Ends),Inv X pins σ H s->t D σ H->wpAny (model X.prog X.w) X.A (execs st X.env) (SP X pins D) X.xe s
theorem thn {α:Type}{t:Sem α}{Q Q':α->Shared->Prop}{M:Model}{A:Around}{E:Value->Shared->Prop}{s:Shared} (h:wpAny M A t Q E s) (hQ:∀a s,Q a s->Q' a s):wpAny M A t Q' E s:=wpAny_mono h hQ fun _ _ x=>x
end L2
namespace L2
open PySem PySem.Spec PyProof.Rows
section
variable {X:Cx}
def FZ (i:Nat):TE:=fun σ H Q=>∃v,σ[i]?=some (some v)/\Q v H
def tC (v:V):TE:=fun _ H Q=>Q v H
theorem Df {i:Nat}{x:Str}{pos:Pos} (hN:X.N[i]?=some x) (hv:Vis X.env.scope x) (hd:(x == ("__debug__":Str))=false:=by decide) (hcd:(x == ("__classdict__":Str))=false:=by decide):PE X (.Name x pos) (FZ i):=by
 intro pins s σ H Q I h
 obtain ⟨v,e,h⟩:=h
 obtain ⟨m,hn,hl⟩:=I.loc
 obtain ⟨u,r,l⟩:=hl i x v hN e hv
 have fin:EP X pins σ Q u s:=⟨v,H,I,r,h⟩
 rcases l with ⟨hk,hm⟩ | ⟨hk,c,hc,hcell⟩
 ·exact wpAny_Name (wpAny_loadName_local I.ok.kind hk hn hm fin) hd
 ·rcases hk with hk | hk
  ·exact wpAny_Name (wpAny_loadName_cell I.ok.kind hk hc hcell fin) hd
  ·exact wpAny_Name (wpAny_loadName_free I.ok.kind hk hc hcell fin hcd) hd
theorem af {i j pos}:PE X (.Constant (.int i) j pos) (tC (.int i)):=fun _ _ _ H _ I h=>wpAny_Constant_int ⟨.int i,H,I.tok _,⟨_,rfl⟩,h⟩
theorem qW {b j pos}:PE X (.Constant (.bool b) j pos) (tC (.bl b)):=fun _ _ _ H _ I h=>Constant_bool ⟨.bl b,H,I,rfl,h⟩
theorem cB {j pos}:PE X (.Constant .none j pos) (tC .non):=fun _ _ _ H _ I h=>Constant_none ⟨.non,H,I,rfl,h⟩
theorem aj {x j pos}:PE X (.Constant (.str x) j pos) (tC (.str x)):=fun _ _ _ H _ I h=>Calls.Constant_str ⟨.str x,H,I.tok _,⟨_,rfl⟩,h⟩
def Gl (X:Cx) (x:Str):Prop:=X.env.kindOf x=some .globalImplicit
theorem oE {E:Value->Shared->Prop}{pins:List (Addr × Obj)}{s:Shared}{σ:St}{H:Hp}{x:Str}{u:Value}{pos:Pos}{Q:Value->Shared->Prop} (I:Inv X pins σ H s) (hg:Gl X x) (hm:X.mg x=some u) (h:Q u s)
  (hd:(x == ("__debug__":Str))=false:=by decide):wpAny (model X.prog X.w) X.A (eval (.Name x pos) X.env) Q E s :=
 Calls.Name_function_global I.ok.kind hg (Calls.loadGlobal_global (by rw [I.ok.glob];exact I.mod.glob.keeps I.bk) hm h) hd
theorem mE {E:Value->Shared->Prop}{pins:List (Addr × Obj)}{s:Shared}{σ:St}{H:Hp}{x:Str}{u:Value}{pos:Pos}{Q:Value->Shared->Prop} (I:Inv X pins σ H s) (hg:Gl X x) (hm:X.mg x=none) (hv:bootBuiltins x=some u) (h:Q u s)
  (hn:x ≠ "__name__":=by decide) (hd:(x == ("__debug__":Str))=false:=by decide):wpAny (model X.prog X.w) X.A (eval (.Name x pos) X.env) Q E s:=by
 obtain ⟨mb,h1,h2⟩:=I.mod.blt
 exact Calls.Name_function_global I.ok.kind hg (Calls.loadGlobal_builtin (by rw [I.ok.glob];exact I.mod.glob.keeps I.bk) hm (by rw [I.ok.blt];exact h1.keeps I.bk) ((h2 x hn).trans hv) h) hd
theorem A5 {x:Str}{v:V}{u:Value}{pos:Pos} (hg:Gl X x) (hm:X.mg x=some u) (r:RelV v u) (hd:(x == ("__debug__":Str))=false:=by decide):PE X (.Name x pos) (tC v) :=
 fun _ _ _ H _ I h=>oE I hg hm ⟨v,H,I,r,h⟩ hd
theorem iV {x:Str}{v:V}{u:Value}{pos:Pos} (hg:Gl X x) (hm:X.mg x=none) (hv:bootBuiltins x=some u) (r:RelV v u) (hn:x ≠ "__name__":=by decide) (hd:(x == ("__debug__":Str))=false:=by decide):PE X (.Name x pos) (tC v) :=
 fun _ _ _ H _ I h=>mE I hg hm hv ⟨v,H,I,r,h⟩ hn hd
variable {a b:Expr}{ta tb:TE}{pos:Pos}
variable {tA tB':TT}{rest:List Expr}
def Gf (t u:TT):TT:=fun σ H Q=>t σ H fun c H1=>if c=true then u σ H1 Q else Q false H1
def tOr (t u:TT):TT:=fun σ H Q=>t σ H fun c H1=>if c=true then Q true H1 else u σ H1 Q
def Gd (t:TT):TT:=fun σ H Q=>t σ H fun c H1=>Q (!c) H1
theorem pw_and1 (ha:PT X a tA):PW X (.BoolOp .And [a] pos) tA:=by
 intro wh pins s σ H Q I h
 refine isTrue_and (thn (ha pins s σ H Q I h) fun c s1 e=>?_)
 cases c with
 | true=>exact isTrue_and_nil e
 | false=>exact e
theorem pw_or1 (ha:PT X a tA):PW X (.BoolOp .Or [a] pos) tA:=by
 intro wh pins s σ H Q I h
 refine isTrue_or (thn (ha pins s σ H Q I h) fun c s1 e=>?_)
 cases c with
 | false=>exact isTrue_or_nil e
 | true=>exact e
theorem pw_and (ha:PT X a tA) (hb:PW X (.BoolOp .And (b :: rest) pos) tB'):PW X (.BoolOp .And (a :: b :: rest) pos) (Gf tA tB'):=by
 intro wh pins s σ H Q I h
 refine isTrue_and (thn (ha pins s σ H _ I h) fun c s1 ⟨H1,I1,q1⟩=>?_)
 cases c with
 | true=>exact hb wh pins s1 σ H1 Q I1 q1
 | false=>exact ⟨H1,I1,q1⟩
theorem pw_or (ha:PT X a tA) (hb:PW X (.BoolOp .Or (b :: rest) pos) tB'):PW X (.BoolOp .Or (a :: b :: rest) pos) (tOr tA tB'):=by
 intro wh pins s σ H Q I h
 refine isTrue_or (thn (ha pins s σ H _ I h) fun c s1 ⟨H1,I1,q1⟩=>?_)
 cases c with
 | true=>exact ⟨H1,I1,q1⟩
 | false=>exact hb wh pins s1 σ H1 Q I1 q1
theorem vY (ha:PT X a tA):PT X (.UnaryOp .Not a pos) (Gd tA):=by
 intro pins s σ H Q I h
 exact isTrue_not (ha pins s σ H (fun c H1=>Q (!c) H1) I h)
def E7 (ta tb:TE):TE:=fun σ H Q=>ta σ H fun x H1=>∃c,x=.bl c/\if c=true then tb σ H1 Q else Q (.bl false) H1
theorem Dz {op}{t:TE} (h:PE X a t):PE X (.BoolOp op [a] pos) t:=fun pins s σ H Q I hw=>BoolOp_one (h pins s σ H Q I hw)
theorem Dx (ha:PE X a ta) (hb:PE X (.BoolOp .And (b :: rest) pos) tb):PE X (.BoolOp .And (a :: b :: rest) pos) (E7 ta tb):=by
 intro pins s σ H Q I h
 refine BoolOp_and (thn (ha pins s σ H _ I h) fun v s1 ⟨x,H1,I1,r1,q1⟩=>?_)
 obtain ⟨c,rfl,q1⟩:=q1
 cases r1
 refine wpAny_truthy_bool ?_
 cases c with
 | true=>exact hb pins s1 σ H1 Q I1 q1
 | false=>exact ⟨.bl false,H1,I1,rfl,q1⟩
def tIf (t:TT) (ta tb:TE):TE:=fun σ H Q=>t σ H fun c H1=>if c=true then ta σ H1 Q else tb σ H1 Q
theorem uC {c:Expr} (hc:PT X c tA) (ha:PE X a ta) (hb:PE X b tb):PE X (.IfExp c a b pos) (tIf tA ta tb):=by
 intro pins s σ H Q I h
 refine wpAny_IfExp (thn (hc pins s σ H _ I h) fun d s1 ⟨H1,I1,q1⟩=>?_)
 cases d with
 | true=>exact ha pins s1 σ H1 Q I1 q1
 | false=>exact hb pins s1 σ H1 Q I1 q1
end
end L2
namespace L2
open PySem PySem.Spec PyProof.Rows
def SqL (K:W.Frag) (H:Hp) (a:Addr) (xs:List V):Prop :=
 Rd H a (.lst xs) \/
  ∃(o:Obj) (its:Array Value) (n:Nat),K.lookup a=some o/\o.cls=.type "list"/\o.dict=none/\o.data=.seq its n/\its.size <= sizeLine/\Vals xs its.toList
def SqT (K:W.Frag) (H:Hp) (a:Addr) (xs:List V):Prop :=
 Rd H a (.tup xs) \/
  ∃(o:Obj) (its:Array Value) (n:Nat),K.lookup a=some o/\o.cls=.type "tuple"/\o.data=.seq its n/\its.size <= sizeLine/\Vals xs its.toList
def Ft:Value->Option V
 | .none=>some .non
 | .bool b=>some (.bl b)
 | .int i _=>some (.int i)
 | .str x _=>some (.str x)
 | .bytes b _=>some (.byt b)
 | .float b _=>some (.flt b)
 | .ref a=>some (.ref a)
 | .type n=>some (.ty n)
 | _=>none
theorem RelV.abs {x:V}{u:Value} (r:RelV x u):Ft u=some x:=by
 cases x with
 | non=>cases r;rfl
 | bl _=>cases r;rfl
 | int _=>obtain ⟨t,rfl⟩:=r;rfl
 | str _=>obtain ⟨t,rfl⟩:=r;rfl
 | byt _=>obtain ⟨t,rfl⟩:=r;rfl
 | flt _=>obtain ⟨t,rfl⟩:=r;rfl
 | ref _=>cases r;rfl
 | ty _=>cases r;rfl
theorem RelV.inj {x y:V}{u:Value} (r:RelV x u) (q:RelV y u):x=y:=Option.some.inj (r.abs.symm.trans q.abs)
theorem Vals.inj:∀{xs ys:List V}{us:List Value},Vals xs us->Vals ys us->xs=ys
 | _,_,_,.nil,.nil=>rfl
 | _,_,_,.cons r t,.cons r' t'=>by rw [r.inj r',Vals.inj t t']
section
variable {X:Cx}{pins:List (Addr × Obj)}{σ:St}{H:Hp}{s:Shared}{a:Addr}{xs ys:List V}
theorem SqL.of {K:W.Frag} (h:H a=some (.lst xs)):SqL K H a xs:=.inl (.inl h)
theorem SqT.of {K:W.Frag} (h:H a=some (.tup xs)):SqT K H a xs:=.inl (.inl h)
theorem Inv.list (I:Inv X pins σ H s) (h:SqL X.K H a xs):∃its:List Value,Vals xs its/\PlainL s.heap a its.toArray/\xs.length <= sizeLine:=by
 rcases h with h | ⟨o,its,n,hk,hc,hd,hs,hz,r⟩
 ·obtain ⟨z,its,n,r,e⟩:=h.ok I.hok
  exact ⟨its,r,⟨_,n,e,rfl,rfl,rfl⟩,z⟩
 ·refine ⟨its.toList,r,⟨o,n,I.kIn a o hk,hc,hd,by simpa using hs⟩,?_⟩
  have e:=r.length
  simp only [Array.length_toList] at e
  omega
theorem Inv.tuple (I:Inv X pins σ H s) (h:SqT X.K H a xs):∃its:List Value,Vals xs its/\IsTup s.heap a its.toArray/\xs.length <= sizeLine:=by
 rcases h with h | ⟨o,its,n,hk,hc,hs,hz,r⟩
 ·obtain ⟨z,its,r,p⟩:=h.ok I.hok
  exact ⟨its,r,p,z⟩
 ·refine ⟨its.toList,r,⟨o,I.kIn a o hk,hc,n,by simpa using hs⟩,?_⟩
  have e:=r.length
  simp only [Array.length_toList] at e
  omega
theorem Inv.pk (I:Inv X pins σ H s) (h:SqL X.K H a xs) (h':SqL X.K H a ys):xs=ys:=by
 obtain ⟨its,r,⟨o,n,e,_,_,d⟩,_⟩:=I.list h
 obtain ⟨its',r',⟨o',n',e',_,_,d'⟩,_⟩:=I.list h'
 rw [e] at e';cases e'
 rw [d] at d'
 injection d' with d1 _
 have:its=its':=by simpa using congrArg Array.toList d1
 subst this
 exact r.inj r'
theorem Inv.yb (I:Inv X pins σ H s) (h:SqT X.K H a xs) (h':SqT X.K H a ys):xs=ys:=by
 obtain ⟨its,r,⟨o,e,_,n,d⟩,_⟩:=I.tuple h
 obtain ⟨its',r',⟨o',e',_,n',d'⟩,_⟩:=I.tuple h'
 rw [e] at e';cases e'
 rw [d] at d'
 injection d' with d1 _
 have:its=its':=by simpa using congrArg Array.toList d1
 subst this
 exact r.inj r'
end
abbrev Cx.qa (X:Cx) (E:Value->Shared->Prop):Cx:={ X with xe:=E }
abbrev Cx.nox (X:Cx):Cx:=X.qa fun _ _=>False
theorem Cx.Ok.qa {X:Cx} (ok:X.Ok) (E:Value->Shared->Prop):(X.qa E).Ok :=
 ⟨ok.mod,ok.kind,ok.glob,ok.blt,ok.above,ok.inj,ok.has,ok.cab,ok.hd,ok.frames,ok.stk,ok.exf,ok.bs,ok.bsz,ok.zN,ok.yV,ok.nL,ok.frf⟩
theorem Cx.Ok.j5 {X:Cx}{E:Value->Shared->Prop} (ok:(X.qa E).Ok):X.Ok :=
 ⟨ok.mod,ok.kind,ok.glob,ok.blt,ok.above,ok.inj,ok.has,ok.cab,ok.hd,ok.frames,ok.stk,ok.exf,ok.bs,ok.bsz,ok.zN,ok.yV,ok.nL,ok.frf⟩
section
variable {X:Cx}{pins:List (Addr × Obj)}{σ:St}{H:Hp}{s:Shared}{E:Value->Shared->Prop}
theorem Inv.qa (I:Inv X pins σ H s) (E:Value->Shared->Prop):Inv (X.qa E) pins σ H s:=⟨I.ok.qa E,I.os,I.bare,I.base,I.loc,I.cell,I.free,I.jA,I.pin,I.hok,I.len⟩
theorem Inv.j5 (I:Inv (X.qa E) pins σ H s):Inv X pins σ H s:=⟨I.ok.j5,I.os,I.bare,I.base,I.loc,I.cell,I.free,I.jA,I.pin,I.hok,I.len⟩
theorem SP.j5 {D:Ends}{f:Flow}{s':Shared} (h:SP (X.qa E) pins D f s'):SP X pins D f s':=by
 cases f with
 | next=>obtain ⟨σ',H',I,q⟩:=h;exact ⟨σ',H',I.j5,q⟩
 | brk=>obtain ⟨σ',H',I,q⟩:=h;exact ⟨σ',H',I.j5,q⟩
 | cont=>obtain ⟨σ',H',I,q⟩:=h;exact ⟨σ',H',I.j5,q⟩
 | ret u=>obtain ⟨v,σ',H',I,r,q⟩:=h;exact ⟨v,σ',H',I.j5,r,q⟩
theorem PSs.nox {st:List Stmt}{t:TS} (h:PSs X.nox st t):PSs X st t:=fun pins s σ H D I hw =>
 wpAny_mono (h pins s σ H D (I.qa _) hw) (fun _ _ q=>q.j5) fun _ _ z=>False.elim z
end
section
variable {X:Cx}{st:Stmt}{rest:List Stmt}{t u:TS}{e:Expr}{te:TE}{pos:Pos}
def Ar:TS:=fun D σ H=>D.nx σ H
def yd (t u:TS):TS:=fun D σ H=>t { D with nx:=u D } σ H
theorem aB:PSs X [] Ar:=fun _ _ σ H _ I h=>wpAny_execs_nil ⟨σ,H,I,h⟩
theorem ae (h1:PS X st t) (h2:PSs X rest u):PSs X (st :: rest) (yd t u):=by
 intro pins s σ H D I h
 refine wpAny_execs_cons (thn (h1 pins s σ H { D with nx:=u D } I h) fun f s1 q=>?_)
 cases f with
 | next =>
  obtain ⟨σ',H',I',q⟩:=q
  exact h2 pins s1 σ' H' D I' q
 | ret v=>exact q
 | brk=>exact q
 | cont=>exact q
theorem ah (h1:PS X st t):PSs X [st] t:=by
 intro pins s σ H D I h
 refine wpAny_execs_cons (thn (h1 pins s σ H D I h) fun f s1 q=>?_)
 cases f with
 | next=>exact wpAny_execs_nil q
 | ret v=>exact q
 | brk=>exact q
 | cont=>exact q
theorem Inv.quiet {pins:List (Addr × Obj)}{σ:St}{H:Hp}{s:Shared} (I:Inv X pins σ H s):interactive X.env=false:=by simp [interactive,I.ok.kind]
def El (te:TE):TS:=fun D σ H=>te σ H fun _ H1=>D.nx σ H1
theorem aE (he:PE X e te) (hs:swapsWith e none pos.line X.env=pure false:=by rfl):PS X (.Expr e pos) (El te):=by
 intro pins s σ H D I h
 exact wpAny_Expr_any (thn (he pins s σ H _ I h) fun v s1 ⟨x,H1,I1,r1,q1⟩=>⟨σ,H1,I1,q1⟩) I.quiet hs
def F1 (te:TE):TS:=fun D σ H=>te σ H D.rt
theorem aw (he:PE X e te):PS X (.Return (some e) pos) (F1 te):=by
 intro pins s σ H D I h
 exact wpAny_Return_some (thn (he pins s σ H _ I h) fun v s1 ⟨x,H1,I1,r1,q1⟩=>⟨x,σ,H1,I1,r1,q1⟩)
def yr (c:TT) (t u:TS):TS:=fun D σ H=>c σ H fun b H1=>if b=true then t D σ H1 else u D σ H1
theorem aL {c:Expr}{a b:List Stmt}{tc:TT} (hc:PT X c tc) (ha:PSs X a t) (hb:PSs X b u):PS X (.If c a b pos) (yr tc t u):=by
 intro pins s σ H D I h
 refine wpAny_If (thn (hc pins s σ H _ I h) fun d s1 ⟨H1,I1,q1⟩=>?_)
 cases d with
 | true=>exact ha pins s1 σ H1 D I1 q1
 | false=>exact hb pins s1 σ H1 D I1 q1
end
abbrev TG:=V->St->Hp->(St->Hp->Prop)->Prop
abbrev TGs:=List V->St->Hp->(St->Hp->Prop)->Prop
def PG (X:Cx) (target:Expr) (t:TG):Prop :=
 ∀(pins:List (Addr × Obj)) (s:Shared) (σ:St) (H:Hp) (v:V) (u:Value) (Q:St->Hp->Prop),Inv X pins σ H s->RelV v u->t v σ H Q ->
  wpAny (model X.prog X.w) X.A (assign target X.env u) (fun _ s'=>∃σ' H',Inv X pins σ' H' s'/\Q σ' H') X.xe s
def PGs (X:Cx) (ts:List Expr) (t:TGs):Prop :=
 ∀(pins:List (Addr × Obj)) (s:Shared) (σ:St) (H:Hp) (vs:List V) (us:List Value) (Q:St->Hp->Prop),Inv X pins σ H s->Vals vs us->t vs σ H Q ->
  wpAny (model X.prog X.w) X.A (assignInOrder ((assignEach ts X.env).map (·.2)) us) (fun _ s'=>∃σ' H',Inv X pins σ' H' s'/\Q σ' H') X.xe s
abbrev A8:=V->V->V->Hp->(Hp->Prop)->Prop
def Aa (X:Cx) (t:A8):Prop :=
 ∀(pins:List (Addr × Obj)) (s:Shared) (σ:St) (H:Hp) (o i v:V) (ov iv u:Value) (Q:Hp->Prop),Inv X pins σ H s->RelV o ov->RelV i iv->RelV v u->t o i v H Q ->
  wpAny (model X.prog X.w) X.A (setItem ov iv u) (fun _ s'=>∃H',Inv X pins σ H' s'/\Q H') X.xe s
abbrev TIp:=V->V->Hp->VK->Prop
def PIp (X:Cx) (op:Operator) (t:TIp):Prop :=
 ∀(pins:List (Addr × Obj)) (s:Shared) (σ:St) (H:Hp) (x y:V) (v u:Value) (Q:VK),Inv X pins σ H s->RelV x v->RelV y u->t x y H Q ->
  wpAny (model X.prog X.w) X.A (inplaceOp op v u) (EP X pins σ Q) X.xe s
section
variable {X:Cx}{pos:Pos}
def ky (i:Nat):TG:=fun v σ H Q=>Q (σ.set i (some v)) H
theorem we {i:Nat}{x:Str} (hN:X.N.Nodup) (hi:X.N[i]?=some x) (hx:Loc X.env.scope x) (hf:X.fn x=true \/ X.env.scope.names.lookup x=some .local:=by first | exact .inl rfl | exact .inr rfl | assumption):PG X (.Name x pos) (ky i):=by
 intro pins s σ H v u Q I r h
 exact wpAny_assign_Name (oJ I hN hi hx r (fun s' I'=>⟨_,H,I',h⟩) hf)
def F5:TGs:=fun vs σ H Q=>vs=[]/\Q σ H
def Fi (t:TG) (u:TGs):TGs:=fun vs σ H Q=>∃v r,vs=v :: r/\t v σ H fun σ' H'=>u r σ' H' Q
theorem fC:PGs X [] F5:=by
 intro pins s σ H vs us Q I r h
 obtain ⟨e,h⟩:=h
 subst e
 cases r
 exact assignInOrder_nil ⟨σ,H,I,h⟩
theorem bf {e:Expr}{es:List Expr}{t:TG}{u:TGs} (h1:PG X e t) (h2:PGs X es u)
  (hs:(assignEach (e :: es) X.env).map (·.2)=assign e X.env :: (assignEach es X.env).map (·.2):=by rfl):PGs X (e :: es) (Fi t u):=by
 intro pins s σ H vs us Q I r h
 obtain ⟨v,vr,e1,h⟩:=h
 subst e1
 cases r with
 | cons r rr =>
  rw [hs]
  refine assignInOrder_cons (thn (h1 pins s σ H _ _ _ I r h) fun _ s1 ⟨σ1,H1,I1,q1⟩=>?_)
  exact h2 pins s1 σ1 H1 _ _ Q I1 rr q1
inductive Fm (K:W.Frag) (n:Nat) (v:V) (H:Hp) (R:List V->Prop):Prop
 | mk (a:Addr) (xs:List V) (h0:v=.ref a) (h1:SqT K H a xs) (h2:xs.length=n) (q:R xs):Fm K n v H R
def F9 (K:W.Frag) (n:Nat) (t:TGs):TG:=fun v σ H Q=>Fm K n v H (fun xs=>t xs σ H Q)
theorem iK {es:List Expr}{k:Nat}{t:TGs}{n:Nat} (hc:X.calm=true) (h:PGs X es t)
  (hn:(assignEach es X.env).length=n:=by rfl) (hst:(assignEach es X.env).findIdx? (·.1)=none:=by rfl):PG X (.Tuple es k pos) (F9 X.K n t):=by
 intro pins s σ H v u Q I r hw
 obtain ⟨a,xs,e1,hq,hl,hw⟩:=hw
 subst e1
 cases r
 obtain ⟨its,rv,ht,hz⟩:=I.tuple hq
 refine assign_Tuple_tuple (I.ok.hd hc) ht (by simp [hn,<- hl,rv.length]) hst fun h' hx=>?_
 have I1:Inv X pins σ H { s with heap:=h' }:=I.kept (t':=s.toks) fun b o e=>hx b o (Nat.ne_of_lt (Heap.lt_size e)) e
 exact h pins _ σ H xs _ Q I1 (by simpa using rv) hw
def F3 (to ti:TE) (t:A8):TG:=fun v σ H Q=>to σ H fun o H1=>ti σ H1 fun i H2=>t o i v H2 fun H3=>Q σ H3
theorem gK {o i:Expr}{to ti:TE}{t:A8} (ho:PE X o to) (hi:PE X i ti) (hs:Aa X t)
  (ha:∀v,assign (.Subscript o i pos) X.env v=(do
   let ov <- holding [v] (eval o X.env)
   let iv <- holding [v,ov] (eval i X.env)
   standAt pos
   holding [v,ov,iv] (setItem ov iv v)
   release [v,ov,iv] []):=by intro _;rfl):PG X (.Subscript o i pos) (F3 to ti t):=by
 intro pins s σ H v u Q I r h
 rw [ha]
 refine wpAny_bind (wpAny_holding (thn (ho pins s σ H _ I h) fun ov s1 ⟨x,H1,I1,r1,q1⟩=>?_))
 refine wpAny_bind (wpAny_holding (thn (hi pins s1 σ H1 _ I1 q1) fun iv s2 ⟨y,H2,I2,r2,q2⟩=>?_))
 refine wpAny_bind (wpAny_standAt (wpAny_bind (wpAny_holding (thn (hs pins s2 σ H2 x y v ov iv u _ I2 r1 r2 r q2) fun _ s3 ⟨H3,I3,q3⟩=>?_))))
 exact wpAny_release ⟨σ,H3,I3,q3⟩
def BM (te:TE) (g:TG):TS:=fun D σ H=>te σ H fun x H1=>g x σ H1 D.nx
theorem cK {tg e:Expr}{te:TE}{g:TG} (he:PE X e te) (hg:PG X tg g) (hs:swapsWithSole [tg] e pos.line X.env=pure false:=by rfl) (hw:swappedStores [tg] e X.env=pure none:=by rfl)
  (h1:(assignEach [tg] X.env).map (·.2)=[assign tg X.env]:=by rfl):PS X (.Assign [tg] e pos) (BM te g):=by
 intro pins s σ H D I h
 refine wpAny_Assign_stores (thn (he pins s σ H _ I h) fun v s1 ⟨x,H1,I1,r1,q1⟩=>?_) hs hw
 rw [h1]
 exact thn (hg pins s1 σ H1 x v _ I1 r1 q1) fun _ s2 q=>q
theorem DZ {i:Nat}{x:Str}{e:Expr}{te:TE}{pos':Pos} (hN:X.N.Nodup) (hi:X.N[i]?=some x) (hx:Loc X.env.scope x) (he:PE X e te) (hs:swapsWith e (some (.Name x pos')) pos.line X.env=pure false:=by rfl) (hf:X.fn x=true \/ X.env.scope.names.lookup x=some .local:=by first | exact .inl rfl | exact .inr rfl | assumption) :
  PS X (.Assign [.Name x pos'] e pos) (BM te (ky i)):=by
 intro pins s σ H D I h
 refine wpAny_Assign_Name (thn (he pins s σ H _ I h) fun v s1 ⟨y,H1,I1,r1,q1⟩=>?_) hs
 exact oJ I1 hN hi hx r1 (fun s2 I2=>⟨_,H1,I2,q1⟩) hf
def FW (i:Nat) (te:TE) (ti:TIp):TS:=fun D σ H=>∃x,σ[i]?=some (some x)/\te σ H fun y H1=>ti x y H1 fun z H2=>D.nx (σ.set i (some z)) H2
theorem C0 {i:Nat}{x:Str}{e:Expr}{te:TE}{op:Operator}{ti:TIp}{pos':Pos} (hN:X.N.Nodup) (hi:X.N[i]?=some x) (hx:Loc X.env.scope x) (he:PE X e te) (ho:PIp X op ti) (hf:X.fn x=true \/ X.env.scope.names.lookup x=some .local:=by first | exact .inl rfl | exact .inr rfl | assumption) :
  PS X (.AugAssign (.Name x pos') op e pos) (FW i te ti):=by
 intro pins s σ H D I h
 obtain ⟨v,e1,h⟩:=h
 obtain ⟨m,hn,hl⟩:=I.loc
 have vis:Vis X.env.scope x:=by rcases hx with k | k;exact .inl k;exact .inr (.inl k)
 obtain ⟨u,r,l⟩:=hl i x v hi e1 vis
 refine wpAny_AugAssign_Name ?_
 have go:wpAny (model X.prog X.w) X.A (eval e X.env) (fun w s₂=>wpAny (model X.prog X.w) X.A (inplaceOp op u w) (fun r s₃=>wpAny (model X.prog X.w) X.A (storeName X.env x r) (fun _=>SP X pins D .next) X.xe s₃) X.xe s₂) X.xe s:=by
  refine thn (he pins s σ H _ I h) fun w s1 ⟨y,H1,I1,r1,q1⟩=>?_
  refine thn (ho pins s1 σ H1 v y u w _ I1 r r1 q1) fun z s2 ⟨zv,H2,I2,r2,q2⟩=>?_
  exact oJ I2 hN hi hx r2 (fun s3 I3=>⟨_,H2,I3,q2⟩) hf
 rcases l with ⟨hk,hm⟩ | ⟨hk,c,hc,hcell⟩
 ·exact wpAny_loadName_local I.ok.kind hk hn hm go
 ·rcases hk with hk | hk
  ·exact wpAny_loadName_cell I.ok.kind hk hc hcell go
  ·rcases hx with k | k
   ·have:X.env.scope.names.lookup x=some .free:=hk
    rw [k] at this;cases this
   ·have:X.env.scope.names.lookup x=some .free:=hk
    rw [k] at this;cases this
def ipI (f:Int->Int->Int):TIp:=fun x y H Q=>∃i j,x=.int i/\y=.int j/\Q (.int (f i j)) H
theorem Dy:PIp X .Add (ipI fun i j=>i + j):=by
 intro pins s σ H x y v u Q I r1 r2 h
 obtain ⟨i,j,e1,e2,q⟩:=h
 subst e1;subst e2
 obtain ⟨t,rfl⟩:=r1
 obtain ⟨t',rfl⟩:=r2
 exact iadd_int ⟨.int _,H,I.tok _,⟨_,rfl⟩,q⟩
end
section
variable {X:Cx}{pos:Pos}
def CU (c:TT) (tb:TS):TS:=fun D σ H=>∃W:Nat->St->Hp->Prop,(∃m,W m σ H)/\∀m σ H,W m σ H ->
 c σ H fun b H1=>if b=true then ∃N:St->Hp->Prop,(∀σ' H',N σ' H'->∃m',m' < m/\W m' σ' H')/\tb { D with nx:=N,ct:=N,bk:=D.nx } σ H1 else D.nx σ H1
theorem jQ {c:Expr}{body:List Stmt}{tc:TT}{tb:TS} (hp:PassesOwn (model X.prog X.w) X.A X.env X.xe) (hc:PT X c tc) (hb:PSs X body tb):PS X (.While c body [] pos) (CU tc tb):=by
 intro pins s σ H D I h
 obtain ⟨W,⟨m0,w0⟩,turn⟩:=h
 refine wpAny_While (codeAny_whileLoop (fun n s'=>∃σ' H',Inv X pins σ' H' s'/\W n σ' H') ?_ m0 ⟨σ,H,I,w0⟩)
 rintro n s1 ⟨σ1,H1,I1,w1⟩
 refine wpAny_passesOwn hp (thn (hc pins s1 σ1 H1 _ I1 (turn n σ1 H1 w1)) fun b s2 ⟨H2,I2,q2⟩=>?_)
 cases b with
 | true =>
  obtain ⟨N,hN,q2⟩:=q2
  rw [if_pos rfl]
  refine wpAny_passesOwn hp (thn (hb pins s2 σ1 H2 _ I2 q2) fun f s3 q3=>?_)
  cases f with
  | next =>
   obtain ⟨σ3,H3,I3,n3⟩:=q3
   obtain ⟨m',hm,w3⟩:=hN σ3 H3 n3
   exact ⟨m',hm,σ3,H3,I3,w3⟩
  | cont =>
   obtain ⟨σ3,H3,I3,n3⟩:=q3
   obtain ⟨m',hm,w3⟩:=hN σ3 H3 n3
   exact ⟨m',hm,σ3,H3,I3,w3⟩
  | brk=>exact q3
  | ret v=>exact q3
 | false =>
  rw [if_neg Bool.false_ne_true]
  exact wpAny_execs_nil ⟨σ1,H2,I2,q2⟩
end
structure It where
 go:Nat->Hp->Prop
 yld:Nat->Hp->V->Hp->Prop
 stop:Nat->Hp->Prop
def oG (X:Cx) (pins:List (Addr × Obj)) (H:Hp) (b:Addr):Prop :=
 H b=none/\b ≠ X.env.locals/\b ∉ X.fs/\(b ∈ X.ex \/ X.s₀.heap.objs.size <= b)/\(∀x c,X.env.cells.lookup x=some c->c ≠ b)/\∀p ∈ X.pn ++ pins,p.1 ≠ b
theorem Inv.uD {X:Cx}{pins:List (Addr × Obj)}{σ:St}{H H':Hp}{s:Shared}{b:Addr} (I:Inv X pins σ H s) (hb:s.heap.objs.size <= b) (hn:H' b=none):oG X pins H' b:=by
 refine ⟨hn,Nat.ne_of_gt (Nat.lt_of_lt_of_le I.lt hb),I.EC hb,.inr (Nat.le_trans I.sz hb),fun x c e z=>?_,fun p hp z=>?_⟩
 ·obtain ⟨v,q⟩:=I.cell x c e
  exact absurd (Nat.lt_of_lt_of_le q.lt (by rw [z];exact hb)) (Nat.lt_irrefl _)
 ·exact absurd (Nat.lt_of_lt_of_le (Heap.lt_size (I.pin p hp).1) (by rw [z];exact hb)) (Nat.lt_irrefl _)
structure Turn (P:Program) (w:World) (K:W.Frag) (tg:Expr) (J:It) (fp:List Addr) (it:Addr) (tn:Nat->Heap->Prop):Prop where
 mem:it ∈ fp
 obj:∀i h,tn i h->∀b ∈ fp,∃o,h.get? b=some o/\∀v,o.data ≠ .cell v
 keep:∀i h h',tn i h->(∀b ∈ fp,∀o,h.get? b=some o->h'.get? b=some o)->tn i h'
 item:∀(X:Cx),X.prog=P->X.w=w->X.K=K->X.calm=true->∀(i:Nat) (pins:List (Addr × Obj)) (s:Shared) (σ:St) (H:Hp) (E:Value->Shared->Prop),Inv X pins σ H s->(∀b ∈ fp,oG X pins H b)->tn i s.heap->J.go i H ->
  wpAny (model P w) X.A (pyNext (.ref it)) (fun r s1=>∃u,r=some u /\
   wpAny (model P w) X.A (letOwnedTupleGo tg (.ref it) u) (fun _ s2=>∃x H',Inv X pins σ H' s2/\RelV x u/\J.yld i H x H'/\tn (i + 1) s2.heap/\∀b ∈ fp,H' b=none) E s1) E s
 done:∀(X:Cx),X.prog=P->X.w=w->X.K=K->X.calm=true->∀(i:Nat) (pins:List (Addr × Obj)) (s:Shared) (σ:St) (H:Hp) (E:Value->Shared->Prop),Inv X pins σ H s->(∀b ∈ fp,oG X pins H b)->tn i s.heap->J.stop i H ->
  wpAny (model P w) X.A (pyNext (.ref it)) (fun r s1=>r=none/\Inv X pins σ H s1) E s
 self:∀(A:Around) (i:Nat) (s:Shared) (Q:Value->Shared->Prop) (E:Value->Shared->Prop),tn i s.heap->Q (.ref it) s->wpAny (model P w) A (pyIter (.ref it)) Q E s
abbrev TI:=St->Hp->(It->Hp->Prop)->Prop
def PIE (X:Cx) (pins:List (Addr × Obj)) (σ:St) (tg:Expr) (R:It->Hp->Prop) (itv:Value) (s2:Shared):Prop :=
 ∃(it:Addr) (fp:List Addr) (tn:Nat->Heap->Prop) (J:It) (H':Hp),itv=.ref it/\Inv X pins σ H' s2/\Turn X.prog X.w X.K tg J fp it tn/\tn 0 s2.heap/\(∀b ∈ fp,oG X pins H' b)/\R J H'
def PI (X:Cx) (tg iter:Expr) (wi:TI):Prop :=
 ∀(pins:List (Addr × Obj)) (s:Shared) (σ:St) (H:Hp) (R:It->Hp->Prop),Inv X pins σ H s->wi σ H R ->
  wpAny (model X.prog X.w) X.A (eval iter X.env) (fun v s1=>wpAny (model X.prog X.w) X.A (pyIter v) (PIE X pins σ tg R) X.xe s1) X.xe s
theorem uF {M:Model}{A:Around}{E:Value->Shared->Prop}{s:Shared}{tg:Expr}{it:Addr}{u:Value}{o:Obj}{n:String}{vs:Array Value}{Q:Unit->Shared->Prop} (ho:s.heap.get? it=some o) (hc:o.cls=.type n) (hd:o.data=.fields vs)
    (hn:["enumerate","zip","dict_itemiterator","dict_reverseitemiterator","odict_iterator","itertools.zip_longest","itertools.pairwise"].contains n=false) (hQ:Q () s):wpAny M A (letOwnedTupleGo tg (.ref it) u) Q E s:=by
  unfold letOwnedTupleGo
  cases tg <;> first
    | exact wpAny_pure hQ
    | (cases u <;> first
        | exact wpAny_pure hQ
        | (refine wpAny_bind (wpAny_load ho ?_)
           rw [hc,hd]
           show wpAny M A (if (["enumerate","zip","dict_itemiterator","dict_reverseitemiterator","odict_iterator","itertools.zip_longest","itertools.pairwise"].contains n && vs[0]? == some (rawInt _))=true then _ else _) Q E s
           rw [if_neg (by intro h;rw [hn,Bool.false_and] at h;cases h)]
           exact wpAny_pure hQ))
def Itl (K:W.Frag) (a:Addr):It :=
 ⟨fun i H=>∃xs x,SqL K H a xs/\xs[i]?=some x,fun i H x H'=>H'=H/\∀xs,SqL K H a xs->xs[i]?=some x,fun i H=>∃xs,SqL K H a xs/\xs.length <= i⟩
def Itt (K:W.Frag) (a:Addr):It :=
 ⟨fun i H=>∃xs x,SqT K H a xs/\xs[i]?=some x,fun i H x H'=>H'=H/\∀xs,SqT K H a xs->xs[i]?=some x,fun i H=>∃xs,SqT K H a xs/\xs.length <= i⟩
def Itr (lo:Int) (n:Nat):It:=⟨fun i _=>i < n,fun i H x H'=>H'=H/\x=.int (lo + i),fun i _=>n <= i⟩
theorem xT {P:Program}{w:World}{K:W.Frag}{tg:Expr} (a it:Addr):Turn P w K tg (Itl K a) [it] it (fun i h=>h.IsListIter it a i) where
 mem:=by simp
 obj:=fun i h st b hb=>by
  have e:b=it:=by simpa using hb
  subst e
  obtain ⟨o,e,c,d⟩:=st
  exact ⟨o,e,fun v z=>by rw [d] at z;cases z⟩
 keep:=fun i h h' st k=>st.at fun o e=>k it (by simp) o e
 item:=by
  intro X hP hw hK hc i pins s σ H E I hf st hg
  subst hP hw hK
  obtain ⟨xs,x,hq,hx⟩:=hg
  obtain ⟨its,rv,p,hz⟩:=I.list hq
  obtain ⟨u,hu,ru⟩:=rv.get hx
  obtain ⟨f0,f1,f2,f3,f4,f5⟩:=hf it (by simp)
  refine wpAny_pyNext_list_item st p.isList (x:=u) (by simpa using hu) fun h' st' sb=>?_
  have I1:Inv X pins σ H { s with heap:=h' }:=I.turned (t':=s.toks) (fun b o hb e=>(sb.2 b hb).trans e) f0 f1 f3 f4 f5
  obtain ⟨o,e,c,d⟩:=id st'
  exact ⟨u,rfl,uF (s:={ s with heap:=h' }) e c d (by decide) ⟨x,H,I1,ru,⟨rfl,fun ys hy=>by rw [I.pk hy hq];exact hx⟩,st',fun b hb=>(hf b hb).1⟩⟩
 done:=by
  intro X hP hw hK hc i pins s σ H E I hf st hg
  subst hP hw hK
  obtain ⟨xs,hq,hx⟩:=hg
  obtain ⟨its,rv,p,hz⟩:=I.list hq
  obtain ⟨f0,f1,f2,f3,f4,f5⟩:=hf it (by simp)
  have hl:=rv.length
  exact wpAny_pyNext_list_end (I.ok.hd hc) st p.isList (by simp;omega) fun h' eb=>⟨rfl,I.turned (t':=s.toks) (fun b o hb e=>eb b o hb e) f0 f1 f3 f4 f5⟩
 self:=fun _ _ _ _ _ st h=>wpAny_pyIter_listiter st h
theorem vE {P:Program}{w:World}{K:W.Frag}{tg:Expr} (a it:Addr):Turn P w K tg (Itt K a) [it] it (fun i h=>h.IsTupleIter it a i) where
 mem:=by simp
 obj:=fun i h st b hb=>by
  have e:b=it:=by simpa using hb
  subst e
  obtain ⟨o,e,c,d⟩:=st
  exact ⟨o,e,fun v z=>by rw [d] at z;cases z⟩
 keep:=fun i h h' st k=>st.at fun o e=>k it (by simp) o e
 item:=by
  intro X hP hw hK hc i pins s σ H E I hf st hg
  subst hP hw hK
  obtain ⟨xs,x,hq,hx⟩:=hg
  obtain ⟨its,rv,p,hz⟩:=I.tuple hq
  obtain ⟨u,hu,ru⟩:=rv.get hx
  obtain ⟨f0,f1,f2,f3,f4,f5⟩:=hf it (by simp)
  refine wpAny_pyNext_tuple_item st (show s.heap.IsTuple a its.toArray from p) (x:=u) (by simpa using hu) fun h' st' sb=>?_
  have I1:Inv X pins σ H { s with heap:=h' }:=I.turned (t':=s.toks) (fun b o hb e=>(sb.2 b hb).trans e) f0 f1 f3 f4 f5
  obtain ⟨o,e,c,d⟩:=id st'
  exact ⟨u,rfl,uF (s:={ s with heap:=h' }) e c d (by decide) ⟨x,H,I1,ru,⟨rfl,fun ys hy=>by rw [I.yb hy hq];exact hx⟩,st',fun b hb=>(hf b hb).1⟩⟩
 done:=by
  intro X hP hw hK hc i pins s σ H E I hf st hg
  subst hP hw hK
  obtain ⟨xs,hq,hx⟩:=hg
  obtain ⟨its,rv,p,hz⟩:=I.tuple hq
  obtain ⟨f0,f1,f2,f3,f4,f5⟩:=hf it (by simp)
  have hl:=rv.length
  exact wpAny_pyNext_tuple_end (I.ok.hd hc) st (show s.heap.IsTuple a its.toArray from p) (by simp;omega) fun h' eb=>⟨rfl,I.turned (t':=s.toks) (fun b o hb e=>eb b o hb e) f0 f1 f3 f4 f5⟩
 self:=fun _ _ _ _ _ st h=>wpAny_pyIter_tupleiter st h
theorem vK {P:Program}{w:World}{K:PySem.W.Frag}{tg:Expr} (it:Addr) (lo:Int) (n:Nat):Turn P w K tg (Itr lo n) [it] it (fun i h=>IsRangeIter h it (lo + (i:Nat) * 1) ((n:Int) - (i:Nat)) 1) where
 mem:=by simp
 obj:=fun i h st b hb=>by
  have e:b=it:=by simpa using hb
  subst e
  exact ⟨_,st,fun v z=>by
   have z':Data.fields _=Data.cell v:=z
   cases z'⟩
 keep:=fun i h h' st k=>k it (by simp) _ st
 item:=by
  intro X hP hw hK hc i pins s σ H E I hf st hg
  subst hP hw hK
  obtain ⟨f0,f1,f2,f3,f4,f5⟩:=hf it (by simp)
  have W:=Walks.range (prog:=X.prog) (w:=X.w) (I.ok.hd hc) it lo 1 n
  refine W.item i s _ _ hg st fun v h' tk hv st' kk=>?_
  obtain ⟨t,rfl⟩:=hv
  have I1:Inv X pins σ H { s with heap:=h',toks:=tk }:=I.turned (fun b o hb e=>kk b o (by simpa using hb) e) f0 f1 f3 f4 f5
  refine ⟨_,rfl,uF (s:={ s with heap:=h',toks:=tk }) (n:="range_iterator") st' rfl rfl (by decide) ⟨.int (lo + i),H,I1,⟨t,?_⟩,⟨rfl,rfl⟩,st',fun b hb=>(hf b hb).1⟩⟩
  rw [Int.mul_one]
 done:=by
  intro X hP hw hK hc i pins s σ H E I hf st hg
  subst hP hw hK
  obtain ⟨f0,f1,f2,f3,f4,f5⟩:=hf it (by simp)
  exact wpAny_pyNext_range_end (I.ok.hd hc) st (by have:n <= i:=hg;omega) fun h' eb=>⟨rfl,I.turned (t':=s.toks) (fun b o hb e=>eb b o hb e) f0 f1 f3 f4 f5⟩
 self:=fun _ _ _ _ _ st h=>wpAny_pyIter_rangeiter st h
end L2
namespace L2
open PySem PySem.Spec PyProof.Rows
section
variable {X:Cx}{tg:Expr}
theorem Ad {pins:List (Addr × Obj)}{σ:St}{H:Hp}{s:Shared}{R:It->Hp->Prop}{E:Value->Shared->Prop}{lo hi:Int}{t u v:Tok}{tk:Nat} (I:Inv X pins σ H s) (h1:-(2 ^ 62) <= lo) (h2:lo < 2 ^ 62) (h3:-(2 ^ 62) <= hi) (h4:hi < 2 ^ 62)
  (q:R (Itr lo (hi - lo).toNat) H):wpAny (model X.prog X.w) X.A (pyIter (.ref s.heap.objs.size)) (PIE X pins σ tg R) E { s with heap:=s.heap.push { cls:=.type "range",data:=.fields #[.int lo t,.int hi u,.int 1 v] },toks:=tk }:=by
 refine wpAny_pyIter_range (IsRange.new ..) (small_one h1 h2 h3 h4) ?_
 have I1:Inv X pins σ H { s with heap:=s.heap.push { cls:=.type "range",data:=.fields #[.int lo t,.int hi u,.int 1 v] },toks:=tk }:=I.kept fun b o e=>Heap.get?_push_of_some _ e
 refine ⟨(s.heap.push { cls:=.type "range",data:=.fields #[.int lo t,.int hi u,.int 1 v] }).objs.size,[(s.heap.push { cls:=.type "range",data:=.fields #[.int lo t,.int hi u,.int 1 v] }).objs.size],_,_,H,rfl,
  I1.kept (t':=tk) fun b o e=>Heap.get?_push_of_some _ e,vK _ lo (hi - lo).toNat,?_,fun b hb=>?_,q⟩
 ·have e1:lo + ((0:Nat):Int) * 1=lo:=by simp
  have e2:(((hi - lo).toNat:Nat):Int) - ((0:Nat):Int)=Builtin.Range.rangeSize lo hi 1:=by rw [rangeSize_one];split <;> omega
  show IsRangeIter _ _ (lo + ((0:Nat):Int) * 1) ((((hi - lo).toNat:Nat):Int) - ((0:Nat):Int)) 1
  rw [e1,e2]
  exact Heap.get?_push_size _ rfl
 ·have e:b=(s.heap.push { cls:=.type "range",data:=.fields #[.int lo t,.int hi u,.int 1 v] }).objs.size:=by simpa using hb
  subst e
  exact I1.uD (Nat.le_refl _) (I1.hok.fresh (Nat.le_refl _))
inductive Ex (vs:List V) (H:Hp) (R:It->Hp->Prop):Prop
 | mk (j:Int) (h0:vs=[.int j]) (h1:-(2 ^ 62) <= j) (h2:j < 2 ^ 62) (q:R (Itr 0 j.toNat) H):Ex vs H R
def Ei (ta:TA):TI:=fun σ H R=>ta σ H fun vs H1=>Ex vs H1 R
theorem cv {a:Expr}{ta:TA}{p pos:Pos} (hg:Gl X "range") (hm:X.mg "range"=none) (ha:PA X [a] ta) (hs:starEach [a] X.env=[(false,eval a X.env)]:=by rfl):PI X tg (.Call (.Name "range" p) [a] [] pos) (Ei ta):=by
 intro pins s σ H R I h
 refine Call_ (mE I hg hm boot_range (PyProof.Rows.callWith_type1 (thn (ha pos pins s σ H _ I h) fun us s1 ⟨vs,H1,I1,r1,q1⟩=>?_) hs rfl))
 obtain ⟨j,e,q1,q2,q⟩:=q1
 subst e
 cases r1 with
 | cons r rr =>
  cases rr
  obtain ⟨t,rfl⟩:=r
  exact call_range_1 (Ad I1 (by omega) (by omega) q1 q2 (by simpa using q))
def Gb (wi:TI) (g:TG) (tb:TS):TS:=fun D σ H=>wi σ H fun J H1=>∃W:Nat->Nat->St->Hp->Prop,(∃m,W 0 m σ H1)/\∀i m σ H,W i m σ H ->
 (J.stop i H/\D.nx σ H) \/ (J.go i H/\∃N:St->Hp->Prop,(∀σ' H',N σ' H'->∃m',m' < m/\W (i + 1) m' σ' H')/\∀x H',J.yld i H x H'->g x σ H' fun σ2 H2=>tb { D with nx:=N,ct:=N,bk:=D.nx } σ2 H2)
def pA (fp:List Addr) (h:Heap):List (Addr × Obj):=fp.filterMap fun b=>(h.get? b).map fun o=>(b,o)
theorem i4 {fp:List Addr}{h:Heap}{b:Addr}{o:Obj} (hb:b ∈ fp) (e:h.get? b=some o):(b,o) ∈ pA fp h:=List.mem_filterMap.mpr ⟨b,hb,by rw [e];rfl⟩
theorem ya {fp:List Addr}{h:Heap}{p:Addr × Obj} (hp:p ∈ pA fp h):p.1 ∈ fp/\h.get? p.1=some p.2:=by
 obtain ⟨b,hb,e⟩:=List.mem_filterMap.mp hp
 cases q:h.get? b with
 | none=>rw [q] at e;cases e
 | some o =>
  rw [q] at e
  have e':(b,o)=p:=Option.some.inj e
  subst e'
  exact ⟨hb,q⟩
theorem Inv.pinned {pins:List (Addr × Obj)}{σ:St}{H:Hp}{s:Shared}{fp:List Addr} (I:Inv X pins σ H s) (hf:∀b ∈ fp,oG X pins H b) (ho:∀b ∈ fp,∃o,s.heap.get? b=some o/\∀v,o.data ≠ .cell v):Inv X (pins ++ pA fp s.heap) σ H s :=
 I.rZ fun p hp=>(List.mem_append.mp hp).elim (fun z=>I.pin p (List.mem_append_right _ z)) fun z=>by
  obtain ⟨hb,e⟩:=ya z
  obtain ⟨f0,f1,f2,_⟩:=hf p.1 hb
  obtain ⟨o,e',d⟩:=ho p.1 hb
  rw [e] at e';cases e'
  exact ⟨e,f0,f1,f2,d⟩
theorem Inv.jR {pins pl:List (Addr × Obj)}{σ:St}{H:Hp}{s:Shared} (I:Inv X (pins ++ pl) σ H s):Inv X pins σ H s:=I.rZ fun p hp=>I.pin p (List.mem_append_right _ (List.mem_append_left _ hp))
theorem cy {iter:Expr}{body:List Stmt}{wi:TI}{g:TG}{tb:TS}{pos:Pos} (hp:PassesOwn (model X.prog X.w) X.A X.env X.xe) (hc:X.calm=true) (hi:PI X tg iter wi) (hg:PG X tg g) (hb:PSs X body tb)
  (hs:∀x,foldedSetIterable iter X.env x=pure x:=by intro _;rfl):PS X (.For tg iter body [] pos) (Gb wi g tb):=by
 intro pins s σ H D I h
 refine wpAny_For (thn (hi pins s σ H _ I h) fun v s1 h1=>thn h1 fun itv s2 h2=>?_) hs
 obtain ⟨it,fp,tn,J,H2,e,I2,T,st2,f2,W,⟨m0,w0⟩,turn⟩:=h2
 subst e
 have stat:∀{H':Hp},(∀b ∈ fp,H' b=none)->∀b ∈ fp,oG X pins H' b:=fun hn b hb=>⟨hn b hb,(f2 b hb).2⟩
 refine codeAny_forLoop_any (fun n s'=>∃i σ' H',Inv X pins σ' H' s'/\tn i s'.heap/\(∀b ∈ fp,H' b=none)/\W i n σ' H') ?_ m0 ⟨0,σ,H2,I2,st2,fun b hb=>(f2 b hb).1,w0⟩
 rintro n s3 ⟨i,σ3,H3,I3,st3,fr3,w3⟩
 rcases turn i n σ3 H3 w3 with ⟨stop,qn⟩ | ⟨go,N,hN,step⟩
 ·refine wpAny_passesOwn hp (thn (T.done X rfl rfl rfl hc i pins s3 σ3 H3 X.xe I3 (stat fr3) st3 stop) fun r s4 ⟨hr,I4⟩=>?_)
  subst hr
  exact wpAny_execs_nil ⟨σ3,H3,I4,qn⟩
 ·refine wpAny_passesOwn hp (thn (T.item X rfl rfl rfl hc i pins s3 σ3 H3 X.xe I3 (stat fr3) st3 go) fun r s4 ⟨u,hr,h4⟩=>?_)
  subst hr
  refine wpAny_passesOwn hp (thn h4 fun _ s5 ⟨x,H5,I5,r5,y5,st5,fr5⟩=>?_)
  have I5':=I5.pinned (stat fr5) (T.obj _ _ st5)
  refine wpAny_passesOwn hp (thn (hg _ s5 σ3 H5 x u _ I5' r5 (step x H5 y5)) fun _ s6 ⟨σ6,H6,I6,q6⟩=>?_)
  refine wpAny_passesOwn hp (thn (hb _ s6 σ6 H6 _ I6 q6) fun f s7 q7=>?_)
  have again:∀{σ7:St}{H7:Hp},Inv X (pins ++ pA fp s5.heap) σ7 H7 s7->N σ7 H7->∃m,m < n/\∃i σ' H',Inv X pins σ' H' s7/\tn i s7.heap/\(∀b ∈ fp,H' b=none)/\W i m σ' H':=fun {σ7 H7} I7 n7=>by
   obtain ⟨m',hm,w7⟩:=hN σ7 H7 n7
   refine ⟨m',hm,i + 1,σ7,H7,I7.jR,T.keep _ _ _ st5 fun b hb o e=>(I7.pin (b,o) (List.mem_append_right _ (List.mem_append_right _ (i4 hb e)))).1,fun b hb=>?_,w7⟩
   obtain ⟨o,e,d⟩:=T.obj _ _ st5 b hb
   exact (I7.pin (b,o) (List.mem_append_right _ (List.mem_append_right _ (i4 hb e)))).2.1
  cases f with
  | next=>obtain ⟨σ7,H7,I7,n7⟩:=q7;exact again I7 n7
  | cont=>obtain ⟨σ7,H7,I7,n7⟩:=q7;exact again I7 n7
  | brk=>obtain ⟨σ7,H7,I7,q7⟩:=q7;exact ⟨σ7,H7,I7.jR,q7⟩
  | ret v=>obtain ⟨x7,σ7,H7,I7,r7,q7⟩:=q7;exact ⟨x7,σ7,H7,I7.jR,r7,q7⟩
end
theorem cN {K:PySem.W.Frag}{a:Addr}{xs:List V}{g:TG}{tb:TS}{D:Ends}{σ:St}{H:Hp} (Pv:Nat->St->Hp->Prop) (h0:Pv 0 σ H) (hl:∀i σ H,i <= xs.length->Pv i σ H->SqL K H a xs)
  (hs:∀i x σ H,xs[i]?=some x->Pv i σ H->g x σ H fun σ2 H2=>tb { D with nx:=Pv (i + 1),ct:=Pv (i + 1),bk:=D.nx } σ2 H2) (hd:∀σ H,Pv xs.length σ H->D.nx σ H) :
  ∃W:Nat->Nat->St->Hp->Prop,(∃m,W 0 m σ H)/\∀i m σ H,W i m σ H ->
   ((Itl K a).stop i H/\D.nx σ H) \/ ((Itl K a).go i H/\∃N:St->Hp->Prop,(∀σ' H',N σ' H'->∃m',m' < m/\W (i + 1) m' σ' H')/\∀x H',(Itl K a).yld i H x H'->g x σ H' fun σ2 H2=>tb { D with nx:=N,ct:=N,bk:=D.nx } σ2 H2):=by
 refine ⟨fun i m σ H=>m=xs.length - i/\i <= xs.length/\Pv i σ H,⟨xs.length,by simp,Nat.zero_le _,h0⟩,?_⟩
 rintro i m σ H ⟨rfl,hi,p⟩
 have q:=hl i σ H hi p
 by_cases hlt:i < xs.length
 ·refine .inr ⟨⟨xs,xs[i],q,by simp [hlt]⟩,Pv (i + 1),fun σ' H' p'=>⟨xs.length - (i + 1),by omega,rfl,hlt,p'⟩,fun x H' y=>?_⟩
  obtain ⟨e,y⟩:=y
  subst e
  exact hs i x σ _ (y xs q) p
 ·have e:i=xs.length:=by omega
  subst e
  exact .inl ⟨⟨xs,q,Nat.le_refl _⟩,hd σ H p⟩
theorem Br {K:PySem.W.Frag}{a:Addr}{xs:List V}{g:TG}{tb:TS}{D:Ends}{σ:St}{H:Hp} (Pv:Nat->St->Hp->Prop) (h0:Pv 0 σ H) (hl:∀i σ H,i <= xs.length->Pv i σ H->SqT K H a xs)
  (hs:∀i x σ H,xs[i]?=some x->Pv i σ H->g x σ H fun σ2 H2=>tb { D with nx:=Pv (i + 1),ct:=Pv (i + 1),bk:=D.nx } σ2 H2) (hd:∀σ H,Pv xs.length σ H->D.nx σ H) :
  ∃W:Nat->Nat->St->Hp->Prop,(∃m,W 0 m σ H)/\∀i m σ H,W i m σ H ->
   ((Itt K a).stop i H/\D.nx σ H) \/ ((Itt K a).go i H/\∃N:St->Hp->Prop,(∀σ' H',N σ' H'->∃m',m' < m/\W (i + 1) m' σ' H')/\∀x H',(Itt K a).yld i H x H'->g x σ H' fun σ2 H2=>tb { D with nx:=N,ct:=N,bk:=D.nx } σ2 H2):=by
 refine ⟨fun i m σ H=>m=xs.length - i/\i <= xs.length/\Pv i σ H,⟨xs.length,by simp,Nat.zero_le _,h0⟩,?_⟩
 rintro i m σ H ⟨rfl,hi,p⟩
 have q:=hl i σ H hi p
 by_cases hlt:i < xs.length
 ·refine .inr ⟨⟨xs,xs[i],q,by simp [hlt]⟩,Pv (i + 1),fun σ' H' p'=>⟨xs.length - (i + 1),by omega,rfl,hlt,p'⟩,fun x H' y=>?_⟩
  obtain ⟨e,y⟩:=y
  subst e
  exact hs i x σ _ (y xs q) p
 ·have e:i=xs.length:=by omega
  subst e
  exact .inl ⟨⟨xs,q,Nat.le_refl _⟩,hd σ H p⟩
theorem fD {lo:Int}{n:Nat}{g:TG}{tb:TS}{D:Ends}{σ:St}{H:Hp} (Pv:Nat->St->Hp->Prop) (h0:Pv 0 σ H)
  (hs:∀i σ H,i < n->Pv i σ H->g (.int (lo + i)) σ H fun σ2 H2=>tb { D with nx:=Pv (i + 1),ct:=Pv (i + 1),bk:=D.nx } σ2 H2) (hd:∀σ H,Pv n σ H->D.nx σ H) :
  ∃W:Nat->Nat->St->Hp->Prop,(∃m,W 0 m σ H)/\∀i m σ H,W i m σ H ->
   ((Itr lo n).stop i H/\D.nx σ H) \/ ((Itr lo n).go i H/\∃N:St->Hp->Prop,(∀σ' H',N σ' H'->∃m',m' < m/\W (i + 1) m' σ' H')/\∀x H',(Itr lo n).yld i H x H'->g x σ H' fun σ2 H2=>tb { D with nx:=N,ct:=N,bk:=D.nx } σ2 H2):=by
 refine ⟨fun i m σ H=>m=n - i/\i <= n/\Pv i σ H,⟨n,by simp,Nat.zero_le _,h0⟩,?_⟩
 rintro i m σ H ⟨rfl,hi,p⟩
 by_cases hlt:i < n
 ·refine .inr ⟨hlt,Pv (i + 1),fun σ' H' p'=>⟨n - (i + 1),by omega,rfl,hlt,p'⟩,fun x H' y=>?_⟩
  obtain ⟨e,y⟩:=y
  subst e y
  exact hs i σ _ hlt p
 ·have e:i=n:=by omega
  subst e
  exact .inl ⟨Nat.le_refl _,hd σ H p⟩
end L2
namespace L2
open PySem PySem.Spec PyProof.Rows
abbrev R2:=V->V->Hp->VK->Prop
def OpR (X:Cx) (f:Value->Value->Sem Value) (r:R2):Prop :=
 ∀(pins:List (Addr × Obj)) (s:Shared) (σ:St) (H:Hp) (x y:V) (v u:Value) (Q:VK),Inv X pins σ H s->RelV x v->RelV y u->r x y H Q ->
  wpAny (model X.prog X.w) X.A (f v u) (EP X pins σ Q) X.xe s
def UnR (X:Cx) (f:Value->Sem Value) (r:V->Hp->VK->Prop):Prop :=
 ∀(pins:List (Addr × Obj)) (s:Shared) (σ:St) (H:Hp) (x:V) (v:Value) (Q:VK),Inv X pins σ H s->RelV x v->r x H Q ->
  wpAny (model X.prog X.w) X.A (f v) (EP X pins σ Q) X.xe s
def cO (X:Cx) (f:Value) (r:List V->Hp->VK->Prop):Prop :=
 ∀(pins:List (Addr × Obj)) (s:Shared) (σ:St) (H:Hp) (xs:List V) (us:List Value) (Q:VK),Inv X pins σ H s->Vals xs us->r xs H Q ->
  wpAny (model X.prog X.w) X.A (call f us) (EP X pins σ Q) X.xe s
def FC (X:Cx) (r:V->Hp->(Bool->Hp->Prop)->Prop):Prop :=
 ∀(pins:List (Addr × Obj)) (s:Shared) (σ:St) (H:Hp) (x:V) (v:Value) (Q:Bool->Hp->Prop),Inv X pins σ H s->RelV x v->r x H Q ->
  wpAny (model X.prog X.w) X.A (truthy v) (TP X pins σ Q) X.xe s
def tOp (r:R2) (ta tb:TE):TE:=fun σ H Q=>ta σ H fun x H1=>tb σ H1 fun y H2=>r x y H2 Q
def tUn (r:V->Hp->VK->Prop) (ta:TE):TE:=fun σ H Q=>ta σ H fun x H1=>r x H1 Q
def rI (C:Int->Int->Prop) (g:Int->Int->V):R2:=fun x y H Q=>∃i j,x=.int i/\y=.int j/\C i j/\Q (g i j) H
def rI0 (g:Int->Int->V):R2:=fun x y H Q=>∃i j,x=.int i/\y=.int j/\Q (g i j) H
def rU (g:Int->V):V->Hp->VK->Prop:=fun x H Q=>∃i,x=.int i/\Q (g i) H
section
variable {X:Cx}{a b c:Expr}{ta tb tc:TE}{pos:Pos}
theorem Di (ha:PE X a ta) (hb:PE X b tb) {pins:List (Addr × Obj)}{s:Shared}{σ:St}{H:Hp}{R:V->V->Hp->Prop} (I:Inv X pins σ H s)
  (h:ta σ H fun x H1=>tb σ H1 fun y H2=>R x y H2) {Q:Value->Shared->Prop}{f:Value->Value->Sem Value}
  (hf:∀v u s2 x y H2,Inv X pins σ H2 s2->RelV x v->RelV y u->R x y H2->wpAny (model X.prog X.w) X.A (f v u) Q X.xe s2) :
  wpAny (model X.prog X.w) X.A (eval a X.env) (fun v s₁=>wpAny (model X.prog X.w) X.A (eval b X.env) (fun u s₂=>wpAny (model X.prog X.w) X.A (f v u) Q X.xe s₂) X.xe s₁) X.xe s:=by
 refine thn (ha pins s σ H _ I h) fun v s1 ⟨x,H1,I1,r1,q1⟩=>?_
 refine thn (hb pins s1 σ H1 _ I1 q1) fun u s2 ⟨y,H2,I2,r2,q2⟩=>?_
 exact hf v u s2 x y H2 I2 r1 r2 q2
theorem au {op:Operator}{r:R2} (ho:OpR X (binaryOp op) r) (ha:PE X a ta) (hb:PE X b tb):PE X (.BinOp a op b pos) (tOp r ta tb):=by
 intro pins s σ H Q I h
 exact wpAny_BinOp (Di ha hb I h fun v u s2 x y H2 I2 rx ry q=>ho pins s2 σ H2 x y v u Q I2 rx ry q)
theorem jy {op:UnaryOp}{r:V->Hp->VK->Prop} (ho:UnR X (unaryOp op) r) (ha:PE X a ta):PE X (.UnaryOp op a pos) (tUn r ta):=by
 intro pins s σ H Q I h
 exact UnaryOp_ (thn (ha pins s σ H _ I h) fun v s1 ⟨x,H1,I1,r1,q1⟩=>ho pins s1 σ H1 x v Q I1 r1 q1)
theorem opI {f:Value->Value->Sem Value}{C:Int->Int->Prop}{g:Int->Int->Int}
  (rule:∀(i j:Int) (t u:Tok) (s:Shared) (Q:Value->Shared->Prop) (E:Value->Shared->Prop),C i j->Q (.int (g i j) s.toks) { s with toks:=s.toks + 1 }->wpAny (model X.prog X.w) X.A (f (.int i t) (.int j u)) Q E s) :
  OpR X f (rI C fun i j=>.int (g i j)):=by
 intro pins s σ H x y v u Q I rx ry h
 obtain ⟨i,j,rfl,rfl,hc,q⟩:=h
 obtain ⟨t,rfl⟩:=rx
 obtain ⟨t',rfl⟩:=ry
 exact rule i j t t' s _ _ hc ⟨.int (g i j),H,I.tok _,⟨_,rfl⟩,q⟩
theorem EM {f:Value->Value->Sem Value}{g:Int->Int->Int}
  (rule:∀(i j:Int) (t u:Tok) (s:Shared) (Q:Value->Shared->Prop) (E:Value->Shared->Prop),Q (.int (g i j) s.toks) { s with toks:=s.toks + 1 }->wpAny (model X.prog X.w) X.A (f (.int i t) (.int j u)) Q E s) :
  OpR X f (rI0 fun i j=>.int (g i j)):=by
 intro pins s σ H x y v u Q I rx ry h
 obtain ⟨i,j,rfl,rfl,q⟩:=h
 obtain ⟨t,rfl⟩:=rx
 obtain ⟨t',rfl⟩:=ry
 exact rule i j t t' s _ _ ⟨.int (g i j),H,I.tok _,⟨_,rfl⟩,q⟩
theorem DY {f:Value->Value->Sem Value}{g:Int->Int->Bool}
  (rule:∀(i j:Int) (t u:Tok) (s:Shared) (Q:Value->Shared->Prop) (E:Value->Shared->Prop),Q (.bool (g i j)) s->wpAny (model X.prog X.w) X.A (f (.int i t) (.int j u)) Q E s) :
  OpR X f (rI0 fun i j=>.bl (g i j)):=by
 intro pins s σ H x y v u Q I rx ry h
 obtain ⟨i,j,rfl,rfl,q⟩:=h
 obtain ⟨t,rfl⟩:=rx
 obtain ⟨t',rfl⟩:=ry
 exact rule i j t t' s _ _ ⟨.bl (g i j),H,I,rfl,q⟩
def EZ (i j:Int):Prop:=0 <= j/\j <= 1000000/\i.natAbs < 2 ^ 64
def xX (i j:Int):Prop:=(-(2 ^ 64) < i/\i < 2 ^ 64) \/ (-(2 ^ 64) < j/\j < 2 ^ 64)
theorem xX.ok {i j:Int} (h:xX i j):IntMulOk i j:=by
 rcases h with ⟨h1,h2⟩ | ⟨h1,h2⟩
 ·exact .of_left (intBits_le_64 h1 h2)
 ·exact .of_right (intBits_le_64 h1 h2)
theorem Ed:OpR X (binaryOp .Add) (rI0 fun i j=>.int (i + j)):=EM fun _ _ _ _ _ _ _ q=>add_int q
theorem CH:OpR X (binaryOp .Sub) (rI0 fun i j=>.int (i - j)):=EM fun _ _ _ _ _ _ _ q=>sub_int q
theorem Dq:OpR X (binaryOp .Mult) (rI xX fun i j=>.int (i * j)):=opI fun _ _ _ _ _ _ _ hc q=>mul_int q hc.ok
theorem CN:OpR X (binaryOp .Mod) (rI (fun _ j=>0 < j) fun i j=>.int (i % j)):=opI fun i j _ _ _ _ _ hc q=>by
 have h1:(0:Int) < j:=hc
 exact mod_int' (by omega) (by rw [Int.fmod_eq_emod_of_nonneg i (by omega)];exact q)
theorem C6:OpR X (binaryOp .Pow) (rI EZ fun i j=>.int (i ^ j.toNat)):=opI fun _ _ _ _ _ _ _ hc q=>pow_int_small hc.1 hc.2.1 hc.2.2 q
theorem unI {f:Value->Sem Value}{g:Int->Int}
  (rule:∀(i:Int) (t:Tok) (s:Shared) (Q:Value->Shared->Prop) (E:Value->Shared->Prop),Q (.int (g i) s.toks) { s with toks:=s.toks + 1 }->wpAny (model X.prog X.w) X.A (f (.int i t)) Q E s) :
  UnR X f (rU fun i=>.int (g i)):=by
 intro pins s σ H x v Q I rx h
 obtain ⟨i,rfl,q⟩:=h
 obtain ⟨t,rfl⟩:=rx
 exact rule i t s _ _ ⟨.int (g i),H,I.tok _,⟨_,rfl⟩,q⟩
theorem gu:UnR X (unaryOp .USub) (rU fun i=>.int (-i)):=unI fun _ _ _ _ _ q=>neg_int q
end
def x8:V->V->Bool
 | .non,.non=>true | .non,.int _=>true | .int _,.non=>true | .non,.bl _=>true | .bl _,.non=>true | .non,.str _=>true | .str _,.non=>true
 | .int _,.int _=>true | .bl _,.bl _=>true | .str _,.str _=>true | .byt _,.byt _=>true
 | .int _,.str _=>true | .str _,.int _=>true | .bl _,.str _=>true | .str _,.bl _=>true
 | _,_=>false
def rEq:R2:=fun x y H Q=>x8 x y=true/\Q (.bl (decide (x=y))) H
def rNe:R2:=fun x y H Q=>x8 x y=true/\Q (.bl (!decide (x=y))) H
theorem wZ {i j:Int}:decide (V.int i=V.int j)=(i == j):=by
 rw [Bool.eq_iff_iff]
 simp
theorem Ay {i j:Bool}:decide (V.bl i=V.bl j)=(i == j):=by
 rw [Bool.eq_iff_iff]
 simp
theorem wo {i j:Str}:decide (V.str i=V.str j)=(i == j):=by
 rw [Bool.eq_iff_iff]
 simp
theorem wA {i j:Array UInt8}:decide (V.byt i=V.byt j)=(i.toList == j.toList):=by
 rw [Bool.eq_iff_iff]
 cases i
 cases j
 simp
section
variable {X:Cx}{a b c:Expr}{ta tb tc:TE}{pos:Pos}
theorem ba {pins:List (Addr × Obj)}{σ:St}{H:Hp}{s:Shared}{Q:VK}{k k':Bool} (I:Inv X pins σ H s) (q:Q (.bl k) H) (e:k=k'):EP X pins σ Q (.bool k') s:=by
 subst e
 exact ⟨.bl k,H,I,rfl,q⟩
theorem E1:OpR X (compareOp .Eq) rEq:=by
 intro pins s σ H x y v u Q I rx ry h
 obtain ⟨hs,q⟩:=h
 cases x with
 | non =>
  cases rx
  cases y with
  | non=>cases ry;exact PySem.EqNone.eq_none_none (ba I q (by simp))
  | bl j=>cases ry;exact PySem.EqNone.eq_none_bool (ba I q (by simp))
  | int j=>obtain ⟨t',rfl⟩:=ry;exact PySem.EqNone.eq_none_int (ba I q (by simp))
  | str j=>obtain ⟨t',rfl⟩:=ry;exact PySem.EqNone.eq_none_str (ba I q (by simp))
  | _=>exact absurd (show false=true from hs) Bool.false_ne_true
 | bl i =>
  cases rx
  cases y with
  | non=>cases ry;exact PySem.EqNone.eq_bool_none (ba I q (by simp))
  | bl j=>cases ry;exact eq_bool (ba I q Ay)
  | str j=>obtain ⟨t',rfl⟩:=ry;exact PySem.EqMixed.eq_bool_str (ba I q (by simp))
  | _=>exact absurd (show false=true from hs) Bool.false_ne_true
 | int i =>
  obtain ⟨t,rfl⟩:=rx
  cases y with
  | non=>cases ry;exact PySem.EqNone.eq_int_none (ba I q (by simp))
  | int j=>obtain ⟨t',rfl⟩:=ry;exact eq_int (ba I q wZ)
  | str j=>obtain ⟨t',rfl⟩:=ry;exact PySem.EqMixed.eq_int_str (ba I q (by simp))
  | _=>exact absurd (show false=true from hs) Bool.false_ne_true
 | str i =>
  obtain ⟨t,rfl⟩:=rx
  cases y with
  | non=>cases ry;exact PySem.EqNone.eq_str_none (ba I q (by simp))
  | bl j=>cases ry;exact PySem.EqMixed.eq_str_bool (ba I q (by simp))
  | int j=>obtain ⟨t',rfl⟩:=ry;exact PySem.EqMixed.eq_str_int (ba I q (by simp))
  | str j=>obtain ⟨t',rfl⟩:=ry;exact eq_str (ba I q wo)
  | _=>exact absurd (show false=true from hs) Bool.false_ne_true
 | byt i =>
  obtain ⟨t,rfl⟩:=rx
  cases y with
  | byt j=>obtain ⟨t',rfl⟩:=ry;exact W.eq_bytes (ba I q wA)
  | _=>exact absurd (show false=true from hs) Bool.false_ne_true
 | _=>cases y <;> exact absurd (show false=true from hs) Bool.false_ne_true
theorem Eu:OpR X (compareOp .NotEq) rNe:=by
 intro pins s σ H x y v u Q I rx ry h
 obtain ⟨hs,q⟩:=h
 cases x with
 | non =>
  cases rx
  cases y with
  | non=>cases ry;exact PySem.EqNone.ne_none_none (ba I q (by simp))
  | bl j=>cases ry;exact PySem.EqNone.ne_none_bool (ba I q (by simp))
  | int j=>obtain ⟨t',rfl⟩:=ry;exact PySem.EqNone.ne_none_int (ba I q (by simp))
  | str j=>obtain ⟨t',rfl⟩:=ry;exact PySem.EqNone.ne_none_str (ba I q (by simp))
  | _=>exact absurd (show false=true from hs) Bool.false_ne_true
 | bl i =>
  cases rx
  cases y with
  | non=>cases ry;exact PySem.EqNone.ne_bool_none (ba I q (by simp))
  | bl j=>cases ry;exact ne_bool (ba I q (congrArg not Ay))
  | str j=>obtain ⟨t',rfl⟩:=ry;exact PySem.EqMixed.ne_bool_str (ba I q (by simp))
  | _=>exact absurd (show false=true from hs) Bool.false_ne_true
 | int i =>
  obtain ⟨t,rfl⟩:=rx
  cases y with
  | non=>cases ry;exact PySem.EqNone.ne_int_none (ba I q (by simp))
  | int j=>obtain ⟨t',rfl⟩:=ry;exact ne_int (ba I q (congrArg not wZ))
  | str j=>obtain ⟨t',rfl⟩:=ry;exact PySem.EqMixed.ne_int_str (ba I q (by simp))
  | _=>exact absurd (show false=true from hs) Bool.false_ne_true
 | str i =>
  obtain ⟨t,rfl⟩:=rx
  cases y with
  | non=>cases ry;exact PySem.EqNone.ne_str_none (ba I q (by simp))
  | bl j=>cases ry;exact PySem.EqMixed.ne_str_bool (ba I q (by simp))
  | int j=>obtain ⟨t',rfl⟩:=ry;exact PySem.EqMixed.ne_str_int (ba I q (by simp))
  | str j=>obtain ⟨t',rfl⟩:=ry;exact ne_str (ba I q (congrArg not wo))
  | _=>exact absurd (show false=true from hs) Bool.false_ne_true
 | byt i =>
  obtain ⟨t,rfl⟩:=rx
  cases y with
  | byt j=>obtain ⟨t',rfl⟩:=ry;exact W.ne_bytes (ba I q (congrArg not wA))
  | _=>exact absurd (show false=true from hs) Bool.false_ne_true
 | _=>cases y <;> exact absurd (show false=true from hs) Bool.false_ne_true
theorem ED:OpR X (compareOp .Lt) (rI0 fun i j=>.bl (decide (i < j))):=DY fun _ _ _ _ _ _ _ q=>lt_int q
theorem EG:OpR X (compareOp .Gt) (rI0 fun i j=>.bl (decide (j < i))):=DY fun _ _ _ _ _ _ _ q=>gt_int q
theorem EN:OpR X (compareOp .GtE) (rI0 fun i j=>.bl (decide (j <= i))):=DY fun _ _ _ _ _ _ _ q=>ge_int q
theorem yc:OpR X (compareOp .In) (fun x y H Q=>∃i j,x=.str i/\y=.str j/\Q (.bl (!(Builtin.Str.occurrences j i 0 j.length 1).isEmpty)) H):=by
 intro pins s σ H x y v u Q I rx ry h
 obtain ⟨i,j,rfl,rfl,q⟩:=h
 obtain ⟨t,rfl⟩:=rx
 obtain ⟨t',rfl⟩:=ry
 exact in_str (ba I q rfl)
theorem DU:OpR X (compareOp .Is) (fun x y H Q=>y=.non/\Q (.bl (decide (x=.non))) H):=by
 intro pins s σ H x y v u Q I rx ry h
 obtain ⟨rfl,q⟩:=h
 cases ry
 refine is_none_gen (ba I q ?_)
 cases x <;> first
  | (cases rx;rfl)
  | (obtain ⟨t,rfl⟩:=rx;rfl)
theorem A0:OpR X (compareOp .IsNot) (fun x y H Q=>y=.non/\Q (.bl (!decide (x=.non))) H):=by
 intro pins s σ H x y v u Q I rx ry h
 obtain ⟨rfl,q⟩:=h
 cases ry
 refine isnot_none_gen (ba I q ?_)
 cases x <;> first
  | (cases rx;rfl)
  | (obtain ⟨t,rfl⟩:=rx;rfl)
theorem OpR.or {f:Value->Value->Sem Value}{r r':R2} (h:OpR X f r) (h':OpR X f r'):OpR X f (fun x y H Q=>r x y H Q \/ r' x y H Q):=by
 intro pins s σ H x y v u Q I rx ry q
 rcases q with q | q
 ·exact h pins s σ H x y v u Q I rx ry q
 ·exact h' pins s σ H x y v u Q I rx ry q
theorem y9 (b:Expr) {op:CmpOp} (h:op ≠ .In:=by decide) (h2:op ≠ .NotIn:=by decide):behindInMarks op b=false:=by
 have e1:(op == CmpOp.In)=false:=by cases op <;> first | rfl | exact absurd rfl h
 have e2:(op == CmpOp.NotIn)=false:=by cases op <;> first | rfl | exact absurd rfl h2
 cases b <;> simp [behindInMarks,e1,e2]
theorem AS {op:CmpOp}{r:R2} (ho:OpR X (compareOp op) r) (ha:PE X a ta) (hb:PE X b tb) (hm:behindInMarks op b=false):PE X (.Compare a [op] [b] pos) (tOp r ta tb):=by
 intro pins s σ H Q I h
 exact wpAny_Compare1 (Di ha hb I h fun v u s2 x y H2 I2 rx ry q=>ho pins s2 σ H2 x y v u Q I2 rx ry q) hm
inductive blI (x:V) (H:Hp) (Q:Bool->Hp->Prop):Prop
 | mk (k:Bool) (h:x=.bl k) (q:Q k H):blI x H Q
def q4 (t:TE):TT:=fun σ H Q=>t σ H fun x H'=>blI x H' Q
theorem Bu {op:CmpOp}{r:R2} (ho:OpR X (compareOp op) r) (ha:PE X a ta) (hb:PE X b tb) (hm:behindInMarks op b=false):PT X (.Compare a [op] [b] pos) (q4 (tOp r ta tb)):=by
 intro pins s σ H Q I h
 refine wpAny_isTrue_Compare1 (thn (ha pins s σ H _ I h) fun v s1 ⟨x,H1,I1,r1,q1⟩=>thn (hb pins s1 σ H1 _ I1 q1) fun u s2 ⟨y,H2,I2,r2,q2⟩ =>
  thn (ho pins s2 σ H2 x y v u _ I2 r1 r2 q2) fun c s3 ⟨z,H3,I3,r3,k,e,q3⟩=>?_) hm
 subst e
 cases r3
 exact wpAny_truthy_bool ⟨H3,I3,q3⟩
def FT (K:W.Frag) (x:V) (H:Hp) (k:Bool):Prop :=
 match x with
 | .non=>k=false
 | .bl b=>k=b
 | .int i=>k=(i != 0)
 | .str y=>y.length <= sizeLine/\k=((y.length:Int) != 0)
 | .byt y=>y.size <= sizeLine/\k=((y.size:Int) != 0)
 | .ref p=>(∃xs,SqL K H p xs/\k=!xs.isEmpty) \/ (∃xs,SqT K H p xs/\k=!xs.isEmpty) \/ ∃kvs,H p=some (.dK kvs)/\k=!kvs.isEmpty
 | _=>False
theorem vP {κ:Type}{kvs:List (κ × V)}{vs:List (κ × Value)} (r:KV kvs vs):(!vs.isEmpty)=!kvs.isEmpty:=by
 cases r <;> rfl
theorem oF {xs:List V}{its:List Value} (r:Vals xs its):(!its.toArray.isEmpty)=!xs.isEmpty:=by
 cases r <;> simp
theorem mS:(sizeLine:Nat) < 2 ^ 63:=by rw [sizeLine_eq];decide
inductive uf (K:W.Frag) (x:V) (H:Hp) (Q:Bool->Hp->Prop):Prop
 | mk (k:Bool) (h:FT K x H k) (q:Q k H):uf K x H Q
theorem DX:FC X (uf X.K):=by
 intro pins s σ H x v Q I rx h
 obtain ⟨k,e,q⟩:=h
 have hl:=mS
 have hs:sizeLine=16777216:=sizeLine_eq
 cases x with
 | non =>
  cases rx
  have e':k=false:=e
  subst e'
  exact truthy_none ⟨H,I,q⟩
 | bl b =>
  cases rx
  have e':k=b:=e
  subst e'
  exact wpAny_truthy_bool ⟨H,I,q⟩
 | int i =>
  obtain ⟨t,rfl⟩:=rx
  have e':k=(i != 0):=e
  subst e'
  exact PySem.P.truthy_int ⟨H,I,q⟩
 | str y =>
  obtain ⟨t,rfl⟩:=rx
  obtain ⟨hy,e'⟩:y.length <= sizeLine/\k=((y.length:Int) != 0):=e
  subst e'
  exact PySem.P.truthy_str (by omega) ⟨H,I.tok _,q⟩
 | byt y =>
  obtain ⟨t,rfl⟩:=rx
  obtain ⟨hy,e'⟩:y.size <= sizeLine/\k=((y.size:Int) != 0):=e
  subst e'
  exact W.truthy_bytes (by omega) ⟨H,I.tok _,q⟩
 | ref p =>
  cases rx
  have e':(∃xs,SqL X.K H p xs/\k=!xs.isEmpty) \/ (∃xs,SqT X.K H p xs/\k=!xs.isEmpty) \/ ∃kvs,H p=some (.dK kvs)/\k=!kvs.isEmpty:=e
  rcases e' with ⟨xs,hx,e'⟩ | ⟨xs,hx,e'⟩ | ⟨kvs,hx,e'⟩
  ·subst e'
   obtain ⟨its,r,pl,hz⟩:=I.list hx
   have hlen:=r.length
   exact wpAny_truthy_list pl.isList (by simp only [List.size_toArray];omega) ⟨H,I.tok _,by rw [oF r];exact q⟩
  ·subst e'
   obtain ⟨its,r,pl,hz⟩:=I.tuple hx
   have hlen:=r.length
   exact truthy_tuple pl (by simp only [List.size_toArray];omega) ⟨H,I.tok _,by rw [oF r];exact q⟩
  ·subst e'
   obtain ⟨hz,hS,vs,r,m⟩:kvs.length <= sizeLine/\(p == sysModules)=false/\∃vs,KV kvs vs/\s.heap.DictOf (bJ X.prog X.w) p vs:=I.hok p _ hx
   have hlen:kvs.length=vs.length:=Paired.length r
   exact wpAny_truthy_dict hS m (by omega) ⟨H,I.tok _,by rw [vP r];exact q⟩
 | _=>exact (show False from e).elim
theorem zy (ha:PE X a ta) (he:∀whole,isTrue a X.env whole=(do let v <- whole;standAt a.pos;holding [v] (truthy v))) :
  PT X a (fun σ H Q=>ta σ H fun x H'=>uf X.K x H' Q):=by
 intro pins s σ H Q I h
 exact isTrue_plain (thn (ha pins s σ H _ I h) fun v s1 ⟨x,H1,I1,r1,q1⟩=>DX pins s1 σ H1 x v Q I1 r1 q1) (he _)
theorem vS:OpR X (binaryOp .Add) (fun x y H Q=>∃i j,x=.str i/\y=.str j/\i.length + j.length <= sizeLine/\Q (.str (i ++ j)) H):=by
 intro pins s σ H x y v u Q I rx ry h
 obtain ⟨i,j,rfl,rfl,hz,q⟩:=h
 obtain ⟨t,rfl⟩:=rx
 obtain ⟨t',rfl⟩:=ry
 exact add_str (fun t' tk=>⟨.str (i ++ j),H,I.tok _,⟨_,rfl⟩,q⟩) hz
theorem vals1 {x:V}{us:List Value} (r:Vals [x] us):∃u,us=[u]/\RelV x u:=by
 cases r with
 | cons r1 r2=>cases r2;exact ⟨_,rfl,r1⟩
theorem vals2 {x y:V}{us:List Value} (r:Vals [x,y] us):∃u w',us=[u,w']/\RelV x u/\RelV y w':=by
 cases r with
 | cons r1 r2 =>
  cases r2 with
  | cons r3 r4=>cases r4;exact ⟨_,_,rfl,r1,r3⟩
theorem sY:cO X (.type "str") (fun xs H Q=>∃i,xs=[.int i]/\i.natAbs.log2 < 1920/\Q (.str (toString i)) H):=by
 intro pins s σ H xs us Q I r h
 obtain ⟨i,rfl,hz,q⟩:=h
 obtain ⟨u,rfl,t,rfl⟩:=vals1 r
 exact PySem.P.str_of_int hz ⟨.str _,H,I.tok _,⟨_,rfl⟩,q⟩
def ES (K:W.Frag) (x:V) (H:Hp) (n:Nat):Prop :=
 match x with
 | .str y=>y.length <= sizeLine/\n=y.length
 | .byt y=>y.size <= sizeLine/\n=y.size
 | .ref p=>(∃xs,SqL K H p xs/\n=xs.length) \/ ∃xs,SqT K H p xs/\n=xs.length
 | _=>False
theorem zV:cO X (.builtin "len") (fun xs H Q=>∃x n,xs=[x]/\ES X.K x H n/\Q (.int n) H):=by
 intro pins s σ H xs us Q I r h
 obtain ⟨x,n,rfl,e,q⟩:=h
 obtain ⟨u,rfl,rx⟩:=vals1 r
 have hl:=mS
 have hs:sizeLine=16777216:=sizeLine_eq
 cases x with
 | str y =>
  obtain ⟨t,rfl⟩:=rx
  obtain ⟨hy,e'⟩:y.length <= sizeLine/\n=y.length:=e
  subst e'
  exact len_str (by omega) ⟨.int _,H,I.tok _,⟨_,rfl⟩,q⟩
 | byt y =>
  obtain ⟨t,rfl⟩:=rx
  obtain ⟨hy,e'⟩:y.size <= sizeLine/\n=y.size:=e
  subst e'
  exact W.len_bytes (by omega) ⟨.int _,H,I.tok _,⟨_,rfl⟩,q⟩
 | ref p =>
  cases rx
  have e':(∃xs,SqL X.K H p xs/\n=xs.length) \/ ∃xs,SqT X.K H p xs/\n=xs.length:=e
  rcases e' with ⟨xs,hx,e'⟩ | ⟨xs,hx,e'⟩
  ·subst e'
   obtain ⟨its,r',pl,hz⟩:=I.list hx
   have hlen:=r'.length
   exact Calls.call_len_list pl.isList (by simp only [List.size_toArray];omega) ⟨.int xs.length,H,I.tok _,⟨_,by simp only [List.size_toArray];rw [hlen]⟩,q⟩
  ·subst e'
   obtain ⟨its,r',pl,hz⟩:=I.tuple hx
   have hlen:=r'.length
   exact len_tuple pl (by simp only [List.size_toArray];omega) ⟨.int xs.length,H,I.tok _,⟨_,by simp only [List.size_toArray];rw [hlen]⟩,q⟩
 | _=>exact (show False from e).elim
end
end L2
namespace L2
open PySem PySem.Spec PyProof.Rows
structure vR (h:Heap) (x dx C:Addr) (mA:Str->Option Value):Prop where
 obj:h.get? x=some (W.instObj C dx)
 ns:h.Ns1 dx mA
 ne:dx ≠ x
theorem yo {h:Heap}{dx:Addr}{mA:Str->Option Value} (n:h.Ns1 dx mA):∃od,h.get? dx=some od/\∀name,W.lookIn name od=some (mA name):=by
 obtain ⟨o,es,ep,ho,hd,hk,_,hm⟩:=n
 refine ⟨o,ho,fun name=>?_⟩
 have e:=hm name
 unfold nsFind findBy at e
 rw [<- Array.find?_toList] at e
 unfold W.lookIn
 rw [hd]
 dsimp only
 split
 ·rename_i y q
  rw [q] at e
  exact congrArg some e
 ·rename_i q
  rw [q] at e
  have a:es.toList.any (·.refKey)=false:=by
   rw [List.any_eq_false]
   intro y hy
   obtain ⟨z,t,hkey⟩:=hk y (Array.mem_toList_iff.mp hy)
   simp [DictEntry.refKey,hkey]
  have a':¬ es.toList.any (·.refKey)=true:=by rw [a];exact Bool.false_ne_true
  rw [if_neg a']
  exact congrArg some e
theorem vR.look {h:Heap}{x dx C:Addr}{mA:Str->Option Value} (I:vR h x dx C mA):∃od,W.InstAt h x (W.instObj C dx) C (some od)/\∀name,W.lookIn name od=some (mA name) :=
 let ⟨od,ho,hl⟩:=yo I.ns
 ⟨od,⟨I.obj,rfl,rfl,ho⟩,hl⟩
section
variable {prog:Program}{w:World}{A:Around}{E:Value->Shared->Prop}{s:Shared}{K:W.Frag}{x dx C f:Addr}{mA:Str->Option Value}{name:Str}{v:Value}
theorem get_map {expr:Bool}{Q:Value->Shared->Prop} (X:K.In s.heap) (I:vR s.heap x dx C mA) (hg:W.plainGet K C name=true) (hh:W.hasDictIn K C=true)
  (ha:W.findIn K (.ref C) name=some none) (hv:mA name=some v) (hv':W.handedIn v=true) (h:Q v { s with toks:=s.toks + 1 }) :
  wpAny (model prog w) A (getAttr (.ref x) name expr) Q E s:=by
 obtain ⟨od,J,hl⟩:=I.look
 exact W.get_value X J (W.plainGet_of hg).1 (W.findObj_own hh ha rfl (by rw [hl,hv])) hv' h
theorem zx {pl:Sem Bool}{Q:Value × List Value->Shared->Prop} (X:K.In s.heap) (I:vR s.heap x dx C mA) (hg:W.plainGet K C name=true)
  (hf:W.findIn K (.ref C) name=some (some (.ref f))) (ht:W.isFn K (.ref f)=true) (hv:mA name=none) (h:Q (.ref f,[.ref x]) s) :
  wpAny (model prog w) A (getMethod (.ref x) name pl) Q E s:=by
 obtain ⟨od,J,hl⟩:=I.look
 exact W.method_fn X J (W.plainGet_of hg).1 (W.plainGet_of hg).2 hf (beq_iff_eq.mp ht) (by show (W.lookIn name od).map (·.isSome)=some false;rw [hl,hv];rfl) h
theorem Bb {ns:List Str}{Q:Unit->Shared->Prop} (X:K.In s.heap) (I:vR s.heap x dx C mA)
  (hs:W.findIn K (.ref C) "__setattr__"=some (some (.builtin "object.__setattr__"))) (hp:W.plainOver K C=true) (ht:W.takerIn K C name=some none) (hh:W.hasDictIn K C=true)
  (hw:PySem.Within mA ns) (hsz:ns.length <= sizeLine)
  (h:∀h',vR h' x dx C (fun y=>if y=name then some v else mA y)->Heap.SameBut dx s.heap h'->Q () { s with heap:=h',toks:=s.toks + 2 }) :
  wpAny (model prog w) A (setAttr (.ref x) name v) Q E s:=by
 obtain ⟨od,J,hl⟩:=I.look
 refine W.set_plain X J hs (W.osa_open (s:={ s with toks:=s.toks + 1 }) (r:=none) X J hp ht fun b=>?_)
 obtain ⟨cd,hc,hd'⟩:=W.any_some hh
 have hx:s.heap.get? x=some ⟨.ref C,some dx,.plain,#[]⟩:=I.obj
 refine wpAny_bind (wpAny_pure (wpAny_bind (wpAny_bind (wpAny_loadPart hx (wpAny_bind (W.Looks.here (s:={ s with toks:=s.toks + 1 }) (W.looks_clsIn X hc) ?_))))))
 rw [hd']
 refine wpAny_pure (a:=some dx) (wpAny_bind (wpAny_pure (wpAny_bind ?_)))
 refine wpAny_nsSet1 (s:={ s with toks:=s.toks + 1 }) I.ns fun h' hn2 hs2=>?_
 obtain ⟨oD,esD,epD,hoD,hdD,hcD⟩:=hn2.count (PySem.Within.cons name v hw)
 refine wpAny_bind (wpAny_lookBehind hoD (by rw [hdD];exact pastItsLine_dict (Nat.le_trans hcD (by rw [List.length_cons];omega))) ?_)
 exact wpAny_pure (h _ ⟨(hs2.2 _ (Ne.symm I.ne)).trans I.obj,hn2,I.ne⟩ hs2)
theorem Au {R:Result->Shared->Prop}{vs:List Value}{kw:List (Str × Value)} (X:K.In s.heap) (hm:W.makesIn K C=true)
  (hi:W.findIn K (.ref C) "__init__"=some (some (.ref f))) (hf:W.typeIn K (.ref f)=some (.type "function"))
  (h:codeAny (model prog w) (A.under (.builtin "type.__call__" ⟨.ref C :: vs,kw⟩)) (.call (.ref f) ⟨.ref (s.heap.objs.size + 1) :: vs,kw⟩) (W.InitBack (s.heap.objs.size + 1) R)
   { s with heap:=(s.heap.push W.emptyDict).push (W.instObj C s.heap.objs.size) }) :
  codeAny (model prog w) A (.call (.ref C) ⟨vs,kw⟩) R s:=by
 obtain ⟨hh,g,d,t,os⟩:=s
 exact W.make_core (W.makes_of X hm) (W.looks_findIn X hi) (fun self=>W.bind_fn X self hf) (.inl rfl) h
end
def fS (f:Str) (v:V):List (Str × V)->List (Str × V)
 | []=>[(f,v)]
 | (g,x) :: r=>if g=f then (g,v) :: r else (g,x) :: fS f v r
theorem nv (f g:Str) (v:V):∀fs:List (Str × V),(fS f v fs).lookup g=if g=f then some v else fs.lookup g
 | []=>by
  show List.lookup g [(f,v)]=_
  by_cases h:g=f
  ·have hb:(g == f)=true:=beq_iff_eq.mpr h
   simp only [List.lookup,hb,if_pos h]
  ·have hb:(g == f)=false:=beq_eq_false_iff_ne.mpr h
   simp only [List.lookup,hb,if_neg h]
 | (k,x) :: r=>by
  have ih:=nv f g v r
  rw [show fS f v ((k,x) :: r)=(if k=f then (k,v) :: r else (k,x) :: fS f v r) from rfl]
  by_cases hk:k=f
  ·rw [if_pos hk]
   by_cases h:g=k
   ·have hb:(g == k)=true:=beq_iff_eq.mpr h
    simp only [List.lookup,hb,if_pos (h.trans hk)]
   ·have hb:(g == k)=false:=beq_eq_false_iff_ne.mpr h
    simp only [List.lookup,hb,if_neg (fun e:g=f=>h (e.trans hk.symm))]
  ·rw [if_neg hk]
   by_cases h:g=k
   ·have hb:(g == k)=true:=beq_iff_eq.mpr h
    simp only [List.lookup,hb,if_neg (fun e:g=f=>hk (h.symm.trans e))]
   ·have hb:(g == k)=false:=beq_eq_false_iff_ne.mpr h
    simp only [List.lookup,hb]
    exact ih
theorem mI (f:Str) (v:V):∀fs:List (Str × V),f ∈ (fS f v fs).map (·.1)/\∀g,g ∈ fs.map (·.1)->g ∈ (fS f v fs).map (·.1)
 | []=>⟨by simp [fS],fun g h=>by simp at h⟩
 | (k,x) :: r=>by
  obtain ⟨i1,i2⟩:=mI f v r
  rw [show fS f v ((k,x) :: r)=(if k=f then (k,v) :: r else (k,x) :: fS f v r) from rfl]
  by_cases hk:k=f
  ·rw [if_pos hk]
   subst hk
   exact ⟨by simp,fun g h=>by simpa using h⟩
  ·rw [if_neg hk]
   refine ⟨?_,fun g h=>?_⟩
   ·rw [List.map_cons]
    exact List.mem_cons_of_mem _ i1
   ·rw [List.map_cons] at h ⊢
    rcases List.mem_cons.mp h with e | e
    ·exact List.mem_cons.mpr (.inl e)
    ·exact List.mem_cons_of_mem _ (i2 g e)
theorem nq (f:Str) (v:V):∀fs:List (Str × V),(fS f v fs).length <= fs.length + 1
 | []=>by simp [fS]
 | (k,x) :: r=>by
  have ih:=nq f v r
  rw [show fS f v ((k,x) :: r)=(if k=f then (k,v) :: r else (k,x) :: fS f v r) from rfl]
  by_cases hk:k=f
  ·rw [if_pos hk,List.length_cons,List.length_cons];omega
  ·rw [if_neg hk,List.length_cons,List.length_cons];omega
theorem kb.some_of {v:V}{o:Option Value} (r:kb (some v) o):∃u,o=some u/\RelV v u:=by
 cases o with
 | none=>exact (show False from r).elim
 | some u=>exact ⟨u,rfl,r⟩
theorem kb.none_of {o:Option Value} (r:kb none o):o=none:=by
 cases o with
 | none=>rfl
 | some u=>exact (show False from r).elim
theorem xZ {v:V}{u:Value} (r:RelV v u):W.handedIn u=true:=by
 cases v with
 | non=>cases (show u=Value.none from r);rfl
 | bl b=>cases (show u=Value.bool b from r);rfl
 | int i=>obtain ⟨t,e⟩:=(show ∃t,u=Value.int i t from r);cases e;rfl
 | str x=>obtain ⟨t,e⟩:=(show ∃t,u=Value.str x t from r);cases e;rfl
 | byt b=>obtain ⟨t,e⟩:=(show ∃t,u=Value.bytes b t from r);cases e;rfl
 | flt b=>obtain ⟨t,e⟩:=(show ∃t,u=Value.float b t from r);cases e;rfl
 | ref a=>cases (show u=Value.ref a from r);rfl
 | ty n=>cases (show u=Value.type n from r);rfl
section
variable {P:Program}{w:World}{H H':Hp}{h h':Heap}{a C dx:Addr}{fs fs':List (Str × V)}
theorem og (hok:HOk P w H h) (e:H a=some (.ins C dx fs)):∃mA,vR h a dx C mA/\(∀f,kb (fs.lookup f) (mA f))/\PySem.Within mA (fs.map (·.1))/\fs.length <= 1000/\H dx=some (.own a):=by
 obtain ⟨d,z,ne,ob,mA,n,r,q⟩:=(show bW P w H h a (.ins C dx fs) from hok a _ e)
 exact ⟨mA,⟨ob,n,ne⟩,r,q,z,d⟩
end
structure Cls (K:W.Frag) (C:Addr):Prop where
 pg:W.plainGet K C Str.empty=true
 hd:W.hasDictIn K C=true
 po:W.plainOver K C=true
 sa:W.findIn K (.ref C) "__setattr__"=some (some (.builtin "object.__setattr__"))
theorem Cls.get {K:W.Frag}{C:Addr} (c:Cls K C) (f:Str):W.plainGet K C f=true:=c.pg
def aF (K:W.Frag) (C:Addr) (f:Str):Prop:=W.findIn K (.ref C) f=some none
theorem aF.EO {K:W.Frag}{C:Addr}{f:Str} (n:aF K C f):W.takerIn K C f=some none:=by
 unfold W.takerIn
 rw [show W.findIn K (.ref C) f=some none from n]
 rfl
structure Con (K:W.Frag) (C:Addr) (f:Str) (v:V) (u:Value):Prop where
 at_:W.findIn K (.ref C) f=some (some u)
 rel:RelV v u
 get:W.specialIn K u "__get__"=some none
 cp:W.copiedNames.contains f=false
structure Meth (K:W.Frag) (C:Addr) (m:Str) (f:Addr):Prop where
 at_:W.findIn K (.ref C) m=some (some (.ref f))
 fn:W.isFn K (.ref f)=true
 kp:W.keepIn K (.ref f)=true
section
variable {X:Cx}{pins:List (Addr × Obj)}{σ:St}{H:Hp}{s:Shared}{a C dx:Addr}{fs:List (Str × V)}{f:Str}{v:V}{A:Around}{E:Value->Shared->Prop}
theorem vk {b:Bool}{Q:Value->Shared->Prop} (I:Inv X pins σ H s) (e:H a=some (.ins C dx fs)) (c:Cls X.K C) (n:aF X.K C f) (l:fs.lookup f=some v)
  (h:∀u s',Inv X pins σ H s'->RelV v u->Q u s'):wpAny (model X.prog X.w) A (getAttr (.ref a) f b) Q E s:=by
 obtain ⟨mA,O,r,_,_,_⟩:=og I.hok e
 obtain ⟨u,hu,ru⟩:=kb.some_of (v:=v) (o:=mA f) (by rw [<- l];exact r f)
 exact get_map I.kIn O (c.get f) c.hd n hu (xZ ru) (h u _ (I.tok _) ru)
theorem vO {m:Str}{g:Addr}{pl:Sem Bool}{Q:Value × List Value->Shared->Prop} (I:Inv X pins σ H s) (e:H a=some (.ins C dx fs)) (c:Cls X.K C) (k:Meth X.K C m g) (l:fs.lookup m=none)
  (h:Q (.ref g,[.ref a]) s):wpAny (model X.prog X.w) A (getMethod (.ref a) m pl) Q E s:=by
 obtain ⟨mA,O,r,_,_,_⟩:=og I.hok e
 have hn:mA m=none:=kb.none_of (by rw [<- l];exact r m)
 exact zx I.kIn O (c.get m) k.at_ k.fn hn h
theorem vJ {y:V}{u:Value}{Q:Unit->Shared->Prop} (I:Inv X pins σ H s) (e:H a=some (.ins C dx fs)) (c:Cls X.K C) (n:aF X.K C f) (hl:fs.length < 1000) (ry:RelV y u)
  (h:∀s',Inv X pins σ (upd H a (.ins C dx (fS f y fs))) s'->Q () s'):wpAny (model X.prog X.w) A (setAttr (.ref a) f u) Q E s:=by
 obtain ⟨mA,O,r,wi,_,ho⟩:=og I.hok e
 have hz:(fs.map (·.1)).length <= sizeLine:=by rw [List.length_map,sizeLine_eq];omega
 refine Bb I.kIn O c.sa c.po n.EO c.hd wi hz fun h' O' sb=>h _ ?_
 have hd:∃o,h'.get? dx=some o:=let ⟨o,_,_,e',_⟩:=O'.ns;⟨o,e'⟩
 refine I.write (x:=a) (e:=dx) (by rw [e];exact True.intro) (.inr ho) (fun b q hb z=>(sb.2 b hb).trans z) hd ?_
 refine ⟨by rw [aQ O.ne];exact ho,?_,O.ne,O'.obj,_,O'.ns,fun g=>?_,fun g hg=>?_⟩
 ·have:=nq f y fs;omega
 ·show kb ((fS f y fs).lookup g) (if g=f then some u else mA g)
  rw [nv]
  by_cases q:g=f
  ·rw [if_pos q,if_pos q];exact ry
  ·rw [if_neg q,if_neg q];exact r g
 ·by_cases q:g=f
  ·rw [q];exact (mI f y fs).1
  ·refine (mI f y fs).2 g (wi g fun z=>hg ?_)
   show (if g=f then some u else mA g)=none
   rw [if_neg q];exact z
theorem Inv.made (I:Inv X pins σ H s):Inv X pins σ (upd (upd H s.heap.objs.size (.own (s.heap.objs.size + 1))) (s.heap.objs.size + 1) (.ins C s.heap.objs.size []))
  { s with heap:=(s.heap.push W.emptyDict).push (W.instObj C s.heap.objs.size) }:=by
 have e1:(s.heap.push W.emptyDict).get? s.heap.objs.size=some W.emptyDict:=Heap.get?_push_size s.heap rfl
 have e2:((s.heap.push W.emptyDict).push (W.instObj C s.heap.objs.size)).get? (s.heap.objs.size + 1)=some (W.instObj C s.heap.objs.size):=by
  have:=Heap.get?_push_size (s.heap.push W.emptyDict) (o:=W.instObj C s.heap.objs.size) rfl
  rwa [Heap.size_push] at this
 have e3:(s.heap.push W.emptyDict).Ns s.heap.objs.size (fun _=>none):=⟨W.emptyDict,#[],_,e1,rfl,(fun e he=>absurd he (by simp)),fun _=>rfl⟩
 have I1:=I.laid (a:=s.heap.objs.size) (o:=.own (s.heap.objs.size + 1)) (h':=s.heap.push W.emptyDict) (t':=s.toks) (fun b u q=>Heap.get?_push_of_some _ q) (Nat.le_refl _) ⟨_,e1⟩
 refine I1.laid (a:=s.heap.objs.size + 1) (o:=.ins C s.heap.objs.size []) (t':=s.toks) (fun b u q=>Heap.get?_push_of_some _ q) (Nat.le_of_eq (Heap.size_push _ _)) ?_
 have ne:s.heap.objs.size ≠ s.heap.objs.size + 1:=Nat.ne_of_lt (Nat.lt_succ_self _)
 refine ⟨by rw [aQ ne,ao],Nat.zero_le _,ne,e2,fun _=>none,(Heap.Ns1.of_empty e3).at fun o q=>Heap.get?_push_of_some _ q,fun _=>True.intro,fun y hy=>absurd rfl hy⟩
theorem Bt {prog:Program}{w:World}{env:Env}{e:Expr}{f:Str}{pos:Pos}{s:Shared}{Q:Value->Shared->Prop} (hb:attributeBase e f env (eval e env)=eval e env)
  (h:wpAny (model prog w) A (eval e env) (fun o s₁=>wpAny (model prog w) A (getAttr o f true) Q E s₁) E s):wpAny (model prog w) A (eval (.Attribute e f pos) env) Q E s :=
 Attribute_any_ h (by rw [arm_eval_Attribute,hb])
end
inductive qh (K:W.Frag) (f:Str) (x:V) (H:Hp) (Q:VK):Prop
 | mk (a C dx:Addr) (fs:List (Str × V)) (v:V) (h0:x=.ref a) (h1:H a=some (.ins C dx fs)) (h2:Cls K C) (h3:aF K C f) (h4:fs.lookup f=some v) (q:Q v H):qh K f x H Q
def FI (K:W.Frag) (ta:TE) (f:Str):TE:=fun σ H Q=>ta σ H fun x H1=>qh K f x H1 Q
inductive CA (K:W.Frag) (f:Str) (y x:V) (H:Hp) (Q:Hp->Prop):Prop
 | mk (a C dx:Addr) (fs:List (Str × V)) (h0:x=.ref a) (h1:H a=some (.ins C dx fs)) (h2:Cls K C) (h3:aF K C f) (h4:fs.length < 1000) (q:Q (upd H a (.ins C dx (fS f y fs)))):CA K f y x H Q
def FV (K:W.Frag) (ta tv:TE) (f:Str):TS:=fun D σ H=>tv σ H fun y H1=>ta σ H1 fun x H2=>CA K f y x H2 (D.nx σ)
section
variable {X:Cx}{o e value:Expr}{f:Str}{pos pos' tpos:Pos}{ta tv:TE}
theorem aJ (he:PE X e ta) (hb:attributeBase e f X.env (eval e X.env)=eval e X.env):PE X (.Attribute e f pos) (FI X.K ta f):=by
 intro pins s σ H Q I h
 refine Bt hb (thn (he pins s σ H _ I h) fun u s1 ⟨x,H1,I1,rx,a,C,dx,fs,v,ex,ea,c,n,l,q⟩=>?_)
 subst ex
 obtain rfl:u=Value.ref a:=rx
 exact vk I1 ea c n l fun u' s2 I2 ru=>⟨v,H1,I2,ru,q⟩
theorem aS (ha:PE X o ta) (hv:PE X value tv) (hs:swapsWith value (some (.Attribute o f pos')) pos.line X.env=pure false):PS X (.Assign [.Attribute o f pos'] value pos) (FV X.K ta tv f):=by
 intro pins s σ H D I h
 refine plainObj_wpAny_Assign_Attribute (thn (hv pins s σ H _ I h) fun u s1 ⟨y,H1,I1,ry,q⟩=>thn (ha pins s1 σ H1 _ I1 q) fun ov s2 ⟨x,H2,I2,rx,a,C,dx,fs,ex,ea,c,n,l,q2⟩=>?_) hs
 subst ex
 obtain rfl:ov=Value.ref a:=rx
 exact vJ I2 ea c n l ry fun s3 I3=>⟨σ,_,I3,q2⟩
end
section
variable {X:Cx}{pins:List (Addr × Obj)}{σ:St}{H:Hp}{s:Shared}{A:Around}{E:Value->Shared->Prop}{Q:Value->Shared->Prop}{c:Value}{b:Bool}
inductive kJ (K:W.Frag) (H:Hp):V->Value->Prop where
 | non:kJ K H .non (.type "NoneType")
 | bl (x:Bool):kJ K H (.bl x) (.type "bool")
 | int (i:Int):kJ K H (.int i) (.type "int")
 | str (x:Str):kJ K H (.str x) (.type "str")
 | flt (x:UInt64):kJ K H (.flt x) (.type "float")
 | lst {a:Addr}{xs:List V} (e:H a=some (.lst xs)):kJ K H (.ref a) (.type "list")
 | frz {a:Addr}{o:Obj}{xs:List V} (e:H a=some (.frz o (.lst xs))):kJ K H (.ref a) (.type "list")
 | tup {a:Addr}{xs:List V} (e:H a=some (.tup xs)):kJ K H (.ref a) (.type "tuple")
 | dK {a:Addr}{kvs:List (Key × V)} (e:H a=some (.dK kvs)):kJ K H (.ref a) (.type "dict")
 | dT {a:Addr}{kvs:List (List Key × V)} (e:H a=some (.dT kvs)):kJ K H (.ref a) (.type "dict")
 | ins {a C dx:Addr}{fs:List (Str × V)} (e:H a=some (.ins C dx fs)) (cl:Cls K C) (ha:W.findIn K (.ref C) "__class__"=some (some (.builtin "object.__class__")))
   (hn:W.specialIn K (.builtin "object.__class__") "__get__"=some (some (.builtin "getset_descriptor.__get__"))) (htk:W.takesIn K (.builtin "object.__class__")=some true)
   (hm:W.mroIn K C (.type "object")=some true):kJ K H (.ref a) (.ref C)
theorem yj {x:V}{u t:Value} (I:Inv X pins σ H s) (rx:RelV x u) (ty:kJ X.K H x t) (e:W.kitOne X.K t c=some b) (h:∀tk,Q (.bool b) { s with toks:=tk }) :
  wpAny (model X.prog X.w) A (call (.builtin "isinstance") [u,c]) Q E s:=by
 cases ty with
 | non=>cases (show u=Value.none from rx);exact W.kia_one W.kitx_none I.kIn True.intro e (fun z=>nomatch z) h
 | bl y=>cases (show u=Value.bool y from rx);exact W.kia_one W.kitx_bool I.kIn True.intro e (fun z=>nomatch z) h
 | int i=>obtain ⟨t,q⟩:=(show ∃t,u=Value.int i t from rx);cases q;exact W.kia_one W.kitx_int I.kIn True.intro e (fun z=>nomatch z) h
 | str y=>obtain ⟨t,q⟩:=(show ∃t,u=Value.str y t from rx);cases q;exact W.kia_one W.kitx_str I.kIn True.intro e (fun z=>nomatch z) h
 | flt y=>obtain ⟨t,q⟩:=(show ∃t,u=Value.float y t from rx);cases q;exact W.kia_one W.kitx_float I.kIn True.intro e (fun z=>nomatch z) h
 | @lst a xs ea =>
  cases (show u=Value.ref a from rx)
  obtain ⟨_,_,n,_,h1⟩:=(show bW X.prog X.w H s.heap a (.lst xs) from I.hok a _ ea)
  exact W.kia_one W.kitx_list I.kIn ⟨_,h1,rfl⟩ e (fun z=>nomatch z) h
 | @frz a ob xs ea =>
  cases (show u=Value.ref a from rx)
  obtain ⟨_,_,_,n,_,h1⟩:=(show bW X.prog X.w H s.heap a (.frz ob (.lst xs)) from I.hok a _ ea)
  exact W.kia_one W.kitx_list I.kIn ⟨_,h1,rfl⟩ e (fun z=>nomatch z) h
 | @tup a xs ea =>
  cases (show u=Value.ref a from rx)
  obtain ⟨_,_,_,p⟩:=(show bW X.prog X.w H s.heap a (.tup xs) from I.hok a _ ea)
  obtain ⟨o,h1,h2,_⟩:=p
  exact W.kia_one W.kitx_tuple I.kIn ⟨o,h1,h2⟩ e (fun z=>nomatch z) h
 | @dK a kvs ea =>
  cases (show u=Value.ref a from rx)
  obtain ⟨_,_,vs,_,p⟩:=(show bW X.prog X.w H s.heap a (.dK kvs) from I.hok a _ ea)
  obtain ⟨o,es,ep,h1,h2,_⟩:=p
  exact W.kia_one W.kitx_dict I.kIn ⟨o,h1,h2.1⟩ e (fun z=>nomatch z) h
 | @dT a kvs ea =>
  cases (show u=Value.ref a from rx)
  obtain ⟨_,_,xs,_,o,es,ep,h1,h2,_⟩:=(show bW X.prog X.w H s.heap a (.dT kvs) from I.hok a _ ea)
  exact W.kia_one W.kitx_dict I.kIn ⟨o,h1,h2.1⟩ e (fun z=>nomatch z) h
 | @ins a C dx fs ea cl ha hn htk hm =>
  cases (show u=Value.ref a from rx)
  obtain ⟨mA,O,_⟩:=og I.hok ea
  obtain ⟨od,J,_⟩:=O.look
  exact W.kia_one (W.kitx_own (cl.get _) cl.hd ha hn htk hm) I.kIn J e (fun z=>nomatch z) h
end
end L2
namespace L2
open PySem PySem.Spec PyProof.Rows
structure cZ (k:Nat) (A:Around):Prop where
 hd:A.handled=none
 dp:A.depth + 3 * k + 5 < recursionLimit
 un:A.units + 16 * k + 200 < cLine
theorem cZ.mono {j k:Nat}{A:Around} (r:cZ k A) (h:j <= k):cZ j A:=⟨r.hd,by have:=r.dp;omega,by have:=r.un;omega⟩
theorem cZ.deeper {k:Nat}{A:Around} (r:cZ (k + 1) A) (env:Env):cZ k (A.deeper env) :=
 ⟨r.hd,by have:=r.dp;show A.depth + 1 + 3 * k + 5 < _;omega,by have:=r.un;show A.units + 3 + 16 * k + 200 < _;omega⟩
theorem vd {A:Around}{C:Addr}{us:List Value}{kw:List (Str × Value)}:(A.under (.builtin "type.__call__" ⟨.ref C :: us,kw⟩)).depth=A.depth + 1:=by
 first | rfl | simp [Around.under,Code.weight,Code.isCreation,Code.isGuard,Code.isCaller,Code.frames,Code.isFrame,guardIds]
theorem vC {A:Around}{C:Addr}{us:List Value}{kw:List (Str × Value)}:(A.under (.builtin "type.__call__" ⟨.ref C :: us,kw⟩)).units=A.units + 1:=by
 first | rfl | simp [Around.under,Code.cUnits,Code.frames,Code.isFrame]
theorem cZ.make {k:Nat}{A:Around} (r:cZ (k + 1) A) (C:Addr) (us:List Value) (kw:List (Str × Value)):cZ k (A.under (.builtin "type.__call__" ⟨.ref C :: us,kw⟩)) :=
 ⟨r.hd,by have:=r.dp;rw [vd];omega,by have:=r.un;rw [vC];omega⟩
theorem cZ.depth {k:Nat}{A:Around} (r:cZ k A):A.depth < recursionLimit:=by have:=r.dp;omega
theorem cZ.units {k:Nat}{A:Around} (r:cZ k A):A.units + 64 < cLine:=by have:=r.un;omega
def Em:TA:=fun _ H Q=>Q [] H
def EJ (ta:TE) (tr:TA):TA:=fun σ H Q=>ta σ H fun x H1=>tr σ H1 fun xs H2=>Q (x :: xs) H2
section
variable {X:Cx}{e:Expr}{es:List Expr}{te:TE}{t:TA}{pos:Pos}
theorem ab:PA X [] Em:=fun _ _ _ _ H Q I h=>Calls.spliced_nil ⟨[],H,I,.nil,h⟩
theorem aa (ha:PE X e te) (hr:PA X es t) (hs:starEach (e :: es) X.env=(false,eval e X.env) :: starEach es X.env:=by rfl):PA X (e :: es) (EJ te t):=by
 intro pos pins s σ H Q I h
 rw [hs]
 show wpAny _ _ (spliced ((false,eval e X.env) :: backTo pos (starEach es X.env))) _ _ s
 refine Calls.spliced_cons (thn (ha pins s σ H _ I h) fun u s1 ⟨x,H1,I1,r1,q1⟩=>?_)
 exact thn (hr pos pins s1 σ H1 _ I1 q1) fun us s2 ⟨xs,H2,I2,r2,q2⟩=>⟨x :: xs,H2,I2,.cons r1 r2,q2⟩
def Ga (t:TA):TE:=fun σ H Q=>t σ H fun xs H1=>xs.length <= sizeLine/\∀p,H1 p=none->Q (.ref p) (upd H1 p (.tup xs))
def Gk (t:TA):TE:=fun σ H Q=>t σ H fun xs H1=>xs.length <= sizeLine/\∀p,H1 p=none->Q (.ref p) (upd H1 p (.lst xs))
theorem aI {x1} (h:PA X es t):PE X (.Tuple es x1 pos) (Ga t):=by
 intro pins s σ H Q I hq
 refine wpAny_Tuple_spliced (thn (h pos pins s σ H _ I hq) fun us s1 ⟨xs,H1,I1,r,z,q⟩=>⟨by rw [<- r.length];exact z,?_⟩)
 have hf:H1 s1.heap.objs.size=none:=I1.hok.fresh (Nat.le_refl _)
 refine ⟨.ref s1.heap.objs.size,upd H1 s1.heap.objs.size (.tup xs),I1.laid (t':=s1.toks) (fun b u e=>Heap.get?_push_of_some _ e) (Nat.le_refl _) ?_,rfl,q _ hf⟩
 exact ⟨z,us,r,⟨_,Heap.get?_push_size _ rfl,rfl,_,rfl⟩⟩
theorem aC (h:PA X es t):PE X (.List es pos) (Gk t):=by
 intro pins s σ H Q I hq
 refine wpAny_List_spliced (thn (h pos pins s σ H _ I hq) fun us s1 ⟨xs,H1,I1,r,z,q⟩=>⟨by rw [<- r.length];exact z,?_⟩)
 have hf:H1 s1.heap.objs.size=none:=I1.hok.fresh (Nat.le_refl _)
 refine ⟨.ref s1.heap.objs.size,upd H1 s1.heap.objs.size (.lst xs),I1.laid (t':=s1.toks) (fun b u e=>Heap.get?_push_of_some _ e) (Nat.le_refl _) ?_,rfl,q _ hf⟩
 exact ⟨z,us,0,r,Heap.get?_push_size _ rfl⟩
end
abbrev Sp:=List V->Hp->VK->XK->Prop
abbrev CXT:=List Env->Hp->Shared->XK->Value->Shared->Prop
structure vQ (P:Program) (w:World) (K:W.Frag) (mg:Str->Option Value) (base:Heap) (A:Around) (outer:List Env) (s:Shared) (H:Hp):Prop where
 frames:A.frames=some outer
 mod:Mod K mg base
 bs:∀b o,base.get? b=some o->s.heap.get? b=some o/\H b=none
 bsz:base.objs.size <= s.heap.objs.size
 nL:s.heap.FunFrames base outer
 frf:∀b ∈ frs outer,H b=none
 hok:HOk P w H s.heap
 bare:AllBare s.gens
def CE (outer:List Env) (P:Program) (w:World) (H:Hp) (s:Shared) (Q:VK) (u:Value) (s':Shared):Prop :=
 ∃v H',s'.os=s.os/\AllBare s'.gens/\Un (frs outer) [] H H' s.heap s'.heap/\HOk P w H' s'.heap/\RelV v u/\Q v H'
def CR (CX:CXT) (outer:List Env) (P:Program) (w:World) (H:Hp) (s:Shared) (Q:VK) (E:XK) (r:Result) (s':Shared):Prop :=
 match r with
 | .ok (.ret u)=>CE outer P w H s Q u s'
 | .ok _=>False
 | .error e=>CX outer H s E e s'
structure lM (P:Program) (w:World) (K:W.Frag) (mg:Str->Option Value) (base:Heap) (CX:CXT) (k:Nat) (f:Addr) (fd:FuncData) (ps:List Str) (sp:Sp):Prop where
 len:∀vs H Q E,sp vs H Q E->vs.length=ps.length
 run:∀(A:Around) (outer:List Env) (s:Shared) (H:Hp) (args:Args) (us:List Value) (vs:List V) (Q:VK) (E:XK),cZ k A->vQ P w K mg base A outer s H->BindsTo s fd args (ps.zip us)->Vals vs us->sp vs H Q E ->
  codeAny (model P w) A (.call (.ref f) args) (CR CX outer P w H s Q E) s
theorem vQ.make {P:Program}{w:World}{K:W.Frag}{mg:Str->Option Value}{base:Heap}{A:Around}{outer:List Env}{s:Shared}{H:Hp} (e:vQ P w K mg base A outer s H) (C:Addr) (us:List Value) (kw:List (Str × Value)) :
  vQ P w K mg base (A.under (.builtin "type.__call__" ⟨.ref C :: us,kw⟩)) outer s H:=⟨by first | exact e.frames | (simpa [Around.under,Code.envs,Code.isFrame,pushEnvs] using e.frames),e.mod,e.bs,e.bsz,e.nL,e.frf,e.hok,e.bare⟩
section
variable {X:Cx}{pins:List (Addr × Obj)}{σ:St}{H:Hp}{s s':Shared}
theorem Inv.zp (I:Inv X pins σ H s):vQ X.prog X.w X.K X.mg X.base X.A X.stack s H :=
 ⟨I.ok.frames,I.ok.mod,I.bs,Nat.le_trans I.ok.bsz I.sz,I.stack,I.wm,I.hok,I.bare⟩
theorem Inv.after {Q:VK}{u:Value} (I:Inv X pins σ H s) (h:CE X.stack X.prog X.w H s Q u s'):EP X pins σ Q u s':=by
 obtain ⟨v,H',os,bare,un,hok,r,q⟩:=h
 obtain ⟨hh,g,d,t,os'⟩:=s'
 obtain rfl:os'=s.os:=os
 exact ⟨v,H',I.call (h':=hh) (g':=g) (d':=d) (t':=t) (ch:=[]) un hok bare (fun b z=>absurd z (by simp)),r,q⟩
end
def wR (sp:Sp) (dvs:List V) (E:XK) (t:TA):TE:=fun σ H Q=>t σ H fun vs H1=>sp (vs ++ dvs) H1 Q E
inductive FH (C:Addr) (m:Str) (x:V) (H:Hp) (R:Prop):Prop
 | mk (a dx:Addr) (fs:List (Str × V)) (h0:x=.ref a) (h1:H a=some (.ins C dx fs)) (h2:fs.lookup m=none) (q:R):FH C m x H R
def BR (C:Addr) (sp:Sp) (dvs:List V) (E:XK) (t:TA):TE:=fun σ H Q=>t σ H fun vs H1=>∀x dx,H1 x=none->H1 dx=none->dx ≠ x ->
 sp (.ref x :: (vs ++ dvs)) (upd (upd H1 dx (.own x)) x (.ins C dx [])) (fun v H2=>v=.non/\Q (.ref x) H2) E
def Binds (K:W.Frag) (fd:FuncData) (ps:List Str) (ds:List Value):Prop :=
 ∀(s:Shared) (us:List Value),K.In s.heap->(us ++ ds).length=ps.length->BindsTo s fd ⟨us,[]⟩ (ps.zip (us ++ ds))
theorem Binds.all {K:W.Frag}{fd:FuncData}{ps:List Str} (h:∀us:List Value,us.length=ps.length->bindArgs fd ⟨us,[]⟩=pure (ps.zip us)):Binds K fd ps []:=fun s us _ hl=>by
 rw [List.append_nil] at hl ⊢
 exact .of_eq (h us hl)
def Passes (CX:CXT) (X:Cx) (E:XK):Prop:=∀(pins:List (Addr × Obj)) (σ:St) (H:Hp) (s:Shared) (e:Value) (s':Shared),Inv X pins σ H s->CX X.stack H s E e s'->X.xe e s'
section
variable {X:Cx}{CX:CXT}{k:Nat}{f C:Addr}{fd:FuncData}{ps:List Str}{sp:Sp}{dvs:List V}{ds:List Value}{E:XK}{x m:Str}{p pos apos:Pos}{e o:Expr}{es:List Expr}{ta:TE}{t:TA}
theorem vj {pins:List (Addr × Obj)}{σ:St}{H:Hp}{s:Shared}{Q:VK}{us:List Value}{vs:List V} (F:lM X.prog X.w X.K X.mg X.base CX k f fd ps sp) (hr:cZ k X.A) (hb:Binds X.K fd ps ds) (hd:Vals dvs ds) (hx:Passes CX X E)
  (I:Inv X pins σ H s) (r:Vals vs us) (h:sp (vs ++ dvs) H Q E):wpAny (model X.prog X.w) X.A (call (.ref f) us) (EP X pins σ Q) X.xe s:=by
 have r2:Vals (vs ++ dvs) (us ++ ds):=r.append hd
 have hl:(us ++ ds).length=ps.length:=by rw [<- r2.length];exact F.len _ _ _ _ h
 refine wpAny_call (codeAny_mono (F.run X.A X.stack s H ⟨us,[]⟩ (us ++ ds) (vs ++ dvs) Q E hr I.zp (hb s us I.kIn hl) r2 h) fun r s' hq=>?_)
 cases r with
 | error e=>exact hx pins σ H s e s' I hq
 | ok fl =>
  cases fl with
  | ret u=>exact I.after hq
  | next=>exact False.elim hq
  | brk=>exact False.elim hq
  | cont=>exact False.elim hq
theorem w6 (F:lM X.prog X.w X.K X.mg X.base CX k f fd ps sp) (hr:cZ k X.A) (hg:Gl X x) (hm:X.mg x=some (.ref f)) (hk:W.keepIn X.K (.ref f)=true) (hb:Binds X.K fd ps ds) (hd:Vals dvs ds) (hx:Passes CX X E)
  (ha:PA X (e :: es) t) (hdb:(x == ("__debug__":Str))=false:=by decide) (he:starEach (e :: es) X.env=(false,eval e X.env) :: starEach es X.env:=by rfl) (hpl:(backTo pos (starEach es X.env)).any (·.1)=false:=by rfl) :
  PE X (.Call (.Name x p) (e :: es) [] pos) (wR sp dvs E t):=by
 intro pins s σ H Q I h
 refine wpAny_Call_Name_kw (oE I hg hm ?_ hdb)
 refine W.callWith_K (h₀:=X.base) I.ok.mod.kin hk (thn (ha pos pins s σ H _ I h) fun us s1 ⟨vs,H1,I1,r,q⟩=>⟨I1.kIn,?_⟩) he hpl
 exact vj F hr hb hd hx I1 r q
structure Mk (K:W.Frag) (C f:Addr):Prop where
 makes:W.makesIn K C=true
 init:W.findIn K (.ref C) "__init__"=some (some (.ref f))
 fn:W.isFn K (.ref f)=true
 kp:W.keepIn K (.ref C)=true
theorem Ak {pins:List (Addr × Obj)}{σ:St}{H:Hp}{s:Shared}{Q:VK}{us:List Value}{vs:List V} (M:Mk X.K C f) (F:lM X.prog X.w X.K X.mg X.base CX k f fd ps sp) (hr:cZ (k + 1) X.A) (hb:Binds X.K fd ps ds) (hd:Vals dvs ds)
  (hx:Passes CX X E) (I:Inv X pins σ H s) (r:Vals vs us)
  (h:∀x dx,H x=none->H dx=none->dx ≠ x->sp (.ref x :: (vs ++ dvs)) (upd (upd H dx (.own x)) x (.ins C dx [])) (fun v H2=>v=.non/\Q (.ref x) H2) E) :
  wpAny (model X.prog X.w) X.A (call (.ref C) us) (EP X pins σ Q) X.xe s:=by
 have hq:=h (s.heap.objs.size + 1) s.heap.objs.size (I.hok.fresh (Nat.le_succ _)) (I.hok.fresh (Nat.le_refl _)) (Nat.ne_of_lt (Nat.lt_succ_self _))
 have I2:=Inv.made (C:=C) I
 have r2:Vals (V.ref (s.heap.objs.size + 1) :: (vs ++ dvs)) (Value.ref (s.heap.objs.size + 1) :: (us ++ ds)):=.cons rfl (r.append hd)
 have hl:(Value.ref (s.heap.objs.size + 1) :: us ++ ds).length=ps.length:=by
  have e:=r2.length
  rw [F.len _ _ _ _ hq] at e
  exact e.symm
 refine wpAny_call (Au (f:=f) I.kIn M.makes M.init (beq_iff_eq.mp M.fn) (codeAny_mono (F.run _ X.stack _ _ ⟨Value.ref (s.heap.objs.size + 1) :: us,[]⟩ (Value.ref (s.heap.objs.size + 1) :: (us ++ ds)) _ _ E (hr.make C us [])
  (I2.zp.make C us []) (hb _ (Value.ref (s.heap.objs.size + 1) :: us) I2.kIn hl) r2 hq) fun r s' hq'=>?_))
 cases r with
 | error e=>exact hx pins σ _ _ e s' I2 hq'
 | ok fl =>
  cases fl with
  | ret u =>
   obtain ⟨v,H',I3,rv,ev,q3⟩:=I2.after hq'
   subst ev
   exact ⟨rv,⟨V.ref (s.heap.objs.size + 1),H',I3,rfl,q3⟩⟩
  | next=>exact False.elim hq'
  | brk=>exact False.elim hq'
  | cont=>exact False.elim hq'
theorem BC (M:Mk X.K C f) (F:lM X.prog X.w X.K X.mg X.base CX k f fd ps sp) (hr:cZ (k + 1) X.A) (hg:Gl X x) (hm:X.mg x=some (.ref C)) (hb:Binds X.K fd ps ds) (hd:Vals dvs ds) (hx:Passes CX X E)
  (ha:PA X (e :: es) t) (hdb:(x == ("__debug__":Str))=false:=by decide) (he:starEach (e :: es) X.env=(false,eval e X.env) :: starEach es X.env:=by rfl) (hpl:(backTo pos (starEach es X.env)).any (·.1)=false:=by rfl) :
  PE X (.Call (.Name x p) (e :: es) [] pos) (BR C sp dvs E t):=by
 intro pins s σ H Q I h
 refine wpAny_Call_Name_kw (oE I hg hm ?_ hdb)
 refine W.callWith_K (h₀:=X.base) I.ok.mod.kin M.kp (thn (ha pos pins s σ H _ I h) fun us s1 ⟨vs,H1,I1,r,q⟩=>⟨I1.kIn,?_⟩) he hpl
 exact Ak M F hr hb hd hx I1 r q
end
section
variable {X:Cx}{CX:CXT}{k:Nat}{f C:Addr}{fd:FuncData}{ps ks:List Str}{sp:Sp}{E:XK}{x m:Str}{p pos apos kpos:Pos}{e o:Expr}{es:List Expr}{kws:List Keyword}{te ta:TE}{t tk:TA}{nm:Option Str}
structure KBinds (K:W.Frag) (fd:FuncData) (ps ks:List Str) (g:List Value->List Value->List Value) (gV:List V->List V->List V):Prop where
 to:∀(s:Shared) (us ws:List Value),K.In s.heap->(g us ws).length=ps.length->BindsTo s fd ⟨us,ks.zip ws⟩ (ps.zip (g us ws))
 rel:∀{vs:List V}{us:List Value}{zs:List V}{ws:List Value},Vals vs us->Vals zs ws->Vals (gV vs zs) (g us ws)
variable {g:List Value->List Value->List Value}{gV:List V->List V->List V}
end
structure az (N P:List Str) (sc:Scope):Prop where
 kind:sc.kind=.function
 co:sc.isCoroutine=false
 gen:sc.isGenerator=false
 nd:N.Nodup
 pre:N.take P.length=P
 par:∀x ∈ P,sc.names.lookup x=some .local \/ sc.names.lookup x=some .cell
 DP:∀y ∈ sc.names,y.2 ≠ .free
theorem qY {kindOf:Str->Option NameKind}{x:Str}:∀{binds:List (Str × Value)}{m:Str->Option Value},(∀v,(x,v) ∉ binds)->bindL kindOf binds m x=m x
 | [],_,_=>rfl
 | (n,v) :: r,m,h=>by
  unfold bindL
  rw [qY fun w hw=>h w (List.mem_cons_of_mem _ hw)]
  split
  ·have:x ≠ n:=by rintro rfl;exact h v List.mem_cons_self
   simp [this]
  ·rfl
theorem qK {kindOf:Str->Option NameKind}{x:Str}:∀{binds:List (Str × Value)}{m:Str->Option Value},(∀v,(x,v) ∉ binds)->bindC kindOf binds m x=m x
 | [],_,_=>rfl
 | (n,v) :: r,m,h=>by
  unfold bindC
  rw [qK fun w hw=>h w (List.mem_cons_of_mem _ hw)]
  split
  ·rfl
  ·have:x ≠ n:=by rintro rfl;exact h v List.mem_cons_self
   simp [this]
theorem rh {kindOf:Str->Option NameKind}{x:Str}{v:Value}:∀{P:List Str}{vs:List Value}{i:Nat}{m:Str->Option Value},P.Nodup->P[i]?=some x->vs[i]?=some v->kindOf x=some .local ->
  bindL kindOf (P.zip vs) m x=some v
 | [],_,_,_,_,h,_,_=>by simp at h
 | _ :: _,[],_,_,_,_,h,_=>by simp at h
 | p :: P,w :: vs,0,m,nd,h1,h2,hk=>by
  simp at h1 h2;subst h1;subst h2
  show bindL kindOf ((p,w) :: P.zip vs) m p=_
  unfold bindL
  rw [qY fun v hv=>(List.nodup_cons.mp nd).1 (List.of_mem_zip hv).1,if_pos hk]
  simp
 | p :: P,w :: vs,i + 1,m,nd,h1,h2,hk=>by
  show bindL kindOf ((p,w) :: P.zip vs) m x=_
  unfold bindL
  exact rh (i:=i) (List.nodup_cons.mp nd).2 (by simpa using h1) (by simpa using h2) hk
theorem qA {kindOf:Str->Option NameKind}{x:Str}{v:Value}:∀{P:List Str}{vs:List Value}{i:Nat}{m:Str->Option Value},P.Nodup->P[i]?=some x->vs[i]?=some v->kindOf x ≠ some .local ->
  bindC kindOf (P.zip vs) m x=some v
 | [],_,_,_,_,h,_,_=>by simp at h
 | _ :: _,[],_,_,_,_,h,_=>by simp at h
 | p :: P,w :: vs,0,m,nd,h1,h2,hk=>by
  simp at h1 h2;subst h1;subst h2
  show bindC kindOf ((p,w) :: P.zip vs) m p=_
  unfold bindC
  rw [qK fun v hv=>(List.nodup_cons.mp nd).1 (List.of_mem_zip hv).1,if_neg hk]
  simp
 | p :: P,w :: vs,i + 1,m,nd,h1,h2,hk=>by
  show bindC kindOf ((p,w) :: P.zip vs) m x=_
  unfold bindC
  exact qA (i:=i) (List.nodup_cons.mp nd).2 (by simpa using h1) (by simpa using h2) hk
def start (N:List Str) (vs:List V):St:=vs.map some ++ List.replicate (N.length - vs.length) none
def rD (CX:CXT) (P:Program) (w:World) (K:W.Frag) (mg:Str->Option Value) (base:Heap) (N:List Str) (qual:Str) (scope:Scope) (f:Addr) (cd:Value) (A:Around) (outer:List Env) (s:Shared) (H:Hp) (E:XK):Cx where
 prog:=P
 w:=w
 K:=K
 mg:=mg
 base:=base
 A:=A.deeper (envOfC qual scope s.heap.objs.size f cd)
 N:=N
 s₀:=s
 H₀:=H
 env:=envOfC qual scope s.heap.objs.size f cd
 outer:=outer
 stack:=envOfC qual scope s.heap.objs.size f cd :: outer
 ex:=[]
 calm:=true
 fn:=fun _=>true
 pn:=[]
 xe:=fun e s'=>wpAny (model P w) (A.deeper (envOfC qual scope s.heap.objs.size f cd)) (leaving (envOfC qual scope s.heap.objs.size f cd) e) (fun _ s''=>CX outer H s E e s'') (fun e' s''=>CX outer H s E e' s'') s'
theorem uu {sc:Scope}{n:Nat}{x:Str} (h:sc.names.lookup x=some .cell):∃c,(cellsFrom n sc.names []).lookup x=some c:=by
 have q:=W.cellsFrom_some sc.names n [] (.inl h)
 exact Option.isSome_iff_exists.mp q
theorem xJ {CX:CXT}{P:Program}{w:World}{K:W.Frag}{mg:Str->Option Value}{base:Heap}{N ps:List Str}{qual:Str}{scope:Scope}{f:Addr}{cd:Value}{A:Around}{outer:List Env}{s s1:Shared}{H:Hp}{E:XK}{us:List Value}{vs:List V}
  (S:az N ps scope) (hd:A.handled=none) (e0:vQ P w K mg base A outer s H) (hl:vs.length=ps.length) (r:Vals vs us)
  (x:InCallC s s.heap.objs.size (bindL (envOfC qual scope s.heap.objs.size f cd).kindOf (ps.zip us) fun _=>none) (cellsFrom (s.heap.objs.size + 1) scope.names []) (bindC (envOfC qual scope s.heap.objs.size f cd).kindOf (ps.zip us) fun _=>none) s1) :
  Inv (rD CX P w K mg base N qual scope f cd A outer s H E) [] (start N vs) H s1:=by
 have hpl:ps.length <= N.length:=by have:=congrArg List.length S.pre;rw [List.length_take] at this;omega
 obtain ⟨h1,tk,rfl,hk⟩:=x.done
 have noA:∀b:Addr,b ∉ (rD CX P w K mg base N qual scope f cd A outer s H E).ex:=fun b z=>absurd (show b ∈ ([]:List Addr) from z) (by simp)
 refine ⟨⟨e0.mod,S.kind,rfl,rfl,Nat.le_refl _,fun y z c h1 h2=>?_,fun y hy=>?_,fun y c _ h=>?_,fun _=>hd,Around.frames_deeper e0.frames,.inr ⟨rfl,rfl⟩,fun b z=>absurd z (noA b),e0.bs,e0.bsz,fun b _ _=>noA b,fun b z=>absurd z (noA b),e0.nL,e0.frf⟩,
  rfl,e0.bare,Un.kept hk,⟨_,x.toInCall.ns,fun i y v h1 h2 h3=>?_⟩,fun y c h=>⟨_,x.cell y c h⟩,e0.hok.fresh (Nat.le_refl _),fun y c h=>?_,fun p hp=>absurd (show p ∈ ([]:List (Addr × Obj)) from hp) (by simp),e0.hok.kept hk,?_⟩
 ·exact name_of_addr x.apart (PySem.mem_of_lookup h1) (PySem.mem_of_lookup h2)
 ·have hy:scope.names.lookup y=some .cell \/ scope.names.lookup y=some .free:=hy
  rcases hy with hy | hy
  ·exact uu hy
  ·exact absurd rfl (S.DP _ (PySem.mem_of_lookup hy))
 ·exact Nat.le_of_lt (x.above y c (PySem.mem_of_lookup h))
 ·have hi:i < vs.length:=by
   unfold start at h2
   by_cases hi:i < vs.length
   ·exact hi
   ·rw [List.getElem?_append_right (by simpa using hi)] at h2
    rw [List.getElem?_replicate] at h2
    split at h2 <;> cases h2
  have ha:vs[i]?=some v:=by
   unfold start at h2
   rw [List.getElem?_append_left (by simpa using hi),List.getElem?_map] at h2
   cases e:vs[i]? with
   | none=>rw [e] at h2;cases h2
   | some a=>rw [e] at h2;cases h2;rfl
  obtain ⟨u,hu,rv⟩:=r.get ha
  have hp:ps[i]?=some y:=by
   rw [<- S.pre,List.getElem?_take_of_lt (by omega)];exact h1
  have ndP:ps.Nodup:=by rw [<- S.pre];exact S.nd.sublist (List.take_sublist _ _)
  refine ⟨u,rv,?_⟩
  rcases S.par y (List.mem_of_getElem? hp) with k | k
  ·exact .inl ⟨k,rh ndP hp hu k⟩
  ·obtain ⟨c,e⟩:=uu (n:=s.heap.objs.size + 1) k
   refine .inr ⟨.inl k,c,e,?_⟩
   have q:=x.cell y c e
   rw [qA ndP hp hu (by show scope.names.lookup y ≠ _;rw [k];decide)] at q
   exact q
 ·exact e0.hok.fresh (Nat.le_of_lt (x.above y c (PySem.mem_of_lookup h)))
 ·unfold start
  show _=N.length
  rw [List.length_append,List.length_map,List.length_replicate]
  omega
theorem Ca {CX:CXT}{P:Program}{w:World}{K:W.Frag}{mg:Str->Option Value}{base:Heap}{k:Nat}{f:Addr}{name qual:Str}{params:Arguments}{body:List Stmt}{scope:Scope}{dV kV doc pm cdv ct oc:Value}{an od:Option Addr}
  {osl:Array (Option Value)}{N ps:List Str}{sp:Sp} (lk:K.lookup f=some ⟨oc,od,.func (W.fnOf name qual params body scope dV kV doc pm an cdv ct),osl⟩) (hcd:W.codeIn K cdv qual=true) (S:az N ps scope)
  (len:∀vs H Q E,sp vs H Q E->vs.length=ps.length)
  (hbody:∀(A:Around) (outer:List Env) (s:Shared) (H:Hp) (vs:List V) (Q:VK) (E:XK),cZ k (A.deeper (envOfC qual scope s.heap.objs.size f cdv))->sp vs H Q E ->
   ∃t,PSs (rD CX P w K mg base N qual scope f cdv A outer s H E) body t/\t { nx:=fun _ H'=>Q .non H',rt:=Q } (start N vs) H) :
  lM P w K mg base CX (k + 1) f (W.fnOf name qual params body scope dV kV doc pm an cdv ct) ps sp:=by
 refine ⟨len,fun A outer s H args us vs Q E hr e0 hb r hsp=>?_⟩
 have hl:=len _ _ _ _ hsp
 have KX:K.In s.heap:=e0.mod.kin.keeps fun b o e=>(e0.bs b o e).1
 have lim:s.heap.NoLimit:=e0.mod.nolimit.keeps fun b o e=>(e0.bs b o e).1
 have hkind:∀y ∈ ps.zip us,scope.names.lookup y.1=some .local \/ (scope.names.lookup y.1=some .cell/\((cellsFrom (s.heap.objs.size + 1) scope.names []).lookup y.1).isSome=true):=fun ⟨n,v⟩ hy=>by
  rcases S.par n (List.of_mem_zip hy).1 with q | q
  ·exact .inl q
  ·exact .inr ⟨q,W.cellsFrom_some _ _ _ (.inl q)⟩
 refine codeAny_call_function hr.depth (KX _ _ lk) rfl S.co S.gen rfl (W.codeRec_of KX hcd) (hb _ _ _ _ ?_)
 refine wpAny_newFunctionEnv_cells S.kind hkind fun env he s1 x=>?_
 subst he
 refine ⟨lim.keeps x.toInCall.keep,codeAny_func ?_⟩
 obtain ⟨t,ht,hq⟩:=hbody A outer s H vs Q E (hr.deeper _) hsp
 have I:Inv (rD CX P w K mg base N qual scope f cdv A outer s H E) [] (start N vs) H s1:=xJ S hr.hd e0 hl r x
 refine wpAny_mono (ht [] s1 (start N vs) H _ I hq) (fun fl s' hs=>?_) fun e s' hs=>hs
 have fin:∀{σ':St}{H':Hp}{v:V}{u:Value},Inv (rD CX P w K mg base N qual scope f cdv A outer s H E) [] σ' H' s'->RelV v u->Q v H'->CE outer P w H s Q u s' :=
  fun {σ' H' v u} J rv q=>⟨v,H',J.os,J.bare,J.base,J.hok,rv,q⟩
 cases fl with
 | ret u =>
  obtain ⟨v,σ',H',J,rv,q⟩:=hs
  exact fin J rv q
 | next =>
  obtain ⟨σ',H',J,q⟩:=hs
  exact fin (v:=V.non) (u:=Value.none) J rfl q
 | brk =>
  obtain ⟨_,_,_,q⟩:=hs
  exact False.elim q
 | cont =>
  obtain ⟨_,_,_,q⟩:=hs
  exact False.elim q
end L2
namespace L2
open PySem PySem.Spec PyProof.Rows
section
variable {X:Cx}{x:Str}{p pos:Pos}{e:Expr}{es:List Expr}{t:TA}{id T:String}{r:List V->Hp->VK->Prop}
def tCB (r:List V->Hp->VK->Prop) (t:TA):TE:=fun σ H Q=>t σ H fun vs H1=>r vs H1 Q
theorem zu (hc:cO X (.builtin id) r) (hg:Gl X x) (hm:X.mg x=none) (hv:bootBuiltins x=some (.builtin id)) (ha:PA X (e :: es) t) (hn:x ≠ "__name__":=by decide) (hdb:(x == ("__debug__":Str))=false:=by decide)
  (he:starEach (e :: es) X.env=(false,eval e X.env) :: starEach es X.env:=by rfl) (hpl:(backTo pos (starEach es X.env)).any (·.1)=false:=by rfl):PE X (.Call (.Name x p) (e :: es) [] pos) (tCB r t):=by
 intro pins s σ H Q I h
 refine wpAny_Call_Name_kw (mE I hg hm hv ?_ hn hdb)
 exact PyProof.Rows.callWith_builtin1 (thn (ha pos pins s σ H _ I h) fun us s1 ⟨vs,H1,I1,r1,q1⟩=>hc pins s1 σ H1 vs us Q I1 r1 q1) he hpl
theorem yh (hc:cO X (.type T) r) (hg:Gl X x) (hm:X.mg x=none) (hv:bootBuiltins x=some (.type T)) (ha:PA X (e :: es) t) (hn:x ≠ "__name__":=by decide) (hdb:(x == ("__debug__":Str))=false:=by decide)
  (he:starEach (e :: es) X.env=(false,eval e X.env) :: starEach es X.env:=by rfl) (hpl:(backTo pos (starEach es X.env)).any (·.1)=false:=by rfl):PE X (.Call (.Name x p) (e :: es) [] pos) (tCB r t):=by
 intro pins s σ H Q I h
 refine wpAny_Call_Name_kw (mE I hg hm hv ?_ hn hdb)
 exact PyProof.Rows.callWith_type1 (thn (ha pos pins s σ H _ I h) fun us s1 ⟨vs,H1,I1,r1,q1⟩=>hc pins s1 σ H1 vs us Q I1 r1 q1) he hpl
end
end L2
namespace HT
open PySem PyProof.Rows
section
open PySem.SeqAt
open PySem.AutoSeq1 (wpAny_loadPart')
open PySem.MeetsSeq PySem.MeetsSeq2 PySem.MeetsSeq3
end
section
variable {prog:Program}{w:World}{A:Around}{E:Value->Shared->Prop}{s:Shared}
def sIx (n d:Nat):Option Int->Nat
 | none=>d
 | some v=>if v < 0 then (v + (n:Int)).toNat else min v.toNat n
theorem Cv (n d:Nat) (hd:d <= n) (o:Option Int):sIx n d o <= n:=by
 cases o with
 | none=>exact hd
 | some v =>
  show (if v < 0 then (v + (n:Int)).toNat else min v.toNat n) <= n
  by_cases hv:v < 0
  ·rw [if_pos hv];omega
  ·rw [if_neg hv];exact Nat.min_le_right _ _
theorem xn (v:Int) (n d:Nat):(if v < 0 then max (v + (n:Int)) 0 else min v (n:Int))=((sIx n d (some v):Nat):Int):=by
 show (if v < 0 then max (v + (n:Int)) 0 else min v (n:Int))=(((if v < 0 then (v + (n:Int)).toNat else min v.toNat n):Nat):Int)
 by_cases hv:v < 0
 ·simp only [if_pos hv];omega
 ·simp only [if_neg hv];omega
theorem vc (lo hi:Option Int) (n:Nat):Builtin.Slice.sliceAdjust lo hi 1 (n:Int)=(((sIx n 0 lo:Nat):Int),((sIx n n hi:Nat):Int)):=by
 have h1:¬ ((1:Int) < 0):=by omega
 unfold Builtin.Slice.sliceAdjust
 simp only [h1,if_false]
 refine Prod.ext ?_ ?_
 ·cases lo with
  | none=>rfl
  | some v=>exact xn v n 0
 ·cases hi with
  | none=>rfl
  | some v=>exact xn v n n
theorem vF (i j:Nat):Builtin.Slice.slicePlaces (i:Int) (j:Int) 1=j - i:=by
 unfold Builtin.Slice.slicePlaces
 have h1:(1:Int) > 0:=by omega
 simp only [h1,if_true,Int.ediv_one]
 split <;> omega
theorem pE {v:Value}{o:Option Int}{Q:Option Int->Shared->Prop} (p:IsPart v o) (h:Q o s):wpAny (model prog w) A (Builtin.Slice.slicePartIndex v) Q E s:=by
 cases p with
 | none=>exact slicePart_none h
 | int i t=>exact slicePart_int h
theorem mr {sl:Addr}{vl vu:Value}{lo hi:Option Int}{n:Nat}{Q:Int × Int × Nat->Shared->Prop} (hs:s.heap.IsSliceOf sl vl vu .none) (pl:IsPart vl lo) (pu:IsPart vu hi)
  (h:Q (((sIx n 0 lo:Nat):Int),1,sIx n n hi - sIx n 0 lo) s):wpAny (model prog w) A (Builtin.Slice.sliceApplied (.ref sl) (pure (n:Int))) Q E s:=by
 obtain ⟨os,hos,hcs,hds⟩:=id hs
 unfold Builtin.Slice.sliceApplied Builtin.Slice.sliceFields
 refine wpAny_bind (wpAny_bind (wpAny_field hos hds (x:=vl) rfl (wpAny_bind (wpAny_field hos hds (x:=vu) rfl (wpAny_bind (wpAny_field hos hds (x:=.none) rfl (wpAny_pure ?_)))))))
 refine wpAny_bind (slicePart_none ?_)
 show wpAny _ _ (if ((1:Int) == 0)=true then _ else _) _ _ s
 rw [if_neg (by decide)]
 refine wpAny_bind (pE pl (wpAny_bind (pE pu (wpAny_bind (wpAny_pure ?_)))))
 show wpAny _ _ (match Builtin.Slice.sliceAdjust lo hi 1 (n:Int) with | (lo,hi)=>pure (lo,(1:Int),Builtin.Slice.slicePlaces lo hi 1)) _ _ s
 rw [vc lo hi n]
 show wpAny _ _ (pure (((sIx n 0 lo:Nat):Int),(1:Int),Builtin.Slice.slicePlaces ((sIx n 0 lo:Nat):Int) ((sIx n n hi:Nat):Int) 1)) _ _ s
 rw [vF]
 exact wpAny_pure h
theorem yZ (xs:Array Value) (i k:Nat):((List.range k).filterMap fun (m:Nat)=>xs[((i:Int) + (m:Int) * 1).toNat]?).toArray=((xs.toList.drop i).take k).toArray:=by
 have e:(fun (m:Nat)=>xs[((i:Int) + (m:Int) * 1).toNat]?)=fun m=>xs[i + m]?:=by
  funext m
  have:((i:Int) + (m:Int) * 1).toNat=i + m:=by omega
  rw [this]
 rw [e]
 have:=pick_run xs i k
 rw [List.filterMap_map] at this
 have e2:((fun x=>xs[x]?) ∘ fun x=>i + x)=fun m=>xs[i + m]?:=rfl
 rw [e2] at this
 rw [this]
theorem lH {t sl:Addr}{items:Array Value}{vl vu:Value}{lo hi:Option Int}{Q:Value->Shared->Prop} (ht:IsTup s.heap t items) (hs:s.heap.IsSliceOf sl vl vu .none) (pl:IsPart vl lo) (pu:IsPart vu hi)
  (hw:¬ (sIx items.size 0 lo=0/\sIx items.size items.size hi=items.size))
  (h:Q (.ref s.heap.objs.size) { s with heap:=s.heap.push { cls:=.type "tuple",data:=.seq ((items.toList.drop (sIx items.size 0 lo)).take (sIx items.size items.size hi - sIx items.size 0 lo)).toArray } })
  (hsz:items.size <= sizeLine):wpAny (model prog w) A (getItem (.ref t) (.ref sl)) Q E s:=by
 have htake:sizeOk (.seq ((items.toList.drop (sIx items.size 0 lo)).take (sIx items.size items.size hi - sIx items.size 0 lo)).toArray):=by
  show ((items.toList.drop (sIx items.size 0 lo)).take (sIx items.size items.size hi - sIx items.size 0 lo)).toArray.size <= sizeLine
  rw [List.size_toArray,List.length_take,List.length_drop,Array.length_toList]
  omega
 have hj:sIx items.size items.size hi <= items.size:=Cv _ _ (Nat.le_refl _) hi
 obtain ⟨os,hos,hcs,hds⟩:=id hs
 have hTs:s.TypeIs (.ref sl) "slice":=⟨os,hos,hcs⟩
 unfold getItem
 try with_reducible refine wpAny_holding ?_
 first | refine wpAny_bind (wpAny_pure ?_) | skip
 refine wpAny_bind (wpAny_sequenceKey ht.typeIs (by decide) ?_)
 refine wpAny_bind (wpAny_callSpecial?_slot (name:=Str.ofString "__getitem__") ht.typeIs PyProof.Rows.slot_tuple_getitem
  (wpAny_call_entry PyProof.Rows.slot_tuple_getitem ht.typeIs entry_tuple_getitem ?_ (args_tuple_getitem _ _)))
 show wpAny _ _ (Builtin.Tuple.tupleItemsOf (.ref t) >>= _) _ _ s
 refine wpAny_bind (tupleItemsOf_ ht ?_)
 refine wpAny_bind (wpAny_typeOf hTs ?_)
 rw [if_pos (by decide)]
 refine wpAny_bind (mr hs pl pu ?_)
 have hno:¬ ((((sIx items.size 0 lo:Nat):Int) == 0 && (1:Int) == 1 && (sIx items.size items.size hi - sIx items.size 0 lo) == items.size)=true):=by
  intro q
  rw [Bool.and_eq_true,Bool.and_eq_true] at q
  have q1:((sIx items.size 0 lo:Nat):Int)=0:=eq_of_beq q.1.1
  have q2:sIx items.size items.size hi - sIx items.size 0 lo=items.size:=eq_of_beq q.2
  exact hw ⟨by omega,by omega⟩
 show wpAny _ _ (if (((sIx items.size 0 lo:Nat):Int) == 0 && (1:Int) == 1 && (sIx items.size items.size hi - sIx items.size 0 lo) == items.size)=true then _ else _) _ _ s
 rw [if_neg hno,yZ]
 first
  | exact wpAny_bind (m:=Builtin.Tuple.tupleExact _) (wpAny_newObj_type (wpAny_pure ⟨_,rfl,wpAny_pure h⟩) htake)
  | exact wpAny_bind (m:=Builtin.Tuple.tupleExact _) (wpAny_newObj_type (wpAny_bind (wpAny_pure (wpAny_pure ⟨_,rfl,wpAny_pure h⟩))) htake)
  | exact wpAny_bind (wpAny_bind (m:=Builtin.Tuple.tupleExact _) (wpAny_newObj_type (wpAny_pure (wpAny_pure ⟨_,rfl,wpAny_pure h⟩)) htake))
  | exact wpAny_bind (wpAny_bind (m:=Builtin.Tuple.tupleExact _) (wpAny_newObj_type (wpAny_pure ⟨_,rfl,wpAny_pure h⟩) htake))
end
end HT
namespace L2
open PySem PySem.Spec PyProof.Rows
abbrev TO:=St->Hp->(Option Int->Hp->Prop)->Prop
def PO (X:Cx) (e:Option Expr) (t:TO):Prop :=
 ∀(pins:List (Addr × Obj)) (s:Shared) (σ:St) (H:Hp) (Q:Option Int->Hp->Prop),Inv X pins σ H s->t σ H Q ->
  wpAny (model X.prog X.w) X.A (evalPart e X.env) (fun u s'=>∃o H',Inv X pins σ H' s'/\IsPart u o/\Q o H') X.xe s
def Bx:TO:=fun _ H Q=>Q none H
inductive E6 (x:V) (H:Hp) (Q:Option Int->Hp->Prop):Prop
 | mk (i:Int) (h:x=.int i) (q:Q (some i) H):E6 x H Q
def EF (t:TE):TO:=fun σ H Q=>t σ H fun x H1=>E6 x H1 Q
section
variable {X:Cx}{e:Expr}{te:TE}{lo hi:Option Expr}{tl th:TO}{pos p2:Pos}
theorem wb:PO X none Bx:=by
 intro pins s σ H Q I h
 rw [evalPart_none]
 exact wpAny_pure ⟨none,H,I,.none,h⟩
theorem oB (h:PE X e te):PO X (some e) (EF te):=by
 intro pins s σ H Q I hw
 rw [evalPart_some]
 refine thn (h pins s σ H _ I hw) fun u s1 ⟨x,H1,I1,r1,q1⟩=>?_
 obtain ⟨i,rfl,q⟩:=q1
 obtain ⟨t,rfl⟩:=r1
 exact ⟨some i,H1,I1,.int i t,q⟩
def SlR (X:Cx) (r:V->Option Int->Option Int->Hp->VK->Prop):Prop :=
 ∀(pins:List (Addr × Obj)) (s:Shared) (σ:St) (H:Hp) (x:V) (v vl vu:Value) (lo hi:Option Int) (sl:Addr) (Q:VK),Inv X pins σ H s->RelV x v->s.heap.IsSliceOf sl vl vu .none->IsPart vl lo->IsPart vu hi->r x lo hi H Q ->
  ∃T id,typeLookup (.type T) "__getitem__"=pure (some (.builtin id))/\s.TypeIs v T/\wpAny (model X.prog X.w) X.A (getItem v (.ref sl)) (EP X pins σ Q) X.xe s
theorem SlR.or {r r':V->Option Int->Option Int->Hp->VK->Prop} (h:SlR X r) (h':SlR X r'):SlR X (fun x lo hi H Q=>r x lo hi H Q \/ r' x lo hi H Q):=by
 intro pins s σ H x v vl vu lo hi sl Q I rx hs pl pu q
 rcases q with q | q
 ·exact h pins s σ H x v vl vu lo hi sl Q I rx hs pl pu q
 ·exact h' pins s σ H x v vl vu lo hi sl Q I rx hs pl pu q
def tSl (r:V->Option Int->Option Int->Hp->VK->Prop) (te:TE) (tl th:TO):TE:=fun σ H Q=>te σ H fun x H1=>tl σ H1 fun l H2=>th σ H2 fun u H3=>r x l u H3 Q
theorem pR {r:V->Option Int->Option Int->Hp->VK->Prop} (hr:SlR X r) (he:PE X e te) (hl:PO X lo tl) (hu:PO X hi th):PE X (.Subscript e (.Slice lo hi none p2) pos) (tSl r te tl th):=by
 intro pins s σ H Q I h
 refine Subscript_ (thn (he pins s σ H _ I h) fun v s1 ⟨x,H1,I1,r1,q1⟩=>?_)
 refine wpAny_Slice (thn (hl pins s1 σ H1 _ I1 q1) fun vl s2 ⟨l,H2,I2,pl,q2⟩=>thn (hu pins s2 σ H2 _ I2 q2) fun vu s3 ⟨u,H3,I3,pu,q3⟩=>?_)
 rw [evalPart_none]
 refine wpAny_pure ?_
 have I4:Inv X pins σ H3 { s3 with heap:=s3.heap.push { cls:=.type "slice",data:=.fields #[vl,vu,.none] } }:=I3.kept (t':=s3.toks) fun b ob q=>Heap.get?_push_of_some _ q
 obtain ⟨T,id,hT,ht,hg⟩:=hr pins { s3 with heap:=s3.heap.push { cls:=.type "slice",data:=.fields #[vl,vu,.none] } } σ H3 x v vl vu l u s3.heap.objs.size Q I4 r1 (Heap.IsSliceOf.new ..) pl pu q3
 show wpAny (model X.prog X.w) X.A (subscriptTail e (.Slice lo hi none p2) v (.ref s3.heap.objs.size)) (EP X pins σ Q) X.xe { s3 with heap:=s3.heap.push { cls:=.type "slice",data:=.fields #[vl,vu,.none] } }
 exact tail_any (ops:=[.ref s3.heap.objs.size,v]) ht hT hg (by with_unfolding_all rfl)
def nS (xs:List V) (lo hi:Option Int):List V:=(xs.drop (HT.sIx xs.length 0 lo)).take (HT.sIx xs.length xs.length hi - HT.sIx xs.length 0 lo)
theorem mY (xs:List V) (lo hi:Option Int):(nS xs lo hi).length <= xs.length:=by
 unfold nS
 rw [List.length_take,List.length_drop]
 omega
def Dp (K:W.Frag):V->Option Int->Option Int->Hp->VK->Prop:=fun x lo hi H Q=>∃a xs,x=.ref a/\SqT K H a xs /\
 ¬ (HT.sIx xs.length 0 lo=0/\HT.sIx xs.length xs.length hi=xs.length)/\∀p,H p=none->Q (.ref p) (upd H p (.tup (nS xs lo hi)))
theorem Cs:SlR X (Dp X.K):=by
 intro pins s σ H x v vl vu lo hi sl Q I rx hs pl pu h
 obtain ⟨a,xs,rfl,hx,hw,q⟩:=h
 cases rx
 obtain ⟨its,r,ht,hz⟩:=I.tuple hx
 have hlen:its.toArray.size=xs.length:=by rw [List.size_toArray];exact r.length.symm
 refine ⟨"tuple",_,PyProof.Rows.slot_tuple_getitem.lookup,ht.typeIs,?_⟩
 refine HT.lH ht hs pl pu (by rw [hlen];exact hw) ?_ (by rw [hlen];exact hz)
 rw [hlen]
 refine ⟨.ref s.heap.objs.size,_,I.laid (t':=s.toks) (o:=.tup (nS xs lo hi)) (fun b ob q=>Heap.get?_push_of_some _ q) (Nat.le_refl _) ?_,rfl,q _ (I.hok.fresh (Nat.le_refl _))⟩
 exact ⟨Nat.le_trans (mY xs lo hi) hz,_,(r.drop (HT.sIx xs.length 0 lo)).take (HT.sIx xs.length xs.length hi - HT.sIx xs.length 0 lo),IsTup.new _ _⟩
end
end L2
namespace L2
open PySem PySem.Spec PyProof.Rows
def ixN (n:Nat) (i:Int):Option Nat:=if 0 <= i then (if i < n then some i.toNat else none) else if -(n:Int) <= i then some (i + n).toNat else none
def atI {α:Type} (xs:List α) (i:Int):Option α:=(ixN xs.length i).bind fun j=>xs[j]?
theorem wX {n:Nat}{i:Int}{j:Nat} (h:ixN n i=some j):seqIndex? i n=some j/\j < n/\-(n:Int) <= i/\i < n:=by
 unfold ixN at h
 by_cases h0:0 <= i
 ·rw [if_pos h0] at h
  by_cases h1:i < n
  ·rw [if_pos h1] at h
   have e:i.toNat=j:=Option.some.inj h
   exact ⟨by rw [seqIndex_of h0 h1,e],by omega,by omega,h1⟩
  ·rw [if_neg h1] at h;cases h
 ·rw [if_neg h0] at h
  by_cases h1:-(n:Int) <= i
  ·rw [if_pos h1] at h
   have e:(i + n).toNat=j:=Option.some.inj h
   exact ⟨by rw [seqIndex_neg (by omega) h1,e],by omega,h1,by omega⟩
  ·rw [if_neg h1] at h;cases h
theorem rG {α:Type}{xs:List α}{i:Int}{v:α} (h:atI xs i=some v):∃j,seqIndex? i xs.length=some j/\xs[j]?=some v/\j < xs.length/\-(xs.length:Int) <= i/\i < xs.length:=by
 unfold atI at h
 cases e:ixN xs.length i with
 | none=>rw [e] at h;cases h
 | some j =>
  rw [e] at h
  obtain ⟨h1,h2,h3,h4⟩:=wX e
  exact ⟨j,h1,h,h2,h3,h4⟩
theorem ka {α:Type}{xs:List α}{j:Nat}{v:α} (h:xs[j]?=some v):atI xs (j:Int)=some v:=by
 have hj:j < xs.length:=(List.getElem?_eq_some_iff.mp h).1
 have e:ixN xs.length (j:Int)=some j:=by
  unfold ixN
  rw [if_pos (by omega),if_pos (by omega)];simp
 unfold atI;rw [e];exact h
theorem zc {α:Type} (xs:List α) (v:α):atI (xs ++ [v]) (-1)=some v:=by
 have hl:(xs ++ [v]).length=xs.length + 1:=by simp
 have e:ixN (xs ++ [v]).length (-1)=some xs.length:=by
  unfold ixN
  rw [hl,if_neg (by decide),if_pos (by omega)]
  congr 1
  omega
 unfold atI
 rw [e]
 show (xs ++ [v])[xs.length]?=some v
 simp
def wQ (b:Expr):Prop:=∀o i,subscripted b false o i=operate [o,i] (getItem o i)
def IxR (X:Cx) (r:R2):Prop :=
 ∀(value slice:Expr) (pins:List (Addr × Obj)) (s:Shared) (σ:St) (H:Hp) (x y:V) (v u:Value) (Q:VK),Inv X pins σ H s->RelV x v->RelV y u->r x y H Q ->
  subscripted slice false v u=operate [v,u] (getItem v u)->wpAny (model X.prog X.w) X.A (subscriptTail value slice v u) (EP X pins σ Q) X.xe s
def MtR (X:Cx) (id:String) (r:V->List V->Hp->VK->Prop):Prop :=
 ∀(pins:List (Addr × Obj)) (s:Shared) (σ:St) (H:Hp) (x:V) (xs:List V) (v:Value) (us:List Value) (Q:VK),Inv X pins σ H s->RelV x v->Vals xs us->r x xs H Q ->
  wpAny (model X.prog X.w) X.A (call (.builtin id) (v :: us)) (EP X pins σ Q) X.xe s
section
variable {X:Cx}{a b:Expr}{ta tb:TE}{pos:Pos}
theorem E5 {r:R2} (hr:IxR X r) (ha:PE X a ta) (hb:PE X b tb) (hs:wQ b):PE X (.Subscript a b pos) (tOp r ta tb):=by
 intro pins s σ H Q I h
 exact Subscript_ (Di ha hb I h fun v u s2 x y H2 I2 rx ry q=>hr a b pins s2 σ H2 x y v u Q I2 rx ry q (hs _ _))
def Fu (K:W.Frag):R2:=fun x y H Q=>∃p xs i v,x=.ref p/\y=.int i/\SqL K H p xs/\atI xs i=some v/\Q v H
def Gg (K:W.Frag):R2:=fun x y H Q=>∃p xs i v,x=.ref p/\y=.int i/\SqT K H p xs/\atI xs i=some v/\Q v H
def Fx:R2:=fun x y H Q=>∃z i c,x=.str z/\y=.int i/\z.length <= sizeLine/\atI z.cps.toList i=some c/\Q (.str ⟨#[c]⟩) H
theorem A4:IxR X (Fu X.K):=by
 intro value slice pins s σ H x y v u Q I rx ry h hs
 obtain ⟨p,xs,i,z,rfl,rfl,hq,he,q⟩:=h
 cases rx
 obtain ⟨t,rfl⟩:=ry
 obtain ⟨its,r,pl,hz⟩:=I.list hq
 obtain ⟨j,h1,h2,h3,h4,h5⟩:=rG he
 obtain ⟨w,ew,rw'⟩:=r.get h2
 have hl:=r.length
 have hn:=mS
 have fin:EP X pins σ Q w s:=⟨z,H,I,rw',q⟩
 by_cases h0:0 <= i
 ·have hj:i.toNat=j:=by
   rw [seqIndex_of h0 h5] at h1
   exact Option.some.inj h1
  exact item_listR pl.isList h0 (by omega) (by rw [hj];simpa using ew) fin hs
 ·have hj:(i + (its.toArray.size:Int)).toNat=j:=by
   rw [seqIndex_neg (by omega) h4] at h1
   rw [List.size_toArray,<- hl]
   exact Option.some.inj h1
  exact subscriptTail_builtinR (x:=w) pl.isList.typeIs slot_list_getitem.lookup
   (wpAny_getItem_list_neg (Q:=fun r s'=>r=w/\EP X pins σ Q r s') pl.isList (by omega) (by rw [List.size_toArray] <;> omega) (by omega) (by rw [hj];simpa using ew) ⟨rfl,fin⟩) hs
theorem CJ:IxR X (Gg X.K):=by
 intro value slice pins s σ H x y v u Q I rx ry h hs
 obtain ⟨p,xs,i,z,rfl,rfl,hq,he,q⟩:=h
 cases rx
 obtain ⟨t,rfl⟩:=ry
 obtain ⟨its,r,pl,hz⟩:=I.tuple hq
 obtain ⟨j,h1,h2,h3,h4,h5⟩:=rG he
 obtain ⟨w,ew,rw'⟩:=r.get h2
 have hl:=r.length
 have hn:=mS
 have fin:EP X pins σ Q w s:=⟨z,H,I,rw',q⟩
 exact subscriptTail_builtinR (x:=w) pl.typeIs slot_tuple_getitem.lookup
  (getItem_tuple (j:=j) (Q:=fun r s'=>r=w/\EP X pins σ Q r s') pl (by omega) (by omega) (by rw [List.size_toArray,<- hl];exact h1) (by simpa using ew) ⟨rfl,fin⟩) hs
theorem Ci:IxR X Fx:=by
 intro value slice pins s σ H x y v u Q I rx ry h hs
 obtain ⟨z,i,c,rfl,rfl,hz,he,q⟩:=h
 obtain ⟨t,rfl⟩:=rx
 obtain ⟨t',rfl⟩:=ry
 obtain ⟨j,h1,h2,h3,h4,h5⟩:=rG he
 have hl:z.cps.toList.length=z.length:=by simp [Str.length]
 rw [hl] at h1 h4 h5
 have hn:=mS
 exact tail_any (typeIs_str s z t) slot_str_getitem.lookup (getItem_str (c:=c) (by
  have e1:decide (i < -(2 ^ 63:Int))=false:=decide_eq_false (by omega)
  have e2:decide (i ≥ 2 ^ 63)=false:=decide_eq_false (by omega)
  rw [e1,e2,Bool.or_false]) (by rw [h1];simpa using h2) ⟨.str ⟨#[c]⟩,H,I.tok _,⟨_,rfl⟩,q⟩) hs
theorem vZ (its:List Value) (n j:Nat) (u:Value):Obj.mapSeq (·.setIfInBounds j u) { cls:=.type "list",data:=.seq its.toArray n }={ cls:=.type "list",data:=.seq (its.set j u).toArray n }:=by
 simp [Obj.mapSeq]
theorem Inv.lst {pins:List (Addr × Obj)}{σ:St}{H:Hp}{s:Shared}{p:Addr}{xs:List V} (I:Inv X pins σ H s) (h:H p=some (.lst xs)) :
  ∃(its:List Value) (n:Nat),Vals xs its/\s.heap.get? p=some { cls:=.type "list",data:=.seq its.toArray n }/\xs.length <= sizeLine:=by
 obtain ⟨z,its,n,r,e⟩:=I.hok p _ h
 exact ⟨its,n,r,e,z⟩
theorem Inv.DD {pins:List (Addr × Obj)}{σ:St}{H:Hp}{s:Shared}{p:Addr}{xs ys:List V}{its its':List Value}{n n':Nat}{f:Obj->Obj} (I:Inv X pins σ H s) (h:H p=some (.lst xs))
  (ho:s.heap.get? p=some { cls:=.type "list",data:=.seq its.toArray n }) (hf:f { cls:=.type "list",data:=.seq its.toArray n }={ cls:=.type "list",data:=.seq its'.toArray n' }) (r:Vals ys its') (hz:ys.length <= sizeLine) (t:Nat) :
  Inv X pins σ (upd H p (.lst ys)) { s with heap:=s.heap.update p f,toks:=t }:=by
 have e:(s.heap.update p f).get? p=some { cls:=.type "list",data:=.seq its'.toArray n' }:=by
  rw [Heap.get?_update_self f ho (by rw [hf] <;> rfl),hf]
 refine I.write (x:=p) (e:=p) (by rw [h];trivial) (.inl rfl) (fun b u hb q=>(Heap.get?_update_other _ _ (Ne.symm hb)).trans q) ⟨_,e⟩ ?_
 exact ⟨hz,its',n',r,e⟩
def Ce:V->V->V->Hp->(Hp->Prop)->Prop:=fun o i v H Q=>∃p xs k j,o=.ref p/\i=.int k/\H p=some (.lst xs)/\ixN xs.length k=some j/\Q (upd H p (.lst (xs.set j v)))
theorem set_list:Aa X Ce:=by
 intro pins s σ H o i v ov iv u Q I ro ri rv h
 obtain ⟨p,xs,k,j,rfl,rfl,hp,hj,q⟩:=h
 cases ro
 obtain ⟨t,rfl⟩:=ri
 obtain ⟨its,n,r,ho,hz⟩:=I.lst hp
 obtain ⟨h1,h2,h3,h4⟩:=wX hj
 have hl:=r.length
 have hn:=mS
 have I':Inv X pins σ (upd H p (.lst (xs.set j v))) { s with heap:=s.heap.update p (Obj.mapSeq (·.setIfInBounds j u)) } :=
  I.DD hp ho (vZ its n j u) (r.set rv j) (by rw [List.length_set];exact hz) s.toks
 by_cases h0:0 <= k
 ·have hk:k.toNat=j:=by
   rw [seqIndex_of h0 h4] at h1
   exact Option.some.inj h1
  exact W.ki_setAt ho h0 (by omega) (by rw [List.size_toArray,<- hl];exact h4) (by rw [hk];exact ⟨_,I',q⟩)
 ·have hk:(k + (its.toArray.size:Int)).toNat=j:=by
   rw [seqIndex_neg (by omega) h3] at h1
   rw [List.size_toArray,<- hl]
   exact Option.some.inj h1
  exact W.ki_setBack ho (by omega) (by rw [List.size_toArray,<- hl];exact h3) (by omega) (by rw [hk];exact ⟨_,I',q⟩)
theorem r8 (lo hi:Option Int) (n:Nat):(sliceBounds lo hi none n).1=((HT.sIx n 0 lo:Nat):Int)/\(sliceBounds lo hi none n).2.1=((HT.sIx n n hi:Nat):Int)/\(sliceBounds lo hi none n).2.2=1:=by
 refine ⟨?_,?_,rfl⟩
 ·cases lo with
  | none=>simp [sliceBounds,HT.sIx]
  | some i =>
   simp only [sliceBounds,HT.sIx,Option.getD_none,show (1:Int) > 0 by decide,if_true]
   by_cases h:i < 0
   ·simp only [h,if_true] <;> omega
   ·simp only [h,if_false] <;> omega
 ·cases hi with
  | none=>simp [sliceBounds,HT.sIx]
  | some i =>
   simp only [sliceBounds,HT.sIx,Option.getD_none,show (1:Int) > 0 by decide,if_true]
   by_cases h:i < 0
   ·simp only [h,if_true] <;> omega
   ·simp only [h,if_false] <;> omega
theorem qo (its:List Value) (lo hi:Option Int):slicePick its.toArray lo hi none=((its.drop (HT.sIx its.length 0 lo)).take (HT.sIx its.length its.length hi - HT.sIx its.length 0 lo)).toArray:=by
 obtain ⟨h1,h2,h3⟩:=r8 lo hi its.toArray.size
 unfold slicePick
 rw [h1,h2,h3]
 simp only [sliceRange_one,pick_run,List.size_toArray] <;> rfl
def DN (K:W.Frag):V->Option Int->Option Int->Hp->VK->Prop:=fun x lo hi H Q=>∃a xs,x=.ref a/\SqL K H a xs/\∀p,H p=none->Q (.ref p) (upd H p (.lst (nS xs lo hi)))
theorem BJ:SlR X (DN X.K):=by
 intro pins s σ H x v vl vu lo hi sl Q I rx hs pl pu h
 obtain ⟨a,xs,rfl,hx,q⟩:=h
 cases rx
 obtain ⟨its,r,ht,hz⟩:=I.list hx
 have hlen:=r.length
 refine ⟨"list",_,slot_list_getitem.lookup,ht.isList.typeIs,?_⟩
 refine wpAny_getItem_list_slice ht.isList hs pl pu .none (by simp) ?_ (by rw [List.size_toArray] <;> omega)
 rw [qo,<- hlen]
 refine ⟨.ref s.heap.objs.size,_,I.laid (t':=s.toks) (o:=.lst (nS xs lo hi)) (fun b ob q=>Heap.get?_push_of_some _ q) (Nat.le_refl _) ?_,rfl,q _ (I.hok.fresh (Nat.le_refl _))⟩
 exact ⟨Nat.le_trans (mY xs lo hi) hz,_,0,(r.drop (HT.sIx xs.length 0 lo)).take (HT.sIx xs.length xs.length hi - HT.sIx xs.length 0 lo),Heap.get?_push_size _ rfl⟩
def jJ:V->Bool
 | .non=>true
 | .bl _=>true
 | .int _=>true
 | .str _=>true
 | _=>false
def eqV:V->V->Bool
 | .non,.non=>true
 | .bl a,.bl b=>a == b
 | .bl a,.int b=>(if a then 1 else 0) == b
 | .int a,.bl b=>a == (if b then 1 else 0)
 | .int a,.int b=>a == b
 | .str a,.str b=>a == b
 | _,_=>false
theorem DT {A:Around}{s:Shared}{y x:V}{u v:Value} (ry:RelV y u) (rx:RelV x v) (fy:jJ y=true) (fx:jJ x=true):SeqAt.EqAt A s u v (eqV y x):=by
 cases y with
 | non =>
  cases ry
  cases x with
  | non=>cases rx;exact SeqAt.EqAt.same _
  | bl b=>cases rx;exact SeqAt.EqAt.none_bool b
  | int b=>obtain ⟨t,rfl⟩:=rx;exact SeqAt.EqAt.none_int b t
  | str b=>obtain ⟨t,rfl⟩:=rx;exact SeqAt.EqAt.none_str b t
  | _=>exact absurd (show false=true from fx) Bool.false_ne_true
 | bl a =>
  cases ry
  cases x with
  | non=>cases rx;exact SeqAt.EqAt.bool_none a
  | bl b=>cases rx;exact SeqAt.EqAt.bool_bool a b
  | int b=>obtain ⟨t,rfl⟩:=rx;exact SeqAt.EqAt.bool_int a b t
  | str b=>obtain ⟨t,rfl⟩:=rx;exact SeqAt.EqAt.bool_str a b t
  | _=>exact absurd (show false=true from fx) Bool.false_ne_true
 | int a =>
  obtain ⟨t',rfl⟩:=ry
  cases x with
  | non=>cases rx;exact SeqAt.EqAt.int_none a t'
  | bl b=>cases rx;exact SeqAt.EqAt.int_bool a t' b
  | int b=>obtain ⟨t,rfl⟩:=rx;exact SeqAt.EqAt.int_int a t' b t
  | str b=>obtain ⟨t,rfl⟩:=rx;exact SeqAt.EqAt.int_str a t' b t
  | _=>exact absurd (show false=true from fx) Bool.false_ne_true
 | str a =>
  obtain ⟨t',rfl⟩:=ry
  cases x with
  | non=>cases rx;exact SeqAt.EqAt.str_none a t'
  | bl b=>cases rx;exact SeqAt.EqAt.str_bool a t' b
  | int b=>obtain ⟨t,rfl⟩:=rx;exact SeqAt.EqAt.str_int a t' b t
  | str b=>obtain ⟨t,rfl⟩:=rx;exact SeqAt.EqAt.str_str a t' b t
  | _=>exact absurd (show false=true from fx) Bool.false_ne_true
 | _=>exact absurd (show false=true from fy) Bool.false_ne_true
def eqU (x:V) (u:Value):Bool:=match u with
 | .none=>eqV .non x
 | .bool b=>eqV (.bl b) x
 | .int i _=>eqV (.int i) x
 | .str z _=>eqV (.str z) x
 | _=>false
theorem yE {x y:V}{u:Value} (r:RelV y u) (f:jJ y=true):eqU x u=eqV y x:=by
 cases y with
 | non=>cases r;rfl
 | bl b=>cases r;rfl
 | int i=>obtain ⟨t,rfl⟩:=r;rfl
 | str z=>obtain ⟨t,rfl⟩:=r;rfl
 | _=>exact absurd (show false=true from f) Bool.false_ne_true
theorem lB {x:V}:∀{xs:List V}{us:List Value},Vals xs us->xs.all jJ=true->us.any (eqU x)=xs.any fun y=>eqV y x
 | _,_,.nil,_=>rfl
 | y :: xs,u :: us,.cons r t,f=>by
  rw [List.all_cons,Bool.and_eq_true] at f
  rw [List.any_cons,List.any_cons,yE r f.1,lB t f.2]
theorem jO {A:Around}{s:Shared}{x:V}{v:Value} (rx:RelV x v) (fx:jJ x=true):∀{xs:List V}{us:List Value},Vals xs us->xs.all jJ=true->∀u ∈ us,SeqAt.EqAt A s u v (eqU x u)
 | _,_,.nil,_=>fun u hu=>by cases hu
 | y :: xs,u :: us,.cons r t,f=>fun u' hu=>by
  rw [List.all_cons,Bool.and_eq_true] at f
  rcases List.mem_cons.mp hu with rfl | hu
  ·rw [yE r f.1];exact DT r rx f.1 fx
  ·exact jO rx fx t f.2 u' hu
def inV (x:V) (xs:List V):Bool:=xs.any fun y=>eqV y x
def rIn (K:W.Frag) (neg:Bool):R2:=fun x y H Q=>∃p xs,y=.ref p/\(SqL K H p xs \/ SqT K H p xs)/\jJ x=true/\xs.all jJ=true/\Q (.bl (if neg then !inV x xs else inV x xs)) H
theorem yi:OpR X (compareOp .In) (rIn X.K false):=by
 intro pins s σ H x y v u Q I rx ry h
 obtain ⟨p,xs,rfl,hq,fx,fs,q⟩:=h
 cases ry
 rcases hq with hq | hq
 ·obtain ⟨its,r,pl,hz⟩:=I.list hq
  refine SeqAt.in_listAt (eqU x) pl.isList (fun w hw=>jO rx fx r fs w (by simpa using hw)) ⟨.bl _,H,I,rfl,?_⟩
  rw [show its.toArray.any (eqU x)=its.any (eqU x) by simp,lB r fs]
  exact q
 ·obtain ⟨its,r,pl,hz⟩:=I.tuple hq
  refine SeqAt.in_tupleAt (eqU x) pl (fun w hw=>jO rx fx r fs w (by simpa using hw)) ⟨.bl _,H,I,rfl,?_⟩
  rw [show its.toArray.any (eqU x)=its.any (eqU x) by simp,lB r fs]
  exact q
theorem sP:OpR X (compareOp .NotIn) (rIn X.K true):=by
 intro pins s σ H x y v u Q I rx ry h
 obtain ⟨p,xs,rfl,hq,fx,fs,q⟩:=h
 cases ry
 rcases hq with hq | hq
 ·obtain ⟨its,r,pl,hz⟩:=I.list hq
  refine SeqAt.notIn_listAt (eqU x) pl.isList (fun w hw=>jO rx fx r fs w (by simpa using hw)) ⟨.bl _,H,I,rfl,?_⟩
  rw [show its.toArray.any (eqU x)=its.any (eqU x) by simp,lB r fs]
  exact q
 ·obtain ⟨its,r,pl,hz⟩:=I.tuple hq
  refine SeqAt.notIn_tupleAt (eqU x) pl (fun w hw=>jO rx fx r fs w (by simpa using hw)) ⟨.bl _,H,I,rfl,?_⟩
  rw [show its.toArray.any (eqU x)=its.any (eqU x) by simp,lB r fs]
  exact q
theorem rO:OpR X (compareOp .NotIn) (fun x y H Q=>∃i j,x=.str i/\y=.str j/\Q (.bl (!(!(Builtin.Str.occurrences j i 0 j.length 1).isEmpty))) H):=by
 intro pins s σ H x y v u Q I rx ry h
 obtain ⟨i,j,rfl,rfl,q⟩:=h
 obtain ⟨t,rfl⟩:=rx
 obtain ⟨t',rfl⟩:=ry
 exact notIn_str ⟨.bl _,H,I,rfl,q⟩
theorem cO.or {f:Value}{r r':List V->Hp->VK->Prop} (h:cO X f r) (h':cO X f r'):cO X f (fun xs H Q=>r xs H Q \/ r' xs H Q):=by
 intro pins s σ H xs us Q I rs q
 rcases q with q | q
 ·exact h pins s σ H xs us Q I rs q
 ·exact h' pins s σ H xs us Q I rs q
theorem sM:cO X (.type "list") (fun xs H Q=>∃p ys,xs=[.ref p]/\(SqL X.K H p ys \/ SqT X.K H p ys)/\∀l,H l=none->Q (.ref l) (upd H l (.lst ys))):=by
 intro pins s σ H xs us Q I r h
 obtain ⟨p,ys,rfl,hq,q⟩:=h
 obtain ⟨u,rfl,rx⟩:=vals1 r
 cases rx
 have fin:∀(its:List Value),Vals ys its->ys.length <= sizeLine->∀(h':Heap) (c':Nat),(∀b o',s.heap.get? b=some o'->h'.get? b=some o') ->
   h'.get? s.heap.objs.size=some { cls:=.type "list",dict:=none,data:=.seq its.toArray c',slots:=#[] }->EP X pins σ Q (.ref s.heap.objs.size) { s with heap:=h' }:=fun its r' hz h' c' kp e =>
  ⟨.ref s.heap.objs.size,_,I.laid (t':=s.toks) kp (Nat.le_refl _) (show bW X.prog X.w _ h' _ (.lst ys) from ⟨hz,its,c',r',e⟩),rfl,q _ (I.hok.fresh (Nat.le_refl _))⟩
 rcases hq with hq | hq
 ·obtain ⟨its,r',pl,hz⟩:=I.list hq
  have hlen:=r'.length
  obtain ⟨o,ho,hc,n,hd⟩:=pl.isList
  exact call_list_seq p (.inl rfl) ho hc hd (fun h' c' kp e=>fin its r' hz h' c' kp e) (by simp only [List.size_toArray] <;> omega)
 ·obtain ⟨its,r',pl,hz⟩:=I.tuple hq
  have hlen:=r'.length
  obtain ⟨o,ho,hc,n,hd⟩:=pl
  exact call_list_seq p (.inr rfl) ho hc hd (fun h' c' kp e=>fin its r' hz h' c' kp e) (by simp only [List.size_toArray] <;> omega)
def tyV (K:W.Frag) (T:String) (x:V) (H:Hp):Prop:=match x with
 | .str _=>T="str"
 | .int _=>T="int"
 | .ref p=>(T="list"/\∃xs,SqL K H p xs) \/ (T="tuple"/\∃o,K.lookup p=some o/\o.cls=.type "tuple"/\o.dict=none) \/
   (T="dict"/\((∃kvs,H p=some (.dK kvs)) \/ ∃kvs,H p=some (.dT kvs))) \/ (T="set"/\∃S n,H p=some (.set S n))
 | _=>False
theorem yv {pins:List (Addr × Obj)}{σ:St}{H:Hp}{s:Shared}{T:String}{x:V}{v:Value} (I:Inv X pins σ H s) (r:RelV x v) (ty:tyV X.K T x H) :
  s.TypeIs v T/\∀a,v=.ref a->∃ob,s.heap.get? a=some ob/\ob.dict=none:=by
 cases x with
 | str z =>
  obtain ⟨t,rfl⟩:=r
  cases (show T="str" from ty)
  exact ⟨typeIs_str s z t,fun _ e=>nomatch e⟩
 | int i =>
  obtain ⟨t,rfl⟩:=r
  cases (show T="int" from ty)
  exact ⟨typeIs_int s i t,fun _ e=>nomatch e⟩
 | ref p =>
  cases r
  rcases ty with ⟨rfl,xs,hq⟩ | ⟨rfl,o,hk,hc,hd⟩ | ⟨rfl,hk⟩ | ⟨rfl,S,n,hk⟩
  ·obtain ⟨its,_,pl,_⟩:=I.list hq
   refine ⟨pl.isList.typeIs,fun a e=>?_⟩
   cases e
   obtain ⟨o,n,e,c,hd,_⟩:=pl
   exact ⟨o,e,hd⟩
  ·refine ⟨⟨o,I.kIn p o hk,hc⟩,fun a e=>?_⟩
   cases e
   exact ⟨o,I.kIn _ o hk,hd⟩
  ·have z:∃o,s.heap.get? p=some o/\o.ExactDict:=by
    rcases hk with ⟨kvs,hk⟩ | ⟨kvs,hk⟩
    ·obtain ⟨_,_,_,_,o,_,_,e,ex,_⟩:=I.hok p _ hk
     exact ⟨o,e,ex⟩
    ·obtain ⟨_,_,_,_,o,_,_,e,ex,_⟩:=I.hok p _ hk
     exact ⟨o,e,ex⟩
   obtain ⟨o,e,ex⟩:=z
   refine ⟨⟨o,e,ex.1⟩,fun a e2=>?_⟩
   cases e2
   exact ⟨o,e,ex.2.1⟩
  ·obtain ⟨o,_,_,_,e,ex,_⟩:=I.hok p _ hk
   refine ⟨⟨o,e,ex.1⟩,fun a e2=>?_⟩
   cases e2
   exact ⟨o,e,ex.2.1⟩
 | _=>exact False.elim ty
def Dv (K:W.Frag) (T:String) (r:V->List V->Hp->VK->Prop) (to:TE):TE:=fun σ H Q=>to σ H fun x H1=>tyV K T x H1/\r x [] H1 Q
def tBM (K:W.Frag) (T:String) (r:V->List V->Hp->VK->Prop) (to:TE) (t:TA):TE:=fun σ H Q=>to σ H fun x H1=>tyV K T x H1/\t σ H1 fun xs H2=>r x xs H2 Q
variable {o e:Expr}{es:List Expr}{to:TE}{t:TA}{name:Str}{apos cpos:Pos}{T id:String}{r:V->List V->Hp->VK->Prop}
theorem AE (pa:PlainAttrs T) (slot:Slot T name id) (hty:typeOf (.builtin id)=pure (.type "method_descriptor")) (hm:MtR X id r) (ho:PE X o to)
  (hbase:attributeBase o name X.env (eval o X.env)=eval o X.env:=by rfl) (hline:(apos.endLine == cpos.line)=true:=by rfl):PE X (.Call (.Attribute o name apos) [] [] cpos) (Dv X.K T r to):=by
 intro pins s σ H Q I h
 refine wpAny_Call_method0_late hbase hline (thn (ho pins s σ H _ I h) fun v s1 ⟨x,H1,I1,r1,ty,q1⟩=>?_)
 obtain ⟨h1,h2⟩:=yv I1 r1 ty
 exact ⟨T,id,pa,slot,hty,h1,h2,Calls.callWith_builtin rfl (PySem.evalArgs_none (hm pins s1 σ H1 x [] v [] Q I1 r1 .nil q1))⟩
theorem zi (pa:PlainAttrs T) (slot:Slot T name id) (hty:typeOf (.builtin id)=pure (.type "method_descriptor")) (hm:MtR X id r) (ho:PE X o to) (ha:PA X (e :: es) t)
  (hbase:attributeBase o name X.env (eval o X.env)=eval o X.env:=by rfl)
  (hfew:((backTo cpos (starEach (e :: es) X.env)).all (fun x=>!x.1) && (backToKw cpos (keywordEach [] X.env)).all (fun x=>x.1.isSome)
   && decide ((e :: es).length + ([]:List Keyword).length + (if ([]:List Keyword).isEmpty then 0 else 1) < 30))=true:=by rfl)
  (hline:(apos.endLine == cpos.line)=true:=by rfl) (hs:starEach (e :: es) X.env=(false,eval e X.env) :: starEach es X.env:=by rfl) (hplain:(backTo cpos (starEach es X.env)).any (·.1)=false:=by rfl) :
  PE X (.Call (.Attribute o name apos) (e :: es) [] cpos) (tBM X.K T r to t):=by
 intro pins s σ H Q I h
 refine wpAny_Call_method_late hbase hfew hline rfl (thn (ho pins s σ H _ I h) fun v s1 ⟨x,H1,I1,r1,ty,q1⟩=>?_)
 obtain ⟨h1,h2⟩:=yv I1 r1 ty
 refine ⟨T,id,pa,slot,hty,h1,h2,?_⟩
 have hA:=ha cpos pins s1 σ H1 _ I1 q1
 rw [hs] at hA ⊢
 refine Calls.callWith_builtin (by show (false || (backTo cpos (starEach es X.env)).any (·.1))=false;rw [hplain] <;> rfl) (Calls.evalArgs_plain ?_)
 exact thn hA fun us s2 ⟨vs,H2,I2,r2,q2⟩=>hm pins s2 σ H2 x vs v us Q I2 r1 r2 q2
end
end L2
namespace L2
open PySem PySem.Spec PyProof.Rows
def MtM (X:Cx) (id:String) (r:V->List V->Hp->VK->Prop):Prop :=
 ∀(pins:List (Addr × Obj)) (s:Shared) (σ:St) (H:Hp) (x:V) (xs:List V) (v:Value) (us:List Value) (Q:VK),Inv X pins σ H s->RelV x v->Vals xs us->r x xs H Q ->
  wpAny (model X.prog X.w) X.A (call (.builtin id) (v :: us)) (EP X pins σ Q) X.xe s
theorem Vals.one:∀{x:V}{us:List Value},Vals [x] us->∃u,us=[u]/\RelV x u
 | _,_,.cons r .nil=>⟨_,rfl,r⟩
theorem Vals.zero:∀{us:List Value},Vals [] us->us=[]
 | _,.nil=>rfl
theorem Vals.dropLast {xs:List V}{us:List Value} (h:Vals xs us):Vals xs.dropLast us.dropLast:=by
 induction h with
 | nil=>exact .nil
 | cons r t ih =>
  cases t with
  | nil=>exact .nil
  | cons q t'=>exact .cons r ih
theorem Vals.rep {xs:List V}{us:List Value} (h:Vals xs us):∀k:Nat,Vals (List.replicate k xs).flatten (List.replicate k us).flatten
 | 0=>.nil
 | k + 1=>by
  rw [List.replicate_succ,List.replicate_succ,List.flatten_cons,List.flatten_cons]
  exact Vals.append h (Vals.rep h k)
theorem vx {α:Type} (l:List α):l.eraseIdx (l.length - 1)=l.dropLast:=by
 induction l with
 | nil=>rfl
 | cons a r ih =>
  cases r with
  | nil=>rfl
  | cons b r =>
   have e:(a :: b :: r).length - 1=((b :: r).length - 1) + 1:=by
    have h1:(a :: b :: r).length=r.length + 2:=rfl
    have h2:(b :: r).length=r.length + 1:=rfl
    omega
   rw [e,List.eraseIdx_cons_succ,ih]
   all_goals rfl
theorem foldl_rep (its:List Value):∀(k:Nat) (acc:List Value),
  List.foldl (fun x1 x2=>x1 ++ x2) acc.toArray (List.replicate k its.toArray)=(acc ++ (List.replicate k its).flatten).toArray
 | 0,acc=>by simp
 | k + 1,acc=>by
  have e:acc.toArray ++ its.toArray=(acc ++ its).toArray:=by simp
  have e2:(acc ++ its) ++ (List.replicate k its).flatten=acc ++ (List.replicate (k + 1) its).flatten:=by
   rw [List.replicate_succ,List.flatten_cons,List.append_assoc]
  rw [<- e2,<- foldl_rep its k (acc ++ its),<- e,List.replicate_succ,List.foldl_cons]
section
variable {X:Cx}{pins:List (Addr × Obj)}{σ:St}{H:Hp}{s:Shared}{l b:Addr}{xs ys zs:List V}
theorem Inv.Bd {its its':List Value}{n:Nat}{f:Array Value->Array Value}{t':Nat} (I:Inv X pins σ H s) (hH:H l=some (.lst xs))
  (e:s.heap.get? l=some { cls:=.type "list",data:=.seq its.toArray n }) (hf:f its.toArray=its'.toArray) (hv:Vals ys its') (hz:ys.length <= sizeLine) :
  Inv X pins σ (upd H l (.lst ys)) { s with heap:=s.heap.update l (Obj.mapSeq f),toks:=t' }:=by
 have q:=PySem.IsL.update e f
 rw [hf] at q
 refine I.write (x:=l) (e:=l) (by rw [hH];exact trivial) (.inl rfl) (fun b' u hb hu=>(Heap.get?_update_other s.heap (Obj.mapSeq f) (Ne.symm hb)).trans hu) ⟨_,q⟩ ?_
 exact ⟨hz,its',_,hv,q⟩
theorem Inv.DV {its:List Value}{t':Nat} (I:Inv X pins σ H s) (hv:Vals ys its) (hz:ys.length <= sizeLine) :
  Inv X pins σ (upd H s.heap.objs.size (.lst ys)) { s with heap:=s.heap.push { cls:=.type "list",data:=.seq its.toArray },toks:=t' } :=
 I.laid (fun _ _ q=>Heap.get?_push_of_some _ q) (Nat.le_refl _) ⟨hz,its,0,hv,Heap.get?_push_size _ rfl⟩
theorem Inv.fresh (I:Inv X pins σ H s):H s.heap.objs.size=none:=I.hok.fresh (Nat.le_refl _)
theorem Inv.uK (I:Inv X pins σ H s) (hH:H l=some (.lst xs)):xs.length <= sizeLine/\∃(its:List Value) (n:Nat),Vals xs its/\xs.length=its.length/\s.heap.get? l=some { cls:=.type "list",data:=.seq its.toArray n }:=by
 obtain ⟨z,its,n,r,e⟩:=I.hok l _ hH
 exact ⟨z,its,n,r,r.length,e⟩
theorem uB {n:Nat} (h:n <= sizeLine):Builtin.List.listTooLong n=false:=by
 unfold Builtin.List.listTooLong
 exact decide_eq_false (by omega)
end
section
variable {X:Cx}
inductive rC (x:V) (vs:List V) (H:Hp) (Q:VK):Prop
 | mk (l:Addr) (xs:List V) (y:V) (h0:x=.ref l) (h1:vs=[y]) (h2:H l=some (.lst xs)) (h3:xs.length < sizeLine) (q:Q .non (upd H l (.lst (xs ++ [y])))):rC x vs H Q
theorem qC:MtM X "list.append" rC:=by
 intro pins s σ H x vs v us Q I rx rv h
 obtain ⟨l,xs,y,rfl,rfl,hH,hz,q⟩:=h
 cases rx
 obtain ⟨u,rfl,ru⟩:=rv.one
 obtain ⟨z,its,n,r,hl,e⟩:=I.uK hH
 refine call_meets F.slot_list_append ⟨_,e,rfl⟩ F.entry_list_append (F.args_list_append_2 _ _) (PySem.list_append l its.toArray n u (by rw [List.size_toArray];omega)) ⟨e,?_⟩
 refine ⟨.non,_,I.Bd (its':=its ++ [u]) hH e (by simp) (r.append (.cons ru .nil)) ?_,rfl,q⟩
 rw [List.length_append,List.length_singleton]
 omega
def xC:V->List V->Hp->VK->Prop:=fun x vs H Q=>∃l b xs zs,x=.ref l/\vs=[.ref b]/\H l=some (.lst xs)/\H b=some (.lst zs)/\xs.length + zs.length <= sizeLine/\Q .non (upd H l (.lst (xs ++ zs)))
theorem xW:MtM X "list.extend" xC:=by
 intro pins s σ H x vs v us Q I rx rv h
 obtain ⟨l,b,xs,zs,rfl,rfl,hH,hB,hz,q⟩:=h
 cases rx
 obtain ⟨u,rfl,ru⟩:=rv.one
 cases ru
 obtain ⟨z,its,n,r,hl,e⟩:=I.uK hH
 obtain ⟨z2,its2,n2,r2,hl2,e2⟩:=I.uK hB
 have hsz:its.toArray.size + its2.toArray.size <= sizeLine:=by rw [List.size_toArray,List.size_toArray];omega
 have hlong:¬ (!its.toArray.isEmpty && Builtin.List.listTooLong (its.toArray.size + its2.toArray.size))=true:=by
  rw [uB hsz,Bool.and_false]
  exact Bool.false_ne_true
 refine call_meets F.slot_list_extend ⟨_,e,rfl⟩ F.entry_list_extend (F.args_list_extend_2 _ _)
  (AutoSeq1.list_extend_list_list_0 l its.toArray n b its2.toArray n2 hlong (by rw [List.size_toArray];omega) (by omega)) ⟨e,e2,?_⟩
 refine ⟨.non,_,I.Bd (its':=its ++ its2) hH e (by simp) (r.append r2) ?_,rfl,q⟩
 rw [List.length_append]
 omega
inductive AU (x:V) (vs:List V) (H:Hp) (Q:VK):Prop
 | mk (l:Addr) (xs:List V) (y:V) (h0:x=.ref l) (h1:vs=[]) (h2:H l=some (.lst xs)) (h3:xs[xs.length - 1]?=some y) (q:Q y (upd H l (.lst xs.dropLast))):AU x vs H Q
theorem Dh:MtM X "list.pop" AU:=by
 intro pins s σ H x vs v us Q I rx rv h
 obtain ⟨l,xs,y,rfl,rfl,hH,hy,q⟩:=h
 cases rx
 have hus:=rv.zero
 subst hus
 obtain ⟨z,its,n,r,hl,e⟩:=I.uK hH
 obtain ⟨u,hu,ru⟩:=r.get hy
 have hy':its.toArray[its.toArray.size - 1]?=some u:=by
  show its.toArray[its.length - 1]?=some u
  rw [<- Array.getElem?_toList,<- hl]
  exact hu
 refine call_meets F.slot_list_pop ⟨_,e,rfl⟩ F.entry_list_pop (F.args_list_pop_1 _) (MeetsSeq.list_pop_last l its.toArray n u hy' (by rw [List.size_toArray];omega)) ⟨e,?_⟩
 refine ⟨y,_,I.Bd (its':=its.dropLast) hH e ?_ r.dropLast ?_,ru,q⟩
 ·show its.toArray.eraseIdxIfInBounds (its.toArray.size - 1)=its.dropLast.toArray
  rw [List.size_toArray,List.eraseIdxIfInBounds_toArray,vx]
 ·rw [List.length_dropLast]
  omega
def yD:V->List V->Hp->VK->Prop:=fun x vs H Q=>∃l xs,x=.ref l/\vs=[]/\H l=some (.lst xs)/\Q .non (upd H l (.lst []))
theorem Az:MtM X "list.clear" yD:=by
 intro pins s σ H x vs v us Q I rx rv h
 obtain ⟨l,xs,rfl,rfl,hH,q⟩:=h
 cases rx
 have hus:=rv.zero
 subst hus
 obtain ⟨z,its,n,r,hl,e⟩:=I.uK hH
 refine call_meets F.slot_list_clear ⟨_,e,rfl⟩ F.entry_list_clear (F.args_list_clear_1 _) (AutoSeq1.list_clear_list_0 l its.toArray n (by rw [List.size_toArray];omega)) ⟨e,?_⟩
 exact ⟨.non,_,I.Bd (its':=[]) (ys:=[]) hH e rfl .nil (Nat.zero_le _),rfl,q⟩
def E3:R2:=fun x y H Q=>∃l b xs zs,x=.ref l/\y=.ref b/\H l=some (.lst xs)/\H b=some (.lst zs)/\xs.length + zs.length <= sizeLine/\∀p,H p=none->Q (.ref p) (upd H p (.lst (xs ++ zs)))
theorem DQ:OpR X (binaryOp .Add) E3:=by
 intro pins s σ H x y v u Q I rx ry h
 obtain ⟨l,b,xs,zs,rfl,rfl,hH,hB,hz,q⟩:=h
 cases rx
 cases ry
 obtain ⟨z,its,n,r,hl,e⟩:=I.uK hH
 obtain ⟨z2,its2,n2,r2,hl2,e2⟩:=I.uK hB
 refine PySem.P.add_list e e2 ?_ (by rw [List.size_toArray,List.size_toArray];omega)
 have ea:its.toArray ++ its2.toArray=(its ++ its2).toArray:=by simp
 rw [ea]
 exact ⟨.ref _,_,I.DV (t':=s.toks) (r.append r2) (by rw [List.length_append];omega),rfl,q _ I.fresh⟩
def FN:R2:=fun x y H Q=>∃l k xs,x=.ref l/\y=.int k/\H l=some (.lst xs)/\-(2 ^ 63) <= k/\k < 2 ^ 63/\xs.length * k.toNat <= sizeLine /\
 ∀p,H p=none->Q (.ref p) (upd H p (.lst (List.replicate k.toNat xs).flatten))
theorem len_rep {α:Type} (xs:List α) (k:Nat):(List.replicate k xs).flatten.length=k * xs.length:=by
 induction k with
 | zero=>simp
 | succ k ih=>rw [List.replicate_succ,List.flatten_cons,List.length_append,ih,Nat.succ_mul,Nat.add_comm]
theorem Cz:OpR X (binaryOp .Mult) FN:=by
 intro pins s σ H x y v u Q I rx ry h
 obtain ⟨l,k,xs,rfl,rfl,hH,h1,h2,hz,q⟩:=h
 cases rx
 obtain ⟨t,rfl⟩:=ry
 obtain ⟨z,its,n,r,hl,e⟩:=I.uK hH
 have hlen:its.toArray.size * k.toNat <= sizeLine:=by rw [List.size_toArray,<- hl];exact hz
 have hcap:¬ its.toArray.size * k.toNat > (2 ^ 63 - 1) / 8:=by
  have:(sizeLine:Nat) <= (2 ^ 63 - 1) / 8:=by decide
  omega
 have hfit:¬ (!Builtin.List.listFitsIndex k)=true:=by
  rw [fitsIndex_both h1 h2]
  exact Bool.false_ne_true
 have hlong:¬ Builtin.List.listTooLong (its.toArray.size * k.toNat)=true:=by
  rw [uB hlen]
  exact Bool.false_ne_true
 have hnew:List.foldl (fun x1 x2=>x1 ++ x2) #[] (List.replicate (if its.toArray.isEmpty=true then 0 else k.toNat) its.toArray)=(List.replicate k.toNat its).flatten.toArray:=by
  have f0:∀m:Nat,List.foldl (fun x1 x2=>x1 ++ x2) #[] (List.replicate m its.toArray)=(List.replicate m its).flatten.toArray:=fun m=>by
   have:=foldl_rep its m []
   rw [List.nil_append] at this
   exact this
  rw [f0]
  cases its with
  | nil=>simp
  | cons a r'=>rw [if_neg (by simp)]
 refine wpAny_binaryOp_repeat_ref (T:="list") (U:="int") (by decide) ⟨_,e,rfl⟩ (fun s'=>typeIs_int s' k t) noFill_list_mul F.fills_int_mul F.slot_int_rmul repeat_list F.slot_int_index.lookup
  (call_meets F.slot_int_rmul (typeIs_int s k t) F.entry_int_rmul (F.args_int_rmul_2 _ _) (int___rmul___int_list k t l its.toArray n)
   ⟨e,rfl,⟨_,e,rfl⟩,call_meets F.slot_list_mul ⟨_,e,rfl⟩ F.entry_list_mul (F.args_list_mul_2 _ _) (AutoListH.list___mul___list_int_3 l its.toArray n k t hfit hcap hlong) ⟨e,?_⟩⟩)
 rw [hnew]
 exact ⟨.ref _,_,I.DV (t':=s.toks) (r.rep k.toNat) (by rw [len_rep,Nat.mul_comm];exact hz),rfl,q _ I.fresh⟩
end
section
variable {prog:Program}{w:World}{A:Around}{E:Value->Shared->Prop}{s:Shared}
end
section
variable {X:Cx}
end
end L2
namespace Att
open PySem PySem.W PySem.Calls PyProof.Rows
theorem nI {P:Params}{h:Heap}:∀(ns:List Int) (vs:List Value),WellAll P h vs (ns.map WData.int)->IntsAre vs ns:=by
 intro ns
 induction ns with
 | nil =>
  intro vs w
  rw [List.map_nil] at w
  cases w
  exact .nil
 | cons n ns ih =>
  intro vs w
  rw [List.map_cons] at w
  cases w with
  | cons a b =>
   cases a
   exact .cons _ _ (ih _ b)
theorem xU {l:OpenLaw}{n:Nat} (hn:l.most=some n) {P:Params}{h:Heap}{args:List WData}{vals:List Value}
  (hpre:l.row.toRowW.claim.pre args=true) (hwl:WellAll P h vals args) :
  ∃a vs ns,vals=[Value.ref a]/\args=[WData.list (ns.map WData.int)]/\h.get? a=some { cls:=.type "list",data:=.seq vs.toArray }/\IntsAre vs ns/\ns.length <= n:=by
 have hsh:WShape.hasAll [] args [.list .int]=true:=(pre_splitW hpre).1
 have hc:l.pre.holds [] { args:=args }=true:=(pre_splitW hpre).2
 obtain ⟨d,r,rfl,h1,h2⟩:=hasAllW_cons hsh
 obtain rfl:=hasAllW_nil h2
 obtain ⟨xs,rfl,h3⟩:=hasW_list h1
 obtain ⟨ns,rfl⟩:=items_int h3
 have hlen:ns.length <= n:=by
  unfold OpenLaw.pre at hc
  have h4:(WTm.not (.lt (.lit (.int (n:Int))) (.len (.arg 0)))).holds [] { args:=[.list (ns.map .int)] }=true:=by
   have h4:=(holds_andW hc).1
   rw [hn] at h4
   exact h4
  have h5:=condW_of h4 (w_not (w_lt w_lit (w_len_list (w_arg rfl))))
  rw [List.length_map] at h5
  refine Nat.le_of_not_lt fun q=>?_
  have q':(n:Int) < ((ns.length:Nat):Int):=by omega
  first
   | (rw [decide_eq_true q'] at h5;exact absurd h5 (by decide))
   | (simp at h5;omega)
 cases hwl with
 | cons w1 w2 =>
  cases w2
  cases w1 with
  | list ho hall=>exact ⟨_,_,ns,rfl,rfl,ho,nI ns _ hall,hlen⟩
theorem yk (l:OpenLaw) (args:List WData):l.row.toRowW.claim.post args (.bool true) args=true :=
 postW_of (r:=l.row.toRowW) (X:=(true == true))
  (show WShape.has [] (.bool true) .bool=true by first | rfl | decide | simp [WShape.has,WShape.arms,WShape.armsAll])
  (show (WTm.eq .res (.lit (.bool true))).value [] { args:=args,res:=some (.bool true),after:=args }=some (.bool (true == true)) from w_eq_bool (w_res rfl) w_lit) rfl
theorem uM {l:OpenLaw}{n:Nat}{q:Program}{loose:List Str}{XP:(Str->Option Value)->Heap->Prop}{YP:World->Heap->Prop}{d:DefRec}
  (hn:l.most=some n) (hdf:d.params.defaults=[])
  (call:∀(w:World) (s₀ s₁:Shared) (mg mb:Str->Option Value) (fa:Addr) (o:Obj) (pm cd doc:Value) (a:Addr) (vs:List Value) (ns:List Int),
   Ground q loose [] XP w s₀ mg mb s₁.heap->YP w s₁.heap ->
   s₁.heap.get? fa=some o->o.data=.func (docDef d.name d.params d.body d.scope pm cd doc)->s₁.heap.CodeRec cd d.name->mg d.name=some (.ref fa) ->
   s₁.heap.get? a=some { cls:=.type "list",data:=.seq vs.toArray }->IntsAre vs ns->ns.length <= n->s₁.gens=#[] ->
   codeAny (model l.prog w) callerA (.call (.ref fa) ⟨[.ref a],[]⟩) (fun r s'=>r=.ok (.ret (.bool true))/\OldK s₁.heap s'.heap/\s'.os=s₁.os/\AllBare s'.gens) s₁) :
  WalkO q loose XP YP l.row.toRowW d [] (fun f vs=>PySem.call f vs):=by
 intro w s₀ s₁ mg mb G Y fa o pm cd doc dV kV ho hd hcd hD hmg hg args vals as hpre hlay hrd hwl hlo
 obtain rfl:dV=.none:=Dflts.none hD hdf
 obtain rfl:kV=.none:=Dflts.noKw hD
 obtain ⟨a,vs,ns,rfl,rfl,hobj,hints,hlen⟩:=xU hn hpre hwl
 refine enter_call (codeAny_mono (call w s₀ s₁ mg mb fa o pm cd doc a vs ns G Y ho (fd_plain hd) hcd hmg hobj hints hlen hg) fun r s' hq=>?_)
 obtain ⟨rfl,h2,h3,h4⟩:=hq
 exact ⟨.inl ⟨.bool true,.bool true,[],rfl,fun _=>rfl,.bool true,yk l _,fun _=>⟨List.Pairwise.nil,fun _ hm=>(nomatch hm)⟩⟩,h2,h3,h4⟩
section
variable {prog:Program}{w:World}{A:Around}{E:Value->Shared->Prop}{s:Shared}{K:Frag}
end
end Att
namespace L2
open PySem PySem.Spec PyProof.Rows
theorem qU:∀{vs:List Value}{ns:List Int},IntsAre vs ns->Vals (ns.map V.int) vs
 | _,_,.nil=>.nil
 | _,_,.cons n t h=>.cons ⟨t,rfl⟩ (qU h)
def Ck (H:Hp):Prop:=∀b,H b=none \/ ∃o xs,H b=some (.frz o (.lst xs))
theorem AF {P:Program}{w:World}{K:W.Frag}{mg mb:Str->Option Value}{CX:CXT}{k:Nat}{fa a:Addr}{fd:FuncData}{x:Str}{sp:Sp}{s₁:Shared}{vs:List Value}{ns:List Int}
  (KX:K.In s₁.heap) (hns:s₁.heap.Ns mainGlobals mg) (hb:s₁.heap.Ns builtinsNs mb) (hbb:∀x:Str,x ≠ "__name__"->mb x=bootBuiltins x) (hlim:s₁.heap.NoLimit) (hg:s₁.gens=#[])
  (ha:s₁.heap.get? a=some { cls:=.type "list",data:=.seq vs.toArray }) (hi:IntsAre vs ns) (hl:ns.length <= sizeLine) (hr:cZ k callerA)
  (F:∀base:Heap,K.In base->base.Ns mainGlobals mg->lM P w K mg base CX k fa fd [x] sp) (hbind:∀(s:Shared) (u:Value),BindsTo s fd ⟨[u],[]⟩ [(x,u)])
  (hsp:∀H:Hp,Ck H->SqL K H a (ns.map V.int)->sp [.ref a] H (fun v _=>v=.bl true) fun _ _ _=>False)
  (hCX:∀H e s',CX [] H s₁ (fun _ _ _=>False) e s'->False) :
  codeAny (model P w) callerA (.call (.ref fa) ⟨[.ref a],[]⟩) (fun r s'=>r=.ok (.ret (.bool true))/\OldK s₁.heap s'.heap/\s'.os=s₁.os/\AllBare s'.gens) s₁:=by
 have rv:=qU hi
 have lenV:=hi.length
 have core:∀H:Hp,Ck H->SqL K H a (ns.map V.int)->HOk P w H s₁.heap->(∀b,H b ≠ none->b=a)->(H a ≠ none->K.lookup a=none) ->
   codeAny (model P w) callerA (.call (.ref fa) ⟨[.ref a],[]⟩) (fun r s'=>r=.ok (.ret (.bool true))/\OldK s₁.heap s'.heap/\s'.os=s₁.os/\AllBare s'.gens) s₁:=by
  intro H hO hS hok hA hK
  have base_of:∀{b:Addr}{o:Obj},s₁.heap.get? b=some o->H b=none->(rn s₁.heap H).get? b=some o:=fun e n=>yP e n
  have noA:∀{b:Addr}{o:Obj}{es:Array DictEntry}{ep:Nat},s₁.heap.get? b=some o->o.data=.dict es ep->H b=none:=fun {b o es ep} e d=>by
   cases q:H b with
   | none=>rfl
   | some u =>
    have e':b=a:=hA b (by rw [q];simp)
    subst e'
    rw [ha] at e;cases e
    have d':Data.seq vs.toArray _=Data.dict es ep:=d
    cases d'
  have nsK:∀{b:Addr}{m:Str->Option Value},s₁.heap.Ns b m->(rn s₁.heap H).Ns b m:=fun {b m} ⟨o,es,ep,e,d,r⟩=>⟨o,es,ep,base_of e (noA e d),d,r⟩
  have hKb:K.In (rn s₁.heap H):=fun b o e=>base_of (KX b o e) (by
   cases q:H b with
   | none=>rfl
   | some u =>
    have e':b=a:=hA b (by rw [q];simp)
    subst e'
    rw [hK (by rw [q];simp)] at e;cases e)
  have hM:Mod K mg (rn s₁.heap H):=⟨hKb,nsK hns,⟨mb,nsK hb,hbb⟩,let ⟨mc,h1,h2⟩:=hlim;⟨mc,nsK h1,h2⟩⟩
  have e0:vQ P w K mg (rn s₁.heap H) callerA [] s₁ H:=⟨rfl,hM,fun b o e=>BP e,Nat.le_of_eq (ye _ _),trivial,fun b hb=>absurd (show b ∈ ([]:List Addr) from hb) (by simp),hok,.of_eq hg⟩
  refine codeAny_mono ((F _ hKb (nsK hns)).run callerA [] s₁ H ⟨[.ref a],[]⟩ [.ref a] [.ref a] _ _ hr e0 (hbind s₁ (.ref a)) (.cons rfl .nil) (hsp H hO hS)) fun r s' h=>?_
  cases r with
  | error e=>exact (hCX H e s' h).elim
  | ok fl =>
   cases fl with
   | next=>exact False.elim h
   | brk=>exact False.elim h
   | cont=>exact False.elim h
   | ret u =>
    obtain ⟨v,H',os,bare,un,hok',r',q⟩:=h
    have q':v=.bl true:=q
    subst q'
    obtain rfl:u=Value.bool true:=r'
    refine ⟨rfl,OldK.of_keep fun b o e=>?_,os,bare⟩
    cases q:H b with
    | none=>exact un.keep b o e q (by intro z;exact absurd (show b ∈ ([]:List Addr) from z) (by simp)) (by simp)
    | some u =>
     rcases hO b with z | ⟨ob,xs,z⟩
     ·rw [q] at z;cases z
     ·have z2:=un.p6 b ob _ z
      obtain ⟨e1,_⟩:=hok b _ z
      obtain ⟨e2,_⟩:=hok' b _ z2
      rw [e] at e1;cases e1
      exact e2
 cases hk:K.lookup a with
 | some o =>
  have e:=KX a o hk
  rw [ha] at e
  cases e
  refine core (fun _=>none) (fun _=>.inl rfl) (.inr ⟨_,vs.toArray,_,hk,rfl,rfl,rfl,by rw [List.size_toArray,lenV];exact hl,by simpa using rv⟩) (fun b u z=>by have z':(none:Option HO)=some u:=z;cases z') (fun b z=>absurd rfl z) fun z=>absurd rfl z
 | none =>
  refine core (fun b=>if b=a then some (.frz { cls:=.type "list",data:=.seq vs.toArray } (.lst (ns.map V.int))) else none) (fun b=>?_) (.inl (.inr ⟨{ cls:=.type "list",data:=.seq vs.toArray },if_pos rfl⟩)) (fun b u z=>?_) (fun b z=>?_) fun _=>hk
  ·by_cases hb:b=a
   ·exact .inr ⟨_,_,if_pos hb⟩
   ·exact .inl (if_neg hb)
  ·by_cases hb:b=a
   ·have z':=(if_pos hb).symm.trans z
    cases z'
    subst hb
    exact ⟨ha,by rw [List.length_map];exact hl,vs,_,rv,ha⟩
   ·have z':=(if_neg hb).symm.trans z
    cases z'
  ·by_cases hb:b=a
   ·exact hb
   ·exact absurd (if_neg hb) z
end L2
namespace L2
open PySem PySem.Spec PyProof.Rows
theorem Bw {l:W.OpenLaw}{n k:Nat}{q:Program}{loose:List Str}{XP:(Str->Option Value)->Heap->Prop}{YP:World->Heap->Prop}{d:DefRec}{K:Params->W.Frag}{CX:World->CXT}{sp:World->Sp}{x:Str}
  (hn:l.most=some n) (hn2:n <= sizeLine) (hdf:d.params.defaults=[]) (hr:cZ k callerA)
  (hY:∀(w:World) (h:Heap),YP w h->(K w.params).In h)
  (F:∀(w:World) (mg:Str->Option Value) (fa:Addr) (h:Heap),(K w.params).In h->h.Ns mainGlobals mg->mg d.name=some (.ref fa) ->
   ∃fd:FuncData,(∀(s:Shared) (u:Value),BindsTo s fd ⟨[u],[]⟩ [(x,u)]) /\
    ∀base:Heap,(K w.params).In base->base.Ns mainGlobals mg->lM l.prog w (K w.params) mg base (CX w) k fa fd [x] (sp w))
  (hsp:∀(w:World) (H:Hp) (a:Addr) (ns:List Int),ns.length <= n->Ck H->SqL (K w.params) H a (ns.map V.int)->sp w [.ref a] H (fun v _=>v=.bl true) fun _ _ _=>False)
  (hCX:∀(w:World) (H:Hp) (s:Shared) (e:Value) (s':Shared),CX w [] H s (fun _ _ _=>False) e s'->False) :
  W.WalkO q loose XP YP l.row.toRowW d [] (fun f vs=>PySem.call f vs):=by
 refine Att.uM hn hdf fun w s₀ s₁ mg mb fa o pm cd doc a vs ns G Y ho hd hcd hmg hobj hints hlen hg=>?_
 have KX:=hY w _ Y
 obtain ⟨fd,hb,hF⟩:=F w mg fa _ KX G.T.g hmg
 exact AF KX G.T.g G.T.b G.T.builtins G.T.nolimit hg hobj hints (Nat.le_trans hlen hn2) hr hF hb (fun H hO hS=>hsp w H a ns hlen hO hS) fun H e s'=>hCX w H s₁ e s'
end L2
namespace L2
open PySem PySem.Spec PyProof.Rows
abbrev CX0:CXT:=fun _ _ _ _ _ _=>False
abbrev E0:XK:=fun _ _ _=>False
theorem ux {X:Cx}:Passes CX0 X E0:=fun _ _ _ _ _ _ _ h=>h.elim
structure Fun (K:W.Frag) (x qual:Str) (st:Stmt) (f:Addr) (fd:FuncData):Prop where
 ex:∃(oc:Value) (od:Option Addr) (kV doc pm:Value) (an:Option Addr) (cdv ct:Value) (osl:Array (Option Value)),
  fd=W.fnOf x qual (bD st) (bq st) (aq st) .none kV doc pm an cdv ct/\K.lookup f=some ⟨oc,od,.func fd,osl⟩/\W.codeIn K cdv qual=true
 kp:W.keepIn K (.ref f)=true
section
variable {P:Program}{w:World}{K:W.Frag}{mg:Str->Option Value}{base:Heap}
theorem Fun.ok {x qual:Str}{st:Stmt}{f:Addr}{fd:FuncData}{N ps:List Str}{k:Nat}{sp:Sp} (F:Fun K x qual st f fd) (S:az N ps (aq st)) (len:∀vs H Q E,sp vs H Q E->vs.length=ps.length)
  (hbody:∀(cdv:Value) (A:Around) (outer:List Env) (s:Shared) (H:Hp) (vs:List V) (Q:VK) (E:XK),cZ k (A.deeper (envOfC qual (aq st) s.heap.objs.size f cdv))->sp vs H Q E ->
   ∃t,PSs (rD CX0 P w K mg base N qual (aq st) f cdv A outer s H E).nox (bq st) t/\t { nx:=fun _ H'=>Q .non H',rt:=Q } (start N vs) H):lM P w K mg base CX0 (k + 1) f fd ps sp:=by
 obtain ⟨oc,od,kV,doc,pm,an,cdv,ct,osl,rfl,lk,hcd⟩:=F.ex
 refine Ca lk hcd S len fun A outer s H vs Q E hr hsp=>?_
 obtain ⟨t,h,q⟩:=hbody cdv A outer s H vs Q E hr hsp
 exact ⟨t,h.nox,q⟩
theorem Fun.binds {x qual:Str}{st:Stmt}{f:Addr}{fd:FuncData}{ps:List Str} (F:Fun K x qual st f fd)
  (h:∀(kV doc pm:Value) (an:Option Addr) (cdv ct:Value) (us:List Value),us.length=ps.length->bindArgs (W.fnOf x qual (bD st) (bq st) (aq st) .none kV doc pm an cdv ct) ⟨us,[]⟩=pure (ps.zip us)):Binds K fd ps []:=by
 obtain ⟨oc,od,kV,doc,pm,an,cdv,ct,osl,rfl,lk,hcd⟩:=F.ex
 exact .all (h kV doc pm an cdv ct)
theorem rE {x qual:Str}{st:Stmt}{f:Addr}{oc:Value}{od an:Option Addr}{osl:Array (Option Value)}{kV doc pm cdv ct:Value} (l:K.lookup f=some ⟨oc,od,.func (W.fnOf x qual (bD st) (bq st) (aq st) .none kV doc pm an cdv ct),osl⟩)
  (c:W.codeIn K cdv qual=true) (k:W.keepIn K (.ref f)=true):Fun K x qual st f (W.fnOf x qual (bD st) (bq st) (aq st) .none kV doc pm an cdv ct):=⟨⟨oc,od,kV,doc,pm,an,cdv,ct,osl,rfl,l,c⟩,k⟩
end
theorem aH {n:Nat} (h:n <= 1000):n < sizeLine:=Nat.lt_of_le_of_lt h (by decide)
section
variable {X:Cx}
end
theorem bz {A B:Prop} (h:B):if false=true then A else B:=by
 rw [if_neg Bool.false_ne_true]
 exact h
theorem c0 {A B:Prop} (h:A):if true=true then A else B:=by
 rw [if_pos rfl]
 exact h
theorem aU {c A B:Prop} [Decidable c] (h1:c->A) (h2:¬ c->B):if c then A else B:=by
 by_cases h:c
 ·rw [if_pos h]
  exact h1 h
 ·rw [if_neg h]
  exact h2 h
def ai (H H':Hp):Prop:=∀b o,H b=some o->H' b=some o
theorem ai.refl (H:Hp):ai H H:=fun _ _ h=>h
theorem ai.trans {H H1 H2:Hp} (a:ai H H1) (b:ai H1 H2):ai H H2:=fun c o h=>b c o (a c o h)
theorem ai.free {H H':Hp} (e:ai H H') {l:Addr} (h:H' l=Option.none):H l=Option.none:=by
 cases q:H l with
 | none=>rfl
 | some o =>
  rw [e l o q] at h
  cases h
theorem ai.seq {K:W.Frag}{H H':Hp}{a:Addr}{xs:List V} (e:ai H H') (h:SqL K H a xs):SqL K H' a xs:=by
 rcases h with (h | ⟨o,h⟩) | h
 ·exact .inl (.inl (e _ _ h))
 ·exact .inl (.inr ⟨o,e _ _ h⟩)
 ·exact .inr h
end L2
namespace L2
open PySem PySem.Spec PyProof.Rows
theorem mH {α β:Type}{l:List α}{f:α->β->Sem (ForInStep β)} (g:β->α->β) (c:β) (h:∀x ∈ l,∀c,f x c=pure (.yield (g c x))) :
  forIn l c f=pure (l.foldl g c):=by
 induction l generalizing c with
 | nil=>rfl
 | cons x l ih =>
  rw [List.forIn_cons,h x List.mem_cons_self,pure_bind]
  exact ih _ fun y hy=>h y (List.mem_cons_of_mem _ hy)
def dF (env:Env) (cs:List (Str × Addr)) (x:Str × NameKind):List (Str × Addr) :=
 if x.2 == .free then (x.1,(env.cells.lookup x.1).getD 0) :: cs else cs
def oK (env:Env) (names:List (Str × NameKind)):List (Str × Addr):=names.foldl (dF env) []
theorem nW {scope:Scope}{env:Env} (h:∀x ∈ scope.names,x.2=.free->∃c,env.cells.lookup x.1=some c):closureFor scope env=pure (oK env scope.names):=by
 simp only [closureFor]
 rw [mH (dF env) [] (fun x hx c=>by
  obtain ⟨n,kind⟩:=x
  cases hk:kind == NameKind.free with
  | false=>simp only [dF,hk,Bool.false_eq_true,if_false]
  | true =>
   obtain ⟨a,ha⟩:=h (n,kind) hx (by simpa using hk)
   have ha':env.cells.lookup n=some a:=ha
   simp only [dF,hk,if_true,cellOf,ha',Option.getD_some,pure_bind])]
 rfl
theorem oY {env:Env}:∀{names:List (Str × NameKind)}{cs:List (Str × Addr)}{n:Str}{c:Addr},(n,c) ∈ names.foldl (dF env) cs->(n,c) ∈ cs \/ ((n,NameKind.free) ∈ names/\c=(env.cells.lookup n).getD 0)
 | [],_,_,_,h=>.inl h
 | (m,k) :: r,cs,n,c,h=>by
  rcases oY (names:=r) (cs:=dF env cs (m,k)) h with h | ⟨h,e⟩
  ·unfold dF at h
   by_cases hk:(k == NameKind.free)=true
   ·rw [if_pos hk] at h
    rcases List.mem_cons.mp h with e | h
    ·cases e
     have hk':k=.free:=by simpa using hk
     subst hk'
     exact .inr ⟨List.mem_cons_self,rfl⟩
    ·exact .inl h
   ·rw [if_neg hk] at h
    exact .inl h
  ·exact .inr ⟨List.mem_cons_of_mem _ h,e⟩
theorem qZ {env:Env}{p:Str × Addr}:∀{names:List (Str × NameKind)}{cs:List (Str × Addr)},p ∈ cs->p ∈ names.foldl (dF env) cs
 | [],_,h=>h
 | x :: r,cs,h=>qZ (names:=r) (cs:=dF env cs x) (by
  unfold dF
  split
  ·exact List.mem_cons_of_mem _ h
  ·exact h)
theorem sD {env:Env}{n:Str}:∀{names:List (Str × NameKind)}{cs:List (Str × Addr)},(n,NameKind.free) ∈ names->(n,(env.cells.lookup n).getD 0) ∈ names.foldl (dF env) cs
 | x :: r,cs,h=>by
  rcases List.mem_cons.mp h with e | h
  ·subst e
   refine qZ (names:=r) (cs:=dF env cs (n,.free)) ?_
   unfold dF
   rw [if_pos (by rfl)]
   exact List.mem_cons_self
  ·exact sD (names:=r) h
theorem ie {α:Type}:∀{l:List (Str × α)}{n:Str}{c:α},(n,c) ∈ l->∃c',l.lookup n=some c'
 | (k,v) :: r,n,c,h=>by
  rw [List.lookup_cons]
  cases hb:n == k with
  | true=>exact ⟨v,rfl⟩
  | false =>
   rcases List.mem_cons.mp h with e | h
   ·cases e;simp at hb
   ·exact ie h
theorem dO:∀{names:List (Str × NameKind)}{k:Nat}{acc:List (Str × Addr)}{n:Str}{c:Addr},(n,c) ∈ cellsFrom k names acc->(n,c) ∈ acc \/ (k <= c/\(n,NameKind.cell) ∈ names)
 | [],_,_,_,_,h=>.inl h
 | (m,kd) :: r,k,acc,n,c,h=>by
  unfold cellsFrom at h
  by_cases hk:(kd == NameKind.cell)=true
  ·rw [if_pos hk] at h
   have hk':kd=.cell:=by simpa using hk
   subst hk'
   rcases dO (names:=r) h with h | ⟨h1,h2⟩
   ·rcases List.mem_cons.mp h with e | h
    ·cases e
     exact .inr ⟨Nat.le_refl _,List.mem_cons_self⟩
    ·exact .inl h
   ·exact .inr ⟨by omega,List.mem_cons_of_mem _ h2⟩
  ·rw [if_neg hk] at h
   rcases dO (names:=r) h with h | ⟨h1,h2⟩
   ·exact .inl h
   ·exact .inr ⟨h1,List.mem_cons_of_mem _ h2⟩
theorem ic:∀{names:List (Str × NameKind)}{k:Nat}{acc:List (Str × Addr)},(∀n c,(n,c) ∈ acc->c < k)->(∀n n' c,(n,c) ∈ acc->(n',c) ∈ acc->n=n') ->
  ∀{n n':Str}{c:Addr},(n,c) ∈ cellsFrom k names acc->(n',c) ∈ cellsFrom k names acc->n=n'
 | [],_,_,_,hi,_,_,_,h,h'=>hi _ _ _ h h'
 | (m,kd) :: r,k,acc,hl,hi,n,n',c,h,h'=>by
  unfold cellsFrom at h h'
  by_cases hk:(kd == NameKind.cell)=true
  ·rw [if_pos hk] at h h'
   refine ic (names:=r) (acc:=(m,k) :: acc) (fun a b hab=>?_) (fun a a' b ha ha'=>?_) h h'
   ·rcases List.mem_cons.mp hab with e | e
    ·cases e;exact Nat.lt_succ_self _
    ·exact Nat.lt_succ_of_lt (hl _ _ e)
   ·rcases List.mem_cons.mp ha with e | e <;> rcases List.mem_cons.mp ha' with e' | e'
    ·cases e;cases e';rfl
    ·cases e;exact absurd (hl _ _ e') (Nat.lt_irrefl _)
    ·cases e';exact absurd (hl _ _ e) (Nat.lt_irrefl _)
    ·exact hi _ _ _ e e'
  ·rw [if_neg hk] at h h'
   exact ic (names:=r) hl hi h h'
theorem fM:∀{names:List (Str × NameKind)}{h:Heap}{acc:List (Str × Addr)}{n:Str}{c:Addr},(n,c) ∈ cellsFrom h.objs.size names acc->(n,c) ∈ acc \/ (pushCells h names).IsCell c none
 | [],_,_,_,_,q=>.inl q
 | (m,kd) :: r,h,acc,n,c,q=>by
  unfold cellsFrom at q
  unfold pushCells
  by_cases hk:(kd == NameKind.cell)=true
  ·rw [if_pos hk] at q
   rw [if_pos hk]
   have e:h.objs.size + 1=(h.push { cls:=.type "cell",data:=.cell none }).objs.size:=(Heap.size_push ..).symm
   rw [e] at q
   rcases fM (names:=r) q with q | q
   ·rcases List.mem_cons.mp q with e' | q
    ·cases e'
     exact .inr ⟨_,pushCells_keeps r _ _ _ (Heap.get?_push_size _ rfl),rfl⟩
    ·exact .inl q
   ·exact .inr q
  ·rw [if_neg hk] at q
   rw [if_neg hk]
   exact fM (names:=r) q
theorem hU {x:Str}:∀{names:List (Str × NameKind)}{k:Nat}{acc:List (Str × Addr)},(x,NameKind.cell) ∉ names->(cellsFrom k names acc).lookup x=acc.lookup x
 | [],_,_,_=>rfl
 | (m,kd) :: r,k,acc,h=>by
  unfold cellsFrom
  have hr:(x,NameKind.cell) ∉ r:=fun z=>h (List.mem_cons_of_mem _ z)
  by_cases hk:(kd == NameKind.cell)=true
  ·have hk':kd=.cell:=by simpa using hk
   subst hk'
   rw [if_pos hk,hU hr,List.lookup_cons]
   have ne:(x == m)=false:=by
    cases hb:x == m with
    | false=>rfl
    | true=>exact absurd (by rw [beq_iff_eq.mp hb];exact List.mem_cons_self) h
   rw [ne]
  ·rw [if_neg hk]
   exact hU hr
section
variable {M:Model}{A:Around}{E:Value->Shared->Prop}{s:Shared}
theorem uw {scope:Scope}{globals:Addr}{cl:List (Str × Addr)}{qual:Str}{zp:Env}{Q:Env->Shared->Prop}
  (h:Q (newEnv scope s.heap.objs.size globals (cellsFrom (s.heap.objs.size + 1) scope.names cl) qual none .none (some zp) builtinsNs) { s with heap:=pushCells (s.heap.push { cls:=.type "dict",data:=.dict #[] }) scope.names }) :
  wpAny M A (newFunctionEnv scope globals cl [] qual none .none (some zp)) Q E s:=by
 simp only [newFunctionEnv,Option.isSome_some,if_true]
 refine wpAny_bind (wpAny_alloc ?_)
 refine wpAny_bind (wpAny_layCells _ (fun name kind cells=>by cases hkc:kind == NameKind.cell <;> simp [hkc]) _ _ _ _ ?_)
 rw [show ({ s with heap:=s.heap.push { cls:=.type "dict",data:=.dict #[] } }:Shared).heap.objs.size=s.heap.objs.size + 1 from Heap.size_push ..]
 refine wpAny_bind ?_
 rw [List.forIn_nil]
 exact wpAny_pure (wpAny_pure h)
end
structure CB where
 C:Addr
 ex:List Addr
 s:Shared
 H:Hp
def cxC (X:Cx) (N:List Str) (scope:Scope) (b:CB):Cx:={ X with
 N:=N
 s₀:=b.s
 H₀:=b.H
 env:=compEnvC scope (cellsFrom (b.C + 1) scope.names (oK X.env scope.names)) b.C X.env
 outer:=X.stack
 ex:=b.ex
 fn:=fun x=>scope.names.lookup x == some .cell
 pn:=[]
 xe:=fun _ _=>False }
theorem jE {env:Env}{x:Str}:∀{names:List (Str × NameKind)},
  (names.map fun (n,k)=>if (k == NameKind.free && env.scope.kind == .function && env.kindOf n == some .cell) then (n,NameKind.cell) else (n,k)).lookup x =
   (names.lookup x).map fun k=>if (k == NameKind.free && env.scope.kind == .function && env.kindOf x == some .cell) then NameKind.cell else k
 | []=>rfl
 | (n,k) :: r=>by
  have ih:=@jE env x r
  show List.lookup x ((if (k == NameKind.free && env.scope.kind == .function && env.kindOf n == some .cell)=true then (n,NameKind.cell) else (n,k)) :: _)=_
  cases hx:x == n with
  | true =>
   have e:x=n:=beq_iff_eq.mp hx
   subst e
   by_cases hc:(k == NameKind.free && env.scope.kind == .function && env.kindOf x == some .cell)=true
   ·rw [if_pos hc];simp only [List.lookup_cons,hx,Option.map_some,hc,if_true]
   ·rw [if_neg hc];simp only [List.lookup_cons,hx,Option.map_some];rw [if_neg hc]
  | false =>
   by_cases hc:(k == NameKind.free && env.scope.kind == .function && env.kindOf n == some .cell)=true
   ·rw [if_pos hc];simp only [List.lookup_cons,hx];exact ih
   ·rw [if_neg hc];simp only [List.lookup_cons,hx];exact ih
structure cc (psc:Scope) (PN N:List Str) (own:Nat) (fr:List Nat) (scope:Scope):Prop where
 kind:scope.kind=.function
 nd:(scope.names.map (·.1)).Nodup
 free:∀x ∈ scope.names,x.2=.free->psc.names.lookup x.1=some .cell \/ psc.names.lookup x.1=some .free
 len:N.length=own + fr.length
 frn:∀i,i < fr.length->N[own + i]?=(fr[i]?).bind fun j=>PN[j]?
 frk:∀i,i < fr.length->∀y,N[own + i]?=some y->scope.names.lookup y=some .free
def wL (psc:Scope) (PN N:List Str) (own:Nat) (fr:List Nat) (scope:Scope):Bool :=
 scope.kind == .function && decide (scope.names.map (·.1)).Nodup && scope.names.all (fun x=>x.2 != .free || (psc.names.lookup x.1 == some .cell || psc.names.lookup x.1 == some .free)) &&
  (N.length == own + fr.length) && ((fr.map fun j=>PN[j]?) == (N.drop own).map some) && (N.drop own).all (fun y=>scope.names.lookup y == some .free)
theorem cc.of {psc:Scope}{PN N:List Str}{own:Nat}{fr:List Nat}{scope:Scope} (h:wL psc PN N own fr scope=true):cc psc PN N own fr scope:=by
 unfold wL at h
 simp only [Bool.and_eq_true] at h
 obtain ⟨⟨⟨⟨⟨h1,h2⟩,h3⟩,h4⟩,h5⟩,h6⟩:=h
 have h4':N.length=own + fr.length:=eq_of_beq h4
 have h5':(fr.map fun j=>PN[j]?)=(N.drop own).map some:=eq_of_beq h5
 have dr:∀i,N[own + i]?=(N.drop own)[i]?:=fun i=>by rw [List.getElem?_drop]
 refine ⟨eq_of_beq h1,of_decide_eq_true h2,fun x hx hk=>?_,h4',fun i hi=>?_,fun i hi y hy=>?_⟩
 ·have q:=List.all_eq_true.mp h3 x hx
  rw [hk] at q
  simpa using q
 ·have q:=congrArg (fun l=>l[i]?) h5'
  simp only [List.getElem?_map] at q
  rw [dr]
  have ej:fr[i]?=some fr[i]:=List.getElem?_eq_getElem hi
  rw [ej] at q ⊢
  cases e:(N.drop own)[i]? with
  | none=>rw [e] at q;cases q
  | some y =>
   rw [e] at q
   exact (Option.some.inj q).symm
 ·rw [dr] at hy
  have q:=List.all_eq_true.mp h6 y (List.mem_of_getElem? hy)
  simpa using q
def cSt (own:Nat) (fr:List Nat) (σ:St):St:=List.replicate own none ++ fr.map fun j=>(σ[j]?).getD none
theorem fu {α:Type}:∀{l:List (Str × α)}{n:Str}{k:α},(l.map (·.1)).Nodup->(n,k) ∈ l->l.lookup n=some k
 | (m,v) :: r,n,k,nd,h=>by
  rw [List.map_cons,List.nodup_cons] at nd
  rw [List.lookup_cons]
  rcases List.mem_cons.mp h with e | h
  ·cases e;simp
  ·have ne:(n == m)=false:=by
    cases hb:n == m with
    | false=>rfl
    | true=>exact absurd (List.mem_map.mpr ⟨(n,k),h,beq_iff_eq.mp hb⟩) nd.1
   rw [ne]
   exact fu nd.2 h
section
variable {X:Cx}{pins:List (Addr × Obj)}{σ:St}{H:Hp}{s:Shared}{N:List Str}{own:Nat}{fr:List Nat}{scope:Scope}
theorem cc.cells (S:cc X.env.scope X.N N own fr scope) (ok:X.Ok):∀x ∈ scope.names,x.2=.free->∃c,X.env.cells.lookup x.1=some c:=fun x hx hk =>
 ok.has x.1 (S.free x hx hk)
theorem cc.cl (S:cc X.env.scope X.N N own fr scope) (ok:X.Ok) {n:Str}{c:Addr} (h:(n,c) ∈ oK X.env scope.names):X.env.cells.lookup n=some c:=by
 rcases oY h with h | ⟨h,e⟩
 ·cases h
 ·obtain ⟨c',e'⟩:=S.cells ok (n,.free) h rfl
  have e2:X.env.cells.lookup n=some c':=e'
  rw [e2] at e
  rw [e,e2]
  rfl
theorem zh {D C:Addr}{h':Heap}{fp:List Addr} (S:cc X.env.scope X.N N own fr scope) (I:Inv X pins σ H s) (hD:D=s.heap.objs.size) (hC:C=s.heap.objs.size + 1)
  (hh:h'=pushCells ((s.heap.push { cls:=.type "list",data:=.seq #[] }).push { cls:=.type "dict",data:=.dict #[] }) scope.names) (hfp:∀b ∈ fp,oG X pins H b) (hlt:∀b ∈ fp,b < s.heap.objs.size) :
  Inv (cxC X N scope ⟨C,fp,s,H⟩) [] (cSt own fr σ) (upd H D (.lst [])) { s with heap:=h' }:=by
 subst hD hC
 have eD:(s.heap.push { cls:=.type "list",data:=.seq #[] }).objs.size=s.heap.objs.size + 1:=Heap.size_push ..
 have eC:((s.heap.push { cls:=.type "list",data:=.seq #[] }).push { cls:=.type "dict",data:=.dict #[] }).objs.size=s.heap.objs.size + 2:=by rw [Heap.size_push,eD]
 have keep:∀b o,s.heap.get? b=some o->h'.get? b=some o:=fun b o e=>by
  rw [hh]
  exact pushCells_keeps _ _ _ _ (Heap.get?_push_of_some _ (Heap.get?_push_of_some _ e))
 have lst:h'.get? s.heap.objs.size=some { cls:=.type "list",data:=.seq #[] }:=by
  rw [hh]
  exact pushCells_keeps _ _ _ _ (Heap.get?_push_of_some _ (Heap.get?_push_size _ rfl))
 have dct:h'.get? (s.heap.objs.size + 1)=some { cls:=.type "dict",data:=.dict #[] }:=by
  rw [hh]
  refine pushCells_keeps _ _ _ _ ?_
  have:=Heap.get?_push_size (s.heap.push { cls:=.type "list",data:=.seq #[] }) (o:={ cls:=.type "dict",data:=.dict #[] }) rfl
  rw [eD] at this
  exact this
 have hnD:H s.heap.objs.size=none:=I.hok.fresh (Nat.le_refl _)
 have hnC:H (s.heap.objs.size + 1)=none:=I.hok.fresh (Nat.le_succ _)
 have inCl:∀{n:Str}{c:Addr},(n,c) ∈ oK X.env scope.names->X.env.cells.lookup n=some c:=fun h=>S.cl I.ok h
 have clt:∀{n:Str}{c:Addr},X.env.cells.lookup n=some c->c < s.heap.objs.size:=fun h=>by
  obtain ⟨v,z⟩:=I.cell _ _ h
  exact z.lt
 have cases_:∀{n:Str}{c:Addr},(cellsFrom (s.heap.objs.size + 1 + 1) scope.names (oK X.env scope.names)).lookup n=some c->X.env.cells.lookup n=some c \/ (s.heap.objs.size + 2 <= c/\(n,NameKind.cell) ∈ scope.names/\h'.IsCell c none):=fun {n c} h=>by
  have hm:=PySem.mem_of_lookup h
  have hcell:=hm
  rw [show s.heap.objs.size + 1 + 1=((s.heap.push { cls:=.type "list",data:=.seq #[] }).push { cls:=.type "dict",data:=.dict #[] }).objs.size from eC.symm] at hcell
  rcases dO hm with h1 | ⟨h1,h2⟩
  ·exact .inl (inCl h1)
  ·rcases fM hcell with h3 | h3
   ·exact .inl (inCl h3)
   ·exact .inr ⟨h1,h2,by rw [hh];exact h3⟩
 have kindOf:∀x,(cxC X N scope ⟨s.heap.objs.size + 1,fp,s,H⟩).env.kindOf x=(scope.names.lookup x).map fun k=>if (k == NameKind.free && X.env.scope.kind == .function && X.env.kindOf x == some .cell) then NameKind.cell else k:=fun x=>jE
 have hasName:∀x,((cxC X N scope ⟨s.heap.objs.size + 1,fp,s,H⟩).env.kindOf x=some .cell \/ (cxC X N scope ⟨s.heap.objs.size + 1,fp,s,H⟩).env.kindOf x=some .free)->∃c,(cellsFrom (s.heap.objs.size + 1 + 1) scope.names (oK X.env scope.names)).lookup x=some c:=fun x hx=>by
  rw [kindOf] at hx
  have h2:scope.names.lookup x=some .cell \/ scope.names.lookup x=some .free:=by
   cases e:scope.names.lookup x with
   | none=>rw [e] at hx;rcases hx with z | z <;> cases z
   | some k =>
    rw [e] at hx
    by_cases hk:k=.free
    ·exact .inr (by rw [hk])
    ·have hk':(k == NameKind.free)=false:=by simpa using hk
     simp only [Option.map_some,hk',Bool.false_and,Bool.false_eq_true,if_false] at hx
     rcases hx with z | z
     ·exact .inl z
     ·exact .inr z
  rcases h2 with h2 | h2
  ·exact Option.isSome_iff_exists.mp (W.cellsFrom_some scope.names _ _ (.inl h2))
  ·obtain ⟨c,hc⟩:=ie (sD (env:=X.env) (cs:=[]) (PySem.mem_of_lookup h2))
   exact Option.isSome_iff_exists.mp (W.cellsFrom_some scope.names _ _ (.inr (by rw [show (oK X.env scope.names).lookup x=some c from hc];rfl)))
 have cellAt:∀x c,(cellsFrom (s.heap.objs.size + 1 + 1) scope.names (oK X.env scope.names)).lookup x=some c->∃v,h'.IsCell c v:=fun x c e=>by
  rcases cases_ e with q | ⟨_,_,q⟩
  ·obtain ⟨v,o,ho,hd⟩:=I.cell x c q
   exact ⟨v,o,keep c o ho,hd⟩
  ·exact ⟨none,q⟩
 refine ⟨⟨I.ok.mod,S.kind,I.ok.glob,I.ok.blt,Nat.le_succ _,fun y z c h1 h2=>?_,hasName,fun y c hy h=>?_,I.ok.hd,I.ok.frames,.inl rfl,fun b hb=>⟨?_,fun x c e z=>?_⟩,fun b o e=>I.bs b o e,Nat.le_trans I.ok.bsz I.sz,fun b o e hb=>?_,fun b hb hf=>?_,I.stack,I.wm⟩,
  rfl,I.bare,?_,⟨fun _=>none,⟨_,#[],_,dct,rfl,fun e he=>absurd he (by simp),fun _=>rfl⟩,fun i x v h1 h2 h3=>?_⟩,cellAt,?_,fun x c e=>?_,fun p hp=>absurd (show p ∈ ([]:List (Addr × Obj)) from hp) (by simp),?_,?_⟩
 ·
  refine ic (fun n c hm=>?_) (fun n n' c hm hm'=>I.ok.inj n n' c (inCl hm) (inCl hm')) (PySem.mem_of_lookup h1) (PySem.mem_of_lookup h2)
  exact Nat.lt_succ_of_lt (Nat.lt_succ_of_lt (clt (inCl hm)))
 ·
  have hy':scope.names.lookup y=some .cell:=by simpa using (show (scope.names.lookup y == some .cell)=true from hy)
  rcases cases_ h with q | ⟨q,_⟩
  ·rcases dO (PySem.mem_of_lookup h) with q2 | ⟨q2,_⟩
   ·rcases oY q2 with z | ⟨z,_⟩
    ·cases z
    ·have:=fu S.nd z
     rw [hy'] at this
     cases this
   ·exact Nat.le_trans (Nat.le_add_right _ 2) q2
  ·exact Nat.le_trans (Nat.le_add_right _ 2) q
 ·exact Nat.ne_of_lt (Nat.lt_succ_of_lt (hlt b hb))
 ·rcases cases_ e with q | ⟨q,_⟩
  ·exact (hfp b hb).2.2.2.2.1 x c q z
  ·have hb':=hlt b hb
   rw [<- z] at hb'
   exact absurd (Nat.lt_of_lt_of_le hb' (Nat.le_trans (Nat.le_add_right _ 2) q)) (Nat.lt_irrefl _)
 ·rcases (hfp b hb).2.2.2.1 with z | z
  ·exact I.ok.zN b o e z
  ·exact Nat.lt_irrefl _ (Nat.lt_of_lt_of_le (Heap.lt_size e) (Nat.le_trans I.ok.bsz z))
 ·rcases List.mem_cons.mp (I.vW b hf) with z | z
  ·exact (hfp b hb).2.1 z
  ·exact (hfp b hb).2.2.1 z
 ·exact Un.laid keep (Nat.le_refl _) hnD
 ·
  have h1:N[i]?=some x:=h1
  have hlen:i < N.length:=(List.getElem?_eq_some_iff.mp h1).1
  by_cases hi:i < own
  ·exfalso
   have h2':(cSt own fr σ)[i]?=some none:=by
    unfold cSt
    rw [List.getElem?_append_left (by simpa using hi),List.getElem?_replicate,if_pos hi]
   rw [h2'] at h2
   cases h2
  ·have hfi:i - own < fr.length:=by have:=S.len;omega
   have ei:own + (i - own)=i:=by omega
   have hk:=S.frk (i - own) hfi x (by rw [ei];exact h1)
   have hn:=S.frn (i - own) hfi
   rw [ei,h1] at hn
   have ej:fr[i - own]?=some fr[i - own]:=List.getElem?_eq_getElem hfi
   rw [ej] at hn
   have hn':X.N[fr[i - own]]?=some x:=hn.symm
   have h2':(cSt own fr σ)[i]?=some ((σ[fr[i - own]]?).getD none):=by
    unfold cSt
    rw [List.getElem?_append_right (by simpa using Nat.not_lt.mp hi),List.length_replicate,List.getElem?_map,ej]
    rfl
   rw [h2'] at h2
   have h2'':(σ[fr[i - own]]?).getD none=some v:=Option.some.inj h2
   have hσ:σ[fr[i - own]]?=some (some v):=by
    cases e:σ[fr[i - own]]? with
    | none=>rw [e] at h2'';cases h2''
    | some w=>rw [e] at h2'';exact congrArg some h2''
   obtain ⟨m,hm,hl⟩:=I.loc
   have hfree:=S.free (x,.free) (PySem.mem_of_lookup hk) rfl
   obtain ⟨u,r,l⟩:=hl _ x v hn' hσ (hfree.elim (fun z=>.inr (.inl z)) fun z=>.inr (.inr z))
   refine ⟨u,r,.inr ?_⟩
   have hcell:∃c,X.env.cells.lookup x=some c/\s.heap.IsCell c (some u):=by
    rcases l with ⟨l,_⟩ | ⟨_,c,e,z⟩
    ·exfalso
     rcases hfree with z | z
     ·have l':X.env.scope.names.lookup x=some .local:=l
      have z':X.env.scope.names.lookup x=some .cell:=z
      rw [l'] at z';cases z'
     ·have l':X.env.scope.names.lookup x=some .local:=l
      have z':X.env.scope.names.lookup x=some .free:=z
      rw [l'] at z';cases z'
    ·exact ⟨c,e,z⟩
   obtain ⟨c,e,o,ho,hd⟩:=hcell
   refine ⟨?_,c,?_,o,keep c o ho,hd⟩
   ·rw [kindOf,hk]
    by_cases z:(X.env.scope.kind == .function && X.env.kindOf x == some .cell)=true
    ·left
     simp only [Option.map_some,beq_self_eq_true,Bool.true_and,z,if_true]
    ·right
     simp only [Option.map_some,beq_self_eq_true,Bool.true_and]
     rw [if_neg z]
   ·show (cellsFrom (s.heap.objs.size + 1 + 1) scope.names (oK X.env scope.names)).lookup x=some c
    rw [hU fun z=>by
     have:=fu S.nd z
     rw [hk] at this
     cases this]
    obtain ⟨c',hc'⟩:=ie (sD (env:=X.env) (cs:=[]) (PySem.mem_of_lookup hk))
    have hc2:(oK X.env scope.names).lookup x=some c':=hc'
    rw [hc2]
    have:=inCl (PySem.mem_of_lookup hc2)
    rw [e] at this
    exact this.symm
 ·show upd H s.heap.objs.size (.lst []) (s.heap.objs.size + 1)=none
  rw [aQ (Nat.ne_of_gt (Nat.lt_succ_self _))]
  exact hnC
 ·rcases cases_ e with q | ⟨q,_⟩
  ·have:=clt q
   rw [aQ (Nat.ne_of_lt this)]
   exact I.jA x c q
  ·rw [aQ (Nat.ne_of_gt (Nat.lt_of_lt_of_le (Nat.lt_add_of_pos_right (by decide)) q))]
   exact I.hok.fresh (Nat.le_trans (Nat.le_add_right _ 2) q)
 ·exact I.hok.laid keep (Nat.le_refl _) ⟨Nat.zero_le _,[],0,.nil,lst⟩
 ·show (cSt own fr σ).length=N.length
  unfold cSt
  rw [List.length_append,List.length_replicate,List.length_map,S.len]
end
def PF (X:Cx) (ifs:List Expr) (t:TT):Prop :=
 ∀(pins:List (Addr × Obj)) (s:Shared) (σ:St) (H:Hp) (Q:Bool->Hp->Prop),Inv X pins σ H s->t σ H Q ->
  wpAny (model X.prog X.w) X.A (forIn ifs true fun c r=>if r=true then do let ok <- isTrue c X.env (eval c X.env);pure (ForInStep.yield ok) else pure (ForInStep.yield r)) (TP X pins σ Q) X.xe s
def EH:TT:=fun _ H Q=>Q true H
theorem mX {X:Cx}:PF X [] EH:=fun _ _ _ H _ I h=>wpAny_tests_nil ⟨H,I,h⟩
theorem vH {X:Cx}{c:Expr}{t:TT} (h:PT X c t):PF X [c] t:=fun pins s σ H Q I hw=>wpAny_tests_one (h pins s σ H Q I hw)
theorem rB {prog:Program}{w:World}{A:Around}{R:Result->Shared->Prop}{s:Shared}{elt target iter:Expr}{ifs:List Expr}{scope:Scope}{pos:Pos}{it acc:Value}{env:Env} (I:Nat->Shared->Prop)
  (turn:∀n s,I n s->wpAny (model prog w) A (pyNext it) (fun r s₁=>match r with
   | none=>R (.ok .next) s₁
   | some v=>wpAny (model prog w) A (letOwnedTupleGo target it v) (fun _ s₁'=>wpAny (model prog w) A (assign target env v) (fun _ s₂ =>
     wpAny (model prog w) A (forIn ifs true fun c r=>if r=true then do let ok <- isTrue c env (eval c env);pure (ForInStep.yield ok) else pure (ForInStep.yield r)) (fun ok s₃ =>
      if ok=true then wpAny (model prog w) A (eval elt env) (fun x s₄ =>
       wpAny (model prog w) A (call (.builtin "list.append") [acc,x]) (fun _ s₅=>∃m,m < n/\I m s₅) (fun _ _=>False) s₄) (fun _ _=>False) s₃
      else ∃m,m < n/\I m s₃) (fun _ _=>False) s₂) (fun _ _=>False) s₁') (fun _ _=>False) s₁) (fun _ _=>False) s)
  (n:Nat) (h:I n s) :
  codeAny (model prog w) A (.compLoop (.ListComp elt [⟨target,iter,ifs,0⟩] scope pos) 0 it acc env) R s:=by
 refine codeAny_loop rfl I (fun n s hI=>?_) n h
 show wpAny _ A ((compTurn (.ListComp elt [⟨target,iter,ifs,0⟩] scope pos) 0 it acc env).onRaise (fun x=>do noteFrame x env;theTreesLotGoes x)) _ _ s
 refine wpAny_noted ?_
 rw [compTurn_list]
 have no:∀{α:Type}{t:Sem α}{Q:α->Shared->Prop}{E':Value->Shared->Prop}{s':Shared},wpAny (model prog w) A t Q (fun _ _=>False) s'->wpAny (model prog w) A t Q E' s':=fun h=>wpAny_mono h (fun _ _ q=>q) fun _ _ z=>z.elim
 refine wpAny_bind (wpAny_standAt (wpAny_bind (no (wpAny_mono (turn n s hI) (fun r s₁ h₁=>?_) fun _ _ h'=>h'))))
 cases r with
 | none=>exact wpAny_pure h₁
 | some v =>
  refine wpAny_bind (no (wpAny_mono h₁ (fun _ s₁' h₁'=>?_) fun _ _ h'=>h'))
  refine wpAny_bind (no (wpAny_mono h₁' (fun _ s₂ h₂=>wpAny_bind (no (wpAny_mono h₂ (fun ok s₃ h₃=>?_) fun _ _ h'=>h'))) fun _ _ h'=>h'))
  cases ok with
  | false=>exact wpAny_pure ⟨rfl,h₃⟩
  | true =>
   exact wpAny_bind (wpAny_bind (no (wpAny_mono h₃ (fun x s₄ h₄=>wpAny_bind (no (wpAny_mono h₄ (fun _ s₅ h₅=>wpAny_pure (wpAny_pure ⟨rfl,h₅⟩)) fun _ _ h'=>h'))) fun _ _ h'=>h')))
structure mN (J:It) (own:Nat) (fr:List Nat) (g:CB->TG) (tf:CB->TT) (te:CB->TE) (Q:VK) (σ:St) (H1:Hp):Prop where
 go:∀(b:CB) (D:Addr),H1 D=none->∃W:Nat->Nat->St->Hp->Prop,(∃m,W 0 m (cSt own fr σ) (upd H1 D (.lst [])))/\∀i m σ' H',W i m σ' H' ->
  (J.stop i H'/\Q (.ref D) H') \/ (J.go i H'/\∃M:St->Hp->Prop,(∀σ2 H2,M σ2 H2->∃m',m' < m/\W (i + 1) m' σ2 H2)/\∀x H2,J.yld i H' x H2->g b x σ' H2 fun σ3 H3=>tf b σ3 H3 fun k H4 =>
   if k=true then te b σ3 H4 fun y H5=>∃ys,H5 D=some (.lst ys)/\ys.length < sizeLine/\M σ3 (upd H5 D (.lst (ys ++ [y]))) else M σ3 H4)
def zk (wi:TI) (own:Nat) (fr:List Nat) (g:CB->TG) (tf:CB->TT) (te:CB->TE):TE:=fun σ H Q=>wi σ H fun J H1=>mN J own fr g tf te Q σ H1
section
variable {X:Cx}{tg iter elt:Expr}{ifs:List Expr}{scope:Scope}{pos:Pos}{N:List Str}{own:Nat}{fr:List Nat}{wi:TI}{g:CB->TG}{tf:CB->TT}{te:CB->TE}
theorem uH {use:Option (Value->Sem Unit)}{R:Value->Shared->Prop}{pins:List (Addr × Obj)}{s:Shared}{σ:St}{H:Hp}{Q:VK} (S:cc X.env.scope X.N N own fr scope) (hc:X.calm=true) (hi:PI X tg iter wi)
  (hg:∀b,PG (cxC X N scope b) tg (g b)) (hf:∀b,PF (cxC X N scope b) ifs (tf b)) (he:∀b,PE (cxC X N scope b) elt (te b)) (hs:∀x,foldedSetIterable iter X.env x=pure x) (I:Inv X pins σ H s) (h:zk wi own fr g tf te σ H Q)
  (fin:∀(D C:Addr) (oC:Obj) (m:Str->Option Value) (H':Hp) (s':Shared),Inv X (pins ++ [(C,oC)]) σ H' s'->X.s₀.heap.objs.size <= C->(∀p ∈ X.pn ++ pins,p.1 ≠ C)->(∀h':Heap,h'.get? C=some oC->h'.Ns C m)->Q (.ref D) H'->compPost (model X.prog X.w) X.A X.xe use R (.ref D) C (.ok .next) s') :
  wpAny (model X.prog X.w) X.A (comprehension (.ListComp elt [⟨tg,iter,ifs,0⟩] scope pos) scope X.env (firstIterPos [⟨tg,iter,ifs,0⟩] pos) (newList []) false (eval iter X.env) use) R X.xe s:=by
 refine wpAny_comprehension_free rfl hs (nW (S.cells I.ok)) S.kind (fun x hx hk=>?_) (thn (hi pins s σ H _ I h) fun v s1 h1=>thn h1 fun itv s2 h2=>?_)
 ·have:=fu S.nd (show (x.1,x.2) ∈ scope.names from hx)
  rw [this,hk]
 obtain ⟨it,fp,tn,J,H2,e,I2,T,st2,f2,q⟩:=h2
 subst e
 refine wpAny_newObj_type ?_
 refine uw ?_
 have eD:(s2.heap.push { cls:=.type "list",data:=.seq #[] }).objs.size=s2.heap.objs.size + 1:=Heap.size_push ..
 have hD:H2 s2.heap.objs.size=none:=I2.hok.fresh (Nat.le_refl _)
 have hlt:∀b ∈ fp,b < s2.heap.objs.size:=fun b hb=>by
  obtain ⟨o,ho,_⟩:=T.obj 0 _ st2 b hb
  exact Heap.lt_size ho
 obtain ⟨W,⟨m0,w0⟩,turn⟩:=q.go ⟨s2.heap.objs.size + 1,fp,s2,H2⟩ s2.heap.objs.size hD
 have IX:=zh (fp:=fp) S I2 rfl rfl rfl f2 hlt
 have st4:tn 0 (pushCells ((s2.heap.push { cls:=.type "list",data:=.seq #[] }).push { cls:=.type "dict",data:=.dict #[] }) scope.names) :=
  T.keep 0 _ _ st2 fun b _ o e=>pushCells_keeps _ _ _ _ (Heap.get?_push_of_some _ (Heap.get?_push_of_some _ e))
 have fr0:∀b ∈ fp,upd H2 s2.heap.objs.size (.lst []) b=none:=fun b hb=>by
  rw [aQ (Nat.ne_of_lt (hlt b hb))]
  exact (f2 b hb).1
 have cne:∀b ∈ fp,∀x c,(cxC X N scope ⟨s2.heap.objs.size + 1,fp,s2,H2⟩).env.cells.lookup x=some c->c ≠ b:=fun b hb=>((IX.ok.exf b hb).2)
 have stat:∀{H':Hp},(∀b ∈ fp,H' b=none)->∀b ∈ fp,oG (cxC X N scope ⟨s2.heap.objs.size + 1,fp,s2,H2⟩) [] H' b:=fun hn b hb =>
  ⟨hn b hb,(IX.ok.exf b hb).1,IX.ok.yV b hb,.inl hb,cne b hb,fun p hp=>absurd (show p ∈ ([]:List (Addr × Obj)) from hp) (by simp)⟩
 have e4:∀cenv:Env,cenv=newEnv scope (s2.heap.push { cls:=.type "list",data:=.seq #[] }).objs.size X.env.globals (cellsFrom ((s2.heap.push { cls:=.type "list",data:=.seq #[] }).objs.size + 1) scope.names (oK X.env scope.names)) X.env.qual none .none (some X.env) builtinsNs ->
   ({ cenv with scope:=relabel scope X.env }:Env)=(cxC X N scope ⟨s2.heap.objs.size + 1,fp,s2,H2⟩).env/\cenv.locals=s2.heap.objs.size + 1:=fun cenv e=>by
  subst e
  rw [eD]
  exact ⟨rfl,rfl⟩
 obtain ⟨e5,e6⟩:=e4 _ rfl
 have loop:codeAny (model X.prog X.w) X.A (.compLoop (.ListComp elt [⟨tg,iter,ifs,0⟩] scope pos) 0 (.ref it) (.ref s2.heap.objs.size) (cxC X N scope ⟨s2.heap.objs.size + 1,fp,s2,H2⟩).env)
   (compPost (model X.prog X.w) X.A X.xe use R (.ref s2.heap.objs.size) (s2.heap.objs.size + 1)) { s2 with heap:=pushCells ((s2.heap.push { cls:=.type "list",data:=.seq #[] }).push { cls:=.type "dict",data:=.dict #[] }) scope.names }:=by
  refine rB (fun n s'=>∃i σ' H',Inv (cxC X N scope ⟨s2.heap.objs.size + 1,fp,s2,H2⟩) [] σ' H' s'/\tn i s'.heap/\(∀b ∈ fp,H' b=none)/\W i n σ' H') ?_ m0 ⟨0,_,_,IX,st4,fr0,w0⟩
  rintro n s5 ⟨i,σ5,H5,I5,st5,fr5,w5⟩
  rcases turn i n σ5 H5 w5 with ⟨stop,qn⟩ | ⟨go,M,hM,step⟩
  ·refine thn (T.done (cxC X N scope ⟨s2.heap.objs.size + 1,fp,s2,H2⟩) rfl rfl rfl hc i [] s5 σ5 H5 (fun _ _=>False) I5 (stat fr5) st5 stop) fun r s6 ⟨hr,I6⟩=>?_
   subst hr
   obtain ⟨m,hn,_⟩:=I6.loc
   obtain ⟨oC,es,ep,hoC,hd,hk,hm⟩:=id hn
   have IB:Inv X pins σ H5 s6:=I2.Eg (ch:=fp) I6.os I6.base I6.hok I6.bare fun b hb=>⟨(f2 b hb).2.2.2.1,(f2 b hb).2.1,(f2 b hb).2.2.2.2.1,(f2 b hb).2.2.2.2.2⟩
   have young:s2.heap.objs.size <= s2.heap.objs.size + 1:=Nat.le_succ _
   refine fin s2.heap.objs.size (s2.heap.objs.size + 1) oC m H5 s6 (IB.rZ fun p hp=>?_) (Nat.le_trans I2.sz young) (fun p hp=>Nat.ne_of_lt (Nat.lt_of_lt_of_le (Heap.lt_size (I2.pin p hp).1) young)) (fun h' e=>⟨oC,es,ep,e,hd,hk,hm⟩) qn
   rcases List.mem_append.mp hp with z | z
   ·exact IB.pin p (List.mem_append_right _ z)
   ·have ep':p=(s2.heap.objs.size + 1,oC):=by simpa using z
    subst ep'
    exact ⟨hoC,I6.free,Nat.ne_of_gt (Nat.lt_of_lt_of_le I2.lt young),I2.EC young,fun v z=>by rw [hd] at z;cases z⟩
  ·refine thn (T.item (cxC X N scope ⟨s2.heap.objs.size + 1,fp,s2,H2⟩) rfl rfl rfl hc i [] s5 σ5 H5 (fun _ _=>False) I5 (stat fr5) st5 go) fun r s6 ⟨u,hr,h6⟩=>?_
   subst hr
   refine thn h6 fun _ s7 ⟨x,H7,I7,r7,y7,st7,fr7⟩=>?_
   have I7':=I7.pinned (stat fr7) (T.obj _ _ st7)
   refine thn (hg _ _ s7 σ5 H7 x u _ I7' r7 (step x H7 y7)) fun _ s8 ⟨σ8,H8,I8,q8⟩=>?_
   refine thn (hf _ _ s8 σ8 H8 _ I8 q8) fun k s9 ⟨H9,I9,q9⟩=>?_
   have again:∀{H10:Hp}{s10:Shared},Inv (cxC X N scope ⟨s2.heap.objs.size + 1,fp,s2,H2⟩) ([] ++ pA fp s7.heap) σ8 H10 s10->M σ8 H10 ->
     ∃m,m < n/\∃i σ' H',Inv (cxC X N scope ⟨s2.heap.objs.size + 1,fp,s2,H2⟩) [] σ' H' s10/\tn i s10.heap/\(∀b ∈ fp,H' b=none)/\W i m σ' H':=fun {H10 s10} I10 q10=>by
    obtain ⟨m',hm,w10⟩:=hM σ8 H10 q10
    refine ⟨m',hm,i + 1,σ8,H10,I10.jR,T.keep _ _ _ st7 fun b hb o e=>(I10.pin (b,o) (List.mem_append_right _ (List.mem_append_right _ (i4 hb e)))).1,fun b hb=>?_,w10⟩
    obtain ⟨o,e,d⟩:=T.obj _ _ st7 b hb
    exact (I10.pin (b,o) (List.mem_append_right _ (List.mem_append_right _ (i4 hb e)))).2.1
   cases k with
   | false=>exact again I9 q9
   | true =>
    refine thn (he _ _ s9 σ8 H9 _ I9 q9) fun w10 s10 ⟨y,H10,I10,r10,ys,hys,hz,q10⟩=>?_
    refine thn (qC _ s10 σ8 H10 (.ref s2.heap.objs.size) [y] (.ref s2.heap.objs.size) [w10] (fun _ H'=>M σ8 H') I10 rfl (.cons r10 .nil) ⟨_,ys,y,rfl,rfl,hys,hz,q10⟩) fun _ s11 ⟨_,H11,I11,_,q11⟩=>?_
    exact again I11 q11
 have go:codeAny (model X.prog X.w) X.A (.compStart (.ListComp elt [⟨tg,iter,ifs,0⟩] scope pos) 0 (.ref it) (.ref s2.heap.objs.size) (cxC X N scope ⟨s2.heap.objs.size + 1,fp,s2,H2⟩).env)
   (compPost (model X.prog X.w) X.A X.xe use R (.ref s2.heap.objs.size) (s2.heap.objs.size + 1)) { s2 with heap:=pushCells ((s2.heap.push { cls:=.type "list",data:=.seq #[] }).push { cls:=.type "dict",data:=.dict #[] }) scope.names } :=
  codeAny_compStart_list loop (T.self _ 0 _ _ _ st4 loop)
 have fin2:∀(env':Env) (L:Addr),env'=(cxC X N scope ⟨s2.heap.objs.size + 1,fp,s2,H2⟩).env->L=s2.heap.objs.size + 1 ->
   codeAny (model X.prog X.w) X.A (.compStart (.ListComp elt [⟨tg,iter,ifs,0⟩] scope pos) 0 (.ref it) (.ref s2.heap.objs.size) env') (compPost (model X.prog X.w) X.A X.xe use R (.ref s2.heap.objs.size) L)
    { s2 with heap:=pushCells ((s2.heap.push { cls:=.type "list",data:=.seq #[] }).push { cls:=.type "dict",data:=.dict #[] }) scope.names }:=by
  intro env' L h1 h2
  subst h1 h2
  exact go
 exact fin2 _ _ e5 e6
theorem rf {pins:List (Addr × Obj)}{C:Addr}{oC:Obj}{σ':St}{H':Hp}{s':Shared}{h':Heap} (I:Inv X (pins ++ [(C,oC)]) σ' H' s') (hy:X.s₀.heap.objs.size <= C) (hp:∀p ∈ X.pn ++ pins,p.1 ≠ C) (sb:Heap.SameBut C s'.heap h') :
  Inv X pins σ' H' { s' with heap:=h' }:=by
 have pC:=I.pin (C,oC) (List.mem_append_right _ (List.mem_append_right _ (by simp)))
 have I2:Inv X pins σ' H' s':=I.jR
 refine I2.turned (it:=C) (t':=s'.toks) (fun b o hb e=>(sb.2 b hb).trans e) pC.2.1 pC.2.2.1 (.inr hy) (fun x c e z=>?_) hp
 obtain ⟨v,o,ho,hd⟩:=I2.cell x c e
 rw [z,pC.1] at ho
 cases ho
 exact pC.2.2.2.2 v hd
theorem gI (S:cc X.env.scope X.N N own fr scope) (hc:X.calm=true) (hi:PI X tg iter wi) (hg:∀b,PG (cxC X N scope b) tg (g b)) (hf:∀b,PF (cxC X N scope b) ifs (tf b)) (he:∀b,PE (cxC X N scope b) elt (te b))
  (hs:∀x,foldedSetIterable iter X.env x=pure x:=by intro _;rfl):PE X (.ListComp elt [⟨tg,iter,ifs,0⟩] scope pos) (zk wi own fr g tf te):=by
 intro pins s σ H Q I h
 rw [eval_ListComp]
 refine uH (use:=none) S hc hi hg hf he hs I h fun D C oC m H' s' I' hy hp hm q=>?_
 have pC:=I'.pin (C,oC) (List.mem_append_right _ (List.mem_append_right _ (by simp)))
 exact ⟨m,hm _ pC.1,fun h' sb=>⟨.ref D,H',rf I' hy hp sb,rfl,q⟩⟩
theorem vq {j:Nat}{y:Str}{py spos:Pos} (S:cc X.env.scope X.N N own fr scope) (hc:X.calm=true) (hN:X.N.Nodup) (hj:X.N[j]?=some y) (hy:Loc X.env.scope y) (hi:PI X tg iter wi) (hg:∀b,PG (cxC X N scope b) tg (g b)) (hf:∀b,PF (cxC X N scope b) ifs (tf b))
  (he:∀b,PE (cxC X N scope b) elt (te b)) (hfn:X.fn y=true \/ X.env.scope.names.lookup y=some .local:=by first | exact .inl rfl | exact .inr rfl | assumption) (hs:∀x,foldedSetIterable iter X.env x=pure x:=by intro _;rfl)
  (hsw:swapsWith (.ListComp elt [⟨tg,iter,ifs,0⟩] scope pos) (some (.Name y py)) spos.line X.env=pure true:=by rfl) :
  PS X (.Assign [.Name y py] (.ListComp elt [⟨tg,iter,ifs,0⟩] scope pos) spos) (BM (zk wi own fr g tf te) (ky j)):=by
 intro pins s σ H D I h
 rw [exec_Assign_Name_used _ _ _ _ hsw]
 refine wpAny_bind (wpAny_standAt (wpAny_bind ?_))
 show wpAny _ _ (do let _ <- comprehension (.ListComp elt [⟨tg,iter,ifs,0⟩] scope pos) scope X.env _ (newList []) false (eval iter X.env) (some (assign (.Name y py) X.env))) _ _ s
 refine wpAny_bind (thn (uH (use:=some (assign (.Name y py) X.env)) (R:=fun _ s'=>SP X pins D .next s') S hc hi hg hf he hs I h fun D' C oC m H' s' I' hy' hp hm q=>?_) fun _ s' q=>wpAny_pure (wpAny_pure q))
 show wpAny _ _ (assign (.Name y py) X.env (.ref D')) _ _ s'
 refine thn (we hN hj hy hfn _ s' σ H' (.ref D') (.ref D') _ I' rfl q) fun _ s'' ⟨σ2,H2,I2,q2⟩=>?_
 have pC:=I2.pin (C,oC) (List.mem_append_right _ (List.mem_append_right _ (by simp)))
 exact ⟨m,hm _ pC.1,fun h' sb=>⟨σ2,H2,rf I2 hy' hp sb,q2⟩⟩
end
end L2
namespace L2
open PySem PySem.Spec PyProof.Rows
theorem PE.imp {X:Cx}{e:Expr}{t t':TE} (h:PE X e t) (k:∀σ H Q,t' σ H Q->t σ H Q):PE X e t':=fun pins s σ H Q I q=>h pins s σ H Q I (k σ H Q q)
theorem OpR.imp {X:Cx}{f:Value->Value->Sem Value}{r r':R2} (h:OpR X f r) (k:∀x y H Q,r' x y H Q->r x y H Q):OpR X f r':=fun pins s σ H x y v u Q I rx ry q=>h pins s σ H x y v u Q I rx ry (k x y H Q q)
def xQ (i:Nat):TE:=fun σ H Q=>match σ[i]? with
 | some (some v)=>Q v H
 | _=>False
section
variable {X:Cx}
theorem fv (i:Nat) {x:Str}{pos:Pos} (hN:X.N[i]?=some x:=by rfl) (hv:Vis X.env.scope x:=by first | exact Or.inl rfl | exact Or.inr (Or.inl rfl) | exact Or.inr (Or.inr rfl)) (hd:(x == ("__debug__":Str))=false:=by decide)
  (hcd:(x == ("__classdict__":Str))=false:=by decide):PE X (.Name x pos) (xQ i):=(Df hN hv hd hcd).imp fun σ H Q q=>by
 unfold xQ at q
 cases e:σ[i]? with
 | none=>rw [e] at q;exact q.elim
 | some o =>
  cases o with
  | none=>rw [e] at q;exact q.elim
  | some v=>rw [e] at q;exact ⟨v,e,q⟩
def yu:R2:=fun x y H Q=>match x,y with
 | .int i,.int j=>Q (.int (i + j)) H
 | .str a,.str b=>a.length + b.length <= sizeLine/\Q (.str (a ++ b)) H
 | .ref p,.ref q=>E3 (.ref p) (.ref q) H Q
 | _,_=>False
theorem aK:OpR X (binaryOp .Add) yu:=by
 intro pins s σ H x y v u Q I rx ry h
 cases x with
 | int i =>
  cases y with
  | int j=>exact Ed pins s σ H _ _ v u Q I rx ry ⟨i,j,rfl,rfl,h⟩
  | _=>exact (show False from h).elim
 | str a =>
  cases y with
  | str b=>exact vS pins s σ H _ _ v u Q I rx ry ⟨a,b,rfl,rfl,h.1,h.2⟩
  | _=>exact (show False from h).elim
 | ref p =>
  cases y with
  | ref q=>exact DQ pins s σ H _ _ v u Q I rx ry h
  | _=>exact (show False from h).elim
 | _=>cases y <;> exact (show False from h).elim
def ql (C:Int->Int->Prop) (g:Int->Int->V):R2:=fun x y H Q=>match x,y with
 | .int i,.int j=>C i j/\Q (g i j) H
 | _,_=>False
def kx (g:Int->Int->V):R2:=fun x y H Q=>match x,y with
 | .int i,.int j=>Q (g i j) H
 | _,_=>False
theorem OpR.ql {f:Value->Value->Sem Value}{C:Int->Int->Prop}{g:Int->Int->V} (h:OpR X f (rI C g)):OpR X f (ql C g):=h.imp fun x y H Q q=>by
 cases x with
 | int i =>
  cases y with
  | int j=>exact ⟨i,j,rfl,rfl,q.1,q.2⟩
  | _=>exact (show False from q).elim
 | _=>cases y <;> exact (show False from q).elim
theorem OpR.kx {f:Value->Value->Sem Value}{g:Int->Int->V} (h:OpR X f (rI0 g)):OpR X f (kx g):=h.imp fun x y H Q q=>by
 cases x with
 | int i =>
  cases y with
  | int j=>exact ⟨i,j,rfl,rfl,q⟩
  | _=>exact (show False from q).elim
 | _=>cases y <;> exact (show False from q).elim
theorem uU:OpR X (binaryOp .Sub) (kx fun i j=>.int (i - j)):=CH.kx
theorem Es:OpR X (binaryOp .Mult) (ql xX fun i j=>.int (i * j)):=Dq.ql
def BZ (_ j:Int):Prop:=0 < j/\j < 2 ^ 64
theorem Bm {j:Int} (h:BZ 0 j):j.natAbs.log2 < 9000:=by
 have h1:j.natAbs < 2 ^ 64:=by
  have h2:j < 2 ^ 64:=h.2
  have h3:0 < j:=h.1
  omega
 have h0:j.natAbs ≠ 0:=by have h3:0 < j:=h.1;omega
 have:=(Nat.log2_lt h0).mpr h1
 omega
theorem dh:OpR X (binaryOp .FloorDiv) (ql BZ fun i j=>.int (i / j)):=(opI fun i j _ _ _ _ _ hc q=>by
 have h1:(0:Int) < j:=hc.1
 exact floordiv_int (by omega) (by rw [Int.fdiv_eq_ediv_of_nonneg i (by omega)];exact q) (.inl (PyProof.noPylong_of_log2 (Bm hc)))).ql
theorem bB:OpR X (binaryOp .Mod) (ql (fun _ j=>0 < j) fun i j=>.int (i % j)):=CN.ql
theorem qw:OpR X (binaryOp .Pow) (ql EZ fun i j=>.int (i ^ j.toNat)):=C6.ql
theorem xH:OpR X (compareOp .Lt) (kx fun i j=>.bl (decide (i < j))):=ED.kx
theorem vn:OpR X (compareOp .Gt) (kx fun i j=>.bl (decide (j < i))):=EG.kx
theorem Gi:OpR X (compareOp .GtE) (kx fun i j=>.bl (decide (j <= i))):=EN.kx
mutual
inductive jj (K:W.Frag) (H:Hp):V->PyData->Prop where
 | non:jj K H .non .none
 | bl (b:Bool):jj K H (.bl b) (.bool b)
 | int (i:Int):jj K H (.int i) (.int i)
 | str (x:Str):jj K H (.str x) (.str x)
 | lst {a:Addr}{xs:List V}{ds:List PyData} (h:SqL K H a xs) (r:du K H xs ds):jj K H (.ref a) (.list ds)
 | tup {a:Addr}{xs:List V}{ds:List PyData} (h:SqT K H a xs) (r:du K H xs ds):jj K H (.ref a) (.tuple ds)
inductive du (K:W.Frag) (H:Hp):List V->List PyData->Prop where
 | nil:du K H [] []
 | cons {x:V}{xs:List V}{d:PyData}{ds:List PyData} (h:jj K H x d) (r:du K H xs ds):du K H (x :: xs) (d :: ds)
end
mutual
theorem Inv.reads {pins:List (Addr × Obj)}{σ:St}{H:Hp}{s:Shared} (I:Inv X pins σ H s):∀{x:V}{d:PyData}{u:Value},jj X.K H x d->RelV x u->∃as,Reads s.heap u d as
 | _,_,_,.non,r=>by cases r;exact ⟨_,.none⟩
 | _,_,_,.bl b,r=>by cases r;exact ⟨_,.bool b⟩
 | _,_,_,.int i,r=>by obtain ⟨t,rfl⟩:=r;exact ⟨_,.int i t⟩
 | _,_,_,.str x,r=>by obtain ⟨t,rfl⟩:=r;exact ⟨_,.str x t⟩
 | _,_,_,.lst h q,r=>by
  cases r
  obtain ⟨its,rv,⟨o,n,e,hc,_,hd⟩,_⟩:=I.list h
  obtain ⟨as,z⟩:=I.readsAll q rv
  exact ⟨_,.list e hc hd (by simpa using z)⟩
 | _,_,_,.tup h q,r=>by
  cases r
  obtain ⟨its,rv,⟨o,e,hc,n,hd⟩,_⟩:=I.tuple h
  obtain ⟨as,z⟩:=I.readsAll q rv
  exact ⟨_,.tuple e hc hd (by simpa using z)⟩
theorem Inv.readsAll {pins:List (Addr × Obj)}{σ:St}{H:Hp}{s:Shared} (I:Inv X pins σ H s):∀{xs:List V}{ds:List PyData}{us:List Value},du X.K H xs ds->Vals xs us->∃as,ReadsAll s.heap us ds as
 | _,_,_,.nil,r=>by cases r;exact ⟨_,.nil⟩
 | _,_,_,.cons h q,r=>by
  cases r with
  | cons r1 r2 =>
   obtain ⟨as,z⟩:=I.reads h r1
   obtain ⟨bs,z2⟩:=I.readsAll q r2
   exact ⟨_,.cons z z2⟩
end
def fEq (K:W.Frag):R2:=fun x y H Q=>match x,y with
 | .ref p,.ref q=>∃d e,jj K H (.ref p) d/\jj K H (.ref q) e/\SeqAt.shaped d=true/\SeqAt.shaped e=true/\Q (.bl (PyData.eqv d e)) H
 | x,y=>x8 x y=true/\Q (.bl (decide (x=y))) H
def fNe (K:W.Frag):R2:=fun x y H Q=>match x,y with
 | .ref p,.ref q=>∃d e,jj K H (.ref p) d/\jj K H (.ref q) e/\SeqAt.shaped d=true/\SeqAt.shaped e=true/\Q (.bl (!PyData.eqv d e)) H
 | x,y=>x8 x y=true/\Q (.bl (!decide (x=y))) H
theorem Gh (hu:X.A.units + 64 < cLine):OpR X (compareOp .Eq) (fEq X.K):=by
 intro pins s σ H x y v u Q I rx ry h
 by_cases hr:∃p q,x=V.ref p/\y=V.ref q
 ·obtain ⟨p,q,rfl,rfl⟩:=hr
  obtain ⟨d,e,hd,he,sd,se,hq⟩:=h
  obtain ⟨as,z1⟩:=I.reads hd rx
  obtain ⟨bs,z2⟩:=I.reads he ry
  exact eq_dataH z1 z2 sd se hu ⟨.bl _,H,I,rfl,hq⟩
 ·refine E1 pins s σ H x y v u Q I rx ry ?_
  cases x <;> cases y <;> first | exact h | exact absurd ⟨_,_,rfl,rfl⟩ hr
theorem nY (hu:X.A.units + 64 < cLine):OpR X (compareOp .NotEq) (fNe X.K):=by
 intro pins s σ H x y v u Q I rx ry h
 by_cases hr:∃p q,x=V.ref p/\y=V.ref q
 ·obtain ⟨p,q,rfl,rfl⟩:=hr
  obtain ⟨d,e,hd,he,sd,se,hq⟩:=h
  obtain ⟨as,z1⟩:=I.reads hd rx
  obtain ⟨bs,z2⟩:=I.reads he ry
  exact ne_dataH z1 z2 sd se hu ⟨.bl _,H,I,rfl,hq⟩
 ·refine Eu pins s σ H x y v u Q I rx ry ?_
  cases x <;> cases y <;> first | exact h | exact absurd ⟨_,_,rfl,rfl⟩ hr
def fIn (K:W.Frag) (neg:Bool):R2:=fun x y H Q=>match y with
 | .str j=>∃i,x=.str i/\Q (.bl (if neg then !(!(Builtin.Str.occurrences j i 0 j.length 1).isEmpty) else !(Builtin.Str.occurrences j i 0 j.length 1).isEmpty)) H
 | .ref p=>∃xs,(SqL K H p xs \/ SqT K H p xs)/\jJ x=true/\xs.all jJ=true/\Q (.bl (if neg then !inV x xs else inV x xs)) H
 | _=>False
theorem FO:OpR X (compareOp .In) (fIn X.K false):=by
 intro pins s σ H x y v u Q I rx ry h
 cases y with
 | str j =>
  obtain ⟨i,rfl,q⟩:=h
  exact yc pins s σ H _ _ v u Q I rx ry ⟨i,j,rfl,rfl,q⟩
 | ref p =>
  obtain ⟨xs,h1,h2,h3,q⟩:=h
  exact yi pins s σ H _ _ v u Q I rx ry ⟨p,xs,rfl,h1,h2,h3,q⟩
 | _=>exact (show False from h).elim
theorem BH:OpR X (compareOp .NotIn) (fIn X.K true):=by
 intro pins s σ H x y v u Q I rx ry h
 cases y with
 | str j =>
  obtain ⟨i,rfl,q⟩:=h
  exact rO pins s σ H _ _ v u Q I rx ry ⟨i,j,rfl,rfl,q⟩
 | ref p =>
  obtain ⟨xs,h1,h2,h3,q⟩:=h
  exact sP pins s σ H _ _ v u Q I rx ry ⟨p,xs,rfl,h1,h2,h3,q⟩
 | _=>exact (show False from h).elim
theorem zb:OpR X (compareOp .Is) (fun x y H Q=>y=.non/\Q (.bl (decide (x=.non))) H):=DU
theorem xg:OpR X (compareOp .IsNot) (fun x y H Q=>y=.non/\Q (.bl (!decide (x=.non))) H):=A0
inductive ixS (K:W.Frag) (p:Addr) (i:Int) (H:Hp) (Q:VK):Prop
 | mk (xs:List V) (v:V) (h0:SqL K H p xs \/ SqT K H p xs) (h1:atI xs i=some v) (q:Q v H):ixS K p i H Q
def fIx (K:W.Frag):R2:=fun x y H Q=>match x,y with
 | .ref p,.int i=>ixS K p i H Q
 | .str z,.int i=>∃c,z.length <= sizeLine/\atI z.cps.toList i=some c/\Q (.str ⟨#[c]⟩) H
 | _,_=>False
theorem yz:IxR X (fIx X.K):=by
 intro value slice pins s σ H x y v u Q I rx ry h hs
 cases x with
 | ref p =>
  cases y with
  | int i =>
   obtain ⟨xs,w,h1 | h1,h2,q⟩:=h
   ·exact A4 value slice pins s σ H _ _ v u Q I rx ry ⟨p,xs,i,w,rfl,rfl,h1,h2,q⟩ hs
   ·exact CJ value slice pins s σ H _ _ v u Q I rx ry ⟨p,xs,i,w,rfl,rfl,h1,h2,q⟩ hs
  | _=>exact (show False from h).elim
 | str z =>
  cases y with
  | int i =>
   obtain ⟨c,h1,h2,q⟩:=h
   exact Ci value slice pins s σ H _ _ v u Q I rx ry ⟨z,i,c,rfl,rfl,h1,h2,q⟩ hs
  | _=>exact (show False from h).elim
 | _=>cases y <;> exact (show False from h).elim
def FP:V->Option Int->Option Int->Hp->VK->Prop:=fun x lo hi H Q=>∃z,x=.str z/\z.length <= sizeLine/\Q (.str (Txt.slice z lo hi)) H
def Its (x:Str):It:=⟨fun i _=>i < x.cps.size,fun i H v H'=>H'=H/\∃c,x.cps[i]?=some c/\v=.str ⟨#[c]⟩,fun i _=>x.cps.size <= i⟩
theorem zj {P:Program}{w:World}{K:PySem.W.Frag}{tg:Expr}{T:String} (hT:T="str_ascii_iterator" \/ T="str_iterator") (it:Addr) (x:Str) (t:Tok):Turn P w K tg (Its x) [it] it (fun i h=>i <= x.cps.size/\h.IsStrIter it T x t i) where
 mem:=by simp
 obj:=fun i h st b hb=>by
  have e:b=it:=by simpa using hb
  subst e
  obtain ⟨_,o,e,c,d⟩:=st
  exact ⟨o,e,fun v z=>by rw [d] at z;cases z⟩
 keep:=fun i h h' st k=>by
  obtain ⟨hi,o,e,r⟩:=st
  exact ⟨hi,o,k it (by simp) o e,r⟩
 item:=by
  intro X hP hw hK hc i pins s σ H E I hf st hg
  subst hP hw hK
  obtain ⟨f0,f1,f2,f3,f4,f5⟩:=hf it (by simp)
  have W:Walks X.prog X.w X.A it [it] [it] x.cps.size (SignAt x) (fun i h=>h.IsStrIter it T x t i):=by
   rcases hT with rfl | rfl
   ·exact Walks.strAscii (I.ok.hd hc) it x t
   ·exact Walks.strWide (I.ok.hd hc) it x t
  refine W.item i s _ _ hg st.2 fun v h' tk hv st' kk=>?_
  obtain ⟨c,u,hcp,rfl⟩:=hv
  have I1:Inv X pins σ H { s with heap:=h',toks:=tk }:=I.turned (fun b o hb e=>kk b o (by simpa using hb) e) f0 f1 f3 f4 f5
  obtain ⟨o,e,c',d⟩:=id st'
  refine ⟨_,rfl,uF (s:={ s with heap:=h',toks:=tk }) e c' d (by rcases hT with rfl | rfl <;> decide) ⟨.str ⟨#[c]⟩,H,I1,⟨u,rfl⟩,⟨rfl,c,hcp,rfl⟩,⟨hg,st'⟩,fun b hb=>(hf b hb).1⟩⟩
 done:=by
  intro X hP hw hK hc i pins s σ H E I hf st hg
  subst hP hw hK
  obtain ⟨f0,f1,f2,f3,f4,f5⟩:=hf it (by simp)
  have W:Walks X.prog X.w X.A it [it] [it] x.cps.size (SignAt x) (fun i h=>h.IsStrIter it T x t i):=by
   rcases hT with rfl | rfl
   ·exact Walks.strAscii (I.ok.hd hc) it x t
   ·exact Walks.strWide (I.ok.hd hc) it x t
  have e:i=x.cps.size:=Nat.le_antisymm st.1 hg
  subst e
  exact W.done s _ _ st.2 fun h' tk kk=>⟨rfl,I.turned (fun b o hb e=>kk b o (by simpa using hb) e) f0 f1 f3 f4 f5⟩
 self:=fun A i s Q E st h=>by
  rcases hT with rfl | rfl
  ·exact wpAny_pyIter_striter_ascii st.2 h
  ·exact wpAny_pyIter_striter_wide st.2 h
def FR (K:W.Frag) (tl:TE):TI:=fun σ H R=>tl σ H fun x H1=>match x with
 | .ref a=>((∃xs,SqL K H1 a xs)/\R (Itl K a) H1) \/ ((∃xs,SqT K H1 a xs)/\R (Itt K a) H1)
 | .str z=>R (Its z) H1
 | _=>False
theorem cR {tg l:Expr}{tl:TE} (hl:PE X l tl):PI X tg l (FR X.K tl):=by
 intro pins s σ H R I h
 refine thn (hl pins s σ H _ I h) fun v s1 ⟨x,H1,I1,r1,q1⟩=>?_
 cases x with
 | ref a =>
  cases r1
  rcases q1 with ⟨⟨xs,hq⟩,q⟩ | ⟨⟨xs,hq⟩,q⟩
  ·obtain ⟨its,rv,p,hz⟩:=I1.list hq
   refine wpAny_pyIter_list p.isList ?_
   refine ⟨s1.heap.objs.size,[s1.heap.objs.size],_,_,H1,rfl,I1.kept (t':=s1.toks) fun b o e=>Heap.get?_push_of_some _ e,xT a _,⟨_,Heap.get?_push_size _ rfl,rfl,rfl⟩,fun b hb=>?_,q⟩
   have e:b=s1.heap.objs.size:=by simpa using hb
   subst e
   exact I1.uD (Nat.le_refl _) (I1.hok.fresh (Nat.le_refl _))
  ·obtain ⟨its,rv,p,hz⟩:=I1.tuple hq
   refine wpAny_pyIter_tuple (show s1.heap.IsTuple a its.toArray from p) ?_
   refine ⟨s1.heap.objs.size,[s1.heap.objs.size],_,_,H1,rfl,I1.kept (t':=s1.toks) fun b o e=>Heap.get?_push_of_some _ e,vE a _,⟨_,Heap.get?_push_size _ rfl,rfl,rfl⟩,fun b hb=>?_,q⟩
   have e:b=s1.heap.objs.size:=by simpa using hb
   subst e
   exact I1.uD (Nat.le_refl _) (I1.hok.fresh (Nat.le_refl _))
 | str z =>
  obtain ⟨t,rfl⟩:=r1
  refine wpAny_pyIter_strU ?_
  refine ⟨s1.heap.objs.size,[s1.heap.objs.size],_,_,H1,rfl,I1.kept (t':=s1.toks) fun b o e=>Heap.get?_push_of_some _ e,zj (T:=strIterType z) ?_ _ z t,⟨Nat.zero_le _,_,Heap.get?_push_size _ rfl,rfl,rfl⟩,fun b hb=>?_,q1⟩
  ·unfold strIterType
   split
   ·exact .inl rfl
   ·exact .inr rfl
  ·have e:b=s1.heap.objs.size:=by simpa using hb
   subst e
   exact I1.uD (Nat.le_refl _) (I1.hok.fresh (Nat.le_refl _))
 | _=>exact (show False from q1).elim
theorem bU {a:Expr}{ta:TE} (ha:PE X a ta) (he:∀whole,isTrue a X.env whole=(do let v <- whole;standAt a.pos;holding [v] (truthy v))) :
  PT X a (fun σ H Q=>ta σ H fun x H'=>uf X.K x H' Q):=zy ha he
inductive BE (K:W.Frag) (xs:List V) (H:Hp) (Q:VK):Prop
 | mk (x:V) (n:Nat) (h0:xs=[x]) (h1:ES K x H n) (q:Q (.int n) H):BE K xs H Q
theorem Ek:cO X (.builtin "len") (BE X.K):=fun pins s σ H xs us Q I r ⟨x,n,h0,h1,q⟩=>zV pins s σ H xs us Q I r ⟨x,n,h0,h1,q⟩
theorem hE:cO X (.type "list") (fun xs H Q=>∃p ys,xs=[.ref p]/\(SqL X.K H p ys \/ SqT X.K H p ys)/\∀l,H l=none->Q (.ref l) (upd H l (.lst ys))):=sM
def BB:V->Value
 | .ty n=>.type n
 | .ref a=>.ref a
 | _=>.none
theorem yU {y:V}{u:Value} (r:RelV y u) (h:BB y ≠ .none):u=BB y:=by
 cases y with
 | ty n=>exact r
 | ref a=>exact r
 | _=>exact absurd rfl h
inductive xM (K:W.Frag) (xs:List V) (H:Hp) (Q:VK):Prop
 | mk (x y:V) (t:Value) (b:Bool) (h0:xs=[x,y]) (h1:BB y ≠ .none) (h2:kJ K H x t) (h3:W.kitOne K t (BB y)=some b) (q:Q (.bl b) H):xM K xs H Q
theorem br:cO X (.builtin "isinstance") (xM X.K):=by
 intro pins s σ H xs us Q I r h
 obtain ⟨x,y,t,b,rfl,hy,ty,e,q⟩:=h
 obtain ⟨u,w',rfl,rx,ry⟩:=vals2 r
 rw [yU ry hy]
 exact yj I rx ty e fun tk=>⟨.bl b,H,I.tok _,rfl,q⟩
theorem aT {o e:Expr}{to:TE}{t:TA}{apos cpos:Pos} (ho:PE X o to) (ha:PA X [e] t) (hbase:attributeBase o "append" X.env (eval o X.env)=eval o X.env:=by rfl)
  (hfew:((backTo cpos (starEach [e] X.env)).all (fun x=>!x.1) && (backToKw cpos (keywordEach [] X.env)).all (fun x=>x.1.isSome)
   && decide ([e].length + ([]:List Keyword).length + (if ([]:List Keyword).isEmpty then 0 else 1) < 30))=true:=by rfl)
  (hline:(apos.endLine == cpos.line)=true:=by rfl) (hs:starEach [e] X.env=(false,eval e X.env) :: starEach [] X.env:=by rfl) (hplain:(backTo cpos (starEach [] X.env)).any (·.1)=false:=by rfl) :
  PE X (.Call (.Attribute o "append" apos) [e] [] cpos) (tBM X.K "list" rC to t):=zi PySem.F.plainAttrs_list PySem.F.slot_list_append PySem.F.type_list_append qC ho ha hbase hfew hline hs hplain
end
def Has (P:Program) (w:World) (K:W.Frag) (mg:Str->Option Value) (base:Heap) (k:Nat) (x:Str) (ps:List Str) (sp:Sp):Prop :=
 ∃f fd,lM P w K mg base CX0 k f fd ps sp/\Binds K fd ps []/\W.keepIn K (.ref f)=true/\mg x=some (.ref f)/\∃oc od osl,K.lookup f=some ⟨oc,od,.func fd,osl⟩
structure aW (K:W.Frag) (mg:Str->Option Value) (x:Str) (st:Stmt) (ps:List Str):Prop where
 ex:∃f fd,Fun K x x st f fd/\Binds K fd ps []/\mg x=some (.ref f)
theorem ak {X:Cx}{j k:Nat}{x:Str}{ps:List Str}{sp:Sp}{e:Expr}{es:List Expr}{t:TA}{p pos:Pos} (D:Has X.prog X.w X.K X.mg X.base j x ps sp) (hr:cZ k X.A) (ha:PA X (e :: es) t) (hj:j <= k:=by decide) (hg:Gl X x:=by rfl)
  (hdb:(x == ("__debug__":Str))=false:=by decide) (he:starEach (e :: es) X.env=(false,eval e X.env) :: starEach es X.env:=by rfl) (hpl:(backTo pos (starEach es X.env)).any (·.1)=false:=by rfl) :
  PE X (.Call (.Name x p) (e :: es) [] pos) (wR sp [] E0 t):=by
 obtain ⟨f,fd,F,b,kp,m,_⟩:=D
 exact w6 F (hr.mono hj) hg m kp b .nil ux ha hdb he hpl
abbrev aW.Hz {K:W.Frag}{mg:Str->Option Value}{x:Str}{st:Stmt}{ps:List Str} (_:aW K mg x st ps) (P:Program) (w:World) (base:Heap) (k:Nat) (sp:Sp):Prop:=L2.Has P w K mg base k x ps sp
theorem aW.hs {P:Program}{w:World}{K:W.Frag}{mg:Str->Option Value}{base:Heap}{x:Str}{st:Stmt}{N ps:List Str}{k:Nat}{sp:Sp} (F:aW K mg x st ps) (S:az N ps (aq st))
  (hbody:∀(f:Addr) (cdv:Value) (A:Around) (outer:List Env) (s:Shared) (H:Hp) (vs:List V) (Q:VK) (E:XK),cZ k (A.deeper (envOfC x (aq st) s.heap.objs.size f cdv))->(A.deeper (envOfC x (aq st) s.heap.objs.size f cdv)).units + 64 < cLine->sp vs H Q E ->
   ∃t,PSs (rD CX0 P w K mg base N x (aq st) f cdv A outer s H E).nox (bq st) t/\t { nx:=fun _ H'=>Q .non H',rt:=Q } (start N vs) H) (len:∀vs H Q E,sp vs H Q E->vs.length=ps.length:=by intro _ _ _ _ h;cases h;subst_vars;rfl):Has P w K mg base (k + 1) x ps sp:=by
 obtain ⟨f,fd,F,b,m⟩:=F.ex
 obtain ⟨oc,od,kV,doc,pm,an,cdv,ct,osl,e,lk,hcd⟩:=F.ex
 exact ⟨f,fd,F.ok S len fun cdv A outer s H vs Q E hr h=>hbody f cdv A outer s H vs Q E hr hr.units h,b,F.kp,m,oc,od,osl,lk⟩
end L2
namespace L2
open PySem PySem.Spec PyProof.Rows
theorem ai.upd {H:Hp}{p:Addr} (h:H p=none) (o:HO):ai H (upd H p o):=fun b u q=>by rw [aQ (dC q h)];exact q
theorem ai.tup {K:W.Frag}{H H':Hp}{a:Addr}{xs:List V} (e:ai H H') (h:SqT K H a xs):SqT K H' a xs:=by
 rcases h with (h | ⟨o,h⟩) | h
 ·exact .inl (.inl (e _ _ h))
 ·exact .inl (.inr ⟨o,e _ _ h⟩)
 ·exact .inr h
mutual
theorem ai.rep {K:W.Frag}{H H':Hp} (e:ai H H'):∀{x:V}{d:PyData},jj K H x d->jj K H' x d
 | _,_,.non=>.non
 | _,_,.bl b=>.bl b
 | _,_,.int i=>.int i
 | _,_,.str x=>.str x
 | _,_,.lst h r=>.lst (e.seq h) (e.vi r)
 | _,_,.tup h r=>.tup (e.tup h) (e.vi r)
theorem ai.vi {K:W.Frag}{H H':Hp} (e:ai H H'):∀{xs:List V}{ds:List PyData},du K H xs ds->du K H' xs ds
 | _,_,.nil=>.nil
 | _,_,.cons h r=>.cons (e.rep h) (e.vi r)
end
def cFr (fr:List Nat) (σ:St):St:=fr.map fun j=>(σ[j]?).getD none
theorem pH {J:It}{n:Nat}{x:Nat->V}{fr:List Nat}{tf:CB->TT}{te:CB->TE}{Q:VK}{σ:St}{H1:Hp} (p:Nat->Bool) (f:Nat->V) (hn:n < sizeLine)
  (stop:∀H,ai H1 H->J.stop n H) (go:∀i H,i < n->ai H1 H->J.go i H) (yld:∀i H v H',i < n->ai H1 H->J.yld i H v H'->H'=H/\v=x i)
  (hf:∀b i H (R:Bool->Hp->Prop),i < n->ai H1 H->(∀H',ai H H'->R (p i) H')->tf b (some (x i) :: cFr fr σ) H R)
  (he:∀b i H (R:VK),i < n->p i=true->ai H1 H->(∀H',ai H H'->R (f i) H')->te b (some (x i) :: cFr fr σ) H R)
  (fin:∀D H,H1 D=none->ai H1 H->H D=some (.lst (((List.range n).filter p).map f))->Q (.ref D) H):mN J 1 fr (fun _=>ky 0) tf te Q σ H1:=by
 refine ⟨fun b D hD=>?_⟩
 have lenf:∀i,(((List.range i).filter p).map f).length <= i:=fun i=>by
  rw [List.length_map]
  exact Nat.le_trans (List.length_filter_le _ _) (Nat.le_of_eq List.length_range)
 refine ⟨fun i m σ' H'=>m=n - i/\i <= n/\(∃v0,σ'=v0 :: cFr fr σ)/\ai H1 H'/\H' D=some (.lst (((List.range i).filter p).map f)),⟨n,rfl,Nat.zero_le _,⟨none,rfl⟩,ai.upd hD _,ao⟩,?_⟩
 rintro i m σ' H' ⟨rfl,hi,⟨v0,rfl⟩,sm,hl⟩
 by_cases hlt:i < n
 ·refine .inr ⟨go i H' hlt sm,fun σ2 H2=>(∃v0,σ2=v0 :: cFr fr σ)/\ai H1 H2/\H2 D=some (.lst (((List.range (i + 1)).filter p).map f)),fun σ2 H2 q=>⟨n - (i + 1),by omega,rfl,hlt,q⟩,fun v H2 y=>?_⟩
  obtain ⟨rfl,rfl⟩:=yld i H' v H2 hlt sm y
  show tf b (some (x i) :: cFr fr σ) _ _
  refine hf b i _ _ hlt sm fun H3 s3=>?_
  have e1:(List.range (i + 1)).filter p=(List.range i).filter p ++ (if p i then [i] else []):=by
   rw [List.range_succ,List.filter_append]
   congr 1
   cases hp:p i <;> simp [hp]
  cases hp:p i with
  | false =>
   rw [if_neg Bool.false_ne_true]
   refine ⟨⟨_,rfl⟩,sm.trans s3,?_⟩
   rw [s3 _ _ hl,e1,hp]
   simp
  | true =>
   rw [if_pos rfl]
   refine he b i _ _ hlt hp (sm.trans s3) fun H4 s4=>⟨_,s4 _ _ (s3 _ _ hl),?_,⟨_,rfl⟩,?_,?_⟩
   ·exact Nat.lt_of_le_of_lt (lenf i) (Nat.lt_trans hlt hn)
   ·have sm4:ai H1 H4:=sm.trans (s3.trans s4)
    intro c o q
    by_cases hc:c=D
    ·rw [hc,hD] at q;cases q
    ·rw [aQ hc];exact sm4 c o q
   ·rw [ao,e1,hp]
    simp
 ·have e:i=n:=by omega
  subst e
  exact .inl ⟨stop H' sm,fin D H' hD sm hl⟩
theorem vU {lo:Int}{n:Nat}{fr:List Nat}{tf:CB->TT}{te:CB->TE}{Q:VK}{σ:St}{H1:Hp} (p:Nat->Bool) (f:Nat->V) (hn:n < sizeLine)
  (hf:∀b i H (R:Bool->Hp->Prop),i < n->ai H1 H->(∀H',ai H H'->R (p i) H')->tf b (some (.int (lo + i)) :: cFr fr σ) H R)
  (he:∀b i H (R:VK),i < n->p i=true->ai H1 H->(∀H',ai H H'->R (f i) H')->te b (some (.int (lo + i)) :: cFr fr σ) H R)
  (fin:∀D H,H1 D=none->ai H1 H->H D=some (.lst (((List.range n).filter p).map f))->Q (.ref D) H):mN (Itr lo n) 1 fr (fun _=>ky 0) tf te Q σ H1 :=
 pH (x:=fun i=>.int (lo + i)) p f hn (fun _ _=>Nat.le_refl _) (fun _ _ h _=>h) (fun _ _ _ _ _ _ y=>y) hf he fin
section
variable {X:Cx}
def CY (K:W.Frag):V->Option Int->Option Int->Hp->VK->Prop:=fun x lo hi H Q=>DN K x lo hi H Q \/ Dp K x lo hi H Q
theorem DR:SlR X (CY X.K):=BJ.or Cs
end
theorem yt {K:W.Frag}{mg:Str->Option Value}{h:Heap}{x:Str}{st:Stmt}{ps:List Str}{f:Addr}{oc:Value}{od an:Option Addr}{osl:Array (Option Value)}{kV doc pm cdv ct:Value} (X:K.In h) (G:h.Ns mainGlobals mg)
  (a:W.nsIn K mainGlobals x=some (some (.ref f))) (l:K.lookup f=some ⟨oc,od,.func (W.fnOf x x (bD st) (bq st) (aq st) .none kV doc pm an cdv ct),osl⟩) (c:W.codeIn K cdv x=true) (k:W.keepIn K (.ref f)=true)
  (hb:∀(kV doc pm:Value) (an:Option Addr) (cdv ct:Value) (us:List Value),us.length=ps.length->bindArgs (W.fnOf x x (bD st) (bq st) (aq st) .none kV doc pm an cdv ct) ⟨us,[]⟩=pure (ps.zip us)):aW K mg x st ps :=
 ⟨f,_,rE l c k,(rE l c k).binds hb,W.mg_of X G a⟩
theorem Cn {P:Program}{w:World}{K:W.Frag}{mg:Str->Option Value}{base:Heap}{k:Nat}{x:Str}{ps:List Str}{sp:Sp}{f:Addr}{oc:Value}{od:Option Addr}{osl:Array (Option Value)}{fd:FuncData} (D:Has P w K mg base k x ps sp) (m:mg x=some (.ref f))
  (l:K.lookup f=some ⟨oc,od,.func fd,osl⟩):lM P w K mg base CX0 k f fd ps sp:=by
 obtain ⟨g,gd,F,b,kp,mg',_,_,_,l'⟩:=id D
 rw [m] at mg'
 cases mg'
 rw [l] at l'
 cases l'
 exact F
end L2
namespace L2
open PySem PySem.Spec PyProof.Rows
section
variable {prog:Program}{w:World}{A:Around}{R:Result->Shared->Prop}{I l:Addr}{its:Array Value}{ns:List Int}{St:Nat->Heap->Prop}{fp wr:List Addr}{d:Value}
end
section
variable {X:Cx}
end
end L2
namespace L2
open PySem PySem.Spec PyProof.Rows
section
variable {X:Cx}
theorem Eb:SlR X FP:=by
 intro pins s σ H x v vl vu lo hi sl Q I rx hs pl pu h
 obtain ⟨z,rfl,hz,q⟩:=h
 obtain ⟨t,rfl⟩:=rx
 have fin:∀t' k,EP X pins σ Q (.str (Txt.slice z lo hi) t') { s with toks:=k }:=fun t' k=>⟨.str _,H,I.tok _,⟨_,rfl⟩,q⟩
 have len:=Nat.le_trans (Txt.slice_le z lo hi) hz
 obtain ⟨o,ho,hc,hd⟩:=hs
 refine ⟨"str",_,PySem.F.slot_str_getitem.lookup,typeIs_str _ _ _,?_⟩
 cases pl with
 | none =>
  cases pu with
  | none=>exact wpAny_getItem_str_slice (l:=Option.none) (u:=Option.none) (st:=Option.none) ⟨o,ho,hc,hd⟩ rfl (post_val_or_str ⟨len,fun t' k=>fin t' k⟩)
  | int j uj=>exact wpAny_getItem_str_slice (l:=Option.none) (u:=some (j,uj)) (st:=Option.none) ⟨o,ho,hc,hd⟩ rfl (post_val_or_str ⟨len,fun t' k=>fin t' k⟩)
 | int i ui =>
  cases pu with
  | none=>exact wpAny_getItem_str_slice (l:=some (i,ui)) (u:=Option.none) (st:=Option.none) ⟨o,ho,hc,hd⟩ rfl (post_val_or_str ⟨len,fun t' k=>fin t' k⟩)
  | int j uj=>exact wpAny_getItem_str_slice (l:=some (i,ui)) (u:=some (j,uj)) (st:=Option.none) ⟨o,ho,hc,hd⟩ rfl (post_val_or_str ⟨len,fun t' k=>fin t' k⟩)
def fSl (K:W.Frag):V->Option Int->Option Int->Hp->VK->Prop:=fun x lo hi H Q=>match x with
 | .str z=>z.length <= sizeLine/\Q (.str (Txt.slice z lo hi)) H
 | x=>DN K x lo hi H Q \/ Dp K x lo hi H Q
theorem vg:SlR X (fSl X.K):=by
 intro pins s σ H x v vl vu lo hi sl Q I rx hs pl pu h
 by_cases hx:∃z,x=.str z
 ·obtain ⟨z,rfl⟩:=hx
  exact Eb pins s σ H _ v vl vu lo hi sl Q I rx hs pl pu ⟨z,rfl,h.1,h.2⟩
 ·refine DR pins s σ H x v vl vu lo hi sl Q I rx hs pl pu ?_
  cases x <;> first | exact h | exact absurd ⟨_,rfl⟩ hx
end
end L2
namespace L2
open PySem PySem.Spec PyProof.Rows
def C8 (lo c:Int) (n:Nat):It:=⟨fun i _=>i < n,fun i H x H'=>H'=H/\x=.int (lo + i * c),fun i _=>n <= i⟩
def iX (lo hi c:Int):Nat:=(Builtin.Range.rangeSize lo hi c).toNat
theorem u3 {P:Program}{w:World}{K:PySem.W.Frag}{tg:Expr} (it:Addr) (lo c:Int) (n:Nat):Turn P w K tg (C8 lo c n) [it] it (fun i h=>IsRangeIter h it (lo + (i:Nat) * c) ((n:Int) - (i:Nat)) c) where
 mem:=by simp
 obj:=fun i h st b hb=>by
  have e:b=it:=by simpa using hb
  subst e
  exact ⟨_,st,fun v z=>by
   have z':Data.fields _=Data.cell v:=z
   cases z'⟩
 keep:=fun i h h' st k=>k it (by simp) _ st
 item:=by
  intro X hP hw hK hc i pins s σ H E I hf st hg
  subst hP hw hK
  obtain ⟨f0,f1,f2,f3,f4,f5⟩:=hf it (by simp)
  have W:=Walks.range (prog:=X.prog) (w:=X.w) (I.ok.hd hc) it lo c n
  refine W.item i s _ _ hg st fun v h' tk hv st' kk=>?_
  obtain ⟨t,rfl⟩:=hv
  have I1:Inv X pins σ H { s with heap:=h',toks:=tk }:=I.turned (fun b o hb e=>kk b o (by simpa using hb) e) f0 f1 f3 f4 f5
  exact ⟨_,rfl,uF (s:={ s with heap:=h',toks:=tk }) (n:="range_iterator") st' rfl rfl (by decide) ⟨.int (lo + i * c),H,I1,⟨t,rfl⟩,⟨rfl,rfl⟩,st',fun b hb=>(hf b hb).1⟩⟩
 done:=by
  intro X hP hw hK hc i pins s σ H E I hf st hg
  subst hP hw hK
  obtain ⟨f0,f1,f2,f3,f4,f5⟩:=hf it (by simp)
  exact wpAny_pyNext_range_end (I.ok.hd hc) st (by have:n <= i:=hg;omega) fun h' eb=>⟨rfl,I.turned (t':=s.toks) (fun b o hb e=>eb b o hb e) f0 f1 f3 f4 f5⟩
 self:=fun _ _ _ _ _ st h=>wpAny_pyIter_rangeiter st h
def Er (ta:TA):TI:=fun σ H R=>ta σ H fun vs H1=>∃i j c:Int,vs=[.int i,.int j,.int c]/\Builtin.Range.small i j c=true/\0 < c/\c < 1000/\0 <= Builtin.Range.rangeSize i j c/\R (C8 i c (iX i j c)) H1
section
variable {X:Cx}{tg:Expr}
theorem xI {a b c:Expr}{ta:TA}{p pos:Pos} (hg:Gl X "range") (hm:X.mg "range"=none) (ha:PA X [a,b,c] ta) (hs:starEach [a,b,c] X.env=[(false,eval a X.env),(false,eval b X.env),(false,eval c X.env)]:=by rfl) (hs2:starEach [b,c] X.env=[(false,eval b X.env),(false,eval c X.env)]:=by rfl) :
  PI X tg (.Call (.Name "range" p) [a,b,c] [] pos) (Er ta):=by
 intro pins s σ H R I h
 refine Call_ (mE I hg hm boot_range (PyProof.Rows.callWith_type1 (thn (ha pos pins s σ H _ I h) fun us s1 ⟨vs,H1,I1,r1,q1⟩=>?_) (by rw [hs,hs2]) (by rw [hs2];rfl)))
 obtain ⟨i,j,k,e,sm,k0,k1,z0,q⟩:=q1
 subst e
 cases r1 with
 | cons r rr =>
  cases rr with
  | cons r' rr =>
   cases rr with
   | cons r'' rr =>
    cases rr
    obtain ⟨t,rfl⟩:=r
    obtain ⟨t',rfl⟩:=r'
    obtain ⟨t'',rfl⟩:=r''
    refine call_range_3 (by omega) ?_ (Or.inl (PyProof.noPylong_small (by omega)))
    refine wpAny_pyIter_range (IsRange.new ..) sm ?_
    have I2:Inv X pins σ H1 { s1 with heap:=s1.heap.push { cls:=.type "range",data:=.fields #[.int i t,.int j t',.int k t''] },toks:=s1.toks }:=I1.kept fun b o z=>Heap.get?_push_of_some _ z
    refine ⟨(s1.heap.push { cls:=.type "range",data:=.fields #[.int i t,.int j t',.int k t''] }).objs.size,[(s1.heap.push { cls:=.type "range",data:=.fields #[.int i t,.int j t',.int k t''] }).objs.size],_,_,H1,rfl,I2.kept (t':=s1.toks) fun b o z=>Heap.get?_push_of_some _ z,u3 _ i k (iX i j k),?_,fun b hb=>?_,q⟩
    ·have e1:i + ((0:Nat):Int) * k=i:=by simp
     have e2:((iX i j k:Nat):Int) - ((0:Nat):Int)=Builtin.Range.rangeSize i j k:=by unfold iX;omega
     show IsRangeIter _ _ (i + ((0:Nat):Int) * k) (((iX i j k:Nat):Int) - ((0:Nat):Int)) k
     rw [e1,e2]
     exact Heap.get?_push_size _ rfl
    ·have e:b=(s1.heap.push { cls:=.type "range",data:=.fields #[.int i t,.int j t',.int k t''] }).objs.size:=by simpa using hb
     subst e
     exact I2.uD (Nat.le_refl _) (I2.hok.fresh (Nat.le_refl _))
theorem nz {lo c:Int}{n:Nat}{fr:List Nat}{tf:CB->TT}{te:CB->TE}{Q:VK}{σ:St}{H1:Hp} (p:Nat->Bool) (f:Nat->V) (hn:n < sizeLine)
  (hf:∀b i H (R:Bool->Hp->Prop),i < n->ai H1 H->(∀H',ai H H'->R (p i) H')->tf b (some (.int (lo + i * c)) :: cFr fr σ) H R)
  (he:∀b i H (R:VK),i < n->p i=true->ai H1 H->(∀H',ai H H'->R (f i) H')->te b (some (.int (lo + i * c)) :: cFr fr σ) H R)
  (fin:∀D H,H1 D=none->ai H1 H->H D=some (.lst (((List.range n).filter p).map f))->Q (.ref D) H):mN (C8 lo c n) 1 fr (fun _=>ky 0) tf te Q σ H1 :=
 pH (x:=fun i=>.int (lo + i * c)) p f hn (fun _ _=>Nat.le_refl _) (fun _ _ h _=>h) (fun _ _ _ _ _ _ y=>y) hf he fin
def fm {α:Type} (xs:List α):List α:=(List.range ((xs.length + 1) / 2)).filterMap fun m=>xs[m * 2]?
theorem tU {α:Type} (xs:List α):(fm xs).length <= xs.length:=by
 unfold fm
 refine Nat.le_trans (List.length_filterMap_le _ _) ?_
 rw [List.length_range]
 omega
theorem Vals.fm {xs:List V}{us:List Value} (r:Vals xs us):Vals (fm xs) (fm us):=by
 have hl:=r.length
 unfold L2.fm
 rw [hl]
 have gen:∀l:List Nat,Vals (l.filterMap fun m=>xs[m * 2]?) (l.filterMap fun m=>us[m * 2]?):=by
  intro l
  induction l with
  | nil=>exact .nil
  | cons m l ih =>
   rw [List.filterMap_cons,List.filterMap_cons]
   cases e:xs[m * 2]? with
   | none=>rw [r.none_of e];exact ih
   | some x =>
    obtain ⟨u,hu,ru⟩:=r.get e
    rw [hu]
    exact .cons ru ih
 exact gen _
theorem BL (n:Nat):Builtin.Slice.slicePlaces 0 (n:Int) 2=(n + 1) / 2:=by
 unfold Builtin.Slice.slicePlaces
 have h1:(2:Int) > 0:=by omega
 simp only [h1,if_true]
 split <;> omega
theorem Ew (xs:Array Value):((List.range ((xs.size + 1) / 2)).filterMap fun (m:Nat)=>xs[((0:Int) + (m:Int) * 2).toNat]?).toArray=(fm xs.toList).toArray:=by
 unfold fm
 have e:(fun (m:Nat)=>xs[((0:Int) + (m:Int) * 2).toNat]?)=fun m=>xs.toList[m * 2]?:=by
  funext m
  have:((0:Int) + (m:Int) * 2).toNat=m * 2:=by omega
  rw [this,Array.getElem?_toList]
 rw [e,Array.length_toList]
theorem Al {prog:Program}{w:World}{A:Around}{E:Value->Shared->Prop}{s:Shared}{sl:Addr}{t2:Tok}{n:Nat}{Q:Int × Int × Nat->Shared->Prop} (hs:s.heap.IsSliceOf sl .none .none (.int 2 t2)) (h:Q (0,2,(n + 1) / 2) s) :
  wpAny (model prog w) A (Builtin.Slice.sliceApplied (.ref sl) (pure (n:Int))) Q E s:=by
 obtain ⟨os,hos,hcs,hds⟩:=id hs
 unfold Builtin.Slice.sliceApplied Builtin.Slice.sliceFields
 refine wpAny_bind (wpAny_bind (wpAny_field hos hds (x:=.none) rfl (wpAny_bind (wpAny_field hos hds (x:=.none) rfl (wpAny_bind (wpAny_field hos hds (x:=.int 2 t2) rfl (wpAny_pure ?_)))))))
 refine wpAny_bind (slicePart_int ?_)
 show wpAny _ _ (if ((2:Int) == 0)=true then _ else _) _ _ s
 rw [if_neg (by decide)]
 refine wpAny_bind (slicePart_none (wpAny_bind (slicePart_none (wpAny_bind (wpAny_pure ?_)))))
 show wpAny _ _ (pure ((0:Int),(2:Int),Builtin.Slice.slicePlaces 0 (n:Int) 2)) _ _ s
 rw [BL]
 exact wpAny_pure h
theorem lE {prog:Program}{w:World}{A:Around}{E:Value->Shared->Prop}{s:Shared}{t sl:Addr}{items:Array Value}{t2:Tok}{Q:Value->Shared->Prop} (ht:IsTup s.heap t items) (hs:s.heap.IsSliceOf sl .none .none (.int 2 t2))
  (h:Q (.ref s.heap.objs.size) { s with heap:=s.heap.push { cls:=.type "tuple",data:=.seq (fm items.toList).toArray } }) (hsz:items.size <= sizeLine):wpAny (model prog w) A (getItem (.ref t) (.ref sl)) Q E s:=by
 have htake:sizeOk (.seq (fm items.toList).toArray):=by
  show (fm items.toList).toArray.size <= sizeLine
  rw [List.size_toArray]
  exact Nat.le_trans (tU _) (by rw [Array.length_toList];exact hsz)
 obtain ⟨os,hos,hcs,hds⟩:=id hs
 have hTs:s.TypeIs (.ref sl) "slice":=⟨os,hos,hcs⟩
 unfold getItem
 try with_reducible refine wpAny_holding ?_
 first | refine wpAny_bind (wpAny_pure ?_) | skip
 refine wpAny_bind (wpAny_sequenceKey ht.typeIs (by decide) ?_)
 refine wpAny_bind (wpAny_callSpecial?_slot (name:=Str.ofString "__getitem__") ht.typeIs PyProof.Rows.slot_tuple_getitem
  (wpAny_call_entry PyProof.Rows.slot_tuple_getitem ht.typeIs entry_tuple_getitem ?_ (args_tuple_getitem _ _)))
 show wpAny _ _ (Builtin.Tuple.tupleItemsOf (.ref t) >>= _) _ _ s
 refine wpAny_bind (tupleItemsOf_ ht ?_)
 refine wpAny_bind (wpAny_typeOf hTs ?_)
 rw [if_pos (by decide)]
 refine wpAny_bind (Al hs ?_)
 show wpAny _ _ (if ((0:Int) == 0 && (2:Int) == 1 && ((items.size + 1) / 2) == items.size)=true then _ else _) _ _ s
 rw [if_neg (by simp),Ew]
 first
  | exact wpAny_bind (m:=Builtin.Tuple.tupleExact _) (wpAny_newObj_type (wpAny_pure ⟨_,rfl,wpAny_pure h⟩) htake)
  | exact wpAny_bind (m:=Builtin.Tuple.tupleExact _) (wpAny_newObj_type (wpAny_bind (wpAny_pure (wpAny_pure ⟨_,rfl,wpAny_pure h⟩))) htake)
  | exact wpAny_bind (wpAny_bind (m:=Builtin.Tuple.tupleExact _) (wpAny_newObj_type (wpAny_pure (wpAny_pure ⟨_,rfl,wpAny_pure h⟩)) htake))
  | exact wpAny_bind (wpAny_bind (m:=Builtin.Tuple.tupleExact _) (wpAny_newObj_type (wpAny_pure ⟨_,rfl,wpAny_pure h⟩) htake))
def Dw (K:W.Frag) (te:TE):TE:=fun σ H Q=>te σ H fun x H1=>∃a xs,x=.ref a/\SqT K H1 a xs/\∀p,H1 p=none->Q (.ref p) (upd H1 p (.tup (fm xs)))
theorem y4 {e:Expr}{te:TE}{j:Nat}{pos p2 p3:Pos} (he:PE X e te):PE X (.Subscript e (.Slice none none (some (.Constant (.int 2) j p3)) p2) pos) (Dw X.K te):=by
 intro pins s σ H Q I h
 refine Subscript_ (thn (he pins s σ H _ I h) fun v s1 ⟨x,H1,I1,r1,a,xs,ex,hx,q⟩=>?_)
 subst ex
 cases r1
 refine wpAny_Slice ?_
 rw [evalPart_none]
 refine wpAny_pure ?_
 refine wpAny_pure ?_
 rw [evalPart_some]
 refine wpAny_Constant_int ?_
 obtain ⟨its,r,ht,hz⟩:=I1.tuple hx
 have hlen:its.toArray.size=xs.length:=by rw [List.size_toArray];exact r.length.symm
 have I4:Inv X pins σ H1 { s1 with heap:=s1.heap.push { cls:=.type "slice",data:=.fields #[.none,.none,.int 2 s1.toks] },toks:=s1.toks + 1 }:=I1.kept fun b ob q=>Heap.get?_push_of_some _ q
 have ht4:IsTup (s1.heap.push { cls:=.type "slice",data:=.fields #[.none,.none,.int 2 s1.toks] }) a its.toArray:=by
  obtain ⟨o,e,r⟩:=ht
  exact ⟨o,Heap.get?_push_of_some _ e,r⟩
 refine tail_any (ops:=[.ref a,.ref s1.heap.objs.size]) (s:={ s1 with heap:=s1.heap.push { cls:=.type "slice",data:=.fields #[.none,.none,.int 2 s1.toks] },toks:=s1.toks + 1 }) ht4.typeIs PyProof.Rows.slot_tuple_getitem.lookup (lE ht4 (Heap.IsSliceOf.new ..) ?_ (by rw [hlen];exact hz)) (by with_unfolding_all rfl)
 refine ⟨.ref _,_,I4.laid (t':=s1.toks + 1) (o:=.tup (fm xs)) (fun b ob q=>Heap.get?_push_of_some _ q) (Nat.le_refl _) ?_,rfl,q _ (I4.hok.fresh (Nat.le_refl _))⟩
 exact ⟨Nat.le_trans (tU xs) hz,_,r.fm,IsTup.new _ _⟩
theorem zg:cO X (.type "str") (fun xs H Q=>(∃i,xs=[.int i]/\i.natAbs.log2 < 1920/\Q (.str (toString i)) H) \/ ∃x,xs=[.str x]/\Q (.str x) H):=by
 intro pins s σ H xs us Q I r h
 rcases h with h | ⟨x,rfl,q⟩
 ·exact sY pins s σ H xs us Q I r h
 ·obtain ⟨u,rfl,t,rfl⟩:=vals1 r
  exact PySem.P.str_of_str ⟨.str x,H,I,⟨_,rfl⟩,q⟩
theorem cQ {x:Str}{pos:Pos}{a:Addr} (h:X.mg x=some (.ref a)) (hg:Gl X x:=by rfl) (hd:(x == ("__debug__":Str))=false:=by decide):PE X (.Name x pos) (tC (.ref a)):=A5 hg h rfl hd
end
end L2
namespace L2
open PySem PySem.Spec PyProof.Rows
end L2
namespace L2
open PySem PySem.Spec PyProof.Rows
theorem pZ {J:It}{n:Nat}{x:Nat->V}{fr:List Nat}{te:CB->TE}{Q:VK}{σ:St}{H1:Hp} (R:Nat->V->Hp->Prop) (hn:n < sizeLine)
  (stop:∀H,ai H1 H->J.stop n H) (go:∀i H,i < n->ai H1 H->J.go i H) (yld:∀i H v H',i < n->ai H1 H->J.yld i H v H'->H'=H/\v=x i)
  (he:∀b i H (G:VK),i < n->ai H1 H->(∀y H',ai H H'->R i y H'->G y H')->te b (some (x i) :: cFr fr σ) H G)
  (mono:∀i y H H',ai H H'->R i y H->R i y H') (st:∀i y H D ys zs,H D=some (.lst ys)->R i y H->R i y (upd H D (.lst zs)))
  (fin:∀D H ys,H1 D=none->ai H1 H->H D=some (.lst ys)->ys.length=n->(∀(i:Nat) y,ys[i]?=some y->R i y H)->Q (.ref D) H):mN J 1 fr (fun _=>ky 0) (fun _=>EH) te Q σ H1:=by
 refine ⟨fun b D hD=>?_⟩
 refine ⟨fun i m σ' H'=>m=n - i/\i <= n/\(∃v0,σ'=v0 :: cFr fr σ)/\ai H1 H'/\∃ys,H' D=some (.lst ys)/\ys.length=i/\∀(j:Nat) y,ys[j]?=some y->R j y H',⟨n,rfl,Nat.zero_le _,⟨none,rfl⟩,ai.upd hD _,[],ao,rfl,fun j y h=>by cases h⟩,?_⟩
 rintro i m σ' H' ⟨rfl,hi,⟨v0,rfl⟩,sm,ys,hl,hy,hR⟩
 by_cases hlt:i < n
 ·refine .inr ⟨go i H' hlt sm,fun σ2 H2=>(∃v0,σ2=v0 :: cFr fr σ)/\ai H1 H2/\∃ys,H2 D=some (.lst ys)/\ys.length=i + 1/\∀(j:Nat) y,ys[j]?=some y->R j y H2,fun σ2 H2 q=>⟨n - (i + 1),by omega,rfl,hlt,q⟩,fun v H2 y=>?_⟩
  obtain ⟨rfl,rfl⟩:=yld i H' v H2 hlt sm y
  refine he b i _ _ hlt sm fun z H4 s4 rz=>⟨ys,s4 _ _ hl,by omega,⟨_,rfl⟩,?_,ys ++ [z],ao,by simp [hy],fun j y' hj=>?_⟩
  ·intro c o q
   by_cases hc:c=D
   ·rw [hc,hD] at q;cases q
   ·rw [aQ hc];exact (sm.trans s4) c o q
  ·have hD4:=s4 _ _ hl
   by_cases hji:j < ys.length
   ·rw [List.getElem?_append_left hji] at hj
    exact st _ _ _ _ _ _ hD4 (mono _ _ _ _ s4 (hR j y' hj))
   ·by_cases e:j=ys.length
    ·subst e
     rw [List.getElem?_append_right (Nat.le_refl _)] at hj
     simp at hj
     subst hj
     rw [hy]
     exact st _ _ _ _ _ _ hD4 rz
    ·rw [List.getElem?_eq_none (by simp;omega)] at hj
     cases hj
 ·have e:i=n:=by omega
  subst e
  exact .inl ⟨stop H' sm,fin D H' ys hD sm hl hy hR⟩
end L2
namespace L2
open PySem PySem.Spec PyProof.Rows
section
variable {P:Program}{w:World}{K:W.Frag}{mg:Str->Option Value}{base:Heap}
structure MFn (K:W.Frag) (C:Addr) (m qual:Str) (st:Stmt) (ps:List Str):Prop where
 ex:∃f fd,Fun K m qual st f fd/\Binds K fd ps []/\Meth K C m f
def tu (P:Program) (w:World) (K:W.Frag) (mg:Str->Option Value) (base:Heap) (k:Nat) (C:Addr) (m:Str) (ps:List Str) (sp:Sp):Prop :=
 ∃f fd,lM P w K mg base CX0 k f fd ps sp/\Binds K fd ps []/\Meth K C m f
abbrev MFn.Hz {C:Addr}{m qual:Str}{st:Stmt}{ps:List Str} (_:MFn K C m qual st ps) (P:Program) (w:World) (mg:Str->Option Value) (base:Heap) (k:Nat) (sp:Sp):Prop:=tu P w K mg base k C m ps sp
theorem MFn.hs {C:Addr}{m qual:Str}{st:Stmt}{N ps:List Str}{k:Nat}{sp:Sp} (F:MFn K C m qual st ps) (S:az N ps (aq st))
  (hbody:∀(f:Addr) (cdv:Value) (A:Around) (outer:List Env) (s:Shared) (H:Hp) (vs:List V) (Q:VK) (E:XK),cZ k (A.deeper (envOfC qual (aq st) s.heap.objs.size f cdv))->(A.deeper (envOfC qual (aq st) s.heap.objs.size f cdv)).units + 64 < cLine->sp vs H Q E ->
   ∃t,PSs (rD CX0 P w K mg base N qual (aq st) f cdv A outer s H E).nox (bq st) t/\t { nx:=fun _ H'=>Q .non H',rt:=Q } (start N vs) H) (len:∀vs H Q E,sp vs H Q E->vs.length=ps.length:=by intro _ _ _ _ h;cases h;subst_vars;rfl):tu P w K mg base (k + 1) C m ps sp:=by
 obtain ⟨f,fd,F,b,m⟩:=F.ex
 exact ⟨f,fd,F.ok S len fun cdv A outer s H vs Q E hr h=>hbody f cdv A outer s H vs Q E hr hr.units h,b,m⟩
structure df (K:W.Frag) (mg:Str->Option Value) (C:Addr) (x:Str) (up:List Addr):Prop where
 mg:mg x=some (.ref C)
 cl:Cls K C
 mro:∃cd,W.clsIn K C=some cd/\cd.mro=up.map Value.ref ++ [Value.type "object"]
 ty:W.typeIn K (.ref C)=some (.type "type")
 kc:W.findIn K (.ref C) "__class__"=some (some (.builtin "object.__class__"))
 cg:W.specialIn K (.builtin "object.__class__") "__get__"=some (some (.builtin "getset_descriptor.__get__"))
 ct:W.takesIn K (.builtin "object.__class__")=some true
 mks:W.makesIn K C=true
 kp:W.keepIn K (.ref C)=true
variable {C D:Addr}{x y:Str}{up vp:List Addr}
theorem df.sub (O:df K mg C x up) (b:Value):W.mroIn K C b=some ((up.map Value.ref ++ [Value.type "object"]).contains b):=by
 obtain ⟨cd,h1,h2⟩:=O.mro
 unfold W.mroIn
 rw [h1]
 show (if cd.mro.isEmpty=true then none else some (cd.mro.contains b))=_
 rw [h2,if_neg (by cases up <;> simp)]
theorem qc (up:List Addr) (D:Addr):(up.map Value.ref ++ [Value.type "object"]).contains (Value.ref D)=decide (D ∈ up):=by
 induction up with
 | nil=>rfl
 | cons a r ih =>
  show ((Value.ref D == Value.ref a) || (r.map Value.ref ++ [Value.type "object"]).contains (Value.ref D))=_
  rw [ih]
  by_cases h:D=a
  ·subst h;simp
  ·have:(Value.ref D == Value.ref a)=false:=by
    rw [Bool.eq_false_iff]
    intro z
    exact h (Value.ref.inj (beq_iff_eq.mp z))
   rw [this,Bool.false_or]
   simp [h]
theorem df.kit (O:df K mg C x up) (U:df K mg D y vp) (hs:C ∈ up):W.kitOne K (.ref C) (.ref D)=some (decide (D ∈ up)):=by
 unfold W.kitOne
 split
 ·rename_i q
  have:C=D:=Value.ref.inj (beq_iff_eq.mp q)
  rw [<- this,decide_eq_true hs]
 ·obtain ⟨cd,h1,_⟩:=U.mro
  unfold W.kitCls
  dsimp only
  rw [h1,U.ty]
  rw [if_pos (by rfl)]
  show W.mroIn K C (.ref D)=_
  rw [O.sub,qc]
theorem df.Fz (O:df K mg C x up) {H:Hp}{a dx:Addr}{fs:List (Str × V)} (e:H a=some (.ins C dx fs)):kJ K H (.ref a) (.ref C) :=
 .ins e O.cl O.kc O.cg O.ct ((O.sub _).trans (by simp))
end
section
variable {X:Cx}{k j:Nat}{C:Addr}{x m:Str}{ps:List Str}{sp:Sp}{o e:Expr}{es:List Expr}{ta:TE}{t:TA}{p apos pos:Pos}{up:List Addr}
theorem bT (O:df X.K X.mg C x up) (D:tu X.prog X.w X.K X.mg X.base j C "__init__" ps sp) (hr:cZ k X.A) (ha:PA X (e :: es) t) (hj:j + 1 <= k:=by decide) (hg:Gl X x:=by rfl) (hdb:(x == ("__debug__":Str))=false:=by decide)
  (he:starEach (e :: es) X.env=(false,eval e X.env) :: starEach es X.env:=by rfl) (hpl:(backTo pos (starEach es X.env)).any (·.1)=false:=by rfl):PE X (.Call (.Name x p) (e :: es) [] pos) (BR C sp [] E0 t):=by
 obtain ⟨f,fd,F,b,m⟩:=D
 exact BC ⟨O.mks,m.at_,m.fn,O.kp⟩ F (hr.mono hj) hg O.mg b .nil ux ha hdb he hpl
def CW (M:Addr->Sp->Prop) (m:Str) (ta:TE) (t:TA):TE:=fun σ H Q=>ta σ H fun x H1=>∃a C dx fs sp,x=.ref a/\H1 a=some (.ins C dx fs)/\fs.lookup m=none/\M C sp/\t σ H1 fun vs H2=>sp (x :: vs) H2 Q E0
theorem mC {M:Addr->Sp->Prop}{pl:Sem Bool} (he:PE X o ta) (hM:∀C sp,M C sp->Cls X.K C/\∃ps,tu X.prog X.w X.K X.mg X.base j C m ps sp) (hr:cZ k X.A) (hj:j <= k:=by decide)
  (ht:eval (.Call (.Attribute o m apos) [] [] pos) X.env=(do
   let ov <- eval o X.env
   standAt apos.atName
   let (f,first) <- holding [ov] (getMethod ov m pl)
   callWith pos f first (backTo pos (starEach [] X.env)) (backToKw pos (keywordEach [] X.env))):=by rfl) :
  PE X (.Call (.Attribute o m apos) [] [] pos) (CW M m ta Em):=by
 intro pins s σ H Q I h
 refine W.methodCall_KW (pl:=pl) (thn (he pins s σ H _ I h) fun u s1 ⟨x,H1,I1,rx,a,C,dx,fs,sp,ex,ea,l,hm,q⟩=>?_) ht
 obtain ⟨c,ps,f,fd,F,b,hm⟩:=hM C sp hm
 subst ex
 obtain rfl:u=Value.ref a:=rx
 refine vO I1 ea c hm l ?_
 exact W.callWith_K0 (first:=[.ref a]) I1.kIn hm.kp (vj (us:=[.ref a]) (vs:=[.ref a]) (dvs:=[]) F (hr.mono hj) b .nil ux I1 (.cons rfl .nil) q)
structure OfC (K:W.Frag) (C:Addr) (m:Str):Prop where
 ga:W.specialIn K (.ref C) "__getattribute__"=some (some (.builtin "type.__getattribute__"))
 rd:W.readsIn K C (.type "type")=true
 fc:∃f,W.findIn K (.ref C) m=some (some (.ref f))/\W.findCls K (.ref C) (.type "type") m=some (.val (.ref f))
theorem bN {pl:Sem Bool} (O:df X.K X.mg C x up) (W:OfC X.K C m) (D:tu X.prog X.w X.K X.mg X.base j C m ps sp) (hr:cZ k X.A) (ha:PA X (e :: es) t) (hj:j <= k:=by decide) (hg:Gl X x:=by rfl) (hdb:(x == ("__debug__":Str))=false:=by decide)
  (hst:starEach (e :: es) X.env=(false,eval e X.env) :: starEach es X.env:=by rfl) (hpl:(backTo pos (starEach es X.env)).any (·.1)=false:=by rfl)
  (ht:eval (.Call (.Attribute (.Name x p) m apos) (e :: es) [] pos) X.env=(do
   let ov <- eval (.Name x p) X.env
   standAt apos.atName
   let (f,first) <- holding [ov] (getMethod ov m pl)
   callWith pos f first (backTo pos (starEach (e :: es) X.env)) (backToKw pos (keywordEach [] X.env))):=by rfl) :
  PE X (.Call (.Attribute (.Name x p) m apos) (e :: es) [] pos) (wR sp [] E0 t):=by
 obtain ⟨f,fd,F,b,hm⟩:=D
 intro pins s σ H Q I h
 refine PySem.W.methodCall_KW (pl:=pl) (oE I hg O.mg ?_ hdb) ht
 obtain ⟨f',h1,h2⟩:=W.fc
 have ef:f=f':=by
  have:=hm.at_.symm.trans h1
  cases this
  rfl
 subst ef
 refine PySem.W.method_cls I.kIn W.ga (PySem.W.cls_value I.kIn W.rd h2 rfl ?_)
 refine PySem.W.callWith_K (h₀:=X.base) I.ok.mod.kin hm.kp (thn (ha pos pins _ σ H _ (I.tok _) h) fun us s2 ⟨vs,H2,I2,r,q2⟩=>⟨I2.kIn,?_⟩) hst hpl
 exact vj (us:=us) (vs:=vs) F (hr.mono hj) b .nil ux I2 r q2
end
theorem Dg {K:W.Frag}{C:Addr}{m qual:Str}{st:Stmt}{ps:List Str}{f:Addr}{oc:Value}{od an:Option Addr}{osl:Array (Option Value)}{kV doc pm cdv ct:Value}
  (a:W.findIn K (.ref C) m=some (some (.ref f))) (fn:W.isFn K (.ref f)=true) (l:K.lookup f=some ⟨oc,od,.func (W.fnOf m qual (bD st) (bq st) (aq st) .none kV doc pm an cdv ct),osl⟩) (c:W.codeIn K cdv qual=true) (k:W.keepIn K (.ref f)=true)
  (hb:∀(kV doc pm:Value) (an:Option Addr) (cdv ct:Value) (us:List Value),us.length=ps.length->bindArgs (W.fnOf m qual (bD st) (bq st) (aq st) .none kV doc pm an cdv ct) ⟨us,[]⟩=pure (ps.zip us)):MFn K C m qual st ps :=
 ⟨f,_,rE l c k,(rE l c k).binds hb,⟨a,fn,k⟩⟩
end L2
namespace L2
open PySem PySem.Spec PyProof.Rows
end L2
namespace L2
open PySem
end L2
namespace L2
open PySem
end L2
namespace L2
open PySem PySem.Spec PyProof.Rows
section
variable {X:Cx}
def qz:V->Bool
 | .flt _=>false
 | .byt _=>false
 | _=>true
theorem mn {x:V}{u v:Value} (hx:qz x=true) (ru:RelV x u) (rv:RelV x v) (A:Around) (s:Shared):SeqAt.EqAt A s u v true:=by
 cases x with
 | non=>cases ru;cases rv;exact .same _
 | bl b=>cases ru;cases rv;exact .same _
 | int i =>
  obtain ⟨t,rfl⟩:=ru
  obtain ⟨t',rfl⟩:=rv
  have:=SeqAt.EqAt.int_int (A:=A) (s:=s) i t i t'
  rwa [beq_self_eq_true] at this
 | str y =>
  obtain ⟨t,rfl⟩:=ru
  obtain ⟨t',rfl⟩:=rv
  have:=SeqAt.EqAt.str_str (A:=A) (s:=s) y t y t'
  rwa [beq_self_eq_true] at this
 | byt _=>cases hx
 | flt _=>cases hx
 | ref a=>cases ru;cases rv;exact .same _
 | ty n=>cases ru;cases rv;exact .same _
theorem E8 (hu:X.A.units + 64 < cLine):OpR X (compareOp .Eq) (fun x y H Q=>∃p q xs,x=.ref p/\y=.ref q/\SqL X.K H p xs/\SqL X.K H q xs/\xs.all qz=true/\Q (.bl true) H):=by
 intro pins s σ H x y v u Q I rx ry h
 obtain ⟨p,q,xs,rfl,rfl,hp,hq,hf,k⟩:=h
 cases rx
 cases ry
 obtain ⟨its,r1,⟨o,n,e1,c1,_,d1⟩,_⟩:=I.list hp
 obtain ⟨jts,r2,⟨o2,n2,e2,c2,_,d2⟩,_⟩:=I.list hq
 have l1:=r1.length
 have l2:=r2.length
 refine SeqAt.eq_listAt (e:=fun _=>true) ⟨o,e1,c1,n,d1⟩ ⟨o2,e2,c2,n2,d2⟩ (by simp;omega) (by omega) (fun j h1 h2=>?_) ?_
 ·simp at h1 h2
  obtain ⟨x,hx⟩:∃x,xs[j]?=some x:=⟨xs[j]'(by omega),List.getElem?_eq_getElem (by omega)⟩
  obtain ⟨u1,g1,w1⟩:=r1.get hx
  obtain ⟨u2,g2,w2⟩:=r2.get hx
  have z1:its.toArray[j]'(by simpa using h1)=u1:=by
   have:=List.getElem?_eq_getElem h1
   rw [g1] at this
   simpa using (Option.some.inj this).symm
  have z2:jts.toArray[j]'(by simpa using h2)=u2:=by
   have:=List.getElem?_eq_getElem h2
   rw [g2] at this
   simpa using (Option.some.inj this).symm
  rw [z1,z2]
  exact mn (List.all_eq_true.mp hf x (List.mem_of_getElem? hx)) w1 w2 _ _
 ·have:((List.range its.toArray.size).all fun _=>true)=true:=by simp
  rw [this]
  exact ⟨.bl true,H,I,rfl,k⟩
def FF (K:W.Frag):R2:=fun x y H Q=>match x,y with
 | .ref p,.ref q=>(∃d e,jj K H (.ref p) d/\jj K H (.ref q) e/\SeqAt.shaped d=true/\SeqAt.shaped e=true/\Q (.bl (PyData.eqv d e)) H) \/ (∃xs,SqL K H p xs/\SqL K H q xs/\xs.all qz=true/\Q (.bl true) H)
 | x,y=>x8 x y=true/\Q (.bl (decide (x=y))) H
theorem EL (hu:X.A.units + 64 < cLine):OpR X (compareOp .Eq) (FF X.K):=((Gh hu).or (E8 hu)).imp fun x y H Q q=>by
 by_cases hr:∃p q,x=V.ref p/\y=V.ref q
 ·obtain ⟨p,q',rfl,rfl⟩:=hr
  rcases q with q | ⟨xs,h1,h2,h3,h4⟩
  ·exact .inl q
  ·exact .inr ⟨p,q',xs,rfl,rfl,h1,h2,h3,h4⟩
 ·refine .inl ?_
  cases x <;> cases y <;> first | exact q | exact absurd ⟨_,_,rfl,rfl⟩ hr
end
end L2
namespace L2
open PySem PySem.Spec PyProof.Rows
section
variable {κ:Type} [DecidableEq κ]
def bX (kvs:List (κ × V)) (k:κ):Option V:=(kvs.find? fun kv=>decide (kv.1=k)).map (·.2)
def putK (kvs:List (κ × V)) (k:κ) (v:V):List (κ × V) :=
 if (kvs.any fun kv=>decide (kv.1=k))=true then kvs.map (fun kv=>if kv.1=k then (kv.1,v) else kv) else kvs ++ [(k,v)]
theorem b7 {p:κ × V}{r:List (κ × V)}{k:κ} (e:p.1=k):bX (p :: r) k=some p.2:=by simp [bX,List.find?_cons,e]
theorem bP {p:κ × V}{r:List (κ × V)}{k:κ} (e:¬ p.1=k):bX (p :: r) k=bX r k:=by simp [bX,List.find?_cons,e]
theorem iu (k:κ):∀kvs:List (κ × V),(kvs.any fun kv=>decide (kv.1=k))=(bX kvs k).isSome
 | []=>rfl
 | p :: r=>by
  rw [List.any_cons]
  by_cases e:p.1=k
  ·simp only [b7 e,decide_eq_true e,Bool.true_or,Option.isSome_some]
  ·rw [bP e,decide_eq_false e,Bool.false_or];exact iu k r
theorem uG (k j:κ) (y:V):∀kvs:List (κ × V),bX (kvs.map fun kv=>if kv.1=k then (kv.1,y) else kv) j=(bX kvs j).map fun x=>if j=k then y else x
 | []=>rfl
 | p :: r=>by
  have ih:=uG k j y r
  rw [List.map_cons]
  by_cases h:p.1=k
  ·rw [if_pos h]
   by_cases e:p.1=j
   ·rw [b7 (p:=(p.1,y)) e,b7 e,Option.map_some,if_pos (e.symm.trans h)]
   ·rw [bP (p:=(p.1,y)) e,bP e,ih]
  ·rw [if_neg h]
   by_cases e:p.1=j
   ·rw [b7 (p:=p) e,b7 e,Option.map_some,if_neg (fun z=>h (e.trans z))]
   ·rw [bP (p:=p) e,bP e,ih]
theorem qO (k j:κ) (y:V):∀kvs:List (κ × V),bX kvs k=none->bX (kvs ++ [(k,y)]) j=if j=k then some y else bX kvs j
 | [],_=>by
  by_cases e:k=j
  ·rw [if_pos e.symm];exact b7 (p:=(k,y)) e
  ·rw [if_neg (fun z=>e z.symm)];exact bP (p:=(k,y)) e
 | p :: r,hn=>by
  rw [List.cons_append]
  have hk:¬ p.1=k:=fun z=>by rw [b7 z] at hn;cases hn
  rw [bP hk] at hn
  have ih:=qO k j y r hn
  by_cases e:p.1=j
  ·rw [b7 e,b7 e,if_neg (fun z=>hk (e.trans z))]
  ·rw [bP e,bP e,ih]
theorem uX (kvs:List (κ × V)) (k j:κ) (y:V):bX (putK kvs k y) j=if j=k then some y else bX kvs j:=by
 unfold putK
 by_cases a:(kvs.any fun kv=>decide (kv.1=k))=true
 ·rw [if_pos a,uG]
  rw [iu] at a
  by_cases e:j=k
  ·obtain ⟨x,hx⟩:=Option.isSome_iff_exists.mp a
   rw [if_pos e,e,hx,Option.map_some,if_pos rfl]
  ·rw [if_neg e]
   cases bX kvs j with
   | none=>rfl
   | some x=>rw [Option.map_some,if_neg e]
 ·rw [if_neg a]
  refine qO k j y kvs ?_
  rw [iu] at a
  cases q:bX kvs k with
  | none=>rfl
  | some x=>rw [q] at a;exact (a rfl).elim
theorem gF (kvs:List (κ × V)) (k:κ) (v:V):(putK kvs k v).length <= kvs.length + 1:=by
 unfold putK
 split
 ·rw [List.length_map];omega
 ·rw [List.length_append,List.length_cons,List.length_nil];omega
theorem uh {kvs:List (κ × V)}{k:κ} (v:V) (h:bX kvs k=none):putK kvs k v=kvs ++ [(k,v)]:=by
 unfold putK
 rw [iu,h]
 exact if_neg (by decide)
theorem kb.ip {o:Option V}{u:Option Value} (r:kb o u):o.isSome=u.isSome:=by
 cases o with
 | none=>cases u with
  | none=>rfl
  | some _=>exact (show False from r).elim
 | some _=>cases u with
  | none=>exact (show False from r).elim
  | some _=>rfl
theorem KV.val {kvs:List (κ × V)}{vs:List (κ × Value)} (r:KV kvs vs) (k:κ):kb (bX kvs k) (valueAt vs k):=by
 unfold KV at r
 induction r with
 | nil=>exact True.intro
 | @cons p q ps qs h t ih =>
  obtain ⟨h1,h2⟩:=h
  by_cases e:p.1=k
  ·have e':q.1=k:=h1.symm.trans e
   have b:valueAt (q :: qs) k=some q.2:=by simp [valueAt,List.find?_cons,e']
   rw [b7 e,b];exact h2
  ·have e':¬ q.1=k:=fun z=>e (h1.trans z)
   have b:valueAt (q :: qs) k=valueAt qs k:=by simp [valueAt,List.find?_cons,e']
   rw [bP e,b];exact ih
theorem KV.any {kvs:List (κ × V)}{vs:List (κ × Value)} (r:KV kvs vs) (k:κ):(kvs.any fun kv=>decide (kv.1=k))=vs.any fun kv=>decide (kv.1=k):=by
 unfold KV at r
 induction r with
 | nil=>rfl
 | cons h t ih=>rw [List.any_cons,List.any_cons,ih,h.1]
theorem KV.Ct {kvs:List (κ × V)}{vs:List (κ × Value)} (r:KV kvs vs) (k:κ) {y:V}{u:Value} (ry:RelV y u) :
  KV (kvs.map fun kv=>if kv.1=k then (kv.1,y) else kv) (vs.map fun kv=>if kv.1=k then (kv.1,u) else kv):=by
 unfold KV at r ⊢
 induction r with
 | nil=>exact .nil
 | @cons p q ps qs h t ih =>
  rw [List.map_cons,List.map_cons]
  refine .cons ?_ ih
  obtain ⟨h1,h2⟩:=h
  by_cases e:p.1=k
  ·rw [if_pos e,if_pos (h1.symm.trans e)];exact ⟨h1,ry⟩
  ·rw [if_neg e,if_neg (fun z=>e (h1.trans z))];exact ⟨h1,h2⟩
theorem KV.put {kvs:List (κ × V)}{vs:List (κ × Value)} (r:KV kvs vs) (k:κ) {y:V}{u:Value} (ry:RelV y u):KV (putK kvs k y) (stored vs k u):=by
 unfold putK stored
 rw [r.any k]
 by_cases e:(vs.any fun kv=>decide (kv.1=k))=true
 ·rw [if_pos e,if_pos e];exact r.Ct k ry
 ·rw [if_neg e,if_neg e];exact Paired.snoc r ⟨rfl,ry⟩
theorem KV.keys {kvs:List (κ × V)}{vs:List (κ × Value)} (r:KV kvs vs):kvs.map (·.1)=vs.map (·.1):=by
 unfold KV at r
 induction r with
 | nil=>rfl
 | cons h t ih=>rw [List.map_cons,List.map_cons,ih,h.1]
theorem KV.length {kvs:List (κ × V)}{vs:List (κ × Value)} (r:KV kvs vs):kvs.length=vs.length:=Paired.length r
end
theorem pM {P:Program}{w:World}{k:Key}{u:Value} (r:RelV (kV k) u):(bJ P w).is k u=true:=by
 cases k with
 | inl i=>obtain ⟨t,e⟩:=(show ∃t,u=Value.int i t from r);subst e;exact u4 P w i t
 | inr x=>obtain ⟨t,e⟩:=(show ∃t,u=Value.str x t from r);subst e;exact uo P w x t
theorem qR {P:Program}{w:World}:∀{ks:List Key}{us:List Value},Vals (ks.map kV) us->ItemsAre (bJ P w) ks us
 | [],_,r=>by rw [List.map_nil] at r;cases r;exact .nil
 | k :: ks,_,r=>by
  rw [List.map_cons] at r
  cases r with
  | cons h t=>exact .cons (pM h) (qR t)
abbrev KT (H:Hp):List (List Key × V)->List (List Key × Addr × Value)->Prop:=Paired fun p q=>p.1=q.1/\H q.2.1=some (.tup (p.1.map kV))/\RelV p.2 q.2.2
theorem KT.val {H:Hp}{kvs:List (List Key × V)}{xs:List (List Key × Addr × Value)} (r:KT H kvs xs) (k:List Key):kb (bX kvs k) ((atKey xs k).map (·.2)):=by
 induction r with
 | nil=>exact True.intro
 | @cons p q ps qs h t ih =>
  obtain ⟨h1,_,h2⟩:=h
  by_cases e:p.1=k
  ·have e':q.1=k:=h1.symm.trans e
   have b:atKey (q :: qs) k=some q.2:=by simp [atKey,List.find?_cons,e']
   rw [b7 e,b];exact h2
  ·have e':¬ q.1=k:=fun z=>e (h1.trans z)
   have b:atKey (q :: qs) k=atKey qs k:=by simp [atKey,List.find?_cons,e']
   rw [bP e,b];exact ih
theorem KT.Ct {H:Hp}{kvs:List (List Key × V)}{xs:List (List Key × Addr × Value)} (r:KT H kvs xs) (k:List Key) {y:V}{u:Value} (ry:RelV y u) :
  KT H (kvs.map fun kv=>if kv.1=k then (kv.1,y) else kv) (xs.map (putAt k u)):=by
 induction r with
 | nil=>exact .nil
 | @cons p q ps qs h t ih =>
  rw [List.map_cons,List.map_cons]
  refine .cons ?_ ih
  obtain ⟨h1,h2,h3⟩:=h
  unfold putAt
  by_cases e:p.1=k
  ·rw [if_pos e,if_pos (h1.symm.trans e)];exact ⟨h1,h2,ry⟩
  ·rw [if_neg e,if_neg (fun z=>e (h1.trans z))];exact ⟨h1,h2,h3⟩
theorem KT.put {H:Hp}{kvs:List (List Key × V)}{xs:List (List Key × Addr × Value)} (r:KT H kvs xs) (k:List Key) {b:Addr}{y:V}{u:Value} (hb:H b=some (.tup (k.map kV))) (ry:RelV y u) :
  KT H (putK kvs k y) (storedH xs k b u):=by
 have e:(kvs.any fun kv=>decide (kv.1=k))=(atKey xs k).isSome:=by
  rw [iu,(r.val k).ip,Option.isSome_map]
 unfold putK storedH
 rw [e]
 by_cases q:(atKey xs k).isSome=true
 ·rw [if_pos q,if_pos q];exact r.Ct k ry
 ·rw [if_neg q,if_neg q];exact Paired.snoc r ⟨rfl,hb,ry⟩
theorem KT.keeps {H H':Hp}{kvs:List (List Key × V)}{xs:List (List Key × Addr × Value)} (r:KT H kvs xs) (ht:∀b ys,H b=some (.tup ys)->H' b=some (.tup ys)):KT H' kvs xs :=
 Paired.nX r fun _ _ z=>⟨z.1,ht _ _ z.2.1,z.2.2⟩
section
variable {P:Program}{w:World}{H:Hp}{h:Heap}{a:Addr}
theorem BX {u:HO} (ok:HOk P w H h) (e:Rd H a u):bW P w H h a u:=e.ok ok
theorem lb {kvs:List (Key × V)} (ok:HOk P w H h) (e:Rd H a (.dK kvs)):kvs.length <= sizeLine/\(a == sysModules)=false/\∃vs,KV kvs vs/\h.DictOf (bJ P w) a vs :=
 show bW P w H h a (.dK kvs) from BX ok e
theorem yW {kvs:List (Key × V)} (ok:HOk P w H h) (e:H a=some (.dK kvs)):kvs.length <= sizeLine/\(a == sysModules)=false/\∃vs,KV kvs vs/\h.DictOf (bJ P w) a vs:=lb ok (.inl e)
theorem pL {ks:List Key} (ok:HOk P w H h) (e:H a=some (.tup (ks.map kV))):(tupleKind (bJ P w)).is h ks a:=by
 obtain ⟨_,its,r,o,h1,h2,n,h3⟩:=(show bW P w H h a (.tup (ks.map kV)) from ok a _ e)
 exact ⟨o,its.toArray,n,h1,h2,h3,by simpa using qR r⟩
theorem tY {kvs:List (List Key × V)} (ok:HOk P w H h) (e:Rd H a (.dT kvs)):kvs.length <= sizeLine/\(a == sysModules)=false /\
  ∃xs,KT H kvs xs/\h.DictOfH (tupleKind (bJ P w)) a xs:=by
 obtain ⟨z,y,xs,r,o,es,ep,h1,h2,h3,h4,h5⟩:=(show bW P w H h a (.dT kvs) from BX ok e)
 refine ⟨z,y,xs,r,o,es,ep,h1,h2,h3,h4,fun x hx=>?_,h5⟩
 have all:∀{l:List (List Key × V)}{m:List (List Key × Addr × Value)},KT H l m->∀x ∈ m,(tupleKind (bJ P w)).is h x.1 x.2.1:=by
  intro l m q
  induction q with
  | nil=>intro x hx;exact nomatch hx
  | @cons p q ps qs hq t ih =>
   intro x hx
   rcases List.mem_cons.mp hx with e | hx
   ·subst e
    exact pL ok (by rw [<- hq.1];exact hq.2.1)
   ·exact ih x hx
 exact all r x hx
theorem B0 {kvs:List (List Key × V)} (ok:HOk P w H h) (e:H a=some (.dT kvs)):kvs.length <= sizeLine/\(a == sysModules)=false /\
  ∃xs,KT H kvs xs/\h.DictOfH (tupleKind (bJ P w)) a xs:=tY ok (.inl e)
end
def jq (H:Hp) (a:Addr) (y:V) (r:Option V):Prop :=
 (∃kvs k,Rd H a (.dK kvs)/\y=kV k/\r=bX kvs k) \/ ∃kvs k b,Rd H a (.dT kvs)/\y=.ref b/\H b=some (.tup (k.map kV))/\r=bX kvs k
def ke (H:Hp) (a:Addr) (y v:V) (H':Hp):Prop :=
 (∃kvs k,H a=some (.dK kvs)/\y=kV k/\kvs.length < sizeLine/\H'=upd H a (.dK (putK kvs k v))) \/
 ∃kvs k b,H a=some (.dT kvs)/\y=.ref b/\H b=some (.tup (k.map kV))/\kvs.length < sizeLine/\H'=upd H a (.dT (putK kvs k v))
theorem jq.k {H:Hp}{a:Addr}{kvs:List (Key × V)}{k:Key} (e:H a=some (.dK kvs)):jq H a (kV k) (bX kvs k):=.inl ⟨kvs,k,.inl e,rfl,rfl⟩
theorem jq.t {H:Hp}{a b:Addr}{kvs:List (List Key × V)}{k:List Key} (e:H a=some (.dT kvs)) (eb:H b=some (.tup (k.map kV))):jq H a (.ref b) (bX kvs k):=.inr ⟨kvs,k,b,.inl e,rfl,eb,rfl⟩
theorem ke.k {H:Hp}{a:Addr}{kvs:List (Key × V)}{k:Key}{v:V} (e:H a=some (.dK kvs)) (hl:kvs.length < sizeLine):ke H a (kV k) v (upd H a (.dK (putK kvs k v))):=.inl ⟨kvs,k,e,rfl,hl,rfl⟩
theorem ke.t {H:Hp}{a b:Addr}{kvs:List (List Key × V)}{k:List Key}{v:V} (e:H a=some (.dT kvs)) (eb:H b=some (.tup (k.map kV))) (hl:kvs.length < sizeLine) :
  ke H a (.ref b) v (upd H a (.dT (putK kvs k v))):=.inr ⟨kvs,k,b,e,rfl,eb,hl,rfl⟩
section
variable {X:Cx}{pins:List (Addr × Obj)}{σ:St}{H:Hp}{s:Shared}{a:Addr}{y v:V}{u r:Value}{o:Option V}{A:Around}{E:Value->Shared->Prop}
theorem Inv.big (I:Inv X pins σ H s):sysModules < s.heap.objs.size:=by
 have h:mainGlobals < s.heap.objs.size:=(I.mod.glob.keeps I.bk).lt
 exact Nat.lt_trans (by decide) h
theorem xG {Q:Value->Shared->Prop} (hu:A.units + 1 < cLine) (I:Inv X pins σ H s) (g:jq H a y (some v)) (ry:RelV y u) (h:∀w' s',Inv X pins σ H s'->RelV v w'->Q w' s') :
  wpAny (model X.prog X.w) A (getItem (.ref a) u) Q E s:=by
 rcases g with ⟨kvs,k,e,ey,l⟩ | ⟨kvs,k,b,e,ey,eb,l⟩
 ·subst ey
  obtain ⟨z,hd,vs,rel,dd⟩:=lb I.hok e
  obtain ⟨w',hw,rw'⟩:=kb.some_of (v:=v) (o:=valueAt vs k) (by rw [l];exact rel.val k)
  exact wpAny_getItem_of (pM ry) dd.mapOf hw (h w' _ (I.tok _) rw')
 ·subst ey
  cases (show u=Value.ref b from ry)
  obtain ⟨z,hd,xs,rel,dd⟩:=tY I.hok e
  obtain ⟨w',hw,rw'⟩:=kb.some_of (v:=v) (o:=(atKey xs k).map (·.2)) (by rw [l];exact rel.val k)
  obtain ⟨p,hp,hp2⟩:=Option.map_eq_some_iff.mp hw
  refine wpAny_getItem_heap (tupleKind_room_in1 hu) (pL I.hok eb) dd hp ?_
  rw [hp2]
  exact h w' _ (I.tok _) rw'
theorem F7 {Q:Value->Shared->Prop} (hu:A.units + 1 < cLine) (I:Inv X pins σ H s) (g:jq H a y o) (ry:RelV y u) (h:∀s',Inv X pins σ H s'->Q (.bool o.isSome) s') :
  wpAny (model X.prog X.w) A (compareOp .In u (.ref a)) Q E s:=by
 rcases g with ⟨kvs,k,e,ey,l⟩ | ⟨kvs,k,b,e,ey,eb,l⟩
 ·subst ey
  obtain ⟨z,hd,vs,rel,dd⟩:=lb I.hok e
  refine wpAny_in_of (pM ry) hd dd.mapOf ?_
  rw [<- (rel.val k).ip,<- l]
  exact h _ (I.tok _)
 ·subst ey
  cases (show u=Value.ref b from ry)
  obtain ⟨z,hd,xs,rel,dd⟩:=tY I.hok e
  refine wpAny_in_heap (tupleKind_room_in1 hu) (pL I.hok eb) hd dd ?_
  have q:=(rel.val k).ip
  rw [Option.isSome_map] at q
  rw [<- q,<- l]
  exact h _ (I.tok _)
theorem AZ {Q:Value->Shared->Prop} (hu:A.units + 1 < cLine) (I:Inv X pins σ H s) (g:jq H a y o) (ry:RelV y u) (h:∀s',Inv X pins σ H s'->Q (.bool (!o.isSome)) s') :
  wpAny (model X.prog X.w) A (compareOp .NotIn u (.ref a)) Q E s:=by
 rcases g with ⟨kvs,k,e,ey,l⟩ | ⟨kvs,k,b,e,ey,eb,l⟩
 ·subst ey
  obtain ⟨z,hd,vs,rel,dd⟩:=lb I.hok e
  refine wpAny_notIn_of (pM ry) hd dd.mapOf ?_
  rw [<- (rel.val k).ip,<- l]
  exact h _ (I.tok _)
 ·subst ey
  cases (show u=Value.ref b from ry)
  obtain ⟨z,hd,xs,rel,dd⟩:=tY I.hok e
  refine wpAny_notIn_heap (tupleKind_room_in1 hu) (pL I.hok eb) hd dd ?_
  have q:=(rel.val k).ip
  rw [Option.isSome_map] at q
  rw [<- q,<- l]
  exact h _ (I.tok _)
theorem om {h':Heap}{t':Nat}{ob:HO} (I:Inv X pins σ H s) (mu:Mut (H a)) (hs:Heap.SameBut a s.heap h') (he:∃q,h'.get? a=some q) (new:bW X.prog X.w (upd H a ob) h' a ob) :
  Inv X pins σ (upd H a ob) { s with heap:=h',toks:=t' } :=
 I.write (x:=a) (e:=a) mu (.inl rfl) (fun b q hb z=>(hs.2 b hb).trans z) he new
theorem vy {P:Program}{w:World}{H':Hp}{h':Heap}{kvs:List (Key × V)}{vs:List (Key × Value)} (z:kvs.length <= sizeLine) (hd:(a == sysModules)=false) (rel:KV kvs vs) (dd:h'.DictOf (bJ P w) a vs) :
  bW P w H' h' a (.dK kvs):=⟨z,hd,vs,rel,dd⟩
theorem xP {H':Hp}{Q:Unit->Shared->Prop} (hu:A.units + 1 < cLine) (I:Inv X pins σ H s) (g:ke H a y v H') (ry:RelV y u) (rv:RelV v r) (h:∀s',Inv X pins σ H' s'->Q () s') :
  wpAny (model X.prog X.w) A (setItem (.ref a) u r) Q E s:=by
 rcases g with ⟨kvs,k,e,ey,l,eH⟩ | ⟨kvs,k,b,e,ey,eb,l,eH⟩
 ·subst ey eH
  obtain ⟨z,hd,vs,rel,dd⟩:=yW I.hok e
  have hz:vs.length <= sizeLine:=by rw [<- rel.length];exact z
  have hl:(putK kvs k v).length <= sizeLine:=by have:=gF kvs k v;omega
  refine wpAny_setItem_pairs (hsz:=hz) (pM ry) dd fun h' dd' hs=>h _ ?_
  have he:∃q,h'.get? a=some q:=let ⟨q,_,_,hq,_⟩:=dd';⟨q,hq⟩
  exact om I (by rw [e];exact True.intro) hs he (vy hl hd (rel.put k rv) dd')
 ·subst ey eH
  cases (show u=Value.ref b from ry)
  obtain ⟨z,hd,xs,rel,dd⟩:=B0 I.hok e
  have hz:xs.length <= sizeLine:=by rw [<- Paired.length rel];exact z
  have hl:(putK kvs k v).length <= sizeLine:=by have:=gF kvs k v;omega
  refine wpAny_setItem_heap (hsz:=hz) (tupleKind_room_in1 hu) (pL I.hok eb) dd fun h' dd' hs=>h _ ?_
  obtain ⟨q,es,ep,hq,h2,h3,h4,_,h5⟩:=dd'
  refine om I (by rw [e];exact True.intro) hs ⟨q,hq⟩ ⟨hl,hd,_,(rel.put k eb rv).keeps fun c ys ec=>?_,q,es,ep,hq,h2,h3,h4,h5⟩
  rw [aQ (Ff ec e (fun z=>nomatch z))]
  exact ec
end
section
variable {X:Cx}{pins:List (Addr × Obj)}{σ:St}{H:Hp}{s:Shared}{a:Addr}{kvs:List (Key × V)}{k:Key}{u:Value}{A:Around}{E:Value->Shared->Prop}
theorem EU {Q:Value->Shared->Prop} (I:Inv X pins σ H s) (e:Rd H a (.dK kvs)) (h:∀t s',Inv X pins σ H s'->Q (.int kvs.length t) s'):wpAny (model X.prog X.w) A (call (.builtin "len") [.ref a]) Q E s:=by
 obtain ⟨z,hd,vs,rel,dd⟩:=lb I.hok e
 refine call_len_dict hd dd (by rw [<- rel.length];rw [sizeLine_eq] at z;omega) ?_
 rw [<- rel.length]
 exact h _ _ (I.tok _)
end
theorem uT {X:Cx}{pins:List (Addr × Obj)}{σ:St}{H:Hp}{s:Shared}{a:Addr}{y:V}{o:Option V} (I:Inv X pins σ H s) (g:jq H a y o):s.TypeIs (.ref a) "dict":=by
 rcases g with ⟨kvs,k,e,_,_⟩ | ⟨kvs,k,b,e,_,_,_⟩
 ·obtain ⟨_,_,vs,_,dd⟩:=lb I.hok e
  exact dd.typeIs
 ·obtain ⟨_,_,xs,_,dd⟩:=tY I.hok e
  exact dd.typeIs
section
variable {X:Cx}{o i e value:Expr}{pos pos' tpos:Pos}{td ty tv:TE}
end
theorem pN {P:Program}{w:World}{H:Hp} (h:Heap) (hb:sysModules < h.objs.size):bW P w H (h.push { cls:=.type "dict",data:=.dict #[] }) h.objs.size (.dK []) :=
 ⟨Nat.zero_le _,beq_eq_false_iff_ne.mpr (Ne.symm (Nat.ne_of_lt hb)),[],.nil,Heap.DictOf.new h⟩
theorem zB {P:Program}{w:World}{H:Hp} (h:Heap) (hb:sysModules < h.objs.size):bW P w H (h.push { cls:=.type "dict",data:=.dict #[] }) h.objs.size (.dT []) :=
 ⟨Nat.zero_le _,beq_eq_false_iff_ne.mpr (Ne.symm (Nat.ne_of_lt hb)),[],.nil,_,#[],0,Heap.get?_push_size _ rfl,⟨rfl,rfl,rfl⟩,rfl,rfl,List.nodup_nil⟩
def CD:TE:=fun _ H Q=>∀p,H p=none->Q (.ref p) (upd H p (.dK []))
def Ds:TE:=fun _ H Q=>∀p,H p=none->Q (.ref p) (upd H p (.dT []))
section
variable {X:Cx}{pos:Pos}
theorem uY:PE X (.Dict [] [] pos) CD:=fun pins s σ H Q I h =>
 wpAny_Dict_empty ⟨.ref s.heap.objs.size,_,I.laid (a:=s.heap.objs.size) (o:=.dK []) (t':=s.toks) (fun _ _ q=>Heap.get?_push_of_some _ q) (Nat.le_refl _) (pN s.heap I.big),rfl,h _ (I.hok.fresh (Nat.le_refl _))⟩
theorem uq:PE X (.Dict [] [] pos) Ds:=fun pins s σ H Q I h =>
 wpAny_Dict_empty ⟨.ref s.heap.objs.size,_,I.laid (a:=s.heap.objs.size) (o:=.dT []) (t':=s.toks) (fun _ _ q=>Heap.get?_push_of_some _ q) (Nat.le_refl _) (zB s.heap I.big),rfl,h _ (I.hok.fresh (Nat.le_refl _))⟩
end
def vw:List (TE × TE)->St->Hp->(List (V × V)->Hp->Prop)->Prop
 | [],_,H,Q=>Q [] H
 | (tk,tv) :: r,σ,H,Q=>tk σ H fun x H1=>tv σ H1 fun y H2=>vw r σ H2 fun ps H3=>Q ((x,y) :: ps) H3
abbrev VV:List (V × V)->List (Value × Value)->Prop:=Paired fun p q=>RelV p.1 q.1/\RelV p.2 q.2
def PPs (X:Cx) (pos:Pos) (keys:List (Option Expr)) (values:List Expr) (trs:List (TE × TE)):Prop :=
 ∀(pins:List (Addr × Obj)) (s:Shared) (σ:St) (H:Hp) (Q:List (V × V)->Hp->Prop),Inv X pins σ H s->vw trs σ H Q ->
  wpAny (model X.prog X.w) X.A (evalPairs (pairTrees keys values X.env pos)) (fun vs s'=>∃ps H',Inv X pins σ H' s'/\VV ps vs/\Q ps H') X.xe s
theorem wq {X:Cx}{pos:Pos}:PPs X pos [] [] []:=fun pins s σ H Q I h=>pairTrees_nil_walk ⟨[],H,I,.nil,h⟩
theorem dZ {X:Cx}{pos:Pos}{k v:Expr}{ks:List (Option Expr)}{vs:List Expr}{tk tv:TE}{trs:List (TE × TE)} (hk:PE X k tk) (hv:PE X v tv) (hr:PPs X pos ks vs trs) :
  PPs X pos (some k :: ks) (v :: vs) ((tk,tv) :: trs):=fun pins s σ H Q I h =>
 pairTrees_cons_walk (thn (hk pins s σ H _ I h) fun u s1 ⟨x,H1,I1,rx,q1⟩=>thn (hv pins s1 σ H1 _ I1 q1) fun w2 s2 ⟨y,H2,I2,ry,q2⟩ =>
  thn (hr pins s2 σ H2 _ I2 q2) fun ws s3 ⟨ps,H3,I3,rel,q3⟩=>⟨(x,y) :: ps,H3,I3,.cons ⟨rx,ry⟩ rel,q3⟩)
def bc (kvs more:List (Key × V)):List (Key × V):=more.foldl (fun acc kv=>putK acc kv.1 kv.2) kvs
theorem KV.merge:∀{more:List (Key × V)}{rs:List (Key × Value)}{kvs:List (Key × V)}{vs:List (Key × Value)},KV more rs->KV kvs vs->KV (bc kvs more) (merged vs rs):=by
 intro more rs kvs vs r
 unfold KV at r
 induction r generalizing kvs vs with
 | nil=>intro q;exact q
 | @cons p q ps qs h t ih =>
  intro r0
  have e:KV (putK kvs p.1 p.2) (stored vs q.1 q.2):=by
   have:=r0.put p.1 h.2
   rw [<- h.1];exact this
  exact ih e
theorem gP:∀(more kvs:List (Key × V)),(bc kvs more).length <= kvs.length + more.length
 | [],kvs=>by show kvs.length <= kvs.length + 0;omega
 | p :: r,kvs=>by
  have h1:=gP r (putK kvs p.1 p.2)
  have h2:=gF kvs p.1 p.2
  show (bc (putK kvs p.1 p.2) r).length <= _
  rw [List.length_cons];omega
theorem oX {P:Program}{w:World}:∀{kvs:List (Key × V)}{ws:List (Value × Value)},VV (kvs.map fun kv=>(kV kv.1,kv.2)) ws->∃rs,Carries (bJ P w) ws rs/\KV kvs rs
 | [],_,r=>by rw [List.map_nil] at r;cases r;exact ⟨[],True.intro,.nil⟩
 | p :: kvs,_,r=>by
  rw [List.map_cons] at r
  cases r with
  | @cons a b as bs h t =>
   obtain ⟨rs,c,q⟩:=oX (P:=P) (w:=w) t
   obtain ⟨b1,b2⟩:=b
   exact ⟨(p.1,b2) :: rs,⟨pM h.1,rfl,c⟩,.cons ⟨rfl,h.2⟩ q⟩
def Et (trs:List (TE × TE)):TE:=fun σ H Q=>∀p,H p=none->vw trs σ (upd H p (.dK [])) fun ps H2=>H2 p=some (.dK [])/\∃kvs:List (Key × V),ps=kvs.map (fun kv=>(kV kv.1,kv.2))/\kvs.length <= 15/\Q (.ref p) (upd H2 p (.dK (bc [] kvs)))
theorem xF {X:Cx}{pos:Pos}{keys:List (Option Expr)}{values:List Expr}{trs:List (TE × TE)} (h:PPs X pos keys values trs) (hall:keys.all (·.isSome)=true) (hl:keys.length=values.length) (h0:keys ≠ [])
  (h15:keys.length <= 15):PE X (.Dict keys values pos) (Et trs):=by
 intro pins s σ H Q I q
 have hn:=I.hok.fresh (Nat.le_refl s.heap.objs.size)
 have I1:=I.laid (a:=s.heap.objs.size) (o:=.dK []) (h':=s.heap.push { cls:=.type "dict",data:=.dict #[] }) (t':=s.toks) (fun _ _ q=>Heap.get?_push_of_some _ q) (Nat.le_refl _) (pN s.heap I.big)
 refine wpAny_Dict_walk (knd:=bJ X.prog X.w) hall hl h0 h15 (thn (h pins _ σ _ _ I1 (q _ hn)) fun ws s2 ⟨ps,H2,I2,rel,e,kvs,ep,lk,q2⟩=>?_)
 subst ep
 obtain ⟨rs,c,rk⟩:=oX (P:=X.prog) (w:=X.w) rel
 obtain ⟨z,hd,vs0,r0,dd⟩:=yW I2.hok e
 cases r0
 refine ⟨rs,c,dd,fun h' dd' hs=>⟨.ref s.heap.objs.size,_,?_,rfl,q2⟩⟩
 have hz:(bc [] kvs).length <= sizeLine:=by
  have h1:=gP kvs []
  rw [List.length_nil] at h1
  rw [sizeLine_eq];omega
 have he:∃q,h'.get? s.heap.objs.size=some q:=let ⟨q,_,_,hq,_⟩:=dd';⟨q,hq⟩
 exact om I2 (by rw [e];exact True.intro) hs he (vy hz hd (rk.merge .nil) dd')
structure M1 (X:Cx) (o:Expr) (m:Str) (apos:Pos) (e:Expr) (cpos:Pos):Prop where
 base:attributeBase o m X.env (eval o X.env)=eval o X.env
 few:((backTo cpos (starEach [e] X.env)).all (fun x=>!x.1) && (backToKw cpos (keywordEach [] X.env)).all (fun x=>x.1.isSome)
  && decide (([e]:List Expr).length + ([]:List Keyword).length + (if ([]:List Keyword).isEmpty then 0 else 1) < 30))=true
 line:(apos.endLine == cpos.line)=true
 trees:backTo cpos (starEach [e] X.env)=[(false,eval e X.env)]
structure M2 (X:Cx) (o:Expr) (m:Str) (apos:Pos) (e f:Expr) (cpos:Pos):Prop where
 base:attributeBase o m X.env (eval o X.env)=eval o X.env
 few:((backTo cpos (starEach [e,f] X.env)).all (fun x=>!x.1) && (backToKw cpos (keywordEach [] X.env)).all (fun x=>x.1.isSome)
  && decide (([e,f]:List Expr).length + ([]:List Keyword).length + (if ([]:List Keyword).isEmpty then 0 else 1) < 30))=true
 line:(apos.endLine == cpos.line)=true
 trees:backTo cpos (starEach [e,f] X.env)=[(false,eval e X.env),(false,eval f X.env)]
section
variable {X:Cx}{pins:List (Addr × Obj)}{σ:St}{H:Hp}{s:Shared}{a:Addr}{y d:V}{u r:Value}{o:Option V}{A:Around}{E:Value->Shared->Prop}
end
section
variable {X:Cx}{o e f:Expr}{apos cpos:Pos}{td ty tx:TE}
end
section
variable {X:Cx}{pins:List (Addr × Obj)}{σ:St}{H:Hp}{s:Shared}{a:Addr}{kvs:List (Key × V)}{A:Around}{E:Value->Shared->Prop}
end
section
variable {X:Cx}{pins:List (Addr × Obj)}{σ:St}{H:Hp}{s:Shared}{a:Addr}{y:V}{u:Value}{A:Around}{E:Value->Shared->Prop}
end
end L2
namespace L2
open PySem PySem.Spec PyProof.Rows
section
variable {X:Cx}
theorem uc (hu:X.A.units + 64 < cLine):IxR X (fun x y H Q=>∃a v,x=.ref a/\jq H a y (some v)/\Q v H):=by
 intro value slice pins s σ H x y v u Q I rx ry h hs
 obtain ⟨a,z,rfl,g,q⟩:=h
 cases rx
 have hT:=uT I g
 unfold subscriptTail
 refine wpAny_bind ?_
 rw [getitemInPython_of_ne hT.not_modules]
 refine wpAny_bind (wpAny_specialOf hT PySem.F.slot_dict_getitem.lookup ?_)
 have h₂:wpAny (model X.prog X.w) X.A (getItem (.ref a) u) (EP X pins σ Q) X.xe s:=xG (by omega) I g ry fun w' s3 I3 rw'=>⟨z,H,I3,rw',q⟩
 have fin:wpAny (model X.prog X.w) X.A (subscripted slice false (.ref a) u) (fun r s₃=>wpAny (model X.prog X.w) X.A (letTemporaryGo value (.ref a) r >>= fun _=>pure r) (EP X pins σ Q) X.xe s₃) X.xe s:=by
  rw [hs]
  exact wpAny_operating (wpAny_mono h₂ (fun r s₃ h₃=>wpAny_bind (wpAny_letTemporaryGo (wpAny_pure h₃))) fun _ _ x=>x)
 first
  | exact wpAny_pure (wpAny_bind fin)
  | exact wpAny_bind (wpAny_pure (wpAny_bind fin))
  | exact wpAny_bind fin
inductive dgI (p:Addr) (y:V) (H:Hp) (Q:VK):Prop
 | mk (v:V) (h:jq H p y (some v)) (q:Q v H):dgI p y H Q
def AN (K:W.Frag):R2:=fun x y H Q=>match x,y with
 | .ref p,.int i=>ixS K p i H Q \/ dgI p (.int i) H Q
 | .ref p,.str k=>dgI p (.str k) H Q
 | .str z,.int i=>∃c,z.length <= sizeLine/\atI z.cps.toList i=some c/\Q (.str ⟨#[c]⟩) H
 | _,_=>False
theorem DB (hu:X.A.units + 64 < cLine):IxR X (AN X.K):=by
 intro value slice pins s σ H x y v u Q I rx ry h hs
 cases x with
 | ref p =>
  cases y with
  | int i =>
   rcases h with h | ⟨w,g,q⟩
   ·exact yz value slice pins s σ H _ _ v u Q I rx ry h hs
   ·exact uc hu value slice pins s σ H _ _ v u Q I rx ry ⟨p,w,rfl,g,q⟩ hs
  | str k =>
   obtain ⟨w,g,q⟩:=h
   exact uc hu value slice pins s σ H _ _ v u Q I rx ry ⟨p,w,rfl,g,q⟩ hs
  | _=>exact (show False from h).elim
 | str z =>
  cases y with
  | int i=>exact yz value slice pins s σ H _ _ v u Q I rx ry h hs
  | _=>exact (show False from h).elim
 | _=>cases y <;> exact (show False from h).elim
theorem lI (hu:X.A.units + 64 < cLine):Aa X (fun o i v H Q=>∃a H',o=.ref a/\ke H a i v H'/\Q H'):=by
 intro pins s σ H o i v ov iv u Q I ro ri rv h
 obtain ⟨a,H',rfl,g,q⟩:=h
 cases ro
 exact xP (by omega) I g ri rv fun s4 I4=>⟨H',I4,q⟩
inductive dpI (p:Addr) (y v:V) (H:Hp) (Q:Hp->Prop):Prop
 | mk (H':Hp) (h:ke H p y v H') (q:Q H'):dpI p y v H Q
inductive stL (p:Addr) (k:Int) (v:V) (H:Hp) (Q:Hp->Prop):Prop
 | mk (xs:List V) (j:Nat) (h0:H p=some (.lst xs)) (h1:ixN xs.length k=some j) (q:Q (upd H p (.lst (xs.set j v)))):stL p k v H Q
def Fe:A8:=fun o i v H Q=>match o,i with
 | .ref p,.int k=>stL p k v H Q \/ dpI p (.int k) v H Q
 | .ref p,.str k=>dpI p (.str k) v H Q
 | _,_=>False
theorem jU (hu:X.A.units + 64 < cLine) (hl:Aa X Ce):Aa X Fe:=by
 intro pins s σ H o i v ov iv u Q I ro ri rv h
 cases o with
 | ref p =>
  cases i with
  | int k =>
   rcases h with ⟨xs,j,h1,h2,q⟩ | ⟨H',g,q⟩
   ·exact hl pins s σ H _ _ v ov iv u Q I ro ri rv ⟨p,xs,k,j,rfl,rfl,h1,h2,q⟩
   ·exact lI hu pins s σ H _ _ v ov iv u Q I ro ri rv ⟨p,H',rfl,g,q⟩
  | str k =>
   obtain ⟨H',g,q⟩:=h
   exact lI hu pins s σ H _ _ v ov iv u Q I ro ri rv ⟨p,H',rfl,g,q⟩
  | _=>exact (show False from h).elim
 | _=>cases i <;> exact (show False from h).elim
theorem EB (hu:X.A.units + 64 < cLine):OpR X (compareOp .In) (fun x y H Q=>∃a o,y=.ref a/\jq H a x o/\Q (.bl o.isSome) H):=by
 intro pins s σ H x y v u Q I rx ry h
 obtain ⟨a,o,rfl,g,q⟩:=h
 cases ry
 exact F7 (by omega) I g rx fun s3 I3=>⟨.bl o.isSome,H,I3,rfl,q⟩
theorem yI (hu:X.A.units + 64 < cLine):OpR X (compareOp .NotIn) (fun x y H Q=>∃a o,y=.ref a/\jq H a x o/\Q (.bl (!o.isSome)) H):=by
 intro pins s σ H x y v u Q I rx ry h
 obtain ⟨a,o,rfl,g,q⟩:=h
 cases ry
 exact AZ (by omega) I g rx fun s3 I3=>⟨.bl (!o.isSome),H,I3,rfl,q⟩
theorem tM (hu:X.A.units + 64 < cLine):OpR X (compareOp .In) (fun x y H Q=>fIn X.K false x y H Q \/ ∃a o,y=.ref a/\jq H a x o/\Q (.bl o.isSome) H):=FO.or (EB hu)
theorem iH (hu:X.A.units + 64 < cLine):OpR X (compareOp .NotIn) (fun x y H Q=>fIn X.K true x y H Q \/ ∃a o,y=.ref a/\jq H a x o/\Q (.bl (!o.isSome)) H):=BH.or (yI hu)
theorem Cm:cO X (.builtin "len") (fun xs H Q=>∃a kvs,xs=[.ref a]/\Rd H a (.dK kvs)/\Q (.int (kvs.length:Nat)) H):=by
 intro pins s σ H xs us Q I r h
 obtain ⟨a,kvs,rfl,e,q⟩:=h
 obtain ⟨u,rfl,rfl⟩:=vals1 r
 exact EU I e fun t s' I'=>⟨.int _,H,I',⟨_,rfl⟩,q⟩
end
end L2
namespace PySem
open Sem (wp)
section
variable {prog:Program}{w:World}{A:Around}{E:Value->Shared->Prop}{s:Shared}
theorem sL:typeLookup (.type "list") "keys"=pure none:=am_miss_of_fast (by kernel_rfl)
theorem rS {a:Addr}{o:Obj}{xs:Array Value}{k:Nat}{Q:Option Value->Shared->Prop} (hx:s.heap.get? a=some o) (hc:o.cls=.type "list") (hdat:o.data=.seq xs k) (hd:o.dict=none) (hA:A.handled=none)
  (h:∀h' tk,(∀b ob,s.heap.get? b=some ob->h'.get? b=some ob)->Q none { s with heap:=h',toks:=tk }):wpAny (model prog w) A (getAttr? (.ref a) "keys") Q E s:=by
 obtain ⟨c,dct,dat,sl⟩:=o
 simp only at hc hdat hd
 subst hc hdat hd
 obtain ⟨hp,g,d,tk,os⟩:=s
 have hT:∀tk',(⟨hp,g,d,tk',os⟩:Shared).TypeIs (.ref a) "list":=fun _=>⟨_,hx,rfl⟩
 have f1:=sub_AttributeError
 have f3:=F.slot_list_getattribute.lookup
 have f4:=F.slot_list_getattribute.bind (.ref a)
 have f5:=am_list_getattr_none
 have hmiss:=sL
 have hname:(["__module__","__name__","__qualname__","__doc__","__annotations__"]:List Str).contains "keys"=false:=by decide +kernel
 unfold getAttr? getAttrBy? getAttrBy
 repeat (any_goals (first | assumption | exact hT _ | ((with_reducible show wpAny _ _ (call (Value.builtin "list.__getattribute__") _ _) _ _ _);refine call_meets F.slot_list_getattribute (hT _) am_entry_list_getattribute (F.args_list_getattribute_2 _ _) (meets_getattribute_miss_list a xs k sl "keys" _ hmiss hname (by decide)) ⟨hx,hA,fun h' tk' e hx'=>?_⟩) | wp_step))
 obtain ⟨t',u',he⟩:=hx'.there
 have hTe:(⟨h',g,d,tk',os⟩:Shared).TypeIs (.ref e) "AttributeError":=⟨_,he,rfl⟩
 show wpAny _ _ (getattributeRaised _ _ _ _ _ _ _) _ _ _
 unfold getattributeRaised
 repeat (any_goals (first | assumption | wp_step))
 exact h _ _ hx'.keeps
end
end PySem
namespace L2
open PySem PySem.Spec PyProof.Rows
theorem jV:entryFor table "dict.update.loop"=some Builtin.«dict.update.loop»:=entryFor_of_tree (by kernel_rfl)
theorem dw:plainId "dict.update.loop"=true:=by decide +kernel
section
variable {X:Cx}{pins:List (Addr × Obj)}{σ:St}{H0:Hp}{A:Around}
theorem pair_items {prog:Program}{w:World}{E:Value->Shared->Prop}{s:Shared}{t:Addr}{its:Array Value}{Q:List Value->Shared->Prop} (h:s.heap.IsTuple t its) (q:Q its.toList s):wpAny (model prog w) A (Builtin.Dict.pairItems (.ref t)) Q E s:=by
 obtain ⟨o,ho,hc,n,hd⟩:=h
 unfold Builtin.Dict.pairItems
 refine wpAny_bind (wpAny_typeOf ⟨o,ho,hc⟩ ?_)
 rw [if_pos (by decide)]
 refine wpAny_bind ?_
 obtain ⟨c,dct,dat,sl⟩:=o
 simp only at hc hd
 subst hc hd
 obtain ⟨hp,g,d,tk,os⟩:=s
 repeat (any_goals (first | assumption | wp_step))
theorem vL (kvs:List (Key × V)) (i:Nat) {k:Key}{v:V} (h:kvs[i]?=some (k,v)):bc [] (kvs.take (i + 1))=putK (bc [] (kvs.take i)) k v:=by
 unfold bc
 rw [List.take_add_one,h,List.foldl_append]
 rfl
theorem An (hc:X.calm=true) {l p it:Addr}{ps:List Addr}{kvs:List (Key × V)}{R:Result->Shared->Prop} (hA:A.handled=none) (hl:SqL X.K H0 l (ps.map V.ref)) (hlen:ps.length=kvs.length) (hn:kvs.length <= 1000)
  (hps:∀(i:Nat) t k v,ps[i]?=some t->kvs[i]?=some (k,v)->SqT X.K H0 t [kV k,v]) (hp:H0 p=none)
  (fin:∀s',Inv X pins σ (upd H0 p (.dK (bc [] kvs))) s'->R (.ok (.ret .none)) s') :
  ∀(n i:Nat) (s:Shared),n + i=ps.length->Inv X pins σ (upd H0 p (.dK (bc [] (kvs.take i)))) s->oG X pins (upd H0 p (.dK (bc [] (kvs.take i)))) it->s.heap.IsListIter it l i ->
   codeAny (model X.prog X.w) A (.builtin "dict.update.loop" ⟨[.ref p,.ref it,rawInt i,.none],[]⟩) R s:=by
 intro n
 induction n with
 | zero =>
  intro i s hi I hf st
  refine codeAny_builtin jV ?_
  rw [Around.under_plainId dw _]
  have sm:=ai.upd hp (.dK (bc [] (kvs.take i)))
  obtain ⟨its,rv,pl,hz⟩:=I.list (sm.seq hl)
  have hll:=rv.length
  rw [List.length_map] at hll
  obtain ⟨f0,f1,f2,f3,f4,f5⟩:=hf
  unfold Builtin.«dict.update.loop»
  refine wpAny_bind (wpAny_pyNext_list_end hA st pl.isList (by simp;omega) fun h' eb=>?_)
  have I':Inv X pins σ (upd H0 p (.dK (bc [] (kvs.take i)))) { s with heap:=h' }:=I.turned (t':=s.toks) (fun b o hb e=>eb b o hb e) f0 f1 f3 f4 f5
  rw [List.take_of_length_le (by omega)] at I'
  exact wpAny_bind (wpAny_pure (wpAny_pure (fin _ I')))
 | succ n ih =>
  intro i s hi I hf st
  refine codeAny_builtin jV ?_
  rw [Around.under_plainId dw _]
  have sm:=ai.upd hp (.dK (bc [] (kvs.take i)))
  obtain ⟨its,rv,pl,hz⟩:=I.list (sm.seq hl)
  have hll:=rv.length
  rw [List.length_map] at hll
  obtain ⟨t,ht⟩:∃t,ps[i]?=some t:=⟨ps[i]'(by omega),List.getElem?_eq_getElem (by omega)⟩
  obtain ⟨⟨k,v⟩,hk⟩:∃kv,kvs[i]?=some kv:=⟨kvs[i]'(by omega),List.getElem?_eq_getElem (by omega)⟩
  obtain ⟨u,hu1,hu2⟩:=rv.get (x:=.ref t) (i:=i) (by rw [List.getElem?_map,ht];rfl)
  cases hu2
  obtain ⟨f0,f1,f2,f3,f4,f5⟩:=hf
  unfold Builtin.«dict.update.loop»
  refine wpAny_bind (wpAny_pyNext_list_item st pl.isList (x:=.ref t) (by simpa using hu1) fun h' st' sb=>?_)
  have I1:Inv X pins σ (upd H0 p (.dK (bc [] (kvs.take i)))) { s with heap:=h' }:=I.turned (t':=s.toks) (fun b o hb e=>(sb.2 b hb).trans e) f0 f1 f3 f4 f5
  obtain ⟨jts,rj,pt,_⟩:=I1.tuple (sm.tup (hps i t k v ht hk))
  obtain ⟨u1,u2,e12,r1,r2⟩:∃u1 u2,jts=[u1,u2]/\RelV (kV k) u1/\RelV v u2:=by
   cases rj with
   | cons r1 q=>cases q with
    | cons r2 q=>cases q;exact ⟨_,_,rfl,r1,r2⟩
  subst e12
  refine wpAny_bind (wpAny_holding (wpAny_bind (wpAny_tryCatch (pair_items pt ?_))))
  show wpAny _ _ (holding [u1,u2] (dictSet p u1 u2)) _ _ _
  refine wpAny_holding ?_
  obtain ⟨z,hd,vs,rel,dd⟩:=yW I1.hok (ao (H:=H0) (a:=p) (o:=.dK (bc [] (kvs.take i))))
  have hz':vs.length <= sizeLine:=by rw [<- rel.length];exact z
  have hlk:(bc [] (kvs.take i)).length <= 1000:=by
   have:=gP (kvs.take i) []
   rw [List.length_take,List.length_nil] at this
   omega
  have hlp:(putK (bc [] (kvs.take i)) k v).length <= sizeLine:=by
   have h1:=gF (bc [] (kvs.take i)) k v
   have h2:=aH hlk
   omega
  refine wpAny_dictSet_pairs (hsz:=hz') (pM r1) dd fun h2 dd' hs=>?_
  have he:∃q,h2.get? p=some q:=let ⟨q,_,_,hq,_⟩:=dd';⟨q,hq⟩
  have I2:=om (t':=s.toks + 1) (ob:=.dK (putK (bc [] (kvs.take i)) k v)) I1 (by rw [ao];exact True.intro) hs he (vy hlp hd (rel.put k r2) dd')
  rw [AM,<- vL kvs i hk] at I2
  have hne:it ≠ p:=fun z=>by rw [z,ao] at f0;cases f0
  have f0':upd H0 p (.dK (bc [] (kvs.take (i + 1)))) it=none:=by
   rw [aQ hne] at f0 ⊢
   exact f0
  refine wpAny_pure ⟨plainId_quiet dw _,?_⟩
  have ec:((i:Int) + 1)=((i + 1:Nat):Int):=by push_cast;rfl
  rw [ec]
  exact ih (i + 1) _ (by omega) I2 ⟨f0',f1,f2,f3,f4,f5⟩ (st'.at fun o e=>(hs.2 it hne).trans e)
theorem Bq (hc:X.calm=true:=by rfl):cO X (.type "dict") (fun xs H Q=>∃(l:Addr) (ps:List Addr) (kvs:List (Key × V)),xs=[.ref l]/\SqL X.K H l (ps.map V.ref)/\ps.length=kvs.length/\kvs.length <= 1000 /\
  (∀(i:Nat) t k v,ps[i]?=some t->kvs[i]?=some (k,v)->SqT X.K H t [kV k,v])/\∀p,H p=none->Q (.ref p) (upd H p (.dK (bc [] kvs)))):=by
 intro pins s σ H xs us Q I r h
 obtain ⟨l,ps,kvs,rfl,hl,hlen,hn,hps,q⟩:=h
 obtain ⟨u,rfl,rfl⟩:=vals1 r
 have hA:=I.ok.hd hc
 have hp:=I.hok.fresh (Nat.le_refl s.heap.objs.size)
 have I1:=I.laid (a:=s.heap.objs.size) (o:=.dK []) (t':=s.toks) (h':=s.heap.push { cls:=.type "dict",data:=.dict #[] }) (fun _ _ q=>Heap.get?_push_of_some _ q) (Nat.le_refl _) (pN s.heap I.big)
 refine callType_codes (Q₁:=fun obj s₁=>obj=.ref s.heap.objs.size/\s₁={ s with heap:=s.heap.push { cls:=.type "dict",data:=.dict #[] } }) F.kt_called_dict (F.kt_typeCall_dict_1 _) F.entry_dict_init (kt_code_dict_new _ ⟨rfl,rfl⟩) ?_
 rintro obj s₁ ⟨rfl,rfl⟩
 have hnew:(s.heap.push { cls:=.type "dict",data:=.dict #[] }).DictOf (bJ X.prog X.w) s.heap.objs.size []:=Heap.DictOf.new s.heap
 have sm:=ai.upd hp (.dK [])
 obtain ⟨its,rv,pl,hz⟩:=I1.list (sm.seq hl)
 obtain ⟨o,n,ho,hoc,hod,hos⟩:=id pl
 refine ⟨hnew.typeIs,F.args_dict_init_2 _ _,?_⟩
 unfold Builtin.«dict.__init__»
 refine wpAny_bind ?_
 unfold Builtin.Dict.selfAndRest
 refine wpAny_bind (wpAny_notOrdered_dict hnew.typeIs ?_)
 show wpAny _ _ (pure (s.heap.objs.size,[Value.ref l])) _ _ _
 refine wpAny_pure ?_
 show wpAny _ _ (Builtin.Dict.updateFrom "dict.__init__" s.heap.objs.size (.ref l) [] .none) _ _ _
 unfold Builtin.Dict.updateFrom
 refine wpAny_bind (wpAny_typeOf ⟨o,ho,hoc⟩ ?_)
 rw [if_pos (by decide)]
 refine wpAny_bind (rS ho hoc hos hod hA fun h2 tk2 k2=>?_)
 have I2:Inv X pins σ (upd H s.heap.objs.size (.dK [])) { s with heap:=h2,toks:=tk2 }:=I1.kept (t':=tk2) k2
 rw [if_pos (show (none:Option Value).isNone=true from rfl)]
 obtain ⟨its2,rv2,pl2,_⟩:=I2.list (sm.seq hl)
 refine wpAny_bind (wpAny_rule (wpAny_bind (wpAny_pyIter_list pl2.isList ?_)))
 refine wpAny_pure ⟨plainId_quiet dw _,?_⟩
 have I3:=I2.kept (h':=h2.push { cls:=.type "list_iterator",data:=.fields #[.ref l,.int 0 0] }) (t':=tk2) fun b o e=>Heap.get?_push_of_some _ e
 have fp:=I2.uD (H':=upd H s.heap.objs.size (.dK [])) (Nat.le_refl _) (I2.hok.fresh (Nat.le_refl _))
 refine An (X:=X) (H0:=H) (A:=X.A.in1) (p:=s.heap.objs.size) (kvs:=kvs) hc hA hl hlen hn hps hp (fun s' I'=>?_) ps.length 0 _ rfl I3 fp ⟨_,Heap.get?_push_size _ rfl,rfl,rfl⟩
 exact ⟨rfl,.ref s.heap.objs.size,_,I',rfl,q _ hp⟩
end
end L2
namespace L2
open PySem PySem.Spec PyProof.Rows
section
variable {X:Cx}{pins:List (Addr × Obj)}{σ:St}{H:Hp}{s:Shared}
theorem Inv.wx {h':Heap}{t':Nat}{ch:List Addr} (I:Inv X pins σ H s) (hf:∀b ∈ ch,oG X pins H b) (k:∀b o,b ∉ ch->s.heap.get? b=some o->h'.get? b=some o):Inv X pins σ H { s with heap:=h',toks:=t' }:=by
 have nit:∀b u,H b=some u->b ∉ ch:=fun b u e z=>by rw [(hf b z).1] at e;cases e
 refine I.step (g':=s.gens) (d':=s.drawn) (ch:=ch) (fun b hb=>⟨(hf b hb).2.2.2.1,(hf b hb).2.1,(hf b hb).2.2.2.2.1,(hf b hb).2.2.2.2.2⟩) (fun b o _ _ hc e _=>k b o hc e) (fun b o _ _ hc e _=>⟨o.slots,k b o hc e⟩) (fun _ _ _ _ n=>n)
  (fun b o hc e=>⟨o,k b o hc e⟩) (fun _ _ e=>e) (fun _ _ _ e=>e) (fun b ps e=>⟨#[],by rw [e];simp⟩) (fun m hm=>?_) (fun b u e=>?_) I.bare
 ·obtain ⟨o,es,ep,ho,r⟩:=hm
  exact ⟨o,es,ep,k _ o (fun z=>(hf _ z).2.1 rfl) ho,r⟩
 ·refine (I.hok b u e).ve (fun c v hc q=>k c v ?_ q) (fun _ q=>q) fun _ _ q=>q
  rcases hc with rfl | hc
  ·exact nit _ _ e
  ·exact nit _ _ hc
theorem Inv.EY {T:Addr}{u:HO} (I:Inv X pins σ H s) (hf:oG X pins H T) (hz:X.s₀.heap.objs.size <= T) (new:bW X.prog X.w (upd H T u) s.heap T u):Inv X pins σ (upd H T u) s:=by
 obtain ⟨f0,f1,f2,f3,f4,f5⟩:=hf
 have ne0:∀b o,X.s₀.heap.get? b=some o->b ≠ T:=fun b o e=>Nat.ne_of_lt (Nat.lt_of_lt_of_le (Heap.lt_size e) hz)
 have neS:∀b v,H b=some v->b ≠ T:=fun b v e z=>by rw [z,f0] at e;cases e
 refine ⟨I.ok,I.os,I.bare,⟨I.base.keep,I.base.slot,fun b o e n hx=>by rw [aQ (ne0 b o e)];exact I.base.free b o e n hx,I.base.there,fun b xs e=>by
   have:=I.base.rN b xs e
   rw [aQ (neS b _ this)];exact this,fun b o v e=>by
   have:=I.base.p6 b o v e
   rw [aQ (neS b _ this)];exact this,fun b ps e=>by
   obtain ⟨more,q⟩:=I.base.rY b ps e
   exact ⟨more,by rw [aQ (neS b _ q)];exact q⟩⟩,I.loc,I.cell,by rw [aQ (Ne.symm f1)];exact I.free,fun x c e=>by rw [aQ (f4 x c e)];exact I.jA x c e,
  fun p hp=>by rw [aQ (f5 p hp)];exact I.pin p hp,fun b v e=>?_,I.len⟩
 by_cases hb:b=T
 ·subst hb;rw [ao] at e;cases e;exact new
 ·rw [aQ hb] at e
  exact (I.hok b v e).ve (fun _ _ _ q=>q) (fun c q=>by rw [aQ (neS c _ q)];exact q) fun c xs q=>by rw [aQ (neS c _ q)];exact q
end
theorem Fb {P:Program}{w:World}{k:Key}{u:Value} (h:(bJ P w).is k u=true):RelV (kV k) u:=by
 cases k with
 | inl i=>obtain ⟨t,e⟩:=Value.isInt_shape (show Value.isInt i u=true from h);exact ⟨t,e⟩
 | inr x=>obtain ⟨t,e⟩:=Value.isStrOf_shape (show Value.isStrOf x u=true from h);exact ⟨t,e⟩
section
variable {X:Cx}
end
end L2
namespace L2
open PySem PySem.Spec PyProof.Rows
theorem ko {α β:Type}{F:α->β->Prop}:∀{l₁:List α}{l₂:List β},l₁.length=l₂.length->(∀(i:Nat) a b,l₁[i]?=some a->l₂[i]?=some b->F a b)->Paired F l₁ l₂
 | [],[],_,_=>.nil
 | [],_ :: _,h,_=>by simp at h
 | _ :: _,[],h,_=>by simp at h
 | x :: xs,y :: ys,h,f=>.cons (f 0 x y rfl rfl) (ko (by simpa using h) fun i a b ha hb=>f (i + 1) a b (by simpa using ha) (by simpa using hb))
theorem yf {α β:Type}{F:α->β->Prop}{l₁:List α}{l₂:List β} (h:Paired F l₁ l₂):∀{i:Nat}{a:α}{b:β},l₁[i]?=some a->l₂[i]?=some b->F a b:=by
 induction h with
 | nil=>intro i a b h;simp at h
 | cons r t ih =>
  intro i a b ha hb
  cases i with
  | zero=>simp only [List.getElem?_cons_zero,Option.some.injEq] at ha hb;subst ha hb;exact r
  | succ j=>exact ih (by simpa using ha) (by simpa using hb)
section
variable {X:Cx}{tg:Expr}
theorem AL (hc:X.calm=true:=by rfl):cO X (.type "list") (fun xs H Q=>∃d kvs,xs=[.ref d]/\Rd H d (.dK kvs)/\∀l,H l=none->Q (.ref l) (upd H l (.lst (kvs.map fun kv=>kV kv.1)))):=by
 intro pins s σ H xs us Q I r h
 obtain ⟨d,kvs,rfl,e,q⟩:=h
 obtain ⟨u,rfl,rfl⟩:=vals1 r
 obtain ⟨z,hs,vs,rel,dd⟩:=lb I.hok e
 obtain ⟨ep,dat⟩:=dd.dictAt
 have hl:=rel.length
 refine W.kdl_call (W.kdl_dict (knd:=bJ X.prog X.w) (kvs:=vs) (ep:=ep) hs) (I.ok.hd hc) dat (by omega) fun h' tk acc c hk hS hacc=>?_
 have hp:=I.hok.fresh (Nat.le_refl s.heap.objs.size)
 refine ⟨.ref s.heap.objs.size,_,I.laid (a:=s.heap.objs.size) (o:=.lst (kvs.map fun kv=>kV kv.1)) (t':=tk) hk (Nat.le_refl _) ⟨by rw [List.length_map];exact z,acc.toList,c,?_,by simpa using hS⟩,rfl,q _ hp⟩
 have hsz:acc.size=vs.length:=hacc.1
 refine ko (by simp [hsz,hl]) fun i x y hx hy=>?_
 rw [List.getElem?_map] at hx
 obtain ⟨k,v,hv,hk⟩:=hacc.2 i y (by rw [<- Array.getElem?_toList];exact hy)
 cases hkv:kvs[i]? with
 | none=>rw [hkv] at hx;cases hx
 | some kv =>
  rw [hkv] at hx
  have hx':kV kv.1=x:=Option.some.inj hx
  have:=congrArg (fun l=>l[i]?) rel.keys
  simp only [List.getElem?_map,hkv,hv] at this
  have hkk:kv.1=k:=by simpa using this
  rw [<- hx',hkk]
  exact Fb hk
end
section
variable {prog:Program}{w:World}{K:Type} [DecidableEq K] {knd:KeyKind prog w K}{A:Around}{E:Value->Shared->Prop}{s:Shared}
theorem q0 {d:Addr}{Q:Unit->Shared->Prop} (hd:(d == sysModules)=false) (q:Q () s):wpAny (model prog w) A (Builtin.Dict.showsAll d) Q E s:=by
 unfold Builtin.Dict.showsAll
 rw [if_neg (by rw [hd];exact Bool.false_ne_true)]
 exact wpAny_pure q
theorem vT {k:K}{v:Value}{es:List DictEntry}{lvs:List (K × Value)} (h:Pairs knd es lvs):valueAt lvs k=some v->∃j e,(es.findIdx? fun e=>knd.is k e.key)=some j/\es[j]?=some e/\e.val=v:=by
 induction h with
 | nil=>intro z;cases z
 | @cons e kv es lvs h1 h2 t ih =>
  intro z
  by_cases hk:kv.1=k
  ·subst hk
   have:valueAt (kv :: lvs) kv.1=some kv.2:=by simp [valueAt,List.find?_cons]
   rw [this] at z
   exact ⟨0,e,by rw [List.findIdx?_cons,if_pos h1],rfl,by rw [h2];exact Option.some.inj z⟩
  ·have:valueAt (kv :: lvs) k=valueAt lvs k:=by simp [valueAt,List.find?_cons,hk]
   rw [this] at z
   obtain ⟨j,f,hj,hf,hv⟩:=ih z
   have hn:¬ knd.is k e.key=true:=fun q=>hk (knd.inj _ _ _ h1 q)
   exact ⟨j + 1,f,by rw [List.findIdx?_cons,if_neg hn,hj];rfl,hf,hv⟩
theorem vo {id:String}{a b:Addr}{kvs lvs:List (K × Value)}{Q:Bool->Shared->Prop} (hda:(a == sysModules)=false) (hdb:(b == sysModules)=false) (ha:s.heap.DictOf knd a kvs) (hb:s.heap.DictOf knd b lvs) (hl:kvs.length=lvs.length)
  (hv:∀(i:Nat) k v,kvs[i]?=some (k,v)->∃v',valueAt lvs k=some v'/\SeqAt.EqAt A s v v' true) (q:Q true s):wpAny (model prog w) A (Builtin.Dict.samePairs id a b) Q E s:=by
 obtain ⟨o,es,ep,ho,hx,hd,hk,hp,hn⟩:=ha
 obtain ⟨o2,es2,ep2,ho2,hx2,hd2,hk2,hp2,hn2⟩:=hb
 have hz:es.size=kvs.length:=by rw [<- hp.length];simp
 have hz2:es2.size=lvs.length:=by rw [<- hp2.length];simp
 unfold Builtin.Dict.samePairs
 refine wpAny_bind (q0 hda ?_)
 refine wpAny_bind (q0 hdb ?_)
 refine wpAny_bind (wpAny_dictEntries ho hd ?_)
 refine wpAny_bind (wpAny_dictEntries ho2 hd2 ?_)
 rw [if_neg (by simp;omega)]
 refine wpAny_bind (wpAny_dictEpoch ho hd ?_)
 refine wpAny_bind ?_
 rw [Std.Legacy.Range.forIn_eq_forIn_range']
 simp only [Std.Legacy.Range.size,Nat.sub_zero,Nat.add_sub_cancel,Nat.div_one]
 refine wpAny_forIn_list _ (fun rest b s'=>b=(none,())/\s'=s/\∀i ∈ rest,i < es.size) _ ?_ ?_ _ _ ⟨rfl,rfl,fun i hi=>?_⟩
 ·rintro i rest c s' ⟨rfl,rfl,hr⟩
  have hi:i < es.size:=hr i (by simp)
  refine wpAny_bind (wpAny_dictEntries ho hd ?_)
  rw [Array.getElem?_eq_getElem hi]
  obtain ⟨⟨k,v⟩,hkv⟩:∃kv,kvs[i]?=some kv:=⟨kvs[i]'(by omega),List.getElem?_eq_getElem (by omega)⟩
  obtain ⟨hkey,hval⟩:=hp.get? (e:=es[i]) (by simp [hi]) hkv
  obtain ⟨k',hk',hh⟩:=hk es[i] (Array.getElem_mem hi)
  obtain ⟨v',hv',he⟩:=hv i k v hkv
  have hkk:k'=k:=knd.inj _ _ _ hk' hkey
  subst hkk
  show wpAny _ _ (holding [es[i].key,es[i].val] _ >>= _) _ _ _
  refine wpAny_bind (wpAny_holding ?_)
  rw [hh,hval]
  refine wpAny_bind (wpAny_dictFind_of hkey ho2 hd2 hk2 ?_)
  obtain ⟨j,f,hj,hf,hfv⟩:=vT hp2 hv'
  rw [<- List.findIdx?_toArray,Array.toArray_toList] at hj
  rw [Array.getElem?_toList] at hf
  rw [hj]
  refine wpAny_bind (wpAny_dictEntries ho2 hd2 ?_)
  rw [hf]
  show wpAny _ _ (holding [f.val] (eqBool v f.val)) _ _ _
  rw [hfv]
  refine wpAny_holding (he _ _ _ _ ?_)
  rw [if_neg (by decide)]
  refine wpAny_bind (wpAny_dictEpoch ho hd ?_)
  rw [if_neg (by simp)]
  exact wpAny_pure ⟨rfl,rfl,fun z hz=>hr z (List.mem_cons_of_mem _ hz)⟩
 ·rintro c s' ⟨rfl,rfl,_⟩
  exact wpAny_pure q
 ·have:=(List.mem_range'_1.mp hi).2
  omega
end
theorem rA {κ:Type} [DecidableEq κ]:∀{kvs:List (κ × V)}{i:Nat}{k:κ}{v:V},(kvs.map (·.1)).Nodup->kvs[i]?=some (k,v)->bX kvs k=some v
 | [],i,k,v,_,h=>by simp at h
 | p :: r,0,k,v,_,h=>by
  simp only [List.getElem?_cons_zero,Option.some.injEq] at h
  subst h
  exact b7 (p:=(k,v)) rfl
 | p :: r,i + 1,k,v,hn,h=>by
  rw [List.map_cons] at hn
  have hr:=List.nodup_cons.mp hn
  have hi:r[i]?=some (k,v):=by simpa using h
  have hne:¬ p.1=k:=fun z=>hr.1 (by rw [z];exact List.mem_map_of_mem (f:=(·.1)) (List.mem_of_getElem? hi))
  rw [bP hne]
  exact rA hr.2 hi
section
variable {X:Cx}
def zt (K:W.Frag) (H:Hp) (v v':V):Prop:=(v=v'/\qz v=true) \/ ∃p q xs,v=.ref p/\v'=.ref q/\SqL K H p xs/\SqL K H q xs/\xs.all qz=true
theorem BN {pins:List (Addr × Obj)}{σ:St}{H:Hp}{s:Shared}{A:Around}{v v':V}{u u':Value} (I:Inv X pins σ H s) (hu:A.units < cLine) (h:zt X.K H v v') (r:RelV v u) (r':RelV v' u'):SeqAt.EqAt A s u u' true:=by
 rcases h with ⟨rfl,hf⟩ | ⟨p,q,xs,rfl,rfl,hp,hq,hf⟩
 ·exact mn hf r r' A s
 ·cases r
  cases r'
  by_cases hpq:p=q
  ·subst hpq;exact .same _
  ·obtain ⟨its,r1,⟨o,n,e1,c1,_,d1⟩,_⟩:=I.list hp
   obtain ⟨jts,r2,⟨o2,n2,e2,c2,_,d2⟩,_⟩:=I.list hq
   have l1:=r1.length
   have l2:=r2.length
   have hR:=SeqAt.RcAt.lists (A:=A) (s:=s) (e:=fun _=>true) (l:=p) (b:=q) (items:=its.toArray) (items2:=jts.toArray) ⟨o,e1,c1,n,d1⟩ ⟨o2,e2,c2,n2,d2⟩ (by simp;omega) hu (fun j h1 h2=>by
    simp at h1 h2
    obtain ⟨x,hx⟩:∃x,xs[j]?=some x:=⟨xs[j]'(by omega),List.getElem?_eq_getElem (by omega)⟩
    obtain ⟨u1,g1,w1⟩:=r1.get hx
    obtain ⟨u2,g2,w2⟩:=r2.get hx
    have z1:its.toArray[j]'(by simpa using h1)=u1:=by
     have:=List.getElem?_eq_getElem h1
     rw [g1] at this
     simpa using (Option.some.inj this).symm
    have z2:jts.toArray[j]'(by simpa using h2)=u2:=by
     have:=List.getElem?_eq_getElem h2
     rw [g2] at this
     simpa using (Option.some.inj this).symm
    rw [z1,z2]
    exact mn (List.all_eq_true.mp hf x (List.mem_of_getElem? hx)) w1 w2 _ _)
   have:((List.range its.toArray.size).all fun _=>true)=true:=by simp
   rw [this] at hR
   exact .of_refs hpq hR
theorem Ep (hu:X.A.units + 64 < cLine):OpR X (compareOp .Eq) (fun x y H Q=>∃a b kvs lvs,x=.ref a/\y=.ref b/\Rd H a (.dK kvs)/\Rd H b (.dK lvs)/\kvs.length=lvs.length /\
  (∀k v,bX kvs k=some v->∃v',bX lvs k=some v'/\zt X.K H v v')/\Q (.bl true) H):=by
 intro pins s σ H x y v u Q I rx ry h
 obtain ⟨a,b,kvs,lvs,rfl,rfl,ha,hb,hl,hv,q⟩:=h
 cases rx
 cases ry
 obtain ⟨z,hs,vs,rel,dd⟩:=lb I.hok ha
 obtain ⟨z2,hs2,vs2,rel2,dd2⟩:=lb I.hok hb
 have e1:=rel.length
 have e2:=rel2.length
 refine wpAny_richCompare_same_room (op:=.Eq) dd.typeIs dd2.typeIs PySem.F.slot_dict_eq (wpAny_call_entry PySem.F.slot_dict_eq dd.typeIs PySem.F.entry_dict_eq ?_ (PySem.F.args_dict_eq_2 _ _)) (by omega)
 show wpAny _ _ (Builtin.Dict.dictSlotArgs "__eq__" ⟨[.ref a,.ref b],[]⟩ >>= _) _ _ _
 refine wpAny_bind ?_
 unfold Builtin.Dict.dictSlotArgs
 refine wpAny_bind (wpAny_notOrdered_dict dd.typeIs ?_)
 show wpAny _ _ (pure (Value.ref a,Value.ref b)) _ _ _
 refine wpAny_pure ?_
 refine wpAny_bind (wpAny_isInstance (T:="dict") (b:=true) dd2.typeIs (by rw [isSubtype_type];kernel_rfl) ?_)
 show wpAny _ _ (Builtin.Dict.samePairs "dict.__eq__" a b >>= _) _ _ _
 refine wpAny_bind (vo hs hs2 dd dd2 (by omega) (fun i k v hi=>?_) ?_)
 ·obtain ⟨⟨k',v'⟩,hkv⟩:∃kv,kvs[i]?=some kv:=⟨kvs[i]'(by have:=(List.getElem?_eq_some_iff.mp hi).1;omega),List.getElem?_eq_getElem _⟩
  have hr:k'=k/\RelV v' v:=yf rel hkv hi
  obtain ⟨rfl,hrv⟩:=hr
  obtain ⟨w',hw,hq⟩:=hv k' v' (rA (by rw [rel.keys];exact (dd.dictAt.choose_spec).nodup) hkv)
  have hval:=rel2.val k'
  rw [hw] at hval
  cases hvv:valueAt vs2 k' with
  | none=>rw [hvv] at hval;exact (show False from hval).elim
  | some u' =>
   rw [hvv] at hval
   exact ⟨u',rfl,BN I (show X.A.units + 1 < cLine by omega) hq hrv hval⟩
 ·show wpAny _ _ (ret (.bool true)) _ _ _
  exact wpAny_pure ⟨.bool true,rfl,(fun z=>nomatch z),.bl true,H,I,rfl,q⟩
end
end L2
namespace L2
open PySem PySem.Spec PyProof.Rows
section
variable {X:Cx}
structure oA (z y:Str) (ws:List Str):Prop where
 h1:(decide (z.length < y.length) || decide (Builtin.Str.strKind z < Builtin.Str.strKind y))=false
 hy:(y.length == 0)=false
 hf:(Builtin.Str.occurrences z y 0 z.length (z.length + 1)).isEmpty=false
 hx:z.length <= sizeLine
 hn:ws.length <= sizeLine
 e:Builtin.Str.partsBetween z (Builtin.Str.occurrences z y 0 z.length (z.length + 1)) y.length=ws
theorem qB:∀(tk:Nat) (ws:List Str),Vals (ws.map V.str) (strsFrom tk ws)
 | _,[]=>.nil
 | tk,x :: r=>.cons ⟨_,rfl⟩ (qB (tk + 1) r)
theorem zJ:MtR X "str.split" (fun x xs H Q=>∃(z y:Str) (ws:List Str),x=.str z/\xs=[.str y]/\oA z y ws/\∀l,H l=none->Q (.ref l) (upd H l (.lst (ws.map V.str)))):=by
 intro pins s σ H x xs v us Q I rx rs h
 obtain ⟨z,y,ws,rfl,rfl,ok,q⟩:=h
 obtain ⟨t,rfl⟩:=rx
 obtain ⟨u,rfl,ru⟩:=rs.one
 obtain ⟨t2,rfl⟩:=ru
 obtain ⟨h1,hy,hf,hx,hn,e⟩:=ok
 subst e
 refine call_meets F.slot_str_split (typeIs_str _ _ _) F.entry_str_split (F.args_str_split_2 _ _) (meets_str_split_sep z y t t2 h1 hy hf hx hn) ?_
 exact ⟨.ref _,_,I.DV (qB _ _) (by rw [List.length_map];exact hn),rfl,q _ I.fresh⟩
theorem m_split {o e:Expr}{to:TE}{t:TA}{apos cpos:Pos} (ho:PE X o to) (ha:PA X [e] t) (hbase:attributeBase o "split" X.env (eval o X.env)=eval o X.env:=by rfl)
  (hfew:((backTo cpos (starEach [e] X.env)).all (fun x=>!x.1) && (backToKw cpos (keywordEach [] X.env)).all (fun x=>x.1.isSome)
   && decide ([e].length + ([]:List Keyword).length + (if ([]:List Keyword).isEmpty then 0 else 1) < 30))=true:=by rfl)
  (hline:(apos.endLine == cpos.line)=true:=by rfl) (hs:starEach [e] X.env=(false,eval e X.env) :: starEach [] X.env:=by rfl) (hplain:(backTo cpos (starEach [] X.env)).any (·.1)=false:=by rfl) :
  PE X (.Call (.Attribute o "split" apos) [e] [] cpos) (tBM X.K "str" (fun x xs H Q=>∃(z y:Str) (ws:List Str),x=.str z/\xs=[.str y]/\oA z y ws/\∀l,H l=none->Q (.ref l) (upd H l (.lst (ws.map V.str)))) to t) :=
 zi PySem.F.plainAttrs_str PySem.F.slot_str_split PySem.F.type_str_split zJ ho ha hbase hfew hline hs hplain
def Fc (z:Str) (n:Int):Str:=if n < 1 then Str.empty else if (n == 1 || z.length == 0)=true then z else ⟨(List.replicate n.toNat z.cps).foldl (· ++ ·) #[]⟩
def Ez:R2:=fun x y H Q=>match x,y with
 | .int i,.int j=>xX i j/\Q (.int (i * j)) H
 | .str z,.int n=>n < 1000/\-1000 < n/\z.length <= 1000/\Q (.str (Fc z n)) H
 | .ref p,.int k=>∃xs,H p=some (.lst xs)/\-(2 ^ 63) <= k/\k < 2 ^ 63/\xs.length * k.toNat <= sizeLine/\∀l,H l=none->Q (.ref l) (upd H l (.lst (List.replicate k.toNat xs).flatten))
 | _,_=>False
theorem yq (xs:List (Array Nat)):∀acc:Array Nat,(xs.foldl (· ++ ·) acc).size=acc.size + (xs.map (·.size)).sum:=by
 induction xs with
 | nil=>intro acc;simp
 | cons x r ih=>intro acc;rw [List.foldl_cons,ih,Array.size_append,List.map_cons,List.sum_cons];omega
theorem zm (z:Str) (n:Nat):(⟨(List.replicate n z.cps).foldl (· ++ ·) #[]⟩:Str).length=n * z.length:=by
 show ((List.replicate n z.cps).foldl (· ++ ·) #[]).size=_
 rw [yq,List.map_replicate]
 have:∀m k:Nat,(List.replicate m k).sum=m * k:=fun m k=>by
  induction m with
  | zero=>simp
  | succ m ih=>rw [List.replicate_succ,List.sum_cons,ih,Nat.succ_mul];omega
 rw [this]
 simp [Str.length]
theorem cL:OpR X (binaryOp .Mult) Ez:=by
 intro pins s σ H x y v u Q I rx ry h
 cases x with
 | int i =>
  cases y with
  | int j=>exact Es pins s σ H _ _ v u Q I rx ry h
  | _=>exact (show False from h).elim
 | str z =>
  cases y with
  | int n =>
   obtain ⟨h1,h2,h3,q⟩:=h
   obtain ⟨t,rfl⟩:=rx
   obtain ⟨t2,rfl⟩:=ry
   have hb:¬ n < 1->n.toNat * z.length <= 1000000:=fun hn=>by
    have e1:n.toNat <= 1000:=by omega
    exact Nat.le_trans (Nat.mul_le_mul e1 h3) (by decide)
   refine P.mul_str (by rw [decide_eq_false (by omega),decide_eq_false (by omega)];rfl) (fun hn _=>?_) (fun hn _=>?_) ?_
   ·intro z1
    have h0:(0:Int) < n:=by omega
    have:=Int.lt_mul_of_ediv_lt h0 z1
    have e2:((z.length:Int)) * n <= 1000 * 1000:=Int.mul_le_mul (by omega) (by omega) (by omega) (by decide)
    omega
   ·unfold Builtin.Str.tooLong
    have:=hb hn
    rw [Nat.mul_comm] at this
    refine decide_eq_false ?_
    rw [sizeLine_eq]
    omega
   ·unfold Fc at q
    by_cases c1:n < 1
    ·rw [if_pos c1] at q ⊢
     exact ⟨by decide,.str _,H,I.tok _,⟨_,rfl⟩,q⟩
    ·rw [if_neg c1] at q ⊢
     by_cases c2:(n == 1 || z.length == 0)=true
     ·rw [if_pos c2] at q ⊢
      exact ⟨.str _,H,I,⟨_,rfl⟩,q⟩
     ·rw [if_neg c2] at q ⊢
      refine ⟨?_,.str _,H,I.tok _,⟨_,rfl⟩,q⟩
      rw [zm]
      have:=hb c1
      rw [sizeLine_eq]
      omega
  | _=>exact (show False from h).elim
 | ref p =>
  cases y with
  | int k =>
   obtain ⟨xs,h1,h2,h3,h4,q⟩:=h
   exact Cz pins s σ H _ _ v u Q I rx ry ⟨p,k,xs,rfl,rfl,h1,h2,h3,h4,q⟩
  | _=>exact (show False from h).elim
 | _=>cases y <;> exact (show False from h).elim
end
end L2
namespace L2
open PySem PySem.Spec PyProof.Rows
section
variable {X:Cx}
def DJ (K:W.Frag) (H:Hp) (a b:Addr):Prop:=∃kvs lvs,Rd H a (.dK kvs)/\Rd H b (.dK lvs)/\kvs.length=lvs.length/\∀k v,bX kvs k=some v->∃v',bX lvs k=some v'/\zt K H v v'
def CM (K:W.Frag):R2:=fun x y H Q=>match x,y with
 | .ref p,.ref q=>((∃d e,jj K H (.ref p) d/\jj K H (.ref q) e/\SeqAt.shaped d=true/\SeqAt.shaped e=true/\Q (.bl (PyData.eqv d e)) H) \/ (∃xs,SqL K H p xs/\SqL K H q xs/\xs.all qz=true/\Q (.bl true) H)) \/ (DJ K H p q/\Q (.bl true) H)
 | x,y=>x8 x y=true/\Q (.bl (decide (x=y))) H
theorem bE (hu:X.A.units + 64 < cLine):OpR X (compareOp .Eq) (CM X.K):=((EL hu).or (Ep hu)).imp fun x y H Q q=>by
 by_cases hr:∃p q,x=V.ref p/\y=V.ref q
 ·obtain ⟨p,q',rfl,rfl⟩:=hr
  rcases q with q | ⟨⟨kvs,lvs,h1,h2,h3,h4⟩,h5⟩
  ·exact .inl q
  ·exact .inr ⟨p,q',kvs,lvs,rfl,rfl,h1,h2,h3,h4,h5⟩
 ·refine .inl ?_
  cases x <;> cases y <;> first | exact q | exact absurd ⟨_,_,rfl,rfl⟩ hr
inductive D0 (xs:List V) (H:Hp) (Q:VK):Prop
 | mk (a:Addr) (kvs:List (Key × V)) (h0:xs=[.ref a]) (h1:Rd H a (.dK kvs)) (q:Q (.int (kvs.length:Nat)) H):D0 xs H Q
theorem gm:cO X (.builtin "len") (fun xs H Q=>BE X.K xs H Q \/ D0 xs H Q):=Ek.or fun pins s σ H xs us Q I r ⟨a,kvs,h0,h1,q⟩=>Cm pins s σ H xs us Q I r ⟨a,kvs,h0,h1,q⟩
theorem wz (hc:X.calm=true:=by rfl):cO X (.type "list") (fun xs H Q=>(∃p ys,xs=[.ref p]/\(SqL X.K H p ys \/ SqT X.K H p ys)/\∀l,H l=none->Q (.ref l) (upd H l (.lst ys))) \/ ∃d kvs,xs=[.ref d]/\Rd H d (.dK kvs)/\∀l,H l=none->Q (.ref l) (upd H l (.lst (kvs.map fun kv=>kV kv.1)))):=hE.or (AL hc)
end
end L2
namespace L2
open PySem PySem.Spec PyProof.Rows
section
variable {X:Cx}{pins:List (Addr × Obj)}{σ:St}{H:Hp}{s:Shared}
def Itz (K:W.Frag) (a b:Addr):It :=
  ⟨fun i H=>∃xs ys x y,SqL K H a xs/\SqL K H b ys/\xs[i]?=some x/\ys[i]?=some y,
   fun i H v H'=>∃T x y,v=.ref T/\H T=none/\H'=upd H T (.tup [x,y])/\∀xs ys,SqL K H a xs->SqL K H b ys->xs[i]?=some x/\ys[i]?=some y,
   fun i H=>∃xs ys,SqL K H a xs/\SqL K H b ys/\(xs.length <= i \/ ys.length <= i)⟩
def E2 (z TI TO i1 i2 a b:Addr) (i:Nat) (h:Heap):Prop:=IsZip h z TI TO .none/\IsPair h TI (.ref i1) (.ref i2)/\(∃u v,IsPair h TO u v)/\h.IsListIter i1 a i/\h.IsListIter i2 b i
theorem y8 {P:Program}{w:World}{K:W.Frag}{elts:List Expr}{x1}{pos:Pos}{a b z TI TO i1 i2:Addr} (D:ZipApart z TI TO i1 i2 a b) :
  Turn P w K (.Tuple elts x1 pos) (Itz K a b) [z,TI,TO,i1,i2] z (E2 z TI TO i1 i2 a b) where
 mem:=by simp
 obj:=fun i h st c hc=>by
  obtain ⟨hz,hI,⟨u,v,hO⟩,⟨o1,e1,_,d1⟩,⟨o2,e2,_,d2⟩⟩:=st
  simp only [List.mem_cons,List.not_mem_nil,or_false] at hc
  rcases hc with rfl | rfl | rfl | rfl | rfl
  ·exact ⟨_,hz,fun v q=>by cases (show Data.fields _=Data.cell v from q)⟩
  ·exact ⟨_,hI,fun v q=>by cases (show Data.seq _ _=Data.cell v from q)⟩
  ·exact ⟨_,hO,fun v q=>by cases (show Data.seq _ _=Data.cell v from q)⟩
  ·exact ⟨o1,e1,fun v q=>by rw [d1] at q;cases q⟩
  ·exact ⟨o2,e2,fun v q=>by rw [d2] at q;cases q⟩
 keep:=fun i h h' st k=>by
  obtain ⟨hz,hI,⟨u,v,hO⟩,h1,h2⟩:=st
  exact ⟨k z (by simp) _ hz,k TI (by simp) _ hI,⟨u,v,k TO (by simp) _ hO⟩,h1.at fun o e=>k i1 (by simp) o e,h2.at fun o e=>k i2 (by simp) o e⟩
 item:=by
  intro X hP hw hK hc i pins s σ H E I hf st hg
  subst hP hw hK
  obtain ⟨xs,ys,x,y,hq,hq',hx,hy⟩:=hg
  obtain ⟨its,rv,p,hz'⟩:=I.list hq
  obtain ⟨its',rv',p',hz''⟩:=I.list hq'
  obtain ⟨u,hu,ru⟩:=rv.get hx
  obtain ⟨v,hv,rv2⟩:=rv'.get hy
  obtain ⟨hz,hI,⟨u0,v0,hO⟩,h1,h2⟩:=st
  have hT:=I.uD (H':=H) (Nat.le_refl s.heap.objs.size) (I.hok.fresh (Nat.le_refl _))
  have lt:∀{c:Addr}{o:Obj},s.heap.get? c=some o->s.heap.objs.size ≠ c:=fun e=>Nat.ne_of_gt (Heap.lt_size e)
  refine wpAny_pyNext_zip_item D hz hI hO h1 h2 p.isList p'.isList (x:=u) (y:=v) (by simpa using hu) (by simpa using hv) fun h' a1 a2 a3 a4 a5 a6 a7=>?_
  have I1:Inv X pins σ H { s with heap:=h',toks:=s.toks }:=I.wx (ch:=[z,TI,TO,i1,i2]) hf fun c o hc q=>a7 c o (fun e=>hc (by simp [e])) (fun e=>hc (by simp [e])) (fun e=>hc (by simp [e])) (fun e=>hc (by simp [e])) q
  have I2:=I1.EY (u:=.tup [x,y]) hT I.sz ⟨by show 2 <= sizeLine;decide,[u,v],.cons ru (.cons rv2 .nil),⟨_,a5,rfl,_,rfl⟩⟩
  refine ⟨_,rfl,wpAny_letOwnedTupleGo_zip (s:={ s with heap:=h' }) a1 fun h2' hz2 hs2=>?_⟩
  have f0:=hf z (by simp)
  have hI':h'.get? TI=_:=a7 TI _ D.TIz D.TITO D.TIi1 D.TIi2 hI
  have zT:z ≠ s.heap.objs.size:=Ne.symm (lt hz)
  refine ⟨.ref s.heap.objs.size,_,I2.turned (t':=s.toks) (it:=z) (fun c o hc q=>(hs2.2 c hc).trans q) (by rw [aQ zT];exact f0.1) f0.2.1 f0.2.2.2.1 f0.2.2.2.2.1 f0.2.2.2.2.2,rfl,
   ⟨_,x,y,rfl,hT.1,rfl,fun xs' ys' q q'=>by rw [I.pk q hq,I.pk q' hq'];exact ⟨hx,hy⟩⟩,⟨hz2,(hs2.2 TI D.TIz).trans hI',⟨u,v,(hs2.2 TO D.TOz).trans a2⟩,a3.at fun o q=>(hs2.2 i1 D.i1z).trans q,a4.at fun o q=>(hs2.2 i2 D.i2z).trans q⟩,fun c hc=>?_⟩
  have cT:c ≠ s.heap.objs.size:=by
   simp only [List.mem_cons,List.not_mem_nil,or_false] at hc
   rcases hc with rfl | rfl | rfl | rfl | rfl
   ·exact zT
   ·exact Ne.symm (lt hI)
   ·exact Ne.symm (lt hO)
   ·obtain ⟨o,e,_⟩:=h1;exact Ne.symm (lt e)
   ·obtain ⟨o,e,_⟩:=h2;exact Ne.symm (lt e)
  rw [aQ cT]
  exact (hf c hc).1
 done:=by
  intro X hP hw hK hc i pins s σ H E I hf st hg
  subst hP hw hK
  obtain ⟨xs,ys,hq,hq',hx⟩:=hg
  obtain ⟨its,rv,p,hz'⟩:=I.list hq
  obtain ⟨its',rv',p',hz''⟩:=I.list hq'
  obtain ⟨hz,hI,⟨u0,v0,hO⟩,h1,h2⟩:=st
  have hl:=rv.length
  have hl':=rv'.length
  refine wpAny_pyNext_zip_end (I.ok.hd hc) D hz hI hO h1 h2 p.isList p'.isList (by simp;omega) fun h' eb=>⟨rfl,?_⟩
  exact I.wx (ch:=[z,TI,TO,i1,i2]) hf fun c o hc q=>eb c o (fun e=>hc (by simp [e])) (fun e=>hc (by simp [e])) (fun e=>hc (by simp [e])) (fun e=>hc (by simp [e])) q
 self:=fun _ _ _ _ _ st h=>wpAny_pyIter_zip st.1 h
def Fw (K:W.Frag) (ta:TA):TI:=fun σ H R=>ta σ H fun vs H1=>∃a b,vs=[.ref a,.ref b]/\(∃xs,SqL K H1 a xs)/\(∃ys,SqL K H1 b ys)/\R (Itz K a b) H1
theorem yg:bootBuiltins "zip"=some (.type "zip"):=by decide +kernel
theorem Dc {a b:Expr}{ta:TA}{p pos:Pos}{elts:List Expr}{x1}{pos2:Pos} (hg:Gl X "zip") (hm:X.mg "zip"=none) (ha:PA X [a,b] ta) (he:starEach [a,b] X.env=(false,eval a X.env) :: starEach [b] X.env:=by rfl)
  (hpl:(backTo pos (starEach [b] X.env)).any (·.1)=false:=by rfl):PI X (.Tuple elts x1 pos2) (.Call (.Name "zip" p) [a,b] [] pos) (Fw X.K ta):=by
 intro pins s σ H R I h
 refine Call_ (mE I hg hm yg (PyProof.Rows.callWith_type1 (thn (ha pos pins s σ H _ I h) fun us s1 ⟨vs,H1,I1,r1,q1⟩=>?_) he hpl))
 obtain ⟨a,b,e,⟨xs,hq⟩,⟨ys,hq'⟩,q⟩:=q1
 subst e
 obtain ⟨u,v,rfl,ru,rv⟩:=vals2 r1
 cases ru
 cases rv
 obtain ⟨its,rv1,p1,hz1⟩:=I1.list hq
 obtain ⟨its',rv2,p2,hz2⟩:=I1.list hq'
 have lt:∀{c:Addr}{zs:Array Value},s1.heap.IsList c zs->c < s1.heap.objs.size:=fun h=>by obtain ⟨o,e,_⟩:=h;exact Heap.lt_size e
 refine call_zip_2 p1.isList p2.isList fun h' hz hI hO h1 h2 hsz hk=>?_
 refine wpAny_pyIter_zip hz ?_
 refine ⟨s1.heap.objs.size + 4,[s1.heap.objs.size + 4,s1.heap.objs.size + 2,s1.heap.objs.size + 3,s1.heap.objs.size,s1.heap.objs.size + 1],_,_,H1,rfl,I1.kept (t':=s1.toks) hk,y8 (zipApart_new (lt p1.isList) (lt p2.isList)),⟨hz,hI,⟨_,_,hO⟩,h1,h2⟩,fun c hc=>?_,q⟩
 have le:s1.heap.objs.size <= c:=by
  simp only [List.mem_cons,List.not_mem_nil,or_false] at hc
  rcases hc with h | h | h | h | h
  ·rw [h];exact Nat.le_add_right _ _
  ·rw [h];exact Nat.le_add_right _ _
  ·rw [h];exact Nat.le_add_right _ _
  ·rw [h];exact Nat.le_refl _
  ·rw [h];exact Nat.le_add_right _ _
 exact I1.uD le (I1.hok.fresh le)
end
theorem AW {K:PySem.W.Frag}{a b:Addr}{xs ys:List V}{g:TG}{tb:TS}{D:Ends}{σ:St}{H:Hp} (Pv:Nat->St->Hp->Prop) (h0:Pv 0 σ H) (hl:∀i σ H,i <= xs.length->Pv i σ H->SqL K H a xs/\SqL K H b ys) (hle:xs.length=ys.length)
  (hs:∀i x y σ H T,xs[i]?=some x->ys[i]?=some y->Pv i σ H->H T=none->g (.ref T) σ (upd H T (.tup [x,y])) fun σ2 H2=>tb { D with nx:=Pv (i + 1),ct:=Pv (i + 1),bk:=D.nx } σ2 H2) (hd:∀σ H,Pv xs.length σ H->D.nx σ H) :
  ∃W:Nat->Nat->St->Hp->Prop,(∃m,W 0 m σ H)/\∀i m σ H,W i m σ H ->
   ((Itz K a b).stop i H/\D.nx σ H) \/ ((Itz K a b).go i H/\∃N:St->Hp->Prop,(∀σ' H',N σ' H'->∃m',m' < m/\W (i + 1) m' σ' H')/\∀x H',(Itz K a b).yld i H x H'->g x σ H' fun σ2 H2=>tb { D with nx:=N,ct:=N,bk:=D.nx } σ2 H2):=by
 refine ⟨fun i m σ H=>m=xs.length - i/\i <= xs.length/\Pv i σ H,⟨xs.length,by simp,Nat.zero_le _,h0⟩,?_⟩
 rintro i m σ H ⟨rfl,hi,p⟩
 obtain ⟨q,q'⟩:=hl i σ H hi p
 by_cases hlt:i < xs.length
 ·have hlt':i < ys.length:=by omega
  refine .inr ⟨⟨xs,ys,xs[i],ys[i],q,q',by simp [hlt],by simp [hlt']⟩,Pv (i + 1),fun σ' H' p'=>⟨xs.length - (i + 1),by omega,rfl,hlt,p'⟩,fun v H' y=>?_⟩
  obtain ⟨T,x,y,rfl,hT,rfl,h⟩:=y
  obtain ⟨e1,e2⟩:=h xs ys q q'
  exact hs i x y σ _ T e1 e2 p hT
 ·have e:i=xs.length:=by omega
  subst e
  exact .inl ⟨⟨xs,ys,q,q',Or.inl (Nat.le_refl _)⟩,hd σ H p⟩
end L2
set_option maxHeartbeats 4000000
namespace L2
open PySem PySem.Spec PyProof.Rows
end L2
namespace L2
open PySem PySem.Spec PyProof.Rows
section
variable {X:Cx}
theorem By {o:Expr}{to:TE}{apos cpos:Pos} (ho:PE X o to) (hbase:attributeBase o "clear" X.env (eval o X.env)=eval o X.env:=by rfl) (hline:(apos.endLine == cpos.line)=true:=by rfl) :
  PE X (.Call (.Attribute o "clear" apos) [] [] cpos) (Dv X.K "list" yD to) :=
 AE PySem.F.plainAttrs_list PySem.F.slot_list_clear PySem.F.type_list_clear Az ho hbase hline
end
end L2
namespace L2
open PySem PySem.Spec PyProof.Rows
section
variable {X:Cx}
theorem uR {o:Expr}{to:TE}{apos cpos:Pos} (ho:PE X o to) (hbase:attributeBase o "pop" X.env (eval o X.env)=eval o X.env:=by rfl) (hline:(apos.endLine == cpos.line)=true:=by rfl) :
  PE X (.Call (.Attribute o "pop" apos) [] [] cpos) (Dv X.K "list" AU to) :=
 AE PySem.F.plainAttrs_list PySem.F.slot_list_pop PySem.F.type_list_pop Dh ho hbase hline
end
end L2
namespace L2
open PySem PySem.Spec PyProof.Rows
section
variable {X:Cx}
end
end L2
namespace L2
open PySem PySem.Spec PyProof.Rows
section
variable {X:Cx}
end
end L2
namespace L2
open PySem PySem.Spec PyProof.Rows
section
variable {X:Cx}
end
end L2
namespace L2
open PySem PySem.Spec PyProof.Rows
section
variable {X:Cx}
end
end L2
namespace L2
open PySem PySem.Spec PyProof.Rows
section
variable {X:Cx}
end
end L2
namespace L2
open PySem PySem.Spec PyProof.Rows
section
variable {X:Cx}
end
end L2
namespace L2
open PySem PySem.Spec PyProof.Rows
section
variable {X:Cx}{e:Expr}{te:TE}{es:List Expr}{t:Str->TE}{pos:Pos}
def PJ (X:Cx) (es:List Expr) (t:Str->TE):Prop :=
 ∀(acc:Str) (pins:List (Addr × Obj)) (s:Shared) (σ:St) (H:Hp) (Q:VK),Inv X pins σ H s->t acc σ H Q->wpAny (model X.prog X.w) X.A (joinParts acc (evalEach es X.env)) (EP X pins σ Q) X.xe s
theorem CV:PJ X [] (fun acc _ H Q=>acc.length <= sizeLine/\Q (.str acc) H):=fun acc pins s σ H Q I h=>by
 show wpAny _ _ (joinParts acc []) _ _ _
 exact joinParts_nil (Q:=EP X pins σ Q) ⟨.str acc,H,I.tok _,⟨_,rfl⟩,h.2⟩ h.1
theorem wY (he:PE X e te) (ht:PJ X es t):PJ X (e :: es) (fun acc σ H Q=>te σ H fun v H'=>∃x,v=.str x/\(acc ++ x).length <= sizeLine/\t (acc ++ x) σ H' Q):=fun acc pins s σ H Q I h=>by
 show wpAny _ _ (joinParts acc (eval e X.env :: evalEach es X.env)) _ _ _
 refine joinParts_cons (thn (he pins s σ H _ I h) fun v s1 ⟨x,H1,I1,r1,y,e1,l1,q1⟩=>?_)
 subst e1
 obtain ⟨tk,rfl⟩:=r1
 exact ⟨l1,ht _ pins s1 σ H1 Q I1 q1⟩
theorem AX {a b:Expr} (h:PJ X (a :: b :: es) t):PE X (.JoinedStr (a :: b :: es) pos) (fun σ H Q=>t Str.empty σ H Q):=fun pins s σ H Q I q=>JoinedStr_many (h Str.empty pins s σ H Q I q)
theorem DW (he:PE X e te):PE X (.FormattedValue e (-1) none pos) (fun σ H Q=>te σ H fun v H'=>(∃i:Int,v=.int i/\i.natAbs.log2 < 1920/\Q (.str (toString i:String)) H') \/ ∃x,v=.str x/\x.length <= sizeLine/\Q (.str x) H'):=fun pins s σ H Q I h=>by
 refine FormattedValue_plain (thn (he pins s σ H _ I h) fun v s1 ⟨x,H1,I1,r1,q1⟩=>?_)
 rcases q1 with ⟨i,rfl,hi,q1⟩ | ⟨y,rfl,hy,q1⟩
 ·obtain ⟨tk,rfl⟩:=r1
  exact formatField_int_small hi ⟨.str (toString i:String),H1,I1.tok _,⟨_,rfl⟩,q1⟩
 ·obtain ⟨tk,rfl⟩:=r1
  exact formatField_str (fun t' tk=>⟨.str y,H1,I1.tok _,⟨_,rfl⟩,q1⟩) hy
end
end L2
namespace L2
open PySem PySem.Spec PyProof.Rows
section
variable {X:Cx}
theorem gi {o e:Expr}{to:TE}{t:TA}{apos cpos:Pos} (ho:PE X o to) (ha:PA X [e] t) (hbase:attributeBase o "extend" X.env (eval o X.env)=eval o X.env:=by rfl)
  (hfew:((backTo cpos (starEach [e] X.env)).all (fun x=>!x.1) && (backToKw cpos (keywordEach [] X.env)).all (fun x=>x.1.isSome)
   && decide ([e].length + ([]:List Keyword).length + (if ([]:List Keyword).isEmpty then 0 else 1) < 30))=true:=by rfl)
  (hline:(apos.endLine == cpos.line)=true:=by rfl) (hs:starEach [e] X.env=(false,eval e X.env) :: starEach [] X.env:=by rfl) (hplain:(backTo cpos (starEach [] X.env)).any (·.1)=false:=by rfl) :
  PE X (.Call (.Attribute o "extend" apos) [e] [] cpos) (tBM X.K "list" xC to t) :=
 zi PySem.F.plainAttrs_list PySem.F.slot_list_extend PySem.F.type_list_extend xW ho ha hbase hfew hline hs hplain
end
end L2
namespace L2
open PySem PySem.Spec PyProof.Rows
section
variable {prog:Program}{w:World}{K:Type} [DecidableEq K] {knd:KeyKind prog w K}{A:Around}{E:Value->Shared->Prop}{s:Shared}
end
section
variable {X:Cx}
end
end L2
namespace L2
open PySem PySem.Spec PyProof.Rows
section
variable {prog:Program}{w:World}{A:Around}{E:Value->Shared->Prop}{s:Shared}
end
section
variable {X:Cx}
end
end L2
namespace L2
open PySem PySem.Spec PyProof.Rows
section
variable {K:W.Frag}{H:Hp}{Q:VK}
theorem tix {p:Addr}{xs:List V}{v:V}{j:Nat} (h:SqT K H p xs) (e:xs[j]?=some v) (q:Q v H):ixS K p (j:Int) H Q \/ dgI p (.int (j:Int)) H Q:=.inl ⟨xs,v,.inr h,ka e,q⟩
theorem lix {p:Addr}{xs:List V}{v:V}{i:Int} (h:SqL K H p xs) (e:atI xs i=some v) (q:Q v H):ixS K p i H Q \/ dgI p (.int i) H Q:=.inl ⟨xs,v,.inl h,e,q⟩
theorem dgk {d:Addr}{kvs:List (Key × V)}{x:Str}{v:V} (h:H d=some (.dK kvs)) (e:bX kvs (.inr x)=some v) (q:Q v H):dgI d (.str x) H Q:=⟨v,e ▸ jq.k (k:=.inr x) h,q⟩
theorem fdI {a C dx:Addr}{f:Str}{fs:List (Str × V)}{v:V} (h:H a=some (.ins C dx fs)) (c:Cls K C) (n:aF K C f) (e:fs.lookup f=some v) (q:Q v H):qh K f (.ref a) H Q:=⟨a,C,dx,fs,v,rfl,h,c,n,e,q⟩
theorem lnl {p:Addr}{xs:List V} (h:H p=some (.lst xs)) (q:Q (.int (xs.length:Nat)) H):BE K [.ref p] H Q \/ D0 [.ref p] H Q:=.inl ⟨_,_,rfl,.inl ⟨_,SqL.of h,rfl⟩,q⟩
theorem isB {x:V}{D:Addr}{t:Value}{b:Bool}{R:Bool->Hp->Prop} (ty:kJ K H x t) (k:W.kitOne K t (.ref D)=some b) (q:R b H):xM K [x,.ref D] H fun v H1=>uf K v H1 R:=⟨x,.ref D,t,b,rfl,(fun z=>by cases z),ty,k,b,rfl,q⟩
end
end L2
namespace L2
open PySem PySem.Spec PyProof.Rows
section
variable {X:Cx}
end
end L2
namespace L2
open PySem PySem.Spec PyProof.Rows
section
variable {X:Cx}
end
end L2
namespace L2
open PySem PySem.Spec PyProof.Rows
def Ea (P:Program) (w:World) (K:W.Frag) (mg:Str->Option Value) (base:Heap) (k:Nat) (x:Str) (ps:List Str) (dvs:List V) (sp:Sp):Prop :=
 ∃f fd ds,lM P w K mg base CX0 k f fd ps sp/\Binds K fd ps []/\Binds K fd ps ds/\Vals dvs ds/\W.keepIn K (.ref f)=true/\mg x=some (.ref f)/\∃oc od osl,K.lookup f=some ⟨oc,od,.func fd,osl⟩
section
variable {P:Program}{w:World}{K:W.Frag}{mg:Str->Option Value}{base:Heap}{k:Nat}{x:Str}{ps:List Str}{dvs:List V}{sp:Sp}
structure mT (K:W.Frag) (mg:Str->Option Value) (x:Str) (st:Stmt) (ps:List Str) (dvs:List V):Prop where
 ex:∃(f:Addr) (oc:Value) (od:Option Addr) (dV kV doc pm:Value) (an:Option Addr) (cdv ct:Value) (osl:Array (Option Value)) (ds:List Value),K.lookup f=some ⟨oc,od,.func (W.fnOf x x (bD st) (bq st) (aq st) dV kV doc pm an cdv ct),osl⟩/\W.codeIn K cdv x=true/\W.keepIn K (.ref f)=true/\mg x=some (.ref f)/\Vals dvs ds /\
  Binds K (W.fnOf x x (bD st) (bq st) (aq st) dV kV doc pm an cdv ct) ps []/\Binds K (W.fnOf x x (bD st) (bq st) (aq st) dV kV doc pm an cdv ct) ps ds
abbrev mT.Hz {st:Stmt} (_:mT K mg x st ps dvs) (P:Program) (w:World) (base:Heap) (k:Nat) (sp:Sp):Prop:=Ea P w K mg base k x ps dvs sp
theorem mT.hs {st:Stmt}{N:List Str} (F:mT K mg x st ps dvs) (S:az N ps (aq st))
  (hbody:∀(f:Addr) (cdv:Value) (A:Around) (outer:List Env) (s:Shared) (H:Hp) (vs:List V) (Q:VK) (E:XK),cZ k (A.deeper (envOfC x (aq st) s.heap.objs.size f cdv))->(A.deeper (envOfC x (aq st) s.heap.objs.size f cdv)).units + 64 < cLine->sp vs H Q E ->
   ∃t,PSs (rD CX0 P w K mg base N x (aq st) f cdv A outer s H E).nox (bq st) t/\t { nx:=fun _ H'=>Q .non H',rt:=Q } (start N vs) H) (len:∀vs H Q E,sp vs H Q E->vs.length=ps.length:=by intro _ _ _ _ h;cases h;subst_vars;rfl):Ea P w K mg base (k + 1) x ps dvs sp:=by
 obtain ⟨f,oc,od,dV,kV,doc,pm,an,cdv,ct,osl,ds,lk,hcd,kp,m,hv,b1,b2⟩:=F.ex
 refine ⟨f,_,ds,Ca lk hcd S len fun A outer s H vs Q E hr hsp=>?_,b1,b2,hv,kp,m,oc,od,osl,lk⟩
 obtain ⟨t,h,q⟩:=hbody f cdv A outer s H vs Q E hr hr.units hsp
 exact ⟨t,h.nox,q⟩
end
theorem zA {X:Cx}{j k:Nat}{x:Str}{ps:List Str}{dvs:List V}{sp:Sp}{e:Expr}{es:List Expr}{t:TA}{p pos:Pos} (D:Ea X.prog X.w X.K X.mg X.base j x ps dvs sp) (hr:cZ k X.A) (ha:PA X (e :: es) t) (hj:j <= k:=by decide) (hg:Gl X x:=by rfl)
  (hdb:(x == ("__debug__":Str))=false:=by decide) (he:starEach (e :: es) X.env=(false,eval e X.env) :: starEach es X.env:=by rfl) (hpl:(backTo pos (starEach es X.env)).any (·.1)=false:=by rfl) :
  PE X (.Call (.Name x p) (e :: es) [] pos) (wR sp dvs E0 t):=by
 obtain ⟨f,fd,ds,F,_,b,hv,kp,m,_⟩:=D
 exact w6 F (hr.mono hj) hg m kp b hv ux ha hdb he hpl
end L2
namespace L2
open PySem PySem.Spec PyProof.Rows
section
variable {prog:Program}{w:World}{A:Around}{E:Value->Shared->Prop}{s:Shared}{S:Addr}{a b c:Option Tok}{ep:Nat}{led:Bool}
end
structure RkIn (val:Nat->Int) (i:Nat) (a b c:Option Tok):Prop where
 a:a.isSome=(List.range i).any fun j=>decide (val j=0)
 b:b.isSome=(List.range i).any fun j=>decide (val j=1)
 c:c.isSome=(List.range i).any fun j=>decide (val j=2)
section
variable {prog:Program}{w:World}{A:Around}{R:Result->Shared->Prop}{I:Addr}{fp wr:List Addr}{G:Array GenState->Array GenState->Prop}{n:Nat}{P:Nat->Value->Prop}{St:Nat->Shared->Prop}{led:Bool}
end
section
variable {prog:Program}{w:World}{A:Around}{E:Value->Shared->Prop}{s:Shared}
end
end L2
namespace L2
open PySem PySem.Spec PyProof.Rows
section
variable {prog:Program}{w:World}{A:Around}{E:Value->Shared->Prop}{s:Shared}{S:Addr}{a b c:Option Tok}{ep:Nat}
end
end L2
namespace L2
open PySem PySem.Spec PyProof.Rows
section
variable {prog:Program}{w:World}{A:Around}{E:Value->Shared->Prop}{s:Shared}{S:Addr}{a b c:Option Tok}{ep:Nat}
end
end L2
namespace L2
open PySem PySem.Spec PyProof.Rows
section
variable {prog:Program}{w:World}{A:Around}{E:Value->Shared->Prop}{s:Shared}{S:Addr}{a b c:Option Tok}{ep:Nat}
end
end L2
namespace L2
open PySem PySem.Spec PyProof.Rows
theorem Paired.Eo {α β:Type}{F:α->β->Prop}{x:α}{y:β} (h:F x y):∀{a:List α}{b:List β},Paired F a b->Paired F (a ++ [x]) (b ++ [y])
 | _,_,.nil=>.cons h .nil
 | _,_,.cons r t=>.cons r (Paired.Eo h t)
theorem lg {α:Type}{K:W.Frag}{a:Addr}{xs:List V}{own:Nat}{fr:List Nat}{g:CB->TG}{tf:CB->TT}{te:CB->TE}{Q:VK}{σ:St}{H1:Hp} (src:List α) (p:α->Bool) (R:α->V->Hp->Prop) (hx:SqL K H1 a xs) (hl:xs.length=src.length) (hn:xs.length < sizeLine)
  (he:∀(b:CB) (i:Nat) (x:V) (e:α) (v0:St) (H:Hp) (N:St->Hp->Prop) (Y:St->V->Hp->Prop),xs[i]?=some x->src[i]?=some e->v0.length=own->ai H1 H ->
   (p e=false->∀v1 H',v1.length=own->ai H H'->N (v1 ++ cFr fr σ) H')->(p e=true->∀v1 y H',v1.length=own->ai H H'->R e y H'->Y (v1 ++ cFr fr σ) y H') ->
   g b x (v0 ++ cFr fr σ) H fun σ3 H3=>tf b σ3 H3 fun k H4=>if k=true then te b σ3 H4 fun y H5=>Y σ3 y H5 else N σ3 H4)
  (mono:∀e y H H',ai H H'->R e y H->R e y H') (st:∀e y H D ys zs,H D=some (.lst ys)->R e y H->R e y (upd H D (.lst zs)))
  (fin:∀D H ys,H1 D=none->ai H1 H->H D=some (.lst ys)->Paired (fun e y=>R e y H) (src.filter p) ys->Q (.ref D) H):mN (Itl K a) own fr g tf te Q σ H1:=by
 refine ⟨fun b D hD=>?_⟩
 refine ⟨fun i m σ' H'=>m=xs.length - i/\i <= xs.length/\(∃v0,σ'=v0 ++ cFr fr σ/\v0.length=own)/\ai H1 H'/\∃ys,H' D=some (.lst ys)/\ys.length <= i/\Paired (fun e y=>R e y H') ((src.take i).filter p) ys,⟨xs.length,rfl,Nat.zero_le _,⟨List.replicate own none,rfl,List.length_replicate ..⟩,ai.upd hD _,[],ao,Nat.le_refl _,.nil⟩,?_⟩
 rintro i m σ' H' ⟨rfl,hi,⟨v0,rfl,hv⟩,sm,ys,hL,hy,hR⟩
 by_cases hlt:i < xs.length
 ·have hs:i < src.length:=by omega
  refine .inr ⟨⟨xs,xs[i],sm.seq hx,List.getElem?_eq_getElem hlt⟩,fun σ2 H2=>(∃v0,σ2=v0 ++ cFr fr σ/\v0.length=own)/\ai H1 H2/\∃ys,H2 D=some (.lst ys)/\ys.length <= i + 1/\Paired (fun e y=>R e y H2) ((src.take (i + 1)).filter p) ys,fun σ2 H2 q=>⟨xs.length - (i + 1),by omega,rfl,hlt,q⟩,fun v H2 y=>?_⟩
  obtain ⟨rfl,y2⟩:=y
  have e:=y2 xs (sm.seq hx)
  have tk:src.take (i + 1)=src.take i ++ [src[i]]:=by rw [List.take_add_one,List.getElem?_eq_getElem hs];rfl
  refine he b i v src[i] v0 _ _ _ e (List.getElem?_eq_getElem hs) hv sm (fun pf v1 H3 h1 s3=>?_) (fun pt v1 y H3 h1 s3 r3=>?_)
  ·refine ⟨⟨v1,rfl,h1⟩,sm.trans s3,ys,s3 _ _ hL,by omega,?_⟩
   rw [tk,List.filter_append,List.filter_cons_of_neg (by rw [pf];exact Bool.false_ne_true),List.filter_nil,List.append_nil]
   exact Paired.nX hR fun e y z=>mono _ _ _ _ s3 z
  ·have hD4:=s3 _ _ hL
   refine ⟨ys,hD4,by omega,⟨v1,rfl,h1⟩,?_,ys ++ [y],ao,by simp;omega,?_⟩
   ·intro c o q
    by_cases hc:c=D
    ·rw [hc,hD] at q;cases q
    ·rw [aQ hc];exact (sm.trans s3) c o q
   ·rw [tk,List.filter_append,List.filter_cons_of_pos pt,List.filter_nil]
    exact Paired.Eo (F:=fun e y'=>R e y' (upd H3 D (.lst (ys ++ [y])))) (st _ _ _ _ _ _ hD4 r3) (Paired.nX hR fun e y z=>st _ _ _ _ _ _ hD4 (mono _ _ _ _ s3 z))
 ·have e:i=xs.length:=by omega
  subst e
  rw [hl,List.take_length] at hR
  exact .inl ⟨⟨xs,sm.seq hx,Nat.le_refl _⟩,fin D H' ys hD sm hL hR⟩
end L2
namespace L2
open PySem PySem.Spec PyProof.Rows
end L2
namespace L2
open PySem PySem.Spec PyProof.Rows
section
variable {X:Cx}
end
end L2
namespace L2
open PySem PySem.Spec PyProof.Rows
section
variable {prog:Program}{w:World}{A:Around}{E:Value->Shared->Prop}{s:Shared}
end
end L2
namespace L2
open PySem PySem.Spec PyProof.Rows
section
variable {prog:Program}{w:World}{A:Around}{E:Value->Shared->Prop}{s:Shared}
end
end L2
namespace L2
open PySem PySem.Spec PyProof.Rows
section
variable {X:Cx}{pins:List (Addr × Obj)}{σ:St}{H:Hp}{s:Shared}
end
end L2
namespace K31
open PySem L2
theorem scM {N P:List Str}{sc:Scope} (k:sc.kind=.function:=by rfl) (c:sc.isCoroutine=false:=by rfl) (g:sc.isGenerator=false:=by rfl) (n:N.Nodup:=by decide +kernel) (p:N.take P.length=P:=by rfl) (q:∀x ∈ P,sc.names.lookup x=some .local \/ sc.names.lookup x=some .cell:=by decide +kernel) (f:∀y ∈ sc.names,y.2 ≠ .free:=by decide +kernel):az N P sc:=⟨k,c,g,n,p,q,f⟩
theorem px {X:Cx}{a b:Expr}{ta tb:TE}{pos:Pos} (hu:X.A.units + 64 < cLine) (ha:PE X a ta) (hb:PE X b tb) (hs:wQ b:=by exact fun _ _=>rfl):PE X (.Subscript a b pos) (tOp (AN X.K) ta tb):=E5 (DB hu) ha hb hs
theorem pgn {X:Cx}{pos:Pos}{i:Nat}{x:Str} (hN:X.N.Nodup) (hi:X.N[i]?=some x) (hx:Loc X.env.scope x:=by first | exact Or.inl rfl | exact Or.inr rfl) (hf:X.fn x=true \/ X.env.scope.names.lookup x=some .local:=by first | exact .inl rfl | exact .inr rfl | assumption):PG X (.Name x pos) (ky i):=we hN hi hx hf
theorem pst {X:Cx} (i:Nat) {x:Str}{e:Expr}{te:TE}{pos pos':Pos} (hN:X.N.Nodup) (he:PE X e te) (hi:X.N[i]?=some x:=by rfl) (hx:Loc X.env.scope x:=by first | exact Or.inl rfl | exact Or.inr rfl) (hs:swapsWith e (some (.Name x pos')) pos.line X.env=pure false:=by rfl) (hf:X.fn x=true \/ X.env.scope.names.lookup x=some .local:=by first | exact .inl rfl | exact .inr rfl | assumption):PS X (.Assign [.Name x pos'] e pos) (BM te (ky i)):=DZ hN hi hx he hs hf
theorem pcB {X:Cx}{id:String}{r:List V->Hp->VK->Prop}{x:Str}{e:Expr}{es:List Expr}{t:TA}{p pos:Pos} (hc:cO X (.builtin id) r) (hm:X.mg x=none) (ha:PA X (e :: es) t) (hg:Gl X x:=by rfl) (hv:bootBuiltins x=some (.builtin id):=by boot_by_name) (hn:x ≠ "__name__":=by decide) (hdb:(x == ("__debug__":Str))=false:=by decide) (he:starEach (e :: es) X.env=(false,eval e X.env) :: starEach es X.env:=by rfl) (hpl:(backTo pos (starEach es X.env)).any (·.1)=false:=by rfl):PE X (.Call (.Name x p) (e :: es) [] pos) (tCB r t):=zu hc hg hm hv ha hn hdb he hpl
theorem pcT {X:Cx}{T:String}{r:List V->Hp->VK->Prop}{x:Str}{e:Expr}{es:List Expr}{t:TA}{p pos:Pos} (hc:cO X (.type T) r) (hm:X.mg x=none) (ha:PA X (e :: es) t) (hg:Gl X x:=by rfl) (hv:bootBuiltins x=some (.type T):=by boot_by_name) (hn:x ≠ "__name__":=by decide) (hdb:(x == ("__debug__":Str))=false:=by decide) (he:starEach (e :: es) X.env=(false,eval e X.env) :: starEach es X.env:=by rfl) (hpl:(backTo pos (starEach es X.env)).any (·.1)=false:=by rfl):PE X (.Call (.Name x p) (e :: es) [] pos) (tCB r t):=yh hc hg hm hv ha hn hdb he hpl
theorem ptc {X:Cx}{a b:Expr}{ta tb:TE}{pos:Pos}{op:CmpOp}{r:R2} (ho:OpR X (compareOp op) r) (ha:PE X a ta) (hb:PE X b tb) (hm:behindInMarks op b=false:=by exact y9 _):PT X (.Compare a [op] [b] pos) (q4 (tOp r ta tb)):=Bu ho ha hb hm
theorem pec {X:Cx}{a b:Expr}{ta tb:TE}{pos:Pos}{op:CmpOp}{r:R2} (ho:OpR X (compareOp op) r) (ha:PE X a ta) (hb:PE X b tb) (hm:behindInMarks op b=false:=by exact y9 _):PE X (.Compare a [op] [b] pos) (tOp r ta tb):=AS ho ha hb hm
abbrev kO:Stmt:=top 2
theorem jM:az ["value","names","thing"] ["value"] (aq kO):=scM
abbrev jw:Stmt:=top 4
theorem iI:az ["names","found","name"] ["names"] (aq jw):=scM
abbrev kU:Stmt:=top 21
theorem cG:az ["rows","known","steps","row","more"] ["rows","known"] (aq kU):=scM
abbrev gw:Stmt:=top 22
theorem nQ:az ["row","known"] ["row","known"] (aq gw):=scM
abbrev kT:Stmt:=top 23
theorem uv:az ["steps"] ["steps"] (aq kT):=scM
abbrev gW:Stmt:=top 24
theorem gp:az ["row","known","one","other"] ["row","known"] (aq gW):=scM
abbrev eN:Stmt:=top 25
theorem iA:az ["row","known","steps"] ["row","known"] (aq eN):=scM
abbrev oV:Stmt:=top 26
abbrev oT:Stmt:=top 27
theorem lU:az ["program","known","deed"] ["program"] (aq oT):=scM
abbrev jF:Stmt:=top 30
theorem rW:az ["number"] ["number"] (aq jF):=scM
abbrev j2:Stmt:=top 31
theorem fA:az ["rows","place","loop","found","row"] ["rows","place","loop"] (aq j2):=scM
abbrev ig:Stmt:=top 32
theorem jK:az ["row","loop","here"] ["row","loop"] (aq ig):=scM
abbrev fJ:Stmt:=top 33
theorem eY:az ["program","found","deed"] ["program"] (aq fJ):=scM
abbrev sI:Stmt:=top 35
theorem zP:az ["froms","into","kind","number"] ["froms","into","kind","number"] (aq sI):=scM
abbrev jD:Stmt:=top 36
theorem lN:az ["row","place","loop","parts_of","here"] ["row","place","loop","parts_of"] (aq jD):=scM
abbrev i6:Stmt:=top 37
theorem kq:az ["row","place","found"] ["row","place"] (aq i6):=scM
abbrev fU:Stmt:=top 38
theorem cn:az ["row","place","parts","found","thing","part","into"] ["row","place","parts"] (aq fU):=scM
abbrev iR:Stmt:=top 39
theorem qg:az ["row","known","here"] ["row","known"] (aq iR):=scM
abbrev rQ:Stmt:=top 40
theorem gq:az ["program","steps","parts_of","known","found","row","place","loop"] ["program","steps"] (aq rQ):=scM
abbrev gR:Stmt:=top 42
theorem gC:az ["_law_script","_law_k","_law_cell"] ["_law_script","_law_k"] (aq gR):=scM
abbrev kS:Stmt:=top 43
theorem uA:az ["_law_script","_law_at","_law_many"] ["_law_script","_law_at","_law_many"] (aq kS):=scM
abbrev lR:Stmt:=top 44
theorem gy:az ["_law_cell","_law_k","_law_digits","_law_ahead","_law_number"] ["_law_cell","_law_k"] (aq lR):=scM
abbrev jX:Stmt:=top 45
theorem bt:az ["_law_cell","_law_other","_law_many","_law_words","_law_letters","_law_step","_law_found","_law_k","_law_number","_law_word"] ["_law_cell","_law_other","_law_many"] (aq jX):=scM
abbrev kC:Stmt:=top 46
theorem uN:az ["_law_some","_law_number"] ["_law_some","_law_number"] (aq kC):=scM
abbrev jL:Stmt:=top 47
theorem cj:az ["_law_names_here","_law_cell","_law_ranks","_law_rows","_law_turn"] ["_law_names_here","_law_cell"] (aq jL):=scM
abbrev jt:Stmt:=top 48
theorem iS:az ["_law_names_here","_law_parts","_law_targets","_law_found"] ["_law_names_here","_law_parts"] (aq jt):=scM
abbrev j4:Stmt:=top 49
theorem sV:az ["_law_number","_law_scope_here"] ["_law_number","_law_scope_here"] (aq j4):=scM
abbrev jo:Stmt:=top 50
theorem fw:az ["_law_cell","_law_scope_here","_law_one","_law_other","_law_number"] ["_law_cell","_law_scope_here"] (aq jo):=scM
abbrev j1:Stmt:=top 51
theorem da:az ["_law_state","_law_cell","_law_scope_here","_law_way","_law_value_here","_law_number","_law_target"] ["_law_state","_law_cell","_law_scope_here"] (aq j1):=scM
abbrev i7:Stmt:=top 52
theorem cw:az ["_law_state","_law_cell","_law_scope_here","_law_loop","_law_number","_law_left","_law_right","_law_many"] ["_law_state","_law_cell","_law_scope_here","_law_loop"] (aq i7):=scM
abbrev iL:Stmt:=top 53
theorem qp:az ["_law_state"] ["_law_state"] (aq iL):=scM
abbrev mK:Stmt:=top 54
theorem gv:az ["_law_state","_law_cell","_law_scope_here","_law_way","_law_name","_law_many","_law_cost"] ["_law_state","_law_cell","_law_scope_here"] (aq mK):=scM
abbrev kQ:Stmt:=top 55
theorem jZ:az ["_law_state","_law_cells","_law_scope_here","_law_room","_law_found","_law_cell"] ["_law_state","_law_cells","_law_scope_here","_law_room"] (aq kQ):=scM
abbrev kN:Stmt:=top 56
theorem bp:az ["_law_script","_law_names_here","_law_cell","_law_state","_law_rows","_law_at","_law_k","_law_start","_law_name","_law_parts","_law_many","_law_cells"] ["_law_script","_law_names_here"] (aq kN):=scM
abbrev fI:Stmt:=top 57
theorem nN:az ["_law_row_here","_law_number"] ["_law_row_here","_law_number"] (aq fI):=scM
abbrev eX:Stmt:=top 58
theorem aP:az ["_law_flat_here","_law_at","_law_found","_law_row_here","_law_number","_law_first","_law_other","_law_body_here"] ["_law_flat_here","_law_at"] (aq eX):=scM
abbrev gZ:Stmt:=top 59
theorem aX:az ["_law_flat_here","_law_heads_here","_law_deeds","_law_at","_law_number","_law_body_here","_law_end","_law_main"] ["_law_flat_here"] (aq gZ):=scM
abbrev kM:Stmt:=top 60
theorem cX:az ["_law_flat_here","_law_found","_law_stack","_law_at","_law_row_here"] ["_law_flat_here"] (aq kM):=scM
abbrev kH:Stmt:=top 61
theorem uP:az ["_law_some","_law_other","_law_kind"] ["_law_some","_law_other","_law_kind"] (aq kH):=scM
abbrev fP:Stmt:=top 62
theorem nD:az ["_law_value_here"] ["_law_value_here"] (aq fP):=scM
abbrev iM:Stmt:=top 63
theorem dN:az ["_law_row_here","_law_here","_law_place","_law_loop","_law_parts","_law_found","_law_k"] ["_law_row_here","_law_here","_law_place","_law_loop","_law_parts"] (aq iM):=scM
abbrev mP:Stmt:=top 64
theorem bI:az ["_law_flat_here","_law_lain_here","_law_parts","_law_found","_law_loops","_law_at","_law_row_here","_law_here","_law_loop","_law_one","_law_other","_law_kind"] ["_law_flat_here"] (aq mP):=scM
abbrev js:Stmt:=top 65
theorem fo:az ["_law_program_here","_law_due_here","_law_found","_law_met","_law_link"] ["_law_program_here","_law_due_here"] (aq js):=scM
abbrev pK:Stmt:=top 66
theorem oR:az ["_law_script","_law_names_here","_law_flat_here","_law_program_here","_law_due_here"] ["_law_script"] (aq pK):=scM
abbrev dM:Stmt:=inClass (top 5) 0
theorem ue:az ["self","number"] ["self","number"] (aq dM):=scM
abbrev gA:Stmt:=inClass (top 6) 0
theorem nB:az ["self","number","name","rank"] ["self","number","name","rank"] (aq gA):=scM
abbrev eW:Stmt:=inClass (top 7) 0
theorem mz:az ["self","number","name","rank","size"] ["self","number","name","rank","size"] (aq eW):=scM
abbrev gS:Stmt:=inClass (top 8) 0
theorem o5:az ["self","number","name","size"] ["self","number","name","size"] (aq gS):=scM
abbrev gU:Stmt:=inClass (top 9) 0
theorem pJ:az ["self","number","name","rank"] ["self","number","name","rank"] (aq gU):=scM
abbrev gO:Stmt:=inClass (top 10) 0
theorem pQ:az ["self","number","name","value"] ["self","number","name","value"] (aq gO):=scM
abbrev fN:Stmt:=inClass (top 10) 2
theorem nH:az ["self"] ["self"] (aq fN):=scM
abbrev gN:Stmt:=inClass (top 11) 0
theorem o9:az ["self","number","name","place","value"] ["self","number","name","place","value"] (aq gN):=scM
abbrev fT:Stmt:=inClass (top 11) 2
theorem nU:az ["self"] ["self"] (aq fT):=scM
abbrev gj:Stmt:=inClass (top 12) 0
theorem nG:az ["self","number","name","value"] ["self","number","name","value"] (aq gj):=scM
abbrev fb:Stmt:=inClass (top 12) 2
theorem lY:az ["self"] ["self"] (aq fb):=scM
abbrev ib:Stmt:=inClass (top 13) 0
theorem pG:az ["self","number","name","value","mark"] ["self","number","name","value","mark"] (aq ib):=scM
abbrev gx:Stmt:=inClass (top 14) 0
theorem nT:az ["self","number","name","things"] ["self","number","name","things"] (aq gx):=scM
abbrev i5:Stmt:=inClass (top 16) 0
theorem qk:az ["self","number","value","first","other","left","right"] ["self","number","value","first","other","left","right"] (aq i5):=scM
abbrev gY:Stmt:=inClass (top 16) 2
theorem pV:az ["self"] ["self"] (aq gY):=scM
abbrev gg:Stmt:=inClass (top 17) 0
theorem nO:az ["self","number","thing","most","body","left","right"] ["self","number","thing","most","body","left","right"] (aq gg):=scM
abbrev eA:Stmt:=inClass (top 17) 2
theorem l8:az ["self"] ["self"] (aq eA):=scM
abbrev fW:Stmt:=inClass (top 18) 0
theorem nC:az ["self","number","name","parts","body"] ["self","number","name","parts","body"] (aq fW):=scM
abbrev gc:Stmt:=inClass (top 19) 0
theorem nJ:az ["self","heads","deeds","main"] ["self","heads","deeds","main"] (aq gc):=scM
structure Adr where
 Row:Addr
 bK:Addr
 bj:Addr
 cA:Addr
 cz:Addr
 b9:Addr
 bM:Addr
 bC:Addr
 bY:Addr
 bL:Addr
 cE:Addr
 b5:Addr
 aY:Addr
 bx:Addr
 Program:Addr
structure Txt (K:W.Frag) (mg:Str->Option Value) (A:Adr):Prop where
 oW:aW K mg "names_in" kO ["value"]
 mV:aW K mg "each_once" jw ["names"]
 eg:aW K mg "exact_of" kU ["rows","known"]
 fz:aW K mg "exact_of_row" gw ["row","known"]
 p5:aW K mg "one_more" kT ["steps"]
 gJ:aW K mg "exact_of_if" gW ["row","known"]
 dU:aW K mg "exact_of_loop" eN ["row","known"]
 balanced:aW K mg "balanced" oV ["row","known"]
 vN:aW K mg "exacts" oT ["program"]
 lV:aW K mg "row_place" jF ["number"]
 fF:aW K mg "laid_rows" j2 ["rows","place","loop"]
 gG:aW K mg "laid_inside" ig ["row","loop"]
 iZ:aW K mg "laid_program" fJ ["program"]
 drawn:aW K mg "drawn" sI ["froms","into","kind","number"]
 lT:aW K mg "row_links" jD ["row","place","loop","parts_of"]
 kX:aW K mg "said_links" i6 ["row","place"]
 iP:aW K mg "called_links" fU ["row","place","parts"]
 kW:aW K mg "step_links" iR ["row","known"]
 links:mT K mg "links" rQ ["program","steps"] [.bl false]
 jT:aW K mg "_law_cell_at" gR ["_law_script","_law_k"]
 ph:aW K mg "_law_more" kS ["_law_script","_law_at","_law_many"]
 rK:aW K mg "_law_mix" lR ["_law_cell","_law_k"]
 l9:aW K mg "_law_names" jX ["_law_cell","_law_other","_law_many"]
 pB:aW K mg "_law_pick" kC ["_law_some","_law_number"]
 mM:aW K mg "_law_heads" jL ["_law_names_here","_law_cell"]
 mQ:aW K mg "_law_scope" jt ["_law_names_here","_law_parts"]
 lW:aW K mg "_law_thing" j4 ["_law_number","_law_scope_here"]
 mJ:aW K mg "_law_value" jo ["_law_cell","_law_scope_here"]
 mw:aW K mg "_law_plain" j1 ["_law_state","_law_cell","_law_scope_here"]
 kI:aW K mg "_law_opened" i7 ["_law_state","_law_cell","_law_scope_here","_law_loop"]
 kD:aW K mg "_law_closed" iL ["_law_state"]
 rq:aW K mg "_law_row" mK ["_law_state","_law_cell","_law_scope_here"]
 pF:aW K mg "_law_body" kQ ["_law_state","_law_cells","_law_scope_here","_law_room"]
 oO:aW K mg "_law_flat" kN ["_law_script","_law_names_here"]
 iQ:aW K mg "_law_row_made" fI ["_law_row_here","_law_number"]
 cu:aW K mg "_law_rows_made" eX ["_law_flat_here","_law_at"]
 jx:aW K mg "_law_program" gZ ["_law_flat_here"]
 pU:aW K mg "_law_lain" kM ["_law_flat_here"]
 o7:aW K mg "_law_told" kH ["_law_some","_law_other","_law_kind"]
 iO:aW K mg "_law_in_value" fP ["_law_value_here"]
 kK:aW K mg "_law_of_row" iM ["_law_row_here","_law_here","_law_place","_law_loop","_law_parts"]
 sr:aW K mg "_law_due" mP ["_law_flat_here"]
 mB:aW K mg "_law_links" js ["_law_program_here","_law_due_here"]
 su:mg "bool"=none
 sW:mg "dict"=none
 wM:mg "int"=none
 aG:mg "isinstance"=none
 fV:mg "len"=none
 cS:mg "list"=none
 cC:mg "range"=none
 ni:mg "str"=none
 ow:mg "tuple"=none
 xq:mg "zip"=none
 iG:df K mg A.Row "Row" [A.Row]
 oU:MFn K A.Row "__init__" "Row.__init__" dM ["self","number"]
 iF:df K mg A.bK "HandRow" [A.bK,A.Row]
 gB:MFn K A.bK "__init__" "HandRow.__init__" gA ["self","number","name","rank"]
 jB:aF K A.bK "name"
 jG:aF K A.bK "rank"
 dJ:aF K A.bK "number"
 fL:df K mg A.bj "GivenRow" [A.bj,A.Row]
 eE:MFn K A.bj "__init__" "GivenRow.__init__" eW ["self","number","name","rank","size"]
 ja:aF K A.bj "name"
 i9:aF K A.bj "rank"
 jb:aF K A.bj "size"
 dj:aF K A.bj "number"
 jP:df K mg A.cA "OwnRow" [A.cA,A.Row]
 ia:MFn K A.cA "__init__" "OwnRow.__init__" gS ["self","number","name","size"]
 ku:aF K A.cA "name"
 kB:aF K A.cA "size"
 eO:aF K A.cA "number"
 jm:df K mg A.cz "LetRow" [A.cz,A.Row]
 ij:MFn K A.cz "__init__" "LetRow.__init__" gU ["self","number","name","rank"]
 kA:aF K A.cz "name"
 kj:aF K A.cz "rank"
 eB:aF K A.cz "number"
 di:df K mg A.b9 "SetRow" [A.b9,A.Row]
 hW:MFn K A.b9 "__init__" "SetRow.__init__" gO ["self","number","name","value"]
 fG:MFn K A.b9 "reads" "SetRow.reads" fN ["self"]
 gQ:aF K A.b9 "name"
 fO:aF K A.b9 "value"
 eJ:aF K A.b9 "number"
 cM:df K mg A.bM "PutRow" [A.bM,A.Row]
 hV:MFn K A.bM "__init__" "PutRow.__init__" gN ["self","number","name","place","value"]
 gb:MFn K A.bM "reads" "PutRow.reads" fT ["self"]
 h9:aF K A.bM "name"
 gh:aF K A.bM "place"
 gr:aF K A.bM "value"
 eP:aF K A.bM "number"
 cW:df K mg A.bC "SendRow" [A.bC,A.Row]
 fH:MFn K A.bC "__init__" "SendRow.__init__" gj ["self","number","name","value"]
 eU:MFn K A.bC "reads" "SendRow.reads" fb ["self"]
 jC:aF K A.bC "name"
 eG:aF K A.bC "value"
 dH:aF K A.bC "number"
 bZ:df K mg A.bY "SayRow" [A.bY,A.Row]
 gM:MFn K A.bY "__init__" "SayRow.__init__" ib ["self","number","name","value","mark"]
 dW:aF K A.bY "name"
 jY:aF K A.bY "value"
 gL:aF K A.bY "mark"
 bF:aF K A.bY "number"
 bO:df K mg A.bL "CallRow" [A.bL,A.Row]
 f9:MFn K A.bL "__init__" "CallRow.__init__" gx ["self","number","name","things"]
 cH:aF K A.bL "name"
 dE:aF K A.bL "things"
 b6:aF K A.bL "number"
 fE:df K mg A.cE "LastRow" [A.cE,A.Row]
 jN:MFn K A.cE "__init__" "Row.__init__" dM ["self","number"]
 dB:aF K A.cE "number"
 bQ:df K mg A.b5 "IfRow" [A.b5,A.Row]
 iU:MFn K A.b5 "__init__" "IfRow.__init__" i5 ["self","number","value","first","other","left","right"]
 hX:MFn K A.b5 "reads" "IfRow.reads" gY ["self"]
 hJ:aF K A.b5 "value"
 dP:aF K A.b5 "first"
 dS:aF K A.b5 "other"
 ft:aF K A.b5 "left"
 gT:aF K A.b5 "right"
 fQ:aF K A.b5 "number"
 bu:df K mg A.aY "LoopRow" [A.aY,A.Row]
 gD:MFn K A.aY "__init__" "LoopRow.__init__" gg ["self","number","thing","most","body","left","right"]
 eZ:MFn K A.aY "reads" "LoopRow.reads" eA ["self"]
 eV:aF K A.aY "thing"
 fY:aF K A.aY "most"
 dq:aF K A.aY "body"
 fK:aF K A.aY "left"
 cP:aF K A.aY "right"
 dG:aF K A.aY "number"
 b8:df K mg A.bx "DeedRow" [A.bx,A.Row]
 fX:MFn K A.bx "__init__" "DeedRow.__init__" fW ["self","number","name","parts","body"]
 cI:aF K A.bx "name"
 eT:aF K A.bx "parts"
 dm:aF K A.bx "body"
 dD:aF K A.bx "number"
 dI:df K mg A.Program "Program" [A.Program]
 fZ:MFn K A.Program "__init__" "Program.__init__" gc ["self","heads","deeds","main"]
 jd:aF K A.Program "heads"
 cm:aF K A.Program "deeds"
 gz:aF K A.Program "main"
 bg:OfC K A.Row "__init__"
 nd:[A.Row,A.bK,A.bj,A.cA,A.cz,A.b9,A.bM,A.bC,A.bY,A.bL,A.cE,A.b5,A.aY,A.bx,A.Program].Nodup
section
variable {P:Program}{w:World}{K:W.Frag}{mg:Str->Option Value}{base:Heap}{A:Adr}
theorem alc {H:Hp}{p:Addr} (h:H p=none) (o:HO):ai H (upd H p o)/\upd H p o p=some o:=⟨ai.upd h o,ao⟩
theorem Dk:W.kitOne K (.type "int") (.type "int")=some true:=by kernel_rfl!
theorem CG:W.kitOne K (.type "int") (.type "bool")=some false:=by kernel_rfl!
theorem Ec:W.kitOne K (.type "tuple") (.type "tuple")=some true:=by kernel_rfl!
theorem Dj:W.kitOne K (.type "list") (.type "list")=some true:=by kernel_rfl!
theorem sz {n:Nat} (h:n <= 1000):n <= sizeLine:=Nat.le_of_lt (aH h)
theorem bG (x:Int) {m:Int} (hm:0 < m):0 <= x % m/\x % m < m:=⟨Int.emod_nonneg x (show m ≠ 0 by omega),Int.emod_lt_of_pos x hm⟩
theorem A7 {α:Type}{xs:List α}{k:Int} (h0:0 <= k) (h1:k < (xs.length:Int)):∃x,xs[k.toNat]?=some x/\atI xs k=some x:=by
 have hk:k.toNat < xs.length:=by omega
 have e:=ka (xs:=xs) (j:=k.toNat) (List.getElem?_eq_getElem hk)
 rw [show ((k.toNat:Nat):Int)=k by omega] at e
 exact ⟨_,List.getElem?_eq_getElem hk,e⟩
theorem A6 (i j:Int):decide (V.int i=V.int j)=decide (i=j):=decide_eq_decide.mpr ⟨fun h=>V.int.inj h,fun h=>by rw [h]⟩
theorem D3 (i j:Str):decide (V.str i=V.str j)=decide (i=j):=decide_eq_decide.mpr ⟨fun h=>V.str.inj h,fun h=>by rw [h]⟩
theorem nc {α:Type} (xs:List α):xs.filter (fun _=>true)=xs:=List.filter_eq_self.mpr fun _ _=>rfl
theorem x6 {a b:Int} (h0:-(2 ^ 64) < a) (h1:a < 2 ^ 64):xX a b:=Or.inl ⟨h0,h1⟩
end
section
variable {P:Program}{w:World}{K:W.Frag}{mg:Str->Option Value}{base:Heap}{A:Adr}
theorem ai.out {H0 H:Hp} (s:ai H0 H) {x:Addr} (h:H0 x=none) (u:HO):ai H0 (upd H x u):=fun a o q=>by
 rw [aQ (fun z=>by rw [z,h] at q;cases q)]
 exact s a o q
theorem ar {H:Hp}{x a:Addr}{u o:HO} (n:a ≠ x) (e:H a=some o):upd H x u a=some o:=by rw [aQ n];exact e
theorem fresh_ne {H:Hp}{x y:Addr}{o:HO} (h:H x=none) (e:H y=some o):x ≠ y:=fun z=>by rw [z,e] at h;cases h
def Ks (H0:Hp) (x:Addr) (H:Hp):List (Addr × HO)->Prop
 | []=>True
 | p :: ks=>(H p.1=some p.2/\p.1 ≠ x/\H0 p.1=none)/\Ks H0 x H ks
theorem Ks.imp {H0 H H':Hp}{x:Addr} (f:∀a o,a ≠ x->H a=some o->H' a=some o):∀{ks:List (Addr × HO)},Ks H0 x H ks->Ks H0 x H' ks
 | [],_=>trivial
 | _ :: _,⟨⟨h1,h2,h3⟩,t⟩=>⟨⟨f _ _ h2 h1,h2,h3⟩,Ks.imp f t⟩
structure IA (K:W.Frag) (H0:Hp) (x C dx:Addr) (fs:List (Str × V)) (m:Nat) (ks:List (Addr × HO)) (H:Hp):Prop where
 s:ai H0 H
 i:H x=some (.ins C dx fs)
 k:Ks H0 x H ks
 x:H0 x=none
 c:Cls K C
 l:fs.length <= m
theorem IA.one {H:Hp}{x C dx:Addr} (hx:H x=none) (hd:H dx=none) (c:Cls K C):IA K H x C dx [] 0 [] (upd (upd H dx (.own x)) x (.ins C dx [])):=⟨ai.out (ai.upd hd _) hx _,ao,trivial,hx,c,Nat.le_refl _⟩
section
variable {H0 H:Hp}{x C dx:Addr}{fs:List (Str × V)}{m:Nat}{ks:List (Addr × HO)}
theorem xj (f:Str) (v:V):∀fs:List (Str × V),(fS f v fs).length <= fs.length + 1
 | []=>Nat.le_refl _
 | (g,x) :: r=>by
  unfold fS
  split
  ·exact Nat.le_succ _
  ·exact Nat.succ_le_succ (xj f v r)
theorem IA.put (a:IA K H0 x C dx fs m ks H) (f:Str) (v:V):IA K H0 x C dx (fS f v fs) (m + 1) ks (upd H x (.ins C dx (fS f v fs))):=⟨ai.out a.s a.x _,ao,a.k.imp fun _ _ h e=>ar h e,a.x,a.c,Nat.le_trans (xj f v fs) (Nat.succ_le_succ a.l)⟩
theorem IA.fld {f:Str}{v:V}{Q:Hp->Prop} (a:IA K H0 x C dx fs m ks H) (n:aF K C f) (k:∀H',IA K H0 x C dx (fS f v fs) (m + 1) ks H'->Q H') (l:m < 1000:=by decide):CA K f v (.ref x) H Q:=⟨x,C,dx,fs,rfl,a.i,a.c,n,Nat.lt_of_le_of_lt a.l l,k _ (a.put _ _)⟩
theorem IA.nw {n:Addr} (a:IA K H0 x C dx fs m ks H) (hn:H n=none) (o:HO):IA K H0 x C dx fs m ((n,o) :: ks) (upd H n o) :=
 have e:n ≠ x:=fun z=>by rw [z,a.i] at hn;cases hn
 ⟨a.s.trans (ai.upd hn _),ar e.symm a.i,⟨⟨ao,e,ai.free a.s hn⟩,a.k.imp fun _ _ _ h=>ai.upd hn _ _ _ h⟩,a.x,a.c,a.l⟩
end
inductive eu (K:W.Frag) (A:Adr) (vs:List V) (H:Hp) (Q:VK) (E9:XK):Prop
 | mk (x C dx:Addr) (fs:List (Str × V)) (n:V) (z0:vs=[.ref x,n]) (z1:H x=some (.ins C dx fs)) (z2:Cls K C) (z3:aF K C "number") (z4:fs.length < 1000) (z5:Q .non (upd H x (.ins C dx (fS "number" n fs)))):eu K A vs H Q E9
theorem km {C:Addr} (F:MFn K C "__init__" "Row.__init__" dM ["self","number"]):tu P w K mg base 2 C "__init__" ["self","number"] (eu K A):=by
 refine F.hs (k:=1) ue (fun f cdv A' outer s H vs Q E hr hu h=>?_)
 obtain ⟨x,C,dx,fs,n,rfl,hx,c,na,hl,q⟩:=h
 exact ⟨_,(ah (aS (fv 0) (fv 1) rfl)),⟨x,C,dx,fs,rfl,hx,c,na,hl,q⟩⟩
theorem bH (T:Txt K mg A):tu P w K mg base 2 A.Row "__init__" ["self","number"] (eu K A):=km T.oU
theorem IA.row {H0 H:Hp}{x C dx:Addr}{ks:List (Addr × HO)}{v:V}{Q:VK} (a:IA K H0 x C dx [] 0 ks H) (n:aF K C "number") (k:∀H',IA K H0 x C dx (fS "number" v []) 1 ks H'->Q .non H'):eu K A [.ref x,v] H Q E0:=⟨x,C,dx,[],v,rfl,a.i,a.c,n,by decide,k _ (a.put _ _)⟩
inductive jc (K:W.Frag) (A:Adr) (vs:List V) (G:Hp) (R:VK) (E9:XK):Prop
 | mk (x dx:Addr) (v0 v1 v2:V) (H:Hp) (z0:vs=[.ref x,v0,v1,v2]) (z1:G=upd (upd H dx (.own x)) x (.ins A.bK dx [])) (z2:H x=none) (z3:H dx=none) (z4:∀(H':Hp),ai H H'->H' x=some (.ins A.bK dx [("number",v0),("name",v1),("rank",v2)])->R .non H'):jc K A vs G R E9
theorem pd (T:Txt K mg A):T.gB.Hz P w mg base 3 (jc K A):=by
 refine T.gB.hs (k:=2) nB (fun f cdv A' outer s G vs R E hr hu h=>?_)
 obtain ⟨x,dx,v0,v1,v2,H,rfl,rfl,hx,hd,q⟩:=h
 refine ⟨_,(ae (aE (bN T.iG T.bg (bH T) hr (aa (fv 0) (aa (fv 1) ab))))
 (ae (aS (fv 0) (fv 2) rfl)
 (ah (aS (fv 0) (fv 3) rfl)))),?_⟩
 exact (IA.one (C:=A.bK) hx hd T.iF.cl).row T.dJ fun H a=>a.fld T.jB fun H a=>a.fld T.jG fun H a=>q _ a.s a.i
inductive ik (K:W.Frag) (A:Adr) (vs:List V) (G:Hp) (R:VK) (E9:XK):Prop
 | mk (x dx:Addr) (v0 v1 v2 v3:V) (H:Hp) (z0:vs=[.ref x,v0,v1,v2,v3]) (z1:G=upd (upd H dx (.own x)) x (.ins A.bj dx [])) (z2:H x=none) (z3:H dx=none) (z4:∀(H':Hp),ai H H'->H' x=some (.ins A.bj dx [("number",v0),("name",v1),("rank",v2),("size",v3)])->R .non H'):ik K A vs G R E9
theorem nZ (T:Txt K mg A):T.eE.Hz P w mg base 3 (ik K A):=by
 refine T.eE.hs (k:=2) mz (fun f cdv A' outer s G vs R E hr hu h=>?_)
 obtain ⟨x,dx,v0,v1,v2,v3,H,rfl,rfl,hx,hd,q⟩:=h
 refine ⟨_,(ae (aE (bN T.iG T.bg (bH T) hr (aa (fv 0) (aa (fv 1) ab))))
 (ae (aS (fv 0) (fv 2) rfl)
 (ae (aS (fv 0) (fv 3) rfl)
 (ah (aS (fv 0) (fv 4) rfl))))),?_⟩
 exact (IA.one (C:=A.bj) hx hd T.fL.cl).row T.dj fun H a=>a.fld T.ja fun H a=>a.fld T.i9 fun H a=>a.fld T.jb fun H a=>q _ a.s a.i
inductive jW (K:W.Frag) (A:Adr) (vs:List V) (G:Hp) (R:VK) (E9:XK):Prop
 | mk (x dx:Addr) (v0 v1 v2:V) (H:Hp) (z0:vs=[.ref x,v0,v1,v2]) (z1:G=upd (upd H dx (.own x)) x (.ins A.cA dx [])) (z2:H x=none) (z3:H dx=none) (z4:∀(H':Hp),ai H H'->H' x=some (.ins A.cA dx [("number",v0),("name",v1),("size",v2)])->R .non H'):jW K A vs G R E9
theorem p8 (T:Txt K mg A):T.ia.Hz P w mg base 3 (jW K A):=by
 refine T.ia.hs (k:=2) o5 (fun f cdv A' outer s G vs R E hr hu h=>?_)
 obtain ⟨x,dx,v0,v1,v2,H,rfl,rfl,hx,hd,q⟩:=h
 refine ⟨_,(ae (aE (bN T.iG T.bg (bH T) hr (aa (fv 0) (aa (fv 1) ab))))
 (ae (aS (fv 0) (fv 2) rfl)
 (ah (aS (fv 0) (fv 3) rfl)))),?_⟩
 exact (IA.one (C:=A.cA) hx hd T.jP.cl).row T.eO fun H a=>a.fld T.ku fun H a=>a.fld T.kB fun H a=>q _ a.s a.i
inductive jI (K:W.Frag) (A:Adr) (vs:List V) (G:Hp) (R:VK) (E9:XK):Prop
 | mk (x dx:Addr) (v0 v1 v2:V) (H:Hp) (z0:vs=[.ref x,v0,v1,v2]) (z1:G=upd (upd H dx (.own x)) x (.ins A.cz dx [])) (z2:H x=none) (z3:H dx=none) (z4:∀(H':Hp),ai H H'->H' x=some (.ins A.cz dx [("number",v0),("name",v1),("rank",v2)])->R .non H'):jI K A vs G R E9
theorem qi (T:Txt K mg A):T.ij.Hz P w mg base 3 (jI K A):=by
 refine T.ij.hs (k:=2) pJ (fun f cdv A' outer s G vs R E hr hu h=>?_)
 obtain ⟨x,dx,v0,v1,v2,H,rfl,rfl,hx,hd,q⟩:=h
 refine ⟨_,(ae (aE (bN T.iG T.bg (bH T) hr (aa (fv 0) (aa (fv 1) ab))))
 (ae (aS (fv 0) (fv 2) rfl)
 (ah (aS (fv 0) (fv 3) rfl)))),?_⟩
 exact (IA.one (C:=A.cz) hx hd T.jm.cl).row T.eB fun H a=>a.fld T.kA fun H a=>a.fld T.kj fun H a=>q _ a.s a.i
inductive jH (K:W.Frag) (A:Adr) (vs:List V) (G:Hp) (R:VK) (E9:XK):Prop
 | mk (x dx:Addr) (v0 v1 v2:V) (H:Hp) (z0:vs=[.ref x,v0,v1,v2]) (z1:G=upd (upd H dx (.own x)) x (.ins A.b9 dx [])) (z2:H x=none) (z3:H dx=none) (z4:∀(H':Hp),ai H H'->H' x=some (.ins A.b9 dx [("number",v0),("name",v1),("value",v2)])->R .non H'):jH K A vs G R E9
theorem p9 (T:Txt K mg A):T.hW.Hz P w mg base 3 (jH K A):=by
 refine T.hW.hs (k:=2) pQ (fun f cdv A' outer s G vs R E hr hu h=>?_)
 obtain ⟨x,dx,v0,v1,v2,H,rfl,rfl,hx,hd,q⟩:=h
 refine ⟨_,(ae (aE (bN T.iG T.bg (bH T) hr (aa (fv 0) (aa (fv 1) ab))))
 (ae (aS (fv 0) (fv 2) rfl)
 (ah (aS (fv 0) (fv 3) rfl)))),?_⟩
 exact (IA.one (C:=A.b9) hx hd T.di.cl).row T.eJ fun H a=>a.fld T.gQ fun H a=>a.fld T.fO fun H a=>q _ a.s a.i
inductive jS (K:W.Frag) (A:Adr) (vs:List V) (G:Hp) (R:VK) (E9:XK):Prop
 | mk (x dx:Addr) (v0 v1 v2 v3:V) (H:Hp) (z0:vs=[.ref x,v0,v1,v2,v3]) (z1:G=upd (upd H dx (.own x)) x (.ins A.bM dx [])) (z2:H x=none) (z3:H dx=none) (z4:∀(H':Hp),ai H H'->H' x=some (.ins A.bM dx [("number",v0),("name",v1),("place",v2),("value",v3)])->R .non H'):jS K A vs G R E9
theorem qu (T:Txt K mg A):T.hV.Hz P w mg base 3 (jS K A):=by
 refine T.hV.hs (k:=2) o9 (fun f cdv A' outer s G vs R E hr hu h=>?_)
 obtain ⟨x,dx,v0,v1,v2,v3,H,rfl,rfl,hx,hd,q⟩:=h
 refine ⟨_,(ae (aE (bN T.iG T.bg (bH T) hr (aa (fv 0) (aa (fv 1) ab))))
 (ae (aS (fv 0) (fv 2) rfl)
 (ae (aS (fv 0) (fv 3) rfl)
 (ah (aS (fv 0) (fv 4) rfl))))),?_⟩
 exact (IA.one (C:=A.bM) hx hd T.cM.cl).row T.eP fun H a=>a.fld T.h9 fun H a=>a.fld T.gh fun H a=>a.fld T.gr fun H a=>q _ a.s a.i
inductive jg (K:W.Frag) (A:Adr) (vs:List V) (G:Hp) (R:VK) (E9:XK):Prop
 | mk (x dx:Addr) (v0 v1 v2:V) (H:Hp) (z0:vs=[.ref x,v0,v1,v2]) (z1:G=upd (upd H dx (.own x)) x (.ins A.bC dx [])) (z2:H x=none) (z3:H dx=none) (z4:∀(H':Hp),ai H H'->H' x=some (.ins A.bC dx [("number",v0),("name",v1),("value",v2)])->R .non H'):jg K A vs G R E9
theorem pq (T:Txt K mg A):T.fH.Hz P w mg base 3 (jg K A):=by
 refine T.fH.hs (k:=2) nG (fun f cdv A' outer s G vs R E hr hu h=>?_)
 obtain ⟨x,dx,v0,v1,v2,H,rfl,rfl,hx,hd,q⟩:=h
 refine ⟨_,(ae (aE (bN T.iG T.bg (bH T) hr (aa (fv 0) (aa (fv 1) ab))))
 (ae (aS (fv 0) (fv 2) rfl)
 (ah (aS (fv 0) (fv 3) rfl)))),?_⟩
 exact (IA.one (C:=A.bC) hx hd T.cW.cl).row T.dH fun H a=>a.fld T.jC fun H a=>a.fld T.eG fun H a=>q _ a.s a.i
inductive jk (K:W.Frag) (A:Adr) (vs:List V) (G:Hp) (R:VK) (E9:XK):Prop
 | mk (x dx:Addr) (v0 v1 v2 v3:V) (H:Hp) (z0:vs=[.ref x,v0,v1,v2,v3]) (z1:G=upd (upd H dx (.own x)) x (.ins A.bY dx [])) (z2:H x=none) (z3:H dx=none) (z4:∀(H':Hp),ai H H'->H' x=some (.ins A.bY dx [("number",v0),("name",v1),("value",v2),("mark",v3)])->R .non H'):jk K A vs G R E9
theorem p7 (T:Txt K mg A):T.gM.Hz P w mg base 3 (jk K A):=by
 refine T.gM.hs (k:=2) pG (fun f cdv A' outer s G vs R E hr hu h=>?_)
 obtain ⟨x,dx,v0,v1,v2,v3,H,rfl,rfl,hx,hd,q⟩:=h
 refine ⟨_,(ae (aE (bN T.iG T.bg (bH T) hr (aa (fv 0) (aa (fv 1) ab))))
 (ae (aS (fv 0) (fv 2) rfl)
 (ae (aS (fv 0) (fv 3) rfl)
 (ah (aS (fv 0) (fv 4) rfl))))),?_⟩
 exact (IA.one (C:=A.bY) hx hd T.bZ.cl).row T.bF fun H a=>a.fld T.dW fun H a=>a.fld T.jY fun H a=>a.fld T.gL fun H a=>q _ a.s a.i
inductive jf (K:W.Frag) (A:Adr) (vs:List V) (G:Hp) (R:VK) (E9:XK):Prop
 | mk (x dx:Addr) (v0 v1:V) (t0:Addr) (l0:List V) (H:Hp) (z0:vs=[.ref x,v0,v1,.ref t0]) (z1:G=upd (upd H dx (.own x)) x (.ins A.bL dx [])) (z2:H x=none) (z3:H dx=none) (z4:SqL K H t0 l0) (z5:∀(n0:Addr) (H':Hp),H n0=none->ai H H'->H' n0=some (.lst l0)->H' x=some (.ins A.bL dx [("number",v0),("name",v1),("things",.ref n0)])->R .non H'):jf K A vs G R E9
theorem o8 (T:Txt K mg A):T.f9.Hz P w mg base 3 (jf K A):=by
 refine T.f9.hs (k:=2) nT (fun f cdv A' outer s G vs R E hr hu h=>?_)
 obtain ⟨x,dx,v0,v1,t0,l0,H,rfl,rfl,hx,hd,s0,q⟩:=h
 refine ⟨_,(ae (aE (bN T.iG T.bg (bH T) hr (aa (fv 0) (aa (fv 1) ab))))
 (ae (aS (fv 0) (fv 2) rfl)
 (ah (aS (fv 0) (pcT hE T.cS (aa (fv 3) ab)) rfl)))),?_⟩
 refine (IA.one (C:=A.bL) hx hd T.bO.cl).row T.b6 fun H a=>a.fld T.cH fun H a=>⟨_,l0,rfl,.inl (a.s.seq s0),fun n0 f=>?_⟩
 replace a:=a.nw f (.lst l0)
 exact a.fld T.dE fun H a=>q n0 _ a.k.1.2.2 a.s a.k.1.1 a.i
inductive kz (K:W.Frag) (A:Adr) (vs:List V) (G:Hp) (R:VK) (E9:XK):Prop
 | mk (x dx:Addr) (v0 v1 v2 v3:V) (t0 t1:Addr) (l0 l1:List V) (H:Hp) (z0:vs=[.ref x,v0,v1,.ref t0,.ref t1,v2,v3]) (z1:G=upd (upd H dx (.own x)) x (.ins A.b5 dx [])) (z2:H x=none) (z3:H dx=none) (z4:SqL K H t0 l0) (z5:SqL K H t1 l1) (z6:∀(n0 n1:Addr) (H':Hp),H n0=none->H n1=none->ai H H'->H' n0=some (.lst l0)->H' n1=some (.lst l1)->H' x=some (.ins A.b5 dx [("number",v0),("value",v1),("first",.ref n0),("other",.ref n1),("left",v2),("right",v3)])->R .non H'):kz K A vs G R E9
theorem sU (T:Txt K mg A):T.iU.Hz P w mg base 3 (kz K A):=by
 refine T.iU.hs (k:=2) qk (fun f cdv A' outer s G vs R E hr hu h=>?_)
 obtain ⟨x,dx,v0,v1,v2,v3,t0,t1,l0,l1,H,rfl,rfl,hx,hd,s0,s1,q⟩:=h
 refine ⟨_,(ae (aE (bN T.iG T.bg (bH T) hr (aa (fv 0) (aa (fv 1) ab))))
 (ae (aS (fv 0) (fv 2) rfl)
 (ae (aS (fv 0) (pcT hE T.cS (aa (fv 3) ab)) rfl)
 (ae (aS (fv 0) (pcT hE T.cS (aa (fv 4) ab)) rfl)
 (ae (aS (fv 0) (fv 5) rfl)
 (ah (aS (fv 0) (fv 6) rfl))))))),?_⟩
 refine (IA.one (C:=A.b5) hx hd T.bQ.cl).row T.fQ fun H a=>a.fld T.hJ fun H a=>⟨_,l0,rfl,.inl (a.s.seq s0),fun n0 f=>?_⟩
 replace a:=a.nw f (.lst l0)
 refine a.fld T.dP fun H a=>⟨_,l1,rfl,.inl (a.s.seq s1),fun n1 f=>?_⟩
 replace a:=a.nw f (.lst l1)
 exact a.fld T.dS fun H a=>a.fld T.ft fun H a=>a.fld T.gT fun H a=>q n0 n1 _ a.k.2.1.2.2 a.k.1.2.2 a.s a.k.2.1.1 a.k.1.1 a.i
inductive i8 (K:W.Frag) (A:Adr) (vs:List V) (G:Hp) (R:VK) (E9:XK):Prop
 | mk (x dx:Addr) (v0 v1 v2 v3 v4:V) (t0:Addr) (l0:List V) (H:Hp) (z0:vs=[.ref x,v0,v1,v2,.ref t0,v3,v4]) (z1:G=upd (upd H dx (.own x)) x (.ins A.aY dx [])) (z2:H x=none) (z3:H dx=none) (z4:SqL K H t0 l0) (z5:∀(n0:Addr) (H':Hp),H n0=none->ai H H'->H' n0=some (.lst l0)->H' x=some (.ins A.aY dx [("number",v0),("thing",v1),("most",v2),("body",.ref n0),("left",v3),("right",v4)])->R .non H'):i8 K A vs G R E9
theorem oP (T:Txt K mg A):T.gD.Hz P w mg base 3 (i8 K A):=by
 refine T.gD.hs (k:=2) nO (fun f cdv A' outer s G vs R E hr hu h=>?_)
 obtain ⟨x,dx,v0,v1,v2,v3,v4,t0,l0,H,rfl,rfl,hx,hd,s0,q⟩:=h
 refine ⟨_,(ae (aE (bN T.iG T.bg (bH T) hr (aa (fv 0) (aa (fv 1) ab))))
 (ae (aS (fv 0) (fv 2) rfl)
 (ae (aS (fv 0) (fv 3) rfl)
 (ae (aS (fv 0) (pcT hE T.cS (aa (fv 4) ab)) rfl)
 (ae (aS (fv 0) (fv 5) rfl)
 (ah (aS (fv 0) (fv 6) rfl))))))),?_⟩
 refine (IA.one (C:=A.aY) hx hd T.bu.cl).row T.dG fun H a=>a.fld T.eV fun H a=>a.fld T.fY fun H a=>⟨_,l0,rfl,.inl (a.s.seq s0),fun n0 f=>?_⟩
 replace a:=a.nw f (.lst l0)
 exact a.fld T.dq fun H a=>a.fld T.fK fun H a=>a.fld T.cP fun H a=>q n0 _ a.k.1.2.2 a.s a.k.1.1 a.i
inductive je (K:W.Frag) (A:Adr) (vs:List V) (G:Hp) (R:VK) (E9:XK):Prop
 | mk (x dx:Addr) (v0 v1:V) (t0 t1:Addr) (l0 l1:List V) (H:Hp) (z0:vs=[.ref x,v0,v1,.ref t0,.ref t1]) (z1:G=upd (upd H dx (.own x)) x (.ins A.bx dx [])) (z2:H x=none) (z3:H dx=none) (z4:SqL K H t0 l0) (z5:SqL K H t1 l1) (z6:∀(n0 n1:Addr) (H':Hp),H n0=none->H n1=none->ai H H'->H' n0=some (.lst l0)->H' n1=some (.lst l1)->H' x=some (.ins A.bx dx [("number",v0),("name",v1),("parts",.ref n0),("body",.ref n1)])->R .non H'):je K A vs G R E9
theorem pP (T:Txt K mg A):T.fX.Hz P w mg base 3 (je K A):=by
 refine T.fX.hs (k:=2) nC (fun f cdv A' outer s G vs R E hr hu h=>?_)
 obtain ⟨x,dx,v0,v1,t0,t1,l0,l1,H,rfl,rfl,hx,hd,s0,s1,q⟩:=h
 refine ⟨_,(ae (aE (bN T.iG T.bg (bH T) hr (aa (fv 0) (aa (fv 1) ab))))
 (ae (aS (fv 0) (fv 2) rfl)
 (ae (aS (fv 0) (pcT hE T.cS (aa (fv 3) ab)) rfl)
 (ah (aS (fv 0) (pcT hE T.cS (aa (fv 4) ab)) rfl))))),?_⟩
 refine (IA.one (C:=A.bx) hx hd T.b8.cl).row T.dD fun H a=>a.fld T.cI fun H a=>⟨_,l0,rfl,.inl (a.s.seq s0),fun n0 f=>?_⟩
 replace a:=a.nw f (.lst l0)
 refine a.fld T.eT fun H a=>⟨_,l1,rfl,.inl (a.s.seq s1),fun n1 f=>?_⟩
 replace a:=a.nw f (.lst l1)
 exact a.fld T.dm fun H a=>q n0 n1 _ a.k.2.1.2.2 a.k.1.2.2 a.s a.k.2.1.1 a.k.1.1 a.i
inductive jh (K:W.Frag) (A:Adr) (vs:List V) (G:Hp) (R:VK) (E9:XK):Prop
 | mk (x dx:Addr) (t0 t1 t2:Addr) (l0 l1 l2:List V) (H:Hp) (z0:vs=[.ref x,.ref t0,.ref t1,.ref t2]) (z1:G=upd (upd H dx (.own x)) x (.ins A.Program dx [])) (z2:H x=none) (z3:H dx=none) (z4:SqL K H t0 l0) (z5:SqL K H t1 l1) (z6:SqL K H t2 l2) (z7:∀(n0 n1 n2:Addr) (H':Hp),H n0=none->H n1=none->H n2=none->ai H H'->H' n0=some (.lst l0)->H' n1=some (.lst l1)->H' n2=some (.lst l2)->H' x=some (.ins A.Program dx [("heads",.ref n0),("deeds",.ref n1),("main",.ref n2)])->R .non H'):jh K A vs G R E9
theorem oH (T:Txt K mg A):T.fZ.Hz P w mg base 3 (jh K A):=by
 refine T.fZ.hs (k:=2) nJ (fun f cdv A' outer s G vs R E hr hu h=>?_)
 obtain ⟨x,dx,t0,t1,t2,l0,l1,l2,H,rfl,rfl,hx,hd,s0,s1,s2,q⟩:=h
 refine ⟨_,(ae (aS (fv 0) (pcT hE T.cS (aa (fv 1) ab)) rfl)
 (ae (aS (fv 0) (pcT hE T.cS (aa (fv 2) ab)) rfl)
 (ah (aS (fv 0) (pcT hE T.cS (aa (fv 3) ab)) rfl)))),?_⟩
 have a:=IA.one (C:=A.Program) hx hd T.dI.cl
 refine ⟨_,l0,rfl,.inl (a.s.seq s0),fun n0 f=>?_⟩
 replace a:=a.nw f (.lst l0)
 refine a.fld T.jd fun H a=>⟨_,l1,rfl,.inl (a.s.seq s1),fun n1 f=>?_⟩
 replace a:=a.nw f (.lst l1)
 refine a.fld T.cm fun H a=>⟨_,l2,rfl,.inl (a.s.seq s2),fun n2 f=>?_⟩
 replace a:=a.nw f (.lst l2)
 exact a.fld T.gz fun H a=>q n0 n1 n2 _ a.k.2.2.1.2.2 a.k.2.1.2.2 a.k.1.2.2 a.s a.k.2.2.1.1 a.k.2.1.1 a.k.1.1 a.i
end
section
variable {P:Program}{w:World}{K:W.Frag}{mg:Str->Option Value}{base:Heap}{A:Adr}{N:Nat->Str}
theorem ag {t u:TS}{D:Ends}{σ:St}{H:Hp} (h:∀N:St->Hp->Prop,(∀σ H,u D σ H->N σ H)->t { D with nx:=N } σ H):yd t u D σ H:=h (u D) fun _ _ z=>z
theorem iJ {α β:Type}{F:α->β->Prop}:∀{l₁:List α}{l₂:List β}{i:Nat}{a:α},Paired F l₁ l₂->l₁[i]?=some a->∃b,l₂[i]?=some b/\F a b
 | _,_,_,_,.nil,h=>by cases h
 | _,_,0,_,.cons h _,e=>by cases e;exact ⟨_,rfl,h⟩
 | _,_,i + 1,_,.cons _ r,e=>by
  have:∃b,_:=iJ (i:=i) r e
  exact this
theorem er {α β:Type}{F:α->β->Prop}:∀{l₁:List α}{l₂:List β}{i:Nat}{b:β},Paired F l₁ l₂->l₂[i]?=some b->∃a,l₁[i]?=some a/\F a b
 | _,_,_,_,.nil,h=>by cases h
 | _,_,0,_,.cons h _,e=>by cases e;exact ⟨_,rfl,h⟩
 | _,_,i + 1,_,.cons _ r,e=>by
  have:∃a,_:=er (i:=i) r e
  exact this
theorem lQ {α β:Type} (f:β->α->β) (b:β) {xs:List α}{i:Nat}{x:α} (h:xs[i]?=some x):(xs.take (i + 1)).foldl f b=f ((xs.take i).foldl f b) x:=by
 rw [List.take_add_one,h,List.foldl_append]
 rfl
abbrev cls (A:Adr):List Addr:=[A.Row,A.bK,A.bj,A.cA,A.cz,A.b9,A.bM,A.bC,A.bY,A.bL,A.cE,A.b5,A.aY,A.bx,A.Program]
theorem DH (T:Txt K mg A) (i j:Nat) (hi:i < 15:=by decide) (hj:j < 15:=by decide) (h:i ≠ j:=by decide):(cls A)[i]'hi ≠ (cls A)[j]'hj:=fun e=>h ((List.getElem_inj T.nd).mp e)
theorem FA {C:Addr}{x:Str}{up:List Addr} (O:df K mg C x up) (hs:C ∈ up:=by exact List.mem_cons_self):W.kitOne K (.ref C) (.ref C)=some true:=by
 rw [O.kit O hs,decide_eq_true hs]
theorem FG {C D R:Addr}{x y:Str}{vp:List Addr} (O:df K mg C x [C,R]) (U:df K mg D y vp) (h1:D ≠ C) (h2:D ≠ R):W.kitOne K (.ref C) (.ref D)=some false:=by
 rw [O.kit U List.mem_cons_self,decide_eq_false]
 intro m
 rcases List.mem_cons.mp m with e | m
 ·exact h1 e
 ·rcases List.mem_cons.mp m with e | m
  ·exact h2 e
  ·cases m
instance memK (k:Key) (ks:List Key):Decidable (k ∈ ks):=decidable_of_iff ((ks.any fun j=>decide (j=k))=true) (by
 rw [List.any_eq_true]
 exact ⟨fun ⟨j,m,e⟩=>of_decide_eq_true e ▸ m,fun m=>⟨k,m,decide_eq_true rfl⟩⟩)
theorem uW (kvs:List (Key × V)) (k:Key) (v:V):(putK kvs k v).length <= kvs.length + 1:=by
 unfold putK
 split
 ·rw [List.length_map];omega
 ·simp
def clI (A:Adr) (i:Nat):Addr:=(cls A).getD i 0
theorem Av (T:Txt K mg A) {i j:Nat} (hi:i < 15) (hj:j < 15) (h:i ≠ j):clI A i ≠ clI A j:=by
 unfold clI
 rw [List.getD_eq_getElem?_getD,List.getD_eq_getElem?_getD,List.getElem?_eq_getElem (show i < (cls A).length from hi),List.getElem?_eq_getElem (show j < (cls A).length from hj)]
 exact DH T i j hi hj h
theorem vB (T:Txt K mg A) (i:Nat) (h:i < 14) (h0:0 < i):∃x,df K mg (clI A i) x [clI A i,A.Row]:=by
 match i,h,h0 with
 | 1,_,_=>exact ⟨_,T.iF⟩
 | 2,_,_=>exact ⟨_,T.fL⟩
 | 3,_,_=>exact ⟨_,T.jP⟩
 | 4,_,_=>exact ⟨_,T.jm⟩
 | 5,_,_=>exact ⟨_,T.di⟩
 | 6,_,_=>exact ⟨_,T.cM⟩
 | 7,_,_=>exact ⟨_,T.cW⟩
 | 8,_,_=>exact ⟨_,T.bZ⟩
 | 9,_,_=>exact ⟨_,T.bO⟩
 | 10,_,_=>exact ⟨_,T.fE⟩
 | 11,_,_=>exact ⟨_,T.bQ⟩
 | 12,_,_=>exact ⟨_,T.bu⟩
 | 13,_,_=>exact ⟨_,T.b8⟩
theorem DS (T:Txt K mg A) (i j:Nat) (hi:i < 14) (hj:j < 14) (i0:0 < i) (j0:0 < j):W.kitOne K (.ref (clI A i)) (.ref (clI A j))=some (decide (i=j)):=by
 obtain ⟨x,O⟩:=vB T i hi i0
 obtain ⟨y,U⟩:=vB T j hj j0
 by_cases e:i=j
 ·subst e
  rw [decide_eq_true rfl]
  exact FA O
 ·rw [decide_eq_false e]
  exact FG O U (Av T (by omega) (by omega) (fun z=>e z.symm)) (Av T (j:=0) (by omega) (by omega) (by omega))
end
section
variable {P:Program}{w:World}{K:W.Frag}{mg:Str->Option Value}{base:Heap}{A:Adr}{N:Nat->Str}
seal PE PA PS PSs PT PW
inductive Th where
 | i (n:Int) | x (a:Nat)
inductive Val where
 | one (a:Th) | op (a:Th) (w:Str) (b:Th)
def Th.v (N:Nat->Str):Th->V
 | .i n=>.int n
 | .x a=>.str (N a)
def vV (N:Nat->Str):Val->List V
 | .one a=>[a.v N]
 | .op a w b=>[a.v N,.str w,b.v N]
inductive Lr where
 | hand (i:Nat) (r:Int) | giv (i:Nat) (r z:Int) | own (i:Nat) (z:Int) | lt (i:Nat) (r:Int)
 | set (x:Nat) (v:Val) | put (x:Nat) (p:Th) (v:Val) | snd (h:Nat) (v:Val) | say (x:Nat) (v:Val) (m:Nat)
 | call (i:Nat) (ts:List Th) | last
def Lr.ci:Lr->Nat
 | .hand _ _=>1 | .giv _ _ _=>2 | .own _ _=>3 | .lt _ _=>4 | .set _ _=>5 | .put _ _ _=>6 | .snd _ _=>7 | .say _ _ _=>8
 | .call _ _=>9 | .last=>10
abbrev nV (N:Nat->Str) (ns:List Nat):List V:=ns.map fun i=>V.str (N i)
def Lr.fs (N:Nat->Str) (p:Addr):Lr->List (Str × V)
 | .hand i r=>[("name",.str (N i)),("rank",.int r)]
 | .giv i r z=>[("name",.str (N i)),("rank",.int r),("size",.int z)]
 | .own i z=>[("name",.str (N i)),("size",.int z)]
 | .lt i r=>[("name",.str (N i)),("rank",.int r)]
 | .set x _=>[("name",.str (N x)),("value",.ref p)]
 | .put x t _=>[("name",.str (N x)),("place",t.v N),("value",.ref p)]
 | .snd h _=>[("name",.str (N h)),("value",.ref p)]
 | .say x _ m=>[("name",.str (N x)),("value",.ref p),("mark",.str (N m))]
 | .call i _=>[("name",.str (N i)),("things",.ref p)]
 | .last=>[]
def Lr.ob (N:Nat->Str):Lr->Option HO
 | .set _ v=>some (.tup (vV N v))
 | .put _ _ v=>some (.tup (vV N v))
 | .snd _ v=>some (.tup (vV N v))
 | .say _ v _=>some (.tup (vV N v))
 | .call _ ts=>some (.lst (ts.map (Th.v N)))
 | _=>none
inductive Pt where
 | leaf (n:Int) (r:Lr)
 | iff (n:Int) (v:Val) (l r:Int) (f o:List Pt)
 | loop (n:Int) (t:Th) (m l r:Int) (b:List Pt)
 | aR (n:Int) (i:Nat) (ps:List Nat) (b:List Pt)
def Pt.no:Pt->Int
 | .leaf n _=>n
 | .iff n _ _ _ _ _=>n
 | .loop n _ _ _ _ _=>n
 | .aR n _ _ _=>n
def Pt.ci:Pt->Nat
 | .leaf _ r=>r.ci
 | .iff _ _ _ _ _ _=>11
 | .loop _ _ _ _ _ _=>12
 | .aR _ _ _ _=>13
def Ge (A:Adr) (N:Nat->Str) (X:Hp) (v:V) (n:Int) (r:Lr):Prop:=∃a dx p,v=.ref a/\X a=some (.ins (clI A r.ci) dx (("number",.int n) :: r.fs N p))/\∀o,r.ob N=some o->X p=some o
mutual
def aV (A:Adr) (N:Nat->Str) (X:Hp):V->Pt->Prop
 | v,.leaf n r=>Ge A N X v n r
 | v,.iff n val l r f o=>∃a dx p pf po xf xo,v=.ref a/\X a=some (.ins A.b5 dx [("number",.int n),("value",.ref p),("first",.ref pf),("other",.ref po),("left",.int l),("right",.int r)])/\X p=some (.tup (vV N val))/\X pf=some (.lst xf)/\X po=some (.lst xo)/\aD A N X xf f/\aD A N X xo o
 | v,.loop n t m l r b=>∃a dx pb xb,v=.ref a/\X a=some (.ins A.aY dx [("number",.int n),("thing",t.v N),("most",.int m),("body",.ref pb),("left",.int l),("right",.int r)])/\X pb=some (.lst xb)/\aD A N X xb b
 | v,.aR n i ps b=>∃a dx pp pb xb,v=.ref a/\X a=some (.ins A.bx dx [("number",.int n),("name",.str (N i)),("parts",.ref pp),("body",.ref pb)])/\X pp=some (.lst (nV N ps))/\X pb=some (.lst xb)/\aD A N X xb b
def aD (A:Adr) (N:Nat->Str) (X:Hp):List V->List Pt->Prop
 | vs,[]=>vs=[]
 | vs,t :: ts=>∃x xs,vs=x :: xs/\aV A N X x t/\aD A N X xs ts
end
mutual
theorem aV.same {X X':Hp} (s:ai X X'):∀(t:Pt) (v:V),aV A N X v t->aV A N X' v t
 | .leaf n r,v,h=>by
  unfold aV at h ⊢
  obtain ⟨a,dx,p,e,h1,h2⟩:=h
  exact ⟨a,dx,p,e,s _ _ h1,fun o ho=>s _ _ (h2 o ho)⟩
 | .iff n val l r f o,v,h=>by
  unfold aV at h ⊢
  obtain ⟨a,dx,p,pf,po,xf,xo,e,h1,h2,h3,h4,h5,h6⟩:=h
  exact ⟨a,dx,p,pf,po,xf,xo,e,s _ _ h1,s _ _ h2,s _ _ h3,s _ _ h4,aD.same s f _ h5,aD.same s o _ h6⟩
 | .loop n t m l r b,v,h=>by
  unfold aV at h ⊢
  obtain ⟨a,dx,pb,xb,e,h1,h2,h3⟩:=h
  exact ⟨a,dx,pb,xb,e,s _ _ h1,s _ _ h2,aD.same s b _ h3⟩
 | .aR n i ps b,v,h=>by
  unfold aV at h ⊢
  obtain ⟨a,dx,pp,pb,xb,e,h1,h2,h3,h4⟩:=h
  exact ⟨a,dx,pp,pb,xb,e,s _ _ h1,s _ _ h2,s _ _ h3,aD.same s b _ h4⟩
theorem aD.same {X X':Hp} (s:ai X X'):∀(ts:List Pt) (vs:List V),aD A N X vs ts->aD A N X' vs ts
 | [],vs,h=>by
  unfold aD at h ⊢
  exact h
 | t :: ts,vs,h=>by
  unfold aD at h ⊢
  obtain ⟨x,xs,e,h1,h2⟩:=h
  exact ⟨x,xs,e,aV.same s t _ h1,aD.same s ts _ h2⟩
end
theorem aD.nil {X:Hp}:aD A N X [] []:=by
 unfold aD
 rfl
theorem aD.cons {X:Hp}{x:V}{t:Pt}{ts:List Pt}{vs:List V} (h:aV A N X x t) (h':aD A N X vs ts):aD A N X (x :: vs) (t :: ts):=by
 unfold aD
 exact ⟨x,vs,rfl,h,h'⟩
theorem aD.one {X:Hp}{x:V}{t:Pt} (h:aV A N X x t):aD A N X [x] [t]:=aD.cons h aD.nil
theorem aD.len {X:Hp}:∀{ts:List Pt}{vs:List V},aD A N X vs ts->vs.length=ts.length
 | [],vs,h=>by
  unfold aD at h
  rw [h]
  rfl
 | t :: ts,vs,h=>by
  unfold aD at h
  obtain ⟨y,ys,e,h1,h2⟩:=h
  subst e
  simp [aD.len h2]
theorem aD.get {X:Hp}:∀{ts:List Pt}{vs:List V}{i:Nat}{v:V},aD A N X vs ts->vs[i]?=some v->∃t,ts[i]?=some t/\aV A N X v t
 | [],vs,i,v,h,e=>by
  unfold aD at h
  rw [h] at e
  cases e
 | t :: ts,vs,i,v,h,e=>by
  unfold aD at h
  obtain ⟨y,ys,e',h1,h2⟩:=h
  subst e'
  cases i with
  | zero=>cases e;exact ⟨t,rfl,h1⟩
  | succ i=>exact aD.get (i:=i) h2 e
theorem qS (p:Pt):0 < p.ci/\p.ci < 14:=by
 cases p with
 | leaf n r=>cases r <;> simp [Pt.ci,Lr.ci]
 | _=>simp [Pt.ci]
theorem E4 (T:Txt K mg A) (p:Pt):Cls K (clI A p.ci)/\aF K (clI A p.ci) "number":=by
 cases p with
 | leaf n r =>
  cases r with
  | hand _ _=>exact ⟨T.iF.cl,T.dJ⟩
  | giv _ _ _=>exact ⟨T.fL.cl,T.dj⟩
  | own _ _=>exact ⟨T.jP.cl,T.eO⟩
  | lt _ _=>exact ⟨T.jm.cl,T.eB⟩
  | set _ _=>exact ⟨T.di.cl,T.eJ⟩
  | put _ _ _=>exact ⟨T.cM.cl,T.eP⟩
  | snd _ _=>exact ⟨T.cW.cl,T.dH⟩
  | say _ _ _=>exact ⟨T.bZ.cl,T.bF⟩
  | call _ _=>exact ⟨T.bO.cl,T.b6⟩
  | _=>exact ⟨T.fE.cl,T.dB⟩
 | iff _ _ _ _ _ _=>exact ⟨T.bQ.cl,T.fQ⟩
 | loop _ _ _ _ _ _=>exact ⟨T.bu.cl,T.dG⟩
 | aR _ _ _ _=>exact ⟨T.b8.cl,T.dD⟩
theorem Cb {X:Hp}{v:V}{p:Pt} (h:aV A N X v p):∃a dx fs,v=.ref a/\X a=some (.ins (clI A p.ci) dx (("number",.int p.no) :: fs)):=by
 cases p with
 | leaf n r =>
  unfold aV at h
  obtain ⟨a,dx,p,e,h1,h2⟩:=h
  exact ⟨a,dx,_,e,h1⟩
 | iff n val l r f o =>
  unfold aV at h
  obtain ⟨a,dx,p,pf,po,xf,xo,e,h1,_⟩:=h
  exact ⟨a,dx,_,e,h1⟩
 | loop n t m l r b =>
  unfold aV at h
  obtain ⟨a,dx,pb,xb,e,h1,_⟩:=h
  exact ⟨a,dx,_,e,h1⟩
 | aR n i ps b =>
  unfold aV at h
  obtain ⟨a,dx,pp,pb,xb,e,h1,_⟩:=h
  exact ⟨a,dx,_,e,h1⟩
theorem qy (T:Txt K mg A) {X H:Hp} (s:ai X H) {v:V}{p:Pt} (h:aV A N X v p) (j:Nat) (j0:0 < j) (hj:j < 14) {R:Bool->Hp->Prop} (q:R (decide (p.ci=j)) H):xM K [v,.ref (clI A j)] H fun v H1=>uf K v H1 R:=by
 obtain ⟨a,dx,fs,rfl,ha⟩:=Cb h
 obtain ⟨x,O⟩:=vB T p.ci (qS p).2 (qS p).1
 exact isB (O.Fz (s _ _ ha)) (DS T p.ci j (qS p).2 hj (qS p).1 j0) q
theorem qe (T:Txt K mg A) {X H:Hp} (s:ai X H) {v:V}{p:Pt} (h:aV A N X v p) {j:Nat} (e:p.ci=j) {R:Bool->Hp->Prop} (q:R true H):xM K [v,.ref (clI A j)] H fun v H1=>uf K v H1 R:=qy T s h j (e ▸ (qS p).1) (e ▸ (qS p).2) (by rw [decide_eq_true e];exact q)
theorem qd (T:Txt K mg A) {X H:Hp} (s:ai X H) {v:V}{p:Pt} (h:aV A N X v p) {j:Nat} (e:p.ci ≠ j) {R:Bool->Hp->Prop} (q:R false H) (j0:0 < j:=by decide) (hj:j < 14:=by decide):xM K [v,.ref (clI A j)] H fun v H1=>uf K v H1 R:=qy T s h j j0 hj (by rw [decide_eq_false e];exact q)
theorem iY (T:Txt K mg A) {X H:Hp} (s:ai X H) {v:V}{p:Pt} (h:aV A N X v p) {Q:VK} (q:Q (.int p.no) H):qh K "number" v H Q:=by
 obtain ⟨a,dx,fs,rfl,ha⟩:=Cb h
 obtain ⟨c1,c2⟩:=E4 T p
 exact fdI (s _ _ ha) c1 c2 rfl q
def aZ (n:Int):Str:=Str.empty ++ ("row ":Str) ++ Str.ofString (toString n)
def FY (s:Str):Nat:=(s.cps.toList.drop 4).foldl (fun a c=>10 * a + (c - 48)) 0
theorem qV:∀n:Fin 1001,((n.val:Int).natAbs.log2 < 1920)/\(Str.ofString (toString (n.val:Int))).length <= 20/\FY (aZ (n.val:Int))=n.val/\(aZ (n.val:Int)).cps[0]?=some 114:=by decide +kernel
theorem gH (a b:Str):(a ++ b).length=a.length + b.length:=Array.size_append
inductive u9 (vs:List V) (H:Hp) (Q:VK) (E9:XK):Prop
 | mk (n:Int) (z0:vs=[.int n]) (z1:0 <= n) (z2:n <= 1000) (z3:Q (.str (aZ n)) H):u9 vs H Q E9
theorem sQ (T:Txt K mg A):T.lV.Hz P w base 1 u9:=by
 refine T.lV.hs rW (fun f cdv A' outer s H vs Q E' hr hu h=>?_)
 obtain ⟨n,rfl,h0,h1,q⟩:=h
 obtain ⟨n,rfl⟩:∃k:Nat,n=(k:Int):=⟨n.toNat,by omega⟩
 obtain ⟨k1,k2,_⟩:=qV ⟨n,by omega⟩
 refine ⟨_,(ah (aw (AX (wY aj (wY (DW (fv 0)) CV))))),⟨_,rfl,(by decide),Or.inl ⟨_,rfl,k1,_,rfl,?_⟩⟩⟩
 have l:(aZ (n:Int)).length <= sizeLine:=by
  unfold aZ
  rw [gH]
  exact Nat.le_trans (Nat.add_le_add_left k2 _) (by decide)
 exact ⟨l,l,q⟩
end
section
variable {P:Program}{w:World}{K:W.Frag}{mg:Str->Option Value}{base:Heap}{A:Adr}{N:Nat->Str}
seal PE PA PS PSs PT PW
theorem Paired.two {α β:Type}{F:α->β->Prop}:∀{xs zs:List α}{ys ws:List β},Paired F xs ys->Paired F zs ws->Paired F (xs ++ zs) (ys ++ ws)
 | _,_,_,_,.nil,h=>h
 | _,_,_,_,.cons g r,h=>.cons g (Paired.two r h)
abbrev Le:=Pt × Option Str × Option Str
def oS:Option Str->V
 | none=>.non
 | some x=>.str x
mutual
def dY (lp:Option Str):Pt->List Le
 | .leaf _ _=>[]
 | .iff n _ _ _ f o=>bw (some (aZ n)) lp f ++ bw (some (aZ n)) lp o
 | .loop n _ _ _ _ b=>bw (some (aZ n)) (some (aZ n)) b
 | .aR _ _ _ _=>[]
def bw (pl lp:Option Str):List Pt->List Le
 | []=>[]
 | t :: ts=>(t,pl,lp) :: (dY lp t ++ bw pl lp ts)
end
mutual
def dep:Pt->Nat
 | .leaf _ _=>0
 | .iff _ _ _ _ f o=>max (kg f) (kg o) + 1
 | .loop _ _ _ _ _ b=>kg b + 1
 | .aR _ _ _ b=>0
def kg:List Pt->Nat
 | []=>0
 | t :: ts=>max (dep t) (kg ts)
end
theorem oQ {t:Pt}:∀{ts:List Pt},t ∈ ts->dep t <= kg ts
 | t' :: ts,m=>by
  unfold kg
  rcases List.mem_cons.mp m with rfl | m
  ·exact Nat.le_max_left _ _
  ·exact Nat.le_trans (oQ m) (Nat.le_max_right _ _)
theorem oZ {pl lp:Option Str}:∀(a b:List Pt),bw pl lp (a ++ b)=bw pl lp a ++ bw pl lp b
 | [],b=>by simp [bw]
 | t :: a,b=>by
  have h1:bw pl lp (t :: (a ++ b))=(t,pl,lp) :: (dY lp t ++ bw pl lp (a ++ b)):=by rw [bw]
  have h2:bw pl lp (t :: a)=(t,pl,lp) :: (dY lp t ++ bw pl lp a):=by rw [bw]
  show bw pl lp (t :: (a ++ b))=_
  rw [h1,h2,oZ a b]
  simp
theorem qD {pl lp:Option Str}{ts:List Pt}{t:Pt}{i:Nat} (h:ts[i]?=some t):bw pl lp (ts.take (i + 1))=bw pl lp (ts.take i) ++ (t,pl,lp) :: dY lp t:=by
 rw [List.take_add_one,h,oZ]
 show bw pl lp (ts.take i) ++ bw pl lp [t]=_
 rw [show bw pl lp [t]=(t,pl,lp) :: dY lp t by simp [bw]]
theorem Aj {pl lp:Option Str}{ts:List Pt}{t:Pt}{i:Nat} (h:ts[i]?=some t):bw pl lp ts=bw pl lp (ts.take i) ++ ((t,pl,lp) :: dY lp t) ++ bw pl lp (ts.drop (i + 1)):=by
 rw [<- qD h,<- oZ,List.take_append_drop]
def Nb (es:List Le):Prop:=∀e ∈ es,0 <= e.1.no/\e.1.no <= 1000
def LyE (A:Adr) (N:Nat->Str) (X:Hp) (e:Le) (y:V) (H:Hp):Prop:=∃tp v,y=V.ref tp/\H tp=some (.tup [v,oS e.2.1,oS e.2.2])/\aV A N X v e.1
def Ly (A:Adr) (N:Nat->Str) (X H:Hp) (es:List Le) (ys:List V):Prop:=Paired (fun e y=>LyE A N X e y H) es ys
theorem Ly.same {X H H':Hp} (s:∀x w,H x=some (.tup w)->H' x=some (.tup w)) {es:List Le}{ys:List V} (h:Ly A N X H es ys):Ly A N X H' es ys:=Paired.nX h fun _ _ ⟨tp,v,e,h1,h2⟩=>⟨tp,v,e,s _ _ h1,h2⟩
inductive oq (A:Adr) (d:Nat) (vs:List V) (H:Hp) (Q:VK) (E9:XK):Prop
 | mk (N:Nat->Str) (X:Hp) (L:Addr) (xs:List V) (pl lp:Option Str) (ts:List Pt) (z0:vs=[.ref L,oS pl,oS lp]) (z1:ai X H) (z2:X L=some (.lst xs)) (z3:aD A N X xs ts) (z4:kg ts <= d) (z5:Nb (bw pl lp ts)) (z6:(bw pl lp ts).length <= 900)
  (z7:∀(R:Addr) (ys:List V) (H':Hp),ai H H'->H R=none->H' R=some (.lst ys)->Ly A N X H' (bw pl lp ts) ys->Q (.ref R) H'):oq A d vs H Q E9
inductive lZ (A:Adr) (d:Nat) (vs:List V) (H:Hp) (Q:VK) (E9:XK):Prop
 | mk (N:Nat->Str) (X:Hp) (v:V) (lp:Option Str) (t:Pt) (z0:vs=[v,oS lp]) (z1:ai X H) (z2:aV A N X v t) (z3:dep t <= d) (z4:0 <= t.no/\t.no <= 1000) (z5:Nb (dY lp t)) (z6:(dY lp t).length <= 900)
  (z7:∀(R:Addr) (ys:List V) (H':Hp),ai H H'->H R=none->H' R=some (.lst ys)->Ly A N X H' (dY lp t) ys->Q (.ref R) H'):lZ A d vs H Q E9
def zz (A:Adr):Nat->Sp
 | 0=>fun _ _ _ _=>False
 | d + 1=>oq A d
theorem w8 (T:Txt K mg A) (d j:Nat) (D_laid_inside:T.gG.Hz P w base j (lZ A d)):T.fF.Hz P w base (j + 1) (oq A d):=by
 refine T.fF.hs (k:=j) fA (fun f cdv A' outer s H vs Q E' hr hu h=>?_)
 obtain ⟨N,X,L,xs,pl,lp,ts,rfl,s0,hL,pt,dp,nb,ln,q⟩:=h
 refine ⟨_,(ae (pst 3 fA.nd (aC ab))
  (ae (cy PassesOwn.never rfl (cR (fv 0)) (pgn (i:=4) fA.nd rfl)
   (ae (aE (aT (fv 3) (aa (aI (aa (fv 4) (aa (fv 1) (aa (fv 2) ab)))) ab)))
   (ah (aE (gi (fv 3) (aa (ak (hj:=by omega) D_laid_inside hr (aa (fv 4) (aa (fv 2) ab))) ab))))))
  (ah (aw (fv 3))))),?_⟩
 refine ag fun M1 K1=>⟨Nat.zero_le _,fun R hR=>?_⟩
 obtain ⟨s1,e1⟩:=alc hR (HO.lst [])
 generalize upd H R _=H1 at s1 e1 ⊢
 refine K1 _ _ ?_
 clear K1 M1
 try dsimp only
 refine ag fun M1 K1=>Or.inl ⟨⟨_,SqL.of ((s0.trans s1) _ _ hL)⟩,cN (K:=K) (xs:=xs) (fun i σ Hc=>∃(ys:List V) (v4:Option V),σ=[some (.ref L),some (oS pl),some (oS lp),some (.ref R),v4]/\ai H Hc/\Hc R=some (.lst ys)/\Ly A N X Hc (bw pl lp (ts.take i)) ys) ⟨[],none,rfl,s1,e1,by rw [show bw pl lp (ts.take 0)=[] by show bw pl lp []=[];rw [bw]];exact .nil⟩ (fun i σ Hc _ ⟨_,_,_,z,_⟩=>SqL.of ((s0.trans z) _ _ hL)) ?_ ?_⟩
 ·rintro i v σ Hc hv ⟨ys,v4,rfl,sc,hRc,ly⟩
  obtain ⟨t,ht,pa⟩:=pt.get hv
  have mt:t ∈ ts:=List.mem_of_getElem? ht
  have e:=Aj (pl:=pl) (lp:=lp) ht
  have le:(bw pl lp (ts.take i)).length + (1 + (dY lp t).length) <= 900:=by
   rw [e] at ln
   simp at ln
   omega
  have n1:∀z ∈ ((t,pl,lp) :: dY lp t),0 <= z.1.no/\z.1.no <= 1000:=fun z hz=>nb z (by rw [e];exact List.mem_append_left _ (List.mem_append_right _ hz))
  have lly:=Paired.length ly
  try dsimp only
  refine ag fun N1 J1=>⟨Or.inl ⟨rfl,_,SqL.of hRc⟩,by show 3 <= sizeLine;decide,fun tp htp=>?_⟩
  have tpR:tp ≠ R:=fresh_ne htp hRc
  refine ⟨_,_,_,rfl,rfl,ar tpR.symm hRc,aH (by omega),?_⟩
  have s2:ai H (upd (upd Hc tp (.tup [v,oS pl,oS lp])) R (.lst (ys ++ [.ref tp]))):=ai.out (sc.trans (ai.upd htp _)) hR _
  have e2:upd (upd Hc tp (.tup [v,oS pl,oS lp])) R (.lst (ys ++ [.ref tp])) R=some (.lst (ys ++ [.ref tp])):=ao
  have l2:Ly A N X (upd (upd Hc tp (.tup [v,oS pl,oS lp])) R (.lst (ys ++ [.ref tp]))) (bw pl lp (ts.take i) ++ [(t,pl,lp)]) (ys ++ [.ref tp]):=by
   refine Paired.two (ly.same fun x w e=>?_) (.cons ⟨tp,v,rfl,ar tpR ao,pa⟩ .nil)
   exact ar (fun y=>by rw [y,hRc] at e;cases e) (ar (fun y=>by rw [y,htp] at e;cases e) e)
  generalize upd (upd Hc tp (.tup [v,oS pl,oS lp])) R (.lst (ys ++ [.ref tp]))=Hd at s2 e2 l2 ⊢
  refine J1 _ _ ?_
  clear J1 N1
  try dsimp only
  refine ⟨Or.inl ⟨rfl,_,SqL.of e2⟩,N,X,v,lp,t,rfl,s0.trans s2,pa,Nat.le_trans (oQ mt) dp,n1 _ List.mem_cons_self,fun z hz=>n1 z (List.mem_cons_of_mem _ hz),by omega,fun R2 zs He s3 hR2 eR2 l3=>?_⟩
  have lz:=Paired.length l3
  refine ⟨_,_,_,_,rfl,rfl,s3 _ _ e2,eR2,sz (by rw [List.length_append,<- lz,<- lly];simp;omega),⟨_,_,rfl,ai.out (s2.trans s3) hR _,ao,?_⟩⟩
  rw [qD ht,show bw pl lp (ts.take i) ++ (t,pl,lp) :: dY lp t=bw pl lp (ts.take i) ++ [(t,pl,lp)] ++ dY lp t by simp]
  have dR:∀x w,He x=some (.tup w)->upd He R (.lst (ys ++ [.ref tp] ++ zs)) x=some (.tup w):=fun x w e=>ar (fun y=>by rw [y,s3 _ _ e2] at e;cases e) e
  exact Paired.two (l2.same fun x w e=>dR x w (s3 _ _ e)) (l3.same dR)
 rintro σ Hc ⟨ys,v4,rfl,sc,hRc,ly⟩
 rw [show ts.take xs.length=ts by rw [pt.len];exact List.take_length] at ly
 exact K1 _ _ (q R ys Hc sc hR hRc ly)
theorem qQ (T:Txt K mg A) (d j:Nat) (D_laid_rows:T.fF.Hz P w base (j + 1) (zz A d)):T.gG.Hz P w base (j + 2) (lZ A d):=by
 refine T.gG.hs (k:=j + 1) jK (fun f cdv A' outer s H vs Q E' hr hu h=>?_)
 obtain ⟨N,X,v,lp,t,rfl,s0,pa,dp,nt,nb,ln,q⟩:=h
 refine ⟨_,(ae (pst 2 jK.nd (ak (hj:=by omega) (sQ T) hr (aa (aJ (fv 0) rfl) ab)))
  (ae (aL (bU (pcB br T.aG (aa (fv 0) (aa (cQ T.bQ.mg) ab))) (fun _=>rfl))
   (ah (aw (au aK (ak (hj:=by omega) D_laid_rows hr (aa (aJ (fv 0) rfl) (aa (fv 2) (aa (fv 1) ab)))) (ak (hj:=by omega) D_laid_rows hr (aa (aJ (fv 0) rfl) (aa (fv 2) (aa (fv 1) ab)))))))
   aB)
  (ae (aL (bU (pcB br T.aG (aa (fv 0) (aa (cQ T.bu.mg) ab))) (fun _=>rfl))
   (ah (aw (ak (hj:=by omega) D_laid_rows hr (aa (aJ (fv 0) rfl) (aa (fv 2) (aa (fv 2) ab))))))
   aB)
  (ah (aw (aC ab)))))),?_⟩
 refine ag fun M1 K1=>iY T s0 pa ⟨_,rfl,nt.1,nt.2,K1 _ _ ?_⟩
 clear K1 M1
 try dsimp only
 refine ag fun M1 K1=>qy T s0 pa 11 (by decide) (by decide) ?_
 cases t with
 | iff n val l r f o =>
  refine c0 ?_
  unfold aV at pa
  obtain ⟨a,dx,p,pf,po,xf,xo,rfl,h1,h2,h3,h4,h5,h6⟩:=pa
  unfold dep at dp
  cases d with
  | zero=>omega
  | succ d =>
  unfold dY at nb ln q
  have nf:Nb (bw (some (aZ n)) lp f):=fun y hy=>nb y (List.mem_append_left _ hy)
  have no:Nb (bw (some (aZ n)) lp o):=fun y hy=>nb y (List.mem_append_right _ hy)
  rw [List.length_append] at ln
  refine fdI (s0 _ _ h1) T.bQ.cl T.dP rfl ⟨N,X,pf,xf,some (aZ n),lp,f,rfl,s0,h3,h5,by omega,nf,by omega,fun R1 y1 H1 s1 n1 e1 l1=>fdI ((s0.trans s1) _ _ h1) T.bQ.cl T.dS rfl ⟨N,X,po,xo,some (aZ n),lp,o,rfl,s0.trans s1,h4,h6,by omega,no,by omega,fun R2 y2 H2 s2 n2 e2 l2=>?_⟩⟩
  have z1:=Paired.length l1
  have z2:=Paired.length l2
  refine ⟨R1,R2,_,_,rfl,rfl,s2 _ _ e1,e2,sz (by omega),fun R hR=>?_⟩
  have s3:ai H2 (upd H2 R (.lst (y1 ++ y2))):=ai.upd hR _
  exact q R _ _ ((s1.trans s2).trans s3) (ai.free (s1.trans s2) hR) ao (Paired.two (l1.same fun x w e=>s3 _ _ (s2 _ _ e)) (l2.same fun x w e=>s3 _ _ e))
 | loop n t m l r b =>
  refine bz (K1 _ _ ?_)
  clear K1 M1
  try dsimp only
  refine ag fun M1 K1=>qy T s0 pa 12 (by decide) (by decide) (c0 ?_)
  unfold aV at pa
  obtain ⟨a,dx,pb,xb,rfl,h1,h2,h3⟩:=pa
  unfold dep at dp
  cases d with
  | zero=>omega
  | succ d =>
  unfold dY at nb ln q
  exact fdI (s0 _ _ h1) T.bu.cl T.dq rfl ⟨N,X,pb,xb,some (aZ n),some (aZ n),b,rfl,s0,h2,h3,by omega,nb,ln,fun R1 y1 H1 s1 n1 e1 l1=>q R1 y1 H1 s1 n1 e1 l1⟩
 | leaf n r =>
  have e11:decide ((Pt.leaf n r).ci=11)=false:=by cases r <;> rfl
  have e12:decide ((Pt.leaf n r).ci=12)=false:=by cases r <;> rfl
  rw [e11]
  refine bz (K1 _ _ ?_)
  clear K1 M1
  try dsimp only
  refine ag fun M1 K1=>qy T s0 pa 12 (by decide) (by decide) ?_
  rw [e12]
  refine bz (K1 _ _ ?_)
  clear K1 M1
  refine ⟨Nat.zero_le _,fun R hR=>q R [] _ (ai.upd hR _) hR ao ?_⟩
  unfold dY
  exact .nil
 | aR n i ps b =>
  refine bz (K1 _ _ ?_)
  clear K1 M1
  try dsimp only
  refine ag fun M1 K1=>qy T s0 pa 12 (by decide) (by decide) (bz (K1 _ _ ?_))
  clear K1 M1
  refine ⟨Nat.zero_le _,fun R hR=>q R [] _ (ai.upd hR _) hR ao ?_⟩
  unfold dY
  exact .nil
theorem vh (T:Txt K mg A):∀d,T.fF.Hz P w base (2 * d + 3) (oq A d)
 | 0=>w8 T 0 2 (qQ T 0 0 (T.fF.hs (k:=0) fA (fun _ _ _ _ _ _ _ _ _ _ _ h=>h.elim) (fun _ _ _ _ h=>h.elim)))
 | d + 1=>w8 T (d + 1) (2 * d + 4) (qQ T (d + 1) (2 * d + 2) (vh T d))
end
section
variable {P:Program}{w:World}{K:W.Frag}{mg:Str->Option Value}{base:Heap}{A:Adr}{N:Nat->Str}
seal PE PA PS PSs PT PW
def lJ:Pt->List Pt
 | .aR _ _ _ b=>b
 | _=>[]
def dNm (N:Nat->Str):Pt->Str
 | .aR _ i _ _=>N i
 | _=>Str.empty
def dPs (N:Nat->Str):Pt->List Str
 | .aR _ _ ps _=>ps.map N
 | _=>[]
def zw:Pt->Prop
 | .aR _ _ _ _=>True
 | _=>False
def fR (N:Nat->Str) (ds:List Pt):List Le:=ds.flatMap fun p=>bw (some (dNm N p)) none (lJ p)
theorem pY {ts:List Pt}{t:Pt}{i:Nat} (h:ts[i]?=some t):fR N (ts.take (i + 1))=fR N (ts.take i) ++ bw (some (dNm N t)) none (lJ t):=by
 unfold fR
 rw [List.take_add_one,h]
 simp
theorem ym {ts:List Pt}{t:Pt}{i:Nat} (h:ts[i]?=some t):fR N ts=fR N (ts.take i) ++ bw (some (dNm N t)) none (lJ t) ++ fR N (ts.drop (i + 1)):=by
 rw [<- pY h]
 unfold fR
 rw [<- List.flatMap_append,List.take_append_drop]
def zG (A:Adr) (N:Nat->Str) (X:Hp) (v:V) (hs ds ms:List Pt):Prop:=∃a dx n0 n1 n2 x0 x1 x2,v=.ref a/\X a=some (.ins A.Program dx [("heads",.ref n0),("deeds",.ref n1),("main",.ref n2)])/\X n0=some (.lst x0)/\X n1=some (.lst x1)/\X n2=some (.lst x2)/\aD A N X x0 hs/\aD A N X x1 ds/\aD A N X x2 ms
def dz (N:Nat->Str) (ds ms:List Pt):List Le:=fR N ds ++ bw none none ms
structure Ok (N:Nat->Str) (d:Nat) (hs ds ms:List Pt):Prop where
 aR:∀p ∈ ds,zw p/\kg (lJ p) <= d
 main:kg ms <= d
 nb:Nb (dz N ds ms)
 ln:(dz N ds ms).length <= 300
 hl:hs.length <= 300
abbrev sS (xs:List Str):List V:=xs.map V.str
inductive tZ (A:Adr) (d:Nat) (vs:List V) (H:Hp) (Q:VK) (E9:XK):Prop
 | mk (N:Nat->Str) (X:Hp) (v:V) (hs ds ms:List Pt) (z0:vs=[v]) (z1:ai X H) (z2:zG A N X v hs ds ms) (z3:Ok N d hs ds ms)
  (z7:∀(R:Addr) (ys:List V) (H':Hp),ai H H'->H R=none->H' R=some (.lst ys)->Ly A N X H' (dz N ds ms) ys->Q (.ref R) H'):tZ A d vs H Q E9
theorem AO (T:Txt K mg A) (d:Nat):T.iZ.Hz P w base (2 * d + 4) (tZ A d):=by
 refine T.iZ.hs (k:=2 * d + 3) eY (fun f cdv A' outer s H vs Q E' hr hu h=>?_)
 obtain ⟨N,X,v,hs,ds,ms,rfl,s0,⟨a,dx,n0,n1,n2,x0,x1,x2,rfl,ha,e0,e1,e2,p0,p1,p2⟩,ok,q⟩:=h
 have ln:=ok.ln
 have nb:=ok.nb
 unfold dz at ln nb
 rw [List.length_append] at ln
 refine ⟨_,(ae (pst 1 eY.nd (aC ab))
  (ae (cy PassesOwn.never rfl (cR (aJ (fv 0) rfl)) (pgn (i:=2) eY.nd rfl)
   (ah (aE (gi (fv 1) (aa (ak (hj:=by omega) (vh T d) hr (aa (aJ (fv 2) rfl) (aa (aJ (fv 2) rfl) (aa cB ab)))) ab)))))
  (ah (aw (au aK (fv 1) (ak (hj:=by omega) (vh T d) hr (aa (aJ (fv 0) rfl) (aa cB (aa cB ab))))))))),?_⟩
 refine ag fun M1 K1=>⟨Nat.zero_le _,fun R hR=>?_⟩
 obtain ⟨s1,eR⟩:=alc hR (HO.lst [])
 generalize upd H R _=H1 at s1 eR ⊢
 refine K1 _ _ ?_
 clear K1 M1
 try dsimp only
 refine ag fun M1 K1=>fdI ((s0.trans s1) _ _ ha) T.dI.cl T.cm rfl (Or.inl ⟨⟨_,SqL.of ((s0.trans s1) _ _ e1)⟩,cN (K:=K) (xs:=x1) (fun i σ Hc=>∃(ys:List V) (v2:Option V),σ=[some (.ref a),some (.ref R),v2]/\ai H Hc/\Hc R=some (.lst ys)/\Ly A N X Hc (fR N (ds.take i)) ys) ⟨[],none,rfl,s1,eR,.nil⟩ (fun i σ Hc _ ⟨_,_,_,z,_⟩=>SqL.of ((s0.trans z) _ _ e1)) ?_ ?_⟩)
 ·rintro i v σ Hc hv ⟨ys,v2,rfl,sc,hRc,ly⟩
  obtain ⟨t,ht,pa⟩:=p1.get hv
  have mt:t ∈ ds:=List.mem_of_getElem? ht
  obtain ⟨dt,dd⟩:=ok.aR t mt
  cases t with
  | aR n i' ps b =>
   unfold aV at pa
   obtain ⟨a',dx',pp,pb,xb,rfl,h1,h2,h3,h4⟩:=pa
   have e:=ym (N:=N) ht
   have le:(fR N (ds.take i)).length + (bw (some (N i')) none b).length <= 300:=by
    have:=congrArg List.length e
    simp only [List.length_append] at this
    have z:bw (some (dNm N (.aR n i' ps b))) none (lJ (.aR n i' ps b))=bw (some (N i')) none b:=rfl
    rw [z] at this
    omega
   have nbb:Nb (bw (some (N i')) none b):=fun y hy=>nb y (List.mem_append_left _ (by rw [e];exact List.mem_append_left _ (List.mem_append_right _ hy)))
   have lly:=Paired.length ly
   refine ⟨Or.inl ⟨rfl,_,SqL.of hRc⟩,fdI ((s0.trans sc) _ _ h1) T.b8.cl T.dm rfl (fdI ((s0.trans sc) _ _ h1) T.b8.cl T.cI rfl ⟨N,X,pb,xb,some (N i'),none,b,rfl,s0.trans sc,h3,h4,dd,nbb,by omega,fun R2 zs He s3 hR2 eR2 l3=>?_⟩)⟩
   have lz:=Paired.length l3
   refine ⟨_,_,_,_,rfl,rfl,s3 _ _ hRc,eR2,sz (by omega),⟨_,_,rfl,ai.out (sc.trans s3) hR _,ao,?_⟩⟩
   rw [pY ht]
   have dR:∀x w,He x=some (.tup w)->upd He R (.lst (ys ++ zs)) x=some (.tup w):=fun x w e=>ar (fun y=>by rw [y,s3 _ _ hRc] at e;cases e) e
   exact Paired.two (ly.same fun x w e=>dR x w (s3 _ _ e)) (l3.same dR)
  | _=>exact dt.elim
 rintro σ Hc ⟨ys,v2,rfl,sc,hRc,ly⟩
 rw [show ds.take x1.length=ds by rw [p1.len];exact List.take_length] at ly
 refine K1 _ _ ?_
 have lly:=Paired.length ly
 try dsimp only
 refine fdI ((s0.trans sc) _ _ ha) T.dI.cl T.gz rfl ⟨N,X,n2,x2,none,none,ms,rfl,s0.trans sc,e2,p2,ok.main,fun y hy=>nb y (List.mem_append_right _ hy),by omega,fun R2 zs He s3 hR2 eR2 l3=>?_⟩
 have lz:=Paired.length l3
 refine ⟨R,R2,_,_,rfl,rfl,s3 _ _ hRc,eR2,sz (by omega),fun R3 hR3=>?_⟩
 have s4:ai He (upd He R3 (.lst (ys ++ zs))):=ai.upd hR3 _
 exact q R3 _ _ ((sc.trans s3).trans s4) (ai.free (sc.trans s3) hR3) ao (Paired.two (ly.same fun x w e=>s4 _ _ (s3 _ _ e)) (l3.same fun x w e=>s4 _ _ e))
end
section
variable {P:Program}{w:World}{K:W.Frag}{mg:Str->Option Value}{base:Heap}{A:Adr}{N:Nat->Str}
seal PE PA PS PSs PT PW
def Sm (M:List Addr) (H H':Hp):Prop:=∀a o,a ∉ M->H a=some o->H' a=some o
theorem Sm.refl (M:List Addr) (H:Hp):Sm M H H:=fun _ _ _ h=>h
theorem Sm.trans {M:List Addr}{H H' H'':Hp} (h:Sm M H H') (h':Sm M H' H''):Sm M H H'':=fun a o m e=>h' a o m (h a o m e)
theorem Sm.new {M:List Addr}{H H':Hp} (s:ai H H'):Sm M H H':=fun a o _ e=>s a o e
theorem Sm.at {M:List Addr}{H:Hp}{a:Addr} (m:a ∈ M) (o:HO):Sm M H (upd H a o):=fun b u hb e=>ar (fun z=>hb (z ▸ m)) e
theorem Sm.same {M:List Addr}{X H H':Hp} (h:Sm M H H') (s:ai X H) (n:∀m ∈ M,X m=none):ai X H':=fun a o e=>h a o (fun m=>by rw [n a m] at e;cases e) (s a o e)
theorem j9 {α β:Type} (f:α->List β) {xs:List α}{i:Nat}{x:α} (h:xs[i]?=some x):(xs.take (i + 1)).flatMap f=(xs.take i).flatMap f ++ f x:=by
 rw [List.take_add_one,h]
 simp
theorem Du {α β:Type} (f:α->List β) {xs:List α}{i:Nat}{x:α} (h:xs[i]?=some x):((xs.take i).flatMap f).length + (f x).length <= (xs.flatMap f).length:=by
 have e:xs.flatMap f=(xs.take (i + 1)).flatMap f ++ (xs.drop (i + 1)).flatMap f:=by rw [<- List.flatMap_append,List.take_append_drop]
 rw [e,j9 f h]
 simp only [List.length_append]
 omega
end
section
variable {P:Program}{w:World}{K:W.Frag}{mg:Str->Option Value}{base:Heap}{A:Adr}{N:Nat->Str}
seal PE PA PS PSs PT PW
theorem vt:W.kitOne K (.type "str") (.type "str")=some true:=by kernel_rfl!
theorem vz:W.kitOne K (.type "int") (.type "str")=some false:=by kernel_rfl!
def rdS (N:Nat->Str) (acc:List Str):Th->List Str
 | .i _=>acc
 | .x a=>if N a ∈ acc then acc else acc ++ [N a]
def rds (N:Nat->Str) (ts:List Th):List Str:=ts.foldl (rdS N) []
theorem j7 (N:Nat->Str):∀(ts:List Th) (acc:List Str),(ts.foldl (rdS N) acc).length <= ts.length + acc.length
 | [],acc=>by simp
 | t :: ts,acc=>by
  have h:=j7 N ts (rdS N acc t)
  have h2:(rdS N acc t).length <= acc.length + 1:=by
   cases t with
   | i n=>exact Nat.le_succ _
   | x a=>unfold rdS;dsimp only;split <;> simp
  rw [List.foldl_cons,List.length_cons]
  omega
theorem lA (x:Str) (acc:List Str):inV (.str x) (sS acc)=decide (x ∈ acc):=by
 unfold inV sS
 rw [List.any_map,Bool.eq_iff_iff,List.any_eq_true,decide_eq_true_iff]
 constructor
 ·rintro ⟨y,m,e⟩
  have e:decide (y=x)=true:=e
  exact of_decide_eq_true e ▸ m
 ·intro m
  exact ⟨x,m,decide_eq_true rfl⟩
theorem mU (acc:List Str):(sS acc).all jJ=true:=by
 unfold sS
 rw [List.all_map,List.all_eq_true]
 exact fun _ _=>rfl
def vTh:Val->List Th
 | .one a=>[a]
 | .op a _ b=>[a,b]
theorem mD (N:Nat->Str) (v:Val):fm (vV N v)=(vTh v).map (Th.v N):=by
 cases v <;> kernel_rfl
inductive uQ (K:W.Frag) (vs:List V) (H:Hp) (Q:VK) (E9:XK):Prop
 | mk (N:Nat->Str) (t:Addr) (xs:List V) (ts:List Th) (z0:vs=[.ref t]) (z1:SqT K H t xs) (z2:fm xs=ts.map (Th.v N)) (z3:ts.length <= 100)
  (z4:∀(p:Addr) (H':Hp),H p=none->ai H H'->H' p=some (.lst (sS (rds N ts)))->Q (.ref p) H'):uQ K vs H Q E9
theorem j8 (T:Txt K mg A):T.oW.Hz P w base 1 (uQ K):=by
 refine T.oW.hs jM (fun f cdv A' outer s H vs Q E' hr hu h=>?_)
 obtain ⟨N,t,xs,ts,rfl,hT,ev,hl,q⟩:=h
 refine ⟨_,(ae (pst 1 jM.nd (aC ab))
  (ae (cy PassesOwn.never rfl (cR (y4 (fv 0))) (pgn (i:=2) jM.nd rfl)
   (ah (aL (PW.pt (pw_and (bU (pcB br T.aG (aa (fv 2) (aa (iV (v:=.ty "str") rfl T.ni (by boot_by_name) rfl) ab))) (fun _=>rfl)) (pw_and1 (ptc (iH hu) (fv 2) (fv 1) ((by with_unfolding_all rfl))))))
    (ah (aE (aT (fv 1) (aa (fv 2) ab))))
    aB)))
  (ah (aw (fv 1))))),?_⟩
 refine ⟨(by decide:0 <= sizeLine),fun p hp=>⟨t,xs,rfl,(ai.upd hp _).tup hT,fun e he=>Or.inr ⟨⟨_,SqT.of ao⟩,?_⟩⟩⟩
 have hpe:p ≠ e:=fun z=>by
  rw [<- z,ao] at he
  cases he
 rw [ev]
 refine Br (K:=K) (xs:=ts.map (Th.v N)) (fun i σ H3=>ai H H3/\H3 e=some (.tup (ts.map (Th.v N)))/\H3 p=some (.lst (sS (rds N (ts.take i))))/\∃v,σ=[some (.ref t),some (.ref p),v]) ⟨(ai.upd hp _).trans (ai.upd he _),ao,?_,none,rfl⟩ (fun i σ H3 _ h=>SqT.of h.2.1) ?_ ?_
 ·rw [aQ hpe,ao]
  rfl
 ·rintro i x σ H3 hi ⟨s3,h3e,h3p,v,rfl⟩
  rw [List.getElem?_map] at hi
  cases ht:ts[i]? with
  | none=>rw [ht] at hi;cases hi
  | some th =>
  rw [ht] at hi
  cases hi
  have nx:rds N (ts.take (i + 1))=rdS N (rds N (ts.take i)) th:=lQ (rdS N) [] ht
  have ll:=j7 N (ts.take i) []
  rw [List.length_take,List.length_nil] at ll
  cases th with
  | i n =>
   exact ⟨_,_,_,false,rfl,(fun z=>by cases z),.int n,vz,false,rfl,bz (bz ⟨s3,h3e,by rw [h3p,nx];rfl,_,rfl⟩)⟩
  | x a =>
   refine ⟨_,_,_,true,rfl,(fun z=>by cases z),.str _,vt,true,rfl,c0 (Or.inl ⟨_,Or.inl (SqL.of h3p),rfl,mU _,_,rfl,?_⟩)⟩
   have nx:rds N (ts.take (i + 1))=if N a ∈ rds N (ts.take i) then rds N (ts.take i) else rds N (ts.take i) ++ [N a]:=nx
   by_cases m:N a ∈ rds N (ts.take i)
   ·rw [if_pos m] at nx
    exact aU (fun c=>absurd c (by show ¬ (!inV (V.str (N a)) (sS (rds N (ts.take i))))=true;rw [lA,decide_eq_true m];decide)) (fun _=>⟨s3,h3e,by rw [h3p,nx],_,rfl⟩)
   ·rw [if_neg m] at nx
    refine aU (fun _=>?_) (fun c=>absurd (by show (!inV (V.str (N a)) (sS (rds N (ts.take i))))=true;rw [lA,decide_eq_false m];rfl) c)
    refine ⟨Or.inl ⟨rfl,_,SqL.of h3p⟩,_,_,_,rfl,rfl,h3p,aH (by rw [List.length_map];unfold rds;omega),⟨ai.out s3 hp _,ar hpe.symm h3e,?_,_,rfl⟩⟩
    rw [ao,nx]
    simp [sS,Th.v]
 ·rintro σ H3 ⟨s3,h3e,h3p,v,rfl⟩
  rw [show ts.take (ts.map (Th.v N)).length=ts by rw [List.length_map];exact List.take_length] at h3p
  exact q p H3 hp s3 h3p
def tTh:Pt->List Th
 | .leaf _ (.set _ v)=>vTh v
 | .leaf _ (.snd _ v)=>vTh v
 | .leaf _ (.put _ t v)=>t :: vTh v
 | .iff _ v _ _ _ _=>vTh v
 | .loop _ t _ _ _ _=>[t]
 | _=>[]
theorem dv (v:Val):(vTh v).length <= 2:=by cases v <;> simp [vTh]
theorem xw (t:Pt):(tTh t).length <= 3:=by
 cases t with
 | leaf n r =>
  cases r with
  | set _ v=>exact Nat.le_succ_of_le (dv v)
  | snd _ v=>exact Nat.le_succ_of_le (dv v)
  | put _ _ v=>exact Nat.succ_le_succ (dv v)
  | _=>simp [tTh]
 | iff n v _ _ _ _=>exact Nat.le_succ_of_le (dv v)
 | _=>simp [tTh]
def gE (acc:List Str) (x:Str):List Str:=if x ∈ acc then acc else acc ++ [x]
def cb (acc xs:List Str):List Str:=xs.foldl gE acc
theorem qI:∀(xs acc:List Str),(cb acc xs).length <= xs.length + acc.length
 | [],acc=>by simp [cb]
 | x :: xs,acc=>by
  have h:=qI xs (gE acc x)
  have h2:(gE acc x).length <= acc.length + 1:=by
   unfold gE
   split <;> simp
  show (cb (gE acc x) xs).length <= _
  rw [List.length_cons]
  omega
theorem zF (N:Nat->Str) (t:Th) (v:Val):cb [] (rds N [t] ++ rds N (vTh v))=rds N (t :: vTh v):=by
 cases t with
 | i n =>
  show cb [] ([] ++ rds N (vTh v))=rds N (vTh v)
  rw [List.nil_append]
  cases v with
  | one b=>cases b <;> simp [vTh,rds,rdS,cb,gE]
  | op b x c =>
   cases b with
   | i m=>cases c <;> simp [vTh,rds,rdS,cb,gE]
   | x b =>
    cases c with
    | i m=>simp [vTh,rds,rdS,cb,gE]
    | x c =>
     by_cases e:N c=N b
     ·simp [vTh,rds,rdS,cb,gE,e]
     ·simp [vTh,rds,rdS,cb,gE,e]
 | x a =>
  cases v with
  | one b =>
   cases b with
   | i m=>simp [vTh,rds,rdS,cb,gE]
   | x b=>simp [vTh,rds,rdS,cb,gE]
  | op b y c =>
   cases b with
   | i m=>cases c <;> simp [vTh,rds,rdS,cb,gE]
   | x b =>
    cases c with
    | i m=>simp [vTh,rds,rdS,cb,gE]
    | x c =>
     by_cases e:N c=N b
     ·by_cases e2:N b=N a
      ·simp [vTh,rds,rdS,cb,gE,e,e2]
      ·simp [vTh,rds,rdS,cb,gE,e,e2]
     ·by_cases e2:N b=N a
      ·have e3:¬ N c=N a:=fun z=>e (z.trans e2.symm)
       simp [vTh,rds,rdS,cb,gE,e2,e3]
      ·by_cases e3:N c=N a
       ·have e4:¬ N a=N b:=fun z=>e2 z.symm
        simp [vTh,rds,rdS,cb,gE,e2,e3,e4]
       ·simp [vTh,rds,rdS,cb,gE,e,e2,e3]
inductive cq (A:Adr) (i:Nat) (vs:List V) (H:Hp) (Q:VK) (E9:XK):Prop
 | mk (N:Nat->Str) (X:Hp) (v:V) (t:Pt) (z0:vs=[v]) (z1:ai X H) (z2:aV A N X v t) (z3:t.ci=i)
  (z4:∀(p:Addr) (H':Hp),H p=none->ai H H'->H' p=some (.lst (sS (rds N (tTh t))))->Q (.ref p) H'):cq A i vs H Q E9
inductive wg (K:W.Frag) (vs:List V) (H:Hp) (Q:VK) (E9:XK):Prop
 | mk (t:Addr) (xs:List Str) (z0:vs=[.ref t]) (z1:SqL K H t (sS xs)) (z3:xs.length <= 100)
  (z4:∀(p:Addr) (H':Hp),H p=none->ai H H'->H' p=some (.lst (sS (cb [] xs)))->Q (.ref p) H'):wg K vs H Q E9
theorem D7 (T:Txt K mg A):T.mV.Hz P w base 1 (wg K):=by
 refine T.mV.hs iI (fun f cdv A' outer s H vs Q E' hr hu h=>?_)
 obtain ⟨t,xs,rfl,hT,hl,q⟩:=h
 refine ⟨_,(ae (pst 1 iI.nd (aC ab))
  (ae (cy PassesOwn.never rfl (cR (fv 0)) (pgn (i:=2) iI.nd rfl)
   (ah (aL (ptc (iH hu) (fv 2) (fv 1) ((by with_unfolding_all rfl)))
    (ah (aE (aT (fv 1) (aa (fv 2) ab))))
    aB)))
  (ah (aw (fv 1))))),?_⟩
 refine ag fun M1 K1=>⟨Nat.zero_le _,fun p hp=>?_⟩
 obtain ⟨s1,e1⟩:=alc hp (HO.lst [])
 generalize upd H p _=H1 at s1 e1 ⊢
 refine K1 _ _ ?_
 clear K1 M1
 try dsimp only
 refine ag fun M1 K1=>Or.inl ⟨⟨_,s1.seq hT⟩,cN (K:=K) (xs:=sS xs) (fun i σ H3=>ai H H3/\H3 p=some (.lst (sS (cb [] (xs.take i))))/\∃v,σ=[some (.ref t),some (.ref p),v]) ⟨s1,e1,none,rfl⟩ (fun i σ H3 _ h=>h.1.seq hT) ?_ ?_⟩
 ·rintro i x σ H3 hi ⟨s3,h3p,v,rfl⟩
  rw [List.getElem?_map] at hi
  cases ht:xs[i]? with
  | none=>rw [ht] at hi;cases hi
  | some y =>
  rw [ht] at hi
  cases hi
  have nx:cb [] (xs.take (i + 1))=gE (cb [] (xs.take i)) y:=lQ gE [] ht
  have ll:=qI (xs.take i) []
  rw [List.length_take,List.length_nil] at ll
  try dsimp only
  refine Or.inl ⟨_,Or.inl (SqL.of h3p),rfl,mU _,_,rfl,?_⟩
  unfold gE at nx
  by_cases m:y ∈ cb [] (xs.take i)
  ·rw [if_pos m] at nx
   exact aU (fun c=>absurd c (by show ¬ (!inV (V.str y) (sS (cb [] (xs.take i))))=true;rw [lA,decide_eq_true m];decide)) (fun _=>⟨s3,by rw [h3p,nx],_,rfl⟩)
  ·rw [if_neg m] at nx
   refine aU (fun _=>?_) (fun c=>absurd (by show (!inV (V.str y) (sS (cb [] (xs.take i))))=true;rw [lA,decide_eq_false m];rfl) c)
   refine ⟨Or.inl ⟨rfl,_,SqL.of h3p⟩,_,_,_,rfl,rfl,h3p,aH (by rw [List.length_map];omega),⟨ai.out s3 hp _,?_,_,rfl⟩⟩
   rw [ao,nx]
   simp [sS]
 ·rintro σ H3 ⟨s3,h3p,v,rfl⟩
  rw [show xs.take (sS xs).length=xs by rw [List.length_map];exact List.take_length] at h3p
  exact K1 _ _ (q p H3 hp s3 h3p)
theorem pD (T:Txt K mg A):T.fG.Hz P w mg base 2 (cq A 5):=by
 refine T.fG.hs (k:=1) nH (fun f cdv A' outer s H vs Q E' hr hu h=>?_)
 obtain ⟨N,X,v,t,rfl,s0,pa,ec,q⟩:=h
 refine ⟨_,(ah (aw (ak (j8 T) hr (aa (aJ (fv 0) rfl) ab)))),?_⟩
 cases t with
 | leaf n r =>
  unfold aV at pa
  obtain ⟨a,dx,p,rfl,h1,h2⟩:=pa
  cases r with
  | set h val=>exact fdI (s0 _ _ h1) T.di.cl T.fO rfl ⟨N,p,_,vTh val,rfl,SqT.of (s0 _ _ (h2 _ rfl)),mD N val,Nat.le_trans (dv val) (by decide),q⟩
  | _=>cases ec
 | _=>cases ec
theorem pW (T:Txt K mg A):T.gb.Hz P w mg base 2 (cq A 6):=by
 refine T.gb.hs (k:=1) nU (fun f cdv A' outer s H vs Q E' hr hu h=>?_)
 obtain ⟨N,X,v,t,rfl,s0,pa,ec,q⟩:=h
 refine ⟨_,(ah (aw (ak (D7 T) hr (aa (au aK (ak (j8 T) hr (aa (aI (aa (aJ (fv 0) rfl) ab)) ab)) (ak (j8 T) hr (aa (aJ (fv 0) rfl) ab))) ab)))),?_⟩
 cases t with
 | leaf n r =>
  unfold aV at pa
  obtain ⟨a,dx,p,rfl,h1,h2⟩:=pa
  cases r with
  | put h pl val =>
   refine fdI (s0 _ _ h1) T.cM.cl T.gh rfl ⟨by show 1 <= sizeLine;decide,fun tp htp=>?_⟩
   obtain ⟨s1,e1⟩:=alc htp (HO.tup [pl.v N])
   generalize upd H tp _=H1 at s1 e1 ⊢
   refine ⟨N,tp,_,[pl],rfl,SqT.of e1,mD N (.one pl),by simp,fun L1 H2 f2 s2 e2=>?_⟩
   have s12:=s1.trans s2
   refine fdI ((s0.trans s12) _ _ h1) T.cM.cl T.gr rfl ⟨N,p,_,vTh val,rfl,SqT.of ((s0.trans s12) _ _ (h2 _ rfl)),mD N val,Nat.le_trans (dv val) (by decide),fun L2 H3 f3 s3 e3=>?_⟩
   have l1:=j7 N [pl] []
   have l2:=j7 N (vTh val) []
   have l3:=dv val
   simp only [List.length_singleton,List.length_nil] at l1 l2
   refine ⟨L1,L2,_,_,rfl,rfl,s3 _ _ e2,e3,sz (by rw [List.length_map,List.length_map];unfold rds;omega),fun L3 hL3=>?_⟩
   obtain ⟨s4,e4⟩:=alc hL3 (HO.lst (sS (rds N [pl]) ++ sS (rds N (vTh val))))
   generalize upd H3 L3 _=H4 at s4 e4 ⊢
   have t4:=s12.trans (s3.trans s4)
   refine ⟨L3,rds N [pl] ++ rds N (vTh val),rfl,SqL.of (by rw [e4];simp [sS]),by rw [List.length_append];unfold rds;omega,fun R H5 f5 s5 e5=>q R H5 (ai.free t4 f5) (t4.trans s5) (by rw [e5,zF];rfl)⟩
  | _=>cases ec
 | _=>cases ec
theorem nK (T:Txt K mg A):T.eU.Hz P w mg base 2 (cq A 7):=by
 refine T.eU.hs (k:=1) lY (fun f cdv A' outer s H vs Q E' hr hu h=>?_)
 obtain ⟨N,X,v,t,rfl,s0,pa,ec,q⟩:=h
 refine ⟨_,(ah (aw (ak (j8 T) hr (aa (aJ (fv 0) rfl) ab)))),?_⟩
 cases t with
 | leaf n r =>
  unfold aV at pa
  obtain ⟨a,dx,p,rfl,h1,h2⟩:=pa
  cases r with
  | snd h val=>exact fdI (s0 _ _ h1) T.cW.cl T.eG rfl ⟨N,p,_,vTh val,rfl,SqT.of (s0 _ _ (h2 _ rfl)),mD N val,Nat.le_trans (dv val) (by decide),q⟩
  | _=>cases ec
 | _=>cases ec
theorem qr (T:Txt K mg A):T.hX.Hz P w mg base 2 (cq A 11):=by
 refine T.hX.hs (k:=1) pV (fun f cdv A' outer s H vs Q E' hr hu h=>?_)
 obtain ⟨N,X,v,t,rfl,s0,pa,ec,q⟩:=h
 refine ⟨_,(ah (aw (ak (j8 T) hr (aa (aJ (fv 0) rfl) ab)))),?_⟩
 cases t with
 | iff n val l r f o =>
  unfold aV at pa
  obtain ⟨a,dx,p,pf,po,xf,xo,rfl,h1,h2,_⟩:=pa
  exact fdI (s0 _ _ h1) T.bQ.cl T.hJ rfl ⟨N,p,_,vTh val,rfl,SqT.of (s0 _ _ h2),mD N val,Nat.le_trans (dv val) (by decide),q⟩
 | leaf n r=>cases r <;> cases ec
 | _=>cases ec
theorem nE (T:Txt K mg A):T.eZ.Hz P w mg base 2 (cq A 12):=by
 refine T.eZ.hs (k:=1) l8 (fun f cdv A' outer s H vs Q E' hr hu h=>?_)
 obtain ⟨N,X,v,t,rfl,s0,pa,ec,q⟩:=h
 refine ⟨_,(ah (aw (ak (j8 T) hr (aa (aI (aa (aJ (fv 0) rfl) ab)) ab)))),?_⟩
 cases t with
 | loop n t m l r b =>
  unfold aV at pa
  obtain ⟨a,dx,pb,xb,rfl,h1,_⟩:=pa
  exact fdI (s0 _ _ h1) T.bu.cl T.eV rfl ⟨by show 1 <= sizeLine;decide,fun tp htp=>⟨N,tp,_,[t],rfl,SqT.of ao,mD N (.one t),by simp,fun p H' hp s1 e1=>q p H' (ai.free (ai.upd htp _) hp) ((ai.upd htp _).trans s1) e1⟩⟩
 | leaf n r=>cases r <;> cases ec
 | _=>cases ec
def Dt (A:Adr) (C:Addr) (sp:Sp):Prop:=∃i,(i=5 \/ i=6 \/ i=7 \/ i=11 \/ i=12)/\C=clI A i/\sp=cq A i
theorem BG (T:Txt K mg A):∀C sp,Dt A C sp->Cls K C/\∃ps,tu P w K mg base 2 C "reads" ps sp:=by
 rintro C sp ⟨i,rfl | rfl | rfl | rfl | rfl,rfl,rfl⟩
 ·exact ⟨T.di.cl,_,pD T⟩
 ·exact ⟨T.cM.cl,_,pW T⟩
 ·exact ⟨T.cW.cl,_,nK T⟩
 ·exact ⟨T.bQ.cl,_,qr T⟩
 ·exact ⟨T.bu.cl,_,nE T⟩
end
section
variable {P:Program}{w:World}{K:W.Frag}{mg:Str->Option Value}{base:Heap}{A:Adr}{N:Nat->Str}
seal PE PA PS PSs PT PW
structure Lk where
 fr:Str
 to:Str
 kd:Str
 no:Int
def Lk.vs (l:Lk):List V:=[.str l.fr,.str l.to,.str l.kd,.int l.no]
def LkR (l:Lk) (y:V) (H:Hp):Prop:=∃t,y=V.ref t/\H t=some (.tup l.vs)
def Lks (H:Hp) (ls:List Lk) (ys:List V):Prop:=Paired (fun l y=>LkR l y H) ls ys
theorem Lks.same {H H':Hp} (s:∀x w,H x=some (.tup w)->H' x=some (.tup w)) {ls:List Lk}{ys:List V} (h:Lks H ls ys):Lks H' ls ys:=Paired.nX h fun _ _ ⟨t,e,h1⟩=>⟨t,e,s _ _ h1⟩
theorem kF {α β γ:Type}{F:α->β->Prop} (g:γ->α):∀{l:List γ}{m:List β},Paired (fun x y=>F (g x) y) l m->Paired F (l.map g) m
 | _,_,.nil=>.nil
 | _,_,.cons h r=>.cons h (kF g r)
def drP (into:Str):Option Str->Bool
 | none=>false
 | some x=>!decide (x=into)
def drw (fs:List (Option Str)) (into kd:Str) (n:Int):List Lk:=(fs.filter (drP into)).map fun f=>⟨f.getD Str.empty,into,kd,n⟩
theorem cD (fs:List (Option Str)) (into kd:Str) (n:Int):(drw fs into kd n).length <= fs.length:=by
 unfold drw
 rw [List.length_map]
 exact List.length_filter_le _ _
inductive iC (K:W.Frag) (vs:List V) (H:Hp) (Q:VK) (E9:XK):Prop
 | mk (L:Addr) (fs:List (Option Str)) (into kd:Str) (n:Int) (z0:vs=[.ref L,.str into,.str kd,.int n]) (z1:SqL K H L (fs.map oS)) (z2:fs.length <= 100)
  (z3:∀(R:Addr) (ys:List V) (H':Hp),ai H H'->H R=none->H' R=some (.lst ys)->Lks H' (drw fs into kd n) ys->Q (.ref R) H'):iC K vs H Q E9
theorem oe (T:Txt K mg A):T.drawn.Hz P w base 1 (iC K):=by
 refine T.drawn.hs zP (fun f cdv A' outer s H vs Q E' hr hu h=>?_)
 obtain ⟨L,fs,into,kd,n,rfl,hL,hl,q⟩:=h
 refine ⟨_,(ah (aw (gI (N:=["one","into","kind","number"]) (own:=1) (fr:=[1,2,3]) (cc.of (by kernel_rfl!)) rfl (cR (fv 0)) (fun b=>pgn (i:=0) (show List.Nodup (["one","into","kind","number"]:List PySem.Str) by decide +kernel) rfl) (fun b=>vH (PW.pt (pw_and (ptc xg (fv 0) cB) (pw_and1 (ptc (nY hu) (fv 0) (fv 1)))))) (fun b=>aI (aa (fv 0) (aa (fv 1) (aa (fv 2) (aa (fv 3) ab)))))))),Or.inl ⟨⟨_,hL⟩,lg (K:=K) (own:=1) fs (drP into) (fun f y H=>LkR ⟨f.getD Str.empty,into,kd,n⟩ y H) hL (List.length_map _) (by rw [List.length_map];exact aH (by omega)) ?_ ?_ ?_ ?_⟩⟩
 ·intro b i x e v0 H1 Nn Y hx he hv s1 no yes
  obtain ⟨u0,rfl⟩:∃u0,v0=[u0]:=by
   match v0,hv with
   | [u],_=>exact ⟨u,rfl⟩
  rw [List.getElem?_map,he] at hx
  cases hx
  cases e with
  | none=>exact ⟨rfl,_,rfl,bz (bz (no rfl [some .non] _ rfl (ai.refl _)))⟩
  | some x =>
   refine ⟨rfl,_,rfl,c0 ⟨rfl,_,rfl,?_⟩⟩
   by_cases c:x=into
   ·subst c
    exact aU (fun z=>absurd z (by show ¬ (!decide (V.str x=V.str x))=true;rw [decide_eq_true rfl];decide)) (fun _=>no (by show (!decide (x=x))=false;rw [decide_eq_true rfl];rfl) [some (.str x)] _ rfl (ai.refl _))
   ·refine aU (fun _=>?_) (fun z=>absurd (by show (!decide (V.str x=V.str into))=true;rw [D3,decide_eq_false c];rfl) z)
    exact ⟨by show 4 <= sizeLine;decide,fun tp htp=>yes (by show (!decide (x=into))=true;rw [decide_eq_false c];rfl) [some (.str x)] _ _ rfl (ai.upd htp _) ⟨tp,rfl,ao⟩⟩
 ·rintro e y H1 H2 s1 ⟨t,e1,h1⟩
  exact ⟨t,e1,s1 _ _ h1⟩
 ·rintro e y H1 D ys zs hD ⟨t,e1,h1⟩
  exact ⟨t,e1,ar (fun z=>by rw [z,hD] at h1;cases h1) h1⟩
 ·intro D H1 ys hD s1 e1 pr
  exact q D ys H1 s1 hD e1 (kF _ pr)
end
section
variable {P:Program}{w:World}{K:W.Frag}{mg:Str->Option Value}{base:Heap}{A:Adr}{N:Nat->Str}
seal PE PA PS PSs PT PW
def nP (N:Nat->Str) (n:Int) (tp:Th × Str):List Lk:=match tp.1 with
 | .i _=>[]
 | .x a=>drw [some (N a)] tp.2 "value" n
def clA (N:Nat->Str) (n:Int) (l:List (Th × Str)):List Lk:=l.flatMap (nP N n)
def clB (pl:Option Str) (n:Int) (l:List Str):List Lk:=l.flatMap fun into=>drw [pl] into "under" n
theorem mZ {α β:Type} (f:α->List β) (h:∀x,(f x).length <= 1):∀l:List α,(l.flatMap f).length <= l.length
 | []=>Nat.le_refl _
 | x :: l=>by
  have h1:=mZ f h l
  have h2:=h x
  rw [List.flatMap_cons,List.length_append,List.length_cons]
  omega
theorem rH (n:Int) (tp:Th × Str):(nP N n tp).length <= 1:=by
 unfold nP
 split
 ·simp
 ·exact cD _ _ _ _
theorem oy {H Hc He:Hp}{R R2:Addr}{ls ms:List Lk}{ys zs:List V} (s3:ai Hc He) (hRc:Hc R=some (.lst ys)) (ly:Lks Hc ls ys) (l3:Lks He ms zs):Lks (upd He R (.lst (ys ++ zs))) (ls ++ ms) (ys ++ zs):=by
 have dR:∀x w,He x=some (.tup w)->upd He R (.lst (ys ++ zs)) x=some (.tup w):=fun x w e=>ar (fun y=>by rw [y,s3 _ _ hRc] at e;cases e) e
 exact Paired.two (ly.same fun x w e=>dR x w (s3 _ _ e)) (l3.same dR)
inductive qM (A:Adr) (vs:List V) (H:Hp) (Q:VK) (E9:XK):Prop
 | mk (N:Nat->Str) (X:Hp) (v:V) (n:Int) (i:Nat) (ts:List Th) (pl:Option Str) (pp:Addr) (ps:List Str) (z0:vs=[v,oS pl,.ref pp]) (z1:ai X H) (z2:aV A N X v (.leaf n (.call i ts))) (z3:X pp=some (.lst (sS ps))) (z4:ts.length=ps.length) (z5:ps.length <= 100)
  (z6:∀(R:Addr) (ys:List V) (H':Hp),ai H H'->H R=none->H' R=some (.lst ys)->Lks H' (clA N n (ts.zip ps) ++ clB pl n (ps ++ [N i])) ys->Q (.ref R) H'):qM A vs H Q E9
theorem zE (T:Txt K mg A):T.iP.Hz P w base 2 (qM A):=by
 refine T.iP.hs (k:=1) cn (fun f cdv A' outer s H vs Q E' hr hu h=>?_)
 obtain ⟨N,X,v,n,i,ts,pl,pp,ps,rfl,s0,pa,hpp,tl,pl1,q⟩:=h
 unfold aV at pa
 obtain ⟨a,dx,p,rfl,h1,h2⟩:=pa
 have h2:=h2 _ rfl
 refine ⟨_,(ae (pst 3 cn.nd (aC ab))
  (ae (cy PassesOwn.never rfl (Dc rfl T.xq (aa (aJ (fv 0) rfl) (aa (fv 2) ab))) (iK rfl (bf (pgn (i:=4) cn.nd rfl) (bf (pgn (i:=5) cn.nd rfl) fC)))
   (ah (aL (bU (pcB br T.aG (aa (fv 4) (aa (iV (v:=.ty "str") rfl T.ni (by boot_by_name) rfl) ab))) (fun _=>rfl))
    (ah (aE (gi (fv 3) (aa (ak (oe T) hr (aa (aC (aa (fv 4) ab)) (aa (fv 5) (aa aj (aa (aJ (fv 0) rfl) ab))))) ab))))
    aB)))
  (ae (cy PassesOwn.never rfl (cR (au aK (fv 2) (aC (aa (aJ (fv 0) rfl) ab)))) (pgn (i:=6) cn.nd rfl)
   (ah (aE (gi (fv 3) (aa (ak (oe T) hr (aa (aC (aa (fv 1) ab)) (aa (fv 6) (aa aj (aa (aJ (fv 0) rfl) ab))))) ab)))))
  (ah (aw (fv 3)))))),?_⟩
 refine ag fun M1 K1=>⟨Nat.zero_le _,fun R hR=>?_⟩
 obtain ⟨s1,e1⟩:=alc hR (HO.lst [])
 generalize upd H R _=H1 at s1 e1 ⊢
 refine K1 _ _ ?_
 clear K1 M1
 try dsimp only
 refine ag fun M1 K1=>?_
 have sX1:=s0.trans s1
 refine fdI (sX1 _ _ h1) T.bO.cl T.dE rfl ⟨_,_,rfl,⟨_,SqL.of (sX1 _ _ h2)⟩,⟨_,SqL.of (sX1 _ _ hpp)⟩,AW (K:=K) (xs:=ts.map (Th.v N)) (ys:=sS ps) (fun j σ Hc=>∃(ys:List V) (v4 v5:Option V),σ=[some (.ref a),some (oS pl),some (.ref pp),some (.ref R),v4,v5,none]/\ai H Hc/\Hc R=some (.lst ys)/\Lks Hc (clA N n ((ts.zip ps).take j)) ys) ⟨[],none,none,rfl,s1,e1,.nil⟩ (fun j σ Hc _ ⟨_,_,_,_,z,_⟩=>⟨SqL.of ((s0.trans z) _ _ h2),SqL.of ((s0.trans z) _ _ hpp)⟩) (by rw [List.length_map,List.length_map];exact tl) ?_ ?_⟩
 ·rintro j x y σ Hc tp hx hy ⟨ys,v4,v5,rfl,sc,hRc,ly⟩ htp
  rw [List.getElem?_map] at hx hy
  cases ht:ts[j]? with
  | none=>rw [ht] at hx;cases hx
  | some th =>
  cases hp:ps[j]? with
  | none=>rw [hp] at hy;cases hy
  | some pn =>
  rw [ht] at hx
  rw [hp] at hy
  cases hx
  cases hy
  have hz:(ts.zip ps)[j]?=some (th,pn):=List.getElem?_zip_eq_some.mpr ⟨ht,hp⟩
  have st:clA N n ((ts.zip ps).take (j + 1))=clA N n ((ts.zip ps).take j) ++ nP N n (th,pn):=j9 (nP N n) hz
  have sl:=mZ (nP N n) (rH n) ((ts.zip ps).take j)
  rw [List.length_take,List.length_zip] at sl
  have lly:=Paired.length ly
  unfold clA at lly
  have sp:=ai.upd htp (.tup [th.v N,.str pn])
  have tR:tp ≠ R:=fresh_ne htp hRc
  try dsimp only
  refine ⟨tp,_,rfl,SqT.of ao,rfl,_,_,rfl,_,_,rfl,rfl,?_⟩
  cases th with
  | i m =>
   refine ⟨_,_,_,false,rfl,(fun z=>by cases z),.int m,vz,false,rfl,bz ⟨ys,_,_,rfl,sc.trans sp,sp _ _ hRc,?_⟩⟩
   rw [st]
   show Lks _ (_ ++ []) ys
   rw [List.append_nil]
   exact ly.same fun x w e=>sp _ _ e
  | x b =>
   refine ⟨_,_,_,true,rfl,(fun z=>by cases z),.str _,vt,true,rfl,c0 ⟨Or.inl ⟨rfl,_,SqL.of (sp _ _ hRc)⟩,by show 1 <= sizeLine;decide,fun q1 hq1=>?_⟩⟩
   have sq:=ai.upd hq1 (.lst [Th.v N (.x b)])
   refine fdI ((((s0.trans sc).trans sp).trans sq) _ _ h1) T.bO.cl T.b6 rfl ⟨q1,[some (N b)],pn,"value",n,rfl,SqL.of ao,by simp,fun R2 zs He s3 hR2 eR2 l3=>?_⟩
   have lz:=Paired.length l3
   have dl:=cD [some (N b)] pn "value" n
   have s4:=(sp.trans sq).trans s3
   refine ⟨_,_,_,_,rfl,rfl,s4 _ _ hRc,eR2,sz (by simp only [List.length_singleton] at dl;omega),⟨_,_,_,rfl,ai.out (sc.trans s4) hR _,ao,?_⟩⟩
   rw [st]
   exact oy (H:=H) (R2:=R2) s4 hRc ly l3
 rintro σ Hc ⟨ys,v4,v5,rfl,sc,hRc,ly⟩
 rw [show (ts.zip ps).take (ts.map (Th.v N)).length=ts.zip ps by rw [List.length_map];exact List.take_of_length_le (by rw [List.length_zip];omega)] at ly
 have l1:(clA N n (ts.zip ps)).length <= 100:=Nat.le_trans (mZ (nP N n) (rH n) _) (by rw [List.length_zip];omega)
 refine K1 _ _ ?_
 clear K1 M1
 generalize clA N n (ts.zip ps)=LA at ly l1 q
 try dsimp only
 refine ag fun M1 K1=>?_
 have sX:=s0.trans sc
 refine fdI (sX _ _ h1) T.bO.cl T.cH rfl ⟨by show 1 <= sizeLine;decide,fun q1 hq1=>?_⟩
 have sq:=ai.upd hq1 (.lst [.str (N i)])
 refine ⟨pp,q1,_,_,rfl,rfl,(sX.trans sq) _ _ hpp,ao,sz (by rw [List.length_map,List.length_singleton];omega),fun q2 hq2=>?_⟩
 have sq2:=ai.upd hq2 (.lst (sS ps ++ [.str (N i)]))
 have es:sS ps ++ [V.str (N i)]=sS (ps ++ [N i]):=by simp [sS]
 rw [es] at sq2 ⊢
 have eq2:upd (upd Hc q1 (.lst [.str (N i)])) q2 (.lst (sS (ps ++ [N i]))) q2=some (.lst (sS (ps ++ [N i]))):=ao
 have sc2:=sq.trans sq2
 have q2R:q2 ≠ R:=fresh_ne hq2 (sq _ _ hRc)
 generalize upd (upd Hc q1 (.lst [.str (N i)])) q2 (.lst (sS (ps ++ [N i])))=H2 at sc2 eq2 ⊢
 have is1:(ps ++ [N i]).length <= 101:=by simp;omega
 generalize ps ++ [N i]=is at eq2 is1 q
 refine Or.inl ⟨⟨_,SqL.of eq2⟩,cN (K:=K) (xs:=sS is) (fun j σ Hd=>∃(zs:List V) (v6:Option V),σ=[some (.ref a),some (oS pl),some (.ref pp),some (.ref R),v4,v5,v6]/\Sm [R] H2 Hd/\Hd R=some (.lst zs)/\Lks Hd (LA ++ clB pl n (is.take j)) zs) ⟨ys,none,rfl,Sm.refl _ _,sc2 _ _ hRc,by show Lks _ (_ ++ []) _;rw [List.append_nil];exact ly.same fun x w e=>sc2 _ _ e⟩ (fun j σ Hd _ ⟨_,_,_,z,_⟩=>SqL.of (z _ _ (fun m=>q2R (List.mem_singleton.mp m)) eq2)) ?_ ?_⟩
 ·rintro j x σ Hd hx ⟨zs,v6,rfl,sd,hRd,lz⟩
  rw [List.getElem?_map] at hx
  cases hi:is[j]? with
  | none=>rw [hi] at hx;cases hx
  | some into =>
  rw [hi] at hx
  cases hx
  have st:clB pl n (is.take (j + 1))=clB pl n (is.take j) ++ drw [pl] into "under" n:=j9 _ hi
  have sl:=mZ (fun into=>drw [pl] into "under" n) (fun x=>cD _ _ _ _) (is.take j)
  rw [List.length_take] at sl
  have llz:=Paired.length lz
  unfold clB at llz
  rw [List.length_append] at llz
  have sX2:ai H Hd:=sd.same (sc.trans sc2) (fun m hm=>by rw [List.mem_singleton.mp hm];exact hR)
  try dsimp only
  refine ⟨Or.inl ⟨rfl,_,SqL.of hRd⟩,by show 1 <= sizeLine;decide,fun q3 hq3=>?_⟩
  have sq3:=ai.upd hq3 (.lst [oS pl])
  refine fdI (((s0.trans sX2).trans sq3) _ _ h1) T.bO.cl T.b6 rfl ⟨q3,[pl],into,"under",n,rfl,SqL.of ao,by simp,fun R2 ws He s3 hR2 eR2 l3=>?_⟩
  have lw:=Paired.length l3
  have dl:=cD [pl] into "under" n
  have s4:=sq3.trans s3
  refine ⟨_,_,_,_,rfl,rfl,s4 _ _ hRd,eR2,sz (by simp only [List.length_singleton] at dl;omega),⟨_,_,rfl,(sd.trans (Sm.new s4)).trans (Sm.at (List.mem_singleton.mpr rfl) _),ao,?_⟩⟩
  rw [st,<- List.append_assoc]
  exact oy (H:=H) (R2:=R2) s4 hRd lz l3
 rintro σ Hd ⟨zs,v6,rfl,sd,hRd,lz⟩
 rw [show is.take (sS is).length=is by rw [List.length_map];exact List.take_length] at lz
 exact K1 _ _ (q R zs Hd (sd.same (sc.trans sc2) (fun m hm=>by rw [List.mem_singleton.mp hm];exact hR)) hR hRd lz)
end
section
variable {P:Program}{w:World}{K:W.Frag}{mg:Str->Option Value}{base:Heap}{A:Adr}{N:Nat->Str}
seal PE PA PS PSs PT PW
def k5:Pt->Bool
 | .leaf _ (.set _ _)=>true
 | .leaf _ (.put _ _ _)=>true
 | .leaf _ (.snd _ _)=>true
 | .leaf _ (.say _ _ _)=>true
 | .leaf _ (.call _ _)=>true
 | .leaf _ .last=>true
 | .iff _ _ _ _ _ _=>true
 | .loop _ _ _ _ _ _=>true
 | _=>false
def drI (N:Nat->Str) (t:Pt) (into kd:Str) (pl:Option Str):List Lk:=drw ((rds N (tTh t)).map some) into kd t.no ++ drw [pl] into "under" t.no
def saL (pl:Option Str) (x m:Str) (n:Int):List Lk:=drw [some m] x "value" n ++ drw [pl] x "under" n ++ drw [pl] (aZ n) "under" n
def qb (N:Nat->Str) (po:Str->List Str) (t:Pt) (pl lp:Option Str):List Lk:=match t with
 | .leaf n (.set x v)=>drI N (.leaf n (.set x v)) (N x) "value" pl
 | .leaf n (.put x p v)=>drI N (.leaf n (.put x p v)) (N x) "value" pl
 | .leaf n (.call i ts)=>clA N n (ts.zip (po (N i))) ++ clB pl n (po (N i) ++ [N i])
 | .leaf n (.snd h v)=>drI N (.leaf n (.snd h v)) (aZ n) "value" pl
 | .leaf n (.say x _ m)=>saL pl (N x) (N m) n
 | .leaf n .last=>drw [pl] (lp.getD Str.empty) "under" n
 | .iff n v l r f o=>drI N (.iff n v l r f o) (aZ n) "test" pl
 | .loop n t m l r b=>drI N (.loop n t m l r b) (aZ n) "test" pl
 | _=>[]
theorem xD (t:Pt) (into kd:Str) (pl:Option Str):(drI N t into kd pl).length <= 4:=by
 unfold drI
 have h1:=cD ((rds N (tTh t)).map some) into kd t.no
 have h2:=cD [pl] into "under" t.no
 have h3:=j7 N (tTh t) []
 have h4:=xw t
 rw [List.length_map] at h1
 rw [List.length_append]
 simp only [List.length_singleton,List.length_nil] at h2 h3
 unfold rds at h1 ⊢
 omega
def lOk (t:Pt) (lp:Option Str):Prop:=t.ci=10->lp.isSome=true
def yG (X H:Hp) (D:Addr) (po:Str->List Str) (nm:List Str):Prop:=∃kvs,H D=some (.dK kvs)/\∀x ∈ nm,(po x).length <= 100/\∃pp,L2.bX kvs (.inr x)=some (.ref pp)/\X pp=some (.lst (sS (po x)))
theorem yG.same {X H H':Hp}{D:Addr}{po:Str->List Str}{nm:List Str} (h:yG X H D po nm) (e:∀kvs,H D=some (.dK kvs)->H' D=some (.dK kvs)):yG X H' D po nm:=by
 obtain ⟨kvs,h1,h2⟩:=h
 exact ⟨kvs,e _ h1,h2⟩
def yx (N:Nat->Str) (po:Str->List Str) (nm:List Str):Pt->Prop
 | .leaf _ (.call i ts)=>N i ∈ nm/\ts.length=(po (N i)).length
 | _=>True
inductive wO (A:Adr) (vs:List V) (H:Hp) (Q:VK) (E9:XK):Prop
 | mk (N:Nat->Str) (X:Hp) (v:V) (t:Pt) (pl lp:Option Str) (D:Addr) (po:Str->List Str) (nm:List Str) (z0:vs=[v,oS pl,oS lp,.ref D]) (z1:ai X H) (z2:aV A N X v t) (z3:k5 t=true) (z4:0 <= t.no/\t.no <= 1000) (z8:lOk t lp) (z5:yG X H D po nm) (z6:yx N po nm t)
  (z7:∀(R:Addr) (ys:List V) (H':Hp),ai H H'->H R=none->H' R=some (.lst ys)->Lks H' (qb N po t pl lp) ys->Q (.ref R) H'):wO A vs H Q E9
inductive wU (A:Adr) (vs:List V) (H:Hp) (Q:VK) (E9:XK):Prop
 | mk (N:Nat->Str) (X:Hp) (v:V) (n:Int) (x m:Nat) (val:Val) (pl:Option Str) (z0:vs=[v,oS pl]) (z1:ai X H) (z2:aV A N X v (.leaf n (.say x val m))) (z4:0 <= n/\n <= 1000)
  (z7:∀(R:Addr) (ys:List V) (H':Hp),ai H H'->H R=none->H' R=some (.lst ys)->Lks H' (saL pl (N x) (N m) n) ys->Q (.ref R) H'):wU A vs H Q E9
theorem CI (T:Txt K mg A):T.kX.Hz P w base 2 (wU A):=by
 have D_drawn:=oe (P:=P) (w:=w) (base:=base) T
 refine T.kX.hs (k:=1) kq (fun f cdv A' outer s H vs Q E' hr hu h=>?_)
 obtain ⟨N,X,v,n,x,m,val,pl,rfl,s0,pa,nt,q⟩:=h
 unfold aV at pa
 obtain ⟨a,dx,p,rfl,h1,_⟩:=pa
 refine ⟨_,(ae (pst 2 kq.nd (ak D_drawn hr (aa (aC (aa (aJ (fv 0) rfl) ab)) (aa (aJ (fv 0) rfl) (aa aj (aa (aJ (fv 0) rfl) ab))))))
  (ae (aE (gi (fv 2) (aa (ak D_drawn hr (aa (aC (aa (fv 1) ab)) (aa (aJ (fv 0) rfl) (aa aj (aa (aJ (fv 0) rfl) ab))))) ab)))
  (ah (aw (au aK (fv 2) (ak D_drawn hr (aa (aC (aa (fv 1) ab)) (aa (ak (sQ T) hr (aa (aJ (fv 0) rfl) ab)) (aa aj (aa (aJ (fv 0) rfl) ab)))))))))),?_⟩
 refine ag fun M1 K1=>fdI (s0 _ _ h1) T.bZ.cl T.gL rfl ⟨by show 1 <= sizeLine;decide,fun q1 hq1=>?_⟩
 have s1:=ai.upd hq1 (.lst [V.str (N m)])
 have sX1:=s0.trans s1
 refine fdI (sX1 _ _ h1) T.bZ.cl T.dW rfl (fdI (sX1 _ _ h1) T.bZ.cl T.bF rfl ⟨q1,[some (N m)],N x,"value",n,rfl,SqL.of ao,by simp,fun R y1 H2 s2 n2 e2 l2=>K1 _ _ ?_⟩)
 clear K1 M1
 have t2:=s1.trans s2
 have hR:H R=none:=ai.free s1 n2
 have a1:=Paired.length l2
 have b1:=cD [some (N m)] (N x) "value" n
 try dsimp only
 refine ag fun M1 K1=>⟨Or.inl ⟨rfl,_,SqL.of e2⟩,by show 1 <= sizeLine;decide,fun q3 hq3=>?_⟩
 have s3:=ai.upd hq3 (.lst [oS pl])
 have sX3:=s0.trans (t2.trans s3)
 refine fdI (sX3 _ _ h1) T.bZ.cl T.dW rfl (fdI (sX3 _ _ h1) T.bZ.cl T.bF rfl ⟨q3,[pl],N x,"under",n,rfl,SqL.of ao,by simp,fun R2 y2 H4 s4 n4 e4 l4=>?_⟩)
 have s24:=s3.trans s4
 have a2:=Paired.length l4
 have b2:=cD [pl] (N x) "under" n
 simp only [List.length_singleton] at b1 b2
 refine ⟨_,_,_,_,rfl,rfl,s24 _ _ e2,e4,sz (by omega),?_⟩
 have l5:=oy (H:=H) (R2:=R2) s24 e2 l2 l4
 have s5:ai H (upd H4 R (.lst (y1 ++ y2))):=ai.out (t2.trans s24) hR _
 have e5:upd H4 R (.lst (y1 ++ y2)) R=some (.lst (y1 ++ y2)):=ao
 generalize upd H4 R (.lst (y1 ++ y2))=H5 at l5 s5 e5 ⊢
 refine K1 _ _ ?_
 clear K1 M1
 try dsimp only
 refine ⟨by show 1 <= sizeLine;decide,fun q6 hq6=>?_⟩
 have s6:=ai.upd hq6 (.lst [oS pl])
 have sX6:=s0.trans (s5.trans s6)
 refine fdI (sX6 _ _ h1) T.bZ.cl T.bF rfl ⟨_,rfl,nt.1,nt.2,fdI (sX6 _ _ h1) T.bZ.cl T.bF rfl ⟨q6,[pl],aZ n,"under",n,rfl,SqL.of ao,by simp,fun R3 y3 H7 s7 n7 e7 l7=>?_⟩⟩
 have s57:=s6.trans s7
 have a3:=Paired.length l7
 have b3:=cD [pl] (aZ n) "under" n
 simp only [List.length_singleton] at b3
 refine ⟨R,R3,_,_,rfl,rfl,s57 _ _ e5,e7,sz (by rw [List.length_append];omega),fun R4 hR4=>?_⟩
 have s8:=ai.upd hR4 (.lst (y1 ++ y2 ++ y3))
 exact q R4 _ _ (s5.trans (s57.trans s8)) (ai.free (s5.trans s57) hR4) ao (Paired.two (l5.same fun z w e=>(s57.trans s8) _ _ e) (l7.same fun z w e=>s8 _ _ e))
theorem Fg {X:Hp}{v:V}{p:Pt} (h:aV A N X v p):∃a dx fs,v=.ref a/\X a=some (.ins (clI A p.ci) dx fs)/\fs.lookup ("reads":Str)=none:=by
 cases p with
 | leaf n r =>
  unfold aV at h
  obtain ⟨a,dx,p,e,h1,h2⟩:=h
  exact ⟨a,dx,_,e,h1,by cases r <;> rfl⟩
 | iff n val l r f o =>
  unfold aV at h
  obtain ⟨a,dx,p,pf,po,xf,xo,e,h1,_⟩:=h
  exact ⟨a,dx,_,e,h1,rfl⟩
 | loop n t m l r b =>
  unfold aV at h
  obtain ⟨a,dx,pb,xb,e,h1,_⟩:=h
  exact ⟨a,dx,_,e,h1,rfl⟩
 | aR n i ps b =>
  unfold aV at h
  obtain ⟨a,dx,pp,pb,xb,e,h1,_⟩:=h
  exact ⟨a,dx,_,e,h1,rfl⟩
theorem CF (T:Txt K mg A):T.lT.Hz P w base 3 (wO A):=by
 have D_drawn:=oe (P:=P) (w:=w) (base:=base) T
 have M_reads:=BG (P:=P) (w:=w) (mg:=mg) (base:=base) T
 refine T.lT.hs (k:=2) lN (fun f cdv A' outer s H vs Q E' hr hu h=>?_)
 obtain ⟨N,X,v,t,pl,lp,D,po,nm,rfl,s0,pa,hk,nt,hlp,hD,hc,q⟩:=h
 refine ⟨_,(ae (pst 4 lN.nd (ak (sQ T) hr (aa (aJ (fv 0) rfl) ab)))
  (ae (aL (PW.pt (pw_or (bU (pcB br T.aG (aa (fv 0) (aa (cQ T.di.mg) ab))) (fun _=>rfl)) (pw_or1 (bU (pcB br T.aG (aa (fv 0) (aa (cQ T.cM.mg) ab))) (fun _=>rfl)))))
   (ah (aw (au aK (ak D_drawn hr (aa (mC (fv 0) M_reads hr) (aa (aJ (fv 0) rfl) (aa aj (aa (aJ (fv 0) rfl) ab))))) (ak D_drawn hr (aa (aC (aa (fv 1) ab)) (aa (aJ (fv 0) rfl) (aa aj (aa (aJ (fv 0) rfl) ab))))))))
   aB)
  (ae (aL (bU (pcB br T.aG (aa (fv 0) (aa (cQ T.cW.mg) ab))) (fun _=>rfl))
   (ah (aw (au aK (ak D_drawn hr (aa (mC (fv 0) M_reads hr) (aa (fv 4) (aa aj (aa (aJ (fv 0) rfl) ab))))) (ak D_drawn hr (aa (aC (aa (fv 1) ab)) (aa (fv 4) (aa aj (aa (aJ (fv 0) rfl) ab))))))))
   aB)
  (ae (aL (bU (pcB br T.aG (aa (fv 0) (aa (cQ T.bZ.mg) ab))) (fun _=>rfl))
   (ah (aw (ak (CI T) hr (aa (fv 0) (aa (fv 1) ab)))))
   aB)
  (ae (aL (PW.pt (pw_or (bU (pcB br T.aG (aa (fv 0) (aa (cQ T.bQ.mg) ab))) (fun _=>rfl)) (pw_or1 (bU (pcB br T.aG (aa (fv 0) (aa (cQ T.bu.mg) ab))) (fun _=>rfl)))))
   (ah (aw (au aK (ak D_drawn hr (aa (mC (fv 0) M_reads hr) (aa (fv 4) (aa aj (aa (aJ (fv 0) rfl) ab))))) (ak D_drawn hr (aa (aC (aa (fv 1) ab)) (aa (fv 4) (aa aj (aa (aJ (fv 0) rfl) ab))))))))
   aB)
  (ae (aL (bU (pcB br T.aG (aa (fv 0) (aa (cQ T.fE.mg) ab))) (fun _=>rfl))
   (ah (aw (ak D_drawn hr (aa (aC (aa (fv 1) ab)) (aa (fv 2) (aa aj (aa (aJ (fv 0) rfl) ab)))))))
   aB)
  (ah (aw (ak (zE T) hr (aa (fv 0) (aa (fv 1) (aa (px hu (fv 3) (aJ (fv 0) rfl)) ab)))))))))))),?_⟩
 refine ag fun M1 K1=>iY T s0 pa ⟨_,rfl,nt.1,nt.2,K1 _ _ ?_⟩
 clear K1 M1
 try dsimp only
 have ob:=Fg pa
 have jn:∀(kd into:Str) (R:VK),(∀(R':Addr) (ys:List V) (H':Hp),ai H H'->H R'=none->H' R'=some (.lst ys)->Lks H' (drI N t into kd pl) ys->R (.ref R') H') ->
   ∀(R1 R2:Addr) (y1 y2:List V) (H2 H3:Hp),ai H H2->H2 R1=some (.lst y1)->Lks H2 (drw ((rds N (tTh t)).map some) into kd t.no) y1->ai H2 H3->H3 R2=some (.lst y2)->Lks H3 (drw [pl] into "under" t.no) y2->yu (.ref R1) (.ref R2) H3 R:=by
  intro kd into R qq R1 R2 y1 y2 H2 H3 s2 e2 l2 s3 e3 l3
  have d:=xD (N:=N) t into kd pl
  have a1:=Paired.length l2
  have a2:=Paired.length l3
  unfold drI at d
  rw [List.length_append] at d
  refine ⟨R1,R2,_,_,rfl,rfl,s3 _ _ e2,e3,sz (by omega),fun R hR=>?_⟩
  have s5:=ai.upd hR (.lst (y1 ++ y2))
  exact qq R _ _ ((s2.trans s3).trans s5) (ai.free (s2.trans s3) hR) ao (Paired.two (l2.same fun x w e=>s5 _ _ (s3 _ _ e)) (l3.same fun x w e=>s5 _ _ e))
 have rl:∀{p:Addr}{H1:Hp},H1 p=some (.lst (sS (rds N (tTh t))))->SqL K H1 p (((rds N (tTh t)).map some).map oS)/\((rds N (tTh t)).map some).length <= 100:=fun e1=>by
  have h3:=j7 N (tTh t) []
  have h4:=xw t
  simp only [List.length_nil] at h3
  exact ⟨SqL.of (by rw [e1,List.map_map];rfl),by rw [List.length_map];unfold rds;omega⟩
 have two:∀(kd:Str) (R:VK),(∀(R':Addr) (ys:List V) (H':Hp),ai H H'->H R'=none->H' R'=some (.lst ys)->Lks H' (drI N t (aZ t.no) kd pl) ys->R (.ref R') H')->∀(p:Addr) (H1:Hp),H p=none->ai H H1->H1 p=some (.lst (sS (rds N (tTh t)))) ->
   iC K [.ref p,.str (aZ t.no),.str kd,.int t.no] H1 (fun x H2=>1 <= sizeLine/\∀q3,H2 q3=none->qh K "number" v (upd H2 q3 (.lst [oS pl])) fun u H3=>iC K [.ref q3,.str (aZ t.no),.str "under",u] H3 (fun y H4=>yu x y H4 R) E0) E0:=by
  intro kd R qq p H1 hp s1 e1
  refine ⟨p,(rds N (tTh t)).map some,aZ t.no,kd,t.no,rfl,(rl e1).1,(rl e1).2,fun R1 y1 H2 s2 n2 e2 l2=>⟨by decide,fun q3 hq3=>?_⟩⟩
  have sq3:=ai.upd hq3 (.lst [oS pl])
  exact iY T (((s0.trans s1).trans s2).trans sq3) pa ⟨q3,[pl],aZ t.no,"under",t.no,rfl,SqL.of ao,by simp,fun R2 y2 H3 s3 n3 e3 l3=>jn kd _ R qq R1 R2 y1 y2 H2 H3 (s1.trans s2) e2 l2 (sq3.trans s3) e3 l3⟩
 have twoN:∀(into:Str) (R:VK),(∀(H':Hp) {Q:VK},ai X H'->Q (.str into) H'->qh K "name" v H' Q)->(∀(R':Addr) (ys:List V) (H':Hp),ai H H'->H R'=none->H' R'=some (.lst ys)->Lks H' (drI N t into "value" pl) ys->R (.ref R') H')->∀(p:Addr) (H1:Hp),H p=none->ai H H1->H1 p=some (.lst (sS (rds N (tTh t)))) ->
   qh K "name" v H1 fun i1 H1'=>qh K "number" v H1' fun m1 H1''=>iC K [.ref p,i1,.str "value",m1] H1'' (fun x H2=>1 <= sizeLine/\∀q3,H2 q3=none->qh K "name" v (upd H2 q3 (.lst [oS pl])) fun i2 H3'=>qh K "number" v H3' fun u H3=>iC K [.ref q3,i2,.str "under",u] H3 (fun y H4=>yu x y H4 R) E0) E0:=by
  intro into R nf qq p H1 hp s1 e1
  refine nf H1 (s0.trans s1) (iY T (s0.trans s1) pa ⟨p,(rds N (tTh t)).map some,into,"value",t.no,rfl,(rl e1).1,(rl e1).2,fun R1 y1 H2 s2 n2 e2 l2=>⟨by decide,fun q3 hq3=>?_⟩⟩)
  have sq3:=ai.upd hq3 (.lst [oS pl])
  have sX3:=((s0.trans s1).trans s2).trans sq3
  exact nf _ sX3 (iY T sX3 pa ⟨q3,[pl],into,"under",t.no,rfl,SqL.of ao,by simp,fun R2 y2 H3 s3 n3 e3 l3=>jn "value" _ R qq R1 R2 y1 y2 H2 H3 (s1.trans s2) e2 l2 (sq3.trans s3) e3 l3⟩)
 obtain ⟨a,dx,fs,rfl,h1,hno⟩:=ob
 refine ag fun M1 K1=>?_
 by_cases c5:t.ci=5
 ·refine qe T s0 pa c5 (c0 ?_)
  have rr:∀{Q:VK},(∀(p:Addr) (H':Hp),H p=none->ai H H'->H' p=some (.lst (sS (rds N (tTh t))))->Q (.ref p) H')->cq A 5 [.ref a] H Q E0:=fun k=>⟨N,X,_,_,rfl,s0,pa,c5,k⟩
  refine ⟨a,_,dx,_,_,rfl,s0 _ _ h1,hno,⟨5,by decide,by rw [c5],rfl⟩,rr ?_⟩
  cases t with
  | leaf n r =>
   cases r with
   | set x val =>
    have pa':=pa
    unfold aV at pa'
    obtain ⟨a',dx',p',e',h1',_⟩:=pa'
    cases e'
    exact twoN (N x) _ (fun H' Q sx k=>fdI (sx _ _ h1') T.di.cl T.gQ rfl k) q
   | _=>cases c5
  | _=>cases c5
 refine qd T s0 pa c5 (bz ?_)
 by_cases c6:t.ci=6
 ·refine qe T s0 pa c6 (c0 ?_)
  have rr:∀{Q:VK},(∀(p:Addr) (H':Hp),H p=none->ai H H'->H' p=some (.lst (sS (rds N (tTh t))))->Q (.ref p) H')->cq A 6 [.ref a] H Q E0:=fun k=>⟨N,X,_,_,rfl,s0,pa,c6,k⟩
  refine ⟨a,_,dx,_,_,rfl,s0 _ _ h1,hno,⟨6,by decide,by rw [c6],rfl⟩,rr ?_⟩
  cases t with
  | leaf n r =>
   cases r with
   | put x pt val =>
    have pa':=pa
    unfold aV at pa'
    obtain ⟨a',dx',p',e',h1',_⟩:=pa'
    cases e'
    exact twoN (N x) _ (fun H' Q sx k=>fdI (sx _ _ h1') T.cM.cl T.h9 rfl k) q
   | _=>cases c6
  | _=>cases c6
 refine qd T s0 pa c6 (bz (K1 _ _ ?_))
 clear K1 M1
 refine ag fun M1 K1=>?_
 by_cases c7:t.ci=7
 ·refine qe T s0 pa c7 (c0 ?_)
  have rr:∀{Q:VK},(∀(p:Addr) (H':Hp),H p=none->ai H H'->H' p=some (.lst (sS (rds N (tTh t))))->Q (.ref p) H')->cq A 7 [.ref a] H Q E0:=fun k=>⟨N,X,_,_,rfl,s0,pa,c7,k⟩
  refine ⟨a,_,dx,_,_,rfl,s0 _ _ h1,hno,⟨7,by decide,by rw [c7],rfl⟩,rr fun p H1 hp s1 e1=>iY T (s0.trans s1) pa (two "value" _ ?_ p H1 hp s1 e1)⟩
  cases t with
  | leaf n r =>
   cases r with
   | snd x val=>exact q
   | _=>cases c7
  | _=>cases c7
 refine qd T s0 pa c7 (bz (K1 _ _ ?_))
 clear K1 M1
 refine ag fun M1 K1=>?_
 by_cases c8:t.ci=8
 ·refine qe T s0 pa c8 (c0 ?_)
  cases t with
  | leaf n r =>
   cases r with
   | say x val m=>exact ⟨N,X,_,n,x,m,val,pl,rfl,s0,pa,nt,q⟩
   | _=>cases c8
  | _=>cases c8
 refine qd T s0 pa c8 (bz (K1 _ _ ?_))
 clear K1 M1
 refine ag fun M1 K1=>?_
 by_cases c11:t.ci=11
 ·refine qe T s0 pa c11 (c0 ?_)
  have rr:∀{Q:VK},(∀(p:Addr) (H':Hp),H p=none->ai H H'->H' p=some (.lst (sS (rds N (tTh t))))->Q (.ref p) H')->cq A 11 [.ref a] H Q E0:=fun k=>⟨N,X,_,_,rfl,s0,pa,c11,k⟩
  refine ⟨a,_,dx,_,_,rfl,s0 _ _ h1,hno,⟨11,by decide,by rw [c11],rfl⟩,rr fun p H1 hp s1 e1=>iY T (s0.trans s1) pa (two "test" _ ?_ p H1 hp s1 e1)⟩
  cases t with
  | leaf n r=>cases r <;> cases c11
  | iff n val l r fs os=>exact q
  | _=>cases c11
 refine qd T s0 pa c11 (bz ?_)
 by_cases c12:t.ci=12
 ·refine qe T s0 pa c12 (c0 ?_)
  have rr:∀{Q:VK},(∀(p:Addr) (H':Hp),H p=none->ai H H'->H' p=some (.lst (sS (rds N (tTh t))))->Q (.ref p) H')->cq A 12 [.ref a] H Q E0:=fun k=>⟨N,X,_,_,rfl,s0,pa,c12,k⟩
  refine ⟨a,_,dx,_,_,rfl,s0 _ _ h1,hno,⟨12,by decide,by rw [c12],rfl⟩,rr fun p H1 hp s1 e1=>iY T (s0.trans s1) pa (two "test" _ ?_ p H1 hp s1 e1)⟩
  cases t with
  | leaf n r=>cases r <;> cases c12
  | loop n th m l r b=>exact q
  | _=>cases c12
 refine qd T s0 pa c12 (bz (K1 _ _ ?_))
 clear K1 M1
 refine ag fun M1 K1=>?_
 by_cases c10:t.ci=10
 ·refine qe T s0 pa c10 (c0 ?_)
  cases lp with
  | none=>exact absurd (hlp c10) (by decide)
  | some lq =>
  refine ⟨by show 1 <= sizeLine;decide,fun q3 hq3=>?_⟩
  have sq3:=ai.upd hq3 (.lst [oS pl])
  refine iY T (s0.trans sq3) pa ⟨q3,[pl],lq,"under",t.no,rfl,SqL.of ao,by simp,fun R2 y2 H3 s3 n3 e3 l3=>q R2 y2 H3 (sq3.trans s3) (ai.free sq3 n3) e3 ?_⟩
  cases t with
  | leaf n r =>
   cases r with
   | last=>exact l3
   | _=>cases c10
  | _=>cases c10
 refine qd T s0 pa c10 (bz (K1 _ _ ?_))
 clear K1 M1
 cases t with
 | leaf n r =>
  cases r with
  | call i ts =>
   have pa':=pa
   unfold aV at pa'
   obtain ⟨a',dx',p,e',h1',_⟩:=pa'
   cases e'
   obtain ⟨kvs,eD,hd⟩:=hD
   obtain ⟨c1,c2⟩:=hc
   obtain ⟨l1,pp,e1,e2⟩:=hd _ c1
   exact fdI (s0 _ _ h1') T.bO.cl T.cH rfl (dgk eD e1 ⟨N,X,_,n,i,ts,pl,pp,po (N i),rfl,s0,pa,e2,c2,l1,q⟩)
  | set _ _=>exact absurd rfl c5
  | put _ _ _=>exact absurd rfl c6
  | snd _ _=>exact absurd rfl c7
  | say _ _ _=>exact absurd rfl c8
  | last=>exact absurd rfl c10
  | _=>cases hk
 | iff _ _ _ _ _ _=>exact absurd rfl c11
 | loop _ _ _ _ _ _=>exact absurd rfl c12
 | aR n i ps b=>cases hk
end
section
variable {P:Program}{w:World}{K:W.Frag}{mg:Str->Option Value}{base:Heap}{A:Adr}{N:Nat->Str}
seal PE PA PS PSs PT PW
def oI:Option Int->V
 | none=>.non
 | some n=>.int n
def FQ (l r:Int):Option Int->Option Int->Option Int
 | some a,some b=>if l + a=r + b then some (1 + l + a) else none
 | _,_=>none
def FJ (m l r:Int):Option Int->Option Int
 | some a=>if l + a=r then some (1 + m * r) else none
 | none=>none
def CT (a:Int):Option Int->Option Int
 | some b=>some (a + b)
 | none=>none
def lr:Option Int->Option Int->Option Int
 | some a,x=>CT a x
 | none,_=>none
mutual
def exP (kn:Nat->Option Int):Pt->Option Int
 | .leaf _ (.call i _)=>CT 1 (kn i)
 | .leaf _ _=>some 1
 | .iff _ _ l r f o=>FQ l r (cV kn f) (cV kn o)
 | .loop _ _ m l r b=>FJ m l r (cV kn b)
 | .aR _ _ _ _=>some 1
def cV (kn:Nat->Option Int):List Pt->Option Int
 | []=>some 0
 | t :: ts=>lr (exP kn t) (cV kn ts)
end
theorem tV (a b c:Option Int):lr (lr a b) c=lr a (lr b c):=by
 cases a with
 | none=>rfl
 | some a=>cases b with
  | none=>rfl
  | some b=>cases c with
   | none=>rfl
   | some c=>show some (a + b + c)=some (a + (b + c));rw [Int.add_assoc]
theorem vG (a:Option Int):lr (some 0) a=a:=by
 cases a with
 | none=>rfl
 | some a=>show some (0 + a)=some a;rw [Int.zero_add]
theorem pX (kn:Nat->Option Int):∀(a b:List Pt),cV kn (a ++ b)=lr (cV kn a) (cV kn b)
 | [],b=>by rw [List.nil_append,show cV kn []=some 0 by rw [cV],vG]
 | t :: a,b=>by
  rw [List.cons_append,cV,cV,pX kn a b,tV]
theorem yN (kn:Nat->Option Int) (t:Pt):cV kn [t]=exP kn t:=by
 rw [cV,cV]
 cases exP kn t with
 | none=>rfl
 | some a=>show some (a + 0)=some a;rw [Int.add_zero]
theorem qE (kn:Nat->Option Int) {ts:List Pt}{i:Nat}{t:Pt} (h:ts[i]?=some t):cV kn (ts.take (i + 1))=lr (cV kn (ts.take i)) (exP kn t):=by
 rw [List.take_add_one,h,pX]
 show lr _ (cV kn [t])=_
 rw [yN]
theorem yy (kn:Nat->Option Int) {ts:List Pt}{i:Nat}{t:Pt} (h:ts[i]?=some t) (e:exP kn t=none):cV kn ts=none:=by
 have:=pX kn (ts.take (i + 1)) (ts.drop (i + 1))
 rw [List.take_append_drop,qE kn h,e] at this
 rw [this]
 cases cV kn (ts.take i) <;> rfl
mutual
def cOk (idx:List Nat):Pt->Prop
 | .leaf _ (.call i _)=>i ∈ idx
 | .leaf _ _=>True
 | .iff _ _ _ _ f o=>pv idx f/\pv idx o
 | .loop _ _ m _ _ b=>0 <= m/\m <= 1000/\pv idx b
 | .aR _ _ _ _=>True
def pv (idx:List Nat):List Pt->Prop
 | []=>True
 | t :: ts=>cOk idx t/\pv idx ts
end
theorem tO {idx:List Nat}{t:Pt}:∀{ts:List Pt},pv idx ts->t ∈ ts->cOk idx t
 | t' :: ts,h,m=>by
  unfold pv at h
  rcases List.mem_cons.mp m with rfl | m
  ·exact h.1
  ·exact tO h.2 m
def Ac (N:Nat->Str) (H:Hp) (D:Addr) (idx:List Nat) (kn:Nat->V):Prop:=∃kvs,H D=some (.dK kvs)/\∀i ∈ idx,L2.bX kvs (.inr (N i))=some (kn i)
inductive xk (vs:List V) (H:Hp) (Q:VK) (E9:XK):Prop
 | mk (x:Option Int) (z0:vs=[oI x]) (z1:Q (oI (CT 1 x)) H):xk vs H Q E9
theorem Dr (T:Txt K mg A):T.p5.Hz P w base 1 xk:=by
 refine T.p5.hs uv (fun f cdv A' outer s H vs Q E' hr hu h=>?_)
 obtain ⟨x,rfl,q⟩:=h
 refine ⟨_,(ah (aw (uC (ptc zb (fv 0) cB) cB (au aK af (fv 0))))),?_⟩
 cases x with
 | none=>exact ⟨rfl,_,rfl,c0 q⟩
 | some n=>exact ⟨rfl,_,rfl,bz q⟩
inductive jz (A:Adr) (d:Nat) (vs:List V) (H:Hp) (Q:VK) (E9:XK):Prop
 | mk (N:Nat->Str) (X:Hp) (L D:Addr) (xs:List V) (ts:List Pt) (idx:List Nat) (kn:Nat->Option Int) (z0:vs=[.ref L,.ref D]) (z1:ai X H) (z2:X L=some (.lst xs)) (z3:aD A N X xs ts) (z4:kg ts <= d) (z5:pv idx ts) (z6:Ac N H D idx fun i=>oI (kn i)) (z7:Q (oI (cV kn ts)) H):jz A d vs H Q E9
inductive mj (A:Adr) (d:Nat) (vs:List V) (H:Hp) (Q:VK) (E9:XK):Prop
 | mk (N:Nat->Str) (X:Hp) (v:V) (D:Addr) (t:Pt) (idx:List Nat) (kn:Nat->Option Int) (z0:vs=[v,.ref D]) (z1:ai X H) (z3:aV A N X v t) (z4:dep t <= d) (z5:cOk idx t) (z6:Ac N H D idx fun i=>oI (kn i)) (z7:Q (oI (exP kn t)) H):mj A d vs H Q E9
def spN (sp:Nat->Sp):Nat->Sp
 | 0=>fun _ _ _ _=>False
 | d + 1=>sp d
inductive iq (A:Adr) (d c:Nat) (vs:List V) (H:Hp) (Q:VK) (E9:XK):Prop
 | mk (N:Nat->Str) (X:Hp) (v:V) (D:Addr) (t:Pt) (idx:List Nat) (kn:Nat->Option Int) (z0:vs=[v,.ref D]) (z1:ai X H) (z3:aV A N X v t) (z4:dep t <= d) (z5:cOk idx t) (z6:Ac N H D idx fun i=>oI (kn i)) (z8:t.ci=c) (z7:Q (oI (exP kn t)) H):iq A d c vs H Q E9
theorem tw (T:Txt K mg A) (d j:Nat) (D_exact_of_row:T.fz.Hz P w base j (mj A d)):T.eg.Hz P w base (j + 1) (jz A d):=by
 refine T.eg.hs (k:=j) cG (fun f cdv A' outer s H vs Q E' hr hu h=>?_)
 obtain ⟨N,X,L,D,xs,ts,idx,kn,rfl,s0,hL,pt,dp,ck,hD,q⟩:=h
 refine ⟨_,(ae (pst 2 cG.nd af)
  (ae (cy PassesOwn.never rfl (cR (fv 0)) (pgn (i:=3) cG.nd rfl)
   (ae (pst 4 cG.nd (ak (hj:=by omega) D_exact_of_row hr (aa (fv 3) (aa (fv 1) ab))))
   (ae (aL (ptc zb (fv 4) cB)
    (ah (aw cB))
    aB)
   (ah (C0 (i:=2) cG.nd rfl (by first | exact Or.inl rfl | exact Or.inr rfl) (fv 4) Dy)))))
  (ah (aw (fv 2))))),?_⟩
 refine ag fun M1 K1=>K1 _ _ ?_
 clear K1 M1
 try dsimp only
 refine ag fun M1 K1=>Or.inl ⟨⟨_,SqL.of (s0 _ _ hL)⟩,cN (K:=K) (xs:=xs) (fun i σ Hc=>∃(a:Int) (v3 v4:Option V),σ=[some (.ref L),some (.ref D),some (.int a),v3,v4]/\Hc=H/\cV kn (ts.take i)=some a) ⟨0,none,none,rfl,rfl,by rw [List.take_zero,cV]⟩ (fun i σ Hc _ ⟨_,_,_,_,z,_⟩=>z ▸ SqL.of (s0 _ _ hL)) ?_ ?_⟩
 ·rintro i v σ Hc hv ⟨a,v3,v4,rfl,rfl,ea⟩
  obtain ⟨t,ht,pa⟩:=pt.get hv
  have mt:t ∈ ts:=List.mem_of_getElem? ht
  try dsimp only
  refine ag fun N1 J1=>⟨N,X,v,D,t,idx,kn,rfl,s0,pa,Nat.le_trans (oQ mt) dp,tO ck mt,hD,?_⟩
  have st:=qE kn ht
  rw [ea] at st
  refine J1 _ _ ?_
  clear J1 N1
  try dsimp only
  refine ag fun N1 J1=>?_
  cases e:exP kn t with
  | none =>
   rw [yy kn ht e] at q
   exact ⟨rfl,_,rfl,c0 q⟩
  | some b =>
   rw [e] at st
   exact ⟨rfl,_,rfl,bz (J1 _ _ ⟨_,rfl,a,b,rfl,rfl,a + b,_,_,rfl,rfl,st⟩)⟩
 rintro σ Hc ⟨a,v3,v4,rfl,rfl,ea⟩
 rw [show ts.take xs.length=ts by rw [pt.len];exact List.take_length] at ea
 rw [ea] at q
 exact K1 _ _ q
end
section
variable {P:Program}{w:World}{K:W.Frag}{mg:Str->Option Value}{base:Heap}{A:Adr}{N:Nat->Str}
seal PE PA PS PSs PT PW
theorem wu (T:Txt K mg A) (d j:Nat) (D_exact_of:T.eg.Hz P w base j (spN (jz A) d)):T.gJ.Hz P w base (j + 1) (iq A d 11):=by
 refine T.gJ.hs (k:=j) gp (fun f cdv A' outer s H vs Q E' hr hu h=>?_)
 obtain ⟨N,X,v,D,t,idx,kn,rfl,s0,pa,dp,ck,hD,ec,q⟩:=h
 refine ⟨_,(ae (pst 2 gp.nd (ak (hj:=by omega) D_exact_of hr (aa (aJ (fv 0) rfl) (aa (fv 1) ab))))
  (ae (pst 3 gp.nd (ak (hj:=by omega) D_exact_of hr (aa (aJ (fv 0) rfl) (aa (fv 1) ab))))
  (ae (aL (PW.pt (pw_or (ptc zb (fv 2) cB) (pw_or (ptc zb (fv 3) cB) (pw_or1 (ptc (nY hu) (au aK (aJ (fv 0) rfl) (fv 2)) (au aK (aJ (fv 0) rfl) (fv 3)))))))
   (ah (aw cB))
   aB)
  (ah (aw (au aK (au aK af (aJ (fv 0) rfl)) (fv 2))))))),?_⟩
 cases t with
 | leaf n r=>cases r <;> cases ec
 | loop _ _ _ _ _ _=>cases ec
 | aR _ _ _ _=>cases ec
 | iff n val l r fs os =>
 unfold aV at pa
 obtain ⟨a,dx,p,pf,po,xf,xo,rfl,h1,h2,h3,h4,h5,h6⟩:=pa
 unfold dep at dp
 unfold cOk at ck
 unfold exP at q
 cases d with
 | zero=>omega
 | succ d =>
 refine ag fun M1 K1=>fdI (s0 _ _ h1) T.bQ.cl T.dP rfl ⟨N,X,pf,D,xf,fs,idx,kn,rfl,s0,h3,h5,by omega,ck.1,hD,K1 _ _ ?_⟩
 clear K1 M1
 try dsimp only
 refine ag fun M1 K1=>fdI (s0 _ _ h1) T.bQ.cl T.dS rfl ⟨N,X,po,D,xo,os,idx,kn,rfl,s0,h4,h6,by omega,ck.2,hD,?_⟩
 generalize cV kn fs=ef at q
 generalize cV kn os=eo at q
 refine K1 _ _ ?_
 clear K1 M1
 try dsimp only
 refine ag fun M1 K1=>?_
 cases ef with
 | none=>exact ⟨rfl,_,rfl,c0 q⟩
 | some b =>
 refine ⟨rfl,_,rfl,bz ?_⟩
 cases eo with
 | none=>exact ⟨rfl,_,rfl,c0 q⟩
 | some c =>
 refine ⟨rfl,_,rfl,bz (fdI (s0 _ _ h1) T.bQ.cl T.ft rfl (fdI (s0 _ _ h1) T.bQ.cl T.gT rfl ⟨rfl,_,rfl,?_⟩))⟩
 by_cases e:l + b=r + c
 ·refine aU (fun z=>absurd z (by show ¬ (!decide (V.int (l + b)=V.int (r + c)))=true;rw [A6,decide_eq_true e];decide)) (fun _=>K1 _ _ ?_)
  have q:Q (oI (if l + b=r + c then some (1 + l + b) else none)) H:=q
  rw [if_pos e] at q
  exact fdI (s0 _ _ h1) T.bQ.cl T.ft rfl q
 ·refine aU (fun _=>?_) (fun z=>absurd (by show (!decide (V.int (l + b)=V.int (r + c)))=true;rw [A6,decide_eq_false e];rfl) z)
  have q:Q (oI (if l + b=r + c then some (1 + l + b) else none)) H:=q
  rw [if_neg e] at q
  exact q
theorem wD (T:Txt K mg A) (d j:Nat) (D_exact_of:T.eg.Hz P w base j (spN (jz A) d)):T.dU.Hz P w base (j + 1) (iq A d 12):=by
 refine T.dU.hs (k:=j) iA (fun f cdv A' outer s H vs Q E' hr hu h=>?_)
 obtain ⟨N,X,v,D,t,idx,kn,rfl,s0,pa,dp,ck,hD,ec,q⟩:=h
 refine ⟨_,(ae (pst 2 iA.nd (ak (hj:=by omega) D_exact_of hr (aa (aJ (fv 0) rfl) (aa (fv 1) ab))))
  (ae (aL (PW.pt (pw_or (ptc zb (fv 2) cB) (pw_or1 (ptc (nY hu) (au aK (aJ (fv 0) rfl) (fv 2)) (aJ (fv 0) rfl)))))
   (ah (aw cB))
   aB)
  (ah (aw (au aK af (au cL (aJ (fv 0) rfl) (aJ (fv 0) rfl))))))),?_⟩
 cases t with
 | leaf n r=>cases r <;> cases ec
 | iff _ _ _ _ _ _=>cases ec
 | aR _ _ _ _=>cases ec
 | loop n th m l r b =>
 unfold aV at pa
 obtain ⟨a,dx,pb,xb,rfl,h1,h2,h3⟩:=pa
 unfold dep at dp
 unfold cOk at ck
 unfold exP at q
 cases d with
 | zero=>omega
 | succ d =>
 refine ag fun M1 K1=>fdI (s0 _ _ h1) T.bu.cl T.dq rfl ⟨N,X,pb,D,xb,b,idx,kn,rfl,s0,h2,h3,by omega,ck.2.2,hD,?_⟩
 generalize cV kn b=ef at q
 refine K1 _ _ ?_
 clear K1 M1
 try dsimp only
 refine ag fun M1 K1=>?_
 cases ef with
 | none=>exact ⟨rfl,_,rfl,c0 q⟩
 | some b =>
 refine ⟨rfl,_,rfl,bz (fdI (s0 _ _ h1) T.bu.cl T.fK rfl (fdI (s0 _ _ h1) T.bu.cl T.cP rfl ⟨rfl,_,rfl,?_⟩))⟩
 have q:Q (oI (if l + b=r then some (1 + m * r) else none)) H:=q
 by_cases e:l + b=r
 ·refine aU (fun z=>absurd z (by show ¬ (!decide (V.int (l + b)=V.int r))=true;rw [A6,decide_eq_true e];decide)) (fun _=>K1 _ _ ?_)
  rw [if_pos e] at q
  exact fdI (s0 _ _ h1) T.bu.cl T.fY rfl (fdI (s0 _ _ h1) T.bu.cl T.cP rfl ⟨x6 (by omega) (by omega),q⟩)
 ·refine aU (fun _=>?_) (fun z=>absurd (by show (!decide (V.int (l + b)=V.int r))=true;rw [A6,decide_eq_false e];rfl) z)
  rw [if_neg e] at q
  exact q
theorem yH (T:Txt K mg A) (d j:Nat) (D_exact_of_if:T.gJ.Hz P w base (j + 1) (iq A d 11)) (D_exact_of_loop:T.dU.Hz P w base (j + 1) (iq A d 12)):T.fz.Hz P w base (j + 2) (mj A d):=by
 refine T.fz.hs (k:=j + 1) nQ (fun f cdv A' outer s H vs Q E' hr hu h=>?_)
 obtain ⟨N,X,v,D,t,idx,kn,rfl,s0,pa,dp,ck,hD,q⟩:=h
 refine ⟨_,(ae (aL (bU (pcB br T.aG (aa (fv 0) (aa (cQ T.bO.mg) ab))) (fun _=>rfl))
   (ah (aw (ak (hj:=by omega) (Dr T) hr (aa (px hu (fv 1) (aJ (fv 0) rfl)) ab))))
   aB)
  (ae (aL (bU (pcB br T.aG (aa (fv 0) (aa (cQ T.bQ.mg) ab))) (fun _=>rfl))
   (ah (aw (ak (hj:=by omega) D_exact_of_if hr (aa (fv 0) (aa (fv 1) ab)))))
   aB)
  (ae (aL (bU (pcB br T.aG (aa (fv 0) (aa (cQ T.bu.mg) ab))) (fun _=>rfl))
   (ah (aw (ak (hj:=by omega) D_exact_of_loop hr (aa (fv 0) (aa (fv 1) ab)))))
   aB)
  (ah (aw af))))),?_⟩
 by_cases c9:t.ci=9
 ·refine ag fun M1 K1=>qe T s0 pa c9 (c0 ?_)
  cases t with
  | leaf n r =>
   cases r with
   | call i ts =>
    unfold aV at pa
    obtain ⟨a,dx,p,rfl,h1,_⟩:=pa
    unfold cOk at ck
    unfold exP at q
    obtain ⟨kvs,e1,e2⟩:=hD
    exact fdI (s0 _ _ h1) T.bO.cl T.cH rfl (dgk e1 (e2 i ck) ⟨kn i,rfl,q⟩)
   | _=>cases c9
  | _=>cases c9
 refine ag fun M1 K1=>qd T s0 pa c9 (bz (K1 _ _ ?_))
 clear K1 M1
 by_cases c11:t.ci=11
 ·exact ag fun M1 K1=>qe T s0 pa c11 (c0 ⟨N,X,v,D,t,idx,kn,rfl,s0,pa,dp,ck,hD,c11,q⟩)
 refine ag fun M1 K1=>qd T s0 pa c11 (bz (K1 _ _ ?_))
 clear K1 M1
 by_cases c12:t.ci=12
 ·exact ag fun M1 K1=>qe T s0 pa c12 (c0 ⟨N,X,v,D,t,idx,kn,rfl,s0,pa,dp,ck,hD,c12,q⟩)
 refine ag fun M1 K1=>qd T s0 pa c12 (bz (?_))
 have e:exP kn t=some 1:=by
  cases t with
  | leaf n r =>
   cases r with
   | call i ts=>exact absurd rfl c9
   | _=>simp [exP]
  | iff _ _ _ _ _ _=>exact absurd rfl c11
  | loop _ _ _ _ _ _=>exact absurd rfl c12
  | aR _ _ _ _=>rw [exP]
 rw [e] at q
 exact K1 _ _ q
theorem rL (T:Txt K mg A):∀d,T.eg.Hz P w base (3 * d + 4) (jz A d)
 | 0=>tw T 0 3 (yH T 0 1 (wu T 0 1 (T.eg.hs (k:=0) cG (fun _ _ _ _ _ _ _ _ _ _ _ h=>h.elim) (fun _ _ _ _ h=>h.elim))) (wD T 0 1 (T.eg.hs (k:=0) cG (fun _ _ _ _ _ _ _ _ _ _ _ h=>h.elim) (fun _ _ _ _ h=>h.elim))))
 | d + 1=>tw T (d + 1) (3 * d + 6) (yH T (d + 1) (3 * d + 4) (wu T (d + 1) (3 * d + 4) (rL T d)) (wD T (d + 1) (3 * d + 4) (rL T d)))
end
section
variable {P:Program}{w:World}{K:W.Frag}{mg:Str->Option Value}{base:Heap}{A:Adr}{N:Nat->Str}
seal PE PA PS PSs PT PW
inductive Cq (A:Adr) (d:Nat) (vs:List V) (H:Hp) (Q:VK) (E9:XK):Prop
 | mk (N:Nat->Str) (X:Hp) (v:V) (D:Addr) (t:Pt) (idx:List Nat) (kn:Nat->Option Int) (z0:vs=[v,.ref D]) (z1:ai X H) (z3:aV A N X v t) (z4:dep t <= d) (z5:cOk idx t) (z6:Ac N H D idx fun i=>oI (kn i)) (z7:Q (.bl (exP kn t).isSome) H):Cq A d vs H Q E9
def dIx:Pt->Nat
 | .aR _ i _ _=>i
 | _=>0
def knF {α:Type} (g:(Nat->α)->List Pt->α) (kn:Nat->α) (p:Pt):Nat->α:=fun j=>if j=dIx p then g kn (lJ p) else kn j
def knA {α:Type} (g:(Nat->α)->List Pt->α) (z:α) (ds:List Pt):Nat->α:=ds.foldl (knF g) fun _=>z
structure Dm (N:Nat->Str) (d:Nat) (ds:List Pt):Prop where
 aR:∀p ∈ ds,zw p
 dp:∀p ∈ ds,kg (lJ p) <= d
 ck:∀(i:Nat) (p:Pt),ds[i]?=some p->pv ((ds.take i).map dIx) (lJ p)
 nm:∀(i j:Nat) (p q:Pt),ds[i]?=some p->ds[j]?=some q->N (dIx p)=N (dIx q)->i=j
 ln:ds.length <= 900
theorem BO {α:Type} (g:(Nat->α)->List Pt->α) (z:α) (vl:α->V) {ds:List Pt}{d i:Nat}{p:Pt} (O:Dm N d ds) (hp:ds[i]?=some p) {kvs:List (Key × V)} (h:∀k ∈ (ds.take i).map dIx,L2.bX kvs (.inr (N k))=some (vl (knA g z (ds.take i) k))) :
  ∀k ∈ (ds.take (i + 1)).map dIx,L2.bX (putK kvs (.inr (N (dIx p))) (vl (g (knA g z (ds.take i)) (lJ p)))) (.inr (N k))=some (vl (knA g z (ds.take (i + 1)) k)):=by
 intro k hk
 have st:knA g z (ds.take (i + 1))=knF g (knA g z (ds.take i)) p:=lQ (knF g) (fun _=>z) hp
 rw [uX,st]
 rw [List.take_add_one,hp,List.map_append] at hk
 show (if (Sum.inr (N k):Key)=Sum.inr (N (dIx p)) then _ else _)=some (vl (if k=dIx p then _ else _))
 by_cases e:k=dIx p
 ·rw [if_pos (by rw [e]),if_pos e]
 ·have m:k ∈ (ds.take i).map dIx:=by
   rcases List.mem_append.mp hk with m | m
   ·exact m
   ·exact absurd (List.mem_singleton.mp m) e
  rw [if_neg e,if_neg,h k m]
  intro z
  obtain ⟨q,mq,rfl⟩:=List.mem_map.mp m
  obtain ⟨j,hj⟩:=List.getElem?_of_mem mq
  have jl:j < i:=by
   have:=(List.getElem?_eq_some_iff.mp hj).1
   rw [List.length_take] at this
   omega
  rw [List.getElem?_take_of_lt jl] at hj
  have:=O.nm j i q p hj hp (Sum.inr.inj z)
  omega
inductive qJ (A:Adr) (d:Nat) (vs:List V) (H:Hp) (Q:VK) (E9:XK):Prop
 | mk (N:Nat->Str) (X:Hp) (v:V) (hs ds ms:List Pt) (z0:vs=[v]) (z1:ai X H) (z2:zG A N X v hs ds ms) (z3:Dm N d ds)
  (z4:∀(D:Addr) (H':Hp),ai H H'->H D=none->Ac N H' D (ds.map dIx) (fun i=>oI (knA cV none ds i))->Q (.ref D) H'):qJ A d vs H Q E9
theorem yM (T:Txt K mg A) (d:Nat):T.vN.Hz P w base (3 * d + 5) (qJ A d):=by
 refine T.vN.hs (k:=3 * d + 4) lU (fun f cdv A' outer s H vs Q E' hr hu h=>?_)
 obtain ⟨N,X,v,hs,ds,ms,rfl,s0,⟨a,dx,n0,n1,n2,x0,x1,x2,rfl,ha,e0,e1,e2,p0,p1,p2⟩,O,q⟩:=h
 refine ⟨_,(ae (pst 1 lU.nd (uY))
  (ae (cy PassesOwn.never rfl (cR (aJ (fv 0) rfl)) (pgn (i:=2) lU.nd rfl)
   (ah (cK (ak (hj:=by omega) (rL T d) hr (aa (aJ (fv 2) rfl) (aa (fv 1) ab))) (gK (fv 1) (aJ (fv 2) rfl) (jU hu set_list)))))
  (ah (aw (fv 1))))),?_⟩
 refine ag fun M1 K1 D hD=>?_
 obtain ⟨s1,eD⟩:=alc hD (HO.dK [])
 generalize upd H D _=H1 at s1 eD ⊢
 refine K1 _ _ ?_
 clear K1 M1
 try dsimp only
 refine ag fun M1 K1=>fdI ((s0.trans s1) _ _ ha) T.dI.cl T.cm rfl (Or.inl ⟨⟨_,SqL.of ((s0.trans s1) _ _ e1)⟩,cN (K:=K) (xs:=x1) (fun i σ Hc=>∃(v2:Option V) (kvs:List (Key × V)),σ=[some (.ref a),some (.ref D),v2]/\ai H Hc/\Hc D=some (.dK kvs)/\kvs.length <= i/\∀k ∈ (ds.take i).map dIx,L2.bX kvs (.inr (N k))=some (oI (knA cV none (ds.take i) k))) ⟨none,[],rfl,s1,eD,Nat.le_refl _,by simp⟩ (fun i σ Hc _ ⟨_,_,_,z,_⟩=>SqL.of ((s0.trans z) _ _ e1)) ?_ ?_⟩)
 ·rintro i v σ Hc hv ⟨v2,kvs,rfl,sc,eDc,kl,hk⟩
  obtain ⟨t,ht,pa⟩:=p1.get hv
  have mt:t ∈ ds:=List.mem_of_getElem? ht
  have il:i < ds.length:=(List.getElem?_eq_some_iff.mp ht).1
  have dt:=O.aR t mt
  have st:=BO cV none oI O ht hk
  have ln:=O.ln
  cases t with
  | aR n i' ps b =>
   have pa':=pa
   unfold aV at pa'
   obtain ⟨a',dx',pp,pb,xb,rfl,h1,h2,h3,h4⟩:=pa'
   have sX:=s0.trans sc
   refine fdI (sX _ _ h1) T.b8.cl T.dm rfl ⟨N,X,pb,D,xb,b,(ds.take i).map dIx,knA cV none (ds.take i),rfl,sX,h3,h4,O.dp _ mt,O.ck i _ ht,⟨kvs,eDc,hk⟩,fdI (sX _ _ h1) T.b8.cl T.cI rfl ⟨_,ke.k (k:=.inr (N i')) eDc (aH (by omega)),⟨_,_,rfl,ai.out sc hD _,ao,?_,st⟩⟩⟩
   have:(putK kvs (.inr (N i')) (oI (cV (knA cV none (ds.take i)) b))).length <= kvs.length + 1:=uW _ _ _
   omega
  | _=>exact dt.elim
 rintro σ Hc ⟨v2,kvs,rfl,sc,eDc,kl,hk⟩
 rw [show ds.take x1.length=ds by rw [p1.len];exact List.take_length] at hk
 exact K1 _ _ (q D Hc sc hD ⟨kvs,eDc,hk⟩)
end
section
variable {P:Program}{w:World}{K:W.Frag}{mg:Str->Option Value}{base:Heap}{A:Adr}{N:Nat->Str}
seal PE PA PS PSs PT PW
theorem yQ {kvs:List (Key × V)}{k:Key} (h:k ∉ kvs.map (·.1)):L2.bX kvs k=none:=by
 unfold L2.bX
 rw [List.find?_eq_none.mpr fun kv m=>by
  rw [decide_eq_true_iff]
  exact fun e=>h (e ▸ List.mem_map_of_mem m)]
 rfl
theorem tE:∀(kvs acc:List (Key × V)),((acc ++ kvs).map (·.1)).Nodup->bc acc kvs=acc ++ kvs
 | [],acc,_=>by rw [List.append_nil];rfl
 | (k,v) :: kvs,acc,h=>by
  have nk:k ∉ acc.map (·.1):=fun m=>by
   rw [List.map_append,List.map_cons] at h
   exact (List.nodup_append.mp h).2.2 k m k List.mem_cons_self rfl
  show bc (putK acc k v) kvs=_
  rw [uh v (yQ nk),tE kvs (acc ++ [(k,v)]) (by simpa using h)]
  simp
def poM (N:Nat->Str) (ds:List Pt) (x:Str):List Str:=match ds.find? (fun p=>decide (dNm N p=x)) with
 | some p=>dPs N p
 | none=>[]
def dA (N:Nat->Str) (ds ms:List Pt):List Lk:=(dz N ds ms).flatMap fun e=>qb N (poM N ds) e.1 e.2.1 e.2.2
structure OkL (N:Nat->Str) (d:Nat) (hs ds ms:List Pt):Prop where
 ok:Ok N d hs ds ms
 dk:Dm N d ds
 nn:(ds.map (dNm N)).Nodup
 pn:∀p ∈ ds,(dPs N p).length <= 100
 k5:∀e ∈ dz N ds ms,k5 e.1=true
 lo:∀e ∈ dz N ds ms,lOk e.1 e.2.2
 cal:∀e ∈ dz N ds ms,yx N (poM N ds) (ds.map (dNm N)) e.1
 ll:(dA N ds ms).length <= 900
def PoE (N:Nat->Str) (X:Hp) (p:Pt) (y:V) (H:Hp):Prop:=∃t pp,y=V.ref t/\H t=some (.tup [.str (dNm N p),.ref pp])/\X pp=some (.lst (sS (dPs N p)))
theorem Ai {X H:Hp}:∀{ds:List Pt}{ys:List V},Paired (fun p y=>PoE N X p y H) ds ys->∃(ps:List Addr) (kvs:List (Key × V)),ys=ps.map V.ref/\ps.length=kvs.length/\kvs.map (·.1)=ds.map (fun p=>Sum.inr (dNm N p))/\(∀(i:Nat) t k v,ps[i]?=some t->kvs[i]?=some (k,v)->H t=some (.tup [kV k,v]))/\∀p ∈ ds,∃pp,(Sum.inr (dNm N p),V.ref pp) ∈ kvs/\X pp=some (.lst (sS (dPs N p)))
 | _,_,.nil=>⟨[],[],rfl,rfl,rfl,(fun i t k v h=>by simp at h),(fun p m=>by cases m)⟩
 | _,_,.cons (b:=y) (a:=p) h r=>by
  obtain ⟨t,pp,rfl,h1,h2⟩:=h
  obtain ⟨ps,kvs,e1,e2,e3,e4,e5⟩:=Ai r
  refine ⟨t :: ps,(Sum.inr (dNm N p),V.ref pp) :: kvs,by rw [e1];rfl,by simp [e2],by rw [List.map_cons,List.map_cons,e3],fun i t' k v ht hk=>?_,fun q hq=>?_⟩
  ·cases i with
   | zero=>cases ht;cases hk;exact h1
   | succ i=>exact e4 i t' k v ht hk
  ·rcases List.mem_cons.mp hq with rfl | hq
   ·exact ⟨pp,List.mem_cons_self,h2⟩
   ·obtain ⟨pp',m,z⟩:=e5 q hq
    exact ⟨pp',List.mem_cons_of_mem _ m,z⟩
theorem AH {kvs:List (Key × V)}{k:Key}{v:V} (nd:(kvs.map (·.1)).Nodup) (m:(k,v) ∈ kvs):L2.bX kvs k=some v:=by
 obtain ⟨i,hi⟩:=List.getElem?_of_mem m
 exact rA nd hi
theorem xr {ds:List Pt} (nn:(ds.map (dNm N)).Nodup) {p:Pt} (m:p ∈ ds):poM N ds (dNm N p)=dPs N p:=by
 have:ds.find? (fun q=>decide (dNm N q=dNm N p))=some p:=by
  induction ds with
  | nil=>cases m
  | cons q r ih =>
   rw [List.map_cons,List.nodup_cons] at nn
   rw [List.find?_cons]
   by_cases e:dNm N q=dNm N p
   ·rw [decide_eq_true e]
    rcases List.mem_cons.mp m with z | z
    ·rw [z]
    ·exact absurd (e ▸ List.mem_map_of_mem z) nn.1
   ·rw [decide_eq_false e]
    rcases List.mem_cons.mp m with z | z
    ·exact absurd (by rw [z]) e
    ·exact ih nn.2 z
 unfold poM
 rw [this]
inductive um (A:Adr) (d:Nat) (vs:List V) (H:Hp) (Q:VK) (E9:XK):Prop
 | mk (N:Nat->Str) (X:Hp) (v:V) (hs ds ms:List Pt) (z0:vs=[v,.bl false]) (z1:ai X H) (z2:zG A N X v hs ds ms) (z3:OkL N d hs ds ms)
  (z4:∀(R:Addr) (ys:List V) (H':Hp),ai H H'->H R=none->H' R=some (.lst ys)->Lks H' (dA N ds ms) ys->Q (.ref R) H'):um A d vs H Q E9
theorem AY (T:Txt K mg A) (d:Nat):T.links.Hz P w base (3 * d + 8) (um A d):=by
 have D_step_links:T.kW.Hz P w base 1 (fun _ _ _ _=>False):=T.kW.hs (k:=0) qg (fun _ _ _ _ _ _ _ _ _ _ _ h=>h.elim) (fun _ _ _ _ h=>h.elim)
 refine T.links.hs (k:=3 * d + 7) gq (fun f cdv A' outer s H vs Q E' hr hu h=>?_)
 obtain ⟨N,X,v,hs,ds,ms,rfl,s0,pg,O,q⟩:=h
 obtain ⟨a,dx,n0,n1,n2,x0,x1,x2,rfl,ha,e0,e1,e2,p0,p1,p2⟩:=id pg
 have pn:∀i p,ds[i]?=some p->∀v,x1[i]?=some v->aV A N X v p:=fun i p hp v hv=>by
  obtain ⟨t,ht,pa⟩:=p1.get hv
  rw [hp] at ht
  cases ht
  exact pa
 refine ⟨_,(ae (pst 2 gq.nd (pcT Bq T.sW (aa (gI (N:=["deed"]) (own:=1) (fr:=[]) (cc.of (by kernel_rfl!)) rfl (cR (aJ (fv 0) rfl)) (fun b=>pgn (i:=0) (show List.Nodup (["deed"]:List PySem.Str) by decide +kernel) rfl) (fun b=>mX) (fun b=>aI (aa (aJ (fv 0) rfl) (aa (aJ (fv 0) rfl) ab)))) ab)))
  (ae (pst 3 gq.nd (ak (hj:=by omega) (yM T d) hr (aa (fv 0) ab)))
  (ae (pst 4 gq.nd (aC ab))
  (ae (cy PassesOwn.never rfl (cR (ak (hj:=by omega) (AO T d) hr (aa (fv 0) ab))) (iK rfl (bf (pgn (i:=5) gq.nd rfl) (bf (pgn (i:=6) gq.nd rfl) (bf (pgn (i:=7) gq.nd rfl) fC))))
   (ae (aE (gi (fv 4) (aa (ak (hj:=by omega) (CF T) hr (aa (fv 5) (aa (fv 6) (aa (fv 7) (aa (fv 2) ab))))) ab)))
   (ah (aL (bU (fv 1) (fun _=>rfl))
    (ah (aE (gi (fv 4) (aa (ak (hj:=by omega) D_step_links hr (aa (fv 5) (aa (fv 3) ab))) ab))))
    aB))))
  (ah (aw (fv 4))))))),?_⟩
 have lx:=p1.len
 have dln:=O.dk.ln
 refine ag fun M1 K1=>fdI (s0 _ _ ha) T.dI.cl T.cm rfl (Or.inl ⟨⟨_,SqL.of (s0 _ _ e1)⟩,lg (K:=K) (own:=1) ds (fun _=>true) (PoE N X) (SqL.of (s0 _ _ e1)) lx (aH (by omega)) ?_ ?_ ?_ ?_⟩)
 ·intro b i x p v0 H1 Nn Y hx he hv s1 no yes
  obtain ⟨u0,rfl⟩:∃u0,v0=[u0]:=by
   match v0,hv with
   | [u],_=>exact ⟨u,rfl⟩
  have pa:=pn i p he x hx
  have dt:=O.dk.aR p (List.mem_of_getElem? he)
  cases p with
  | aR n i' ps b' =>
   unfold aV at pa
   obtain ⟨a',dx',pp,pb,xb,rfl,h1,h2,h3,h4⟩:=pa
   have sX:=s0.trans s1
   exact fdI (sX _ _ h1) T.b8.cl T.cI rfl (fdI (sX _ _ h1) T.b8.cl T.eT rfl ⟨by show 2 <= sizeLine;decide,fun tp htp=>yes rfl [some (.ref a')] _ _ rfl (ai.upd htp _) ⟨tp,pp,rfl,ao,by rw [h2];simp [sS,dPs,nV,Function.comp_def]⟩⟩)
  | _=>exact dt.elim
 ·rintro e y H1 H2 s1 ⟨t,pp,e1,h1,h2⟩
  exact ⟨t,pp,e1,s1 _ _ h1,h2⟩
 ·rintro e y H1 D ys zs hD ⟨t,pp,e1,h1,h2⟩
  exact ⟨t,pp,e1,ar (fun z=>by rw [z,hD] at h1;cases h1) h1,h2⟩
 intro L1 H1 ys hL1 s1 eL1 pr
 rw [nc] at pr
 obtain ⟨ps,kvs,rfl,k2,k3,k4,k5'⟩:=Ai pr
 have kl:kvs.length=ds.length:=by
  have:=congrArg List.length k3
  simpa using this
 have knd:(kvs.map (·.1)).Nodup:=by
  rw [k3]
  have h:=O.nn
  unfold List.Nodup at h ⊢
  rw [List.pairwise_map] at h ⊢
  exact h.imp fun n e=>n (Sum.inr.inj e)
 refine ⟨L1,ps,kvs,rfl,SqL.of eL1,k2,by omega,fun i t k v ht hk=>SqT.of (k4 i t k v ht hk),fun D hD=>?_⟩
 obtain ⟨s2,eD⟩:=alc hD (HO.dK (bc [] kvs))
 generalize upd H1 D _=H2 at s2 eD ⊢
 rw [tE kvs [] (by simpa using knd),List.nil_append] at eD
 have PO:yG X H2 D (poM N ds) (ds.map (dNm N)):=by
  refine ⟨kvs,eD,fun x hx=>?_⟩
  obtain ⟨p,mp,rfl⟩:=List.mem_map.mp hx
  rw [xr O.nn mp]
  obtain ⟨pp,m,z⟩:=k5' p mp
  exact ⟨O.pn p mp,pp,AH knd m,z⟩
 have t2:=s1.trans s2
 refine K1 _ _ ?_
 clear K1 M1
 try dsimp only
 refine ag fun M1 K1=>⟨N,X,.ref a,hs,ds,ms,rfl,s0.trans t2,pg,O.dk,fun D2 H3 s3 hD2 _=>K1 _ _ ?_⟩
 clear K1 M1
 try dsimp only
 refine ag fun M1 K1=>⟨Nat.zero_le _,fun F hF=>?_⟩
 obtain ⟨s4,eF⟩:=alc hF (HO.lst [])
 generalize upd H3 F _=H4 at s4 eF ⊢
 have t4:=(t2.trans s3).trans s4
 have hF0:H F=none:=ai.free (t2.trans s3) hF
 have eD4:=s4 _ _ (s3 _ _ eD)
 have FD:F ≠ D:=fresh_ne hF (s3 _ _ eD)
 refine K1 _ _ ?_
 clear K1 M1
 try dsimp only
 refine ag fun M1 K1=>⟨N,X,.ref a,hs,ds,ms,rfl,s0.trans t4,pg,O.ok,fun L zs H5 s5 hL eL ly=>?_⟩
 have LF:L ≠ F:=fresh_ne hL eF
 have nb:=O.ok.nb
 have ok5:=O.k5
 have okc:=O.cal
 have okl:=O.lo
 have oll:=O.ll
 unfold dA at oll q
 generalize dz N ds ms=es at ly nb ok5 okc okl oll q
 have lly:=Paired.length ly
 refine Or.inl ⟨⟨_,SqL.of eL⟩,cN (K:=K) (xs:=zs) (fun i σ Hd=>∃(ws:List V) (v5 v6 v7:Option V),σ=[some (.ref a),some (.bl false),some (.ref D),some (.ref D2),some (.ref F),v5,v6,v7]/\Sm [F] H5 Hd/\Hd F=some (.lst ws)/\Lks Hd ((es.take i).flatMap fun e=>qb N (poM N ds) e.1 e.2.1 e.2.2) ws) ⟨[],none,none,none,rfl,Sm.refl _ _,s5 _ _ eF,.nil⟩ (fun i σ Hd _ ⟨_,_,_,_,_,z,_⟩=>SqL.of (z _ _ (fun m=>LF (List.mem_singleton.mp m)) eL)) ?_ ?_⟩
 ·rintro i y σ Hd hy ⟨ws,v5,v6,v7,rfl,sd,hFd,lw⟩
  obtain ⟨e,he,tp,v,rfl,etp,pa⟩:=er ly hy
  have etp':=sd _ _ (fun m=>by rw [List.mem_singleton.mp m,s5 _ _ eF] at etp;cases etp) etp
  have sX:ai X Hd:=sd.same ((s0.trans t4).trans s5) (fun m hm=>by
   rw [List.mem_singleton.mp hm]
   exact ai.free s0 hF0)
  have me:=List.mem_of_getElem? he
  have ne:=nb e me
  have eDd:Hd D=some (.dK kvs):=sd _ _ (fun m=>FD (List.mem_singleton.mp m).symm) (s5 _ _ eD4)
  have st:=j9 (fun e:Le=>qb N (poM N ds) e.1 e.2.1 e.2.2) he
  have sl:=Du (fun e:Le=>qb N (poM N ds) e.1 e.2.1 e.2.2) he
  have llw:=Paired.length lw
  try dsimp only
  refine ⟨tp,_,rfl,SqT.of etp',rfl,_,_,rfl,_,_,rfl,_,_,rfl,rfl,ag fun N1 J1=>⟨Or.inl ⟨rfl,_,SqL.of hFd⟩,N,X,v,e.1,e.2.1,e.2.2,D,poM N ds,ds.map (dNm N),rfl,sX,pa,ok5 e me,ne,okl e me,PO.same (fun kvs' h=>by rw [eD] at h;cases h;exact eDd),okc e me,fun R2 us He s6 hR2 eR2 l6=>?_⟩⟩
  have lu:=Paired.length l6
  refine ⟨_,_,_,_,rfl,rfl,s6 _ _ hFd,eR2,sz (by omega),J1 _ _ ?_⟩
  clear J1 N1
  refine ⟨_,rfl,bz ⟨_,_,_,_,rfl,(sd.trans (Sm.new s6)).trans (Sm.at (List.mem_singleton.mpr rfl) _),ao,?_⟩⟩
  rw [st]
  exact oy (H:=H) (R2:=R2) s6 hFd lw l6
 rintro σ Hd ⟨ws,v5,v6,v7,rfl,sd,hFd,lw⟩
 rw [show es.take zs.length=es by rw [<- lly];exact List.take_length] at lw
 exact K1 _ _ (q F ws Hd (sd.same (t4.trans s5) (fun m hm=>by rw [List.mem_singleton.mp hm];exact hF0)) hF0 hFd lw)
end
section
variable {P:Program}{w:World}{K:W.Frag}{mg:Str->Option Value}{base:Heap}{A:Adr}{N:Nat->Str}
seal PE PA PS PSs PT PW
theorem yO {H:Hp} (ns:List Int):du K H (ns.map V.int) (ns.map PyData.int)/\PyData.canLayAll0 (ns.map PyData.int)=true/\PyData.depthAll (ns.map PyData.int)=0:=by
 induction ns with
 | nil=>exact ⟨.nil,rfl,rfl⟩
 | cons n r ih =>
  obtain ⟨h1,h2,h3⟩:=ih
  exact ⟨.cons (.int n) h1,by rw [List.map_cons];simp [PyData.canLayAll0,PyData.canLay0,h2],by rw [List.map_cons];simp [PyData.depthAll,PyData.depth,h3]⟩
theorem lj {H:Hp}{xs:List Str} (ok:∀x ∈ xs,PyData.strOk x=true):du K H (sS xs) (xs.map PyData.str)/\PyData.canLayAll0 (xs.map PyData.str)=true/\PyData.depthAll (xs.map PyData.str)=0:=by
 induction xs with
 | nil=>exact ⟨.nil,rfl,rfl⟩
 | cons n r ih =>
  obtain ⟨h1,h2,h3⟩:=ih fun x hx=>ok x (List.mem_cons_of_mem _ hx)
  exact ⟨.cons (.str n) h1,by rw [List.map_cons];simp [PyData.canLayAll0,PyData.canLay0,h2,ok n List.mem_cons_self],by rw [List.map_cons];simp [PyData.depthAll,PyData.depth,h3]⟩
theorem ne_nil {H:Hp}{p q:Addr}{xs:List V}{ds:List PyData} (hp:SqL K H p xs) (hq:SqL K H q []) (r:du K H xs ds/\PyData.canLayAll0 ds=true/\PyData.depthAll ds=0) {Q:VK} (k:Q (.bl (!xs.isEmpty)) H):fNe K (.ref p) (.ref q) H Q:=by
 obtain ⟨h1,h2,h3⟩:=r
 refine ⟨.list ds,.list [],.lst hp h1,.lst hq .nil,by simp [SeqAt.shaped,PyData.canLay0,PyData.depth,h2,h3],rfl,?_⟩
 cases h1 with
 | nil=>exact k
 | cons _ _=>exact k
inductive wt (K:W.Frag) (vs:List V) (H:Hp) (Q:VK) (E9:XK):Prop
 | mk (a:Addr) (ns:List Int) (k:Int) (z0:vs=[.ref a,.int k]) (z1:SqL K H a (ns.map V.int)) (z2:0 <= k) (z4:k < 1000) (z3:∀(c:Int) (H':Hp),ai H H'->Q (.int c) H'):wt K vs H Q E9
theorem za {ns:List Int}{k:Int} (h0:0 <= k) (h1:k < (ns.length:Int)):∃c,atI (ns.map V.int) k=some (.int c):=by
 have hk:k.toNat < ns.length:=by omega
 refine ⟨ns[k.toNat],?_⟩
 have e:=ka (xs:=ns.map V.int) (j:=k.toNat) (v:=.int ns[k.toNat]) (by rw [List.getElem?_map,List.getElem?_eq_getElem hk];rfl)
 rw [show ((k.toNat:Nat):Int)=k by omega] at e
 exact e
theorem sZ (T:Txt K mg A):T.jT.Hz P w base 1 (wt K):=by
 refine T.jT.hs gC (fun f cdv A' outer s H vs Q E hr hu h=>?_)
 obtain ⟨a,ns,k,rfl,hS,h0,h1,q⟩:=h
 have el:(((ns.map V.int).length:Nat):Int)=(ns.length:Int):=by rw [List.length_map]
 refine ⟨_,(ae (aL (ptc xH (fv 1) (pcB gm T.fV (aa (fv 0) ab)))
   (ah (aw (px hu (fv 0) (fv 1))))
   aB)
  (ae (pst 2 gC.nd af)
  (ae (aL (ptc (nY hu) (fv 0) (aC ab))
   (ah (pst 2 gC.nd (px hu (fv 0) (au bB (fv 1) (pcB gm T.fV (aa (fv 0) ab))))))
   aB)
  (ah (aw (au bB (au cL (au aK (au aK (au bB (fv 2) af) (au cL af (fv 1))) af) af) af)))))),?_⟩
 refine ag fun M1 K1=>Or.inl ⟨_,_,rfl,Or.inl ⟨_,hS,rfl⟩,_,rfl,aU (fun c=>?_) (fun c=>K1 _ _ ?_)⟩
 ·have c':k < (((ns.map V.int).length:Nat):Int):=of_decide_eq_true c
  rw [el] at c'
  obtain ⟨x,hx⟩:=za h0 c'
  exact lix hS hx (q x H (ai.refl _))
 clear K1 M1
 try dsimp only
 refine ag fun M1 K1=>K1 _ _ ?_
 clear K1 M1
 try dsimp only
 refine ag fun M1 K1=>?_
 have fin:∀(c:Int) (H':Hp),ai H H'->M1 [some (.ref a),some (.int k),some (.int c)] H':=fun c H' s'=>K1 _ _ ⟨by show (0:Int) < 1000003;decide,.inl ⟨by decide,by omega⟩,.inr ⟨by decide,by decide⟩,by show (0:Int) < 2147483647;decide,q _ H' s'⟩
 refine ⟨Nat.zero_le _,fun R hR=>?_⟩
 obtain ⟨s1,e1⟩:=alc hR (HO.lst [])
 generalize upd H R _=H1 at s1 e1 ⊢
 refine ne_nil (s1.seq hS) (SqL.of e1) (yO ns) ⟨_,rfl,?_⟩
 cases ns with
 | nil=>exact bz (fin 0 H1 s1)
 | cons n r =>
  refine c0 ?_
  have m:=bG k (show (0:Int) < (((n :: r).map V.int).length:Int) by rw [List.length_map,List.length_cons];omega)
  obtain ⟨x,hx⟩:=za (ns:=n :: r) m.1 (Int.lt_of_lt_of_le m.2 (Int.le_of_eq el))
  exact Or.inl ⟨_,_,rfl,Or.inl ⟨_,s1.seq hS,rfl⟩,by show (0:Int) < (((n :: r).map V.int).length:Int);rw [List.length_map,List.length_cons];omega,lix (s1.seq hS) hx (fin x H1 s1)⟩
inductive ur (K:W.Frag) (vs:List V) (H:Hp) (Q:VK) (E9:XK):Prop
 | mk (a:Addr) (ns:List Int) (k:Int) (n:Nat) (z0:vs=[.ref a,.int k,.int n]) (z1:SqL K H a (ns.map V.int)) (z2:0 <= k) (z4:k + n < 1000)
  (z3:∀(R:Addr) (cs:List Int) (H':Hp),ai H H'->H R=none->H' R=some (.lst (cs.map V.int))->cs.length=n->Q (.ref R) H'):ur K vs H Q E9
theorem BA {ys:List V} (h:∀(i:Nat) y,ys[i]?=some y->∃c,y=V.int c):∃cs:List Int,ys=cs.map V.int:=by
 induction ys with
 | nil=>exact ⟨[],rfl⟩
 | cons y r ih =>
  obtain ⟨c,rfl⟩:=h 0 y rfl
  obtain ⟨cs,rfl⟩:=ih fun i z hz=>h (i + 1) z hz
  exact ⟨c :: cs,rfl⟩
theorem wK (T:Txt K mg A):T.ph.Hz P w base 2 (ur K):=by
 refine T.ph.hs (k:=1) uA (fun f cdv A' outer s H vs Q E hr hu h=>?_)
 obtain ⟨a,ns,k,n,rfl,hS,h0,h1,q⟩:=h
 refine ⟨_,(ah (aw (gI (N:=["_law_k","_law_script","_law_at"]) (own:=1) (fr:=[0,1]) (cc.of (by kernel_rfl!)) rfl (cv rfl T.cC (aa (fv 2) ab)) (fun b=>pgn (i:=0) (show List.Nodup (["_law_k","_law_script","_law_at"]:List PySem.Str) by decide +kernel) rfl) (fun b=>mX) (fun b=>ak (sZ T) hr (aa (fv 1) (aa (au aK (fv 2) (fv 0)) ab)))))),⟨_,rfl,by omega,by omega,?_⟩⟩
 rw [Int.toNat_natCast]
 refine pZ (n:=n) (x:=fun i=>.int (0 + (i:Int))) (fun j y H=>∃c,y=V.int c) (aH (by omega)) (fun _ _=>Nat.le_refl _) (fun _ _ h _=>h) (fun _ _ _ _ _ _ y=>y) (fun b j H1 G hj s1 kk=>⟨a,ns,_,rfl,s1.seq hS,by omega,by omega,fun c H' s'=>kk _ H' s' ⟨c,rfl⟩⟩) (fun j y H1 H2 s1 h=>h) (fun j y H1 D ys zs hD h=>h) (fun D H1 ys hD s1 e1 ly hy=>?_)
 ·obtain ⟨cs,rfl⟩:=BA hy
  exact q D cs H1 s1 hD e1 (by rw [<- ly,List.length_map])
theorem BI {m:Int} (h:0 < m):∀x:Int,0 <= x % m/\x % m < m:=fun x=>bG x h
inductive yK (vs:List V) (H:Hp) (Q:VK) (E9:XK):Prop
 | mk (c k:Int) (z0:vs=[.int c,.int k]) (z1:0 <= k) (z2:k < 1000) (z3:∀m:Int,0 <= m->m < 1000000000000000->Q (.int m) H):yK vs H Q E9
theorem nh (T:Txt K mg A):T.rK.Hz P w base 1 yK:=by
 refine T.rK.hs gy (fun f cdv A' outer s H vs Q E hr hu h=>?_)
 obtain ⟨c,k,rfl,h0,h1,q⟩:=h
 refine ⟨_,(ae (aL (PW.pt (pw_and (ptc (bE hu) (au bB (fv 0) af) af) (pw_and1 (ptc vn (fv 0) (au qw af af)))))
   (ae (pst 2 gy.nd (au dh (fv 0) af))
   (ae (cy PassesOwn.never rfl (cv rfl T.cC (aa (fv 1) ab)) (pgn (i:=3) gy.nd rfl)
    (ah (pst 2 gy.nd (au dh (fv 2) (au qw af af)))))
   (ah (aL (ptc vn (fv 2) af)
    (ah (aw (au bB (fv 2) (au qw af af))))
    aB))))
   aB)
  (ae (pst 4 gy.nd (au bB (au cL (au aK (au bB (fv 0) af) af) (au aK (au cL (fv 1) (fv 1)) af)) af))
  (ah (aw (au bB (au cL (fv 4) (au aK (au bB (fv 4) af) af)) af))))),?_⟩
 refine ag fun M1 K1=>?_
 have fin:∀(v2 v3 v4:Option V),M1 [some (.int c),some (.int k),v2,v3,v4] H:=fun v2 v3 v4=>K1 _ _ (by
  refine ag fun M2 K2=>?_
  have kk:-(2 ^ 64) < k * k + 7919/\k * k + 7919 < 2 ^ 64:=by
   have a1:0 <= k * k:=Int.mul_nonneg h0 h0
   have a2:k * k <= 1000 * 1000:=Int.mul_le_mul (by omega) (by omega) h0 (by decide)
   omega
  refine ⟨by show (0:Int) < 1000003;decide,.inl ⟨by omega,by omega⟩,.inr kk,by show (0:Int) < 2147483647;decide,?_⟩
  obtain ⟨m0,m1⟩:=bG ((c % 1000003 + 17) * (k * k + 7919)) (show (0:Int) < 2147483647 by decide)
  refine K2 _ _ ?_
  clear K2 M2
  try dsimp only
  have m2:=BI (show (0:Int) < 2147483647 by decide)
  exact ⟨by show (0:Int) < 65521;decide,.inl ⟨by omega,by omega⟩,by show (0:Int) < 2147483647;decide,q _ (m2 _).1 (Int.lt_trans (m2 _).2 (by decide))⟩)
 refine ⟨by show (0:Int) < 2;decide,rfl,_,rfl,aU (fun _=>?_) (fun _=>bz (fin none none none))⟩
 refine ⟨⟨by decide,by decide,by decide⟩,_,rfl,aU (fun _=>?_) (fun _=>fin none none none)⟩
 refine ag fun M2 K2=>⟨⟨by decide,by decide⟩,K2 _ _ ?_⟩
 clear K2 M2
 try dsimp only
 refine ag fun M2 K2=>⟨_,rfl,by omega,by omega,fD (fun i σ Hc=>∃(d:Int) (v3:Option V),σ=[some (.int c),some (.int k),some (.int d),v3,none]/\Hc=H) ⟨_,none,rfl,rfl⟩ ?_ ?_⟩
 ·rintro i σ Hc hi ⟨d,v3,rfl,rfl⟩
  exact ⟨⟨by decide,by decide,by decide⟩,⟨by decide,by decide⟩,_,_,rfl,rfl⟩
 rintro σ Hc ⟨d,v3,rfl,rfl⟩
 refine K2 _ _ ?_
 try dsimp only
 refine ⟨_,rfl,aU (fun _=>?_) (fun _=>fin _ _ _)⟩
 obtain ⟨e0,e1⟩:=bG d (show (0:Int) < 10 ^ 15 by decide)
 exact ⟨⟨by decide,by decide,by decide⟩,by show (0:Int) < 10 ^ 15;decide,q _ e0 e1⟩
inductive xp (K:W.Frag) (vs:List V) (H:Hp) (Q:VK) (E9:XK):Prop
 | mk (a:Addr) (xs:List V) (n:Int) (z0:vs=[.ref a,.int n]) (z1:SqL K H a xs) (z2:0 < xs.length) (z3:∀x ∈ xs,Q x H):xp K vs H Q E9
theorem mv (T:Txt K mg A):T.pB.Hz P w base 1 (xp K):=by
 refine T.pB.hs uN (fun f cdv A' outer s H vs Q E hr hu h=>?_)
 obtain ⟨a,xs,n,rfl,hS,h0,q⟩:=h
 refine ⟨_,(ah (aw (px hu (fv 0) (au bB (fv 1) (pcB gm T.fV (aa (fv 0) ab)))))),?_⟩
 have m:=bG n (show (0:Int) < (xs.length:Int) by omega)
 obtain ⟨x,hx,ax⟩:=A7 m.1 m.2
 exact Or.inl ⟨_,_,rfl,Or.inl ⟨_,hS,rfl⟩,by show (0:Int) < (xs.length:Int);omega,lix hS ax (q x (List.mem_of_getElem? hx))⟩
end
section
variable {P:Program}{w:World}{K:W.Frag}{mg:Str->Option Value}{base:Heap}{A:Adr}{N:Nat->Str}
seal PE PA PS PSs PT PW
structure kf (N:Nat->Str):Prop where
 inj:∀i j,i < 24->j < 24->N i=N j->i=j
 ch:∀i,i < 24->∀c ∈ (N i).cps.toList,97 <= c/\c <= 122
abbrev LET:Str:="abcdefghijklmnopqrstuvwxyz"
def uy (k:Int):Nat:=(97 + k).toNat
theorem D6 {k:Int} (h0:0 <= k) (h1:k < 26):atI LET.cps.toList k=some (uy k):=by
 obtain ⟨n,rfl⟩:∃n:Nat,k=(n:Int):=⟨k.toNat,by omega⟩
 have h:∀m:Fin 26,atI LET.cps.toList ((m.val:Nat):Int)=some (uy ((m.val:Nat):Int)):=by decide +kernel
 exact h ⟨n,by omega⟩
abbrev Cu:Str:="set if by at idle most end else main over rest last"
abbrev Co:Str:="loop given hand own put say send call deed let open house closed"
def sJ:List Str:=["set","if","by","at","idle","most","end","else","main","over","rest","last"]
def sG:List Str:=["loop","given","hand","own","put","say","send","call","deed","let","open","house","closed"]
def words:List Str:=sJ ++ sG
theorem xR:oA Cu " " sJ:=⟨by decide +kernel,by decide +kernel,by decide +kernel,by decide +kernel,by decide,by decide +kernel⟩
theorem xV:oA Co " " sG:=⟨by decide +kernel,by decide +kernel,by decide +kernel,by decide +kernel,by decide,by decide +kernel⟩
theorem AA:words.Nodup:=by decide +kernel
theorem zO:∀x ∈ words,∀c ∈ x.cps.toList,97 <= c/\c <= 122:=by decide +kernel
theorem Bz (o:Int):kf fun k=>words.getD ((o + (0 + (k:Int))) % 25).toNat Str.empty:=by
 have g:∀k:Nat,∃j,j < 25/\((o + (0 + (k:Int))) % 25).toNat=j:=fun k=>⟨_,by have:=bG (o + (0 + (k:Int))) (show (0:Int) < 25 by decide);omega,rfl⟩
 have e:∀j,j < 25->words.getD j Str.empty ∈ words:=fun j h=>by
  rw [List.getD_eq_getElem?_getD,List.getElem?_eq_getElem (show j < words.length from h)]
  exact List.getElem_mem _
 refine ⟨fun i j hi hj h=>?_,fun i hi=>?_⟩
 ·obtain ⟨a,ha,ea⟩:=g i
  obtain ⟨b,hb,eb⟩:=g j
  have h:words.getD ((o + (0 + (i:Int))) % 25).toNat Str.empty=words.getD ((o + (0 + (j:Int))) % 25).toNat Str.empty:=h
  rw [ea,eb,List.getD_eq_getElem?_getD,List.getD_eq_getElem?_getD,List.getElem?_eq_getElem (show a < words.length from ha),List.getElem?_eq_getElem (show b < words.length from hb)] at h
  have:=(List.getElem_inj AA).mp h
  omega
 ·obtain ⟨a,ha,ea⟩:=g i
  show ∀c ∈ (words.getD ((o + (0 + (i:Int))) % 25).toNat Str.empty).cps.toList,_
  rw [ea]
  exact zO _ (e a ha)
def dec (v:Int) (cs:List Nat):Int:=cs.foldl (fun v (c:Nat)=>(v + 1) * 26 + ((c:Int) - 97)) v
theorem zr {n:Int} (cs:List Nat):dec (n / 26 - 1) (uy (n % 26) :: cs)=dec n cs:=by
 unfold dec
 rw [List.foldl_cons]
 congr 1
 have m:=bG n (show (0:Int) < 26 by decide)
 have e:((uy (n % 26):Nat):Int) - 97=n % 26:=by
  unfold uy
  omega
 rw [e]
 omega
def ET (n:Int) (x:Str):Prop:=dec (-1) x.cps.toList=n/\∀c ∈ x.cps.toList,97 <= c/\c <= 122
theorem FE {N:Nat->Str}{c s:Int} (hs:1 <= s) (h:∀k:Nat,k < 24->ET (c + (k:Int) * s) (N k)):kf N:=by
 refine ⟨fun i j hi hj e=>?_,fun i hi=>(h i hi).2⟩
 have h1:=(h i hi).1
 rw [e,(h j hj).1] at h1
 have h2:(j:Int) * s=(i:Int) * s:=by omega
 have:=Int.eq_of_mul_eq_mul_right (by omega) h2
 omega
theorem zH {a:Nat}{x:Str}:((⟨#[a]⟩:Str) ++ x).cps.toList=a :: x.cps.toList:=by
 show (#[a] ++ x.cps).toList=_
 rw [Array.toList_append]
 rfl
theorem Fv {n:Int}{j:Nat} (h0:0 <= n) (h:n + 1 < 26 ^ (j + 1)):n / 26 - 1 + 1 < 26 ^ j:=by
 have e:(26:Int) ^ (j + 1)=26 ^ j * 26:=Int.pow_succ _ _
 rw [e] at h
 have:=Int.ediv_lt_of_lt_mul (by decide:(0:Int) < 26) (show n < 26 ^ j * 26 by omega)
 omega
inductive qP (vs:List V) (H:Hp) (Q:VK) (E9:XK):Prop
 | mk (c o:Int) (z0:vs=[.int c,.int o,.int 24])
  (z1:∀(R:Addr) (N:Nat->Str) (H':Hp),ai H H'->H R=none->H' R=some (.lst (sS ((List.range 24).map N)))->kf N->Q (.ref R) H'):qP vs H Q E9
theorem Af (T:Txt K mg A):T.l9.Hz P w base 1 qP:=by
 refine T.l9.hs bt (fun f cdv A' outer s H vs Q E hr hu h=>?_)
 obtain ⟨c,o,rfl,q⟩:=h
 refine ⟨_,(ae (pst 3 bt.nd (m_split aj (aa aj ab)))
  (ae (pst 3 bt.nd (au aK (fv 3) (m_split aj (aa aj ab))))
  (ae (aL (ptc (bE hu) (au bB (fv 0) af) af)
   (ah (aw (gI (N:=["_law_k","_law_words","_law_other"]) (own:=1) (fr:=[3,1]) (cc.of (by kernel_rfl!)) rfl (cv rfl T.cC (aa (fv 2) ab)) (fun b=>pgn (i:=0) (show List.Nodup (["_law_k","_law_words","_law_other"]:List PySem.Str) by decide +kernel) rfl) (fun b=>mX) (fun b=>px hu (fv 1) (au bB (au aK (fv 2) (fv 0)) (pcB gm T.fV (aa (fv 1) ab)))))))
   aB)
  (ae (pst 4 bt.nd aj)
  (ae (pst 5 bt.nd (px hu (aC (aa af (aa af (aa af (aa af (aa (au aK af (au bB (fv 1) (au qw af af))) ab)))))) (au bB (au dh (fv 0) af) af)))
  (ae (pst 6 bt.nd (aC ab))
  (ae (cy PassesOwn.never rfl (cv rfl T.cC (aa (fv 2) ab)) (pgn (i:=7) bt.nd rfl)
   (ae (pst 8 bt.nd (au aK (au bB (au dh (fv 0) af) (au qw af af)) (au cL (fv 7) (fv 5))))
   (ae (pst 9 bt.nd aj)
   (ae (jQ PassesOwn.never (ptc Gi (fv 8) af)
    (ae (pst 9 bt.nd (au aK (px hu (fv 4) (au bB (fv 8) af)) (fv 9)))
    (ah (pst 8 bt.nd (au uU (au dh (fv 8) af) af)))))
   (ah (aE (aT (fv 6) (aa (fv 9) ab))))))))
  (ah (aw (fv 6)))))))))),?_⟩
 refine ag fun M1 K1=>⟨rfl,_,_,_,rfl,rfl,xR,fun L1 hL1=>?_⟩
 obtain ⟨s1,e1⟩:=alc hL1 (HO.lst (sJ.map V.str))
 generalize upd H L1 _=H1 at s1 e1 ⊢
 refine K1 _ _ ?_
 clear K1 M1
 try dsimp only
 refine ag fun M1 K1=>⟨rfl,_,_,_,rfl,rfl,xV,fun L2 hL2=>?_⟩
 obtain ⟨s2,e2⟩:=alc hL2 (HO.lst (sG.map V.str))
 generalize upd H1 L2 _=H2 at s2 e2 ⊢
 refine ⟨L1,L2,_,_,rfl,rfl,s2 _ _ e1,e2,by decide,fun L3 hL3=>?_⟩
 obtain ⟨s3,e3⟩:=alc hL3 (HO.lst (sJ.map V.str ++ sG.map V.str))
 generalize upd H2 L3 _=H3 at s3 e3 ⊢
 have t3:=(s1.trans s2).trans s3
 have e3:H3 L3=some (.lst (sS words)):=by rw [e3,<- List.map_append];rfl
 refine K1 _ _ ?_
 clear K1 M1
 try dsimp only
 refine ag fun M1 K1=>⟨by show (0:Int) < 4;decide,rfl,_,rfl,aU (fun _=>?_) (fun _=>K1 _ _ ?_)⟩
 ·refine ⟨_,rfl,by decide,by decide,vU (n:=24) (fun _=>true) (fun k=>.str (words.getD ((o + (0 + (k:Int))) % 25).toNat Str.empty)) (by decide) (fun b i H4 R hi s4 k=>k H4 (ai.refl _)) (fun b i H4 R hi _ s4 k=>?_) (fun D H4 hD s4 e4=>?_)⟩
  ·have m:=bG (o + (0 + (i:Int))) (show (0:Int) < 25 by decide)
   have g:((o + (0 + (i:Int))) % 25).toNat < words.length:=by show _ < 25;omega
   have ax:=ka (xs:=sS words) (j:=((o + (0 + (i:Int))) % 25).toNat) (v:=.str (words.getD ((o + (0 + (i:Int))) % 25).toNat Str.empty)) (by rw [List.getElem?_map,List.getD_eq_getElem?_getD,List.getElem?_eq_getElem g];rfl)
   rw [show ((((o + (0 + (i:Int))) % 25).toNat:Nat):Int)=(o + (0 + (i:Int))) % 25 by omega] at ax
   exact lnl (s4 _ _ e3) ⟨by show (0:Int) < 25;decide,lix (SqL.of (s4 _ _ e3)) ax (k H4 (ai.refl _))⟩
  ·refine q D _ H4 (t3.trans s4) (ai.free t3 hD) ?_ (Bz o)
   rw [e4,nc]
   simp [sS]
 clear K1 M1
 try dsimp only
 refine ag fun M1 K1=>K1 _ _ ?_
 clear K1 M1
 try dsimp only
 refine ag fun M1 K1=>?_
 obtain ⟨o0,o1⟩:=bG o (show (0:Int) < 10 ^ 9 by decide)
 refine ⟨⟨by decide,by decide,by decide⟩,by show (0:Int) < 10 ^ 9;decide,by show 5 <= sizeLine;decide,fun L4 hL4=>?_⟩
 obtain ⟨s4,e4⟩:=alc hL4 (HO.lst [.int 1,.int 26,.int 27,.int 676,.int (1 + o % 10 ^ (9:Int).toNat)])
 generalize upd H3 L4 _=H4 at s4 e4 ⊢
 have t4:=t3.trans s4
 refine ⟨⟨by decide,by decide⟩,by show (0:Int) < 5;decide,?_⟩
 obtain ⟨st,ax,st0,st1⟩:∃st:Int,atI [V.int 1,.int 26,.int 27,.int 676,.int (1 + o % 10 ^ (9:Int).toNat)] (c / 4 % 5)=some (.int st)/\1 <= st/\st <= 1000000000:=by
  obtain ⟨m0,m1⟩:=bG (c / 4) (show (0:Int) < 5 by decide)
  generalize c / 4 % 5=j at m0 m1
  have cs:j=0 \/ j=1 \/ j=2 \/ j=3 \/ j=4:=by omega
  rcases cs with rfl | rfl | rfl | rfl | rfl
  ·exact ⟨1,rfl,by decide,by decide⟩
  ·exact ⟨26,rfl,by decide,by decide⟩
  ·exact ⟨27,rfl,by decide,by decide⟩
  ·exact ⟨676,rfl,by decide,by decide⟩
  ·have o1':o % 10 ^ (9:Int).toNat < 1000000000:=o1
   have o0':0 <= o % 10 ^ (9:Int).toNat:=o0
   exact ⟨_,rfl,by omega,by omega⟩
 refine lix (SqL.of e4) ax (K1 _ _ ?_)
 clear K1 M1
 try dsimp only
 refine ag fun M1 K1=>⟨Nat.zero_le _,fun R hR=>?_⟩
 obtain ⟨s5,e5⟩:=alc hR (HO.lst [])
 generalize upd H4 R _=H5 at s5 e5 ⊢
 have t5:=t4.trans s5
 have hR0:H R=none:=ai.free t4 hR
 obtain ⟨b0,b1⟩:=bG (c / 20) (show (0:Int) < 10 ^ 10 by decide)
 refine K1 _ _ ?_
 clear K1 M1
 try dsimp only
 refine ag fun M1 K1=>⟨_,rfl,by decide,by decide,fD (fun i σ Hc=>∃(xs:List Str) (v7 v8 v9:Option V),σ=[some (.int c),some (.int o),some (.int 24),some (.ref L3),some (.str LET),some (.int st),some (.ref R),v7,v8,v9]/\ai H Hc/\Hc R=some (.lst (sS xs))/\xs.length=i/\∀(k:Nat) x,xs[k]?=some x->ET (c / 20 % 10 ^ (10:Int).toNat + (k:Int) * st) x) ⟨[],none,none,none,rfl,t5,e5,rfl,fun k x hx=>by cases hx⟩ ?_ ?_⟩
 ·rintro i σ Hc hi ⟨xs,v7,v8,v9,rfl,sc,hRc,lx,wd⟩
  have hi24:i < 24:=hi
  have ei:(0:Int) + (i:Int)=(i:Int):=by omega
  rw [ei]
  try dsimp only
  refine ag fun N1 J1=>⟨⟨by decide,by decide⟩,⟨by decide,by decide,by decide⟩,by show (0:Int) < 10 ^ 10;decide,.inl ⟨by omega,by omega⟩,J1 _ _ ?_⟩
  clear J1 N1
  try dsimp only
  refine ag fun N1 J1=>J1 _ _ ?_
  clear J1 N1
  try dsimp only
  refine ag fun N1 J1=>?_
  have bb:c / 20 % 10 ^ (10:Int).toNat + (i:Int) * st + 1 < 26 ^ 8:=by
   have b1':c / 20 % 10 ^ (10:Int).toNat < 10000000000:=b1
   have m1:(i:Int) * st <= 23 * 1000000000:=Int.mul_le_mul (by omega) st1 (by omega) (by decide)
   have:(26:Int) ^ 8=208827064576:=by decide
   omega
  have b0':0 <= c / 20 % 10 ^ (10:Int).toNat:=b0
  have m0:0 <= (i:Int) * st:=Int.mul_nonneg (by omega) (by omega)
  have ww:0 <= c / 20 % 10 ^ (10:Int).toNat + (i:Int) * st:=Int.add_nonneg b0' m0
  generalize ew:c / 20 % 10 ^ (10:Int).toNat + (i:Int) * st=wn at bb ww
  refine ⟨fun m σ' Hd=>∃(n:Int) (x:Str),σ'=[some (.int c),some (.int o),some (.int 24),some (.ref L3),some (.str LET),some (.int st),some (.ref R),some (.int (i:Int)),some (.int n),some (.str x)]/\Hc=Hd/\-1 <= n/\n + 1 < 26 ^ m/\m + x.length <= 8/\dec n x.cps.toList=wn/\∀c ∈ x.cps.toList,97 <= c/\c <= 122,⟨8,wn,"",rfl,rfl,by omega,bb,by decide,rfl,fun c hc=>by cases hc⟩,?_⟩
  rintro m σ' Hd ⟨n,x,rfl,rfl,n0,n1,lm,dx,cx⟩
  refine ⟨_,rfl,aU (fun z=>?_) (fun z=>J1 _ _ ?_)⟩
  ·have z:0 <= n:=of_decide_eq_true z
   cases m with
   | zero=>rw [Int.pow_zero] at n1;omega
   | succ m =>
   refine ⟨fun σ' Hd=>∃(n:Int) (x:Str),σ'=[some (.int c),some (.int o),some (.int 24),some (.ref L3),some (.str LET),some (.int st),some (.ref R),some (.int (i:Int)),some (.int n),some (.str x)]/\Hc=Hd/\-1 <= n/\n + 1 < 26 ^ m/\m + x.length <= 8/\dec n x.cps.toList=wn/\∀c ∈ x.cps.toList,97 <= c/\c <= 122,fun σ' Hd h=>⟨m,Nat.lt_succ_self _,h⟩,ag fun N2 J2=>?_⟩
   obtain ⟨l0,l1⟩:=bG n (show (0:Int) < 26 by decide)
   have lx':(Str.mk #[uy (n % 26)] ++ x).length=1 + x.length:=gH _ _
   refine ⟨by show (0:Int) < 26;decide,⟨uy (n % 26),by decide +kernel,D6 l0 l1,⟨by show 1 + x.length <= sizeLine;exact Nat.le_of_lt (aH (by omega)),J2 _ _ ⟨⟨by decide,by decide⟩,_,_,rfl,rfl,by omega,Fv z n1,by rw [lx'];omega,?_,?_⟩⟩⟩⟩
   ·rw [zH,zr]
    exact dx
   ·rw [zH]
    intro d hd
    rcases List.mem_cons.mp hd with rfl | hd
    ·unfold uy
     omega
    ·exact cx d hd
  ·have z:¬ 0 <= n:=of_decide_eq_false (Bool.eq_false_iff.mpr z)
   have en:n=-1:=by omega
   subst en
   refine ⟨Or.inl ⟨rfl,_,SqL.of hRc⟩,_,_,_,rfl,rfl,hRc,aH (by rw [List.length_map];omega),⟨xs ++ [x],_,_,_,rfl,ai.out sc hR0 _,by rw [ao];simp [sS],by rw [List.length_append,lx];rfl,fun k y hy=>?_⟩⟩
   by_cases hk:k < xs.length
   ·rw [List.getElem?_append_left hk] at hy
    exact wd k y hy
   ·have ek:k=xs.length:=by
     have:=(List.getElem?_eq_some_iff.mp hy).1
     rw [List.length_append,List.length_singleton] at this
     omega
    subst ek
    rw [List.getElem?_append_right (Nat.le_refl _),Nat.sub_self] at hy
    cases hy
    rw [lx,ew]
    exact ⟨dx,cx⟩
 rintro σ Hc ⟨xs,v7,v8,v9,rfl,sc,hRc,lx,wd⟩
 have lx:xs.length=24:=lx
 refine K1 _ _ ?_
 have ex:xs=(List.range 24).map fun k=>xs.getD k Str.empty:=by
  refine List.ext_getElem? fun k=>?_
  rw [List.getElem?_map]
  by_cases hk:k < 24
  ·rw [List.getElem?_range hk,List.getElem?_eq_getElem (by omega)]
   show _=some (xs.getD k Str.empty)
   rw [List.getD_eq_getElem?_getD,List.getElem?_eq_getElem (by omega)]
   rfl
  ·rw [List.getElem?_eq_none (by omega),List.getElem?_eq_none (by rw [List.length_range];omega)]
   rfl
 refine q R (fun k=>xs.getD k Str.empty) Hc sc hR0 (by rw [hRc];exact congrArg (fun z=>some (HO.lst (sS z))) ex) (FE st0 fun k hk=>wd k _ ?_)
 rw [List.getD_eq_getElem?_getD,List.getElem?_eq_getElem (by omega)]
 rfl
end
section
variable {P:Program}{w:World}{K:W.Frag}{mg:Str->Option Value}{base:Heap}{A:Adr}{N:Nat->Str}
seal PE PA PS PSs PT PW
def Lr.wd:Lr->Str
 | .hand _ _=>"hand" | .giv _ _ _=>"given" | .own _ _=>"own" | .lt _ _=>"let" | .set _ _=>"set" | .put _ _ _=>"put" | .snd _ _=>"send" | .say _ _ _=>"say"
 | .call _ _=>"call" | .last=>"last"
inductive Fr where
 | leaf (r:Lr) | aR (i:Nat) (ps:List Nat) | main | iff (v:Val) (l r:Int) | loop (t:Th) (m l r:Int) | els | fin
def Fr.wd:Fr->Str
 | .leaf r=>r.wd | .aR _ _=>"deed" | .main=>"main" | .iff _ _ _=>"if" | .loop _ _ _ _=>"loop" | .els=>"else" | .fin=>"end"
def Fr.ts (N:Nat->Str) (p:Addr):Fr->List V
 | .leaf r=>(r.fs N p).map (·.2) | .aR i _=>[.str (N i),.ref p] | .iff _ l r=>[.ref p,.int l,.int r] | .loop t m l r=>[t.v N,.int m,.int l,.int r] | _=>[]
def Fr.ob (N:Nat->Str):Fr->Option HO
 | .leaf r=>r.ob N | .aR _ ps=>some (.lst (nV N ps)) | .iff v _ _=>some (.tup (vV N v)) | _=>none
def jv (N:Nat->Str) (X:Hp) (v:V) (f:Fr):Prop:=∃a p,v=.ref a/\X a=some (.tup (.str f.wd :: f.ts N p))/\∀o,f.ob N=some o->X p=some o
theorem jv.same {X X':Hp} (s:ai X X') {v:V}{f:Fr} (h:jv N X v f):jv N X' v f:=by
 obtain ⟨a,p,e,h1,h2⟩:=h
 exact ⟨a,p,e,s _ _ h1,fun o ho=>s _ _ (h2 o ho)⟩
def bh (N:Nat->Str) (X:Hp) (fs:List Fr) (vs:List V):Prop:=Paired (fun f v=>jv N X v f) fs vs
theorem bh.same {X X':Hp} (s:ai X X') {fs:List Fr}{vs:List V} (h:bh N X fs vs):bh N X' fs vs:=Paired.nX h fun _ _ z=>jv.same s z
theorem fr0 {X:Hp}{a:Addr}{f:Fr} (h:X a=some (.tup (.str f.wd :: f.ts N a))) (e:f.ob N=none):jv N X (.ref a) f:=⟨a,a,rfl,h,fun o ho=>by rw [e] at ho;cases ho⟩
def qj (N:Nat->Str):List Str:=(List.range 24).map N
theorem yT {j:Nat} (h:j < 24):(sS (qj N))[j]?=some (.str (N j)):=by
 unfold qj
 rw [List.getElem?_map,List.getElem?_map,List.getElem?_range h]
 rfl
theorem lxn {H:Hp}{p:Addr}{xs:List V}{v:V}{Q:VK}{j:Nat} (h:SqL K H p xs) (e:xs[j]?=some v) (q:Q v H):ixS K p (j:Int) H Q \/ dgI p (.int (j:Int)) H Q:=lix h (ka e) q
theorem nmx {H:Hp}{p:Addr}{Q:VK}{j:Nat} (h:SqL K H p (sS (qj N))) (q:Q (.str (N j)) H) (hj:j < 24:=by decide):ixS K p (j:Int) H Q \/ dgI p (.int (j:Int)) H Q:=lxn h (yT hj) q
theorem oj {n t:Nat} (d:Nat) (h:t <= n):HT.sIx n d (some (t:Int))=t:=by
 unfold HT.sIx
 show (if (t:Int) < 0 then ((t:Int) + n).toNat else min (t:Int).toNat n)=t
 rw [if_neg (by omega),Int.toNat_natCast]
 omega
theorem DL {xs:List V}{t:Nat} (h:t <= xs.length):nS xs (some (t:Int)) none=xs.drop t:=by
 unfold nS
 rw [oj _ h,show HT.sIx xs.length xs.length none=xs.length from rfl]
 exact List.take_of_length_le (by rw [List.length_drop];omega)
theorem CC {xs:List V}{t:Nat} (h:t <= xs.length):nS xs none (some (t:Int))=xs.take t:=by
 unfold nS
 rw [oj _ h,show HT.sIx xs.length 0 none=0 from rfl]
 rfl
def mL (rk:Nat->Int) (z:Int):List Lr:=[.hand 0 (rk 0),.giv 1 (rk 1) 0,.giv 2 (rk 2) 3,.own 3 0,.own 4 z,.lt 5 (rk 3),.lt 6 (rk 4),.own 7 0,.hand 8 (rk 5),.giv 19 (rk 6) 0,.own 20 0]
def qt (t:Nat) (xs:List Lr):List Lr:=xs.drop t ++ xs.take t
theorem nr {α β:Type}{F:α->β->Prop}:∀{l:List α}{m:List β} (t:Nat),Paired F l m->Paired F (l.drop t) (m.drop t)
 | _,_,0,h=>h
 | _,_,t + 1,.nil=>.nil
 | _,_,t + 1,.cons _ r=>nr t r
theorem ng {α β:Type}{F:α->β->Prop}:∀{l:List α}{m:List β} (t:Nat),Paired F l m->Paired F (l.take t) (m.take t)
 | _,_,0,_=>.nil
 | _,_,t + 1,.nil=>.nil
 | _,_,t + 1,.cons h r=>.cons h (ng t r)
inductive qN (K:W.Frag) (vs:List V) (H:Hp) (Q:VK) (E9:XK):Prop
 | mk (N:Nat->Str) (nl:Addr) (c:Int) (z0:vs=[.ref nl,.int c]) (z1:H nl=some (.lst (sS (qj N))))
  (z2:∀(R:Addr) (rk:Nat->Int) (z:Int) (t:Nat) (ys:List V) (H':Hp),ai H H'->H R=none->H' R=some (.lst ys)->bh N H' ((qt t (mL rk z)).map Fr.leaf) ys->(∀i,rk i=0 \/ rk i=1 \/ rk i=2)->1 <= z->z <= 4->t <= 11->Q (.ref R) H'):qN K vs H Q E9
theorem yJ (T:Txt K mg A):T.mM.Hz P w base 2 (qN K):=by
 have D_law_mix:=nh (P:=P) (w:=w) (base:=base) T
 refine T.mM.hs (k:=1) cj (fun f cdv A' outer s H vs Q E hr hu h=>?_)
 obtain ⟨N,nl,c,rfl,hN,q⟩:=h
 refine ⟨_,(ae (vq (j:=2) (N:=["_law_k","_law_cell"]) (own:=1) (fr:=[1]) (cc.of (by kernel_rfl!)) rfl cj.nd rfl (Or.inl rfl) (cv rfl T.cC (aa af ab)) (fun b=>pgn (i:=0) (show List.Nodup (["_law_k","_law_cell"]:List PySem.Str) by decide +kernel) rfl) (fun b=>mX) (fun b=>au bB (ak D_law_mix hr (aa (fv 1) (aa (au aK af (fv 0)) ab))) af))
  (ae (pst 3 cj.nd (aC (aa (aI (aa aj (aa (px hu (fv 0) af) (aa (px hu (fv 2) af) ab)))) (aa (aI (aa aj (aa (px hu (fv 0) af) (aa (px hu (fv 2) af) (aa af ab))))) (aa (aI (aa aj (aa (px hu (fv 0) af) (aa (px hu (fv 2) af) (aa af ab))))) ab)))))
  (ae (pst 3 cj.nd (au aK (fv 3) (aC (aa (aI (aa aj (aa (px hu (fv 0) af) (aa af ab)))) (aa (aI (aa aj (aa (px hu (fv 0) af) (aa (au aK af (au bB (ak D_law_mix hr (aa (fv 1) (aa af ab))) af)) ab)))) (aa (aI (aa aj (aa (px hu (fv 0) af) (aa (px hu (fv 2) af) ab)))) ab))))))
  (ae (pst 3 cj.nd (au aK (fv 3) (aC (aa (aI (aa aj (aa (px hu (fv 0) af) (aa (px hu (fv 2) af) ab)))) (aa (aI (aa aj (aa (px hu (fv 0) af) (aa af ab)))) (aa (aI (aa aj (aa (px hu (fv 0) af) (aa (px hu (fv 2) af) ab)))) ab))))))
  (ae (pst 3 cj.nd (au aK (fv 3) (aC (aa (aI (aa aj (aa (px hu (fv 0) af) (aa (px hu (fv 2) af) (aa af ab))))) (aa (aI (aa aj (aa (px hu (fv 0) af) (aa af ab)))) ab)))))
  (ae (pst 4 cj.nd (au bB (ak D_law_mix hr (aa (fv 1) (aa af ab))) af))
  (ah (aw (au aK (pR vg (fv 3) (oB (fv 4)) wb) (pR vg (fv 3) wb (oB (fv 4)))))))))))),?_⟩
 refine ag fun M1 K1=>⟨_,rfl,by decide,by decide,pZ (n:=7) (x:=fun i=>.int (0 + (i:Int))) (fun j y H=>∃c:Int,y=V.int c/\(c=0 \/ c=1 \/ c=2)) (by decide) (fun _ _=>Nat.le_refl _) (fun _ _ h _=>h) (fun _ _ _ _ _ _ y=>y) (fun b j H1 G hj s1 kk=>?_) (fun j y H1 H2 s1 h=>h) (fun j y H1 D ys zs hD h=>h) (fun LK H0 ys hLK s0 eK ly hy=>K1 _ _ ?_)⟩
 ·refine ⟨c,_,rfl,by omega,by omega,fun m m0 m1=>⟨by show (0:Int) < 3;decide,kk _ H1 (ai.refl _) ⟨_,rfl,?_⟩⟩⟩
  have:=bG m (show (0:Int) < 3 by decide)
  omega
 clear K1 M1
 obtain ⟨rk,hrk,ey⟩:∃rk:Nat->Int,(∀i,rk i=0 \/ rk i=1 \/ rk i=2)/\ys=(List.range 7).map fun i=>V.int (rk i):=by
  refine ⟨fun i=>match ys[i]? with | some (.int c)=>c | _=>0,fun i=>?_,List.ext_getElem? fun i=>?_⟩
  ·dsimp only
   cases e:ys[i]? with
   | none=>exact .inl rfl
   | some y =>
    obtain ⟨c,rfl,hc⟩:=hy i y e
    exact hc
  ·rw [List.getElem?_map]
   by_cases hi:i < 7
   ·rw [List.getElem?_range hi]
    obtain ⟨y,e⟩:∃y,ys[i]?=some y:=⟨_,List.getElem?_eq_getElem (by omega)⟩
    obtain ⟨c,rfl,hc⟩:=hy i y e
    show _=some (V.int (match ys[i]? with | some (.int c)=>c | _=>0))
    rw [e]
   ·rw [List.getElem?_eq_none (by omega),List.getElem?_eq_none (by rw [List.length_range];omega)]
    rfl
 subst ey
 have d0:=s0
 try dsimp only
 refine ag fun M1 K1=>?_
 have e0:ai H0 H0:=ai.refl _
 refine nmx (j:=0) (SqL.of (d0 _ _ hN)) (lxn (j:=0) (SqL.of (e0 _ _ eK)) rfl (⟨by show 3 <= sizeLine;decide,fun t0 ht0=>?_⟩))
 obtain ⟨c1,g0⟩:=alc ht0 (HO.tup [V.str "hand",.str (N 0),.int (rk 0)])
 generalize upd H0 t0 _=H1 at c1 g0 ⊢
 have d1:=d0.trans c1
 have e1:=e0.trans c1
 refine nmx (j:=1) (SqL.of (d1 _ _ hN)) (lxn (j:=1) (SqL.of (e1 _ _ eK)) rfl (⟨by show 4 <= sizeLine;decide,fun t1 ht1=>?_⟩))
 obtain ⟨c2,g1⟩:=alc ht1 (HO.tup [V.str "given",.str (N 1),.int (rk 1),.int 0])
 generalize upd H1 t1 _=H2 at c2 g1 ⊢
 have d2:=d1.trans c2
 have e2:=e1.trans c2
 refine nmx (j:=2) (SqL.of (d2 _ _ hN)) (lxn (j:=2) (SqL.of (e2 _ _ eK)) rfl (⟨by show 4 <= sizeLine;decide,fun t2 ht2=>?_⟩))
 obtain ⟨c3,g2⟩:=alc ht2 (HO.tup [V.str "given",.str (N 2),.int (rk 2),.int 3])
 generalize upd H2 t2 _=H3 at c3 g2 ⊢
 have d3:=d2.trans c3
 have e3:=e2.trans c3
 refine ⟨by show 3 <= sizeLine;decide,fun l0 hl0=>?_⟩
 obtain ⟨c4,a0⟩:=alc hl0 (HO.lst [V.ref t0,V.ref t1,V.ref t2])
 generalize upd H3 l0 _=H4 at c4 a0 ⊢
 have d4:=d3.trans c4
 have e4:=e3.trans c4
 refine K1 _ _ ?_
 clear K1 M1
 try dsimp only
 refine ag fun M1 K1=>nmx (j:=3) (SqL.of (d4 _ _ hN)) (⟨by show 3 <= sizeLine;decide,fun t3 ht3=>?_⟩)
 obtain ⟨c5,g3⟩:=alc ht3 (HO.tup [V.str "own",.str (N 3),.int 0])
 generalize upd H4 t3 _=H5 at c5 g3 ⊢
 have d5:=d4.trans c5
 have e5:=e4.trans c5
 refine nmx (j:=4) (SqL.of (d5 _ _ hN)) (⟨c,27,rfl,by decide,by decide,fun m m0 m1=>⟨by show (0:Int) < 4;decide,⟨by show 3 <= sizeLine;decide,fun t4 ht4=>?_⟩⟩⟩)
 obtain ⟨c6,g4⟩:=alc ht4 (HO.tup [V.str "own",.str (N 4),.int (1 + m % 4)])
 generalize upd H5 t4 _=H6 at c6 g4 ⊢
 have d6:=d5.trans c6
 have e6:=e5.trans c6
 refine nmx (j:=5) (SqL.of (d6 _ _ hN)) (lxn (j:=3) (SqL.of (e6 _ _ eK)) rfl (⟨by show 3 <= sizeLine;decide,fun t5 ht5=>?_⟩))
 obtain ⟨c7,g5⟩:=alc ht5 (HO.tup [V.str "let",.str (N 5),.int (rk 3)])
 generalize upd H6 t5 _=H7 at c7 g5 ⊢
 have d7:=d6.trans c7
 have e7:=e6.trans c7
 refine ⟨by show 3 <= sizeLine;decide,fun l1 hl1=>?_⟩
 obtain ⟨c8,a1⟩:=alc hl1 (HO.lst [V.ref t3,V.ref t4,V.ref t5])
 generalize upd H7 l1 _=H8 at c8 a1 ⊢
 have d8:=d7.trans c8
 have e8:=e7.trans c8
 have f1:ai H4 H8:=fun a o h=>c8 _ _ (c7 _ _ (c6 _ _ (c5 _ _ h)))
 refine ⟨l0,l1,_,_,rfl,rfl,f1 _ _ a0,a1,by show 6 <= sizeLine;decide,fun b1 hb1=>?_⟩
 obtain ⟨c9,q1⟩:=alc hb1 (HO.lst ([V.ref t0,V.ref t1,V.ref t2] ++ [V.ref t3,V.ref t4,V.ref t5]))
 generalize upd H8 b1 _=H9 at c9 q1 ⊢
 have q1:H9 b1=some (.lst [V.ref t0,V.ref t1,V.ref t2,V.ref t3,V.ref t4,V.ref t5]):=q1
 have d9:=d8.trans c9
 have e9:=e8.trans c9
 refine K1 _ _ ?_
 clear K1 M1
 try dsimp only
 refine ag fun M1 K1=>nmx (j:=6) (SqL.of (d9 _ _ hN)) (lxn (j:=4) (SqL.of (e9 _ _ eK)) rfl (⟨by show 3 <= sizeLine;decide,fun t6 ht6=>?_⟩))
 obtain ⟨c10,g6⟩:=alc ht6 (HO.tup [V.str "let",.str (N 6),.int (rk 4)])
 generalize upd H9 t6 _=H10 at c10 g6 ⊢
 have d10:=d9.trans c10
 have e10:=e9.trans c10
 refine nmx (j:=7) (SqL.of (d10 _ _ hN)) (⟨by show 3 <= sizeLine;decide,fun t7 ht7=>?_⟩)
 obtain ⟨c11,g7⟩:=alc ht7 (HO.tup [V.str "own",.str (N 7),.int 0])
 generalize upd H10 t7 _=H11 at c11 g7 ⊢
 have d11:=d10.trans c11
 have e11:=e10.trans c11
 refine nmx (j:=8) (SqL.of (d11 _ _ hN)) (lxn (j:=5) (SqL.of (e11 _ _ eK)) rfl (⟨by show 3 <= sizeLine;decide,fun t8 ht8=>?_⟩))
 obtain ⟨c12,g8⟩:=alc ht8 (HO.tup [V.str "hand",.str (N 8),.int (rk 5)])
 generalize upd H11 t8 _=H12 at c12 g8 ⊢
 have d12:=d11.trans c12
 have e12:=e11.trans c12
 refine ⟨by show 3 <= sizeLine;decide,fun l2 hl2=>?_⟩
 obtain ⟨c13,a2⟩:=alc hl2 (HO.lst [V.ref t6,V.ref t7,V.ref t8])
 generalize upd H12 l2 _=H13 at c13 a2 ⊢
 have d13:=d12.trans c13
 have e13:=e12.trans c13
 have f2:ai H9 H13:=fun a o h=>c13 _ _ (c12 _ _ (c11 _ _ (c10 _ _ h)))
 refine ⟨b1,l2,_,_,rfl,rfl,f2 _ _ q1,a2,by show 9 <= sizeLine;decide,fun b2 hb2=>?_⟩
 obtain ⟨c14,q2⟩:=alc hb2 (HO.lst ([V.ref t0,V.ref t1,V.ref t2,V.ref t3,V.ref t4,V.ref t5] ++ [V.ref t6,V.ref t7,V.ref t8]))
 generalize upd H13 b2 _=H14 at c14 q2 ⊢
 have q2:H14 b2=some (.lst [V.ref t0,V.ref t1,V.ref t2,V.ref t3,V.ref t4,V.ref t5,V.ref t6,V.ref t7,V.ref t8]):=q2
 have d14:=d13.trans c14
 have e14:=e13.trans c14
 refine K1 _ _ ?_
 clear K1 M1
 try dsimp only
 refine ag fun M1 K1=>nmx (j:=19) (SqL.of (d14 _ _ hN)) (lxn (j:=6) (SqL.of (e14 _ _ eK)) rfl (⟨by show 4 <= sizeLine;decide,fun t9 ht9=>?_⟩))
 obtain ⟨c15,g9⟩:=alc ht9 (HO.tup [V.str "given",.str (N 19),.int (rk 6),.int 0])
 generalize upd H14 t9 _=H15 at c15 g9 ⊢
 have d15:=d14.trans c15
 have e15:=e14.trans c15
 refine nmx (j:=20) (SqL.of (d15 _ _ hN)) (⟨by show 3 <= sizeLine;decide,fun t10 ht10=>?_⟩)
 obtain ⟨c16,g10⟩:=alc ht10 (HO.tup [V.str "own",.str (N 20),.int 0])
 generalize upd H15 t10 _=H16 at c16 g10 ⊢
 have d16:=d15.trans c16
 have e16:=e15.trans c16
 refine ⟨by show 2 <= sizeLine;decide,fun l3 hl3=>?_⟩
 obtain ⟨c17,a3⟩:=alc hl3 (HO.lst [V.ref t9,V.ref t10])
 generalize upd H16 l3 _=H17 at c17 a3 ⊢
 have d17:=d16.trans c17
 have e17:=e16.trans c17
 have f3:ai H14 H17:=fun a o h=>c17 _ _ (c16 _ _ (c15 _ _ h))
 refine ⟨b2,l3,_,_,rfl,rfl,f3 _ _ q2,a3,by show 11 <= sizeLine;decide,fun b3 hb3=>?_⟩
 obtain ⟨c18,q3⟩:=alc hb3 (HO.lst ([V.ref t0,V.ref t1,V.ref t2,V.ref t3,V.ref t4,V.ref t5,V.ref t6,V.ref t7,V.ref t8] ++ [V.ref t9,V.ref t10]))
 generalize upd H17 b3 _=H18 at c18 q3 ⊢
 have q3:H18 b3=some (.lst [V.ref t0,V.ref t1,V.ref t2,V.ref t3,V.ref t4,V.ref t5,V.ref t6,V.ref t7,V.ref t8,V.ref t9,V.ref t10]):=q3
 have d18:=d17.trans c18
 have e18:=e17.trans c18
 have z1:=bG m (show (0:Int) < 4 by decide)
 have pr:bh N H18 ((mL rk (1 + m % 4)).map Fr.leaf) [V.ref t0,V.ref t1,V.ref t2,V.ref t3,V.ref t4,V.ref t5,V.ref t6,V.ref t7,V.ref t8,V.ref t9,V.ref t10]:=by
  have k0:H18 t0=_:=c18 _ _ (c17 _ _ (c16 _ _ (c15 _ _ (c14 _ _ (c13 _ _ (c12 _ _ (c11 _ _ (c10 _ _ (c9 _ _ (c8 _ _ (c7 _ _ (c6 _ _ (c5 _ _ (c4 _ _ (c3 _ _ (c2 _ _ g0))))))))))))))))
  have k1:H18 t1=_:=c18 _ _ (c17 _ _ (c16 _ _ (c15 _ _ (c14 _ _ (c13 _ _ (c12 _ _ (c11 _ _ (c10 _ _ (c9 _ _ (c8 _ _ (c7 _ _ (c6 _ _ (c5 _ _ (c4 _ _ (c3 _ _ g1)))))))))))))))
  have k2:H18 t2=_:=c18 _ _ (c17 _ _ (c16 _ _ (c15 _ _ (c14 _ _ (c13 _ _ (c12 _ _ (c11 _ _ (c10 _ _ (c9 _ _ (c8 _ _ (c7 _ _ (c6 _ _ (c5 _ _ (c4 _ _ g2))))))))))))))
  have k3:H18 t3=_:=c18 _ _ (c17 _ _ (c16 _ _ (c15 _ _ (c14 _ _ (c13 _ _ (c12 _ _ (c11 _ _ (c10 _ _ (c9 _ _ (c8 _ _ (c7 _ _ (c6 _ _ g3))))))))))))
  have k4:H18 t4=_:=c18 _ _ (c17 _ _ (c16 _ _ (c15 _ _ (c14 _ _ (c13 _ _ (c12 _ _ (c11 _ _ (c10 _ _ (c9 _ _ (c8 _ _ (c7 _ _ g4)))))))))))
  have k5:H18 t5=_:=c18 _ _ (c17 _ _ (c16 _ _ (c15 _ _ (c14 _ _ (c13 _ _ (c12 _ _ (c11 _ _ (c10 _ _ (c9 _ _ (c8 _ _ g5))))))))))
  have k6:H18 t6=_:=c18 _ _ (c17 _ _ (c16 _ _ (c15 _ _ (c14 _ _ (c13 _ _ (c12 _ _ (c11 _ _ g6)))))))
  have k7:H18 t7=_:=c18 _ _ (c17 _ _ (c16 _ _ (c15 _ _ (c14 _ _ (c13 _ _ (c12 _ _ g7))))))
  have k8:H18 t8=_:=c18 _ _ (c17 _ _ (c16 _ _ (c15 _ _ (c14 _ _ (c13 _ _ g8)))))
  have k9:H18 t9=_:=c18 _ _ (c17 _ _ (c16 _ _ g9))
  have k10:H18 t10=_:=c18 _ _ (c17 _ _ g10)
  exact .cons (fr0 k0 rfl) (.cons (fr0 k1 rfl) (.cons (fr0 k2 rfl) (.cons (fr0 k3 rfl) (.cons (fr0 k4 rfl) (.cons (fr0 k5 rfl) (.cons (fr0 k6 rfl) (.cons (fr0 k7 rfl) (.cons (fr0 k8 rfl) (.cons (fr0 k9 rfl) (.cons (fr0 k10 rfl) (.nil)))))))))))
 refine K1 _ _ ?_
 clear K1 M1
 try dsimp only
 refine ag fun M1 K1=>⟨c,1,rfl,by decide,by decide,fun m' m0' m1'=>⟨by show (0:Int) < 11;decide,K1 _ _ ?_⟩⟩
 clear K1 M1
 have z2:=bG m' (show (0:Int) < 11 by decide)
 obtain ⟨t,ht⟩:∃t:Nat,m' % 11=(t:Int):=⟨(m' % 11).toNat,by omega⟩
 have t11:t <= 11:=by omega
 dsimp only [ky,List.set]
 rw [ht]
 have lp:=Paired.length pr
 generalize hys:[V.ref t0,V.ref t1,V.ref t2,V.ref t3,V.ref t4,V.ref t5,V.ref t6,V.ref t7,V.ref t8,V.ref t9,V.ref t10]=ys at q3 pr lp
 have ly:ys.length=11:=by rw [<- hys];rfl
 refine ⟨_,rfl,Or.inl ⟨b3,_,rfl,SqL.of q3,fun p1 hp1=>?_⟩⟩
 rw [DL (by omega)]
 obtain ⟨s24,e24⟩:=alc hp1 (HO.lst (ys.drop t))
 generalize upd H18 p1 _=X24 at s24 e24 ⊢
 refine ⟨_,rfl,Or.inl ⟨b3,_,rfl,SqL.of (s24 _ _ q3),fun p2 hp2=>?_⟩⟩
 rw [CC (by omega)]
 obtain ⟨s25,e25⟩:=alc hp2 (HO.lst (ys.take t))
 generalize upd X24 p2 _=X25 at s25 e25 ⊢
 refine ⟨p1,p2,_,_,rfl,rfl,s25 _ _ e24,e25,sz (by rw [List.length_drop,List.length_take];omega),fun LR hLR=>?_⟩
 have s26:=ai.upd hLR (.lst (ys.drop t ++ ys.take t))
 refine q LR rk (1 + m % 4) t _ _ (d18.trans (s24.trans (s25.trans s26))) (ai.free (d18.trans (s24.trans s25)) hLR) ao ?_ hrk (by omega) (by omega) t11
 unfold qt
 rw [List.map_append,List.map_drop,List.map_take]
 exact bh.same (s24.trans (s25.trans s26)) (Paired.two (nr t pr) (ng t pr))
end
section
variable {P:Program}{w:World}{K:W.Frag}{mg:Str->Option Value}{base:Heap}{A:Adr}{N:Nat->Str}
seal PE PA PS PSs PT PW
def del (X:List Addr) (H:Hp):Hp:=fun a=>if a ∈ X then none else H a
theorem cJ {X:List Addr}{H:Hp}:ai (del X H) H:=fun a o h=>by
 unfold del at h
 split at h
 ·cases h
 ·exact h
theorem aN {X:List Addr}{H:Hp}{a:Addr}{o:HO} (h:a ∉ X) (e:H a=some o):del X H a=some o:=by
 unfold del
 rw [if_neg h]
 exact e
theorem dg {X:List Addr}{H:Hp}{a:Addr}{o:HO} (h:del X H a=some o):a ∉ X/\H a=some o:=by
 unfold del at h
 split at h
 ·cases h
 ·exact ⟨by assumption,h⟩
abbrev S3:List Nat:=[3,7,20]
abbrev S7:List Nat:=[1,2,3,4,7,19,20]
def nA (ps:List Nat) (t:Th):Prop:=∀a,t=.x a->a ∈ S7 ++ ps
def vOk (ps:List Nat) (v:Val):Prop:=∀t ∈ vTh v,nA ps t
def nR (N:Nat->Str) (X:Hp) (sc:Addr) (ps:List Nat):Prop:=∃a1 a2 a3 a4,X sc=some (.dK [(.inr "targets",.ref a1),(.inr "things",.ref a2),(.inr "lists",.ref a3),(.inr "hands",.ref a4)])/\X a1=some (.lst (nV N (S3 ++ ps)))/\X a2=some (.lst (nV N ([1,19] ++ (S3 ++ ps))))/\X a3=some (.lst (nV N [2,4]))/\X a4=some (.lst (nV N [0,8]))
theorem nR.same {X X':Hp} (s:ai X X') {sc:Addr}{ps:List Nat} (h:nR N X sc ps):nR N X' sc ps:=by
 obtain ⟨a1,a2,a3,a4,h1,h2,h3,h4,h5⟩:=h
 exact ⟨a1,a2,a3,a4,s _ _ h1,s _ _ h2,s _ _ h3,s _ _ h4,s _ _ h5⟩
inductive tL (vs:List V) (H:Hp) (Q:VK) (E9:XK):Prop
 | mk (N:Nat->Str) (nl pp:Addr) (ps:List Nat) (z0:vs=[.ref nl,.ref pp]) (z1:H nl=some (.lst (sS (qj N)))) (z2:H pp=some (.lst (nV N ps))) (z3:ps.length <= 10)
  (z4:∀(sc:Addr) (H':Hp),ai H H'->H sc=none->(∀M:List Addr,(∀x ∈ M,H x ≠ none)->nR N (del M H') sc ps)->Q (.ref sc) H'):tL vs H Q E9
theorem wk (T:Txt K mg A):T.mQ.Hz P w base 1 tL:=by
 refine T.mQ.hs iS (fun f cdv A' outer s H vs Q E hr hu h=>?_)
 obtain ⟨N,nl,pp,ps,rfl,hN,hP,lp,q⟩:=h
 have lv:(nV N ps).length=ps.length:=List.length_map _
 refine ⟨_,(ae (pst 2 iS.nd (au aK (aC (aa (px hu (fv 0) af) (aa (px hu (fv 0) af) (aa (px hu (fv 0) af) ab)))) (fv 1)))
  (ae (pst 3 iS.nd (xF (dZ aj (fv 2) (dZ aj (au aK (aC (aa (px hu (fv 0) af) (aa (px hu (fv 0) af) ab))) (fv 2)) (dZ aj (aC (aa (px hu (fv 0) af) (aa (px hu (fv 0) af) ab))) (wq)))) rfl rfl (by intro z;cases z) (by decide)))
  (ae (cK (aC (aa (px hu (fv 0) af) (aa (px hu (fv 0) af) ab))) (gK (fv 3) aj (jU hu set_list)))
  (ah (aw (fv 3)))))),?_⟩
 refine ag fun M1 K1=>nmx (j:=3) (SqL.of hN) (nmx (j:=7) (SqL.of hN) (nmx (j:=20) (SqL.of hN) ⟨by show 3 <= sizeLine;decide,fun l0 h0=>?_⟩))
 obtain ⟨s0,e0⟩:=alc h0 (HO.lst [.str (N 3),.str (N 7),.str (N 20)])
 generalize upd H l0 _=H0 at s0 e0 ⊢
 refine ⟨l0,pp,_,_,rfl,rfl,e0,s0 _ _ hP,sz (by rw [lv];show 3 + ps.length <= 1000;omega),fun a1 ha1=>?_⟩
 obtain ⟨s1,e1⟩:=alc ha1 (HO.lst ([.str (N 3),.str (N 7),.str (N 20)] ++ nV N ps))
 generalize upd H0 a1 _=H1 at s1 e1 ⊢
 have e1:H1 a1=some (.lst (nV N (S3 ++ ps))):=e1
 have t1:=s0.trans s1
 refine K1 _ _ ?_
 clear K1 M1
 try dsimp only
 refine ag fun M1 K1 D hD=>?_
 obtain ⟨s2,e2⟩:=alc hD (HO.dK [])
 generalize upd H1 D _=H2 at s2 e2 ⊢
 have t2:=t1.trans s2
 refine nmx (j:=1) (SqL.of (t2 _ _ hN)) (nmx (j:=19) (SqL.of (t2 _ _ hN)) ⟨by show 2 <= sizeLine;decide,fun l3 h3=>?_⟩)
 obtain ⟨s3,e3⟩:=alc h3 (HO.lst [.str (N 1),.str (N 19)])
 generalize upd H2 l3 _=H3 at s3 e3 ⊢
 refine ⟨l3,a1,_,_,rfl,rfl,e3,(s2.trans s3) _ _ e1,sz (by rw [List.length_map,List.length_append];show 2 + (3 + ps.length) <= 1000;omega),fun a2 ha2=>?_⟩
 obtain ⟨s4,e4⟩:=alc ha2 (HO.lst ([.str (N 1),.str (N 19)] ++ nV N (S3 ++ ps)))
 generalize upd H3 a2 _=H4 at s4 e4 ⊢
 have e4:H4 a2=some (.lst (nV N ([1,19] ++ (S3 ++ ps)))):=e4
 have t4:=t2.trans (s3.trans s4)
 refine nmx (j:=2) (SqL.of (t4 _ _ hN)) (nmx (j:=4) (SqL.of (t4 _ _ hN)) ⟨by show 2 <= sizeLine;decide,fun a3 ha3=>?_⟩)
 obtain ⟨s5,e5⟩:=alc ha3 (HO.lst [.str (N 2),.str (N 4)])
 generalize upd H4 a3 _=H5 at s5 e5 ⊢
 have t5:=t4.trans s5
 have s25:=s3.trans (s4.trans s5)
 refine ⟨s25 _ _ e2,[(.inr "targets",.ref a1),(.inr "things",.ref a2),(.inr "lists",.ref a3)],rfl,by show 3 <= 15;decide,?_⟩
 have D1:H1 D=none:=hD
 have s15:ai H1 (upd H5 D (.dK (bc [] [(.inr "targets",.ref a1),(.inr "things",.ref a2),(.inr "lists",.ref a3)]))):=ai.out (s2.trans s25) D1 _
 have n2:a2 ≠ D:=fun z=>by rw [z,s3 _ _ e2] at ha2;cases ha2
 have n3:a3 ≠ D:=fun z=>by rw [z,(s3.trans s4) _ _ e2] at ha3;cases ha3
 have k1:=s15 _ _ e1
 have k2:upd H5 D (.dK (bc [] [(.inr "targets",.ref a1),(.inr "things",.ref a2),(.inr "lists",.ref a3)])) a2=_:=ar n2 (s5 _ _ e4)
 have k3:upd H5 D (.dK (bc [] [(.inr "targets",.ref a1),(.inr "things",.ref a2),(.inr "lists",.ref a3)])) a3=_:=ar n3 e5
 have eD:upd H5 D (.dK (bc [] [(.inr "targets",.ref a1),(.inr "things",.ref a2),(.inr "lists",.ref a3)])) D=some (.dK [(.inr "targets",.ref a1),(.inr "things",.ref a2),(.inr "lists",.ref a3)]):=ao
 generalize upd H5 D _=H6 at s15 k1 k2 k3 eD ⊢
 have t6:=t1.trans s15
 refine K1 _ _ ?_
 clear K1 M1
 try dsimp only
 refine ag fun M1 K1=>nmx (j:=0) (SqL.of (t6 _ _ hN)) (nmx (j:=8) (SqL.of (t6 _ _ hN)) ⟨by show 2 <= sizeLine;decide,fun a4 ha4=>?_⟩)
 obtain ⟨s7,e7⟩:=alc ha4 (HO.lst [.str (N 0),.str (N 8)])
 generalize upd H6 a4 _=H7 at s7 e7 ⊢
 refine ⟨_,ke.k (k:=.inr "hands") (s7 _ _ eD) (show 3 < sizeLine by decide),K1 _ _ ?_⟩
 clear K1 M1
 have o1:a1 ≠ D:=fun z=>by rw [z,D1] at e1;cases e1
 have o2:a2 ≠ D:=n2
 have o4:a4 ≠ D:=fun z=>by rw [z,eD] at ha4;cases ha4
 refine q D _ (t1.trans (ai.out (s15.trans s7) D1 _)) (ai.free t1 D1) fun M hM=>?_
 have nw:∀{x:Addr},H x=none->x ∉ M:=fun h m=>hM _ m h
 exact ⟨a1,a2,a3,a4,aN (nw (ai.free t1 D1)) ao,aN (nw (ai.free s0 ha1)) (ar o1 (s7 _ _ k1)),aN (nw (ai.free (t2.trans s3) ha2)) (ar o2 (s7 _ _ k2)),aN (nw (ai.free t4 ha3)) (ar n3 (s7 _ _ k3)),aN (nw (ai.free t6 ha4)) (ar o4 e7)⟩
theorem BW {a:Nat}{ps:List Nat} (h:a ∈ [1,19] ++ (S3 ++ ps)):a ∈ S7 ++ ps:=by
 rcases List.mem_append.mp h with m | m
 ·exact List.mem_append_left _ ((show ∀x ∈ ([1,19]:List Nat),x ∈ S7 by decide) a m)
 ·rcases List.mem_append.mp m with m | m
  ·exact List.mem_append_left _ ((show ∀x ∈ S3,x ∈ S7 by decide) a m)
  ·exact List.mem_append_right _ m
inductive qx (vs:List V) (H:Hp) (Q:VK) (E9:XK):Prop
 | mk (N:Nat->Str) (sc:Addr) (ps:List Nat) (n:Int) (z0:vs=[.int n,.ref sc]) (z1:0 <= n) (z2:n < 1000000000000000) (z3:nR N H sc ps)
  (z4:∀(t:Th) (H':Hp),ai H H'->nA ps t->Q (t.v N) H'):qx vs H Q E9
theorem jr (T:Txt K mg A):T.lW.Hz P w base 2 qx:=by
 refine T.lW.hs (k:=1) sV (fun f cdv A' outer s H vs Q E hr hu h=>?_)
 obtain ⟨N,sc,ps,n,rfl,h0,h1,hS,q⟩:=h
 refine ⟨_,(ae (aL (ptc (bE hu) (au bB (fv 0) af) af)
   (ah (aw (au bB (au cL (au dh (fv 0) af) af) (px hu (aC (aa af (aa (au qw af af) ab))) (au bB (au dh (fv 0) af) af)))))
   aB)
  (ah (aw (ak (mv T) hr (aa (px hu (fv 1) aj) (aa (au dh (fv 0) af) ab)))))),?_⟩
 refine ag fun M1 K1=>⟨by show (0:Int) < 2;decide,rfl,_,rfl,aU (fun _=>?_) (fun _=>K1 _ _ ?_)⟩
 ·refine ⟨⟨by decide,by decide⟩,.inr ⟨by decide,by decide⟩,⟨by decide,by decide,by decide⟩,by show 2 <= sizeLine;decide,fun L hL=>?_⟩
  obtain ⟨s1,e1⟩:=alc hL (HO.lst [.int 4,.int (10 ^ (12:Int).toNat)])
  generalize upd H L _=H1 at s1 e1 ⊢
  obtain ⟨m0,m1⟩:=bG (n / 2) (show (0:Int) < 2 by decide)
  refine ⟨⟨by decide,by decide⟩,by show (0:Int) < 2;decide,?_⟩
  obtain ⟨y,ay,y0⟩:∃y:Int,atI [V.int 4,.int (10 ^ (12:Int).toNat)] (n / 2 % 2)=some (.int y)/\0 < y:=by
   generalize n / 2 % 2=j at m0 m1
   have cs:j=0 \/ j=1:=by omega
   rcases cs with rfl | rfl
   ·exact ⟨4,rfl,by decide⟩
   ·exact ⟨_,rfl,by decide⟩
  exact lix (SqL.of e1) ay ⟨y0,q (.i _) H1 s1 (fun a z=>by cases z)⟩
 clear K1 M1
 try dsimp only
 obtain ⟨a1,a2,a3,a4,h1,h2,h3,h4,h5⟩:=hS
 refine dgk h1 rfl ⟨⟨by decide,by decide⟩,a2,_,_,rfl,SqL.of h3,by simp,fun x hx=>?_⟩
 obtain ⟨a,ma,rfl⟩:=List.mem_map.mp hx
 refine q (.x a) H (ai.refl _) fun b z=>?_
 cases z
 exact BW ma
inductive xE (vs:List V) (H:Hp) (Q:VK) (E9:XK):Prop
 | mk (N:Nat->Str) (sc:Addr) (ps:List Nat) (c:Int) (z0:vs=[.int c,.ref sc]) (z3:nR N H sc ps)
  (z4:∀(p:Addr) (v:Val) (H':Hp),ai H H'->H p=none->H' p=some (.tup (vV N v))->vOk ps v->Q (.ref p) H'):xE vs H Q E9
theorem F4 {ps:List Nat}{t:Th} (h:nA ps t):vOk ps (.one t):=fun u hu=>by
 rw [List.mem_singleton.mp hu]
 exact h
theorem Fl {ps:List Nat}{t u:Th}{x:Str} (h:nA ps t) (h':nA ps u):vOk ps (.op t x u):=fun v hv=>by
 simp only [vTh,List.mem_cons,List.not_mem_nil,or_false] at hv
 rcases hv with rfl | rfl
 ·exact h
 ·exact h'
theorem Ap (T:Txt K mg A):T.mJ.Hz P w base 3 xE:=by
 have D_law_mix:=nh (P:=P) (w:=w) (base:=base) T
 refine T.mJ.hs (k:=2) fw (fun f cdv A' outer s H vs Q E hr hu h=>?_)
 obtain ⟨N,sc,ps,c,rfl,hS,q⟩:=h
 refine ⟨_,(ae (pst 2 fw.nd (ak (hj:=by omega) (jr T) hr (aa (ak (hj:=by omega) D_law_mix hr (aa (fv 0) (aa af ab))) (aa (fv 1) ab))))
  (ae (pst 3 fw.nd (ak (hj:=by omega) (jr T) hr (aa (ak (hj:=by omega) D_law_mix hr (aa (fv 0) (aa af ab))) (aa (fv 1) ab))))
  (ae (pst 4 fw.nd (ak (hj:=by omega) D_law_mix hr (aa (fv 0) (aa af ab))))
  (ae (aL (ptc xH (au bB (fv 4) af) af)
   (ah (aw (aI (aa (fv 2) ab))))
   aB)
  (ae (aL (ptc (bE hu) (au bB (fv 4) af) af)
   (ah (aw (aI (aa (ak (hj:=by omega) (mv T) hr (aa (px hu (fv 1) aj) (aa (au dh (fv 4) af) ab))) (aa aj (aa (fv 3) ab))))))
   aB)
  (ah (aw (aI (aa (fv 2) (aa (ak (hj:=by omega) (mv T) hr (aa (aC (aa aj (aa aj (aa aj (aa aj (aa aj (aa aj (aa aj ab)))))))) (aa (au dh (fv 4) af) ab))) (aa (fv 3) ab))))))))))),?_⟩
 refine ag fun M1 K1=>⟨c,28,rfl,by decide,by decide,fun m m0 m1=>⟨N,sc,ps,m,rfl,m0,m1,hS,fun t1 H1 s1 o1=>K1 _ _ ?_⟩⟩
 clear K1 M1
 try dsimp only
 refine ag fun M1 K1=>⟨c,29,rfl,by decide,by decide,fun m2 m20 m21=>⟨N,sc,ps,m2,rfl,m20,m21,hS.same s1,fun t2 H2 s2 o2=>K1 _ _ ?_⟩⟩
 clear K1 M1
 have t2':=s1.trans s2
 try dsimp only
 refine ag fun M1 K1=>⟨c,30,rfl,by decide,by decide,fun n n0 n1=>K1 _ _ ?_⟩
 clear K1 M1
 try dsimp only
 refine ag fun M1 K1=>⟨by show (0:Int) < 4;decide,_,rfl,aU (fun _=>?_) (fun _=>K1 _ _ ?_)⟩
 ·exact ⟨by show 1 <= sizeLine;decide,fun p hp=>q p (.one t1) _ (t2'.trans (ai.upd hp _)) (ai.free t2' hp) ao (F4 o1)⟩
 clear K1 M1
 try dsimp only
 refine ag fun M1 K1=>⟨by show (0:Int) < 4;decide,rfl,_,rfl,aU (fun _=>?_) (fun _=>K1 _ _ ?_)⟩
 ·obtain ⟨a1,a2,a3,a4,h1,h2,h3,h4,h5⟩:=hS.same t2'
  refine dgk h1 rfl ⟨⟨by decide,by decide⟩,a3,_,_,rfl,SqL.of h4,by simp,fun x hx=>?_⟩
  obtain ⟨a,ma,rfl⟩:=List.mem_map.mp hx
  refine ⟨by show 3 <= sizeLine;decide,fun p hp=>q p (.op (.x a) "at" t2) _ (t2'.trans (ai.upd hp _)) (ai.free t2' hp) ao (Fl (fun b z=>?_) o2)⟩
  cases z
  exact List.mem_append_left _ ((show ∀x ∈ ([2,4]:List Nat),x ∈ S7 by decide) a ma)
 clear K1 M1
 try dsimp only
 refine ⟨by show 7 <= sizeLine;decide,fun L hL=>?_⟩
 obtain ⟨s3,e3⟩:=alc hL (HO.lst [.str "+",.str "-",.str "*",.str "over",.str "rest",.str "<",.str "="])
 generalize upd H2 L _=H3 at s3 e3 ⊢
 refine ⟨⟨by decide,by decide⟩,L,_,_,rfl,SqL.of e3,by decide,fun x hx=>?_⟩
 obtain ⟨y,rfl⟩:∃y:Str,x=.str y:=by
  simp only [List.mem_cons,List.not_mem_nil,or_false] at hx
  rcases hx with e | e | e | e | e | e | e <;> exact ⟨_,e⟩
 refine ⟨by show 3 <= sizeLine;decide,fun p hp=>?_⟩
 have t3:=t2'.trans s3
 exact q p (.op t1 y t2) _ (t3.trans (ai.upd hp _)) (ai.free t3 hp) ao (Fl o1 o2)
end
section
variable {P:Program}{w:World}{K:W.Frag}{mg:Str->Option Value}{base:Heap}{A:Adr}{N:Nat->Str}
seal PE PA PS PSs PT PW
theorem Sm.del {M:List Addr}{H H':Hp} (s:Sm M H H'):ai (del M H) (del M H'):=fun a o h=>by
 obtain ⟨h1,h2⟩:=dg h
 exact aN h1 (s a o h1 h2)
theorem Sm.mono {M M':List Addr}{H H':Hp} (s:Sm M H H') (m:∀a ∈ M,a ∈ M'):Sm M' H H':=fun a o h e=>s a o (fun z=>h (m a z)) e
structure Sa where
 S:Addr
 o:Addr
 t:Addr
 m:Addr
 d:Addr
 F:Addr
abbrev Sa.M (s:Sa):List Addr:=[s.S,s.o,s.t,s.m,s.d,s.F]
abbrev Sa.Q (s:Sa):List Addr:=[s.S,s.o,s.t,s.m,s.d]
def Sn (s:Sa) (H H':Hp):Prop:=Sm s.Q H H'
theorem Sa.qm {s:Sa}{a:Addr} (h:a ∈ s.Q):a ∈ s.M:=by
 simp only [Sa.Q,Sa.M,List.mem_cons,List.not_mem_nil,or_false] at h ⊢
 rcases h with h | h | h | h | h <;> simp [h]
theorem Sn.del {s:Sa}{H H':Hp} (h:Sn s H H'):ai (del s.M H) (del s.M H'):=Sm.del (Sm.mono h fun _=>Sa.qm)
theorem Sn.trans {s:Sa}{H H' H'':Hp} (h:Sn s H H') (h':Sn s H' H''):Sn s H H'':=Sm.trans h h'
theorem Sn.new {s:Sa}{H H':Hp} (h:ai H H'):Sn s H H':=Sm.new h
theorem Sn.at {s:Sa}{H:Hp}{a:Addr} (m:a ∈ s.Q) (o:HO):Sn s H (upd H a o):=Sm.at m o
def stK (s:Sa) (room:Int):List (Key × V):=[(.inr "open",.ref s.o),(.inr "times",.ref s.t),(.inr "marks",.ref s.m),(.inr "deeds",.ref s.d),(.inr "room",.int room)]
structure Sg where
 op:List Str
 tm:List Int
 ma:List Nat
 dd:List (Nat × Nat × Int)
 room:Int
def rp (N:Nat->Str) (X:Hp) (dd:List (Nat × Nat × Int)) (vs:List V):Prop:=Paired (fun (e:Nat × Nat × Int) v=>∃a,v=V.ref a/\X a=some (.tup [.str (N e.1),.int e.2.1,.int e.2.2])) dd vs
theorem rp.same {X X':Hp} (s:ai X X') {dd:List (Nat × Nat × Int)}{vs:List V} (h:rp N X dd vs):rp N X' dd vs:=Paired.nX h fun _ _ ⟨a,e,z⟩=>⟨a,e,s _ _ z⟩
structure SAt (N:Nat->Str) (H:Hp) (s:Sa) (g:Sg):Prop where
 hS:H s.S=some (.dK (stK s g.room))
 ho:H s.o=some (.lst (sS g.op))
 ht:H s.t=some (.lst (g.tm.map V.int))
 hm:H s.m=some (.lst (nV N g.ma))
 hd:∃ds,H s.d=some (.lst ds)/\rp N (del s.M H) g.dd ds
 nd:s.M.Nodup
 hF:∃ys,H s.F=some (.lst ys)
 mo:∀m ∈ g.ma,m=5 \/ m=6
 nm:kf N
theorem SAt.in {H:Hp}{s:Sa}{g:Sg} (h:SAt N H s g) {a:Addr} (m:a ∈ s.M):H a ≠ none:=by
 obtain ⟨ds,hd,_⟩:=h.hd
 obtain ⟨ys,hF⟩:=h.hF
 simp only [List.mem_cons,List.not_mem_nil,or_false] at m
 rcases m with rfl | rfl | rfl | rfl | rfl | rfl
 ·rw [h.hS];simp
 ·rw [h.ho];simp
 ·rw [h.ht];simp
 ·rw [h.hm];simp
 ·rw [hd];simp
 ·rw [hF];simp
theorem SAt.new {H:Hp}{s:Sa}{g:Sg} (h:SAt N H s g) {a:Addr} (e:H a=none):a ∉ s.M:=fun m=>h.in m e
theorem SAt.same {H H':Hp}{s:Sa}{g:Sg} (h:SAt N H s g) (e:ai H H'):SAt N H' s g:=by
 obtain ⟨ds,hd,dd⟩:=h.hd
 exact ⟨e _ _ h.hS,e _ _ h.ho,e _ _ h.ht,e _ _ h.hm,⟨ds,e _ _ hd,dd.same (Sn.del (Sn.new e))⟩,h.nd,h.hF.imp fun _ z=>e _ _ z,h.mo,h.nm⟩
theorem SAt.ne {H:Hp}{s:Sa}{g:Sg} (h:SAt N H s g):(s.S ≠ s.o/\s.S ≠ s.t/\s.S ≠ s.m/\s.S ≠ s.d/\s.o ≠ s.t/\s.o ≠ s.m/\s.o ≠ s.d/\s.t ≠ s.m/\s.t ≠ s.d/\s.m ≠ s.d)/\s.F ≠ s.S/\s.F ≠ s.o/\s.F ≠ s.t/\s.F ≠ s.m/\s.F ≠ s.d:=by
 have nd:=h.nd
 simp only [Sa.M,List.nodup_cons,List.mem_cons,List.not_mem_nil,or_false,not_or,List.nodup_nil,and_true,not_false_eq_true] at nd
 obtain ⟨⟨a,b,c,d,x1⟩,⟨e,f,i,x2⟩,⟨j,k,x3⟩,⟨l,x4⟩,x5⟩:=nd
 exact ⟨⟨a,b,c,d,e,f,i,j,k,l⟩,Ne.symm x1,Ne.symm x2,Ne.symm x3,Ne.symm x4,Ne.symm x5⟩
theorem SAt.marks {H:Hp}{s:Sa}{g:Sg} (h:SAt N H s g) {mk:List Nat} (e:∀m ∈ mk,m=5 \/ m=6):SAt N (upd H s.m (.lst (nV N mk))) s { g with ma:=mk }:=by
 obtain ⟨⟨a,b,c,d,e',f,i,j,k,l⟩,x1,x2,x3,x4,x5⟩:=h.ne
 obtain ⟨ds,hd,dd⟩:=h.hd
 exact ⟨ar c h.hS,ar f h.ho,ar j h.ht,ao,⟨ds,ar (Ne.symm l) hd,dd.same (Sn.del (Sn.at (by simp) _))⟩,h.nd,h.hF.imp fun _ z=>ar x4 z,e,h.nm⟩
theorem SAt.mW {H:Hp}{s:Sa}{g:Sg} (h:SAt N H s g) (r:Int):SAt N (upd H s.S (.dK (stK s r))) s { g with room:=r }:=by
 obtain ⟨⟨a,b,c,d,e',f,i,j,k,l⟩,x1,x2,x3,x4,x5⟩:=h.ne
 obtain ⟨ds,hd,dd⟩:=h.hd
 exact ⟨ao,ar (Ne.symm a) h.ho,ar (Ne.symm b) h.ht,ar (Ne.symm c) h.hm,⟨ds,ar (Ne.symm d) hd,dd.same (Sn.del (Sn.at (by simp) _))⟩,h.nd,h.hF.imp fun _ z=>ar x1 z,h.mo,h.nm⟩
theorem SAt.opened {H:Hp}{s:Sa}{g:Sg} (h:SAt N H s g) (op:List Str):SAt N (upd H s.o (.lst (sS op))) s { g with op:=op }:=by
 obtain ⟨⟨a,b,c,d,e',f,i,j,k,l⟩,x1,x2,x3,x4,x5⟩:=h.ne
 obtain ⟨ds,hd,dd⟩:=h.hd
 exact ⟨ar a h.hS,ao,ar (Ne.symm e') h.ht,ar (Ne.symm f) h.hm,⟨ds,ar (Ne.symm i) hd,dd.same (Sn.del (Sn.at (by simp) _))⟩,h.nd,h.hF.imp fun _ z=>ar x2 z,h.mo,h.nm⟩
theorem SAt.Cc {H:Hp}{s:Sa}{g:Sg} (h:SAt N H s g) (tm:List Int):SAt N (upd H s.t (.lst (tm.map V.int))) s { g with tm:=tm }:=by
 obtain ⟨⟨a,b,c,d,e',f,i,j,k,l⟩,x1,x2,x3,x4,x5⟩:=h.ne
 obtain ⟨ds,hd,dd⟩:=h.hd
 exact ⟨ar b h.hS,ar e' h.ho,ao,ar (Ne.symm j) h.hm,⟨ds,ar (Ne.symm k) hd,dd.same (Sn.del (Sn.at (by simp) _))⟩,h.nd,h.hF.imp fun _ z=>ar x3 z,h.mo,h.nm⟩
theorem kf.str (h:kf N) (i:Nat) (hi:i < 24):PyData.strOk (N i)=true:=by
 unfold PyData.strOk
 rw [Array.all_eq_true']
 intro c hc
 have:=h.ch i hi c (Array.mem_toList_iff.mpr hc)
 exact decide_eq_true (by omega)
theorem Ah {H:Hp}{p:Addr}{xs:List V}{y:V}{Q:VK} (h:H p=some (.lst (xs ++ [y]))) (q:Q y (upd H p (.lst xs))):AU (.ref p) [] H Q:=⟨p,_,y,rfl,rfl,h,by simp,by rw [List.dropLast_concat];exact q⟩
def vf (ps:List Nat) (dd:List (Nat × Nat)) (lp:Bool):Lr->Prop
 | .set x v=>x ∈ S7 ++ ps/\vOk ps v
 | .put x t v=>x ∈ S7 ++ ps/\nA ps t/\vOk ps v
 | .snd h v=>(h=0 \/ h=8)/\vOk ps v
 | .say x v m=>x ∈ S7 ++ ps/\vOk ps v/\(m=5 \/ m=6)
 | .call i ts=>(i,ts.length) ∈ dd/\∀t ∈ ts,nA ps t
 | .last=>lp=true
 | _=>False
theorem EI {a:Nat}{ps:List Nat} (h:a ∈ S3 ++ ps):a ∈ S7 ++ ps:=BW (List.mem_append_right _ h)
theorem fr1 {X:Hp}{a p:Addr}{f:Fr}{o:HO} (h:X a=some (.tup (.str f.wd :: f.ts N p))) (e:f.ob N=some o) (hp:X p=some o):jv N X (.ref a) f:=⟨a,p,rfl,h,fun o' ho=>by rw [e] at ho;cases ho;exact hp⟩
inductive qL (vs:List V) (H:Hp) (Q:VK) (E9:XK):Prop
 | mk (N:Nat->Str) (s:Sa) (g:Sg) (c:Int) (sc:Addr) (ps:List Nat) (z0:vs=[.ref s.S,.int c,.ref sc]) (z1:SAt N H s g) (z2:nR N (del s.M H) sc ps)
  (z3:∀(v:V) (r:Lr) (mk:List Nat) (H':Hp),Sn s H H'->SAt N H' s { g with ma:=mk }->jv N (del s.M H') v (.leaf r)->(∀dd lp,vf ps dd lp r)->Q v H'):qL vs H Q E9
theorem zd (T:Txt K mg A):T.mw.Hz P w base 4 qL:=by
 have D_law_mix:=nh (P:=P) (w:=w) (base:=base) T
 refine T.mw.hs (k:=3) da (fun f cdv A' outer s' H vs Q E hr hu h=>?_)
 obtain ⟨N,s,g,c,sc,ps,rfl,hA,hS,q⟩:=h
 refine ⟨_,(ae (pst 3 da.nd (au bB (ak (hj:=by omega) D_law_mix hr (aa (fv 1) (aa af ab))) af))
  (ae (pst 4 da.nd (ak (hj:=by omega) (Ap T) hr (aa (fv 1) (aa (fv 2) ab))))
  (ae (pst 5 da.nd (ak (hj:=by omega) D_law_mix hr (aa (fv 1) (aa af ab))))
  (ae (pst 6 da.nd (ak (hj:=by omega) (mv T) hr (aa (px hu (fv 2) aj) (aa (fv 5) ab))))
  (ae (aL (PW.pt (pw_and (ptc (bE hu) (fv 3) af) (pw_and1 (ptc (nY hu) (px hu (fv 0) aj) (aC ab)))))
   (ah (aw (aI (aa aj (aa (fv 6) (aa (fv 4) (aa (uR (px hu (fv 0) aj)) ab)))))))
   aB)
  (ae (aL (ptc xH (fv 3) af)
   (ah (aw (aI (aa aj (aa (ak (hj:=by omega) (mv T) hr (aa (px hu (fv 2) aj) (aa (fv 5) ab))) (aa (fv 4) ab))))))
   aB)
  (ae (aL (ptc (bE hu) (fv 3) af)
   (ah (aw (aI (aa aj (aa (px hu (px hu (fv 2) aj) af) (aa (ak (hj:=by omega) (jr T) hr (aa (ak (hj:=by omega) D_law_mix hr (aa (fv 1) (aa af ab))) (aa (fv 2) ab))) (aa (fv 4) ab)))))))
   aB)
  (ah (aw (aI (aa aj (aa (fv 6) (aa (fv 4) ab))))))))))))),?_⟩
 refine ag fun M1 K1=>⟨c,4,rfl,by decide,by decide,fun m m0 m1=>⟨by show (0:Int) < 8;decide,K1 _ _ ?_⟩⟩
 clear K1 M1
 try dsimp only
 refine ag fun M1 K1=>⟨N,sc,ps,c,rfl,hS.same cJ,fun p v H1 s1 f1 e1 ov=>K1 _ _ ?_⟩
 clear K1 M1
 have A1:=hA.same s1
 have S1:=hS.same (Sn.del (Sn.new s1))
 have p1:p ∉ s.M:=hA.new f1
 try dsimp only
 refine ag fun M1 K1=>⟨c,6,rfl,by decide,by decide,fun n n0 n1=>?_⟩
 obtain ⟨a1,a2,a3,a4,h1,h2,h3,h4,h5⟩:=S1
 refine K1 _ _ ?_
 clear K1 M1
 try dsimp only
 refine ag fun M1 K1=>dgk (cJ _ _ h1) rfl ⟨a1,_,n,rfl,SqL.of (cJ _ _ h2),by simp,fun x hx=>K1 _ _ ?_⟩
 clear K1 M1
 obtain ⟨a,ma,rfl⟩:=List.mem_map.mp hx
 have ma':=EI ma
 have ep:∀{H':Hp},ai H1 H'->del s.M H' p=some (.tup (vV N v)):=fun e=>aN p1 (e _ _ e1)
 have fin:∀(r:Lr) (t:Addr) (mk:List Nat) (H2:Hp),Sn s H H2->SAt N H2 s { g with ma:=mk }->H2 t=none->(∀H',ai H2 H'->H' t=some (.tup (.str r.wd :: (r.fs N p).map (·.2)))->jv N (del s.M H') (.ref t) (.leaf r))->(∀dd lp,vf ps dd lp r)->Q (.ref t) (upd H2 t (.tup (.str r.wd :: (r.fs N p).map (·.2)))):=fun r t mk H2 s2 A2 ht fr ok=>q _ r mk _ (s2.trans (Sn.new (ai.upd ht _))) (A2.same (ai.upd ht _)) (fr _ (ai.upd ht _) ao) ok
 have go:∀(r:Lr) (t:Addr) (H2:Hp),ai H1 H2->H2 t=none->r.ob N=some (.tup (vV N v))->(∀dd lp,vf ps dd lp r)->Q (.ref t) (upd H2 t (.tup (.str r.wd :: (r.fs N p).map (·.2)))):=fun r t H2 s2 ht eo ok=>fin r t g.ma H2 (Sn.new (s1.trans s2)) ((A1.same s2)) ht (fun H' e et=>fr1 (p:=p) (aN (hA.new (ai.free (s1.trans s2) ht)) et) eo (ep (s2.trans e))) ok
 try dsimp only
 refine ag fun M1 K1=>?_
 have rest:∀(H2:Hp),ai H1 H2->M1 [some (.ref s.S),some (.int c),some (.ref sc),some (.int (m % 8)),some (.ref p),some (.int n),some (.str (N a))] H2:=fun H2 s2=>K1 _ _ (by
  try dsimp only
  have S2:=fun x o (e:del s.M H1 x=some o)=>s2 _ _ (cJ _ _ e)
  refine ag fun M2 K2=>⟨_,rfl,aU (fun _=>?_) (fun _=>K2 _ _ ?_)⟩
  ·refine dgk (S2 _ _ h1) rfl ⟨a4,_,n,rfl,SqL.of (S2 _ _ h5),by simp,fun x hx=>?_⟩
   obtain ⟨b,mb,rfl⟩:=List.mem_map.mp hx
   refine ⟨by show 3 <= sizeLine;decide,fun t ht=>go (.snd b v) t H2 s2 ht rfl fun dd lp=>⟨?_,ov⟩⟩
   simpa using mb
  clear K2 M2
  try dsimp only
  refine ag fun M2 K2=>⟨rfl,_,rfl,aU (fun _=>?_) (fun _=>K2 _ _ ?_)⟩
  ·refine dgk (S2 _ _ h1) rfl (lxn (j:=1) (SqL.of (S2 _ _ h4)) rfl ⟨c,9,rfl,by decide,by decide,fun m' m0' m1'=>⟨N,sc,ps,m',rfl,m0',m1',⟨a1,a2,a3,a4,S2 _ _ h1,S2 _ _ h2,S2 _ _ h3,S2 _ _ h4,S2 _ _ h5⟩,fun th H3 s3 oth=>⟨by show 4 <= sizeLine;decide,fun t ht=>go (.put 4 th v) t H3 (s2.trans s3) ht rfl fun dd lp=>⟨by simp [S7],oth,ov⟩⟩⟩⟩)
  try dsimp only
  refine ⟨by show 3 <= sizeLine;decide,fun t ht=>go (.set a v) t H2 s2 ht rfl fun dd lp=>⟨ma',ov⟩⟩)
 refine ⟨rfl,_,rfl,aU (fun _=>?_) (fun _=>bz (rest H1 (ai.refl _)))⟩
 refine dgk A1.hS rfl ⟨Nat.zero_le _,fun L hL=>?_⟩
 obtain ⟨s2,e2⟩:=alc hL (HO.lst [])
 generalize upd H1 L _=H2 at s2 e2 ⊢
 have A2:=A1.same s2
 have ok:∀x ∈ g.ma.map N,PyData.strOk x=true:=fun x hx=>by
  obtain ⟨i,mi,rfl⟩:=List.mem_map.mp hx
  rcases A2.mo i mi with rfl | rfl <;> exact A2.nm.str _ (by decide)
 refine ne_nil (SqL.of A2.hm) (SqL.of e2) ((show nV N g.ma=sS (g.ma.map N) by simp [sS]) ▸ lj ok) ⟨_,rfl,?_⟩
 by_cases e0:g.ma=[]
 ·rw [e0]
  exact bz (rest H2 s2)
 obtain ⟨ks,k0,ek⟩:∃ks k0,g.ma=ks ++ [k0]:=⟨g.ma.dropLast,g.ma.getLast e0,(List.dropLast_concat_getLast e0).symm⟩
 have en:(!(nV N g.ma).isEmpty)=true:=by
  cases hg:g.ma with
  | nil=>exact absurd hg e0
  | cons x r=>rfl
 rw [en]
 have hm:=A2.hm
 rw [ek] at hm
 have hm:H2 s.m=some (.lst (nV N ks ++ [.str (N k0)])):=by rw [hm];simp
 have mks:∀x ∈ ks,x=5 \/ x=6:=fun x hx=>A2.mo x (by rw [ek];exact List.mem_append_left _ hx)
 have mk0:k0=5 \/ k0=6:=A2.mo k0 (by rw [ek];simp)
 have A3:=A2.marks mks
 refine c0 (dgk A2.hS rfl ⟨Or.inl ⟨rfl,_,SqL.of hm⟩,Ah hm ?_⟩)
 have s3:Sn s H2 (upd H2 s.m (.lst (nV N ks))):=Sn.at (by simp) _
 refine ⟨by show 4 <= sizeLine;decide,fun t ht=>fin (.say a v k0) t ks _ ((Sn.new (s1.trans s2)).trans s3) A3 ht (fun H' e et=>?_) fun dd lp=>⟨ma',ov,mk0⟩⟩
 have tm:t ∉ s.M:=A3.new ht
 exact fr1 (p:=p) (aN tm et) rfl (aN p1 (e _ _ (s3 _ _ (fun m=>p1 (Sa.qm m)) (s2 _ _ e1))))
end
section
variable {P:Program}{w:World}{K:W.Frag}{mg:Str->Option Value}{base:Heap}{A:Adr}{N:Nat->Str}
seal PE PA PS PSs PT PW
inductive Tr where
 | leaf (r:Lr) | iff (v:Val) (l r:Int) (f o:List Tr) | loop (t:Th) (m l r:Int) (b:List Tr)
mutual
def flT:Tr->List Fr
 | .leaf r=>[.leaf r]
 | .iff v l r f o=>.iff v l r :: (aA f ++ .els :: (aA o ++ [.fin]))
 | .loop t m l r b=>.loop t m l r :: (aA b ++ [.fin])
def aA:List Tr->List Fr
 | []=>[]
 | t :: ts=>flT t ++ aA ts
end
mutual
def okT (ps:List Nat) (dd:List (Nat × Nat)) (lp:Bool):Tr->Prop
 | .leaf r=>vf ps dd lp r
 | .iff v _ _ f o=>vOk ps v/\cF ps dd lp f/\cF ps dd lp o
 | .loop t m _ _ b=>nA ps t/\1 <= m/\m <= 4/\cF ps dd true b
def cF (ps:List Nat) (dd:List (Nat × Nat)) (lp:Bool):List Tr->Prop
 | []=>True
 | t :: ts=>okT ps dd lp t/\cF ps dd lp ts
end
mutual
def dpT:Tr->Nat
 | .leaf _=>0
 | .iff _ _ _ f o=>max (cY f) (cY o) + 1
 | .loop _ _ _ _ b=>cY b + 1
def cY:List Tr->Nat
 | []=>0
 | t :: ts=>max (dpT t) (cY ts)
end
theorem gn:∀(a b:List Tr),aA (a ++ b)=aA a ++ aA b
 | [],b=>by rw [List.nil_append,aA,List.nil_append]
 | t :: a,b=>by rw [List.cons_append,aA,aA,gn a b,List.append_assoc]
theorem pe (t:Tr):aA [t]=flT t:=by rw [aA,aA,List.append_nil]
theorem pj {ps:List Nat}{dd:List (Nat × Nat)}{lp:Bool}:∀{a b:List Tr},cF ps dd lp a->cF ps dd lp b->cF ps dd lp (a ++ b)
 | [],b,_,h=>h
 | t :: a,b,h,h'=>by
  rw [cF] at h
  rw [List.cons_append,cF]
  exact ⟨h.1,pj h.2 h'⟩
theorem uz {ps:List Nat}{dd:List (Nat × Nat)}{lp:Bool}{t:Tr} (h:okT ps dd lp t):cF ps dd lp [t]:=by
 rw [cF,cF]
 exact ⟨h,trivial⟩
theorem kY:∀(a b:List Tr),cY (a ++ b)=max (cY a) (cY b)
 | [],b=>by rw [List.nil_append,cY];omega
 | t :: a,b=>by rw [List.cons_append,cY,cY,kY a b];omega
theorem tG (t:Tr):cY [t]=dpT t:=by rw [cY,cY];omega
inductive Op where
 | lp (t:Th) (m l r:Int) | i1 (v:Val) (l r:Int) | i2 (v:Val) (l r:Int) (f:List Tr)
def Op.wd:Op->Str
 | .lp _ _ _ _=>"loop" | .i1 _ _ _=>"if" | .i2 _ _ _ _=>"other"
def Op.fl:Op->List Fr
 | .lp t m l r=>[.loop t m l r]
 | .i1 v l r=>[.iff v l r]
 | .i2 v l r f=>.iff v l r :: (aA f ++ [.els])
def Op.Ej:Op->Bool
 | .lp _ _ _ _=>true
 | _=>false
abbrev Zp:=List (List Tr × Op)
def flZ:Zp->List Tr->List Fr
 | [],cur=>aA cur
 | (pa,op) :: z,cur=>flZ z pa ++ (op.fl ++ aA cur)
def gk (z:Zp):List Str:=(z.map fun e=>e.2.wd).reverse
def lpZ (z:Zp):Bool:=z.any fun e=>e.2.Ej
def EK (ps:List Nat) (dd:List (Nat × Nat)) (lp:Bool) (k:Nat):Op->Prop
 | .lp t m _ _=>nA ps t/\1 <= m/\m <= 4
 | .i1 v _ _=>vOk ps v
 | .i2 v _ _ f=>vOk ps v/\cF ps dd lp f/\cY f + k + 1 <= 6
def okZ (ps:List Nat) (dd:List (Nat × Nat)):Zp->Prop
 | []=>True
 | (pa,op) :: z=>cF ps dd (lpZ z) pa/\cY pa + z.length <= 6/\EK ps dd (lpZ z) z.length op/\okZ ps dd z
def Op.mu:Op->Nat
 | .i1 _ _ _=>2
 | _=>1
def muZ (z:Zp):Nat:=(z.map fun e=>e.2.mu).sum
theorem wV (z:Zp) (a b:List Tr):flZ z (a ++ b)=flZ z a ++ aA b:=by
 cases z with
 | nil=>exact gn a b
 | cons e z =>
  obtain ⟨pa,op⟩:=e
  show flZ z pa ++ (op.fl ++ aA (a ++ b))=flZ z pa ++ (op.fl ++ aA a) ++ aA b
  rw [gn]
  simp only [List.append_assoc]
theorem yR:∀z:Zp,muZ z <= 2 * z.length
 | []=>Nat.le_refl _
 | (pa,op) :: z=>by
  have:=yR z
  have h:op.mu <= 2:=by cases op <;> simp [Op.mu]
  unfold muZ at this ⊢
  rw [List.map_cons,List.sum_cons,List.length_cons]
  show op.mu + _ <= _
  omega
structure BAt (N:Nat->Str) (H:Hp) (s:Sa) (g:Sg) (ps:List Nat) (dd:List (Nat × Nat)) (z:Zp) (cur:List Tr):Prop where
 a:SAt N H s g
 op:g.op=gk z
 tl:g.tm.length=z.length + 1
 tb:∀x ∈ g.tm,1 <= x/\x <= 6
 de:g.dd.map (fun e=>(e.1,e.2.1))=dd
 oz:okZ ps dd z
 oc:cF ps dd (lpZ z) cur
 zl:z.length <= 6
 dc:cY cur + z.length <= 6
theorem lC (e:List Tr × Op) (z:Zp):gk (e :: z)=gk z ++ [e.2.wd]:=by
 unfold gk
 rw [List.map_cons,List.reverse_cons]
theorem fB {xs:List V}{y:V}:atI (xs ++ [y]) (-1)=some y:=by
 have e:ixN (xs ++ [y]).length (-1)=some xs.length:=by
  unfold ixN
  rw [if_neg (by decide),if_pos (by rw [List.length_append,List.length_singleton];omega),List.length_append,List.length_singleton]
  congr 1
  omega
 unfold atI
 rw [e]
 simp
theorem AR {xs:List V}{y:V}:ixN (xs ++ [y]).length (-1)=some xs.length:=by
 unfold ixN
 rw [if_neg (by decide),if_pos (by rw [List.length_append,List.length_singleton];omega),List.length_append,List.length_singleton]
 congr 1
 omega
theorem zf {xs:List V}{y v:V}:(xs ++ [y]).set xs.length v=xs ++ [v]:=by
 rw [List.set_append_right _ _ (Nat.le_refl _),Nat.sub_self]
 rfl
theorem zX (e:List Tr × Op) (z:Zp):lpZ (e :: z)=(e.2.Ej || lpZ z):=rfl
theorem sA (a:List Str) (x:Str):sS (a ++ [x])=sS a ++ [.str x]:=by simp [sS]
inductive qX (vs:List V) (H:Hp) (Q:VK) (E9:XK):Prop
 | mk (N:Nat->Str) (s:Sa) (g:Sg) (ps:List Nat) (dd:List (Nat × Nat)) (z:Zp) (cur:List Tr) (z0:vs=[.ref s.S]) (z1:BAt N H s g ps dd z cur) (z2:z ≠ [])
  (z3:∀(v:V) (f:Fr) (g':Sg) (z':Zp) (cur':List Tr) (H':Hp),Sn s H H'->BAt N H' s g' ps dd z' cur'->g'.dd=g.dd->flZ z' cur'=flZ z cur ++ [f]->muZ z' + 1=muZ z->jv N (del s.M H') v f->Q v H'):qX vs H Q E9
theorem uS (T:Txt K mg A):T.kD.Hz P w base 1 qX:=by
 refine T.kD.hs qp (fun f cdv A' outer s' H vs Q E hr hu h=>?_)
 obtain ⟨N,s,g,ps,dd,z,cur,rfl,B,hz,q⟩:=h
 cases z with
 | nil=>exact absurd rfl hz
 | cons e z =>
 obtain ⟨pa,op⟩:=e
 have ho:=B.a.ho
 rw [B.op,lC,sA] at ho
 have oz:=B.oz
 unfold okZ at oz
 obtain ⟨o1,o2,o3,o4⟩:=oz
 have oc:=B.oc
 have dc:=B.dc
 have zl:=B.zl
 rw [List.length_cons] at dc zl
 refine ⟨_,(ae (aL (ptc (bE hu) (px hu (px hu (fv 0) aj) (jy gu af)) aj)
   (ae (cK aj (gK (px hu (fv 0) aj) (jy gu af) (jU hu set_list)))
   (ah (aw (aI (aa aj ab)))))
   aB)
  (ae (aE (uR (px hu (fv 0) aj)))
  (ae (aE (uR (px hu (fv 0) aj)))
  (ah (aw (aI (aa aj ab))))))),?_⟩
 refine ag fun M1 K1=>dgk B.a.hS rfl ⟨_,rfl,lix (SqL.of ho) fB ⟨rfl,_,rfl,?_⟩⟩
 have fin:∀(t:Tr),op.mu=1->flT t=op.fl ++ (aA cur ++ [.fin])->okT ps dd (lpZ z) t->dpT t + z.length <= 6->M1 [some (.ref s.S)] H:=by
  intro t em ef ok dt
  refine K1 _ _ ?_
  clear K1 M1
  obtain ⟨ts,t0,et⟩:∃ts t0,g.tm=ts ++ [t0]:=by
   have:g.tm ≠ []:=fun z=>by
    have:=B.tl
    rw [z] at this
    cases this
   exact ⟨g.tm.dropLast,g.tm.getLast this,(List.dropLast_concat_getLast this).symm⟩
  have A1:=B.a.opened (gk z)
  have tl:=B.tl
  rw [et,List.length_append,List.length_singleton,List.length_cons] at tl
  refine ag fun M1 K1=>dgk B.a.hS rfl ⟨Or.inl ⟨rfl,_,SqL.of ho⟩,Ah ho (K1 _ _ ?_)⟩
  clear K1 M1
  have ht:=A1.ht
  have ht:upd H s.o (.lst (sS (gk z))) s.t=some (.lst (ts.map V.int ++ [.int t0])):=by rw [ht];show some (HO.lst (g.tm.map V.int))=_;rw [et];simp
  have A2:=A1.Cc ts
  have s1:Sn s H (upd H s.o (.lst (sS (gk z)))):=Sn.at (by simp) _
  have s2:Sn s (upd H s.o (.lst (sS (gk z)))) (upd (upd H s.o (.lst (sS (gk z)))) s.t (.lst (ts.map V.int))):=Sn.at (by simp) _
  try dsimp only
  refine ag fun M1 K1=>dgk A1.hS rfl ⟨Or.inl ⟨rfl,_,SqL.of ht⟩,Ah ht (K1 _ _ ?_)⟩
  clear K1 M1
  try dsimp only
  refine ⟨by show 1 <= sizeLine;decide,fun r hr=>?_⟩
  have s3:=ai.upd hr (.tup [V.str "end"])
  refine q _ .fin { g with op:=gk z,tm:=ts } z (pa ++ [t]) _ ((s1.trans s2).trans (Sn.new s3)) ⟨A2.same s3,rfl,by show ts.length=_;omega,fun x hx=>B.tb x (by rw [et];exact List.mem_append_left _ hx),B.de,o4,pj o1 (uz ok),by omega,?_⟩ rfl ?_ ?_ (fr0 (aN (A2.new hr) ao) rfl)
  ·rw [kY,tG]
   omega
  ·rw [wV,pe,ef]
   show _=flZ z pa ++ (op.fl ++ aA cur) ++ [.fin]
   simp only [List.append_assoc]
  ·unfold muZ
   rw [List.map_cons,List.sum_cons]
   show _=op.mu + _
   rw [em]
   omega
 cases op with
 | lp t m l r =>
  refine aU (fun z=>absurd z (show ¬ decide (V.str "loop"=V.str "if")=true by decide)) (fun _=>fin (.loop t m l r cur) rfl (by rw [flT];rfl) (by rw [okT];exact ⟨o3.1,o3.2.1,o3.2.2,oc⟩) (by rw [dpT];omega))
 | i2 v l r f =>
  refine aU (fun z=>absurd z (show ¬ decide (V.str "other"=V.str "if")=true by decide)) (fun _=>fin (.iff v l r f cur) rfl (by rw [flT];simp [Op.fl]) (by rw [okT];exact ⟨o3.1,o3.2.1,oc⟩) ?_)
  rw [dpT]
  have:=o3.2.2
  omega
 | i1 v l r =>
  clear fin K1
  refine aU (fun _=>?_) (fun z=>absurd (show decide (V.str "if"=V.str "if")=true from decide_eq_true rfl) z)
  have A1:=B.a.opened (gk z ++ [("other":Str)])
  have s1:Sn s H (upd H s.o (.lst (sS (gk z ++ [("other":Str)])))):=Sn.at (by simp) _
  refine ag fun M2 K2=>dgk B.a.hS rfl ⟨_,rfl,Or.inl ⟨_,_,ho,AR,?_⟩⟩
  rw [zf,<- sA]
  refine K2 _ _ ?_
  clear K2
  try dsimp only
  refine ⟨by show 1 <= sizeLine;decide,fun r' hr=>?_⟩
  have s3:=ai.upd hr (.tup [V.str "else"])
  refine q _ .els { g with op:=gk z ++ [("other":Str)] } ((pa,.i2 v l r cur) :: z) [] _ (s1.trans (Sn.new s3)) ⟨A1.same s3,by rw [lC];rfl,B.tl,B.tb,B.de,⟨o1,o2,⟨o3,oc,by omega⟩,o4⟩,by rw [cF];trivial,by rw [List.length_cons];omega,by rw [cY,List.length_cons];omega⟩ rfl ?_ ?_ (fr0 (aN (A1.new hr) ao) rfl)
  ·show flZ z pa ++ (Op.fl (.i2 v l r cur) ++ aA [])=flZ z pa ++ (Op.fl (.i1 v l r) ++ aA cur) ++ [.els]
   rw [aA]
   simp [Op.fl]
  ·unfold muZ
   rw [List.map_cons,List.sum_cons,List.map_cons,List.sum_cons]
   show 1 + _ + 1=2 + _
   omega
end
section
variable {P:Program}{w:World}{K:W.Frag}{mg:Str->Option Value}{base:Heap}{A:Adr}{N:Nat->Str}
seal PE PA PS PSs PT PW
theorem BAt.times {H:Hp}{s:Sa}{g:Sg}{ps:List Nat}{dd:List (Nat × Nat)}{z:Zp}{cur:List Tr} (B:BAt N H s g ps dd z cur):∃ts t0,g.tm=ts ++ [t0]/\1 <= t0/\t0 <= 6:=by
 have:g.tm ≠ []:=fun z=>by
  have:=B.tl
  rw [z] at this
  cases this
 have e:=(List.dropLast_concat_getLast this).symm
 have m:=B.tb (g.tm.getLast this) (List.getLast_mem _)
 exact ⟨_,_,e,m.1,m.2⟩
theorem vA {ts:List Int}{t0:Int}:(ts ++ [t0]).map V.int=ts.map V.int ++ [.int t0]:=by simp
theorem BAt.mW {H:Hp}{s:Sa}{g:Sg}{ps:List Nat}{dd:List (Nat × Nat)}{z:Zp}{cur:List Tr} (B:BAt N H s g ps dd z cur) (r:Int):BAt N (upd H s.S (.dK (stK s r))) s { g with room:=r } ps dd z cur:=⟨B.a.mW r,B.op,B.tl,B.tb,B.de,B.oz,B.oc,B.zl,B.dc⟩
theorem BAt.same {H H':Hp}{s:Sa}{g:Sg}{ps:List Nat}{dd:List (Nat × Nat)}{z:Zp}{cur:List Tr} (B:BAt N H s g ps dd z cur) (e:ai H H'):BAt N H' s g ps dd z cur:=⟨B.a.same e,B.op,B.tl,B.tb,B.de,B.oz,B.oc,B.zl,B.dc⟩
theorem lO (s:Sa) (r r':Int):putK (stK s r) (.inr "room") (.int r')=stK s r':=rfl
inductive q5 (vs:List V) (H:Hp) (Q:VK) (E9:XK):Prop
 | mk (N:Nat->Str) (s:Sa) (g:Sg) (ps:List Nat) (dd:List (Nat × Nat)) (z:Zp) (cur:List Tr) (c:Int) (sc:Addr) (b:Bool) (z0:vs=[.ref s.S,.int c,.ref sc,.bl b]) (z1:BAt N H s g ps dd z cur) (z2:z.length < 6) (z4:nR N (del s.M H) sc ps)
  (z3:∀(v:V) (f:Fr) (g':Sg) (z':Zp) (cur':List Tr) (H':Hp),Sn s H H'->BAt N H' s g' ps dd z' cur'->g'.dd=g.dd->flZ z' cur'=flZ z cur ++ [f]->jv N (del s.M H') v f->Q v H'):q5 vs H Q E9
theorem zU (T:Txt K mg A):T.kI.Hz P w base 4 q5:=by
 refine T.kI.hs (k:=3) cw (fun f cdv A' outer s' H vs Q E hr hu h=>?_)
 obtain ⟨N,s,g,ps,dd,z,cur,c,sc,b,rfl,B,zl,hS,q⟩:=h
 obtain ⟨ts,t0,et,t1,t6⟩:=B.times
 have htm:H s.t=some (.lst (ts.map V.int ++ [.int t0])):=by rw [B.a.ht,et,vA]
 refine ⟨_,(ae (pst 4 cw.nd (ak (hj:=by omega) (nh T) hr (aa (fv 1) (aa af ab))))
  (ae (pst 5 cw.nd (au cL (au bB (fv 4) af) (au bB (au dh (fv 4) af) af)))
  (ae (pst 6 cw.nd (au cL (au bB (au dh (fv 4) af) af) (au bB (au dh (fv 4) af) af)))
  (ae (pst 7 cw.nd (au aK af (au bB (au dh (fv 4) af) af)))
  (ae (aL (ptc vn (au cL (px hu (px hu (fv 0) aj) (jy gu af)) (fv 7)) af)
   (ah (pst 7 cw.nd af))
   aB)
  (ae (cK (au uU (px hu (fv 0) aj) (au cL (au cL (px hu (px hu (fv 0) aj) (jy gu af)) (fv 7)) (au aK (fv 5) (fv 6)))) (gK (fv 0) aj (jU hu set_list)))
  (ae (aL (bU (fv 3) (fun _=>rfl))
   (ae (aE (aT (px hu (fv 0) aj) (aa aj ab)))
   (ae (aE (aT (px hu (fv 0) aj) (aa (au cL (px hu (px hu (fv 0) aj) (jy gu af)) (fv 7)) ab)))
   (ah (aw (aI (aa aj (aa (ak (hj:=by omega) (jr T) hr (aa (ak (hj:=by omega) (nh T) hr (aa (fv 1) (aa af ab))) (aa (fv 2) ab))) (aa (fv 7) (aa (fv 5) (aa (fv 6) ab))))))))))
   aB)
  (ae (aE (aT (px hu (fv 0) aj) (aa aj ab)))
  (ae (aE (aT (px hu (fv 0) aj) (aa (px hu (px hu (fv 0) aj) (jy gu af)) ab)))
  (ah (aw (aI (aa aj (aa (ak (hj:=by omega) (Ap T) hr (aa (fv 1) (aa (fv 2) ab))) (aa (fv 5) (aa (fv 6) ab)))))))))))))))),?_⟩
 refine ag fun M1 K1=>⟨c,7,rfl,by decide,by decide,fun n n0 n1=>?_⟩
 have sm:∀{x:Int},0 <= x->x < 100->-(2 ^ 64) < x/\x < 2 ^ 64:=fun a b=>by omega
 obtain ⟨a0,a1⟩:=bG n (show (0:Int) < 3 by decide)
 obtain ⟨b0,b1⟩:=bG (n / 12) (show (0:Int) < 3 by decide)
 refine K1 _ _ ?_
 clear K1 M1
 try dsimp only
 refine ag fun M1 K1=>⟨by show (0:Int) < 3;decide,⟨by decide,by decide⟩,by show (0:Int) < 4;decide,.inl (sm a0 (by omega)),K1 _ _ ?_⟩
 clear K1 M1
 try dsimp only
 refine ag fun M1 K1=>⟨⟨by decide,by decide⟩,by show (0:Int) < 3;decide,⟨by decide,by decide⟩,by show (0:Int) < 4;decide,.inl (sm b0 (by omega)),?_⟩
 obtain ⟨m0,m1⟩:=bG (n / 144) (show (0:Int) < 4 by decide)
 refine K1 _ _ ?_
 clear K1 M1
 try dsimp only
 refine ag fun M1 K1=>⟨⟨by decide,by decide⟩,by show (0:Int) < 4;decide,K1 _ _ ?_⟩
 clear K1 M1
 try dsimp only
 refine ag fun M1 K1=>?_
 have fin:∀(mm l r:Int),1 <= mm->mm <= 4->t0 * mm <= 6->M1 [some (.ref s.S),some (.int c),some (.ref sc),some (.bl b),some (.int n),some (.int l),some (.int r),some (.int mm)] H:=by
  intro mm l r h1 h4 h6
  have tp:1 <= t0 * mm:=Int.mul_pos (by omega) (by omega)
  refine K1 _ _ ?_
  clear K1 M1
  try dsimp only
  refine ag fun M1 K1=>dgk B.a.hS rfl (dgk B.a.hS rfl ⟨_,rfl,lix (SqL.of htm) fB ⟨.inl (sm (by omega) (by omega)),.inl (sm (by omega) (by omega)),⟨_,ke.k (k:=.inr "room") B.a.hS (show 5 < sizeLine by decide),K1 _ _ ?_⟩⟩⟩)
  clear K1 M1
  rw [lO]
  have A1:=B.a.mW (g.room - t0 * mm * (l + r))
  have s1:Sn s H (upd H s.S (.dK (stK s (g.room - t0 * mm * (l + r))))):=Sn.at (by simp) _
  have nn:=B.a.ne
  have ht1:upd H s.S (.dK (stK s (g.room - t0 * mm * (l + r)))) s.t=some (.lst (ts.map V.int ++ [.int t0])):=ar (Ne.symm nn.1.2.1) htm
  have ho1:=A1.ho
  generalize upd H s.S _=H1 at A1 s1 ht1 ho1 ⊢
  have lo:g.op.length=z.length:=by rw [B.op];simp [gk]
  have ltm:g.tm.length=z.length + 1:=B.tl
  have tll:ts.length=z.length:=by rw [et,List.length_append,List.length_singleton] at ltm;omega
  have push:∀(op:Op) (tn:Int),1 <= tn->tn <= 6->EK ps dd (lpZ z) z.length op->BAt N (upd (upd H1 s.o (.lst (sS (g.op ++ [op.wd])))) s.t (.lst ((g.tm ++ [tn]).map V.int))) s { g with room:=g.room - t0 * mm * (l + r),op:=g.op ++ [op.wd],tm:=g.tm ++ [tn] } ps dd ((cur,op) :: z) []:=fun op tn h1 h6 ok=>by
   refine ⟨(A1.opened (g.op ++ [op.wd])).Cc (g.tm ++ [tn]),by show g.op ++ [op.wd]=_;rw [lC,B.op],by show (g.tm ++ [tn]).length=_;rw [List.length_append,List.length_singleton,List.length_cons];omega,fun x hx=>?_,B.de,⟨B.oc,B.dc,ok,B.oz⟩,by rw [cF];trivial,by rw [List.length_cons];omega,by rw [cY,List.length_cons];omega⟩
   rcases List.mem_append.mp hx with m | m
   ·exact B.tb x m
   ·rw [List.mem_singleton.mp m]
    exact ⟨h1,h6⟩
  have fl:∀(op:Op) (f:Fr),op.fl=[f]->flZ ((cur,op) :: z) []=flZ z cur ++ [f]:=fun op f e=>by
   show flZ z cur ++ (op.fl ++ aA [])=_
   rw [e,aA,List.append_nil]
  have S1:=hS.same (Sn.del s1)
  cases b with
  | true =>
   refine ag fun M1 K1=>⟨_,rfl,c0 ?_⟩
   have A2:=A1.opened (g.op ++ [("loop":Str)])
   have s2:Sn s H1 (upd H1 s.o (.lst (sS (g.op ++ [("loop":Str)])))):=Sn.at (by simp) _
   have ht2:upd H1 s.o (.lst (sS (g.op ++ [("loop":Str)]))) s.t=some (.lst (ts.map V.int ++ [.int t0])):=ar (Ne.symm nn.1.2.2.2.2.1) ht1
   refine ag fun M2 K2=>dgk A1.hS rfl ⟨Or.inl ⟨rfl,_,SqL.of ho1⟩,_,_,_,rfl,rfl,ho1,aH (by rw [List.length_map];show g.op.length <= 1000;omega),?_⟩
   rw [<- sA]
   refine K2 _ _ ?_
   clear K2 M2
   try dsimp only
   refine ag fun M2 K2=>dgk A2.hS rfl ⟨Or.inl ⟨rfl,_,SqL.of ht2⟩,dgk A2.hS rfl ⟨_,rfl,lix (SqL.of ht2) fB ⟨.inl (sm (by omega) (by omega)),⟨_,_,_,rfl,rfl,ht2,aH (by rw [List.length_append,List.length_map,List.length_singleton];omega),K2 _ _ ?_⟩⟩⟩⟩
   clear K2 M2
   rw [show ts.map V.int ++ [.int t0] ++ [.int (t0 * mm)]=(g.tm ++ [t0 * mm]).map V.int by rw [et];simp]
   have s3:Sn s (upd H1 s.o (.lst (sS (g.op ++ [("loop":Str)])))) (upd (upd H1 s.o (.lst (sS (g.op ++ [("loop":Str)])))) s.t (.lst ((g.tm ++ [t0 * mm]).map V.int))):=Sn.at (by simp) _
   have t3:=(s1.trans s2).trans s3
   have S3:=hS.same (Sn.del t3)
   try dsimp only
   refine ⟨c,8,rfl,by decide,by decide,fun m' m0' m1'=>⟨N,sc,ps,m',rfl,m0',m1',S3.same cJ,fun th H4 s4 oth=>?_⟩⟩
   have B4:=(push (.lp th mm l r) (t0 * mm) tp h6 ⟨oth,h1,h4⟩).same s4
   refine ⟨by show 5 <= sizeLine;decide,fun rr hrr=>?_⟩
   have s5:=ai.upd hrr (.tup [V.str "loop",th.v N,.int mm,.int l,.int r])
   exact q _ (.loop th mm l r) _ _ _ _ (t3.trans (Sn.new (s4.trans s5))) (B4.same s5) rfl (fl _ _ rfl) (fr0 (aN (B4.a.new hrr) ao) rfl)
  | false =>
   refine ag fun M1 K1=>⟨_,rfl,bz (K1 _ _ ?_)⟩
   clear K1 M1
   try dsimp only
   have A2:=A1.opened (g.op ++ [("if":Str)])
   have s2:Sn s H1 (upd H1 s.o (.lst (sS (g.op ++ [("if":Str)])))):=Sn.at (by simp) _
   have ht2:upd H1 s.o (.lst (sS (g.op ++ [("if":Str)]))) s.t=some (.lst (ts.map V.int ++ [.int t0])):=ar (Ne.symm nn.1.2.2.2.2.1) ht1
   refine ag fun M2 K2=>dgk A1.hS rfl ⟨Or.inl ⟨rfl,_,SqL.of ho1⟩,_,_,_,rfl,rfl,ho1,aH (by rw [List.length_map];show g.op.length <= 1000;omega),?_⟩
   rw [<- sA]
   refine K2 _ _ ?_
   clear K2 M2
   try dsimp only
   refine ag fun M2 K2=>dgk A2.hS rfl ⟨Or.inl ⟨rfl,_,SqL.of ht2⟩,dgk A2.hS rfl ⟨_,rfl,lix (SqL.of ht2) fB ⟨_,_,_,rfl,rfl,ht2,aH (by rw [List.length_append,List.length_map,List.length_singleton];omega),K2 _ _ ?_⟩⟩⟩
   clear K2 M2
   rw [show ts.map V.int ++ [.int t0] ++ [.int t0]=(g.tm ++ [t0]).map V.int by rw [et];simp]
   have s3:Sn s (upd H1 s.o (.lst (sS (g.op ++ [("if":Str)])))) (upd (upd H1 s.o (.lst (sS (g.op ++ [("if":Str)])))) s.t (.lst ((g.tm ++ [t0]).map V.int))):=Sn.at (by simp) _
   have t3:=(s1.trans s2).trans s3
   have S3:=hS.same (Sn.del t3)
   try dsimp only
   refine ⟨N,sc,ps,c,rfl,S3.same cJ,fun p v H4 s4 f4 e4 ov=>?_⟩
   have B3:=push (.i1 v l r) t0 t1 t6 ov
   have p4:p ∉ s.M:=B3.a.new f4
   have B4:=B3.same s4
   refine ⟨by show 4 <= sizeLine;decide,fun rr hrr=>?_⟩
   have s5:=ai.upd hrr (.tup [V.str "if",.ref p,.int l,.int r])
   exact q _ (.iff v l r) _ _ _ _ (t3.trans (Sn.new (s4.trans s5))) (B4.same s5) rfl (fl _ _ rfl) (fr1 (p:=p) (aN (B4.a.new hrr) ao) rfl (aN p4 (s5 _ _ e4)))
 refine dgk B.a.hS rfl ⟨_,rfl,lix (SqL.of htm) fB ⟨.inl (sm (by omega) (by omega)),_,rfl,aU (fun _=>fin 1 _ _ (by decide) (by decide) (by omega)) (fun z=>fin _ _ _ (by omega) (by omega) ?_)⟩⟩
 ·have:=of_decide_eq_false (Bool.eq_false_iff.mpr z)
  omega
end
section
variable {P:Program}{w:World}{K:W.Frag}{mg:Str->Option Value}{base:Heap}{A:Adr}{N:Nat->Str}
seal PE PA PS PSs PT PW
theorem Bv {H:Hp}{p q:Addr}{xs:List V}{ds:List PyData} (hp:SqL K H p xs) (hq:SqL K H q []) (h1:du K H xs ds) (sh:SeqAt.shaped (.list ds)=true) {Q:VK} (k:Q (.bl (!xs.isEmpty)) H):fNe K (.ref p) (.ref q) H Q:=by
 refine ⟨.list ds,.list [],.lst hp h1,.lst hq .nil,sh,rfl,?_⟩
 cases h1 with
 | nil=>exact k
 | cons _ _=>exact k
def ddD (N:Nat->Str) (e:Nat × Nat × Int):PyData:=.tuple [.str (N e.1),.int e.2.1,.int e.2.2]
theorem Ab (nm:kf N) {X H:Hp} (s:ai X H):∀{dd:List (Nat × Nat × Int)}{ds:List V},rp N X dd ds->(∀e ∈ dd,e.1 < 24)->du K H ds (dd.map (ddD N))/\PyData.canLayAll0 (dd.map (ddD N))=true/\PyData.depthAll (dd.map (ddD N)) <= 1
 | _,_,.nil,_=>⟨.nil,rfl,Nat.zero_le _⟩
 | e :: dd,_,.cons h r,ok=>by
  obtain ⟨a,rfl,ha⟩:=h
  obtain ⟨h1,h2,h3⟩:=Ab nm s r fun e he=>ok e (List.mem_cons_of_mem _ he)
  have so:=nm.str e.1 (ok e List.mem_cons_self)
  refine ⟨.cons (.tup (SqT.of (s _ _ ha)) (.cons (.str _) (.cons (.int _) (.cons (.int _) .nil)))) h1,?_,?_⟩
  ·rw [List.map_cons]
   simp [ddD,PyData.canLayAll0,PyData.canLay0,h2,so]
  ·rw [List.map_cons]
   simp [ddD,PyData.depthAll,PyData.depth]
   omega
theorem CZ (z:Zp):decide (("loop":Str) ∈ gk z)=lpZ z:=by
 induction z with
 | nil=>rfl
 | cons e z ih =>
  rw [lC,zX,<- ih]
  obtain ⟨pa,op⟩:=e
  cases op with
  | lp _ _ _ _ =>
   show decide (_ ∈ gk z ++ [("loop":Str)])=(true || _)
   rw [decide_eq_true (by simp)]
   rfl
  | i1 _ _ _ =>
   show decide (_ ∈ gk z ++ [("if":Str)])=(false || _)
   rw [Bool.false_or]
   refine decide_eq_decide.mpr ⟨fun h=>?_,fun h=>List.mem_append_left _ h⟩
   rcases List.mem_append.mp h with h | h
   ·exact h
   ·exact absurd (List.mem_singleton.mp h) (by decide)
  | i2 _ _ _ _ =>
   show decide (_ ∈ gk z ++ [("other":Str)])=(false || _)
   rw [Bool.false_or]
   refine decide_eq_decide.mpr ⟨fun h=>?_,fun h=>List.mem_append_left _ h⟩
   rcases List.mem_append.mp h with h | h
   ·exact h
   ·exact absurd (List.mem_singleton.mp h) (by decide)
theorem Aw (op:Op):PyData.strOk op.wd=true:=by
 cases op with
 | lp _ _ _ _=>exact (by decide +kernel:PyData.strOk ("loop":Str)=true)
 | i1 _ _ _=>exact (by decide +kernel:PyData.strOk ("if":Str)=true)
 | i2 _ _ _ _=>exact (by decide +kernel:PyData.strOk ("other":Str)=true)
inductive xx (vs:List V) (H:Hp) (Q:VK) (E9:XK):Prop
 | mk (N:Nat->Str) (s:Sa) (g:Sg) (ps:List Nat) (dd:List (Nat × Nat)) (z:Zp) (cur:List Tr) (c:Int) (sc:Addr) (z0:vs=[.ref s.S,.int c,.ref sc]) (z1:BAt N H s g ps dd z cur) (z4:nR N (del s.M H) sc ps) (z5:∀e ∈ g.dd,e.1 < 24/\e.2.1 <= 4)
  (z3:∀(v:V) (f:Fr) (g':Sg) (z':Zp) (cur':List Tr) (H':Hp),Sn s H H'->BAt N H' s g' ps dd z' cur'->g'.dd=g.dd->flZ z' cur'=flZ z cur ++ [f]->jv N (del s.M H') v f->Q v H'):xx vs H Q E9
theorem BAt.leaf {H:Hp}{s:Sa}{g:Sg}{ps:List Nat}{dd:List (Nat × Nat)}{z:Zp}{cur:List Tr} (B:BAt N H s g ps dd z cur) {r:Lr} (ok:vf ps dd (lpZ z) r):BAt N H s g ps dd z (cur ++ [.leaf r])/\flZ z (cur ++ [.leaf r])=flZ z cur ++ [.leaf r]:=by
 refine ⟨⟨B.a,B.op,B.tl,B.tb,B.de,B.oz,pj B.oc (uz (by rw [okT];exact ok)),B.zl,?_⟩,?_⟩
 ·rw [kY,tG,dpT]
  have:=B.dc
  omega
 ·rw [wV,pe,flT]
theorem DF {ps:List Nat}{ys:List V} (h:∀(i:Nat) y,ys[i]?=some y->∃t:Th,y=t.v N/\nA ps t):∃ts:List Th,ys=ts.map (Th.v N)/\∀t ∈ ts,nA ps t:=by
 induction ys with
 | nil=>exact ⟨[],rfl,fun t ht=>by cases ht⟩
 | cons y r ih =>
  obtain ⟨t,rfl,ht⟩:=h 0 y rfl
  obtain ⟨ts,rfl,hts⟩:=ih fun i z hz=>h (i + 1) z hz
  refine ⟨t :: ts,rfl,fun u hu=>?_⟩
  rcases List.mem_cons.mp hu with rfl | hu
  ·exact ht
  ·exact hts u hu
theorem Cw (T:Txt K mg A):T.rq.Hz P w base 5 xx:=by
 refine T.rq.hs (k:=4) gv (fun f cdv A' outer s' H vs Q E hr hu h=>?_)
 obtain ⟨N,s,g,ps,dd,z,cur,c,sc,rfl,B,hS,hdd,q⟩:=h
 refine ⟨_,(ae (pst 3 gv.nd (au bB (fv 1) af))
  (ae (aL (PW.pt (pw_and (ptc vn (fv 3) af) (pw_and1 (ptc (nY hu) (px hu (fv 0) aj) (aC ab)))))
   (ah (aw (ak (hj:=by omega) (uS T) hr (aa (fv 0) ab))))
   aB)
  (ae (cK (au uU (px hu (fv 0) aj) (px hu (px hu (fv 0) aj) (jy gu af))) (gK (fv 0) aj (jU hu set_list)))
  (ae (aL (PW.pt (pw_and (ptc vn (fv 3) af) (pw_and (ptc xH (fv 3) af) (pw_and (ptc xH (pcB gm T.fV (aa (px hu (fv 0) aj) ab)) af) (pw_and1 (ptc vn (px hu (fv 0) aj) af))))))
   (ah (aw (ak (hj:=by omega) (zU T) hr (aa (fv 0) (aa (fv 1) (aa (fv 2) (aa (pec xH (fv 3) af) ab)))))))
   aB)
  (ae (aL (PW.pt (pw_and (ptc (bE hu) (fv 3) af) (pw_and1 (ptc (nY hu) (px hu (fv 0) aj) (aC ab)))))
   (ae (cK (ak (hj:=by omega) (mv T) hr (aa (px hu (fv 0) aj) (aa (ak (hj:=by omega) (nh T) hr (aa (fv 1) (aa af ab))) ab))) (iK rfl (bf (pgn (i:=4) gv.nd rfl) (bf (pgn (i:=5) gv.nd rfl) (bf (pgn (i:=6) gv.nd rfl) fC)))))
   (ah (aL (ptc vn (px hu (fv 0) aj) (au cL (px hu (px hu (fv 0) aj) (jy gu af)) (fv 6)))
    (ae (cK (au uU (px hu (fv 0) aj) (au cL (px hu (px hu (fv 0) aj) (jy gu af)) (fv 6))) (gK (fv 0) aj (jU hu set_list)))
    (ah (aw (aI (aa aj (aa (fv 4) (aa (gI (N:=["_law_k","_law_scope_here","_law_cell"]) (own:=1) (fr:=[2,1]) (cc.of (by kernel_rfl!)) rfl (cv rfl T.cC (aa (fv 5) ab)) (fun b=>pgn (i:=0) (show List.Nodup (["_law_k","_law_scope_here","_law_cell"]:List PySem.Str) by decide +kernel) rfl) (fun b=>mX) (fun b=>ak (hj:=by omega) (jr T) hr (aa (ak (hj:=by omega) (nh T) hr (aa (fv 2) (aa (au aK af (fv 0)) ab))) (aa (fv 1) ab)))) ab)))))))
    aB)))
   aB)
  (ae (aL (PW.pt (pw_and (ptc (bE hu) (fv 3) af) (pw_and1 (ptc (tM hu) aj (px hu (fv 0) aj) ((by with_unfolding_all rfl))))))
   (ah (aw (aI (aa aj ab))))
   aB)
  (ah (aw (ak (hj:=by omega) (zd T) hr (aa (fv 0) (aa (fv 1) (aa (fv 2) ab)))))))))))),?_⟩
 refine ag fun M1 K1=>⟨by show (0:Int) < 11;decide,K1 _ _ ?_⟩
 clear K1 M1
 try dsimp only
 refine ag fun M1 K1=>?_
 have go:∀H1,ai H H1->M1 [some (.ref s.S),some (.int c),some (.ref sc),some (.int (c % 11)),none,none,none] H1:=by
  intro H1 s1
  refine K1 _ _ ?_
  clear K1 M1
  have B1:=B.same s1
  obtain ⟨ts,t0,et,t1,t6⟩:=B.times
  have htm:H1 s.t=some (.lst (ts.map V.int ++ [.int t0])):=by rw [B1.a.ht,et,vA]
  try dsimp only
  refine ag fun M1 K1=>dgk B1.a.hS rfl (dgk B1.a.hS rfl ⟨_,rfl,lix (SqL.of htm) fB ⟨_,ke.k (k:=.inr "room") B1.a.hS (show 5 < sizeLine by decide),K1 _ _ ?_⟩⟩)
  clear K1 M1
  rw [lO]
  have B2:=B1.mW (g.room - t0)
  have s2:Sn s H1 (upd H1 s.S (.dK (stK s (g.room - t0)))):=Sn.at (by simp) _
  have htm2:upd H1 s.S (.dK (stK s (g.room - t0))) s.t=some (.lst (ts.map V.int ++ [.int t0])):=by rw [B2.a.ht];show some (HO.lst (g.tm.map V.int))=_;rw [et,vA]
  have t2:Sn s H (upd H1 s.S (.dK (stK s (g.room - t0)))):=(Sn.new s1).trans s2
  generalize upd H1 s.S _=H2 at B2 s2 htm2 t2 ⊢
  generalize g.room - t0=rm at B2
  have S2:=hS.same (Sn.del t2)
  have ho2:=B2.a.ho
  have lo:g.op.length=z.length:=by rw [B.op];simp [gk]
  try dsimp only
  refine ag fun M1 K1=>?_
  have go2:M1 [some (.ref s.S),some (.int c),some (.ref sc),some (.int (c % 11)),none,none,none] H2:=by
   refine K1 _ _ ?_
   clear K1 M1
   try dsimp only
   refine ag fun M1 K1=>?_
   have go3:∀(v4 v5 v6:Option V) (H3:Hp),ai H2 H3->M1 [some (.ref s.S),some (.int c),some (.ref sc),some (.int (c % 11)),v4,v5,v6] H3:=by
    intro v4 v5 v6 H3 s3
    refine K1 _ _ ?_
    clear K1 M1
    have B3:=B2.same s3
    have S3:=S2.same (Sn.del (Sn.new s3))
    have t3:=t2.trans (Sn.new s3)
    try dsimp only
    refine ag fun M1 K1=>?_
    have pl:∀H4,ai H3 H4->M1 [some (.ref s.S),some (.int c),some (.ref sc),some (.int (c % 11)),v4,v5,v6] H4:=fun H4 s4=>K1 _ _ ⟨N,s,_,c,sc,ps,rfl,(B3.same s4).a,S3.same (Sn.del (Sn.new s4)),fun v r mk H' s' a' fr ok=>by
     have B':BAt N H' s { g with room:=rm,ma:=mk } ps dd z cur:=⟨a',B3.op,B3.tl,B3.tb,B3.de,B3.oz,B3.oc,B3.zl,B3.dc⟩
     obtain ⟨b1,b2⟩:=B'.leaf (ok dd (lpZ z))
     exact q v (.leaf r) _ z _ H' (t3.trans ((Sn.new s4).trans s')) b1 rfl b2 fr⟩
    refine ⟨rfl,_,rfl,aU (fun _=>?_) (fun _=>bz (pl H3 (ai.refl _)))⟩
    refine dgk B3.a.hS rfl (Or.inl ⟨_,Or.inl (SqL.of B3.a.ho),rfl,mU _,_,rfl,?_⟩)
    have el:inV (V.str "loop") (sS g.op)=lpZ z:=by rw [lA,B.op,CZ]
    refine aU (fun z9=>?_) (fun _=>pl H3 (ai.refl _))
    have z9:inV (V.str "loop") (sS g.op)=true:=z9
    rw [el] at z9
    refine ⟨by show 1 <= sizeLine;decide,fun r hr=>?_⟩
    have s4:=ai.upd hr (.tup [V.str "last"])
    obtain ⟨b1,b2⟩:=(B3.same s4).leaf (r:=.last) z9
    exact q _ (.leaf .last) _ z _ _ (t3.trans (Sn.new s4)) b1 rfl b2 (fr0 (aN (B3.a.new hr) ao) rfl)
   refine ⟨rfl,_,rfl,aU (fun _=>?_) (fun _=>bz (go3 none none none H2 (ai.refl _)))⟩
   refine dgk B2.a.hS rfl ⟨Nat.zero_le _,fun L hL=>?_⟩
   obtain ⟨s3,e3⟩:=alc hL (HO.lst [])
   generalize upd H2 L _=H3 at s3 e3 ⊢
   have B3:=B2.same s3
   obtain ⟨ds,hd3,dd3⟩:=B3.a.hd
   have dl:=Paired.length dd3
   have RR:du K H3 ds (g.dd.map (ddD N))/\PyData.canLayAll0 (g.dd.map (ddD N))=true/\PyData.depthAll (g.dd.map (ddD N)) <= 1:=Ab (K:=K) B3.a.nm (cJ (X:=s.M) (H:=H3)) dd3 fun e he=>(hdd e he).1
   obtain ⟨r1,r2,r3⟩:=RR
   refine Bv (SqL.of hd3) (SqL.of e3) r1 (by simp [SeqAt.shaped,PyData.canLay0,PyData.depth,r2];omega) ⟨_,rfl,?_⟩
   by_cases e0:ds=[]
   ·rw [e0]
    exact bz (go3 none none none H3 s3)
   have en:(!ds.isEmpty)=true:=by
    cases hg:ds with
    | nil=>exact absurd hg e0
    | cons x r=>rfl
   rw [en]
   refine c0 (ag fun M2 K2=>dgk B3.a.hS rfl ⟨c,1,rfl,by decide,by decide,fun m m0 m1=>⟨s.d,_,m,rfl,SqL.of hd3,List.length_pos_iff.mpr e0,fun x hx=>?_⟩⟩)
   obtain ⟨j,hj⟩:=List.getElem?_of_mem hx
   obtain ⟨e,he,a,rfl,ha⟩:=er dd3 hj
   have me:e ∈ g.dd:=List.mem_of_getElem? he
   obtain ⟨e24,e4⟩:=hdd e me
   refine ⟨a,_,rfl,SqT.of (cJ _ _ ha),rfl,_,_,rfl,_,_,rfl,_,_,rfl,rfl,K2 _ _ ?_⟩
   clear K2 M2
   have htm3:=s3 _ _ htm2
   have sm:∀{x:Int},0 <= x->x < 100->-(2 ^ 64) < x/\x < 2 ^ 64:=fun a b=>by omega
   try dsimp only
   refine dgk B3.a.hS rfl (dgk B3.a.hS rfl ⟨_,rfl,lix (SqL.of htm3) fB ⟨.inl (sm (by omega) (by omega)),_,rfl,aU (fun _=>?_) (fun _=>go3 _ _ _ H3 s3)⟩⟩)
   refine ag fun M2 K2=>dgk B3.a.hS rfl (dgk B3.a.hS rfl ⟨_,rfl,lix (SqL.of htm3) fB ⟨.inl (sm (by omega) (by omega)),⟨_,ke.k (k:=.inr "room") B3.a.hS (show 5 < sizeLine by decide),K2 _ _ ?_⟩⟩⟩)
   clear K2 M2
   rw [lO]
   have B4:=B3.mW (rm - t0 * e.2.2)
   have s4:Sn s H3 (upd H3 s.S (.dK (stK s (rm - t0 * e.2.2)))):=Sn.at (by simp) _
   have t4:Sn s H (upd H3 s.S (.dK (stK s (rm - t0 * e.2.2)))):=(t2.trans (Sn.new s3)).trans s4
   generalize upd H3 s.S _=H4 at B4 s4 t4 ⊢
   have S4:=hS.same (Sn.del t4)
   try dsimp only
   refine ⟨_,rfl,by omega,by omega,?_⟩
   rw [Int.toNat_natCast]
   refine pZ (n:=e.2.1) (x:=fun i=>.int (0 + (i:Int))) (fun j y H=>∃t:Th,y=t.v N/\nA ps t) (aH (by omega)) (fun _ _=>Nat.le_refl _) (fun _ _ h _=>h) (fun _ _ _ _ _ _ y=>y) (fun b j H5 G hj s5 kk=>⟨c,_,rfl,by omega,by omega,fun m' m0' m1'=>⟨N,sc,ps,m',rfl,m0',m1',(S4.same cJ).same s5,fun th H6 s6 oth=>kk _ H6 s6 ⟨th,rfl,oth⟩⟩⟩) (fun j y H1 H2 s1 h=>h) (fun j y H1 D ys zs hD h=>h) (fun D H5 ys hD s5 e5 ly hy=>?_)
   ·obtain ⟨tls,rfl,ot⟩:=DF hy
    have B5:=B4.same s5
    have D5:D ∉ s.M:=B4.a.new hD
    refine ⟨by show 3 <= sizeLine;decide,fun r hr=>?_⟩
    have s6:=ai.upd hr (.tup [V.str "call",.str (N e.1),.ref D])
    have mem:(e.1,tls.length) ∈ dd:=by
     rw [<- B.de]
     refine List.mem_map.mpr ⟨e,me,?_⟩
     rw [show tls.length=e.2.1 by rw [<- ly,List.length_map]]
    obtain ⟨b1,b2⟩:=(B5.same s6).leaf (r:=.call e.1 tls) ⟨mem,ot⟩
    exact q _ (.leaf (.call e.1 tls)) _ z _ _ (t4.trans (Sn.new (s5.trans s6))) b1 rfl b2 (fr1 (p:=D) (aN (B5.a.new hr) ao) rfl (aN D5 (s6 _ _ e5)))
  refine ⟨_,rfl,aU (fun _=>?_) (fun _=>bz go2)⟩
  refine ⟨_,rfl,aU (fun _=>?_) (fun _=>bz go2)⟩
  refine dgk B2.a.hS rfl (lnl ho2 ⟨_,rfl,aU (fun z6=>?_) (fun _=>bz go2)⟩)
  refine dgk B2.a.hS rfl ⟨_,rfl,aU (fun _=>?_) (fun _=>go2)⟩
  have z6:(((sS g.op).length:Nat):Int) < 6:=of_decide_eq_true z6
  rw [List.length_map] at z6
  exact ⟨N,s,_,ps,dd,z,cur,c,sc,_,rfl,B2,by omega,S2,fun v f g' z' cur' H' s' B' ed fl fr=>q v f g' z' cur' H' (t2.trans s') B' ed fl fr⟩
 refine ⟨_,rfl,aU (fun _=>?_) (fun _=>bz (go H (ai.refl _)))⟩
 refine dgk B.a.hS rfl ⟨Nat.zero_le _,fun L hL=>?_⟩
 obtain ⟨s1,e1⟩:=alc hL (HO.lst [])
 generalize upd H L _=H1 at s1 e1 ⊢
 have B1:=B.same s1
 have okw:∀x ∈ g.op,PyData.strOk x=true:=fun x hx=>by
  rw [B.op] at hx
  unfold gk at hx
  rw [List.mem_reverse] at hx
  obtain ⟨⟨pa,op⟩,_,rfl⟩:=List.mem_map.mp hx
  exact Aw op
 refine ne_nil (SqL.of B1.a.ho) (SqL.of e1) (lj okw) ⟨_,rfl,?_⟩
 by_cases e0:z=[]
 ·have e2:g.op=[]:=by rw [B.op,e0];rfl
  rw [e2]
  exact bz (go H1 s1)
 have en:(!(sS g.op).isEmpty)=true:=by
  have l1:g.op.length=z.length:=by rw [B.op];simp [gk]
  cases hg:g.op with
  | nil =>
   rw [hg] at l1
   exact absurd (List.length_eq_zero_iff.mp l1.symm) e0
  | cons x r=>rfl
 rw [en]
 exact c0 ⟨N,s,g,ps,dd,z,cur,rfl,B1,e0,fun v f g' z' cur' H' s' B' ed fl mu fr=>q v f g' z' cur' H' ((Sn.new s1).trans s') B' ed fl fr⟩
end
section
variable {P:Program}{w:World}{K:W.Frag}{mg:Str->Option Value}{base:Heap}{A:Adr}{N:Nat->Str}
seal PE PA PS PSs PT PW
theorem SAt.grown {H:Hp}{s:Sa}{g:Sg} (h:SAt N H s g) (ys:List V):SAt N (upd H s.F (.lst ys)) s g:=by
 obtain ⟨⟨a,b,c,d,e',f,i,j,k,l⟩,x1,x2,x3,x4,x5⟩:=h.ne
 obtain ⟨ds,hd,dd⟩:=h.hd
 exact ⟨ar (Ne.symm x1) h.hS,ar (Ne.symm x2) h.ho,ar (Ne.symm x3) h.ht,ar (Ne.symm x4) h.hm,⟨ds,ar (Ne.symm x5) hd,dd.same (Sm.del (Sm.at (by simp) _))⟩,h.nd,⟨ys,ao⟩,h.mo,h.nm⟩
theorem BAt.grown {H:Hp}{s:Sa}{g:Sg}{ps:List Nat}{dd:List (Nat × Nat)}{z:Zp}{cur:List Tr} (B:BAt N H s g ps dd z cur) (ys:List V):BAt N (upd H s.F (.lst ys)) s g ps dd z cur:=⟨B.a.grown ys,B.op,B.tl,B.tb,B.de,B.oz,B.oc,B.zl,B.dc⟩
theorem SAt.fq {H:Hp}{s:Sa}{g:Sg} (h:SAt N H s g):s.F ∉ s.Q:=by
 obtain ⟨_,x1,x2,x3,x4,x5⟩:=h.ne
 simp only [Sa.Q,List.mem_cons,List.not_mem_nil,or_false,not_or]
 exact ⟨x1,x2,x3,x4,x5⟩
theorem Sn.m {s:Sa}{H H':Hp} (h:Sn s H H'):Sm s.M H H':=Sm.mono h fun _=>Sa.qm
inductive uZ (vs:List V) (H:Hp) (Q:VK) (E9:XK):Prop
 | mk (N:Nat->Str) (s:Sa) (g:Sg) (ps:List Nat) (dd:List (Nat × Nat)) (cl sc:Addr) (cs:List Int) (rm:Int) (z0:vs=[.ref s.S,.ref cl,.ref sc,.int rm]) (z1:BAt N H s g ps dd [] []) (z2:del s.M H cl=some (.lst (cs.map V.int))) (z3:cs.length <= 40) (z4:nR N (del s.M H) sc ps) (z5:∀e ∈ g.dd,e.1 < 24/\e.2.1 <= 4)
  (z6:∀(R:Addr) (ys:List V) (ts:List Tr) (g':Sg) (H':Hp),Sn s H H'->H R=none->H' R=some (.lst ys)->bh N (del s.Q H') (aA ts ++ [.fin]) ys->cF ps dd false ts->cY ts <= 6->(aA ts).length <= cs.length + 12->BAt N H' s g' ps dd [] []->g'.dd=g.dd->Q (.ref R) H'):uZ vs H Q E9
theorem wa (T:Txt K mg A):T.pF.Hz P w base 6 uZ:=by
 refine T.pF.hs (k:=5) jZ (fun f cdv A' outer s' H vs Q E hr hu h=>?_)
 obtain ⟨N,s0,g,ps,dd,cl,sc,cs,rm,rfl,B,hcl,lc,hS,hdd,q⟩:=h
 refine ⟨_,(ae (cK (fv 3) (gK (fv 0) aj (jU hu set_list)))
  (ae (pst 4 jZ.nd (aC ab))
  (ae (cy PassesOwn.never rfl (cR (fv 1)) (pgn (i:=5) jZ.nd rfl)
   (ah (aE (aT (fv 4) (aa (ak (hj:=by omega) (Cw T) hr (aa (fv 0) (aa (fv 5) (aa (fv 2) ab)))) ab)))))
  (ae (jQ PassesOwn.never (ptc (nY hu) (px hu (fv 0) aj) (aC ab))
   (ah (aE (aT (fv 4) (aa (ak (hj:=by omega) (uS T) hr (aa (fv 0) ab)) ab)))))
  (ah (aw (au aK (fv 4) (aC (aa (aI (aa aj ab)) ab))))))))),?_⟩
 refine ag fun M1 K1=>⟨_,ke.k (k:=.inr "room") B.a.hS (show 5 < sizeLine by decide),K1 _ _ ?_⟩
 clear K1 M1
 rw [lO]
 have B1:=B.mW rm
 have s1:Sn s0 H (upd H s0.S (.dK (stK s0 rm))):=Sn.at (by simp) _
 have n1:∀x,upd H s0.S (.dK (stK s0 rm)) x=none->H x=none:=fun x hx=>by
  by_cases e:x=s0.S
  ·rw [e,ao] at hx;cases hx
  ·rw [aQ e] at hx;exact hx
 generalize upd H s0.S _=H1 at B1 s1 n1 ⊢
 try dsimp only
 refine ag fun M1 K1=>⟨Nat.zero_le _,fun F hF=>K1 _ _ ?_⟩
 clear K1 M1
 obtain ⟨s2,e2⟩:=alc hF (HO.lst [])
 generalize upd H1 F _=H2 at s2 e2 ⊢
 have HF:H F=none:=n1 _ hF
 have F0:F ∉ s0.M:=B1.a.new hF
 have B2:=B1.same s2
 obtain ⟨s,es⟩:∃s:Sa,s={ s0 with F:=F }:=⟨_,rfl⟩
 have eS:s.S=s0.S:=by rw [es]
 have eF:s.F=F:=by rw [es]
 have eQ:s.Q=s0.Q:=by rw [es]
 have eM:∀a ∈ s.M,a ∈ s0.Q \/ a=F:=fun a m=>by
  rw [es] at m
  simp only [Sa.M,Sa.Q,List.mem_cons,List.not_mem_nil,or_false] at m ⊢
  rcases m with h | h | h | h | h | h <;> simp [h]
 have B2':BAt N H2 s { g with room:=rm } ps dd [] []:=by
  obtain ⟨ds,hd,dda⟩:=B1.a.hd
  have nn:=B1.a.ne
  have h5:F ≠ s0.S/\F ≠ s0.o/\F ≠ s0.t/\F ≠ s0.m/\F ≠ s0.d:=by
   simp only [Sa.M,List.mem_cons,List.not_mem_nil,or_false,not_or] at F0
   exact ⟨F0.1,F0.2.1,F0.2.2.1,F0.2.2.2.1,F0.2.2.2.2.1⟩
  have dda':rp N (del s.M H2) g.dd ds:=dda.same fun a o h=>by
   obtain ⟨h1,h2⟩:=dg h
   refine aN (fun m=>?_) (s2 _ _ h2)
   rcases eM a m with z | z
   ·exact h1 (Sa.qm z)
   ·rw [z,hF] at h2;cases h2
  have nd:s.M.Nodup:=by
   rw [es]
   obtain ⟨⟨a,b,c,d,e,f,i,j,k,l⟩,_⟩:=nn
   simp only [Sa.M,List.nodup_cons,List.mem_cons,List.not_mem_nil,or_false,not_or,List.nodup_nil,and_true,not_false_eq_true]
   exact ⟨⟨a,b,c,d,Ne.symm h5.1⟩,⟨e,f,i,Ne.symm h5.2.1⟩,⟨j,k,Ne.symm h5.2.2.1⟩,⟨l,Ne.symm h5.2.2.2.1⟩,Ne.symm h5.2.2.2.2⟩
  subst es
  exact ⟨⟨B2.a.hS,B2.a.ho,B2.a.ht,B2.a.hm,⟨ds,s2 _ _ hd,dda'⟩,nd,⟨[],e2⟩,B2.a.mo,B2.a.nm⟩,B2.op,B2.tl,B2.tb,B2.de,B2.oz,B2.oc,B2.zl,B2.dc⟩
 have out:∀{H':Hp},Sm s.M H2 H'->Sn s0 H H':=fun {H'} sm a o ha e=>sm a o (fun m=>by
  rcases eM a m with z | z
  ·exact ha z
  ·rw [z,HF] at e;cases e) (s2 _ _ (s1 a o ha e))
 have dn:ai (del s0.M H) (del s.M H2):=fun x o e=>by
  obtain ⟨h1,h2⟩:=dg e
  refine aN (fun m=>?_) (s2 _ _ (s1 _ _ (fun m=>h1 (Sa.qm m)) h2))
  rcases eM x m with z | z
  ·exact h1 (Sa.qm z)
  ·rw [z,HF] at h2;cases h2
 have hcl2:=dn _ _ hcl
 have hS2:nR N (del s.M H2) sc ps:=hS.same dn
 rw [<- eS]
 try dsimp only
 refine ag fun M1 K1=>Or.inl ⟨⟨_,SqL.of (cJ _ _ hcl2)⟩,cN (K:=K) (xs:=cs.map V.int) (fun i σ Hc=>∃(v5:Option V) (ys:List V) (g':Sg) (z:Zp) (cur:List Tr),σ=[some (.ref s.S),some (.ref cl),some (.ref sc),some (.int rm),some (.ref F),v5]/\Sm s.M H2 Hc/\Hc F=some (.lst ys)/\bh N (del s.M Hc) (flZ z cur) ys/\ys.length=i/\BAt N Hc s g' ps dd z cur/\g'.dd=g.dd) ⟨none,[],{ g with room:=rm },[],[],rfl,Sm.refl _ _,e2,by show bh N _ (aA []) _;rw [aA];exact .nil,rfl,B2',rfl⟩ (fun i σ Hc _ ⟨_,_,_,_,_,_,z,_⟩=>SqL.of (cJ _ _ (Sm.del z _ _ hcl2))) ?_ ?_⟩
 ·rintro i x σ Hc hx ⟨v5,ys,g',z,cur,rfl,sc',hFc,fr,ly,Bc,gd⟩
  rw [List.getElem?_map] at hx
  cases hc:cs[i]? with
  | none=>rw [hc] at hx;cases hx
  | some c =>
  rw [hc] at hx
  cases hx
  have il:i < cs.length:=(List.getElem?_eq_some_iff.mp hc).1
  try dsimp only
  refine ⟨Or.inl ⟨rfl,_,SqL.of hFc⟩,N,s,g',ps,dd,z,cur,c,sc,rfl,Bc,hS2.same (Sm.del sc'),fun e he=>hdd e (gd ▸ he),fun v f g2 z2 cur2 H3 s3 B3 gd2 fl3 fr3=>?_⟩
  have hF3:H3 F=some (.lst ys):=s3 _ _ (by have:=Bc.a.fq;rw [eF] at this;exact this) hFc
  have s4:Sm s.M H3 (upd H3 F (.lst (ys ++ [v]))):=Sm.at (by rw [<- eF];simp) _
  have B4:=B3.grown (ys ++ [v])
  rw [eF] at B4
  refine ⟨_,_,_,rfl,rfl,hF3,aH (by omega),_,ys ++ [v],g2,z2,cur2,rfl,(sc'.trans s3.m).trans s4,ao,?_,by rw [List.length_append,ly];rfl,B4,gd2.trans gd⟩
  rw [fl3]
  exact Paired.two (bh.same (Sm.del (s3.m.trans s4)) fr) (.cons (jv.same (Sm.del s4) fr3) .nil)
 rintro σ Hc ⟨v5,ys,g',z,cur,rfl,sc',hFc,fr,ly,Bc,gd⟩
 rw [List.length_map] at ly
 refine K1 _ _ ?_
 clear K1 M1
 try dsimp only
 refine ag fun M1 K1=>⟨fun m σ' Hd=>∃(ys:List V) (g':Sg) (z:Zp) (cur:List Tr),σ'=[some (.ref s.S),some (.ref cl),some (.ref sc),some (.int rm),some (.ref F),v5]/\Sm s.M H2 Hd/\Hd F=some (.lst ys)/\bh N (del s.M Hd) (flZ z cur) ys/\muZ z=m/\ys.length + m <= cs.length + 12/\BAt N Hd s g' ps dd z cur/\g'.dd=g.dd,⟨muZ z,ys,g',z,cur,rfl,sc',hFc,fr,rfl,by have:=yR z;have:=Bc.zl;omega,Bc,gd⟩,?_⟩
 clear fr ly Bc gd hFc sc'
 rintro m σ' Hd ⟨ys,g',z,cur,rfl,sc',hFc,fr,em,lm,Bc,gd⟩
 refine dgk Bc.a.hS rfl ⟨Nat.zero_le _,fun L hL=>?_⟩
 obtain ⟨s5,e5⟩:=alc hL (HO.lst [])
 generalize upd Hd L _=H5 at s5 e5 ⊢
 have B5:=Bc.same s5
 have okw:∀x ∈ g'.op,PyData.strOk x=true:=fun x hx=>by
  rw [Bc.op] at hx
  unfold gk at hx
  rw [List.mem_reverse] at hx
  obtain ⟨⟨pa,op⟩,_,rfl⟩:=List.mem_map.mp hx
  exact Aw op
 refine ne_nil (SqL.of B5.a.ho) (SqL.of e5) (lj okw) ⟨_,rfl,?_⟩
 have fr5:=bh.same (Sm.del (Sm.new s5)) fr
 have hF5:=s5 _ _ hFc
 have sc5:=sc'.trans (Sm.new s5)
 by_cases e0:z=[]
 ·have eo:g'.op=[]:=by rw [Bc.op,e0];rfl
  rw [eo]
  refine bz (K1 _ _ ?_)
  clear K1 M1
  subst e0
  try dsimp only
  refine ⟨by show 1 <= sizeLine;decide,fun t ht=>?_⟩
  obtain ⟨s6,e6⟩:=alc ht (HO.tup [V.str "end"])
  generalize upd H5 t _=H6 at s6 e6 ⊢
  refine ⟨by show 1 <= sizeLine;decide,fun l hl=>?_⟩
  obtain ⟨s7,e7⟩:=alc hl (HO.lst [V.ref t])
  generalize upd H6 l _=H7 at s7 e7 ⊢
  refine ⟨F,l,_,_,rfl,rfl,(s6.trans s7) _ _ hF5,e7,sz (by rw [List.length_singleton];omega),fun R hR=>?_⟩
  have s8:=ai.upd hR (.lst (ys ++ [V.ref t]))
  have t58:=s6.trans (s7.trans s8)
  have sR:Sm s.M H2 (upd H7 R (.lst (ys ++ [V.ref t]))):=sc5.trans (Sm.new t58)
  have B8:=B5.same t58
  have B8':BAt N (upd H7 R (.lst (ys ++ [V.ref t]))) s0 g' ps dd [] []:=by
   obtain ⟨ys0,f0⟩:=B.a.hF
   have k0:upd H7 R (.lst (ys ++ [V.ref t])) s0.F=some (.lst ys0):=out sR _ _ B.a.fq f0
   obtain ⟨ds,hd,dda⟩:=B8.a.hd
   have dda':rp N (del s0.M (upd H7 R (.lst (ys ++ [V.ref t])))) g'.dd ds:=Paired.nX dda fun e v ⟨a,ea,ha⟩=>⟨a,ea,by
    obtain ⟨h1,h2⟩:=dg ha
    refine aN (fun m=>?_) h2
    simp only [Sa.M,List.mem_cons,List.not_mem_nil,or_false] at m
    rcases m with h | h | h | h | h | h
    ·exact h1 (by rw [h,es];simp)
    ·exact h1 (by rw [h,es];simp)
    ·exact h1 (by rw [h,es];simp)
    ·exact h1 (by rw [h,es];simp)
    ·exact h1 (by rw [h,es];simp)
    ·rw [h,k0] at h2;cases h2⟩
   subst es
   exact ⟨⟨B8.a.hS,B8.a.ho,B8.a.ht,B8.a.hm,⟨ds,hd,dda'⟩,B.a.nd,⟨ys0,k0⟩,B8.a.mo,B8.a.nm⟩,B8.op,B8.tl,B8.tb,B8.de,trivial,by rw [cF];trivial,Nat.zero_le _,by rw [cY];exact Nat.zero_le _⟩
  have fin:bh N (del s.M (upd H7 R (.lst (ys ++ [V.ref t])))) (aA cur ++ [.fin]) (ys ++ [V.ref t]):=Paired.two (bh.same (Sm.del (Sm.new t58)) fr5) (.cons (fr0 (aN (B5.a.new ht) ((s7.trans s8) _ _ e6)) rfl) .nil)
  have lf:=Paired.length fr5
  have lf:(aA cur).length=ys.length:=lf
  have dcz:=Bc.dc
  have HR:H R=none:=by
   cases e:H R with
   | none=>rfl
   | some o =>
    by_cases mR:R ∈ s0.Q
    ·exact absurd hR ((B5.same (s6.trans s7)).a.in (by rw [<- eQ] at mR;exact Sa.qm mR))
    ·have:=(out (sc5.trans (Sm.new (s6.trans s7)))) R o mR e
     rw [hR] at this
     cases this
  refine q R _ cur g' _ (out sR) HR ao ?_ Bc.oc (by have:=Bc.dc;rw [List.length_nil] at this;omega) (by omega) B8' gd
  rw [<- eQ]
  exact bh.same (fun a o h=>aN (fun m=>(dg h).1 (Sa.qm m)) (dg h).2) fin
 have en:(!(sS g'.op).isEmpty)=true:=by
  have l1:g'.op.length=z.length:=by rw [Bc.op];simp [gk]
  cases hg:g'.op with
  | nil =>
   rw [hg] at l1
   exact absurd (List.length_eq_zero_iff.mp l1.symm) e0
  | cons x r=>rfl
 rw [en]
 refine c0 ⟨fun σ' Hd=>∃(ys:List V) (g':Sg) (z:Zp) (cur:List Tr) (m':Nat),m' < m/\σ'=[some (.ref s.S),some (.ref cl),some (.ref sc),some (.int rm),some (.ref F),v5]/\Sm s.M H2 Hd/\Hd F=some (.lst ys)/\bh N (del s.M Hd) (flZ z cur) ys/\muZ z=m'/\ys.length + m' <= cs.length + 12/\BAt N Hd s g' ps dd z cur/\g'.dd=g.dd,fun σ' Hd ⟨ys,g',z,cur,m',hm',h⟩=>⟨m',hm',ys,g',z,cur,h⟩,⟨Or.inl ⟨rfl,_,SqL.of hF5⟩,N,s,g',ps,dd,z,cur,rfl,B5,e0,fun v f g2 z2 cur2 H6 s6 B6 gd2 fl6 mu6 fr6=>?_⟩⟩
 have hF6:H6 F=some (.lst ys):=s6 _ _ (by have:=Bc.a.fq;rw [eF] at this;exact this) hF5
 have s7:Sm s.M H6 (upd H6 F (.lst (ys ++ [v]))):=Sm.at (by rw [<- eF];simp) _
 have B7:=B6.grown (ys ++ [v])
 rw [eF] at B7
 refine ⟨_,_,_,rfl,rfl,hF6,aH (by omega),ys ++ [v],g2,z2,cur2,muZ z2,by omega,rfl,(sc5.trans s6.m).trans s7,ao,?_,rfl,by rw [List.length_append,List.length_singleton];omega,B7,gd2.trans gd⟩
 rw [fl6]
 exact Paired.two (bh.same (Sm.del (s6.m.trans s7)) fr5) (.cons (jv.same (Sm.del s7) fr6) .nil)
end
section
variable {P:Program}{w:World}{K:W.Frag}{mg:Str->Option Value}{base:Heap}{A:Adr}{N:Nat->Str}
seal PE PA PS PSs PT PW
abbrev De:=Nat × List Nat × List Tr
def flD (d:De):List Fr:=.aR d.1 d.2.1 :: (aA d.2.2 ++ [.fin])
def a9 (ds:List De):List Fr:=ds.flatMap flD
def ir (ds:List De):List (Nat × Nat):=ds.map fun d=>(d.1,d.2.1.length)
def dnI (k:Nat):Nat:=if k=0 then 9 else if k=1 then 10 else 21
def stI (k:Nat):Nat:=if k=0 then 11 else if k=1 then 15 else 22
def mxI (k:Nat):Nat:=if k=0 then 5 else if k=1 then 5 else 3
def psI (k n:Nat):List Nat:=(List.range n).map (stI k + ·)
structure Fj (ds:List De):Prop where
 at':∀(k:Nat) d,ds[k]?=some d->d.1=dnI k/\(∃n,n < mxI k/\d.2.1=psI k n)/\cF d.2.1 (ir (ds.take k)) false d.2.2/\cY d.2.2 <= 6/\(aA d.2.2).length <= 17
structure iE (hs:List Lr) (ds:List De) (mb:List Tr):Prop where
 hd:∃rk z t,hs=qt t (mL rk z)/\(∀i,rk i=0 \/ rk i=1 \/ rk i=2)/\1 <= z/\z <= 4/\t <= 11
 dl:ds.length=3
 de:Fj ds
 mo:cF [] (ir ds) false mb
 md:cY mb <= 6
 ml:(aA mb).length <= 48
def flA (hs:List Lr) (ds:List De) (mb:List Tr):List Fr:=hs.map Fr.leaf ++ a9 ds ++ .main :: (aA mb ++ [.fin])
theorem SAt.Ee {H:Hp}{s:Sa}{g:Sg} (h:SAt N H s g) {ds:List V} (dd:List (Nat × Nat × Int)) (e:rp N (del s.M H) dd ds):SAt N (upd H s.d (.lst ds)) s { g with dd:=dd }:=by
 obtain ⟨⟨a,b,c,d,e',f,i,j,k,l⟩,x1,x2,x3,x4,x5⟩:=h.ne
 exact ⟨ar d h.hS,ar i h.ho,ar k h.ht,ar l h.hm,⟨ds,ao,e.same (Sm.del (Sm.at (by simp) _))⟩,h.nd,h.hF.imp fun _ z=>ar x5 z,h.mo,h.nm⟩
theorem SAt.put {H:Hp}{s:Sa}{g:Sg} (h:SAt N H s g) {R:Addr} (m:R ∉ s.M) {xs ys:List V} (hR:H R=some (.lst xs)):SAt N (upd H R (.lst ys)) s g:=by
 have nn:∀a ∈ s.M,a ≠ R:=fun a ha e=>m (e ▸ ha)
 obtain ⟨ds,hd,dd⟩:=h.hd
 refine ⟨ar (nn _ (by simp)) h.hS,ar (nn _ (by simp)) h.ho,ar (nn _ (by simp)) h.ht,ar (nn _ (by simp)) h.hm,⟨ds,ar (nn _ (by simp)) hd,Paired.nX dd fun e v ⟨a,ea,ha⟩=>⟨a,ea,?_⟩⟩,h.nd,h.hF.imp fun _ z=>ar (nn _ (by simp)) z,h.mo,h.nm⟩
 obtain ⟨h1,h2⟩:=dg ha
 exact aN h1 (ar (fun e=>by rw [e,hR] at h2;cases h2) h2)
theorem BAt.idle {H:Hp}{s:Sa}{g:Sg}{ps:List Nat}{dd:List (Nat × Nat)} (B:BAt N H s g ps dd [] []) (ps':List Nat):BAt N H s g ps' dd [] []:=⟨B.a,B.op,B.tl,B.tb,B.de,trivial,by rw [cF];trivial,B.zl,B.dc⟩
theorem BAt.with {H H':Hp}{s:Sa}{g:Sg}{ps:List Nat}{dd:List (Nat × Nat)} (B:BAt N H s g ps dd [] []) (a:SAt N H' s g):BAt N H' s g ps dd [] []:=⟨a,B.op,B.tl,B.tb,B.de,B.oz,B.oc,B.zl,B.dc⟩
theorem bh.fresh {M:List Addr}{H:Hp}{R:Addr} (hR:H R=none) {o:HO}{fs:List Fr}{vs:List V} (h:bh N (del M H) fs vs):bh N (del (R :: M) (upd H R o)) fs vs:=bh.same (fun a x e=>by
 obtain ⟨h1,h2⟩:=dg e
 have n:a ≠ R:=fun z=>by rw [z,hR] at h2;cases h2
 exact aN (fun m=>by
  rcases List.mem_cons.mp m with z | z
  ·exact n z
  ·exact h1 z) (ar n h2)) h
theorem xK {k:Nat} (h:k < 3):k=0 \/ k=1 \/ k=2:=by omega
theorem Bj {xs:List V}{a n:Nat} (h:a + n <= xs.length):nS xs (some (a:Int)) (some ((a:Int) + (n:Int)))=(xs.drop a).take n:=by
 unfold nS
 rw [oj _ (by omega),show ((a:Int) + (n:Int))=((a + n:Nat):Int) by push_cast;rfl,oj _ h]
 congr 1
 omega
theorem CQ {a n:Nat} (h:a + n <= 24):((sS (qj N)).drop a).take n=nV N ((List.range n).map (a + ·)):=by
 refine List.ext_getElem? fun i=>?_
 by_cases hi:i < n
 ·rw [List.getElem?_take_of_lt hi,List.getElem?_drop,yT (by omega),List.getElem?_map,List.getElem?_map,List.getElem?_range hi]
  rfl
 ·rw [List.getElem?_eq_none (by rw [List.length_take];omega),List.getElem?_eq_none (by rw [List.length_map,List.length_map,List.length_range];omega)]
theorem wC {M:List Addr}{H:Hp} (h:∀x ∈ M,∀xs,H x ≠ some (.tup xs)):∀{fs:List Fr}{vs:List V},bh N H fs vs->(∀f ∈ fs,f.ob N=none)->bh N (del M H) fs vs
 | _,_,.nil,_=>.nil
 | f :: fs,_,.cons g r,e=>by
  obtain ⟨a,p,ev,h1,h2⟩:=g
  refine .cons ⟨a,p,ev,aN (fun m=>h a m _ h1) h1,fun o ho=>?_⟩ (wC h r fun f hf=>e f (List.mem_cons_of_mem _ hf))
  rw [e f List.mem_cons_self] at ho
  cases ho
inductive w4 (K:W.Frag) (vs:List V) (H:Hp) (Q:VK) (E9:XK):Prop
 | mk (N:Nat->Str) (a nl:Addr) (ns:List Int) (z0:vs=[.ref a,.ref nl]) (z1:SqL K H a (ns.map V.int)) (z2:H nl=some (.lst (sS (qj N)))) (z3:kf N)
  (z4:∀(R:Addr) (ys:List V) (hs:List Lr) (ds:List De) (mb:List Tr) (H':Hp),ai H H'->H R=none->H' R=some (.lst ys)->bh N H' (flA hs ds mb) ys->iE hs ds mb->Q (.ref R) H'):w4 K vs H Q E9
theorem D8 (T:Txt K mg A):T.oO.Hz P w base 7 (w4 K):=by
 have D_law_mix:=nh (P:=P) (w:=w) (base:=base) T
 refine T.oO.hs (k:=6) bp (fun f cdv A' outer s' H vs Q E hr hu h=>?_)
 obtain ⟨N,a,nl,ns,rfl,hA,hN,nm,q⟩:=h
 refine ⟨_,(ae (pst 2 bp.nd (ak (hj:=by omega) (sZ T) hr (aa (fv 0) (aa af ab))))
  (ae (pst 3 bp.nd (xF (dZ aj (aC ab) (dZ aj (aC (aa af ab)) (dZ aj (aC (aa (px hu (fv 1) af) (aa (px hu (fv 1) af) ab))) (dZ aj (aC ab) (dZ aj af (wq)))))) rfl rfl (by intro z;cases z) (by decide)))
  (ae (pst 4 bp.nd (ak (hj:=by omega) (yJ T) hr (aa (fv 1) (aa (fv 2) ab))))
  (ae (pst 5 bp.nd af)
  (ae (cy PassesOwn.never rfl (cv rfl T.cC (aa af ab)) (pgn (i:=6) bp.nd rfl)
   (ae (pst 7 bp.nd (px hu (aC (aa af (aa af (aa af ab)))) (fv 6)))
   (ae (pst 8 bp.nd (px hu (fv 1) (px hu (aC (aa af (aa af (aa af ab)))) (fv 6))))
   (ae (pst 9 bp.nd (pR vg (fv 1) (oB (fv 7)) (oB (au aK (fv 7) (au bB (ak (hj:=by omega) D_law_mix hr (aa (fv 2) (aa (au aK af (fv 6)) ab))) (px hu (aC (aa af (aa af (aa af ab)))) (fv 6)))))))
   (ae (aE (aT (fv 4) (aa (aI (aa aj (aa (fv 8) (aa (fv 9) ab)))) ab)))
   (ae (pst 10 bp.nd (au bB (ak (hj:=by omega) D_law_mix hr (aa (fv 2) (aa (au aK af (fv 6)) ab))) af))
   (ae (pst 4 bp.nd (au aK (fv 4) (ak (hj:=by omega) (wa T) hr (aa (fv 3) (aa (ak (hj:=by omega) (wK T) hr (aa (fv 0) (aa (fv 5) (aa (fv 10) ab)))) (aa (ak (hj:=by omega) (wk T) hr (aa (fv 1) (aa (fv 9) ab))) (aa af ab)))))))
   (ae (aE (aT (px hu (fv 3) aj) (aa (aI (aa (fv 8) (aa (pcB gm T.fV (aa (fv 9) ab)) (aa (au uU af (px hu (fv 3) aj)) ab)))) ab)))
   (ah (pst 5 bp.nd (au aK (fv 5) (fv 10))))))))))))
  (ae (aE (aT (fv 4) (aa (aI (aa aj ab)) ab)))
  (ae (pst 11 bp.nd (ak (hj:=by omega) (wK T) hr (aa (fv 0) (aa (fv 5) (aa (au aK af (au bB (ak (hj:=by omega) D_law_mix hr (aa (fv 2) (aa af ab))) af)) ab)))))
  (ah (aw (au aK (fv 4) (ak (hj:=by omega) (wa T) hr (aa (fv 3) (aa (fv 11) (aa (ak (hj:=by omega) (wk T) hr (aa (fv 1) (aa (aC ab) ab))) (aa af ab))))))))))))))),?_⟩
 refine ag fun M1 K1=>⟨a,ns,2,rfl,hA,by decide,by decide,fun c H0 s0=>K1 _ _ ?_⟩
 clear K1 M1
 try dsimp only
 refine ag fun M1 K1 S hS=>?_
 obtain ⟨s1,e1⟩:=alc hS (HO.dK [])
 generalize upd H0 S _=H1 at s1 e1 ⊢
 refine ⟨Nat.zero_le _,fun o ho=>?_⟩
 obtain ⟨s2,e2⟩:=alc ho (HO.lst [])
 generalize upd H1 o _=H2 at s2 e2 ⊢
 refine ⟨by show 1 <= sizeLine;decide,fun t ht=>?_⟩
 obtain ⟨s3,e3⟩:=alc ht (HO.lst [.int 1])
 generalize upd H2 t _=H3 at s3 e3 ⊢
 have t3:=(s0.trans s1).trans (s2.trans s3)
 refine nmx (j:=5) (SqL.of (t3 _ _ hN)) (nmx (j:=6) (SqL.of (t3 _ _ hN)) ⟨by show 2 <= sizeLine;decide,fun m hm=>?_⟩)
 obtain ⟨s4,e4⟩:=alc hm (HO.lst [.str (N 5),.str (N 6)])
 generalize upd H3 m _=H4 at s4 e4 ⊢
 refine ⟨Nat.zero_le _,fun d hd=>?_⟩
 obtain ⟨s5,e5⟩:=alc hd (HO.lst [])
 generalize upd H4 d _=H5 at s5 e5 ⊢
 have s15:=(s2.trans s3).trans (s4.trans s5)
 have h05:=(s0.trans s1).trans s15
 let s:Sa:=⟨S,o,t,m,d,nl⟩
 refine ⟨s15 _ _ e1,stK s 0,rfl,by show 5 <= 15;decide,K1 _ _ ?_⟩
 clear K1 M1
 have HS:H S=none:=ai.free s0 hS
 have s6:ai H (upd H5 S (.dK (bc [] (stK s 0)))):=ai.out h05 HS _
 have eS:upd H5 S (.dK (bc [] (stK s 0))) S=some (.dK (stK s 0)):=ao
 have no:o ≠ S:=fun z=>by rw [z,e1] at ho;cases ho
 have nt:t ≠ S:=fun z=>by rw [z,s2 _ _ e1] at ht;cases ht
 have nmm:m ≠ S:=fun z=>by rw [z,(s2.trans s3) _ _ e1] at hm;cases hm
 have nd:d ≠ S:=fun z=>by rw [z,((s2.trans s3).trans s4) _ _ e1] at hd;cases hd
 have to':t ≠ o:=fun z=>by rw [z,e2] at ht;cases ht
 have mo':m ≠ o:=fun z=>by rw [z,s3 _ _ e2] at hm;cases hm
 have do':d ≠ o:=fun z=>by rw [z,(s3.trans s4) _ _ e2] at hd;cases hd
 have mt':m ≠ t:=fun z=>by rw [z,e3] at hm;cases hm
 have dt':d ≠ t:=fun z=>by rw [z,s4 _ _ e3] at hd;cases hd
 have dm':d ≠ m:=fun z=>by rw [z,e4] at hd;cases hd
 have lS:nl ≠ S:=fun z=>by rw [z,HS] at hN;cases hN
 have lo:nl ≠ o:=fun z=>by rw [z,ai.free (s0.trans s1) ho] at hN;cases hN
 have lt:nl ≠ t:=fun z=>by rw [z,ai.free ((s0.trans s1).trans s2) ht] at hN;cases hN
 have lm:nl ≠ m:=fun z=>by rw [z,ai.free t3 hm] at hN;cases hN
 have ld:nl ≠ d:=fun z=>by rw [z,ai.free (t3.trans s4) hd] at hN;cases hN
 have qH:∀x ∈ s.Q,H x=none:=fun x hx=>by
  simp only [Sa.Q,s,List.mem_cons,List.not_mem_nil,or_false] at hx
  rcases hx with rfl | rfl | rfl | rfl | rfl
  ·exact HS
  ·exact ai.free (s0.trans s1) ho
  ·exact ai.free ((s0.trans s1).trans s2) ht
  ·exact ai.free t3 hm
  ·exact ai.free (t3.trans s4) hd
 have B6:BAt N (upd H5 S (.dK (bc [] (stK s 0)))) s ⟨[],[1],[5,6],[],0⟩ [] [] [] []:=by
  refine ⟨⟨eS,ar no ((s3.trans (s4.trans s5)) _ _ e2),ar nt ((s4.trans s5) _ _ e3),ar nmm (s5 _ _ e4),⟨[],ar nd e5,.nil⟩,?_,⟨_,ar lS (h05 _ _ hN)⟩,(fun x hx=>by simpa using hx),nm⟩,rfl,rfl,(fun x hx=>by rw [List.mem_singleton.mp hx];exact ⟨by decide,by decide⟩),rfl,trivial,by rw [cF];trivial,Nat.zero_le _,by rw [cY];exact Nat.zero_le _⟩
  simp only [s,Sa.M,List.nodup_cons,List.mem_cons,List.not_mem_nil,or_false,not_or,List.nodup_nil,and_true,not_false_eq_true]
  exact ⟨⟨Ne.symm no,Ne.symm nt,Ne.symm nmm,Ne.symm nd,Ne.symm lS⟩,⟨Ne.symm to',Ne.symm mo',Ne.symm do',Ne.symm lo⟩,⟨Ne.symm mt',Ne.symm dt',Ne.symm lt⟩,⟨Ne.symm dm',Ne.symm lm⟩,Ne.symm ld⟩
 generalize upd H5 S _=H6 at B6 s6 eS ⊢
 have esS:s.S=S:=rfl
 have esF:s.F=nl:=rfl
 have esd:s.d=d:=rfl
 clear_value s
 subst esS esF
 clear e1 e2 e3 e4 e5 s1 s2 s3 s4 s5 t3 s15 h05 no nt nmm nd to' mo' do' mt' dt' dm' lS lo lt lm ld hS ho ht hm hd HS
 try dsimp only
 refine ag fun M1 K1=>⟨N,s.F,c,rfl,s6 _ _ hN,fun R rk z tt ys H7 s7 hR7 eR7 fr7 hrk z1 z4 t11=>K1 _ _ ?_⟩
 clear K1 M1
 have B7:=B6.same s7
 have t7:=s6.trans s7
 have R0:H R=none:=ai.free s6 hR7
 have RM:R ∉ s.M:=B6.a.new hR7
 have fr7':bh N (del (R :: s.Q) H7) ((qt tt (mL rk z)).map Fr.leaf) ys:=by
  refine wC (fun x hx xs e=>?_) fr7 (fun f hf=>?_)
  ·obtain ⟨ds,hd,_⟩:=B7.a.hd
   simp only [Sa.Q,List.mem_cons,List.not_mem_nil,or_false] at hx
   rcases hx with rfl | rfl | rfl | rfl | rfl | rfl
   ·rw [eR7] at e;cases e
   ·rw [B7.a.hS] at e;cases e
   ·rw [B7.a.ho] at e;cases e
   ·rw [B7.a.ht] at e;cases e
   ·rw [B7.a.hm] at e;cases e
   ·rw [hd] at e;cases e
  ·obtain ⟨r,hr,rfl⟩:=List.mem_map.mp hf
   have hr:r ∈ mL rk z:=by
    unfold qt at hr
    rcases List.mem_append.mp hr with h | h
    ·exact List.mem_of_mem_drop h
    ·exact List.mem_of_mem_take h
   unfold mL at hr
   simp only [List.mem_cons,List.not_mem_nil,or_false] at hr
   rcases hr with rfl | rfl | rfl | rfl | rfl | rfl | rfl | rfl | rfl | rfl | rfl <;> rfl
 have ly7:ys.length=11:=by
  have:=Paired.length fr7
  rw [List.length_map] at this
  unfold qt at this
  rw [List.length_append,List.length_drop,List.length_take,show (mL rk z).length=11 from rfl] at this
  omega
 obtain ⟨hs,ehs⟩:∃hs,hs=qt tt (mL rk z):=⟨_,rfl⟩
 rw [<- ehs] at fr7'
 try dsimp only
 refine ag fun M1 K1=>K1 _ _ ?_
 clear K1 M1
 try dsimp only
 refine ag fun M1 K1=>⟨_,rfl,by decide,by decide,fD (fun i σ Hc=>∃(R:Addr) (v6 v7 v8 v9 v10:Option V) (des:List De) (g:Sg) (ys:List V) (av:Int),σ=[some (.ref a),some (.ref s.F),some (.int c),some (.ref s.S),some (.ref R),some (.int av),v6,v7,v8,v9,v10,none]/\ai H Hc/\H R=none/\R ∉ s.M/\Hc R=some (.lst ys)/\bh N (del (R :: s.Q) Hc) (hs.map Fr.leaf ++ a9 des) ys/\des.length=i/\Fj des/\BAt N Hc s g [] (ir des) [] []/\(∀e ∈ g.dd,e.1 < 24/\e.2.1 <= 4)/\8 <= av/\av <= 8 + 5 * (i:Int)/\ys.length <= 11 + 19 * i) ⟨R,none,none,none,none,none,[],_,ys,8,rfl,t7,R0,RM,eR7,by rw [show a9 []=[] from rfl,List.append_nil];exact fr7',rfl,⟨fun k d h=>by simp at h⟩,B7,(fun e he=>by cases he),by decide,by decide,by omega⟩ ?_ ?_⟩
 ·clear fr7 fr7' ly7 eR7 R0 RM hR7 B7 t7 s7
  rintro i σ Hc hi ⟨R,v6,v7,v8,v9,v10,des,g,ys,av,rfl,tc,R0,RM,eR,fr,dl,dk,B,hdd,a8,aM,yl⟩
  have hi3:i < 3:=hi
  have ei:(0:Int) + (i:Int)=(i:Int):=by omega
  rw [ei]
  have RQ:R ∉ s.Q:=fun m=>RM (Sa.qm m)
  have st24:stI i + mxI i <= 25/\dnI i < 24/\mxI i <= 5/\0 < mxI i:=by
   rcases xK hi3 with rfl | rfl | rfl <;> decide
  try dsimp only
  refine ag fun N1 J1=>⟨by show 3 <= sizeLine;decide,fun L1 hL1=>?_⟩
  obtain ⟨sa,ea⟩:=alc hL1 (HO.lst [.int 11,.int 15,.int 22])
  generalize upd Hc L1 _=Ha at sa ea ⊢
  refine lxn (j:=i) (v:=.int (stI i)) (SqL.of ea) (by rcases xK hi3 with rfl | rfl | rfl <;> rfl) (J1 _ _ ?_)
  clear J1 N1
  try dsimp only
  refine ag fun N1 J1=>⟨by show 3 <= sizeLine;decide,fun L2 hL2=>?_⟩
  obtain ⟨sb,eb⟩:=alc hL2 (HO.lst [.int 9,.int 10,.int 21])
  generalize upd Ha L2 _=Hb at sb eb ⊢
  have tb:=tc.trans (sa.trans sb)
  refine lxn (j:=i) (v:=.int (dnI i)) (SqL.of eb) (by rcases xK hi3 with rfl | rfl | rfl <;> rfl) (nmx (j:=dnI i) (SqL.of (tb _ _ hN)) (J1 _ _ ?_) st24.2.1)
  clear J1 N1
  try dsimp only
  refine ag fun N1 J1=>⟨_,rfl,c,_,rfl,by omega,by omega,fun m1 m10 m11=>⟨by show 3 <= sizeLine;decide,fun L3 hL3=>?_⟩⟩
  obtain ⟨sd,ed⟩:=alc hL3 (HO.lst [.int 5,.int 5,.int 3])
  generalize upd Hb L3 _=Hd at sd ed ⊢
  refine lxn (j:=i) (v:=.int (mxI i)) (SqL.of ed) (by rcases xK hi3 with rfl | rfl | rfl <;> rfl) ⟨by show (0:Int) < (mxI i:Int);omega,?_⟩
  obtain ⟨n,en⟩:∃n:Nat,m1 % (mxI i:Int)=(n:Int):=⟨(m1 % (mxI i:Int)).toNat,by have:=bG m1 (show (0:Int) < (mxI i:Int) by omega);omega⟩
  have nlt:n < mxI i:=by have:=bG m1 (show (0:Int) < (mxI i:Int) by omega);omega
  dsimp only
  rw [en]
  have td:=tb.trans sd
  refine ⟨_,rfl,Or.inl ⟨s.F,_,rfl,SqL.of (td _ _ hN),fun pp hpp=>?_⟩⟩
  rw [Bj (by rw [List.length_map];show stI i + n <= (qj N).length;rw [show (qj N).length=24 by simp [qj]];omega),CQ (by omega)]
  obtain ⟨se,ee⟩:=alc hpp (HO.lst (nV N ((List.range n).map (stI i + ·))))
  generalize upd Hd pp _=He at se ee ⊢
  have ee:He pp=some (.lst (nV N (psI i n))):=ee
  have ppM:pp ∉ s.M:=(B.same ((sa.trans sb).trans sd)).a.new hpp
  have pl:(psI i n).length=n:=by unfold psI;rw [List.length_map,List.length_range]
  generalize hps:psI i n=ps at ee pl
  refine J1 _ _ ?_
  clear J1 N1
  have sce:=((sa.trans sb).trans sd).trans se
  have te:=tc.trans sce
  try dsimp only
  refine ag fun N1 J1=>?_
  have eRe:=sce _ _ eR
  refine ⟨Or.inl ⟨rfl,_,SqL.of eRe⟩,by show 3 <= sizeLine;decide,fun tdd htd=>?_⟩
  obtain ⟨sf,ef⟩:=alc htd (HO.tup [V.str "deed",.str (N (dnI i)),.ref pp])
  generalize upd He tdd _=Hf at sf ef ⊢
  have scf:=sce.trans sf
  refine ⟨_,_,_,rfl,rfl,sf _ _ eRe,aH (by omega),?_⟩
  have Bf:=B.same scf
  have Ag:=Bf.a.put RM (ys:=ys ++ [V.ref tdd]) (scf _ _ eR)
  have sg:ai H (upd Hf R (.lst (ys ++ [V.ref tdd]))):=ai.out (tc.trans scf) R0 _
  have eRg:upd Hf R (.lst (ys ++ [V.ref tdd])) R=some (.lst (ys ++ [V.ref tdd])):=ao
  have mg:Sm (R :: s.Q) Hf (upd Hf R (.lst (ys ++ [V.ref tdd]))):=Sm.at List.mem_cons_self _
  have fg:bh N (del (R :: s.Q) (upd Hf R (.lst (ys ++ [V.ref tdd])))) (hs.map Fr.leaf ++ a9 des ++ [.aR (dnI i) ps]) (ys ++ [V.ref tdd]):=by
   refine Paired.two (bh.same (Sm.del ((Sm.new scf).trans mg)) fr) (.cons ?_ .nil)
   have n1:tdd ∉ R :: s.Q:=fun m=>by
    rcases List.mem_cons.mp m with z | z
    ·rw [z,eRe] at htd;cases htd
    ·exact (B.same sce).a.new htd (Sa.qm z)
   have n2:pp ∉ R :: s.Q:=fun m=>by
    rcases List.mem_cons.mp m with z | z
    ·rw [z,((sa.trans sb).trans sd) _ _ eR] at hpp;cases hpp
    ·exact (B.same ((sa.trans sb).trans sd)).a.new hpp (Sa.qm z)
   refine fr1 (p:=pp) (aN n1 (mg _ _ n1 ef)) rfl (aN n2 (mg _ _ n2 (sf _ _ ee)))
  have epg:upd Hf R (.lst (ys ++ [V.ref tdd])) pp=some (.lst (nV N ps)):=ar (fun z=>by rw [z,((sa.trans sb).trans sd) _ _ eR] at hpp;cases hpp) (sf _ _ ee)
  have Bg:BAt N (upd Hf R (.lst (ys ++ [V.ref tdd]))) s g [] (ir des) [] []:=B.with Ag
  generalize upd Hf R (.lst (ys ++ [V.ref tdd]))=Hg at sg eRg fg epg Bg ⊢
  clear Ag mg Bf
  refine J1 _ _ ?_
  clear J1 N1
  try dsimp only
  refine ag fun N1 J1=>⟨c,_,rfl,by omega,by omega,fun m2 m20 m21=>⟨by show (0:Int) < 6;decide,?_⟩⟩
  obtain ⟨k6,ek6⟩:∃n:Nat,m2 % 6=(n:Int):=⟨(m2 % 6).toNat,by have:=bG m2 (show (0:Int) < 6 by decide);omega⟩
  have k6l:k6 <= 5:=by have:=bG m2 (show (0:Int) < 6 by decide);omega
  dsimp only
  rw [ek6]
  refine J1 _ _ ?_
  clear J1 N1
  try dsimp only
  refine ag fun N1 J1=>⟨a,ns,av,k6,rfl,sg.seq hA,by omega,by omega,fun CL cs Hh sh fh eh lh=>⟨N,s.F,pp,ps,rfl,(sg.trans sh) _ _ hN,sh _ _ epg,by omega,fun sc Hi si fi eSc=>?_⟩⟩
  have sgi:=sh.trans si
  have Bi:=(Bg.same sgi).idle ps
  have ki:∀{x:Addr}{o:HO},Hg x=none->Hi x=some o->del s.M Hi x=some o:=fun {x o} h e=>aN (Bg.a.new h) e
  have scd:nR N (del s.M Hi) sc ps:=eSc s.M fun x hx=>(Bg.same sh).a.in hx
  refine ⟨N,s,g,ps,ir des,CL,sc,cs,200,rfl,Bi,ki fh (si _ _ eh),by omega,scd,hdd,fun R2 zs ts g2 Hj sj hR2 eR2 fr2 ok2 dp2 ln2 B2 gd2=>?_⟩
  have tj:ai H Hj:=Sm.same sj (sg.trans sgi) qH
  have eRj:Hj R=some (.lst (ys ++ [V.ref tdd])):=sj _ _ RQ (sgi _ _ eRg)
  have lz:=Paired.length fr2
  rw [List.length_append,List.length_singleton] at lz
  refine ⟨R,R2,_,_,rfl,rfl,eRj,eR2,sz (by rw [List.length_append,List.length_singleton];omega),fun R3 hR3=>?_⟩
  have sk:=ai.upd hR3 (.lst (ys ++ [V.ref tdd] ++ zs))
  have tk:=tj.trans sk
  have fj:bh N (del s.Q Hj) (hs.map Fr.leaf ++ a9 des ++ [.aR (dnI i) ps] ++ (aA ts ++ [.fin])) (ys ++ [V.ref tdd] ++ zs):=by
   refine Paired.two (bh.same (fun x o h=>?_) fg) fr2
   obtain ⟨h1,h2⟩:=dg h
   have h1':x ∉ s.Q:=fun m=>h1 (List.mem_cons_of_mem _ m)
   exact aN h1' (sj _ _ h1' (sgi _ _ h2))
  have fk:=bh.fresh hR3 (o:=.lst (ys ++ [V.ref tdd] ++ zs)) fj
  have eRk:upd Hj R3 (.lst (ys ++ [V.ref tdd] ++ zs)) R3=some (.lst (ys ++ [V.ref tdd] ++ zs)):=ao
  have R3M:R3 ∉ s.M:=B2.a.new hR3
  have R30:H R3=none:=ai.free tj hR3
  have Bk:=B2.same sk
  generalize upd Hj R3 (.lst (ys ++ [V.ref tdd] ++ zs))=Hk at sk tk fk eRk Bk ⊢
  have epk:=sk _ _ (sj _ _ (fun m=>ppM (Sa.qm m)) (sgi _ _ epg))
  refine J1 _ _ ?_
  clear J1 N1
  try dsimp only
  refine ag fun N1 J1=>?_
  obtain ⟨dvs,hdk,ddk⟩:=Bk.a.hd
  refine dgk Bk.a.hS rfl ⟨Or.inl ⟨rfl,_,SqL.of hdk⟩,lnl epk (dgk Bk.a.hS rfl ⟨by show 3 <= sizeLine;decide,fun te hte=>?_⟩)⟩
  have lpv:(nV N ps).length=n:=by rw [List.length_map,pl]
  rw [lpv]
  obtain ⟨sl,el⟩:=alc hte (HO.tup [V.str (N (dnI i)),.int (n:Int),.int (201 - g2.room)])
  generalize upd Hk te _=Hl at sl el ⊢
  have dlen:=Paired.length ddk
  have Bl:=Bk.same sl
  have gl:g2.dd.length=des.length:=by
   have:=congrArg List.length B2.de
   unfold ir at this
   rw [List.length_map,List.length_map] at this
   exact this
  refine ⟨_,_,_,rfl,rfl,sl _ _ hdk,aH (by omega),?_⟩
  have teM:te ∉ s.M:=Bk.a.new hte
  have Am:=Bl.a.Ee (ds:=dvs ++ [V.ref te]) (g2.dd ++ [(dnI i,n,201 - g2.room)]) (Paired.two (rp.same (Sm.del (Sm.new sl)) ddk) (.cons ⟨te,rfl,aN teM el⟩ .nil))
  have sdQ:s.d ∈ s.Q:=by simp
  have mm:Sm (R3 :: s.Q) Hl (upd Hl s.d (.lst (dvs ++ [V.ref te]))):=Sm.at (List.mem_cons_of_mem _ sdQ) _
  have tm:ai H (upd Hl s.d (.lst (dvs ++ [V.ref te]))):=ai.out (tk.trans sl) (qH _ sdQ) _
  have dnew:ir (des ++ [(dnI i,ps,ts)])=ir des ++ [(dnI i,n)]:=by
   unfold ir
   rw [List.map_append]
   simp [pl]
  refine J1 _ _ ?_
  clear J1 N1
  refine ⟨R3,_,_,_,_,_,des ++ [(dnI i,ps,ts)],{ g2 with dd:=g2.dd ++ [(dnI i,n,201 - g2.room)] },ys ++ [V.ref tdd] ++ zs,av + k6,rfl,tm,R30,R3M,ar (fun z=>R3M (z ▸ Sa.qm sdQ)) (sl _ _ eRk),?_,by rw [List.length_append,dl];rfl,⟨fun k d hd=>?_⟩,⟨Am,B2.op,B2.tl,B2.tb,?_,trivial,by rw [cF];trivial,Nat.zero_le _,by rw [cY];exact Nat.zero_le _⟩,fun e he=>?_,by omega,by push_cast;omega,?_⟩
  ·rw [show hs.map Fr.leaf ++ a9 (des ++ [(dnI i,ps,ts)])=hs.map Fr.leaf ++ a9 des ++ [.aR (dnI i) ps] ++ (aA ts ++ [.fin]) by unfold a9;rw [List.flatMap_append];simp [flD]]
   exact bh.same (Sm.del ((Sm.new sl).trans mm)) fk
  ·by_cases hk:k < des.length
   ·rw [List.getElem?_append_left hk] at hd
    have:=dk.at' k d hd
    rw [List.take_append_of_le_length (by omega)]
    exact this
   ·have ek:k=des.length:=by
     have:=(List.getElem?_eq_some_iff.mp hd).1
     rw [List.length_append,List.length_singleton] at this
     omega
    subst ek
    rw [List.getElem?_append_right (Nat.le_refl _),Nat.sub_self] at hd
    cases hd
    rw [List.take_left',dl]
    ·exact ⟨rfl,⟨n,nlt,hps.symm⟩,ok2,dp2,by show (aA ts).length <= 17;omega⟩
    ·rfl
  ·show List.map _ (g2.dd ++ [(dnI i,n,201 - g2.room)])=_
   rw [dnew,List.map_append,B2.de]
   rfl
  ·rcases List.mem_append.mp he with m | m
   ·exact hdd e (gd2 ▸ m)
   ·rw [List.mem_singleton.mp m]
    exact ⟨st24.2.1,by show n <= 4;omega⟩
  ·rw [List.length_append,List.length_append,List.length_singleton]
   omega
 rintro σ Hc ⟨R,v6,v7,v8,v9,v10,des,g,ys,av,rfl,tc,R0,RM,eR,fr,dl,dk,B,hdd,a8,aM,yl⟩
 have dl:des.length=3:=dl
 have aM:av <= 8 + 5 * 3:=aM
 have yl:ys.length <= 11 + 19 * 3:=yl
 refine K1 _ _ ?_
 clear K1 M1
 have RQ:R ∉ s.Q:=fun m=>RM (Sa.qm m)
 try dsimp only
 refine ag fun M1 K1=>⟨Or.inl ⟨rfl,_,SqL.of eR⟩,by show 1 <= sizeLine;decide,fun tdd htd=>?_⟩
 obtain ⟨sf,ef⟩:=alc htd (HO.tup [V.str "main"])
 generalize upd Hc tdd _=Hf at sf ef ⊢
 refine ⟨_,_,_,rfl,rfl,sf _ _ eR,aH (by omega),?_⟩
 have Ag:=(B.same sf).a.put RM (ys:=ys ++ [V.ref tdd]) (sf _ _ eR)
 have sg:ai H (upd Hf R (.lst (ys ++ [V.ref tdd]))):=ai.out (tc.trans sf) R0 _
 have eRg:upd Hf R (.lst (ys ++ [V.ref tdd])) R=some (.lst (ys ++ [V.ref tdd])):=ao
 have mg:Sm (R :: s.Q) Hf (upd Hf R (.lst (ys ++ [V.ref tdd]))):=Sm.at List.mem_cons_self _
 have fg:bh N (del (R :: s.Q) (upd Hf R (.lst (ys ++ [V.ref tdd])))) (hs.map Fr.leaf ++ a9 des ++ [.main]) (ys ++ [V.ref tdd]):=by
  refine Paired.two (bh.same (Sm.del ((Sm.new sf).trans mg)) fr) (.cons ?_ .nil)
  have n1:tdd ∉ R :: s.Q:=fun m=>by
   rcases List.mem_cons.mp m with z | z
   ·rw [z,eR] at htd;cases htd
   ·exact B.a.new htd (Sa.qm z)
  exact fr0 (aN n1 (mg _ _ n1 ef)) rfl
 have Bg:BAt N (upd Hf R (.lst (ys ++ [V.ref tdd]))) s g [] (ir des) [] []:=B.with Ag
 generalize upd Hf R (.lst (ys ++ [V.ref tdd]))=Hg at sg eRg fg Bg ⊢
 clear Ag mg
 refine K1 _ _ ?_
 clear K1 M1
 try dsimp only
 refine ag fun M1 K1=>⟨c,19,rfl,by decide,by decide,fun m2 m20 m21=>⟨by show (0:Int) < 33;decide,?_⟩⟩
 obtain ⟨k6,ek6⟩:∃n:Nat,4 + m2 % 33=(n:Int):=⟨(4 + m2 % 33).toNat,by have:=bG m2 (show (0:Int) < 33 by decide);omega⟩
 have k6l:k6 <= 36:=by have:=bG m2 (show (0:Int) < 33 by decide);omega
 refine ⟨a,ns,av,k6,by rw [<- ek6];rfl,sg.seq hA,by omega,by omega,fun CL cs Hh sh fh eh lh=>K1 _ _ ?_⟩
 clear K1 M1
 try dsimp only
 refine ⟨Nat.zero_le _,fun pp hpp=>?_⟩
 obtain ⟨sp,ep⟩:=alc hpp (HO.lst [])
 generalize upd Hh pp _=Hp' at sp ep ⊢
 refine ⟨N,s.F,pp,[],rfl,(sg.trans (sh.trans sp)) _ _ hN,ep,by decide,fun sc Hi si fi eSc=>?_⟩
 have sgi:=(sh.trans sp).trans si
 have Bi:=Bg.same sgi
 refine ⟨N,s,g,[],ir des,CL,sc,cs,800,rfl,Bi,aN (Bg.a.new fh) ((sp.trans si) _ _ eh),by omega,eSc s.M fun x hx=>(Bg.same (sh.trans sp)).a.in hx,hdd,fun R2 zs ts g2 Hj sj hR2 eR2 fr2 ok2 dp2 ln2 B2 gd2=>?_⟩
 have tj:ai H Hj:=Sm.same sj (sg.trans sgi) qH
 have eRj:Hj R=some (.lst (ys ++ [V.ref tdd])):=sj _ _ RQ (sgi _ _ eRg)
 have lz:=Paired.length fr2
 rw [List.length_append,List.length_singleton] at lz
 refine ⟨R,R2,_,_,rfl,rfl,eRj,eR2,sz (by rw [List.length_append,List.length_singleton];omega),fun R3 hR3=>?_⟩
 have sk:=ai.upd hR3 (.lst (ys ++ [V.ref tdd] ++ zs))
 refine q R3 _ hs des ts _ (tj.trans sk) (ai.free tj hR3) ao ?_ ⟨⟨rk,z,tt,ehs,hrk,z1,z4,t11⟩,dl,dk,ok2,dp2,by omega⟩
 unfold flA
 rw [show hs.map Fr.leaf ++ a9 des ++ .main :: (aA ts ++ [.fin])=hs.map Fr.leaf ++ a9 des ++ [.main] ++ (aA ts ++ [.fin]) by simp]
 refine Paired.two (bh.same (fun x o h=>?_) fg) (bh.same (fun x o h=>sk _ _ (dg h).2) fr2)
 obtain ⟨h1,h2⟩:=dg h
 exact sk _ _ (sj _ _ (fun m=>h1 (List.mem_cons_of_mem _ m)) (sgi _ _ h2))
end
section
variable {P:Program}{w:World}{K:W.Frag}{mg:Str->Option Value}{base:Heap}{A:Adr}{N:Nat->Str}
seal PE PA PS PSs PT PW
def rsH (X H H':Hp):Hp:=fun b=>if ((X b).isSome || (H b).isNone)=true then H' b else none
theorem pI {X H H':Hp}{b:Addr}{o:HO} (h:rsH X H H' b=some o):((X b).isSome || (H b).isNone)=true/\H' b=some o:=by
 unfold rsH at h
 split at h
 ·next c=>exact ⟨c,h⟩
 ·cases h
theorem uO {X H H':Hp}{b:Addr}{o:HO} (c:((X b).isSome || (H b).isNone)=true) (h:H' b=some o):rsH X H H' b=some o:=by
 unfold rsH
 rw [if_pos c]
 exact h
theorem rF {X H H':Hp}:ai (rsH X H H') H':=fun b o h=>(pI h).2
theorem dQ {X H H' H'':Hp} (s:ai H' H''):ai (rsH X H H') (rsH X H H''):=fun b o h=>uO (pI h).1 (s _ _ (pI h).2)
theorem lP {X H H1 H':Hp} (d:∀b,H1 b=none->H b=none):ai (rsH X H1 H') (rsH X H H'):=fun b o h=>by
 obtain ⟨c,e⟩:=pI h
 refine uO ?_ e
 rcases Bool.or_eq_true_iff.mp c with c | c
 ·rw [c];rfl
 ·rw [d b (Option.isNone_iff_eq_none.mp c)];simp
theorem iW {X H H':Hp} (s:ai X H'):ai X (rsH X H H'):=fun b o h=>uO (by rw [h];rfl) (s _ _ h)
theorem cf {X H H':Hp}{b:Addr}{o:HO} (n:H b=none) (h:H' b=some o):rsH X H H' b=some o:=uO (by rw [n];simp) h
theorem kG {X H H':Hp}{D:Addr}{o:HO} (n:X D=none) (e:H D ≠ none):ai (rsH X H H') (rsH X H (upd H' D o)):=fun b u h=>by
 obtain ⟨c,z⟩:=pI h
 refine uO c (ar (fun y=>?_) z)
 rw [y,n] at c
 rcases Bool.or_eq_true_iff.mp c with c | c
 ·cases c
 ·exact e (Option.isNone_iff_eq_none.mp c)
theorem same_none {H H':Hp} (s:ai H H'):∀b,H' b=none->H b=none:=fun b h=>ai.free s h
def wdI (j:Nat):Str:=(["","hand","given","own","let","set","put","send","say","call","last"]:List Str).getD j ""
theorem zS (r:Lr):r.wd=wdI r.ci:=by cases r <;> rfl
theorem zY (r:Lr):1 <= r.ci/\r.ci <= 10:=by cases r <;> simp [Lr.ci]
theorem AV:∀i:Fin 11,∀j:Fin 11,wdI i.val=wdI j.val->i.val=j.val:=by decide +kernel
theorem lD {r:Lr}{j:Nat} (z:decide (V.str r.wd=V.str (wdI j))=true) (hj:j < 11:=by decide):r.ci=j:=by
 have h:=V.str.inj (of_decide_eq_true z)
 rw [zS] at h
 have:=zY r
 exact AV ⟨r.ci,by omega⟩ ⟨j,hj⟩ h
theorem lG {r:Lr}{j:Nat} (z:¬ decide (V.str r.wd=V.str (wdI j))=true):r.ci ≠ j:=fun e=>z (decide_eq_true (by rw [zS,e]))
inductive ug (A:Adr) (vs:List V) (H:Hp) (Q:VK) (E9:XK):Prop
 | mk (N:Nat->Str) (X:Hp) (v:V) (n:Int) (r:Lr) (z0:vs=[v,.int n]) (z1:ai X H) (z2:jv N X v (.leaf r))
  (z3:∀(a:Addr) (H':Hp),ai H H'->H a=none->aV A N (rsH X H H') (.ref a) (.leaf n r)->Q (.ref a) H'):ug A vs H Q E9
theorem vD {H:Hp}{x dx:Addr}{R:VK}{v0:V} (T:Txt K mg A) (hx:H x=none) (hd:H dx=none) (q:∀(H':Hp),ai H H'->H' x=some (.ins A.cE dx [("number",v0)])->R .non H'):eu K A (.ref x :: ([v0] ++ [])) (upd (upd H dx (.own x)) x (.ins A.cE dx [])) R E0 :=
 ⟨x,A.cE,dx,[],_,rfl,ao,T.fE.cl,T.dB,by decide,q _ (ai.out (ai.out (ai.upd hd _) hx _) hx _) ao⟩
theorem wj (T:Txt K mg A):T.iQ.Hz P w base 5 (ug A):=by
 have D_LastRow_init:=km (P:=P) (w:=w) (mg:=mg) (base:=base) (A:=A) T.jN
 refine T.iQ.hs (k:=4) nN (fun f cdv A' outer s H vs Q E hr hu h=>?_)
 obtain ⟨N,X,v,n,r,rfl,s0,⟨a,p,rfl,h1,h2⟩,q⟩:=h
 have hT:=SqT.of (K:=K) (s0 _ _ h1)
 refine ⟨_,(ae (aL (ptc (bE hu) (px hu (fv 0) af) aj)
   (ah (aw (bT T.iF (pd T) hr (aa (fv 1) (aa (px hu (fv 0) af) (aa (px hu (fv 0) af) ab))))))
   aB)
  (ae (aL (ptc (bE hu) (px hu (fv 0) af) aj)
   (ah (aw (bT T.fL (nZ T) hr (aa (fv 1) (aa (px hu (fv 0) af) (aa (px hu (fv 0) af) (aa (px hu (fv 0) af) ab)))))))
   aB)
  (ae (aL (ptc (bE hu) (px hu (fv 0) af) aj)
   (ah (aw (bT T.jP (p8 T) hr (aa (fv 1) (aa (px hu (fv 0) af) (aa (px hu (fv 0) af) ab))))))
   aB)
  (ae (aL (ptc (bE hu) (px hu (fv 0) af) aj)
   (ah (aw (bT T.jm (qi T) hr (aa (fv 1) (aa (px hu (fv 0) af) (aa (px hu (fv 0) af) ab))))))
   aB)
  (ae (aL (ptc (bE hu) (px hu (fv 0) af) aj)
   (ah (aw (bT T.di (p9 T) hr (aa (fv 1) (aa (px hu (fv 0) af) (aa (px hu (fv 0) af) ab))))))
   aB)
  (ae (aL (ptc (bE hu) (px hu (fv 0) af) aj)
   (ah (aw (bT T.cM (qu T) hr (aa (fv 1) (aa (px hu (fv 0) af) (aa (px hu (fv 0) af) (aa (px hu (fv 0) af) ab)))))))
   aB)
  (ae (aL (ptc (bE hu) (px hu (fv 0) af) aj)
   (ah (aw (bT T.cW (pq T) hr (aa (fv 1) (aa (px hu (fv 0) af) (aa (px hu (fv 0) af) ab))))))
   aB)
  (ae (aL (ptc (bE hu) (px hu (fv 0) af) aj)
   (ah (aw (bT T.bZ (p7 T) hr (aa (fv 1) (aa (px hu (fv 0) af) (aa (px hu (fv 0) af) (aa (px hu (fv 0) af) ab)))))))
   aB)
  (ae (aL (ptc (bE hu) (px hu (fv 0) af) aj)
   (ah (aw (bT T.bO (o8 T) hr (aa (fv 1) (aa (px hu (fv 0) af) (aa (pcT wz T.cS (aa (px hu (fv 0) af) ab)) ab))))))
   aB)
  (ah (aw (bT T.fE D_LastRow_init hr (aa (fv 1) ab))))))))))))),?_⟩
 refine ag fun M1 K1=>tix (j:=0) hT rfl ⟨rfl,_,rfl,aU (fun z=>?_) (fun z1=>K1 _ _ ?_)⟩
 ·have ec:=lD (j:=1) z
  cases r with
  | hand i r =>
   refine tix (j:=1) hT rfl (tix (j:=2) hT rfl (fun r6 dx6 hr6 hd_ hne_=>⟨_,_,_,_,_,_,rfl,rfl,hr6,hd_,fun H6 s6 hx=>⟨rfl,q r6 H6 s6 hr6 ?_⟩⟩))
   unfold aV
   exact ⟨r6,dx6,p,rfl,cf hr6 hx,fun o ho=>iW (s0.trans s6) _ _ (h2 o ho)⟩
  | _=>cases ec
 clear K1 M1
 refine ag fun M1 K1=>tix (j:=0) hT rfl ⟨rfl,_,rfl,aU (fun z=>?_) (fun z2=>K1 _ _ ?_)⟩
 ·have ec:=lD (j:=2) z
  cases r with
  | giv i r z =>
   refine tix (j:=1) hT rfl (tix (j:=2) hT rfl (tix (j:=3) hT rfl (fun r6 dx6 hr6 hd_ hne_=>⟨_,_,_,_,_,_,_,rfl,rfl,hr6,hd_,fun H6 s6 hx=>⟨rfl,q r6 H6 s6 hr6 ?_⟩⟩)))
   unfold aV
   exact ⟨r6,dx6,p,rfl,cf hr6 hx,fun o ho=>iW (s0.trans s6) _ _ (h2 o ho)⟩
  | _=>cases ec
 clear K1 M1
 refine ag fun M1 K1=>tix (j:=0) hT rfl ⟨rfl,_,rfl,aU (fun z=>?_) (fun z3=>K1 _ _ ?_)⟩
 ·have ec:=lD (j:=3) z
  cases r with
  | own i z =>
   refine tix (j:=1) hT rfl (tix (j:=2) hT rfl (fun r6 dx6 hr6 hd_ hne_=>⟨_,_,_,_,_,_,rfl,rfl,hr6,hd_,fun H6 s6 hx=>⟨rfl,q r6 H6 s6 hr6 ?_⟩⟩))
   unfold aV
   exact ⟨r6,dx6,p,rfl,cf hr6 hx,fun o ho=>iW (s0.trans s6) _ _ (h2 o ho)⟩
  | _=>cases ec
 clear K1 M1
 refine ag fun M1 K1=>tix (j:=0) hT rfl ⟨rfl,_,rfl,aU (fun z=>?_) (fun z4=>K1 _ _ ?_)⟩
 ·have ec:=lD (j:=4) z
  cases r with
  | lt i r =>
   refine tix (j:=1) hT rfl (tix (j:=2) hT rfl (fun r6 dx6 hr6 hd_ hne_=>⟨_,_,_,_,_,_,rfl,rfl,hr6,hd_,fun H6 s6 hx=>⟨rfl,q r6 H6 s6 hr6 ?_⟩⟩))
   unfold aV
   exact ⟨r6,dx6,p,rfl,cf hr6 hx,fun o ho=>iW (s0.trans s6) _ _ (h2 o ho)⟩
  | _=>cases ec
 clear K1 M1
 refine ag fun M1 K1=>tix (j:=0) hT rfl ⟨rfl,_,rfl,aU (fun z=>?_) (fun z5=>K1 _ _ ?_)⟩
 ·have ec:=lD (j:=5) z
  cases r with
  | set x v =>
   refine tix (j:=1) hT rfl (tix (j:=2) hT rfl (fun r6 dx6 hr6 hd_ hne_=>⟨_,_,_,_,_,_,rfl,rfl,hr6,hd_,fun H6 s6 hx=>⟨rfl,q r6 H6 s6 hr6 ?_⟩⟩))
   unfold aV
   exact ⟨r6,dx6,p,rfl,cf hr6 hx,fun o ho=>iW (s0.trans s6) _ _ (h2 o ho)⟩
  | _=>cases ec
 clear K1 M1
 refine ag fun M1 K1=>tix (j:=0) hT rfl ⟨rfl,_,rfl,aU (fun z=>?_) (fun z6=>K1 _ _ ?_)⟩
 ·have ec:=lD (j:=6) z
  cases r with
  | put x t v =>
   refine tix (j:=1) hT rfl (tix (j:=2) hT rfl (tix (j:=3) hT rfl (fun r6 dx6 hr6 hd_ hne_=>⟨_,_,_,_,_,_,_,rfl,rfl,hr6,hd_,fun H6 s6 hx=>⟨rfl,q r6 H6 s6 hr6 ?_⟩⟩)))
   unfold aV
   exact ⟨r6,dx6,p,rfl,cf hr6 hx,fun o ho=>iW (s0.trans s6) _ _ (h2 o ho)⟩
  | _=>cases ec
 clear K1 M1
 refine ag fun M1 K1=>tix (j:=0) hT rfl ⟨rfl,_,rfl,aU (fun z=>?_) (fun z7=>K1 _ _ ?_)⟩
 ·have ec:=lD (j:=7) z
  cases r with
  | snd h v =>
   refine tix (j:=1) hT rfl (tix (j:=2) hT rfl (fun r6 dx6 hr6 hd_ hne_=>⟨_,_,_,_,_,_,rfl,rfl,hr6,hd_,fun H6 s6 hx=>⟨rfl,q r6 H6 s6 hr6 ?_⟩⟩))
   unfold aV
   exact ⟨r6,dx6,p,rfl,cf hr6 hx,fun o ho=>iW (s0.trans s6) _ _ (h2 o ho)⟩
  | _=>cases ec
 clear K1 M1
 refine ag fun M1 K1=>tix (j:=0) hT rfl ⟨rfl,_,rfl,aU (fun z=>?_) (fun z8=>K1 _ _ ?_)⟩
 ·have ec:=lD (j:=8) z
  cases r with
  | say x v m =>
   refine tix (j:=1) hT rfl (tix (j:=2) hT rfl (tix (j:=3) hT rfl (fun r6 dx6 hr6 hd_ hne_=>⟨_,_,_,_,_,_,_,rfl,rfl,hr6,hd_,fun H6 s6 hx=>⟨rfl,q r6 H6 s6 hr6 ?_⟩⟩)))
   unfold aV
   exact ⟨r6,dx6,p,rfl,cf hr6 hx,fun o ho=>iW (s0.trans s6) _ _ (h2 o ho)⟩
  | _=>cases ec
 clear K1 M1
 refine ag fun M1 K1=>tix (j:=0) hT rfl ⟨rfl,_,rfl,aU (fun z=>?_) (fun z9=>K1 _ _ ?_)⟩
 ·have ec:=lD (j:=9) z
  cases r with
  | call i ts =>
   have hp:=h2 _ rfl
   refine tix (j:=1) hT rfl (tix (j:=2) hT rfl (Or.inl ⟨p,_,rfl,Or.inl (SqL.of (s0 _ _ hp)),fun l hl=>?_⟩))
   obtain ⟨s1,e1⟩:=alc hl (HO.lst (ts.map (Th.v N)))
   generalize upd H l _=H1 at s1 e1 ⊢
   refine fun r6 dx6 hr6 hd_ hne_=>⟨_,_,_,_,_,_,_,rfl,rfl,hr6,hd_,SqL.of e1,fun n6 H6 f6 s6 h6 hx=>⟨rfl,q r6 H6 (s1.trans s6) (ai.free s1 hr6) ?_⟩⟩
   unfold aV
   exact ⟨r6,dx6,n6,rfl,cf (ai.free s1 hr6) hx,fun o ho=>by cases ho;exact cf (ai.free s1 f6) h6⟩
  | _=>cases ec
 clear K1 M1
 have c:=zY r
 have e10:r.ci=10:=by
  have:=lG (j:=1) z1
  have:=lG (j:=2) z2
  have:=lG (j:=3) z3
  have:=lG (j:=4) z4
  have:=lG (j:=5) z5
  have:=lG (j:=6) z6
  have:=lG (j:=7) z7
  have:=lG (j:=8) z8
  have:=lG (j:=9) z9
  omega
 cases r with
 | last =>
  refine fun r6 dx6 hr6 hd_ hne_=>vD T hr6 hd_ fun H6 s6 hx=>⟨rfl,q r6 H6 s6 hr6 ?_⟩
  unfold aV
  exact ⟨r6,dx6,p,rfl,cf hr6 hx,fun o ho=>by cases ho⟩
 | _=>cases e10
end
section
variable {P:Program}{w:World}{K:W.Frag}{mg:Str->Option Value}{base:Heap}{A:Adr}{N:Nat->Str}
seal PE PA PS PSs PT PW
mutual
def ptT (n:Int):Tr->Pt
 | .leaf r=>.leaf n r
 | .iff v l r f o=>.iff n v l r (bA (n + 1) f) (bA (n + 2 + ((aA f).length:Nat)) o)
 | .loop t m l r b=>.loop n t m l r (bA (n + 1) b)
def bA (n:Int):List Tr->List Pt
 | []=>[]
 | t :: ts=>ptT n t :: bA (n + ((flT t).length:Nat)) ts
end
theorem tJ:∀(a:List Tr) (n:Int) (b:List Tr),bA n (a ++ b)=bA n a ++ bA (n + ((aA a).length:Nat)) b
 | [],n,b=>by
  rw [List.nil_append,bA,aA,List.nil_append]
  congr 1
  simp
 | t :: a,n,b=>by
  rw [List.cons_append,bA,bA,tJ a,aA,List.length_append,List.cons_append]
  congr 3
  push_cast
  omega
theorem yY (n:Int) (t:Tr):bA n [t]=[ptT n t]:=by rw [bA,bA]
theorem tN:∀(a:List Tr) (n:Int),(bA n a).length=a.length
 | [],n=>by rw [bA];rfl
 | t :: a,n=>by rw [bA,List.length_cons,List.length_cons,tN a]
def hdF:Tr->Fr
 | .leaf r=>.leaf r
 | .iff v l r _ _=>.iff v l r
 | .loop t m l r _=>.loop t m l r
theorem Cg (t:Tr):∃tl,flT t=hdF t :: tl:=by
 cases t with
 | leaf r=>exact ⟨[],by rw [flT];rfl⟩
 | iff v l r f o=>exact ⟨_,by rw [flT];rfl⟩
 | loop t m l r b=>exact ⟨_,by rw [flT];rfl⟩
theorem xi:∀a:List Tr,a.length <= (aA a).length
 | []=>Nat.zero_le _
 | t :: a=>by
  obtain ⟨tl,e⟩:=Cg t
  have:=xi a
  rw [aA,e,List.length_append,List.length_cons,List.length_cons]
  omega
theorem aD.snoc {X:Hp}:∀{ts:List Pt}{vs:List V}{x:V}{t:Pt},aD A N X vs ts->aV A N X x t->aD A N X (vs ++ [x]) (ts ++ [t])
 | [],vs,x,t,h,h'=>by
  unfold aD at h
  subst h
  exact aD.one h'
 | u :: ts,vs,x,t,h,h'=>by
  unfold aD at h
  obtain ⟨y,ys,rfl,h1,h2⟩:=h
  exact aD.cons h1 (aD.snoc h2 h')
theorem mx {X:Hp}{fs:List Fr}{xs:List V} (h:bh N X fs xs) {a b:List Fr}{f:Fr} (e:fs=a ++ f :: b):∃v,atI xs (a.length:Int)=some v/\jv N X v f:=by
 obtain ⟨v,hv,fv⟩:=iJ (i:=a.length) (a:=f) h (by rw [e,List.getElem?_append_right (Nat.le_refl _),Nat.sub_self];rfl)
 exact ⟨v,ka hv,fv⟩
def As (f:Fr):Bool:=match f with
 | .els=>true
 | .fin=>true
 | _=>false
theorem xh (f:Fr):inV (V.str f.wd) [V.str "else",V.str "end"]=As f:=by
 cases f with
 | leaf r=>cases r <;> rfl
 | _=>rfl
theorem Ba {F:Addr}{H H':Hp} (s:Sm [F] H H') (hF:H' F ≠ none):∀b,H' b=none->H b=none:=fun b h=>by
 cases e:H b with
 | none=>rfl
 | some o =>
  by_cases z:b=F
  ·rw [z] at h;exact absurd h hF
  ·rw [s b o (fun m=>z (List.mem_singleton.mp m)) e] at h;cases h
theorem BF:∀i:Fin 11,wdI i.val ≠ "if"/\wdI i.val ≠ "loop":=by decide +kernel
theorem Ae (r:Lr):¬ decide (V.str r.wd=V.str "if")=true/\¬ decide (V.str r.wd=V.str "loop")=true:=by
 have:=zY r
 have h:=BF ⟨r.ci,by omega⟩
 rw [zS]
 exact ⟨fun z=>h.1 (V.str.inj (of_decide_eq_true z)),fun z=>h.2 (V.str.inj (of_decide_eq_true z))⟩
inductive oh (A:Adr) (d:Nat) (vs:List V) (H:Hp) (Q:VK) (E9:XK):Prop
 | mk (N:Nat->Str) (X:Hp) (L:Addr) (xs:List V) (fs pre post:List Fr) (ts:List Tr) (st:Fr) (z0:vs=[.ref L,.int (pre.length:Nat)]) (z1:ai X H) (z2:X L=some (.lst xs)) (z3:bh N X fs xs) (z4:fs=pre ++ aA ts ++ st :: post) (z5:As st=true) (z6:cY ts <= d) (z7:xs.length <= 300)
  (z8:∀(p R:Addr) (ys:List V) (H':Hp),ai H H'->H' p=some (.tup [.ref R,.int ((pre.length + (aA ts).length:Nat):Int)])->H' R=some (.lst ys)->aD A N (rsH X H H') ys (bA ((pre.length:Nat) + 1) ts)->Q (.ref p) H'):oh A d vs H Q E9
theorem xa (T:Txt K mg A) (d j:Nat) (hj:5 <= j) (D_law_rows_made:T.cu.Hz P w base j (spN (oh A) d)):T.cu.Hz P w base (j + 1) (oh A d):=by
 refine T.cu.hs (k:=j) aP (fun f cdv A' outer s H vs Q E hr hu h=>?_)
 obtain ⟨N,X,L,xs,fs,pre,post,ts,st,rfl,s0,hL,fr,efs,hst,dp,lx,q⟩:=h
 have lfs:fs.length <= 300:=by rw [Paired.length fr];exact lx
 refine ⟨_,(ae (pst 2 aP.nd (aC ab))
  (ae (jQ PassesOwn.never (ptc (iH hu) (px hu (px hu (fv 0) (fv 1)) af) (aI (aa aj (aa aj ab))) ((by with_unfolding_all rfl)))
   (ae (pst 3 aP.nd (px hu (fv 0) (fv 1)))
   (ae (pst 4 aP.nd (au aK (fv 1) af))
   (ae (aL (ptc (bE hu) (px hu (fv 3) af) aj)
    (ae (cK (ak (hj:=by omega) D_law_rows_made hr (aa (fv 0) (aa (au aK (fv 1) af) ab))) (iK rfl (bf (pgn (i:=5) aP.nd rfl) (bf (pgn (i:=1) aP.nd rfl) fC))))
    (ae (cK (ak (hj:=by omega) D_law_rows_made hr (aa (fv 0) (aa (au aK (fv 1) af) ab))) (iK rfl (bf (pgn (i:=6) aP.nd rfl) (bf (pgn (i:=1) aP.nd rfl) fC))))
    (ah (aE (aT (fv 2) (aa (bT (hj:=by omega) T.bQ (sU T) hr (aa (fv 4) (aa (px hu (fv 3) af) (aa (fv 5) (aa (fv 6) (aa (px hu (fv 3) af) (aa (px hu (fv 3) af) ab))))))) ab))))))
    (ah (aL (ptc (bE hu) (px hu (fv 3) af) aj)
     (ae (cK (ak (hj:=by omega) D_law_rows_made hr (aa (fv 0) (aa (au aK (fv 1) af) ab))) (iK rfl (bf (pgn (i:=7) aP.nd rfl) (bf (pgn (i:=1) aP.nd rfl) fC))))
     (ah (aE (aT (fv 2) (aa (bT (hj:=by omega) T.bu (oP T) hr (aa (fv 4) (aa (px hu (fv 3) af) (aa (px hu (fv 3) af) (aa (fv 7) (aa (px hu (fv 3) af) (aa (px hu (fv 3) af) ab))))))) ab)))))
     (ah (aE (aT (fv 2) (aa (ak (hj:=by omega) (wj T) hr (aa (fv 3) (aa (fv 4) ab))) ab)))))))
   (ah (pst 1 aP.nd (au aK (fv 1) af)))))))
  (ah (aw (aI (aa (fv 2) (aa (fv 1) ab))))))),?_⟩
 refine ag fun M1 K1=>⟨Nat.zero_le _,fun F hF=>?_⟩
 obtain ⟨s1,e1⟩:=alc hF (HO.lst [])
 generalize upd H F _=H1 at s1 e1 ⊢
 have XF:X F=none:=ai.free s0 hF
 have H1F:H1 F ≠ none:=by rw [e1];simp
 have FL:L ≠ F:=fun z=>by rw [z,XF] at hL;cases hL
 refine K1 _ _ ?_
 clear K1 M1
 try dsimp only
 refine ag fun M1 K1=>⟨fun m σ Hc=>∃(dn rest:List Tr) (ys:List V) (v3 v4 v5 v6 v7:Option V),ts=dn ++ rest/\rest.length=m/\σ=[some (.ref L),some (.int ((pre.length + (aA dn).length:Nat):Int)),some (.ref F),v3,v4,v5,v6,v7]/\Sm [F] H1 Hc/\Hc F=some (.lst ys)/\aD A N (rsH X H1 Hc) ys (bA ((pre.length:Nat) + 1) dn),⟨ts.length,[],ts,[],none,none,none,none,none,rfl,rfl,rfl,Sm.refl _ _,e1,by rw [bA];exact aD.nil⟩,?_⟩
 rintro m σ Hc ⟨dn,rest,ys,v3,v4,v5,v6,v7,ets,em,rfl,sc,hFc,pt⟩
 have sX:ai X Hc:=sc.same (s0.trans s1) (fun m hm=>by rw [List.mem_singleton.mp hm];exact XF)
 have sH:ai H Hc:=sc.same s1 (fun m hm=>by rw [List.mem_singleton.mp hm];exact hF)
 have hLc:=SqL.of (K:=K) (sX _ _ hL)
 have nb:=Ba sc (by rw [hFc];simp)
 cases rest with
 | nil =>
  rw [List.append_nil] at ets
  subst ets
  obtain ⟨v,av,⟨a,p,rfl,ha,_⟩⟩:=mx fr (a:=pre ++ aA ts) (f:=st) (b:=post) efs
  rw [List.length_append] at av
  refine lix hLc av (tix (j:=0) (SqT.of (sX _ _ ha)) rfl ⟨by show 2 <= sizeLine;decide,fun tp htp=>?_⟩)
  have st':=ai.upd htp (.tup [V.str "else",.str "end"])
  refine Or.inl ⟨_,Or.inr (SqT.of ao),rfl,rfl,_,rfl,aU (fun z=>absurd z (by show ¬ (!inV (V.str st.wd) [V.str "else",V.str "end"])=true;rw [xh,hst];decide)) (fun _=>K1 _ _ ⟨by show 2 <= sizeLine;decide,fun p hp=>?_⟩)⟩
  have s5:=ai.upd hp (.tup [V.ref F,.int ((pre.length + (aA ts).length:Nat):Int)])
  exact q p F ys _ (sH.trans (st'.trans s5)) ao ((st'.trans s5) _ _ hFc) (aD.same (lP (same_none s1)) _ _ (aD.same (dQ (st'.trans s5)) _ _ pt))
 | cons t rest =>
 clear K1
 obtain ⟨tl,et⟩:=Cg t
 have efs':fs=(pre ++ aA dn) ++ hdF t :: (tl ++ aA rest ++ st :: post):=by
  rw [efs,ets,gn,aA,et]
  simp
 obtain ⟨v,av,fv'⟩:=mx fr efs'
 rw [List.length_append] at av
 have fv0:=fv'
 obtain ⟨a,p,rfl,ha,hob⟩:=fv'
 have nstop:As (hdF t)=false:=by cases t <;> rfl
 refine lix hLc av (tix (j:=0) (SqT.of (sX _ _ ha)) rfl ⟨by show 2 <= sizeLine;decide,fun tp htp=>?_⟩)
 obtain ⟨s2,e2⟩:=alc htp (HO.tup [V.str "else",.str "end"])
 generalize upd Hc tp _=H2 at s2 e2 ⊢
 refine Or.inl ⟨_,Or.inr (SqT.of e2),rfl,rfl,_,rfl,aU (fun _=>?_) (fun z=>absurd (by show (!inV (V.str (hdF t).wd) [V.str "else",V.str "end"])=true;rw [xh,nstop];rfl) z)⟩
 refine ⟨fun σ Hc=>∃(dn rest:List Tr) (ys:List V) (v3 v4 v5 v6 v7:Option V) (m':Nat),m' < m/\ts=dn ++ rest/\rest.length=m'/\σ=[some (.ref L),some (.int ((pre.length + (aA dn).length:Nat):Int)),some (.ref F),v3,v4,v5,v6,v7]/\Sm [F] H1 Hc/\Hc F=some (.lst ys)/\aD A N (rsH X H1 Hc) ys (bA ((pre.length:Nat) + 1) dn),fun σ Hc ⟨dn,rest,ys,v3,v4,v5,v6,v7,m',hm',h⟩=>⟨m',hm',dn,rest,ys,v3,v4,v5,v6,v7,h⟩,?_⟩
 have sX2:=sX.trans s2
 have dlen:=xi dn
 have lf:pre.length + (aA dn).length + 1 <= fs.length:=by
  have:=congrArg List.length efs'
  simp only [List.length_append,List.length_cons] at this
  omega
 have ly:ys.length=dn.length:=by rw [pt.len,tN]
 have dpt:dpT t <= d:=by
  rw [ets,kY,cY] at dp
  omega
 try dsimp only
 refine ag fun N1 J1=>lix (s2.seq hLc) av (J1 _ _ ?_)
 clear J1 N1
 try dsimp only
 refine ag fun N1 J1=>J1 _ _ ?_
 clear J1 N1
 try dsimp only
 refine ag fun N1 J1=>?_
 have hF2:=s2 _ _ hFc
 have fin:∀(x:V) (H4:Hp) (u5 u6 u7:Option V) (at':Int),ai H2 H4->aV A N (rsH X H2 H4) x (ptT (((pre.length + (aA dn).length:Nat):Int) + 1) t)->at' + 1=((pre.length + (aA dn).length + (flT t).length:Nat):Int) ->
   N1 [some (.ref L),some (.int at'),some (.ref F),some (.ref a),some (.int (((pre.length + (aA dn).length:Nat):Int) + 1)),u5,u6,u7] (upd H4 F (.lst (ys ++ [x]))):=by
  intro x H4 u5 u6 u7 at' s4 pa ea
  refine J1 _ _ ?_
  have s5:Sm [F] H4 (upd H4 F (.lst (ys ++ [x]))):=Sm.at (List.mem_singleton.mpr rfl) _
  have em':rest.length + 1=m:=em
  refine ⟨dn ++ [t],rest,ys ++ [x],some (.ref a),some (.int (((pre.length + (aA dn).length:Nat):Int) + 1)),u5,u6,u7,rest.length,by omega,by rw [ets];simp,rfl,?_,(sc.trans (Sm.new (s2.trans s4))).trans s5,ao,?_⟩
  ·show [_,some (V.int (at' + 1)),_,_,_,_,_,_]=_
   rw [ea,gn,pe,List.length_append,Nat.add_assoc]
  ·rw [tJ,yY,show ((pre.length:Nat):Int) + 1 + ((aA dn).length:Nat)=((pre.length + (aA dn).length:Nat):Int) + 1 by push_cast;omega]
   refine aD.snoc (aD.same (kG XF H1F) _ _ (aD.same (dQ (s2.trans s4)) _ _ pt)) (aV.same (kG XF H1F) _ _ (aV.same (lP fun b h=>nb b (ai.free s2 h)) _ _ pa))
 clear J1
 have hT2:=SqT.of (K:=K) (sX2 _ _ ha)
 have szy:∀{n:Nat},n=ys.length->n < sizeLine:=fun e=>aH (by omega)
 cases t with
 | leaf r =>
  refine tix (j:=0) hT2 rfl ⟨rfl,_,rfl,aU (fun z=>absurd z (Ae r).1) (fun _=>tix (j:=0) hT2 rfl ⟨rfl,_,rfl,aU (fun z=>absurd z (Ae r).2) (fun _=>⟨Or.inl ⟨rfl,_,SqL.of hF2⟩,N,X,_,_,r,rfl,sX2,fv0,fun b H4 s4 hb pb=>⟨_,_,_,rfl,rfl,s4 _ _ hF2,szy rfl,fin _ H4 _ _ _ _ s4 (by rw [ptT];exact pb) (by rw [flT];push_cast;rfl)⟩⟩)⟩)⟩
 | iff vv l r ff oo =>
  have hp:=hob _ rfl
  rw [dpT] at dpt
  cases d with
  | zero=>omega
  | succ d =>
  refine tix (j:=0) hT2 rfl ⟨rfl,_,rfl,aU (fun _=>?_) (fun z=>absurd (show decide (V.str "if"=V.str "if")=true from decide_eq_true rfl) z)⟩
  have e1':fs=(pre ++ aA dn ++ [.iff vv l r]) ++ aA ff ++ .els :: (aA oo ++ .fin :: (aA rest ++ st :: post)):=by
   rw [efs,ets,gn,aA,flT]
   simp
  have e2':fs=(pre ++ aA dn ++ [.iff vv l r] ++ aA ff ++ [.els]) ++ aA oo ++ .fin :: (aA rest ++ st :: post):=by
   rw [e1']
   simp
  have l1:(pre ++ aA dn ++ [Fr.iff vv l r]).length=pre.length + (aA dn).length + 1:=by simp only [List.length_append,List.length_singleton]
  have l2:(pre ++ aA dn ++ [Fr.iff vv l r] ++ aA ff ++ [Fr.els]).length=pre.length + (aA dn).length + 1 + (aA ff).length + 1:=by simp only [List.length_append,List.length_singleton]
  refine ag fun N2 J2=>⟨N,X,L,xs,fs,_,_,ff,.els,by rw [l1];push_cast;rfl,sX2,hL,fr,e1',rfl,by omega,lx,fun p1 R1 y1 H3 s3 ep1 eR1 pt1=>⟨p1,_,rfl,SqT.of ep1,rfl,_,_,rfl,_,_,rfl,rfl,J2 _ _ ?_⟩⟩
  clear J2 N2
  have sX3:=sX2.trans s3
  try dsimp only
  refine ag fun N2 J2=>⟨N,X,L,xs,fs,_,_,oo,.fin,by rw [l1,l2];push_cast;rfl,sX3,hL,fr,e2',rfl,by omega,lx,fun p2 R2 y2 H4 s4 ep2 eR2 pt2=>⟨p2,_,rfl,SqT.of ep2,rfl,_,_,rfl,_,_,rfl,rfl,J2 _ _ ?_⟩⟩
  clear J2 N2
  have s34:=s3.trans s4
  have hT4:=s34.tup hT2
  try dsimp only
  refine ⟨Or.inl ⟨rfl,_,SqL.of (s34 _ _ hF2)⟩,tix (j:=1) hT4 rfl (tix (j:=2) hT4 rfl (tix (j:=3) hT4 rfl (fun r6 dx6 hr6 hd_ hne_=>⟨_,_,_,_,_,_,_,_,_,_,_,rfl,rfl,hr6,hd_,SqL.of (s4 _ _ eR1),SqL.of eR2,fun n6 n7 H6 f6 f7 s6 h6 h7 hx=>⟨rfl,?_⟩⟩)))⟩
  have s26:=s34.trans s6
  refine ⟨_,_,_,rfl,rfl,s26 _ _ hF2,szy rfl,fin _ H6 _ _ _ _ s26 ?_ ?_⟩
  ·rw [ptT]
   unfold aV
   rw [l1] at pt1
   rw [l2] at pt2
   refine ⟨r6,dx6,p,n6,n7,y1,y2,rfl,cf (ai.free s34 hr6) hx,iW (sX2.trans s26) _ _ hp,cf (ai.free s34 f6) h6,cf (ai.free s34 f7) h7,?_,?_⟩
   ·have:=aD.same (dQ (s4.trans s6)) _ _ pt1
    push_cast at this ⊢
    exact this
   ·have:=aD.same (lP (same_none s3)) _ _ (aD.same (dQ s6) _ _ pt2)
    push_cast at this ⊢
    rw [show (↑pre.length + ↑(aA dn).length + 1 + 2 + ↑(aA ff).length:Int)=↑pre.length + ↑(aA dn).length + 1 + ↑(aA ff).length + 1 + 1 by omega]
    exact this
  ·rw [l2,flT]
   simp only [List.length_cons,List.length_append,List.length_nil]
   push_cast
   omega
 | loop th mm l r bb =>
  rw [dpT] at dpt
  cases d with
  | zero=>omega
  | succ d =>
  refine tix (j:=0) hT2 rfl ⟨rfl,_,rfl,aU (fun z=>absurd z (show ¬ decide (V.str "loop"=V.str "if")=true by decide)) (fun _=>tix (j:=0) hT2 rfl ⟨rfl,_,rfl,aU (fun _=>?_) (fun z=>absurd (show decide (V.str "loop"=V.str "loop")=true from decide_eq_true rfl) z)⟩)⟩
  have e1':fs=(pre ++ aA dn ++ [.loop th mm l r]) ++ aA bb ++ .fin :: (aA rest ++ st :: post):=by
   rw [efs,ets,gn,aA,flT]
   simp
  have l1:(pre ++ aA dn ++ [Fr.loop th mm l r]).length=pre.length + (aA dn).length + 1:=by simp only [List.length_append,List.length_singleton]
  refine ag fun N2 J2=>⟨N,X,L,xs,fs,_,_,bb,.fin,by rw [l1];push_cast;rfl,sX2,hL,fr,e1',rfl,by omega,lx,fun p1 R1 y1 H3 s3 ep1 eR1 pt1=>⟨p1,_,rfl,SqT.of ep1,rfl,_,_,rfl,_,_,rfl,rfl,J2 _ _ ?_⟩⟩
  clear J2 N2
  have hT3:=s3.tup hT2
  try dsimp only
  refine ⟨Or.inl ⟨rfl,_,SqL.of (s3 _ _ hF2)⟩,tix (j:=1) hT3 rfl (tix (j:=2) hT3 rfl (tix (j:=3) hT3 rfl (tix (j:=4) hT3 rfl (fun r6 dx6 hr6 hd_ hne_=>⟨_,_,_,_,_,_,_,_,_,_,rfl,rfl,hr6,hd_,SqL.of eR1,fun n6 H6 f6 s6 h6 hx=>⟨rfl,?_⟩⟩))))⟩
  have s26:=s3.trans s6
  refine ⟨_,_,_,rfl,rfl,s26 _ _ hF2,szy rfl,fin _ H6 _ _ _ _ s26 ?_ ?_⟩
  ·rw [ptT]
   unfold aV
   rw [l1] at pt1
   refine ⟨r6,dx6,n6,y1,rfl,cf (ai.free s3 hr6) hx,cf (ai.free s3 f6) h6,?_⟩
   have:=aD.same (dQ s6) _ _ pt1
   push_cast at this ⊢
   exact this
  ·rw [l1,flT]
   simp only [List.length_cons,List.length_append,List.length_nil]
   push_cast
   omega
theorem vm (T:Txt K mg A):∀d,T.cu.Hz P w base (d + 6) (oh A d)
 | 0=>xa T 0 5 (Nat.le_refl _) (T.cu.hs (k:=4) aP (fun _ _ _ _ _ _ _ _ _ _ _ h=>h.elim) (fun _ _ _ _ h=>h.elim))
 | d + 1=>xa T (d + 1) (d + 6) (by omega) (vm T d)
end
section
variable {P:Program}{w:World}{K:W.Frag}{mg:Str->Option Value}{base:Heap}{A:Adr}{N:Nat->Str}
seal PE PA PS PSs PT PW
def hdP (n:Int):List Lr->List Pt
 | []=>[]
 | r :: rs=>.leaf n r :: hdP (n + 1) rs
def deP (n:Int):List De->List Pt
 | []=>[]
 | d :: ds=>.aR n d.1 d.2.1 (bA (n + 1) d.2.2) :: deP (n + ((flD d).length:Nat)) ds
theorem xt:∀(a:List Lr) (n:Int) (b:List Lr),hdP n (a ++ b)=hdP n a ++ hdP (n + (a.length:Nat)) b
 | [],n,b=>by
  rw [List.nil_append,hdP,List.nil_append]
  congr 1
  simp
 | r :: a,n,b=>by
  rw [List.cons_append,hdP,hdP,xt a,List.length_cons,List.cons_append]
  congr 3
  push_cast
  omega
theorem xm:∀(a:List De) (n:Int) (b:List De),deP n (a ++ b)=deP n a ++ deP (n + ((a9 a).length:Nat)) b
 | [],n,b=>by
  rw [List.nil_append,deP,List.nil_append]
  congr 1
  simp [a9]
 | d :: a,n,b=>by
  rw [List.cons_append,deP,deP,xm a,show a9 (d :: a)=flD d ++ a9 a from rfl,List.length_append,List.cons_append]
  congr 3
  push_cast
  omega
theorem sF:∀(a:List Lr) (n:Int),(hdP n a).length=a.length
 | [],n=>rfl
 | r :: a,n=>by rw [hdP,List.length_cons,List.length_cons,sF a]
theorem ox:∀(a:List De) (n:Int),(deP n a).length=a.length
 | [],n=>rfl
 | r :: a,n=>by rw [deP,List.length_cons,List.length_cons,ox a]
theorem tP {M:List Addr}{H H':Hp} (s:Sm M H H') (hF:∀m ∈ M,H' m ≠ none):∀b,H' b=none->H b=none:=fun b h=>by
 cases e:H b with
 | none=>rfl
 | some o =>
  by_cases z:b ∈ M
  ·exact absurd h (hF b z)
  ·rw [s b o z e] at h;cases h
def dmF (f:Fr):Bool:=match f with
 | .aR _ _=>true
 | .main=>true
 | _=>false
theorem ze (f:Fr):inV (V.str f.wd) [V.str "deed",V.str "main"]=dmF f:=by
 cases f with
 | leaf r=>cases r <;> rfl
 | _=>rfl
def msN (hs:List Lr) (ds:List De):Int:=((hs.length + (a9 ds).length:Nat):Int) + 2
inductive uk (A:Adr) (vs:List V) (H:Hp) (Q:VK) (E9:XK):Prop
 | mk (N:Nat->Str) (X:Hp) (L:Addr) (xs:List V) (hs:List Lr) (ds:List De) (mb:List Tr) (z0:vs=[.ref L]) (z1:ai X H) (z2:X L=some (.lst xs)) (z3:bh N X (flA hs ds mb) xs) (z4:iE hs ds mb) (z7:xs.length <= 300)
  (z8:∀(v:V) (H':Hp),ai H H'->zG A N H' v (hdP 1 hs) (deP ((hs.length:Nat) + 1) ds) (bA (msN hs ds) mb)->Q v H'):uk A vs H Q E9
theorem Bs (T:Txt K mg A):T.jx.Hz P w base 13 (uk A):=by
 refine T.jx.hs (k:=12) aX (fun f cdv A' outer s H vs Q E hr hu h=>?_)
 obtain ⟨N,X,L,xs,hs,ds,mb,rfl,s0,hL,fr,O,lx,q⟩:=h
 have lfs:(flA hs ds mb).length <= 300:=by rw [Paired.length fr];exact lx
 have lfs':hs.length + (a9 ds).length + (aA mb).length + 2=(flA hs ds mb).length:=by unfold flA;simp;omega
 refine ⟨_,(ae (pst 1 aX.nd (aC ab))
  (ae (pst 2 aX.nd (aC ab))
  (ae (pst 3 aX.nd af)
  (ae (jQ PassesOwn.never (ptc (iH hu) (px hu (px hu (fv 0) (fv 3)) af) (aI (aa aj (aa aj ab))) ((by with_unfolding_all rfl)))
   (ae (aE (aT (fv 1) (aa (ak (hj:=by omega) (wj T) hr (aa (px hu (fv 0) (fv 3)) (aa (au aK (fv 3) af) ab))) ab)))
   (ah (pst 3 aX.nd (au aK (fv 3) af)))))
  (ae (jQ PassesOwn.never (ptc (bE hu) (px hu (px hu (fv 0) (fv 3)) af) aj)
   (ae (pst 4 aX.nd (au aK (fv 3) af))
   (ae (cK (ak (hj:=by omega) (vm T 6) hr (aa (fv 0) (aa (au aK (fv 3) af) ab))) (iK rfl (bf (pgn (i:=5) aX.nd rfl) (bf (pgn (i:=6) aX.nd rfl) fC))))
   (ae (aE (aT (fv 2) (aa (bT (hj:=by omega) T.b8 (pP T) hr (aa (fv 4) (aa (px hu (px hu (fv 0) (fv 3)) af) (aa (pcT wz T.cS (aa (px hu (px hu (fv 0) (fv 3)) af) ab)) (aa (fv 5) ab))))) ab)))
   (ah (pst 3 aX.nd (au aK (fv 6) af)))))))
  (ae (cK (ak (hj:=by omega) (vm T 6) hr (aa (fv 0) (aa (au aK (fv 3) af) ab))) (iK rfl (bf (pgn (i:=7) aX.nd rfl) (bf (pgn (i:=6) aX.nd rfl) fC))))
  (ah (aw (bT (hj:=by omega) T.dI (oH T) hr (aa (fv 1) (aa (fv 2) (aa (fv 7) ab)))))))))))),?_⟩
 refine ag fun M1 K1=>⟨Nat.zero_le _,fun F hF=>?_⟩
 obtain ⟨s1,e1⟩:=alc hF (HO.lst [])
 generalize upd H F _=H1 at s1 e1 ⊢
 refine K1 _ _ ?_
 clear K1 M1
 try dsimp only
 refine ag fun M1 K1=>⟨Nat.zero_le _,fun G hG=>?_⟩
 obtain ⟨s2,e2⟩:=alc hG (HO.lst [])
 generalize upd H1 G _=H2 at s2 e2 ⊢
 have XF:X F=none:=ai.free s0 hF
 have XG:X G=none:=ai.free (s0.trans s1) hG
 have GF:G ≠ F:=fun z=>by rw [z,e1] at hG;cases hG
 have H2F:H2 F ≠ none:=by rw [s2 _ _ e1];simp
 have H2G:H2 G ≠ none:=by rw [e2];simp
 have e1':=s2 _ _ e1
 have t2:=s1.trans s2
 have fxq:∀{Hc:Hp},Sm [F,G] H2 Hc->ai X Hc:=fun sc=>sc.same (s0.trans t2) (fun m hm=>by
  simp only [List.mem_cons,List.not_mem_nil,or_false] at hm
  rcases hm with rfl | rfl
  ·exact XF
  ·exact XG)
 have fhq:∀{Hc:Hp},Sm [F,G] H2 Hc->ai H Hc:=fun sc=>sc.same t2 (fun m hm=>by
  simp only [List.mem_cons,List.not_mem_nil,or_false] at hm
  rcases hm with rfl | rfl
  ·exact hF
  ·exact ai.free s1 hG)
 have mF:F ∈ [F,G]:=List.mem_cons_self
 have mG:G ∈ [F,G]:=List.mem_cons_of_mem _ List.mem_cons_self
 refine K1 _ _ ?_
 clear K1 M1
 try dsimp only
 refine ag fun M1 K1=>K1 _ _ ?_
 clear K1 M1
 try dsimp only
 refine ag fun M1 K1=>⟨fun m σ Hc=>∃(dn rest:List Lr) (ys:List V),hs=dn ++ rest/\rest.length=m/\σ=[some (.ref L),some (.ref F),some (.ref G),some (.int (dn.length:Nat)),none,none,none,none]/\Sm [F,G] H2 Hc/\Hc F=some (.lst ys)/\Hc G=some (.lst [])/\aD A N (rsH X H2 Hc) ys (hdP 1 dn),⟨hs.length,[],hs,[],rfl,rfl,rfl,Sm.refl _ _,e1',e2,aD.nil⟩,?_⟩
 rintro m σ Hc ⟨dn,rest,ys,ehs,em,rfl,sc,hFc,hGc,pt⟩
 have sX:=fxq sc
 have hLc:=SqL.of (K:=K) (sX _ _ hL)
 cases rest with
 | cons r rest =>
  clear K1
  have efs:flA hs ds mb=dn.map Fr.leaf ++ .leaf r :: (rest.map Fr.leaf ++ a9 ds ++ .main :: (aA mb ++ [.fin])):=by
   unfold flA
   rw [ehs]
   simp
  obtain ⟨v,av,fv'⟩:=mx fr efs
  rw [List.length_map] at av
  have fv0:=fv'
  obtain ⟨a,p,rfl,ha,hob⟩:=fv'
  refine lix hLc av (tix (j:=0) (SqT.of (sX _ _ ha)) rfl ⟨by show 2 <= sizeLine;decide,fun tp htp=>?_⟩)
  obtain ⟨s3,e3⟩:=alc htp (HO.tup [V.str "deed",.str "main"])
  generalize upd Hc tp _=H3 at s3 e3 ⊢
  refine Or.inl ⟨_,Or.inr (SqT.of e3),rfl,rfl,_,rfl,aU (fun _=>?_) (fun z=>absurd (by show (!inV (V.str (Fr.leaf r).wd) [V.str "deed",V.str "main"])=true;rw [ze];rfl) z)⟩
  refine ⟨fun σ Hc=>∃(dn rest:List Lr) (ys:List V) (m':Nat),m' < m/\hs=dn ++ rest/\rest.length=m'/\σ=[some (.ref L),some (.ref F),some (.ref G),some (.int (dn.length:Nat)),none,none,none,none]/\Sm [F,G] H2 Hc/\Hc F=some (.lst ys)/\Hc G=some (.lst [])/\aD A N (rsH X H2 Hc) ys (hdP 1 dn),fun σ Hc ⟨dn,rest,ys,m',hm',h⟩=>⟨m',hm',dn,rest,ys,h⟩,?_⟩
  have sX3:=sX.trans s3
  have hF3:=s3 _ _ hFc
  try dsimp only
  refine ag fun N1 J1=>⟨Or.inl ⟨rfl,_,SqL.of hF3⟩,lix (SqL.of (sX3 _ _ hL)) av ⟨N,X,_,_,r,rfl,sX3,fv0,fun b H4 s4 hb pb=>?_⟩⟩
  have ly:ys.length=dn.length:=by rw [pt.len,sF]
  have ld:dn.length + 1 <= hs.length:=by rw [ehs];simp
  refine ⟨_,_,_,rfl,rfl,s4 _ _ hF3,aH (by omega),J1 _ _ ?_⟩
  have s5:Sm [F,G] H4 (upd H4 F (.lst (ys ++ [V.ref b]))):=Sm.at mF _
  have em':rest.length + 1=m:=em
  refine ⟨dn ++ [r],rest,ys ++ [V.ref b],rest.length,by omega,by rw [ehs];simp,rfl,?_,(sc.trans (Sm.new (s3.trans s4))).trans s5,ao,ar GF ((s3.trans s4) _ _ hGc),?_⟩
  ·rw [List.length_append,List.length_singleton]
   rfl
  ·rw [xt,hdP,hdP,show (1:Int) + (dn.length:Nat)=((dn.length:Nat):Int) + 1 by omega]
   have nb:=tP sc (by
    intro m hm
    simp only [List.mem_cons,List.not_mem_nil,or_false] at hm
    rcases hm with rfl | rfl
    ·rw [hFc];simp
    ·rw [hGc];simp)
   exact aD.snoc (aD.same (kG XF H2F) _ _ (aD.same (dQ (s3.trans s4)) _ _ pt)) (aV.same (kG XF H2F) _ _ (aV.same (lP fun b h=>nb b (ai.free s3 h)) _ _ pb))
 | nil =>
 rw [List.append_nil] at ehs
 subst ehs
 obtain ⟨gf,gtl,egf,hgf⟩:∃gf gtl,a9 ds ++ .main :: (aA mb ++ [Fr.fin])=gf :: gtl/\dmF gf=true:=by
  cases ds with
  | nil=>exact ⟨.main,_,rfl,rfl⟩
  | cons d r=>exact ⟨.aR d.1 d.2.1,_,rfl,rfl⟩
 have efs:flA hs ds mb=hs.map Fr.leaf ++ gf :: gtl:=by
  unfold flA
  rw [List.append_assoc,egf]
 obtain ⟨v,av,⟨a,p,rfl,ha,hob⟩⟩:=mx fr efs
 rw [List.length_map] at av
 refine lix hLc av (tix (j:=0) (SqT.of (sX _ _ ha)) rfl ⟨by show 2 <= sizeLine;decide,fun tp htp=>?_⟩)
 obtain ⟨s3,e3⟩:=alc htp (HO.tup [V.str "deed",.str "main"])
 generalize upd Hc tp _=H3 at s3 e3 ⊢
 refine Or.inl ⟨_,Or.inr (SqT.of e3),rfl,rfl,_,rfl,aU (fun z=>absurd z (by show ¬ (!inV (V.str gf.wd) [V.str "deed",V.str "main"])=true;rw [ze,hgf];decide)) (fun _=>K1 _ _ ?_)⟩
 clear K1 M1
 have sc3:=sc.trans (Sm.new s3)
 have hF3:=s3 _ _ hFc
 have hG3:=s3 _ _ hGc
 have pt3:=aD.same (dQ s3) _ _ pt
 clear pt hFc hGc sc sX hLc htp e3 av ha hob efs egf hgf
 try dsimp only
 refine ag fun M1 K1=>⟨fun m σ Hc=>∃(dn rest:List De) (zs:List V) (v4 v5 v6:Option V),ds=dn ++ rest/\rest.length=m/\σ=[some (.ref L),some (.ref F),some (.ref G),some (.int ((hs.length + (a9 dn).length:Nat):Int)),v4,v5,v6,none]/\Sm [F,G] H2 Hc/\Hc F=some (.lst ys)/\Hc G=some (.lst zs)/\aD A N (rsH X H2 Hc) ys (hdP 1 hs)/\aD A N (rsH X H2 Hc) zs (deP ((hs.length:Nat) + 1) dn),⟨ds.length,[],ds,[],none,none,none,rfl,rfl,rfl,sc3,hF3,hG3,pt3,aD.nil⟩,?_⟩
 clear hF3 hG3 pt3 sc3 s3 m em
 clear hG hF
 rintro m σ Hd ⟨dn,rest,zs,v4,v5,v6,eds,em,rfl,sc,hFc,hGc,pt,pz⟩
 have sX:=fxq sc
 have hLc:=SqL.of (K:=K) (sX _ _ hL)
 have nb:=tP sc (by
  intro m hm
  simp only [List.mem_cons,List.not_mem_nil,or_false] at hm
  rcases hm with rfl | rfl
  ·rw [hFc];simp
  ·rw [hGc];simp)
 cases rest with
 | cons d rest =>
  clear K1
  have efs:flA hs ds mb=(hs.map Fr.leaf ++ a9 dn) ++ .aR d.1 d.2.1 :: (aA d.2.2 ++ .fin :: (a9 rest ++ .main :: (aA mb ++ [.fin]))):=by
   unfold flA a9
   rw [eds]
   simp [flD]
  have efs2:flA hs ds mb=(hs.map Fr.leaf ++ a9 dn ++ [.aR d.1 d.2.1]) ++ aA d.2.2 ++ .fin :: (a9 rest ++ .main :: (aA mb ++ [.fin])):=by
   rw [efs]
   simp
  have l2:(hs.map Fr.leaf ++ a9 dn ++ [Fr.aR d.1 d.2.1]).length=hs.length + (a9 dn).length + 1:=by simp only [List.length_append,List.length_map,List.length_singleton]
  obtain ⟨v,av,fv'⟩:=mx fr efs
  rw [List.length_append,List.length_map] at av
  obtain ⟨a,p,rfl,ha,hob⟩:=fv'
  have hp:=hob _ rfl
  refine lix hLc av (tix (j:=0) (SqT.of (sX _ _ ha)) rfl ⟨rfl,_,rfl,aU (fun _=>?_) (fun z=>absurd (show decide (V.str "deed"=V.str "deed")=true from decide_eq_true rfl) z)⟩)
  refine ⟨fun σ Hc=>∃(dn rest:List De) (zs:List V) (v4 v5 v6:Option V) (m':Nat),m' < m/\ds=dn ++ rest/\rest.length=m'/\σ=[some (.ref L),some (.ref F),some (.ref G),some (.int ((hs.length + (a9 dn).length:Nat):Int)),v4,v5,v6,none]/\Sm [F,G] H2 Hc/\Hc F=some (.lst ys)/\Hc G=some (.lst zs)/\aD A N (rsH X H2 Hc) ys (hdP 1 hs)/\aD A N (rsH X H2 Hc) zs (deP ((hs.length:Nat) + 1) dn),fun σ Hc ⟨dn,rest,ys,v4,v5,v6,m',hm',h⟩=>⟨m',hm',dn,rest,ys,v4,v5,v6,h⟩,?_⟩
  have dpd:cY d.2.2 <= 6:=by
   have:=O.de.at' dn.length d (by rw [eds,List.getElem?_append_right (Nat.le_refl _),Nat.sub_self];rfl)
   exact this.2.2.2.1
  try dsimp only
  refine ag fun N1 J1=>J1 _ _ ?_
  clear J1 N1
  try dsimp only
  refine ag fun N1 J1=>⟨N,X,L,xs,_,_,_,d.2.2,.fin,by rw [l2];push_cast;rfl,sX,hL,fr,efs2,rfl,dpd,lx,fun p1 R1 y1 H4 s4 ep1 eR1 pt1=>⟨p1,_,rfl,SqT.of ep1,rfl,_,_,rfl,_,_,rfl,rfl,J1 _ _ ?_⟩⟩
  clear J1 N1
  have sX4:=sX.trans s4
  have hL4:=SqL.of (K:=K) (sX4 _ _ hL)
  have hT4:=SqT.of (K:=K) (sX4 _ _ ha)
  try dsimp only
  refine ag fun N1 J1=>⟨Or.inl ⟨rfl,_,SqL.of (s4 _ _ hGc)⟩,lix hL4 av (tix (j:=1) hT4 rfl (lix hL4 av (tix (j:=2) hT4 rfl (Or.inl ⟨p,_,rfl,Or.inl (SqL.of (sX4 _ _ hp)),fun l hl=>?_⟩))))⟩
  obtain ⟨s5,e5⟩:=alc hl (HO.lst (nV N d.2.1))
  generalize upd H4 l _=H5 at s5 e5 ⊢
  refine fun r6 dx6 hr6 hd_ hne_=>⟨_,_,_,_,_,_,_,_,_,rfl,rfl,hr6,hd_,SqL.of e5,SqL.of (s5 _ _ eR1),fun n6 n7 H6 f6 f7 s6 h6 h7 hx=>⟨rfl,?_⟩⟩
  have s36:=s4.trans (s5.trans s6)
  have lz:zs.length=dn.length:=by rw [pz.len,ox]
  have ld:dn.length <= 3:=by
   have:=O.dl
   rw [eds,List.length_append] at this
   omega
  refine ⟨_,_,_,rfl,rfl,s36 _ _ hGc,aH (by omega),J1 _ _ ?_⟩
  have s7:Sm [F,G] H6 (upd H6 G (.lst (zs ++ [V.ref r6]))):=Sm.at mG _
  have em':rest.length + 1=m:=em
  have sn:ai Hd H4:=s4
  refine ⟨dn ++ [d],rest,zs ++ [V.ref r6],some (.int (((hs.length + (a9 dn).length:Nat):Int) + 1)),some (.ref R1),some (.int (((hs.map Fr.leaf ++ a9 dn ++ [Fr.aR d.1 d.2.1]).length + (aA d.2.2).length:Nat):Int)),rest.length,by omega,by rw [eds];simp,rfl,?_,(sc.trans (Sm.new s36)).trans s7,ar (Ne.symm GF) (s36 _ _ hFc),ao,aD.same (kG XG H2G) _ _ (aD.same (dQ s36) _ _ pt),?_⟩
  ·have:(((hs.map Fr.leaf ++ a9 dn ++ [Fr.aR d.1 d.2.1]).length + (aA d.2.2).length:Nat):Int) + 1=((hs.length + (a9 (dn ++ [d])).length:Nat):Int):=by
    rw [l2]
    unfold a9
    rw [List.flatMap_append,List.length_append]
    simp [flD]
    omega
   rw [<- this]
   rfl
  ·rw [xm,deP,deP]
   refine aD.snoc (aD.same (kG XG H2G) _ _ (aD.same (dQ s36) _ _ pz)) (aV.same (kG XG H2G) _ _ (aV.same (lP nb) _ _ (X:=rsH X Hd H6) ?_))
   unfold aV
   rw [l2] at pt1
   have e9:(((hs.length:Nat):Int) + 1 + ((a9 dn).length:Nat))=((hs.length + (a9 dn).length:Nat):Int) + 1:=by push_cast;omega
   rw [e9]
   refine ⟨r6,dx6,n6,n7,y1,rfl,cf (ai.free (s4.trans s5) hr6) hx,cf (ai.free (s4.trans s5) f6) h6,cf (ai.free (s4.trans s5) f7) h7,?_⟩
   have:=aD.same (dQ (s5.trans s6)) _ _ pt1
   push_cast at this ⊢
   exact this
 | nil =>
 rw [List.append_nil] at eds
 subst eds
 have efs:flA hs ds mb=(hs.map Fr.leaf ++ a9 ds) ++ .main :: (aA mb ++ [.fin]):=rfl
 have efs2:flA hs ds mb=(hs.map Fr.leaf ++ a9 ds ++ [.main]) ++ aA mb ++ .fin :: []:=by
  rw [efs]
  simp
 have l2:(hs.map Fr.leaf ++ a9 ds ++ [Fr.main]).length=hs.length + (a9 ds).length + 1:=by simp only [List.length_append,List.length_map,List.length_singleton]
 obtain ⟨v,av,⟨a,p,rfl,ha,hob⟩⟩:=mx fr efs
 rw [List.length_append,List.length_map] at av
 refine lix hLc av (tix (j:=0) (SqT.of (sX _ _ ha)) rfl ⟨rfl,_,rfl,aU (fun z=>absurd z (show ¬ decide (V.str "main"=V.str "deed")=true by decide)) (fun _=>K1 _ _ ?_)⟩)
 clear K1 M1
 try dsimp only
 refine ag fun M1 K1=>⟨N,X,L,xs,_,_,_,mb,.fin,by rw [l2];push_cast;rfl,sX,hL,fr,efs2,rfl,O.md,lx,fun p1 R1 y1 H4 s4 ep1 eR1 pt1=>⟨p1,_,rfl,SqT.of ep1,rfl,_,_,rfl,_,_,rfl,rfl,K1 _ _ ?_⟩⟩
 clear K1 M1
 try dsimp only
 refine fun r6 dx6 hr6 hd_ hne_=>⟨_,_,_,_,_,_,_,_,_,rfl,rfl,hr6,hd_,SqL.of (s4 _ _ hFc),SqL.of (s4 _ _ hGc),SqL.of eR1,fun n6 n7 n8 H6 f6 f7 f8 s6 h6 h7 h8 hx=>⟨rfl,q _ H6 ((fhq sc).trans (s4.trans s6)) ?_⟩⟩
 rw [l2] at pt1
 refine ⟨r6,dx6,n6,n7,n8,_,_,_,rfl,hx,h6,h7,h8,aD.same (rF.trans (s4.trans s6)) _ _ pt,aD.same (rF.trans (s4.trans s6)) _ _ pz,?_⟩
 have:=aD.same (rF.trans s6) _ _ pt1
 unfold msN
 push_cast at this ⊢
 rw [show (↑hs.length + ↑(a9 ds).length + 2:Int)=↑hs.length + ↑(a9 ds).length + 1 + 1 by omega]
 exact this
end
section
variable {P:Program}{w:World}{K:W.Frag}{mg:Str->Option Value}{base:Heap}{A:Adr}{N:Nat->Str}
def isB:Fr->Bool
 | .leaf r=>decide (5 <= r.ci)
 | .iff _ _ _=>true
 | .loop _ _ _ _=>true
 | _=>false
def stp (N:Nat->Str) (s:List (Option Str)) (n:Int):Fr->List (Option Str)
 | .aR i _=>[some (N i)]
 | .main=>[none]
 | .fin=>s.tail
 | .iff _ _ _=>some (aZ n) :: s
 | .loop _ _ _ _=>some (aZ n) :: s
 | _=>s
def iw (l:List Str) (n:Int):Fr->List Str
 | .loop _ _ _ _=>aZ n :: l
 | .iff _ _ _=>Str.empty :: l
 | .fin=>l.tail
 | _=>l
def lpO (l:List Str):Option Str:=l.find? fun x=>decide (x ≠ Str.empty)
abbrev En:=Fr × Int × Option Str × Str
def aO (N:Nat->Str):List (Option Str)->List Str->Int->List Fr->List En
 | _,_,_,[]=>[]
 | s,l,n,f :: fs=>(if isB f=true then [(f,n,s.headD none,(lpO l).getD Str.empty)] else []) ++ aO N (stp N s n f) (iw l n f) (n + 1) fs
def gd (N:Nat->Str):List (Option Str)->Int->List Fr->Prop
 | _,_,[]=>True
 | s,n,f :: fs=>((isB f=true \/ f=.fin)->s ≠ [])/\gd N (stp N s n f) (n + 1) fs
def frP:Pt->Fr
 | .leaf _ r=>.leaf r
 | .iff _ v l r _ _=>.iff v l r
 | .loop _ t m l r _=>.loop t m l r
 | .aR _ i ps _=>.aR i ps
def eF (e:Le):En:=(frP e.1,e.1.no,e.2.1,e.2.2.getD Str.empty)
theorem BK (n:Int):4 <= (aZ n).length:=by
 unfold aZ
 rw [gH,gH]
 exact Nat.le_trans (show 4 <= (Str.empty.length + ("row ":Str).length) by decide) (Nat.le_add_right _ _)
theorem C2 (n:Int):aZ n ≠ Str.empty:=fun e=>by
 have:=BK n
 rw [e] at this
 exact absurd this (by decide)
theorem Bn (n:Int) (l:List Str):lpO (aZ n :: l)=some (aZ n):=by
 unfold lpO
 rw [List.find?_cons,decide_eq_true (C2 n)]
theorem C7 (l:List Str):lpO (Str.empty :: l)=lpO l:=by
 unfold lpO
 rw [List.find?_cons,decide_eq_false fun z=>z rfl]
theorem F8 {ps:List Nat}{dd:List (Nat × Nat)}{lp:Bool}{r:Lr} (h:vf ps dd lp r):isB (.leaf r)=true:=by
 cases r <;> first | rfl | exact h.elim
theorem BU {lp:Option Str}{t:Pt}{ts:List Pt}{pl:Option Str}:bw pl lp (t :: ts)=(t,pl,lp) :: (dY lp t ++ bw pl lp ts):=by rw [bw]
mutual
theorem Dn {ps:List Nat}{dd:List (Nat × Nat)}:∀(t:Tr) (lp:Bool) (pl:Option Str) (s:List (Option Str)) (l:List Str) (n:Int) (rest:List Fr),okT ps dd lp t ->
  aO N (pl :: s) l n (flT t ++ rest)=((ptT n t,pl,lpO l) :: dY (lpO l) (ptT n t)).map eF ++ aO N (pl :: s) l (n + ((flT t).length:Nat)) rest
 | .leaf r,lp,pl,s,l,n,rest,ok=>by
  rw [okT] at ok
  rw [flT,ptT,dY]
  show aO N _ _ _ (.leaf r :: rest)=_
  rw [aO,if_pos (F8 ok)]
  rfl
 | .iff v a b f o,lp,pl,s,l,n,rest,ok=>by
  rw [okT] at ok
  rw [flT,ptT,dY]
  have e:(Fr.iff v a b :: (aA f ++ .els :: (aA o ++ [.fin]))) ++ rest=.iff v a b :: (aA f ++ (.els :: (aA o ++ (.fin :: rest)))):=by simp
  rw [e,aO,if_pos (show isB _=true from rfl)]
  have h1:=iT f lp (some (aZ n)) (pl :: s) (Str.empty :: l) (n + 1) (.els :: (aA o ++ (.fin :: rest))) ok.2.1
  have h2:=iT o lp (some (aZ n)) (pl :: s) (Str.empty :: l) (n + 1 + ((aA f).length:Nat) + 1) (.fin :: rest) ok.2.2
  rw [C7] at h1 h2
  show _ ++ aO N (some (aZ n) :: pl :: s) (Str.empty :: l) (n + 1) _=_
  rw [h1,aO,if_neg (by decide)]
  show _ ++ (_ ++ ([] ++ aO N (some (aZ n) :: pl :: s) (Str.empty :: l) _ _))=_
  rw [h2,aO,if_neg (by decide)]
  show _ ++ (_ ++ ([] ++ (_ ++ ([] ++ aO N (pl :: s) l _ rest))))=_
  rw [show n + 2 + ((aA f).length:Nat)=n + 1 + ((aA f).length:Nat) + 1 by omega,List.length_cons,List.length_append,List.length_cons,List.length_append,List.length_singleton]
  rw [show n + 1 + ((aA f).length:Nat) + 1 + ((aA o).length:Nat) + 1=n + (((aA f).length + ((aA o).length + 1 + 1) + 1:Nat):Int) by push_cast;omega]
  rw [List.map_cons,List.map_append]
  simp only [List.nil_append,List.append_assoc,List.cons_append]
  rfl
 | .loop t m a b c,lp,pl,s,l,n,rest,ok=>by
  rw [okT] at ok
  rw [flT,ptT,dY]
  have e:(Fr.loop t m a b :: (aA c ++ [.fin])) ++ rest=.loop t m a b :: (aA c ++ (.fin :: rest)):=by simp
  rw [e,aO,if_pos (show isB _=true from rfl)]
  have h1:=iT c true (some (aZ n)) (pl :: s) (aZ n :: l) (n + 1) (.fin :: rest) ok.2.2.2
  rw [Bn] at h1
  show _ ++ aO N (some (aZ n) :: pl :: s) (aZ n :: l) (n + 1) _=_
  rw [h1,aO,if_neg (by decide)]
  show _ ++ (_ ++ ([] ++ aO N (pl :: s) l _ rest))=_
  rw [List.length_cons,List.length_append,List.length_singleton,show n + 1 + ((aA c).length:Nat) + 1=n + (((aA c).length + 1 + 1:Nat):Int) by push_cast;omega,List.map_cons]
  simp only [List.nil_append,List.append_assoc,List.cons_append]
  rfl
theorem iT {ps:List Nat}{dd:List (Nat × Nat)}:∀(ts:List Tr) (lp:Bool) (pl:Option Str) (s:List (Option Str)) (l:List Str) (n:Int) (rest:List Fr),cF ps dd lp ts ->
  aO N (pl :: s) l n (aA ts ++ rest)=(bw pl (lpO l) (bA n ts)).map eF ++ aO N (pl :: s) l (n + ((aA ts).length:Nat)) rest
 | [],lp,pl,s,l,n,rest,ok=>by
  rw [aA,bA,bw]
  simp
 | t :: ts,lp,pl,s,l,n,rest,ok=>by
  rw [cF] at ok
  rw [aA,bA,BU,List.append_assoc,Dn t lp pl s l n _ ok.1,iT ts lp pl s l _ rest ok.2,List.length_append]
  rw [show n + ((flT t).length:Nat) + ((aA ts).length:Nat)=n + (((flT t).length + (aA ts).length:Nat):Int) by push_cast;omega]
  simp only [List.map_cons,List.map_append,List.append_assoc,List.cons_append]
end
mutual
theorem FK:∀(t:Tr) (pl:Option Str) (s:List (Option Str)) (n:Int) (rest:List Fr),gd N (pl :: s) (n + ((flT t).length:Nat)) rest->gd N (pl :: s) n (flT t ++ rest)
 | .leaf r,pl,s,n,rest,h=>by
  rw [flT] at h ⊢
  show gd N _ _ (.leaf r :: rest)
  exact ⟨fun _ z=>(by cases z),h⟩
 | .iff v a b f o,pl,s,n,rest,h=>by
  rw [flT] at h ⊢
  have e:(Fr.iff v a b :: (aA f ++ .els :: (aA o ++ [.fin]))) ++ rest=.iff v a b :: (aA f ++ (.els :: (aA o ++ (.fin :: rest)))):=by simp
  rw [e]
  refine ⟨fun _ z=>(by cases z),qF f (some (aZ n)) (pl :: s) (n + 1) _ ⟨fun _ z=>(by cases z),qF o (some (aZ n)) (pl :: s) _ _ ⟨fun _ z=>(by cases z),?_⟩⟩⟩
  rw [List.length_cons,List.length_append,List.length_cons,List.length_append,List.length_singleton,show n + (((aA f).length + ((aA o).length + 1 + 1) + 1:Nat):Int)=n + 1 + ((aA f).length:Nat) + 1 + ((aA o).length:Nat) + 1 by push_cast;omega] at h
  exact h
 | .loop t m a b c,pl,s,n,rest,h=>by
  rw [flT] at h ⊢
  have e:(Fr.loop t m a b :: (aA c ++ [.fin])) ++ rest=.loop t m a b :: (aA c ++ (.fin :: rest)):=by simp
  rw [e]
  refine ⟨fun _ z=>(by cases z),qF c (some (aZ n)) (pl :: s) (n + 1) _ ⟨fun _ z=>(by cases z),?_⟩⟩
  rw [List.length_cons,List.length_append,List.length_singleton,show n + (((aA c).length + 1 + 1:Nat):Int)=n + 1 + ((aA c).length:Nat) + 1 by push_cast;omega] at h
  exact h
theorem qF:∀(ts:List Tr) (pl:Option Str) (s:List (Option Str)) (n:Int) (rest:List Fr),gd N (pl :: s) (n + ((aA ts).length:Nat)) rest->gd N (pl :: s) n (aA ts ++ rest)
 | [],pl,s,n,rest,h=>by
  rw [aA] at h ⊢
  simpa using h
 | t :: ts,pl,s,n,rest,h=>by
  rw [aA] at h ⊢
  rw [List.append_assoc]
  refine FK t pl s n _ (qF ts pl s _ rest ?_)
  rw [List.length_append,show n + (((flT t).length + (aA ts).length:Nat):Int)=n + ((flT t).length:Nat) + ((aA ts).length:Nat) by push_cast;omega] at h
  exact h
end
theorem xc:∀(hs:List Lr) (n:Int) (rest:List Fr),(∀r ∈ hs,r.ci < 5)->aO N [] [] n (hs.map Fr.leaf ++ rest)=aO N [] [] (n + (hs.length:Nat)) rest/\(gd N [] (n + (hs.length:Nat)) rest->gd N [] n (hs.map Fr.leaf ++ rest))
 | [],n,rest,_=>by simp
 | r :: hs,n,rest,h=>by
  have c:=h r List.mem_cons_self
  have nb:¬ isB (.leaf r)=true:=fun z=>by
   have:5 <= r.ci:=of_decide_eq_true z
   omega
  obtain ⟨h1,h2⟩:=xc hs (n + 1) rest fun r hr=>h r (List.mem_cons_of_mem _ hr)
  have e:n + ((r :: hs).length:Nat)=n + 1 + (hs.length:Nat):=by rw [List.length_cons];push_cast;omega
  rw [e]
  refine ⟨?_,fun g=>⟨fun z=>?_,h2 g⟩⟩
  ·rw [List.map_cons,List.cons_append,aO,if_neg nb,List.nil_append,<- h1]
   rfl
  ·rcases z with z | z
   ·exact absurd z nb
   ·cases z
theorem xB (ddA:List De->List (Nat × Nat)):∀(ds:List De) (n:Int) (rest:List Fr),(∀d ∈ ds,∃dd,cF d.2.1 dd false d.2.2) ->
  aO N [] [] n (a9 ds ++ rest)=(fR N (deP n ds)).map eF ++ aO N [] [] (n + ((a9 ds).length:Nat)) rest/\(gd N [] (n + ((a9 ds).length:Nat)) rest->gd N [] n (a9 ds ++ rest))
 | [],n,rest,_=>by simp [a9,deP,fR]
 | d :: ds,n,rest,h=>by
  obtain ⟨dd,ok⟩:=h d List.mem_cons_self
  obtain ⟨h1,h2⟩:=xB ddA ds (n + ((flD d).length:Nat)) rest fun d hd=>h d (List.mem_cons_of_mem _ hd)
  have e:a9 (d :: ds) ++ rest=.aR d.1 d.2.1 :: (aA d.2.2 ++ (.fin :: (a9 ds ++ rest))):=by
   show flD d ++ a9 ds ++ rest=_
   simp [flD]
  have el:n + ((a9 (d :: ds)).length:Nat)=n + ((flD d).length:Nat) + ((a9 ds).length:Nat):=by
   show n + ((flD d ++ a9 ds).length:Nat)=_
   rw [List.length_append]
   push_cast
   omega
  have ef:n + 1 + ((aA d.2.2).length:Nat) + 1=n + ((flD d).length:Nat):=by
   unfold flD
   rw [List.length_cons,List.length_append,List.length_singleton]
   push_cast
   omega
  rw [e,el]
  constructor
  ·rw [aO,if_neg (by show ¬ false=true;decide)]
   show [] ++ aO N (some (N d.1) :: []) [] (n + 1) _=_
   rw [iT d.2.2 false (some (N d.1)) [] [] (n + 1) _ ok,aO,if_neg (by decide)]
   show [] ++ (_ ++ ([] ++ aO N [] [] (n + 1 + ((aA d.2.2).length:Nat) + 1) (a9 ds ++ rest)))=_
   rw [ef,h1,deP]
   show _=List.map eF (bw (some (N d.1)) none (bA (n + 1) d.2.2) ++ fR N (deP _ ds)) ++ _
   rw [List.map_append]
   simp only [List.nil_append,List.append_assoc]
   rfl
  ·intro g
   refine ⟨fun z=>?_,?_⟩
   ·rcases z with z | z <;> cases z
   ·show gd N (some (N d.1) :: []) (n + 1) _
    refine qF d.2.2 _ _ _ _ ⟨fun _ z=>(by cases z),?_⟩
    show gd N [] (n + 1 + ((aA d.2.2).length:Nat) + 1) (a9 ds ++ rest)
    rw [ef]
    exact h2 g
theorem tF {hs:List Lr}{ds:List De}{mb:List Tr} (O:iE hs ds mb):aO N [] [] 1 (flA hs ds mb)=(dz N (deP ((hs.length:Nat) + 1) ds) (bA (msN hs ds) mb)).map eF/\gd N [] 1 (flA hs ds mb):=by
 have hd:∀r ∈ hs,r.ci < 5:=by
  obtain ⟨rk,z,t,rfl,_⟩:=O.hd
  intro r hr
  have hr:r ∈ mL rk z:=by
   unfold qt at hr
   rcases List.mem_append.mp hr with h | h
   ·exact List.mem_of_mem_drop h
   ·exact List.mem_of_mem_take h
  unfold mL at hr
  simp only [List.mem_cons,List.not_mem_nil,or_false] at hr
  rcases hr with rfl | rfl | rfl | rfl | rfl | rfl | rfl | rfl | rfl | rfl | rfl <;> simp [Lr.ci]
 have okd:∀d ∈ ds,∃dd,cF d.2.1 dd false d.2.2:=fun d m=>by
  obtain ⟨k,hk⟩:=List.getElem?_of_mem m
  exact ⟨_,(O.de.at' k d hk).2.2.1⟩
 have e:flA hs ds mb=hs.map Fr.leaf ++ (a9 ds ++ (.main :: (aA mb ++ (.fin :: [])))):=by
  unfold flA
  simp
 obtain ⟨a1,a2⟩:=xc (N:=N) hs 1 (a9 ds ++ (.main :: (aA mb ++ (.fin :: [])))) hd
 obtain ⟨b1,b2⟩:=xB (N:=N) ir ds (1 + (hs.length:Nat)) (.main :: (aA mb ++ (.fin :: []))) okd
 have en:(1:Int) + (hs.length:Nat)=(hs.length:Nat) + 1:=by omega
 have em:(1:Int) + (hs.length:Nat) + ((a9 ds).length:Nat) + 1=msN hs ds:=by unfold msN;push_cast;omega
 rw [e]
 constructor
 ·rw [a1,b1,aO,if_neg (by decide)]
  show _ ++ ([] ++ aO N (none :: []) [] _ _)=_
  rw [em,iT mb false none [] [] _ _ O.mo,aO,if_neg (by decide)]
  show _ ++ ([] ++ (_ ++ ([] ++ aO N [] [] _ [])))=_
  rw [aO,en]
  unfold dz
  rw [List.map_append]
  simp only [List.nil_append,List.append_nil]
  rfl
 ·refine a2 (b2 ⟨fun z=>?_,?_⟩)
  ·rcases z with z | z <;> cases z
  ·show gd N (none :: []) _ _
   exact qF mb _ _ _ _ ⟨fun _ z=>(by cases z),trivial⟩
end
section
variable {P:Program}{w:World}{K:W.Frag}{mg:Str->Option Value}{base:Heap}{A:Adr}{N:Nat->Str}
def D9 (dd:List (Nat × Nat)):Pt->Prop
 | .leaf _ (.call i us)=>(i,us.length) ∈ dd
 | _=>True
def Pe (dd:List (Nat × Nat)) (a z:Int) (e:Le):Prop:=k5 e.1=true/\lOk e.1 e.2.2/\D9 dd e.1/\a <= e.1.no/\e.1.no < z
theorem Pe.mono {dd:List (Nat × Nat)}{a z a' z':Int}{e:Le} (h:Pe dd a z e) (ha:a' <= a) (hz:z <= z'):Pe dd a' z' e:=⟨h.1,h.2.1,h.2.2.1,by have:=h.2.2.2.1;omega,by have:=h.2.2.2.2;omega⟩
mutual
theorem FX {ps:List Nat}{dd:List (Nat × Nat)}:∀(t:Tr) (b:Bool) (pl lp:Option Str) (n:Int),okT ps dd b t->(b=true->lp.isSome=true)->∀e ∈ (ptT n t,pl,lp) :: dY lp (ptT n t),Pe dd n (n + ((flT t).length:Nat)) e
 | .leaf r,b,pl,lp,n,ok,hb=>by
  rw [okT] at ok
  rw [ptT,dY,flT]
  intro e he
  rw [List.mem_singleton.mp he]
  refine ⟨?_,fun z=>?_,?_,Int.le_refl _,by show n < n + ((1:Nat):Int);omega⟩
  ·cases r <;> first | rfl | exact ok.elim
  ·cases r with
   | last=>exact hb ok
   | _=>cases z
  ·cases r with
   | call i us=>exact ok.1
   | _=>trivial
 | .iff v a c f o,b,pl,lp,n,ok,hb=>by
  rw [okT] at ok
  rw [ptT,dY,flT,List.length_cons,List.length_append,List.length_cons,List.length_append,List.length_singleton]
  intro e he
  rcases List.mem_cons.mp he with rfl | he
  ·exact ⟨rfl,(fun z=>by cases z),trivial,Int.le_refl _,by show n < _;omega⟩
  ·rcases List.mem_append.mp he with he | he
   ·exact (qv f b _ lp (n + 1) ok.2.1 hb e he).mono (by omega) (by push_cast;omega)
   ·exact (qv o b _ lp _ ok.2.2 hb e he).mono (by omega) (by push_cast;omega)
 | .loop t m a c d,b,pl,lp,n,ok,hb=>by
  rw [okT] at ok
  rw [ptT,dY,flT,List.length_cons,List.length_append,List.length_singleton]
  intro e he
  rcases List.mem_cons.mp he with rfl | he
  ·exact ⟨rfl,(fun z=>by cases z),trivial,Int.le_refl _,by show n < _;omega⟩
  ·exact (qv d true _ _ (n + 1) ok.2.2.2 (fun _=>rfl) e he).mono (by omega) (by push_cast;omega)
theorem qv {ps:List Nat}{dd:List (Nat × Nat)}:∀(ts:List Tr) (b:Bool) (pl lp:Option Str) (n:Int),cF ps dd b ts->(b=true->lp.isSome=true)->∀e ∈ bw pl lp (bA n ts),Pe dd n (n + ((aA ts).length:Nat)) e
 | [],b,pl,lp,n,ok,hb=>by
  rw [bA,bw]
  intro e he
  cases he
 | t :: ts,b,pl,lp,n,ok,hb=>by
  rw [cF] at ok
  rw [bA,BU,aA,List.length_append]
  intro e he
  rw [<- List.cons_append] at he
  rcases List.mem_append.mp he with he | he
  ·exact (FX t b pl lp n ok.1 hb e he).mono (by omega) (by push_cast;omega)
  ·exact (qv ts b pl lp _ ok.2 hb e he).mono (by omega) (by push_cast;omega)
end
mutual
theorem Eh:∀(t:Tr) (n:Int),dep (ptT n t)=dpT t
 | .leaf r,n=>by rw [ptT,dep,dpT]
 | .iff v a c f o,n=>by rw [ptT,dep,dpT,kP f,kP o]
 | .loop t m a c d,n=>by rw [ptT,dep,dpT,kP d]
theorem kP:∀(ts:List Tr) (n:Int),kg (bA n ts)=cY ts
 | [],n=>by rw [bA,kg,cY]
 | t :: ts,n=>by rw [bA,kg,cY,Eh t,kP ts]
end
mutual
theorem EE {ps:List Nat}{dd:List (Nat × Nat)}{idx:List Nat} (hi:∀e ∈ dd,e.1 ∈ idx):∀(t:Tr) (b:Bool) (n:Int),okT ps dd b t->cOk idx (ptT n t)
 | .leaf r,b,n,ok=>by
  rw [okT] at ok
  rw [ptT]
  cases r with
  | call i us =>
   rw [cOk]
   exact hi _ ok.1
  | _=>simp [cOk]
 | .iff v a c f o,b,n,ok=>by
  rw [okT] at ok
  rw [ptT,cOk]
  exact ⟨pO hi f b _ ok.2.1,pO hi o b _ ok.2.2⟩
 | .loop t m a c d,b,n,ok=>by
  rw [okT] at ok
  rw [ptT,cOk]
  exact ⟨by have:=ok.2.1;omega,by have:=ok.2.2.1;omega,pO hi d true _ ok.2.2.2⟩
theorem pO {ps:List Nat}{dd:List (Nat × Nat)}{idx:List Nat} (hi:∀e ∈ dd,e.1 ∈ idx):∀(ts:List Tr) (b:Bool) (n:Int),cF ps dd b ts->pv idx (bA n ts)
 | [],b,n,ok=>by rw [bA,pv];trivial
 | t :: ts,b,n,ok=>by
  rw [cF] at ok
  rw [bA,pv]
  exact ⟨EE hi t b n ok.1,pO hi ts b _ ok.2⟩
end
theorem qG (N:Nat->Str):∀(fs:List Fr) (s:List (Option Str)) (l:List Str) (n:Int),(aO N s l n fs).length <= fs.length
 | [],s,l,n=>by rw [aO];exact Nat.le_refl _
 | f :: fs,s,l,n=>by
  have h:=qG N fs (stp N s n f) (iw l n f) (n + 1)
  rw [aO,List.length_append,List.length_cons]
  have:(if isB f=true then [(f,n,s.headD none,(lpO l).getD Str.empty)] else []).length <= 1:=by split <;> simp
  omega
theorem lK {ps:List Nat}{dd:List (Nat × Nat)}{ts:List Tr}{b:Bool} (ok:cF ps dd b ts) (pl:Option Str) (n:Int):(bw pl none (bA n ts)).length <= (aA ts).length:=by
 have h:=iT (N:=fun _=>Str.empty) ts b pl [] [] n [] ok
 have h2:=qG (fun _=>Str.empty) (aA ts ++ []) [pl] [] n
 rw [h,aO,List.append_nil,List.length_map,List.append_nil] at h2
 exact h2
theorem dX:∀{ds:List De}{n:Int}{k:Nat}{p:Pt},(deP n ds)[k]?=some p->∃d n',ds[k]?=some d/\n <= n'/\n' + ((flD d).length:Nat) <= n + ((a9 ds).length:Nat)/\p=.aR n' d.1 d.2.1 (bA (n' + 1) d.2.2)
 | [],n,k,p,h=>by rw [deP] at h;simp at h
 | d :: ds,n,0,p,h=>by
  rw [deP] at h
  cases h
  refine ⟨d,n,rfl,Int.le_refl _,?_,rfl⟩
  show _ <= n + (((flD d ++ a9 ds).length:Nat):Int)
  rw [List.length_append]
  push_cast
  omega
 | d :: ds,n,k + 1,p,h=>by
  rw [deP] at h
  obtain ⟨d',n',h1,h2,h3,h4⟩:=dX (ds:=ds) (k:=k) h
  refine ⟨d',n',h1,by omega,?_,h4⟩
  show _ <= n + (((flD d ++ a9 ds).length:Nat):Int)
  rw [List.length_append]
  push_cast
  push_cast at h3
  omega
theorem tT:∀(ds:List De) (n:Int) (k:Nat),(deP n ds).take k=deP n (ds.take k)
 | [],n,k=>by simp [deP]
 | d :: ds,n,0=>by simp [deP]
 | d :: ds,n,k + 1=>by rw [deP,List.take_succ_cons,List.take_succ_cons,deP,tT ds]
theorem yL:∀(ds:List De) (n:Int),(deP n ds).map dIx=ds.map (·.1)
 | [],n=>rfl
 | d :: ds,n=>by rw [deP,List.map_cons,List.map_cons,yL ds];rfl
theorem sE:∀(ds:List De) (n:Int),(deP n ds).map (dNm N)=ds.map fun d=>N d.1
 | [],n=>rfl
 | d :: ds,n=>by rw [deP,List.map_cons,List.map_cons,sE ds];rfl
theorem Ax {k:Nat}:dnI k < 24:=by unfold dnI;split;decide;split <;> decide
theorem Bh {i j:Nat} (hi:i < 3) (hj:j < 3) (h:dnI i=dnI j):i=j:=by
 rcases xK hi with rfl | rfl | rfl <;> rcases xK hj with rfl | rfl | rfl <;> first | rfl | exact absurd h (by decide)
theorem Cy {k n:Nat} (h:n < mxI k):(psI k n).length <= 4:=by
 unfold psI
 rw [List.length_map,List.length_range]
 unfold mxI at h
 split at h
 ·omega
 ·split at h <;> omega
theorem DG {α β:Type}{f:α->β}{l:List α} (h:l.Nodup) (i:∀x ∈ l,∀y ∈ l,f x=f y->x=y):(l.map f).Nodup:=by
 induction l with
 | nil=>exact List.nodup_nil
 | cons x r ih =>
  rw [List.nodup_cons] at h
  rw [List.map_cons,List.nodup_cons]
  refine ⟨fun m=>?_,ih h.2 fun a ha b hb=>i a (List.mem_cons_of_mem _ ha) b (List.mem_cons_of_mem _ hb)⟩
  obtain ⟨y,my,e⟩:=List.mem_map.mp m
  have:=i y (List.mem_cons_of_mem _ my) x List.mem_cons_self e
  exact h.1 (this ▸ my)
theorem iE.ix {hs:List Lr}{ds:List De}{mb:List Tr} (O:iE hs ds mb):∃n0 n1 n2:Nat,∃t0 t1 t2,ds=[(9,psI 0 n0,t0),(10,psI 1 n1,t1),(21,psI 2 n2,t2)]:=by
 have dl:=O.dl
 match ds,dl with
 | [a,b,c],_ =>
  have h0:=O.de.at' 0 a rfl
  have h1:=O.de.at' 1 b rfl
  have h2:=O.de.at' 2 c rfl
  obtain ⟨e0,⟨n0,_,p0⟩,_⟩:=h0
  obtain ⟨e1,⟨n1,_,p1⟩,_⟩:=h1
  obtain ⟨e2,⟨n2,_,p2⟩,_⟩:=h2
  refine ⟨n0,n1,n2,a.2.2,b.2.2,c.2.2,?_⟩
  rw [<- p0,<- p1,<- p2,show (9:Nat)=dnI 0 from rfl,show (10:Nat)=dnI 1 from rfl,show (21:Nat)=dnI 2 from rfl,<- e0,<- e1,<- e2]
theorem BQ (nm:kf N) {hs:List Lr}{ds:List De}{mb:List Tr} (O:iE hs ds mb):(ds.map fun d=>N d.1).Nodup:=by
 obtain ⟨n0,n1,n2,t0,t1,t2,rfl⟩:=O.ix
 show ([9,10,21].map N).Nodup
 refine DG (by decide) fun x hx y hy e=>nm.inj x y ?_ ?_ e
 ·simp only [List.mem_cons,List.not_mem_nil,or_false] at hx
  omega
 ·simp only [List.mem_cons,List.not_mem_nil,or_false] at hy
  omega
theorem vb (nm:kf N) {hs:List Lr}{ds:List De}{mb:List Tr} (O:iE hs ds mb) {d:De} (m:d ∈ ds) (n:Int):poM N (deP n ds) (N d.1)=d.2.1.map N:=by
 obtain ⟨k,hk⟩:=List.getElem?_of_mem m
 have kl:k < (deP n ds).length:=by rw [ox];exact (List.getElem?_eq_some_iff.mp hk).1
 obtain ⟨p,hp⟩:∃p,(deP n ds)[k]?=some p:=⟨_,List.getElem?_eq_getElem kl⟩
 obtain ⟨d',n',h1,_,_,rfl⟩:=dX hp
 rw [hk] at h1
 cases h1
 exact xr (N:=N) (ds:=deP n ds) (by rw [sE];exact BQ nm O) (List.mem_of_getElem? hp)
theorem oN {hs:List Lr}{ds:List De}{mb:List Tr} (O:iE hs ds mb) {d:De} (m:d ∈ ds):d.2.1.length <= 4:=by
 obtain ⟨k,hk⟩:=List.getElem?_of_mem m
 obtain ⟨_,⟨n,hn,e⟩,_⟩:=O.de.at' k d hk
 rw [e]
 exact Cy hn
theorem rX {hs:List Lr}{ds:List De}{mb:List Tr} (O:iE hs ds mb):hs.length=11/\(a9 ds).length <= 57/\(aA mb).length <= 48:=by
 refine ⟨?_,?_,O.ml⟩
 ·obtain ⟨rk,z,t,rfl,_,_,_,ht⟩:=O.hd
  unfold qt
  rw [List.length_append,List.length_drop,List.length_take,show (mL rk z).length=11 from rfl]
  omega
 ·have dl:=O.dl
  match ds,dl with
  | [a,b,c],_ =>
   have h0:=(O.de.at' 0 a rfl).2.2.2.2
   have h1:=(O.de.at' 1 b rfl).2.2.2.2
   have h2:=(O.de.at' 2 c rfl).2.2.2.2
   show (flD a ++ (flD b ++ (flD c ++ []))).length <= 57
   unfold flD
   simp only [List.length_append,List.length_cons,List.length_nil]
   omega
theorem lX (nm:kf N) {hs:List Lr}{ds:List De}{mb:List Tr} (O:iE hs ds mb):∀e ∈ dz N (deP ((hs.length:Nat) + 1) ds) (bA (msN hs ds) mb),k5 e.1=true/\lOk e.1 e.2.2/\D9 (ir ds) e.1/\1 <= e.1.no/\e.1.no <= 1000:=by
 obtain ⟨l1,l2,l3⟩:=rX O
 intro e he
 unfold dz at he
 rcases List.mem_append.mp he with he | he
 ·unfold fR at he
  obtain ⟨p,mp,he⟩:=List.mem_flatMap.mp he
  obtain ⟨k,hk⟩:=List.getElem?_of_mem mp
  obtain ⟨d,n',h1,h2,h3,rfl⟩:=dX hk
  obtain ⟨_,_,ok,_⟩:=O.de.at' k d h1
  obtain ⟨a1,a2,a3,a4,a5⟩:=qv d.2.2 false (some (N d.1)) none (n' + 1) ok (fun z=>by cases z) e he
  have lf:(flD d).length=(aA d.2.2).length + 2:=by unfold flD;simp
  refine ⟨a1,a2,?_,by omega,by omega⟩
  revert a3
  cases e.1 with
  | leaf m r =>
   cases r with
   | call i us =>
    intro a3
    obtain ⟨d',md,e'⟩:=List.mem_map.mp a3
    exact List.mem_map.mpr ⟨d',List.mem_of_mem_take md,e'⟩
   | _=>exact id
  | _=>exact id
 ·obtain ⟨a1,a2,a3,a4,a5⟩:=qv mb false none none (msN hs ds) O.mo (fun z=>by cases z) e he
  unfold msN at a4 a5
  exact ⟨a1,a2,a3,by omega,by omega⟩
theorem wW {hs:List Lr}{ds:List De}{mb:List Tr} (O:iE hs ds mb):(dz N (deP ((hs.length:Nat) + 1) ds) (bA (msN hs ds) mb)).length <= 99:=by
 unfold dz
 rw [List.length_append]
 have h1:=lK O.mo none (msN hs ds)
 have h2:=O.ml
 have h3:(fR N (deP ((hs.length:Nat) + 1) ds)).length <= 51:=by
  generalize ((hs.length:Nat):Int) + 1=n
  have dl:=O.dl
  match ds,dl with
  | [a,b,c],_ =>
   obtain ⟨_,_,o0,_,h0⟩:=O.de.at' 0 a rfl
   obtain ⟨_,_,o1,_,h1⟩:=O.de.at' 1 b rfl
   obtain ⟨_,_,o2,_,h2⟩:=O.de.at' 2 c rfl
   rw [deP,deP,deP,deP]
   show (bw (some (N a.1)) none (bA _ a.2.2) ++ (bw (some (N b.1)) none (bA _ b.2.2) ++ (bw (some (N c.1)) none (bA _ c.2.2) ++ []))).length <= 51
   simp only [List.length_append,List.length_nil]
   have:=lK o0 (some (N a.1)) (n + 1)
   have:=lK o1 (some (N b.1)) (n + ((flD a).length:Nat) + 1)
   have:=lK o2 (some (N c.1)) (n + ((flD a).length:Nat) + ((flD b).length:Nat) + 1)
   omega
 omega
theorem C1 (nm:kf N) {hs:List Lr}{ds:List De}{mb:List Tr} (O:iE hs ds mb) (n:Int) {t:Pt} (h:D9 (ir ds) t):yx N (poM N (deP n ds)) ((deP n ds).map (dNm N)) t:=by
 cases t with
 | leaf m r =>
  cases r with
  | call i us =>
   obtain ⟨d,md,e⟩:=List.mem_map.mp h
   obtain ⟨e1,e2⟩:=Prod.mk.inj e
   subst e1
   refine ⟨?_,?_⟩
   ·rw [sE]
    exact List.mem_map.mpr ⟨d,md,rfl⟩
   ·rw [vb nm O md,List.length_map]
    exact e2.symm
  | _=>trivial
 | _=>trivial
theorem yS {po:Str->List Str}{t:Pt}{pl lp:Option Str} (h:∀m i us,t=.leaf m (.call i us)->us.length=(po (N i)).length/\(po (N i)).length <= 4):(qb N po t pl lp).length <= 9:=by
 have d:=fun into kd=>xD (N:=N) t into kd pl
 cases t with
 | leaf m r =>
  cases r with
  | call i us =>
   obtain ⟨h1,h2⟩:=h m i us rfl
   show (clA N m (us.zip (po (N i))) ++ clB pl m (po (N i) ++ [N i])).length <= 9
   have a:=mZ (nP N m) (rH m) (us.zip (po (N i)))
   have b:=mZ (fun into=>drw [pl] into "under" m) (fun x=>cD _ _ _ _) (po (N i) ++ [N i])
   rw [List.length_zip] at a
   rw [List.length_append,List.length_singleton] at b
   unfold clA clB
   rw [List.length_append]
   omega
  | set x v=>exact Nat.le_trans (d _ _) (by decide)
  | put x p v=>exact Nat.le_trans (d _ _) (by decide)
  | snd x v=>exact Nat.le_trans (d _ _) (by decide)
  | say x v k =>
   show (saL pl (N x) (N k) m).length <= 9
   unfold saL
   have a:=cD [some (N k)] (N x) "value" m
   have b:=cD [pl] (N x) "under" m
   have c:=cD [pl] (aZ m) "under" m
   simp only [List.length_singleton] at a b c
   rw [List.length_append,List.length_append]
   omega
  | last=>exact Nat.le_trans (cD [pl] _ _ _) (by show 1 <= 9;decide)
  | _=>exact Nat.zero_le _
 | iff _ _ _ _ _ _=>exact Nat.le_trans (d _ _) (by decide)
 | loop _ _ _ _ _ _=>exact Nat.le_trans (d _ _) (by decide)
 | aR _ _ _ _=>exact Nat.zero_le _
theorem va {α β:Type} (f:α->List β) (k:Nat):∀(l:List α),(∀x ∈ l,(f x).length <= k)->(l.flatMap f).length <= k * l.length
 | [],_=>Nat.zero_le _
 | x :: l,h=>by
  have h1:=va f k l fun y hy=>h y (List.mem_cons_of_mem _ hy)
  have h2:=h x List.mem_cons_self
  rw [List.flatMap_cons,List.length_append,List.length_cons,Nat.mul_succ]
  omega
theorem DC (nm:kf N) {hs:List Lr}{ds:List De}{mb:List Tr} (O:iE hs ds mb):OkL N 6 (hdP 1 hs) (deP ((hs.length:Nat) + 1) ds) (bA (msN hs ds) mb) where
 ok:={
  aR:=fun p m=>by
   obtain ⟨k,hk⟩:=List.getElem?_of_mem m
   obtain ⟨d,n',h1,_,_,rfl⟩:=dX hk
   refine ⟨trivial,?_⟩
   show kg (bA (n' + 1) d.2.2) <= 6
   rw [kP]
   exact (O.de.at' k d h1).2.2.2.1
  main:=by rw [kP];exact O.md
  nb:=fun e he=>by
   have:=lX nm O e he
   exact ⟨by omega,this.2.2.2.2⟩
  ln:=Nat.le_trans (wW O) (by decide)
  hl:=by rw [sF,(rX O).1];decide }
 dk:={
  aR:=fun p m=>by
   obtain ⟨k,hk⟩:=List.getElem?_of_mem m
   obtain ⟨d,n',h1,_,_,rfl⟩:=dX hk
   trivial
  dp:=fun p m=>by
   obtain ⟨k,hk⟩:=List.getElem?_of_mem m
   obtain ⟨d,n',h1,_,_,rfl⟩:=dX hk
   show kg (bA (n' + 1) d.2.2) <= 6
   rw [kP]
   exact (O.de.at' k d h1).2.2.2.1
  ck:=fun k p hk=>by
   obtain ⟨d,n',h1,_,_,rfl⟩:=dX hk
   rw [tT,yL]
   refine pO (fun e he=>?_) d.2.2 false _ (O.de.at' k d h1).2.2.1
   obtain ⟨d',m',rfl⟩:=List.mem_map.mp he
   exact List.mem_map.mpr ⟨d',m',rfl⟩
  nm:=fun i j p q hp hq e=>by
   obtain ⟨d,n',h1,_,_,rfl⟩:=dX hp
   obtain ⟨d',n'',h2,_,_,rfl⟩:=dX hq
   have e:N d.1=N d'.1:=e
   have i3:i < 3:=by rw [<- O.dl];exact (List.getElem?_eq_some_iff.mp h1).1
   have j3:j < 3:=by rw [<- O.dl];exact (List.getElem?_eq_some_iff.mp h2).1
   rw [(O.de.at' i d h1).1,(O.de.at' j d' h2).1] at e
   exact Bh i3 j3 (nm.inj _ _ Ax Ax e)
  ln:=by rw [ox,O.dl];decide }
 nn:=by rw [sE];exact BQ nm O
 pn:=fun p m=>by
  obtain ⟨k,hk⟩:=List.getElem?_of_mem m
  obtain ⟨d,n',h1,_,_,rfl⟩:=dX hk
  show (d.2.1.map N).length <= 100
  rw [List.length_map]
  exact Nat.le_trans (oN O (List.mem_of_getElem? h1)) (by decide)
 k5:=fun e he=>(lX nm O e he).1
 lo:=fun e he=>(lX nm O e he).2.1
 cal:=fun e he=>C1 nm O _ (lX nm O e he).2.2.1
 ll:=by
  unfold dA
  refine Nat.le_trans (va _ 9 _ fun e he=>yS fun m i us ee=>?_) (Nat.le_trans (Nat.mul_le_mul_left 9 (wW O)) (by decide))
  have h:=(lX nm O e he).2.2.1
  rw [ee] at h
  obtain ⟨d,md,e'⟩:=List.mem_map.mp h
  obtain ⟨e1,e2⟩:=Prod.mk.inj e'
  subst e1
  rw [vb nm O md,List.length_map]
  exact ⟨e2.symm,oN O md⟩
end
section
variable {P:Program}{w:World}{K:W.Frag}{mg:Str->Option Value}{base:Heap}{A:Adr}{N:Nat->Str}
seal PE PA PS PSs PT PW
def nmT (N:Nat->Str):Th->Option Str
 | .i _=>none
 | .x a=>some (N a)
abbrev T3:=Option Str × Str × Str
def t3V (t:T3):List V:=[oS t.1,.str t.2.1,.str t.2.2]
def T3R (t:T3) (y:V) (H:Hp):Prop:=∃a,y=V.ref a/\H a=some (.tup (t3V t))
def T3s (H:Hp) (ts:List T3) (ys:List V):Prop:=Paired (fun t y=>T3R t y H) ts ys
theorem T3s.same {H H':Hp} (s:ai H H') {ts:List T3}{ys:List V} (h:T3s H ts ys):T3s H' ts ys:=Paired.nX h fun _ _ ⟨a,e,z⟩=>⟨a,e,s _ _ z⟩
def told (N:Nat->Str) (ts:List Th) (into kd:Str):List T3:=ts.filterMap fun t=>(nmT N t).map fun x=>(some x,into,kd)
inductive ub (K:W.Frag) (vs:List V) (H:Hp) (Q:VK) (E9:XK):Prop
 | mk (N:Nat->Str) (L:Addr) (ts:List Th) (into kd:Str) (z0:vs=[.ref L,.str into,.str kd]) (z1:SqL K H L (ts.map (Th.v N))) (z2:ts.length <= 100)
  (z3:∀(R:Addr) (ys:List V) (H':Hp),ai H H'->H R=none->H' R=some (.lst ys)->T3s H' (told N ts into kd) ys->Q (.ref R) H'):ub K vs H Q E9
def isX:Th->Bool
 | .i _=>false
 | .x _=>true
def gX (N:Nat->Str):Th->Str
 | .i _=>Str.empty
 | .x a=>N a
theorem AG (ts:List Th) (into kd:Str):told N ts into kd=(ts.filter isX).map fun t=>(some (gX N t),into,kd):=by
 unfold told
 induction ts with
 | nil=>rfl
 | cons t ts ih =>
  cases t with
  | i n=>exact ih
  | x a =>
   rw [List.filterMap_cons,List.filter_cons_of_pos rfl,List.map_cons,<- ih]
   rfl
theorem AJ (T:Txt K mg A):T.o7.Hz P w base 1 (ub K):=by
 refine T.o7.hs uP (fun f cdv A' outer s H vs Q E' hr hu h=>?_)
 obtain ⟨N,L,ts,into,kd,rfl,hL,hl,q⟩:=h
 refine ⟨_,(ah (aw (gI (N:=["_law_one","_law_other","_law_kind"]) (own:=1) (fr:=[1,2]) (cc.of (by kernel_rfl!)) rfl (cR (fv 0)) (fun b=>pgn (i:=0) (show List.Nodup (["_law_one","_law_other","_law_kind"]:List PySem.Str) by decide +kernel) rfl) (fun b=>vH (bU (pcB br T.aG (aa (fv 0) (aa (iV (v:=.ty "str") rfl T.ni (by boot_by_name) rfl) ab))) (fun _=>rfl))) (fun b=>aI (aa (fv 0) (aa (fv 1) (aa (fv 2) ab))))))),Or.inl ⟨⟨_,hL⟩,lg (K:=K) (own:=1) ts isX (fun t y H=>T3R (some (gX N t),into,kd) y H) hL (List.length_map _) (by rw [List.length_map];exact aH (by omega)) ?_ ?_ ?_ ?_⟩⟩
 ·intro b i x e v0 H1 Nn Y hx he hv s1 no yes
  obtain ⟨u0,rfl⟩:∃u0,v0=[u0]:=by
   match v0,hv with
   | [u],_=>exact ⟨u,rfl⟩
  rw [List.getElem?_map,he] at hx
  cases hx
  cases e with
  | i n=>exact ⟨_,_,_,false,rfl,(fun z=>by cases z),.int n,vz,false,rfl,bz (no rfl [some (.int n)] _ rfl (ai.refl _))⟩
  | x a =>
   exact ⟨_,_,_,true,rfl,(fun z=>by cases z),.str _,vt,true,rfl,c0 ⟨by show 3 <= sizeLine;decide,fun tp htp=>yes rfl [some (.str (N a))] _ _ rfl (ai.upd htp _) ⟨tp,rfl,ao⟩⟩⟩
 ·rintro e y H1 H2 s1 ⟨t,e1,h1⟩
  exact ⟨t,e1,s1 _ _ h1⟩
 ·rintro e y H1 D ys zs hD ⟨t,e1,h1⟩
  exact ⟨t,e1,ar (fun z=>by rw [z,hD] at h1;cases h1) h1⟩
 ·intro D H1 ys hD s1 e1 pr
  refine q D ys H1 s1 hD e1 ?_
  rw [AG]
  exact kF _ pr
inductive rg (K:W.Frag) (vs:List V) (H:Hp) (Q:VK) (E9:XK):Prop
 | mk (N:Nat->Str) (p:Addr) (v:Val) (z0:vs=[.ref p]) (z1:SqT K H p (vV N v)) (z3:∀(R:Addr) (H':Hp),ai H H'->H R=none->H' R=some (.lst ((vTh v).map (Th.v N)))->Q (.ref R) H'):rg K vs H Q E9
theorem zC (T:Txt K mg A):T.iO.Hz P w base 1 (rg K):=by
 refine T.iO.hs nD (fun f cdv A' outer s H vs Q E' hr hu h=>?_)
 obtain ⟨N,p,v,rfl,hp,q⟩:=h
 refine ⟨_,(ah (aw (gI (N:=["_law_k","_law_value_here"]) (own:=1) (fr:=[0]) (cc.of (by kernel_rfl!)) rfl (xI rfl T.cC (aa af (aa (pcB gm T.fV (aa (fv 0) ab)) (aa af ab)))) (fun b=>pgn (i:=0) (show List.Nodup (["_law_k","_law_value_here"]:List PySem.Str) by decide +kernel) rfl) (fun b=>mX) (fun b=>px hu (fv 1) (fv 0))))),Or.inl ⟨_,_,rfl,Or.inr ⟨_,hp,rfl⟩,?_⟩⟩
 cases v with
 | one a =>
  refine ⟨_,_,_,rfl,by show Builtin.Range.small 0 1 2=true;decide,by decide,by decide,by show (0:Int) <= Builtin.Range.rangeSize 0 1 2;decide,?_⟩
  rw [show iX 0 (((vV N (.one a)).length:Nat):Int) 2=1 from (by decide:iX 0 1 2=1)]
  refine nz (n:=1) (fun _=>true) (fun _=>a.v N) (by decide) (fun b i H4 R hi s4 k=>k H4 (ai.refl _)) (fun b i H4 R hi _ s4 k=>?_) (fun D H4 hD s4 e4=>q D H4 s4 hD e4)
  have i0:i=0:=by omega
  subst i0
  exact tix (j:=0) (s4.tup hp) rfl (k H4 (ai.refl _))
 | op a x b =>
  refine ⟨_,_,_,rfl,by show Builtin.Range.small 0 3 2=true;decide,by decide,by decide,by show (0:Int) <= Builtin.Range.rangeSize 0 3 2;decide,?_⟩
  rw [show iX 0 (((vV N (.op a x b)).length:Nat):Int) 2=2 from (by decide:iX 0 3 2=2)]
  refine nz (n:=2) (fun _=>true) (fun i=>if i=0 then a.v N else b.v N) (by decide) (fun b i H4 R hi s4 k=>k H4 (ai.refl _)) (fun b' i H4 R hi _ s4 k=>?_) (fun D H4 hD s4 e4=>q D H4 s4 hD e4)
  have i0:i=0 \/ i=1:=by omega
  rcases i0 with rfl | rfl
  ·exact tix (j:=0) (s4.tup hp) rfl (k H4 (ai.refl _))
  ·exact tix (j:=2) (s4.tup hp) rfl (k H4 (ai.refl _))
end
section
variable {P:Program}{w:World}{K:W.Frag}{mg:Str->Option Value}{base:Heap}{A:Adr}{N:Nat->Str}
seal PE PA PS PSs PT PW
theorem qf {K:W.Frag}{i:Nat}{p:Addr}{a c:Str}{r:List V}{B U:TS}{D:Ends}{σ:St}{H:Hp} (hv:σ[i]?=some (some (.ref p))) (hT:SqT K H p (.str a :: r)) (k:U D σ H) (ne:¬ a=c:=by decide):yd (yr (q4 (tOp (CM K) (tOp (AN K) (xQ i) (tC (.int 0))) (tC (.str c)))) B Ar) U D σ H:=by
 unfold yd yr q4 tOp xQ
 rw [hv]
 exact tix (j:=0) hT rfl ⟨rfl,_,rfl,aU (fun z=>absurd (V.str.inj (of_decide_eq_true z)) ne) fun _=>k⟩
theorem nu {K:W.Frag}{i:Nat}{p:Addr}{a:Str}{r:List V}{B U:TS}{D:Ends}{σ:St}{H:Hp} (hv:σ[i]?=some (some (.ref p))) (hT:SqT K H p (.str a :: r)) (k:B { D with nx:=U D } σ H):yd (yr (q4 (tOp (CM K) (tOp (AN K) (xQ i) (tC (.int 0))) (tC (.str a)))) B Ar) U D σ H:=by
 unfold yd yr q4 tOp xQ
 rw [hv]
 exact tix (j:=0) hT rfl ⟨rfl,_,rfl,aU (fun _=>k) fun z=>absurd (decide_eq_true rfl) z⟩
abbrev un (pl:Option Str) (x:Str):T3:=(pl,x,"under")
def clT (N:Nat->Str) (pl:Option Str) (l:List (Th × Str)):List T3:=l.flatMap fun e=>told N [e.1] e.2 "value" ++ [un pl e.2]
def ofR (N:Nat->Str) (po:Str->List Str) (f:Fr) (here:Str) (pl:Option Str) (lv:Str):List T3:=match f with
 | .leaf (.set x v)=>told N (vTh v) (N x) "value" ++ [un pl (N x)]
 | .leaf (.put x p v)=>told N (p :: vTh v) (N x) "value" ++ [un pl (N x)]
 | .leaf (.snd _ v)=>told N (vTh v) here "value" ++ [un pl here]
 | .leaf (.say x _ m)=>[(some (N m),N x,("value":Str)),un pl (N x),un pl here]
 | .leaf (.call i ts)=>un pl (N i) :: clT N pl (ts.zip (po (N i)))
 | .leaf .last=>[un pl lv]
 | .iff v _ _=>told N (vTh v) here "test" ++ [un pl here]
 | .loop t _ _ _=>told N [t] here "test" ++ [un pl here]
 | _=>[]
theorem dy (ts:List Th) (into kd:Str):(told N ts into kd).length <= ts.length:=List.length_filterMap_le _ _
def Ef (N:Nat->Str) (X H:Hp) (D:Addr) (po:Str->List Str):Fr->Prop
 | .leaf (.call i ts)=>∃kvs pp,H D=some (.dK kvs)/\L2.bX kvs (.inr (N i))=some (.ref pp)/\X pp=some (.lst (sS (po (N i))))/\ts.length=(po (N i)).length/\(po (N i)).length <= 4
 | _=>True
inductive yX (K:W.Frag) (vs:List V) (H:Hp) (Q:VK) (E9:XK):Prop
 | mk (N:Nat->Str) (X:Hp) (v:V) (f:Fr) (here:Str) (pl:Option Str) (lv:Str) (D:Addr) (po:Str->List Str) (z0:vs=[v,.str here,oS pl,.str lv,.ref D]) (z1:ai X H) (z2:jv N X v f) (z3:isB f=true) (z4:Ef N X H D po f)
  (z5:∀(R:Addr) (ys:List V) (H':Hp),ai H H'->H R=none->H' R=some (.lst ys)->T3s H' (ofR N po f here pl lv) ys->Q (.ref R) H'):yX K vs H Q E9
theorem Fo (T:Txt K mg A):T.kK.Hz P w base 2 (yX K):=by
 have D_law_told:=AJ (P:=P) (w:=w) (base:=base) T
 have D_law_in_value:=zC (P:=P) (w:=w) (base:=base) T
 refine T.kK.hs (k:=1) dN (fun f' cdv A' outer s H vs Q E hr hu h=>?_)
 obtain ⟨N,X,v,f,here,pl,lv,D,po,rfl,s0,⟨a,p,rfl,ha,hob⟩,hb,hc,q⟩:=h
 have hT:=SqT.of (K:=K) (s0 _ _ ha)
 refine ⟨_,(ae (aL (ptc (bE hu) (px hu (fv 0) af) aj)
   (ah (aw (au aK (ak D_law_told hr (aa (ak D_law_in_value hr (aa (px hu (fv 0) af) ab)) (aa (px hu (fv 0) af) (aa aj ab)))) (aC (aa (aI (aa (fv 2) (aa (px hu (fv 0) af) (aa aj ab)))) ab)))))
   aB)
  (ae (aL (ptc (bE hu) (px hu (fv 0) af) aj)
   (ah (aw (au aK (ak D_law_told hr (aa (au aK (aC (aa (px hu (fv 0) af) ab)) (ak D_law_in_value hr (aa (px hu (fv 0) af) ab))) (aa (px hu (fv 0) af) (aa aj ab)))) (aC (aa (aI (aa (fv 2) (aa (px hu (fv 0) af) (aa aj ab)))) ab)))))
   aB)
  (ae (aL (ptc (bE hu) (px hu (fv 0) af) aj)
   (ah (aw (au aK (ak D_law_told hr (aa (ak D_law_in_value hr (aa (px hu (fv 0) af) ab)) (aa (fv 1) (aa aj ab)))) (aC (aa (aI (aa (fv 2) (aa (fv 1) (aa aj ab)))) ab)))))
   aB)
  (ae (aL (ptc (bE hu) (px hu (fv 0) af) aj)
   (ah (aw (aC (aa (aI (aa (px hu (fv 0) af) (aa (px hu (fv 0) af) (aa aj ab)))) (aa (aI (aa (fv 2) (aa (px hu (fv 0) af) (aa aj ab)))) (aa (aI (aa (fv 2) (aa (fv 1) (aa aj ab)))) ab))))))
   aB)
  (ae (aL (ptc (bE hu) (px hu (fv 0) af) aj)
   (ah (aw (au aK (ak D_law_told hr (aa (ak D_law_in_value hr (aa (px hu (fv 0) af) ab)) (aa (fv 1) (aa aj ab)))) (aC (aa (aI (aa (fv 2) (aa (fv 1) (aa aj ab)))) ab)))))
   aB)
  (ae (aL (ptc (bE hu) (px hu (fv 0) af) aj)
   (ah (aw (au aK (ak D_law_told hr (aa (aC (aa (px hu (fv 0) af) ab)) (aa (fv 1) (aa aj ab)))) (aC (aa (aI (aa (fv 2) (aa (fv 1) (aa aj ab)))) ab)))))
   aB)
  (ae (aL (ptc (bE hu) (px hu (fv 0) af) aj)
   (ah (aw (aC (aa (aI (aa (fv 2) (aa (fv 3) (aa aj ab)))) ab))))
   aB)
  (ae (pst 5 dN.nd (aC (aa (aI (aa (fv 2) (aa (px hu (fv 0) af) (aa aj ab)))) ab)))
  (ae (cy PassesOwn.never rfl (cv rfl T.cC (aa (pcB gm T.fV (aa (px hu (fv 0) af) ab)) ab)) (pgn (i:=6) dN.nd rfl)
   (ah (pst 5 dN.nd (au aK (au aK (fv 5) (ak D_law_told hr (aa (aC (aa (px hu (px hu (fv 0) af) (fv 6)) ab)) (aa (px hu (px hu (fv 4) (px hu (fv 0) af)) (fv 6)) (aa aj ab))))) (aC (aa (aI (aa (fv 2) (aa (px hu (px hu (fv 4) (px hu (fv 0) af)) (fv 6)) (aa aj ab)))) ab))))))
  (ah (aw (fv 5)))))))))))),?_⟩
 have jn:∀{R1:Addr}{y1:List V}{H1:Hp}{ts:List T3} (into:Str),ai H H1->H1 R1=some (.lst y1)->T3s H1 ts y1->ts.length <= 10->(∀(R:Addr) (ys:List V) (H':Hp),ai H H'->H R=none->H' R=some (.lst ys)->T3s H' (ts ++ [un pl into]) ys->Q (.ref R) H') ->
   3 <= sizeLine/\∀tp,H1 tp=none->1 <= sizeLine/\∀l,upd H1 tp (.tup [oS pl,.str into,.str "under"]) l=none->yu (.ref R1) (.ref l) (upd (upd H1 tp (.tup [oS pl,.str into,.str "under"])) l (.lst [.ref tp])) Q:=by
  intro R1 y1 H1 ts into s1 e1 l1 ll qq
  refine ⟨by decide,fun tp htp=>⟨by decide,fun l hl=>?_⟩⟩
  obtain ⟨s2,e2⟩:=alc htp (HO.tup [oS pl,.str into,.str "under"])
  generalize upd H1 tp _=H2 at s2 e2 hl ⊢
  obtain ⟨s3,e3⟩:=alc hl (HO.lst [.ref tp])
  generalize upd H2 l _=H3 at s3 e3 ⊢
  have ly:=Paired.length l1
  refine ⟨R1,l,_,_,rfl,rfl,(s2.trans s3) _ _ e1,e3,sz (by rw [List.length_singleton];omega),fun R hR=>?_⟩
  have s4:=ai.upd hR (.lst (y1 ++ [V.ref tp]))
  have s14:=s2.trans (s3.trans s4)
  refine qq R _ _ (s1.trans s14) (ai.free (s1.trans (s2.trans s3)) hR) ao (Paired.two (l1.same s14) (.cons (show T3R (un pl into) _ _ from ⟨tp,rfl,(s3.trans s4) _ _ e2⟩) .nil))
 have vl:∀v:Val,(vTh v).length <= 2:=dv
 cases f with
 | iff vv l r =>
  have hp:=SqT.of (K:=K) (s0 _ _ (hob _ rfl))
  iterate 4 refine qf (a:="if") rfl hT ?_
  refine nu rfl hT (tix (j:=1) hT rfl ⟨N,p,vv,rfl,hp,fun R1 H1 s1 f1 e1=>⟨N,R1,vTh vv,here,"test",rfl,SqL.of e1,Nat.le_trans (vl vv) (by decide),fun R2 y2 H2 s2 f2 e2 l2=>jn here (s1.trans s2) e2 l2 (Nat.le_trans (dy _ _ _) (Nat.le_trans (vl vv) (by decide))) q⟩⟩)
 | loop t m l r =>
  iterate 5 refine qf (a:="loop") rfl hT ?_
  refine nu rfl hT (tix (j:=1) hT rfl ⟨by show 1 <= sizeLine;decide,fun R1 f1=>?_⟩)
  have s1:=ai.upd f1 (.lst [t.v N])
  exact ⟨N,R1,[t],here,"test",rfl,SqL.of ao,by simp,fun R2 y2 H2 s2 f2 e2 l2=>jn here (s1.trans s2) e2 l2 (Nat.le_trans (dy _ _ _) (by simp)) q⟩
 | leaf r =>
  cases r with
  | set x vv =>
   have hp:=SqT.of (K:=K) (s0 _ _ (hob _ rfl))
   exact nu rfl hT (tix (j:=2) hT rfl ⟨N,p,vv,rfl,hp,fun R1 H1 s1 f1 e1=>tix (j:=1) (s1.tup hT) rfl ⟨N,R1,vTh vv,N x,"value",rfl,SqL.of e1,Nat.le_trans (vl vv) (by decide),fun R2 y2 H2 s2 f2 e2 l2=>tix (j:=1) ((s1.trans s2).tup hT) rfl (jn (N x) (s1.trans s2) e2 l2 (Nat.le_trans (dy _ _ _) (Nat.le_trans (vl vv) (by decide))) q)⟩⟩)
  | put x pt vv =>
   have hp:=SqT.of (K:=K) (s0 _ _ (hob _ rfl))
   refine qf (a:="put") rfl hT (nu rfl hT (tix (j:=2) hT rfl ⟨by show 1 <= sizeLine;decide,fun R0 f0=>?_⟩))
   obtain ⟨s1,e1⟩:=alc f0 (HO.lst [pt.v N])
   generalize upd H R0 _=H1 at s1 e1 ⊢
   refine tix (j:=3) (s1.tup hT) rfl ⟨N,p,vv,rfl,s1.tup hp,fun R1 H2 s2 f2 e2=>⟨R0,R1,_,_,rfl,rfl,s2 _ _ e1,e2,sz (by rw [List.length_map,List.length_singleton];have:=vl vv;omega),fun R3 hR3=>?_⟩⟩
   obtain ⟨s3,e3⟩:=alc hR3 (HO.lst ([pt.v N] ++ (vTh vv).map (Th.v N)))
   generalize upd H2 R3 _=H3 at s3 e3 ⊢
   have t3:=s1.trans (s2.trans s3)
   exact tix (j:=1) (t3.tup hT) rfl ⟨N,R3,pt :: vTh vv,N x,"value",rfl,SqL.of e3,by rw [List.length_cons];have:=vl vv;omega,fun R2 y2 H4 s4 f4 e4 l4=>tix (j:=1) ((t3.trans s4).tup hT) rfl (jn (N x) (t3.trans s4) e4 l4 (Nat.le_trans (dy _ _ _) (by rw [List.length_cons];have:=vl vv;omega)) q)⟩
  | snd x vv =>
   have hp:=SqT.of (K:=K) (s0 _ _ (hob _ rfl))
   iterate 2 refine qf (a:="send") rfl hT ?_
   refine nu rfl hT (tix (j:=2) hT rfl ⟨N,p,vv,rfl,hp,fun R1 H1 s1 f1 e1=>⟨N,R1,vTh vv,here,"value",rfl,SqL.of e1,Nat.le_trans (vl vv) (by decide),fun R2 y2 H2 s2 f2 e2 l2=>jn here (s1.trans s2) e2 l2 (Nat.le_trans (dy _ _ _) (Nat.le_trans (vl vv) (by decide))) q⟩⟩)
  | say x vv m =>
   iterate 3 refine qf (a:="say") rfl hT ?_
   refine nu rfl hT (tix (j:=3) hT rfl (tix (j:=1) hT rfl ⟨by show 3 <= sizeLine;decide,fun t1 h1=>?_⟩))
   obtain ⟨s1,e1⟩:=alc h1 (HO.tup [V.str (N m),.str (N x),.str "value"])
   generalize upd H t1 _=H1 at s1 e1 ⊢
   refine tix (j:=1) (s1.tup hT) rfl ⟨by show 3 <= sizeLine;decide,fun t2 h2=>?_⟩
   obtain ⟨s2,e2⟩:=alc h2 (HO.tup [oS pl,.str (N x),.str "under"])
   generalize upd H1 t2 _=H2 at s2 e2 ⊢
   refine ⟨by show 3 <= sizeLine;decide,fun t3 h3=>?_⟩
   obtain ⟨s3,e3⟩:=alc h3 (HO.tup [oS pl,.str here,.str "under"])
   generalize upd H2 t3 _=H3 at s3 e3 ⊢
   refine ⟨by show 3 <= sizeLine;decide,fun R hR=>?_⟩
   have s4:=ai.upd hR (.lst [V.ref t1,.ref t2,.ref t3])
   exact q R _ _ (s1.trans (s2.trans (s3.trans s4))) (ai.free (s1.trans (s2.trans s3)) hR) ao (.cons ⟨t1,rfl,(s2.trans (s3.trans s4)) _ _ e1⟩ (.cons ⟨t2,rfl,(s3.trans s4) _ _ e2⟩ (.cons ⟨t3,rfl,s4 _ _ e3⟩ .nil)))
  | last =>
   iterate 6 refine qf (a:="last") rfl hT ?_
   refine nu rfl hT ⟨by show 3 <= sizeLine;decide,fun t1 h1=>?_⟩
   obtain ⟨s1,e1⟩:=alc h1 (HO.tup [oS pl,.str lv,.str "under"])
   generalize upd H t1 _=H1 at s1 e1 ⊢
   refine ⟨by show 1 <= sizeLine;decide,fun R hR=>?_⟩
   have s4:=ai.upd hR (.lst [V.ref t1])
   exact q R _ _ (s1.trans s4) (ai.free s1 hR) ao (.cons ⟨t1,rfl,s4 _ _ e1⟩ .nil)
  | call i ts =>
   have hp:=s0 _ _ (hob _ rfl)
   obtain ⟨kvs,pp,hD,hv,hpp,tl,pl4⟩:=hc
   iterate 7 refine qf (a:="call") rfl hT ?_
   refine ag fun M1 K1=>tix (j:=1) hT rfl ⟨by show 3 <= sizeLine;decide,fun t1 h1=>?_⟩
   obtain ⟨s1,e1⟩:=alc h1 (HO.tup [oS pl,.str (N i),.str "under"])
   generalize upd H t1 _=H1 at s1 e1 ⊢
   refine ⟨by show 1 <= sizeLine;decide,fun R hR=>?_⟩
   obtain ⟨s2,e2⟩:=alc hR (HO.lst [V.ref t1])
   generalize upd H1 R _=H2 at s2 e2 ⊢
   have t2:=s1.trans s2
   refine K1 _ _ ?_
   clear K1 M1
   try dsimp only
   refine ag fun M1 K1=>tix (j:=2) (t2.tup hT) rfl (lnl (t2 _ _ hp) ⟨_,rfl,by rw [List.length_map];omega,by rw [List.length_map];omega,?_⟩)
   rw [show (((ts.map (Th.v N)).length:Nat):Int).toNat=ts.length by rw [List.length_map];simp]
   refine fD (fun j σ Hc=>∃(R:Addr) (ys:List V) (v6:Option V),σ=[some (.ref a),some (.str here),some (oS pl),some (.str lv),some (.ref D),some (.ref R),v6]/\ai H Hc/\H R=none/\Hc R=some (.lst ys)/\T3s Hc (un pl (N i) :: clT N pl ((ts.zip (po (N i))).take j)) ys) ⟨R,_,none,rfl,t2,ai.free s1 hR,e2,.cons ⟨t1,rfl,s2 _ _ e1⟩ (by rw [List.take_zero];exact .nil)⟩ ?_ ?_
   ·rintro j σ Hc hj ⟨R,ys,v6,rfl,sc,hR0,hRc,l3⟩
    have ej:(0:Int) + (j:Int)=(j:Int):=by omega
    rw [ej]
    obtain ⟨th,hth⟩:∃th,ts[j]?=some th:=⟨_,List.getElem?_eq_getElem hj⟩
    obtain ⟨pn,hpn⟩:∃pn,(po (N i))[j]?=some pn:=⟨_,List.getElem?_eq_getElem (by omega)⟩
    have st:clT N pl ((ts.zip (po (N i))).take (j + 1))=clT N pl ((ts.zip (po (N i))).take j) ++ (told N [th] pn "value" ++ [un pl pn]):=by
     have hz:(ts.zip (po (N i)))[j]?=some (th,pn):=List.getElem?_zip_eq_some.mpr ⟨hth,hpn⟩
     exact j9 (fun e:Th × Str=>told N [e.1] e.2 "value" ++ [un pl e.2]) hz
    have lc:(clT N pl ((ts.zip (po (N i))).take j)).length <= 2 * j:=by
     refine Nat.le_trans (va _ 2 _ fun e he=>?_) (by rw [List.length_take];exact Nat.mul_le_mul_left 2 (Nat.min_le_left _ _))
     have:=dy (N:=N) [e.1] e.2 "value"
     rw [List.length_append,List.length_singleton]
     rw [List.length_singleton] at this
     omega
    have ly:=Paired.length l3
    rw [List.length_cons] at ly
    have hpc:=sc _ _ hp
    have g1:(ts.map (Th.v N))[j]?=some (th.v N):=by rw [List.getElem?_map,hth];rfl
    have g2:(sS (po (N i)))[j]?=some (.str pn):=by rw [List.getElem?_map,hpn];rfl
    try dsimp only
    refine tix (j:=2) (sc.tup hT) rfl (lxn (SqL.of hpc) g1 ⟨by show 1 <= sizeLine;decide,fun q1 hq1=>?_⟩)
    obtain ⟨s3,e3⟩:=alc hq1 (HO.lst [th.v N])
    generalize upd Hc q1 _=H3 at s3 e3 ⊢
    have c3:=sc.trans s3
    refine tix (j:=1) (c3.tup hT) rfl (dgk (c3 _ _ hD) hv (lxn (SqL.of ((s0.trans c3) _ _ hpp)) g2 ⟨N,q1,[th],pn,"value",rfl,SqL.of e3,by simp,fun R2 y2 H4 s4 f4 e4 l4=>?_⟩))
    have l4':=Paired.length l4
    have tl1:=dy (N:=N) [th] pn "value"
    rw [List.length_singleton] at tl1
    have c4:=c3.trans s4
    refine ⟨R,R2,_,_,rfl,rfl,(s3.trans s4) _ _ hRc,e4,sz (by omega),fun R3 hR3=>?_⟩
    obtain ⟨s5,e5⟩:=alc hR3 (HO.lst (ys ++ y2))
    generalize upd H4 R3 _=H5 at s5 e5 ⊢
    have c5:=c4.trans s5
    refine tix (j:=1) (c5.tup hT) rfl (dgk (c5 _ _ hD) hv (lxn (SqL.of ((s0.trans c5) _ _ hpp)) g2 ⟨by show 3 <= sizeLine;decide,fun t6 h6=>?_⟩))
    obtain ⟨s6,e6⟩:=alc h6 (HO.tup [oS pl,.str pn,.str "under"])
    generalize upd H5 t6 _=H6 at s6 e6 ⊢
    refine ⟨by show 1 <= sizeLine;decide,fun l7 h7=>?_⟩
    obtain ⟨s7,e7⟩:=alc h7 (HO.lst [V.ref t6])
    generalize upd H6 l7 _=H7 at s7 e7 ⊢
    have c7:=c5.trans (s6.trans s7)
    refine ⟨R3,l7,_,_,rfl,rfl,(s6.trans s7) _ _ e5,e7,sz (by rw [List.length_append,List.length_singleton];omega),fun R8 hR8=>?_⟩
    have s8:=ai.upd hR8 (.lst (ys ++ y2 ++ [V.ref t6]))
    refine ⟨R8,_,_,rfl,c7.trans s8,ai.free c7 hR8,ao,?_⟩
    rw [st,<- List.cons_append,<- List.append_assoc]
    exact Paired.two (Paired.two (l3.same (s3.trans (s4.trans (s5.trans (s6.trans (s7.trans s8)))))) (l4.same (s5.trans (s6.trans (s7.trans s8))))) (.cons ⟨t6,rfl,(s7.trans s8) _ _ e6⟩ .nil)
   rintro σ Hc ⟨R,ys,v6,rfl,sc,hR0,hRc,l3⟩
   rw [List.take_of_length_le (by rw [List.length_zip];omega)] at l3
   exact K1 _ _ (q R ys Hc sc hR0 hRc l3)
  | _=>cases hb
 | _=>cases hb
end
section
variable {P:Program}{w:World}{K:W.Frag}{mg:Str->Option Value}{base:Heap}{A:Adr}{N:Nat->Str}
seal PE PA PS PSs PT PW
theorem vX {X H:Hp}{R:Addr} (s:ai X H) (h:X R=none) (o:HO):ai X (upd H R o):=fun a u e=>ar (fun z=>by rw [z,h] at e;cases e) (s a u e)
def stA (N:Nat->Str):List (Option Str)->Int->List Fr->List (Option Str)
 | s,_,[]=>s
 | s,n,f :: fs=>stA N (stp N s n f) (n + 1) fs
def lsA:List Str->Int->List Fr->List Str
 | l,_,[]=>l
 | l,n,f :: fs=>lsA (iw l n f) (n + 1) fs
theorem ua (f:Fr):∀(xs:List Fr) (s:List (Option Str)) (n:Int),stA N s n (xs ++ [f])=stp N (stA N s n xs) (n + (xs.length:Nat)) f
 | [],s,n=>by show stp N s n f=stp N s (n + ((0:Nat):Int)) f;rw [show n + ((0:Nat):Int)=n by omega]
 | x :: xs,s,n=>by
  show stA N (stp N s n x) (n + 1) (xs ++ [f])=stp N (stA N (stp N s n x) (n + 1) xs) _ f
  rw [ua f xs,List.length_cons,show n + 1 + ((xs.length:Nat):Int)=n + ((xs.length + 1:Nat):Int) by omega]
theorem tX (f:Fr):∀(xs:List Fr) (s:List Str) (n:Int),lsA s n (xs ++ [f])=iw (lsA s n xs) (n + (xs.length:Nat)) f
 | [],s,n=>by show iw s n f=iw s (n + ((0:Nat):Int)) f;rw [show n + ((0:Nat):Int)=n by omega]
 | x :: xs,s,n=>by
  show lsA (iw s n x) (n + 1) (xs ++ [f])=iw (lsA (iw s n x) (n + 1) xs) _ f
  rw [tX f xs,List.length_cons,show n + 1 + ((xs.length:Nat):Int)=n + ((xs.length + 1:Nat):Int) by omega]
theorem oM (f:Fr):∀(xs:List Fr) (s:List (Option Str)) (l:List Str) (n:Int),aO N s l n (xs ++ [f])=aO N s l n xs ++ (if isB f=true then [(f,n + (xs.length:Nat),(stA N s n xs).headD none,(lpO (lsA l n xs)).getD Str.empty)] else [])
 | [],s,l,n=>by
  show (if isB f=true then _ else _) ++ []=[] ++ _
  rw [List.append_nil,List.nil_append]
  show _=if isB f=true then [(f,n + ((0:Nat):Int),s.headD none,(lpO l).getD Str.empty)] else []
  rw [show n + ((0:Nat):Int)=n by omega]
 | x :: xs,s,l,n=>by
  show _ ++ aO N (stp N s n x) (iw l n x) (n + 1) (xs ++ [f])=(_ ++ aO N (stp N s n x) (iw l n x) (n + 1) xs) ++ _
  rw [oM f xs,List.length_cons,<- List.append_assoc,show n + 1 + ((xs.length:Nat):Int)=n + ((xs.length + 1:Nat):Int) by omega]
  rfl
theorem BV {f:Fr}:∀{fs:List Fr}{s:List (Option Str)}{n:Int}{i:Nat},gd N s n fs->fs[i]?=some f->isB f=true \/ f=.fin->stA N s n (fs.take i) ≠ []
 | x :: fs,s,n,0,g,h,hf=>by
  cases h
  exact g.1 hf
 | x :: fs,s,n,i + 1,g,h,hf=>BV (fs:=fs) g.2 h hf
theorem j6 {α:Type}{xs:List α}{i:Nat}{x:α} (h:xs[i]?=some x):xs.take (i + 1)=xs.take i ++ [x]:=by rw [List.take_add_one,h];rfl
def laA (N:Nat->Str) (fs:List Fr):Nat->List (Option Str)
 | 0=>[]
 | i + 1=>laA N fs i ++ [if isB (fs.getD i .fin)=true then (stA N [] 1 (fs.take i)).headD none else none]
theorem lL (fs:List Fr):∀i,(laA N fs i).length=i
 | 0=>rfl
 | i + 1=>by rw [laA,List.length_append,lL fs i,List.length_singleton]
theorem wI {fs:List Fr}{i:Nat}{f:Fr} (h:fs[i]?=some f):∀{n:Nat},i < n->(laA N fs n)[i]?=some (if isB f=true then (stA N [] 1 (fs.take i)).headD none else none)
 | n + 1,hn=>by
  rw [laA]
  by_cases e:i=n
  ·subst e
   rw [List.getElem?_append_right (by rw [lL];omega),lL,Nat.sub_self,List.getD_eq_getElem?_getD,h]
   rfl
  ·rw [List.getElem?_append_left (by rw [lL];omega)]
   exact wI h (by omega)
def nhF:Fr->Bool
 | .els=>true
 | .leaf r=>decide (r.ci < 5)
 | _=>false
theorem Fh (f:Fr):inV (V.str f.wd) [V.str "else",V.str "hand",V.str "given",V.str "own",V.str "let"]=nhF f:=by
 cases f with
 | leaf r=>cases r <;> rfl
 | _=>rfl
def ilF:Fr->Bool
 | .iff _ _ _=>true
 | .loop _ _ _ _=>true
 | _=>false
theorem Fq (f:Fr):inV (V.str f.wd) [V.str "if",V.str "loop"]=ilF f:=by
 cases f with
 | leaf r=>cases r <;> rfl
 | _=>rfl
def yB:Fr->Bool
 | .fin=>true
 | _=>false
theorem vM (f:Fr):decide (f.wd="end")=yB f:=by
 cases f with
 | leaf r=>cases r <;> rfl
 | _=>rfl
def r9 (N:Nat->Str) (s:List (Option Str)):Fr->List (Option Str)
 | .aR i _=>[some (N i)]
 | .main=>[none]
 | .fin=>s.tail
 | _=>s
theorem zW (s:List (Option Str)) (n:Int) (f:Fr):stp N s n f=if ilF f=true then some (aZ n) :: r9 N s f else r9 N s f:=by cases f <;> rfl
theorem xu (n:Int):("row ":Str) ++ Str.ofString (toString n)=aZ n:=by
 unfold aZ
 rw [show Str.empty ++ ("row ":Str)="row " from by decide]
theorem rR {n:Nat} (h:n <= 1000):(n:Int).natAbs.log2 < 1920/\("row ":Str).length + (Str.ofString (toString (n:Int))).length <= sizeLine:=by
 obtain ⟨k1,k2,_⟩:=qV ⟨n,by omega⟩
 exact ⟨k1,Nat.le_trans (Nat.add_le_add_left k2 _) (by decide)⟩
theorem zq {s:List (Option Str)} (h:s ≠ []):s.reverse.map oS=s.tail.reverse.map oS ++ [oS (s.headD none)]:=by
 cases s with
 | nil=>exact absurd rfl h
 | cons x s=>simp
theorem Aq (s:List (Option Str)) (f:Fr):(r9 N s f).length <= s.length + 1:=by
 cases f with
 | aR _ _=>exact Nat.succ_le_succ (Nat.zero_le _)
 | main=>exact Nat.succ_le_succ (Nat.zero_le _)
 | fin =>
  show s.tail.length <= _
  rw [List.length_tail]
  omega
 | _=>exact Nat.le_succ _
theorem wH:∀(xs:List Fr) (s:List (Option Str)) (n:Int),(stA N s n xs).length <= s.length + xs.length
 | [],s,n=>Nat.le_refl _
 | x :: xs,s,n=>by
  have h:=wH xs (stp N s n x) (n + 1)
  have h1:(stp N s n x).length <= s.length + 1:=by
   cases x with
   | aR _ _=>exact Nat.succ_le_succ (Nat.zero_le _)
   | main=>exact Nat.succ_le_succ (Nat.zero_le _)
   | fin =>
    show s.tail.length <= _
    rw [List.length_tail]
    omega
   | iff _ _ _=>exact Nat.le_refl _
   | loop _ _ _ _=>exact Nat.le_refl _
   | _=>exact Nat.le_succ _
  rw [List.length_cons]
  show (stA N (stp N s n x) (n + 1) xs).length <= _
  omega
inductive tq (vs:List V) (H:Hp) (Q:VK) (E9:XK):Prop
 | mk (N:Nat->Str) (X:Hp) (L:Addr) (xs:List V) (fs:List Fr) (z0:vs=[.ref L]) (z1:ai X H) (z2:X L=some (.lst xs)) (z3:bh N X fs xs) (z4:gd N [] 1 fs) (z5:xs.length <= 300)
  (z6:∀(R:Addr) (H':Hp),ai H H'->H R=none->H' R=some (.lst ((laA N fs fs.length).map oS))->Q (.ref R) H'):tq vs H Q E9
theorem Be (T:Txt K mg A):T.pU.Hz P w base 1 tq:=by
 refine T.pU.hs cX (fun f' cdv A' outer s H vs Q E' hr hu h=>?_)
 obtain ⟨N,X,L,xs,fs,rfl,s0,hL,fr,hg,lx,q⟩:=h
 have lf:=Paired.length fr
 refine ⟨_,(ae (pst 1 cX.nd (aC ab))
  (ae (pst 2 cX.nd (aC ab))
  (ae (cy PassesOwn.never rfl (cv rfl T.cC (aa (pcB gm T.fV (aa (fv 0) ab)) ab)) (pgn (i:=3) cX.nd rfl)
   (ae (pst 4 cX.nd (px hu (fv 0) (fv 3)))
   (ae (aL (ptc (tM hu) (px hu (fv 4) af) (aI (aa aj (aa aj ab))) ((by with_unfolding_all rfl)))
    (ae (pst 2 cX.nd (aC (aa (uC (ptc (bE hu) (px hu (fv 4) af) aj) (px hu (fv 4) af) cB) ab)))
    (ah (aE (aT (fv 1) (aa cB ab)))))
    (ah (aL (ptc (tM hu) (px hu (fv 4) af) (aI (aa aj (aa aj (aa aj (aa aj (aa aj ab)))))) ((by with_unfolding_all rfl)))
     (ah (aE (aT (fv 1) (aa cB ab))))
     (ah (aL (ptc (bE hu) (px hu (fv 4) af) aj)
      (ae (aE (uR (fv 2)))
      (ah (aE (aT (fv 1) (aa cB ab)))))
      (ah (aE (aT (fv 1) (aa (px hu (fv 2) (jy gu af)) ab)))))))))
   (ah (aL (ptc (tM hu) (px hu (fv 4) af) (aI (aa aj (aa aj ab))) ((by with_unfolding_all rfl)))
    (ah (aE (aT (fv 2) (aa (au aK aj (pcT zg T.ni (aa (au aK (fv 3) af) ab))) ab))))
    aB)))))
  (ah (aw (fv 1)))))),?_⟩
 refine ag fun M1 K1=>⟨Nat.zero_le _,fun R hR=>?_⟩
 obtain ⟨s1,e1⟩:=alc hR (HO.lst [])
 generalize upd H R _=H1 at s1 e1 ⊢
 refine K1 _ _ ?_
 clear K1 M1
 try dsimp only
 refine ag fun M1 K1=>⟨Nat.zero_le _,fun S hS=>?_⟩
 obtain ⟨s2,e2⟩:=alc hS (HO.lst [])
 have RS:R ≠ S:=fun z=>by rw [<- z,e1] at hS;cases hS
 generalize upd H1 S _=H2 at s2 e2 ⊢
 refine K1 _ _ ?_
 clear K1 M1
 try dsimp only
 refine ag fun M1 K1=>lnl ((s0.trans (s1.trans s2)) _ _ hL) ⟨_,rfl,by omega,by omega,?_⟩
 rw [show ((xs.length:Nat):Int).toNat=fs.length by rw [lf];simp]
 refine fD (fun i σ Hc=>∃(S:Addr) (v3 v4:Option V),σ=[some (.ref L),some (.ref R),some (.ref S),v3,v4]/\ai H Hc/\H S=none/\R ≠ S/\Hc R=some (.lst ((laA N fs i).map oS))/\Hc S=some (.lst ((stA N [] 1 (fs.take i)).reverse.map oS))) ⟨S,none,none,rfl,s1.trans s2,ai.free s1 hS,RS,s2 _ _ e1,by rw [List.take_zero];exact e2⟩ ?_ ?_
 ·clear S hS e2 RS s2 H2 e1 s1 H1 K1
  rintro i σ Hc hi ⟨S,v3,v4,rfl,sc,HS,RS,hRc,hSc⟩
  have ej:(0:Int) + (i:Int)=(i:Int):=by omega
  rw [ej]
  obtain ⟨f,hf⟩:∃f,fs[i]?=some f:=⟨_,List.getElem?_eq_getElem hi⟩
  obtain ⟨v,hv,a,p,rfl,ha,hob⟩:=iJ (i:=i) (a:=f) fr hf
  have sX:=s0.trans sc
  have st1:stA N [] 1 (fs.take (i + 1))=stp N (stA N [] 1 (fs.take i)) ((i:Int) + 1) f:=by
   rw [j6 hf,ua,List.length_take,Nat.min_eq_left (Nat.le_of_lt hi),Int.add_comm]
  have la1:(laA N fs (i + 1)).map oS=(laA N fs i).map oS ++ [oS (if isB f=true then (stA N [] 1 (fs.take i)).headD none else none)]:=by
   rw [laA,List.map_append,List.getD_eq_getElem?_getD,hf]
   rfl
  have lla:=lL (N:=N) fs i
  have gda:=BV (i:=i) hg hf
  have lss:=wH (N:=N) (fs.take i) [] 1
  rw [List.length_take,List.length_nil] at lss
  generalize stA N [] 1 (fs.take i)=ss at st1 la1 hSc gda lss ⊢
  generalize laA N fs i=la at la1 hRc lla ⊢
  try dsimp only
  refine ag fun M2 K2=>lxn (SqL.of (sX _ _ hL)) hv (K2 _ _ ?_)
  clear K2 M2
  try dsimp only
  refine ag fun M2 K2=>?_
  have fin:∀(S':Addr) (Hd:Hp),ai H Hd->H S'=none->R ≠ S'->Hd R=some (.lst (la.map oS ++ [oS (if isB f=true then ss.headD none else none)]))->Hd S'=some (.lst ((r9 N ss f).reverse.map oS))->M2 [some (.ref L),some (.ref R),some (.ref S'),some (.int i),some (.ref a)] Hd:=by
   intro S' Hd sd HS' RS' hRd hSd
   refine K2 _ _ (tix (j:=0) (SqT.of ((s0.trans sd) _ _ ha)) rfl ⟨by show 2 <= sizeLine;decide,fun tp htp=>?_⟩)
   obtain ⟨s3,e3⟩:=alc htp (HO.tup [V.str "if",.str "loop"])
   generalize upd Hd tp _=H3 at s3 e3 ⊢
   refine Or.inl ⟨_,Or.inr (SqT.of e3),rfl,rfl,_,rfl,?_⟩
   rw [show (if false=true then !inV (V.str f.wd) [V.str "if",V.str "loop"] else inV (V.str f.wd) [V.str "if",V.str "loop"])=ilF f from Fq f]
   refine aU (fun z=>?_) (fun z=>?_)
   ·refine ⟨Or.inl ⟨rfl,_,SqL.of (s3 _ _ hSd)⟩,Or.inl ⟨_,rfl,(rR (n:=i + 1) (by omega)).1,(rR (n:=i + 1) (by omega)).2,_,_,_,rfl,rfl,s3 _ _ hSd,?_,?_⟩⟩
    ·rw [List.length_map,List.length_reverse]
     exact aH (by have:=Aq (N:=N) ss f;omega)
    ·refine ⟨S',_,_,rfl,vX (sd.trans s3) HS' _,HS',RS',by rw [la1];exact ar RS' (s3 _ _ hRd),?_⟩
     rw [ao,st1,zW,if_pos z,<- xu]
     simp
     rfl
   ·exact ⟨S',_,_,rfl,sd.trans s3,HS',RS',by rw [la1];exact s3 _ _ hRd,by rw [st1,zW,if_neg z];exact s3 _ _ hSd⟩
  clear K2
  have ap:∀{S':Addr}{Hd:Hp} (v:V),ai H Hd->H S'=none->R ≠ S'->Hd R=some (.lst (la.map oS))->v=oS (if isB f=true then ss.headD none else none)->Hd S'=some (.lst ((r9 N ss f).reverse.map oS))->(la.map oS).length < sizeLine/\M2 [some (.ref L),some (.ref R),some (.ref S'),some (.int i),some (.ref a)] (upd Hd R (.lst (la.map oS ++ [v]))):=by
   intro S' Hd v sd HS' RS' hRd hv hSd
   refine ⟨aH (by rw [List.length_map,lla];omega),fin S' _ (vX sd hR _) HS' RS' (by rw [ao,hv]) (ar (fun z=>RS' z.symm) hSd)⟩
  refine tix (j:=0) (SqT.of (sX _ _ ha)) rfl ⟨by show 2 <= sizeLine;decide,fun tp htp=>?_⟩
  obtain ⟨s3,e3⟩:=alc htp (HO.tup [V.str "deed",.str "main"])
  generalize upd Hc tp _=H3 at s3 e3 ⊢
  have c3:=sc.trans s3
  have R3:=s3 _ _ hRc
  have S3:=s3 _ _ hSc
  refine Or.inl ⟨_,Or.inr (SqT.of e3),rfl,rfl,_,rfl,?_⟩
  rw [show (if false=true then !inV (V.str f.wd) [V.str "deed",V.str "main"] else inV (V.str f.wd) [V.str "deed",V.str "main"])=dmF f from ze f]
  refine aU (fun z=>?_) (fun z=>?_)
  ·try dsimp only
   refine ag fun M3 K3=>?_
   have go:∀v,v=oS ((r9 N ss f).headD none)->(r9 N ss f).length=1->isB f=false->1 <= sizeLine/\∀p,H3 p=none->M3 [some (.ref L),some (.ref R),some (.ref p),some (.int i),some (.ref a)] (upd H3 p (.lst [v])):=by
    intro v ev lv nb
    refine ⟨by decide,fun S' hS'=>?_⟩
    obtain ⟨s4,e4⟩:=alc hS' (HO.lst [v])
    generalize upd H3 S' _=H4 at s4 e4 ⊢
    have RS':R ≠ S':=fun z=>by rw [<- z,R3] at hS';cases hS'
    obtain ⟨b1,b2⟩:=ap (Hd:=H4) V.non (c3.trans s4) (ai.free c3 hS') RS' (s4 _ _ R3) (by rw [nb];rfl) (by
     rw [e4,ev]
     match h:r9 N ss f,lv with
     | [x],_=>rfl)
    exact K3 _ _ ⟨Or.inl ⟨rfl,_,SqL.of (s4 _ _ R3)⟩,_,_,_,rfl,rfl,s4 _ _ R3,b1,b2⟩
   clear K3
   cases f with
   | aR k ps =>
    refine tix (j:=0) (SqT.of ((s0.trans c3) _ _ ha)) rfl ⟨rfl,_,rfl,aU (fun _=>?_) (fun z=>absurd (decide_eq_true rfl) z)⟩
    exact tix (j:=1) (SqT.of ((s0.trans c3) _ _ ha)) rfl (go _ rfl rfl rfl)
   | main =>
    exact tix (j:=0) (SqT.of ((s0.trans c3) _ _ ha)) rfl ⟨rfl,_,rfl,aU (fun z=>absurd (V.str.inj (of_decide_eq_true z)) (by decide)) (fun _=>go _ rfl rfl rfl)⟩
   | _=>cases z
  have sp:yB f=false->r9 N ss f=ss:=by
   intro n
   cases f with
   | aR _ _=>exact absurd rfl z
   | main=>exact absurd rfl z
   | fin=>cases n
   | _=>rfl
  refine tix (j:=0) (SqT.of ((s0.trans c3) _ _ ha)) rfl ⟨by show 5 <= sizeLine;decide,fun tp5 htp5=>?_⟩
  obtain ⟨s5,e5⟩:=alc htp5 (HO.tup [V.str "else",V.str "hand",V.str "given",V.str "own",V.str "let"])
  generalize upd H3 tp5 _=H5 at s5 e5 ⊢
  have c5:=c3.trans s5
  have R5:=s5 _ _ R3
  have S5:=s5 _ _ S3
  refine Or.inl ⟨_,Or.inr (SqT.of e5),rfl,rfl,_,rfl,?_⟩
  rw [show (if false=true then !inV (V.str f.wd) [V.str "else",V.str "hand",V.str "given",V.str "own",V.str "let"] else inV (V.str f.wd) [V.str "else",V.str "hand",V.str "given",V.str "own",V.str "let"])=nhF f from Fh f]
  refine aU (fun y=>?_) (fun y=>?_)
  ·have nb:isB f=false/\yB f=false:=by
    cases f with
    | leaf r =>
     have:r.ci < 5:=of_decide_eq_true y
     exact ⟨decide_eq_false (by omega),rfl⟩
    | els=>exact ⟨rfl,rfl⟩
    | _=>cases y
   obtain ⟨b1,b2⟩:=ap (Hd:=H5) V.non c5 HS RS R5 (by rw [nb.1];rfl) (by rw [sp nb.2];exact S5)
   exact ⟨Or.inl ⟨rfl,_,SqL.of R5⟩,_,_,_,rfl,rfl,R5,b1,b2⟩
  refine tix (j:=0) (SqT.of ((s0.trans c5) _ _ ha)) rfl ⟨rfl,_,rfl,aU (fun x=>?_) (fun x=>?_)⟩
  ·have ef:yB f=true:=by rw [<- vM];exact decide_eq_true (V.str.inj (of_decide_eq_true x))
   have ef:f=.fin:=by cases f <;> first | rfl | cases ef
   subst ef
   have ne:=gda (.inr rfl)
   rw [zq ne] at S5
   try dsimp only
   refine ag fun M3 K3=>⟨Or.inl ⟨rfl,_,SqL.of S5⟩,Ah S5 (?_)⟩
   obtain ⟨b1,b2⟩:=ap (S':=S) (Hd:=upd H5 S (.lst (ss.tail.reverse.map oS))) V.non (vX c5 HS _) HS RS (ar RS R5) rfl ao
   exact K3 _ _ ⟨Or.inl ⟨rfl,_,SqL.of (ar RS R5)⟩,_,_,_,rfl,rfl,ar RS R5,b1,b2⟩
  ·have nf:yB f=false:=by
    rw [<- vM]
    exact decide_eq_false fun e=>x (decide_eq_true (by rw [e]))
   have hb:isB f=true:=by
    cases f with
    | leaf r =>
     have y:¬ (decide (r.ci < 5)=true):=y
     exact decide_eq_true (by have:=of_decide_eq_false (Bool.eq_false_iff.mpr y);omega)
    | aR _ _=>exact absurd rfl z
    | main=>exact absurd rfl z
    | els=>exact absurd rfl y
    | fin=>cases nf
    | _=>rfl
   have ne:=gda (.inl hb)
   obtain ⟨b1,b2⟩:=ap (Hd:=H5) (oS (ss.headD none)) c5 HS RS R5 (by rw [if_pos hb]) (by rw [sp nf];exact S5)
   refine ⟨Or.inl ⟨rfl,_,SqL.of R5⟩,_,rfl,lix (SqL.of S5) (v:=oS (ss.headD none)) (by rw [zq ne];exact zc _ _) ⟨_,_,_,rfl,rfl,R5,b1,b2⟩⟩
 rintro σ Hc ⟨S,v3,v4,rfl,sc,HS,RS,hRc,hSc⟩
 exact K1 _ _ (q R Hc sc hR hRc)
end
section
open PySem PySem.Spec PyProof.Rows
variable {prog:Program}{w:World}
theorem x9 {KK:Type} [DecidableEq KK] {knd:HeapKind prog w KK}{A:Around}{E:Value->Shared->Prop}{s:Shared}{d:Addr}{xs:List (KK × Addr × Value)}{Q:Value->Shared->Prop} (hd:(d == sysModules)=false) (hm:s.heap.DictOfH knd d xs) (hfit:(xs.length:Int) < 2 ^ 63) (h:Q (.int xs.length (s.toks + 1)) { s with toks:=s.toks + 1 + 1 }):wpAny (model prog w) A (call (.builtin "len") [.ref d]) Q E s:=by
 have sz:MeetsIn prog w (Builtin.«dict.__len__» ⟨[.ref d],[]⟩) (fun _ R s=>∃xs,s.heap.DictOfH knd d xs/\R (.ok (.ret (.int xs.length s.toks))) { s with toks:=s.toks + 1 }):=.of_wp fun A R s ⟨xs,hm,h⟩=>by
  obtain ⟨o,es,ep,ho,hc,hdat,hk,_⟩:=hm
  show wpAny _ _ (dictSize d >>= _) _ _ s
  unfold dictSize
  refine wpAny_bind (wpAny_bind (wpAny_dictEntries ho hdat (wpAny_pure ?_)))
  show wpAny _ _ (Builtin.Dict.pendingCount d >>= _) _ _ s
  refine wpAny_bind (wpAny_pendingCount_other hd (wpAny_ret_mkInt ?_))
  rw [Nat.add_zero,size_of_entries hk]
  exact h
 refine Calls.call_function_entry kind_len plain_len entry_len (args_len1 _) ?_
 unfold Builtin.«len»
 refine wpAny_bind (m:=oneArg "len" _) (wpAny_pure (wpAny_bind (m:=callSpecial? (.ref d) (Str.ofString "__len__")) (wpAny_callSpecial?_slot (name:=Str.ofString "__len__") hm.typeIs F.slot_dict_len (call_meetsIn F.slot_dict_len hm.typeIs F.entry_dict_len (F.args_dict_len_1 _) sz ⟨xs,hm,?_⟩))))
 show wpAny _ _ _ _ _ { s with toks:=s.toks + 1 }
 refine wpAny_bind (wpAny_holding (wpAny_pure (wpAny_bind (wpAny_letGo ?_))))
 show wpAny _ _ (if ((xs.length:Nat):Int) < 0 then _ else _) _ _ _
 rw [if_neg (by omega)]
 show wpAny _ _ (if ((xs.length:Nat):Int) ≥ 2 ^ 63 then _ else _) _ _ _
 rw [if_neg (by omega)]
 exact wpAny_bind (wpAny_mkInt (wpAny_pure ⟨_,rfl,h⟩))
theorem C5 {X:Cx}:cO X (.builtin "len") (fun xs H Q=>∃a kvs,xs=[.ref a]/\H a=some (.dT kvs)/\Q (.int (kvs.length:Nat)) H):=by
 intro pins s σ H xs us Q I r h
 obtain ⟨a,kvs,rfl,e,q⟩:=h
 obtain ⟨u,rfl,rfl⟩:=vals1 r
 obtain ⟨z,hd,vs,rel,dd⟩:=B0 I.hok e
 have el:kvs.length=vs.length:=Paired.length rel
 refine x9 hd dd (by rw [<- el];rw [sizeLine_eq] at z;omega) ?_
 rw [<- el]
 exact ⟨.int _,H,I.tok _,⟨_,rfl⟩,q⟩
end
section
variable {P:Program}{w:World}{K:W.Frag}{mg:Str->Option Value}{base:Heap}{A:Adr}{N:Nat->Str}
seal PE PA PS PSs PT PW
instance decLk:DecidableEq Lk:=fun a b=>decidable_of_iff (a.fr=b.fr/\a.to=b.to/\a.kd=b.kd/\a.no=b.no) ⟨fun ⟨h1,h2,h3,h4⟩=>by cases a;cases b;cases h1;cases h2;cases h3;cases h4;rfl,fun e=>by rw [e];exact ⟨rfl,rfl,rfl,rfl⟩⟩
def kL (l:Lk):List Key:=[.inr l.fr,.inr l.to,.inr l.kd,.inl l.no]
theorem CP {a b:Lk} (h:kL a=kL b):a=b:=by
 obtain ⟨a1,a2,a3,a4⟩:=a
 obtain ⟨b1,b2,b3,b4⟩:=b
 have h:=h
 unfold kL at h
 injection h with h1 h
 injection h with h2 h
 injection h with h3 h
 injection h with h4 h
 cases h1;cases h2;cases h3;cases h4
 rfl
def dL (ks:List Lk):List (List Key × V):=ks.map fun l=>(kL l,V.bl true)
theorem rV {l:Lk}:∀{ks:List Lk},l ∈ ks->L2.bX (dL ks) (kL l)=some (.bl true)
 | k :: ks,h=>by
  by_cases e:kL k=kL l
  ·exact b7 (r:=dL ks) e
  ·refine (bP (r:=dL ks) e).trans (rV ?_)
   rcases List.mem_cons.mp h with z | z
   ·exact absurd (by rw [z]) e
   ·exact z
theorem rP {l:Lk}:∀{ks:List Lk},l ∉ ks->L2.bX (dL ks) (kL l)=none
 | [],h=>rfl
 | k :: ks,h=>by
  have e:¬ kL k=kL l:=fun e=>h (by rw [CP e];exact List.mem_cons_self)
  exact (bP (r:=dL ks) e).trans (rP fun z=>h (List.mem_cons_of_mem _ z))
def iz (ks:List Lk) (l:Lk):List Lk:=if l ∈ ks then ks else ks ++ [l]
theorem AB (ks:List Lk) (l:Lk):putK (dL ks) (kL l) (.bl true)=dL (iz ks l):=by
 unfold iz
 by_cases h:l ∈ ks
 ·rw [if_pos h]
  unfold putK
  rw [iu,rV h,if_pos (show (some (V.bl true)).isSome=true from rfl)]
  unfold dL
  rw [List.map_map]
  refine List.map_congr_left fun j _=>?_
  show (if kL j=kL l then (kL j,V.bl true) else (kL j,V.bl true))=_
  split <;> rfl
 ·rw [if_neg h,uh _ (rP h)]
  unfold dL
  rw [List.map_append]
  rfl
def iD (ks acc:List Lk):List Lk:=ks.foldl iz acc
theorem yn {ks:List Lk}{l k:Lk}:k ∈ iz ks l ↔ k ∈ ks \/ k=l:=by
 unfold iz
 split
 ·next h=>exact ⟨.inl,fun z=>z.elim id fun e=>e ▸ h⟩
 ·rw [List.mem_append,List.mem_singleton]
theorem tH {k:Lk}:∀{ks acc:List Lk},k ∈ iD ks acc ↔ k ∈ acc \/ k ∈ ks
 | [],acc=>by
  show k ∈ acc ↔ _
  simp
 | l :: ks,acc=>by
  show k ∈ iD ks (iz acc l) ↔ _
  rw [tH,yn,List.mem_cons]
  exact or_assoc
theorem Ao {ks:List Lk}{l:Lk} (h:ks.Nodup):(iz ks l).Nodup:=by
 unfold iz
 split
 ·exact h
 ·next n =>
  refine List.nodup_append.mpr ⟨h,by simp,fun a ha b hb e=>?_⟩
  rw [List.mem_singleton.mp hb] at e
  exact n (e ▸ ha)
theorem xy:∀{ks acc:List Lk},acc.Nodup->(iD ks acc).Nodup
 | [],acc,h=>h
 | l :: ks,acc,h=>xy (ks:=ks) (Ao h)
theorem pT:∀(ks acc:List Lk),(iD ks acc).length <= acc.length + ks.length
 | [],acc=>Nat.le_refl _
 | l :: ks,acc=>by
  have h:=pT ks (iz acc l)
  have h2:(iz acc l).length <= acc.length + 1:=by
   unfold iz
   split
   ·exact Nat.le_succ _
   ·rw [List.length_append,List.length_singleton]
    exact Nat.le_refl _
  show (iD ks (iz acc l)).length <= _
  rw [List.length_cons]
  omega
theorem uL (a b acc:List Lk):iD (a ++ b) acc=iD b (iD a acc):=List.foldl_append ..
def lk3 (n:Int) (t:T3):List Lk:=match t.1 with
 | none=>[]
 | some x=>if x=t.2.1 then [] else [⟨x,t.2.1,t.2.2,n⟩]
theorem xA (n:Int) (t:T3):(lk3 n t).length <= 1:=by
 unfold lk3
 split
 ·exact Nat.zero_le _
 ·split <;> simp
def kZ (N:Nat->Str) (po:Str->List Str) (e:En):List Lk:=(ofR N po e.1 (aZ e.2.1) e.2.2.1 e.2.2.2).flatMap (lk3 e.2.1)
def Cp:Fr->Prop
 | .leaf (.call _ ts)=>ts.length <= 4
 | _=>True
theorem wF (po:Str->List Str) (here:Str) (pl:Option Str) (lv:Str) {f:Fr} (h:Cp f):(ofR N po f here pl lv).length <= 9:=by
 have vl:=dv
 have one:∀(ts:List Th) (into kd:Str) (y:T3),ts.length <= 3->(told N ts into kd ++ [y]).length <= 9:=fun ts into kd y h=>by
  have:=dy (N:=N) ts into kd
  rw [List.length_append,List.length_singleton]
  omega
 cases f with
 | leaf r =>
  cases r with
  | set x v=>exact one _ _ _ _ (Nat.le_succ_of_le (vl v))
  | put x p v=>exact one _ _ _ _ (by rw [List.length_cons];have:=vl v;omega)
  | snd x v=>exact one _ _ _ _ (Nat.le_succ_of_le (vl v))
  | say x v m=>show 3 <= 9;decide
  | last=>show 1 <= 9;decide
  | call i ts =>
   have h:ts.length <= 4:=h
   have a:(clT N pl (ts.zip (po (N i)))).length <= 2 * (ts.zip (po (N i))).length:=va _ 2 _ fun e _=>by
    have:=dy (N:=N) [e.1] e.2 "value"
    rw [List.length_singleton] at this
    rw [List.length_append,List.length_singleton]
    omega
   rw [List.length_zip] at a
   show (clT N pl (ts.zip (po (N i)))).length + 1 <= 9
   omega
  | _=>exact Nat.zero_le _
 | iff v _ _=>exact one _ _ _ _ (Nat.le_succ_of_le (vl v))
 | loop t _ _ _=>exact one _ _ _ _ (by simp)
 | _=>exact Nat.zero_le _
theorem zo (po:Str->List Str) {e:En} (h:Cp e.1):(kZ N po e).length <= 9:=Nat.le_trans (mZ _ (xA _) _) (wF po _ _ _ h)
theorem mh:∀{fs:List Fr}{s:List (Option Str)}{l:List Str}{n:Int}{e:En},e ∈ aO N s l n fs->e.1 ∈ fs
 | f :: fs,s,l,n,e,h=>by
  rw [aO] at h
  rcases List.mem_append.mp h with h | h
  ·split at h
   ·rw [List.mem_singleton.mp h]
    exact List.mem_cons_self
   ·cases h
  ·exact List.mem_cons_of_mem _ (mh h)
theorem wc:∀(fs:List Fr) (s:List (Option Str)) (l:List Str) (n:Int),(aO N s l n fs).length <= fs.length
 | [],s,l,n=>Nat.zero_le _
 | f :: fs,s,l,n=>by
  have h:=wc fs (stp N s n f) (iw l n f) (n + 1)
  rw [aO,List.length_append,List.length_cons]
  split
  ·rw [List.length_singleton];omega
  ·rw [List.length_nil];omega
def xY (l:List Str):Fr->List Str
 | .fin=>l.tail
 | _=>l
theorem Bp:∀n:Fin 301,PyData.strOk (aZ (n.val:Int))=true:=by decide +kernel
theorem CK {l:List Str}{n:Nat} (f:Fr) (hn:n <= 300) (h:∀x ∈ l,PyData.strOk x=true):∀x ∈ iw l (n:Int) f,PyData.strOk x=true:=by
 have c:∀y,PyData.strOk y=true->∀x ∈ y :: l,PyData.strOk x=true:=fun y hy x hx=>by
  rcases List.mem_cons.mp hx with rfl | hx
  ·exact hy
  ·exact h x hx
 cases f with
 | fin=>exact fun x hx=>h x (List.mem_of_mem_tail hx)
 | iff _ _ _=>exact c _ (by decide +kernel)
 | loop _ _ _ _=>exact c _ (Bp ⟨n,by omega⟩)
 | _=>exact h
theorem zZ:∀(xs:List Fr) (l:List Str) (n:Nat),(∀x ∈ l,PyData.strOk x=true)->n + xs.length <= 301->∀x ∈ lsA l (n:Int) xs,PyData.strOk x=true
 | [],l,n,h,hn=>h
 | f :: xs,l,n,h,hn=>by
  rw [List.length_cons] at hn
  have:=zZ xs (iw l (n:Int) f) (n + 1) (CK f (by omega) h) (by omega)
  rwa [show ((n + 1:Nat):Int)=(n:Int) + 1 by omega] at this
theorem wJ:∀(xs:List Fr) (l:List Str) (n:Int),(lsA l n xs).length <= l.length + xs.length
 | [],l,n=>Nat.le_refl _
 | f :: xs,l,n=>by
  have h:=wJ xs (iw l n f) (n + 1)
  have h1:(iw l n f).length <= l.length + 1:=by
   cases f with
   | fin =>
    show l.tail.length <= _
    rw [List.length_tail]
    omega
   | iff _ _ _=>exact Nat.le_refl _
   | loop _ _ _ _=>exact Nat.le_refl _
   | _=>exact Nat.le_succ _
  show (lsA (iw l n f) (n + 1) xs).length <= _
  rw [List.length_cons]
  omega
theorem AI (ls:List Str):∃zs,Str.empty :: ls.reverse.filter (fun x=>!decide (x=Str.empty))=zs ++ [(lpO ls).getD Str.empty]:=by
 have e:lpO ls=(ls.filter (fun x=>!decide (x=Str.empty))).head?:=by
  unfold lpO
  rw [List.head?_filter]
  congr 1
  funext x
  exact decide_not
 rw [List.filter_reverse,e]
 cases ls.filter (fun x=>!decide (x=Str.empty)) with
 | nil=>exact ⟨[],rfl⟩
 | cons x r=>exact ⟨Str.empty :: r.reverse,by simp⟩
def deF:Fr->Bool
 | .aR _ _=>true
 | _=>false
theorem EA (f:Fr):inV (V.str f.wd) [V.str "hand",V.str "given",V.str "own",V.str "let",V.str "main",V.str "else",V.str "end"]=!(isB f || deF f):=by
 cases f with
 | leaf r=>cases r <;> rfl
 | _=>rfl
theorem wG (f:Fr):decide (f.wd="deed")=deF f:=by
 cases f with
 | leaf r=>cases r <;> rfl
 | _=>rfl
end
section
variable {P:Program}{w:World}{K:W.Frag}{mg:Str->Option Value}{base:Heap}{A:Adr}{N:Nat->Str}
seal PE PA PS PSs PT PW
def ifF:Fr->Bool
 | .iff _ _ _=>true
 | _=>false
def loF:Fr->Bool
 | .loop _ _ _ _=>true
 | _=>false
theorem Fn (f:Fr):decide (f.wd="if")=ifF f:=by
 cases f with
 | leaf r=>cases r <;> rfl
 | _=>rfl
theorem EX (f:Fr):decide (f.wd="loop")=loF f:=by
 cases f with
 | leaf r=>cases r <;> rfl
 | _=>rfl
theorem yF {f:Fr} (h:ifF f=false):¬ f.wd="if":=of_decide_eq_false ((Fn f).trans h)
theorem Cf {f:Fr} (h:loF f=false):¬ f.wd="loop":=of_decide_eq_false ((EX f).trans h)
theorem pw:∀{l:List Str}{m:List V},Paired (fun x y=>y=V.str x) l m->m=sS l
 | _,_,.nil=>rfl
 | _,_,.cons h r=>by rw [h,pw r];rfl
inductive wB (vs:List V) (H:Hp) (Q:VK) (E9:XK):Prop
 | mk (N:Nat->Str) (X:Hp) (L:Addr) (xs:List V) (fs:List Fr) (po:Str->List Str) (z0:vs=[.ref L]) (z1:ai X H) (z2:X L=some (.lst xs)) (z3:bh N X fs xs) (z4:gd N [] 1 fs) (z5:xs.length <= 300) (z6:∀k ps,Fr.aR k ps ∈ fs->po (N k)=ps.map N)
  (z7:∀(i k:Nat) (us:List Th),fs[i]?=some (.leaf (.call k us))->∃ps,Fr.aR k ps ∈ fs.take i/\us.length=ps.length/\ps.length <= 4)
  (z8:∀(R:Addr) (H':Hp),ai H H'->H R=none->H' R=some (.dT (dL (iD ((aO N [] [] 1 fs).flatMap (kZ N po)) [])))->Q (.ref R) H'):wB vs H Q E9
theorem CS (T:Txt K mg A):T.sr.Hz P w base 3 wB:=by
 refine T.sr.hs (k:=2) bI (fun f' cdv A' outer s H vs Q E' hr hu h=>?_)
 obtain ⟨N,X,L,xs,fs,po,rfl,s0,hL,fr,hg,lx,hpo,hcg,q⟩:=h
 have lf:=Paired.length fr
 refine ⟨_,(ae (pst 1 bI.nd (ak (hj:=by omega) (Be T) hr (aa (fv 0) ab)))
  (ae (pst 2 bI.nd (uY))
  (ae (pst 3 bI.nd (uq))
  (ae (pst 4 bI.nd (aC ab))
  (ae (cy PassesOwn.never rfl (cv rfl T.cC (aa (pcB gm T.fV (aa (fv 0) ab)) ab)) (pgn (i:=5) bI.nd rfl)
   (ae (pst 6 bI.nd (px hu (fv 0) (fv 5)))
   (ae (pst 7 bI.nd (au aK aj (pcT zg T.ni (aa (au aK (fv 5) af) ab))))
   (ae (aL (ptc (bE hu) (px hu (fv 6) af) aj)
    (ah (cK (px hu (fv 6) af) (gK (fv 2) (px hu (fv 6) af) (jU hu set_list))))
    (ah (aL (PW.pt (pw_and (ptc (bE hu) (px hu (fv 6) af) aj) (pw_and1 (ptc (nY hu) (fv 4) (aC ab)))))
     (ah (aE (uR (fv 4))))
     (ah (aL (ptc (iH hu) (px hu (fv 6) af) (aI (aa aj (aa aj (aa aj (aa aj (aa aj (aa aj (aa aj ab)))))))) ((by with_unfolding_all rfl)))
      (ae (pst 8 bI.nd (au aK (aC (aa aj ab)) (gI (N:=["_law_place"]) (own:=1) (fr:=[]) (cc.of (by kernel_rfl!)) rfl (cR (fv 4)) (fun b=>pgn (i:=0) (show List.Nodup (["_law_place"]:List PySem.Str) by decide +kernel) rfl) (fun b=>vH (ptc (nY hu) (fv 0) aj)) (fun b=>fv 0))))
      (ah (cy PassesOwn.never rfl (cR (ak (hj:=by omega) (Fo T) hr (aa (fv 6) (aa (fv 7) (aa (px hu (fv 1) (fv 5)) (aa (px hu (fv 8) (jy gu af)) (aa (fv 2) ab))))))) (iK rfl (bf (pgn (i:=9) bI.nd rfl) (bf (pgn (i:=10) bI.nd rfl) (bf (pgn (i:=11) bI.nd rfl) fC))))
       (ah (aL (PW.pt (pw_and (ptc xg (fv 9) cB) (pw_and1 (ptc (nY hu) (fv 9) (fv 10)))))
        (ah (cK qW (gK (fv 3) (aI (aa (fv 9) (aa (fv 10) (aa (fv 11) (aa (au aK (fv 5) af) ab))))) (lI hu))))
        aB)))))
      aB)))))
   (ae (aL (ptc (bE hu) (px hu (fv 6) af) aj)
    (ah (aE (aT (fv 4) (aa (fv 7) ab))))
    aB)
   (ah (aL (ptc (bE hu) (px hu (fv 6) af) aj)
    (ah (aE (aT (fv 4) (aa aj ab))))
    aB)))))))
  (ah (aw (fv 3)))))))),?_⟩
 refine ag fun M1 K1=>⟨N,X,L,xs,fs,rfl,s0,hL,fr,hg,lx,fun La H1 s1 hLa eLa=>K1 _ _ ?_⟩
 clear K1 M1
 try dsimp only
 refine ag fun M1 K1 Pd hPd=>?_
 obtain ⟨s2,e2⟩:=alc hPd (HO.dK [])
 generalize upd H1 Pd _=H2 at s2 e2 ⊢
 refine K1 _ _ ?_
 clear K1 M1
 try dsimp only
 refine ag fun M1 K1 Fd hFd=>?_
 obtain ⟨s3,e3⟩:=alc hFd (HO.dT [])
 generalize upd H2 Fd _=H3 at s3 e3 ⊢
 refine K1 _ _ ?_
 clear K1 M1
 try dsimp only
 refine ag fun M1 K1=>⟨Nat.zero_le _,fun Lo hLo=>?_⟩
 obtain ⟨s4,e4⟩:=alc hLo (HO.lst [])
 generalize upd H3 Lo _=H4 at s4 e4 ⊢
 have LL:La ≠ Lo:=fun z=>by rw [<- z,(s2.trans s3) _ _ eLa] at hLo;cases hLo
 have HPd:H Pd=none:=ai.free s1 hPd
 have HFd:H Fd=none:=ai.free (s1.trans s2) hFd
 have HLo:H Lo=none:=ai.free (s1.trans (s2.trans s3)) hLo
 have t4:=s1.trans (s2.trans (s3.trans s4))
 refine K1 _ _ ?_
 clear K1 M1
 try dsimp only
 refine ag fun M1 K1=>lnl ((s0.trans t4) _ _ hL) ⟨_,rfl,by omega,by omega,?_⟩
 rw [show ((xs.length:Nat):Int).toNat=fs.length by rw [lf];simp]
 refine fD (fun i σ Hc=>∃(kvs:List (Key × V)) (v5 v6 v7 v8 v9 v10 v11:Option V),σ=[some (.ref L),some (.ref La),some (.ref Pd),some (.ref Fd),some (.ref Lo),v5,v6,v7,v8,v9,v10,v11]/\ai H Hc/\Hc La=some (.lst ((laA N fs fs.length).map oS))/\Hc Pd=some (.dK kvs)/\kvs.length <= i/\(∀k ps,Fr.aR k ps ∈ fs.take i->∃pp,L2.bX kvs (.inr (N k))=some (.ref pp)/\X pp=some (.lst (sS (po (N k)))))/\Hc Fd=some (.dT (dL (iD ((aO N [] [] 1 (fs.take i)).flatMap (kZ N po)) [])))/\Hc Lo=some (.lst (sS (lsA [] 1 (fs.take i)).reverse)))
  ⟨[],none,none,none,none,none,none,none,rfl,t4,(s2.trans (s3.trans s4)) _ _ eLa,(s3.trans s4) _ _ e2,Nat.le_refl _,(fun k ps h=>by rw [List.take_zero] at h;cases h),s4 _ _ e3,e4⟩ ?_ ?_
 ·clear K1
  rintro i σ Hc hi ⟨kvs,v5,v6,v7,v8,v9,v10,v11,rfl,sc,hLa',hPc,kl,kp,hFc,hLc⟩
  have ej:(0:Int) + (i:Int)=(i:Int):=by omega
  rw [ej]
  obtain ⟨f,hf⟩:∃f,fs[i]?=some f:=⟨_,List.getElem?_eq_getElem hi⟩
  obtain ⟨v,hv,fv'⟩:=iJ (i:=i) (a:=f) fr hf
  have fv0:=fv'
  obtain ⟨a,p,rfl,ha,hob⟩:=fv'
  have sX:=s0.trans sc
  have tl:((fs.take i).length:Int)=(i:Int):=by rw [List.length_take,Nat.min_eq_left (Nat.le_of_lt hi)]
  have ls1:lsA [] 1 (fs.take (i + 1))=iw (lsA [] 1 (fs.take i)) ((i:Int) + 1) f:=by
   rw [j6 hf,tX,tl,Int.add_comm]
  have bo1:aO N [] [] 1 (fs.take (i + 1))=aO N [] [] 1 (fs.take i) ++ (if isB f=true then [(f,(i:Int) + 1,(stA N [] 1 (fs.take i)).headD none,(lpO (lsA [] 1 (fs.take i))).getD Str.empty)] else []):=by
   rw [j6 hf,oM,tl,Int.add_comm]
  have lag:=wI (N:=N) hf hi
  have c4:∀f ∈ fs,Cp f:=fun f m=>by
   cases f with
   | leaf r =>
    cases r with
    | call k us =>
     obtain ⟨j,hj⟩:=List.getElem?_of_mem m
     obtain ⟨ps,_,e1,e2⟩:=hcg j k us hj
     show us.length <= 4
     omega
    | _=>trivial
   | _=>trivial
  have al:(iD ((aO N [] [] 1 (fs.take i)).flatMap (kZ N po)) []).length <= 2700:=by
   refine Nat.le_trans (pT _ _) ?_
   have h1:=va (kZ N po) 9 (aO N [] [] 1 (fs.take i)) fun e he=>zo po (c4 _ (List.mem_of_mem_take (mh he)))
   have h2:=wc (N:=N) (fs.take i) [] [] 1
   rw [List.length_take] at h2
   rw [List.length_nil]
   omega
  have okl:=zZ (fs.take i) [] 1 (fun x hx=>by cases hx) (by rw [List.length_take];omega)
  have okl:∀x ∈ lsA [] 1 (fs.take i),PyData.strOk x=true:=okl
  have lll:=wJ (fs.take i) [] 1
  rw [List.length_take,List.length_nil] at lll
  generalize lsA [] 1 (fs.take i)=ls at ls1 bo1 hLc okl lll ⊢
  generalize stA N [] 1 (fs.take i)=ss at bo1 lag ⊢
  generalize aO N [] [] 1 (fs.take i)=bo at bo1 hFc al ⊢
  generalize eac:iD (bo.flatMap (kZ N po)) []=acc at hFc al ⊢
  try dsimp only
  refine ag fun M2 K2=>lxn (SqL.of (sX _ _ hL)) hv (K2 _ _ ?_)
  clear K2 M2
  try dsimp only
  refine ag fun M2 K2=>Or.inl ⟨_,rfl,(rR (n:=i + 1) (by omega)).1,(rR (n:=i + 1) (by omega)).2,K2 _ _ ?_⟩
  clear K2 M2
  rw [show ("row ":Str) ++ Str.ofString (toString ((i:Int) + 1))=aZ ((i:Int) + 1) from xu _]
  try dsimp only
  refine ag fun M3 K3=>?_
  have fin:∀(Hd:Hp) (kvs':List (Key × V)) (acc':List Lk) (v8 v9 v10 v11:Option V),ai H Hd->Hd La=some (.lst ((laA N fs fs.length).map oS))->Hd Pd=some (.dK kvs')->kvs'.length <= i + 1->(∀k ps,Fr.aR k ps ∈ fs.take (i + 1)->∃pp,L2.bX kvs' (.inr (N k))=some (.ref pp)/\X pp=some (.lst (sS (po (N k)))))->Hd Fd=some (.dT (dL acc'))->acc'=iD ((aO N [] [] 1 (fs.take (i + 1))).flatMap (kZ N po)) []->Hd Lo=some (.lst (sS (xY ls f).reverse)) ->
    M3 [some (.ref L),some (.ref La),some (.ref Pd),some (.ref Fd),some (.ref Lo),some (.int i),some (.ref a),some (.str (aZ ((i:Int) + 1))),v8,v9,v10,v11] Hd:=by
   intro Hd kvs' acc' v8 v9 v10 v11 sd h1 h2 h3 h4 h5 h6 h7
   subst h6
   refine K3 _ _ ?_
   have hT:=SqT.of (K:=K) ((s0.trans sd) _ _ ha)
   have ap:∀(x:Str),iw ls ((i:Int) + 1) f=x :: xY ls f->(sS (xY ls f).reverse).length < sizeLine/\∀(R:Hp->Prop),(∀He,ai H He->He La=some (.lst ((laA N fs fs.length).map oS))->He Pd=some (.dK kvs')->He Fd=some (.dT (dL (iD ((aO N [] [] 1 (fs.take (i + 1))).flatMap (kZ N po)) [])))->He Lo=some (.lst (sS (lsA [] 1 (fs.take (i + 1))).reverse))->R He)->R (upd Hd Lo (.lst (sS (xY ls f).reverse ++ [V.str x]))):=by
    intro x ex
    refine ⟨aH ?_,fun R k=>k _ (vX sd HLo _) (ar LL h1) (ar (fun z=>by rw [z,h7] at h2;cases h2) h2) (ar (fun z=>by rw [z,h7] at h5;cases h5) h5) ?_⟩
    ·rw [List.length_map,List.length_reverse]
     have:(xY ls f).length <= ls.length:=by
      cases f with
      | fin =>
       show ls.tail.length <= _
       rw [List.length_tail]
       omega
      | _=>exact Nat.le_refl _
     omega
    ·rw [ao,ls1,ex]
     simp [sS]
   cases f with
   | loop t m l r =>
    refine nu rfl hT ?_
    obtain ⟨b1,b2⟩:=ap _ rfl
    exact ⟨Or.inl ⟨rfl,_,SqL.of h7⟩,_,_,_,rfl,rfl,h7,b1,b2 _ fun He g1 g2 g3 g4 g5=>tix (j:=0) (SqT.of ((s0.trans g1) _ _ ha)) rfl ⟨rfl,_,rfl,aU (fun z=>absurd (V.str.inj (of_decide_eq_true z)) (yF rfl)) fun _=>⟨kvs',_,_,_,_,_,_,_,rfl,g1,g2,g3,h3,h4,g4,g5⟩⟩⟩
   | iff vv l r =>
    refine qf (a:="if") rfl hT (tix (j:=0) hT rfl ⟨rfl,_,rfl,aU (fun _=>?_) (fun z=>absurd (decide_eq_true rfl) z)⟩)
    obtain ⟨b1,b2⟩:=ap _ rfl
    exact ⟨Or.inl ⟨rfl,_,SqL.of h7⟩,_,_,_,rfl,rfl,h7,b1,b2 _ fun He g1 g2 g3 g4 g5=>⟨kvs',_,_,_,_,_,_,_,rfl,g1,g2,g3,h3,h4,g4,g5⟩⟩
   | leaf r =>
    refine qf rfl hT ?_ (Cf rfl)
    exact tix (j:=0) hT rfl ⟨rfl,_,rfl,aU (fun z=>absurd (V.str.inj (of_decide_eq_true z)) (yF rfl)) fun _=>⟨kvs',_,_,_,_,_,_,_,rfl,sd,h1,h2,h3,h4,h5,by rw [ls1];exact h7⟩⟩
   | _ =>
    refine qf rfl hT ?_ (Cf rfl)
    exact tix (j:=0) hT rfl ⟨rfl,_,rfl,aU (fun z=>absurd (V.str.inj (of_decide_eq_true z)) (yF rfl)) fun _=>⟨kvs',_,_,_,_,_,_,_,rfl,sd,h1,h2,h3,h4,h5,by rw [ls1];exact h7⟩⟩
  clear K3
  have hT:=SqT.of (K:=K) (sX _ _ ha)
  have kp1:deF f=false->∀k ps,Fr.aR k ps ∈ fs.take (i + 1)->∃pp,L2.bX kvs (.inr (N k))=some (.ref pp)/\X pp=some (.lst (sS (po (N k)))):=fun nd k ps m=>by
   rw [j6 hf] at m
   rcases List.mem_append.mp m with m | m
   ·exact kp k ps m
   ·rw [<- List.mem_singleton.mp m] at nd
    cases nd
  have ac1:isB f=false->acc=iD ((aO N [] [] 1 (fs.take (i + 1))).flatMap (kZ N po)) []:=fun nb=>by
   rw [bo1,nb,if_neg Bool.false_ne_true,List.append_nil,eac]
  refine tix (j:=0) hT rfl ⟨rfl,_,rfl,aU (fun z=>?_) (fun z=>?_)⟩
  ·have ef:deF f=true:=by rw [<- wG];exact decide_eq_true (V.str.inj (of_decide_eq_true z))
   cases f with
   | aR k ps =>
    have hp:=hob _ rfl
    refine tix (j:=2) hT rfl (tix (j:=1) hT rfl ⟨_,ke.k (k:=.inr (N k)) hPc (aH (by omega)),?_⟩)
    have pl:=hpo k ps (List.mem_of_getElem? hf)
    have nn:∀x,Hc x=some (.dK kvs)->x ≠ Lo:=fun x e z=>by rw [z,hLc] at e;cases e
    refine fin _ _ acc _ _ _ _ (vX sc HPd _) (ar (fun z=>by rw [z,hPc] at hLa';cases hLa') hLa') ao (Nat.le_trans (uW _ _ _) (by omega)) (fun k' ps' m=>?_) (ar (fun z=>by rw [z,hPc] at hFc;cases hFc) hFc) (ac1 rfl) (ar (fun z=>by rw [z,hPc] at hLc;cases hLc) hLc)
    rw [uX]
    by_cases e:(Sum.inr (N k'):Key)=.inr (N k)
    ·rw [if_pos e]
     refine ⟨p,rfl,?_⟩
     rw [Sum.inr.inj e,pl,hp]
     simp [nV,sS]
    ·rw [if_neg e]
     rw [j6 hf] at m
     rcases List.mem_append.mp m with m | m
     ·exact kp k' ps' m
     ·cases List.mem_singleton.mp m
      exact absurd rfl e
   | _=>cases ef
  have nd:deF f=false:=by
   rw [<- wG]
   exact decide_eq_false fun e=>z (decide_eq_true (by rw [e]))
  clear z
  by_cases ef:f=.fin
  ·subst ef
   refine tix (j:=0) hT rfl ⟨rfl,_,rfl,c0 ⟨Nat.zero_le _,fun em hem=>?_⟩⟩
   obtain ⟨s5,e5⟩:=alc hem (HO.lst [])
   generalize upd Hc em _=H5 at s5 e5 ⊢
   have c5:=sc.trans s5
   have L5:=s5 _ _ hLc
   refine ne_nil (SqL.of L5) (SqL.of e5) (lj fun x hx=>okl x (List.mem_reverse.mp hx)) ⟨_,rfl,?_⟩
   cases ls with
   | nil =>
    refine bz (tix (j:=0) (SqT.of ((s0.trans c5) _ _ ha)) rfl ⟨by show 7 <= sizeLine;decide,fun tp htp=>?_⟩)
    obtain ⟨s6,e6⟩:=alc htp (HO.tup [V.str "hand",V.str "given",V.str "own",V.str "let",V.str "main",V.str "else",V.str "end"])
    generalize upd H5 tp _=H6 at s6 e6 ⊢
    refine Or.inl ⟨_,Or.inr (SqT.of e6),rfl,rfl,_,rfl,bz ?_⟩
    have g:=s5.trans s6
    exact fin H6 kvs acc _ _ _ _ (sc.trans g) (g _ _ hLa') (g _ _ hPc) (Nat.le_succ_of_le kl) (kp1 rfl) (g _ _ hFc) (ac1 rfl) (g _ _ hLc)
   | cons y ls =>
    refine aU (fun _=>?_) (fun z=>absurd (by simp [sS]) z)
    have L5':H5 Lo=some (.lst (sS ls.reverse ++ [V.str y])):=by rw [L5];simp [sS]
    exact ⟨Or.inl ⟨rfl,_,SqL.of L5'⟩,Ah L5' (fin _ kvs acc _ _ _ _ (vX c5 HLo _) (ar LL (s5 _ _ hLa')) (ar (fun z=>by rw [z,hLc] at hPc;cases hPc) (s5 _ _ hPc)) (Nat.le_succ_of_le kl) (kp1 rfl) (ar (fun z=>by rw [z,hLc] at hFc;cases hFc) (s5 _ _ hFc)) (ac1 rfl) ao)⟩
  have nf:decide (f.wd="end")=false:=by
   rw [vM]
   cases f <;> first | rfl | exact absurd rfl ef
  have l0:xY ls f=ls:=by cases f <;> first | rfl | exact absurd rfl ef
  refine tix (j:=0) hT rfl ⟨rfl,_,rfl,aU (fun z=>absurd (V.str.inj (of_decide_eq_true z)) (of_decide_eq_false nf)) fun _=>bz (tix (j:=0) hT rfl ⟨by show 7 <= sizeLine;decide,fun tp htp=>?_⟩)⟩
  obtain ⟨s6,e6⟩:=alc htp (HO.tup [V.str "hand",V.str "given",V.str "own",V.str "let",V.str "main",V.str "else",V.str "end"])
  generalize upd Hc tp _=H6 at s6 e6 ⊢
  have c6:=sc.trans s6
  refine Or.inl ⟨_,Or.inr (SqT.of e6),rfl,rfl,_,rfl,?_⟩
  rw [show (if true=true then !inV (V.str f.wd) [V.str "hand",V.str "given",V.str "own",V.str "let",V.str "main",V.str "else",V.str "end"] else inV (V.str f.wd) [V.str "hand",V.str "given",V.str "own",V.str "let",V.str "main",V.str "else",V.str "end"])=isB f from by rw [if_pos rfl,EA,nd];simp]
  refine aU (fun hb=>?_) (fun nb=>?_)
  ·try dsimp only
   refine ag fun M4 K4=>⟨by show 1 <= sizeLine;decide,fun q1 hq1=>?_⟩
   obtain ⟨s7,e7⟩:=alc hq1 (HO.lst [V.str ("":Str)])
   generalize upd H6 q1 _=H7 at s7 e7 ⊢
   have c7:=c6.trans s7
   have L7:=(s6.trans s7) _ _ hLc
   refine Or.inl ⟨⟨_,SqL.of L7⟩,lg (K:=K) (own:=1) ls.reverse (fun x=>!decide (x=Str.empty)) (fun x y H=>y=V.str x) (SqL.of L7) (List.length_map _) (by rw [List.length_map,List.length_reverse];exact aH (by omega)) ?_ ?_ ?_ ?_⟩
   ·intro b i' x e v0 H1' Nn Y hx he hv s1' no yes
    obtain ⟨u0,rfl⟩:∃u0,v0=[u0]:=by
     match v0,hv with
     | [u],_=>exact ⟨u,rfl⟩
    rw [List.getElem?_map,he] at hx
    cases hx
    refine ⟨rfl,_,rfl,?_⟩
    by_cases c:e=Str.empty
    ·exact aU (fun z=>absurd z (by show ¬ (!decide (V.str e=V.str Str.empty))=true;rw [c,decide_eq_true rfl];decide)) (fun _=>no (by show (!decide (e=Str.empty))=false;rw [decide_eq_true c];rfl) [some (.str e)] _ rfl (ai.refl _))
    ·refine aU (fun _=>?_) (fun z=>absurd (by show (!decide (V.str e=V.str Str.empty))=true;rw [D3,decide_eq_false c];rfl) z)
     exact yes (by show (!decide (e=Str.empty))=true;rw [decide_eq_false c];rfl) [some (.str e)] _ _ rfl (ai.refl _) rfl
   ·exact fun e y H1 H2 s1 h=>h
   ·exact fun e y H1 D ys zs hD h=>h
   intro q2 H8 zs hq2 s8 e8 pr
   have ez:zs=sS (ls.reverse.filter (fun x=>!decide (x=Str.empty))):=pw pr
   obtain ⟨ws,ew⟩:=AI ls
   have lz:=Paired.length pr
   have lfl:=List.length_filter_le (fun x=>!decide (x=Str.empty)) ls.reverse
   rw [List.length_reverse] at lfl
   refine ⟨q1,q2,_,_,rfl,rfl,s8 _ _ e7,e8,sz (by rw [List.length_singleton];omega),fun q3 hq3=>?_⟩
   obtain ⟨s9,e9⟩:=alc hq3 (HO.lst ([V.str ("":Str)] ++ zs))
   generalize upd H8 q3 _=H9 at s9 e9 ⊢
   have c9:=c7.trans (s8.trans s9)
   have g9:=(s6.trans s7).trans (s8.trans s9)
   have e9':[V.str ("":Str)] ++ zs=sS ws ++ [V.str ((lpO ls).getD Str.empty)]:=by
    rw [ez]
    show sS (Str.empty :: ls.reverse.filter (fun x=>!decide (x=Str.empty)))=_
    rw [ew]
    simp [sS]
   rw [e9'] at e9
   have hb3:Ef N X H9 Pd po f:=by
    cases f with
    | leaf r =>
     cases r with
     | call k us =>
      obtain ⟨ps,m1,m2,m3⟩:=hcg i k us hf
      obtain ⟨pp,w1,w2⟩:=kp k ps m1
      have w3:=hpo k ps (List.mem_of_mem_take m1)
      exact ⟨kvs,pp,g9 _ _ hPc,w1,w2,by rw [w3,List.length_map];exact m2,by rw [w3,List.length_map];exact m3⟩
     | _=>trivial
    | _=>trivial
   rw [if_pos hb] at lag
   rw [hb,if_pos rfl] at bo1
   have ac2:iD ((aO N [] [] 1 (fs.take (i + 1))).flatMap (kZ N po)) []=iD ((ofR N po f (aZ ((i:Int) + 1)) (ss.headD none) ((lpO ls).getD Str.empty)).flatMap (lk3 ((i:Int) + 1))) acc:=by
    rw [bo1,List.flatMap_append,uL,eac,List.flatMap_singleton]
    rfl
   refine K4 _ _ ?_
   clear K4 M4
   try dsimp only
   refine lxn (SqL.of (g9 _ _ hLa')) (v:=oS (ss.headD none)) (by rw [List.getElem?_map,lag];rfl) ⟨_,rfl,lix (SqL.of e9) (fB) ⟨N,X,_,f,_,ss.headD none,_,Pd,po,rfl,s0.trans c9,fv0,hb,hb3,fun Rl ys H10 s10 hRl eRl l10=>?_⟩⟩
   have ofl:=wF (N:=N) po (aZ ((i:Int) + 1)) (ss.headD none) ((lpO ls).getD Str.empty) (c4 f (List.mem_of_getElem? hf))
   generalize ofR N po f (aZ ((i:Int) + 1)) (ss.headD none) ((lpO ls).getD Str.empty)=ts at ac2 l10 ofl
   have ly:=Paired.length l10
   have g10:=g9.trans s10
   have F10:=g10 _ _ hFc
   have nF:∀x o,H10 x=some o->(∀kk,o ≠ .dT kk)->x ∉ [Fd]:=fun x o e n m=>by
    rw [List.mem_singleton.mp m,F10] at e
    cases e
    exact n _ rfl
   refine Or.inl ⟨⟨_,SqL.of eRl⟩,cN (K:=K) (xs:=ys) (fun j σ Hd=>∃(v9 v10 v11:Option V),σ=[some (.ref L),some (.ref La),some (.ref Pd),some (.ref Fd),some (.ref Lo),some (.int i),some (.ref a),some (.str (aZ ((i:Int) + 1))),some (.ref q3),v9,v10,v11]/\Sm [Fd] H10 Hd/\Hd Fd=some (.dT (dL (iD ((ts.take j).flatMap (lk3 ((i:Int) + 1))) acc)))) ⟨v9,v10,v11,rfl,Sm.refl _ _,F10⟩ (fun j σ Hd _ ⟨_,_,_,_,z,_⟩=>SqL.of (z _ _ (nF _ _ eRl (fun kk e=>by cases e)) eRl)) ?_ ?_⟩
   ·rintro j y σ Hd hy ⟨w9,w10,w11,rfl,sd,hFd'⟩
    obtain ⟨t,ht,tp',rfl,etp⟩:=er l10 hy
    have etp':=sd _ _ (nF _ _ etp (fun kk e=>by cases e)) etp
    have st:=j9 (lk3 ((i:Int) + 1)) ht
    have lk1:((ts.take j).flatMap (lk3 ((i:Int) + 1))).length <= 9:=Nat.le_trans (mZ _ (xA _) _) (by rw [List.length_take];omega)
    have acl:=pT ((ts.take j).flatMap (lk3 ((i:Int) + 1))) acc
    try dsimp only
    refine ⟨tp',_,rfl,SqT.of etp',rfl,_,_,rfl,_,_,rfl,_,_,rfl,rfl,?_⟩
    obtain ⟨t1,to,kd⟩:=t
    cases t1 with
    | none =>
     refine ⟨rfl,_,rfl,bz (bz ⟨_,_,_,rfl,sd,?_⟩)⟩
     rw [st,show lk3 ((i:Int) + 1) (none,to,kd)=[] from rfl,List.append_nil]
     exact hFd'
    | some x =>
     refine ⟨rfl,_,rfl,c0 ⟨rfl,_,rfl,?_⟩⟩
     by_cases c:x=to
     ·refine aU (fun z=>absurd z (by show ¬ (!decide (V.str x=V.str to))=true;rw [c,decide_eq_true rfl];decide)) (fun _=>⟨_,_,_,rfl,sd,?_⟩)
      rw [st,show lk3 ((i:Int) + 1) (some x,to,kd)=[] from if_pos c,List.append_nil]
      exact hFd'
     ·refine aU (fun _=>?_) (fun z=>absurd (by show (!decide (V.str x=V.str to))=true;rw [D3,decide_eq_false c];rfl) z)
      refine ⟨by show 4 <= sizeLine;decide,fun kt hkt=>?_⟩
      dsimp only
      obtain ⟨s11,e11⟩:=alc hkt (HO.tup [oS (some x),V.str to,V.str kd,V.int ((i:Int) + 1)])
      generalize upd Hd kt _=H11 at s11 e11 ⊢
      refine ⟨Fd,_,rfl,ke.t (k:=kL ⟨x,to,kd,(i:Int) + 1⟩) (s11 _ _ hFd') e11 (Nat.lt_of_le_of_lt (m:=2709) (by unfold dL;rw [List.length_map];omega) (by decide)),⟨_,_,_,rfl,(sd.trans (Sm.new s11)).trans (Sm.at (List.mem_singleton.mpr rfl) _),?_⟩⟩
      rw [ao,AB,st,uL,show lk3 ((i:Int) + 1) (some x,to,kd)=[⟨x,to,kd,(i:Int) + 1⟩] from if_neg c]
      rfl
   rintro σ Hd ⟨w9,w10,w11,rfl,sd,hFd'⟩
   rw [show ts.take ys.length=ts by rw [<- ly];exact List.take_length,<- ac2] at hFd'
   refine fin Hd kvs _ _ _ _ _ (sd.same (c9.trans s10) (fun m hm=>by rw [List.mem_singleton.mp hm];exact HFd)) (sd _ _ (nF _ _ (g10 _ _ hLa') (fun kk e=>by cases e)) (g10 _ _ hLa')) (sd _ _ (nF _ _ (g10 _ _ hPc) (fun kk e=>by cases e)) (g10 _ _ hPc)) (Nat.le_succ_of_le kl) (kp1 nd) hFd' rfl ?_
   rw [l0]
   exact sd _ _ (nF _ _ (g10 _ _ hLc) (fun kk e=>by cases e)) (g10 _ _ hLc)
  ·exact fin H6 kvs acc _ _ _ _ c6 (s6 _ _ hLa') (s6 _ _ hPc) (Nat.le_succ_of_le kl) (kp1 nd) (s6 _ _ hFc) (ac1 (Bool.eq_false_iff.mpr nb)) (by rw [l0];exact s6 _ _ hLc)
 rintro σ Hc ⟨kvs,v5,v6,v7,v8,v9,v10,v11,rfl,sc,hLa',hPc,kl,kp,hFc,hLc⟩
 rw [List.take_length] at hFc
 exact K1 _ _ (q Fd Hc sc HFd hFc)
end
section
variable {P:Program}{w:World}{K:W.Frag}{mg:Str->Option Value}{base:Heap}{A:Adr}{N:Nat->Str}
def yw (ps:List Nat) (dd:List (Nat × Nat)):Fr->Prop
 | .leaf r=>∃lp,vf ps dd lp r
 | .aR _ _=>False
 | .main=>False
 | _=>True
mutual
theorem F2 {ps:List Nat}{dd:List (Nat × Nat)}:∀(t:Tr) (b:Bool),okT ps dd b t->∀f ∈ flT t,yw ps dd f
 | .leaf r,b,ok=>by
  rw [okT] at ok
  rw [flT]
  intro f hf
  rw [List.mem_singleton.mp hf]
  exact ⟨b,ok⟩
 | .iff v a c f o,b,ok=>by
  rw [okT] at ok
  rw [flT]
  intro e he
  rcases List.mem_cons.mp he with rfl | he
  ·trivial
  rcases List.mem_append.mp he with he | he
  ·exact nj f b ok.2.1 e he
  rcases List.mem_cons.mp he with rfl | he
  ·trivial
  rcases List.mem_append.mp he with he | he
  ·exact nj o b ok.2.2 e he
  ·rw [List.mem_singleton.mp he]
   trivial
 | .loop t m a c d,b,ok=>by
  rw [okT] at ok
  rw [flT]
  intro e he
  rcases List.mem_cons.mp he with rfl | he
  ·trivial
  rcases List.mem_append.mp he with he | he
  ·exact nj d true ok.2.2.2 e he
  ·rw [List.mem_singleton.mp he]
   trivial
theorem nj {ps:List Nat}{dd:List (Nat × Nat)}:∀(ts:List Tr) (b:Bool),cF ps dd b ts->∀f ∈ aA ts,yw ps dd f
 | [],b,ok=>by
  rw [aA]
  intro f hf
  cases hf
 | t :: ts,b,ok=>by
  rw [cF] at ok
  rw [aA]
  intro f hf
  rcases List.mem_append.mp hf with hf | hf
  ·exact F2 t b ok.1 f hf
  ·exact nj ts b ok.2 f hf
end
def deO:Fr->List (Nat × Nat)
 | .aR k ps=>[(k,ps.length)]
 | _=>[]
def DK (dd:List (Nat × Nat)):Fr->Prop
 | .leaf (.call k us)=>(k,us.length) ∈ dd
 | _=>True
def cgW:List (Nat × Nat)->List Fr->Prop
 | _,[]=>True
 | dd,f :: fs=>DK dd f/\cgW (dd ++ deO f) fs
theorem ou {dd:List (Nat × Nat)}{ys:List Fr}:∀{xs:List Fr},(∀f ∈ xs,DK dd f/\deO f=[])->cgW dd ys->cgW dd (xs ++ ys)
 | [],_,h=>h
 | f :: xs,hx,h=>by
  obtain ⟨h1,h2⟩:=hx f List.mem_cons_self
  refine ⟨h1,?_⟩
  rw [h2,List.append_nil]
  exact ou (fun g hg=>hx g (List.mem_cons_of_mem _ hg)) h
theorem BS {ps:List Nat}{dd:List (Nat × Nat)}{f:Fr} (h:yw ps dd f):DK dd f/\deO f=[]:=by
 cases f with
 | leaf r =>
  obtain ⟨lp,h⟩:=h
  refine ⟨?_,rfl⟩
  cases r with
  | call k us=>exact h.1
  | _=>trivial
 | aR _ _=>exact h.elim
 | _=>exact ⟨trivial,rfl⟩
theorem y6 {k:Nat}{us:List Th}:∀{fs:List Fr}{dd:List (Nat × Nat)}{i:Nat},cgW dd fs->fs[i]?=some (.leaf (.call k us))->(k,us.length) ∈ dd \/ (k,us.length) ∈ (fs.take i).flatMap deO
 | f :: fs,dd,0,h,e=>by
  cases e
  exact .inl h.1
 | f :: fs,dd,i + 1,h,e=>by
  rcases y6 (fs:=fs) (i:=i) h.2 e with z | z
  ·rcases List.mem_append.mp z with z | z
   ·exact .inl z
   ·exact .inr (List.mem_append_left _ z)
  ·exact .inr (List.mem_append_right _ z)
theorem zQ {rest:List Fr}:∀(ds:List De) (dd:List (Nat × Nat)),(∀(k:Nat) d,ds[k]?=some d->cF d.2.1 (dd ++ ir (ds.take k)) false d.2.2)->cgW (dd ++ ir ds) rest->cgW dd (a9 ds ++ rest)
 | [],dd,h,r=>by
  show cgW dd rest
  have e:dd ++ ir []=dd:=List.append_nil _
  rwa [e] at r
 | d :: ds,dd,h,r=>by
  have e:a9 (d :: ds) ++ rest=.aR d.1 d.2.1 :: (aA d.2.2 ++ (.fin :: (a9 ds ++ rest))):=by
   show flD d ++ a9 ds ++ rest=_
   simp [flD]
  rw [e]
  have ok:=h 0 d rfl
  have e0:dd ++ ir (List.take 0 (d :: ds))=dd:=List.append_nil _
  rw [e0] at ok
  refine ⟨trivial,?_⟩
  show cgW (dd ++ [(d.1,d.2.1.length)]) _
  refine ou (fun f hf=>?_) ⟨trivial,?_⟩
  ·obtain ⟨h1,h2⟩:=BS (nj d.2.2 false ok f hf)
   refine ⟨?_,h2⟩
   cases f with
   | leaf r =>
    cases r with
    | call k us=>exact List.mem_append_left _ h1
    | _=>trivial
   | _=>trivial
  ·show cgW (dd ++ [(d.1,d.2.1.length)] ++ []) _
   rw [List.append_nil]
   refine zQ ds _ (fun k d' hk=>?_) ?_
   ·have:=h (k + 1) d' hk
    rw [List.append_assoc]
    exact this
   ·rw [List.append_assoc]
    exact r
theorem B9 {hs:List Lr}{ds:List De}{mb:List Tr} (O:iE hs ds mb):∀r ∈ hs,r.ci < 5:=by
 obtain ⟨rk,z,t,rfl,_⟩:=O.hd
 intro r hr
 have hr:r ∈ mL rk z:=by
  unfold qt at hr
  rcases List.mem_append.mp hr with h | h
  ·exact List.mem_of_mem_drop h
  ·exact List.mem_of_mem_take h
 unfold mL at hr
 simp only [List.mem_cons,List.not_mem_nil,or_false] at hr
 rcases hr with rfl | rfl | rfl | rfl | rfl | rfl | rfl | rfl | rfl | rfl | rfl <;> simp [Lr.ci]
theorem xv {hs:List Lr}{ds:List De}{mb:List Tr} (O:iE hs ds mb) {f:Fr} (m:f ∈ flA hs ds mb):(∃r ∈ hs,f=.leaf r) \/ (∃d ∈ ds,f=.aR d.1 d.2.1) \/ f=.main \/ f=.fin \/ (∃d ∈ ds,∃dd,yw d.2.1 dd f) \/ yw [] (ir ds) f:=by
 unfold flA at m
 rcases List.mem_append.mp m with m | m
 ·rcases List.mem_append.mp m with m | m
  ·obtain ⟨r,hr,rfl⟩:=List.mem_map.mp m
   exact .inl ⟨r,hr,rfl⟩
  ·unfold a9 at m
   obtain ⟨d,hd,m⟩:=List.mem_flatMap.mp m
   unfold flD at m
   rcases List.mem_cons.mp m with rfl | m
   ·exact .inr (.inl ⟨d,hd,rfl⟩)
   rcases List.mem_append.mp m with m | m
   ·obtain ⟨k,hk⟩:=List.getElem?_of_mem hd
    exact .inr (.inr (.inr (.inr (.inl ⟨d,hd,_,nj _ _ (O.de.at' k d hk).2.2.1 f m⟩))))
   ·exact .inr (.inr (.inr (.inl (List.mem_singleton.mp m))))
 ·rcases List.mem_cons.mp m with rfl | m
  ·exact .inr (.inr (.inl rfl))
  rcases List.mem_append.mp m with m | m
  ·exact .inr (.inr (.inr (.inr (.inr (nj _ _ O.mo f m)))))
  ·exact .inr (.inr (.inr (.inl (List.mem_singleton.mp m))))
theorem uV {hs:List Lr}{ds:List De}{mb:List Tr} (O:iE hs ds mb) {k:Nat}{ps:List Nat} (m:Fr.aR k ps ∈ flA hs ds mb):∃d ∈ ds,d.1=k/\d.2.1=ps:=by
 rcases xv O m with ⟨_,_,h⟩ | ⟨d,hd,h⟩ | h | h | ⟨_,_,_,h⟩ | h
 ·cases h
 ·cases h
  exact ⟨d,hd,rfl,rfl⟩
 ·cases h
 ·cases h
 ·exact h.elim
 ·exact h.elim
theorem DE {hs:List Lr}{ds:List De}{mb:List Tr} (O:iE hs ds mb):cgW [] (flA hs ds mb):=by
 have e:flA hs ds mb=hs.map Fr.leaf ++ (a9 ds ++ (.main :: (aA mb ++ (.fin :: [])))):=by
  unfold flA
  simp
 rw [e]
 refine ou (fun f hf=>?_) (zQ ds [] (fun k d hk=>(O.de.at' k d hk).2.2.1) ⟨trivial,?_⟩)
 ·obtain ⟨r,hr,rfl⟩:=List.mem_map.mp hf
  have:=B9 O r hr
  refine ⟨?_,rfl⟩
  cases r with
  | call k us=>exact absurd this (by show ¬ (9 < 5);decide)
  | _=>trivial
 ·show cgW ([] ++ ir ds ++ []) _
  rw [List.append_nil,List.nil_append]
  exact ou (fun f hf=>BS (nj _ _ O.mo f hf)) ⟨trivial,trivial⟩
theorem yC {hs:List Lr}{ds:List De}{mb:List Tr} (O:iE hs ds mb) (i k:Nat) (us:List Th) (h:(flA hs ds mb)[i]?=some (.leaf (.call k us))):∃ps,Fr.aR k ps ∈ (flA hs ds mb).take i/\us.length=ps.length/\ps.length <= 4:=by
 rcases y6 (DE O) h with z | z
 ·cases z
 ·obtain ⟨f,mf,z⟩:=List.mem_flatMap.mp z
  cases f with
  | aR k' ps =>
   have z:=List.mem_singleton.mp z
   obtain ⟨z1,z2⟩:=Prod.mk.inj z
   subst z1
   obtain ⟨d,hd,_,rfl⟩:=uV O (List.mem_of_mem_take mf)
   exact ⟨_,mf,z2,oN O hd⟩
  | _=>cases z
theorem C4 (nm:kf N) {x:Nat} (hx:x < 24) {n:Int} (h0:0 <= n) (h1:n <= 1000):N x ≠ aZ n:=fun e=>by
 have h:32 ∈ (aZ n).cps.toList:=by
  unfold aZ
  show 32 ∈ (((Str.empty ++ ("row ":Str)).cps ++ (Str.ofString (toString n)).cps)).toList
  rw [Array.toList_append]
  exact List.mem_append_left _ (by decide)
 rw [<- e] at h
 have:=(nm.ch x hx 32 h).1
 omega
end
section
variable {P:Program}{w:World}{K:W.Frag}{mg:Str->Option Value}{base:Heap}{A:Adr}{N:Nat->Str}
theorem oa {fs:List (Option Str)}{into kd:Str}{n:Int}{l:Lk}:l ∈ drw fs into kd n ↔ ∃x,some x ∈ fs/\x ≠ into/\l=⟨x,into,kd,n⟩:=by
 unfold drw
 rw [List.mem_map]
 constructor
 ·rintro ⟨f,hf,rfl⟩
  obtain ⟨h1,h2⟩:=List.mem_filter.mp hf
  cases f with
  | none=>cases h2
  | some x=>exact ⟨x,h1,(fun e=>(by rw [show drP into (some x)=!decide (x=into) from rfl,decide_eq_true e] at h2;cases h2)),rfl⟩
 ·rintro ⟨x,h1,h2,rfl⟩
  exact ⟨some x,List.mem_filter.mpr ⟨h1,by show (!decide (x=into))=true;rw [decide_eq_false h2];rfl⟩,rfl⟩
theorem oi {n:Int}{t:T3}{l:Lk}:l ∈ lk3 n t ↔ ∃x,t.1=some x/\x ≠ t.2.1/\l=⟨x,t.2.1,t.2.2,n⟩:=by
 obtain ⟨t1,to,kd⟩:=t
 unfold lk3
 cases t1 with
 | none =>
  constructor
  ·intro h;cases h
  ·rintro ⟨x,h,_⟩;cases h
 | some x =>
  show l ∈ (if x=to then [] else [(⟨x,to,kd,n⟩:Lk)]) ↔ _
  constructor
  ·intro h
   split at h
   ·cases h
   ·next c=>exact ⟨x,rfl,c,List.mem_singleton.mp h⟩
  ·rintro ⟨y,h,c,e⟩
   cases h
   rw [if_neg c]
   exact List.mem_singleton.mpr e
theorem kE {n:Int}{pl:Option Str}{x:Str}{l:Lk}:l ∈ lk3 n (un pl x) ↔ l ∈ drw [pl] x "under" n:=by
 rw [oi,oa]
 constructor
 ·rintro ⟨y,h,c,e⟩
  exact ⟨y,List.mem_singleton.mpr h.symm,c,e⟩
 ·rintro ⟨y,h,c,e⟩
  exact ⟨y,(List.mem_singleton.mp h).symm,c,e⟩
theorem zM {x:Str}:∀(ts:List Th) (acc:List Str),x ∈ ts.foldl (rdS N) acc ↔ x ∈ acc \/ ∃a,Th.x a ∈ ts/\N a=x
 | [],acc=>by
  show x ∈ acc ↔ _
  simp
 | t :: ts,acc=>by
  rw [List.foldl_cons,zM ts]
  cases t with
  | i n =>
   show x ∈ acc \/ _ ↔ _
   constructor
   ·rintro (h | ⟨a,h,e⟩)
    ·exact .inl h
    ·exact .inr ⟨a,List.mem_cons_of_mem _ h,e⟩
   ·rintro (h | ⟨a,h,e⟩)
    ·exact .inl h
    ·rcases List.mem_cons.mp h with h | h
     ·cases h
     ·exact .inr ⟨a,h,e⟩
  | x b =>
   have m:x ∈ rdS N acc (.x b) ↔ x ∈ acc \/ N b=x:=by
    show x ∈ (if N b ∈ acc then acc else acc ++ [N b]) ↔ _
    split
    ·next h=>exact ⟨.inl,fun z=>z.elim id fun e=>e ▸ h⟩
    ·rw [List.mem_append,List.mem_singleton]
     exact or_congr_right eq_comm
   rw [m]
   constructor
   ·rintro ((h | h) | ⟨a,h,e⟩)
    ·exact .inl h
    ·exact .inr ⟨b,List.mem_cons_self,h⟩
    ·exact .inr ⟨a,List.mem_cons_of_mem _ h,e⟩
   ·rintro (h | ⟨a,h,e⟩)
    ·exact .inl (.inl h)
    ·rcases List.mem_cons.mp h with h | h
     ·cases h
      exact .inl (.inr e)
     ·exact .inr ⟨a,h,e⟩
theorem wN {ts:List Th}{x:Str}:x ∈ rds N ts ↔ ∃a,Th.x a ∈ ts/\N a=x:=by
 unfold rds
 rw [zM]
 simp
theorem zK:∀(ts:List Th) (acc:List Str),acc.Nodup->(ts.foldl (rdS N) acc).Nodup
 | [],acc,h=>h
 | t :: ts,acc,h=>by
  rw [List.foldl_cons]
  refine zK ts _ ?_
  cases t with
  | i n=>exact h
  | x b =>
   show (if N b ∈ acc then acc else acc ++ [N b]).Nodup
   split
   ·exact h
   ·next n =>
    refine List.nodup_append.mpr ⟨h,by simp,fun a ha c hc e=>?_⟩
    rw [List.mem_singleton.mp hc] at e
    exact n (e ▸ ha)
theorem tW {ts:List Th}{into kd:Str}{n:Int}{l:Lk}:l ∈ (told N ts into kd).flatMap (lk3 n) ↔ l ∈ drw ((rds N ts).map some) into kd n:=by
 rw [List.mem_flatMap,oa]
 constructor
 ·rintro ⟨t,ht,h⟩
  unfold told at ht
  obtain ⟨th,hth,e⟩:=List.mem_filterMap.mp ht
  cases th with
  | i n=>cases e
  | x a =>
   cases e
   obtain ⟨x,h1,h2,h3⟩:=oi.mp h
   cases h1
   exact ⟨N a,List.mem_map.mpr ⟨N a,wN.mpr ⟨a,hth,rfl⟩,rfl⟩,h2,h3⟩
 ·rintro ⟨x,h1,h2,h3⟩
  obtain ⟨y,hy,e⟩:=List.mem_map.mp h1
  cases e
  obtain ⟨a,ha,rfl⟩:=wN.mp hy
  exact ⟨(some (N a),into,kd),List.mem_filterMap.mpr ⟨.x a,ha,rfl⟩,oi.mpr ⟨N a,rfl,h2,h3⟩⟩
theorem lF {t:Pt}{into kd:Str}{pl:Option Str}{l:Lk}:l ∈ (told N (tTh t) into kd ++ [un pl into]).flatMap (lk3 t.no) ↔ l ∈ drI N t into kd pl:=by
 unfold drI
 rw [List.flatMap_append,List.mem_append,List.mem_append,tW,List.flatMap_singleton,kE]
theorem wy {n:Int}{th:Th}{pn:Str}{l:Lk}:l ∈ (told N [th] pn "value").flatMap (lk3 n) ↔ l ∈ nP N n (th,pn):=by
 rw [tW]
 cases th with
 | i k=>rfl
 | x a=>rfl
theorem AK {po:Str->List Str}{t:Pt}{pl lp:Option Str} (h5:k5 t=true) (hc:∀m i us,t=.leaf m (.call i us)->us.length=(po (N i)).length) {l:Lk}:l ∈ kZ N po (eF (t,pl,lp)) ↔ l ∈ qb N po t pl lp:=by
 cases t with
 | leaf n r =>
  cases r with
  | set x v=>exact lF (t:=.leaf n (.set x v)) (into:=N x) (kd:="value") (pl:=pl)
  | put x p v=>exact lF (t:=.leaf n (.put x p v)) (into:=N x) (kd:="value") (pl:=pl)
  | snd x v=>exact lF (t:=.leaf n (.snd x v)) (into:=aZ n) (kd:="value") (pl:=pl)
  | say x v m =>
   show l ∈ [(some (N m),N x,("value":Str)),un pl (N x),un pl (aZ n)].flatMap (lk3 n) ↔ l ∈ drw [some (N m)] (N x) "value" n ++ drw [pl] (N x) "under" n ++ drw [pl] (aZ n) "under" n
   rw [List.flatMap_cons,List.flatMap_cons,List.flatMap_singleton,List.mem_append,List.mem_append,List.mem_append,List.mem_append,kE,kE,or_assoc]
   refine or_congr_left ?_
   rw [oi,oa]
   constructor
   ·rintro ⟨y,h,c,e⟩
    cases h
    exact ⟨N m,List.mem_singleton.mpr rfl,c,e⟩
   ·rintro ⟨y,h,c,e⟩
    cases List.mem_singleton.mp h
    exact ⟨N m,rfl,c,e⟩
  | last =>
   show l ∈ [un pl (lp.getD Str.empty)].flatMap (lk3 n) ↔ _
   rw [List.flatMap_singleton,kE]
   rfl
  | call i us =>
   have el:=hc n i us rfl
   show l ∈ (un pl (N i) :: clT N pl (us.zip (po (N i)))).flatMap (lk3 n) ↔ l ∈ clA N n (us.zip (po (N i))) ++ clB pl n (po (N i) ++ [N i])
   rw [List.flatMap_cons,List.mem_append,List.mem_append,kE]
   have b:l ∈ clB pl n (po (N i) ++ [N i]) ↔ (∃pn ∈ po (N i),l ∈ drw [pl] pn "under" n) \/ l ∈ drw [pl] (N i) "under" n:=by
    unfold clB
    rw [List.flatMap_append,List.mem_append,List.flatMap_singleton,List.mem_flatMap]
   have c:l ∈ (clT N pl (us.zip (po (N i)))).flatMap (lk3 n) ↔ l ∈ clA N n (us.zip (po (N i))) \/ ∃pn ∈ po (N i),l ∈ drw [pl] pn "under" n:=by
    constructor
    ·intro h
     obtain ⟨t3,h1,h2⟩:=List.mem_flatMap.mp h
     obtain ⟨⟨th,pn⟩,h3,h4⟩:=List.mem_flatMap.mp h1
     rcases List.mem_append.mp h4 with h4 | h4
     ·exact .inl (List.mem_flatMap.mpr ⟨(th,pn),h3,wy.mp (List.mem_flatMap.mpr ⟨t3,h4,h2⟩)⟩)
     ·rw [List.mem_singleton.mp h4,kE] at h2
      exact .inr ⟨pn,(List.of_mem_zip h3).2,h2⟩
    ·rintro (h | ⟨pn,h1,h2⟩)
     ·obtain ⟨⟨th,pn⟩,h3,h4⟩:=List.mem_flatMap.mp h
      obtain ⟨t3,h5,h6⟩:=List.mem_flatMap.mp (wy.mpr h4)
      exact List.mem_flatMap.mpr ⟨t3,List.mem_flatMap.mpr ⟨(th,pn),h3,List.mem_append_left _ h5⟩,h6⟩
     ·obtain ⟨j,hj⟩:=List.getElem?_of_mem h1
      obtain ⟨th,hth⟩:∃th,us[j]?=some th:=⟨_,List.getElem?_eq_getElem (by have:=(List.getElem?_eq_some_iff.mp hj).1;omega)⟩
      have hz:(us.zip (po (N i)))[j]?=some (th,pn):=List.getElem?_zip_eq_some.mpr ⟨hth,hj⟩
      exact List.mem_flatMap.mpr ⟨un pl pn,List.mem_flatMap.mpr ⟨(th,pn),List.mem_of_getElem? hz,List.mem_append_right _ (List.mem_singleton.mpr rfl)⟩,kE.mpr h2⟩
   rw [b,c]
   constructor
   ·rintro (h | h | h)
    ·exact .inr (.inr h)
    ·exact .inl h
    ·exact .inr (.inl h)
   ·rintro (h | h | h)
    ·exact .inr (.inl h)
    ·exact .inr (.inr h)
    ·exact .inl h
  | _=>cases h5
 | iff n v a b f o=>exact lF (t:=.iff n v a b f o) (into:=aZ n) (kd:="test") (pl:=pl)
 | loop n t m a b c=>exact lF (t:=.loop n t m a b c) (into:=aZ n) (kd:="test") (pl:=pl)
 | aR _ _ _ _=>cases h5
theorem ju {fs:List (Option Str)}{into kd:Str}{n:Int} (h:fs.Nodup):(drw fs into kd n).Nodup:=by
 unfold drw
 have h:=(List.filter_sublist (p:=drP into) (l:=fs)).nodup h
 have hp:∀f ∈ fs.filter (drP into),f ≠ none:=fun f hf e=>by
  rw [e] at hf
  cases (List.mem_filter.mp hf).2
 generalize fs.filter (drP into)=gs at h hp
 induction gs with
 | nil=>exact List.nodup_nil
 | cons g gs ih =>
  rw [List.nodup_cons] at h
  rw [List.map_cons,List.nodup_cons]
  refine ⟨fun m=>?_,ih h.2 fun f hf=>hp f (List.mem_cons_of_mem _ hf)⟩
  obtain ⟨g',hg',e⟩:=List.mem_map.mp m
  have e1:g'.getD Str.empty=g.getD Str.empty:=congrArg Lk.fr e
  cases g with
  | none=>exact hp _ List.mem_cons_self rfl
  | some x =>
   cases g' with
   | none=>exact hp _ (List.mem_cons_of_mem _ hg') rfl
   | some y =>
    have e1:y=x:=e1
    exact h.1 (e1 ▸ hg')
theorem cU {fs:List (Option Str)}{into kd:Str}{n:Int}{l:Lk} (h:l ∈ drw fs into kd n):l.to=into/\l.kd=kd/\l.no=n:=by
 obtain ⟨x,_,_,rfl⟩:=oa.mp h
 exact ⟨rfl,rfl,rfl⟩
theorem mO {a b:List Lk} (ha:a.Nodup) (hb:b.Nodup) (h:∀l ∈ a,l ∉ b):(a ++ b).Nodup:=List.nodup_append.mpr ⟨ha,hb,fun x hx y hy e=>h x hx (e ▸ hy)⟩
theorem AQ {xs:List Str} (h:xs.Nodup):(xs.map some).Nodup:=by
 unfold List.Nodup at h ⊢
 rw [List.pairwise_map]
 exact h.imp fun n e=>n (Option.some.inj e)
theorem o6 {t:Pt}{into kd:Str}{pl:Option Str} (h:kd ≠ "under"):(drI N t into kd pl).Nodup:=by
 unfold drI
 refine mO (ju (AQ (zK _ _ List.nodup_nil))) (ju (by simp)) fun l h1 h2=>h ?_
 rw [<- (cU h1).2.1,(cU h2).2.1]
theorem yA {α:Type} (g:α->List Lk) (k:α->Str) (hk:∀x,∀l ∈ g x,l.to=k x) (hn:∀x,(g x).Nodup):∀{xs:List α},(xs.map k).Nodup->(xs.flatMap g).Nodup
 | [],_=>List.nodup_nil
 | x :: xs,h=>by
  rw [List.map_cons,List.nodup_cons] at h
  rw [List.flatMap_cons]
  refine mO (hn x) (yA g k hk hn h.2) fun l h1 h2=>h.1 ?_
  obtain ⟨y,hy,h3⟩:=List.mem_flatMap.mp h2
  rw [<- hk x l h1,hk y l h3]
  exact List.mem_map_of_mem hy
theorem sO {n:Int}{tp:Th × Str}{l:Lk} (h:l ∈ nP N n tp):l.to=tp.2/\l.kd="value"/\l.no=n:=by
 unfold nP at h
 split at h
 ·cases h
 ·exact cU h
theorem zL {pl:Option Str}{n:Int}{xs:List Str}{l:Lk} (h:l ∈ clB pl n xs):l.kd="under"/\l.no=n:=by
 obtain ⟨x,_,h⟩:=List.mem_flatMap.mp h
 exact (cU h).2
theorem xl {α:Type}:∀{us:List α}{ps:List Str},ps.Nodup->((us.zip ps).map (·.2)).Nodup
 | [],ps,h=>by simp
 | u :: us,[],h=>by simp
 | u :: us,p :: ps,h=>by
  rw [List.nodup_cons] at h
  rw [List.zip_cons_cons,List.map_cons,List.nodup_cons]
  refine ⟨fun m=>h.1 ?_,xl h.2⟩
  obtain ⟨⟨a,b⟩,m,e⟩:=List.mem_map.mp m
  cases e
  exact (List.of_mem_zip m).2
theorem C3 {po:Str->List Str}{t:Pt}{pl lp:Option Str} (hc:∀m i us,t=.leaf m (.call i us)->(po (N i) ++ [N i]).Nodup) (hs:∀m x v k,t=.leaf m (.say x v k)->N x ≠ aZ m):(qb N po t pl lp).Nodup:=by
 cases t with
 | leaf n r =>
  cases r with
  | set x v=>exact o6 (by decide)
  | put x p v=>exact o6 (by decide)
  | snd x v=>exact o6 (by decide)
  | say x v m =>
   show (drw [some (N m)] (N x) "value" n ++ drw [pl] (N x) "under" n ++ drw [pl] (aZ n) "under" n).Nodup
   refine mO (mO (ju (by simp)) (ju (by simp)) fun l h1 h2=>?_) (ju (by simp)) fun l h1 h2=>?_
   ·have:=(cU h1).2.1.symm.trans (cU h2).2.1
    exact absurd this (by decide)
   ·rcases List.mem_append.mp h1 with h1 | h1
    ·have:=(cU h1).2.1.symm.trans (cU h2).2.1
     exact absurd this (by decide)
    ·exact hs n x v m rfl ((cU h1).1.symm.trans (cU h2).1)
  | last=>exact ju (by simp)
  | call i us =>
   have nd:=hc n i us rfl
   show (clA N n (us.zip (po (N i))) ++ clB pl n (po (N i) ++ [N i])).Nodup
   refine mO (yA _ (·.2) (fun x l hl=>(sO hl).1) (fun x=>?_) (xl (List.nodup_append.mp nd).1)) (yA _ id (fun x l hl=>(cU hl).1) (fun x=>ju (by simp)) (by rw [List.map_id];exact nd)) fun l h1 h2=>?_
   ·unfold nP
    split
    ·exact List.nodup_nil
    ·exact ju (by simp)
   ·obtain ⟨x,_,h1⟩:=List.mem_flatMap.mp h1
    have:=(sO h1).2.1.symm.trans (zL h2).1
    exact absurd this (by decide)
  | _=>exact List.nodup_nil
 | iff n v a b f o=>exact o6 (by decide)
 | loop n t m a b c=>exact o6 (by decide)
 | aR _ _ _ _=>exact List.nodup_nil
theorem pS {t:Pt}{into kd:Str}{pl:Option Str}{l:Lk} (h:l ∈ drI N t into kd pl):l.no=t.no:=by
 rcases List.mem_append.mp h with h | h <;> exact (cU h).2.2
theorem Cj {po:Str->List Str}{t:Pt}{pl lp:Option Str}{l:Lk} (h:l ∈ qb N po t pl lp):l.no=t.no:=by
 cases t with
 | leaf n r =>
  cases r with
  | set x v=>exact pS h
  | put x p v=>exact pS h
  | snd x v=>exact pS h
  | say x v m =>
   have h:l ∈ drw [some (N m)] (N x) "value" n ++ drw [pl] (N x) "under" n ++ drw [pl] (aZ n) "under" n:=h
   rcases List.mem_append.mp h with h | h
   ·rcases List.mem_append.mp h with h | h <;> exact (cU h).2.2
   ·exact (cU h).2.2
  | last=>exact (cU h).2.2
  | call i us =>
   have h:l ∈ clA N n (us.zip (po (N i))) ++ clB pl n (po (N i) ++ [N i]):=h
   rcases List.mem_append.mp h with h | h
   ·obtain ⟨x,_,h1⟩:=List.mem_flatMap.mp h
    exact (sO h1).2.2
   ·exact (zL h).2
  | _=>cases h
 | iff n v a b f o=>exact pS h
 | loop n t m a b c=>exact pS h
 | aR _ _ _ _=>cases h
theorem tK:∀(fs:List Fr) (s:List (Option Str)) (l:List Str) (n:Int),(aO N s l n fs).Pairwise (fun a b=>a.2.1 < b.2.1)/\∀e ∈ aO N s l n fs,n <= e.2.1
 | [],s,l,n=>⟨List.Pairwise.nil,fun e h=>by cases h⟩
 | f :: fs,s,l,n=>by
  obtain ⟨h1,h2⟩:=tK fs (stp N s n f) (iw l n f) (n + 1)
  rw [aO]
  split
  ·refine ⟨List.pairwise_append.mpr ⟨List.pairwise_singleton _ _,h1,fun a ha b hb=>?_⟩,fun e he=>?_⟩
   ·rw [List.mem_singleton.mp ha]
    have:=h2 b hb
    show n < b.2.1
    omega
   ·rcases List.mem_append.mp he with he | he
    ·rw [List.mem_singleton.mp he]
     exact Int.le_refl _
    ·have:=h2 e he
     omega
  ·exact ⟨h1,fun e he=>by have:=h2 e he;omega⟩
theorem Cd {g:Le->List Lk} (hg:∀e,∀l ∈ g e,l.no=e.1.no):∀{es:List Le},es.Pairwise (fun a b=>a.1.no < b.1.no)->(∀e ∈ es,(g e).Nodup)->(es.flatMap g).Nodup
 | [],_,_=>List.nodup_nil
 | e :: es,h,hn=>by
  rw [List.pairwise_cons] at h
  rw [List.flatMap_cons]
  refine mO (hn e List.mem_cons_self) (Cd hg h.2 fun x hx=>hn x (List.mem_cons_of_mem _ hx)) fun l h1 h2=>?_
  obtain ⟨y,hy,h3⟩:=List.mem_flatMap.mp h2
  have:=h.1 y hy
  have e1:=hg e l h1
  have e2:=hg y l h3
  omega
theorem AD:∀{cs pls:List Lk},cs.Nodup->(∀x ∈ cs,x ∈ pls)->cs.length <= pls.length
 | [],_,_,_=>Nat.zero_le _
 | x :: r,pls,nd,h=>by
  rw [List.nodup_cons] at nd
  have m:=h x List.mem_cons_self
  have:=AD (cs:=r) (pls:=pls.erase x) nd.2 fun y hy=>by
   rw [List.mem_erase_of_ne fun (e:y=x)=>nd.1 (e ▸ hy)]
   exact h y (List.mem_cons_of_mem _ hy)
  rw [List.length_erase_of_mem m] at this
  have:=List.length_pos_of_mem m
  rw [List.length_cons]
  omega
theorem D4 (nm:kf N) {hs:List Lr}{ds:List De}{mb:List Tr} (O:iE hs ds mb) {d:De} (m:d ∈ ds):(d.2.1.map N ++ [N d.1]).Nodup:=by
 obtain ⟨k,hk⟩:=List.getElem?_of_mem m
 have k3:k < 3:=by rw [<- O.dl];exact (List.getElem?_eq_some_iff.mp hk).1
 obtain ⟨e1,⟨n,hn,e2⟩,_⟩:=O.de.at' k d hk
 have nd:∀k,k < 3->∀n,n < mxI k->(psI k n ++ [dnI k]).Nodup/\∀x ∈ psI k n ++ [dnI k],x < 24:=by decide
 obtain ⟨h1,h2⟩:=nd k k3 n hn
 rw [e1,e2]
 have e:(psI k n).map N ++ [N (dnI k)]=(psI k n ++ [dnI k]).map N:=by simp
 rw [e]
 unfold List.Nodup at h1 ⊢
 rw [List.pairwise_map]
 exact h1.imp_of_mem fun ha hb n e=>n (nm.inj _ _ (h2 _ ha) (h2 _ hb) e)
theorem yp (nm:kf N) {hs:List Lr}{ds:List De}{mb:List Tr} (O:iE hs ds mb) :
  (dA N (deP ((hs.length:Nat) + 1) ds) (bA (msN hs ds) mb)).Nodup/\∀l,l ∈ dA N (deP ((hs.length:Nat) + 1) ds) (bA (msN hs ds) mb) ↔ l ∈ iD ((aO N [] [] 1 (flA hs ds mb)).flatMap (kZ N (poM N (deP ((hs.length:Nat) + 1) ds)))) []:=by
 obtain ⟨b1,_⟩:=tF (N:=N) O
 have fr:=lX nm O
 have cl:∀m i us,∀e ∈ dz N (deP ((hs.length:Nat) + 1) ds) (bA (msN hs ds) mb),e.1=Pt.leaf m (.call i us)->∃d ∈ ds,d.1=i/\us.length=d.2.1.length:=fun m i us e he z=>by
  have h:=(fr e he).2.2.1
  rw [z] at h
  obtain ⟨d,md,e'⟩:=List.mem_map.mp h
  obtain ⟨e1,e2⟩:=Prod.mk.inj e'
  exact ⟨d,md,e1,e2.symm⟩
 have sy:∀m x v k,∀e ∈ dz N (deP ((hs.length:Nat) + 1) ds) (bA (msN hs ds) mb),e.1=Pt.leaf m (.say x v k)->x < 24:=fun m x v k e he z=>by
  have h:eF e ∈ aO N [] [] 1 (flA hs ds mb):=by rw [b1];exact List.mem_map_of_mem he
  have h:=mh h
  have h:Fr.leaf (.say x v k) ∈ flA hs ds mb:=by
   have z':(eF e).1=.leaf (.say x v k):=by
    show frP e.1=_
    rw [z]
    rfl
   rwa [z'] at h
  rcases xv O h with ⟨r,hr,h⟩ | ⟨d,hd,h⟩ | h | h | ⟨d,hd,dd,lp,h⟩ | ⟨lp,h⟩
  ·cases h
   have:=B9 O _ hr
   exact absurd this (by show ¬ (8 < 5);decide)
  ·cases h
  ·cases h
  ·cases h
  ·have h:x ∈ S7 ++ d.2.1:=h.1
   rcases List.mem_append.mp h with h | h
   ·exact (by decide:∀x ∈ S7,x < 24) x h
   ·obtain ⟨k',hk⟩:=List.getElem?_of_mem hd
    have k3:k' < 3:=by rw [<- O.dl];exact (List.getElem?_eq_some_iff.mp hk).1
    obtain ⟨_,⟨n,hn,e2⟩,_⟩:=O.de.at' k' d hk
    rw [e2] at h
    exact (by decide:∀k,k < 3->∀n,n < mxI k->∀x ∈ psI k n,x < 24) k' k3 n hn x h
  ·have h:x ∈ S7 ++ []:=h.1
   rw [List.append_nil] at h
   exact (by decide:∀x ∈ S7,x < 24) x h
 constructor
 ·unfold dA
  refine Cd (fun e l hl=>Cj hl) ?_ fun e he=>C3 (fun m i us z=>?_) (fun m x v k z=>?_)
  ·have h:=(tK (N:=N) (flA hs ds mb) [] [] 1).1
   rw [b1,List.pairwise_map] at h
   exact h
  ·obtain ⟨d,md,rfl,_⟩:=cl m i us e he z
   rw [vb nm O md]
   exact D4 nm O md
  ·have h:=fr e he
   rw [z] at h
   exact C4 nm (sy m x v k e he z) (by have:=h.2.2.2.1;exact Int.le_trans (by decide) this) h.2.2.2.2
 ·intro l
  rw [tH,b1]
  unfold dA
  have kr:∀e ∈ dz N (deP ((hs.length:Nat) + 1) ds) (bA (msN hs ds) mb),(l ∈ kZ N (poM N (deP ((hs.length:Nat) + 1) ds)) (eF e) ↔ l ∈ qb N (poM N (deP ((hs.length:Nat) + 1) ds)) e.1 e.2.1 e.2.2):=fun e he=>AK (fr e he).1 fun m i us z=>by
   obtain ⟨d,md,rfl,e2⟩:=cl m i us e he z
   rw [vb nm O md,List.length_map]
   exact e2
  constructor
  ·intro h
   obtain ⟨e,he,h⟩:=List.mem_flatMap.mp h
   exact .inr (List.mem_flatMap.mpr ⟨eF e,List.mem_map_of_mem he,(kr e he).mpr h⟩)
  ·rintro (h | h)
   ·cases h
   ·obtain ⟨e',he',h⟩:=List.mem_flatMap.mp h
    obtain ⟨e,he,rfl⟩:=List.mem_map.mp he'
    exact List.mem_flatMap.mpr ⟨e,he,(kr e he).mp h⟩
end
section
variable {P:Program}{w:World}{K:W.Frag}{mg:Str->Option Value}{base:Heap}{A:Adr}{N:Nat->Str}
seal PE PA PS PSs PT PW
inductive rb (A:Adr) (vs:List V) (H:Hp) (Q:VK) (E9:XK):Prop
 | mk (N:Nat->Str) (X:Hp) (v:V) (hs ds ms:List Pt) (Dd:Addr) (ks:List Lk) (z0:vs=[v,.ref Dd]) (z1:ai X H) (z2:zG A N X v hs ds ms) (z3:OkL N 6 hs ds ms) (z4:H Dd=some (.dT (dL ks))) (z5:(dA N ds ms).length=ks.length) (z6:∀l ∈ dA N ds ms,l ∈ ks) (z7:(dA N ds ms).Nodup)
  (z8:∀H',ai H H'->Q (.bl true) H'):rb A vs H Q E9
theorem tS (T:Txt K mg A):T.mB.Hz P w base 27 (rb A):=by
 refine T.mB.hs (k:=26) fo (fun f cdv A' outer s H vs Q E' hr hu h=>?_)
 obtain ⟨N,X,v,hs,ds,ms,Dd,ks,rfl,s0,pg,O,hDd,len,mem,nd,q⟩:=h
 have ll:=O.ll
 refine ⟨_,(ae (pst 2 fo.nd (zA (hj:=by omega) (AY T 6) hr (aa (fv 0) ab)))
  (ae (aL (PW.pt (pw_or (vY (bU (pcB br T.aG (aa (fv 2) (aa (iV (v:=.ty "list") rfl T.cS (by boot_by_name) rfl) ab))) (fun _=>rfl))) (pw_or1 (ptc (nY hu) (pcB gm T.fV (aa (fv 2) ab)) (pcB C5 T.fV (aa (fv 1) ab))))))
   (ah (aw qW))
   aB)
  (ae (pst 3 fo.nd (uq))
  (ae (cy PassesOwn.never rfl (cR (fv 2)) (pgn (i:=4) fo.nd rfl)
   (ae (aL (PW.pt (pw_or (vY (bU (pcB br T.aG (aa (fv 4) (aa (iV (v:=.ty "tuple") rfl T.ow (by boot_by_name) rfl) ab))) (fun _=>rfl))) (pw_or (ptc (iH hu) (fv 4) (fv 1) ((by with_unfolding_all rfl))) (pw_or1 (ptc (tM hu) (fv 4) (fv 3) ((by with_unfolding_all rfl)))))))
    (ah (aw qW))
    aB)
   (ae (aL (PW.pt (pw_or (vY (bU (pcB br T.aG (aa (px hu (fv 4) af) (aa (iV (v:=.ty "int") rfl T.wM (by boot_by_name) rfl) ab))) (fun _=>rfl))) (pw_or1 (bU (pcB br T.aG (aa (px hu (fv 4) af) (aa (iV (v:=.ty "bool") rfl T.su (by boot_by_name) rfl) ab))) (fun _=>rfl)))))
    (ah (aw qW))
    aB)
   (ah (cK qW (gK (fv 3) (fv 4) (lI hu)))))))
  (ae (aE (By (fv 2)))
  (ah (aw qW))))))),?_⟩
 refine ag fun M1 K1=>⟨N,X,v,hs,ds,ms,rfl,s0,pg,O,fun F ys H1 s1 hF eF l1=>?_⟩
 have ly:=Paired.length l1
 generalize dA N ds ms=ls at len mem nd ll l1 ly
 refine K1 _ _ ?_
 clear K1 M1
 try dsimp only
 refine ag fun M1 K1=>⟨_,_,_,true,rfl,(fun z=>by cases z),.lst eF,Dj,true,rfl,bz (lnl eF ⟨Dd,_,rfl,s1 _ _ hDd,rfl,_,rfl,?_⟩)⟩
 have el:((ys.length:Nat):Int)=(((dL ks).length:Nat):Int):=by unfold dL;rw [List.length_map,<- ly,len]
 refine aU (fun z=>absurd z (by rw [el,decide_eq_true rfl];decide)) fun _=>K1 _ _ ?_
 clear K1 M1
 try dsimp only
 refine ag fun M1 K1 Md hMd=>?_
 obtain ⟨s2,e2⟩:=alc hMd (HO.dT [])
 generalize upd H1 Md _=H2 at s2 e2 ⊢
 have t2:=s1.trans s2
 have HMd:H Md=none:=ai.free s1 hMd
 have nM:∀x o,H2 x=some o->(∀kk,o ≠ .dT kk)->x ∉ [Md]:=fun x o e n m=>by
  rw [List.mem_singleton.mp m,e2] at e
  cases e
  exact n _ rfl
 have DM:Dd ∉ [Md]:=fun m=>by
  rw [<- List.mem_singleton.mp m,s1 _ _ hDd] at hMd
  cases hMd
 have eF2:=s2 _ _ eF
 refine K1 _ _ ?_
 clear K1 M1
 try dsimp only
 refine ag fun M1 K1=>Or.inl ⟨⟨_,SqL.of eF2⟩,cN (K:=K) (xs:=ys) (fun i σ Hc=>∃(v4:Option V),σ=[some v,some (.ref Dd),some (.ref F),some (.ref Md),v4]/\Sm [Md] H2 Hc/\Hc Md=some (.dT (dL (ls.take i)))) ⟨none,rfl,Sm.refl _ _,e2⟩ (fun i σ Hc _ ⟨_,_,z,_⟩=>SqL.of (z _ _ (nM _ _ eF2 (fun kk e=>by cases e)) eF2)) ?_ ?_⟩
 ·rintro i y σ Hc hy ⟨v4,rfl,sc,hMc⟩
  obtain ⟨l,hl,tp,rfl,etp⟩:=er l1 hy
  have etp2:=s2 _ _ etp
  have etp':=sc _ _ (nM _ _ etp2 (fun kk e=>by cases e)) etp2
  have hDc:=sc _ _ DM (t2 _ _ hDd)
  have ml:=List.mem_of_getElem? hl
  have nl:l ∉ ls.take i:=fun m=>by
   obtain ⟨j,hj⟩:=List.getElem?_of_mem m
   have jl:=(List.getElem?_eq_some_iff.mp hj).1
   rw [List.length_take] at jl
   rw [List.getElem?_take_of_lt (by omega)] at hj
   have il:=(List.getElem?_eq_some_iff.mp hl).1
   have:=(List.getElem?_inj (show j < ls.length by omega) nd).mp (hj.trans hl.symm)
   omega
  try dsimp only
  refine ag fun N1 J1=>⟨_,_,_,true,rfl,(fun z=>by cases z),.tup etp',Ec,true,rfl,bz (Or.inr ⟨Dd,_,rfl,jq.t (k:=kL l) hDc etp',_,rfl,?_⟩)⟩
  rw [rV (mem l ml)]
  refine bz (Or.inr ⟨Md,_,rfl,jq.t (k:=kL l) hMc etp',_,rfl,?_⟩)
  rw [rP nl]
  refine bz (J1 _ _ ?_)
  clear J1 N1
  try dsimp only
  refine ag fun N1 J1=>tix (j:=3) (SqT.of etp') rfl ⟨_,_,_,true,rfl,(fun z=>by cases z),.int l.no,Dk,true,rfl,bz (tix (j:=3) (SqT.of etp') rfl ⟨_,_,_,false,rfl,(fun z=>by cases z),.int l.no,CG,false,rfl,bz (J1 _ _ ?_)⟩)⟩
  clear J1 N1
  have il:=(List.getElem?_eq_some_iff.mp hl).1
  refine ⟨Md,_,rfl,ke.t (k:=kL l) hMc etp' (aH (by unfold dL;rw [List.length_map,List.length_take];omega)),⟨_,rfl,sc.trans (Sm.at (List.mem_singleton.mpr rfl) _),?_⟩⟩
  rw [ao,AB,j6 hl]
  unfold iz
  rw [if_neg nl]
 rintro σ Hc ⟨v4,rfl,sc,hMc⟩
 refine K1 _ _ ?_
 clear K1 M1
 have eFc:=sc _ _ (nM _ _ eF2 (fun kk e=>by cases e)) eF2
 have scH:ai H Hc:=sc.same t2 (fun m hm=>by rw [List.mem_singleton.mp hm];exact HMd)
 try dsimp only
 exact ag fun M1 K1=>⟨Or.inl ⟨rfl,_,SqL.of eFc⟩,_,_,rfl,rfl,eFc,K1 _ _ (q _ (vX scH hF _))⟩
def rJ (K:W.Frag):Sp:=fun vs H Q _=>∃(a:Addr) (ns:List Int),vs=[.ref a]/\SqL K H a (ns.map V.int)/\ns.length <= 63/\∀H',Q (.bl true) H'
theorem EV (T:Txt K mg A) (F:aW K mg "law" pK ["_law_script"]):Has P w K mg base 28 "law" ["_law_script"] (rJ K):=by
 refine F.hs (k:=27) oR (fun f cdv A' outer s0 H vs Q E hr hu h=>?_) (fun vs H Q E h=>by obtain ⟨a,ns,rfl,_⟩:=h;rfl)
 obtain ⟨sc,ns,rfl,hS,_,q⟩:=h
 refine ⟨_,(ae (pst 1 oR.nd (ak (hj:=by omega) (Af T) hr (aa (ak (hj:=by omega) (sZ T) hr (aa (fv 0) (aa af ab))) (aa (ak (hj:=by omega) (sZ T) hr (aa (fv 0) (aa af ab))) (aa af ab)))))
  (ae (pst 2 oR.nd (ak (hj:=by omega) (D8 T) hr (aa (fv 0) (aa (fv 1) ab))))
  (ae (pst 3 oR.nd (ak (hj:=by omega) (Bs T) hr (aa (fv 2) ab)))
  (ae (pst 4 oR.nd (ak (hj:=by omega) (CS T) hr (aa (fv 2) ab)))
  (ah (aw (Dx (ak (hj:=by omega) (tS T) hr (aa (fv 3) (aa (fv 4) ab))) (Dz (ak (hj:=by omega) (tS T) hr (aa (fv 3) (aa (fv 4) ab))))))))))),?_⟩
 refine ag fun M1 K1=>⟨sc,ns,0,rfl,hS,by decide,by decide,fun c1 H1 s1=>⟨sc,ns,1,rfl,s1.seq hS,by decide,by decide,fun c2 H2 s2=>⟨c1,c2,rfl,fun nl N H3 s3 hnl enl nm=>K1 _ _ ?_⟩⟩⟩
 clear K1 M1
 have t3:=s1.trans (s2.trans s3)
 try dsimp only
 refine ag fun M1 K1=>⟨N,sc,nl,ns,rfl,t3.seq hS,enl,nm,fun L xs hs ds mb H4 s4 hL eL fr O=>?_⟩
 have lx:xs.length <= 300:=by
  rw [<- Paired.length fr]
  obtain ⟨l1,l2,l3⟩:=rX O
  unfold flA
  rw [List.length_append,List.length_append,List.length_map,List.length_cons,List.length_append,List.length_singleton]
  omega
 refine K1 _ _ ?_
 clear K1 M1
 try dsimp only
 refine ag fun M1 K1=>⟨N,H4,L,xs,hs,ds,mb,rfl,ai.refl _,eL,fr,O,lx,fun v H5 s5 pg=>?_⟩
 have OL:=DC nm O
 obtain ⟨nd,me⟩:=yp nm O
 have lk:(dA N (deP ((hs.length:Nat) + 1) ds) (bA (msN hs ds) mb)).length=(iD ((aO N [] [] 1 (flA hs ds mb)).flatMap (kZ N (poM N (deP ((hs.length:Nat) + 1) ds)))) []).length:=Nat.le_antisymm (AD nd fun l h=>(me l).mp h) (AD (xy List.nodup_nil) fun l h=>(me l).mpr h)
 refine K1 _ _ ?_
 clear K1 M1
 try dsimp only
 refine ag fun M1 K1=>⟨N,H4,L,xs,flA hs ds mb,poM N (deP ((hs.length:Nat) + 1) ds),rfl,s5,eL,fr,(tF (N:=N) O).2,lx,(fun k ps m=>?_),yC O,fun Dd H6 s6 hDd eDd=>K1 _ _ ?_⟩
 ·obtain ⟨d,md,rfl,rfl⟩:=uV O m
  exact vb nm O md _
 clear K1 M1
 try dsimp only
 exact ⟨N,H5,v,_,_,_,Dd,_,rfl,s6,pg,OL,eDd,lk,(fun l h=>(me l).mp h),nd,fun H7 s7=>⟨_,rfl,c0 ⟨N,H5,v,_,_,_,Dd,_,rfl,s6.trans s7,pg,OL,s7 _ _ eDd,lk,(fun l h=>(me l).mp h),nd,fun H8 s8=>q H8⟩⟩⟩
end
abbrev FnI (K:W.Frag) (f:Addr) (x y:Str) (s:Stmt):Prop:=∃(oc:Value) (od:Option Addr) (kV dc pm:Value) (an:Option Addr) (cd ct:Value) (sl:Array (Option Value)),K.lookup f=some ⟨oc,od,.func (W.fnOf x y (bD s) (bq s) (aq s) .none kV dc pm an cd ct),sl⟩/\W.codeIn K cd y=true/\W.keepIn K (.ref f)=true
abbrev bS (K:W.Frag) (x:Str) (s:Stmt):Prop:=∃f,W.nsIn K mainGlobals x=some (some (.ref f))/\FnI K f x x s
abbrev hZ (K:W.Frag) (C:Addr) (m q:Str) (s:Stmt):Prop:=∃f,W.findIn K (.ref C) m=some (some (.ref f))/\W.isFn K (.ref f)=true/\FnI K f m q s
abbrev kh (K:W.Frag) (C:Addr) (x:Str) (up:List Addr):Prop:=W.nsIn K mainGlobals x=some (some (.ref C))/\(∃cd,W.clsIn K C=some cd/\cd.mro=up.map Value.ref ++ [Value.type "object"])/\W.plainGet K C Str.empty=true/\W.hasDictIn K C=true/\W.plainOver K C=true/\W.findIn K (.ref C) "__setattr__"=some (some (.builtin "object.__setattr__"))/\W.typeIn K (.ref C)=some (.type "type")/\W.findIn K (.ref C) "__class__"=some (some (.builtin "object.__class__"))/\W.makesIn K C=true/\W.keepIn K (.ref C)=true
abbrev NsI (K:W.Frag) (x:Str):Prop:=W.nsIn K mainGlobals x=some none
abbrev NoI (K:W.Frag) (C:Addr) (x:Str):Prop:=W.findIn K (.ref C) x=some none
section
variable {K:W.Frag}{mg:Str->Option Value}{h:Heap}{x m q:Str}{s:Stmt}{ps:List Str}{C:Addr}{up:List Addr}
theorem bV (X:K.In h) (G:h.Ns mainGlobals mg) (t:bS K x s) (b:∀(kV doc pm:Value) (an:Option Addr) (cdv ct:Value) (us:List Value),us.length=ps.length->bindArgs (W.fnOf x x (bD s) (bq s) (aq s) .none kV doc pm an cdv ct) ⟨us,[]⟩=pure (ps.zip us)):aW K mg x s ps:=by
 obtain ⟨f,a,_,_,_,_,_,_,_,_,_,l,c,k⟩:=t
 exact yt X G a l c k b
theorem iB (t:hZ K C m q s) (b:∀(kV doc pm:Value) (an:Option Addr) (cdv ct:Value) (us:List Value),us.length=ps.length->bindArgs (W.fnOf m q (bD s) (bq s) (aq s) .none kV doc pm an cdv ct) ⟨us,[]⟩=pure (ps.zip us)):MFn K C m q s ps:=by
 obtain ⟨f,a,i,_,_,_,_,_,_,_,_,_,l,c,k⟩:=t
 exact Dg a i l c k b
theorem kR (X:K.In h) (G:h.Ns mainGlobals mg) (cg:W.specialIn K (.builtin "object.__class__") "__get__"=some (some (.builtin "getset_descriptor.__get__"))) (ct:W.takesIn K (.builtin "object.__class__")=some true) (t:kh K C x up):df K mg C x up:=by
 obtain ⟨a,b,c,d,e,f,g,i,j,k⟩:=t
 exact ⟨W.mg_of X G a,⟨c,d,e,f⟩,b,g,i,cg,ct,j,k⟩
end
theorem ar0 {p:List Value->Prop} (h:p []):∀us:List Value,us.length=0->p us:=fun us e=>by
 cases us with
 | nil=>exact h
 | cons b t=>cases e
theorem arS {p:List Value->Prop}{n:Nat} (h:∀a,∀us:List Value,us.length=n->p (a :: us)):∀us:List Value,us.length=n + 1->p us:=fun us e=>by
 cases us with
 | nil=>cases e
 | cons b t=>exact h b t (Nat.succ.inj e)
abbrev BY (K:W.Frag) (x:Str) (s:Stmt) (d:V):Prop:=∃(f T:Addr) (v oc:Value) (od:Option Addr) (kV dc pm:Value) (an:Option Addr) (cd ct:Value) (sl tl:Array (Option Value)) (n:Nat),W.nsIn K mainGlobals x=some (some (.ref f))/\K.lookup f=some ⟨oc,od,.func (W.fnOf x x (bD s) (bq s) (aq s) (.ref T) kV dc pm an cd ct),sl⟩/\W.codeIn K cd x=true/\W.keepIn K (.ref f)=true/\K.lookup T=some ⟨.type "tuple",none,.seq #[v] n,tl⟩/\RelV d v
theorem Fs {K:W.Frag}{mg:Str->Option Value}{h:Heap}{x a b:Str}{s:Stmt}{d:V} (X:K.In h) (G:h.Ns mainGlobals mg) (t:BY K x s d)
  (b1:∀(T:Addr) (v kV dc pm:Value) (an:Option Addr) (cd ct u u':Value),∃k,bindArgs (W.fnOf x x (bD s) (bq s) (aq s) (.ref T) kV dc pm an cd ct) ⟨[u,u'],[]⟩=seqItems? (.ref T) >>= k/\k (some #[v])=pure [(a,u),(b,u')])
  (b2:∀(T:Addr) (v kV dc pm:Value) (an:Option Addr) (cd ct u:Value),∃k,bindArgs (W.fnOf x x (bD s) (bq s) (aq s) (.ref T) kV dc pm an cd ct) ⟨[u],[]⟩=seqItems? (.ref T) >>= k/\k (some #[v])=pure [(a,u),(b,v)]):mT K mg x s [a,b] [d]:=by
 obtain ⟨f,T,v,oc,od,kV,dc,pm,an,cd,ct,sl,tl,n,q,l,c,k,lt,r⟩:=t
 refine ⟨f,oc,od,.ref T,kV,dc,pm,an,cd,ct,sl,[v],l,c,k,W.mg_of X G q,.cons r .nil,fun s' us hi hl=>?_,fun s' us hi hl=>?_⟩
 ·rcases us with _ | ⟨u,_ | ⟨u',_ | ⟨_,_⟩⟩⟩
  ·cases hl
  ·cases hl
  ·obtain ⟨g,e1,e2⟩:=b1 T v kV dc pm an cd ct u u'
   exact BindsTo.of_defaults rfl (hi T _ lt) rfl e1 e2
  ·simp at hl
 ·rcases us with _ | ⟨u,_ | ⟨_,_⟩⟩
  ·cases hl
  ·obtain ⟨g,e1,e2⟩:=b2 T v kV dc pm an cd ct u
   exact BindsTo.of_defaults rfl (hi T _ lt) rfl e1 e2
  ·simp at hl
theorem ar1 {p:List Value->Prop} (h:∀a0,p [a0]):∀us:List Value,us.length=1->p us:=arS fun a0=>ar0 (h a0)
theorem ar2 {p:List Value->Prop} (h:∀a0 a1,p [a0,a1]):∀us:List Value,us.length=2->p us:=arS fun a0=>arS fun a1=>ar0 (h a0 a1)
theorem ar3 {p:List Value->Prop} (h:∀a0 a1 a2,p [a0,a1,a2]):∀us:List Value,us.length=3->p us:=arS fun a0=>arS fun a1=>arS fun a2=>ar0 (h a0 a1 a2)
theorem ar4 {p:List Value->Prop} (h:∀a0 a1 a2 a3,p [a0,a1,a2,a3]):∀us:List Value,us.length=4->p us:=arS fun a0=>arS fun a1=>arS fun a2=>arS fun a3=>ar0 (h a0 a1 a2 a3)
theorem ar5 {p:List Value->Prop} (h:∀a0 a1 a2 a3 a4,p [a0,a1,a2,a3,a4]):∀us:List Value,us.length=5->p us:=arS fun a0=>arS fun a1=>arS fun a2=>arS fun a3=>arS fun a4=>ar0 (h a0 a1 a2 a3 a4)
theorem ar7 {p:List Value->Prop} (h:∀a0 a1 a2 a3 a4 a5 a6,p [a0,a1,a2,a3,a4,a5,a6]):∀us:List Value,us.length=7->p us:=arS fun a0=>arS fun a1=>arS fun a2=>arS fun a3=>arS fun a4=>arS fun a5=>arS fun a6=>ar0 (h a0 a1 a2 a3 a4 a5 a6)
theorem all_mk {l:W.OpenLaw}{w:World}{K:W.Frag}{h:Heap}{mg:Str->Option Value}{fa:Addr} (A:Adr) (X:K.In h) (G:h.Ns mainGlobals mg) (hfa:mg "law"=some (.ref fa))
 (t1:bS K "names_in" kO) (t2:bS K "each_once" jw) (t3:bS K "exact_of" kU) (t4:bS K "exact_of_row" gw)
 (t5:bS K "one_more" kT) (t6:bS K "exact_of_if" gW) (t7:bS K "exact_of_loop" eN) (t8:bS K "balanced" oV)
 (t9:bS K "exacts" oT) (t10:bS K "row_place" jF) (t11:bS K "laid_rows" j2) (t12:bS K "laid_inside" ig)
 (t13:bS K "laid_program" fJ) (t14:bS K "drawn" sI) (t15:bS K "row_links" jD) (t16:bS K "said_links" i6)
 (t17:bS K "called_links" fU) (t18:bS K "step_links" iR) (t19:BY K "links" rQ (.bl false)) (t20:bS K "_law_cell_at" gR)
 (t21:bS K "_law_more" kS) (t22:bS K "_law_mix" lR) (t23:bS K "_law_names" jX) (t24:bS K "_law_pick" kC)
 (t25:bS K "_law_heads" jL) (t26:bS K "_law_scope" jt) (t27:bS K "_law_thing" j4) (t28:bS K "_law_value" jo)
 (t29:bS K "_law_plain" j1) (t30:bS K "_law_opened" i7) (t31:bS K "_law_closed" iL) (t32:bS K "_law_row" mK)
 (t33:bS K "_law_body" kQ) (t34:bS K "_law_flat" kN) (t35:bS K "_law_row_made" fI) (t36:bS K "_law_rows_made" eX)
 (t37:bS K "_law_program" gZ) (t38:bS K "_law_lain" kM) (t39:bS K "_law_told" kH) (t40:bS K "_law_in_value" fP)
 (t41:bS K "_law_of_row" iM) (t42:bS K "_law_due" mP) (t43:bS K "_law_links" js) (t44:bS K "law" pK)
 (su:NsI K "bool") (sW:NsI K "dict") (wM:NsI K "int") (aG:NsI K "isinstance")
 (fV:NsI K "len") (cS:NsI K "list") (cC:NsI K "range") (ni:NsI K "str")
 (ow:NsI K "tuple") (xq:NsI K "zip") (cg:W.specialIn K (.builtin "object.__class__") "__get__"=some (some (.builtin "getset_descriptor.__get__"))) (ct:W.takesIn K (.builtin "object.__class__")=some true)
 (x_Row:kh K A.Row "Row" [A.Row]) (x_HandRow:kh K A.bK "HandRow" [A.bK,A.Row]) (x_GivenRow:kh K A.bj "GivenRow" [A.bj,A.Row]) (x_OwnRow:kh K A.cA "OwnRow" [A.cA,A.Row])
 (x_LetRow:kh K A.cz "LetRow" [A.cz,A.Row]) (x_SetRow:kh K A.b9 "SetRow" [A.b9,A.Row]) (x_PutRow:kh K A.bM "PutRow" [A.bM,A.Row]) (x_SendRow:kh K A.bC "SendRow" [A.bC,A.Row])
 (x_SayRow:kh K A.bY "SayRow" [A.bY,A.Row]) (x_CallRow:kh K A.bL "CallRow" [A.bL,A.Row]) (x_LastRow:kh K A.cE "LastRow" [A.cE,A.Row]) (x_IfRow:kh K A.b5 "IfRow" [A.b5,A.Row])
 (x_LoopRow:kh K A.aY "LoopRow" [A.aY,A.Row]) (x_DeedRow:kh K A.bx "DeedRow" [A.bx,A.Row]) (x_Program:kh K A.Program "Program" [A.Program]) (m1:hZ K A.Row "__init__" "Row.__init__" dM)
 (m2:hZ K A.bK "__init__" "HandRow.__init__" gA) (m3:hZ K A.bj "__init__" "GivenRow.__init__" eW) (m4:hZ K A.cA "__init__" "OwnRow.__init__" gS) (m5:hZ K A.cz "__init__" "LetRow.__init__" gU)
 (m6:hZ K A.b9 "__init__" "SetRow.__init__" gO) (m7:hZ K A.b9 "reads" "SetRow.reads" fN) (m8:hZ K A.bM "__init__" "PutRow.__init__" gN) (m9:hZ K A.bM "reads" "PutRow.reads" fT)
 (m10:hZ K A.bC "__init__" "SendRow.__init__" gj) (m11:hZ K A.bC "reads" "SendRow.reads" fb) (m12:hZ K A.bY "__init__" "SayRow.__init__" ib) (m13:hZ K A.bL "__init__" "CallRow.__init__" gx)
 (m14:hZ K A.cE "__init__" "Row.__init__" dM) (m15:hZ K A.b5 "__init__" "IfRow.__init__" i5) (m16:hZ K A.b5 "reads" "IfRow.reads" gY) (m17:hZ K A.aY "__init__" "LoopRow.__init__" gg)
 (m18:hZ K A.aY "reads" "LoopRow.reads" eA) (m19:hZ K A.bx "__init__" "DeedRow.__init__" fW) (m20:hZ K A.Program "__init__" "Program.__init__" gc) (n1:NoI K A.bK "name")
 (n2:NoI K A.bK "rank") (n3:NoI K A.bK "number") (n4:NoI K A.bj "name") (n5:NoI K A.bj "rank")
 (n6:NoI K A.bj "size") (n7:NoI K A.bj "number") (n8:NoI K A.cA "name") (n9:NoI K A.cA "size")
 (n10:NoI K A.cA "number") (n11:NoI K A.cz "name") (n12:NoI K A.cz "rank") (n13:NoI K A.cz "number")
 (n14:NoI K A.b9 "name") (n15:NoI K A.b9 "value") (n16:NoI K A.b9 "number") (n17:NoI K A.bM "name")
 (n18:NoI K A.bM "place") (n19:NoI K A.bM "value") (n20:NoI K A.bM "number") (n21:NoI K A.bC "name")
 (n22:NoI K A.bC "value") (n23:NoI K A.bC "number") (n24:NoI K A.bY "name") (n25:NoI K A.bY "value")
 (n26:NoI K A.bY "mark") (n27:NoI K A.bY "number") (n28:NoI K A.bL "name") (n29:NoI K A.bL "things")
 (n30:NoI K A.bL "number") (n31:NoI K A.cE "number") (n32:NoI K A.b5 "value") (n33:NoI K A.b5 "first")
 (n34:NoI K A.b5 "other") (n35:NoI K A.b5 "left") (n36:NoI K A.b5 "right") (n37:NoI K A.b5 "number")
 (n38:NoI K A.aY "thing") (n39:NoI K A.aY "most") (n40:NoI K A.aY "body") (n41:NoI K A.aY "left")
 (n42:NoI K A.aY "right") (n43:NoI K A.aY "number") (n44:NoI K A.bx "name") (n45:NoI K A.bx "parts")
 (n46:NoI K A.bx "body") (n47:NoI K A.bx "number") (n48:NoI K A.Program "heads") (n49:NoI K A.Program "deeds")
 (n50:NoI K A.Program "main") (y_Row_init:W.specialIn K (.ref A.Row) "__getattribute__"=some (some (.builtin "type.__getattribute__"))/\W.readsIn K A.Row (.type "type")=true/\∃f,W.findIn K (.ref A.Row) "__init__"=some (some (.ref f))/\W.findCls K (.ref A.Row) (.type "type") "__init__"=some (.val (.ref f))) (nod:[A.Row,A.bK,A.bj,A.cA,A.cz,A.b9,A.bM,A.bC,A.bY,A.bL,A.cE,A.b5,A.aY,A.bx,A.Program].Nodup)
:∃fd:FuncData,(∀(s:Shared) (v:Value),BindsTo s fd ⟨[v],[]⟩ [("_law_script",v)])/\∀base:Heap,K.In base->base.Ns mainGlobals mg->lM l.prog w K mg base CX0 28 fa fd ["_law_script"] (rJ K):=by
 have T:Txt K mg A:={
  oW:=bV X G t1 fun _ _ _ _ _ _=>ar1 fun _=>rfl,mV:=bV X G t2 fun _ _ _ _ _ _=>ar1 fun _=>rfl,eg:=bV X G t3 fun _ _ _ _ _ _=>ar2 fun _ _=>rfl,
  fz:=bV X G t4 fun _ _ _ _ _ _=>ar2 fun _ _=>rfl,p5:=bV X G t5 fun _ _ _ _ _ _=>ar1 fun _=>rfl,gJ:=bV X G t6 fun _ _ _ _ _ _=>ar2 fun _ _=>rfl,
  dU:=bV X G t7 fun _ _ _ _ _ _=>ar2 fun _ _=>rfl,balanced:=bV X G t8 fun _ _ _ _ _ _=>ar2 fun _ _=>rfl,vN:=bV X G t9 fun _ _ _ _ _ _=>ar1 fun _=>rfl,
  lV:=bV X G t10 fun _ _ _ _ _ _=>ar1 fun _=>rfl,fF:=bV X G t11 fun _ _ _ _ _ _=>ar3 fun _ _ _=>rfl,gG:=bV X G t12 fun _ _ _ _ _ _=>ar2 fun _ _=>rfl,
  iZ:=bV X G t13 fun _ _ _ _ _ _=>ar1 fun _=>rfl,drawn:=bV X G t14 fun _ _ _ _ _ _=>ar4 fun _ _ _ _=>rfl,lT:=bV X G t15 fun _ _ _ _ _ _=>ar4 fun _ _ _ _=>rfl,
  kX:=bV X G t16 fun _ _ _ _ _ _=>ar2 fun _ _=>rfl,iP:=bV X G t17 fun _ _ _ _ _ _=>ar3 fun _ _ _=>rfl,kW:=bV X G t18 fun _ _ _ _ _ _=>ar2 fun _ _=>rfl,
  links:=Fs X G t19 (fun _ _ _ _ _ _ _ _ _ _=>⟨_,rfl,rfl⟩) (fun _ _ _ _ _ _ _ _ _=>⟨_,rfl,rfl⟩),jT:=bV X G t20 fun _ _ _ _ _ _=>ar2 fun _ _=>rfl,ph:=bV X G t21 fun _ _ _ _ _ _=>ar3 fun _ _ _=>rfl,
  rK:=bV X G t22 fun _ _ _ _ _ _=>ar2 fun _ _=>rfl,l9:=bV X G t23 fun _ _ _ _ _ _=>ar3 fun _ _ _=>rfl,pB:=bV X G t24 fun _ _ _ _ _ _=>ar2 fun _ _=>rfl,
  mM:=bV X G t25 fun _ _ _ _ _ _=>ar2 fun _ _=>rfl,mQ:=bV X G t26 fun _ _ _ _ _ _=>ar2 fun _ _=>rfl,lW:=bV X G t27 fun _ _ _ _ _ _=>ar2 fun _ _=>rfl,
  mJ:=bV X G t28 fun _ _ _ _ _ _=>ar2 fun _ _=>rfl,mw:=bV X G t29 fun _ _ _ _ _ _=>ar3 fun _ _ _=>rfl,kI:=bV X G t30 fun _ _ _ _ _ _=>ar4 fun _ _ _ _=>rfl,
  kD:=bV X G t31 fun _ _ _ _ _ _=>ar1 fun _=>rfl,rq:=bV X G t32 fun _ _ _ _ _ _=>ar3 fun _ _ _=>rfl,pF:=bV X G t33 fun _ _ _ _ _ _=>ar4 fun _ _ _ _=>rfl,
  oO:=bV X G t34 fun _ _ _ _ _ _=>ar2 fun _ _=>rfl,iQ:=bV X G t35 fun _ _ _ _ _ _=>ar2 fun _ _=>rfl,cu:=bV X G t36 fun _ _ _ _ _ _=>ar2 fun _ _=>rfl,
  jx:=bV X G t37 fun _ _ _ _ _ _=>ar1 fun _=>rfl,pU:=bV X G t38 fun _ _ _ _ _ _=>ar1 fun _=>rfl,o7:=bV X G t39 fun _ _ _ _ _ _=>ar3 fun _ _ _=>rfl,
  iO:=bV X G t40 fun _ _ _ _ _ _=>ar1 fun _=>rfl,kK:=bV X G t41 fun _ _ _ _ _ _=>ar5 fun _ _ _ _ _=>rfl,sr:=bV X G t42 fun _ _ _ _ _ _=>ar1 fun _=>rfl,
  mB:=bV X G t43 fun _ _ _ _ _ _=>ar2 fun _ _=>rfl,su:=W.mg_none_of X G su,sW:=W.mg_none_of X G sW,
  wM:=W.mg_none_of X G wM,aG:=W.mg_none_of X G aG,fV:=W.mg_none_of X G fV,
  cS:=W.mg_none_of X G cS,cC:=W.mg_none_of X G cC,ni:=W.mg_none_of X G ni,
  ow:=W.mg_none_of X G ow,xq:=W.mg_none_of X G xq,iG:=kR X G cg ct x_Row,
  oU:=iB m1 fun _ _ _ _ _ _=>ar2 fun _ _=>rfl,iF:=kR X G cg ct x_HandRow,gB:=iB m2 fun _ _ _ _ _ _=>ar4 fun _ _ _ _=>rfl,
  jB:=n1,jG:=n2,dJ:=n3,
  fL:=kR X G cg ct x_GivenRow,eE:=iB m3 fun _ _ _ _ _ _=>ar5 fun _ _ _ _ _=>rfl,ja:=n4,
  i9:=n5,jb:=n6,dj:=n7,
  jP:=kR X G cg ct x_OwnRow,ia:=iB m4 fun _ _ _ _ _ _=>ar4 fun _ _ _ _=>rfl,ku:=n8,
  kB:=n9,eO:=n10,jm:=kR X G cg ct x_LetRow,
  ij:=iB m5 fun _ _ _ _ _ _=>ar4 fun _ _ _ _=>rfl,kA:=n11,kj:=n12,
  eB:=n13,di:=kR X G cg ct x_SetRow,hW:=iB m6 fun _ _ _ _ _ _=>ar4 fun _ _ _ _=>rfl,
  fG:=iB m7 fun _ _ _ _ _ _=>ar1 fun _=>rfl,gQ:=n14,fO:=n15,
  eJ:=n16,cM:=kR X G cg ct x_PutRow,hV:=iB m8 fun _ _ _ _ _ _=>ar5 fun _ _ _ _ _=>rfl,
  gb:=iB m9 fun _ _ _ _ _ _=>ar1 fun _=>rfl,h9:=n17,gh:=n18,
  gr:=n19,eP:=n20,cW:=kR X G cg ct x_SendRow,
  fH:=iB m10 fun _ _ _ _ _ _=>ar4 fun _ _ _ _=>rfl,eU:=iB m11 fun _ _ _ _ _ _=>ar1 fun _=>rfl,jC:=n21,
  eG:=n22,dH:=n23,bZ:=kR X G cg ct x_SayRow,
  gM:=iB m12 fun _ _ _ _ _ _=>ar5 fun _ _ _ _ _=>rfl,dW:=n24,jY:=n25,
  gL:=n26,bF:=n27,bO:=kR X G cg ct x_CallRow,
  f9:=iB m13 fun _ _ _ _ _ _=>ar4 fun _ _ _ _=>rfl,cH:=n28,dE:=n29,
  b6:=n30,fE:=kR X G cg ct x_LastRow,jN:=iB m14 fun _ _ _ _ _ _=>ar2 fun _ _=>rfl,
  dB:=n31,bQ:=kR X G cg ct x_IfRow,iU:=iB m15 fun _ _ _ _ _ _=>ar7 fun _ _ _ _ _ _ _=>rfl,
  hX:=iB m16 fun _ _ _ _ _ _=>ar1 fun _=>rfl,hJ:=n32,dP:=n33,
  dS:=n34,ft:=n35,gT:=n36,
  fQ:=n37,bu:=kR X G cg ct x_LoopRow,gD:=iB m17 fun _ _ _ _ _ _=>ar7 fun _ _ _ _ _ _ _=>rfl,
  eZ:=iB m18 fun _ _ _ _ _ _=>ar1 fun _=>rfl,eV:=n38,fY:=n39,
  dq:=n40,fK:=n41,cP:=n42,
  dG:=n43,b8:=kR X G cg ct x_DeedRow,fX:=iB m19 fun _ _ _ _ _ _=>ar5 fun _ _ _ _ _=>rfl,
  cI:=n44,eT:=n45,dm:=n46,
  dD:=n47,dI:=kR X G cg ct x_Program,fZ:=iB m20 fun _ _ _ _ _ _=>ar4 fun _ _ _ _=>rfl,
  jd:=n48,cm:=n49,gz:=n50,
  bg:=⟨y_Row_init.1,y_Row_init.2.1,y_Row_init.2.2⟩,nd:=nod }
 have F:aW K mg "law" pK ["_law_script"]:=bV X G t44 fun _ _ _ _ _ _=>ar1 fun _=>rfl
 obtain ⟨f,a,oc,od,kV,dc,pm,an,cd,ct,sl,lk,_,_⟩:=t44
 refine ⟨W.fnOf "law" "law" (bD pK) (bq pK) (aq pK) .none kV dc pm an cd ct,fun s v=>.of_eq rfl,fun base _ _=>?_⟩
 have e:=hfa.symm.trans (W.mg_of X G a)
 cases e
 exact Cn (EV (P:=l.prog) (w:=w) (base:=base) T F) (W.mg_of X G a) lk
theorem walk {l:W.OpenLaw}{q:Program}{loose:List Str}{XP:(Str->Option Value)->Heap->Prop}{YP:World->Heap->Prop}{d:DefRec}{K:Params->W.Frag} (hn:l.most=some 63) (hdf:d.params.defaults=[]) (hY:∀(w:World) (h:Heap),YP w h->(K w.params).In h)
  (F:∀(w:World) (mg:Str->Option Value) (fa:Addr) (h:Heap),(K w.params).In h->h.Ns mainGlobals mg->mg d.name=some (.ref fa)->∃fd:FuncData,(∀(s:Shared) (u:Value),BindsTo s fd ⟨[u],[]⟩ [("_law_script",u)])/\∀base:Heap,(K w.params).In base->base.Ns mainGlobals mg->lM l.prog w (K w.params) mg base CX0 28 fa fd ["_law_script"] (rJ (K w.params))) :
  W.WalkO q loose XP YP l.row.toRowW d [] (fun f vs=>PySem.call f vs) :=
 L2.Bw (n:=63) (k:=28) (x:="_law_script") (CX:=fun _=>CX0) (sp:=fun w=>rJ (K w.params)) hn (by decide) hdf ⟨rfl,by decide,by decide⟩ hY F (fun _ _ a ns hl _ hS=>⟨a,ns,rfl,hS,hl,fun _=>rfl⟩) fun _ _ _ _ _ z=>z
end K31
open PySem PySem.W PyProof.Rows
set_option maxRecDepth 100000 in
set_option maxHeartbeats 0 in
theorem PySem.Challenge.cw_hushrow_k31_links_holds : PySem.Challenge.rw_hushrow_k31_links.Holds := by
 w_on;o_law
 refine W.holds_open (q:=K31.fe) (loose:=["links"]) (Xt:=K31.test) (XP:=W.XL K31.fe []) (Yf:=(W.kHook K31.heapK K31.ny K31.iy).obs) (Ya:=(W.kHook K31.heapK K31.ny K31.iy).val) (YP:=(W.kHook K31.heapK K31.ny K31.iy).says) (N:=11898) K31.left (W.kHook K31.heapK K31.ny K31.iy).of (W.kHook K31.heapK K31.ny K31.iy).keeps
  (fun s e=>W.xl_of s (Bool.and_eq_true_iff.mp e).1) W.XL.keeps (by rfl) (by rfl) (by rfl) (fun s e=>W.recFacts_of (Bool.and_eq_true_iff.mp e).2) ?h4 ?h5 ?h6 ⟨rfl,rfl,rfl,rfl,rfl,by decide +kernel⟩ ?hw ?hc
 (case h4=>rfl);(case h5=>first | assumption | decide +kernel);(case h6=>decide +kernel);(case hw=>w_witness2)
 k_fill
 refine K31.walk (l:=PySem.Challenge.rw_hushrow_k31_links) rfl rfl (fun w h Y=>W.kIn_of Y) ?F
 case F =>
  intro w mg fa h KX G hmg
  refine K31.all_mk ⟨66,94,120,146,172,212,252,285,325,356,375,408,441,467,486⟩ KX G hmg ?_ ?_ ?_ ?_ ?_ ?_ ?_ ?_ ?_ ?_ ?_ ?_ ?_ ?_ ?_ ?_ ?_ ?_ ?_ ?_ ?_ ?_ ?_ ?_ ?_ ?_ ?_ ?_ ?_ ?_ ?_ ?_ ?_ ?_ ?_ ?_ ?_ ?_ ?_ ?_ ?_ ?_ ?_ ?_ ?_ ?_ ?_ ?_ ?_ ?_ ?_ ?_ ?_ ?_ ?_ ?_ ?_ ?_ ?_ ?_ ?_ ?_ ?_ ?_ ?_ ?_ ?_ ?_ ?_ ?_ ?_ ?_ ?_ ?_ ?_ ?_ ?_ ?_ ?_ ?_ ?_ ?_ ?_ ?_ ?_ ?_ ?_ ?_ ?_ ?_ ?_ ?_ ?_ ?_ ?_ ?_ ?_ ?_ ?_ ?_ ?_ ?_ ?_ ?_ ?_ ?_ ?_ ?_ ?_ ?_ ?_ ?_ ?_ ?_ ?_ ?_ ?_ ?_ ?_ ?_ ?_ ?_ ?_ ?_ ?_ ?_ ?_ ?_ ?_ ?_ ?_ ?_ ?_ ?_ ?_ ?_ ?_ ?_ ?_ ?_ ?_ ?_ ?_
  iterate 18 exact ⟨_,by k_is,_,_,_,_,_,_,_,_,_,by k_is,by k_is,by k_is⟩
  iterate 1 exact ⟨_,_,_,_,_,_,_,_,_,_,_,_,_,_,by k_is,by k_is,by k_is,by k_is,by k_is,by first | rfl | exact ⟨_,rfl⟩⟩
  iterate 25 exact ⟨_,by k_is,_,_,_,_,_,_,_,_,_,by k_is,by k_is,by k_is⟩
  iterate 12 (show _=_;k_is)
  iterate 15 exact ⟨by k_is,⟨_,by k_is,rfl⟩,by k_is,by k_is,by k_is,by k_is,by k_is,by k_is,by k_is,by k_is⟩
  iterate 20 exact ⟨_,by k_is,by k_is,_,_,_,_,_,_,_,_,_,by k_is,by k_is,by k_is⟩
  iterate 50 (show _=_;k_is)
  iterate 1 exact ⟨by k_is,by k_is,_,by k_is,by k_is⟩
  iterate 1 decide
