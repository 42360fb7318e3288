import PyProof.Rows.All
import Wide.All
import OpenK.AllK
import Wide.FinOn
import Lean
import PyProof.EqAt
import PyProof.EqKinds
import PyProof.TupleCall
import PyProof.AttrMissSeq
import KE.KDictList
import PyProof.WalksEnum
import PyProof.EnumMake
import PyProof.ZipIter
import PyProof.Rows.ZipGen
import PyProof.Rows.SumAny
import PyProof.DictUpdate
import KE.KRevSl
import PyProof.Rows.FStr
import PyProof.WalkInts
import PyProof.Rows.SortShellK
import PyProof.Rows.SortWalk
import PyProof.Rows.SortRunsK
import PyProof.Rows.SortStr
import PySem.Challenge.RW_hushrow_k30_places_and_under
set_option Elab.async false
set_option linter.all false
set_option maxRecDepth 100000
namespace Hd
open PySem PySem.W PySem.Calls PyProof.Rows
def ic (tb:String->Option Builtin) (p:Program) (w:World) (n₀:Nat) (ann:Option Value):Nat->SharedT->Thread->Option SharedT
 | 0,_,_=>none
 | n + 1,s,t=>match through t with
  | true=>some s
  | false=>match stepOk n₀ ann t with
   | false=>none
   | true=>match stepT (denote tb) p w s t with
    | some (s',t')=>ic tb p w n₀ ann n s' t'
    | none=>none
theorem wo {tb:String->Option Builtin}{p:Program}{w:World}{n₀:Nat}{ann:Option Value}:∀{n:Nat}{s s':SharedT}{t:Thread},
  ic tb p w n₀ ann n s t=some s'->topRun tb p w n₀ ann n s.abs t=some s'.abs
 | 0,_,_,_,h=>by cases h
 | n + 1,s,s',t,h=>by
  unfold ic at h
  unfold topRun
  cases he:through t with
  | true=>rw [he] at h;cases h;rfl
  | false =>
   rw [he] at h
   cases hk:stepOk n₀ ann t with
   | false=>rw [hk] at h;cases h
   | true =>
    rw [hk] at h
    cases hs:stepT (denote tb) p w s t with
    | none=>rw [hs] at h;cases h
    | some r=>obtain ⟨s₂,t₂⟩:=r;rw [hs] at h;rw [stepT_spec hs];exact wo h
def CP (p q:Program) (loose:List Str) (Xt:Shared->Bool) {α:Type} (Yf:Shared->α) (g0:Bool) (H:Heap) (s:Shared) :=
 (staticsOk (importedModules p.main.body) H s.heap && namesBound p s.heap && gensDone s && laidKept H s.heap,openSeen q loose (importedModules p.main.body) Xt g0 s,Yf s)
def wD (p:Program) (H:Heap) (s:Shared):=staticsOk (importedModules p.main.body) H s.heap && namesBound p s.heap && gensDone s && laidKept H s.heap
def treeOf:List Obj->Nat->BT->BT
 | [],_,t=>t
 | o :: r,i,t=>treeOf r (i + 1) (t.ins i o)
theorem yG {p q:Program}{loose:List Str}{Xt:Shared->Bool}{α:Type}{Yf:Shared->α}{Ya:World->α}{N:Nat}{g0:Bool}{H₀:Params->Heap}{gs₀:Array GenState}{d₀:Drawn}{k₀ m₀ n₀:Nat}{ann:Option Value}{T₀:Params->BT}{life:Life}
  (opn:∀w:World,(fencedOpening treeTable p w N).map (fun s=>(s.heap,s.gens,s.drawn,s.toks))=some (H₀ w.params,gs₀,d₀,k₀))
  (size:∀w:World,((H₀ w.params).isNs mainGlobals && gs₀.size == 0,(H₀ w.params).objs.size,(H₀ w.params).nsMap mainGlobals "__annotations__")=(true,m₀,ann))
  (tree:∀P:Params,absHeap (T₀ P) n₀ life=H₀ P)
  (look:∀(w:World) (os:OsState),(ic treeTable p w m₀ ann N ⟨T₀ w.params,n₀,life,gs₀,d₀,k₀,os⟩ (topStub p)).map (fun s=>CP p q loose Xt Yf g0 (H₀ w.params) s.abs)=some (true,openGood q loose,Ya w)) :
  LeftO p q loose Xt Yf Ya N g0:=fun w=>by
 obtain ⟨⟨h,gs,d,k,os⟩,e,e'⟩:=Option.map_eq_some_iff.mp (opn w)
 obtain ⟨rfl,rfl,rfl,rfl⟩:h=H₀ w.params/\gs=gs₀/\d=d₀/\k=k₀:=by simpa using e'
 obtain ⟨z1,z2,z3⟩:_/\_/\_:=by simpa only [Prod.mk.injEq] using size w
 obtain ⟨s,hs,hl⟩:=Option.map_eq_some_iff.mp (look w os)
 obtain ⟨l1,l23⟩:=Prod.mk.inj hl
 obtain ⟨l2,l3⟩:=Prod.mk.inj l23
 have r:=wo hs
 have t:topFrom treeTable p w N ⟨H₀ w.params,gs,d,k,os⟩=some s.abs:=by
  unfold topFrom
  dsimp only
  rw [z1,z2,z3]
  unfold SharedT.abs at r
  dsimp only at r
  rw [tree w.params] at r
  show (topRun treeTable p w m₀ ann N ⟨H₀ w.params,gs,d,k,os⟩ (topStub p)).bind _=_
  rw [r]
  show (match staticsOk (importedModules p.main.body) (H₀ w.params) s.abs.heap && namesBound p s.abs.heap && gensDone s.abs && laidKept (H₀ w.params) s.abs.heap with | true=>_ | false=>_)=_
  rw [l1]
  rfl
 unfold openEnds
 rw [e]
 show (topFrom treeTable p w N _).map _=_
 rw [t]
 exact congrArg some (Prod.ext l2 l3)
theorem xA {p q:Program}{loose:List Str}{Xt:Shared->Bool}{α:Type}{Yf:Shared->α}{Ya:World->α}{N:Nat}{g0:Bool}{H₀:Params->Heap}{gs₀:Array GenState}{d₀:Drawn}{k₀ m₀ n₀:Nat}{ann:Option Value}{T₀:Params->BT}{life:Life}
  (opn:∀w:World,(fencedOpening treeTable p w N).map (fun s=>(s.heap,s.gens,s.drawn,s.toks))=some (H₀ w.params,gs₀,d₀,k₀))
  (size:∀w:World,((H₀ w.params).isNs mainGlobals && gs₀.size == 0,(H₀ w.params).objs.size,(H₀ w.params).nsMap mainGlobals "__annotations__")=(true,m₀,ann))
  (tree:∀P:Params,absHeap (T₀ P) n₀ life=H₀ P)
  (look1:∀(w:World) (os:OsState),(ic treeTable p w m₀ ann N ⟨T₀ w.params,n₀,life,gs₀,d₀,k₀,os⟩ (topStub p)).map (fun s=>wD p (H₀ w.params) s.abs)=some true)
  (look3:∀(w:World) (os:OsState),(ic treeTable p w m₀ ann N ⟨T₀ w.params,n₀,life,gs₀,d₀,k₀,os⟩ (topStub p)).map (fun s=>(openSeen q loose (importedModules p.main.body) Xt g0 s.abs).1)=some (openGood q loose).1)
  (look7:∀(w:World) (os:OsState),(ic treeTable p w m₀ ann N ⟨T₀ w.params,n₀,life,gs₀,d₀,k₀,os⟩ (topStub p)).map (fun s=>(openSeen q loose (importedModules p.main.body) Xt g0 s.abs).2.1)=some (openGood q loose).2.1)
  (look5:∀(w:World) (os:OsState),(ic treeTable p w m₀ ann N ⟨T₀ w.params,n₀,life,gs₀,d₀,k₀,os⟩ (topStub p)).map (fun s=>(openSeen q loose (importedModules p.main.body) Xt g0 s.abs).2.2.1)=some true)
  (look6:∀(w:World) (os:OsState),(ic treeTable p w m₀ ann N ⟨T₀ w.params,n₀,life,gs₀,d₀,k₀,os⟩ (topStub p)).map (fun s=>(openSeen q loose (importedModules p.main.body) Xt g0 s.abs).2.2.2.1)=some true)
  (look4:∀(w:World) (os:OsState),(ic treeTable p w m₀ ann N ⟨T₀ w.params,n₀,life,gs₀,d₀,k₀,os⟩ (topStub p)).map (fun s=>(openSeen q loose (importedModules p.main.body) Xt g0 s.abs).2.2.2.2)=some (openGood q loose).2.2.2.2)
  (look2:∀(w:World) (os:OsState),(ic treeTable p w m₀ ann N ⟨T₀ w.params,n₀,life,gs₀,d₀,k₀,os⟩ (topStub p)).map (fun s=>Yf s.abs)=some (Ya w)) :
  LeftO p q loose Xt Yf Ya N g0:=yG opn size tree fun w os=>by
 obtain ⟨s,hs,h1⟩:=Option.map_eq_some_iff.mp (look1 w os)
 have h2:=look2 w os
 have h3:=look3 w os
 have h4:=look4 w os
 have h5:=look5 w os
 have h6:=look6 w os
 have h7:=look7 w os
 rw [hs] at h2 h3 h4 h5 h6 h7 ⊢
 exact congrArg some (Prod.ext h1 (Prod.ext (Prod.ext (Option.some.inj h3) (Prod.ext (Option.some.inj h7) (Prod.ext (Option.some.inj h5) (Prod.ext (Option.some.inj h6) (Option.some.inj h4))))) (Option.some.inj h2)))
end Hd
namespace L2
open PySem PySem.Spec PyProof.Rows
def inClass (s:Stmt) (j:Nat):Stmt:=match s with
 | .ClassDef _ _ _ body _ _ _ _ _ _ _=>body.getD j (.Pass ⟨0,0,0,0⟩)
 | _=>.Pass ⟨0,0,0,0⟩
def bJ (s:Stmt):Arguments:=match s with
 | .FunctionDef _ a _ _ _ _ _ _ _ _=>a
 | _=>{ posonlyargs:=[],args:=[],vararg:=none,kwonlyargs:=[],kw_defaults:=[],kwarg:=none,defaults:=[] }
def bA (s:Stmt):List Stmt:=match s with
 | .FunctionDef _ _ b _ _ _ _ _ _ _=>b
 | _=>[]
def ar (s:Stmt):Scope:=match s with
 | .FunctionDef _ _ _ _ _ _ sc _ _ _=>sc
 | _=>{ kind:=.function,names:=[],isGenerator:=false,isCoroutine:=false }
end L2
namespace K30
open PySem
def top (i:Nat):Stmt:=PySem.Challenge.pw_hushrow_k30_places_and_under.main.body.getD i (.Pass ⟨0,0,0,0⟩)
end K30
set_option genSizeOf false
set_option maxHeartbeats 0
namespace K30
open PySem L2 PySem.W
noncomputable abbrev Ey (P:Params) (x:Str) (t:Nat) (v:Value):DictEntry:=⟨PyData.keyHash P x,.str x t,v⟩
noncomputable abbrev FL (P:Params) (a:Nat) (l:Int) (b:Nat):=Ey P "__firstlineno__" a (.int l b)
noncomputable abbrev SA (P:Params) (a b:Nat):=Ey P "__static_attributes__" a (.ref b)
noncomputable abbrev DO (P:Params) (a:Nat):=Ey P "__doc__" a .none
noncomputable abbrev M3O (P:Params) (a:Nat):=Ey P "__module__" a (.str "hushrow.rows" 194)
noncomputable abbrev ER (P:Params) (x:Str) (a b:Nat):=Ey P x a (.ref b)
noncomputable abbrev DI (x:Array DictEntry) (n:Nat):Obj:=⟨.type "dict",none,.dict x n,#[]⟩
noncomputable abbrev WR (x:Str) (a b:Nat) (y:String):Obj:=⟨.type "getset_descriptor",none,.fields #[.str x a,.ref b,.builtin y,.none],#[]⟩
noncomputable abbrev CX (n:Str) (a c:Nat) (bs m s:List Value) (d:Option Value) (u v:Nat) (w:String):Obj:=⟨.type "type",none,.cls { name:=n,bases:=bs,mro:=.ref a :: m,ns:=c,qualname:=n,hasDict:=true,slotNames:=[],subclasses:=s,abstract:=false,collection:=none,hasDel:=false },#[d,none,some (.str n u),some (.str n v),some (.builtin w),some (.bool true)]⟩
noncomputable abbrev CO (n q:Str) (t:Nat) (l a:Int) (r:Nat) (m:Nat):Obj:=⟨.type "code",none,.fields #[.str n t,.str q (t + 1),.str "/claim/cut.py" (t + 2),.int l 0,.int a 0,.int 0 0,.int 0 0,.int 3 0,.ref r,.bool true,.int 181 0,.ref (r + 1),.none,.ref (r + 2),.ref (r + 3),.ref (r + 4),.int m 0,.int l 0,.str "/claim/cut.py" (m + 1)],#[]⟩
noncomputable abbrev FU (n q:Str) (s:Stmt) (m:Str) (t c:Nat):Obj:=⟨.type "function",none,.func (W.fnOf n q (bJ s) (bA s) (ar s) .none .none .none (.str m t) none (.ref c) .none),#[]⟩
noncomputable abbrev F7T (x:Str) (i c:Nat):=FU x x (top i) "hushrow.places" 805 c
noncomputable abbrev F8T (x:Str) (i c:Nat):=FU x x (top i) "law_hushrow_k30_places_and_under" 879 c
noncomputable abbrev G9T (x y:Str) (i j c:Nat):=FU x y (inClass (top i) j) "hushrow.rows" 194 c
noncomputable def heapK (P:Params):W.Frag :=
 (nat_lit 2,⟨.none,none,.dict #[] 0,#[]⟩) ::
 (nat_lit 3,DI #[Ey P "__name__" 165 (.str "law_hushrow_k30_places_and_under" 879),DO P 166,Ey P "__package__" 167 .none,Ey P "__loader__" 168 (.builtin "__main__.__loader__#opaque"),Ey P "__spec__" 169 .none,ER P "__annotations__" 170 6,ER P "__builtins__" 171 4,Ey P "__file__" 173 (.str "/claim/cut.py" 172),Ey P "__cached__" 174 .none,ER P "_wall" 193 21,ER P "Row" 238 52,ER P "HandRow" 273 80,ER P "GivenRow" 310 106,ER P "OwnRow" 345 132,ER P "LetRow" 380 158,ER P "SetRow" 429 198,ER P "PutRow" 480 238,ER P "SendRow" 522 271,ER P "SayRow" 573 311,ER P "CallRow" 615 344,ER P "LastRow" 638 363,ER P "IfRow" 686 396,ER P "LoopRow" 734 429,ER P "DeedRow" 771 455,ER P "Program" 804 474,Ey P "CLOCK" 808 (.str "the clock" 807),ER P "row_place" 815 485,ER P "laid_rows" 826 492,ER P "laid_inside" 835 499,ER P "laid_program" 844 506,ER P "is_place" 851 513,ER P "head_places" 860 520,ER P "places" 872 527,ER P "under" 878 532,ER P "_law_cell_at" 889 539,ER P "_law_more" 895 544,ER P "_law_mix" 906 551,ER P "_law_names" 912 556,ER P "_law_pick" 920 563,ER P "_law_heads" 926 568,ER P "_law_scope" 936 575,ER P "_law_thing" 944 582,ER P "_law_value" 955 589,ER P "_law_plain" 968 596,ER P "_law_opened" 982 603,ER P "_law_closed" 989 610,ER P "_law_row" 995 615,ER P "_law_body" 1007 622,ER P "_law_flat" 1025 629,ER P "_law_row_made" 1033 636,ER P "_law_rows_made" 1047 643,ER P "_law_program" 1061 650,ER P "_law_lain" 1072 657,ER P "_law_due" 1082 664,ER P "_law_places" 1088 669,ER P "_law_under" 1098 676,ER P "law" 1112 683] 57) ::
 (nat_lit 34,CO "__init__" "Row.__init__" 208 7 2 29 213) ::
 (nat_lit 35,G9T "__init__" "Row.__init__" 2 0 34) ::
 (nat_lit 51,DI #[M3O P 203,FL P 207 5 206,ER P "__init__" 215 35,ER P "reads" 222 42,ER P "target" 229 49,SA P 231 50,ER P "__dict__" 233 53,ER P "__weakref__" 235 54,DO P 236] 4) ::
 (nat_lit 52,CX "Row" 52 51 [.type "object"] [.type "object"] [.ref 80,.ref 106,.ref 132,.ref 158,.ref 198,.ref 238,.ref 271,.ref 311,.ref 344,.ref 363,.ref 396,.ref 429,.ref 455] none 196 204 "object.__new__") ::
 (nat_lit 53,⟨(.type "getset_descriptor"),none,.fields #[(.str "__dict__" 232),(.ref 52),(.builtin "function.__dict__"),(.builtin "function.__dict__#set")],#[]⟩) ::
 (nat_lit 54,WR "__weakref__" 234 52 "ExceptionGroup.__weakref__") ::
 (nat_lit 69,CO "__init__" "HandRow.__init__" 251 17 4 64 258) ::
 (nat_lit 70,G9T "__init__" "HandRow.__init__" 3 0 69) ::
 (nat_lit 79,DI #[M3O P 246,FL P 250 15 249,ER P "__init__" 260 70,ER P "shown" 267 77,SA P 270 78,DO P 271] 2) ::
 (nat_lit 80,CX "HandRow" 80 79 [.ref 52] [.ref 52,.type "object"] [] (some (.ref 57)) 239 247 "object.__new__") ::
 (nat_lit 95,CO "__init__" "GivenRow.__init__" 286 26 5 90 294) ::
 (nat_lit 96,G9T "__init__" "GivenRow.__init__" 4 0 95) ::
 (nat_lit 105,DI #[M3O P 281,FL P 285 24 284,ER P "__init__" 296 96,ER P "shown" 303 103,SA P 307 104,DO P 308] 2) ::
 (nat_lit 106,CX "GivenRow" 106 105 [.ref 52] [.ref 52,.type "object"] [] (some (.ref 83)) 274 282 "object.__new__") ::
 (nat_lit 121,CO "__init__" "OwnRow.__init__" 323 36 4 116 330) ::
 (nat_lit 122,G9T "__init__" "OwnRow.__init__" 5 0 121) ::
 (nat_lit 131,DI #[M3O P 318,FL P 322 34 321,ER P "__init__" 332 122,ER P "shown" 339 129,SA P 342 130,DO P 343] 2) ::
 (nat_lit 132,CX "OwnRow" 132 131 [.ref 52] [.ref 52,.type "object"] [] (some (.ref 109)) 311 319 "object.__new__") ::
 (nat_lit 147,CO "__init__" "LetRow.__init__" 358 45 4 142 365) ::
 (nat_lit 148,G9T "__init__" "LetRow.__init__" 6 0 147) ::
 (nat_lit 157,DI #[M3O P 353,FL P 357 43 356,ER P "__init__" 367 148,ER P "shown" 374 155,SA P 377 156,DO P 378] 2) ::
 (nat_lit 158,CX "LetRow" 158 157 [.ref 52] [.ref 52,.type "object"] [] (some (.ref 135)) 346 354 "object.__new__") ::
 (nat_lit 173,CO "__init__" "SetRow.__init__" 393 54 4 168 400) ::
 (nat_lit 174,G9T "__init__" "SetRow.__init__" 7 0 173) ::
 (nat_lit 197,DI #[M3O P 388,FL P 392 52 391,ER P "__init__" 402 174,ER P "shown" 409 181,ER P "reads" 416 188,ER P "target" 423 195,SA P 426 196,DO P 427] 2) ::
 (nat_lit 198,CX "SetRow" 198 197 [.ref 52] [.ref 52,.type "object"] [] (some (.ref 161)) 381 389 "object.__new__") ::
 (nat_lit 213,CO "__init__" "PutRow.__init__" 442 69 5 208 450) ::
 (nat_lit 214,G9T "__init__" "PutRow.__init__" 8 0 213) ::
 (nat_lit 237,DI #[M3O P 437,FL P 441 67 440,ER P "__init__" 452 214,ER P "shown" 459 221,ER P "reads" 466 228,ER P "target" 473 235,SA P 477 236,DO P 478] 2) ::
 (nat_lit 238,CX "PutRow" 238 237 [.ref 52] [.ref 52,.type "object"] [] (some (.ref 201)) 430 438 "object.__new__") ::
 (nat_lit 253,CO "__init__" "SendRow.__init__" 493 85 4 248 500) ::
 (nat_lit 254,G9T "__init__" "SendRow.__init__" 9 0 253) ::
 (nat_lit 270,DI #[M3O P 488,FL P 492 83 491,ER P "__init__" 502 254,ER P "shown" 509 261,ER P "reads" 516 268,SA P 519 269,DO P 520] 2) ::
 (nat_lit 271,CX "SendRow" 271 270 [.ref 52] [.ref 52,.type "object"] [] (some (.ref 241)) 481 489 "object.__new__") ::
 (nat_lit 286,CO "__init__" "SayRow.__init__" 535 97 5 281 543) ::
 (nat_lit 287,G9T "__init__" "SayRow.__init__" 10 0 286) ::
 (nat_lit 310,DI #[M3O P 530,FL P 534 95 533,ER P "__init__" 545 287,ER P "shown" 552 294,ER P "reads" 559 301,ER P "target" 566 308,SA P 570 309,DO P 571] 2) ::
 (nat_lit 311,CX "SayRow" 311 310 [.ref 52] [.ref 52,.type "object"] [] (some (.ref 274)) 523 531 "object.__new__") ::
 (nat_lit 326,CO "__init__" "CallRow.__init__" 586 113 4 321 593) ::
 (nat_lit 327,G9T "__init__" "CallRow.__init__" 11 0 326) ::
 (nat_lit 343,DI #[M3O P 581,FL P 585 111 584,ER P "__init__" 595 327,ER P "shown" 602 334,ER P "reads" 609 341,SA P 612 342,DO P 613] 2) ::
 (nat_lit 344,CX "CallRow" 344 343 [.ref 52] [.ref 52,.type "object"] [] (some (.ref 314)) 574 582 "object.__new__") ::
 (nat_lit 362,DI #[M3O P 623,FL P 627 123 626,ER P "shown" 634 360,SA P 635 361,DO P 636] 2) ::
 (nat_lit 363,CX "LastRow" 363 362 [.ref 52] [.ref 52,.type "object"] [] (some (.ref 347)) 616 624 "object.__new__") ::
 (nat_lit 378,CO "__init__" "IfRow.__init__" 651 129 7 373 661) ::
 (nat_lit 379,G9T "__init__" "IfRow.__init__" 13 0 378) ::
 (nat_lit 395,DI #[M3O P 646,FL P 650 127 649,ER P "__init__" 663 379,ER P "shown" 670 386,ER P "reads" 677 393,SA P 683 394,DO P 684] 2) ::
 (nat_lit 396,CX "IfRow" 396 395 [.ref 52] [.ref 52,.type "object"] [] (some (.ref 366)) 639 647 "object.__new__") ::
 (nat_lit 411,CO "__init__" "LoopRow.__init__" 699 144 7 406 709) ::
 (nat_lit 412,G9T "__init__" "LoopRow.__init__" 14 0 411) ::
 (nat_lit 428,DI #[M3O P 694,FL P 698 142 697,ER P "__init__" 711 412,ER P "shown" 718 419,ER P "reads" 725 426,SA P 731 427,DO P 732] 2) ::
 (nat_lit 429,CX "LoopRow" 429 428 [.ref 52] [.ref 52,.type "object"] [] (some (.ref 399)) 687 695 "object.__new__") ::
 (nat_lit 444,CO "__init__" "DeedRow.__init__" 747 159 5 439 755) ::
 (nat_lit 445,G9T "__init__" "DeedRow.__init__" 15 0 444) ::
 (nat_lit 454,DI #[M3O P 742,FL P 746 157 745,ER P "__init__" 757 445,ER P "shown" 764 452,SA P 768 453,DO P 769] 2) ::
 (nat_lit 455,CX "DeedRow" 455 454 [.ref 52] [.ref 52,.type "object"] [] (some (.ref 432)) 735 743 "object.__new__") ::
 (nat_lit 470,CO "__init__" "Program.__init__" 784 169 4 465 791) ::
 (nat_lit 471,G9T "__init__" "Program.__init__" 16 0 470) ::
 (nat_lit 473,DI #[M3O P 779,FL P 783 167 782,ER P "__init__" 793 471,SA P 797 472,ER P "__dict__" 799 475,ER P "__weakref__" 801 476,DO P 802] 4) ::
 (nat_lit 474,CX "Program" 474 473 [.type "object"] [.type "object"] [] none 772 780 "object.__new__") ::
 (nat_lit 475,⟨(.type "getset_descriptor"),none,.fields #[(.str "__dict__" 798),(.ref 474),(.builtin "function.__dict__"),(.builtin "function.__dict__#set")],#[]⟩) ::
 (nat_lit 476,WR "__weakref__" 800 474 "ExceptionGroup.__weakref__") ::
 (nat_lit 484,CO "row_place" "row_place" 809 175 1 479 813) ::
 (nat_lit 485,F7T "row_place" 19 484) ::
 (nat_lit 491,CO "laid_rows" "laid_rows" 816 177 3 486 824) ::
 (nat_lit 492,F7T "laid_rows" 20 491) ::
 (nat_lit 498,CO "laid_inside" "laid_inside" 827 183 2 493 833) ::
 (nat_lit 499,F7T "laid_inside" 21 498) ::
 (nat_lit 505,CO "laid_program" "laid_program" 836 190 1 500 842) ::
 (nat_lit 506,F7T "laid_program" 22 505) ::
 (nat_lit 512,CO "is_place" "is_place" 845 195 1 507 849) ::
 (nat_lit 513,F7T "is_place" 23 512) ::
 (nat_lit 519,CO "head_places" "head_places" 852 197 1 514 858) ::
 (nat_lit 520,F7T "head_places" 24 519) ::
 (nat_lit 526,CO "places" "places" 861 203 1 521 870) ::
 (nat_lit 527,F7T "places" 25 526) ::
 (nat_lit 531,⟨(.type "code"),none,.fields #[(.str "under" 873),(.str "under" 874),(.str "/claim/cut.py" 875),(.int (211) 0),(.int (1) 0),(.int (0) 0),(.int (0) 0),(.int (3) 0),(.ref 528),(.bool true),(.int (181) 0),(.ref 529),.none,.none,.none,(.ref 530),(.int (876) 0),(.int (211) 0),(.str "/claim/cut.py" 877)],#[]⟩) ::
 (nat_lit 532,F7T "under" 26 531) ::
 (nat_lit 538,CO "_law_cell_at" "_law_cell_at" 881 214 2 533 887) ::
 (nat_lit 539,F8T "_law_cell_at" 28 538) ::
 (nat_lit 543,⟨(.type "code"),none,.fields #[(.str "_law_more" 890),(.str "_law_more" 891),(.str "/claim/cut.py" 892),(.int (221) 0),(.int (3) 0),(.int (0) 0),(.int (0) 0),(.int (3) 0),(.ref 540),(.bool true),(.int (181) 0),(.ref 541),.none,.none,.none,(.ref 542),(.int (893) 0),(.int (221) 0),(.str "/claim/cut.py" 894)],#[]⟩) ::
 (nat_lit 544,F8T "_law_more" 29 543) ::
 (nat_lit 550,CO "_law_mix" "_law_mix" 896 223 2 545 904) ::
 (nat_lit 551,F8T "_law_mix" 30 550) ::
 (nat_lit 555,⟨(.type "code"),none,.fields #[(.str "_law_names" 907),(.str "_law_names" 908),(.str "/claim/cut.py" 909),(.int (232) 0),(.int (3) 0),(.int (0) 0),(.int (0) 0),(.int (3) 0),(.ref 552),(.bool true),(.int (181) 0),(.ref 553),.none,.none,.none,(.ref 554),(.int (910) 0),(.int (232) 0),(.str "/claim/cut.py" 911)],#[]⟩) ::
 (nat_lit 556,F8T "_law_names" 31 555) ::
 (nat_lit 562,CO "_law_pick" "_law_pick" 913 248 2 557 918) ::
 (nat_lit 563,F8T "_law_pick" 32 562) ::
 (nat_lit 567,⟨(.type "code"),none,.fields #[(.str "_law_heads" 921),(.str "_law_heads" 922),(.str "/claim/cut.py" 923),(.int (250) 0),(.int (2) 0),(.int (0) 0),(.int (0) 0),(.int (3) 0),(.ref 564),(.bool true),(.int (181) 0),(.ref 565),.none,.none,.none,(.ref 566),(.int (924) 0),(.int (250) 0),(.str "/claim/cut.py" 925)],#[]⟩) ::
 (nat_lit 568,F8T "_law_heads" 33 567) ::
 (nat_lit 574,CO "_law_scope" "_law_scope" 927 258 2 569 934) ::
 (nat_lit 575,F8T "_law_scope" 34 574) ::
 (nat_lit 581,CO "_law_thing" "_law_thing" 937 263 2 576 942) ::
 (nat_lit 582,F8T "_law_thing" 35 581) ::
 (nat_lit 588,CO "_law_value" "_law_value" 945 267 2 583 953) ::
 (nat_lit 589,F8T "_law_value" 36 588) ::
 (nat_lit 595,CO "_law_plain" "_law_plain" 956 276 3 590 966) ::
 (nat_lit 596,F8T "_law_plain" 37 595) ::
 (nat_lit 602,CO "_law_opened" "_law_opened" 969 288 4 597 980) ::
 (nat_lit 603,F8T "_law_opened" 38 602) ::
 (nat_lit 609,CO "_law_closed" "_law_closed" 983 303 1 604 987) ::
 (nat_lit 610,F8T "_law_closed" 39 609) ::
 (nat_lit 614,⟨(.type "code"),none,.fields #[(.str "_law_row" 990),(.str "_law_row" 991),(.str "/claim/cut.py" 992),(.int (310) 0),(.int (3) 0),(.int (0) 0),(.int (0) 0),(.int (3) 0),(.ref 611),(.bool true),(.int (181) 0),(.ref 612),.none,.none,.none,(.ref 613),(.int (993) 0),(.int (310) 0),(.str "/claim/cut.py" 994)],#[]⟩) ::
 (nat_lit 615,F8T "_law_row" 40 614) ::
 (nat_lit 621,CO "_law_body" "_law_body" 996 325 4 616 1005) ::
 (nat_lit 622,F8T "_law_body" 41 621) ::
 (nat_lit 628,CO "_law_flat" "_law_flat" 1008 333 2 623 1023) ::
 (nat_lit 629,F8T "_law_flat" 42 628) ::
 (nat_lit 635,CO "_law_row_made" "_law_row_made" 1026 350 2 630 1031) ::
 (nat_lit 636,F8T "_law_row_made" 43 635) ::
 (nat_lit 642,CO "_law_rows_made" "_law_rows_made" 1034 370 2 637 1045) ::
 (nat_lit 643,F8T "_law_rows_made" 44 642) ::
 (nat_lit 649,CO "_law_program" "_law_program" 1048 386 1 644 1059) ::
 (nat_lit 650,F8T "_law_program" 45 649) ::
 (nat_lit 656,CO "_law_lain" "_law_lain" 1062 400 1 651 1070) ::
 (nat_lit 657,F8T "_law_lain" 46 656) ::
 (nat_lit 663,CO "_law_due" "_law_due" 1073 418 1 658 1080) ::
 (nat_lit 664,F8T "_law_due" 47 663) ::
 (nat_lit 668,⟨(.type "code"),none,.fields #[(.str "_law_places" 1083),(.str "_law_places" 1084),(.str "/claim/cut.py" 1085),(.int (429) 0),(.int (2) 0),(.int (0) 0),(.int (0) 0),(.int (3) 0),(.ref 665),(.bool true),(.int (181) 0),(.ref 666),.none,.none,.none,(.ref 667),(.int (1086) 0),(.int (429) 0),(.str "/claim/cut.py" 1087)],#[]⟩) ::
 (nat_lit 669,F8T "_law_places" 48 668) ::
 (nat_lit 675,CO "_law_under" "_law_under" 1089 437 2 670 1096) ::
 (nat_lit 676,F8T "_law_under" 49 675) ::
 (nat_lit 682,CO "law" "law" 1099 448 1 677 1110) ::
 (nat_lit 683,F8T "law" 50 682) :: []
noncomputable def lD:List Addr:=[2,3,34,35,51,52,53,54,69,70,79,80,95,96,105,106,121,122,131,132,147,148,157,158,173,174,197,198,213,214,237,238,253,254,270,271,286,287,310,311,326,327,343,344,362,363,378,379,395,396,411,412,428,429,444,445,454,455,470,471,473,474,475,476,484,485,491,492,498,499,505,506,512,513,519,520,526,527,531,532,538,539,543,544,550,551,555,556,562,563,567,568,574,575,581,582,588,589,595,596,602,603,609,610,614,615,621,622,628,629,635,636,642,643,649,650,656,657,663,664,668,669,675,676,682,683]
theorem gr (P:Params):lD=(heapK P).map (·.1):=by kernel_rfl
noncomputable abbrev prog:Program:=PySem.Challenge.pw_hushrow_k30_places_and_under
noncomputable abbrev law:W.OpenLaw:=PySem.Challenge.rw_hushrow_k30_places_and_under
noncomputable def dj:Program:={ prog with main:={ prog.main with body:=[top 0,top 2,top 3,top 4,top 5,top 6,top 7,top 8,top 9,top 10,top 11,top 12,top 13,top 14,top 15,top 16,top 18,top 19,top 20,top 21,top 22,top 23,top 24,top 25,top 26,top 28,top 29,top 30,top 31,top 32,top 33,top 34,top 35,top 36,top 37,top 38,top 39,top 40,top 41,top 42,top 43,top 44,top 45,top 46,top 47,top 48,top 49,top 50] } }
noncomputable abbrev hook:W.Hook:=W.kHook heapK lD gr
noncomputable abbrev test:Shared->Bool:=fun s=>xlAt dj [] s && recOk (RowW.records law.row.toRowW) s
noncomputable abbrev Cd:Shared->List (Option Obj):=fun s=>lD.map s.heap.get?
noncomputable abbrev C9:World->List (Option Obj):=fun w=>(heapK w.params).map fun p=>some p.2
noncomputable def T₀ (P:Params):BT:=Hd.treeOf (boot_heap P).objs.toList 0 .nil
noncomputable def lookL (w:World) (os:OsState):=(Hd.ic treeTable prog w 11 (some (.ref 6)) 11062 ⟨T₀ w.params,11,{},Array.mk [],boot_drawn,boot_toks,os⟩ (topStub prog)).map fun s=>Hd.wD prog (boot_heap w.params) s.abs
noncomputable def oK (w:World) (os:OsState):=some true
noncomputable def lookO (w:World) (os:OsState):=(Hd.ic treeTable prog w 11 (some (.ref 6)) 11062 ⟨T₀ w.params,11,{},Array.mk [],boot_drawn,boot_toks,os⟩ (topStub prog)).map fun s=>(openSeen dj [] (importedModules prog.main.body) test true s.abs).1
noncomputable def lookQ (w:World) (os:OsState):=some (openGood dj []).1
noncomputable def lookY (w:World) (os:OsState):=(Hd.ic treeTable prog w 11 (some (.ref 6)) 11062 ⟨T₀ w.params,11,{},Array.mk [],boot_drawn,boot_toks,os⟩ (topStub prog)).map fun s=>(openSeen dj [] (importedModules prog.main.body) test true s.abs).2.1
noncomputable def lookB (w:World) (os:OsState):=some (openGood dj []).2.1
noncomputable def lookW (w:World) (os:OsState):=(Hd.ic treeTable prog w 11 (some (.ref 6)) 11062 ⟨T₀ w.params,11,{},Array.mk [],boot_drawn,boot_toks,os⟩ (topStub prog)).map fun s=>(openSeen dj [] (importedModules prog.main.body) test true s.abs).2.2.1
noncomputable def lookX (w:World) (os:OsState):=(Hd.ic treeTable prog w 11 (some (.ref 6)) 11062 ⟨T₀ w.params,11,{},Array.mk [],boot_drawn,boot_toks,os⟩ (topStub prog)).map fun s=>(openSeen dj [] (importedModules prog.main.body) test true s.abs).2.2.2.1
noncomputable def lookU (w:World) (os:OsState):=(Hd.ic treeTable prog w 11 (some (.ref 6)) 11062 ⟨T₀ w.params,11,{},Array.mk [],boot_drawn,boot_toks,os⟩ (topStub prog)).map fun s=>(openSeen dj [] (importedModules prog.main.body) test true s.abs).2.2.2.2
noncomputable def lookV (w:World) (os:OsState):=some (openGood dj []).2.2.2.2
noncomputable def lookM (w:World) (os:OsState):=(Hd.ic treeTable prog w 11 (some (.ref 6)) 11062 ⟨T₀ w.params,11,{},Array.mk [],boot_drawn,boot_toks,os⟩ (topStub prog)).map fun s=>Cd s.abs
noncomputable def lookS (w:World) (os:OsState):=some (C9 w)
theorem lookL_self:lookL=lookL:=rfl
theorem lookO_self:lookO=lookO:=rfl
theorem lookQ_self:lookQ=lookQ:=rfl
theorem lookY_self:lookY=lookY:=rfl
theorem lookB_self:lookB=lookB:=rfl
theorem lookW_self:lookW=lookW:=rfl
theorem lookX_self:lookX=lookX:=rfl
theorem lookU_self:lookU=lookU:=rfl
theorem lookV_self:lookV=lookV:=rfl
theorem lookM_self:lookM=lookM:=rfl
theorem lookS_self:lookS=lookS:=rfl
end K30
noncomputable def PySem.W.Fast.tw14598715356260435866:PySem.Params->PySem.Obj:=PySem.W.boot_o_0
theorem PySem.W.Fast.te14598715356260435866:PySem.W.boot_o_0=PySem.W.Fast.tw14598715356260435866:=rfl
noncomputable def PySem.W.Fast.tw17002875645509226705:PySem.Program:=PySem.Challenge.pw_hushrow_k30_places_and_under
theorem PySem.W.Fast.te17002875645509226705:PySem.Challenge.pw_hushrow_k30_places_and_under=PySem.W.Fast.tw17002875645509226705:=rfl
noncomputable def PySem.W.Fast.tw16631910999245345335:PySem.Params->PySem.W.Frag:=K30.heapK
theorem PySem.W.Fast.te16631910999245345335:K30.heapK=PySem.W.Fast.tw16631910999245345335:=rfl
lay_quick K30.lookL K30.lookO K30.lookQ K30.lookY K30.lookB K30.lookW K30.lookX K30.lookU K30.lookV K30.lookM K30.lookS
name_quick K30lookL for K30.lookL by K30.lookL_self
name_quick K30lookO for K30.lookO by K30.lookO_self
name_quick K30lookQ for K30.lookQ by K30.lookQ_self
name_quick K30lookY for K30.lookY by K30.lookY_self
name_quick K30lookB for K30.lookB by K30.lookB_self
name_quick K30lookW for K30.lookW by K30.lookW_self
name_quick K30lookX for K30.lookX by K30.lookX_self
name_quick K30lookU for K30.lookU by K30.lookU_self
name_quick K30lookV for K30.lookV by K30.lookV_self
name_quick K30lookM for K30.lookM by K30.lookM_self
name_quick K30lookS for K30.lookS by K30.lookS_self
namespace K30
open PySem L2 PySem.W
theorem pU:W.Fast.K30lookY=W.Fast.K30lookB:=by kernel_rfl
theorem pG:W.Fast.K30lookM=W.Fast.K30lookS:=by kernel_rfl
theorem o9:W.Fast.K30lookO=W.Fast.K30lookQ:=by kernel_rfl
theorem qZ:W.Fast.K30lookL=oK:=by kernel_rfl
theorem rD:lookY=lookB:=W.Fast.K30lookY_eq.trans (pU.trans W.Fast.K30lookB_eq.symm)
theorem p8:W.Fast.K30lookW=oK:=by kernel_rfl
theorem rC:lookW=oK:=W.Fast.K30lookW_eq.trans p8
theorem pY:W.Fast.K30lookX=oK:=by kernel_rfl
theorem rF:lookX=oK:=W.Fast.K30lookX_eq.trans pY
theorem o5:W.Fast.K30lookU=W.Fast.K30lookV:=by kernel_rfl
theorem qL:lookU=lookV:=W.Fast.K30lookU_eq.trans (o5.trans W.Fast.K30lookV_eq.symm)
theorem qt:lookO=lookQ:=W.Fast.K30lookO_eq.trans (o9.trans W.Fast.K30lookQ_eq.symm)
theorem sU:lookL=oK:=W.Fast.K30lookL_eq.trans qZ
theorem q5:lookM=lookS:=W.Fast.K30lookM_eq.trans (pG.trans W.Fast.K30lookS_eq.symm)
theorem yF (P:Params):absHeap (T₀ P) 11 {}=boot_heap P:=by kernel_rfl
theorem zq (w:World):((boot_heap w.params).isNs mainGlobals && (Array.mk []:Array GenState).size == 0,(boot_heap w.params).objs.size,(boot_heap w.params).nsMap mainGlobals "__annotations__")=(true,11,some (.ref 6)):=by kernel_rfl
theorem left:LeftO prog dj [] test hook.obs hook.val 11062:=Hd.xA (boot_open (p:=prog) (N:=11062) (by kernel_rfl) rfl (fun _=>rfl)) zq yF (fun w os=>congrFun (congrFun sU w) os) (fun w os=>congrFun (congrFun qt w) os) (fun w os=>congrFun (congrFun rD w) os) (fun w os=>congrFun (congrFun rC w) os) (fun w os=>congrFun (congrFun rF w) os) (fun w os=>congrFun (congrFun qL w) os) (fun w os=>congrFun (congrFun q5 w) os)
end K30
namespace L2
open PySem PySem.Spec PyProof.Rows
abbrev Key:=Sum Int Str
def oO:Key->Value->Bool
 | .inl k,v=>Value.isInt k v
 | .inr x,v=>Value.isStrOf x v
def Dh (w:World):Key->Int
 | .inl k=>hashInt k
 | .inr x=>hashStr w x
theorem bG:∀{k:Key}{v:Value},oO k v=true->(∃i t,k=Sum.inl i/\v=Value.int i t) \/ (∃x t,k=Sum.inr x/\v=Value.str x t)
 | .inl i,v,h=>by
  obtain ⟨t,e⟩:=Value.isInt_shape (k:=i) (v:=v) h
  exact .inl ⟨i,t,rfl,e⟩
 | .inr x,v,h=>by
  obtain ⟨t,e⟩:=Value.isStrOf_shape (x:=x) (v:=v) h
  exact .inr ⟨x,t,rfl,e⟩
theorem vR (i:Int) (t:Tok):oO (.inl i) (.int i t)=true:=by simp [oO,Value.isInt]
theorem vK (x:Str) (t:Tok):oO (.inr x) (.str x t)=true:=by simp [oO,Value.isStrOf]
theorem Ad (a b:Int):decide ((Sum.inl a:Key)=Sum.inl b)=(a == b):=by
 by_cases e:a=b
 ·subst e;simp
 ·have h:¬ (Sum.inl a:Key)=Sum.inl b:=fun q=>e (Sum.inl.inj q)
  rw [decide_eq_false h]
  exact (beq_eq_false_iff_ne.mpr e).symm
theorem AW (a b:Str):decide ((Sum.inr a:Key)=Sum.inr b)=decide (a=b):=by
 by_cases e:a=b
 ·subst e;simp
 ·have h:¬ (Sum.inr a:Key)=Sum.inr b:=fun q=>e (Sum.inr.inj q)
  rw [decide_eq_false h,decide_eq_false e]
theorem Ai (a:Int) (b:Str):decide ((Sum.inl a:Key)=Sum.inr b)=false:=decide_eq_false (fun q=>nomatch q)
theorem AG (a:Str) (b:Int):decide ((Sum.inr a:Key)=Sum.inl b)=false:=decide_eq_false (fun q=>nomatch q)
def bg (prog:Program) (w:World):PySem.KeyKind prog w Key where
 is:=oO
 hash:=Dh w
 inj:=fun v a b ha hb=>by
  rcases bG ha with ⟨i,t,rfl,rfl⟩ | ⟨x,t,rfl,rfl⟩
  ·rcases bG hb with ⟨j,u,rfl,e⟩ | ⟨y,u,rfl,e⟩
   ·injection e with e1 _;rw [e1]
   ·exact nomatch e
  ·rcases bG hb with ⟨j,u,rfl,e⟩ | ⟨y,u,rfl,e⟩
   ·exact nomatch e
   ·injection e with e1 _;rw [e1]
 byValue:=fun k v h=>by
  rcases bG h with ⟨i,t,rfl,rfl⟩ | ⟨x,t,rfl,rfl⟩ <;> rfl
 pyHash:=fun hv h=>by
  rcases bG hv with ⟨i,t,rfl,rfl⟩ | ⟨x,t,rfl,rfl⟩
  ·exact wpAny_pyHash_int h
  ·exact wpAny_pyHash_str h
 eqBool:=fun hu hv h=>by
  rcases bG hu with ⟨i,t,rfl,rfl⟩ | ⟨x,t,rfl,rfl⟩
  ·rcases bG hv with ⟨j,u,rfl,rfl⟩ | ⟨y,u,rfl,rfl⟩
   ·rw [Ad] at h;exact wpAny_eqBool_int h
   ·rw [Ai] at h;exact SeqAt.EqAt.int_str i t y u _ _ _ _ h
  ·rcases bG hv with ⟨j,u,rfl,rfl⟩ | ⟨y,u,rfl,rfl⟩
   ·rw [AG] at h;exact SeqAt.EqAt.str_int x t j u _ _ _ _ h
   ·rw [AW] at h;exact wpAny_eqBool_str h
 «strs»:=fun k x t v h=>by
  rcases bG h with ⟨i,u,rfl,e⟩ | ⟨y,u,rfl,e⟩
  ·exact nomatch e
  ·injection e with e1 _
   subst e1
   cases v <;> rfl
theorem qF (prog:Program) (w:World) (i:Int) (t:Tok):(bg prog w).is (.inl i) (.int i t)=true:=vR i t
theorem qy (prog:Program) (w:World) (x:Str) (t:Tok):(bg prog w).is (.inr x) (.str x t)=true:=vK x t
end L2
namespace L2
open PySem PySem.Spec PyProof.Rows
inductive V where
 | non | bl (b:Bool) | int (i:Int) | str (x:Str) | byt (b:Array UInt8) | flt (b:UInt64) | ref (a:Addr) | ty (n:String)
 deriving DecidableEq
def RelV:V->Value->Prop
 | .non,u=>u=Value.none
 | .bl b,u=>u=Value.bool b
 | .int i,u=>∃t,u=Value.int i t
 | .str x,u=>∃t,u=Value.str x t
 | .byt b,u=>∃t,u=Value.bytes b t
 | .flt b,u=>∃t,u=Value.float b t
 | .ref a,u=>u=Value.ref a
 | .ty n,u=>u=Value.type n
abbrev Vals:List V->List Value->Prop:=Paired RelV
theorem Vals.length {xs:List V}{us:List Value} (r:Vals xs us):xs.length=us.length:=Paired.length r
theorem Vals.get:∀{xs:List V}{us:List Value}{i:Nat}{x:V},Vals xs us->xs[i]?=some x->∃u,us[i]?=some u/\RelV x u
 | _,_,_,_,.nil,e=>by simp at e
 | _,_,0,_,.cons r _,e=>by simp at e;subst e;exact ⟨_,rfl,r⟩
 | _,_,i + 1,x,.cons _ t,e=>by
  obtain ⟨u,h1,h2⟩:=Vals.get (i:=i) (x:=x) t (by simpa using e)
  exact ⟨u,by simpa using h1,h2⟩
theorem Vals.set {x:V}{u:Value} (r:RelV x u):∀{xs:List V}{us:List Value} (i:Nat),Vals xs us->Vals (xs.set i x) (us.set i u)
 | _,_,_,.nil=>.nil
 | _,_,0,.cons _ t=>.cons r t
 | _,_,i + 1,.cons q t=>.cons q (Vals.set r i t)
theorem Vals.append:∀{xs ys:List V}{us ws:List Value},Vals xs us->Vals ys ws->Vals (xs ++ ys) (us ++ ws)
 | _,_,_,_,.nil,s=>s
 | _,_,_,_,.cons r t,s=>.cons r (Vals.append t s)
theorem Vals.take:∀{xs:List V}{us:List Value} (n:Nat),Vals xs us->Vals (xs.take n) (us.take n)
 | _,_,0,_=>.nil
 | _,_,_ + 1,.nil=>.nil
 | _,_,n + 1,.cons r t=>.cons r (Vals.take n t)
theorem Vals.drop:∀{xs:List V}{us:List Value} (n:Nat),Vals xs us->Vals (xs.drop n) (us.drop n)
 | _,_,0,r=>r
 | _,_,_ + 1,.nil=>.nil
 | _,_,n + 1,.cons _ t=>Vals.drop n t
def ku:Option V->Option Value->Prop
 | some v,some u=>RelV v u
 | none,none=>True
 | _,_=>False
def KV {κ:Type}:List (κ × V)->List (κ × Value)->Prop:=Paired fun (p:κ × V) (q:κ × Value)=>p.1=q.1/\RelV p.2 q.2
def kV:Key->V
 | .inl i=>.int i
 | .inr x=>.str x
inductive HO where
 | lst (xs:List V)
 | tup (xs:List V)
 | dK (kvs:List (Key × V)) | dT (kvs:List (List Key × V))
 | set (S:Int->Bool) (n:Nat)
 | ins (C dx:Addr) (fs:List (Str × V))
 | own (x:Addr)
 | xd (fs:List (Str × V))
 | met (f x:Addr)
 | rng (lo hi:Int)
 | frz (o:Obj) (u:HO)
 | tbl (ps:Array Value)
 | ext (φ:Heap->Prop)
abbrev Hp:=Addr->Option HO
def upd (H:Hp) (a:Addr) (o:HO):Hp:=fun b=>if b=a then some o else H b
theorem ak {H:Hp}{a:Addr}{o:HO}:upd H a o a=some o:=by unfold upd;rw [if_pos rfl]
theorem aI {H:Hp}{a b:Addr}{o:HO} (h:b ≠ a):upd H a o b=H b:=by unfold upd;rw [if_neg h]
theorem yL {H:Hp}{a:Addr}{o u:HO}:upd (upd H a o) a u=upd H a u:=by
 funext b;unfold upd;split <;> rfl
theorem CH {H:Hp}{a b:Addr}{o u:HO} (h:H a=some o) (h':H b=some u) (d:o ≠ u):a ≠ b:=by
 intro e;subst e;rw [h] at h';exact d (Option.some.inj h')
theorem cM {H:Hp}{a b:Addr}{o:HO} (h:H a=some o) (h':H b=none):a ≠ b:=by
 intro e;subst e;rw [h] at h';cases h'
section
variable (P:Program) (w:World)
def bI (H:Hp) (h:Heap) (a:Addr):HO->Prop
 | .lst xs=>xs.length <= sizeLine/\∃(its:List Value) (n:Nat),Vals xs its/\h.get? a=some { cls:=.type "list",data:=.seq its.toArray n }
 | .tup xs=>xs.length <= sizeLine/\∃its:List Value,Vals xs its/\IsTup h a its.toArray
 | .dK kvs=>kvs.length <= sizeLine/\(a == sysModules)=false/\∃vs,KV kvs vs/\h.DictOf (bg P w) a vs
 | .dT kvs=>kvs.length <= sizeLine/\(a == sysModules)=false/\∃xs:List (List Key × Addr × Value),
   Paired (fun (p:List Key × V) (q:List Key × Addr × Value)=>p.1=q.1/\H q.2.1=some (.tup (p.1.map kV))/\RelV p.2 q.2.2) kvs xs /\
   ∃o es ep,h.get? a=some o/\o.ExactDict/\o.data=.dict es ep/\es.toList=xs.map (entryOfKey (tupleKind (bg P w)))/\(xs.map (·.1)).Nodup
 | .set S n=>h.SetOf (intKind P w) a S n
 | .ins C dx fs=>H dx=some (.own a)/\fs.length <= 1000/\dx ≠ a/\h.get? a=some (W.instObj C dx) /\
   ∃mA,h.Ns1 dx mA/\(∀f,ku (fs.lookup f) (mA f))/\PySem.Within mA (fs.map (·.1))
 | .own _=>∃o,h.get? a=some o
 | .xd fs=>∃mA,h.Ns1 a mA/\∀f,ku (fs.lookup f) (mA f)
 | .rng lo hi=>∃t u v,h.get? a=some { cls:=.type "range",data:=.fields #[.int lo t,.int hi u,.int 1 v] }
 | .frz o u=>h.get? a=some o/\bI H h a u
 | .tbl ps=>h.get? a=some { cls:=.none,data:=.fields ps }
 | .met f x=>h.get? a=some (W.methodObj (.ref f) (.ref x))
 | .ext φ=>φ h/\(∃o,h.get? a=some o)/\∀h1 h2:Heap,φ h1->(∀o,h1.get? a=some o->h2.get? a=some o)->φ h2
def HOk (H:Hp) (h:Heap):Prop:=∀a o,H a=some o->bI P w H h a o
end
section
variable {P:Program}{w:World}{H H':Hp}{h h':Heap}{a:Addr}{o:HO}
theorem bI.lt (x:bI P w H h a o):a < h.objs.size:=by
 cases o with
 | lst xs=>obtain ⟨_,_,_,_,e⟩:=x;exact Heap.lt_size e
 | tup xs=>obtain ⟨_,_,_,p⟩:=x;exact p.lt
 | dK kvs=>obtain ⟨_,_,_,_,o,_,_,e,_⟩:=x;exact Heap.lt_size e
 | dT kvs=>obtain ⟨_,_,_,_,o,_,_,e,_⟩:=x;exact Heap.lt_size e
 | set S n=>obtain ⟨o,_,_,_,e,_⟩:=x;exact Heap.lt_size e
 | ins C dx fs=>obtain ⟨_,_,_,e,_⟩:=x;exact Heap.lt_size e
 | own y=>obtain ⟨_,e⟩:=x;exact Heap.lt_size e
 | xd fs=>obtain ⟨_,⟨_,_,_,e,_⟩,_⟩:=x;exact Heap.lt_size e
 | rng lo hi=>obtain ⟨_,_,_,e⟩:=x;exact Heap.lt_size e
 | frz ob u=>obtain ⟨e,_⟩:=x;exact Heap.lt_size e
 | tbl ps=>exact Heap.lt_size (show h.get? a=some _ from x)
 | met f y=>exact Heap.lt_size (show h.get? a=some _ from x)
 | ext φ=>obtain ⟨_,⟨_,e⟩,_⟩:=x;exact Heap.lt_size e
theorem Paired.nT {α β:Type}{F G:α->β->Prop}:∀{l₁:List α}{l₂:List β},Paired F l₁ l₂->(∀a b,F a b->G a b)->Paired G l₁ l₂
 | _,_,.nil,_=>.nil
 | _,_,.cons r t,f=>.cons (f _ _ r) (Paired.nT t f)
theorem bI.rP (x:bI P w H h a o) (k:∀b u,(b=a \/ H b=some (.own a))->h.get? b=some u->h'.get? b=some u)
  (ho:∀b,H b=some (.own a)->H' b=some (.own a)) (ht:∀b xs,H b=some (.tup xs)->H' b=some (.tup xs)):bI P w H' h' a o:=by
 induction o with
 | lst xs=>obtain ⟨z,its,n,r,e⟩:=x;exact ⟨z,its,n,r,k _ _ (.inl rfl) e⟩
 | tup xs=>obtain ⟨z,its,r,ob,e,c⟩:=x;exact ⟨z,its,r,ob,k _ _ (.inl rfl) e,c⟩
 | dK kvs=>obtain ⟨z,y,vs,r,ob,es,ep,e,c⟩:=x;exact ⟨z,y,vs,r,ob,es,ep,k _ _ (.inl rfl) e,c⟩
 | dT kvs =>
  obtain ⟨z,y,xs,r,ob,es,ep,e,c⟩:=x
  exact ⟨z,y,xs,Paired.nT r fun p q z=>⟨z.1,ht _ _ z.2.1,z.2.2⟩,ob,es,ep,k _ _ (.inl rfl) e,c⟩
 | set S n=>obtain ⟨ob,es,ep,t,e,c⟩:=x;exact ⟨ob,es,ep,t,k _ _ (.inl rfl) e,c⟩
 | ins C dx fs =>
  obtain ⟨d,z,ne,e,mA,⟨od,es,ep,e2,c⟩,r⟩:=x
  exact ⟨ho _ d,z,ne,k _ _ (.inl rfl) e,mA,⟨od,es,ep,k _ _ (.inr d) e2,c⟩,r⟩
 | own y=>obtain ⟨ob,e⟩:=x;exact ⟨ob,k _ _ (.inl rfl) e⟩
 | xd fs=>obtain ⟨mA,⟨od,es,ep,e,c⟩,r⟩:=x;exact ⟨mA,⟨od,es,ep,k _ _ (.inl rfl) e,c⟩,r⟩
 | rng lo hi=>obtain ⟨t,u,v,e⟩:=x;exact ⟨t,u,v,k _ _ (.inl rfl) e⟩
 | frz ob u ih=>obtain ⟨e,q⟩:=x;exact ⟨k _ _ (.inl rfl) e,ih q⟩
 | tbl ps =>
  have e:h.get? a=some { cls:=.none,data:=.fields ps }:=x
  show h'.get? a=some { cls:=.none,data:=.fields ps }
  exact k a _ (.inl rfl) e
 | met f y =>
  have e:h.get? a=some (W.methodObj (.ref f) (.ref y)):=x
  show h'.get? a=some (W.methodObj (.ref f) (.ref y))
  exact k a _ (.inl rfl) e
 | ext φ=>obtain ⟨p,⟨o,e⟩,st⟩:=x;exact ⟨st _ _ p fun o q=>k _ _ (.inl rfl) q,⟨o,k _ _ (.inl rfl) e⟩,st⟩
theorem HOk.lt (x:HOk P w H h) (e:H a=some o):a < h.objs.size:=(x a o e).lt
theorem HOk.fresh (x:HOk P w H h) (e:h.objs.size <= a):H a=none:=by
 cases q:H a with
 | none=>rfl
 | some u=>exact absurd (Nat.lt_of_lt_of_le (x.lt q) e) (Nat.lt_irrefl _)
theorem HOk.kept (x:HOk P w H h) (k:∀b u,h.get? b=some u->h'.get? b=some u):HOk P w H h':=fun a o e =>
 (x a o e).rP (fun b u _ q=>k b u q) (fun _ q=>q) fun _ _ q=>q
theorem HOk.laid (x:HOk P w H h) (k:∀b u,h.get? b=some u->h'.get? b=some u) (hp:h.objs.size <= a) (new:bI P w (upd H a o) h' a o):HOk P w (upd H a o) h':=fun b u e=>by
 have hn:=x.fresh hp
 by_cases hb:b=a
 ·subst hb;rw [ak] at e;cases e;exact new
 ·rw [aI hb] at e
  exact (x b u e).rP (fun c v _ q=>k c v q) (fun c q=>by rw [aI (cM q hn)];exact q) fun c xs q=>by rw [aI (cM q hn)];exact q
end
def Rd (H:Hp) (a:Addr) (u:HO):Prop:=H a=some u \/ ∃o,H a=some (.frz o u)
theorem Rd.ok {P:Program}{w:World}{H:Hp}{h:Heap}{a:Addr}{u:HO} (r:Rd H a u) (x:HOk P w H h):bI P w H h a u:=by
 rcases r with r | ⟨o,r⟩
 ·exact x a u r
 ·obtain ⟨_,q⟩:=x a _ r
  exact q
def Mut:Option HO->Prop
 | some (.lst _)=>True
 | some (.dK _)=>True
 | some (.dT _)=>True
 | some (.set _ _)=>True
 | some (.ins _ _ _)=>True
 | some (.ext _)=>True
 | _=>False
section
variable {P:Program}{w:World}{H:Hp}{h h':Heap}{x e:Addr}{o':HO}
theorem HOk.write (ok:HOk P w H h) (mu:Mut (H x)) (he:e=x \/ H e=some (.own x)) (k:∀b u,b ≠ e->h.get? b=some u->h'.get? b=some u) (heo:∃u,h'.get? e=some u)
  (new:bI P w (upd H x o') h' x o'):HOk P w (upd H x o') h':=fun b u q=>by
 have nown:∀c y,H c=some (.own y)->c ≠ x:=fun c y r z=>by subst z;rw [r] at mu;exact mu
 have ntup:∀c xs,H c=some (.tup xs)->c ≠ x:=fun c xs r z=>by subst z;rw [r] at mu;exact mu
 by_cases hb:b=x
 ·subst hb;rw [ak] at q;cases q;exact new
 ·rw [aI hb] at q
  by_cases hbe:b=e
  ·have q':H b=some (.own x):=by
    rcases he with z | z
    ·exact absurd (hbe.trans z) hb
    ·rw [hbe];exact z
   rw [q] at q';cases q'
   obtain ⟨v,hv⟩:=heo
   exact ⟨v,by rw [hbe];exact hv⟩
  ·refine (ok b u q).rP (fun c v hc r=>k c v ?_ r) (fun c r=>by rw [aI (nown c b r)];exact r) fun c xs r=>by rw [aI (ntup c xs r)];exact r
   rcases hc with rfl | hc
   ·exact hbe
   ·rintro rfl
    rcases he with z | z
    ·exact nown c b hc z
    ·rw [hc] at z;cases z;exact hb rfl
end
structure Un (fs ex:List Addr) (H H':Hp) (h h':Heap):Prop where
 keep:∀b o,h.get? b=some o->H b=none->b ∉ fs->b ∉ ex->h'.get? b=some o
 slot:∀b o,h.get? b=some o->H b=none->b ∈ fs->b ∉ ex->∃sl,h'.get? b=some { o with slots:=sl }
 free:∀b o,h.get? b=some o->H b=none->b ∉ ex->H' b=none
 there:∀b o,h.get? b=some o->b ∉ ex->∃o',h'.get? b=some o'
 p7:∀b xs,H b=some (.tup xs)->H' b=some (.tup xs)
 mK:∀b o u,H b=some (.frz o u)->H' b=some (.frz o u)
 ph:∀b ps,H b=some (.tbl ps)->∃more,H' b=some (.tbl (ps ++ more))
section
variable {fs fs' ex ex':List Addr}{H H1 H2:Hp}{h h1 h2 h':Heap}{a x e:Addr}{o:HO}
theorem Un.any (u:Un fs ex H H1 h h1) {b:Addr}{ob:Obj} (q:h.get? b=some ob) (n:H b=none) (hx:b ∉ ex):∃sl,h1.get? b=some { ob with slots:=sl }:=by
 by_cases hb:b ∈ fs
 ·exact u.slot b ob q n hb hx
 ·exact ⟨ob.slots,u.keep b ob q n hb hx⟩
theorem Un.kept (k:∀b u,h.get? b=some u->h'.get? b=some u):Un fs ex H H h h' :=
 ⟨fun b ob q _ _ _=>k b ob q,fun b ob q _ _ _=>⟨ob.slots,k b ob q⟩,fun _ _ _ n _=>n,fun b ob q _=>⟨ob,k b ob q⟩,fun _ _ q=>q,fun _ _ _ q=>q,fun _ ps q=>⟨#[],by rw [q];simp⟩⟩
theorem Un.refl:Un fs ex H H h h:=Un.kept fun _ _ q=>q
theorem Un.laid (k:∀b u,h.get? b=some u->h'.get? b=some u) (hp:h.objs.size <= a) (hn:H a=none):Un fs ex H (upd H a o) h h' where
 keep:=fun b u q _ _ _=>k b u q
 slot:=fun b u q _ _ _=>⟨u.slots,k b u q⟩
 free:=fun b u q n _=>by rw [aI (Nat.ne_of_lt (Nat.lt_of_lt_of_le (Heap.lt_size q) hp))];exact n
 there:=fun b u q _=>⟨u,k b u q⟩
 p7:=fun b xs q=>by rw [aI (cM q hn)];exact q
 mK:=fun b u xs q=>by rw [aI (cM q hn)];exact q
 ph:=fun b ps q=>⟨#[],by rw [aI (cM q hn),q];simp⟩
theorem Un.write (mu:Mut (H x)) (he:e=x \/ H e=some (.own x)) (k:∀b u,b ≠ e->h.get? b=some u->h'.get? b=some u) (heo:∃u,h'.get? e=some u):Un fs ex H (upd H x o) h h':=by
 have hx:∀b,H b=none->b ≠ x:=fun b n z=>by subst z;rw [n] at mu;exact mu
 have hb:∀b,H b=none->b ≠ e:=fun b n z=>by
  subst z
  rcases he with r | r
  ·exact hx b n r
  ·rw [n] at r;cases r
 have hm:∀b u,H b=some u->¬ Mut (some u)->b ≠ x:=fun b u q nm z=>by subst z;rw [q] at mu;exact nm mu
 refine ⟨fun b u q n _ _=>k b u (hb b n) q,fun b u q n _ _=>⟨u.slots,k b u (hb b n) q⟩,fun b u q n _=>by rw [aI (hx b n)];exact n,fun b u q _=>?_,
  fun b xs q=>by rw [aI (hm b _ q fun z=>z)];exact q,fun b u xs q=>by rw [aI (hm b _ q fun z=>z)];exact q,fun b ps q=>⟨#[],by rw [aI (hm b _ q fun z=>z),q];simp⟩⟩
 by_cases hbe:b=e
 ·subst hbe;exact heo
 ·exact ⟨u,k b u hbe q⟩
end
def trk (h:Heap) (H:Hp):List Addr:=(List.range h.objs.size).filter fun a=>(H a).isSome
def p6 (h:Heap) (H:Hp):Heap:=W.hideAll h (trk h H)
theorem vE (h:Heap) (H:Hp):(p6 h H).objs.size=h.objs.size:=W.hideAll_size _ _
theorem xK {h:Heap}{H:Hp}{b:Addr}{o:Obj} (e:h.get? b=some o) (n:H b=none):(p6 h H).get? b=some o :=
 W.hideAll_get _ e fun hm=>by
  have q:(H b).isSome=true:=(List.mem_filter.mp hm).2
  rw [n] at q;simp at q
theorem y8 {h:Heap}{H:Hp}{b:Addr}{o:Obj} (e:(p6 h H).get? b=some o):h.get? b=some o/\H b=none:=by
 have e':h.get? b=some o:=W.of_hideAll (trk h H) e
 refine ⟨e',?_⟩
 cases q:H b with
 | none=>rfl
 | some x =>
  have hm:b ∈ trk h H:=List.mem_filter.mpr ⟨List.mem_range.mpr (Heap.lt_size e'),by simp [q]⟩
  have z:(p6 h H).get? b=none:=W.hideAll_none (trk h H) hm
  rw [z] at e;cases e
end L2
namespace L2
open PySem PySem.Spec PyProof.Rows
structure Mod (K:W.Frag) (mg:Str->Option Value) (base:Heap):Prop where
 kin:K.In base
 glob:base.Ns mainGlobals mg
 blt:∃mb,base.Ns builtinsNs mb/\∀x:Str,x ≠ "__name__"->mb x=bootBuiltins x
 nolimit:base.NoLimit
structure Cx where
 prog:Program
 w:World
 K:W.Frag
 mg:Str->Option Value
 base:Heap
 A:Around
 N:List Str
 s₀:Shared
 H₀:Hp
 env:Env
 outer:List Env
 stack:List Env
 ex:List Addr
 fn:Str->Bool
 calm:Bool
 pn:List (Addr × Obj)
 xe:Value->Shared->Prop
def frs (l:List Env):List Addr:=l.filterMap (·.frame)
abbrev Cx.fs (X:Cx):List Addr:=frs X.outer
def Vis (sc:Scope) (x:Str):Prop:=sc.names.lookup x=some .local \/ sc.names.lookup x=some .cell \/ sc.names.lookup x=some .free
def Loc (sc:Scope) (x:Str):Prop:=sc.names.lookup x=some .local \/ sc.names.lookup x=some .cell
def Look (env:Env) (h:Heap) (m:Str->Option Value) (x:Str) (u:Value):Prop :=
 (env.kindOf x=some .local/\m x=some u) \/ ((env.kindOf x=some .cell \/ env.kindOf x=some .free)/\∃c,env.cells.lookup x=some c/\h.IsCell c (some u))
structure Cx.Ok (X:Cx):Prop where
 mod:Mod X.K X.mg X.base
 kind:X.env.scope.kind=.function
 glob:X.env.globals=mainGlobals
 blt:X.env.builtins=builtinsNs
 above:X.s₀.heap.objs.size <= X.env.locals
 inj:∀x y c,X.env.cells.lookup x=some c->X.env.cells.lookup y=some c->x=y
 has:∀x,(X.env.kindOf x=some .cell \/ X.env.kindOf x=some .free)->∃c,X.env.cells.lookup x=some c
 cab:∀x c,X.fn x=true->X.env.cells.lookup x=some c->X.s₀.heap.objs.size <= c
 hd:X.calm=true->X.A.handled=none
 frames:X.A.frames=some X.stack
 stk:X.stack=X.outer \/ (X.stack=X.env :: X.outer/\X.env.frame=some X.env.locals)
 exf:∀b ∈ X.ex,b ≠ X.env.locals/\∀x c,X.env.cells.lookup x=some c->c ≠ b
 bs:∀b o,X.base.get? b=some o->X.s₀.heap.get? b=some o/\X.H₀ b=none
 bsz:X.base.objs.size <= X.s₀.heap.objs.size
 wF:∀b o,X.base.get? b=some o->b ∉ X.ex
 xg:∀b ∈ X.ex,b ∉ X.fs
 lN:X.s₀.heap.FunFrames X.base X.outer
 frf:∀b ∈ X.fs,X.H₀ b=none
structure Inv (X:Cx) (pins:List (Addr × Obj)) (σ:List (Option V)) (H:Hp) (s:Shared):Prop where
 ok:X.Ok
 os:s.os=X.s₀.os
 bare:AllBare s.gens
 base:Un X.fs X.ex X.H₀ H X.s₀.heap s.heap
 loc:∃m,s.heap.Ns X.env.locals m/\∀(i:Nat) (x:Str) (v:V),X.N[i]?=some x->σ[i]?=some (some v)->Vis X.env.scope x->∃u,RelV v u/\Look X.env s.heap m x u
 cell:∀x c,X.env.cells.lookup x=some c->∃v,s.heap.IsCell c v
 free:H X.env.locals=none
 ib:∀x c,X.env.cells.lookup x=some c->H c=none
 pin:∀p ∈ X.pn ++ pins,s.heap.get? p.1=some p.2/\H p.1=none/\p.1 ≠ X.env.locals/\p.1 ∉ X.fs/\∀v,p.2.data ≠ .cell v
 hok:HOk X.prog X.w H s.heap
 len:σ.length=X.N.length
section
variable {X:Cx}{pins:List (Addr × Obj)}{σ:List (Option V)}{H H':Hp}{s:Shared}{h':Heap}
theorem Cx.Ok.DD (ok:X.Ok) {b:Addr}{o:Obj} (e:X.base.get? b=some o):b ∉ X.fs:=fun hb=>by
 have:=(ok.lN.mem hb).1
 rw [e] at this;cases this
theorem Inv.bs (I:Inv X pins σ H s):∀b o,X.base.get? b=some o->s.heap.get? b=some o/\H b=none:=fun b o e =>
 ⟨I.base.keep b o (I.ok.bs b o e).1 (I.ok.bs b o e).2 (I.ok.DD e) (I.ok.wF b o e),I.base.free b o (I.ok.bs b o e).1 (I.ok.bs b o e).2 (I.ok.wF b o e)⟩
theorem Inv.bk (I:Inv X pins σ H s):∀b o,X.base.get? b=some o->s.heap.get? b=some o:=fun b o e=>(I.bs b o e).1
theorem Inv.mod (I:Inv X pins σ H s):Mod X.K X.mg X.base:=I.ok.mod
theorem Inv.kIn (I:Inv X pins σ H s):X.K.In s.heap:=I.ok.mod.kin.keeps I.bk
theorem Inv.lt (I:Inv X pins σ H s):X.env.locals < s.heap.objs.size:=let ⟨_,hn,_⟩:=I.loc;hn.lt
theorem Inv.sz (I:Inv X pins σ H s):X.s₀.heap.objs.size <= s.heap.objs.size:=Nat.le_trans I.ok.above (Nat.le_of_lt I.lt)
theorem Inv.BH (I:Inv X pins σ H s) {a:Addr} (h:s.heap.objs.size <= a):a ∉ X.fs:=fun hb=>by
 obtain ⟨_,o,ho,_⟩:=I.ok.lN.mem hb
 exact absurd (Nat.lt_of_lt_of_le (Heap.lt_size ho) (Nat.le_trans I.sz h)) (Nat.lt_irrefl _)
theorem Inv.cne (I:Inv X pins σ H s):∀x c,X.env.cells.lookup x=some c->c ≠ X.env.locals:=fun x c e z=>by
 obtain ⟨v,o,ho,hd⟩:=I.cell x c e
 obtain ⟨m,⟨o',es,ep,ho',hd',_⟩,_⟩:=I.loc
 rw [z,ho'] at ho;cases ho;rw [hd'] at hd;cases hd
theorem Inv.lN (I:Inv X pins σ H s):s.heap.FunFrames X.base X.outer:=by
 have all:∀(l:List Env),(∀b ∈ frs l,b ∈ X.fs)->X.s₀.heap.FunFrames X.base l->s.heap.FunFrames X.base l:=by
  intro l
  induction l with
  | nil=>intro _ _;trivial
  | cons env r ih =>
   intro hs hl
   obtain ⟨hk,⟨L,o,hf,hn,ho,hd⟩,hr⟩:=hl
   have hL:L ∈ X.fs:=hs L (by unfold frs;rw [List.filterMap_cons,hf];exact List.mem_cons_self)
   obtain ⟨sl,e⟩:=I.base.slot L o ho (I.ok.frf L hL) hL fun z=>I.ok.xg L z hL
   exact ⟨hk,⟨L,_,hf,hn,e,hd⟩,ih (fun b hb=>hs b (by unfold frs;rw [List.filterMap_cons,hf];exact List.mem_cons_of_mem _ hb)) hr⟩
 exact all X.outer (fun _ hb=>hb) I.ok.lN
theorem Inv.stack (I:Inv X pins σ H s):s.heap.FunFrames X.base X.stack:=by
 rcases I.ok.stk with e | ⟨e,hf⟩
 ·rw [e];exact I.lN
 ·rw [e]
  obtain ⟨m,hn,_⟩:=I.loc
  refine .cons (by rw [I.ok.kind];decide) hf hn ?_ I.lN
  exact Heap.get?_none_of_le (Nat.le_trans I.ok.bsz I.ok.above)
theorem Inv.sV (I:Inv X pins σ H s):∀b ∈ frs X.stack,b ∈ X.env.locals :: X.fs:=fun b hb=>by
 rcases I.ok.stk with e | ⟨e,hf⟩
 ·rw [e] at hb;exact List.mem_cons_of_mem _ hb
 ·rw [e] at hb
  unfold frs at hb
  rw [List.filterMap_cons,hf] at hb
  exact hb
theorem Inv.tQ (I:Inv X pins σ H s):∀b ∈ frs X.stack,H b=none:=fun b hb=>by
 rcases List.mem_cons.mp (I.sV b hb) with e | hb
 ·rw [e];exact I.free
 ·obtain ⟨_,o,ho,_⟩:=I.ok.lN.mem hb
  exact I.base.free b o ho (I.ok.frf b hb) fun z=>I.ok.xg b z hb
theorem Inv.step {g':Array GenState}{t':Nat}{d':Drawn}{ch:List Addr} (I:Inv X pins σ H s)
  (hch:∀b ∈ ch,(b ∈ X.ex \/ X.s₀.heap.objs.size <= b)/\b ≠ X.env.locals/\(∀x c,X.env.cells.lookup x=some c->c ≠ b)/\∀p ∈ X.pn ++ pins,p.1 ≠ b)
  (keep:∀b o,b ≠ X.env.locals->b ∉ X.fs->b ∉ ch->s.heap.get? b=some o->H b=none->h'.get? b=some o)
  (slot:∀b o,b ≠ X.env.locals->b ∈ X.fs->b ∉ ch->s.heap.get? b=some o->H b=none->∃sl,h'.get? b=some { o with slots:=sl }) (free:∀b o,b ∉ ch->s.heap.get? b=some o->H b=none->H' b=none)
  (there:∀b o,b ∉ ch->s.heap.get? b=some o->∃o',h'.get? b=some o')
  (p7:∀b xs,H b=some (.tup xs)->H' b=some (.tup xs)) (mK:∀b o u,H b=some (.frz o u)->H' b=some (.frz o u)) (ph:∀b ps,H b=some (.tbl ps)->∃more,H' b=some (.tbl (ps ++ more)))
  (ns:∀m,s.heap.Ns X.env.locals m->h'.Ns X.env.locals m) (hok:HOk X.prog X.w H' h') (hg:AllBare g') :
  Inv X pins σ H' { s with heap:=h',gens:=g',drawn:=d',toks:=t' }:=by
 have neL:∀b o,X.s₀.heap.get? b=some o->b ≠ X.env.locals:=fun b o e=>Nat.ne_of_lt (Nat.lt_of_lt_of_le (Heap.lt_size e) I.ok.above)
 have neC:∀b o,X.s₀.heap.get? b=some o->b ∉ X.ex->b ∉ ch:=fun b o e hx hb=>by
  rcases (hch b hb).1 with z | z
  ·exact hx z
  ·exact absurd (Nat.lt_of_lt_of_le (Heap.lt_size e) z) (Nat.lt_irrefl _)
 have cellK:∀x c,X.env.cells.lookup x=some c->∀v,s.heap.IsCell c v->h'.IsCell c v:=fun x c e v ⟨o,ho,hd⟩=>by
  have nch:c ∉ ch:=fun z=>(hch c z).2.2.1 x c e rfl
  by_cases hc:c ∈ X.fs
  ·obtain ⟨sl,q⟩:=slot c o (I.cne x c e) hc nch ho (I.ib x c e)
   exact ⟨_,q,hd⟩
  ·exact ⟨o,keep c o (I.cne x c e) hc nch ho (I.ib x c e),hd⟩
 refine ⟨I.ok,I.os,hg,⟨fun b o e n hb hx=>?_,fun b o e n hb hx=>?_,fun b o e n hx=>?_,fun b o e hx=>?_,fun b xs e=>p7 b xs (I.base.p7 b xs e),fun b o xs e=>mK b o xs (I.base.mK b o xs e),fun b ps e=>?_⟩,?_,fun x c e=>?_,?_,fun x c e=>?_,fun p hp=>?_,hok,I.len⟩
 ·exact keep b o (neL b o e) hb (neC b o e hx) (I.base.keep b o e n hb hx) (I.base.free b o e n hx)
 ·obtain ⟨sl,e1⟩:=I.base.slot b o e n hb hx
  obtain ⟨sl',e2⟩:=slot b _ (neL b o e) hb (neC b o e hx) e1 (I.base.free b o e n hx)
  exact ⟨sl',e2⟩
 ·obtain ⟨o',e1⟩:=I.base.there b o e hx
  exact free b o' (neC b o e hx) e1 (I.base.free b o e n hx)
 ·obtain ⟨o',e1⟩:=I.base.there b o e hx
  exact there b o' (neC b o e hx) e1
 ·obtain ⟨m1,e1⟩:=I.base.ph b ps e
  obtain ⟨m2,e2⟩:=ph b _ e1
  exact ⟨m1 ++ m2,by rw [e2,Array.append_assoc]⟩
 ·obtain ⟨m,hn,hl⟩:=I.loc
  refine ⟨m,ns m hn,fun i x v e1 e2 e3=>?_⟩
  obtain ⟨u,r,l⟩:=hl i x v e1 e2 e3
  refine ⟨u,r,?_⟩
  rcases l with l | ⟨k,c,e,z⟩
  ·exact .inl l
  ·exact .inr ⟨k,c,e,cellK x c e _ z⟩
 ·obtain ⟨v,z⟩:=I.cell x c e
  exact ⟨v,cellK x c e v z⟩
 ·obtain ⟨m,⟨o,_,_,ho,_⟩,_⟩:=I.loc
  exact free _ o (fun z=>(hch _ z).2.1 rfl) ho I.free
 ·obtain ⟨v,o,ho,hd⟩:=I.cell x c e
  exact free c o (fun z=>(hch c z).2.2.1 x c e rfl) ho (I.ib x c e)
 ·obtain ⟨e,n,ne,nf,d⟩:=I.pin p hp
  have nch:p.1 ∉ ch:=fun z=>(hch p.1 z).2.2.2 p hp rfl
  exact ⟨keep p.1 p.2 ne nf nch e n,free p.1 p.2 nch e n,ne,nf,d⟩
theorem Inv.un {t':Nat} (I:Inv X pins σ H s) (u:Un X.fs [] H H' s.heap h') (hok:HOk X.prog X.w H' h'):Inv X pins σ H' { s with heap:=h',toks:=t' }:=by
 obtain ⟨m,⟨o,es,ep,ho,r⟩,_⟩:=id I.loc
 obtain ⟨sl,hL⟩:=u.any ho I.free (by simp)
 exact I.step (g':=s.gens) (d':=s.drawn) (ch:=[]) (fun _ z=>nomatch z) (fun b o _ hb _ e n=>u.keep b o e n hb (by simp)) (fun b o _ hb _ e n=>u.slot b o e n hb (by simp)) (fun b o _ e n=>u.free b o e n (by simp)) (fun b o _ e=>u.there b o e (by simp)) u.p7 u.mK u.ph (fun m' hm=>by
  obtain ⟨o',es',ep',ho',r'⟩:=hm
  rw [ho] at ho';cases ho'
  exact ⟨_,es',ep',hL,r'⟩) hok I.bare
theorem Inv.call {g':Array GenState}{t':Nat}{d':Drawn}{ch:List Addr} (I:Inv X pins σ H s) (u:Un (frs X.stack) ch H H' s.heap h') (hok:HOk X.prog X.w H' h') (hg:AllBare g')
  (hch:∀b ∈ ch,(b ∈ X.ex \/ X.s₀.heap.objs.size <= b)/\b ≠ X.env.locals/\(∀x c,X.env.cells.lookup x=some c->c ≠ b)/\∀p ∈ X.pn ++ pins,p.1 ≠ b) :
  Inv X pins σ H' { s with heap:=h',gens:=g',drawn:=d',toks:=t' }:=by
 obtain ⟨m,⟨o,es,ep,ho,r⟩,_⟩:=id I.loc
 obtain ⟨sl,hL⟩:=u.any ho I.free fun z=>(hch _ z).2.1 rfl
 exact I.step (ch:=ch) hch (fun b o hL hb hc e n=>u.keep b o e n (fun z=>(List.mem_cons.mp (I.sV b z)).elim hL hb) hc) (fun b o _ _ hc e n=>u.any e n hc) (fun b o hc e n=>u.free b o e n hc) (fun b o hc e=>u.there b o e hc) u.p7 u.mK u.ph (fun m' hm=>by
  obtain ⟨o',es',ep',ho',r'⟩:=hm
  rw [ho] at ho';cases ho'
  exact ⟨_,es',ep',hL,r'⟩) hok hg
theorem Inv.turned {t':Nat}{it:Addr} (I:Inv X pins σ H s) (k:∀b o,b ≠ it->s.heap.get? b=some o->h'.get? b=some o) (hn:H it=none) (hL:it ≠ X.env.locals)
  (h1:it ∈ X.ex \/ X.s₀.heap.objs.size <= it) (h2:∀x c,X.env.cells.lookup x=some c->c ≠ it) (h3:∀p ∈ X.pn ++ pins,p.1 ≠ it):Inv X pins σ H { s with heap:=h',toks:=t' }:=by
 have nit:∀b u,H b=some u->b ≠ it:=fun b u e z=>by rw [z,hn] at e;cases e
 refine I.step (g':=s.gens) (d':=s.drawn) (ch:=[it]) (fun b hb=>?_) (fun b o _ _ hc e _=>k b o (fun z=>hc (by simp [z])) e) (fun b o _ _ hc e _=>⟨o.slots,k b o (fun z=>hc (by simp [z])) e⟩) (fun _ _ _ _ n=>n)
  (fun b o hc e=>⟨o,k b o (fun z=>hc (by simp [z])) e⟩) (fun _ _ e=>e) (fun _ _ _ e=>e) (fun b ps e=>⟨#[],by rw [e];simp⟩) (fun m hm=>?_) (fun b u e=>?_) I.bare
 ·have e:b=it:=by simpa using hb
  subst e
  exact ⟨h1,hL,h2,h3⟩
 ·obtain ⟨o,es,ep,ho,r⟩:=hm
  exact ⟨o,es,ep,k _ o (Ne.symm hL) ho,r⟩
 ·refine (I.hok b u e).rP (fun c v hc q=>k c v ?_ q) (fun _ q=>q) fun _ _ q=>q
  rcases hc with z | z
  ·rw [z];exact nit b u e
  ·exact nit c _ z
theorem Inv.tok (I:Inv X pins σ H s) (t:Nat):Inv X pins σ H { s with toks:=t }:=I.un (h':=s.heap) (t':=t) Un.refl I.hok
theorem Inv.kept {t':Nat} (I:Inv X pins σ H s) (k:∀b u,s.heap.get? b=some u->h'.get? b=some u):Inv X pins σ H { s with heap:=h',toks:=t' }:=I.un (Un.kept k) (I.hok.kept k)
theorem Inv.laid {a:Addr}{o:HO}{t':Nat} (I:Inv X pins σ H s) (k:∀b u,s.heap.get? b=some u->h'.get? b=some u) (hp:s.heap.objs.size <= a) (new:bI X.prog X.w (upd H a o) h' a o) :
  Inv X pins σ (upd H a o) { s with heap:=h',toks:=t' }:=I.un (Un.laid k hp (I.hok.fresh hp)) (I.hok.laid k hp new)
theorem Inv.write {x e:Addr}{o:HO}{t':Nat} (I:Inv X pins σ H s) (mu:Mut (H x)) (he:e=x \/ H e=some (.own x)) (k:∀b u,b ≠ e->s.heap.get? b=some u->h'.get? b=some u) (heo:∃u,h'.get? e=some u)
  (new:bI X.prog X.w (upd H x o) h' x o):Inv X pins σ (upd H x o) { s with heap:=h',toks:=t' }:=I.un (Un.write mu he k heo) (I.hok.write mu he k heo new)
theorem Inv.p9 {pins':List (Addr × Obj)} (I:Inv X pins σ H s) (h:∀p ∈ pins',s.heap.get? p.1=some p.2/\H p.1=none/\p.1 ≠ X.env.locals/\p.1 ∉ X.fs/\∀v,p.2.data ≠ .cell v):Inv X pins' σ H s :=
 ⟨I.ok,I.os,I.bare,I.base,I.loc,I.cell,I.free,I.ib,fun p hp=>(List.mem_append.mp hp).elim (fun z=>I.pin p (List.mem_append_left _ z)) (h p),I.hok,I.len⟩
theorem qJ {N:List Str} (hN:N.Nodup) {i j:Nat}{x:Str} (a:N[i]?=some x) (b:N[j]?=some x):i=j:=by
 obtain ⟨h1,e1⟩:=List.getElem?_eq_some_iff.mp a
 obtain ⟨h2,e2⟩:=List.getElem?_eq_some_iff.mp b
 exact (List.getElem_inj hN).mp (e1.trans e2.symm)
theorem ve {M:Model}{A:Around}{E:Value->Shared->Prop}{i:Nat}{x:Str}{v:V}{u:Value}{Q:Unit->Shared->Prop} (I:Inv X pins σ H s) (hN:X.N.Nodup) (hi:X.N[i]?=some x) (hx:Loc X.env.scope x) (r:RelV v u)
  (h:∀s',Inv X pins (σ.set i (some v)) H s'->(∃a,Heap.SameBut a s.heap s'.heap/\(a=X.env.locals \/ X.env.cells.lookup x=some a))->Q () s') (hf:X.fn x=true \/ X.env.scope.names.lookup x=some .local:=by first | exact .inl rfl | exact .inr rfl | assumption):wpAny M A (storeName X.env x u) Q E s:=by
 obtain ⟨m,hn,hl⟩:=id I.loc
 have hcls:(X.env.scope.kind == .class || (X.env.scope.kind == .module && X.env.locals != X.env.globals))=false:=by rw [I.ok.kind];rfl
 have hiσ:i < σ.length:=by rw [I.len];exact (List.getElem?_eq_some_iff.mp hi).1
 have cne:=I.cne
 have tracked:∀{a:Addr}{h':Heap},(∃o,s.heap.get? a=some o/\H a=none)->Heap.SameBut a s.heap h'->HOk X.prog X.w H h':=fun {a h'} ha hs b ob e=>by
  obtain ⟨_,_,hfree⟩:=ha
  refine (I.hok b ob e).rP (fun c w' hc q=>(hs.2 c ?_).trans q) (fun _ q=>q) fun _ _ q=>q
  rintro rfl
  rcases hc with rfl | hc
  ·rw [hfree] at e;cases e
  ·rw [hfree] at hc;cases hc
 rcases hx with hk | hk
 ·refine wpAny_storeName_local hk hn (fun h' hn' hs=>?_) hcls
  obtain ⟨oL,_,_,hoL,_⟩:=id hn
  refine h _ ⟨I.ok,I.os,I.bare,⟨fun b o e n hb hx=>?_,fun b o e n hb hx=>?_,I.base.free,fun b o e hx=>?_,I.base.p7,I.base.mK,I.base.ph⟩,⟨_,hn',fun j y v' e1 e2 e3=>?_⟩,fun y c e=>?_,I.free,I.ib,fun p hp=>?_,tracked ⟨oL,hoL,I.free⟩ hs,by simpa using I.len⟩ ⟨_,hs,.inl rfl⟩
  ·exact (hs.2 b (Nat.ne_of_lt (Nat.lt_of_lt_of_le (Heap.lt_size e) I.ok.above))).trans (I.base.keep b o e n hb hx)
  ·obtain ⟨sl,e1⟩:=I.base.slot b o e n hb hx
   exact ⟨sl,(hs.2 b (Nat.ne_of_lt (Nat.lt_of_lt_of_le (Heap.lt_size e) I.ok.above))).trans e1⟩
  ·obtain ⟨o',e1⟩:=I.base.there b o e hx
   exact ⟨o',(hs.2 b (Nat.ne_of_lt (Nat.lt_of_lt_of_le (Heap.lt_size e) I.ok.above))).trans e1⟩
  ·by_cases hj:j=i
   ·subst hj
    rw [hi] at e1;cases e1
    rw [List.getElem?_set_self hiσ] at e2
    cases e2
    exact ⟨u,r,.inl ⟨hk,by simp⟩⟩
   ·rw [List.getElem?_set_ne (Ne.symm hj)] at e2
    obtain ⟨u',r',q⟩:=hl j y v' e1 e2 e3
    refine ⟨u',r',?_⟩
    rcases q with ⟨k,e⟩ | ⟨k,c,e,z⟩
    ·refine .inl ⟨k,?_⟩
     have:y ≠ x:=fun e=>hj (qJ hN e1 (e ▸ hi))
     simp [this,e]
    ·exact .inr ⟨k,c,e,z.sameBut hs (cne y c e)⟩
  ·obtain ⟨w',z⟩:=I.cell y c e
   exact ⟨w',z.sameBut hs (cne y c e)⟩
  ·obtain ⟨e,n,ne,nf,d⟩:=I.pin p hp
   exact ⟨(hs.2 p.1 ne).trans e,n,ne,nf,d⟩
 ·have hfn:X.fn x=true:=by
   rcases hf with z | z
   ·exact z
   ·rw [z] at hk;cases hk
  obtain ⟨c,hc⟩:=I.ok.has x (.inl hk)
  obtain ⟨w',z⟩:=I.cell x c hc
  refine wpAny_storeName_cell I.ok.kind hk hc z (fun h' hc' hs=>?_)
  obtain ⟨oc,hoc,hocd⟩:=id z
  refine h { s with heap:=h' } ⟨I.ok,I.os,I.bare,⟨fun b o e n hb hx=>?_,fun b o e n hb hx=>?_,I.base.free,fun b o e hx=>?_,I.base.p7,I.base.mK,I.base.ph⟩,⟨m,hn.sameBut hs (Ne.symm (cne x c hc)),fun j y v' e1 e2 e3=>?_⟩,fun y c' e=>?_,I.free,I.ib,fun p hp=>?_,tracked ⟨oc,hoc,I.ib x c hc⟩ hs,by simpa using I.len⟩ ⟨c,hs,.inr hc⟩
  ·exact (hs.2 b (Nat.ne_of_lt (Nat.lt_of_lt_of_le (Heap.lt_size e) (I.ok.cab x c hfn hc)))).trans (I.base.keep b o e n hb hx)
  ·obtain ⟨sl,e1⟩:=I.base.slot b o e n hb hx
   exact ⟨sl,(hs.2 b (Nat.ne_of_lt (Nat.lt_of_lt_of_le (Heap.lt_size e) (I.ok.cab x c hfn hc)))).trans e1⟩
  ·obtain ⟨o',e1⟩:=I.base.there b o e hx
   exact ⟨o',(hs.2 b (Nat.ne_of_lt (Nat.lt_of_lt_of_le (Heap.lt_size e) (I.ok.cab x c hfn hc)))).trans e1⟩
  ·by_cases hj:j=i
   ·subst hj
    rw [hi] at e1;cases e1
    rw [List.getElem?_set_self hiσ] at e2
    cases e2
    exact ⟨u,r,.inr ⟨.inl hk,c,hc,hc'⟩⟩
   ·rw [List.getElem?_set_ne (Ne.symm hj)] at e2
    obtain ⟨u',r',q⟩:=hl j y v' e1 e2 e3
    refine ⟨u',r',?_⟩
    rcases q with q | ⟨k,c',e,z'⟩
    ·exact .inl q
    ·refine .inr ⟨k,c',e,z'.sameBut hs ?_⟩
     rintro rfl
     exact hj (qJ hN e1 (I.ok.inj _ _ _ e hc ▸ hi))
  ·by_cases hcc:c'=c
   ·subst hcc;exact ⟨_,hc'⟩
   ·obtain ⟨w2,z2⟩:=I.cell y c' e
    exact ⟨w2,z2.sameBut hs hcc⟩
  ·obtain ⟨e,n,ne,nf,d⟩:=I.pin p hp
   refine ⟨(hs.2 p.1 ?_).trans e,n,ne,nf,d⟩
   intro q
   rw [q,hoc] at e
   have q':oc=p.2:=Option.some.inj e
   exact d w' (by rw [<- q'];exact hocd)
theorem qI {M:Model}{A:Around}{E:Value->Shared->Prop}{i:Nat}{x:Str}{v:V}{u:Value}{Q:Unit->Shared->Prop} (I:Inv X pins σ H s) (hN:X.N.Nodup) (hi:X.N[i]?=some x) (hx:Loc X.env.scope x) (r:RelV v u)
  (h:∀s',Inv X pins (σ.set i (some v)) H s'->Q () s') (hf:X.fn x=true \/ X.env.scope.names.lookup x=some .local:=by first | exact .inl rfl | exact .inr rfl | assumption):wpAny M A (storeName X.env x u) Q E s :=
 ve I hN hi hx r (fun s' I' _=>h s' I') hf
theorem Inv.BU {s':Shared}{ch:List Addr} (I:Inv X pins σ H s) (ho:s'.os=s.os) (u:Un (frs X.stack) ch H H' s.heap s'.heap) (hok:HOk X.prog X.w H' s'.heap) (hg:AllBare s'.gens)
  (hch:∀b ∈ ch,(b ∈ X.ex \/ X.s₀.heap.objs.size <= b)/\b ≠ X.env.locals/\(∀x c,X.env.cells.lookup x=some c->c ≠ b)/\∀p ∈ X.pn ++ pins,p.1 ≠ b):Inv X pins σ H' s':=by
 obtain ⟨h',g',d',t',o'⟩:=s'
 have e:o'=s.os:=ho
 subst e
 exact I.call (g':=g') (t':=t') (d':=d') u hok hg hch
end
abbrev XK:=Value->Option Addr->Hp->Prop
abbrev St:=List (Option V)
abbrev VK:=V->Hp->Prop
abbrev TE:=St->Hp->VK->Prop
abbrev TT:=St->Hp->(Bool->Hp->Prop)->Prop
abbrev TA:=St->Hp->(List V->Hp->Prop)->Prop
structure Ends where
 nx:St->Hp->Prop
 rt:VK
 bk:St->Hp->Prop:=fun _ _=>False
 ct:St->Hp->Prop:=fun _ _=>False
abbrev TS:=Ends->St->Hp->Prop
def EP (X:Cx) (pins:List (Addr × Obj)) (σ:St) (Q:VK) (u:Value) (s':Shared):Prop:=∃v H',Inv X pins σ H' s'/\RelV v u/\Q v H'
def TP (X:Cx) (pins:List (Addr × Obj)) (σ:St) (Q:Bool->Hp->Prop) (b:Bool) (s':Shared):Prop:=∃H',Inv X pins σ H' s'/\Q b H'
def AP (X:Cx) (pins:List (Addr × Obj)) (σ:St) (Q:List V->Hp->Prop) (us:List Value) (s':Shared):Prop:=∃vs H',Inv X pins σ H' s'/\Vals vs us/\Q vs H'
def SP (X:Cx) (pins:List (Addr × Obj)) (D:Ends) (f:Flow) (s':Shared):Prop :=
 match f with
 | .next=>∃σ' H',Inv X pins σ' H' s'/\D.nx σ' H'
 | .brk=>∃σ' H',Inv X pins σ' H' s'/\D.bk σ' H'
 | .cont=>∃σ' H',Inv X pins σ' H' s'/\D.ct σ' H'
 | .ret u=>∃v σ' H',Inv X pins σ' H' s'/\RelV v u/\D.rt v H'
def PE (X:Cx) (e:Expr) (t:TE):Prop :=
 ∀(pins:List (Addr × Obj)) (s:Shared) (σ:St) (H:Hp) (Q:VK),Inv X pins σ H s->t σ H Q->wpAny (model X.prog X.w) X.A (eval e X.env) (EP X pins σ Q) X.xe s
def PT (X:Cx) (e:Expr) (t:TT):Prop :=
 ∀(pins:List (Addr × Obj)) (s:Shared) (σ:St) (H:Hp) (Q:Bool->Hp->Prop),Inv X pins σ H s->t σ H Q->wpAny (model X.prog X.w) X.A (isTrue e X.env (eval e X.env)) (TP X pins σ Q) X.xe s
def PW (X:Cx) (e:Expr) (t:TT):Prop :=
 ∀(whole:Sem Value) (pins:List (Addr × Obj)) (s:Shared) (σ:St) (H:Hp) (Q:Bool->Hp->Prop),Inv X pins σ H s->t σ H Q->wpAny (model X.prog X.w) X.A (isTrue e X.env whole) (TP X pins σ Q) X.xe s
theorem PW.pt {X:Cx}{e:Expr}{t:TT} (h:PW X e t):PT X e t:=h _
def PA (X:Cx) (es:List Expr) (t:TA):Prop :=
 ∀(pos:Pos) (pins:List (Addr × Obj)) (s:Shared) (σ:St) (H:Hp) (Q:List V->Hp->Prop),Inv X pins σ H s->t σ H Q->wpAny (model X.prog X.w) X.A (spliced (backTo pos (starEach es X.env))) (AP X pins σ Q) X.xe s
def PS (X:Cx) (st:Stmt) (t:TS):Prop :=
 ∀(pins:List (Addr × Obj)) (s:Shared) (σ:St) (H:Hp) (D:Ends),Inv X pins σ H s->t D σ H->wpAny (model X.prog X.w) X.A (exec st X.env) (SP X pins D) X.xe s
def PSs (X:Cx) (st:List Stmt) (t:TS):Prop :=
 ∀(pins:List (Addr × Obj)) (s:Shared) (σ:St) (H:Hp) (D:Ends),Inv X pins σ H s->t D σ H->wpAny (model X.prog X.w) X.A (execs st X.env) (SP X pins D) X.xe s
theorem thn {α:Type}{t:Sem α}{Q Q':α->Shared->Prop}{M:Model}{A:Around}{E:Value->Shared->Prop}{s:Shared} (h:wpAny M A t Q E s) (hQ:∀a s,Q a s->Q' a s):wpAny M A t Q' E s:=wpAny_mono h hQ fun _ _ x=>x
end L2
namespace L2
open PySem PySem.Spec PyProof.Rows
section
variable {X:Cx}
def Du (i:Nat):TE:=fun σ H Q=>∃v,σ[i]?=some (some v)/\Q v H
def tC (v:V):TE:=fun _ H Q=>Q v H
theorem Ay {i:Nat}{x:Str}{pos:Pos} (hN:X.N[i]?=some x) (hv:Vis X.env.scope x) (hd:(x == ("__debug__":Str))=false:=by decide) (hcd:(x == ("__classdict__":Str))=false:=by decide):PE X (.Name x pos) (Du i):=by
 intro pins s σ H Q I h
 obtain ⟨v,e,h⟩:=h
 obtain ⟨m,hn,hl⟩:=I.loc
 obtain ⟨u,r,l⟩:=hl i x v hN e hv
 have fin:EP X pins σ Q u s:=⟨v,H,I,r,h⟩
 rcases l with ⟨hk,hm⟩ | ⟨hk,c,hc,hcell⟩
 ·exact wpAny_Name (wpAny_loadName_local I.ok.kind hk hn hm fin) hd
 ·rcases hk with hk | hk
  ·exact wpAny_Name (wpAny_loadName_cell I.ok.kind hk hc hcell fin) hd
  ·exact wpAny_Name (wpAny_loadName_free I.ok.kind hk hc hcell fin hcd) hd
theorem af {i j pos}:PE X (.Constant (.int i) j pos) (tC (.int i)):=fun _ _ _ H _ I h=>wpAny_Constant_int ⟨.int i,H,I.tok _,⟨_,rfl⟩,h⟩
theorem js {b j pos}:PE X (.Constant (.bool b) j pos) (tC (.bl b)):=fun _ _ _ H _ I h=>Constant_bool ⟨.bl b,H,I,rfl,h⟩
theorem iy {j pos}:PE X (.Constant .none j pos) (tC .non):=fun _ _ _ H _ I h=>Constant_none ⟨.non,H,I,rfl,h⟩
theorem aj {x j pos}:PE X (.Constant (.str x) j pos) (tC (.str x)):=fun _ _ _ H _ I h=>Calls.Constant_str ⟨.str x,H,I.tok _,⟨_,rfl⟩,h⟩
def Gl (X:Cx) (x:Str):Prop:=X.env.kindOf x=some .globalImplicit
theorem lY {E:Value->Shared->Prop}{pins:List (Addr × Obj)}{s:Shared}{σ:St}{H:Hp}{x:Str}{u:Value}{pos:Pos}{Q:Value->Shared->Prop} (I:Inv X pins σ H s) (hg:Gl X x) (hm:X.mg x=some u) (h:Q u s)
  (hd:(x == ("__debug__":Str))=false:=by decide):wpAny (model X.prog X.w) X.A (eval (.Name x pos) X.env) Q E s :=
 Calls.Name_function_global I.ok.kind hg (Calls.loadGlobal_global (by rw [I.ok.glob];exact I.mod.glob.keeps I.bk) hm h) hd
theorem pE {E:Value->Shared->Prop}{pins:List (Addr × Obj)}{s:Shared}{σ:St}{H:Hp}{x:Str}{u:Value}{pos:Pos}{Q:Value->Shared->Prop} (I:Inv X pins σ H s) (hg:Gl X x) (hm:X.mg x=none) (hv:bootBuiltins x=some u) (h:Q u s)
  (hn:x ≠ "__name__":=by decide) (hd:(x == ("__debug__":Str))=false:=by decide):wpAny (model X.prog X.w) X.A (eval (.Name x pos) X.env) Q E s:=by
 obtain ⟨mb,h1,h2⟩:=I.mod.blt
 exact Calls.Name_function_global I.ok.kind hg (Calls.loadGlobal_builtin (by rw [I.ok.glob];exact I.mod.glob.keeps I.bk) hm (by rw [I.ok.blt];exact h1.keeps I.bk) ((h2 x hn).trans hv) h) hd
theorem uJ {x:Str}{v:V}{u:Value}{pos:Pos} (hg:Gl X x) (hm:X.mg x=some u) (r:RelV v u) (hd:(x == ("__debug__":Str))=false:=by decide):PE X (.Name x pos) (tC v) :=
 fun _ _ _ H _ I h=>lY I hg hm ⟨v,H,I,r,h⟩ hd
theorem l8 {x:Str}{v:V}{u:Value}{pos:Pos} (hg:Gl X x) (hm:X.mg x=none) (hv:bootBuiltins x=some u) (r:RelV v u) (hn:x ≠ "__name__":=by decide) (hd:(x == ("__debug__":Str))=false:=by decide):PE X (.Name x pos) (tC v) :=
 fun _ _ _ H _ I h=>pE I hg hm hv ⟨v,H,I,r,h⟩ hn hd
variable {a b:Expr}{ta tb:TE}{pos:Pos}
variable {tA tB':TT}{rest:List Expr}
def C7 (t u:TT):TT:=fun σ H Q=>t σ H fun c H1=>if c=true then u σ H1 Q else Q false H1
def tOr (t u:TT):TT:=fun σ H Q=>t σ H fun c H1=>if c=true then Q true H1 else u σ H1 Q
def C5 (t:TT):TT:=fun σ H Q=>t σ H fun c H1=>Q (!c) H1
theorem pw_and1 (ha:PT X a tA):PW X (.BoolOp .And [a] pos) tA:=by
 intro wh pins s σ H Q I h
 refine isTrue_and (thn (ha pins s σ H Q I h) fun c s1 e=>?_)
 cases c with
 | true=>exact isTrue_and_nil e
 | false=>exact e
theorem pw_or1 (ha:PT X a tA):PW X (.BoolOp .Or [a] pos) tA:=by
 intro wh pins s σ H Q I h
 refine isTrue_or (thn (ha pins s σ H Q I h) fun c s1 e=>?_)
 cases c with
 | false=>exact isTrue_or_nil e
 | true=>exact e
theorem pw_and (ha:PT X a tA) (hb:PW X (.BoolOp .And (b :: rest) pos) tB'):PW X (.BoolOp .And (a :: b :: rest) pos) (C7 tA tB'):=by
 intro wh pins s σ H Q I h
 refine isTrue_and (thn (ha pins s σ H _ I h) fun c s1 ⟨H1,I1,q1⟩=>?_)
 cases c with
 | true=>exact hb wh pins s1 σ H1 Q I1 q1
 | false=>exact ⟨H1,I1,q1⟩
theorem pw_or (ha:PT X a tA) (hb:PW X (.BoolOp .Or (b :: rest) pos) tB'):PW X (.BoolOp .Or (a :: b :: rest) pos) (tOr tA tB'):=by
 intro wh pins s σ H Q I h
 refine isTrue_or (thn (ha pins s σ H _ I h) fun c s1 ⟨H1,I1,q1⟩=>?_)
 cases c with
 | true=>exact ⟨H1,I1,q1⟩
 | false=>exact hb wh pins s1 σ H1 Q I1 q1
theorem kF (ha:PT X a tA):PT X (.UnaryOp .Not a pos) (C5 tA):=by
 intro pins s σ H Q I h
 exact isTrue_not (ha pins s σ H (fun c H1=>Q (!c) H1) I h)
def Dm (ta tb:TE):TE:=fun σ H Q=>ta σ H fun x H1=>∃c,x=.bl c/\if c=true then Q (.bl true) H1 else tb σ H1 Q
theorem Ae {op}{t:TE} (h:PE X a t):PE X (.BoolOp op [a] pos) t:=fun pins s σ H Q I hw=>BoolOp_one (h pins s σ H Q I hw)
theorem x9 (ha:PE X a ta) (hb:PE X (.BoolOp .Or (b :: rest) pos) tb):PE X (.BoolOp .Or (a :: b :: rest) pos) (Dm ta tb):=by
 intro pins s σ H Q I h
 refine BoolOp_or (thn (ha pins s σ H _ I h) fun v s1 ⟨x,H1,I1,r1,q1⟩=>?_)
 obtain ⟨c,rfl,q1⟩:=q1
 cases r1
 refine wpAny_truthy_bool ?_
 cases c with
 | false=>exact hb pins s1 σ H1 Q I1 q1
 | true=>exact ⟨.bl true,H1,I1,rfl,q1⟩
def tIf (t:TT) (ta tb:TE):TE:=fun σ H Q=>t σ H fun c H1=>if c=true then ta σ H1 Q else tb σ H1 Q
theorem wz {c:Expr} (hc:PT X c tA) (ha:PE X a ta) (hb:PE X b tb):PE X (.IfExp c a b pos) (tIf tA ta tb):=by
 intro pins s σ H Q I h
 refine wpAny_IfExp (thn (hc pins s σ H _ I h) fun d s1 ⟨H1,I1,q1⟩=>?_)
 cases d with
 | true=>exact ha pins s1 σ H1 Q I1 q1
 | false=>exact hb pins s1 σ H1 Q I1 q1
end
end L2
namespace L2
open PySem PySem.Spec PyProof.Rows
def SqL (K:W.Frag) (H:Hp) (a:Addr) (xs:List V):Prop :=
 Rd H a (.lst xs) \/
  ∃(o:Obj) (its:Array Value) (n:Nat),K.lookup a=some o/\o.cls=.type "list"/\o.dict=none/\o.data=.seq its n/\its.size <= sizeLine/\Vals xs its.toList
def SqT (K:W.Frag) (H:Hp) (a:Addr) (xs:List V):Prop :=
 Rd H a (.tup xs) \/
  ∃(o:Obj) (its:Array Value) (n:Nat),K.lookup a=some o/\o.cls=.type "tuple"/\o.data=.seq its n/\its.size <= sizeLine/\Vals xs its.toList
def Dk:Value->Option V
 | .none=>some .non
 | .bool b=>some (.bl b)
 | .int i _=>some (.int i)
 | .str x _=>some (.str x)
 | .bytes b _=>some (.byt b)
 | .float b _=>some (.flt b)
 | .ref a=>some (.ref a)
 | .type n=>some (.ty n)
 | _=>none
theorem RelV.abs {x:V}{u:Value} (r:RelV x u):Dk u=some x:=by
 cases x with
 | non=>cases r;rfl
 | bl _=>cases r;rfl
 | int _=>obtain ⟨t,rfl⟩:=r;rfl
 | str _=>obtain ⟨t,rfl⟩:=r;rfl
 | byt _=>obtain ⟨t,rfl⟩:=r;rfl
 | flt _=>obtain ⟨t,rfl⟩:=r;rfl
 | ref _=>cases r;rfl
 | ty _=>cases r;rfl
theorem RelV.inj {x y:V}{u:Value} (r:RelV x u) (q:RelV y u):x=y:=Option.some.inj (r.abs.symm.trans q.abs)
theorem Vals.inj:∀{xs ys:List V}{us:List Value},Vals xs us->Vals ys us->xs=ys
 | _,_,_,.nil,.nil=>rfl
 | _,_,_,.cons r t,.cons r' t'=>by rw [r.inj r',Vals.inj t t']
section
variable {X:Cx}{pins:List (Addr × Obj)}{σ:St}{H:Hp}{s:Shared}{a:Addr}{xs ys:List V}
theorem SqL.of {K:W.Frag} (h:H a=some (.lst xs)):SqL K H a xs:=.inl (.inl h)
theorem SqT.of {K:W.Frag} (h:H a=some (.tup xs)):SqT K H a xs:=.inl (.inl h)
theorem Inv.list (I:Inv X pins σ H s) (h:SqL X.K H a xs):∃its:List Value,Vals xs its/\PlainL s.heap a its.toArray/\xs.length <= sizeLine:=by
 rcases h with h | ⟨o,its,n,hk,hc,hd,hs,hz,r⟩
 ·obtain ⟨z,its,n,r,e⟩:=h.ok I.hok
  exact ⟨its,r,⟨_,n,e,rfl,rfl,rfl⟩,z⟩
 ·refine ⟨its.toList,r,⟨o,n,I.kIn a o hk,hc,hd,by simpa using hs⟩,?_⟩
  have e:=r.length
  simp only [Array.length_toList] at e
  omega
theorem Inv.tuple (I:Inv X pins σ H s) (h:SqT X.K H a xs):∃its:List Value,Vals xs its/\IsTup s.heap a its.toArray/\xs.length <= sizeLine:=by
 rcases h with h | ⟨o,its,n,hk,hc,hs,hz,r⟩
 ·obtain ⟨z,its,r,p⟩:=h.ok I.hok
  exact ⟨its,r,p,z⟩
 ·refine ⟨its.toList,r,⟨o,I.kIn a o hk,hc,n,by simpa using hs⟩,?_⟩
  have e:=r.length
  simp only [Array.length_toList] at e
  omega
theorem Inv.yh (I:Inv X pins σ H s) (h:SqL X.K H a xs) (h':SqL X.K H a ys):xs=ys:=by
 obtain ⟨its,r,⟨o,n,e,_,_,d⟩,_⟩:=I.list h
 obtain ⟨its',r',⟨o',n',e',_,_,d'⟩,_⟩:=I.list h'
 rw [e] at e';cases e'
 rw [d] at d'
 injection d' with d1 _
 have:its=its':=by simpa using congrArg Array.toList d1
 subst this
 exact r.inj r'
theorem Inv.vb (I:Inv X pins σ H s) (h:SqT X.K H a xs) (h':SqT X.K H a ys):xs=ys:=by
 obtain ⟨its,r,⟨o,e,_,n,d⟩,_⟩:=I.tuple h
 obtain ⟨its',r',⟨o',e',_,n',d'⟩,_⟩:=I.tuple h'
 rw [e] at e';cases e'
 rw [d] at d'
 injection d' with d1 _
 have:its=its':=by simpa using congrArg Array.toList d1
 subst this
 exact r.inj r'
end
abbrev Cx.nJ (X:Cx) (E:Value->Shared->Prop):Cx:={ X with xe:=E }
abbrev Cx.nox (X:Cx):Cx:=X.nJ fun _ _=>False
theorem Cx.Ok.nJ {X:Cx} (ok:X.Ok) (E:Value->Shared->Prop):(X.nJ E).Ok :=
 ⟨ok.mod,ok.kind,ok.glob,ok.blt,ok.above,ok.inj,ok.has,ok.cab,ok.hd,ok.frames,ok.stk,ok.exf,ok.bs,ok.bsz,ok.wF,ok.xg,ok.lN,ok.frf⟩
theorem Cx.Ok.i4 {X:Cx}{E:Value->Shared->Prop} (ok:(X.nJ E).Ok):X.Ok :=
 ⟨ok.mod,ok.kind,ok.glob,ok.blt,ok.above,ok.inj,ok.has,ok.cab,ok.hd,ok.frames,ok.stk,ok.exf,ok.bs,ok.bsz,ok.wF,ok.xg,ok.lN,ok.frf⟩
section
variable {X:Cx}{pins:List (Addr × Obj)}{σ:St}{H:Hp}{s:Shared}{E:Value->Shared->Prop}
theorem Inv.nJ (I:Inv X pins σ H s) (E:Value->Shared->Prop):Inv (X.nJ E) pins σ H s:=⟨I.ok.nJ E,I.os,I.bare,I.base,I.loc,I.cell,I.free,I.ib,I.pin,I.hok,I.len⟩
theorem Inv.i4 (I:Inv (X.nJ E) pins σ H s):Inv X pins σ H s:=⟨I.ok.i4,I.os,I.bare,I.base,I.loc,I.cell,I.free,I.ib,I.pin,I.hok,I.len⟩
theorem SP.i4 {D:Ends}{f:Flow}{s':Shared} (h:SP (X.nJ E) pins D f s'):SP X pins D f s':=by
 cases f with
 | next=>obtain ⟨σ',H',I,q⟩:=h;exact ⟨σ',H',I.i4,q⟩
 | brk=>obtain ⟨σ',H',I,q⟩:=h;exact ⟨σ',H',I.i4,q⟩
 | cont=>obtain ⟨σ',H',I,q⟩:=h;exact ⟨σ',H',I.i4,q⟩
 | ret u=>obtain ⟨v,σ',H',I,r,q⟩:=h;exact ⟨v,σ',H',I.i4,r,q⟩
theorem PSs.nox {st:List Stmt}{t:TS} (h:PSs X.nox st t):PSs X st t:=fun pins s σ H D I hw =>
 wpAny_mono (h pins s σ H D (I.nJ _) hw) (fun _ _ q=>q.i4) fun _ _ z=>False.elim z
end
section
variable {X:Cx}{st:Stmt}{rest:List Stmt}{t u:TS}{e:Expr}{te:TE}{pos:Pos}
def BI:TS:=fun D σ H=>D.nx σ H
def Ci (t u:TS):TS:=fun D σ H=>t { D with nx:=u D } σ H
theorem aE:PSs X [] BI:=fun _ _ σ H _ I h=>wpAny_execs_nil ⟨σ,H,I,h⟩
theorem ab (h1:PS X st t) (h2:PSs X rest u):PSs X (st :: rest) (Ci t u):=by
 intro pins s σ H D I h
 refine wpAny_execs_cons (thn (h1 pins s σ H { D with nx:=u D } I h) fun f s1 q=>?_)
 cases f with
 | next =>
  obtain ⟨σ',H',I',q⟩:=q
  exact h2 pins s1 σ' H' D I' q
 | ret v=>exact q
 | brk=>exact q
 | cont=>exact q
theorem ai (h1:PS X st t):PSs X [st] t:=by
 intro pins s σ H D I h
 refine wpAny_execs_cons (thn (h1 pins s σ H D I h) fun f s1 q=>?_)
 cases f with
 | next=>exact wpAny_execs_nil q
 | ret v=>exact q
 | brk=>exact q
 | cont=>exact q
theorem Inv.quiet {pins:List (Addr × Obj)}{σ:St}{H:Hp}{s:Shared} (I:Inv X pins σ H s):interactive X.env=false:=by simp [interactive,I.ok.kind]
def Bz (te:TE):TS:=fun D σ H=>te σ H fun _ H1=>D.nx σ H1
theorem aD (he:PE X e te) (hs:swapsWith e none pos.line X.env=pure false:=by rfl):PS X (.Expr e pos) (Bz te):=by
 intro pins s σ H D I h
 exact wpAny_Expr_any (thn (he pins s σ H _ I h) fun v s1 ⟨x,H1,I1,r1,q1⟩=>⟨σ,H1,I1,q1⟩) I.quiet hs
def Dt (te:TE):TS:=fun D σ H=>te σ H D.rt
theorem aA (he:PE X e te):PS X (.Return (some e) pos) (Dt te):=by
 intro pins s σ H D I h
 exact wpAny_Return_some (thn (he pins s σ H _ I h) fun v s1 ⟨x,H1,I1,r1,q1⟩=>⟨x,σ,H1,I1,r1,q1⟩)
def Df (c:TT) (t u:TS):TS:=fun D σ H=>c σ H fun b H1=>if b=true then t D σ H1 else u D σ H1
theorem aS {c:Expr}{a b:List Stmt}{tc:TT} (hc:PT X c tc) (ha:PSs X a t) (hb:PSs X b u):PS X (.If c a b pos) (Df tc t u):=by
 intro pins s σ H D I h
 refine wpAny_If (thn (hc pins s σ H _ I h) fun d s1 ⟨H1,I1,q1⟩=>?_)
 cases d with
 | true=>exact ha pins s1 σ H1 D I1 q1
 | false=>exact hb pins s1 σ H1 D I1 q1
end
abbrev TG:=V->St->Hp->(St->Hp->Prop)->Prop
abbrev TGs:=List V->St->Hp->(St->Hp->Prop)->Prop
def PG (X:Cx) (target:Expr) (t:TG):Prop :=
 ∀(pins:List (Addr × Obj)) (s:Shared) (σ:St) (H:Hp) (v:V) (u:Value) (Q:St->Hp->Prop),Inv X pins σ H s->RelV v u->t v σ H Q ->
  wpAny (model X.prog X.w) X.A (assign target X.env u) (fun _ s'=>∃σ' H',Inv X pins σ' H' s'/\Q σ' H') X.xe s
def PGs (X:Cx) (ts:List Expr) (t:TGs):Prop :=
 ∀(pins:List (Addr × Obj)) (s:Shared) (σ:St) (H:Hp) (vs:List V) (us:List Value) (Q:St->Hp->Prop),Inv X pins σ H s->Vals vs us->t vs σ H Q ->
  wpAny (model X.prog X.w) X.A (assignInOrder ((assignEach ts X.env).map (·.2)) us) (fun _ s'=>∃σ' H',Inv X pins σ' H' s'/\Q σ' H') X.xe s
abbrev y6:=V->V->V->Hp->(Hp->Prop)->Prop
def xV (X:Cx) (t:y6):Prop :=
 ∀(pins:List (Addr × Obj)) (s:Shared) (σ:St) (H:Hp) (o i v:V) (ov iv u:Value) (Q:Hp->Prop),Inv X pins σ H s->RelV o ov->RelV i iv->RelV v u->t o i v H Q ->
  wpAny (model X.prog X.w) X.A (setItem ov iv u) (fun _ s'=>∃H',Inv X pins σ H' s'/\Q H') X.xe s
section
variable {X:Cx}{pos:Pos}
def jA (i:Nat):TG:=fun v σ H Q=>Q (σ.set i (some v)) H
theorem uX {i:Nat}{x:Str} (hN:X.N.Nodup) (hi:X.N[i]?=some x) (hx:Loc X.env.scope x) (hf:X.fn x=true \/ X.env.scope.names.lookup x=some .local:=by first | exact .inl rfl | exact .inr rfl | assumption):PG X (.Name x pos) (jA i):=by
 intro pins s σ H v u Q I r h
 exact wpAny_assign_Name (qI I hN hi hx r (fun s' I'=>⟨_,H,I',h⟩) hf)
def Dr:TGs:=fun vs σ H Q=>vs=[]/\Q σ H
def Cr (t:TG) (u:TGs):TGs:=fun vs σ H Q=>∃v r,vs=v :: r/\t v σ H fun σ' H'=>u r σ' H' Q
theorem fE:PGs X [] Dr:=by
 intro pins s σ H vs us Q I r h
 obtain ⟨e,h⟩:=h
 subst e
 cases r
 exact assignInOrder_nil ⟨σ,H,I,h⟩
theorem bf {e:Expr}{es:List Expr}{t:TG}{u:TGs} (h1:PG X e t) (h2:PGs X es u)
  (hs:(assignEach (e :: es) X.env).map (·.2)=assign e X.env :: (assignEach es X.env).map (·.2):=by rfl):PGs X (e :: es) (Cr t u):=by
 intro pins s σ H vs us Q I r h
 obtain ⟨v,vr,e1,h⟩:=h
 subst e1
 cases r with
 | cons r rr =>
  rw [hs]
  refine assignInOrder_cons (thn (h1 pins s σ H _ _ _ I r h) fun _ s1 ⟨σ1,H1,I1,q1⟩=>?_)
  exact h2 pins s1 σ1 H1 _ _ Q I1 rr q1
inductive Cj (K:W.Frag) (n:Nat) (v:V) (H:Hp) (R:List V->Prop):Prop
 | mk (a:Addr) (xs:List V) (h0:v=.ref a) (h1:SqT K H a xs) (h2:xs.length=n) (q:R xs):Cj K n v H R
def DK (K:W.Frag) (n:Nat) (t:TGs):TG:=fun v σ H Q=>Cj K n v H (fun xs=>t xs σ H Q)
theorem iu {es:List Expr}{k:Nat}{t:TGs}{n:Nat} (hc:X.calm=true) (h:PGs X es t)
  (hn:(assignEach es X.env).length=n:=by rfl) (hst:(assignEach es X.env).findIdx? (·.1)=none:=by rfl):PG X (.Tuple es k pos) (DK X.K n t):=by
 intro pins s σ H v u Q I r hw
 obtain ⟨a,xs,e1,hq,hl,hw⟩:=hw
 subst e1
 cases r
 obtain ⟨its,rv,ht,hz⟩:=I.tuple hq
 refine assign_Tuple_tuple (I.ok.hd hc) ht (by simp [hn,<- hl,rv.length]) hst fun h' hx=>?_
 have I1:Inv X pins σ H { s with heap:=h' }:=I.kept (t':=s.toks) fun b o e=>hx b o (Nat.ne_of_lt (Heap.lt_size e)) e
 exact h pins _ σ H xs _ Q I1 (by simpa using rv) hw
def CZ (to ti:TE) (t:y6):TG:=fun v σ H Q=>to σ H fun o H1=>ti σ H1 fun i H2=>t o i v H2 fun H3=>Q σ H3
theorem jL {o i:Expr}{to ti:TE}{t:y6} (ho:PE X o to) (hi:PE X i ti) (hs:xV X t)
  (ha:∀v,assign (.Subscript o i pos) X.env v=(do
   let ov <- holding [v] (eval o X.env)
   let iv <- holding [v,ov] (eval i X.env)
   standAt pos
   holding [v,ov,iv] (setItem ov iv v)
   release [v,ov,iv] []):=by intro _;rfl):PG X (.Subscript o i pos) (CZ to ti t):=by
 intro pins s σ H v u Q I r h
 rw [ha]
 refine wpAny_bind (wpAny_holding (thn (ho pins s σ H _ I h) fun ov s1 ⟨x,H1,I1,r1,q1⟩=>?_))
 refine wpAny_bind (wpAny_holding (thn (hi pins s1 σ H1 _ I1 q1) fun iv s2 ⟨y,H2,I2,r2,q2⟩=>?_))
 refine wpAny_bind (wpAny_standAt (wpAny_bind (wpAny_holding (thn (hs pins s2 σ H2 x y v ov iv u _ I2 r1 r2 r q2) fun _ s3 ⟨H3,I3,q3⟩=>?_))))
 exact wpAny_release ⟨σ,H3,I3,q3⟩
def yw (te:TE) (g:TG):TS:=fun D σ H=>te σ H fun x H1=>g x σ H1 D.nx
theorem cK {tg e:Expr}{te:TE}{g:TG} (he:PE X e te) (hg:PG X tg g) (hs:swapsWithSole [tg] e pos.line X.env=pure false:=by rfl) (hw:swappedStores [tg] e X.env=pure none:=by rfl)
  (h1:(assignEach [tg] X.env).map (·.2)=[assign tg X.env]:=by rfl):PS X (.Assign [tg] e pos) (yw te g):=by
 intro pins s σ H D I h
 refine wpAny_Assign_stores (thn (he pins s σ H _ I h) fun v s1 ⟨x,H1,I1,r1,q1⟩=>?_) hs hw
 rw [h1]
 exact thn (hg pins s1 σ H1 x v _ I1 r1 q1) fun _ s2 q=>q
theorem zY {i:Nat}{x:Str}{e:Expr}{te:TE}{pos':Pos} (hN:X.N.Nodup) (hi:X.N[i]?=some x) (hx:Loc X.env.scope x) (he:PE X e te) (hs:swapsWith e (some (.Name x pos')) pos.line X.env=pure false:=by rfl) (hf:X.fn x=true \/ X.env.scope.names.lookup x=some .local:=by first | exact .inl rfl | exact .inr rfl | assumption) :
  PS X (.Assign [.Name x pos'] e pos) (yw te (jA i)):=by
 intro pins s σ H D I h
 refine wpAny_Assign_Name (thn (he pins s σ H _ I h) fun v s1 ⟨y,H1,I1,r1,q1⟩=>?_) hs
 exact qI I1 hN hi hx r1 (fun s2 I2=>⟨_,H1,I2,q1⟩) hf
end
section
variable {X:Cx}{pos:Pos}
def Bn (c:TT) (tb:TS):TS:=fun D σ H=>∃W:Nat->St->Hp->Prop,(∃m,W m σ H)/\∀m σ H,W m σ H ->
 c σ H fun b H1=>if b=true then ∃N:St->Hp->Prop,(∀σ' H',N σ' H'->∃m',m' < m/\W m' σ' H')/\tb { D with nx:=N,ct:=N,bk:=D.nx } σ H1 else D.nx σ H1
theorem iI {c:Expr}{body:List Stmt}{tc:TT}{tb:TS} (hp:PassesOwn (model X.prog X.w) X.A X.env X.xe) (hc:PT X c tc) (hb:PSs X body tb):PS X (.While c body [] pos) (Bn tc tb):=by
 intro pins s σ H D I h
 obtain ⟨W,⟨m0,w0⟩,turn⟩:=h
 refine wpAny_While (codeAny_whileLoop (fun n s'=>∃σ' H',Inv X pins σ' H' s'/\W n σ' H') ?_ m0 ⟨σ,H,I,w0⟩)
 rintro n s1 ⟨σ1,H1,I1,w1⟩
 refine wpAny_passesOwn hp (thn (hc pins s1 σ1 H1 _ I1 (turn n σ1 H1 w1)) fun b s2 ⟨H2,I2,q2⟩=>?_)
 cases b with
 | true =>
  obtain ⟨N,hN,q2⟩:=q2
  rw [if_pos rfl]
  refine wpAny_passesOwn hp (thn (hb pins s2 σ1 H2 _ I2 q2) fun f s3 q3=>?_)
  cases f with
  | next =>
   obtain ⟨σ3,H3,I3,n3⟩:=q3
   obtain ⟨m',hm,w3⟩:=hN σ3 H3 n3
   exact ⟨m',hm,σ3,H3,I3,w3⟩
  | cont =>
   obtain ⟨σ3,H3,I3,n3⟩:=q3
   obtain ⟨m',hm,w3⟩:=hN σ3 H3 n3
   exact ⟨m',hm,σ3,H3,I3,w3⟩
  | brk=>exact q3
  | ret v=>exact q3
 | false =>
  rw [if_neg Bool.false_ne_true]
  exact wpAny_execs_nil ⟨σ1,H2,I2,q2⟩
end
structure It where
 go:Nat->Hp->Prop
 yld:Nat->Hp->V->Hp->Prop
 stop:Nat->Hp->Prop
def pD (X:Cx) (pins:List (Addr × Obj)) (H:Hp) (b:Addr):Prop :=
 H b=none/\b ≠ X.env.locals/\b ∉ X.fs/\(b ∈ X.ex \/ X.s₀.heap.objs.size <= b)/\(∀x c,X.env.cells.lookup x=some c->c ≠ b)/\∀p ∈ X.pn ++ pins,p.1 ≠ b
theorem Inv.vy {X:Cx}{pins:List (Addr × Obj)}{σ:St}{H H':Hp}{s:Shared}{b:Addr} (I:Inv X pins σ H s) (hb:s.heap.objs.size <= b) (hn:H' b=none):pD X pins H' b:=by
 refine ⟨hn,Nat.ne_of_gt (Nat.lt_of_lt_of_le I.lt hb),I.BH hb,.inr (Nat.le_trans I.sz hb),fun x c e z=>?_,fun p hp z=>?_⟩
 ·obtain ⟨v,q⟩:=I.cell x c e
  exact absurd (Nat.lt_of_lt_of_le q.lt (by rw [z];exact hb)) (Nat.lt_irrefl _)
 ·exact absurd (Nat.lt_of_lt_of_le (Heap.lt_size (I.pin p hp).1) (by rw [z];exact hb)) (Nat.lt_irrefl _)
structure Turn (P:Program) (w:World) (K:W.Frag) (tg:Expr) (J:It) (fp:List Addr) (it:Addr) (tn:Nat->Heap->Prop):Prop where
 mem:it ∈ fp
 obj:∀i h,tn i h->∀b ∈ fp,∃o,h.get? b=some o/\∀v,o.data ≠ .cell v
 keep:∀i h h',tn i h->(∀b ∈ fp,∀o,h.get? b=some o->h'.get? b=some o)->tn i h'
 item:∀(X:Cx),X.prog=P->X.w=w->X.K=K->X.calm=true->∀(i:Nat) (pins:List (Addr × Obj)) (s:Shared) (σ:St) (H:Hp) (E:Value->Shared->Prop),Inv X pins σ H s->(∀b ∈ fp,pD X pins H b)->tn i s.heap->J.go i H ->
  wpAny (model P w) X.A (pyNext (.ref it)) (fun r s1=>∃u,r=some u /\
   wpAny (model P w) X.A (letOwnedTupleGo tg (.ref it) u) (fun _ s2=>∃x H',Inv X pins σ H' s2/\RelV x u/\J.yld i H x H'/\tn (i + 1) s2.heap/\∀b ∈ fp,H' b=none) E s1) E s
 done:∀(X:Cx),X.prog=P->X.w=w->X.K=K->X.calm=true->∀(i:Nat) (pins:List (Addr × Obj)) (s:Shared) (σ:St) (H:Hp) (E:Value->Shared->Prop),Inv X pins σ H s->(∀b ∈ fp,pD X pins H b)->tn i s.heap->J.stop i H ->
  wpAny (model P w) X.A (pyNext (.ref it)) (fun r s1=>r=none/\Inv X pins σ H s1) E s
 self:∀(A:Around) (i:Nat) (s:Shared) (Q:Value->Shared->Prop) (E:Value->Shared->Prop),tn i s.heap->Q (.ref it) s->wpAny (model P w) A (pyIter (.ref it)) Q E s
abbrev TI:=St->Hp->(It->Hp->Prop)->Prop
def PIE (X:Cx) (pins:List (Addr × Obj)) (σ:St) (tg:Expr) (R:It->Hp->Prop) (itv:Value) (s2:Shared):Prop :=
 ∃(it:Addr) (fp:List Addr) (tn:Nat->Heap->Prop) (J:It) (H':Hp),itv=.ref it/\Inv X pins σ H' s2/\Turn X.prog X.w X.K tg J fp it tn/\tn 0 s2.heap/\(∀b ∈ fp,pD X pins H' b)/\R J H'
def PI (X:Cx) (tg iter:Expr) (wi:TI):Prop :=
 ∀(pins:List (Addr × Obj)) (s:Shared) (σ:St) (H:Hp) (R:It->Hp->Prop),Inv X pins σ H s->wi σ H R ->
  wpAny (model X.prog X.w) X.A (eval iter X.env) (fun v s1=>wpAny (model X.prog X.w) X.A (pyIter v) (PIE X pins σ tg R) X.xe s1) X.xe s
theorem qW {M:Model}{A:Around}{E:Value->Shared->Prop}{s:Shared}{tg:Expr}{it:Addr}{u:Value}{o:Obj}{n:String}{vs:Array Value}{Q:Unit->Shared->Prop} (ho:s.heap.get? it=some o) (hc:o.cls=.type n) (hd:o.data=.fields vs)
    (hn:["enumerate","zip","dict_itemiterator","dict_reverseitemiterator","odict_iterator","itertools.zip_longest","itertools.pairwise"].contains n=false) (hQ:Q () s):wpAny M A (letOwnedTupleGo tg (.ref it) u) Q E s:=by
  unfold letOwnedTupleGo
  cases tg <;> first
    | exact wpAny_pure hQ
    | (cases u <;> first
        | exact wpAny_pure hQ
        | (refine wpAny_bind (wpAny_load ho ?_)
           rw [hc,hd]
           show wpAny M A (if (["enumerate","zip","dict_itemiterator","dict_reverseitemiterator","odict_iterator","itertools.zip_longest","itertools.pairwise"].contains n && vs[0]? == some (rawInt _))=true then _ else _) Q E s
           rw [if_neg (by intro h;rw [hn,Bool.false_and] at h;cases h)]
           exact wpAny_pure hQ))
def Itl (K:W.Frag) (a:Addr):It :=
 ⟨fun i H=>∃xs x,SqL K H a xs/\xs[i]?=some x,fun i H x H'=>H'=H/\∀xs,SqL K H a xs->xs[i]?=some x,fun i H=>∃xs,SqL K H a xs/\xs.length <= i⟩
def Itt (K:W.Frag) (a:Addr):It :=
 ⟨fun i H=>∃xs x,SqT K H a xs/\xs[i]?=some x,fun i H x H'=>H'=H/\∀xs,SqT K H a xs->xs[i]?=some x,fun i H=>∃xs,SqT K H a xs/\xs.length <= i⟩
def Itr (lo:Int) (n:Nat):It:=⟨fun i _=>i < n,fun i H x H'=>H'=H/\x=.int (lo + i),fun i _=>n <= i⟩
theorem vJ {P:Program}{w:World}{K:W.Frag}{tg:Expr} (a it:Addr):Turn P w K tg (Itl K a) [it] it (fun i h=>h.IsListIter it a i) where
 mem:=by simp
 obj:=fun i h st b hb=>by
  have e:b=it:=by simpa using hb
  subst e
  obtain ⟨o,e,c,d⟩:=st
  exact ⟨o,e,fun v z=>by rw [d] at z;cases z⟩
 keep:=fun i h h' st k=>st.at fun o e=>k it (by simp) o e
 item:=by
  intro X hP hw hK hc i pins s σ H E I hf st hg
  subst hP hw hK
  obtain ⟨xs,x,hq,hx⟩:=hg
  obtain ⟨its,rv,p,hz⟩:=I.list hq
  obtain ⟨u,hu,ru⟩:=rv.get hx
  obtain ⟨f0,f1,f2,f3,f4,f5⟩:=hf it (by simp)
  refine wpAny_pyNext_list_item st p.isList (x:=u) (by simpa using hu) fun h' st' sb=>?_
  have I1:Inv X pins σ H { s with heap:=h' }:=I.turned (t':=s.toks) (fun b o hb e=>(sb.2 b hb).trans e) f0 f1 f3 f4 f5
  obtain ⟨o,e,c,d⟩:=id st'
  exact ⟨u,rfl,qW (s:={ s with heap:=h' }) e c d (by decide) ⟨x,H,I1,ru,⟨rfl,fun ys hy=>by rw [I.yh hy hq];exact hx⟩,st',fun b hb=>(hf b hb).1⟩⟩
 done:=by
  intro X hP hw hK hc i pins s σ H E I hf st hg
  subst hP hw hK
  obtain ⟨xs,hq,hx⟩:=hg
  obtain ⟨its,rv,p,hz⟩:=I.list hq
  obtain ⟨f0,f1,f2,f3,f4,f5⟩:=hf it (by simp)
  have hl:=rv.length
  exact wpAny_pyNext_list_end (I.ok.hd hc) st p.isList (by simp;omega) fun h' eb=>⟨rfl,I.turned (t':=s.toks) (fun b o hb e=>eb b o hb e) f0 f1 f3 f4 f5⟩
 self:=fun _ _ _ _ _ st h=>wpAny_pyIter_listiter st h
theorem sO {P:Program}{w:World}{K:W.Frag}{tg:Expr} (a it:Addr):Turn P w K tg (Itt K a) [it] it (fun i h=>h.IsTupleIter it a i) where
 mem:=by simp
 obj:=fun i h st b hb=>by
  have e:b=it:=by simpa using hb
  subst e
  obtain ⟨o,e,c,d⟩:=st
  exact ⟨o,e,fun v z=>by rw [d] at z;cases z⟩
 keep:=fun i h h' st k=>st.at fun o e=>k it (by simp) o e
 item:=by
  intro X hP hw hK hc i pins s σ H E I hf st hg
  subst hP hw hK
  obtain ⟨xs,x,hq,hx⟩:=hg
  obtain ⟨its,rv,p,hz⟩:=I.tuple hq
  obtain ⟨u,hu,ru⟩:=rv.get hx
  obtain ⟨f0,f1,f2,f3,f4,f5⟩:=hf it (by simp)
  refine wpAny_pyNext_tuple_item st (show s.heap.IsTuple a its.toArray from p) (x:=u) (by simpa using hu) fun h' st' sb=>?_
  have I1:Inv X pins σ H { s with heap:=h' }:=I.turned (t':=s.toks) (fun b o hb e=>(sb.2 b hb).trans e) f0 f1 f3 f4 f5
  obtain ⟨o,e,c,d⟩:=id st'
  exact ⟨u,rfl,qW (s:={ s with heap:=h' }) e c d (by decide) ⟨x,H,I1,ru,⟨rfl,fun ys hy=>by rw [I.vb hy hq];exact hx⟩,st',fun b hb=>(hf b hb).1⟩⟩
 done:=by
  intro X hP hw hK hc i pins s σ H E I hf st hg
  subst hP hw hK
  obtain ⟨xs,hq,hx⟩:=hg
  obtain ⟨its,rv,p,hz⟩:=I.tuple hq
  obtain ⟨f0,f1,f2,f3,f4,f5⟩:=hf it (by simp)
  have hl:=rv.length
  exact wpAny_pyNext_tuple_end (I.ok.hd hc) st (show s.heap.IsTuple a its.toArray from p) (by simp;omega) fun h' eb=>⟨rfl,I.turned (t':=s.toks) (fun b o hb e=>eb b o hb e) f0 f1 f3 f4 f5⟩
 self:=fun _ _ _ _ _ st h=>wpAny_pyIter_tupleiter st h
theorem sv {P:Program}{w:World}{K:PySem.W.Frag}{tg:Expr} (it:Addr) (lo:Int) (n:Nat):Turn P w K tg (Itr lo n) [it] it (fun i h=>IsRangeIter h it (lo + (i:Nat) * 1) ((n:Int) - (i:Nat)) 1) where
 mem:=by simp
 obj:=fun i h st b hb=>by
  have e:b=it:=by simpa using hb
  subst e
  exact ⟨_,st,fun v z=>by
   have z':Data.fields _=Data.cell v:=z
   cases z'⟩
 keep:=fun i h h' st k=>k it (by simp) _ st
 item:=by
  intro X hP hw hK hc i pins s σ H E I hf st hg
  subst hP hw hK
  obtain ⟨f0,f1,f2,f3,f4,f5⟩:=hf it (by simp)
  have W:=Walks.range (prog:=X.prog) (w:=X.w) (I.ok.hd hc) it lo 1 n
  refine W.item i s _ _ hg st fun v h' tk hv st' kk=>?_
  obtain ⟨t,rfl⟩:=hv
  have I1:Inv X pins σ H { s with heap:=h',toks:=tk }:=I.turned (fun b o hb e=>kk b o (by simpa using hb) e) f0 f1 f3 f4 f5
  refine ⟨_,rfl,qW (s:={ s with heap:=h',toks:=tk }) (n:="range_iterator") st' rfl rfl (by decide) ⟨.int (lo + i),H,I1,⟨t,?_⟩,⟨rfl,rfl⟩,st',fun b hb=>(hf b hb).1⟩⟩
  rw [Int.mul_one]
 done:=by
  intro X hP hw hK hc i pins s σ H E I hf st hg
  subst hP hw hK
  obtain ⟨f0,f1,f2,f3,f4,f5⟩:=hf it (by simp)
  exact wpAny_pyNext_range_end (I.ok.hd hc) st (by have:n <= i:=hg;omega) fun h' eb=>⟨rfl,I.turned (t':=s.toks) (fun b o hb e=>eb b o hb e) f0 f1 f3 f4 f5⟩
 self:=fun _ _ _ _ _ st h=>wpAny_pyIter_rangeiter st h
end L2
namespace L2
open PySem PySem.Spec PyProof.Rows
section
variable {X:Cx}{tg:Expr}
theorem wt {pins:List (Addr × Obj)}{σ:St}{H:Hp}{s:Shared}{R:It->Hp->Prop}{E:Value->Shared->Prop}{lo hi:Int}{t u v:Tok}{tk:Nat} (I:Inv X pins σ H s) (h1:-(2 ^ 62) <= lo) (h2:lo < 2 ^ 62) (h3:-(2 ^ 62) <= hi) (h4:hi < 2 ^ 62)
  (q:R (Itr lo (hi - lo).toNat) H):wpAny (model X.prog X.w) X.A (pyIter (.ref s.heap.objs.size)) (PIE X pins σ tg R) E { s with heap:=s.heap.push { cls:=.type "range",data:=.fields #[.int lo t,.int hi u,.int 1 v] },toks:=tk }:=by
 refine wpAny_pyIter_range (IsRange.new ..) (small_one h1 h2 h3 h4) ?_
 have I1:Inv X pins σ H { s with heap:=s.heap.push { cls:=.type "range",data:=.fields #[.int lo t,.int hi u,.int 1 v] },toks:=tk }:=I.kept fun b o e=>Heap.get?_push_of_some _ e
 refine ⟨(s.heap.push { cls:=.type "range",data:=.fields #[.int lo t,.int hi u,.int 1 v] }).objs.size,[(s.heap.push { cls:=.type "range",data:=.fields #[.int lo t,.int hi u,.int 1 v] }).objs.size],_,_,H,rfl,
  I1.kept (t':=tk) fun b o e=>Heap.get?_push_of_some _ e,sv _ lo (hi - lo).toNat,?_,fun b hb=>?_,q⟩
 ·have e1:lo + ((0:Nat):Int) * 1=lo:=by simp
  have e2:(((hi - lo).toNat:Nat):Int) - ((0:Nat):Int)=Builtin.Range.rangeSize lo hi 1:=by rw [rangeSize_one];split <;> omega
  show IsRangeIter _ _ (lo + ((0:Nat):Int) * 1) ((((hi - lo).toNat:Nat):Int) - ((0:Nat):Int)) 1
  rw [e1,e2]
  exact Heap.get?_push_size _ rfl
 ·have e:b=(s.heap.push { cls:=.type "range",data:=.fields #[.int lo t,.int hi u,.int 1 v] }).objs.size:=by simpa using hb
  subst e
  exact I1.vy (Nat.le_refl _) (I1.hok.fresh (Nat.le_refl _))
inductive BB (vs:List V) (H:Hp) (R:It->Hp->Prop):Prop
 | mk (j:Int) (h0:vs=[.int j]) (h1:-(2 ^ 62) <= j) (h2:j < 2 ^ 62) (q:R (Itr 0 j.toNat) H):BB vs H R
def BR (ta:TA):TI:=fun σ H R=>ta σ H fun vs H1=>BB vs H1 R
theorem bK {a:Expr}{ta:TA}{p pos:Pos} (hg:Gl X "range") (hm:X.mg "range"=none) (ha:PA X [a] ta) (hs:starEach [a] X.env=[(false,eval a X.env)]:=by rfl):PI X tg (.Call (.Name "range" p) [a] [] pos) (BR ta):=by
 intro pins s σ H R I h
 refine Call_ (pE I hg hm boot_range (PyProof.Rows.callWith_type1 (thn (ha pos pins s σ H _ I h) fun us s1 ⟨vs,H1,I1,r1,q1⟩=>?_) hs rfl))
 obtain ⟨j,e,q1,q2,q⟩:=q1
 subst e
 cases r1 with
 | cons r rr =>
  cases rr
  obtain ⟨t,rfl⟩:=r
  exact call_range_1 (wt I1 (by omega) (by omega) q1 q2 (by simpa using q))
def Ds (wi:TI) (g:TG) (tb:TS):TS:=fun D σ H=>wi σ H fun J H1=>∃W:Nat->Nat->St->Hp->Prop,(∃m,W 0 m σ H1)/\∀i m σ H,W i m σ H ->
 (J.stop i H/\D.nx σ H) \/ (J.go i H/\∃N:St->Hp->Prop,(∀σ' H',N σ' H'->∃m',m' < m/\W (i + 1) m' σ' H')/\∀x H',J.yld i H x H'->g x σ H' fun σ2 H2=>tb { D with nx:=N,ct:=N,bk:=D.nx } σ2 H2)
def mJ (fp:List Addr) (h:Heap):List (Addr × Obj):=fp.filterMap fun b=>(h.get? b).map fun o=>(b,o)
theorem gH {fp:List Addr}{h:Heap}{b:Addr}{o:Obj} (hb:b ∈ fp) (e:h.get? b=some o):(b,o) ∈ mJ fp h:=List.mem_filterMap.mpr ⟨b,hb,by rw [e];rfl⟩
theorem vO {fp:List Addr}{h:Heap}{p:Addr × Obj} (hp:p ∈ mJ fp h):p.1 ∈ fp/\h.get? p.1=some p.2:=by
 obtain ⟨b,hb,e⟩:=List.mem_filterMap.mp hp
 cases q:h.get? b with
 | none=>rw [q] at e;cases e
 | some o =>
  rw [q] at e
  have e':(b,o)=p:=Option.some.inj e
  subst e'
  exact ⟨hb,q⟩
theorem Inv.pinned {pins:List (Addr × Obj)}{σ:St}{H:Hp}{s:Shared}{fp:List Addr} (I:Inv X pins σ H s) (hf:∀b ∈ fp,pD X pins H b) (ho:∀b ∈ fp,∃o,s.heap.get? b=some o/\∀v,o.data ≠ .cell v):Inv X (pins ++ mJ fp s.heap) σ H s :=
 I.p9 fun p hp=>(List.mem_append.mp hp).elim (fun z=>I.pin p (List.mem_append_right _ z)) fun z=>by
  obtain ⟨hb,e⟩:=vO z
  obtain ⟨f0,f1,f2,_⟩:=hf p.1 hb
  obtain ⟨o,e',d⟩:=ho p.1 hb
  rw [e] at e';cases e'
  exact ⟨e,f0,f1,f2,d⟩
theorem Inv.ir {pins pl:List (Addr × Obj)}{σ:St}{H:Hp}{s:Shared} (I:Inv X (pins ++ pl) σ H s):Inv X pins σ H s:=I.p9 fun p hp=>I.pin p (List.mem_append_right _ (List.mem_append_left _ hp))
theorem cD {iter:Expr}{body:List Stmt}{wi:TI}{g:TG}{tb:TS}{pos:Pos} (hp:PassesOwn (model X.prog X.w) X.A X.env X.xe) (hc:X.calm=true) (hi:PI X tg iter wi) (hg:PG X tg g) (hb:PSs X body tb)
  (hs:∀x,foldedSetIterable iter X.env x=pure x:=by intro _;rfl):PS X (.For tg iter body [] pos) (Ds wi g tb):=by
 intro pins s σ H D I h
 refine wpAny_For (thn (hi pins s σ H _ I h) fun v s1 h1=>thn h1 fun itv s2 h2=>?_) hs
 obtain ⟨it,fp,tn,J,H2,e,I2,T,st2,f2,W,⟨m0,w0⟩,turn⟩:=h2
 subst e
 have stat:∀{H':Hp},(∀b ∈ fp,H' b=none)->∀b ∈ fp,pD X pins H' b:=fun hn b hb=>⟨hn b hb,(f2 b hb).2⟩
 refine codeAny_forLoop_any (fun n s'=>∃i σ' H',Inv X pins σ' H' s'/\tn i s'.heap/\(∀b ∈ fp,H' b=none)/\W i n σ' H') ?_ m0 ⟨0,σ,H2,I2,st2,fun b hb=>(f2 b hb).1,w0⟩
 rintro n s3 ⟨i,σ3,H3,I3,st3,fr3,w3⟩
 rcases turn i n σ3 H3 w3 with ⟨stop,qn⟩ | ⟨go,N,hN,step⟩
 ·refine wpAny_passesOwn hp (thn (T.done X rfl rfl rfl hc i pins s3 σ3 H3 X.xe I3 (stat fr3) st3 stop) fun r s4 ⟨hr,I4⟩=>?_)
  subst hr
  exact wpAny_execs_nil ⟨σ3,H3,I4,qn⟩
 ·refine wpAny_passesOwn hp (thn (T.item X rfl rfl rfl hc i pins s3 σ3 H3 X.xe I3 (stat fr3) st3 go) fun r s4 ⟨u,hr,h4⟩=>?_)
  subst hr
  refine wpAny_passesOwn hp (thn h4 fun _ s5 ⟨x,H5,I5,r5,y5,st5,fr5⟩=>?_)
  have I5':=I5.pinned (stat fr5) (T.obj _ _ st5)
  refine wpAny_passesOwn hp (thn (hg _ s5 σ3 H5 x u _ I5' r5 (step x H5 y5)) fun _ s6 ⟨σ6,H6,I6,q6⟩=>?_)
  refine wpAny_passesOwn hp (thn (hb _ s6 σ6 H6 _ I6 q6) fun f s7 q7=>?_)
  have again:∀{σ7:St}{H7:Hp},Inv X (pins ++ mJ fp s5.heap) σ7 H7 s7->N σ7 H7->∃m,m < n/\∃i σ' H',Inv X pins σ' H' s7/\tn i s7.heap/\(∀b ∈ fp,H' b=none)/\W i m σ' H':=fun {σ7 H7} I7 n7=>by
   obtain ⟨m',hm,w7⟩:=hN σ7 H7 n7
   refine ⟨m',hm,i + 1,σ7,H7,I7.ir,T.keep _ _ _ st5 fun b hb o e=>(I7.pin (b,o) (List.mem_append_right _ (List.mem_append_right _ (gH hb e)))).1,fun b hb=>?_,w7⟩
   obtain ⟨o,e,d⟩:=T.obj _ _ st5 b hb
   exact (I7.pin (b,o) (List.mem_append_right _ (List.mem_append_right _ (gH hb e)))).2.1
  cases f with
  | next=>obtain ⟨σ7,H7,I7,n7⟩:=q7;exact again I7 n7
  | cont=>obtain ⟨σ7,H7,I7,n7⟩:=q7;exact again I7 n7
  | brk=>obtain ⟨σ7,H7,I7,q7⟩:=q7;exact ⟨σ7,H7,I7.ir,q7⟩
  | ret v=>obtain ⟨x7,σ7,H7,I7,r7,q7⟩:=q7;exact ⟨x7,σ7,H7,I7.ir,r7,q7⟩
end
theorem gp {K:PySem.W.Frag}{a:Addr}{xs:List V}{g:TG}{tb:TS}{D:Ends}{σ:St}{H:Hp} (Pv:Nat->St->Hp->Prop) (h0:Pv 0 σ H) (hl:∀i σ H,i <= xs.length->Pv i σ H->SqL K H a xs)
  (hs:∀i x σ H,xs[i]?=some x->Pv i σ H->g x σ H fun σ2 H2=>tb { D with nx:=Pv (i + 1),ct:=Pv (i + 1),bk:=D.nx } σ2 H2) (hd:∀σ H,Pv xs.length σ H->D.nx σ H) :
  ∃W:Nat->Nat->St->Hp->Prop,(∃m,W 0 m σ H)/\∀i m σ H,W i m σ H ->
   ((Itl K a).stop i H/\D.nx σ H) \/ ((Itl K a).go i H/\∃N:St->Hp->Prop,(∀σ' H',N σ' H'->∃m',m' < m/\W (i + 1) m' σ' H')/\∀x H',(Itl K a).yld i H x H'->g x σ H' fun σ2 H2=>tb { D with nx:=N,ct:=N,bk:=D.nx } σ2 H2):=by
 refine ⟨fun i m σ H=>m=xs.length - i/\i <= xs.length/\Pv i σ H,⟨xs.length,by simp,Nat.zero_le _,h0⟩,?_⟩
 rintro i m σ H ⟨rfl,hi,p⟩
 have q:=hl i σ H hi p
 by_cases hlt:i < xs.length
 ·refine .inr ⟨⟨xs,xs[i],q,by simp [hlt]⟩,Pv (i + 1),fun σ' H' p'=>⟨xs.length - (i + 1),by omega,rfl,hlt,p'⟩,fun x H' y=>?_⟩
  obtain ⟨e,y⟩:=y
  subst e
  exact hs i x σ _ (y xs q) p
 ·have e:i=xs.length:=by omega
  subst e
  exact .inl ⟨⟨xs,q,Nat.le_refl _⟩,hd σ H p⟩
theorem cL {lo:Int}{n:Nat}{g:TG}{tb:TS}{D:Ends}{σ:St}{H:Hp} (Pv:Nat->St->Hp->Prop) (h0:Pv 0 σ H)
  (hs:∀i σ H,i < n->Pv i σ H->g (.int (lo + i)) σ H fun σ2 H2=>tb { D with nx:=Pv (i + 1),ct:=Pv (i + 1),bk:=D.nx } σ2 H2) (hd:∀σ H,Pv n σ H->D.nx σ H) :
  ∃W:Nat->Nat->St->Hp->Prop,(∃m,W 0 m σ H)/\∀i m σ H,W i m σ H ->
   ((Itr lo n).stop i H/\D.nx σ H) \/ ((Itr lo n).go i H/\∃N:St->Hp->Prop,(∀σ' H',N σ' H'->∃m',m' < m/\W (i + 1) m' σ' H')/\∀x H',(Itr lo n).yld i H x H'->g x σ H' fun σ2 H2=>tb { D with nx:=N,ct:=N,bk:=D.nx } σ2 H2):=by
 refine ⟨fun i m σ H=>m=n - i/\i <= n/\Pv i σ H,⟨n,by simp,Nat.zero_le _,h0⟩,?_⟩
 rintro i m σ H ⟨rfl,hi,p⟩
 by_cases hlt:i < n
 ·refine .inr ⟨hlt,Pv (i + 1),fun σ' H' p'=>⟨n - (i + 1),by omega,rfl,hlt,p'⟩,fun x H' y=>?_⟩
  obtain ⟨e,y⟩:=y
  subst e y
  exact hs i σ _ hlt p
 ·have e:i=n:=by omega
  subst e
  exact .inl ⟨Nat.le_refl _,hd σ H p⟩
end L2
namespace L2
open PySem PySem.Spec PyProof.Rows
abbrev R2:=V->V->Hp->VK->Prop
def OpR (X:Cx) (f:Value->Value->Sem Value) (r:R2):Prop :=
 ∀(pins:List (Addr × Obj)) (s:Shared) (σ:St) (H:Hp) (x y:V) (v u:Value) (Q:VK),Inv X pins σ H s->RelV x v->RelV y u->r x y H Q ->
  wpAny (model X.prog X.w) X.A (f v u) (EP X pins σ Q) X.xe s
def UnR (X:Cx) (f:Value->Sem Value) (r:V->Hp->VK->Prop):Prop :=
 ∀(pins:List (Addr × Obj)) (s:Shared) (σ:St) (H:Hp) (x:V) (v:Value) (Q:VK),Inv X pins σ H s->RelV x v->r x H Q ->
  wpAny (model X.prog X.w) X.A (f v) (EP X pins σ Q) X.xe s
def b7 (X:Cx) (f:Value) (r:List V->Hp->VK->Prop):Prop :=
 ∀(pins:List (Addr × Obj)) (s:Shared) (σ:St) (H:Hp) (xs:List V) (us:List Value) (Q:VK),Inv X pins σ H s->Vals xs us->r xs H Q ->
  wpAny (model X.prog X.w) X.A (call f us) (EP X pins σ Q) X.xe s
def C8 (X:Cx) (r:V->Hp->(Bool->Hp->Prop)->Prop):Prop :=
 ∀(pins:List (Addr × Obj)) (s:Shared) (σ:St) (H:Hp) (x:V) (v:Value) (Q:Bool->Hp->Prop),Inv X pins σ H s->RelV x v->r x H Q ->
  wpAny (model X.prog X.w) X.A (truthy v) (TP X pins σ Q) X.xe s
def tOp (r:R2) (ta tb:TE):TE:=fun σ H Q=>ta σ H fun x H1=>tb σ H1 fun y H2=>r x y H2 Q
def tUn (r:V->Hp->VK->Prop) (ta:TE):TE:=fun σ H Q=>ta σ H fun x H1=>r x H1 Q
def rI (C:Int->Int->Prop) (g:Int->Int->V):R2:=fun x y H Q=>∃i j,x=.int i/\y=.int j/\C i j/\Q (g i j) H
def rI0 (g:Int->Int->V):R2:=fun x y H Q=>∃i j,x=.int i/\y=.int j/\Q (g i j) H
def rU (g:Int->V):V->Hp->VK->Prop:=fun x H Q=>∃i,x=.int i/\Q (g i) H
section
variable {X:Cx}{a b c:Expr}{ta tb tc:TE}{pos:Pos}
theorem Ab (ha:PE X a ta) (hb:PE X b tb) {pins:List (Addr × Obj)}{s:Shared}{σ:St}{H:Hp}{R:V->V->Hp->Prop} (I:Inv X pins σ H s)
  (h:ta σ H fun x H1=>tb σ H1 fun y H2=>R x y H2) {Q:Value->Shared->Prop}{f:Value->Value->Sem Value}
  (hf:∀v u s2 x y H2,Inv X pins σ H2 s2->RelV x v->RelV y u->R x y H2->wpAny (model X.prog X.w) X.A (f v u) Q X.xe s2) :
  wpAny (model X.prog X.w) X.A (eval a X.env) (fun v s₁=>wpAny (model X.prog X.w) X.A (eval b X.env) (fun u s₂=>wpAny (model X.prog X.w) X.A (f v u) Q X.xe s₂) X.xe s₁) X.xe s:=by
 refine thn (ha pins s σ H _ I h) fun v s1 ⟨x,H1,I1,r1,q1⟩=>?_
 refine thn (hb pins s1 σ H1 _ I1 q1) fun u s2 ⟨y,H2,I2,r2,q2⟩=>?_
 exact hf v u s2 x y H2 I2 r1 r2 q2
theorem au {op:Operator}{r:R2} (ho:OpR X (binaryOp op) r) (ha:PE X a ta) (hb:PE X b tb):PE X (.BinOp a op b pos) (tOp r ta tb):=by
 intro pins s σ H Q I h
 exact wpAny_BinOp (Ab ha hb I h fun v u s2 x y H2 I2 rx ry q=>ho pins s2 σ H2 x y v u Q I2 rx ry q)
theorem jE {op:UnaryOp}{r:V->Hp->VK->Prop} (ho:UnR X (unaryOp op) r) (ha:PE X a ta):PE X (.UnaryOp op a pos) (tUn r ta):=by
 intro pins s σ H Q I h
 exact UnaryOp_ (thn (ha pins s σ H _ I h) fun v s1 ⟨x,H1,I1,r1,q1⟩=>ho pins s1 σ H1 x v Q I1 r1 q1)
theorem opI {f:Value->Value->Sem Value}{C:Int->Int->Prop}{g:Int->Int->Int}
  (rule:∀(i j:Int) (t u:Tok) (s:Shared) (Q:Value->Shared->Prop) (E:Value->Shared->Prop),C i j->Q (.int (g i j) s.toks) { s with toks:=s.toks + 1 }->wpAny (model X.prog X.w) X.A (f (.int i t) (.int j u)) Q E s) :
  OpR X f (rI C fun i j=>.int (g i j)):=by
 intro pins s σ H x y v u Q I rx ry h
 obtain ⟨i,j,rfl,rfl,hc,q⟩:=h
 obtain ⟨t,rfl⟩:=rx
 obtain ⟨t',rfl⟩:=ry
 exact rule i j t t' s _ _ hc ⟨.int (g i j),H,I.tok _,⟨_,rfl⟩,q⟩
theorem CQ {f:Value->Value->Sem Value}{g:Int->Int->Int}
  (rule:∀(i j:Int) (t u:Tok) (s:Shared) (Q:Value->Shared->Prop) (E:Value->Shared->Prop),Q (.int (g i j) s.toks) { s with toks:=s.toks + 1 }->wpAny (model X.prog X.w) X.A (f (.int i t) (.int j u)) Q E s) :
  OpR X f (rI0 fun i j=>.int (g i j)):=by
 intro pins s σ H x y v u Q I rx ry h
 obtain ⟨i,j,rfl,rfl,q⟩:=h
 obtain ⟨t,rfl⟩:=rx
 obtain ⟨t',rfl⟩:=ry
 exact rule i j t t' s _ _ ⟨.int (g i j),H,I.tok _,⟨_,rfl⟩,q⟩
theorem AA {f:Value->Value->Sem Value}{g:Int->Int->Bool}
  (rule:∀(i j:Int) (t u:Tok) (s:Shared) (Q:Value->Shared->Prop) (E:Value->Shared->Prop),Q (.bool (g i j)) s->wpAny (model X.prog X.w) X.A (f (.int i t) (.int j u)) Q E s) :
  OpR X f (rI0 fun i j=>.bl (g i j)):=by
 intro pins s σ H x y v u Q I rx ry h
 obtain ⟨i,j,rfl,rfl,q⟩:=h
 obtain ⟨t,rfl⟩:=rx
 obtain ⟨t',rfl⟩:=ry
 exact rule i j t t' s _ _ ⟨.bl (g i j),H,I,rfl,q⟩
def Cb (i j:Int):Prop:=0 <= j/\j <= 1000000/\i.natAbs < 2 ^ 64
def ye (i j:Int):Prop:=(-(2 ^ 64) < i/\i < 2 ^ 64) \/ (-(2 ^ 64) < j/\j < 2 ^ 64)
theorem ye.ok {i j:Int} (h:ye i j):IntMulOk i j:=by
 rcases h with ⟨h1,h2⟩ | ⟨h1,h2⟩
 ·exact .of_left (intBits_le_64 h1 h2)
 ·exact .of_right (intBits_le_64 h1 h2)
theorem AH:OpR X (binaryOp .Add) (rI0 fun i j=>.int (i + j)):=CQ fun _ _ _ _ _ _ _ q=>add_int q
theorem Bd:OpR X (binaryOp .Sub) (rI0 fun i j=>.int (i - j)):=CQ fun _ _ _ _ _ _ _ q=>sub_int q
theorem Aj:OpR X (binaryOp .Mult) (rI ye fun i j=>.int (i * j)):=opI fun _ _ _ _ _ _ _ hc q=>mul_int q hc.ok
theorem AM:OpR X (binaryOp .Mod) (rI (fun _ j=>0 < j) fun i j=>.int (i % j)):=opI fun i j _ _ _ _ _ hc q=>by
 have h1:(0:Int) < j:=hc
 exact mod_int' (by omega) (by rw [Int.fmod_eq_emod_of_nonneg i (by omega)];exact q)
theorem Bu:OpR X (binaryOp .Pow) (rI Cb fun i j=>.int (i ^ j.toNat)):=opI fun _ _ _ _ _ _ _ hc q=>pow_int_small hc.1 hc.2.1 hc.2.2 q
theorem unI {f:Value->Sem Value}{g:Int->Int}
  (rule:∀(i:Int) (t:Tok) (s:Shared) (Q:Value->Shared->Prop) (E:Value->Shared->Prop),Q (.int (g i) s.toks) { s with toks:=s.toks + 1 }->wpAny (model X.prog X.w) X.A (f (.int i t)) Q E s) :
  UnR X f (rU fun i=>.int (g i)):=by
 intro pins s σ H x v Q I rx h
 obtain ⟨i,rfl,q⟩:=h
 obtain ⟨t,rfl⟩:=rx
 exact rule i t s _ _ ⟨.int (g i),H,I.tok _,⟨_,rfl⟩,q⟩
theorem fZ:UnR X (unaryOp .USub) (rU fun i=>.int (-i)):=unI fun _ _ _ _ _ q=>neg_int q
end
def vQ:V->V->Bool
 | .non,.non=>true | .non,.int _=>true | .int _,.non=>true | .non,.bl _=>true | .bl _,.non=>true | .non,.str _=>true | .str _,.non=>true
 | .int _,.int _=>true | .bl _,.bl _=>true | .str _,.str _=>true | .byt _,.byt _=>true
 | .int _,.str _=>true | .str _,.int _=>true | .bl _,.str _=>true | .str _,.bl _=>true
 | _,_=>false
def rEq:R2:=fun x y H Q=>vQ x y=true/\Q (.bl (decide (x=y))) H
def rNe:R2:=fun x y H Q=>vQ x y=true/\Q (.bl (!decide (x=y))) H
theorem tK {i j:Int}:decide (V.int i=V.int j)=(i == j):=by
 rw [Bool.eq_iff_iff]
 simp
theorem wU {i j:Bool}:decide (V.bl i=V.bl j)=(i == j):=by
 rw [Bool.eq_iff_iff]
 simp
theorem uf {i j:Str}:decide (V.str i=V.str j)=(i == j):=by
 rw [Bool.eq_iff_iff]
 simp
theorem tY {i j:Array UInt8}:decide (V.byt i=V.byt j)=(i.toList == j.toList):=by
 rw [Bool.eq_iff_iff]
 cases i
 cases j
 simp
section
variable {X:Cx}{a b c:Expr}{ta tb tc:TE}{pos:Pos}
theorem aU {pins:List (Addr × Obj)}{σ:St}{H:Hp}{s:Shared}{Q:VK}{k k':Bool} (I:Inv X pins σ H s) (q:Q (.bl k) H) (e:k=k'):EP X pins σ Q (.bool k') s:=by
 subst e
 exact ⟨.bl k,H,I,rfl,q⟩
theorem Cu:OpR X (compareOp .Eq) rEq:=by
 intro pins s σ H x y v u Q I rx ry h
 obtain ⟨hs,q⟩:=h
 cases x with
 | non =>
  cases rx
  cases y with
  | non=>cases ry;exact PySem.EqNone.eq_none_none (aU I q (by simp))
  | bl j=>cases ry;exact PySem.EqNone.eq_none_bool (aU I q (by simp))
  | int j=>obtain ⟨t',rfl⟩:=ry;exact PySem.EqNone.eq_none_int (aU I q (by simp))
  | str j=>obtain ⟨t',rfl⟩:=ry;exact PySem.EqNone.eq_none_str (aU I q (by simp))
  | _=>exact absurd (show false=true from hs) Bool.false_ne_true
 | bl i =>
  cases rx
  cases y with
  | non=>cases ry;exact PySem.EqNone.eq_bool_none (aU I q (by simp))
  | bl j=>cases ry;exact eq_bool (aU I q wU)
  | str j=>obtain ⟨t',rfl⟩:=ry;exact PySem.EqMixed.eq_bool_str (aU I q (by simp))
  | _=>exact absurd (show false=true from hs) Bool.false_ne_true
 | int i =>
  obtain ⟨t,rfl⟩:=rx
  cases y with
  | non=>cases ry;exact PySem.EqNone.eq_int_none (aU I q (by simp))
  | int j=>obtain ⟨t',rfl⟩:=ry;exact eq_int (aU I q tK)
  | str j=>obtain ⟨t',rfl⟩:=ry;exact PySem.EqMixed.eq_int_str (aU I q (by simp))
  | _=>exact absurd (show false=true from hs) Bool.false_ne_true
 | str i =>
  obtain ⟨t,rfl⟩:=rx
  cases y with
  | non=>cases ry;exact PySem.EqNone.eq_str_none (aU I q (by simp))
  | bl j=>cases ry;exact PySem.EqMixed.eq_str_bool (aU I q (by simp))
  | int j=>obtain ⟨t',rfl⟩:=ry;exact PySem.EqMixed.eq_str_int (aU I q (by simp))
  | str j=>obtain ⟨t',rfl⟩:=ry;exact eq_str (aU I q uf)
  | _=>exact absurd (show false=true from hs) Bool.false_ne_true
 | byt i =>
  obtain ⟨t,rfl⟩:=rx
  cases y with
  | byt j=>obtain ⟨t',rfl⟩:=ry;exact W.eq_bytes (aU I q tY)
  | _=>exact absurd (show false=true from hs) Bool.false_ne_true
 | _=>cases y <;> exact absurd (show false=true from hs) Bool.false_ne_true
theorem BV:OpR X (compareOp .NotEq) rNe:=by
 intro pins s σ H x y v u Q I rx ry h
 obtain ⟨hs,q⟩:=h
 cases x with
 | non =>
  cases rx
  cases y with
  | non=>cases ry;exact PySem.EqNone.ne_none_none (aU I q (by simp))
  | bl j=>cases ry;exact PySem.EqNone.ne_none_bool (aU I q (by simp))
  | int j=>obtain ⟨t',rfl⟩:=ry;exact PySem.EqNone.ne_none_int (aU I q (by simp))
  | str j=>obtain ⟨t',rfl⟩:=ry;exact PySem.EqNone.ne_none_str (aU I q (by simp))
  | _=>exact absurd (show false=true from hs) Bool.false_ne_true
 | bl i =>
  cases rx
  cases y with
  | non=>cases ry;exact PySem.EqNone.ne_bool_none (aU I q (by simp))
  | bl j=>cases ry;exact ne_bool (aU I q (congrArg not wU))
  | str j=>obtain ⟨t',rfl⟩:=ry;exact PySem.EqMixed.ne_bool_str (aU I q (by simp))
  | _=>exact absurd (show false=true from hs) Bool.false_ne_true
 | int i =>
  obtain ⟨t,rfl⟩:=rx
  cases y with
  | non=>cases ry;exact PySem.EqNone.ne_int_none (aU I q (by simp))
  | int j=>obtain ⟨t',rfl⟩:=ry;exact ne_int (aU I q (congrArg not tK))
  | str j=>obtain ⟨t',rfl⟩:=ry;exact PySem.EqMixed.ne_int_str (aU I q (by simp))
  | _=>exact absurd (show false=true from hs) Bool.false_ne_true
 | str i =>
  obtain ⟨t,rfl⟩:=rx
  cases y with
  | non=>cases ry;exact PySem.EqNone.ne_str_none (aU I q (by simp))
  | bl j=>cases ry;exact PySem.EqMixed.ne_str_bool (aU I q (by simp))
  | int j=>obtain ⟨t',rfl⟩:=ry;exact PySem.EqMixed.ne_str_int (aU I q (by simp))
  | str j=>obtain ⟨t',rfl⟩:=ry;exact ne_str (aU I q (congrArg not uf))
  | _=>exact absurd (show false=true from hs) Bool.false_ne_true
 | byt i =>
  obtain ⟨t,rfl⟩:=rx
  cases y with
  | byt j=>obtain ⟨t',rfl⟩:=ry;exact W.ne_bytes (aU I q (congrArg not tY))
  | _=>exact absurd (show false=true from hs) Bool.false_ne_true
 | _=>cases y <;> exact absurd (show false=true from hs) Bool.false_ne_true
theorem CK:OpR X (compareOp .Lt) (rI0 fun i j=>.bl (decide (i < j))):=AA fun _ _ _ _ _ _ _ q=>lt_int q
theorem BA:OpR X (compareOp .Gt) (rI0 fun i j=>.bl (decide (j < i))):=AA fun _ _ _ _ _ _ _ q=>gt_int q
theorem Ca:OpR X (compareOp .GtE) (rI0 fun i j=>.bl (decide (j <= i))):=AA fun _ _ _ _ _ _ _ q=>ge_int q
theorem vG:OpR X (compareOp .In) (fun x y H Q=>∃i j,x=.str i/\y=.str j/\Q (.bl (!(Builtin.Str.occurrences j i 0 j.length 1).isEmpty)) H):=by
 intro pins s σ H x y v u Q I rx ry h
 obtain ⟨i,j,rfl,rfl,q⟩:=h
 obtain ⟨t,rfl⟩:=rx
 obtain ⟨t',rfl⟩:=ry
 exact in_str (aU I q rfl)
theorem Bb:OpR X (compareOp .Is) (fun x y H Q=>y=.non/\Q (.bl (decide (x=.non))) H):=by
 intro pins s σ H x y v u Q I rx ry h
 obtain ⟨rfl,q⟩:=h
 cases ry
 refine is_none_gen (aU I q ?_)
 cases x <;> first
  | (cases rx;rfl)
  | (obtain ⟨t,rfl⟩:=rx;rfl)
theorem OpR.or {f:Value->Value->Sem Value}{r r':R2} (h:OpR X f r) (h':OpR X f r'):OpR X f (fun x y H Q=>r x y H Q \/ r' x y H Q):=by
 intro pins s σ H x y v u Q I rx ry q
 rcases q with q | q
 ·exact h pins s σ H x y v u Q I rx ry q
 ·exact h' pins s σ H x y v u Q I rx ry q
theorem xU (b:Expr) {op:CmpOp} (h:op ≠ .In:=by decide) (h2:op ≠ .NotIn:=by decide):behindInMarks op b=false:=by
 have e1:(op == CmpOp.In)=false:=by cases op <;> first | rfl | exact absurd rfl h
 have e2:(op == CmpOp.NotIn)=false:=by cases op <;> first | rfl | exact absurd rfl h2
 cases b <;> simp [behindInMarks,e1,e2]
theorem zx {op:CmpOp}{r:R2} (ho:OpR X (compareOp op) r) (ha:PE X a ta) (hb:PE X b tb) (hm:behindInMarks op b=false):PE X (.Compare a [op] [b] pos) (tOp r ta tb):=by
 intro pins s σ H Q I h
 exact wpAny_Compare1 (Ab ha hb I h fun v u s2 x y H2 I2 rx ry q=>ho pins s2 σ H2 x y v u Q I2 rx ry q) hm
inductive blI (x:V) (H:Hp) (Q:Bool->Hp->Prop):Prop
 | mk (k:Bool) (h:x=.bl k) (q:Q k H):blI x H Q
def zJ (t:TE):TT:=fun σ H Q=>t σ H fun x H'=>blI x H' Q
theorem zf {op:CmpOp}{r:R2} (ho:OpR X (compareOp op) r) (ha:PE X a ta) (hb:PE X b tb) (hm:behindInMarks op b=false):PT X (.Compare a [op] [b] pos) (zJ (tOp r ta tb)):=by
 intro pins s σ H Q I h
 refine wpAny_isTrue_Compare1 (thn (ha pins s σ H _ I h) fun v s1 ⟨x,H1,I1,r1,q1⟩=>thn (hb pins s1 σ H1 _ I1 q1) fun u s2 ⟨y,H2,I2,r2,q2⟩ =>
  thn (ho pins s2 σ H2 x y v u _ I2 r1 r2 q2) fun c s3 ⟨z,H3,I3,r3,k,e,q3⟩=>?_) hm
 subst e
 cases r3
 exact wpAny_truthy_bool ⟨H3,I3,q3⟩
def DN (K:W.Frag) (x:V) (H:Hp) (k:Bool):Prop :=
 match x with
 | .non=>k=false
 | .bl b=>k=b
 | .int i=>k=(i != 0)
 | .str y=>y.length <= sizeLine/\k=((y.length:Int) != 0)
 | .byt y=>y.size <= sizeLine/\k=((y.size:Int) != 0)
 | .ref p=>(∃xs,SqL K H p xs/\k=!xs.isEmpty) \/ (∃xs,SqT K H p xs/\k=!xs.isEmpty) \/ ∃kvs,H p=some (.dK kvs)/\k=!kvs.isEmpty
 | _=>False
theorem sM {κ:Type}{kvs:List (κ × V)}{vs:List (κ × Value)} (r:KV kvs vs):(!vs.isEmpty)=!kvs.isEmpty:=by
 cases r <;> rfl
theorem nq {xs:List V}{its:List Value} (r:Vals xs its):(!its.toArray.isEmpty)=!xs.isEmpty:=by
 cases r <;> simp
theorem kW:(sizeLine:Nat) < 2 ^ 63:=by rw [sizeLine_eq];decide
inductive rR (K:W.Frag) (x:V) (H:Hp) (Q:Bool->Hp->Prop):Prop
 | mk (k:Bool) (h:DN K x H k) (q:Q k H):rR K x H Q
theorem Ba:C8 X (rR X.K):=by
 intro pins s σ H x v Q I rx h
 obtain ⟨k,e,q⟩:=h
 have hl:=kW
 have hs:sizeLine=16777216:=sizeLine_eq
 cases x with
 | non =>
  cases rx
  have e':k=false:=e
  subst e'
  exact truthy_none ⟨H,I,q⟩
 | bl b =>
  cases rx
  have e':k=b:=e
  subst e'
  exact wpAny_truthy_bool ⟨H,I,q⟩
 | int i =>
  obtain ⟨t,rfl⟩:=rx
  have e':k=(i != 0):=e
  subst e'
  exact PySem.P.truthy_int ⟨H,I,q⟩
 | str y =>
  obtain ⟨t,rfl⟩:=rx
  obtain ⟨hy,e'⟩:y.length <= sizeLine/\k=((y.length:Int) != 0):=e
  subst e'
  exact PySem.P.truthy_str (by omega) ⟨H,I.tok _,q⟩
 | byt y =>
  obtain ⟨t,rfl⟩:=rx
  obtain ⟨hy,e'⟩:y.size <= sizeLine/\k=((y.size:Int) != 0):=e
  subst e'
  exact W.truthy_bytes (by omega) ⟨H,I.tok _,q⟩
 | ref p =>
  cases rx
  have e':(∃xs,SqL X.K H p xs/\k=!xs.isEmpty) \/ (∃xs,SqT X.K H p xs/\k=!xs.isEmpty) \/ ∃kvs,H p=some (.dK kvs)/\k=!kvs.isEmpty:=e
  rcases e' with ⟨xs,hx,e'⟩ | ⟨xs,hx,e'⟩ | ⟨kvs,hx,e'⟩
  ·subst e'
   obtain ⟨its,r,pl,hz⟩:=I.list hx
   have hlen:=r.length
   exact wpAny_truthy_list pl.isList (by simp only [List.size_toArray];omega) ⟨H,I.tok _,by rw [nq r];exact q⟩
  ·subst e'
   obtain ⟨its,r,pl,hz⟩:=I.tuple hx
   have hlen:=r.length
   exact truthy_tuple pl (by simp only [List.size_toArray];omega) ⟨H,I.tok _,by rw [nq r];exact q⟩
  ·subst e'
   obtain ⟨hz,hS,vs,r,m⟩:kvs.length <= sizeLine/\(p == sysModules)=false/\∃vs,KV kvs vs/\s.heap.DictOf (bg X.prog X.w) p vs:=I.hok p _ hx
   have hlen:kvs.length=vs.length:=Paired.length r
   exact wpAny_truthy_dict hS m (by omega) ⟨H,I.tok _,by rw [sM r];exact q⟩
 | _=>exact (show False from e).elim
theorem wR (ha:PE X a ta) (he:∀whole,isTrue a X.env whole=(do let v <- whole;standAt a.pos;holding [v] (truthy v))) :
  PT X a (fun σ H Q=>ta σ H fun x H'=>rR X.K x H' Q):=by
 intro pins s σ H Q I h
 exact isTrue_plain (thn (ha pins s σ H _ I h) fun v s1 ⟨x,H1,I1,r1,q1⟩=>Ba pins s1 σ H1 x v Q I1 r1 q1) (he _)
theorem r8:OpR X (binaryOp .Add) (fun x y H Q=>∃i j,x=.str i/\y=.str j/\i.length + j.length <= sizeLine/\Q (.str (i ++ j)) H):=by
 intro pins s σ H x y v u Q I rx ry h
 obtain ⟨i,j,rfl,rfl,hz,q⟩:=h
 obtain ⟨t,rfl⟩:=rx
 obtain ⟨t',rfl⟩:=ry
 exact add_str (fun t' tk=>⟨.str (i ++ j),H,I.tok _,⟨_,rfl⟩,q⟩) hz
theorem vals1 {x:V}{us:List Value} (r:Vals [x] us):∃u,us=[u]/\RelV x u:=by
 cases r with
 | cons r1 r2=>cases r2;exact ⟨_,rfl,r1⟩
theorem vals2 {x y:V}{us:List Value} (r:Vals [x,y] us):∃u w',us=[u,w']/\RelV x u/\RelV y w':=by
 cases r with
 | cons r1 r2 =>
  cases r2 with
  | cons r3 r4=>cases r4;exact ⟨_,_,rfl,r1,r3⟩
theorem pK:b7 X (.type "str") (fun xs H Q=>∃i,xs=[.int i]/\i.natAbs.log2 < 1920/\Q (.str (toString i)) H):=by
 intro pins s σ H xs us Q I r h
 obtain ⟨i,rfl,hz,q⟩:=h
 obtain ⟨u,rfl,t,rfl⟩:=vals1 r
 exact PySem.P.str_of_int hz ⟨.str _,H,I.tok _,⟨_,rfl⟩,q⟩
def CI (K:W.Frag) (x:V) (H:Hp) (n:Nat):Prop :=
 match x with
 | .str y=>y.length <= sizeLine/\n=y.length
 | .byt y=>y.size <= sizeLine/\n=y.size
 | .ref p=>(∃xs,SqL K H p xs/\n=xs.length) \/ ∃xs,SqT K H p xs/\n=xs.length
 | _=>False
theorem wq:b7 X (.builtin "len") (fun xs H Q=>∃x n,xs=[x]/\CI X.K x H n/\Q (.int n) H):=by
 intro pins s σ H xs us Q I r h
 obtain ⟨x,n,rfl,e,q⟩:=h
 obtain ⟨u,rfl,rx⟩:=vals1 r
 have hl:=kW
 have hs:sizeLine=16777216:=sizeLine_eq
 cases x with
 | str y =>
  obtain ⟨t,rfl⟩:=rx
  obtain ⟨hy,e'⟩:y.length <= sizeLine/\n=y.length:=e
  subst e'
  exact len_str (by omega) ⟨.int _,H,I.tok _,⟨_,rfl⟩,q⟩
 | byt y =>
  obtain ⟨t,rfl⟩:=rx
  obtain ⟨hy,e'⟩:y.size <= sizeLine/\n=y.size:=e
  subst e'
  exact W.len_bytes (by omega) ⟨.int _,H,I.tok _,⟨_,rfl⟩,q⟩
 | ref p =>
  cases rx
  have e':(∃xs,SqL X.K H p xs/\n=xs.length) \/ ∃xs,SqT X.K H p xs/\n=xs.length:=e
  rcases e' with ⟨xs,hx,e'⟩ | ⟨xs,hx,e'⟩
  ·subst e'
   obtain ⟨its,r',pl,hz⟩:=I.list hx
   have hlen:=r'.length
   exact Calls.call_len_list pl.isList (by simp only [List.size_toArray];omega) ⟨.int xs.length,H,I.tok _,⟨_,by simp only [List.size_toArray];rw [hlen]⟩,q⟩
  ·subst e'
   obtain ⟨its,r',pl,hz⟩:=I.tuple hx
   have hlen:=r'.length
   exact len_tuple pl (by simp only [List.size_toArray];omega) ⟨.int xs.length,H,I.tok _,⟨_,by simp only [List.size_toArray];rw [hlen]⟩,q⟩
 | _=>exact (show False from e).elim
end
end L2
namespace L2
open PySem PySem.Spec PyProof.Rows
structure vi (h:Heap) (x dx C:Addr) (mA:Str->Option Value):Prop where
 obj:h.get? x=some (W.instObj C dx)
 ns:h.Ns1 dx mA
 ne:dx ≠ x
theorem vj {h:Heap}{dx:Addr}{mA:Str->Option Value} (n:h.Ns1 dx mA):∃od,h.get? dx=some od/\∀name,W.lookIn name od=some (mA name):=by
 obtain ⟨o,es,ep,ho,hd,hk,_,hm⟩:=n
 refine ⟨o,ho,fun name=>?_⟩
 have e:=hm name
 unfold nsFind findBy at e
 rw [<- Array.find?_toList] at e
 unfold W.lookIn
 rw [hd]
 dsimp only
 split
 ·rename_i y q
  rw [q] at e
  exact congrArg some e
 ·rename_i q
  rw [q] at e
  have a:es.toList.any (·.refKey)=false:=by
   rw [List.any_eq_false]
   intro y hy
   obtain ⟨z,t,hkey⟩:=hk y (Array.mem_toList_iff.mp hy)
   simp [DictEntry.refKey,hkey]
  have a':¬ es.toList.any (·.refKey)=true:=by rw [a];exact Bool.false_ne_true
  rw [if_neg a']
  exact congrArg some e
theorem vi.look {h:Heap}{x dx C:Addr}{mA:Str->Option Value} (I:vi h x dx C mA):∃od,W.InstAt h x (W.instObj C dx) C (some od)/\∀name,W.lookIn name od=some (mA name) :=
 let ⟨od,ho,hl⟩:=vj I.ns
 ⟨od,⟨I.obj,rfl,rfl,ho⟩,hl⟩
section
variable {prog:Program}{w:World}{A:Around}{E:Value->Shared->Prop}{s:Shared}{K:W.Frag}{x dx C f:Addr}{mA:Str->Option Value}{name:Str}{v:Value}
theorem get_map {expr:Bool}{Q:Value->Shared->Prop} (X:K.In s.heap) (I:vi s.heap x dx C mA) (hg:W.plainGet K C name=true) (hh:W.hasDictIn K C=true)
  (ha:W.findIn K (.ref C) name=some none) (hv:mA name=some v) (hv':W.handedIn v=true) (h:Q v { s with toks:=s.toks + 1 }) :
  wpAny (model prog w) A (getAttr (.ref x) name expr) Q E s:=by
 obtain ⟨od,J,hl⟩:=I.look
 exact W.get_value X J (W.plainGet_of hg).1 (W.findObj_own hh ha rfl (by rw [hl,hv])) hv' h
theorem yV {ns:List Str}{Q:Unit->Shared->Prop} (X:K.In s.heap) (I:vi s.heap x dx C mA)
  (hs:W.findIn K (.ref C) "__setattr__"=some (some (.builtin "object.__setattr__"))) (hp:W.plainOver K C=true) (ht:W.takerIn K C name=some none) (hh:W.hasDictIn K C=true)
  (hw:PySem.Within mA ns) (hsz:ns.length <= sizeLine)
  (h:∀h',vi h' x dx C (fun y=>if y=name then some v else mA y)->Heap.SameBut dx s.heap h'->Q () { s with heap:=h',toks:=s.toks + 2 }) :
  wpAny (model prog w) A (setAttr (.ref x) name v) Q E s:=by
 obtain ⟨od,J,hl⟩:=I.look
 refine W.set_plain X J hs (W.osa_open (s:={ s with toks:=s.toks + 1 }) (r:=none) X J hp ht fun b=>?_)
 obtain ⟨cd,hc,hd'⟩:=W.any_some hh
 have hx:s.heap.get? x=some ⟨.ref C,some dx,.plain,#[]⟩:=I.obj
 refine wpAny_bind (wpAny_pure (wpAny_bind (wpAny_bind (wpAny_loadPart hx (wpAny_bind (W.Looks.here (s:={ s with toks:=s.toks + 1 }) (W.looks_clsIn X hc) ?_))))))
 rw [hd']
 refine wpAny_pure (a:=some dx) (wpAny_bind (wpAny_pure (wpAny_bind ?_)))
 refine wpAny_nsSet1 (s:={ s with toks:=s.toks + 1 }) I.ns fun h' hn2 hs2=>?_
 obtain ⟨oD,esD,epD,hoD,hdD,hcD⟩:=hn2.count (PySem.Within.cons name v hw)
 refine wpAny_bind (wpAny_lookBehind hoD (by rw [hdD];exact pastItsLine_dict (Nat.le_trans hcD (by rw [List.length_cons];omega))) ?_)
 exact wpAny_pure (h _ ⟨(hs2.2 _ (Ne.symm I.ne)).trans I.obj,hn2,I.ne⟩ hs2)
theorem xC {R:Result->Shared->Prop}{vs:List Value}{kw:List (Str × Value)} (X:K.In s.heap) (hm:W.makesIn K C=true)
  (hi:W.findIn K (.ref C) "__init__"=some (some (.ref f))) (hf:W.typeIn K (.ref f)=some (.type "function"))
  (h:codeAny (model prog w) (A.under (.builtin "type.__call__" ⟨.ref C :: vs,kw⟩)) (.call (.ref f) ⟨.ref (s.heap.objs.size + 1) :: vs,kw⟩) (W.InitBack (s.heap.objs.size + 1) R)
   { s with heap:=(s.heap.push W.emptyDict).push (W.instObj C s.heap.objs.size) }) :
  codeAny (model prog w) A (.call (.ref C) ⟨vs,kw⟩) R s:=by
 obtain ⟨hh,g,d,t,os⟩:=s
 exact W.make_core (W.makes_of X hm) (W.looks_findIn X hi) (fun self=>W.bind_fn X self hf) (.inl rfl) h
end
def fe (f:Str) (v:V):List (Str × V)->List (Str × V)
 | []=>[(f,v)]
 | (g,x) :: r=>if g=f then (g,v) :: r else (g,x) :: fe f v r
theorem lq (f g:Str) (v:V):∀fs:List (Str × V),(fe f v fs).lookup g=if g=f then some v else fs.lookup g
 | []=>by
  show List.lookup g [(f,v)]=_
  by_cases h:g=f
  ·have hb:(g == f)=true:=beq_iff_eq.mpr h
   simp only [List.lookup,hb,if_pos h]
  ·have hb:(g == f)=false:=beq_eq_false_iff_ne.mpr h
   simp only [List.lookup,hb,if_neg h]
 | (k,x) :: r=>by
  have ih:=lq f g v r
  rw [show fe f v ((k,x) :: r)=(if k=f then (k,v) :: r else (k,x) :: fe f v r) from rfl]
  by_cases hk:k=f
  ·rw [if_pos hk]
   by_cases h:g=k
   ·have hb:(g == k)=true:=beq_iff_eq.mpr h
    simp only [List.lookup,hb,if_pos (h.trans hk)]
   ·have hb:(g == k)=false:=beq_eq_false_iff_ne.mpr h
    simp only [List.lookup,hb,if_neg (fun e:g=f=>h (e.trans hk.symm))]
  ·rw [if_neg hk]
   by_cases h:g=k
   ·have hb:(g == k)=true:=beq_iff_eq.mpr h
    simp only [List.lookup,hb,if_neg (fun e:g=f=>hk (h.symm.trans e))]
   ·have hb:(g == k)=false:=beq_eq_false_iff_ne.mpr h
    simp only [List.lookup,hb]
    exact ih
theorem kP (f:Str) (v:V):∀fs:List (Str × V),f ∈ (fe f v fs).map (·.1)/\∀g,g ∈ fs.map (·.1)->g ∈ (fe f v fs).map (·.1)
 | []=>⟨by simp [fe],fun g h=>by simp at h⟩
 | (k,x) :: r=>by
  obtain ⟨i1,i2⟩:=kP f v r
  rw [show fe f v ((k,x) :: r)=(if k=f then (k,v) :: r else (k,x) :: fe f v r) from rfl]
  by_cases hk:k=f
  ·rw [if_pos hk]
   subst hk
   exact ⟨by simp,fun g h=>by simpa using h⟩
  ·rw [if_neg hk]
   refine ⟨?_,fun g h=>?_⟩
   ·rw [List.map_cons]
    exact List.mem_cons_of_mem _ i1
   ·rw [List.map_cons] at h ⊢
    rcases List.mem_cons.mp h with e | e
    ·exact List.mem_cons.mpr (.inl e)
    ·exact List.mem_cons_of_mem _ (i2 g e)
theorem lE (f:Str) (v:V):∀fs:List (Str × V),(fe f v fs).length <= fs.length + 1
 | []=>by simp [fe]
 | (k,x) :: r=>by
  have ih:=lE f v r
  rw [show fe f v ((k,x) :: r)=(if k=f then (k,v) :: r else (k,x) :: fe f v r) from rfl]
  by_cases hk:k=f
  ·rw [if_pos hk,List.length_cons,List.length_cons];omega
  ·rw [if_neg hk,List.length_cons,List.length_cons];omega
theorem ku.some_of {v:V}{o:Option Value} (r:ku (some v) o):∃u,o=some u/\RelV v u:=by
 cases o with
 | none=>exact (show False from r).elim
 | some u=>exact ⟨u,rfl,r⟩
theorem va {v:V}{u:Value} (r:RelV v u):W.handedIn u=true:=by
 cases v with
 | non=>cases (show u=Value.none from r);rfl
 | bl b=>cases (show u=Value.bool b from r);rfl
 | int i=>obtain ⟨t,e⟩:=(show ∃t,u=Value.int i t from r);cases e;rfl
 | str x=>obtain ⟨t,e⟩:=(show ∃t,u=Value.str x t from r);cases e;rfl
 | byt b=>obtain ⟨t,e⟩:=(show ∃t,u=Value.bytes b t from r);cases e;rfl
 | flt b=>obtain ⟨t,e⟩:=(show ∃t,u=Value.float b t from r);cases e;rfl
 | ref a=>cases (show u=Value.ref a from r);rfl
 | ty n=>cases (show u=Value.type n from r);rfl
section
variable {P:Program}{w:World}{H H':Hp}{h h':Heap}{a C dx:Addr}{fs fs':List (Str × V)}
theorem qc (hok:HOk P w H h) (e:H a=some (.ins C dx fs)):∃mA,vi h a dx C mA/\(∀f,ku (fs.lookup f) (mA f))/\PySem.Within mA (fs.map (·.1))/\fs.length <= 1000/\H dx=some (.own a):=by
 obtain ⟨d,z,ne,ob,mA,n,r,q⟩:=(show bI P w H h a (.ins C dx fs) from hok a _ e)
 exact ⟨mA,⟨ob,n,ne⟩,r,q,z,d⟩
end
structure Cls (K:W.Frag) (C:Addr):Prop where
 pg:W.plainGet K C Str.empty=true
 hd:W.hasDictIn K C=true
 po:W.plainOver K C=true
 sa:W.findIn K (.ref C) "__setattr__"=some (some (.builtin "object.__setattr__"))
theorem Cls.get {K:W.Frag}{C:Addr} (c:Cls K C) (f:Str):W.plainGet K C f=true:=c.pg
def aC (K:W.Frag) (C:Addr) (f:Str):Prop:=W.findIn K (.ref C) f=some none
theorem aC.BZ {K:W.Frag}{C:Addr}{f:Str} (n:aC K C f):W.takerIn K C f=some none:=by
 unfold W.takerIn
 rw [show W.findIn K (.ref C) f=some none from n]
 rfl
structure Con (K:W.Frag) (C:Addr) (f:Str) (v:V) (u:Value):Prop where
 at_:W.findIn K (.ref C) f=some (some u)
 rel:RelV v u
 get:W.specialIn K u "__get__"=some none
 cp:W.copiedNames.contains f=false
structure Meth (K:W.Frag) (C:Addr) (m:Str) (f:Addr):Prop where
 at_:W.findIn K (.ref C) m=some (some (.ref f))
 fn:W.isFn K (.ref f)=true
 kp:W.keepIn K (.ref f)=true
section
variable {X:Cx}{pins:List (Addr × Obj)}{σ:St}{H:Hp}{s:Shared}{a C dx:Addr}{fs:List (Str × V)}{f:Str}{v:V}{A:Around}{E:Value->Shared->Prop}
theorem sZ {b:Bool}{Q:Value->Shared->Prop} (I:Inv X pins σ H s) (e:H a=some (.ins C dx fs)) (c:Cls X.K C) (n:aC X.K C f) (l:fs.lookup f=some v)
  (h:∀u s',Inv X pins σ H s'->RelV v u->Q u s'):wpAny (model X.prog X.w) A (getAttr (.ref a) f b) Q E s:=by
 obtain ⟨mA,O,r,_,_,_⟩:=qc I.hok e
 obtain ⟨u,hu,ru⟩:=ku.some_of (v:=v) (o:=mA f) (by rw [<- l];exact r f)
 exact get_map I.kIn O (c.get f) c.hd n hu (va ru) (h u _ (I.tok _) ru)
theorem tG {y:V}{u:Value}{Q:Unit->Shared->Prop} (I:Inv X pins σ H s) (e:H a=some (.ins C dx fs)) (c:Cls X.K C) (n:aC X.K C f) (hl:fs.length < 1000) (ry:RelV y u)
  (h:∀s',Inv X pins σ (upd H a (.ins C dx (fe f y fs))) s'->Q () s'):wpAny (model X.prog X.w) A (setAttr (.ref a) f u) Q E s:=by
 obtain ⟨mA,O,r,wi,_,ho⟩:=qc I.hok e
 have hz:(fs.map (·.1)).length <= sizeLine:=by rw [List.length_map,sizeLine_eq];omega
 refine yV I.kIn O c.sa c.po n.BZ c.hd wi hz fun h' O' sb=>h _ ?_
 have hd:∃o,h'.get? dx=some o:=let ⟨o,_,_,e',_⟩:=O'.ns;⟨o,e'⟩
 refine I.write (x:=a) (e:=dx) (by rw [e];exact True.intro) (.inr ho) (fun b q hb z=>(sb.2 b hb).trans z) hd ?_
 refine ⟨by rw [aI O.ne];exact ho,?_,O.ne,O'.obj,_,O'.ns,fun g=>?_,fun g hg=>?_⟩
 ·have:=lE f y fs;omega
 ·show ku ((fe f y fs).lookup g) (if g=f then some u else mA g)
  rw [lq]
  by_cases q:g=f
  ·rw [if_pos q,if_pos q];exact ry
  ·rw [if_neg q,if_neg q];exact r g
 ·by_cases q:g=f
  ·rw [q];exact (kP f y fs).1
  ·refine (kP f y fs).2 g (wi g fun z=>hg ?_)
   show (if g=f then some u else mA g)=none
   rw [if_neg q];exact z
theorem Inv.made (I:Inv X pins σ H s):Inv X pins σ (upd (upd H s.heap.objs.size (.own (s.heap.objs.size + 1))) (s.heap.objs.size + 1) (.ins C s.heap.objs.size []))
  { s with heap:=(s.heap.push W.emptyDict).push (W.instObj C s.heap.objs.size) }:=by
 have e1:(s.heap.push W.emptyDict).get? s.heap.objs.size=some W.emptyDict:=Heap.get?_push_size s.heap rfl
 have e2:((s.heap.push W.emptyDict).push (W.instObj C s.heap.objs.size)).get? (s.heap.objs.size + 1)=some (W.instObj C s.heap.objs.size):=by
  have:=Heap.get?_push_size (s.heap.push W.emptyDict) (o:=W.instObj C s.heap.objs.size) rfl
  rwa [Heap.size_push] at this
 have e3:(s.heap.push W.emptyDict).Ns s.heap.objs.size (fun _=>none):=⟨W.emptyDict,#[],_,e1,rfl,(fun e he=>absurd he (by simp)),fun _=>rfl⟩
 have I1:=I.laid (a:=s.heap.objs.size) (o:=.own (s.heap.objs.size + 1)) (h':=s.heap.push W.emptyDict) (t':=s.toks) (fun b u q=>Heap.get?_push_of_some _ q) (Nat.le_refl _) ⟨_,e1⟩
 refine I1.laid (a:=s.heap.objs.size + 1) (o:=.ins C s.heap.objs.size []) (t':=s.toks) (fun b u q=>Heap.get?_push_of_some _ q) (Nat.le_of_eq (Heap.size_push _ _)) ?_
 have ne:s.heap.objs.size ≠ s.heap.objs.size + 1:=Nat.ne_of_lt (Nat.lt_succ_self _)
 refine ⟨by rw [aI ne,ak],Nat.zero_le _,ne,e2,fun _=>none,(Heap.Ns1.of_empty e3).at fun o q=>Heap.get?_push_of_some _ q,fun _=>True.intro,fun y hy=>absurd rfl hy⟩
theorem zo {prog:Program}{w:World}{env:Env}{e:Expr}{f:Str}{pos:Pos}{s:Shared}{Q:Value->Shared->Prop} (hb:attributeBase e f env (eval e env)=eval e env)
  (h:wpAny (model prog w) A (eval e env) (fun o s₁=>wpAny (model prog w) A (getAttr o f true) Q E s₁) E s):wpAny (model prog w) A (eval (.Attribute e f pos) env) Q E s :=
 Attribute_any_ h (by rw [arm_eval_Attribute,hb])
end
inductive xF (K:W.Frag) (f:Str) (x:V) (H:Hp) (Q:VK):Prop
 | mk (a C dx:Addr) (fs:List (Str × V)) (v:V) (h0:x=.ref a) (h1:H a=some (.ins C dx fs)) (h2:Cls K C) (h3:aC K C f) (h4:fs.lookup f=some v) (q:Q v H):xF K f x H Q
def Dz (K:W.Frag) (ta:TE) (f:Str):TE:=fun σ H Q=>ta σ H fun x H1=>xF K f x H1 Q
inductive zV (K:W.Frag) (f:Str) (y x:V) (H:Hp) (Q:Hp->Prop):Prop
 | mk (a C dx:Addr) (fs:List (Str × V)) (h0:x=.ref a) (h1:H a=some (.ins C dx fs)) (h2:Cls K C) (h3:aC K C f) (h4:fs.length < 1000) (q:Q (upd H a (.ins C dx (fe f y fs)))):zV K f y x H Q
def DB (K:W.Frag) (ta tv:TE) (f:Str):TS:=fun D σ H=>tv σ H fun y H1=>ta σ H1 fun x H2=>zV K f y x H2 (D.nx σ)
section
variable {X:Cx}{o e value:Expr}{f:Str}{pos pos' tpos:Pos}{ta tv:TE}
theorem cq (he:PE X e ta) (hb:attributeBase e f X.env (eval e X.env)=eval e X.env):PE X (.Attribute e f pos) (Dz X.K ta f):=by
 intro pins s σ H Q I h
 refine zo hb (thn (he pins s σ H _ I h) fun u s1 ⟨x,H1,I1,rx,a,C,dx,fs,v,ex,ea,c,n,l,q⟩=>?_)
 subst ex
 obtain rfl:u=Value.ref a:=rx
 exact sZ I1 ea c n l fun u' s2 I2 ru=>⟨v,H1,I2,ru,q⟩
theorem aQ (ha:PE X o ta) (hv:PE X value tv) (hs:swapsWith value (some (.Attribute o f pos')) pos.line X.env=pure false):PS X (.Assign [.Attribute o f pos'] value pos) (DB X.K ta tv f):=by
 intro pins s σ H D I h
 refine plainObj_wpAny_Assign_Attribute (thn (hv pins s σ H _ I h) fun u s1 ⟨y,H1,I1,ry,q⟩=>thn (ha pins s1 σ H1 _ I1 q) fun ov s2 ⟨x,H2,I2,rx,a,C,dx,fs,ex,ea,c,n,l,q2⟩=>?_) hs
 subst ex
 obtain rfl:ov=Value.ref a:=rx
 exact tG I2 ea c n l ry fun s3 I3=>⟨σ,_,I3,q2⟩
end
section
variable {X:Cx}{pins:List (Addr × Obj)}{σ:St}{H:Hp}{s:Shared}{A:Around}{E:Value->Shared->Prop}{Q:Value->Shared->Prop}{c:Value}{b:Bool}
inductive jJ (K:W.Frag) (H:Hp):V->Value->Prop where
 | non:jJ K H .non (.type "NoneType")
 | bl (x:Bool):jJ K H (.bl x) (.type "bool")
 | int (i:Int):jJ K H (.int i) (.type "int")
 | str (x:Str):jJ K H (.str x) (.type "str")
 | flt (x:UInt64):jJ K H (.flt x) (.type "float")
 | lst {a:Addr}{xs:List V} (e:H a=some (.lst xs)):jJ K H (.ref a) (.type "list")
 | frz {a:Addr}{o:Obj}{xs:List V} (e:H a=some (.frz o (.lst xs))):jJ K H (.ref a) (.type "list")
 | tup {a:Addr}{xs:List V} (e:H a=some (.tup xs)):jJ K H (.ref a) (.type "tuple")
 | dK {a:Addr}{kvs:List (Key × V)} (e:H a=some (.dK kvs)):jJ K H (.ref a) (.type "dict")
 | dT {a:Addr}{kvs:List (List Key × V)} (e:H a=some (.dT kvs)):jJ K H (.ref a) (.type "dict")
 | ins {a C dx:Addr}{fs:List (Str × V)} (e:H a=some (.ins C dx fs)) (cl:Cls K C) (ha:W.findIn K (.ref C) "__class__"=some (some (.builtin "object.__class__")))
   (hn:W.specialIn K (.builtin "object.__class__") "__get__"=some (some (.builtin "getset_descriptor.__get__"))) (htk:W.takesIn K (.builtin "object.__class__")=some true)
   (hm:W.mroIn K C (.type "object")=some true):jJ K H (.ref a) (.ref C)
theorem u3 {x:V}{u t:Value} (I:Inv X pins σ H s) (rx:RelV x u) (ty:jJ X.K H x t) (e:W.kitOne X.K t c=some b) (h:∀tk,Q (.bool b) { s with toks:=tk }) :
  wpAny (model X.prog X.w) A (call (.builtin "isinstance") [u,c]) Q E s:=by
 cases ty with
 | non=>cases (show u=Value.none from rx);exact W.kia_one W.kitx_none I.kIn True.intro e (fun z=>nomatch z) h
 | bl y=>cases (show u=Value.bool y from rx);exact W.kia_one W.kitx_bool I.kIn True.intro e (fun z=>nomatch z) h
 | int i=>obtain ⟨t,q⟩:=(show ∃t,u=Value.int i t from rx);cases q;exact W.kia_one W.kitx_int I.kIn True.intro e (fun z=>nomatch z) h
 | str y=>obtain ⟨t,q⟩:=(show ∃t,u=Value.str y t from rx);cases q;exact W.kia_one W.kitx_str I.kIn True.intro e (fun z=>nomatch z) h
 | flt y=>obtain ⟨t,q⟩:=(show ∃t,u=Value.float y t from rx);cases q;exact W.kia_one W.kitx_float I.kIn True.intro e (fun z=>nomatch z) h
 | @lst a xs ea =>
  cases (show u=Value.ref a from rx)
  obtain ⟨_,_,n,_,h1⟩:=(show bI X.prog X.w H s.heap a (.lst xs) from I.hok a _ ea)
  exact W.kia_one W.kitx_list I.kIn ⟨_,h1,rfl⟩ e (fun z=>nomatch z) h
 | @frz a ob xs ea =>
  cases (show u=Value.ref a from rx)
  obtain ⟨_,_,_,n,_,h1⟩:=(show bI X.prog X.w H s.heap a (.frz ob (.lst xs)) from I.hok a _ ea)
  exact W.kia_one W.kitx_list I.kIn ⟨_,h1,rfl⟩ e (fun z=>nomatch z) h
 | @tup a xs ea =>
  cases (show u=Value.ref a from rx)
  obtain ⟨_,_,_,p⟩:=(show bI X.prog X.w H s.heap a (.tup xs) from I.hok a _ ea)
  obtain ⟨o,h1,h2,_⟩:=p
  exact W.kia_one W.kitx_tuple I.kIn ⟨o,h1,h2⟩ e (fun z=>nomatch z) h
 | @dK a kvs ea =>
  cases (show u=Value.ref a from rx)
  obtain ⟨_,_,vs,_,p⟩:=(show bI X.prog X.w H s.heap a (.dK kvs) from I.hok a _ ea)
  obtain ⟨o,es,ep,h1,h2,_⟩:=p
  exact W.kia_one W.kitx_dict I.kIn ⟨o,h1,h2.1⟩ e (fun z=>nomatch z) h
 | @dT a kvs ea =>
  cases (show u=Value.ref a from rx)
  obtain ⟨_,_,xs,_,o,es,ep,h1,h2,_⟩:=(show bI X.prog X.w H s.heap a (.dT kvs) from I.hok a _ ea)
  exact W.kia_one W.kitx_dict I.kIn ⟨o,h1,h2.1⟩ e (fun z=>nomatch z) h
 | @ins a C dx fs ea cl ha hn htk hm =>
  cases (show u=Value.ref a from rx)
  obtain ⟨mA,O,_⟩:=qc I.hok ea
  obtain ⟨od,J,_⟩:=O.look
  exact W.kia_one (W.kitx_own (cl.get _) cl.hd ha hn htk hm) I.kIn J e (fun z=>nomatch z) h
end
end L2
namespace L2
open PySem PySem.Spec PyProof.Rows
structure cQ (k:Nat) (A:Around):Prop where
 hd:A.handled=none
 dp:A.depth + 3 * k + 5 < recursionLimit
 un:A.units + 16 * k + 200 < cLine
theorem cQ.mono {j k:Nat}{A:Around} (r:cQ k A) (h:j <= k):cQ j A:=⟨r.hd,by have:=r.dp;omega,by have:=r.un;omega⟩
theorem cQ.deeper {k:Nat}{A:Around} (r:cQ (k + 1) A) (env:Env):cQ k (A.deeper env) :=
 ⟨r.hd,by have:=r.dp;show A.depth + 1 + 3 * k + 5 < _;omega,by have:=r.un;show A.units + 3 + 16 * k + 200 < _;omega⟩
theorem sy {A:Around}{C:Addr}{us:List Value}{kw:List (Str × Value)}:(A.under (.builtin "type.__call__" ⟨.ref C :: us,kw⟩)).depth=A.depth + 1:=by
 first | rfl | simp [Around.under,Code.weight,Code.isCreation,Code.isGuard,Code.isCaller,Code.frames,Code.isFrame,guardIds]
theorem rV {A:Around}{C:Addr}{us:List Value}{kw:List (Str × Value)}:(A.under (.builtin "type.__call__" ⟨.ref C :: us,kw⟩)).units=A.units + 1:=by
 first | rfl | simp [Around.under,Code.cUnits,Code.frames,Code.isFrame]
theorem cQ.make {k:Nat}{A:Around} (r:cQ (k + 1) A) (C:Addr) (us:List Value) (kw:List (Str × Value)):cQ k (A.under (.builtin "type.__call__" ⟨.ref C :: us,kw⟩)) :=
 ⟨r.hd,by have:=r.dp;rw [sy];omega,by have:=r.un;rw [rV];omega⟩
theorem cQ.depth {k:Nat}{A:Around} (r:cQ k A):A.depth < recursionLimit:=by have:=r.dp;omega
theorem cQ.units {k:Nat}{A:Around} (r:cQ k A):A.units + 64 < cLine:=by have:=r.un;omega
def Dg:TA:=fun _ H Q=>Q [] H
def CW (ta:TE) (tr:TA):TA:=fun σ H Q=>ta σ H fun x H1=>tr σ H1 fun xs H2=>Q (x :: xs) H2
section
variable {X:Cx}{e:Expr}{es:List Expr}{te:TE}{t:TA}{pos:Pos}
theorem ae:PA X [] Dg:=fun _ _ _ _ H Q I h=>Calls.spliced_nil ⟨[],H,I,.nil,h⟩
theorem aa (ha:PE X e te) (hr:PA X es t) (hs:starEach (e :: es) X.env=(false,eval e X.env) :: starEach es X.env:=by rfl):PA X (e :: es) (CW te t):=by
 intro pos pins s σ H Q I h
 rw [hs]
 show wpAny _ _ (spliced ((false,eval e X.env) :: backTo pos (starEach es X.env))) _ _ s
 refine Calls.spliced_cons (thn (ha pins s σ H _ I h) fun u s1 ⟨x,H1,I1,r1,q1⟩=>?_)
 exact thn (hr pos pins s1 σ H1 _ I1 q1) fun us s2 ⟨xs,H2,I2,r2,q2⟩=>⟨x :: xs,H2,I2,.cons r1 r2,q2⟩
def Dx (t:TA):TE:=fun σ H Q=>t σ H fun xs H1=>xs.length <= sizeLine/\∀p,H1 p=none->Q (.ref p) (upd H1 p (.tup xs))
def Dq (t:TA):TE:=fun σ H Q=>t σ H fun xs H1=>xs.length <= sizeLine/\∀p,H1 p=none->Q (.ref p) (upd H1 p (.lst xs))
theorem aO {x1} (h:PA X es t):PE X (.Tuple es x1 pos) (Dx t):=by
 intro pins s σ H Q I hq
 refine wpAny_Tuple_spliced (thn (h pos pins s σ H _ I hq) fun us s1 ⟨xs,H1,I1,r,z,q⟩=>⟨by rw [<- r.length];exact z,?_⟩)
 have hf:H1 s1.heap.objs.size=none:=I1.hok.fresh (Nat.le_refl _)
 refine ⟨.ref s1.heap.objs.size,upd H1 s1.heap.objs.size (.tup xs),I1.laid (t':=s1.toks) (fun b u e=>Heap.get?_push_of_some _ e) (Nat.le_refl _) ?_,rfl,q _ hf⟩
 exact ⟨z,us,r,⟨_,Heap.get?_push_size _ rfl,rfl,_,rfl⟩⟩
theorem aL (h:PA X es t):PE X (.List es pos) (Dq t):=by
 intro pins s σ H Q I hq
 refine wpAny_List_spliced (thn (h pos pins s σ H _ I hq) fun us s1 ⟨xs,H1,I1,r,z,q⟩=>⟨by rw [<- r.length];exact z,?_⟩)
 have hf:H1 s1.heap.objs.size=none:=I1.hok.fresh (Nat.le_refl _)
 refine ⟨.ref s1.heap.objs.size,upd H1 s1.heap.objs.size (.lst xs),I1.laid (t':=s1.toks) (fun b u e=>Heap.get?_push_of_some _ e) (Nat.le_refl _) ?_,rfl,q _ hf⟩
 exact ⟨z,us,0,r,Heap.get?_push_size _ rfl⟩
end
abbrev Sp:=List V->Hp->VK->XK->Prop
abbrev CXT:=List Env->Hp->Shared->XK->Value->Shared->Prop
structure rZ (P:Program) (w:World) (K:W.Frag) (mg:Str->Option Value) (base:Heap) (A:Around) (outer:List Env) (s:Shared) (H:Hp):Prop where
 frames:A.frames=some outer
 mod:Mod K mg base
 bs:∀b o,base.get? b=some o->s.heap.get? b=some o/\H b=none
 bsz:base.objs.size <= s.heap.objs.size
 lN:s.heap.FunFrames base outer
 frf:∀b ∈ frs outer,H b=none
 hok:HOk P w H s.heap
 bare:AllBare s.gens
def CE (outer:List Env) (P:Program) (w:World) (H:Hp) (s:Shared) (Q:VK) (u:Value) (s':Shared):Prop :=
 ∃v H',s'.os=s.os/\AllBare s'.gens/\Un (frs outer) [] H H' s.heap s'.heap/\HOk P w H' s'.heap/\RelV v u/\Q v H'
def CR (CX:CXT) (outer:List Env) (P:Program) (w:World) (H:Hp) (s:Shared) (Q:VK) (E:XK) (r:Result) (s':Shared):Prop :=
 match r with
 | .ok (.ret u)=>CE outer P w H s Q u s'
 | .ok _=>False
 | .error e=>CX outer H s E e s'
structure kE (P:Program) (w:World) (K:W.Frag) (mg:Str->Option Value) (base:Heap) (CX:CXT) (k:Nat) (f:Addr) (fd:FuncData) (ps:List Str) (sp:Sp):Prop where
 len:∀vs H Q E,sp vs H Q E->vs.length=ps.length
 run:∀(A:Around) (outer:List Env) (s:Shared) (H:Hp) (args:Args) (us:List Value) (vs:List V) (Q:VK) (E:XK),cQ k A->rZ P w K mg base A outer s H->BindsTo s fd args (ps.zip us)->Vals vs us->sp vs H Q E ->
  codeAny (model P w) A (.call (.ref f) args) (CR CX outer P w H s Q E) s
theorem rZ.make {P:Program}{w:World}{K:W.Frag}{mg:Str->Option Value}{base:Heap}{A:Around}{outer:List Env}{s:Shared}{H:Hp} (e:rZ P w K mg base A outer s H) (C:Addr) (us:List Value) (kw:List (Str × Value)) :
  rZ P w K mg base (A.under (.builtin "type.__call__" ⟨.ref C :: us,kw⟩)) outer s H:=⟨by first | exact e.frames | (simpa [Around.under,Code.envs,Code.isFrame,pushEnvs] using e.frames),e.mod,e.bs,e.bsz,e.lN,e.frf,e.hok,e.bare⟩
section
variable {X:Cx}{pins:List (Addr × Obj)}{σ:St}{H:Hp}{s s':Shared}
theorem Inv.w4 (I:Inv X pins σ H s):rZ X.prog X.w X.K X.mg X.base X.A X.stack s H :=
 ⟨I.ok.frames,I.ok.mod,I.bs,Nat.le_trans I.ok.bsz I.sz,I.stack,I.tQ,I.hok,I.bare⟩
theorem Inv.after {Q:VK}{u:Value} (I:Inv X pins σ H s) (h:CE X.stack X.prog X.w H s Q u s'):EP X pins σ Q u s':=by
 obtain ⟨v,H',os,bare,un,hok,r,q⟩:=h
 obtain ⟨hh,g,d,t,os'⟩:=s'
 obtain rfl:os'=s.os:=os
 exact ⟨v,H',I.call (h':=hh) (g':=g) (d':=d) (t':=t) (ch:=[]) un hok bare (fun b z=>absurd z (by simp)),r,q⟩
end
def xE (sp:Sp) (dvs:List V) (E:XK) (t:TA):TE:=fun σ H Q=>t σ H fun vs H1=>sp (vs ++ dvs) H1 Q E
inductive Dw (C:Addr) (m:Str) (x:V) (H:Hp) (R:Prop):Prop
 | mk (a dx:Addr) (fs:List (Str × V)) (h0:x=.ref a) (h1:H a=some (.ins C dx fs)) (h2:fs.lookup m=none) (q:R):Dw C m x H R
def zC (C:Addr) (sp:Sp) (dvs:List V) (E:XK) (t:TA):TE:=fun σ H Q=>t σ H fun vs H1=>∀x dx,H1 x=none->H1 dx=none->dx ≠ x ->
 sp (.ref x :: (vs ++ dvs)) (upd (upd H1 dx (.own x)) x (.ins C dx [])) (fun v H2=>v=.non/\Q (.ref x) H2) E
def Binds (K:W.Frag) (fd:FuncData) (ps:List Str) (ds:List Value):Prop :=
 ∀(s:Shared) (us:List Value),K.In s.heap->(us ++ ds).length=ps.length->BindsTo s fd ⟨us,[]⟩ (ps.zip (us ++ ds))
theorem Binds.all {K:W.Frag}{fd:FuncData}{ps:List Str} (h:∀us:List Value,us.length=ps.length->bindArgs fd ⟨us,[]⟩=pure (ps.zip us)):Binds K fd ps []:=fun s us _ hl=>by
 rw [List.append_nil] at hl ⊢
 exact .of_eq (h us hl)
def Passes (CX:CXT) (X:Cx) (E:XK):Prop:=∀(pins:List (Addr × Obj)) (σ:St) (H:Hp) (s:Shared) (e:Value) (s':Shared),Inv X pins σ H s->CX X.stack H s E e s'->X.xe e s'
section
variable {X:Cx}{CX:CXT}{k:Nat}{f C:Addr}{fd:FuncData}{ps:List Str}{sp:Sp}{dvs:List V}{ds:List Value}{E:XK}{x m:Str}{p pos apos:Pos}{e o:Expr}{es:List Expr}{ta:TE}{t:TA}
theorem xk {pins:List (Addr × Obj)}{σ:St}{H:Hp}{s:Shared}{Q:VK}{us:List Value}{vs:List V} (F:kE X.prog X.w X.K X.mg X.base CX k f fd ps sp) (hr:cQ k X.A) (hb:Binds X.K fd ps ds) (hd:Vals dvs ds) (hx:Passes CX X E)
  (I:Inv X pins σ H s) (r:Vals vs us) (h:sp (vs ++ dvs) H Q E):wpAny (model X.prog X.w) X.A (call (.ref f) us) (EP X pins σ Q) X.xe s:=by
 have r2:Vals (vs ++ dvs) (us ++ ds):=r.append hd
 have hl:(us ++ ds).length=ps.length:=by rw [<- r2.length];exact F.len _ _ _ _ h
 refine wpAny_call (codeAny_mono (F.run X.A X.stack s H ⟨us,[]⟩ (us ++ ds) (vs ++ dvs) Q E hr I.w4 (hb s us I.kIn hl) r2 h) fun r s' hq=>?_)
 cases r with
 | error e=>exact hx pins σ H s e s' I hq
 | ok fl =>
  cases fl with
  | ret u=>exact I.after hq
  | next=>exact False.elim hq
  | brk=>exact False.elim hq
  | cont=>exact False.elim hq
theorem zp (F:kE X.prog X.w X.K X.mg X.base CX k f fd ps sp) (hr:cQ k X.A) (hg:Gl X x) (hm:X.mg x=some (.ref f)) (hk:W.keepIn X.K (.ref f)=true) (hb:Binds X.K fd ps ds) (hd:Vals dvs ds) (hx:Passes CX X E)
  (ha:PA X (e :: es) t) (hdb:(x == ("__debug__":Str))=false:=by decide) (he:starEach (e :: es) X.env=(false,eval e X.env) :: starEach es X.env:=by rfl) (hpl:(backTo pos (starEach es X.env)).any (·.1)=false:=by rfl) :
  PE X (.Call (.Name x p) (e :: es) [] pos) (xE sp dvs E t):=by
 intro pins s σ H Q I h
 refine wpAny_Call_Name_kw (lY I hg hm ?_ hdb)
 refine W.callWith_K (h₀:=X.base) I.ok.mod.kin hk (thn (ha pos pins s σ H _ I h) fun us s1 ⟨vs,H1,I1,r,q⟩=>⟨I1.kIn,?_⟩) he hpl
 exact xk F hr hb hd hx I1 r q
structure Mk (K:W.Frag) (C f:Addr):Prop where
 makes:W.makesIn K C=true
 init:W.findIn K (.ref C) "__init__"=some (some (.ref f))
 fn:W.isFn K (.ref f)=true
 kp:W.keepIn K (.ref C)=true
theorem yi {pins:List (Addr × Obj)}{σ:St}{H:Hp}{s:Shared}{Q:VK}{us:List Value}{vs:List V} (M:Mk X.K C f) (F:kE X.prog X.w X.K X.mg X.base CX k f fd ps sp) (hr:cQ (k + 1) X.A) (hb:Binds X.K fd ps ds) (hd:Vals dvs ds)
  (hx:Passes CX X E) (I:Inv X pins σ H s) (r:Vals vs us)
  (h:∀x dx,H x=none->H dx=none->dx ≠ x->sp (.ref x :: (vs ++ dvs)) (upd (upd H dx (.own x)) x (.ins C dx [])) (fun v H2=>v=.non/\Q (.ref x) H2) E) :
  wpAny (model X.prog X.w) X.A (call (.ref C) us) (EP X pins σ Q) X.xe s:=by
 have hq:=h (s.heap.objs.size + 1) s.heap.objs.size (I.hok.fresh (Nat.le_succ _)) (I.hok.fresh (Nat.le_refl _)) (Nat.ne_of_lt (Nat.lt_succ_self _))
 have I2:=Inv.made (C:=C) I
 have r2:Vals (V.ref (s.heap.objs.size + 1) :: (vs ++ dvs)) (Value.ref (s.heap.objs.size + 1) :: (us ++ ds)):=.cons rfl (r.append hd)
 have hl:(Value.ref (s.heap.objs.size + 1) :: us ++ ds).length=ps.length:=by
  have e:=r2.length
  rw [F.len _ _ _ _ hq] at e
  exact e.symm
 refine wpAny_call (xC (f:=f) I.kIn M.makes M.init (beq_iff_eq.mp M.fn) (codeAny_mono (F.run _ X.stack _ _ ⟨Value.ref (s.heap.objs.size + 1) :: us,[]⟩ (Value.ref (s.heap.objs.size + 1) :: (us ++ ds)) _ _ E (hr.make C us [])
  (I2.w4.make C us []) (hb _ (Value.ref (s.heap.objs.size + 1) :: us) I2.kIn hl) r2 hq) fun r s' hq'=>?_))
 cases r with
 | error e=>exact hx pins σ _ _ e s' I2 hq'
 | ok fl =>
  cases fl with
  | ret u =>
   obtain ⟨v,H',I3,rv,ev,q3⟩:=I2.after hq'
   subst ev
   exact ⟨rv,⟨V.ref (s.heap.objs.size + 1),H',I3,rfl,q3⟩⟩
  | next=>exact False.elim hq'
  | brk=>exact False.elim hq'
  | cont=>exact False.elim hq'
theorem yr (M:Mk X.K C f) (F:kE X.prog X.w X.K X.mg X.base CX k f fd ps sp) (hr:cQ (k + 1) X.A) (hg:Gl X x) (hm:X.mg x=some (.ref C)) (hb:Binds X.K fd ps ds) (hd:Vals dvs ds) (hx:Passes CX X E)
  (ha:PA X (e :: es) t) (hdb:(x == ("__debug__":Str))=false:=by decide) (he:starEach (e :: es) X.env=(false,eval e X.env) :: starEach es X.env:=by rfl) (hpl:(backTo pos (starEach es X.env)).any (·.1)=false:=by rfl) :
  PE X (.Call (.Name x p) (e :: es) [] pos) (zC C sp dvs E t):=by
 intro pins s σ H Q I h
 refine wpAny_Call_Name_kw (lY I hg hm ?_ hdb)
 refine W.callWith_K (h₀:=X.base) I.ok.mod.kin M.kp (thn (ha pos pins s σ H _ I h) fun us s1 ⟨vs,H1,I1,r,q⟩=>⟨I1.kIn,?_⟩) he hpl
 exact yi M F hr hb hd hx I1 r q
end
section
variable {X:Cx}{CX:CXT}{k:Nat}{f C:Addr}{fd:FuncData}{ps ks:List Str}{sp:Sp}{E:XK}{x m:Str}{p pos apos kpos:Pos}{e o:Expr}{es:List Expr}{kws:List Keyword}{te ta:TE}{t tk:TA}{nm:Option Str}
structure KBinds (K:W.Frag) (fd:FuncData) (ps ks:List Str) (g:List Value->List Value->List Value) (gV:List V->List V->List V):Prop where
 to:∀(s:Shared) (us ws:List Value),K.In s.heap->(g us ws).length=ps.length->BindsTo s fd ⟨us,ks.zip ws⟩ (ps.zip (g us ws))
 rel:∀{vs:List V}{us:List Value}{zs:List V}{ws:List Value},Vals vs us->Vals zs ws->Vals (gV vs zs) (g us ws)
variable {g:List Value->List Value->List Value}{gV:List V->List V->List V}
end
structure az (N P:List Str) (sc:Scope):Prop where
 kind:sc.kind=.function
 co:sc.isCoroutine=false
 gen:sc.isGenerator=false
 nd:N.Nodup
 pre:N.take P.length=P
 par:∀x ∈ P,sc.names.lookup x=some .local \/ sc.names.lookup x=some .cell
 As:∀y ∈ sc.names,y.2 ≠ .free
theorem nY {kindOf:Str->Option NameKind}{x:Str}:∀{binds:List (Str × Value)}{m:Str->Option Value},(∀v,(x,v) ∉ binds)->bindL kindOf binds m x=m x
 | [],_,_=>rfl
 | (n,v) :: r,m,h=>by
  unfold bindL
  rw [nY fun w hw=>h w (List.mem_cons_of_mem _ hw)]
  split
  ·have:x ≠ n:=by rintro rfl;exact h v List.mem_cons_self
   simp [this]
  ·rfl
theorem oy {kindOf:Str->Option NameKind}{x:Str}:∀{binds:List (Str × Value)}{m:Str->Option Value},(∀v,(x,v) ∉ binds)->bindC kindOf binds m x=m x
 | [],_,_=>rfl
 | (n,v) :: r,m,h=>by
  unfold bindC
  rw [oy fun w hw=>h w (List.mem_cons_of_mem _ hw)]
  split
  ·rfl
  ·have:x ≠ n:=by rintro rfl;exact h v List.mem_cons_self
   simp [this]
theorem oQ {kindOf:Str->Option NameKind}{x:Str}{v:Value}:∀{P:List Str}{vs:List Value}{i:Nat}{m:Str->Option Value},P.Nodup->P[i]?=some x->vs[i]?=some v->kindOf x=some .local ->
  bindL kindOf (P.zip vs) m x=some v
 | [],_,_,_,_,h,_,_=>by simp at h
 | _ :: _,[],_,_,_,_,h,_=>by simp at h
 | p :: P,w :: vs,0,m,nd,h1,h2,hk=>by
  simp at h1 h2;subst h1;subst h2
  show bindL kindOf ((p,w) :: P.zip vs) m p=_
  unfold bindL
  rw [nY fun v hv=>(List.nodup_cons.mp nd).1 (List.of_mem_zip hv).1,if_pos hk]
  simp
 | p :: P,w :: vs,i + 1,m,nd,h1,h2,hk=>by
  show bindL kindOf ((p,w) :: P.zip vs) m x=_
  unfold bindL
  exact oQ (i:=i) (List.nodup_cons.mp nd).2 (by simpa using h1) (by simpa using h2) hk
theorem oJ {kindOf:Str->Option NameKind}{x:Str}{v:Value}:∀{P:List Str}{vs:List Value}{i:Nat}{m:Str->Option Value},P.Nodup->P[i]?=some x->vs[i]?=some v->kindOf x ≠ some .local ->
  bindC kindOf (P.zip vs) m x=some v
 | [],_,_,_,_,h,_,_=>by simp at h
 | _ :: _,[],_,_,_,_,h,_=>by simp at h
 | p :: P,w :: vs,0,m,nd,h1,h2,hk=>by
  simp at h1 h2;subst h1;subst h2
  show bindC kindOf ((p,w) :: P.zip vs) m p=_
  unfold bindC
  rw [oy fun v hv=>(List.nodup_cons.mp nd).1 (List.of_mem_zip hv).1,if_neg hk]
  simp
 | p :: P,w :: vs,i + 1,m,nd,h1,h2,hk=>by
  show bindC kindOf ((p,w) :: P.zip vs) m x=_
  unfold bindC
  exact oJ (i:=i) (List.nodup_cons.mp nd).2 (by simpa using h1) (by simpa using h2) hk
def start (N:List Str) (vs:List V):St:=vs.map some ++ List.replicate (N.length - vs.length) none
def rO (CX:CXT) (P:Program) (w:World) (K:W.Frag) (mg:Str->Option Value) (base:Heap) (N:List Str) (qual:Str) (scope:Scope) (f:Addr) (cd:Value) (A:Around) (outer:List Env) (s:Shared) (H:Hp) (E:XK):Cx where
 prog:=P
 w:=w
 K:=K
 mg:=mg
 base:=base
 A:=A.deeper (envOfC qual scope s.heap.objs.size f cd)
 N:=N
 s₀:=s
 H₀:=H
 env:=envOfC qual scope s.heap.objs.size f cd
 outer:=outer
 stack:=envOfC qual scope s.heap.objs.size f cd :: outer
 ex:=[]
 calm:=true
 fn:=fun _=>true
 pn:=[]
 xe:=fun e s'=>wpAny (model P w) (A.deeper (envOfC qual scope s.heap.objs.size f cd)) (leaving (envOfC qual scope s.heap.objs.size f cd) e) (fun _ s''=>CX outer H s E e s'') (fun e' s''=>CX outer H s E e' s'') s'
theorem rQ {sc:Scope}{n:Nat}{x:Str} (h:sc.names.lookup x=some .cell):∃c,(cellsFrom n sc.names []).lookup x=some c:=by
 have q:=W.cellsFrom_some sc.names n [] (.inl h)
 exact Option.isSome_iff_exists.mp q
theorem vA {CX:CXT}{P:Program}{w:World}{K:W.Frag}{mg:Str->Option Value}{base:Heap}{N ps:List Str}{qual:Str}{scope:Scope}{f:Addr}{cd:Value}{A:Around}{outer:List Env}{s s1:Shared}{H:Hp}{E:XK}{us:List Value}{vs:List V}
  (S:az N ps scope) (hd:A.handled=none) (e0:rZ P w K mg base A outer s H) (hl:vs.length=ps.length) (r:Vals vs us)
  (x:InCallC s s.heap.objs.size (bindL (envOfC qual scope s.heap.objs.size f cd).kindOf (ps.zip us) fun _=>none) (cellsFrom (s.heap.objs.size + 1) scope.names []) (bindC (envOfC qual scope s.heap.objs.size f cd).kindOf (ps.zip us) fun _=>none) s1) :
  Inv (rO CX P w K mg base N qual scope f cd A outer s H E) [] (start N vs) H s1:=by
 have hpl:ps.length <= N.length:=by have:=congrArg List.length S.pre;rw [List.length_take] at this;omega
 obtain ⟨h1,tk,rfl,hk⟩:=x.done
 have noA:∀b:Addr,b ∉ (rO CX P w K mg base N qual scope f cd A outer s H E).ex:=fun b z=>absurd (show b ∈ ([]:List Addr) from z) (by simp)
 refine ⟨⟨e0.mod,S.kind,rfl,rfl,Nat.le_refl _,fun y z c h1 h2=>?_,fun y hy=>?_,fun y c _ h=>?_,fun _=>hd,Around.frames_deeper e0.frames,.inr ⟨rfl,rfl⟩,fun b z=>absurd z (noA b),e0.bs,e0.bsz,fun b _ _=>noA b,fun b z=>absurd z (noA b),e0.lN,e0.frf⟩,
  rfl,e0.bare,Un.kept hk,⟨_,x.toInCall.ns,fun i y v h1 h2 h3=>?_⟩,fun y c h=>⟨_,x.cell y c h⟩,e0.hok.fresh (Nat.le_refl _),fun y c h=>?_,fun p hp=>absurd (show p ∈ ([]:List (Addr × Obj)) from hp) (by simp),e0.hok.kept hk,?_⟩
 ·exact name_of_addr x.apart (PySem.mem_of_lookup h1) (PySem.mem_of_lookup h2)
 ·have hy:scope.names.lookup y=some .cell \/ scope.names.lookup y=some .free:=hy
  rcases hy with hy | hy
  ·exact rQ hy
  ·exact absurd rfl (S.As _ (PySem.mem_of_lookup hy))
 ·exact Nat.le_of_lt (x.above y c (PySem.mem_of_lookup h))
 ·have hi:i < vs.length:=by
   unfold start at h2
   by_cases hi:i < vs.length
   ·exact hi
   ·rw [List.getElem?_append_right (by simpa using hi)] at h2
    rw [List.getElem?_replicate] at h2
    split at h2 <;> cases h2
  have ha:vs[i]?=some v:=by
   unfold start at h2
   rw [List.getElem?_append_left (by simpa using hi),List.getElem?_map] at h2
   cases e:vs[i]? with
   | none=>rw [e] at h2;cases h2
   | some a=>rw [e] at h2;cases h2;rfl
  obtain ⟨u,hu,rv⟩:=r.get ha
  have hp:ps[i]?=some y:=by
   rw [<- S.pre,List.getElem?_take_of_lt (by omega)];exact h1
  have ndP:ps.Nodup:=by rw [<- S.pre];exact S.nd.sublist (List.take_sublist _ _)
  refine ⟨u,rv,?_⟩
  rcases S.par y (List.mem_of_getElem? hp) with k | k
  ·exact .inl ⟨k,oQ ndP hp hu k⟩
  ·obtain ⟨c,e⟩:=rQ (n:=s.heap.objs.size + 1) k
   refine .inr ⟨.inl k,c,e,?_⟩
   have q:=x.cell y c e
   rw [oJ ndP hp hu (by show scope.names.lookup y ≠ _;rw [k];decide)] at q
   exact q
 ·exact e0.hok.fresh (Nat.le_of_lt (x.above y c (PySem.mem_of_lookup h)))
 ·unfold start
  show _=N.length
  rw [List.length_append,List.length_map,List.length_replicate]
  omega
theorem B9 {CX:CXT}{P:Program}{w:World}{K:W.Frag}{mg:Str->Option Value}{base:Heap}{k:Nat}{f:Addr}{name qual:Str}{params:Arguments}{body:List Stmt}{scope:Scope}{dV kV doc pm cdv ct oc:Value}{an od:Option Addr}
  {osl:Array (Option Value)}{N ps:List Str}{sp:Sp} (lk:K.lookup f=some ⟨oc,od,.func (W.fnOf name qual params body scope dV kV doc pm an cdv ct),osl⟩) (hcd:W.codeIn K cdv qual=true) (S:az N ps scope)
  (len:∀vs H Q E,sp vs H Q E->vs.length=ps.length)
  (hbody:∀(A:Around) (outer:List Env) (s:Shared) (H:Hp) (vs:List V) (Q:VK) (E:XK),cQ k (A.deeper (envOfC qual scope s.heap.objs.size f cdv))->sp vs H Q E ->
   ∃t,PSs (rO CX P w K mg base N qual scope f cdv A outer s H E) body t/\t { nx:=fun _ H'=>Q .non H',rt:=Q } (start N vs) H) :
  kE P w K mg base CX (k + 1) f (W.fnOf name qual params body scope dV kV doc pm an cdv ct) ps sp:=by
 refine ⟨len,fun A outer s H args us vs Q E hr e0 hb r hsp=>?_⟩
 have hl:=len _ _ _ _ hsp
 have KX:K.In s.heap:=e0.mod.kin.keeps fun b o e=>(e0.bs b o e).1
 have lim:s.heap.NoLimit:=e0.mod.nolimit.keeps fun b o e=>(e0.bs b o e).1
 have hkind:∀y ∈ ps.zip us,scope.names.lookup y.1=some .local \/ (scope.names.lookup y.1=some .cell/\((cellsFrom (s.heap.objs.size + 1) scope.names []).lookup y.1).isSome=true):=fun ⟨n,v⟩ hy=>by
  rcases S.par n (List.of_mem_zip hy).1 with q | q
  ·exact .inl q
  ·exact .inr ⟨q,W.cellsFrom_some _ _ _ (.inl q)⟩
 refine codeAny_call_function hr.depth (KX _ _ lk) rfl S.co S.gen rfl (W.codeRec_of KX hcd) (hb _ _ _ _ ?_)
 refine wpAny_newFunctionEnv_cells S.kind hkind fun env he s1 x=>?_
 subst he
 refine ⟨lim.keeps x.toInCall.keep,codeAny_func ?_⟩
 obtain ⟨t,ht,hq⟩:=hbody A outer s H vs Q E (hr.deeper _) hsp
 have I:Inv (rO CX P w K mg base N qual scope f cdv A outer s H E) [] (start N vs) H s1:=vA S hr.hd e0 hl r x
 refine wpAny_mono (ht [] s1 (start N vs) H _ I hq) (fun fl s' hs=>?_) fun e s' hs=>hs
 have fin:∀{σ':St}{H':Hp}{v:V}{u:Value},Inv (rO CX P w K mg base N qual scope f cdv A outer s H E) [] σ' H' s'->RelV v u->Q v H'->CE outer P w H s Q u s' :=
  fun {σ' H' v u} J rv q=>⟨v,H',J.os,J.bare,J.base,J.hok,rv,q⟩
 cases fl with
 | ret u =>
  obtain ⟨v,σ',H',J,rv,q⟩:=hs
  exact fin J rv q
 | next =>
  obtain ⟨σ',H',J,q⟩:=hs
  exact fin (v:=V.non) (u:=Value.none) J rfl q
 | brk =>
  obtain ⟨_,_,_,q⟩:=hs
  exact False.elim q
 | cont =>
  obtain ⟨_,_,_,q⟩:=hs
  exact False.elim q
end L2
namespace L2
open PySem PySem.Spec PyProof.Rows
section
variable {X:Cx}{x:Str}{p pos:Pos}{e:Expr}{es:List Expr}{t:TA}{id T:String}{r:List V->Hp->VK->Prop}
def tCB (r:List V->Hp->VK->Prop) (t:TA):TE:=fun σ H Q=>t σ H fun vs H1=>r vs H1 Q
theorem xN (hc:b7 X (.builtin id) r) (hg:Gl X x) (hm:X.mg x=none) (hv:bootBuiltins x=some (.builtin id)) (ha:PA X (e :: es) t) (hn:x ≠ "__name__":=by decide) (hdb:(x == ("__debug__":Str))=false:=by decide)
  (he:starEach (e :: es) X.env=(false,eval e X.env) :: starEach es X.env:=by rfl) (hpl:(backTo pos (starEach es X.env)).any (·.1)=false:=by rfl):PE X (.Call (.Name x p) (e :: es) [] pos) (tCB r t):=by
 intro pins s σ H Q I h
 refine wpAny_Call_Name_kw (pE I hg hm hv ?_ hn hdb)
 exact PyProof.Rows.callWith_builtin1 (thn (ha pos pins s σ H _ I h) fun us s1 ⟨vs,H1,I1,r1,q1⟩=>hc pins s1 σ H1 vs us Q I1 r1 q1) he hpl
theorem vm (hc:b7 X (.type T) r) (hg:Gl X x) (hm:X.mg x=none) (hv:bootBuiltins x=some (.type T)) (ha:PA X (e :: es) t) (hn:x ≠ "__name__":=by decide) (hdb:(x == ("__debug__":Str))=false:=by decide)
  (he:starEach (e :: es) X.env=(false,eval e X.env) :: starEach es X.env:=by rfl) (hpl:(backTo pos (starEach es X.env)).any (·.1)=false:=by rfl):PE X (.Call (.Name x p) (e :: es) [] pos) (tCB r t):=by
 intro pins s σ H Q I h
 refine wpAny_Call_Name_kw (pE I hg hm hv ?_ hn hdb)
 exact PyProof.Rows.callWith_type1 (thn (ha pos pins s σ H _ I h) fun us s1 ⟨vs,H1,I1,r1,q1⟩=>hc pins s1 σ H1 vs us Q I1 r1 q1) he hpl
end
end L2
namespace HT
open PySem PyProof.Rows
section
open PySem.SeqAt
open PySem.AutoSeq1 (wpAny_loadPart')
open PySem.MeetsSeq PySem.MeetsSeq2 PySem.MeetsSeq3
end
section
variable {prog:Program}{w:World}{A:Around}{E:Value->Shared->Prop}{s:Shared}
def sIx (n d:Nat):Option Int->Nat
 | none=>d
 | some v=>if v < 0 then (v + (n:Int)).toNat else min v.toNat n
theorem Ac (n d:Nat) (hd:d <= n) (o:Option Int):sIx n d o <= n:=by
 cases o with
 | none=>exact hd
 | some v =>
  show (if v < 0 then (v + (n:Int)).toNat else min v.toNat n) <= n
  by_cases hv:v < 0
  ·rw [if_pos hv];omega
  ·rw [if_neg hv];exact Nat.min_le_right _ _
theorem uN (v:Int) (n d:Nat):(if v < 0 then max (v + (n:Int)) 0 else min v (n:Int))=((sIx n d (some v):Nat):Int):=by
 show (if v < 0 then max (v + (n:Int)) 0 else min v (n:Int))=(((if v < 0 then (v + (n:Int)).toNat else min v.toNat n):Nat):Int)
 by_cases hv:v < 0
 ·simp only [if_pos hv];omega
 ·simp only [if_neg hv];omega
theorem rW (lo hi:Option Int) (n:Nat):Builtin.Slice.sliceAdjust lo hi 1 (n:Int)=(((sIx n 0 lo:Nat):Int),((sIx n n hi:Nat):Int)):=by
 have h1:¬ ((1:Int) < 0):=by omega
 unfold Builtin.Slice.sliceAdjust
 simp only [h1,if_false]
 refine Prod.ext ?_ ?_
 ·cases lo with
  | none=>rfl
  | some v=>exact uN v n 0
 ·cases hi with
  | none=>rfl
  | some v=>exact uN v n n
theorem sT (i j:Nat):Builtin.Slice.slicePlaces (i:Int) (j:Int) 1=j - i:=by
 unfold Builtin.Slice.slicePlaces
 have h1:(1:Int) > 0:=by omega
 simp only [h1,if_true,Int.ediv_one]
 split <;> omega
theorem mC {v:Value}{o:Option Int}{Q:Option Int->Shared->Prop} (p:IsPart v o) (h:Q o s):wpAny (model prog w) A (Builtin.Slice.slicePartIndex v) Q E s:=by
 cases p with
 | none=>exact slicePart_none h
 | int i t=>exact slicePart_int h
theorem kC {sl:Addr}{vl vu:Value}{lo hi:Option Int}{n:Nat}{Q:Int × Int × Nat->Shared->Prop} (hs:s.heap.IsSliceOf sl vl vu .none) (pl:IsPart vl lo) (pu:IsPart vu hi)
  (h:Q (((sIx n 0 lo:Nat):Int),1,sIx n n hi - sIx n 0 lo) s):wpAny (model prog w) A (Builtin.Slice.sliceApplied (.ref sl) (pure (n:Int))) Q E s:=by
 obtain ⟨os,hos,hcs,hds⟩:=id hs
 unfold Builtin.Slice.sliceApplied Builtin.Slice.sliceFields
 refine wpAny_bind (wpAny_bind (wpAny_field hos hds (x:=vl) rfl (wpAny_bind (wpAny_field hos hds (x:=vu) rfl (wpAny_bind (wpAny_field hos hds (x:=.none) rfl (wpAny_pure ?_)))))))
 refine wpAny_bind (slicePart_none ?_)
 show wpAny _ _ (if ((1:Int) == 0)=true then _ else _) _ _ s
 rw [if_neg (by decide)]
 refine wpAny_bind (mC pl (wpAny_bind (mC pu (wpAny_bind (wpAny_pure ?_)))))
 show wpAny _ _ (match Builtin.Slice.sliceAdjust lo hi 1 (n:Int) with | (lo,hi)=>pure (lo,(1:Int),Builtin.Slice.slicePlaces lo hi 1)) _ _ s
 rw [rW lo hi n]
 show wpAny _ _ (pure (((sIx n 0 lo:Nat):Int),(1:Int),Builtin.Slice.slicePlaces ((sIx n 0 lo:Nat):Int) ((sIx n n hi:Nat):Int) 1)) _ _ s
 rw [sT]
 exact wpAny_pure h
theorem wx (xs:Array Value) (i k:Nat):((List.range k).filterMap fun (m:Nat)=>xs[((i:Int) + (m:Int) * 1).toNat]?).toArray=((xs.toList.drop i).take k).toArray:=by
 have e:(fun (m:Nat)=>xs[((i:Int) + (m:Int) * 1).toNat]?)=fun m=>xs[i + m]?:=by
  funext m
  have:((i:Int) + (m:Int) * 1).toNat=i + m:=by omega
  rw [this]
 rw [e]
 have:=pick_run xs i k
 rw [List.filterMap_map] at this
 have e2:((fun x=>xs[x]?) ∘ fun x=>i + x)=fun m=>xs[i + m]?:=rfl
 rw [e2] at this
 rw [this]
theorem jY {t sl:Addr}{items:Array Value}{vl vu:Value}{lo hi:Option Int}{Q:Value->Shared->Prop} (ht:IsTup s.heap t items) (hs:s.heap.IsSliceOf sl vl vu .none) (pl:IsPart vl lo) (pu:IsPart vu hi)
  (hw:¬ (sIx items.size 0 lo=0/\sIx items.size items.size hi=items.size))
  (h:Q (.ref s.heap.objs.size) { s with heap:=s.heap.push { cls:=.type "tuple",data:=.seq ((items.toList.drop (sIx items.size 0 lo)).take (sIx items.size items.size hi - sIx items.size 0 lo)).toArray } })
  (hsz:items.size <= sizeLine):wpAny (model prog w) A (getItem (.ref t) (.ref sl)) Q E s:=by
 have htake:sizeOk (.seq ((items.toList.drop (sIx items.size 0 lo)).take (sIx items.size items.size hi - sIx items.size 0 lo)).toArray):=by
  show ((items.toList.drop (sIx items.size 0 lo)).take (sIx items.size items.size hi - sIx items.size 0 lo)).toArray.size <= sizeLine
  rw [List.size_toArray,List.length_take,List.length_drop,Array.length_toList]
  omega
 have hj:sIx items.size items.size hi <= items.size:=Ac _ _ (Nat.le_refl _) hi
 obtain ⟨os,hos,hcs,hds⟩:=id hs
 have hTs:s.TypeIs (.ref sl) "slice":=⟨os,hos,hcs⟩
 unfold getItem
 try with_reducible refine wpAny_holding ?_
 first | refine wpAny_bind (wpAny_pure ?_) | skip
 refine wpAny_bind (wpAny_sequenceKey ht.typeIs (by decide) ?_)
 refine wpAny_bind (wpAny_callSpecial?_slot (name:=Str.ofString "__getitem__") ht.typeIs PyProof.Rows.slot_tuple_getitem
  (wpAny_call_entry PyProof.Rows.slot_tuple_getitem ht.typeIs entry_tuple_getitem ?_ (args_tuple_getitem _ _)))
 show wpAny _ _ (Builtin.Tuple.tupleItemsOf (.ref t) >>= _) _ _ s
 refine wpAny_bind (tupleItemsOf_ ht ?_)
 refine wpAny_bind (wpAny_typeOf hTs ?_)
 rw [if_pos (by decide)]
 refine wpAny_bind (kC hs pl pu ?_)
 have hno:¬ ((((sIx items.size 0 lo:Nat):Int) == 0 && (1:Int) == 1 && (sIx items.size items.size hi - sIx items.size 0 lo) == items.size)=true):=by
  intro q
  rw [Bool.and_eq_true,Bool.and_eq_true] at q
  have q1:((sIx items.size 0 lo:Nat):Int)=0:=eq_of_beq q.1.1
  have q2:sIx items.size items.size hi - sIx items.size 0 lo=items.size:=eq_of_beq q.2
  exact hw ⟨by omega,by omega⟩
 show wpAny _ _ (if (((sIx items.size 0 lo:Nat):Int) == 0 && (1:Int) == 1 && (sIx items.size items.size hi - sIx items.size 0 lo) == items.size)=true then _ else _) _ _ s
 rw [if_neg hno,wx]
 first
  | exact wpAny_bind (m:=Builtin.Tuple.tupleExact _) (wpAny_newObj_type (wpAny_pure ⟨_,rfl,wpAny_pure h⟩) htake)
  | exact wpAny_bind (m:=Builtin.Tuple.tupleExact _) (wpAny_newObj_type (wpAny_bind (wpAny_pure (wpAny_pure ⟨_,rfl,wpAny_pure h⟩))) htake)
  | exact wpAny_bind (wpAny_bind (m:=Builtin.Tuple.tupleExact _) (wpAny_newObj_type (wpAny_pure (wpAny_pure ⟨_,rfl,wpAny_pure h⟩)) htake))
  | exact wpAny_bind (wpAny_bind (m:=Builtin.Tuple.tupleExact _) (wpAny_newObj_type (wpAny_pure ⟨_,rfl,wpAny_pure h⟩) htake))
end
end HT
namespace L2
open PySem PySem.Spec PyProof.Rows
abbrev TO:=St->Hp->(Option Int->Hp->Prop)->Prop
def PO (X:Cx) (e:Option Expr) (t:TO):Prop :=
 ∀(pins:List (Addr × Obj)) (s:Shared) (σ:St) (H:Hp) (Q:Option Int->Hp->Prop),Inv X pins σ H s->t σ H Q ->
  wpAny (model X.prog X.w) X.A (evalPart e X.env) (fun u s'=>∃o H',Inv X pins σ H' s'/\IsPart u o/\Q o H') X.xe s
def yy:TO:=fun _ H Q=>Q none H
inductive Cm (x:V) (H:Hp) (Q:Option Int->Hp->Prop):Prop
 | mk (i:Int) (h:x=.int i) (q:Q (some i) H):Cm x H Q
def BX (t:TE):TO:=fun σ H Q=>t σ H fun x H1=>Cm x H1 Q
section
variable {X:Cx}{e:Expr}{te:TE}{lo hi:Option Expr}{tl th:TO}{pos p2:Pos}
theorem ue:PO X none yy:=by
 intro pins s σ H Q I h
 rw [evalPart_none]
 exact wpAny_pure ⟨none,H,I,.none,h⟩
theorem l7 (h:PE X e te):PO X (some e) (BX te):=by
 intro pins s σ H Q I hw
 rw [evalPart_some]
 refine thn (h pins s σ H _ I hw) fun u s1 ⟨x,H1,I1,r1,q1⟩=>?_
 obtain ⟨i,rfl,q⟩:=q1
 obtain ⟨t,rfl⟩:=r1
 exact ⟨some i,H1,I1,.int i t,q⟩
def SlR (X:Cx) (r:V->Option Int->Option Int->Hp->VK->Prop):Prop :=
 ∀(pins:List (Addr × Obj)) (s:Shared) (σ:St) (H:Hp) (x:V) (v vl vu:Value) (lo hi:Option Int) (sl:Addr) (Q:VK),Inv X pins σ H s->RelV x v->s.heap.IsSliceOf sl vl vu .none->IsPart vl lo->IsPart vu hi->r x lo hi H Q ->
  ∃T id,typeLookup (.type T) "__getitem__"=pure (some (.builtin id))/\s.TypeIs v T/\wpAny (model X.prog X.w) X.A (getItem v (.ref sl)) (EP X pins σ Q) X.xe s
theorem SlR.or {r r':V->Option Int->Option Int->Hp->VK->Prop} (h:SlR X r) (h':SlR X r'):SlR X (fun x lo hi H Q=>r x lo hi H Q \/ r' x lo hi H Q):=by
 intro pins s σ H x v vl vu lo hi sl Q I rx hs pl pu q
 rcases q with q | q
 ·exact h pins s σ H x v vl vu lo hi sl Q I rx hs pl pu q
 ·exact h' pins s σ H x v vl vu lo hi sl Q I rx hs pl pu q
def tSl (r:V->Option Int->Option Int->Hp->VK->Prop) (te:TE) (tl th:TO):TE:=fun σ H Q=>te σ H fun x H1=>tl σ H1 fun l H2=>th σ H2 fun u H3=>r x l u H3 Q
theorem nv {r:V->Option Int->Option Int->Hp->VK->Prop} (hr:SlR X r) (he:PE X e te) (hl:PO X lo tl) (hu:PO X hi th):PE X (.Subscript e (.Slice lo hi none p2) pos) (tSl r te tl th):=by
 intro pins s σ H Q I h
 refine Subscript_ (thn (he pins s σ H _ I h) fun v s1 ⟨x,H1,I1,r1,q1⟩=>?_)
 refine wpAny_Slice (thn (hl pins s1 σ H1 _ I1 q1) fun vl s2 ⟨l,H2,I2,pl,q2⟩=>thn (hu pins s2 σ H2 _ I2 q2) fun vu s3 ⟨u,H3,I3,pu,q3⟩=>?_)
 rw [evalPart_none]
 refine wpAny_pure ?_
 have I4:Inv X pins σ H3 { s3 with heap:=s3.heap.push { cls:=.type "slice",data:=.fields #[vl,vu,.none] } }:=I3.kept (t':=s3.toks) fun b ob q=>Heap.get?_push_of_some _ q
 obtain ⟨T,id,hT,ht,hg⟩:=hr pins { s3 with heap:=s3.heap.push { cls:=.type "slice",data:=.fields #[vl,vu,.none] } } σ H3 x v vl vu l u s3.heap.objs.size Q I4 r1 (Heap.IsSliceOf.new ..) pl pu q3
 show wpAny (model X.prog X.w) X.A (subscriptTail e (.Slice lo hi none p2) v (.ref s3.heap.objs.size)) (EP X pins σ Q) X.xe { s3 with heap:=s3.heap.push { cls:=.type "slice",data:=.fields #[vl,vu,.none] } }
 exact tail_any (ops:=[.ref s3.heap.objs.size,v]) ht hT hg (by with_unfolding_all rfl)
def lI (xs:List V) (lo hi:Option Int):List V:=(xs.drop (HT.sIx xs.length 0 lo)).take (HT.sIx xs.length xs.length hi - HT.sIx xs.length 0 lo)
theorem lu (xs:List V) (lo hi:Option Int):(lI xs lo hi).length <= xs.length:=by
 unfold lI
 rw [List.length_take,List.length_drop]
 omega
def Au (K:W.Frag):V->Option Int->Option Int->Hp->VK->Prop:=fun x lo hi H Q=>∃a xs,x=.ref a/\SqT K H a xs /\
 ¬ (HT.sIx xs.length 0 lo=0/\HT.sIx xs.length xs.length hi=xs.length)/\∀p,H p=none->Q (.ref p) (upd H p (.tup (lI xs lo hi)))
theorem Aa:SlR X (Au X.K):=by
 intro pins s σ H x v vl vu lo hi sl Q I rx hs pl pu h
 obtain ⟨a,xs,rfl,hx,hw,q⟩:=h
 cases rx
 obtain ⟨its,r,ht,hz⟩:=I.tuple hx
 have hlen:its.toArray.size=xs.length:=by rw [List.size_toArray];exact r.length.symm
 refine ⟨"tuple",_,PyProof.Rows.slot_tuple_getitem.lookup,ht.typeIs,?_⟩
 refine HT.jY ht hs pl pu (by rw [hlen];exact hw) ?_ (by rw [hlen];exact hz)
 rw [hlen]
 refine ⟨.ref s.heap.objs.size,_,I.laid (t':=s.toks) (o:=.tup (lI xs lo hi)) (fun b ob q=>Heap.get?_push_of_some _ q) (Nat.le_refl _) ?_,rfl,q _ (I.hok.fresh (Nat.le_refl _))⟩
 exact ⟨Nat.le_trans (lu xs lo hi) hz,_,(r.drop (HT.sIx xs.length 0 lo)).take (HT.sIx xs.length xs.length hi - HT.sIx xs.length 0 lo),IsTup.new _ _⟩
end
end L2
namespace L2
open PySem PySem.Spec PyProof.Rows
def ixN (n:Nat) (i:Int):Option Nat:=if 0 <= i then (if i < n then some i.toNat else none) else if -(n:Int) <= i then some (i + n).toNat else none
def atI {α:Type} (xs:List α) (i:Int):Option α:=(ixN xs.length i).bind fun j=>xs[j]?
theorem tT {n:Nat}{i:Int}{j:Nat} (h:ixN n i=some j):seqIndex? i n=some j/\j < n/\-(n:Int) <= i/\i < n:=by
 unfold ixN at h
 by_cases h0:0 <= i
 ·rw [if_pos h0] at h
  by_cases h1:i < n
  ·rw [if_pos h1] at h
   have e:i.toNat=j:=Option.some.inj h
   exact ⟨by rw [seqIndex_of h0 h1,e],by omega,by omega,h1⟩
  ·rw [if_neg h1] at h;cases h
 ·rw [if_neg h0] at h
  by_cases h1:-(n:Int) <= i
  ·rw [if_pos h1] at h
   have e:(i + n).toNat=j:=Option.some.inj h
   exact ⟨by rw [seqIndex_neg (by omega) h1,e],by omega,h1,by omega⟩
  ·rw [if_neg h1] at h;cases h
theorem qf {α:Type}{xs:List α}{i:Int}{v:α} (h:atI xs i=some v):∃j,seqIndex? i xs.length=some j/\xs[j]?=some v/\j < xs.length/\-(xs.length:Int) <= i/\i < xs.length:=by
 unfold atI at h
 cases e:ixN xs.length i with
 | none=>rw [e] at h;cases h
 | some j =>
  rw [e] at h
  obtain ⟨h1,h2,h3,h4⟩:=tT e
  exact ⟨j,h1,h,h2,h3,h4⟩
theorem jf {α:Type}{xs:List α}{j:Nat}{v:α} (h:xs[j]?=some v):atI xs (j:Int)=some v:=by
 have hj:j < xs.length:=(List.getElem?_eq_some_iff.mp h).1
 have e:ixN xs.length (j:Int)=some j:=by
  unfold ixN
  rw [if_pos (by omega),if_pos (by omega)];simp
 unfold atI;rw [e];exact h
theorem xH {α:Type} (xs:List α) (v:α):atI (xs ++ [v]) (-1)=some v:=by
 have hl:(xs ++ [v]).length=xs.length + 1:=by simp
 have e:ixN (xs ++ [v]).length (-1)=some xs.length:=by
  unfold ixN
  rw [hl,if_neg (by decide),if_pos (by omega)]
  congr 1
  omega
 unfold atI
 rw [e]
 show (xs ++ [v])[xs.length]?=some v
 simp
def uC (b:Expr):Prop:=∀o i,subscripted b false o i=operate [o,i] (getItem o i)
def IxR (X:Cx) (r:R2):Prop :=
 ∀(value slice:Expr) (pins:List (Addr × Obj)) (s:Shared) (σ:St) (H:Hp) (x y:V) (v u:Value) (Q:VK),Inv X pins σ H s->RelV x v->RelV y u->r x y H Q ->
  subscripted slice false v u=operate [v,u] (getItem v u)->wpAny (model X.prog X.w) X.A (subscriptTail value slice v u) (EP X pins σ Q) X.xe s
def MtR (X:Cx) (id:String) (r:V->List V->Hp->VK->Prop):Prop :=
 ∀(pins:List (Addr × Obj)) (s:Shared) (σ:St) (H:Hp) (x:V) (xs:List V) (v:Value) (us:List Value) (Q:VK),Inv X pins σ H s->RelV x v->Vals xs us->r x xs H Q ->
  wpAny (model X.prog X.w) X.A (call (.builtin id) (v :: us)) (EP X pins σ Q) X.xe s
section
variable {X:Cx}{a b:Expr}{ta tb:TE}{pos:Pos}
theorem Bx {r:R2} (hr:IxR X r) (ha:PE X a ta) (hb:PE X b tb) (hs:uC b):PE X (.Subscript a b pos) (tOp r ta tb):=by
 intro pins s σ H Q I h
 exact Subscript_ (Ab ha hb I h fun v u s2 x y H2 I2 rx ry q=>hr a b pins s2 σ H2 x y v u Q I2 rx ry q (hs _ _))
def Dl (K:W.Frag):R2:=fun x y H Q=>∃p xs i v,x=.ref p/\y=.int i/\SqL K H p xs/\atI xs i=some v/\Q v H
def Dv (K:W.Frag):R2:=fun x y H Q=>∃p xs i v,x=.ref p/\y=.int i/\SqT K H p xs/\atI xs i=some v/\Q v H
def Dn:R2:=fun x y H Q=>∃z i c,x=.str z/\y=.int i/\z.length <= sizeLine/\atI z.cps.toList i=some c/\Q (.str ⟨#[c]⟩) H
theorem yN:IxR X (Dl X.K):=by
 intro value slice pins s σ H x y v u Q I rx ry h hs
 obtain ⟨p,xs,i,z,rfl,rfl,hq,he,q⟩:=h
 cases rx
 obtain ⟨t,rfl⟩:=ry
 obtain ⟨its,r,pl,hz⟩:=I.list hq
 obtain ⟨j,h1,h2,h3,h4,h5⟩:=qf he
 obtain ⟨w,ew,rw'⟩:=r.get h2
 have hl:=r.length
 have hn:=kW
 have fin:EP X pins σ Q w s:=⟨z,H,I,rw',q⟩
 by_cases h0:0 <= i
 ·have hj:i.toNat=j:=by
   rw [seqIndex_of h0 h5] at h1
   exact Option.some.inj h1
  exact item_listR pl.isList h0 (by omega) (by rw [hj];simpa using ew) fin hs
 ·have hj:(i + (its.toArray.size:Int)).toNat=j:=by
   rw [seqIndex_neg (by omega) h4] at h1
   rw [List.size_toArray,<- hl]
   exact Option.some.inj h1
  exact subscriptTail_builtinR (x:=w) pl.isList.typeIs slot_list_getitem.lookup
   (wpAny_getItem_list_neg (Q:=fun r s'=>r=w/\EP X pins σ Q r s') pl.isList (by omega) (by rw [List.size_toArray] <;> omega) (by omega) (by rw [hj];simpa using ew) ⟨rfl,fin⟩) hs
theorem zW:IxR X (Dv X.K):=by
 intro value slice pins s σ H x y v u Q I rx ry h hs
 obtain ⟨p,xs,i,z,rfl,rfl,hq,he,q⟩:=h
 cases rx
 obtain ⟨t,rfl⟩:=ry
 obtain ⟨its,r,pl,hz⟩:=I.tuple hq
 obtain ⟨j,h1,h2,h3,h4,h5⟩:=qf he
 obtain ⟨w,ew,rw'⟩:=r.get h2
 have hl:=r.length
 have hn:=kW
 have fin:EP X pins σ Q w s:=⟨z,H,I,rw',q⟩
 exact subscriptTail_builtinR (x:=w) pl.typeIs slot_tuple_getitem.lookup
  (getItem_tuple (j:=j) (Q:=fun r s'=>r=w/\EP X pins σ Q r s') pl (by omega) (by omega) (by rw [List.size_toArray,<- hl];exact h1) (by simpa using ew) ⟨rfl,fin⟩) hs
theorem AJ:IxR X Dn:=by
 intro value slice pins s σ H x y v u Q I rx ry h hs
 obtain ⟨z,i,c,rfl,rfl,hz,he,q⟩:=h
 obtain ⟨t,rfl⟩:=rx
 obtain ⟨t',rfl⟩:=ry
 obtain ⟨j,h1,h2,h3,h4,h5⟩:=qf he
 have hl:z.cps.toList.length=z.length:=by simp [Str.length]
 rw [hl] at h1 h4 h5
 have hn:=kW
 exact tail_any (typeIs_str s z t) slot_str_getitem.lookup (getItem_str (c:=c) (by
  have e1:decide (i < -(2 ^ 63:Int))=false:=decide_eq_false (by omega)
  have e2:decide (i ≥ 2 ^ 63)=false:=decide_eq_false (by omega)
  rw [e1,e2,Bool.or_false]) (by rw [h1];simpa using h2) ⟨.str ⟨#[c]⟩,H,I.tok _,⟨_,rfl⟩,q⟩) hs
theorem tq (its:List Value) (n j:Nat) (u:Value):Obj.mapSeq (·.setIfInBounds j u) { cls:=.type "list",data:=.seq its.toArray n }={ cls:=.type "list",data:=.seq (its.set j u).toArray n }:=by
 simp [Obj.mapSeq]
theorem Inv.lst {pins:List (Addr × Obj)}{σ:St}{H:Hp}{s:Shared}{p:Addr}{xs:List V} (I:Inv X pins σ H s) (h:H p=some (.lst xs)) :
  ∃(its:List Value) (n:Nat),Vals xs its/\s.heap.get? p=some { cls:=.type "list",data:=.seq its.toArray n }/\xs.length <= sizeLine:=by
 obtain ⟨z,its,n,r,e⟩:=I.hok p _ h
 exact ⟨its,n,r,e,z⟩
theorem Inv.AU {pins:List (Addr × Obj)}{σ:St}{H:Hp}{s:Shared}{p:Addr}{xs ys:List V}{its its':List Value}{n n':Nat}{f:Obj->Obj} (I:Inv X pins σ H s) (h:H p=some (.lst xs))
  (ho:s.heap.get? p=some { cls:=.type "list",data:=.seq its.toArray n }) (hf:f { cls:=.type "list",data:=.seq its.toArray n }={ cls:=.type "list",data:=.seq its'.toArray n' }) (r:Vals ys its') (hz:ys.length <= sizeLine) (t:Nat) :
  Inv X pins σ (upd H p (.lst ys)) { s with heap:=s.heap.update p f,toks:=t }:=by
 have e:(s.heap.update p f).get? p=some { cls:=.type "list",data:=.seq its'.toArray n' }:=by
  rw [Heap.get?_update_self f ho (by rw [hf] <;> rfl),hf]
 refine I.write (x:=p) (e:=p) (by rw [h];trivial) (.inl rfl) (fun b u hb q=>(Heap.get?_update_other _ _ (Ne.symm hb)).trans q) ⟨_,e⟩ ?_
 exact ⟨hz,its',n',r,e⟩
def zI:V->V->V->Hp->(Hp->Prop)->Prop:=fun o i v H Q=>∃p xs k j,o=.ref p/\i=.int k/\H p=some (.lst xs)/\ixN xs.length k=some j/\Q (upd H p (.lst (xs.set j v)))
theorem set_list:xV X zI:=by
 intro pins s σ H o i v ov iv u Q I ro ri rv h
 obtain ⟨p,xs,k,j,rfl,rfl,hp,hj,q⟩:=h
 cases ro
 obtain ⟨t,rfl⟩:=ri
 obtain ⟨its,n,r,ho,hz⟩:=I.lst hp
 obtain ⟨h1,h2,h3,h4⟩:=tT hj
 have hl:=r.length
 have hn:=kW
 have I':Inv X pins σ (upd H p (.lst (xs.set j v))) { s with heap:=s.heap.update p (Obj.mapSeq (·.setIfInBounds j u)) } :=
  I.AU hp ho (tq its n j u) (r.set rv j) (by rw [List.length_set];exact hz) s.toks
 by_cases h0:0 <= k
 ·have hk:k.toNat=j:=by
   rw [seqIndex_of h0 h4] at h1
   exact Option.some.inj h1
  exact W.ki_setAt ho h0 (by omega) (by rw [List.size_toArray,<- hl];exact h4) (by rw [hk];exact ⟨_,I',q⟩)
 ·have hk:(k + (its.toArray.size:Int)).toNat=j:=by
   rw [seqIndex_neg (by omega) h3] at h1
   rw [List.size_toArray,<- hl]
   exact Option.some.inj h1
  exact W.ki_setBack ho (by omega) (by rw [List.size_toArray,<- hl];exact h3) (by omega) (by rw [hk];exact ⟨_,I',q⟩)
theorem qj (lo hi:Option Int) (n:Nat):(sliceBounds lo hi none n).1=((HT.sIx n 0 lo:Nat):Int)/\(sliceBounds lo hi none n).2.1=((HT.sIx n n hi:Nat):Int)/\(sliceBounds lo hi none n).2.2=1:=by
 refine ⟨?_,?_,rfl⟩
 ·cases lo with
  | none=>simp [sliceBounds,HT.sIx]
  | some i =>
   simp only [sliceBounds,HT.sIx,Option.getD_none,show (1:Int) > 0 by decide,if_true]
   by_cases h:i < 0
   ·simp only [h,if_true] <;> omega
   ·simp only [h,if_false] <;> omega
 ·cases hi with
  | none=>simp [sliceBounds,HT.sIx]
  | some i =>
   simp only [sliceBounds,HT.sIx,Option.getD_none,show (1:Int) > 0 by decide,if_true]
   by_cases h:i < 0
   ·simp only [h,if_true] <;> omega
   ·simp only [h,if_false] <;> omega
theorem nH (its:List Value) (lo hi:Option Int):slicePick its.toArray lo hi none=((its.drop (HT.sIx its.length 0 lo)).take (HT.sIx its.length its.length hi - HT.sIx its.length 0 lo)).toArray:=by
 obtain ⟨h1,h2,h3⟩:=qj lo hi its.toArray.size
 unfold slicePick
 rw [h1,h2,h3]
 simp only [sliceRange_one,pick_run,List.size_toArray] <;> rfl
def AQ (K:W.Frag):V->Option Int->Option Int->Hp->VK->Prop:=fun x lo hi H Q=>∃a xs,x=.ref a/\SqL K H a xs/\∀p,H p=none->Q (.ref p) (upd H p (.lst (lI xs lo hi)))
theorem yQ:SlR X (AQ X.K):=by
 intro pins s σ H x v vl vu lo hi sl Q I rx hs pl pu h
 obtain ⟨a,xs,rfl,hx,q⟩:=h
 cases rx
 obtain ⟨its,r,ht,hz⟩:=I.list hx
 have hlen:=r.length
 refine ⟨"list",_,slot_list_getitem.lookup,ht.isList.typeIs,?_⟩
 refine wpAny_getItem_list_slice ht.isList hs pl pu .none (by simp) ?_ (by rw [List.size_toArray] <;> omega)
 rw [nH,<- hlen]
 refine ⟨.ref s.heap.objs.size,_,I.laid (t':=s.toks) (o:=.lst (lI xs lo hi)) (fun b ob q=>Heap.get?_push_of_some _ q) (Nat.le_refl _) ?_,rfl,q _ (I.hok.fresh (Nat.le_refl _))⟩
 exact ⟨Nat.le_trans (lu xs lo hi) hz,_,0,(r.drop (HT.sIx xs.length 0 lo)).take (HT.sIx xs.length xs.length hi - HT.sIx xs.length 0 lo),Heap.get?_push_size _ rfl⟩
def iK:V->Bool
 | .non=>true
 | .bl _=>true
 | .int _=>true
 | .str _=>true
 | _=>false
def eqV:V->V->Bool
 | .non,.non=>true
 | .bl a,.bl b=>a == b
 | .bl a,.int b=>(if a then 1 else 0) == b
 | .int a,.bl b=>a == (if b then 1 else 0)
 | .int a,.int b=>a == b
 | .str a,.str b=>a == b
 | _,_=>false
theorem AZ {A:Around}{s:Shared}{y x:V}{u v:Value} (ry:RelV y u) (rx:RelV x v) (fy:iK y=true) (fx:iK x=true):SeqAt.EqAt A s u v (eqV y x):=by
 cases y with
 | non =>
  cases ry
  cases x with
  | non=>cases rx;exact SeqAt.EqAt.same _
  | bl b=>cases rx;exact SeqAt.EqAt.none_bool b
  | int b=>obtain ⟨t,rfl⟩:=rx;exact SeqAt.EqAt.none_int b t
  | str b=>obtain ⟨t,rfl⟩:=rx;exact SeqAt.EqAt.none_str b t
  | _=>exact absurd (show false=true from fx) Bool.false_ne_true
 | bl a =>
  cases ry
  cases x with
  | non=>cases rx;exact SeqAt.EqAt.bool_none a
  | bl b=>cases rx;exact SeqAt.EqAt.bool_bool a b
  | int b=>obtain ⟨t,rfl⟩:=rx;exact SeqAt.EqAt.bool_int a b t
  | str b=>obtain ⟨t,rfl⟩:=rx;exact SeqAt.EqAt.bool_str a b t
  | _=>exact absurd (show false=true from fx) Bool.false_ne_true
 | int a =>
  obtain ⟨t',rfl⟩:=ry
  cases x with
  | non=>cases rx;exact SeqAt.EqAt.int_none a t'
  | bl b=>cases rx;exact SeqAt.EqAt.int_bool a t' b
  | int b=>obtain ⟨t,rfl⟩:=rx;exact SeqAt.EqAt.int_int a t' b t
  | str b=>obtain ⟨t,rfl⟩:=rx;exact SeqAt.EqAt.int_str a t' b t
  | _=>exact absurd (show false=true from fx) Bool.false_ne_true
 | str a =>
  obtain ⟨t',rfl⟩:=ry
  cases x with
  | non=>cases rx;exact SeqAt.EqAt.str_none a t'
  | bl b=>cases rx;exact SeqAt.EqAt.str_bool a t' b
  | int b=>obtain ⟨t,rfl⟩:=rx;exact SeqAt.EqAt.str_int a t' b t
  | str b=>obtain ⟨t,rfl⟩:=rx;exact SeqAt.EqAt.str_str a t' b t
  | _=>exact absurd (show false=true from fx) Bool.false_ne_true
 | _=>exact absurd (show false=true from fy) Bool.false_ne_true
def eqU (x:V) (u:Value):Bool:=match u with
 | .none=>eqV .non x
 | .bool b=>eqV (.bl b) x
 | .int i _=>eqV (.int i) x
 | .str z _=>eqV (.str z) x
 | _=>false
theorem wL {x y:V}{u:Value} (r:RelV y u) (f:iK y=true):eqU x u=eqV y x:=by
 cases y with
 | non=>cases r;rfl
 | bl b=>cases r;rfl
 | int i=>obtain ⟨t,rfl⟩:=r;rfl
 | str z=>obtain ⟨t,rfl⟩:=r;rfl
 | _=>exact absurd (show false=true from f) Bool.false_ne_true
theorem kn {x:V}:∀{xs:List V}{us:List Value},Vals xs us->xs.all iK=true->us.any (eqU x)=xs.any fun y=>eqV y x
 | _,_,.nil,_=>rfl
 | y :: xs,u :: us,.cons r t,f=>by
  rw [List.all_cons,Bool.and_eq_true] at f
  rw [List.any_cons,List.any_cons,wL r f.1,kn t f.2]
theorem ja {A:Around}{s:Shared}{x:V}{v:Value} (rx:RelV x v) (fx:iK x=true):∀{xs:List V}{us:List Value},Vals xs us->xs.all iK=true->∀u ∈ us,SeqAt.EqAt A s u v (eqU x u)
 | _,_,.nil,_=>fun u hu=>by cases hu
 | y :: xs,u :: us,.cons r t,f=>fun u' hu=>by
  rw [List.all_cons,Bool.and_eq_true] at f
  rcases List.mem_cons.mp hu with rfl | hu
  ·rw [wL r f.1];exact AZ r rx f.1 fx
  ·exact ja rx fx t f.2 u' hu
def inV (x:V) (xs:List V):Bool:=xs.any fun y=>eqV y x
def rIn (K:W.Frag) (neg:Bool):R2:=fun x y H Q=>∃p xs,y=.ref p/\(SqL K H p xs \/ SqT K H p xs)/\iK x=true/\xs.all iK=true/\Q (.bl (if neg then !inV x xs else inV x xs)) H
theorem vq:OpR X (compareOp .In) (rIn X.K false):=by
 intro pins s σ H x y v u Q I rx ry h
 obtain ⟨p,xs,rfl,hq,fx,fs,q⟩:=h
 cases ry
 rcases hq with hq | hq
 ·obtain ⟨its,r,pl,hz⟩:=I.list hq
  refine SeqAt.in_listAt (eqU x) pl.isList (fun w hw=>ja rx fx r fs w (by simpa using hw)) ⟨.bl _,H,I,rfl,?_⟩
  rw [show its.toArray.any (eqU x)=its.any (eqU x) by simp,kn r fs]
  exact q
 ·obtain ⟨its,r,pl,hz⟩:=I.tuple hq
  refine SeqAt.in_tupleAt (eqU x) pl (fun w hw=>ja rx fx r fs w (by simpa using hw)) ⟨.bl _,H,I,rfl,?_⟩
  rw [show its.toArray.any (eqU x)=its.any (eqU x) by simp,kn r fs]
  exact q
theorem qi:OpR X (compareOp .NotIn) (rIn X.K true):=by
 intro pins s σ H x y v u Q I rx ry h
 obtain ⟨p,xs,rfl,hq,fx,fs,q⟩:=h
 cases ry
 rcases hq with hq | hq
 ·obtain ⟨its,r,pl,hz⟩:=I.list hq
  refine SeqAt.notIn_listAt (eqU x) pl.isList (fun w hw=>ja rx fx r fs w (by simpa using hw)) ⟨.bl _,H,I,rfl,?_⟩
  rw [show its.toArray.any (eqU x)=its.any (eqU x) by simp,kn r fs]
  exact q
 ·obtain ⟨its,r,pl,hz⟩:=I.tuple hq
  refine SeqAt.notIn_tupleAt (eqU x) pl (fun w hw=>ja rx fx r fs w (by simpa using hw)) ⟨.bl _,H,I,rfl,?_⟩
  rw [show its.toArray.any (eqU x)=its.any (eqU x) by simp,kn r fs]
  exact q
theorem o8:OpR X (compareOp .NotIn) (fun x y H Q=>∃i j,x=.str i/\y=.str j/\Q (.bl (!(!(Builtin.Str.occurrences j i 0 j.length 1).isEmpty))) H):=by
 intro pins s σ H x y v u Q I rx ry h
 obtain ⟨i,j,rfl,rfl,q⟩:=h
 obtain ⟨t,rfl⟩:=rx
 obtain ⟨t',rfl⟩:=ry
 exact notIn_str ⟨.bl _,H,I,rfl,q⟩
theorem b7.or {f:Value}{r r':List V->Hp->VK->Prop} (h:b7 X f r) (h':b7 X f r'):b7 X f (fun xs H Q=>r xs H Q \/ r' xs H Q):=by
 intro pins s σ H xs us Q I rs q
 rcases q with q | q
 ·exact h pins s σ H xs us Q I rs q
 ·exact h' pins s σ H xs us Q I rs q
theorem pI:b7 X (.type "list") (fun xs H Q=>∃p ys,xs=[.ref p]/\(SqL X.K H p ys \/ SqT X.K H p ys)/\∀l,H l=none->Q (.ref l) (upd H l (.lst ys))):=by
 intro pins s σ H xs us Q I r h
 obtain ⟨p,ys,rfl,hq,q⟩:=h
 obtain ⟨u,rfl,rx⟩:=vals1 r
 cases rx
 have fin:∀(its:List Value),Vals ys its->ys.length <= sizeLine->∀(h':Heap) (c':Nat),(∀b o',s.heap.get? b=some o'->h'.get? b=some o') ->
   h'.get? s.heap.objs.size=some { cls:=.type "list",dict:=none,data:=.seq its.toArray c',slots:=#[] }->EP X pins σ Q (.ref s.heap.objs.size) { s with heap:=h' }:=fun its r' hz h' c' kp e =>
  ⟨.ref s.heap.objs.size,_,I.laid (t':=s.toks) kp (Nat.le_refl _) (show bI X.prog X.w _ h' _ (.lst ys) from ⟨hz,its,c',r',e⟩),rfl,q _ (I.hok.fresh (Nat.le_refl _))⟩
 rcases hq with hq | hq
 ·obtain ⟨its,r',pl,hz⟩:=I.list hq
  have hlen:=r'.length
  obtain ⟨o,ho,hc,n,hd⟩:=pl.isList
  exact call_list_seq p (.inl rfl) ho hc hd (fun h' c' kp e=>fin its r' hz h' c' kp e) (by simp only [List.size_toArray] <;> omega)
 ·obtain ⟨its,r',pl,hz⟩:=I.tuple hq
  have hlen:=r'.length
  obtain ⟨o,ho,hc,n,hd⟩:=pl
  exact call_list_seq p (.inr rfl) ho hc hd (fun h' c' kp e=>fin its r' hz h' c' kp e) (by simp only [List.size_toArray] <;> omega)
def tyV (K:W.Frag) (T:String) (x:V) (H:Hp):Prop:=match x with
 | .str _=>T="str"
 | .int _=>T="int"
 | .ref p=>(T="list"/\∃xs,SqL K H p xs) \/ (T="tuple"/\∃o,K.lookup p=some o/\o.cls=.type "tuple"/\o.dict=none) \/
   (T="dict"/\((∃kvs,H p=some (.dK kvs)) \/ ∃kvs,H p=some (.dT kvs))) \/ (T="set"/\∃S n,H p=some (.set S n))
 | _=>False
theorem wA {pins:List (Addr × Obj)}{σ:St}{H:Hp}{s:Shared}{T:String}{x:V}{v:Value} (I:Inv X pins σ H s) (r:RelV x v) (ty:tyV X.K T x H) :
  s.TypeIs v T/\∀a,v=.ref a->∃ob,s.heap.get? a=some ob/\ob.dict=none:=by
 cases x with
 | str z =>
  obtain ⟨t,rfl⟩:=r
  cases (show T="str" from ty)
  exact ⟨typeIs_str s z t,fun _ e=>nomatch e⟩
 | int i =>
  obtain ⟨t,rfl⟩:=r
  cases (show T="int" from ty)
  exact ⟨typeIs_int s i t,fun _ e=>nomatch e⟩
 | ref p =>
  cases r
  rcases ty with ⟨rfl,xs,hq⟩ | ⟨rfl,o,hk,hc,hd⟩ | ⟨rfl,hk⟩ | ⟨rfl,S,n,hk⟩
  ·obtain ⟨its,_,pl,_⟩:=I.list hq
   refine ⟨pl.isList.typeIs,fun a e=>?_⟩
   cases e
   obtain ⟨o,n,e,c,hd,_⟩:=pl
   exact ⟨o,e,hd⟩
  ·refine ⟨⟨o,I.kIn p o hk,hc⟩,fun a e=>?_⟩
   cases e
   exact ⟨o,I.kIn _ o hk,hd⟩
  ·have z:∃o,s.heap.get? p=some o/\o.ExactDict:=by
    rcases hk with ⟨kvs,hk⟩ | ⟨kvs,hk⟩
    ·obtain ⟨_,_,_,_,o,_,_,e,ex,_⟩:=I.hok p _ hk
     exact ⟨o,e,ex⟩
    ·obtain ⟨_,_,_,_,o,_,_,e,ex,_⟩:=I.hok p _ hk
     exact ⟨o,e,ex⟩
   obtain ⟨o,e,ex⟩:=z
   refine ⟨⟨o,e,ex.1⟩,fun a e2=>?_⟩
   cases e2
   exact ⟨o,e,ex.2.1⟩
  ·obtain ⟨o,_,_,_,e,ex,_⟩:=I.hok p _ hk
   refine ⟨⟨o,e,ex.1⟩,fun a e2=>?_⟩
   cases e2
   exact ⟨o,e,ex.2.1⟩
 | _=>exact False.elim ty
def ze (K:W.Frag) (T:String) (r:V->List V->Hp->VK->Prop) (to:TE):TE:=fun σ H Q=>to σ H fun x H1=>tyV K T x H1/\r x [] H1 Q
def tBM (K:W.Frag) (T:String) (r:V->List V->Hp->VK->Prop) (to:TE) (t:TA):TE:=fun σ H Q=>to σ H fun x H1=>tyV K T x H1/\t σ H1 fun xs H2=>r x xs H2 Q
variable {o e:Expr}{es:List Expr}{to:TE}{t:TA}{name:Str}{apos cpos:Pos}{T id:String}{r:V->List V->Hp->VK->Prop}
theorem tD (pa:PlainAttrs T) (slot:Slot T name id) (hty:typeOf (.builtin id)=pure (.type "method_descriptor")) (hm:MtR X id r) (ho:PE X o to)
  (hbase:attributeBase o name X.env (eval o X.env)=eval o X.env:=by rfl) (hline:(apos.endLine == cpos.line)=true:=by rfl):PE X (.Call (.Attribute o name apos) [] [] cpos) (ze X.K T r to):=by
 intro pins s σ H Q I h
 refine wpAny_Call_method0_late hbase hline (thn (ho pins s σ H _ I h) fun v s1 ⟨x,H1,I1,r1,ty,q1⟩=>?_)
 obtain ⟨h1,h2⟩:=wA I1 r1 ty
 exact ⟨T,id,pa,slot,hty,h1,h2,Calls.callWith_builtin rfl (PySem.evalArgs_none (hm pins s1 σ H1 x [] v [] Q I1 r1 .nil q1))⟩
theorem xc (pa:PlainAttrs T) (slot:Slot T name id) (hty:typeOf (.builtin id)=pure (.type "method_descriptor")) (hm:MtR X id r) (ho:PE X o to) (ha:PA X (e :: es) t)
  (hbase:attributeBase o name X.env (eval o X.env)=eval o X.env:=by rfl)
  (hfew:((backTo cpos (starEach (e :: es) X.env)).all (fun x=>!x.1) && (backToKw cpos (keywordEach [] X.env)).all (fun x=>x.1.isSome)
   && decide ((e :: es).length + ([]:List Keyword).length + (if ([]:List Keyword).isEmpty then 0 else 1) < 30))=true:=by rfl)
  (hline:(apos.endLine == cpos.line)=true:=by rfl) (hs:starEach (e :: es) X.env=(false,eval e X.env) :: starEach es X.env:=by rfl) (hplain:(backTo cpos (starEach es X.env)).any (·.1)=false:=by rfl) :
  PE X (.Call (.Attribute o name apos) (e :: es) [] cpos) (tBM X.K T r to t):=by
 intro pins s σ H Q I h
 refine wpAny_Call_method_late hbase hfew hline rfl (thn (ho pins s σ H _ I h) fun v s1 ⟨x,H1,I1,r1,ty,q1⟩=>?_)
 obtain ⟨h1,h2⟩:=wA I1 r1 ty
 refine ⟨T,id,pa,slot,hty,h1,h2,?_⟩
 have hA:=ha cpos pins s1 σ H1 _ I1 q1
 rw [hs] at hA ⊢
 refine Calls.callWith_builtin (by show (false || (backTo cpos (starEach es X.env)).any (·.1))=false;rw [hplain] <;> rfl) (Calls.evalArgs_plain ?_)
 exact thn hA fun us s2 ⟨vs,H2,I2,r2,q2⟩=>hm pins s2 σ H2 x vs v us Q I2 r1 r2 q2
end
end L2
namespace L2
open PySem PySem.Spec PyProof.Rows
def MtM (X:Cx) (id:String) (r:V->List V->Hp->VK->Prop):Prop :=
 ∀(pins:List (Addr × Obj)) (s:Shared) (σ:St) (H:Hp) (x:V) (xs:List V) (v:Value) (us:List Value) (Q:VK),Inv X pins σ H s->RelV x v->Vals xs us->r x xs H Q ->
  wpAny (model X.prog X.w) X.A (call (.builtin id) (v :: us)) (EP X pins σ Q) X.xe s
theorem Vals.one:∀{x:V}{us:List Value},Vals [x] us->∃u,us=[u]/\RelV x u
 | _,_,.cons r .nil=>⟨_,rfl,r⟩
theorem Vals.zero:∀{us:List Value},Vals [] us->us=[]
 | _,.nil=>rfl
theorem Vals.dropLast {xs:List V}{us:List Value} (h:Vals xs us):Vals xs.dropLast us.dropLast:=by
 induction h with
 | nil=>exact .nil
 | cons r t ih =>
  cases t with
  | nil=>exact .nil
  | cons q t'=>exact .cons r ih
theorem Vals.rep {xs:List V}{us:List Value} (h:Vals xs us):∀k:Nat,Vals (List.replicate k xs).flatten (List.replicate k us).flatten
 | 0=>.nil
 | k + 1=>by
  rw [List.replicate_succ,List.replicate_succ,List.flatten_cons,List.flatten_cons]
  exact Vals.append h (Vals.rep h k)
theorem tu {α:Type} (l:List α):l.eraseIdx (l.length - 1)=l.dropLast:=by
 induction l with
 | nil=>rfl
 | cons a r ih =>
  cases r with
  | nil=>rfl
  | cons b r =>
   have e:(a :: b :: r).length - 1=((b :: r).length - 1) + 1:=by
    have h1:(a :: b :: r).length=r.length + 2:=rfl
    have h2:(b :: r).length=r.length + 1:=rfl
    omega
   rw [e,List.eraseIdx_cons_succ,ih]
   all_goals rfl
theorem foldl_rep (its:List Value):∀(k:Nat) (acc:List Value),
  List.foldl (fun x1 x2=>x1 ++ x2) acc.toArray (List.replicate k its.toArray)=(acc ++ (List.replicate k its).flatten).toArray
 | 0,acc=>by simp
 | k + 1,acc=>by
  have e:acc.toArray ++ its.toArray=(acc ++ its).toArray:=by simp
  have e2:(acc ++ its) ++ (List.replicate k its).flatten=acc ++ (List.replicate (k + 1) its).flatten:=by
   rw [List.replicate_succ,List.flatten_cons,List.append_assoc]
  rw [<- e2,<- foldl_rep its k (acc ++ its),<- e,List.replicate_succ,List.foldl_cons]
section
variable {X:Cx}{pins:List (Addr × Obj)}{σ:St}{H:Hp}{s:Shared}{l b:Addr}{xs ys zs:List V}
theorem Inv.zr {its its':List Value}{n:Nat}{f:Array Value->Array Value}{t':Nat} (I:Inv X pins σ H s) (hH:H l=some (.lst xs))
  (e:s.heap.get? l=some { cls:=.type "list",data:=.seq its.toArray n }) (hf:f its.toArray=its'.toArray) (hv:Vals ys its') (hz:ys.length <= sizeLine) :
  Inv X pins σ (upd H l (.lst ys)) { s with heap:=s.heap.update l (Obj.mapSeq f),toks:=t' }:=by
 have q:=PySem.IsL.update e f
 rw [hf] at q
 refine I.write (x:=l) (e:=l) (by rw [hH];exact trivial) (.inl rfl) (fun b' u hb hu=>(Heap.get?_update_other s.heap (Obj.mapSeq f) (Ne.symm hb)).trans hu) ⟨_,q⟩ ?_
 exact ⟨hz,its',_,hv,q⟩
theorem Inv.Be {its:List Value}{t':Nat} (I:Inv X pins σ H s) (hv:Vals ys its) (hz:ys.length <= sizeLine) :
  Inv X pins σ (upd H s.heap.objs.size (.lst ys)) { s with heap:=s.heap.push { cls:=.type "list",data:=.seq its.toArray },toks:=t' } :=
 I.laid (fun _ _ q=>Heap.get?_push_of_some _ q) (Nat.le_refl _) ⟨hz,its,0,hv,Heap.get?_push_size _ rfl⟩
theorem Inv.fresh (I:Inv X pins σ H s):H s.heap.objs.size=none:=I.hok.fresh (Nat.le_refl _)
theorem Inv.qM (I:Inv X pins σ H s) (hH:H l=some (.lst xs)):xs.length <= sizeLine/\∃(its:List Value) (n:Nat),Vals xs its/\xs.length=its.length/\s.heap.get? l=some { cls:=.type "list",data:=.seq its.toArray n }:=by
 obtain ⟨z,its,n,r,e⟩:=I.hok l _ hH
 exact ⟨z,its,n,r,r.length,e⟩
theorem qz {n:Nat} (h:n <= sizeLine):Builtin.List.listTooLong n=false:=by
 unfold Builtin.List.listTooLong
 exact decide_eq_false (by omega)
end
section
variable {X:Cx}
inductive pJ (x:V) (vs:List V) (H:Hp) (Q:VK):Prop
 | mk (l:Addr) (xs:List V) (y:V) (h0:x=.ref l) (h1:vs=[y]) (h2:H l=some (.lst xs)) (h3:xs.length < sizeLine) (q:Q .non (upd H l (.lst (xs ++ [y])))):pJ x vs H Q
theorem oT:MtM X "list.append" pJ:=by
 intro pins s σ H x vs v us Q I rx rv h
 obtain ⟨l,xs,y,rfl,rfl,hH,hz,q⟩:=h
 cases rx
 obtain ⟨u,rfl,ru⟩:=rv.one
 obtain ⟨z,its,n,r,hl,e⟩:=I.qM hH
 refine call_meets F.slot_list_append ⟨_,e,rfl⟩ F.entry_list_append (F.args_list_append_2 _ _) (PySem.list_append l its.toArray n u (by rw [List.size_toArray];omega)) ⟨e,?_⟩
 refine ⟨.non,_,I.zr (its':=its ++ [u]) hH e (by simp) (r.append (.cons ru .nil)) ?_,rfl,q⟩
 rw [List.length_append,List.length_singleton]
 omega
def uE:V->List V->Hp->VK->Prop:=fun x vs H Q=>∃l b xs zs,x=.ref l/\vs=[.ref b]/\H l=some (.lst xs)/\H b=some (.lst zs)/\xs.length + zs.length <= sizeLine/\Q .non (upd H l (.lst (xs ++ zs)))
theorem u9:MtM X "list.extend" uE:=by
 intro pins s σ H x vs v us Q I rx rv h
 obtain ⟨l,b,xs,zs,rfl,rfl,hH,hB,hz,q⟩:=h
 cases rx
 obtain ⟨u,rfl,ru⟩:=rv.one
 cases ru
 obtain ⟨z,its,n,r,hl,e⟩:=I.qM hH
 obtain ⟨z2,its2,n2,r2,hl2,e2⟩:=I.qM hB
 have hsz:its.toArray.size + its2.toArray.size <= sizeLine:=by rw [List.size_toArray,List.size_toArray];omega
 have hlong:¬ (!its.toArray.isEmpty && Builtin.List.listTooLong (its.toArray.size + its2.toArray.size))=true:=by
  rw [qz hsz,Bool.and_false]
  exact Bool.false_ne_true
 refine call_meets F.slot_list_extend ⟨_,e,rfl⟩ F.entry_list_extend (F.args_list_extend_2 _ _)
  (AutoSeq1.list_extend_list_list_0 l its.toArray n b its2.toArray n2 hlong (by rw [List.size_toArray];omega) (by omega)) ⟨e,e2,?_⟩
 refine ⟨.non,_,I.zr (its':=its ++ its2) hH e (by simp) (r.append r2) ?_,rfl,q⟩
 rw [List.length_append]
 omega
inductive zm (x:V) (vs:List V) (H:Hp) (Q:VK):Prop
 | mk (l:Addr) (xs:List V) (y:V) (h0:x=.ref l) (h1:vs=[]) (h2:H l=some (.lst xs)) (h3:xs[xs.length - 1]?=some y) (q:Q y (upd H l (.lst xs.dropLast))):zm x vs H Q
theorem Ak:MtM X "list.pop" zm:=by
 intro pins s σ H x vs v us Q I rx rv h
 obtain ⟨l,xs,y,rfl,rfl,hH,hy,q⟩:=h
 cases rx
 have hus:=rv.zero
 subst hus
 obtain ⟨z,its,n,r,hl,e⟩:=I.qM hH
 obtain ⟨u,hu,ru⟩:=r.get hy
 have hy':its.toArray[its.toArray.size - 1]?=some u:=by
  show its.toArray[its.length - 1]?=some u
  rw [<- Array.getElem?_toList,<- hl]
  exact hu
 refine call_meets F.slot_list_pop ⟨_,e,rfl⟩ F.entry_list_pop (F.args_list_pop_1 _) (MeetsSeq.list_pop_last l its.toArray n u hy' (by rw [List.size_toArray];omega)) ⟨e,?_⟩
 refine ⟨y,_,I.zr (its':=its.dropLast) hH e ?_ r.dropLast ?_,ru,q⟩
 ·show its.toArray.eraseIdxIfInBounds (its.toArray.size - 1)=its.dropLast.toArray
  rw [List.size_toArray,List.eraseIdxIfInBounds_toArray,tu]
 ·rw [List.length_dropLast]
  omega
def xM:V->List V->Hp->VK->Prop:=fun x vs H Q=>∃l xs,x=.ref l/\vs=[]/\H l=some (.lst xs)/\Q .non (upd H l (.lst []))
theorem wm:MtM X "list.clear" xM:=by
 intro pins s σ H x vs v us Q I rx rv h
 obtain ⟨l,xs,rfl,rfl,hH,q⟩:=h
 cases rx
 have hus:=rv.zero
 subst hus
 obtain ⟨z,its,n,r,hl,e⟩:=I.qM hH
 refine call_meets F.slot_list_clear ⟨_,e,rfl⟩ F.entry_list_clear (F.args_list_clear_1 _) (AutoSeq1.list_clear_list_0 l its.toArray n (by rw [List.size_toArray];omega)) ⟨e,?_⟩
 exact ⟨.non,_,I.zr (its':=[]) (ys:=[]) hH e rfl .nil (Nat.zero_le _),rfl,q⟩
def Cz:R2:=fun x y H Q=>∃l b xs zs,x=.ref l/\y=.ref b/\H l=some (.lst xs)/\H b=some (.lst zs)/\xs.length + zs.length <= sizeLine/\∀p,H p=none->Q (.ref p) (upd H p (.lst (xs ++ zs)))
theorem AF:OpR X (binaryOp .Add) Cz:=by
 intro pins s σ H x y v u Q I rx ry h
 obtain ⟨l,b,xs,zs,rfl,rfl,hH,hB,hz,q⟩:=h
 cases rx
 cases ry
 obtain ⟨z,its,n,r,hl,e⟩:=I.qM hH
 obtain ⟨z2,its2,n2,r2,hl2,e2⟩:=I.qM hB
 refine PySem.P.add_list e e2 ?_ (by rw [List.size_toArray,List.size_toArray];omega)
 have ea:its.toArray ++ its2.toArray=(its ++ its2).toArray:=by simp
 rw [ea]
 exact ⟨.ref _,_,I.Be (t':=s.toks) (r.append r2) (by rw [List.length_append];omega),rfl,q _ I.fresh⟩
def Dy:R2:=fun x y H Q=>∃l k xs,x=.ref l/\y=.int k/\H l=some (.lst xs)/\-(2 ^ 63) <= k/\k < 2 ^ 63/\xs.length * k.toNat <= sizeLine /\
 ∀p,H p=none->Q (.ref p) (upd H p (.lst (List.replicate k.toNat xs).flatten))
theorem len_rep {α:Type} (xs:List α) (k:Nat):(List.replicate k xs).flatten.length=k * xs.length:=by
 induction k with
 | zero=>simp
 | succ k ih=>rw [List.replicate_succ,List.flatten_cons,List.length_append,ih,Nat.succ_mul,Nat.add_comm]
theorem A5:OpR X (binaryOp .Mult) Dy:=by
 intro pins s σ H x y v u Q I rx ry h
 obtain ⟨l,k,xs,rfl,rfl,hH,h1,h2,hz,q⟩:=h
 cases rx
 obtain ⟨t,rfl⟩:=ry
 obtain ⟨z,its,n,r,hl,e⟩:=I.qM hH
 have hlen:its.toArray.size * k.toNat <= sizeLine:=by rw [List.size_toArray,<- hl];exact hz
 have hcap:¬ its.toArray.size * k.toNat > (2 ^ 63 - 1) / 8:=by
  have:(sizeLine:Nat) <= (2 ^ 63 - 1) / 8:=by decide
  omega
 have hfit:¬ (!Builtin.List.listFitsIndex k)=true:=by
  rw [fitsIndex_both h1 h2]
  exact Bool.false_ne_true
 have hlong:¬ Builtin.List.listTooLong (its.toArray.size * k.toNat)=true:=by
  rw [qz hlen]
  exact Bool.false_ne_true
 have hnew:List.foldl (fun x1 x2=>x1 ++ x2) #[] (List.replicate (if its.toArray.isEmpty=true then 0 else k.toNat) its.toArray)=(List.replicate k.toNat its).flatten.toArray:=by
  have f0:∀m:Nat,List.foldl (fun x1 x2=>x1 ++ x2) #[] (List.replicate m its.toArray)=(List.replicate m its).flatten.toArray:=fun m=>by
   have:=foldl_rep its m []
   rw [List.nil_append] at this
   exact this
  rw [f0]
  cases its with
  | nil=>simp
  | cons a r'=>rw [if_neg (by simp)]
 refine wpAny_binaryOp_repeat_ref (T:="list") (U:="int") (by decide) ⟨_,e,rfl⟩ (fun s'=>typeIs_int s' k t) noFill_list_mul F.fills_int_mul F.slot_int_rmul repeat_list F.slot_int_index.lookup
  (call_meets F.slot_int_rmul (typeIs_int s k t) F.entry_int_rmul (F.args_int_rmul_2 _ _) (int___rmul___int_list k t l its.toArray n)
   ⟨e,rfl,⟨_,e,rfl⟩,call_meets F.slot_list_mul ⟨_,e,rfl⟩ F.entry_list_mul (F.args_list_mul_2 _ _) (AutoListH.list___mul___list_int_3 l its.toArray n k t hfit hcap hlong) ⟨e,?_⟩⟩)
 rw [hnew]
 exact ⟨.ref _,_,I.Be (t':=s.toks) (r.rep k.toNat) (by rw [len_rep,Nat.mul_comm];exact hz),rfl,q _ I.fresh⟩
end
section
variable {prog:Program}{w:World}{A:Around}{E:Value->Shared->Prop}{s:Shared}
end
section
variable {X:Cx}
end
end L2
namespace Att
open PySem PySem.W PySem.Calls PyProof.Rows
theorem lL {P:Params}{h:Heap}:∀(ns:List Int) (vs:List Value),WellAll P h vs (ns.map WData.int)->IntsAre vs ns:=by
 intro ns
 induction ns with
 | nil =>
  intro vs w
  rw [List.map_nil] at w
  cases w
  exact .nil
 | cons n ns ih =>
  intro vs w
  rw [List.map_cons] at w
  cases w with
  | cons a b =>
   cases a
   exact .cons _ _ (ih _ b)
theorem uZ {l:OpenLaw}{n:Nat} (hn:l.most=some n) {P:Params}{h:Heap}{args:List WData}{vals:List Value}
  (hpre:l.row.toRowW.claim.pre args=true) (hwl:WellAll P h vals args) :
  ∃a vs ns,vals=[Value.ref a]/\args=[WData.list (ns.map WData.int)]/\h.get? a=some { cls:=.type "list",data:=.seq vs.toArray }/\IntsAre vs ns/\ns.length <= n:=by
 have hsh:WShape.hasAll [] args [.list .int]=true:=(pre_splitW hpre).1
 have hc:l.pre.holds [] { args:=args }=true:=(pre_splitW hpre).2
 obtain ⟨d,r,rfl,h1,h2⟩:=hasAllW_cons hsh
 obtain rfl:=hasAllW_nil h2
 obtain ⟨xs,rfl,h3⟩:=hasW_list h1
 obtain ⟨ns,rfl⟩:=items_int h3
 have hlen:ns.length <= n:=by
  unfold OpenLaw.pre at hc
  have h4:(WTm.not (.lt (.lit (.int (n:Int))) (.len (.arg 0)))).holds [] { args:=[.list (ns.map .int)] }=true:=by
   have h4:=(holds_andW hc).1
   rw [hn] at h4
   exact h4
  have h5:=condW_of h4 (w_not (w_lt w_lit (w_len_list (w_arg rfl))))
  rw [List.length_map] at h5
  refine Nat.le_of_not_lt fun q=>?_
  have q':(n:Int) < ((ns.length:Nat):Int):=by omega
  first
   | (rw [decide_eq_true q'] at h5;exact absurd h5 (by decide))
   | (simp at h5;omega)
 cases hwl with
 | cons w1 w2 =>
  cases w2
  cases w1 with
  | list ho hall=>exact ⟨_,_,ns,rfl,rfl,ho,lL ns _ hall,hlen⟩
theorem vo (l:OpenLaw) (args:List WData):l.row.toRowW.claim.post args (.bool true) args=true :=
 postW_of (r:=l.row.toRowW) (X:=(true == true))
  (show WShape.has [] (.bool true) .bool=true by first | rfl | decide | simp [WShape.has,WShape.arms,WShape.armsAll])
  (show (WTm.eq .res (.lit (.bool true))).value [] { args:=args,res:=some (.bool true),after:=args }=some (.bool (true == true)) from w_eq_bool (w_res rfl) w_lit) rfl
theorem rN {l:OpenLaw}{n:Nat}{q:Program}{loose:List Str}{XP:(Str->Option Value)->Heap->Prop}{YP:World->Heap->Prop}{d:DefRec}
  (hn:l.most=some n) (hdf:d.params.defaults=[])
  (call:∀(w:World) (s₀ s₁:Shared) (mg mb:Str->Option Value) (fa:Addr) (o:Obj) (pm cd doc:Value) (a:Addr) (vs:List Value) (ns:List Int),
   Ground q loose [] XP w s₀ mg mb s₁.heap->YP w s₁.heap ->
   s₁.heap.get? fa=some o->o.data=.func (docDef d.name d.params d.body d.scope pm cd doc)->s₁.heap.CodeRec cd d.name->mg d.name=some (.ref fa) ->
   s₁.heap.get? a=some { cls:=.type "list",data:=.seq vs.toArray }->IntsAre vs ns->ns.length <= n->s₁.gens=#[] ->
   codeAny (model l.prog w) callerA (.call (.ref fa) ⟨[.ref a],[]⟩) (fun r s'=>r=.ok (.ret (.bool true))/\OldK s₁.heap s'.heap/\s'.os=s₁.os/\AllBare s'.gens) s₁) :
  WalkO q loose XP YP l.row.toRowW d [] (fun f vs=>PySem.call f vs):=by
 intro w s₀ s₁ mg mb G Y fa o pm cd doc dV kV ho hd hcd hD hmg hg args vals as hpre hlay hrd hwl hlo
 obtain rfl:dV=.none:=Dflts.none hD hdf
 obtain rfl:kV=.none:=Dflts.noKw hD
 obtain ⟨a,vs,ns,rfl,rfl,hobj,hints,hlen⟩:=uZ hn hpre hwl
 refine enter_call (codeAny_mono (call w s₀ s₁ mg mb fa o pm cd doc a vs ns G Y ho (fd_plain hd) hcd hmg hobj hints hlen hg) fun r s' hq=>?_)
 obtain ⟨rfl,h2,h3,h4⟩:=hq
 exact ⟨.inl ⟨.bool true,.bool true,[],rfl,fun _=>rfl,.bool true,vo l _,fun _=>⟨List.Pairwise.nil,fun _ hm=>(nomatch hm)⟩⟩,h2,h3,h4⟩
section
variable {prog:Program}{w:World}{A:Around}{E:Value->Shared->Prop}{s:Shared}{K:Frag}
end
end Att
namespace L2
open PySem PySem.Spec PyProof.Rows
theorem oW:∀{vs:List Value}{ns:List Int},IntsAre vs ns->Vals (ns.map V.int) vs
 | _,_,.nil=>.nil
 | _,_,.cons n t h=>.cons ⟨t,rfl⟩ (oW h)
def Bs (H:Hp):Prop:=∀b,H b=none \/ ∃o xs,H b=some (.frz o (.lst xs))
theorem xB {P:Program}{w:World}{K:W.Frag}{mg mb:Str->Option Value}{CX:CXT}{k:Nat}{fa a:Addr}{fd:FuncData}{x:Str}{sp:Sp}{s₁:Shared}{vs:List Value}{ns:List Int}
  (KX:K.In s₁.heap) (hns:s₁.heap.Ns mainGlobals mg) (hb:s₁.heap.Ns builtinsNs mb) (hbb:∀x:Str,x ≠ "__name__"->mb x=bootBuiltins x) (hlim:s₁.heap.NoLimit) (hg:s₁.gens=#[])
  (ha:s₁.heap.get? a=some { cls:=.type "list",data:=.seq vs.toArray }) (hi:IntsAre vs ns) (hl:ns.length <= sizeLine) (hr:cQ k callerA)
  (F:∀base:Heap,K.In base->base.Ns mainGlobals mg->kE P w K mg base CX k fa fd [x] sp) (hbind:∀(s:Shared) (u:Value),BindsTo s fd ⟨[u],[]⟩ [(x,u)])
  (hsp:∀H:Hp,Bs H->SqL K H a (ns.map V.int)->sp [.ref a] H (fun v _=>v=.bl true) fun _ _ _=>False)
  (hCX:∀H e s',CX [] H s₁ (fun _ _ _=>False) e s'->False) :
  codeAny (model P w) callerA (.call (.ref fa) ⟨[.ref a],[]⟩) (fun r s'=>r=.ok (.ret (.bool true))/\OldK s₁.heap s'.heap/\s'.os=s₁.os/\AllBare s'.gens) s₁:=by
 have rv:=oW hi
 have lenV:=hi.length
 have core:∀H:Hp,Bs H->SqL K H a (ns.map V.int)->HOk P w H s₁.heap->(∀b,H b ≠ none->b=a)->(H a ≠ none->K.lookup a=none) ->
   codeAny (model P w) callerA (.call (.ref fa) ⟨[.ref a],[]⟩) (fun r s'=>r=.ok (.ret (.bool true))/\OldK s₁.heap s'.heap/\s'.os=s₁.os/\AllBare s'.gens) s₁:=by
  intro H hO hS hok hA hK
  have base_of:∀{b:Addr}{o:Obj},s₁.heap.get? b=some o->H b=none->(p6 s₁.heap H).get? b=some o:=fun e n=>xK e n
  have noA:∀{b:Addr}{o:Obj}{es:Array DictEntry}{ep:Nat},s₁.heap.get? b=some o->o.data=.dict es ep->H b=none:=fun {b o es ep} e d=>by
   cases q:H b with
   | none=>rfl
   | some u =>
    have e':b=a:=hA b (by rw [q];simp)
    subst e'
    rw [ha] at e;cases e
    have d':Data.seq vs.toArray _=Data.dict es ep:=d
    cases d'
  have nsK:∀{b:Addr}{m:Str->Option Value},s₁.heap.Ns b m->(p6 s₁.heap H).Ns b m:=fun {b m} ⟨o,es,ep,e,d,r⟩=>⟨o,es,ep,base_of e (noA e d),d,r⟩
  have hKb:K.In (p6 s₁.heap H):=fun b o e=>base_of (KX b o e) (by
   cases q:H b with
   | none=>rfl
   | some u =>
    have e':b=a:=hA b (by rw [q];simp)
    subst e'
    rw [hK (by rw [q];simp)] at e;cases e)
  have hM:Mod K mg (p6 s₁.heap H):=⟨hKb,nsK hns,⟨mb,nsK hb,hbb⟩,let ⟨mc,h1,h2⟩:=hlim;⟨mc,nsK h1,h2⟩⟩
  have e0:rZ P w K mg (p6 s₁.heap H) callerA [] s₁ H:=⟨rfl,hM,fun b o e=>y8 e,Nat.le_of_eq (vE _ _),trivial,fun b hb=>absurd (show b ∈ ([]:List Addr) from hb) (by simp),hok,.of_eq hg⟩
  refine codeAny_mono ((F _ hKb (nsK hns)).run callerA [] s₁ H ⟨[.ref a],[]⟩ [.ref a] [.ref a] _ _ hr e0 (hbind s₁ (.ref a)) (.cons rfl .nil) (hsp H hO hS)) fun r s' h=>?_
  cases r with
  | error e=>exact (hCX H e s' h).elim
  | ok fl =>
   cases fl with
   | next=>exact False.elim h
   | brk=>exact False.elim h
   | cont=>exact False.elim h
   | ret u =>
    obtain ⟨v,H',os,bare,un,hok',r',q⟩:=h
    have q':v=.bl true:=q
    subst q'
    obtain rfl:u=Value.bool true:=r'
    refine ⟨rfl,OldK.of_keep fun b o e=>?_,os,bare⟩
    cases q:H b with
    | none=>exact un.keep b o e q (by intro z;exact absurd (show b ∈ ([]:List Addr) from z) (by simp)) (by simp)
    | some u =>
     rcases hO b with z | ⟨ob,xs,z⟩
     ·rw [q] at z;cases z
     ·have z2:=un.mK b ob _ z
      obtain ⟨e1,_⟩:=hok b _ z
      obtain ⟨e2,_⟩:=hok' b _ z2
      rw [e] at e1;cases e1
      exact e2
 cases hk:K.lookup a with
 | some o =>
  have e:=KX a o hk
  rw [ha] at e
  cases e
  refine core (fun _=>none) (fun _=>.inl rfl) (.inr ⟨_,vs.toArray,_,hk,rfl,rfl,rfl,by rw [List.size_toArray,lenV];exact hl,by simpa using rv⟩) (fun b u z=>by have z':(none:Option HO)=some u:=z;cases z') (fun b z=>absurd rfl z) fun z=>absurd rfl z
 | none =>
  refine core (fun b=>if b=a then some (.frz { cls:=.type "list",data:=.seq vs.toArray } (.lst (ns.map V.int))) else none) (fun b=>?_) (.inl (.inr ⟨{ cls:=.type "list",data:=.seq vs.toArray },if_pos rfl⟩)) (fun b u z=>?_) (fun b z=>?_) fun _=>hk
  ·by_cases hb:b=a
   ·exact .inr ⟨_,_,if_pos hb⟩
   ·exact .inl (if_neg hb)
  ·by_cases hb:b=a
   ·have z':=(if_pos hb).symm.trans z
    cases z'
    subst hb
    exact ⟨ha,by rw [List.length_map];exact hl,vs,_,rv,ha⟩
   ·have z':=(if_neg hb).symm.trans z
    cases z'
  ·by_cases hb:b=a
   ·exact hb
   ·exact absurd (if_neg hb) z
end L2
namespace L2
open PySem PySem.Spec PyProof.Rows
theorem yp {l:W.OpenLaw}{n k:Nat}{q:Program}{loose:List Str}{XP:(Str->Option Value)->Heap->Prop}{YP:World->Heap->Prop}{d:DefRec}{K:Params->W.Frag}{CX:World->CXT}{sp:World->Sp}{x:Str}
  (hn:l.most=some n) (hn2:n <= sizeLine) (hdf:d.params.defaults=[]) (hr:cQ k callerA)
  (hY:∀(w:World) (h:Heap),YP w h->(K w.params).In h)
  (F:∀(w:World) (mg:Str->Option Value) (fa:Addr) (h:Heap),(K w.params).In h->h.Ns mainGlobals mg->mg d.name=some (.ref fa) ->
   ∃fd:FuncData,(∀(s:Shared) (u:Value),BindsTo s fd ⟨[u],[]⟩ [(x,u)]) /\
    ∀base:Heap,(K w.params).In base->base.Ns mainGlobals mg->kE l.prog w (K w.params) mg base (CX w) k fa fd [x] (sp w))
  (hsp:∀(w:World) (H:Hp) (a:Addr) (ns:List Int),ns.length <= n->Bs H->SqL (K w.params) H a (ns.map V.int)->sp w [.ref a] H (fun v _=>v=.bl true) fun _ _ _=>False)
  (hCX:∀(w:World) (H:Hp) (s:Shared) (e:Value) (s':Shared),CX w [] H s (fun _ _ _=>False) e s'->False) :
  W.WalkO q loose XP YP l.row.toRowW d [] (fun f vs=>PySem.call f vs):=by
 refine Att.rN hn hdf fun w s₀ s₁ mg mb fa o pm cd doc a vs ns G Y ho hd hcd hmg hobj hints hlen hg=>?_
 have KX:=hY w _ Y
 obtain ⟨fd,hb,hF⟩:=F w mg fa _ KX G.T.g hmg
 exact xB KX G.T.g G.T.b G.T.builtins G.T.nolimit hg hobj hints (Nat.le_trans hlen hn2) hr hF hb (fun H hO hS=>hsp w H a ns hlen hO hS) fun H e s'=>hCX w H s₁ e s'
end L2
namespace L2
open PySem PySem.Spec PyProof.Rows
abbrev CX0:CXT:=fun _ _ _ _ _ _=>False
abbrev E0:XK:=fun _ _ _=>False
theorem wZ {X:Cx}:Passes CX0 X E0:=fun _ _ _ _ _ _ _ h=>h.elim
structure Fun (K:W.Frag) (x qual:Str) (st:Stmt) (f:Addr) (fd:FuncData):Prop where
 ex:∃(oc:Value) (od:Option Addr) (kV doc pm:Value) (an:Option Addr) (cdv ct:Value) (osl:Array (Option Value)),
  fd=W.fnOf x qual (bJ st) (bA st) (ar st) .none kV doc pm an cdv ct/\K.lookup f=some ⟨oc,od,.func fd,osl⟩/\W.codeIn K cdv qual=true
 kp:W.keepIn K (.ref f)=true
section
variable {P:Program}{w:World}{K:W.Frag}{mg:Str->Option Value}{base:Heap}
theorem Fun.ok {x qual:Str}{st:Stmt}{f:Addr}{fd:FuncData}{N ps:List Str}{k:Nat}{sp:Sp} (F:Fun K x qual st f fd) (S:az N ps (ar st)) (len:∀vs H Q E,sp vs H Q E->vs.length=ps.length)
  (hbody:∀(cdv:Value) (A:Around) (outer:List Env) (s:Shared) (H:Hp) (vs:List V) (Q:VK) (E:XK),cQ k (A.deeper (envOfC qual (ar st) s.heap.objs.size f cdv))->sp vs H Q E ->
   ∃t,PSs (rO CX0 P w K mg base N qual (ar st) f cdv A outer s H E).nox (bA st) t/\t { nx:=fun _ H'=>Q .non H',rt:=Q } (start N vs) H):kE P w K mg base CX0 (k + 1) f fd ps sp:=by
 obtain ⟨oc,od,kV,doc,pm,an,cdv,ct,osl,rfl,lk,hcd⟩:=F.ex
 refine B9 lk hcd S len fun A outer s H vs Q E hr hsp=>?_
 obtain ⟨t,h,q⟩:=hbody cdv A outer s H vs Q E hr hsp
 exact ⟨t,h.nox,q⟩
theorem Fun.binds {x qual:Str}{st:Stmt}{f:Addr}{fd:FuncData}{ps:List Str} (F:Fun K x qual st f fd)
  (h:∀(kV doc pm:Value) (an:Option Addr) (cdv ct:Value) (us:List Value),us.length=ps.length->bindArgs (W.fnOf x qual (bJ st) (bA st) (ar st) .none kV doc pm an cdv ct) ⟨us,[]⟩=pure (ps.zip us)):Binds K fd ps []:=by
 obtain ⟨oc,od,kV,doc,pm,an,cdv,ct,osl,rfl,lk,hcd⟩:=F.ex
 exact .all (h kV doc pm an cdv ct)
theorem pQ {x qual:Str}{st:Stmt}{f:Addr}{oc:Value}{od an:Option Addr}{osl:Array (Option Value)}{kV doc pm cdv ct:Value} (l:K.lookup f=some ⟨oc,od,.func (W.fnOf x qual (bJ st) (bA st) (ar st) .none kV doc pm an cdv ct),osl⟩)
  (c:W.codeIn K cdv qual=true) (k:W.keepIn K (.ref f)=true):Fun K x qual st f (W.fnOf x qual (bJ st) (bA st) (ar st) .none kV doc pm an cdv ct):=⟨⟨oc,od,kV,doc,pm,an,cdv,ct,osl,rfl,l,c⟩,k⟩
end
theorem aG {n:Nat} (h:n <= 1000):n < sizeLine:=Nat.lt_of_le_of_lt h (by decide)
section
variable {X:Cx}
end
theorem bO {A B:Prop} (h:B):if false=true then A else B:=by
 rw [if_neg Bool.false_ne_true]
 exact h
theorem jl {A B:Prop} (h:A):if true=true then A else B:=by
 rw [if_pos rfl]
 exact h
theorem bj {c A B:Prop} [Decidable c] (h1:c->A) (h2:¬ c->B):if c then A else B:=by
 by_cases h:c
 ·rw [if_pos h]
  exact h1 h
 ·rw [if_neg h]
  exact h2 h
def ah (H H':Hp):Prop:=∀b o,H b=some o->H' b=some o
theorem ah.refl (H:Hp):ah H H:=fun _ _ h=>h
theorem ah.trans {H H1 H2:Hp} (a:ah H H1) (b:ah H1 H2):ah H H2:=fun c o h=>b c o (a c o h)
theorem ah.free {H H':Hp} (e:ah H H') {l:Addr} (h:H' l=Option.none):H l=Option.none:=by
 cases q:H l with
 | none=>rfl
 | some o =>
  rw [e l o q] at h
  cases h
theorem ah.seq {K:W.Frag}{H H':Hp}{a:Addr}{xs:List V} (e:ah H H') (h:SqL K H a xs):SqL K H' a xs:=by
 rcases h with (h | ⟨o,h⟩) | h
 ·exact .inl (.inl (e _ _ h))
 ·exact .inl (.inr ⟨o,e _ _ h⟩)
 ·exact .inr h
end L2
namespace L2
open PySem PySem.Spec PyProof.Rows
theorem kS {α β:Type}{l:List α}{f:α->β->Sem (ForInStep β)} (g:β->α->β) (c:β) (h:∀x ∈ l,∀c,f x c=pure (.yield (g c x))) :
  forIn l c f=pure (l.foldl g c):=by
 induction l generalizing c with
 | nil=>rfl
 | cons x l ih =>
  rw [List.forIn_cons,h x List.mem_cons_self,pure_bind]
  exact ih _ fun y hy=>h y (List.mem_cons_of_mem _ hy)
def cR (env:Env) (cs:List (Str × Addr)) (x:Str × NameKind):List (Str × Addr) :=
 if x.2 == .free then (x.1,(env.cells.lookup x.1).getD 0) :: cs else cs
def nA (env:Env) (names:List (Str × NameKind)):List (Str × Addr):=names.foldl (cR env) []
theorem lJ {scope:Scope}{env:Env} (h:∀x ∈ scope.names,x.2=.free->∃c,env.cells.lookup x.1=some c):closureFor scope env=pure (nA env scope.names):=by
 simp only [closureFor]
 rw [kS (cR env) [] (fun x hx c=>by
  obtain ⟨n,kind⟩:=x
  cases hk:kind == NameKind.free with
  | false=>simp only [cR,hk,Bool.false_eq_true,if_false]
  | true =>
   obtain ⟨a,ha⟩:=h (n,kind) hx (by simpa using hk)
   have ha':env.cells.lookup n=some a:=ha
   simp only [cR,hk,if_true,cellOf,ha',Option.getD_some,pure_bind])]
 rfl
theorem mz {env:Env}:∀{names:List (Str × NameKind)}{cs:List (Str × Addr)}{n:Str}{c:Addr},(n,c) ∈ names.foldl (cR env) cs->(n,c) ∈ cs \/ ((n,NameKind.free) ∈ names/\c=(env.cells.lookup n).getD 0)
 | [],_,_,_,h=>.inl h
 | (m,k) :: r,cs,n,c,h=>by
  rcases mz (names:=r) (cs:=cR env cs (m,k)) h with h | ⟨h,e⟩
  ·unfold cR at h
   by_cases hk:(k == NameKind.free)=true
   ·rw [if_pos hk] at h
    rcases List.mem_cons.mp h with e | h
    ·cases e
     have hk':k=.free:=by simpa using hk
     subst hk'
     exact .inr ⟨List.mem_cons_self,rfl⟩
    ·exact .inl h
   ·rw [if_neg hk] at h
    exact .inl h
  ·exact .inr ⟨List.mem_cons_of_mem _ h,e⟩
theorem oE {env:Env}{p:Str × Addr}:∀{names:List (Str × NameKind)}{cs:List (Str × Addr)},p ∈ cs->p ∈ names.foldl (cR env) cs
 | [],_,h=>h
 | x :: r,cs,h=>oE (names:=r) (cs:=cR env cs x) (by
  unfold cR
  split
  ·exact List.mem_cons_of_mem _ h
  ·exact h)
theorem pk {env:Env}{n:Str}:∀{names:List (Str × NameKind)}{cs:List (Str × Addr)},(n,NameKind.free) ∈ names->(n,(env.cells.lookup n).getD 0) ∈ names.foldl (cR env) cs
 | x :: r,cs,h=>by
  rcases List.mem_cons.mp h with e | h
  ·subst e
   refine oE (names:=r) (cs:=cR env cs (n,.free)) ?_
   unfold cR
   rw [if_pos (by rfl)]
   exact List.mem_cons_self
  ·exact pk (names:=r) h
theorem fR {α:Type}:∀{l:List (Str × α)}{n:Str}{c:α},(n,c) ∈ l->∃c',l.lookup n=some c'
 | (k,v) :: r,n,c,h=>by
  rw [List.lookup_cons]
  cases hb:n == k with
  | true=>exact ⟨v,rfl⟩
  | false =>
   rcases List.mem_cons.mp h with e | h
   ·cases e;simp at hb
   ·exact fR h
theorem cY:∀{names:List (Str × NameKind)}{k:Nat}{acc:List (Str × Addr)}{n:Str}{c:Addr},(n,c) ∈ cellsFrom k names acc->(n,c) ∈ acc \/ (k <= c/\(n,NameKind.cell) ∈ names)
 | [],_,_,_,_,h=>.inl h
 | (m,kd) :: r,k,acc,n,c,h=>by
  unfold cellsFrom at h
  by_cases hk:(kd == NameKind.cell)=true
  ·rw [if_pos hk] at h
   have hk':kd=.cell:=by simpa using hk
   subst hk'
   rcases cY (names:=r) h with h | ⟨h1,h2⟩
   ·rcases List.mem_cons.mp h with e | h
    ·cases e
     exact .inr ⟨Nat.le_refl _,List.mem_cons_self⟩
    ·exact .inl h
   ·exact .inr ⟨by omega,List.mem_cons_of_mem _ h2⟩
  ·rw [if_neg hk] at h
   rcases cY (names:=r) h with h | ⟨h1,h2⟩
   ·exact .inl h
   ·exact .inr ⟨h1,List.mem_cons_of_mem _ h2⟩
theorem fV:∀{names:List (Str × NameKind)}{k:Nat}{acc:List (Str × Addr)},(∀n c,(n,c) ∈ acc->c < k)->(∀n n' c,(n,c) ∈ acc->(n',c) ∈ acc->n=n') ->
  ∀{n n':Str}{c:Addr},(n,c) ∈ cellsFrom k names acc->(n',c) ∈ cellsFrom k names acc->n=n'
 | [],_,_,_,hi,_,_,_,h,h'=>hi _ _ _ h h'
 | (m,kd) :: r,k,acc,hl,hi,n,n',c,h,h'=>by
  unfold cellsFrom at h h'
  by_cases hk:(kd == NameKind.cell)=true
  ·rw [if_pos hk] at h h'
   refine fV (names:=r) (acc:=(m,k) :: acc) (fun a b hab=>?_) (fun a a' b ha ha'=>?_) h h'
   ·rcases List.mem_cons.mp hab with e | e
    ·cases e;exact Nat.lt_succ_self _
    ·exact Nat.lt_succ_of_lt (hl _ _ e)
   ·rcases List.mem_cons.mp ha with e | e <;> rcases List.mem_cons.mp ha' with e' | e'
    ·cases e;cases e';rfl
    ·cases e;exact absurd (hl _ _ e') (Nat.lt_irrefl _)
    ·cases e';exact absurd (hl _ _ e) (Nat.lt_irrefl _)
    ·exact hi _ _ _ e e'
  ·rw [if_neg hk] at h h'
   exact fV (names:=r) hl hi h h'
theorem eJ:∀{names:List (Str × NameKind)}{h:Heap}{acc:List (Str × Addr)}{n:Str}{c:Addr},(n,c) ∈ cellsFrom h.objs.size names acc->(n,c) ∈ acc \/ (pushCells h names).IsCell c none
 | [],_,_,_,_,q=>.inl q
 | (m,kd) :: r,h,acc,n,c,q=>by
  unfold cellsFrom at q
  unfold pushCells
  by_cases hk:(kd == NameKind.cell)=true
  ·rw [if_pos hk] at q
   rw [if_pos hk]
   have e:h.objs.size + 1=(h.push { cls:=.type "cell",data:=.cell none }).objs.size:=(Heap.size_push ..).symm
   rw [e] at q
   rcases eJ (names:=r) q with q | q
   ·rcases List.mem_cons.mp q with e' | q
    ·cases e'
     exact .inr ⟨_,pushCells_keeps r _ _ _ (Heap.get?_push_size _ rfl),rfl⟩
    ·exact .inl q
   ·exact .inr q
  ·rw [if_neg hk] at q
   rw [if_neg hk]
   exact eJ (names:=r) q
theorem fO {x:Str}:∀{names:List (Str × NameKind)}{k:Nat}{acc:List (Str × Addr)},(x,NameKind.cell) ∉ names->(cellsFrom k names acc).lookup x=acc.lookup x
 | [],_,_,_=>rfl
 | (m,kd) :: r,k,acc,h=>by
  unfold cellsFrom
  have hr:(x,NameKind.cell) ∉ r:=fun z=>h (List.mem_cons_of_mem _ z)
  by_cases hk:(kd == NameKind.cell)=true
  ·have hk':kd=.cell:=by simpa using hk
   subst hk'
   rw [if_pos hk,fO hr,List.lookup_cons]
   have ne:(x == m)=false:=by
    cases hb:x == m with
    | false=>rfl
    | true=>exact absurd (by rw [beq_iff_eq.mp hb];exact List.mem_cons_self) h
   rw [ne]
  ·rw [if_neg hk]
   exact fO hr
section
variable {M:Model}{A:Around}{E:Value->Shared->Prop}{s:Shared}
theorem qK {scope:Scope}{globals:Addr}{cl:List (Str × Addr)}{qual:Str}{w4:Env}{Q:Env->Shared->Prop}
  (h:Q (newEnv scope s.heap.objs.size globals (cellsFrom (s.heap.objs.size + 1) scope.names cl) qual none .none (some w4) builtinsNs) { s with heap:=pushCells (s.heap.push { cls:=.type "dict",data:=.dict #[] }) scope.names }) :
  wpAny M A (newFunctionEnv scope globals cl [] qual none .none (some w4)) Q E s:=by
 simp only [newFunctionEnv,Option.isSome_some,if_true]
 refine wpAny_bind (wpAny_alloc ?_)
 refine wpAny_bind (wpAny_layCells _ (fun name kind cells=>by cases hkc:kind == NameKind.cell <;> simp [hkc]) _ _ _ _ ?_)
 rw [show ({ s with heap:=s.heap.push { cls:=.type "dict",data:=.dict #[] } }:Shared).heap.objs.size=s.heap.objs.size + 1 from Heap.size_push ..]
 refine wpAny_bind ?_
 rw [List.forIn_nil]
 exact wpAny_pure (wpAny_pure h)
end
structure CB where
 C:Addr
 ex:List Addr
 s:Shared
 H:Hp
def cxC (X:Cx) (N:List Str) (scope:Scope) (b:CB):Cx:={ X with
 N:=N
 s₀:=b.s
 H₀:=b.H
 env:=compEnvC scope (cellsFrom (b.C + 1) scope.names (nA X.env scope.names)) b.C X.env
 outer:=X.stack
 ex:=b.ex
 fn:=fun x=>scope.names.lookup x == some .cell
 pn:=[]
 xe:=fun _ _=>False }
theorem ik {env:Env}{x:Str}:∀{names:List (Str × NameKind)},
  (names.map fun (n,k)=>if (k == NameKind.free && env.scope.kind == .function && env.kindOf n == some .cell) then (n,NameKind.cell) else (n,k)).lookup x =
   (names.lookup x).map fun k=>if (k == NameKind.free && env.scope.kind == .function && env.kindOf x == some .cell) then NameKind.cell else k
 | []=>rfl
 | (n,k) :: r=>by
  have ih:=@ik env x r
  show List.lookup x ((if (k == NameKind.free && env.scope.kind == .function && env.kindOf n == some .cell)=true then (n,NameKind.cell) else (n,k)) :: _)=_
  cases hx:x == n with
  | true =>
   have e:x=n:=beq_iff_eq.mp hx
   subst e
   by_cases hc:(k == NameKind.free && env.scope.kind == .function && env.kindOf x == some .cell)=true
   ·rw [if_pos hc];simp only [List.lookup_cons,hx,Option.map_some,hc,if_true]
   ·rw [if_neg hc];simp only [List.lookup_cons,hx,Option.map_some];rw [if_neg hc]
  | false =>
   by_cases hc:(k == NameKind.free && env.scope.kind == .function && env.kindOf n == some .cell)=true
   ·rw [if_pos hc];simp only [List.lookup_cons,hx];exact ih
   ·rw [if_neg hc];simp only [List.lookup_cons,hx];exact ih
structure b9 (psc:Scope) (PN N:List Str) (own:Nat) (fr:List Nat) (scope:Scope):Prop where
 kind:scope.kind=.function
 nd:(scope.names.map (·.1)).Nodup
 free:∀x ∈ scope.names,x.2=.free->psc.names.lookup x.1=some .cell \/ psc.names.lookup x.1=some .free
 len:N.length=own + fr.length
 frn:∀i,i < fr.length->N[own + i]?=(fr[i]?).bind fun j=>PN[j]?
 frk:∀i,i < fr.length->∀y,N[own + i]?=some y->scope.names.lookup y=some .free
def tO (psc:Scope) (PN N:List Str) (own:Nat) (fr:List Nat) (scope:Scope):Bool :=
 scope.kind == .function && decide (scope.names.map (·.1)).Nodup && scope.names.all (fun x=>x.2 != .free || (psc.names.lookup x.1 == some .cell || psc.names.lookup x.1 == some .free)) &&
  (N.length == own + fr.length) && ((fr.map fun j=>PN[j]?) == (N.drop own).map some) && (N.drop own).all (fun y=>scope.names.lookup y == some .free)
theorem b9.of {psc:Scope}{PN N:List Str}{own:Nat}{fr:List Nat}{scope:Scope} (h:tO psc PN N own fr scope=true):b9 psc PN N own fr scope:=by
 unfold tO at h
 simp only [Bool.and_eq_true] at h
 obtain ⟨⟨⟨⟨⟨h1,h2⟩,h3⟩,h4⟩,h5⟩,h6⟩:=h
 have h4':N.length=own + fr.length:=eq_of_beq h4
 have h5':(fr.map fun j=>PN[j]?)=(N.drop own).map some:=eq_of_beq h5
 have dr:∀i,N[own + i]?=(N.drop own)[i]?:=fun i=>by rw [List.getElem?_drop]
 refine ⟨eq_of_beq h1,of_decide_eq_true h2,fun x hx hk=>?_,h4',fun i hi=>?_,fun i hi y hy=>?_⟩
 ·have q:=List.all_eq_true.mp h3 x hx
  rw [hk] at q
  simpa using q
 ·have q:=congrArg (fun l=>l[i]?) h5'
  simp only [List.getElem?_map] at q
  rw [dr]
  have ej:fr[i]?=some fr[i]:=List.getElem?_eq_getElem hi
  rw [ej] at q ⊢
  cases e:(N.drop own)[i]? with
  | none=>rw [e] at q;cases q
  | some y =>
   rw [e] at q
   exact (Option.some.inj q).symm
 ·rw [dr] at hy
  have q:=List.all_eq_true.mp h6 y (List.mem_of_getElem? hy)
  simpa using q
def cSt (own:Nat) (fr:List Nat) (σ:St):St:=List.replicate own none ++ fr.map fun j=>(σ[j]?).getD none
theorem dI {α:Type}:∀{l:List (Str × α)}{n:Str}{k:α},(l.map (·.1)).Nodup->(n,k) ∈ l->l.lookup n=some k
 | (m,v) :: r,n,k,nd,h=>by
  rw [List.map_cons,List.nodup_cons] at nd
  rw [List.lookup_cons]
  rcases List.mem_cons.mp h with e | h
  ·cases e;simp
  ·have ne:(n == m)=false:=by
    cases hb:n == m with
    | false=>rfl
    | true=>exact absurd (List.mem_map.mpr ⟨(n,k),h,beq_iff_eq.mp hb⟩) nd.1
   rw [ne]
   exact dI nd.2 h
section
variable {X:Cx}{pins:List (Addr × Obj)}{σ:St}{H:Hp}{s:Shared}{N:List Str}{own:Nat}{fr:List Nat}{scope:Scope}
theorem b9.cells (S:b9 X.env.scope X.N N own fr scope) (ok:X.Ok):∀x ∈ scope.names,x.2=.free->∃c,X.env.cells.lookup x.1=some c:=fun x hx hk =>
 ok.has x.1 (S.free x hx hk)
theorem b9.cl (S:b9 X.env.scope X.N N own fr scope) (ok:X.Ok) {n:Str}{c:Addr} (h:(n,c) ∈ nA X.env scope.names):X.env.cells.lookup n=some c:=by
 rcases mz h with h | ⟨h,e⟩
 ·cases h
 ·obtain ⟨c',e'⟩:=S.cells ok (n,.free) h rfl
  have e2:X.env.cells.lookup n=some c':=e'
  rw [e2] at e
  rw [e,e2]
  rfl
theorem wO {D C:Addr}{h':Heap}{fp:List Addr} (S:b9 X.env.scope X.N N own fr scope) (I:Inv X pins σ H s) (hD:D=s.heap.objs.size) (hC:C=s.heap.objs.size + 1)
  (hh:h'=pushCells ((s.heap.push { cls:=.type "list",data:=.seq #[] }).push { cls:=.type "dict",data:=.dict #[] }) scope.names) (hfp:∀b ∈ fp,pD X pins H b) (hlt:∀b ∈ fp,b < s.heap.objs.size) :
  Inv (cxC X N scope ⟨C,fp,s,H⟩) [] (cSt own fr σ) (upd H D (.lst [])) { s with heap:=h' }:=by
 subst hD hC
 have eD:(s.heap.push { cls:=.type "list",data:=.seq #[] }).objs.size=s.heap.objs.size + 1:=Heap.size_push ..
 have eC:((s.heap.push { cls:=.type "list",data:=.seq #[] }).push { cls:=.type "dict",data:=.dict #[] }).objs.size=s.heap.objs.size + 2:=by rw [Heap.size_push,eD]
 have keep:∀b o,s.heap.get? b=some o->h'.get? b=some o:=fun b o e=>by
  rw [hh]
  exact pushCells_keeps _ _ _ _ (Heap.get?_push_of_some _ (Heap.get?_push_of_some _ e))
 have lst:h'.get? s.heap.objs.size=some { cls:=.type "list",data:=.seq #[] }:=by
  rw [hh]
  exact pushCells_keeps _ _ _ _ (Heap.get?_push_of_some _ (Heap.get?_push_size _ rfl))
 have dct:h'.get? (s.heap.objs.size + 1)=some { cls:=.type "dict",data:=.dict #[] }:=by
  rw [hh]
  refine pushCells_keeps _ _ _ _ ?_
  have:=Heap.get?_push_size (s.heap.push { cls:=.type "list",data:=.seq #[] }) (o:={ cls:=.type "dict",data:=.dict #[] }) rfl
  rw [eD] at this
  exact this
 have hnD:H s.heap.objs.size=none:=I.hok.fresh (Nat.le_refl _)
 have hnC:H (s.heap.objs.size + 1)=none:=I.hok.fresh (Nat.le_succ _)
 have inCl:∀{n:Str}{c:Addr},(n,c) ∈ nA X.env scope.names->X.env.cells.lookup n=some c:=fun h=>S.cl I.ok h
 have clt:∀{n:Str}{c:Addr},X.env.cells.lookup n=some c->c < s.heap.objs.size:=fun h=>by
  obtain ⟨v,z⟩:=I.cell _ _ h
  exact z.lt
 have cases_:∀{n:Str}{c:Addr},(cellsFrom (s.heap.objs.size + 1 + 1) scope.names (nA X.env scope.names)).lookup n=some c->X.env.cells.lookup n=some c \/ (s.heap.objs.size + 2 <= c/\(n,NameKind.cell) ∈ scope.names/\h'.IsCell c none):=fun {n c} h=>by
  have hm:=PySem.mem_of_lookup h
  have hcell:=hm
  rw [show s.heap.objs.size + 1 + 1=((s.heap.push { cls:=.type "list",data:=.seq #[] }).push { cls:=.type "dict",data:=.dict #[] }).objs.size from eC.symm] at hcell
  rcases cY hm with h1 | ⟨h1,h2⟩
  ·exact .inl (inCl h1)
  ·rcases eJ hcell with h3 | h3
   ·exact .inl (inCl h3)
   ·exact .inr ⟨h1,h2,by rw [hh];exact h3⟩
 have kindOf:∀x,(cxC X N scope ⟨s.heap.objs.size + 1,fp,s,H⟩).env.kindOf x=(scope.names.lookup x).map fun k=>if (k == NameKind.free && X.env.scope.kind == .function && X.env.kindOf x == some .cell) then NameKind.cell else k:=fun x=>ik
 have hasName:∀x,((cxC X N scope ⟨s.heap.objs.size + 1,fp,s,H⟩).env.kindOf x=some .cell \/ (cxC X N scope ⟨s.heap.objs.size + 1,fp,s,H⟩).env.kindOf x=some .free)->∃c,(cellsFrom (s.heap.objs.size + 1 + 1) scope.names (nA X.env scope.names)).lookup x=some c:=fun x hx=>by
  rw [kindOf] at hx
  have h2:scope.names.lookup x=some .cell \/ scope.names.lookup x=some .free:=by
   cases e:scope.names.lookup x with
   | none=>rw [e] at hx;rcases hx with z | z <;> cases z
   | some k =>
    rw [e] at hx
    by_cases hk:k=.free
    ·exact .inr (by rw [hk])
    ·have hk':(k == NameKind.free)=false:=by simpa using hk
     simp only [Option.map_some,hk',Bool.false_and,Bool.false_eq_true,if_false] at hx
     rcases hx with z | z
     ·exact .inl z
     ·exact .inr z
  rcases h2 with h2 | h2
  ·exact Option.isSome_iff_exists.mp (W.cellsFrom_some scope.names _ _ (.inl h2))
  ·obtain ⟨c,hc⟩:=fR (pk (env:=X.env) (cs:=[]) (PySem.mem_of_lookup h2))
   exact Option.isSome_iff_exists.mp (W.cellsFrom_some scope.names _ _ (.inr (by rw [show (nA X.env scope.names).lookup x=some c from hc];rfl)))
 have cellAt:∀x c,(cellsFrom (s.heap.objs.size + 1 + 1) scope.names (nA X.env scope.names)).lookup x=some c->∃v,h'.IsCell c v:=fun x c e=>by
  rcases cases_ e with q | ⟨_,_,q⟩
  ·obtain ⟨v,o,ho,hd⟩:=I.cell x c q
   exact ⟨v,o,keep c o ho,hd⟩
  ·exact ⟨none,q⟩
 refine ⟨⟨I.ok.mod,S.kind,I.ok.glob,I.ok.blt,Nat.le_succ _,fun y z c h1 h2=>?_,hasName,fun y c hy h=>?_,I.ok.hd,I.ok.frames,.inl rfl,fun b hb=>⟨?_,fun x c e z=>?_⟩,fun b o e=>I.bs b o e,Nat.le_trans I.ok.bsz I.sz,fun b o e hb=>?_,fun b hb hf=>?_,I.stack,I.tQ⟩,
  rfl,I.bare,?_,⟨fun _=>none,⟨_,#[],_,dct,rfl,fun e he=>absurd he (by simp),fun _=>rfl⟩,fun i x v h1 h2 h3=>?_⟩,cellAt,?_,fun x c e=>?_,fun p hp=>absurd (show p ∈ ([]:List (Addr × Obj)) from hp) (by simp),?_,?_⟩
 ·
  refine fV (fun n c hm=>?_) (fun n n' c hm hm'=>I.ok.inj n n' c (inCl hm) (inCl hm')) (PySem.mem_of_lookup h1) (PySem.mem_of_lookup h2)
  exact Nat.lt_succ_of_lt (Nat.lt_succ_of_lt (clt (inCl hm)))
 ·
  have hy':scope.names.lookup y=some .cell:=by simpa using (show (scope.names.lookup y == some .cell)=true from hy)
  rcases cases_ h with q | ⟨q,_⟩
  ·rcases cY (PySem.mem_of_lookup h) with q2 | ⟨q2,_⟩
   ·rcases mz q2 with z | ⟨z,_⟩
    ·cases z
    ·have:=dI S.nd z
     rw [hy'] at this
     cases this
   ·exact Nat.le_trans (Nat.le_add_right _ 2) q2
  ·exact Nat.le_trans (Nat.le_add_right _ 2) q
 ·exact Nat.ne_of_lt (Nat.lt_succ_of_lt (hlt b hb))
 ·rcases cases_ e with q | ⟨q,_⟩
  ·exact (hfp b hb).2.2.2.2.1 x c q z
  ·have hb':=hlt b hb
   rw [<- z] at hb'
   exact absurd (Nat.lt_of_lt_of_le hb' (Nat.le_trans (Nat.le_add_right _ 2) q)) (Nat.lt_irrefl _)
 ·rcases (hfp b hb).2.2.2.1 with z | z
  ·exact I.ok.wF b o e z
  ·exact Nat.lt_irrefl _ (Nat.lt_of_lt_of_le (Heap.lt_size e) (Nat.le_trans I.ok.bsz z))
 ·rcases List.mem_cons.mp (I.sV b hf) with z | z
  ·exact (hfp b hb).2.1 z
  ·exact (hfp b hb).2.2.1 z
 ·exact Un.laid keep (Nat.le_refl _) hnD
 ·
  have h1:N[i]?=some x:=h1
  have hlen:i < N.length:=(List.getElem?_eq_some_iff.mp h1).1
  by_cases hi:i < own
  ·exfalso
   have h2':(cSt own fr σ)[i]?=some none:=by
    unfold cSt
    rw [List.getElem?_append_left (by simpa using hi),List.getElem?_replicate,if_pos hi]
   rw [h2'] at h2
   cases h2
  ·have hfi:i - own < fr.length:=by have:=S.len;omega
   have ei:own + (i - own)=i:=by omega
   have hk:=S.frk (i - own) hfi x (by rw [ei];exact h1)
   have hn:=S.frn (i - own) hfi
   rw [ei,h1] at hn
   have ej:fr[i - own]?=some fr[i - own]:=List.getElem?_eq_getElem hfi
   rw [ej] at hn
   have hn':X.N[fr[i - own]]?=some x:=hn.symm
   have h2':(cSt own fr σ)[i]?=some ((σ[fr[i - own]]?).getD none):=by
    unfold cSt
    rw [List.getElem?_append_right (by simpa using Nat.not_lt.mp hi),List.length_replicate,List.getElem?_map,ej]
    rfl
   rw [h2'] at h2
   have h2'':(σ[fr[i - own]]?).getD none=some v:=Option.some.inj h2
   have hσ:σ[fr[i - own]]?=some (some v):=by
    cases e:σ[fr[i - own]]? with
    | none=>rw [e] at h2'';cases h2''
    | some w=>rw [e] at h2'';exact congrArg some h2''
   obtain ⟨m,hm,hl⟩:=I.loc
   have hfree:=S.free (x,.free) (PySem.mem_of_lookup hk) rfl
   obtain ⟨u,r,l⟩:=hl _ x v hn' hσ (hfree.elim (fun z=>.inr (.inl z)) fun z=>.inr (.inr z))
   refine ⟨u,r,.inr ?_⟩
   have hcell:∃c,X.env.cells.lookup x=some c/\s.heap.IsCell c (some u):=by
    rcases l with ⟨l,_⟩ | ⟨_,c,e,z⟩
    ·exfalso
     rcases hfree with z | z
     ·have l':X.env.scope.names.lookup x=some .local:=l
      have z':X.env.scope.names.lookup x=some .cell:=z
      rw [l'] at z';cases z'
     ·have l':X.env.scope.names.lookup x=some .local:=l
      have z':X.env.scope.names.lookup x=some .free:=z
      rw [l'] at z';cases z'
    ·exact ⟨c,e,z⟩
   obtain ⟨c,e,o,ho,hd⟩:=hcell
   refine ⟨?_,c,?_,o,keep c o ho,hd⟩
   ·rw [kindOf,hk]
    by_cases z:(X.env.scope.kind == .function && X.env.kindOf x == some .cell)=true
    ·left
     simp only [Option.map_some,beq_self_eq_true,Bool.true_and,z,if_true]
    ·right
     simp only [Option.map_some,beq_self_eq_true,Bool.true_and]
     rw [if_neg z]
   ·show (cellsFrom (s.heap.objs.size + 1 + 1) scope.names (nA X.env scope.names)).lookup x=some c
    rw [fO fun z=>by
     have:=dI S.nd z
     rw [hk] at this
     cases this]
    obtain ⟨c',hc'⟩:=fR (pk (env:=X.env) (cs:=[]) (PySem.mem_of_lookup hk))
    have hc2:(nA X.env scope.names).lookup x=some c':=hc'
    rw [hc2]
    have:=inCl (PySem.mem_of_lookup hc2)
    rw [e] at this
    exact this.symm
 ·show upd H s.heap.objs.size (.lst []) (s.heap.objs.size + 1)=none
  rw [aI (Nat.ne_of_gt (Nat.lt_succ_self _))]
  exact hnC
 ·rcases cases_ e with q | ⟨q,_⟩
  ·have:=clt q
   rw [aI (Nat.ne_of_lt this)]
   exact I.ib x c q
  ·rw [aI (Nat.ne_of_gt (Nat.lt_of_lt_of_le (Nat.lt_add_of_pos_right (by decide)) q))]
   exact I.hok.fresh (Nat.le_trans (Nat.le_add_right _ 2) q)
 ·exact I.hok.laid keep (Nat.le_refl _) ⟨Nat.zero_le _,[],0,.nil,lst⟩
 ·show (cSt own fr σ).length=N.length
  unfold cSt
  rw [List.length_append,List.length_replicate,List.length_map,S.len]
end
def PF (X:Cx) (ifs:List Expr) (t:TT):Prop :=
 ∀(pins:List (Addr × Obj)) (s:Shared) (σ:St) (H:Hp) (Q:Bool->Hp->Prop),Inv X pins σ H s->t σ H Q ->
  wpAny (model X.prog X.w) X.A (forIn ifs true fun c r=>if r=true then do let ok <- isTrue c X.env (eval c X.env);pure (ForInStep.yield ok) else pure (ForInStep.yield r)) (TP X pins σ Q) X.xe s
def BL:TT:=fun _ H Q=>Q true H
theorem kQ {X:Cx}:PF X [] BL:=fun _ _ _ H _ I h=>wpAny_tests_nil ⟨H,I,h⟩
theorem qa {prog:Program}{w:World}{A:Around}{R:Result->Shared->Prop}{s:Shared}{elt target iter:Expr}{ifs:List Expr}{scope:Scope}{pos:Pos}{it acc:Value}{env:Env} (I:Nat->Shared->Prop)
  (turn:∀n s,I n s->wpAny (model prog w) A (pyNext it) (fun r s₁=>match r with
   | none=>R (.ok .next) s₁
   | some v=>wpAny (model prog w) A (letOwnedTupleGo target it v) (fun _ s₁'=>wpAny (model prog w) A (assign target env v) (fun _ s₂ =>
     wpAny (model prog w) A (forIn ifs true fun c r=>if r=true then do let ok <- isTrue c env (eval c env);pure (ForInStep.yield ok) else pure (ForInStep.yield r)) (fun ok s₃ =>
      if ok=true then wpAny (model prog w) A (eval elt env) (fun x s₄ =>
       wpAny (model prog w) A (call (.builtin "list.append") [acc,x]) (fun _ s₅=>∃m,m < n/\I m s₅) (fun _ _=>False) s₄) (fun _ _=>False) s₃
      else ∃m,m < n/\I m s₃) (fun _ _=>False) s₂) (fun _ _=>False) s₁') (fun _ _=>False) s₁) (fun _ _=>False) s)
  (n:Nat) (h:I n s) :
  codeAny (model prog w) A (.compLoop (.ListComp elt [⟨target,iter,ifs,0⟩] scope pos) 0 it acc env) R s:=by
 refine codeAny_loop rfl I (fun n s hI=>?_) n h
 show wpAny _ A ((compTurn (.ListComp elt [⟨target,iter,ifs,0⟩] scope pos) 0 it acc env).onRaise (fun x=>do noteFrame x env;theTreesLotGoes x)) _ _ s
 refine wpAny_noted ?_
 rw [compTurn_list]
 have no:∀{α:Type}{t:Sem α}{Q:α->Shared->Prop}{E':Value->Shared->Prop}{s':Shared},wpAny (model prog w) A t Q (fun _ _=>False) s'->wpAny (model prog w) A t Q E' s':=fun h=>wpAny_mono h (fun _ _ q=>q) fun _ _ z=>z.elim
 refine wpAny_bind (wpAny_standAt (wpAny_bind (no (wpAny_mono (turn n s hI) (fun r s₁ h₁=>?_) fun _ _ h'=>h'))))
 cases r with
 | none=>exact wpAny_pure h₁
 | some v =>
  refine wpAny_bind (no (wpAny_mono h₁ (fun _ s₁' h₁'=>?_) fun _ _ h'=>h'))
  refine wpAny_bind (no (wpAny_mono h₁' (fun _ s₂ h₂=>wpAny_bind (no (wpAny_mono h₂ (fun ok s₃ h₃=>?_) fun _ _ h'=>h'))) fun _ _ h'=>h'))
  cases ok with
  | false=>exact wpAny_pure ⟨rfl,h₃⟩
  | true =>
   exact wpAny_bind (wpAny_bind (no (wpAny_mono h₃ (fun x s₄ h₄=>wpAny_bind (no (wpAny_mono h₄ (fun _ s₅ h₅=>wpAny_pure (wpAny_pure ⟨rfl,h₅⟩)) fun _ _ h'=>h'))) fun _ _ h'=>h')))
structure kT (J:It) (own:Nat) (fr:List Nat) (g:CB->TG) (tf:CB->TT) (te:CB->TE) (Q:VK) (σ:St) (H1:Hp):Prop where
 go:∀(b:CB) (D:Addr),H1 D=none->∃W:Nat->Nat->St->Hp->Prop,(∃m,W 0 m (cSt own fr σ) (upd H1 D (.lst [])))/\∀i m σ' H',W i m σ' H' ->
  (J.stop i H'/\Q (.ref D) H') \/ (J.go i H'/\∃M:St->Hp->Prop,(∀σ2 H2,M σ2 H2->∃m',m' < m/\W (i + 1) m' σ2 H2)/\∀x H2,J.yld i H' x H2->g b x σ' H2 fun σ3 H3=>tf b σ3 H3 fun k H4 =>
   if k=true then te b σ3 H4 fun y H5=>∃ys,H5 D=some (.lst ys)/\ys.length < sizeLine/\M σ3 (upd H5 D (.lst (ys ++ [y]))) else M σ3 H4)
def wG (wi:TI) (own:Nat) (fr:List Nat) (g:CB->TG) (tf:CB->TT) (te:CB->TE):TE:=fun σ H Q=>wi σ H fun J H1=>kT J own fr g tf te Q σ H1
section
variable {X:Cx}{tg iter elt:Expr}{ifs:List Expr}{scope:Scope}{pos:Pos}{N:List Str}{own:Nat}{fr:List Nat}{wi:TI}{g:CB->TG}{tf:CB->TT}{te:CB->TE}
theorem rM {use:Option (Value->Sem Unit)}{R:Value->Shared->Prop}{pins:List (Addr × Obj)}{s:Shared}{σ:St}{H:Hp}{Q:VK} (S:b9 X.env.scope X.N N own fr scope) (hc:X.calm=true) (hi:PI X tg iter wi)
  (hg:∀b,PG (cxC X N scope b) tg (g b)) (hf:∀b,PF (cxC X N scope b) ifs (tf b)) (he:∀b,PE (cxC X N scope b) elt (te b)) (hs:∀x,foldedSetIterable iter X.env x=pure x) (I:Inv X pins σ H s) (h:wG wi own fr g tf te σ H Q)
  (fin:∀(D C:Addr) (oC:Obj) (m:Str->Option Value) (H':Hp) (s':Shared),Inv X (pins ++ [(C,oC)]) σ H' s'->X.s₀.heap.objs.size <= C->(∀p ∈ X.pn ++ pins,p.1 ≠ C)->(∀h':Heap,h'.get? C=some oC->h'.Ns C m)->Q (.ref D) H'->compPost (model X.prog X.w) X.A X.xe use R (.ref D) C (.ok .next) s') :
  wpAny (model X.prog X.w) X.A (comprehension (.ListComp elt [⟨tg,iter,ifs,0⟩] scope pos) scope X.env (firstIterPos [⟨tg,iter,ifs,0⟩] pos) (newList []) false (eval iter X.env) use) R X.xe s:=by
 refine wpAny_comprehension_free rfl hs (lJ (S.cells I.ok)) S.kind (fun x hx hk=>?_) (thn (hi pins s σ H _ I h) fun v s1 h1=>thn h1 fun itv s2 h2=>?_)
 ·have:=dI S.nd (show (x.1,x.2) ∈ scope.names from hx)
  rw [this,hk]
 obtain ⟨it,fp,tn,J,H2,e,I2,T,st2,f2,q⟩:=h2
 subst e
 refine wpAny_newObj_type ?_
 refine qK ?_
 have eD:(s2.heap.push { cls:=.type "list",data:=.seq #[] }).objs.size=s2.heap.objs.size + 1:=Heap.size_push ..
 have hD:H2 s2.heap.objs.size=none:=I2.hok.fresh (Nat.le_refl _)
 have hlt:∀b ∈ fp,b < s2.heap.objs.size:=fun b hb=>by
  obtain ⟨o,ho,_⟩:=T.obj 0 _ st2 b hb
  exact Heap.lt_size ho
 obtain ⟨W,⟨m0,w0⟩,turn⟩:=q.go ⟨s2.heap.objs.size + 1,fp,s2,H2⟩ s2.heap.objs.size hD
 have IX:=wO (fp:=fp) S I2 rfl rfl rfl f2 hlt
 have st4:tn 0 (pushCells ((s2.heap.push { cls:=.type "list",data:=.seq #[] }).push { cls:=.type "dict",data:=.dict #[] }) scope.names) :=
  T.keep 0 _ _ st2 fun b _ o e=>pushCells_keeps _ _ _ _ (Heap.get?_push_of_some _ (Heap.get?_push_of_some _ e))
 have fr0:∀b ∈ fp,upd H2 s2.heap.objs.size (.lst []) b=none:=fun b hb=>by
  rw [aI (Nat.ne_of_lt (hlt b hb))]
  exact (f2 b hb).1
 have cne:∀b ∈ fp,∀x c,(cxC X N scope ⟨s2.heap.objs.size + 1,fp,s2,H2⟩).env.cells.lookup x=some c->c ≠ b:=fun b hb=>((IX.ok.exf b hb).2)
 have stat:∀{H':Hp},(∀b ∈ fp,H' b=none)->∀b ∈ fp,pD (cxC X N scope ⟨s2.heap.objs.size + 1,fp,s2,H2⟩) [] H' b:=fun hn b hb =>
  ⟨hn b hb,(IX.ok.exf b hb).1,IX.ok.xg b hb,.inl hb,cne b hb,fun p hp=>absurd (show p ∈ ([]:List (Addr × Obj)) from hp) (by simp)⟩
 have e4:∀cenv:Env,cenv=newEnv scope (s2.heap.push { cls:=.type "list",data:=.seq #[] }).objs.size X.env.globals (cellsFrom ((s2.heap.push { cls:=.type "list",data:=.seq #[] }).objs.size + 1) scope.names (nA X.env scope.names)) X.env.qual none .none (some X.env) builtinsNs ->
   ({ cenv with scope:=relabel scope X.env }:Env)=(cxC X N scope ⟨s2.heap.objs.size + 1,fp,s2,H2⟩).env/\cenv.locals=s2.heap.objs.size + 1:=fun cenv e=>by
  subst e
  rw [eD]
  exact ⟨rfl,rfl⟩
 obtain ⟨e5,e6⟩:=e4 _ rfl
 have loop:codeAny (model X.prog X.w) X.A (.compLoop (.ListComp elt [⟨tg,iter,ifs,0⟩] scope pos) 0 (.ref it) (.ref s2.heap.objs.size) (cxC X N scope ⟨s2.heap.objs.size + 1,fp,s2,H2⟩).env)
   (compPost (model X.prog X.w) X.A X.xe use R (.ref s2.heap.objs.size) (s2.heap.objs.size + 1)) { s2 with heap:=pushCells ((s2.heap.push { cls:=.type "list",data:=.seq #[] }).push { cls:=.type "dict",data:=.dict #[] }) scope.names }:=by
  refine qa (fun n s'=>∃i σ' H',Inv (cxC X N scope ⟨s2.heap.objs.size + 1,fp,s2,H2⟩) [] σ' H' s'/\tn i s'.heap/\(∀b ∈ fp,H' b=none)/\W i n σ' H') ?_ m0 ⟨0,_,_,IX,st4,fr0,w0⟩
  rintro n s5 ⟨i,σ5,H5,I5,st5,fr5,w5⟩
  rcases turn i n σ5 H5 w5 with ⟨stop,qn⟩ | ⟨go,M,hM,step⟩
  ·refine thn (T.done (cxC X N scope ⟨s2.heap.objs.size + 1,fp,s2,H2⟩) rfl rfl rfl hc i [] s5 σ5 H5 (fun _ _=>False) I5 (stat fr5) st5 stop) fun r s6 ⟨hr,I6⟩=>?_
   subst hr
   obtain ⟨m,hn,_⟩:=I6.loc
   obtain ⟨oC,es,ep,hoC,hd,hk,hm⟩:=id hn
   have IB:Inv X pins σ H5 s6:=I2.BU (ch:=fp) I6.os I6.base I6.hok I6.bare fun b hb=>⟨(f2 b hb).2.2.2.1,(f2 b hb).2.1,(f2 b hb).2.2.2.2.1,(f2 b hb).2.2.2.2.2⟩
   have young:s2.heap.objs.size <= s2.heap.objs.size + 1:=Nat.le_succ _
   refine fin s2.heap.objs.size (s2.heap.objs.size + 1) oC m H5 s6 (IB.p9 fun p hp=>?_) (Nat.le_trans I2.sz young) (fun p hp=>Nat.ne_of_lt (Nat.lt_of_lt_of_le (Heap.lt_size (I2.pin p hp).1) young)) (fun h' e=>⟨oC,es,ep,e,hd,hk,hm⟩) qn
   rcases List.mem_append.mp hp with z | z
   ·exact IB.pin p (List.mem_append_right _ z)
   ·have ep':p=(s2.heap.objs.size + 1,oC):=by simpa using z
    subst ep'
    exact ⟨hoC,I6.free,Nat.ne_of_gt (Nat.lt_of_lt_of_le I2.lt young),I2.BH young,fun v z=>by rw [hd] at z;cases z⟩
  ·refine thn (T.item (cxC X N scope ⟨s2.heap.objs.size + 1,fp,s2,H2⟩) rfl rfl rfl hc i [] s5 σ5 H5 (fun _ _=>False) I5 (stat fr5) st5 go) fun r s6 ⟨u,hr,h6⟩=>?_
   subst hr
   refine thn h6 fun _ s7 ⟨x,H7,I7,r7,y7,st7,fr7⟩=>?_
   have I7':=I7.pinned (stat fr7) (T.obj _ _ st7)
   refine thn (hg _ _ s7 σ5 H7 x u _ I7' r7 (step x H7 y7)) fun _ s8 ⟨σ8,H8,I8,q8⟩=>?_
   refine thn (hf _ _ s8 σ8 H8 _ I8 q8) fun k s9 ⟨H9,I9,q9⟩=>?_
   have again:∀{H10:Hp}{s10:Shared},Inv (cxC X N scope ⟨s2.heap.objs.size + 1,fp,s2,H2⟩) ([] ++ mJ fp s7.heap) σ8 H10 s10->M σ8 H10 ->
     ∃m,m < n/\∃i σ' H',Inv (cxC X N scope ⟨s2.heap.objs.size + 1,fp,s2,H2⟩) [] σ' H' s10/\tn i s10.heap/\(∀b ∈ fp,H' b=none)/\W i m σ' H':=fun {H10 s10} I10 q10=>by
    obtain ⟨m',hm,w10⟩:=hM σ8 H10 q10
    refine ⟨m',hm,i + 1,σ8,H10,I10.ir,T.keep _ _ _ st7 fun b hb o e=>(I10.pin (b,o) (List.mem_append_right _ (List.mem_append_right _ (gH hb e)))).1,fun b hb=>?_,w10⟩
    obtain ⟨o,e,d⟩:=T.obj _ _ st7 b hb
    exact (I10.pin (b,o) (List.mem_append_right _ (List.mem_append_right _ (gH hb e)))).2.1
   cases k with
   | false=>exact again I9 q9
   | true =>
    refine thn (he _ _ s9 σ8 H9 _ I9 q9) fun w10 s10 ⟨y,H10,I10,r10,ys,hys,hz,q10⟩=>?_
    refine thn (oT _ s10 σ8 H10 (.ref s2.heap.objs.size) [y] (.ref s2.heap.objs.size) [w10] (fun _ H'=>M σ8 H') I10 rfl (.cons r10 .nil) ⟨_,ys,y,rfl,rfl,hys,hz,q10⟩) fun _ s11 ⟨_,H11,I11,_,q11⟩=>?_
    exact again I11 q11
 have go:codeAny (model X.prog X.w) X.A (.compStart (.ListComp elt [⟨tg,iter,ifs,0⟩] scope pos) 0 (.ref it) (.ref s2.heap.objs.size) (cxC X N scope ⟨s2.heap.objs.size + 1,fp,s2,H2⟩).env)
   (compPost (model X.prog X.w) X.A X.xe use R (.ref s2.heap.objs.size) (s2.heap.objs.size + 1)) { s2 with heap:=pushCells ((s2.heap.push { cls:=.type "list",data:=.seq #[] }).push { cls:=.type "dict",data:=.dict #[] }) scope.names } :=
  codeAny_compStart_list loop (T.self _ 0 _ _ _ st4 loop)
 have fin2:∀(env':Env) (L:Addr),env'=(cxC X N scope ⟨s2.heap.objs.size + 1,fp,s2,H2⟩).env->L=s2.heap.objs.size + 1 ->
   codeAny (model X.prog X.w) X.A (.compStart (.ListComp elt [⟨tg,iter,ifs,0⟩] scope pos) 0 (.ref it) (.ref s2.heap.objs.size) env') (compPost (model X.prog X.w) X.A X.xe use R (.ref s2.heap.objs.size) L)
    { s2 with heap:=pushCells ((s2.heap.push { cls:=.type "list",data:=.seq #[] }).push { cls:=.type "dict",data:=.dict #[] }) scope.names }:=by
  intro env' L h1 h2
  subst h1 h2
  exact go
 exact fin2 _ _ e5 e6
theorem oM {pins:List (Addr × Obj)}{C:Addr}{oC:Obj}{σ':St}{H':Hp}{s':Shared}{h':Heap} (I:Inv X (pins ++ [(C,oC)]) σ' H' s') (hy:X.s₀.heap.objs.size <= C) (hp:∀p ∈ X.pn ++ pins,p.1 ≠ C) (sb:Heap.SameBut C s'.heap h') :
  Inv X pins σ' H' { s' with heap:=h' }:=by
 have pC:=I.pin (C,oC) (List.mem_append_right _ (List.mem_append_right _ (by simp)))
 have I2:Inv X pins σ' H' s':=I.ir
 refine I2.turned (it:=C) (t':=s'.toks) (fun b o hb e=>(sb.2 b hb).trans e) pC.2.1 pC.2.2.1 (.inr hy) (fun x c e z=>?_) hp
 obtain ⟨v,o,ho,hd⟩:=I2.cell x c e
 rw [z,pC.1] at ho
 cases ho
 exact pC.2.2.2.2 v hd
theorem j5 (S:b9 X.env.scope X.N N own fr scope) (hc:X.calm=true) (hi:PI X tg iter wi) (hg:∀b,PG (cxC X N scope b) tg (g b)) (hf:∀b,PF (cxC X N scope b) ifs (tf b)) (he:∀b,PE (cxC X N scope b) elt (te b))
  (hs:∀x,foldedSetIterable iter X.env x=pure x:=by intro _;rfl):PE X (.ListComp elt [⟨tg,iter,ifs,0⟩] scope pos) (wG wi own fr g tf te):=by
 intro pins s σ H Q I h
 rw [eval_ListComp]
 refine rM (use:=none) S hc hi hg hf he hs I h fun D C oC m H' s' I' hy hp hm q=>?_
 have pC:=I'.pin (C,oC) (List.mem_append_right _ (List.mem_append_right _ (by simp)))
 exact ⟨m,hm _ pC.1,fun h' sb=>⟨.ref D,H',oM I' hy hp sb,rfl,q⟩⟩
theorem rY {j:Nat}{y:Str}{py spos:Pos} (S:b9 X.env.scope X.N N own fr scope) (hc:X.calm=true) (hN:X.N.Nodup) (hj:X.N[j]?=some y) (hy:Loc X.env.scope y) (hi:PI X tg iter wi) (hg:∀b,PG (cxC X N scope b) tg (g b)) (hf:∀b,PF (cxC X N scope b) ifs (tf b))
  (he:∀b,PE (cxC X N scope b) elt (te b)) (hfn:X.fn y=true \/ X.env.scope.names.lookup y=some .local:=by first | exact .inl rfl | exact .inr rfl | assumption) (hs:∀x,foldedSetIterable iter X.env x=pure x:=by intro _;rfl)
  (hsw:swapsWith (.ListComp elt [⟨tg,iter,ifs,0⟩] scope pos) (some (.Name y py)) spos.line X.env=pure true:=by rfl) :
  PS X (.Assign [.Name y py] (.ListComp elt [⟨tg,iter,ifs,0⟩] scope pos) spos) (yw (wG wi own fr g tf te) (jA j)):=by
 intro pins s σ H D I h
 rw [exec_Assign_Name_used _ _ _ _ hsw]
 refine wpAny_bind (wpAny_standAt (wpAny_bind ?_))
 show wpAny _ _ (do let _ <- comprehension (.ListComp elt [⟨tg,iter,ifs,0⟩] scope pos) scope X.env _ (newList []) false (eval iter X.env) (some (assign (.Name y py) X.env))) _ _ s
 refine wpAny_bind (thn (rM (use:=some (assign (.Name y py) X.env)) (R:=fun _ s'=>SP X pins D .next s') S hc hi hg hf he hs I h fun D' C oC m H' s' I' hy' hp hm q=>?_) fun _ s' q=>wpAny_pure (wpAny_pure q))
 show wpAny _ _ (assign (.Name y py) X.env (.ref D')) _ _ s'
 refine thn (uX hN hj hy hfn _ s' σ H' (.ref D') (.ref D') _ I' rfl q) fun _ s'' ⟨σ2,H2,I2,q2⟩=>?_
 have pC:=I2.pin (C,oC) (List.mem_append_right _ (List.mem_append_right _ (by simp)))
 exact ⟨m,hm _ pC.1,fun h' sb=>⟨σ2,H2,oM I2 hy' hp sb,q2⟩⟩
end
end L2
namespace L2
open PySem PySem.Spec PyProof.Rows
theorem PE.imp {X:Cx}{e:Expr}{t t':TE} (h:PE X e t) (k:∀σ H Q,t' σ H Q->t σ H Q):PE X e t':=fun pins s σ H Q I q=>h pins s σ H Q I (k σ H Q q)
theorem OpR.imp {X:Cx}{f:Value->Value->Sem Value}{r r':R2} (h:OpR X f r) (k:∀x y H Q,r' x y H Q->r x y H Q):OpR X f r':=fun pins s σ H x y v u Q I rx ry q=>h pins s σ H x y v u Q I rx ry (k x y H Q q)
def vZ (i:Nat):TE:=fun σ H Q=>match σ[i]? with
 | some (some v)=>Q v H
 | _=>False
section
variable {X:Cx}
theorem fv (i:Nat) {x:Str}{pos:Pos} (hN:X.N[i]?=some x:=by rfl) (hv:Vis X.env.scope x:=by first | exact Or.inl rfl | exact Or.inr (Or.inl rfl) | exact Or.inr (Or.inr rfl)) (hd:(x == ("__debug__":Str))=false:=by decide)
  (hcd:(x == ("__classdict__":Str))=false:=by decide):PE X (.Name x pos) (vZ i):=(Ay hN hv hd hcd).imp fun σ H Q q=>by
 unfold vZ at q
 cases e:σ[i]? with
 | none=>rw [e] at q;exact q.elim
 | some o =>
  cases o with
  | none=>rw [e] at q;exact q.elim
  | some v=>rw [e] at q;exact ⟨v,e,q⟩
def DG:R2:=fun x y H Q=>match x,y with
 | .int i,.int j=>Q (.int (i + j)) H
 | .str a,.str b=>a.length + b.length <= sizeLine/\Q (.str (a ++ b)) H
 | .ref p,.ref q=>Cz (.ref p) (.ref q) H Q
 | _,_=>False
theorem aN:OpR X (binaryOp .Add) DG:=by
 intro pins s σ H x y v u Q I rx ry h
 cases x with
 | int i =>
  cases y with
  | int j=>exact AH pins s σ H _ _ v u Q I rx ry ⟨i,j,rfl,rfl,h⟩
  | _=>exact (show False from h).elim
 | str a =>
  cases y with
  | str b=>exact r8 pins s σ H _ _ v u Q I rx ry ⟨a,b,rfl,rfl,h.1,h.2⟩
  | _=>exact (show False from h).elim
 | ref p =>
  cases y with
  | ref q=>exact AF pins s σ H _ _ v u Q I rx ry h
  | _=>exact (show False from h).elim
 | _=>cases y <;> exact (show False from h).elim
def nW (C:Int->Int->Prop) (g:Int->Int->V):R2:=fun x y H Q=>match x,y with
 | .int i,.int j=>C i j/\Q (g i j) H
 | _,_=>False
def jv (g:Int->Int->V):R2:=fun x y H Q=>match x,y with
 | .int i,.int j=>Q (g i j) H
 | _,_=>False
theorem OpR.nW {f:Value->Value->Sem Value}{C:Int->Int->Prop}{g:Int->Int->V} (h:OpR X f (rI C g)):OpR X f (nW C g):=h.imp fun x y H Q q=>by
 cases x with
 | int i =>
  cases y with
  | int j=>exact ⟨i,j,rfl,rfl,q.1,q.2⟩
  | _=>exact (show False from q).elim
 | _=>cases y <;> exact (show False from q).elim
theorem OpR.jv {f:Value->Value->Sem Value}{g:Int->Int->V} (h:OpR X f (rI0 g)):OpR X f (jv g):=h.imp fun x y H Q q=>by
 cases x with
 | int i =>
  cases y with
  | int j=>exact ⟨i,j,rfl,rfl,q⟩
  | _=>exact (show False from q).elim
 | _=>cases y <;> exact (show False from q).elim
theorem q0:OpR X (binaryOp .Sub) (jv fun i j=>.int (i - j)):=Bd.jv
theorem Cs:OpR X (binaryOp .Mult) (nW ye fun i j=>.int (i * j)):=Aj.nW
def zE (_ j:Int):Prop:=0 < j/\j < 2 ^ 64
theorem yE {j:Int} (h:zE 0 j):j.natAbs.log2 < 9000:=by
 have h1:j.natAbs < 2 ^ 64:=by
  have h2:j < 2 ^ 64:=h.2
  have h3:0 < j:=h.1
  omega
 have h0:j.natAbs ≠ 0:=by have h3:0 < j:=h.1;omega
 have:=(Nat.log2_lt h0).mpr h1
 omega
theorem cI:OpR X (binaryOp .FloorDiv) (nW zE fun i j=>.int (i / j)):=(opI fun i j _ _ _ _ _ hc q=>by
 have h1:(0:Int) < j:=hc.1
 exact floordiv_int (by omega) (by rw [Int.fdiv_eq_ediv_of_nonneg i (by omega)];exact q) (.inl (PyProof.noPylong_of_log2 (yE hc)))).nW
theorem bw:OpR X (binaryOp .Mod) (nW (fun _ j=>0 < j) fun i j=>.int (i % j)):=AM.nW
theorem om:OpR X (binaryOp .Pow) (nW Cb fun i j=>.int (i ^ j.toNat)):=Bu.nW
theorem vg:OpR X (compareOp .Lt) (jv fun i j=>.bl (decide (i < j))):=CK.jv
theorem sP:OpR X (compareOp .Gt) (jv fun i j=>.bl (decide (j < i))):=BA.jv
theorem DF:OpR X (compareOp .GtE) (jv fun i j=>.bl (decide (j <= i))):=Ca.jv
mutual
inductive ig (K:W.Frag) (H:Hp):V->PyData->Prop where
 | non:ig K H .non .none
 | bl (b:Bool):ig K H (.bl b) (.bool b)
 | int (i:Int):ig K H (.int i) (.int i)
 | str (x:Str):ig K H (.str x) (.str x)
 | lst {a:Addr}{xs:List V}{ds:List PyData} (h:SqL K H a xs) (r:cC K H xs ds):ig K H (.ref a) (.list ds)
 | tup {a:Addr}{xs:List V}{ds:List PyData} (h:SqT K H a xs) (r:cC K H xs ds):ig K H (.ref a) (.tuple ds)
inductive cC (K:W.Frag) (H:Hp):List V->List PyData->Prop where
 | nil:cC K H [] []
 | cons {x:V}{xs:List V}{d:PyData}{ds:List PyData} (h:ig K H x d) (r:cC K H xs ds):cC K H (x :: xs) (d :: ds)
end
mutual
theorem Inv.reads {pins:List (Addr × Obj)}{σ:St}{H:Hp}{s:Shared} (I:Inv X pins σ H s):∀{x:V}{d:PyData}{u:Value},ig X.K H x d->RelV x u->∃as,Reads s.heap u d as
 | _,_,_,.non,r=>by cases r;exact ⟨_,.none⟩
 | _,_,_,.bl b,r=>by cases r;exact ⟨_,.bool b⟩
 | _,_,_,.int i,r=>by obtain ⟨t,rfl⟩:=r;exact ⟨_,.int i t⟩
 | _,_,_,.str x,r=>by obtain ⟨t,rfl⟩:=r;exact ⟨_,.str x t⟩
 | _,_,_,.lst h q,r=>by
  cases r
  obtain ⟨its,rv,⟨o,n,e,hc,_,hd⟩,_⟩:=I.list h
  obtain ⟨as,z⟩:=I.readsAll q rv
  exact ⟨_,.list e hc hd (by simpa using z)⟩
 | _,_,_,.tup h q,r=>by
  cases r
  obtain ⟨its,rv,⟨o,e,hc,n,hd⟩,_⟩:=I.tuple h
  obtain ⟨as,z⟩:=I.readsAll q rv
  exact ⟨_,.tuple e hc hd (by simpa using z)⟩
theorem Inv.readsAll {pins:List (Addr × Obj)}{σ:St}{H:Hp}{s:Shared} (I:Inv X pins σ H s):∀{xs:List V}{ds:List PyData}{us:List Value},cC X.K H xs ds->Vals xs us->∃as,ReadsAll s.heap us ds as
 | _,_,_,.nil,r=>by cases r;exact ⟨_,.nil⟩
 | _,_,_,.cons h q,r=>by
  cases r with
  | cons r1 r2 =>
   obtain ⟨as,z⟩:=I.reads h r1
   obtain ⟨bs,z2⟩:=I.readsAll q r2
   exact ⟨_,.cons z z2⟩
end
def fEq (K:W.Frag):R2:=fun x y H Q=>match x,y with
 | .ref p,.ref q=>∃d e,ig K H (.ref p) d/\ig K H (.ref q) e/\SeqAt.shaped d=true/\SeqAt.shaped e=true/\Q (.bl (PyData.eqv d e)) H
 | x,y=>vQ x y=true/\Q (.bl (decide (x=y))) H
def fNe (K:W.Frag):R2:=fun x y H Q=>match x,y with
 | .ref p,.ref q=>∃d e,ig K H (.ref p) d/\ig K H (.ref q) e/\SeqAt.shaped d=true/\SeqAt.shaped e=true/\Q (.bl (!PyData.eqv d e)) H
 | x,y=>vQ x y=true/\Q (.bl (!decide (x=y))) H
theorem DV (hu:X.A.units + 64 < cLine):OpR X (compareOp .Eq) (fEq X.K):=by
 intro pins s σ H x y v u Q I rx ry h
 by_cases hr:∃p q,x=V.ref p/\y=V.ref q
 ·obtain ⟨p,q,rfl,rfl⟩:=hr
  obtain ⟨d,e,hd,he,sd,se,hq⟩:=h
  obtain ⟨as,z1⟩:=I.reads hd rx
  obtain ⟨bs,z2⟩:=I.reads he ry
  exact eq_dataH z1 z2 sd se hu ⟨.bl _,H,I,rfl,hq⟩
 ·refine Cu pins s σ H x y v u Q I rx ry ?_
  cases x <;> cases y <;> first | exact h | exact absurd ⟨_,_,rfl,rfl⟩ hr
theorem pS (hu:X.A.units + 64 < cLine):OpR X (compareOp .NotEq) (fNe X.K):=by
 intro pins s σ H x y v u Q I rx ry h
 by_cases hr:∃p q,x=V.ref p/\y=V.ref q
 ·obtain ⟨p,q,rfl,rfl⟩:=hr
  obtain ⟨d,e,hd,he,sd,se,hq⟩:=h
  obtain ⟨as,z1⟩:=I.reads hd rx
  obtain ⟨bs,z2⟩:=I.reads he ry
  exact ne_dataH z1 z2 sd se hu ⟨.bl _,H,I,rfl,hq⟩
 ·refine BV pins s σ H x y v u Q I rx ry ?_
  cases x <;> cases y <;> first | exact h | exact absurd ⟨_,_,rfl,rfl⟩ hr
def fIn (K:W.Frag) (neg:Bool):R2:=fun x y H Q=>match y with
 | .str j=>∃i,x=.str i/\Q (.bl (if neg then !(!(Builtin.Str.occurrences j i 0 j.length 1).isEmpty) else !(Builtin.Str.occurrences j i 0 j.length 1).isEmpty)) H
 | .ref p=>∃xs,(SqL K H p xs \/ SqT K H p xs)/\iK x=true/\xs.all iK=true/\Q (.bl (if neg then !inV x xs else inV x xs)) H
 | _=>False
theorem DM:OpR X (compareOp .In) (fIn X.K false):=by
 intro pins s σ H x y v u Q I rx ry h
 cases y with
 | str j =>
  obtain ⟨i,rfl,q⟩:=h
  exact vG pins s σ H _ _ v u Q I rx ry ⟨i,j,rfl,rfl,q⟩
 | ref p =>
  obtain ⟨xs,h1,h2,h3,q⟩:=h
  exact vq pins s σ H _ _ v u Q I rx ry ⟨p,xs,rfl,h1,h2,h3,q⟩
 | _=>exact (show False from h).elim
theorem yx:OpR X (compareOp .NotIn) (fIn X.K true):=by
 intro pins s σ H x y v u Q I rx ry h
 cases y with
 | str j =>
  obtain ⟨i,rfl,q⟩:=h
  exact o8 pins s σ H _ _ v u Q I rx ry ⟨i,j,rfl,rfl,q⟩
 | ref p =>
  obtain ⟨xs,h1,h2,h3,q⟩:=h
  exact qi pins s σ H _ _ v u Q I rx ry ⟨p,xs,rfl,h1,h2,h3,q⟩
 | _=>exact (show False from h).elim
theorem DJ:OpR X (compareOp .Is) (fun x y H Q=>y=.non/\Q (.bl (decide (x=.non))) H):=Bb
inductive ixS (K:W.Frag) (p:Addr) (i:Int) (H:Hp) (Q:VK):Prop
 | mk (xs:List V) (v:V) (h0:SqL K H p xs \/ SqT K H p xs) (h1:atI xs i=some v) (q:Q v H):ixS K p i H Q
def fIx (K:W.Frag):R2:=fun x y H Q=>match x,y with
 | .ref p,.int i=>ixS K p i H Q
 | .str z,.int i=>∃c,z.length <= sizeLine/\atI z.cps.toList i=some c/\Q (.str ⟨#[c]⟩) H
 | _,_=>False
theorem wX:IxR X (fIx X.K):=by
 intro value slice pins s σ H x y v u Q I rx ry h hs
 cases x with
 | ref p =>
  cases y with
  | int i =>
   obtain ⟨xs,w,h1 | h1,h2,q⟩:=h
   ·exact yN value slice pins s σ H _ _ v u Q I rx ry ⟨p,xs,i,w,rfl,rfl,h1,h2,q⟩ hs
   ·exact zW value slice pins s σ H _ _ v u Q I rx ry ⟨p,xs,i,w,rfl,rfl,h1,h2,q⟩ hs
  | _=>exact (show False from h).elim
 | str z =>
  cases y with
  | int i =>
   obtain ⟨c,h1,h2,q⟩:=h
   exact AJ value slice pins s σ H _ _ v u Q I rx ry ⟨z,i,c,rfl,rfl,h1,h2,q⟩ hs
  | _=>exact (show False from h).elim
 | _=>cases y <;> exact (show False from h).elim
def DE:V->Option Int->Option Int->Hp->VK->Prop:=fun x lo hi H Q=>∃z,x=.str z/\z.length <= sizeLine/\Q (.str (Txt.slice z lo hi)) H
def Its (x:Str):It:=⟨fun i _=>i < x.cps.size,fun i H v H'=>H'=H/\∃c,x.cps[i]?=some c/\v=.str ⟨#[c]⟩,fun i _=>x.cps.size <= i⟩
theorem vW {P:Program}{w:World}{K:PySem.W.Frag}{tg:Expr}{T:String} (hT:T="str_ascii_iterator" \/ T="str_iterator") (it:Addr) (x:Str) (t:Tok):Turn P w K tg (Its x) [it] it (fun i h=>i <= x.cps.size/\h.IsStrIter it T x t i) where
 mem:=by simp
 obj:=fun i h st b hb=>by
  have e:b=it:=by simpa using hb
  subst e
  obtain ⟨_,o,e,c,d⟩:=st
  exact ⟨o,e,fun v z=>by rw [d] at z;cases z⟩
 keep:=fun i h h' st k=>by
  obtain ⟨hi,o,e,r⟩:=st
  exact ⟨hi,o,k it (by simp) o e,r⟩
 item:=by
  intro X hP hw hK hc i pins s σ H E I hf st hg
  subst hP hw hK
  obtain ⟨f0,f1,f2,f3,f4,f5⟩:=hf it (by simp)
  have W:Walks X.prog X.w X.A it [it] [it] x.cps.size (SignAt x) (fun i h=>h.IsStrIter it T x t i):=by
   rcases hT with rfl | rfl
   ·exact Walks.strAscii (I.ok.hd hc) it x t
   ·exact Walks.strWide (I.ok.hd hc) it x t
  refine W.item i s _ _ hg st.2 fun v h' tk hv st' kk=>?_
  obtain ⟨c,u,hcp,rfl⟩:=hv
  have I1:Inv X pins σ H { s with heap:=h',toks:=tk }:=I.turned (fun b o hb e=>kk b o (by simpa using hb) e) f0 f1 f3 f4 f5
  obtain ⟨o,e,c',d⟩:=id st'
  refine ⟨_,rfl,qW (s:={ s with heap:=h',toks:=tk }) e c' d (by rcases hT with rfl | rfl <;> decide) ⟨.str ⟨#[c]⟩,H,I1,⟨u,rfl⟩,⟨rfl,c,hcp,rfl⟩,⟨hg,st'⟩,fun b hb=>(hf b hb).1⟩⟩
 done:=by
  intro X hP hw hK hc i pins s σ H E I hf st hg
  subst hP hw hK
  obtain ⟨f0,f1,f2,f3,f4,f5⟩:=hf it (by simp)
  have W:Walks X.prog X.w X.A it [it] [it] x.cps.size (SignAt x) (fun i h=>h.IsStrIter it T x t i):=by
   rcases hT with rfl | rfl
   ·exact Walks.strAscii (I.ok.hd hc) it x t
   ·exact Walks.strWide (I.ok.hd hc) it x t
  have e:i=x.cps.size:=Nat.le_antisymm st.1 hg
  subst e
  exact W.done s _ _ st.2 fun h' tk kk=>⟨rfl,I.turned (fun b o hb e=>kk b o (by simpa using hb) e) f0 f1 f3 f4 f5⟩
 self:=fun A i s Q E st h=>by
  rcases hT with rfl | rfl
  ·exact wpAny_pyIter_striter_ascii st.2 h
  ·exact wpAny_pyIter_striter_wide st.2 h
def Dj (K:W.Frag) (tl:TE):TI:=fun σ H R=>tl σ H fun x H1=>match x with
 | .ref a=>((∃xs,SqL K H1 a xs)/\R (Itl K a) H1) \/ ((∃xs,SqT K H1 a xs)/\R (Itt K a) H1)
 | .str z=>R (Its z) H1
 | _=>False
theorem iT {tg l:Expr}{tl:TE} (hl:PE X l tl):PI X tg l (Dj X.K tl):=by
 intro pins s σ H R I h
 refine thn (hl pins s σ H _ I h) fun v s1 ⟨x,H1,I1,r1,q1⟩=>?_
 cases x with
 | ref a =>
  cases r1
  rcases q1 with ⟨⟨xs,hq⟩,q⟩ | ⟨⟨xs,hq⟩,q⟩
  ·obtain ⟨its,rv,p,hz⟩:=I1.list hq
   refine wpAny_pyIter_list p.isList ?_
   refine ⟨s1.heap.objs.size,[s1.heap.objs.size],_,_,H1,rfl,I1.kept (t':=s1.toks) fun b o e=>Heap.get?_push_of_some _ e,vJ a _,⟨_,Heap.get?_push_size _ rfl,rfl,rfl⟩,fun b hb=>?_,q⟩
   have e:b=s1.heap.objs.size:=by simpa using hb
   subst e
   exact I1.vy (Nat.le_refl _) (I1.hok.fresh (Nat.le_refl _))
  ·obtain ⟨its,rv,p,hz⟩:=I1.tuple hq
   refine wpAny_pyIter_tuple (show s1.heap.IsTuple a its.toArray from p) ?_
   refine ⟨s1.heap.objs.size,[s1.heap.objs.size],_,_,H1,rfl,I1.kept (t':=s1.toks) fun b o e=>Heap.get?_push_of_some _ e,sO a _,⟨_,Heap.get?_push_size _ rfl,rfl,rfl⟩,fun b hb=>?_,q⟩
   have e:b=s1.heap.objs.size:=by simpa using hb
   subst e
   exact I1.vy (Nat.le_refl _) (I1.hok.fresh (Nat.le_refl _))
 | str z =>
  obtain ⟨t,rfl⟩:=r1
  refine wpAny_pyIter_strU ?_
  refine ⟨s1.heap.objs.size,[s1.heap.objs.size],_,_,H1,rfl,I1.kept (t':=s1.toks) fun b o e=>Heap.get?_push_of_some _ e,vW (T:=strIterType z) ?_ _ z t,⟨Nat.zero_le _,_,Heap.get?_push_size _ rfl,rfl,rfl⟩,fun b hb=>?_,q1⟩
  ·unfold strIterType
   split
   ·exact .inl rfl
   ·exact .inr rfl
  ·have e:b=s1.heap.objs.size:=by simpa using hb
   subst e
   exact I1.vy (Nat.le_refl _) (I1.hok.fresh (Nat.le_refl _))
 | _=>exact (show False from q1).elim
theorem cT {a:Expr}{ta:TE} (ha:PE X a ta) (he:∀whole,isTrue a X.env whole=(do let v <- whole;standAt a.pos;holding [v] (truthy v))) :
  PT X a (fun σ H Q=>ta σ H fun x H'=>rR X.K x H' Q):=wR ha he
inductive yK (K:W.Frag) (xs:List V) (H:Hp) (Q:VK):Prop
 | mk (x:V) (n:Nat) (h0:xs=[x]) (h1:CI K x H n) (q:Q (.int n) H):yK K xs H Q
theorem Cn:b7 X (.builtin "len") (yK X.K):=fun pins s σ H xs us Q I r ⟨x,n,h0,h1,q⟩=>wq pins s σ H xs us Q I r ⟨x,n,h0,h1,q⟩
theorem fY:b7 X (.type "list") (fun xs H Q=>∃p ys,xs=[.ref p]/\(SqL X.K H p ys \/ SqT X.K H p ys)/\∀l,H l=none->Q (.ref l) (upd H l (.lst ys))):=pI
theorem vP {bs:List Bool}{its:List Value} (r:Vals (bs.map V.bl) its) {i:Nat}{v:Value} (h:its[i]?=some v):∃b,bs[i]?=some b/\v=.bool b:=by
 have hi:i < its.length:=(List.getElem?_eq_some_iff.mp h).1
 have hl:=r.length
 rw [List.length_map] at hl
 have hb:bs[i]?=some bs[i]:=List.getElem?_eq_getElem (by omega)
 obtain ⟨u,hu,ru⟩:=r.get (i:=i) (x:=V.bl bs[i]) (by rw [List.getElem?_map,hb];rfl)
 rw [h] at hu
 cases hu
 exact ⟨_,hb,ru⟩
theorem CC (hc:X.calm=true:=by rfl):b7 X (.builtin "all") (fun xs H Q=>∃(p:Addr) (bs:List Bool),xs=[.ref p]/\SqL X.K H p (bs.map V.bl)/\Q (.bl (bs.all id)) H):=by
 intro pins s σ H xs us Q I r h
 obtain ⟨p,bs,rfl,hq,q⟩:=h
 obtain ⟨u,rfl,rx⟩:=vals1 r
 cases rx
 obtain ⟨its,rv,pl,hz⟩:=I.list hq
 have hl:=pl.isList
 have hlt:p < s.heap.objs.size:=by obtain ⟨_,e,_⟩:=hl;exact Heap.lt_size e
 have hlen:its.toArray.size=bs.length:=by have:=rv.length;rw [List.length_map] at this;rw [List.size_toArray];omega
 refine call_all_walk (wpAny_pyIter_list hl ?_)
 refine ⟨s.heap.objs.size,[s.heap.objs.size,p],[s.heap.objs.size],its.toArray.size,_,_,fun i=>(bs[i]?).getD true,rfl,Walks.list (A:=X.A.in1) (I.ok.hd hc) _ p (Nat.ne_of_lt hlt) its.toArray,
  ⟨⟨_,Heap.get?_push_size _ rfl,rfl,rfl⟩,hl.push _⟩,fun i v s' Q' E' hP hQ=>?_,fun h' tk hk=>?_⟩
 ·obtain ⟨b,e,rfl⟩:=vP rv (by simpa using hP)
  simp only [e,Option.getD_some] at hQ
  exact wpAny_truthy_bool hQ
 ·rw [hlen,LSm.range_all bs]
  exact ⟨.bl _,H,I.kept (LSm.kept_iter hk),rfl,q⟩
def zu:V->Value
 | .ty n=>.type n
 | .ref a=>.ref a
 | _=>.none
theorem wc {y:V}{u:Value} (r:RelV y u) (h:zu y ≠ .none):u=zu y:=by
 cases y with
 | ty n=>exact r
 | ref a=>exact r
 | _=>exact absurd rfl h
inductive sF (K:W.Frag) (xs:List V) (H:Hp) (Q:VK):Prop
 | mk (x y:V) (t:Value) (b:Bool) (h0:xs=[x,y]) (h1:zu y ≠ .none) (h2:jJ K H x t) (h3:W.kitOne K t (zu y)=some b) (q:Q (.bl b) H):sF K xs H Q
theorem bN:b7 X (.builtin "isinstance") (sF X.K):=by
 intro pins s σ H xs us Q I r h
 obtain ⟨x,y,t,b,rfl,hy,ty,e,q⟩:=h
 obtain ⟨u,w',rfl,rx,ry⟩:=vals2 r
 rw [wc ry hy]
 exact u3 I rx ty e fun tk=>⟨.bl b,H,I.tok _,rfl,q⟩
theorem aP {o e:Expr}{to:TE}{t:TA}{apos cpos:Pos} (ho:PE X o to) (ha:PA X [e] t) (hbase:attributeBase o "append" X.env (eval o X.env)=eval o X.env:=by rfl)
  (hfew:((backTo cpos (starEach [e] X.env)).all (fun x=>!x.1) && (backToKw cpos (keywordEach [] X.env)).all (fun x=>x.1.isSome)
   && decide ([e].length + ([]:List Keyword).length + (if ([]:List Keyword).isEmpty then 0 else 1) < 30))=true:=by rfl)
  (hline:(apos.endLine == cpos.line)=true:=by rfl) (hs:starEach [e] X.env=(false,eval e X.env) :: starEach [] X.env:=by rfl) (hplain:(backTo cpos (starEach [] X.env)).any (·.1)=false:=by rfl) :
  PE X (.Call (.Attribute o "append" apos) [e] [] cpos) (tBM X.K "list" pJ to t):=xc PySem.F.plainAttrs_list PySem.F.slot_list_append PySem.F.type_list_append oT ho ha hbase hfew hline hs hplain
end
def Has (P:Program) (w:World) (K:W.Frag) (mg:Str->Option Value) (base:Heap) (k:Nat) (x:Str) (ps:List Str) (sp:Sp):Prop :=
 ∃f fd,kE P w K mg base CX0 k f fd ps sp/\Binds K fd ps []/\W.keepIn K (.ref f)=true/\mg x=some (.ref f)/\∃oc od osl,K.lookup f=some ⟨oc,od,.func fd,osl⟩
structure bp (K:W.Frag) (mg:Str->Option Value) (x:Str) (st:Stmt) (ps:List Str):Prop where
 ex:∃f fd,Fun K x x st f fd/\Binds K fd ps []/\mg x=some (.ref f)
theorem aq {X:Cx}{j k:Nat}{x:Str}{ps:List Str}{sp:Sp}{e:Expr}{es:List Expr}{t:TA}{p pos:Pos} (D:Has X.prog X.w X.K X.mg X.base j x ps sp) (hr:cQ k X.A) (ha:PA X (e :: es) t) (hj:j <= k:=by decide) (hg:Gl X x:=by rfl)
  (hdb:(x == ("__debug__":Str))=false:=by decide) (he:starEach (e :: es) X.env=(false,eval e X.env) :: starEach es X.env:=by rfl) (hpl:(backTo pos (starEach es X.env)).any (·.1)=false:=by rfl) :
  PE X (.Call (.Name x p) (e :: es) [] pos) (xE sp [] E0 t):=by
 obtain ⟨f,fd,F,b,kp,m,_⟩:=D
 exact zp F (hr.mono hj) hg m kp b .nil wZ ha hdb he hpl
abbrev bp.Hz {K:W.Frag}{mg:Str->Option Value}{x:Str}{st:Stmt}{ps:List Str} (_:bp K mg x st ps) (P:Program) (w:World) (base:Heap) (k:Nat) (sp:Sp):Prop:=L2.Has P w K mg base k x ps sp
theorem bp.hs {P:Program}{w:World}{K:W.Frag}{mg:Str->Option Value}{base:Heap}{x:Str}{st:Stmt}{N ps:List Str}{k:Nat}{sp:Sp} (F:bp K mg x st ps) (S:az N ps (ar st))
  (hbody:∀(f:Addr) (cdv:Value) (A:Around) (outer:List Env) (s:Shared) (H:Hp) (vs:List V) (Q:VK) (E:XK),cQ k (A.deeper (envOfC x (ar st) s.heap.objs.size f cdv))->(A.deeper (envOfC x (ar st) s.heap.objs.size f cdv)).units + 64 < cLine->sp vs H Q E ->
   ∃t,PSs (rO CX0 P w K mg base N x (ar st) f cdv A outer s H E).nox (bA st) t/\t { nx:=fun _ H'=>Q .non H',rt:=Q } (start N vs) H) (len:∀vs H Q E,sp vs H Q E->vs.length=ps.length:=by intro _ _ _ _ h;cases h;subst_vars;rfl):Has P w K mg base (k + 1) x ps sp:=by
 obtain ⟨f,fd,F,b,m⟩:=F.ex
 obtain ⟨oc,od,kV,doc,pm,an,cdv,ct,osl,e,lk,hcd⟩:=F.ex
 exact ⟨f,fd,F.ok S len fun cdv A outer s H vs Q E hr h=>hbody f cdv A outer s H vs Q E hr hr.units h,b,F.kp,m,oc,od,osl,lk⟩
end L2
namespace L2
open PySem PySem.Spec PyProof.Rows
theorem ah.upd {H:Hp}{p:Addr} (h:H p=none) (o:HO):ah H (upd H p o):=fun b u q=>by rw [aI (cM q h)];exact q
theorem ah.tup {K:W.Frag}{H H':Hp}{a:Addr}{xs:List V} (e:ah H H') (h:SqT K H a xs):SqT K H' a xs:=by
 rcases h with (h | ⟨o,h⟩) | h
 ·exact .inl (.inl (e _ _ h))
 ·exact .inl (.inr ⟨o,e _ _ h⟩)
 ·exact .inr h
mutual
theorem ah.rep {K:W.Frag}{H H':Hp} (e:ah H H'):∀{x:V}{d:PyData},ig K H x d->ig K H' x d
 | _,_,.non=>.non
 | _,_,.bl b=>.bl b
 | _,_,.int i=>.int i
 | _,_,.str x=>.str x
 | _,_,.lst h r=>.lst (e.seq h) (e.sQ r)
 | _,_,.tup h r=>.tup (e.tup h) (e.sQ r)
theorem ah.sQ {K:W.Frag}{H H':Hp} (e:ah H H'):∀{xs:List V}{ds:List PyData},cC K H xs ds->cC K H' xs ds
 | _,_,.nil=>.nil
 | _,_,.cons h r=>.cons (e.rep h) (e.sQ r)
end
def cFr (fr:List Nat) (σ:St):St:=fr.map fun j=>(σ[j]?).getD none
theorem mI {J:It}{n:Nat}{x:Nat->V}{fr:List Nat}{tf:CB->TT}{te:CB->TE}{Q:VK}{σ:St}{H1:Hp} (p:Nat->Bool) (f:Nat->V) (hn:n < sizeLine)
  (stop:∀H,ah H1 H->J.stop n H) (go:∀i H,i < n->ah H1 H->J.go i H) (yld:∀i H v H',i < n->ah H1 H->J.yld i H v H'->H'=H/\v=x i)
  (hf:∀b i H (R:Bool->Hp->Prop),i < n->ah H1 H->(∀H',ah H H'->R (p i) H')->tf b (some (x i) :: cFr fr σ) H R)
  (he:∀b i H (R:VK),i < n->p i=true->ah H1 H->(∀H',ah H H'->R (f i) H')->te b (some (x i) :: cFr fr σ) H R)
  (fin:∀D H,H1 D=none->ah H1 H->H D=some (.lst (((List.range n).filter p).map f))->Q (.ref D) H):kT J 1 fr (fun _=>jA 0) tf te Q σ H1:=by
 refine ⟨fun b D hD=>?_⟩
 have lenf:∀i,(((List.range i).filter p).map f).length <= i:=fun i=>by
  rw [List.length_map]
  exact Nat.le_trans (List.length_filter_le _ _) (Nat.le_of_eq List.length_range)
 refine ⟨fun i m σ' H'=>m=n - i/\i <= n/\(∃v0,σ'=v0 :: cFr fr σ)/\ah H1 H'/\H' D=some (.lst (((List.range i).filter p).map f)),⟨n,rfl,Nat.zero_le _,⟨none,rfl⟩,ah.upd hD _,ak⟩,?_⟩
 rintro i m σ' H' ⟨rfl,hi,⟨v0,rfl⟩,sm,hl⟩
 by_cases hlt:i < n
 ·refine .inr ⟨go i H' hlt sm,fun σ2 H2=>(∃v0,σ2=v0 :: cFr fr σ)/\ah H1 H2/\H2 D=some (.lst (((List.range (i + 1)).filter p).map f)),fun σ2 H2 q=>⟨n - (i + 1),by omega,rfl,hlt,q⟩,fun v H2 y=>?_⟩
  obtain ⟨rfl,rfl⟩:=yld i H' v H2 hlt sm y
  show tf b (some (x i) :: cFr fr σ) _ _
  refine hf b i _ _ hlt sm fun H3 s3=>?_
  have e1:(List.range (i + 1)).filter p=(List.range i).filter p ++ (if p i then [i] else []):=by
   rw [List.range_succ,List.filter_append]
   congr 1
   cases hp:p i <;> simp [hp]
  cases hp:p i with
  | false =>
   rw [if_neg Bool.false_ne_true]
   refine ⟨⟨_,rfl⟩,sm.trans s3,?_⟩
   rw [s3 _ _ hl,e1,hp]
   simp
  | true =>
   rw [if_pos rfl]
   refine he b i _ _ hlt hp (sm.trans s3) fun H4 s4=>⟨_,s4 _ _ (s3 _ _ hl),?_,⟨_,rfl⟩,?_,?_⟩
   ·exact Nat.lt_of_le_of_lt (lenf i) (Nat.lt_trans hlt hn)
   ·have sm4:ah H1 H4:=sm.trans (s3.trans s4)
    intro c o q
    by_cases hc:c=D
    ·rw [hc,hD] at q;cases q
    ·rw [aI hc];exact sm4 c o q
   ·rw [ak,e1,hp]
    simp
 ·have e:i=n:=by omega
  subst e
  exact .inl ⟨stop H' sm,fin D H' hD sm hl⟩
theorem rT {lo:Int}{n:Nat}{fr:List Nat}{tf:CB->TT}{te:CB->TE}{Q:VK}{σ:St}{H1:Hp} (p:Nat->Bool) (f:Nat->V) (hn:n < sizeLine)
  (hf:∀b i H (R:Bool->Hp->Prop),i < n->ah H1 H->(∀H',ah H H'->R (p i) H')->tf b (some (.int (lo + i)) :: cFr fr σ) H R)
  (he:∀b i H (R:VK),i < n->p i=true->ah H1 H->(∀H',ah H H'->R (f i) H')->te b (some (.int (lo + i)) :: cFr fr σ) H R)
  (fin:∀D H,H1 D=none->ah H1 H->H D=some (.lst (((List.range n).filter p).map f))->Q (.ref D) H):kT (Itr lo n) 1 fr (fun _=>jA 0) tf te Q σ H1 :=
 mI (x:=fun i=>.int (lo + i)) p f hn (fun _ _=>Nat.le_refl _) (fun _ _ h _=>h) (fun _ _ _ _ _ _ y=>y) hf he fin
theorem map_range {α:Type}{β:Type} (xs:List α) (d:α) (f:α->β):(List.range xs.length).map (fun i=>f (xs.getD i d))=xs.map f:=by
 apply List.ext_getElem?
 intro i
 rw [List.getElem?_map,List.getElem?_map]
 by_cases h:i < xs.length
 ·rw [List.getElem?_range h,List.getElem?_eq_getElem h]
  simp [List.getD,List.getElem?_eq_getElem h]
 ·rw [List.getElem?_eq_none (by simpa using h),List.getElem?_eq_none (by simpa using h)]
  rfl
theorem pR {α:Type}{β:Type} (p:α->Bool) (f:α->β) (d:α):∀(xs:List α),((List.range xs.length).filter fun i=>p (xs.getD i d)).map (fun i=>f (xs.getD i d))=(xs.filter p).map f:=by
 intro xs
 have e:=map_range xs d id
 have e2:xs=(List.range xs.length).map fun i=>xs.getD i d:=by simpa using e.symm
 have e3:xs.filter p=((List.range xs.length).filter fun i=>p (xs.getD i d)).map fun i=>xs.getD i d:=by
  conv=>lhs;rw [e2]
  rw [List.filter_map]
  rfl
 rw [e3,List.map_map]
 rfl
theorem vc {K:W.Frag}{a:Addr}{xs:List V}{fr:List Nat}{tf:CB->TT}{te:CB->TE}{Q:VK}{σ:St}{H1:Hp} (p:V->Bool) (f:V->V) (hx:SqL K H1 a xs) (hn:xs.length < sizeLine)
  (hf:∀b x H (R:Bool->Hp->Prop),x ∈ xs->ah H1 H->(∀H',ah H H'->R (p x) H')->tf b (some x :: cFr fr σ) H R)
  (he:∀b x H (R:VK),x ∈ xs->p x=true->ah H1 H->(∀H',ah H H'->R (f x) H')->te b (some x :: cFr fr σ) H R)
  (fin:∀D H,H1 D=none->ah H1 H->H D=some (.lst ((xs.filter p).map f))->Q (.ref D) H):kT (Itl K a) 1 fr (fun _=>jA 0) tf te Q σ H1:=by
 have mem:∀i,i < xs.length->xs.getD i .non ∈ xs:=fun i h=>by
  rw [List.getD_eq_getElem?_getD,List.getElem?_eq_getElem h]
  exact List.getElem_mem h
 refine mI (x:=fun i=>xs.getD i .non) (fun i=>p (xs.getD i .non)) (fun i=>f (xs.getD i .non)) hn (fun H s=>⟨xs,s.seq hx,Nat.le_refl _⟩) (fun i H h s=>⟨xs,xs[i],s.seq hx,List.getElem?_eq_getElem h⟩)
  (fun i H v H' h s y=>⟨y.1,?_⟩) (fun b i H R h s k=>hf b _ H R (mem i h) s k) (fun b i H R h hp s k=>he b _ H R (mem i h) hp s k) fun D H hD s e=>fin D H hD s ?_
 ·have:=y.2 xs (s.seq hx)
  rw [List.getD_eq_getElem?_getD,this]
  rfl
 ·rw [e,pR p f]
section
variable {X:Cx}
def zZ (K:W.Frag):V->Option Int->Option Int->Hp->VK->Prop:=fun x lo hi H Q=>AQ K x lo hi H Q \/ Au K x lo hi H Q
theorem AE:SlR X (zZ X.K):=yQ.or Aa
end
theorem xW {K:W.Frag}{mg:Str->Option Value}{h:Heap}{x:Str}{st:Stmt}{ps:List Str}{f:Addr}{oc:Value}{od an:Option Addr}{osl:Array (Option Value)}{kV doc pm cdv ct:Value} (X:K.In h) (G:h.Ns mainGlobals mg)
  (a:W.nsIn K mainGlobals x=some (some (.ref f))) (l:K.lookup f=some ⟨oc,od,.func (W.fnOf x x (bJ st) (bA st) (ar st) .none kV doc pm an cdv ct),osl⟩) (c:W.codeIn K cdv x=true) (k:W.keepIn K (.ref f)=true)
  (hb:∀(kV doc pm:Value) (an:Option Addr) (cdv ct:Value) (us:List Value),us.length=ps.length->bindArgs (W.fnOf x x (bJ st) (bA st) (ar st) .none kV doc pm an cdv ct) ⟨us,[]⟩=pure (ps.zip us)):bp K mg x st ps :=
 ⟨f,_,pQ l c k,(pQ l c k).binds hb,W.mg_of X G a⟩
theorem Br {P:Program}{w:World}{K:W.Frag}{mg:Str->Option Value}{base:Heap}{k:Nat}{x:Str}{ps:List Str}{sp:Sp}{f:Addr}{oc:Value}{od:Option Addr}{osl:Array (Option Value)}{fd:FuncData} (D:Has P w K mg base k x ps sp) (m:mg x=some (.ref f))
  (l:K.lookup f=some ⟨oc,od,.func fd,osl⟩):kE P w K mg base CX0 k f fd ps sp:=by
 obtain ⟨g,gd,F,b,kp,mg',_,_,_,l'⟩:=id D
 rw [m] at mg'
 cases mg'
 rw [l] at l'
 cases l'
 exact F
end L2
namespace L2
open PySem PySem.Spec PyProof.Rows
section
variable {prog:Program}{w:World}{A:Around}{R:Result->Shared->Prop}{I l:Addr}{its:Array Value}{ns:List Int}{St:Nat->Heap->Prop}{fp wr:List Addr}{d:Value}
end
section
variable {X:Cx}
end
end L2
namespace L2
open PySem PySem.Spec PyProof.Rows
section
variable {X:Cx}
theorem Bm:SlR X DE:=by
 intro pins s σ H x v vl vu lo hi sl Q I rx hs pl pu h
 obtain ⟨z,rfl,hz,q⟩:=h
 obtain ⟨t,rfl⟩:=rx
 have fin:∀t' k,EP X pins σ Q (.str (Txt.slice z lo hi) t') { s with toks:=k }:=fun t' k=>⟨.str _,H,I.tok _,⟨_,rfl⟩,q⟩
 have len:=Nat.le_trans (Txt.slice_le z lo hi) hz
 obtain ⟨o,ho,hc,hd⟩:=hs
 refine ⟨"str",_,PySem.F.slot_str_getitem.lookup,typeIs_str _ _ _,?_⟩
 cases pl with
 | none =>
  cases pu with
  | none=>exact wpAny_getItem_str_slice (l:=Option.none) (u:=Option.none) (st:=Option.none) ⟨o,ho,hc,hd⟩ rfl (post_val_or_str ⟨len,fun t' k=>fin t' k⟩)
  | int j uj=>exact wpAny_getItem_str_slice (l:=Option.none) (u:=some (j,uj)) (st:=Option.none) ⟨o,ho,hc,hd⟩ rfl (post_val_or_str ⟨len,fun t' k=>fin t' k⟩)
 | int i ui =>
  cases pu with
  | none=>exact wpAny_getItem_str_slice (l:=some (i,ui)) (u:=Option.none) (st:=Option.none) ⟨o,ho,hc,hd⟩ rfl (post_val_or_str ⟨len,fun t' k=>fin t' k⟩)
  | int j uj=>exact wpAny_getItem_str_slice (l:=some (i,ui)) (u:=some (j,uj)) (st:=Option.none) ⟨o,ho,hc,hd⟩ rfl (post_val_or_str ⟨len,fun t' k=>fin t' k⟩)
def fSl (K:W.Frag):V->Option Int->Option Int->Hp->VK->Prop:=fun x lo hi H Q=>match x with
 | .str z=>z.length <= sizeLine/\Q (.str (Txt.slice z lo hi)) H
 | x=>AQ K x lo hi H Q \/ Au K x lo hi H Q
theorem sL:SlR X (fSl X.K):=by
 intro pins s σ H x v vl vu lo hi sl Q I rx hs pl pu h
 by_cases hx:∃z,x=.str z
 ·obtain ⟨z,rfl⟩:=hx
  exact Bm pins s σ H _ v vl vu lo hi sl Q I rx hs pl pu ⟨z,rfl,h.1,h.2⟩
 ·refine AE pins s σ H x v vl vu lo hi sl Q I rx hs pl pu ?_
  cases x <;> first | exact h | exact absurd ⟨_,rfl⟩ hx
theorem zg {x:Str}{z:Str}{pos:Pos} (h:∃t,X.mg x=some (.str z t)) (hg:Gl X x:=by rfl) (hd:(x == ("__debug__":Str))=false:=by decide):PE X (.Name x pos) (tC (.str z)):=by
 obtain ⟨t,e⟩:=h
 exact uJ hg e ⟨t,rfl⟩ hd
end
end L2
namespace L2
open PySem PySem.Spec PyProof.Rows
section
variable {X:Cx}{tg:Expr}
theorem tE:b7 X (.type "str") (fun xs H Q=>(∃i,xs=[.int i]/\i.natAbs.log2 < 1920/\Q (.str (toString i)) H) \/ ∃x,xs=[.str x]/\Q (.str x) H):=by
 intro pins s σ H xs us Q I r h
 rcases h with h | ⟨x,rfl,q⟩
 ·exact pK pins s σ H xs us Q I r h
 ·obtain ⟨u,rfl,t,rfl⟩:=vals1 r
  exact PySem.P.str_of_str ⟨.str x,H,I,⟨_,rfl⟩,q⟩
theorem dJ {x:Str}{pos:Pos}{a:Addr} (h:X.mg x=some (.ref a)) (hg:Gl X x:=by rfl) (hd:(x == ("__debug__":Str))=false:=by decide):PE X (.Name x pos) (tC (.ref a)):=uJ hg h rfl hd
end
end L2
namespace L2
open PySem PySem.Spec PyProof.Rows
end L2
namespace L2
open PySem PySem.Spec PyProof.Rows
theorem mL {J:It}{n:Nat}{x:Nat->V}{fr:List Nat}{te:CB->TE}{Q:VK}{σ:St}{H1:Hp} (R:Nat->V->Hp->Prop) (hn:n < sizeLine)
  (stop:∀H,ah H1 H->J.stop n H) (go:∀i H,i < n->ah H1 H->J.go i H) (yld:∀i H v H',i < n->ah H1 H->J.yld i H v H'->H'=H/\v=x i)
  (he:∀b i H (G:VK),i < n->ah H1 H->(∀y H',ah H H'->R i y H'->G y H')->te b (some (x i) :: cFr fr σ) H G)
  (mono:∀i y H H',ah H H'->R i y H->R i y H') (st:∀i y H D ys zs,H D=some (.lst ys)->R i y H->R i y (upd H D (.lst zs)))
  (fin:∀D H ys,H1 D=none->ah H1 H->H D=some (.lst ys)->ys.length=n->(∀(i:Nat) y,ys[i]?=some y->R i y H)->Q (.ref D) H):kT J 1 fr (fun _=>jA 0) (fun _=>BL) te Q σ H1:=by
 refine ⟨fun b D hD=>?_⟩
 refine ⟨fun i m σ' H'=>m=n - i/\i <= n/\(∃v0,σ'=v0 :: cFr fr σ)/\ah H1 H'/\∃ys,H' D=some (.lst ys)/\ys.length=i/\∀(j:Nat) y,ys[j]?=some y->R j y H',⟨n,rfl,Nat.zero_le _,⟨none,rfl⟩,ah.upd hD _,[],ak,rfl,fun j y h=>by cases h⟩,?_⟩
 rintro i m σ' H' ⟨rfl,hi,⟨v0,rfl⟩,sm,ys,hl,hy,hR⟩
 by_cases hlt:i < n
 ·refine .inr ⟨go i H' hlt sm,fun σ2 H2=>(∃v0,σ2=v0 :: cFr fr σ)/\ah H1 H2/\∃ys,H2 D=some (.lst ys)/\ys.length=i + 1/\∀(j:Nat) y,ys[j]?=some y->R j y H2,fun σ2 H2 q=>⟨n - (i + 1),by omega,rfl,hlt,q⟩,fun v H2 y=>?_⟩
  obtain ⟨rfl,rfl⟩:=yld i H' v H2 hlt sm y
  refine he b i _ _ hlt sm fun z H4 s4 rz=>⟨ys,s4 _ _ hl,by omega,⟨_,rfl⟩,?_,ys ++ [z],ak,by simp [hy],fun j y' hj=>?_⟩
  ·intro c o q
   by_cases hc:c=D
   ·rw [hc,hD] at q;cases q
   ·rw [aI hc];exact (sm.trans s4) c o q
  ·have hD4:=s4 _ _ hl
   by_cases hji:j < ys.length
   ·rw [List.getElem?_append_left hji] at hj
    exact st _ _ _ _ _ _ hD4 (mono _ _ _ _ s4 (hR j y' hj))
   ·by_cases e:j=ys.length
    ·subst e
     rw [List.getElem?_append_right (Nat.le_refl _)] at hj
     simp at hj
     subst hj
     rw [hy]
     exact st _ _ _ _ _ _ hD4 rz
    ·rw [List.getElem?_eq_none (by simp;omega)] at hj
     cases hj
 ·have e:i=n:=by omega
  subst e
  exact .inl ⟨stop H' sm,fin D H' ys hD sm hl hy hR⟩
end L2
namespace L2
open PySem PySem.Spec PyProof.Rows
section
variable {P:Program}{w:World}{K:W.Frag}{mg:Str->Option Value}{base:Heap}
structure MFn (K:W.Frag) (C:Addr) (m qual:Str) (st:Stmt) (ps:List Str):Prop where
 ex:∃f fd,Fun K m qual st f fd/\Binds K fd ps []/\Meth K C m f
def vN (P:Program) (w:World) (K:W.Frag) (mg:Str->Option Value) (base:Heap) (k:Nat) (C:Addr) (m:Str) (ps:List Str) (sp:Sp):Prop :=
 ∃f fd,kE P w K mg base CX0 k f fd ps sp/\Binds K fd ps []/\Meth K C m f
abbrev MFn.Hz {C:Addr}{m qual:Str}{st:Stmt}{ps:List Str} (_:MFn K C m qual st ps) (P:Program) (w:World) (mg:Str->Option Value) (base:Heap) (k:Nat) (sp:Sp):Prop:=vN P w K mg base k C m ps sp
theorem MFn.hs {C:Addr}{m qual:Str}{st:Stmt}{N ps:List Str}{k:Nat}{sp:Sp} (F:MFn K C m qual st ps) (S:az N ps (ar st))
  (hbody:∀(f:Addr) (cdv:Value) (A:Around) (outer:List Env) (s:Shared) (H:Hp) (vs:List V) (Q:VK) (E:XK),cQ k (A.deeper (envOfC qual (ar st) s.heap.objs.size f cdv))->(A.deeper (envOfC qual (ar st) s.heap.objs.size f cdv)).units + 64 < cLine->sp vs H Q E ->
   ∃t,PSs (rO CX0 P w K mg base N qual (ar st) f cdv A outer s H E).nox (bA st) t/\t { nx:=fun _ H'=>Q .non H',rt:=Q } (start N vs) H) (len:∀vs H Q E,sp vs H Q E->vs.length=ps.length:=by intro _ _ _ _ h;cases h;subst_vars;rfl):vN P w K mg base (k + 1) C m ps sp:=by
 obtain ⟨f,fd,F,b,m⟩:=F.ex
 exact ⟨f,fd,F.ok S len fun cdv A outer s H vs Q E hr h=>hbody f cdv A outer s H vs Q E hr hr.units h,b,m⟩
structure cE (K:W.Frag) (mg:Str->Option Value) (C:Addr) (x:Str) (up:List Addr):Prop where
 mg:mg x=some (.ref C)
 cl:Cls K C
 mro:∃cd,W.clsIn K C=some cd/\cd.mro=up.map Value.ref ++ [Value.type "object"]
 ty:W.typeIn K (.ref C)=some (.type "type")
 kc:W.findIn K (.ref C) "__class__"=some (some (.builtin "object.__class__"))
 cg:W.specialIn K (.builtin "object.__class__") "__get__"=some (some (.builtin "getset_descriptor.__get__"))
 ct:W.takesIn K (.builtin "object.__class__")=some true
 mks:W.makesIn K C=true
 kp:W.keepIn K (.ref C)=true
variable {C D:Addr}{x y:Str}{up vp:List Addr}
theorem cE.sub (O:cE K mg C x up) (b:Value):W.mroIn K C b=some ((up.map Value.ref ++ [Value.type "object"]).contains b):=by
 obtain ⟨cd,h1,h2⟩:=O.mro
 unfold W.mroIn
 rw [h1]
 show (if cd.mro.isEmpty=true then none else some (cd.mro.contains b))=_
 rw [h2,if_neg (by cases up <;> simp)]
theorem nP (up:List Addr) (D:Addr):(up.map Value.ref ++ [Value.type "object"]).contains (Value.ref D)=decide (D ∈ up):=by
 induction up with
 | nil=>rfl
 | cons a r ih =>
  show ((Value.ref D == Value.ref a) || (r.map Value.ref ++ [Value.type "object"]).contains (Value.ref D))=_
  rw [ih]
  by_cases h:D=a
  ·subst h;simp
  ·have:(Value.ref D == Value.ref a)=false:=by
    rw [Bool.eq_false_iff]
    intro z
    exact h (Value.ref.inj (beq_iff_eq.mp z))
   rw [this,Bool.false_or]
   simp [h]
theorem cE.kit (O:cE K mg C x up) (U:cE K mg D y vp) (hs:C ∈ up):W.kitOne K (.ref C) (.ref D)=some (decide (D ∈ up)):=by
 unfold W.kitOne
 split
 ·rename_i q
  have:C=D:=Value.ref.inj (beq_iff_eq.mp q)
  rw [<- this,decide_eq_true hs]
 ·obtain ⟨cd,h1,_⟩:=U.mro
  unfold W.kitCls
  dsimp only
  rw [h1,U.ty]
  rw [if_pos (by rfl)]
  show W.mroIn K C (.ref D)=_
  rw [O.sub,nP]
theorem cE.BE (O:cE K mg C x up) {H:Hp}{a dx:Addr}{fs:List (Str × V)} (e:H a=some (.ins C dx fs)):jJ K H (.ref a) (.ref C) :=
 .ins e O.cl O.kc O.cg O.ct ((O.sub _).trans (by simp))
end
section
variable {X:Cx}{k j:Nat}{C:Addr}{x m:Str}{ps:List Str}{sp:Sp}{o e:Expr}{es:List Expr}{ta:TE}{t:TA}{p apos pos:Pos}{up:List Addr}
theorem bH (O:cE X.K X.mg C x up) (D:vN X.prog X.w X.K X.mg X.base j C "__init__" ps sp) (hr:cQ k X.A) (ha:PA X (e :: es) t) (hj:j + 1 <= k:=by decide) (hg:Gl X x:=by rfl) (hdb:(x == ("__debug__":Str))=false:=by decide)
  (he:starEach (e :: es) X.env=(false,eval e X.env) :: starEach es X.env:=by rfl) (hpl:(backTo pos (starEach es X.env)).any (·.1)=false:=by rfl):PE X (.Call (.Name x p) (e :: es) [] pos) (zC C sp [] E0 t):=by
 obtain ⟨f,fd,F,b,m⟩:=D
 exact yr ⟨O.mks,m.at_,m.fn,O.kp⟩ F (hr.mono hj) hg O.mg b .nil wZ ha hdb he hpl
structure OfC (K:W.Frag) (C:Addr) (m:Str):Prop where
 ga:W.specialIn K (.ref C) "__getattribute__"=some (some (.builtin "type.__getattribute__"))
 rd:W.readsIn K C (.type "type")=true
 fc:∃f,W.findIn K (.ref C) m=some (some (.ref f))/\W.findCls K (.ref C) (.type "type") m=some (.val (.ref f))
theorem bF {pl:Sem Bool} (O:cE X.K X.mg C x up) (W:OfC X.K C m) (D:vN X.prog X.w X.K X.mg X.base j C m ps sp) (hr:cQ k X.A) (ha:PA X (e :: es) t) (hj:j <= k:=by decide) (hg:Gl X x:=by rfl) (hdb:(x == ("__debug__":Str))=false:=by decide)
  (hst:starEach (e :: es) X.env=(false,eval e X.env) :: starEach es X.env:=by rfl) (hpl:(backTo pos (starEach es X.env)).any (·.1)=false:=by rfl)
  (ht:eval (.Call (.Attribute (.Name x p) m apos) (e :: es) [] pos) X.env=(do
   let ov <- eval (.Name x p) X.env
   standAt apos.atName
   let (f,first) <- holding [ov] (getMethod ov m pl)
   callWith pos f first (backTo pos (starEach (e :: es) X.env)) (backToKw pos (keywordEach [] X.env))):=by rfl) :
  PE X (.Call (.Attribute (.Name x p) m apos) (e :: es) [] pos) (xE sp [] E0 t):=by
 obtain ⟨f,fd,F,b,hm⟩:=D
 intro pins s σ H Q I h
 refine PySem.W.methodCall_KW (pl:=pl) (lY I hg O.mg ?_ hdb) ht
 obtain ⟨f',h1,h2⟩:=W.fc
 have ef:f=f':=by
  have:=hm.at_.symm.trans h1
  cases this
  rfl
 subst ef
 refine PySem.W.method_cls I.kIn W.ga (PySem.W.cls_value I.kIn W.rd h2 rfl ?_)
 refine PySem.W.callWith_K (h₀:=X.base) I.ok.mod.kin hm.kp (thn (ha pos pins _ σ H _ (I.tok _) h) fun us s2 ⟨vs,H2,I2,r,q2⟩=>⟨I2.kIn,?_⟩) hst hpl
 exact xk (us:=us) (vs:=vs) F (hr.mono hj) b .nil wZ I2 r q2
end
theorem Bj {K:W.Frag}{C:Addr}{m qual:Str}{st:Stmt}{ps:List Str}{f:Addr}{oc:Value}{od an:Option Addr}{osl:Array (Option Value)}{kV doc pm cdv ct:Value}
  (a:W.findIn K (.ref C) m=some (some (.ref f))) (fn:W.isFn K (.ref f)=true) (l:K.lookup f=some ⟨oc,od,.func (W.fnOf m qual (bJ st) (bA st) (ar st) .none kV doc pm an cdv ct),osl⟩) (c:W.codeIn K cdv qual=true) (k:W.keepIn K (.ref f)=true)
  (hb:∀(kV doc pm:Value) (an:Option Addr) (cdv ct:Value) (us:List Value),us.length=ps.length->bindArgs (W.fnOf m qual (bJ st) (bA st) (ar st) .none kV doc pm an cdv ct) ⟨us,[]⟩=pure (ps.zip us)):MFn K C m qual st ps :=
 ⟨f,_,pQ l c k,(pQ l c k).binds hb,⟨a,fn,k⟩⟩
end L2
namespace L2
open PySem PySem.Spec PyProof.Rows
end L2
namespace L2
open PySem
end L2
namespace L2
open PySem
end L2
namespace L2
open PySem PySem.Spec PyProof.Rows
section
variable {X:Cx}
def oN:V->Bool
 | .flt _=>false
 | .byt _=>false
 | _=>true
theorem kR {x:V}{u v:Value} (hx:oN x=true) (ru:RelV x u) (rv:RelV x v) (A:Around) (s:Shared):SeqAt.EqAt A s u v true:=by
 cases x with
 | non=>cases ru;cases rv;exact .same _
 | bl b=>cases ru;cases rv;exact .same _
 | int i =>
  obtain ⟨t,rfl⟩:=ru
  obtain ⟨t',rfl⟩:=rv
  have:=SeqAt.EqAt.int_int (A:=A) (s:=s) i t i t'
  rwa [beq_self_eq_true] at this
 | str y =>
  obtain ⟨t,rfl⟩:=ru
  obtain ⟨t',rfl⟩:=rv
  have:=SeqAt.EqAt.str_str (A:=A) (s:=s) y t y t'
  rwa [beq_self_eq_true] at this
 | byt _=>cases hx
 | flt _=>cases hx
 | ref a=>cases ru;cases rv;exact .same _
 | ty n=>cases ru;cases rv;exact .same _
theorem Cy (hu:X.A.units + 64 < cLine):OpR X (compareOp .Eq) (fun x y H Q=>∃p q xs,x=.ref p/\y=.ref q/\SqL X.K H p xs/\SqL X.K H q xs/\xs.all oN=true/\Q (.bl true) H):=by
 intro pins s σ H x y v u Q I rx ry h
 obtain ⟨p,q,xs,rfl,rfl,hp,hq,hf,k⟩:=h
 cases rx
 cases ry
 obtain ⟨its,r1,⟨o,n,e1,c1,_,d1⟩,_⟩:=I.list hp
 obtain ⟨jts,r2,⟨o2,n2,e2,c2,_,d2⟩,_⟩:=I.list hq
 have l1:=r1.length
 have l2:=r2.length
 refine SeqAt.eq_listAt (e:=fun _=>true) ⟨o,e1,c1,n,d1⟩ ⟨o2,e2,c2,n2,d2⟩ (by simp;omega) (by omega) (fun j h1 h2=>?_) ?_
 ·simp at h1 h2
  obtain ⟨x,hx⟩:∃x,xs[j]?=some x:=⟨xs[j]'(by omega),List.getElem?_eq_getElem (by omega)⟩
  obtain ⟨u1,g1,w1⟩:=r1.get hx
  obtain ⟨u2,g2,w2⟩:=r2.get hx
  have z1:its.toArray[j]'(by simpa using h1)=u1:=by
   have:=List.getElem?_eq_getElem h1
   rw [g1] at this
   simpa using (Option.some.inj this).symm
  have z2:jts.toArray[j]'(by simpa using h2)=u2:=by
   have:=List.getElem?_eq_getElem h2
   rw [g2] at this
   simpa using (Option.some.inj this).symm
  rw [z1,z2]
  exact kR (List.all_eq_true.mp hf x (List.mem_of_getElem? hx)) w1 w2 _ _
 ·have:((List.range its.toArray.size).all fun _=>true)=true:=by simp
  rw [this]
  exact ⟨.bl true,H,I,rfl,k⟩
def DU (K:W.Frag):R2:=fun x y H Q=>match x,y with
 | .ref p,.ref q=>(∃d e,ig K H (.ref p) d/\ig K H (.ref q) e/\SeqAt.shaped d=true/\SeqAt.shaped e=true/\Q (.bl (PyData.eqv d e)) H) \/ (∃xs,SqL K H p xs/\SqL K H q xs/\xs.all oN=true/\Q (.bl true) H)
 | x,y=>vQ x y=true/\Q (.bl (decide (x=y))) H
theorem BY (hu:X.A.units + 64 < cLine):OpR X (compareOp .Eq) (DU X.K):=((DV hu).or (Cy hu)).imp fun x y H Q q=>by
 by_cases hr:∃p q,x=V.ref p/\y=V.ref q
 ·obtain ⟨p,q',rfl,rfl⟩:=hr
  rcases q with q | ⟨xs,h1,h2,h3,h4⟩
  ·exact .inl q
  ·exact .inr ⟨p,q',xs,rfl,rfl,h1,h2,h3,h4⟩
 ·refine .inl ?_
  cases x <;> cases y <;> first | exact q | exact absurd ⟨_,_,rfl,rfl⟩ hr
end
end L2
namespace L2
open PySem PySem.Spec PyProof.Rows
section
variable {κ:Type} [DecidableEq κ]
def gy (kvs:List (κ × V)) (k:κ):Option V:=(kvs.find? fun kv=>decide (kv.1=k)).map (·.2)
def putK (kvs:List (κ × V)) (k:κ) (v:V):List (κ × V) :=
 if (kvs.any fun kv=>decide (kv.1=k))=true then kvs.map (fun kv=>if kv.1=k then (kv.1,v) else kv) else kvs ++ [(k,v)]
theorem iw {p:κ × V}{r:List (κ × V)}{k:κ} (e:p.1=k):gy (p :: r) k=some p.2:=by simp [gy,List.find?_cons,e]
theorem gv {p:κ × V}{r:List (κ × V)}{k:κ} (e:¬ p.1=k):gy (p :: r) k=gy r k:=by simp [gy,List.find?_cons,e]
theorem ni (k:κ):∀kvs:List (κ × V),(kvs.any fun kv=>decide (kv.1=k))=(gy kvs k).isSome
 | []=>rfl
 | p :: r=>by
  rw [List.any_cons]
  by_cases e:p.1=k
  ·simp only [iw e,decide_eq_true e,Bool.true_or,Option.isSome_some]
  ·rw [gv e,decide_eq_false e,Bool.false_or];exact ni k r
theorem fI (kvs:List (κ × V)) (k:κ) (v:V):(putK kvs k v).length <= kvs.length + 1:=by
 unfold putK
 split
 ·rw [List.length_map];omega
 ·rw [List.length_append,List.length_cons,List.length_nil];omega
theorem qN {kvs:List (κ × V)}{k:κ} (v:V) (h:gy kvs k=none):putK kvs k v=kvs ++ [(k,v)]:=by
 unfold putK
 rw [ni,h]
 exact if_neg (by decide)
theorem ku.gx {o:Option V}{u:Option Value} (r:ku o u):o.isSome=u.isSome:=by
 cases o with
 | none=>cases u with
  | none=>rfl
  | some _=>exact (show False from r).elim
 | some _=>cases u with
  | none=>exact (show False from r).elim
  | some _=>rfl
theorem KV.val {kvs:List (κ × V)}{vs:List (κ × Value)} (r:KV kvs vs) (k:κ):ku (gy kvs k) (valueAt vs k):=by
 unfold KV at r
 induction r with
 | nil=>exact True.intro
 | @cons p q ps qs h t ih =>
  obtain ⟨h1,h2⟩:=h
  by_cases e:p.1=k
  ·have e':q.1=k:=h1.symm.trans e
   have b:valueAt (q :: qs) k=some q.2:=by simp [valueAt,List.find?_cons,e']
   rw [iw e,b];exact h2
  ·have e':¬ q.1=k:=fun z=>e (h1.trans z)
   have b:valueAt (q :: qs) k=valueAt qs k:=by simp [valueAt,List.find?_cons,e']
   rw [gv e,b];exact ih
theorem KV.any {kvs:List (κ × V)}{vs:List (κ × Value)} (r:KV kvs vs) (k:κ):(kvs.any fun kv=>decide (kv.1=k))=vs.any fun kv=>decide (kv.1=k):=by
 unfold KV at r
 induction r with
 | nil=>rfl
 | cons h t ih=>rw [List.any_cons,List.any_cons,ih,h.1]
theorem KV.AI {kvs:List (κ × V)}{vs:List (κ × Value)} (r:KV kvs vs) (k:κ) {y:V}{u:Value} (ry:RelV y u) :
  KV (kvs.map fun kv=>if kv.1=k then (kv.1,y) else kv) (vs.map fun kv=>if kv.1=k then (kv.1,u) else kv):=by
 unfold KV at r ⊢
 induction r with
 | nil=>exact .nil
 | @cons p q ps qs h t ih =>
  rw [List.map_cons,List.map_cons]
  refine .cons ?_ ih
  obtain ⟨h1,h2⟩:=h
  by_cases e:p.1=k
  ·rw [if_pos e,if_pos (h1.symm.trans e)];exact ⟨h1,ry⟩
  ·rw [if_neg e,if_neg (fun z=>e (h1.trans z))];exact ⟨h1,h2⟩
theorem KV.put {kvs:List (κ × V)}{vs:List (κ × Value)} (r:KV kvs vs) (k:κ) {y:V}{u:Value} (ry:RelV y u):KV (putK kvs k y) (stored vs k u):=by
 unfold putK stored
 rw [r.any k]
 by_cases e:(vs.any fun kv=>decide (kv.1=k))=true
 ·rw [if_pos e,if_pos e];exact r.AI k ry
 ·rw [if_neg e,if_neg e];exact Paired.snoc r ⟨rfl,ry⟩
theorem KV.keys {kvs:List (κ × V)}{vs:List (κ × Value)} (r:KV kvs vs):kvs.map (·.1)=vs.map (·.1):=by
 unfold KV at r
 induction r with
 | nil=>rfl
 | cons h t ih=>rw [List.map_cons,List.map_cons,ih,h.1]
theorem KV.length {kvs:List (κ × V)}{vs:List (κ × Value)} (r:KV kvs vs):kvs.length=vs.length:=Paired.length r
end
theorem nF {P:Program}{w:World}{k:Key}{u:Value} (r:RelV (kV k) u):(bg P w).is k u=true:=by
 cases k with
 | inl i=>obtain ⟨t,e⟩:=(show ∃t,u=Value.int i t from r);subst e;exact qF P w i t
 | inr x=>obtain ⟨t,e⟩:=(show ∃t,u=Value.str x t from r);subst e;exact qy P w x t
theorem oj {P:Program}{w:World}:∀{ks:List Key}{us:List Value},Vals (ks.map kV) us->ItemsAre (bg P w) ks us
 | [],_,r=>by rw [List.map_nil] at r;cases r;exact .nil
 | k :: ks,_,r=>by
  rw [List.map_cons] at r
  cases r with
  | cons h t=>exact .cons (nF h) (oj t)
abbrev KT (H:Hp):List (List Key × V)->List (List Key × Addr × Value)->Prop:=Paired fun p q=>p.1=q.1/\H q.2.1=some (.tup (p.1.map kV))/\RelV p.2 q.2.2
theorem KT.val {H:Hp}{kvs:List (List Key × V)}{xs:List (List Key × Addr × Value)} (r:KT H kvs xs) (k:List Key):ku (gy kvs k) ((atKey xs k).map (·.2)):=by
 induction r with
 | nil=>exact True.intro
 | @cons p q ps qs h t ih =>
  obtain ⟨h1,_,h2⟩:=h
  by_cases e:p.1=k
  ·have e':q.1=k:=h1.symm.trans e
   have b:atKey (q :: qs) k=some q.2:=by simp [atKey,List.find?_cons,e']
   rw [iw e,b];exact h2
  ·have e':¬ q.1=k:=fun z=>e (h1.trans z)
   have b:atKey (q :: qs) k=atKey qs k:=by simp [atKey,List.find?_cons,e']
   rw [gv e,b];exact ih
theorem KT.AI {H:Hp}{kvs:List (List Key × V)}{xs:List (List Key × Addr × Value)} (r:KT H kvs xs) (k:List Key) {y:V}{u:Value} (ry:RelV y u) :
  KT H (kvs.map fun kv=>if kv.1=k then (kv.1,y) else kv) (xs.map (putAt k u)):=by
 induction r with
 | nil=>exact .nil
 | @cons p q ps qs h t ih =>
  rw [List.map_cons,List.map_cons]
  refine .cons ?_ ih
  obtain ⟨h1,h2,h3⟩:=h
  unfold putAt
  by_cases e:p.1=k
  ·rw [if_pos e,if_pos (h1.symm.trans e)];exact ⟨h1,h2,ry⟩
  ·rw [if_neg e,if_neg (fun z=>e (h1.trans z))];exact ⟨h1,h2,h3⟩
theorem KT.put {H:Hp}{kvs:List (List Key × V)}{xs:List (List Key × Addr × Value)} (r:KT H kvs xs) (k:List Key) {b:Addr}{y:V}{u:Value} (hb:H b=some (.tup (k.map kV))) (ry:RelV y u) :
  KT H (putK kvs k y) (storedH xs k b u):=by
 have e:(kvs.any fun kv=>decide (kv.1=k))=(atKey xs k).isSome:=by
  rw [ni,(r.val k).gx,Option.isSome_map]
 unfold putK storedH
 rw [e]
 by_cases q:(atKey xs k).isSome=true
 ·rw [if_pos q,if_pos q];exact r.AI k ry
 ·rw [if_neg q,if_neg q];exact Paired.snoc r ⟨rfl,hb,ry⟩
theorem KT.keeps {H H':Hp}{kvs:List (List Key × V)}{xs:List (List Key × Addr × Value)} (r:KT H kvs xs) (ht:∀b ys,H b=some (.tup ys)->H' b=some (.tup ys)):KT H' kvs xs :=
 Paired.nT r fun _ _ z=>⟨z.1,ht _ _ z.2.1,z.2.2⟩
section
variable {P:Program}{w:World}{H:Hp}{h:Heap}{a:Addr}
theorem zQ {u:HO} (ok:HOk P w H h) (e:Rd H a u):bI P w H h a u:=e.ok ok
theorem j1 {kvs:List (Key × V)} (ok:HOk P w H h) (e:Rd H a (.dK kvs)):kvs.length <= sizeLine/\(a == sysModules)=false/\∃vs,KV kvs vs/\h.DictOf (bg P w) a vs :=
 show bI P w H h a (.dK kvs) from zQ ok e
theorem rq {kvs:List (Key × V)} (ok:HOk P w H h) (e:H a=some (.dK kvs)):kvs.length <= sizeLine/\(a == sysModules)=false/\∃vs,KV kvs vs/\h.DictOf (bg P w) a vs:=j1 ok (.inl e)
theorem nz {ks:List Key} (ok:HOk P w H h) (e:H a=some (.tup (ks.map kV))):(tupleKind (bg P w)).is h ks a:=by
 obtain ⟨_,its,r,o,h1,h2,n,h3⟩:=(show bI P w H h a (.tup (ks.map kV)) from ok a _ e)
 exact ⟨o,its.toArray,n,h1,h2,h3,by simpa using oj r⟩
theorem qS {kvs:List (List Key × V)} (ok:HOk P w H h) (e:Rd H a (.dT kvs)):kvs.length <= sizeLine/\(a == sysModules)=false /\
  ∃xs,KT H kvs xs/\h.DictOfH (tupleKind (bg P w)) a xs:=by
 obtain ⟨z,y,xs,r,o,es,ep,h1,h2,h3,h4,h5⟩:=(show bI P w H h a (.dT kvs) from zQ ok e)
 refine ⟨z,y,xs,r,o,es,ep,h1,h2,h3,h4,fun x hx=>?_,h5⟩
 have all:∀{l:List (List Key × V)}{m:List (List Key × Addr × Value)},KT H l m->∀x ∈ m,(tupleKind (bg P w)).is h x.1 x.2.1:=by
  intro l m q
  induction q with
  | nil=>intro x hx;exact nomatch hx
  | @cons p q ps qs hq t ih =>
   intro x hx
   rcases List.mem_cons.mp hx with e | hx
   ·subst e
    exact nz ok (by rw [<- hq.1];exact hq.2.1)
   ·exact ih x hx
 exact all r x hx
theorem CA {kvs:List (List Key × V)} (ok:HOk P w H h) (e:H a=some (.dT kvs)):kvs.length <= sizeLine/\(a == sysModules)=false /\
  ∃xs,KT H kvs xs/\h.DictOfH (tupleKind (bg P w)) a xs:=qS ok (.inl e)
end
def jP (H:Hp) (a:Addr) (y:V) (r:Option V):Prop :=
 (∃kvs k,Rd H a (.dK kvs)/\y=kV k/\r=gy kvs k) \/ ∃kvs k b,Rd H a (.dT kvs)/\y=.ref b/\H b=some (.tup (k.map kV))/\r=gy kvs k
def mE (H:Hp) (a:Addr) (y v:V) (H':Hp):Prop :=
 (∃kvs k,H a=some (.dK kvs)/\y=kV k/\kvs.length < sizeLine/\H'=upd H a (.dK (putK kvs k v))) \/
 ∃kvs k b,H a=some (.dT kvs)/\y=.ref b/\H b=some (.tup (k.map kV))/\kvs.length < sizeLine/\H'=upd H a (.dT (putK kvs k v))
theorem jP.k {H:Hp}{a:Addr}{kvs:List (Key × V)}{k:Key} (e:H a=some (.dK kvs)):jP H a (kV k) (gy kvs k):=.inl ⟨kvs,k,.inl e,rfl,rfl⟩
theorem mE.k {H:Hp}{a:Addr}{kvs:List (Key × V)}{k:Key}{v:V} (e:H a=some (.dK kvs)) (hl:kvs.length < sizeLine):mE H a (kV k) v (upd H a (.dK (putK kvs k v))):=.inl ⟨kvs,k,e,rfl,hl,rfl⟩
section
variable {X:Cx}{pins:List (Addr × Obj)}{σ:St}{H:Hp}{s:Shared}{a:Addr}{y v:V}{u r:Value}{o:Option V}{A:Around}{E:Value->Shared->Prop}
theorem Inv.big (I:Inv X pins σ H s):sysModules < s.heap.objs.size:=by
 have h:mainGlobals < s.heap.objs.size:=(I.mod.glob.keeps I.bk).lt
 exact Nat.lt_trans (by decide) h
theorem vd {Q:Value->Shared->Prop} (hu:A.units + 1 < cLine) (I:Inv X pins σ H s) (g:jP H a y (some v)) (ry:RelV y u) (h:∀w' s',Inv X pins σ H s'->RelV v w'->Q w' s') :
  wpAny (model X.prog X.w) A (getItem (.ref a) u) Q E s:=by
 rcases g with ⟨kvs,k,e,ey,l⟩ | ⟨kvs,k,b,e,ey,eb,l⟩
 ·subst ey
  obtain ⟨z,hd,vs,rel,dd⟩:=j1 I.hok e
  obtain ⟨w',hw,rw'⟩:=ku.some_of (v:=v) (o:=valueAt vs k) (by rw [l];exact rel.val k)
  exact wpAny_getItem_of (nF ry) dd.mapOf hw (h w' _ (I.tok _) rw')
 ·subst ey
  cases (show u=Value.ref b from ry)
  obtain ⟨z,hd,xs,rel,dd⟩:=qS I.hok e
  obtain ⟨w',hw,rw'⟩:=ku.some_of (v:=v) (o:=(atKey xs k).map (·.2)) (by rw [l];exact rel.val k)
  obtain ⟨p,hp,hp2⟩:=Option.map_eq_some_iff.mp hw
  refine wpAny_getItem_heap (tupleKind_room_in1 hu) (nz I.hok eb) dd hp ?_
  rw [hp2]
  exact h w' _ (I.tok _) rw'
theorem DQ {Q:Value->Shared->Prop} (hu:A.units + 1 < cLine) (I:Inv X pins σ H s) (g:jP H a y o) (ry:RelV y u) (h:∀s',Inv X pins σ H s'->Q (.bool o.isSome) s') :
  wpAny (model X.prog X.w) A (compareOp .In u (.ref a)) Q E s:=by
 rcases g with ⟨kvs,k,e,ey,l⟩ | ⟨kvs,k,b,e,ey,eb,l⟩
 ·subst ey
  obtain ⟨z,hd,vs,rel,dd⟩:=j1 I.hok e
  refine wpAny_in_of (nF ry) hd dd.mapOf ?_
  rw [<- (rel.val k).gx,<- l]
  exact h _ (I.tok _)
 ·subst ey
  cases (show u=Value.ref b from ry)
  obtain ⟨z,hd,xs,rel,dd⟩:=qS I.hok e
  refine wpAny_in_heap (tupleKind_room_in1 hu) (nz I.hok eb) hd dd ?_
  have q:=(rel.val k).gx
  rw [Option.isSome_map] at q
  rw [<- q,<- l]
  exact h _ (I.tok _)
theorem y9 {Q:Value->Shared->Prop} (hu:A.units + 1 < cLine) (I:Inv X pins σ H s) (g:jP H a y o) (ry:RelV y u) (h:∀s',Inv X pins σ H s'->Q (.bool (!o.isSome)) s') :
  wpAny (model X.prog X.w) A (compareOp .NotIn u (.ref a)) Q E s:=by
 rcases g with ⟨kvs,k,e,ey,l⟩ | ⟨kvs,k,b,e,ey,eb,l⟩
 ·subst ey
  obtain ⟨z,hd,vs,rel,dd⟩:=j1 I.hok e
  refine wpAny_notIn_of (nF ry) hd dd.mapOf ?_
  rw [<- (rel.val k).gx,<- l]
  exact h _ (I.tok _)
 ·subst ey
  cases (show u=Value.ref b from ry)
  obtain ⟨z,hd,xs,rel,dd⟩:=qS I.hok e
  refine wpAny_notIn_heap (tupleKind_room_in1 hu) (nz I.hok eb) hd dd ?_
  have q:=(rel.val k).gx
  rw [Option.isSome_map] at q
  rw [<- q,<- l]
  exact h _ (I.tok _)
theorem jh {h':Heap}{t':Nat}{ob:HO} (I:Inv X pins σ H s) (mu:Mut (H a)) (hs:Heap.SameBut a s.heap h') (he:∃q,h'.get? a=some q) (new:bI X.prog X.w (upd H a ob) h' a ob) :
  Inv X pins σ (upd H a ob) { s with heap:=h',toks:=t' } :=
 I.write (x:=a) (e:=a) mu (.inl rfl) (fun b q hb z=>(hs.2 b hb).trans z) he new
theorem oZ {P:Program}{w:World}{H':Hp}{h':Heap}{kvs:List (Key × V)}{vs:List (Key × Value)} (z:kvs.length <= sizeLine) (hd:(a == sysModules)=false) (rel:KV kvs vs) (dd:h'.DictOf (bg P w) a vs) :
  bI P w H' h' a (.dK kvs):=⟨z,hd,vs,rel,dd⟩
theorem u4 {H':Hp}{Q:Unit->Shared->Prop} (hu:A.units + 1 < cLine) (I:Inv X pins σ H s) (g:mE H a y v H') (ry:RelV y u) (rv:RelV v r) (h:∀s',Inv X pins σ H' s'->Q () s') :
  wpAny (model X.prog X.w) A (setItem (.ref a) u r) Q E s:=by
 rcases g with ⟨kvs,k,e,ey,l,eH⟩ | ⟨kvs,k,b,e,ey,eb,l,eH⟩
 ·subst ey eH
  obtain ⟨z,hd,vs,rel,dd⟩:=rq I.hok e
  have hz:vs.length <= sizeLine:=by rw [<- rel.length];exact z
  have hl:(putK kvs k v).length <= sizeLine:=by have:=fI kvs k v;omega
  refine wpAny_setItem_pairs (hsz:=hz) (nF ry) dd fun h' dd' hs=>h _ ?_
  have he:∃q,h'.get? a=some q:=let ⟨q,_,_,hq,_⟩:=dd';⟨q,hq⟩
  exact jh I (by rw [e];exact True.intro) hs he (oZ hl hd (rel.put k rv) dd')
 ·subst ey eH
  cases (show u=Value.ref b from ry)
  obtain ⟨z,hd,xs,rel,dd⟩:=CA I.hok e
  have hz:xs.length <= sizeLine:=by rw [<- Paired.length rel];exact z
  have hl:(putK kvs k v).length <= sizeLine:=by have:=fI kvs k v;omega
  refine wpAny_setItem_heap (hsz:=hz) (tupleKind_room_in1 hu) (nz I.hok eb) dd fun h' dd' hs=>h _ ?_
  obtain ⟨q,es,ep,hq,h2,h3,h4,_,h5⟩:=dd'
  refine jh I (by rw [e];exact True.intro) hs ⟨q,hq⟩ ⟨hl,hd,_,(rel.put k eb rv).keeps fun c ys ec=>?_,q,es,ep,hq,h2,h3,h4,h5⟩
  rw [aI (CH ec e (fun z=>nomatch z))]
  exact ec
end
section
variable {X:Cx}{pins:List (Addr × Obj)}{σ:St}{H:Hp}{s:Shared}{a:Addr}{kvs:List (Key × V)}{k:Key}{u:Value}{A:Around}{E:Value->Shared->Prop}
theorem zt {Q:Value->Shared->Prop} (I:Inv X pins σ H s) (e:H a=some (.dK kvs)) (h:∀s',Inv X pins σ (upd H a (.dK [])) s'->Q .none s'):wpAny (model X.prog X.w) A (call (.builtin "dict.clear") [.ref a]) Q E s:=by
 obtain ⟨z,hd,vs,rel,dd⟩:=rq I.hok e
 refine call_meetsIn PySem.F.slot_dict_clear dd.typeIs PySem.F.entry_dict_clear (PySem.F.args_dict_clear_1 _) (meets_dict_clear (bg X.prog X.w) a) ⟨vs,dd,by rw [<- rel.length];exact z,fun h' dd' hs=>h _ ?_⟩
 have he:∃q,h'.get? a=some q:=let ⟨q,_,_,hq,_⟩:=dd';⟨q,hq⟩
 exact jh (t':=s.toks) I (by rw [e];exact True.intro) hs he (oZ (Nat.zero_le _) hd .nil dd')
theorem By {Q:Value->Shared->Prop} (I:Inv X pins σ H s) (e:Rd H a (.dK kvs)) (h:∀t s',Inv X pins σ H s'->Q (.int kvs.length t) s'):wpAny (model X.prog X.w) A (call (.builtin "len") [.ref a]) Q E s:=by
 obtain ⟨z,hd,vs,rel,dd⟩:=j1 I.hok e
 refine call_len_dict hd dd (by rw [<- rel.length];rw [sizeLine_eq] at z;omega) ?_
 rw [<- rel.length]
 exact h _ _ (I.tok _)
end
theorem qG {X:Cx}{pins:List (Addr × Obj)}{σ:St}{H:Hp}{s:Shared}{a:Addr}{y:V}{o:Option V} (I:Inv X pins σ H s) (g:jP H a y o):s.TypeIs (.ref a) "dict":=by
 rcases g with ⟨kvs,k,e,_,_⟩ | ⟨kvs,k,b,e,_,_,_⟩
 ·obtain ⟨_,_,vs,_,dd⟩:=j1 I.hok e
  exact dd.typeIs
 ·obtain ⟨_,_,xs,_,dd⟩:=qS I.hok e
  exact dd.typeIs
section
variable {X:Cx}{o i e value:Expr}{pos pos' tpos:Pos}{td ty tv:TE}
end
theorem mP {P:Program}{w:World}{H:Hp} (h:Heap) (hb:sysModules < h.objs.size):bI P w H (h.push { cls:=.type "dict",data:=.dict #[] }) h.objs.size (.dK []) :=
 ⟨Nat.zero_le _,beq_eq_false_iff_ne.mpr (Ne.symm (Nat.ne_of_lt hb)),[],.nil,Heap.DictOf.new h⟩
def A4:TE:=fun _ H Q=>∀p,H p=none->Q (.ref p) (upd H p (.dK []))
section
variable {X:Cx}{pos:Pos}
theorem vY:PE X (.Dict [] [] pos) A4:=fun pins s σ H Q I h =>
 wpAny_Dict_empty ⟨.ref s.heap.objs.size,_,I.laid (a:=s.heap.objs.size) (o:=.dK []) (t':=s.toks) (fun _ _ q=>Heap.get?_push_of_some _ q) (Nat.le_refl _) (mP s.heap I.big),rfl,h _ (I.hok.fresh (Nat.le_refl _))⟩
end
def sx:List (TE × TE)->St->Hp->(List (V × V)->Hp->Prop)->Prop
 | [],_,H,Q=>Q [] H
 | (tk,tv) :: r,σ,H,Q=>tk σ H fun x H1=>tv σ H1 fun y H2=>sx r σ H2 fun ps H3=>Q ((x,y) :: ps) H3
abbrev VV:List (V × V)->List (Value × Value)->Prop:=Paired fun p q=>RelV p.1 q.1/\RelV p.2 q.2
def PPs (X:Cx) (pos:Pos) (keys:List (Option Expr)) (values:List Expr) (trs:List (TE × TE)):Prop :=
 ∀(pins:List (Addr × Obj)) (s:Shared) (σ:St) (H:Hp) (Q:List (V × V)->Hp->Prop),Inv X pins σ H s->sx trs σ H Q ->
  wpAny (model X.prog X.w) X.A (evalPairs (pairTrees keys values X.env pos)) (fun vs s'=>∃ps H',Inv X pins σ H' s'/\VV ps vs/\Q ps H') X.xe s
theorem tN {X:Cx}{pos:Pos}:PPs X pos [] [] []:=fun pins s σ H Q I h=>pairTrees_nil_walk ⟨[],H,I,.nil,h⟩
theorem cZ {X:Cx}{pos:Pos}{k v:Expr}{ks:List (Option Expr)}{vs:List Expr}{tk tv:TE}{trs:List (TE × TE)} (hk:PE X k tk) (hv:PE X v tv) (hr:PPs X pos ks vs trs) :
  PPs X pos (some k :: ks) (v :: vs) ((tk,tv) :: trs):=fun pins s σ H Q I h =>
 pairTrees_cons_walk (thn (hk pins s σ H _ I h) fun u s1 ⟨x,H1,I1,rx,q1⟩=>thn (hv pins s1 σ H1 _ I1 q1) fun w2 s2 ⟨y,H2,I2,ry,q2⟩ =>
  thn (hr pins s2 σ H2 _ I2 q2) fun ws s3 ⟨ps,H3,I3,rel,q3⟩=>⟨(x,y) :: ps,H3,I3,.cons ⟨rx,ry⟩ rel,q3⟩)
def aX (kvs more:List (Key × V)):List (Key × V):=more.foldl (fun acc kv=>putK acc kv.1 kv.2) kvs
theorem KV.merge:∀{more:List (Key × V)}{rs:List (Key × Value)}{kvs:List (Key × V)}{vs:List (Key × Value)},KV more rs->KV kvs vs->KV (aX kvs more) (merged vs rs):=by
 intro more rs kvs vs r
 unfold KV at r
 induction r generalizing kvs vs with
 | nil=>intro q;exact q
 | @cons p q ps qs h t ih =>
  intro r0
  have e:KV (putK kvs p.1 p.2) (stored vs q.1 q.2):=by
   have:=r0.put p.1 h.2
   rw [<- h.1];exact this
  exact ih e
theorem fW:∀(more kvs:List (Key × V)),(aX kvs more).length <= kvs.length + more.length
 | [],kvs=>by show kvs.length <= kvs.length + 0;omega
 | p :: r,kvs=>by
  have h1:=fW r (putK kvs p.1 p.2)
  have h2:=fI kvs p.1 p.2
  show (aX (putK kvs p.1 p.2) r).length <= _
  rw [List.length_cons];omega
theorem mQ {P:Program}{w:World}:∀{kvs:List (Key × V)}{ws:List (Value × Value)},VV (kvs.map fun kv=>(kV kv.1,kv.2)) ws->∃rs,Carries (bg P w) ws rs/\KV kvs rs
 | [],_,r=>by rw [List.map_nil] at r;cases r;exact ⟨[],True.intro,.nil⟩
 | p :: kvs,_,r=>by
  rw [List.map_cons] at r
  cases r with
  | @cons a b as bs h t =>
   obtain ⟨rs,c,q⟩:=mQ (P:=P) (w:=w) t
   obtain ⟨b1,b2⟩:=b
   exact ⟨(p.1,b2) :: rs,⟨nF h.1,rfl,c⟩,.cons ⟨rfl,h.2⟩ q⟩
def BG (trs:List (TE × TE)):TE:=fun σ H Q=>∀p,H p=none->sx trs σ (upd H p (.dK [])) fun ps H2=>H2 p=some (.dK [])/\∃kvs:List (Key × V),ps=kvs.map (fun kv=>(kV kv.1,kv.2))/\kvs.length <= 15/\Q (.ref p) (upd H2 p (.dK (aX [] kvs)))
theorem uD {X:Cx}{pos:Pos}{keys:List (Option Expr)}{values:List Expr}{trs:List (TE × TE)} (h:PPs X pos keys values trs) (hall:keys.all (·.isSome)=true) (hl:keys.length=values.length) (h0:keys ≠ [])
  (h15:keys.length <= 15):PE X (.Dict keys values pos) (BG trs):=by
 intro pins s σ H Q I q
 have hn:=I.hok.fresh (Nat.le_refl s.heap.objs.size)
 have I1:=I.laid (a:=s.heap.objs.size) (o:=.dK []) (h':=s.heap.push { cls:=.type "dict",data:=.dict #[] }) (t':=s.toks) (fun _ _ q=>Heap.get?_push_of_some _ q) (Nat.le_refl _) (mP s.heap I.big)
 refine wpAny_Dict_walk (knd:=bg X.prog X.w) hall hl h0 h15 (thn (h pins _ σ _ _ I1 (q _ hn)) fun ws s2 ⟨ps,H2,I2,rel,e,kvs,ep,lk,q2⟩=>?_)
 subst ep
 obtain ⟨rs,c,rk⟩:=mQ (P:=X.prog) (w:=X.w) rel
 obtain ⟨z,hd,vs0,r0,dd⟩:=rq I2.hok e
 cases r0
 refine ⟨rs,c,dd,fun h' dd' hs=>⟨.ref s.heap.objs.size,_,?_,rfl,q2⟩⟩
 have hz:(aX [] kvs).length <= sizeLine:=by
  have h1:=fW kvs []
  rw [List.length_nil] at h1
  rw [sizeLine_eq];omega
 have he:∃q,h'.get? s.heap.objs.size=some q:=let ⟨q,_,_,hq,_⟩:=dd';⟨q,hq⟩
 exact jh I2 (by rw [e];exact True.intro) hs he (oZ hz hd (rk.merge .nil) dd')
structure M1 (X:Cx) (o:Expr) (m:Str) (apos:Pos) (e:Expr) (cpos:Pos):Prop where
 base:attributeBase o m X.env (eval o X.env)=eval o X.env
 few:((backTo cpos (starEach [e] X.env)).all (fun x=>!x.1) && (backToKw cpos (keywordEach [] X.env)).all (fun x=>x.1.isSome)
  && decide (([e]:List Expr).length + ([]:List Keyword).length + (if ([]:List Keyword).isEmpty then 0 else 1) < 30))=true
 line:(apos.endLine == cpos.line)=true
 trees:backTo cpos (starEach [e] X.env)=[(false,eval e X.env)]
structure M2 (X:Cx) (o:Expr) (m:Str) (apos:Pos) (e f:Expr) (cpos:Pos):Prop where
 base:attributeBase o m X.env (eval o X.env)=eval o X.env
 few:((backTo cpos (starEach [e,f] X.env)).all (fun x=>!x.1) && (backToKw cpos (keywordEach [] X.env)).all (fun x=>x.1.isSome)
  && decide (([e,f]:List Expr).length + ([]:List Keyword).length + (if ([]:List Keyword).isEmpty then 0 else 1) < 30))=true
 line:(apos.endLine == cpos.line)=true
 trees:backTo cpos (starEach [e,f] X.env)=[(false,eval e X.env),(false,eval f X.env)]
section
variable {X:Cx}{pins:List (Addr × Obj)}{σ:St}{H:Hp}{s:Shared}{a:Addr}{y d:V}{u r:Value}{o:Option V}{A:Around}{E:Value->Shared->Prop}
end
section
variable {X:Cx}{o e f:Expr}{apos cpos:Pos}{td ty tx:TE}
end
section
variable {X:Cx}{pins:List (Addr × Obj)}{σ:St}{H:Hp}{s:Shared}{a:Addr}{kvs:List (Key × V)}{A:Around}{E:Value->Shared->Prop}
end
section
variable {X:Cx}{pins:List (Addr × Obj)}{σ:St}{H:Hp}{s:Shared}{a:Addr}{y:V}{u:Value}{A:Around}{E:Value->Shared->Prop}
end
end L2
namespace L2
open PySem PySem.Spec PyProof.Rows
section
variable {X:Cx}
theorem qw (hu:X.A.units + 64 < cLine):IxR X (fun x y H Q=>∃a v,x=.ref a/\jP H a y (some v)/\Q v H):=by
 intro value slice pins s σ H x y v u Q I rx ry h hs
 obtain ⟨a,z,rfl,g,q⟩:=h
 cases rx
 have hT:=qG I g
 unfold subscriptTail
 refine wpAny_bind ?_
 rw [getitemInPython_of_ne hT.not_modules]
 refine wpAny_bind (wpAny_specialOf hT PySem.F.slot_dict_getitem.lookup ?_)
 have h₂:wpAny (model X.prog X.w) X.A (getItem (.ref a) u) (EP X pins σ Q) X.xe s:=vd (by omega) I g ry fun w' s3 I3 rw'=>⟨z,H,I3,rw',q⟩
 have fin:wpAny (model X.prog X.w) X.A (subscripted slice false (.ref a) u) (fun r s₃=>wpAny (model X.prog X.w) X.A (letTemporaryGo value (.ref a) r >>= fun _=>pure r) (EP X pins σ Q) X.xe s₃) X.xe s:=by
  rw [hs]
  exact wpAny_operating (wpAny_mono h₂ (fun r s₃ h₃=>wpAny_bind (wpAny_letTemporaryGo (wpAny_pure h₃))) fun _ _ x=>x)
 first
  | exact wpAny_pure (wpAny_bind fin)
  | exact wpAny_bind (wpAny_pure (wpAny_bind fin))
  | exact wpAny_bind fin
inductive dgI (p:Addr) (y:V) (H:Hp) (Q:VK):Prop
 | mk (v:V) (h:jP H p y (some v)) (q:Q v H):dgI p y H Q
def Cp (K:W.Frag):R2:=fun x y H Q=>match x,y with
 | .ref p,.int i=>ixS K p i H Q \/ dgI p (.int i) H Q
 | .ref p,.str k=>dgI p (.str k) H Q
 | .str z,.int i=>∃c,z.length <= sizeLine/\atI z.cps.toList i=some c/\Q (.str ⟨#[c]⟩) H
 | _,_=>False
theorem AO (hu:X.A.units + 64 < cLine):IxR X (Cp X.K):=by
 intro value slice pins s σ H x y v u Q I rx ry h hs
 cases x with
 | ref p =>
  cases y with
  | int i =>
   rcases h with h | ⟨w,g,q⟩
   ·exact wX value slice pins s σ H _ _ v u Q I rx ry h hs
   ·exact qw hu value slice pins s σ H _ _ v u Q I rx ry ⟨p,w,rfl,g,q⟩ hs
  | str k =>
   obtain ⟨w,g,q⟩:=h
   exact qw hu value slice pins s σ H _ _ v u Q I rx ry ⟨p,w,rfl,g,q⟩ hs
  | _=>exact (show False from h).elim
 | str z =>
  cases y with
  | int i=>exact wX value slice pins s σ H _ _ v u Q I rx ry h hs
  | _=>exact (show False from h).elim
 | _=>cases y <;> exact (show False from h).elim
theorem rH (hu:X.A.units + 64 < cLine):xV X (fun o i v H Q=>∃a H',o=.ref a/\mE H a i v H'/\Q H'):=by
 intro pins s σ H o i v ov iv u Q I ro ri rv h
 obtain ⟨a,H',rfl,g,q⟩:=h
 cases ro
 exact u4 (by omega) I g ri rv fun s4 I4=>⟨H',I4,q⟩
inductive dpI (p:Addr) (y v:V) (H:Hp) (Q:Hp->Prop):Prop
 | mk (H':Hp) (h:mE H p y v H') (q:Q H'):dpI p y v H Q
inductive stL (p:Addr) (k:Int) (v:V) (H:Hp) (Q:Hp->Prop):Prop
 | mk (xs:List V) (j:Nat) (h0:H p=some (.lst xs)) (h1:ixN xs.length k=some j) (q:Q (upd H p (.lst (xs.set j v)))):stL p k v H Q
def BS:y6:=fun o i v H Q=>match o,i with
 | .ref p,.int k=>stL p k v H Q \/ dpI p (.int k) v H Q
 | .ref p,.str k=>dpI p (.str k) v H Q
 | _,_=>False
theorem jH (hu:X.A.units + 64 < cLine) (hl:xV X zI):xV X BS:=by
 intro pins s σ H o i v ov iv u Q I ro ri rv h
 cases o with
 | ref p =>
  cases i with
  | int k =>
   rcases h with ⟨xs,j,h1,h2,q⟩ | ⟨H',g,q⟩
   ·exact hl pins s σ H _ _ v ov iv u Q I ro ri rv ⟨p,xs,k,j,rfl,rfl,h1,h2,q⟩
   ·exact rH hu pins s σ H _ _ v ov iv u Q I ro ri rv ⟨p,H',rfl,g,q⟩
  | str k =>
   obtain ⟨H',g,q⟩:=h
   exact rH hu pins s σ H _ _ v ov iv u Q I ro ri rv ⟨p,H',rfl,g,q⟩
  | _=>exact (show False from h).elim
 | _=>cases i <;> exact (show False from h).elim
theorem CJ (hu:X.A.units + 64 < cLine):OpR X (compareOp .In) (fun x y H Q=>∃a o,y=.ref a/\jP H a x o/\Q (.bl o.isSome) H):=by
 intro pins s σ H x y v u Q I rx ry h
 obtain ⟨a,o,rfl,g,q⟩:=h
 cases ry
 exact DQ (by omega) I g rx fun s3 I3=>⟨.bl o.isSome,H,I3,rfl,q⟩
theorem wJ (hu:X.A.units + 64 < cLine):OpR X (compareOp .NotIn) (fun x y H Q=>∃a o,y=.ref a/\jP H a x o/\Q (.bl (!o.isSome)) H):=by
 intro pins s σ H x y v u Q I rx ry h
 obtain ⟨a,o,rfl,g,q⟩:=h
 cases ry
 exact y9 (by omega) I g rx fun s3 I3=>⟨.bl (!o.isSome),H,I3,rfl,q⟩
theorem ox (hu:X.A.units + 64 < cLine):OpR X (compareOp .In) (fun x y H Q=>fIn X.K false x y H Q \/ ∃a o,y=.ref a/\jP H a x o/\Q (.bl o.isSome) H):=DM.or (CJ hu)
theorem jX (hu:X.A.units + 64 < cLine):OpR X (compareOp .NotIn) (fun x y H Q=>fIn X.K true x y H Q \/ ∃a o,y=.ref a/\jP H a x o/\Q (.bl (!o.isSome)) H):=yx.or (wJ hu)
theorem Ax:b7 X (.builtin "len") (fun xs H Q=>∃a kvs,xs=[.ref a]/\Rd H a (.dK kvs)/\Q (.int (kvs.length:Nat)) H):=by
 intro pins s σ H xs us Q I r h
 obtain ⟨a,kvs,rfl,e,q⟩:=h
 obtain ⟨u,rfl,rfl⟩:=vals1 r
 exact By I e fun t s' I'=>⟨.int _,H,I',⟨_,rfl⟩,q⟩
end
end L2
namespace PySem
open Sem (wp)
section
variable {prog:Program}{w:World}{A:Around}{E:Value->Shared->Prop}{s:Shared}
theorem qo:typeLookup (.type "list") "keys"=pure none:=am_miss_of_fast (by kernel_rfl)
theorem pH {a:Addr}{o:Obj}{xs:Array Value}{k:Nat}{Q:Option Value->Shared->Prop} (hx:s.heap.get? a=some o) (hc:o.cls=.type "list") (hdat:o.data=.seq xs k) (hd:o.dict=none) (hA:A.handled=none)
  (h:∀h' tk,(∀b ob,s.heap.get? b=some ob->h'.get? b=some ob)->Q none { s with heap:=h',toks:=tk }):wpAny (model prog w) A (getAttr? (.ref a) "keys") Q E s:=by
 obtain ⟨c,dct,dat,sl⟩:=o
 simp only at hc hdat hd
 subst hc hdat hd
 obtain ⟨hp,g,d,tk,os⟩:=s
 have hT:∀tk',(⟨hp,g,d,tk',os⟩:Shared).TypeIs (.ref a) "list":=fun _=>⟨_,hx,rfl⟩
 have f1:=sub_AttributeError
 have f3:=F.slot_list_getattribute.lookup
 have f4:=F.slot_list_getattribute.bind (.ref a)
 have f5:=am_list_getattr_none
 have hmiss:=qo
 have hname:(["__module__","__name__","__qualname__","__doc__","__annotations__"]:List Str).contains "keys"=false:=by decide +kernel
 unfold getAttr? getAttrBy? getAttrBy
 repeat (any_goals (first | assumption | exact hT _ | ((with_reducible show wpAny _ _ (call (Value.builtin "list.__getattribute__") _ _) _ _ _);refine call_meets F.slot_list_getattribute (hT _) am_entry_list_getattribute (F.args_list_getattribute_2 _ _) (meets_getattribute_miss_list a xs k sl "keys" _ hmiss hname (by decide)) ⟨hx,hA,fun h' tk' e hx'=>?_⟩) | wp_step))
 obtain ⟨t',u',he⟩:=hx'.there
 have hTe:(⟨h',g,d,tk',os⟩:Shared).TypeIs (.ref e) "AttributeError":=⟨_,he,rfl⟩
 show wpAny _ _ (getattributeRaised _ _ _ _ _ _ _) _ _ _
 unfold getattributeRaised
 repeat (any_goals (first | assumption | wp_step))
 exact h _ _ hx'.keeps
end
end PySem
namespace L2
open PySem PySem.Spec PyProof.Rows
theorem iH:entryFor table "dict.update.loop"=some Builtin.«dict.update.loop»:=entryFor_of_tree (by kernel_rfl)
theorem cA:plainId "dict.update.loop"=true:=by decide +kernel
section
variable {X:Cx}{pins:List (Addr × Obj)}{σ:St}{H0:Hp}{A:Around}
theorem pair_items {prog:Program}{w:World}{E:Value->Shared->Prop}{s:Shared}{t:Addr}{its:Array Value}{Q:List Value->Shared->Prop} (h:s.heap.IsTuple t its) (q:Q its.toList s):wpAny (model prog w) A (Builtin.Dict.pairItems (.ref t)) Q E s:=by
 obtain ⟨o,ho,hc,n,hd⟩:=h
 unfold Builtin.Dict.pairItems
 refine wpAny_bind (wpAny_typeOf ⟨o,ho,hc⟩ ?_)
 rw [if_pos (by decide)]
 refine wpAny_bind ?_
 obtain ⟨c,dct,dat,sl⟩:=o
 simp only at hc hd
 subst hc hd
 obtain ⟨hp,g,d,tk,os⟩:=s
 repeat (any_goals (first | assumption | wp_step))
theorem sE (kvs:List (Key × V)) (i:Nat) {k:Key}{v:V} (h:kvs[i]?=some (k,v)):aX [] (kvs.take (i + 1))=putK (aX [] (kvs.take i)) k v:=by
 unfold aX
 rw [List.take_add_one,h,List.foldl_append]
 rfl
theorem wH (hc:X.calm=true) {l p it:Addr}{ps:List Addr}{kvs:List (Key × V)}{R:Result->Shared->Prop} (hA:A.handled=none) (hl:SqL X.K H0 l (ps.map V.ref)) (hlen:ps.length=kvs.length) (hn:kvs.length <= 1000)
  (hps:∀(i:Nat) t k v,ps[i]?=some t->kvs[i]?=some (k,v)->SqT X.K H0 t [kV k,v]) (hp:H0 p=none)
  (fin:∀s',Inv X pins σ (upd H0 p (.dK (aX [] kvs))) s'->R (.ok (.ret .none)) s') :
  ∀(n i:Nat) (s:Shared),n + i=ps.length->Inv X pins σ (upd H0 p (.dK (aX [] (kvs.take i)))) s->pD X pins (upd H0 p (.dK (aX [] (kvs.take i)))) it->s.heap.IsListIter it l i ->
   codeAny (model X.prog X.w) A (.builtin "dict.update.loop" ⟨[.ref p,.ref it,rawInt i,.none],[]⟩) R s:=by
 intro n
 induction n with
 | zero =>
  intro i s hi I hf st
  refine codeAny_builtin iH ?_
  rw [Around.under_plainId cA _]
  have sm:=ah.upd hp (.dK (aX [] (kvs.take i)))
  obtain ⟨its,rv,pl,hz⟩:=I.list (sm.seq hl)
  have hll:=rv.length
  rw [List.length_map] at hll
  obtain ⟨f0,f1,f2,f3,f4,f5⟩:=hf
  unfold Builtin.«dict.update.loop»
  refine wpAny_bind (wpAny_pyNext_list_end hA st pl.isList (by simp;omega) fun h' eb=>?_)
  have I':Inv X pins σ (upd H0 p (.dK (aX [] (kvs.take i)))) { s with heap:=h' }:=I.turned (t':=s.toks) (fun b o hb e=>eb b o hb e) f0 f1 f3 f4 f5
  rw [List.take_of_length_le (by omega)] at I'
  exact wpAny_bind (wpAny_pure (wpAny_pure (fin _ I')))
 | succ n ih =>
  intro i s hi I hf st
  refine codeAny_builtin iH ?_
  rw [Around.under_plainId cA _]
  have sm:=ah.upd hp (.dK (aX [] (kvs.take i)))
  obtain ⟨its,rv,pl,hz⟩:=I.list (sm.seq hl)
  have hll:=rv.length
  rw [List.length_map] at hll
  obtain ⟨t,ht⟩:∃t,ps[i]?=some t:=⟨ps[i]'(by omega),List.getElem?_eq_getElem (by omega)⟩
  obtain ⟨⟨k,v⟩,hk⟩:∃kv,kvs[i]?=some kv:=⟨kvs[i]'(by omega),List.getElem?_eq_getElem (by omega)⟩
  obtain ⟨u,hu1,hu2⟩:=rv.get (x:=.ref t) (i:=i) (by rw [List.getElem?_map,ht];rfl)
  cases hu2
  obtain ⟨f0,f1,f2,f3,f4,f5⟩:=hf
  unfold Builtin.«dict.update.loop»
  refine wpAny_bind (wpAny_pyNext_list_item st pl.isList (x:=.ref t) (by simpa using hu1) fun h' st' sb=>?_)
  have I1:Inv X pins σ (upd H0 p (.dK (aX [] (kvs.take i)))) { s with heap:=h' }:=I.turned (t':=s.toks) (fun b o hb e=>(sb.2 b hb).trans e) f0 f1 f3 f4 f5
  obtain ⟨jts,rj,pt,_⟩:=I1.tuple (sm.tup (hps i t k v ht hk))
  obtain ⟨u1,u2,e12,r1,r2⟩:∃u1 u2,jts=[u1,u2]/\RelV (kV k) u1/\RelV v u2:=by
   cases rj with
   | cons r1 q=>cases q with
    | cons r2 q=>cases q;exact ⟨_,_,rfl,r1,r2⟩
  subst e12
  refine wpAny_bind (wpAny_holding (wpAny_bind (wpAny_tryCatch (pair_items pt ?_))))
  show wpAny _ _ (holding [u1,u2] (dictSet p u1 u2)) _ _ _
  refine wpAny_holding ?_
  obtain ⟨z,hd,vs,rel,dd⟩:=rq I1.hok (ak (H:=H0) (a:=p) (o:=.dK (aX [] (kvs.take i))))
  have hz':vs.length <= sizeLine:=by rw [<- rel.length];exact z
  have hlk:(aX [] (kvs.take i)).length <= 1000:=by
   have:=fW (kvs.take i) []
   rw [List.length_take,List.length_nil] at this
   omega
  have hlp:(putK (aX [] (kvs.take i)) k v).length <= sizeLine:=by
   have h1:=fI (aX [] (kvs.take i)) k v
   have h2:=aG hlk
   omega
  refine wpAny_dictSet_pairs (hsz:=hz') (nF r1) dd fun h2 dd' hs=>?_
  have he:∃q,h2.get? p=some q:=let ⟨q,_,_,hq,_⟩:=dd';⟨q,hq⟩
  have I2:=jh (t':=s.toks + 1) (ob:=.dK (putK (aX [] (kvs.take i)) k v)) I1 (by rw [ak];exact True.intro) hs he (oZ hlp hd (rel.put k r2) dd')
  rw [yL,<- sE kvs i hk] at I2
  have hne:it ≠ p:=fun z=>by rw [z,ak] at f0;cases f0
  have f0':upd H0 p (.dK (aX [] (kvs.take (i + 1)))) it=none:=by
   rw [aI hne] at f0 ⊢
   exact f0
  refine wpAny_pure ⟨plainId_quiet cA _,?_⟩
  have ec:((i:Int) + 1)=((i + 1:Nat):Int):=by push_cast;rfl
  rw [ec]
  exact ih (i + 1) _ (by omega) I2 ⟨f0',f1,f2,f3,f4,f5⟩ (st'.at fun o e=>(hs.2 it hne).trans e)
theorem yv (hc:X.calm=true:=by rfl):b7 X (.type "dict") (fun xs H Q=>∃(l:Addr) (ps:List Addr) (kvs:List (Key × V)),xs=[.ref l]/\SqL X.K H l (ps.map V.ref)/\ps.length=kvs.length/\kvs.length <= 1000 /\
  (∀(i:Nat) t k v,ps[i]?=some t->kvs[i]?=some (k,v)->SqT X.K H t [kV k,v])/\∀p,H p=none->Q (.ref p) (upd H p (.dK (aX [] kvs)))):=by
 intro pins s σ H xs us Q I r h
 obtain ⟨l,ps,kvs,rfl,hl,hlen,hn,hps,q⟩:=h
 obtain ⟨u,rfl,rfl⟩:=vals1 r
 have hA:=I.ok.hd hc
 have hp:=I.hok.fresh (Nat.le_refl s.heap.objs.size)
 have I1:=I.laid (a:=s.heap.objs.size) (o:=.dK []) (t':=s.toks) (h':=s.heap.push { cls:=.type "dict",data:=.dict #[] }) (fun _ _ q=>Heap.get?_push_of_some _ q) (Nat.le_refl _) (mP s.heap I.big)
 refine callType_codes (Q₁:=fun obj s₁=>obj=.ref s.heap.objs.size/\s₁={ s with heap:=s.heap.push { cls:=.type "dict",data:=.dict #[] } }) F.kt_called_dict (F.kt_typeCall_dict_1 _) F.entry_dict_init (kt_code_dict_new _ ⟨rfl,rfl⟩) ?_
 rintro obj s₁ ⟨rfl,rfl⟩
 have hnew:(s.heap.push { cls:=.type "dict",data:=.dict #[] }).DictOf (bg X.prog X.w) s.heap.objs.size []:=Heap.DictOf.new s.heap
 have sm:=ah.upd hp (.dK [])
 obtain ⟨its,rv,pl,hz⟩:=I1.list (sm.seq hl)
 obtain ⟨o,n,ho,hoc,hod,hos⟩:=id pl
 refine ⟨hnew.typeIs,F.args_dict_init_2 _ _,?_⟩
 unfold Builtin.«dict.__init__»
 refine wpAny_bind ?_
 unfold Builtin.Dict.selfAndRest
 refine wpAny_bind (wpAny_notOrdered_dict hnew.typeIs ?_)
 show wpAny _ _ (pure (s.heap.objs.size,[Value.ref l])) _ _ _
 refine wpAny_pure ?_
 show wpAny _ _ (Builtin.Dict.updateFrom "dict.__init__" s.heap.objs.size (.ref l) [] .none) _ _ _
 unfold Builtin.Dict.updateFrom
 refine wpAny_bind (wpAny_typeOf ⟨o,ho,hoc⟩ ?_)
 rw [if_pos (by decide)]
 refine wpAny_bind (pH ho hoc hos hod hA fun h2 tk2 k2=>?_)
 have I2:Inv X pins σ (upd H s.heap.objs.size (.dK [])) { s with heap:=h2,toks:=tk2 }:=I1.kept (t':=tk2) k2
 rw [if_pos (show (none:Option Value).isNone=true from rfl)]
 obtain ⟨its2,rv2,pl2,_⟩:=I2.list (sm.seq hl)
 refine wpAny_bind (wpAny_rule (wpAny_bind (wpAny_pyIter_list pl2.isList ?_)))
 refine wpAny_pure ⟨plainId_quiet cA _,?_⟩
 have I3:=I2.kept (h':=h2.push { cls:=.type "list_iterator",data:=.fields #[.ref l,.int 0 0] }) (t':=tk2) fun b o e=>Heap.get?_push_of_some _ e
 have fp:=I2.vy (H':=upd H s.heap.objs.size (.dK [])) (Nat.le_refl _) (I2.hok.fresh (Nat.le_refl _))
 refine wH (X:=X) (H0:=H) (A:=X.A.in1) (p:=s.heap.objs.size) (kvs:=kvs) hc hA hl hlen hn hps hp (fun s' I'=>?_) ps.length 0 _ rfl I3 fp ⟨_,Heap.get?_push_size _ rfl,rfl,rfl⟩
 exact ⟨rfl,.ref s.heap.objs.size,_,I',rfl,q _ hp⟩
end
end L2
namespace L2
open PySem PySem.Spec PyProof.Rows
section
variable {X:Cx}{pins:List (Addr × Obj)}{σ:St}{H:Hp}{s:Shared}
theorem Inv.Dc {a:Addr}{o:Obj}{u:HO} (I:Inv X pins σ H s) (e:H a=some (.frz o u)) (hn:∀o u,X.H₀ a ≠ some (.frz o u)):Inv X pins σ (upd H a u) s:=by
 have nn:∀b,H b=none->b ≠ a:=fun b q z=>by rw [z,e] at q;cases q
 have nt:∀b xs,H b=some (.tup xs)->b ≠ a:=fun b xs q z=>by rw [z,e] at q;cases q
 have nw:∀b x,H b=some (.own x)->b ≠ a:=fun b x q z=>by rw [z,e] at q;cases q
 have nb:∀b ps,H b=some (.tbl ps)->b ≠ a:=fun b x q z=>by rw [z,e] at q;cases q
 refine ⟨I.ok,I.os,I.bare,⟨I.base.keep,I.base.slot,fun b o q n hx=>by
   have:=I.base.free b o q n hx
   rw [aI (nn b this)];exact this,I.base.there,fun b xs q=>by
   have:=I.base.p7 b xs q
   rw [aI (nt b xs this)];exact this,fun b o v q=>by
   have hb:b ≠ a:=fun z=>hn o v (by rw [<- z];exact q)
   rw [aI hb];exact I.base.mK b o v q,fun b ps q=>by
   obtain ⟨more,r⟩:=I.base.ph b ps q
   exact ⟨more,by rw [aI (nb b _ r)];exact r⟩⟩,I.loc,I.cell,by rw [aI (nn _ I.free)];exact I.free,fun x c q=>by rw [aI (nn _ (I.ib x c q))];exact I.ib x c q,
  fun p hp=>by rw [aI (nn _ (I.pin p hp).2.1)];exact I.pin p hp,fun b v q=>?_,I.len⟩
 by_cases hb:b=a
 ·subst hb
  rw [ak] at q;cases q
  exact (I.hok b _ e).2.rP (fun _ _ _ q=>q) (fun c q=>by rw [aI (nw c _ q)];exact q) fun c xs q=>by rw [aI (nt c _ q)];exact q
 ·rw [aI hb] at q
  exact (I.hok b v q).rP (fun _ _ _ q=>q) (fun c q=>by rw [aI (nw c _ q)];exact q) fun c xs q=>by rw [aI (nt c _ q)];exact q
theorem Inv.freeze {a:Addr}{o:Obj}{u:HO} (I:Inv X pins σ H s) (e:H a=some u) (mu:Mut (H a)) (ho:s.heap.get? a=some o):Inv X pins σ (upd H a (.frz o u)) s:=by
 have hk:=I.hok a u e
 have:=jh (a:=a) (h':=s.heap) (t':=s.toks) (ob:=.frz o u) I mu ⟨rfl,fun _ _=>rfl⟩ ⟨o,ho⟩ ⟨ho,?_⟩
 ·exact this
 ·have nw:∀b x,H b=some (.own x)->b ≠ a:=fun b x q z=>by rw [z] at q;rw [q] at mu;exact mu
  have nt:∀b xs,H b=some (.tup xs)->b ≠ a:=fun b xs q z=>by rw [z] at q;rw [q] at mu;exact mu
  exact hk.rP (fun _ _ _ q=>q) (fun c q=>by rw [aI (nw c _ q)];exact q) fun c xs q=>by rw [aI (nt c _ q)];exact q
end
def Itd (d:Addr) (o:Obj) (kvs:List (Key × V)):It :=
 ⟨fun i H=>H d=some (.frz o (.dK kvs))/\i < kvs.length,fun i H x H'=>H'=H/\∃k v,kvs[i]?=some (k,v)/\x=kV k,fun i H=>H d=some (.frz o (.dK kvs))/\kvs.length <= i⟩
theorem zD {P:Program}{w:World}{k:Key}{u:Value} (h:(bg P w).is k u=true):RelV (kV k) u:=by
 cases k with
 | inl i=>obtain ⟨t,e⟩:=Value.isInt_shape (show Value.isInt i u=true from h);exact ⟨t,e⟩
 | inr x=>obtain ⟨t,e⟩:=Value.isStrOf_shape (show Value.isStrOf x u=true from h);exact ⟨t,e⟩
theorem vw {P:Program}{w:World}{H:Hp}{h:Heap}{d:Addr}{o:Obj}{kvs:List (Key × V)}{vs:List (Key × Value)}{ep:Nat} (dd:h.DictAt (bg P w) d vs ep) (ho:h.get? d=some o) {h':Heap} (ho':h'.get? d=some o):h'.DictAt (bg P w) d vs ep:=by
 obtain ⟨o2,es,e,r⟩:=dd
 rw [ho] at e;cases e
 exact ⟨o,es,ho',r⟩
section
variable {X:Cx}
theorem vS {P:Program}{w:World}{K:W.Frag}{tg:Expr} (d it:Addr) (o:Obj) (kvs:List (Key × V)) (vs:List (Key × Value)) (ep:Nat) (rel:KV kvs vs) (hat:∀h:Heap,h.get? d=some o->h.DictAt (bg P w) d vs ep) :
  Turn P w K tg (Itd d o kvs) [it] it (fun i h=>h.IsKeyIter it d i vs.length ep) where
 mem:=by simp
 obj:=fun i h st b hb=>by
  have e:b=it:=by simpa using hb
  subst e
  obtain ⟨o,e,c,d⟩:=st
  exact ⟨o,e,fun v z=>by rw [d] at z;cases z⟩
 keep:=fun i h h' st k=>by
  obtain ⟨o,e,r⟩:=st
  exact ⟨o,k it (by simp) o e,r⟩
 item:=by
  intro X hP hw hK hc i pins s σ H E I hf st hg
  subst hP hw hK
  obtain ⟨e,hlt⟩:=hg
  have hd:=(show bI X.prog X.w H s.heap d (.frz o (.dK kvs)) from I.hok d _ e).1
  have hl:=rel.length
  obtain ⟨f0,f1,f2,f3,f4,f5⟩:=hf it (by simp)
  obtain ⟨⟨k,v⟩,hx⟩:∃kv,vs[i]?=some kv:=⟨vs[i]'(by omega),List.getElem?_eq_getElem (by omega)⟩
  obtain ⟨⟨k',v'⟩,hx'⟩:∃kv,kvs[i]?=some kv:=⟨kvs[i]'(by omega),List.getElem?_eq_getElem (by omega)⟩
  have hkk:k'=k:=by
   have:=congrArg (fun l=>l[i]?) rel.keys
   simp only [List.getElem?_map,hx,hx'] at this
   simpa using this
  subst hkk
  refine wpAny_pyNext_dict_item st (hat _ hd) hx fun key h' hkey st' sb=>?_
  have I1:Inv X pins σ H { s with heap:=h' }:=I.turned (t':=s.toks) (fun b o hb e=>(sb.2 b hb).trans e) f0 f1 f3 f4 f5
  obtain ⟨oi,ei,ci,di⟩:=id st'
  exact ⟨key,rfl,qW (s:={ s with heap:=h' }) ei ci di (by decide) ⟨kV k',H,I1,zD hkey,⟨rfl,k',v',hx',rfl⟩,st',fun b hb=>(hf b hb).1⟩⟩
 done:=by
  intro X hP hw hK hc i pins s σ H E I hf st hg
  subst hP hw hK
  obtain ⟨e,hlt⟩:=hg
  have hd:=(show bI X.prog X.w H s.heap d (.frz o (.dK kvs)) from I.hok d _ e).1
  have hl:=rel.length
  obtain ⟨f0,f1,f2,f3,f4,f5⟩:=hf it (by simp)
  exact wpAny_pyNext_dict_end (I.ok.hd hc) st (hat _ hd) (by simp;omega) fun h' eb=>⟨rfl,I.turned (t':=s.toks) (fun b o hb e=>eb b o hb e) f0 f1 f3 f4 f5⟩
 self:=fun _ _ _ _ _ st h=>wpAny_pyIter_keyiter st h
end
end L2
namespace L2
open PySem PySem.Spec PyProof.Rows
theorem jo {α β:Type}{F:α->β->Prop}:∀{l₁:List α}{l₂:List β},l₁.length=l₂.length->(∀(i:Nat) a b,l₁[i]?=some a->l₂[i]?=some b->F a b)->Paired F l₁ l₂
 | [],[],_,_=>.nil
 | [],_ :: _,h,_=>by simp at h
 | _ :: _,[],h,_=>by simp at h
 | x :: xs,y :: ys,h,f=>.cons (f 0 x y rfl rfl) (jo (by simpa using h) fun i a b ha hb=>f (i + 1) a b (by simpa using ha) (by simpa using hb))
theorem vH {α β:Type}{F:α->β->Prop}{l₁:List α}{l₂:List β} (h:Paired F l₁ l₂):∀{i:Nat}{a:α}{b:β},l₁[i]?=some a->l₂[i]?=some b->F a b:=by
 induction h with
 | nil=>intro i a b h;simp at h
 | cons r t ih =>
  intro i a b ha hb
  cases i with
  | zero=>simp only [List.getElem?_cons_zero,Option.some.injEq] at ha hb;subst ha hb;exact r
  | succ j=>exact ih (by simpa using ha) (by simpa using hb)
section
variable {X:Cx}{tg:Expr}
def uF (X:Cx) (d:Addr):Prop:=∀o u,X.H₀ d ≠ some (.frz o u)
def Cv (X:Cx) (tl:TE):TI:=fun σ H R=>tl σ H fun x H1=>∃d kvs,x=.ref d/\H1 d=some (.dK kvs)/\∀o,uF X d->(kvs.map (·.1)).Nodup->R (Itd d o kvs) (upd H1 d (.frz o (.dK kvs)))
theorem yX {l:Expr}{tl:TE} (hl:PE X l tl):PI X tg l (Cv X tl):=by
 intro pins s σ H R I h
 refine thn (hl pins s σ H _ I h) fun v s1 ⟨x,H1,I1,r1,q1⟩=>?_
 obtain ⟨d,kvs,e,hd,q⟩:=q1
 subst e
 cases r1
 obtain ⟨z,hs,vs,rel,dd⟩:=rq I1.hok hd
 obtain ⟨ep,dat⟩:=dd.dictAt
 obtain ⟨o,es,ho,r⟩:=id dat
 have hn:uF X d:=fun o u z=>by
  have:=I1.base.mK d o u z
  rw [hd] at this;cases this
 refine wpAny_pyIter_dict hs dat ?_
 have I2:=I1.freeze hd (by rw [hd];exact True.intro) ho
 have hfr:upd H1 d (.frz o (.dK kvs)) s1.heap.objs.size=none:=by
  rw [aI (Nat.ne_of_gt (Heap.lt_size ho))];exact I1.hok.fresh (Nat.le_refl _)
 refine ⟨s1.heap.objs.size,[s1.heap.objs.size],_,_,_,rfl,I2.kept (t':=s1.toks) fun b o e=>Heap.get?_push_of_some _ e,
  vS d _ o kvs vs ep rel (fun h' h2=>vw (H:=H1) (kvs:=kvs) dat ho h2),⟨_,Heap.get?_push_size _ rfl,rfl,rfl⟩,fun b hb=>?_,q o hn (by rw [rel.keys];exact dat.nodup)⟩
 have e:b=s1.heap.objs.size:=by simpa using hb
 subst e
 exact I1.vy (Nat.le_refl _) hfr
def zK (X:Cx) (D:Ends):St->Hp->Prop:=fun σ H=>∃d o kvs,uF X d/\H d=some (.frz o (.dK kvs))/\D.nx σ (upd H d (.dK kvs))
def BJ (X:Cx) (tl:TE) (g:TG) (tb:TS):TS:=fun D σ H=>tl σ H fun x H1=>∃d kvs,x=.ref d/\H1 d=some (.dK kvs)/\∀o,uF X d->(kvs.map (·.1)).Nodup->∃Pv:Nat->St->Hp->Prop,Pv 0 σ (upd H1 d (.frz o (.dK kvs))) /\
 (∀i σ H,i <= kvs.length->Pv i σ H->H d=some (.frz o (.dK kvs))) /\
 (∀i k v σ H,kvs[i]?=some (k,v)->Pv i σ H->g (kV k) σ H fun σ2 H2=>tb { D with nx:=Pv (i + 1),ct:=Pv (i + 1),bk:=zK X D } σ2 H2)/\∀σ H,Pv kvs.length σ H->D.nx σ (upd H d (.dK kvs))
theorem ym {l:Expr}{body:List Stmt}{tl:TE}{g:TG}{tb:TS}{pos:Pos} (hp:PassesOwn (model X.prog X.w) X.A X.env X.xe) (hc:X.calm=true) (hl:PE X l tl) (mono:∀σ H (Q Q':V->Hp->Prop),(∀v H,Q v H->Q' v H)->tl σ H Q->tl σ H Q')
  (hg:PG X tg g) (hb:PSs X body tb) (hs:∀x,foldedSetIterable l X.env x=pure x:=by intro _;rfl):PS X (.For tg l body [] pos) (BJ X tl g tb):=by
 intro pins s σ H D I h
 refine thn (cD hp hc (yX hl) hg hb hs pins s σ H { D with nx:=zK X D } I ?_) fun f s1 q=>?_
 ·refine mono σ H _ _ (fun x H1 q=>?_) h
  obtain ⟨d,kvs,e,hd,q⟩:=q
  refine ⟨d,kvs,e,hd,fun o hn hnd=>?_⟩
  obtain ⟨Pv,h0,hk,st,fin⟩:=q o hn hnd
  refine ⟨fun i m σ H=>m=kvs.length - i/\i <= kvs.length/\Pv i σ H,⟨kvs.length,by simp,Nat.zero_le _,h0⟩,?_⟩
  rintro i m σ H ⟨rfl,hi,p⟩
  by_cases hlt:i < kvs.length
  ·refine .inr ⟨⟨hk i σ H hi p,hlt⟩,Pv (i + 1),fun σ' H' p'=>⟨kvs.length - (i + 1),by omega,rfl,hlt,p'⟩,fun x H' y=>?_⟩
   obtain ⟨e,k,v,hx,y⟩:=y
   subst e y
   exact st i k v σ _ hx p
  ·have e:i=kvs.length:=by omega
   subst e
   exact .inl ⟨⟨hk _ σ H hi p,Nat.le_refl _⟩,d,o,kvs,hn,hk _ σ H hi p,fin σ H p⟩
 ·cases f with
  | next =>
   obtain ⟨σ1,H1,I1,d,o,kvs,hn,e,q⟩:=q
   exact ⟨σ1,_,I1.Dc e hn,q⟩
  | cont=>exact q
  | brk=>exact q
  | ret v=>exact q
theorem yt (hc:X.calm=true:=by rfl):b7 X (.type "list") (fun xs H Q=>∃d kvs,xs=[.ref d]/\Rd H d (.dK kvs)/\∀l,H l=none->Q (.ref l) (upd H l (.lst (kvs.map fun kv=>kV kv.1)))):=by
 intro pins s σ H xs us Q I r h
 obtain ⟨d,kvs,rfl,e,q⟩:=h
 obtain ⟨u,rfl,rfl⟩:=vals1 r
 obtain ⟨z,hs,vs,rel,dd⟩:=j1 I.hok e
 obtain ⟨ep,dat⟩:=dd.dictAt
 have hl:=rel.length
 refine W.kdl_call (W.kdl_dict (knd:=bg X.prog X.w) (kvs:=vs) (ep:=ep) hs) (I.ok.hd hc) dat (by omega) fun h' tk acc c hk hS hacc=>?_
 have hp:=I.hok.fresh (Nat.le_refl s.heap.objs.size)
 refine ⟨.ref s.heap.objs.size,_,I.laid (a:=s.heap.objs.size) (o:=.lst (kvs.map fun kv=>kV kv.1)) (t':=tk) hk (Nat.le_refl _) ⟨by rw [List.length_map];exact z,acc.toList,c,?_,by simpa using hS⟩,rfl,q _ hp⟩
 have hsz:acc.size=vs.length:=hacc.1
 refine jo (by simp [hsz,hl]) fun i x y hx hy=>?_
 rw [List.getElem?_map] at hx
 obtain ⟨k,v,hv,hk⟩:=hacc.2 i y (by rw [<- Array.getElem?_toList];exact hy)
 cases hkv:kvs[i]? with
 | none=>rw [hkv] at hx;cases hx
 | some kv =>
  rw [hkv] at hx
  have hx':kV kv.1=x:=Option.some.inj hx
  have:=congrArg (fun l=>l[i]?) rel.keys
  simp only [List.getElem?_map,hkv,hv] at this
  have hkk:kv.1=k:=by simpa using this
  rw [<- hx',hkk]
  exact zD hk
end
section
variable {prog:Program}{w:World}{K:Type} [DecidableEq K] {knd:KeyKind prog w K}{A:Around}{E:Value->Shared->Prop}{s:Shared}
theorem ow {d:Addr}{Q:Unit->Shared->Prop} (hd:(d == sysModules)=false) (q:Q () s):wpAny (model prog w) A (Builtin.Dict.showsAll d) Q E s:=by
 unfold Builtin.Dict.showsAll
 rw [if_neg (by rw [hd];exact Bool.false_ne_true)]
 exact wpAny_pure q
theorem sr {k:K}{v:Value}{es:List DictEntry}{lvs:List (K × Value)} (h:Pairs knd es lvs):valueAt lvs k=some v->∃j e,(es.findIdx? fun e=>knd.is k e.key)=some j/\es[j]?=some e/\e.val=v:=by
 induction h with
 | nil=>intro z;cases z
 | @cons e kv es lvs h1 h2 t ih =>
  intro z
  by_cases hk:kv.1=k
  ·subst hk
   have:valueAt (kv :: lvs) kv.1=some kv.2:=by simp [valueAt,List.find?_cons]
   rw [this] at z
   exact ⟨0,e,by rw [List.findIdx?_cons,if_pos h1],rfl,by rw [h2];exact Option.some.inj z⟩
  ·have:valueAt (kv :: lvs) k=valueAt lvs k:=by simp [valueAt,List.find?_cons,hk]
   rw [this] at z
   obtain ⟨j,f,hj,hf,hv⟩:=ih z
   have hn:¬ knd.is k e.key=true:=fun q=>hk (knd.inj _ _ _ h1 q)
   exact ⟨j + 1,f,by rw [List.findIdx?_cons,if_neg hn,hj];rfl,hf,hv⟩
theorem sC {id:String}{a b:Addr}{kvs lvs:List (K × Value)}{Q:Bool->Shared->Prop} (hda:(a == sysModules)=false) (hdb:(b == sysModules)=false) (ha:s.heap.DictOf knd a kvs) (hb:s.heap.DictOf knd b lvs) (hl:kvs.length=lvs.length)
  (hv:∀(i:Nat) k v,kvs[i]?=some (k,v)->∃v',valueAt lvs k=some v'/\SeqAt.EqAt A s v v' true) (q:Q true s):wpAny (model prog w) A (Builtin.Dict.samePairs id a b) Q E s:=by
 obtain ⟨o,es,ep,ho,hx,hd,hk,hp,hn⟩:=ha
 obtain ⟨o2,es2,ep2,ho2,hx2,hd2,hk2,hp2,hn2⟩:=hb
 have hz:es.size=kvs.length:=by rw [<- hp.length];simp
 have hz2:es2.size=lvs.length:=by rw [<- hp2.length];simp
 unfold Builtin.Dict.samePairs
 refine wpAny_bind (ow hda ?_)
 refine wpAny_bind (ow hdb ?_)
 refine wpAny_bind (wpAny_dictEntries ho hd ?_)
 refine wpAny_bind (wpAny_dictEntries ho2 hd2 ?_)
 rw [if_neg (by simp;omega)]
 refine wpAny_bind (wpAny_dictEpoch ho hd ?_)
 refine wpAny_bind ?_
 rw [Std.Legacy.Range.forIn_eq_forIn_range']
 simp only [Std.Legacy.Range.size,Nat.sub_zero,Nat.add_sub_cancel,Nat.div_one]
 refine wpAny_forIn_list _ (fun rest b s'=>b=(none,())/\s'=s/\∀i ∈ rest,i < es.size) _ ?_ ?_ _ _ ⟨rfl,rfl,fun i hi=>?_⟩
 ·rintro i rest c s' ⟨rfl,rfl,hr⟩
  have hi:i < es.size:=hr i (by simp)
  refine wpAny_bind (wpAny_dictEntries ho hd ?_)
  rw [Array.getElem?_eq_getElem hi]
  obtain ⟨⟨k,v⟩,hkv⟩:∃kv,kvs[i]?=some kv:=⟨kvs[i]'(by omega),List.getElem?_eq_getElem (by omega)⟩
  obtain ⟨hkey,hval⟩:=hp.get? (e:=es[i]) (by simp [hi]) hkv
  obtain ⟨k',hk',hh⟩:=hk es[i] (Array.getElem_mem hi)
  obtain ⟨v',hv',he⟩:=hv i k v hkv
  have hkk:k'=k:=knd.inj _ _ _ hk' hkey
  subst hkk
  show wpAny _ _ (holding [es[i].key,es[i].val] _ >>= _) _ _ _
  refine wpAny_bind (wpAny_holding ?_)
  rw [hh,hval]
  refine wpAny_bind (wpAny_dictFind_of hkey ho2 hd2 hk2 ?_)
  obtain ⟨j,f,hj,hf,hfv⟩:=sr hp2 hv'
  rw [<- List.findIdx?_toArray,Array.toArray_toList] at hj
  rw [Array.getElem?_toList] at hf
  rw [hj]
  refine wpAny_bind (wpAny_dictEntries ho2 hd2 ?_)
  rw [hf]
  show wpAny _ _ (holding [f.val] (eqBool v f.val)) _ _ _
  rw [hfv]
  refine wpAny_holding (he _ _ _ _ ?_)
  rw [if_neg (by decide)]
  refine wpAny_bind (wpAny_dictEpoch ho hd ?_)
  rw [if_neg (by simp)]
  exact wpAny_pure ⟨rfl,rfl,fun z hz=>hr z (List.mem_cons_of_mem _ hz)⟩
 ·rintro c s' ⟨rfl,rfl,_⟩
  exact wpAny_pure q
 ·have:=(List.mem_range'_1.mp hi).2
  omega
end
theorem uQ {κ:Type} [DecidableEq κ]:∀{kvs:List (κ × V)}{i:Nat}{k:κ}{v:V},(kvs.map (·.1)).Nodup->kvs[i]?=some (k,v)->gy kvs k=some v
 | [],i,k,v,_,h=>by simp at h
 | p :: r,0,k,v,_,h=>by
  simp only [List.getElem?_cons_zero,Option.some.injEq] at h
  subst h
  exact iw (p:=(k,v)) rfl
 | p :: r,i + 1,k,v,hn,h=>by
  rw [List.map_cons] at hn
  have hr:=List.nodup_cons.mp hn
  have hi:r[i]?=some (k,v):=by simpa using h
  have hne:¬ p.1=k:=fun z=>hr.1 (by rw [z];exact List.mem_map_of_mem (f:=(·.1)) (List.mem_of_getElem? hi))
  rw [gv hne]
  exact uQ hr.2 hi
section
variable {X:Cx}
def xl (K:W.Frag) (H:Hp) (v v':V):Prop:=(v=v'/\oN v=true) \/ ∃p q xs,v=.ref p/\v'=.ref q/\SqL K H p xs/\SqL K H q xs/\xs.all oN=true
theorem yI {pins:List (Addr × Obj)}{σ:St}{H:Hp}{s:Shared}{A:Around}{v v':V}{u u':Value} (I:Inv X pins σ H s) (hu:A.units < cLine) (h:xl X.K H v v') (r:RelV v u) (r':RelV v' u'):SeqAt.EqAt A s u u' true:=by
 rcases h with ⟨rfl,hf⟩ | ⟨p,q,xs,rfl,rfl,hp,hq,hf⟩
 ·exact kR hf r r' A s
 ·cases r
  cases r'
  by_cases hpq:p=q
  ·subst hpq;exact .same _
  ·obtain ⟨its,r1,⟨o,n,e1,c1,_,d1⟩,_⟩:=I.list hp
   obtain ⟨jts,r2,⟨o2,n2,e2,c2,_,d2⟩,_⟩:=I.list hq
   have l1:=r1.length
   have l2:=r2.length
   have hR:=SeqAt.RcAt.lists (A:=A) (s:=s) (e:=fun _=>true) (l:=p) (b:=q) (items:=its.toArray) (items2:=jts.toArray) ⟨o,e1,c1,n,d1⟩ ⟨o2,e2,c2,n2,d2⟩ (by simp;omega) hu (fun j h1 h2=>by
    simp at h1 h2
    obtain ⟨x,hx⟩:∃x,xs[j]?=some x:=⟨xs[j]'(by omega),List.getElem?_eq_getElem (by omega)⟩
    obtain ⟨u1,g1,w1⟩:=r1.get hx
    obtain ⟨u2,g2,w2⟩:=r2.get hx
    have z1:its.toArray[j]'(by simpa using h1)=u1:=by
     have:=List.getElem?_eq_getElem h1
     rw [g1] at this
     simpa using (Option.some.inj this).symm
    have z2:jts.toArray[j]'(by simpa using h2)=u2:=by
     have:=List.getElem?_eq_getElem h2
     rw [g2] at this
     simpa using (Option.some.inj this).symm
    rw [z1,z2]
    exact kR (List.all_eq_true.mp hf x (List.mem_of_getElem? hx)) w1 w2 _ _)
   have:((List.range its.toArray.size).all fun _=>true)=true:=by simp
   rw [this] at hR
   exact .of_refs hpq hR
theorem BQ (hu:X.A.units + 64 < cLine):OpR X (compareOp .Eq) (fun x y H Q=>∃a b kvs lvs,x=.ref a/\y=.ref b/\Rd H a (.dK kvs)/\Rd H b (.dK lvs)/\kvs.length=lvs.length /\
  (∀k v,gy kvs k=some v->∃v',gy lvs k=some v'/\xl X.K H v v')/\Q (.bl true) H):=by
 intro pins s σ H x y v u Q I rx ry h
 obtain ⟨a,b,kvs,lvs,rfl,rfl,ha,hb,hl,hv,q⟩:=h
 cases rx
 cases ry
 obtain ⟨z,hs,vs,rel,dd⟩:=j1 I.hok ha
 obtain ⟨z2,hs2,vs2,rel2,dd2⟩:=j1 I.hok hb
 have e1:=rel.length
 have e2:=rel2.length
 refine wpAny_richCompare_same_room (op:=.Eq) dd.typeIs dd2.typeIs PySem.F.slot_dict_eq (wpAny_call_entry PySem.F.slot_dict_eq dd.typeIs PySem.F.entry_dict_eq ?_ (PySem.F.args_dict_eq_2 _ _)) (by omega)
 show wpAny _ _ (Builtin.Dict.dictSlotArgs "__eq__" ⟨[.ref a,.ref b],[]⟩ >>= _) _ _ _
 refine wpAny_bind ?_
 unfold Builtin.Dict.dictSlotArgs
 refine wpAny_bind (wpAny_notOrdered_dict dd.typeIs ?_)
 show wpAny _ _ (pure (Value.ref a,Value.ref b)) _ _ _
 refine wpAny_pure ?_
 refine wpAny_bind (wpAny_isInstance (T:="dict") (b:=true) dd2.typeIs (by rw [isSubtype_type];kernel_rfl) ?_)
 show wpAny _ _ (Builtin.Dict.samePairs "dict.__eq__" a b >>= _) _ _ _
 refine wpAny_bind (sC hs hs2 dd dd2 (by omega) (fun i k v hi=>?_) ?_)
 ·obtain ⟨⟨k',v'⟩,hkv⟩:∃kv,kvs[i]?=some kv:=⟨kvs[i]'(by have:=(List.getElem?_eq_some_iff.mp hi).1;omega),List.getElem?_eq_getElem _⟩
  have hr:k'=k/\RelV v' v:=vH rel hkv hi
  obtain ⟨rfl,hrv⟩:=hr
  obtain ⟨w',hw,hq⟩:=hv k' v' (uQ (by rw [rel.keys];exact (dd.dictAt.choose_spec).nodup) hkv)
  have hval:=rel2.val k'
  rw [hw] at hval
  cases hvv:valueAt vs2 k' with
  | none=>rw [hvv] at hval;exact (show False from hval).elim
  | some u' =>
   rw [hvv] at hval
   exact ⟨u',rfl,yI I (show X.A.units + 1 < cLine by omega) hq hrv hval⟩
 ·show wpAny _ _ (ret (.bool true)) _ _ _
  exact wpAny_pure ⟨.bool true,rfl,(fun z=>nomatch z),.bl true,H,I,rfl,q⟩
end
end L2
namespace L2
open PySem PySem.Spec PyProof.Rows
section
variable {X:Cx}
structure mh (z y:Str) (ws:List Str):Prop where
 h1:(decide (z.length < y.length) || decide (Builtin.Str.strKind z < Builtin.Str.strKind y))=false
 hy:(y.length == 0)=false
 hf:(Builtin.Str.occurrences z y 0 z.length (z.length + 1)).isEmpty=false
 hx:z.length <= sizeLine
 hn:ws.length <= sizeLine
 e:Builtin.Str.partsBetween z (Builtin.Str.occurrences z y 0 z.length (z.length + 1)) y.length=ws
theorem oP:∀(tk:Nat) (ws:List Str),Vals (ws.map V.str) (strsFrom tk ws)
 | _,[]=>.nil
 | tk,x :: r=>.cons ⟨_,rfl⟩ (oP (tk + 1) r)
theorem wg:MtR X "str.split" (fun x xs H Q=>∃(z y:Str) (ws:List Str),x=.str z/\xs=[.str y]/\mh z y ws/\∀l,H l=none->Q (.ref l) (upd H l (.lst (ws.map V.str)))):=by
 intro pins s σ H x xs v us Q I rx rs h
 obtain ⟨z,y,ws,rfl,rfl,ok,q⟩:=h
 obtain ⟨t,rfl⟩:=rx
 obtain ⟨u,rfl,ru⟩:=rs.one
 obtain ⟨t2,rfl⟩:=ru
 obtain ⟨h1,hy,hf,hx,hn,e⟩:=ok
 subst e
 refine call_meets F.slot_str_split (typeIs_str _ _ _) F.entry_str_split (F.args_str_split_2 _ _) (meets_str_split_sep z y t t2 h1 hy hf hx hn) ?_
 exact ⟨.ref _,_,I.Be (oP _ _) (by rw [List.length_map];exact hn),rfl,q _ I.fresh⟩
theorem m_split {o e:Expr}{to:TE}{t:TA}{apos cpos:Pos} (ho:PE X o to) (ha:PA X [e] t) (hbase:attributeBase o "split" X.env (eval o X.env)=eval o X.env:=by rfl)
  (hfew:((backTo cpos (starEach [e] X.env)).all (fun x=>!x.1) && (backToKw cpos (keywordEach [] X.env)).all (fun x=>x.1.isSome)
   && decide ([e].length + ([]:List Keyword).length + (if ([]:List Keyword).isEmpty then 0 else 1) < 30))=true:=by rfl)
  (hline:(apos.endLine == cpos.line)=true:=by rfl) (hs:starEach [e] X.env=(false,eval e X.env) :: starEach [] X.env:=by rfl) (hplain:(backTo cpos (starEach [] X.env)).any (·.1)=false:=by rfl) :
  PE X (.Call (.Attribute o "split" apos) [e] [] cpos) (tBM X.K "str" (fun x xs H Q=>∃(z y:Str) (ws:List Str),x=.str z/\xs=[.str y]/\mh z y ws/\∀l,H l=none->Q (.ref l) (upd H l (.lst (ws.map V.str)))) to t) :=
 xc PySem.F.plainAttrs_str PySem.F.slot_str_split PySem.F.type_str_split wg ho ha hbase hfew hline hs hplain
def CN (z:Str) (n:Int):Str:=if n < 1 then Str.empty else if (n == 1 || z.length == 0)=true then z else ⟨(List.replicate n.toNat z.cps).foldl (· ++ ·) #[]⟩
def BW:R2:=fun x y H Q=>match x,y with
 | .int i,.int j=>ye i j/\Q (.int (i * j)) H
 | .str z,.int n=>n < 1000/\-1000 < n/\z.length <= 1000/\Q (.str (CN z n)) H
 | .ref p,.int k=>∃xs,H p=some (.lst xs)/\-(2 ^ 63) <= k/\k < 2 ^ 63/\xs.length * k.toNat <= sizeLine/\∀l,H l=none->Q (.ref l) (upd H l (.lst (List.replicate k.toNat xs).flatten))
 | _,_=>False
theorem vM (xs:List (Array Nat)):∀acc:Array Nat,(xs.foldl (· ++ ·) acc).size=acc.size + (xs.map (·.size)).sum:=by
 induction xs with
 | nil=>intro acc;simp
 | cons x r ih=>intro acc;rw [List.foldl_cons,ih,Array.size_append,List.map_cons,List.sum_cons];omega
theorem ya (z:Str) (n:Nat):(⟨(List.replicate n z.cps).foldl (· ++ ·) #[]⟩:Str).length=n * z.length:=by
 show ((List.replicate n z.cps).foldl (· ++ ·) #[]).size=_
 rw [vM,List.map_replicate]
 have:∀m k:Nat,(List.replicate m k).sum=m * k:=fun m k=>by
  induction m with
  | zero=>simp
  | succ m ih=>rw [List.replicate_succ,List.sum_cons,ih,Nat.succ_mul];omega
 rw [this]
 simp [Str.length]
theorem ck:OpR X (binaryOp .Mult) BW:=by
 intro pins s σ H x y v u Q I rx ry h
 cases x with
 | int i =>
  cases y with
  | int j=>exact Cs pins s σ H _ _ v u Q I rx ry h
  | _=>exact (show False from h).elim
 | str z =>
  cases y with
  | int n =>
   obtain ⟨h1,h2,h3,q⟩:=h
   obtain ⟨t,rfl⟩:=rx
   obtain ⟨t2,rfl⟩:=ry
   have hb:¬ n < 1->n.toNat * z.length <= 1000000:=fun hn=>by
    have e1:n.toNat <= 1000:=by omega
    exact Nat.le_trans (Nat.mul_le_mul e1 h3) (by decide)
   refine P.mul_str (by rw [decide_eq_false (by omega),decide_eq_false (by omega)];rfl) (fun hn _=>?_) (fun hn _=>?_) ?_
   ·intro z1
    have h0:(0:Int) < n:=by omega
    have:=Int.lt_mul_of_ediv_lt h0 z1
    have e2:((z.length:Int)) * n <= 1000 * 1000:=Int.mul_le_mul (by omega) (by omega) (by omega) (by decide)
    omega
   ·unfold Builtin.Str.tooLong
    have:=hb hn
    rw [Nat.mul_comm] at this
    refine decide_eq_false ?_
    rw [sizeLine_eq]
    omega
   ·unfold CN at q
    by_cases c1:n < 1
    ·rw [if_pos c1] at q ⊢
     exact ⟨by decide,.str _,H,I.tok _,⟨_,rfl⟩,q⟩
    ·rw [if_neg c1] at q ⊢
     by_cases c2:(n == 1 || z.length == 0)=true
     ·rw [if_pos c2] at q ⊢
      exact ⟨.str _,H,I,⟨_,rfl⟩,q⟩
     ·rw [if_neg c2] at q ⊢
      refine ⟨?_,.str _,H,I.tok _,⟨_,rfl⟩,q⟩
      rw [ya]
      have:=hb c1
      rw [sizeLine_eq]
      omega
  | _=>exact (show False from h).elim
 | ref p =>
  cases y with
  | int k =>
   obtain ⟨xs,h1,h2,h3,h4,q⟩:=h
   exact A5 pins s σ H _ _ v u Q I rx ry ⟨p,k,xs,rfl,rfl,h1,h2,h3,h4,q⟩
  | _=>exact (show False from h).elim
 | _=>cases y <;> exact (show False from h).elim
end
end L2
namespace L2
open PySem PySem.Spec PyProof.Rows
section
variable {X:Cx}
theorem CT (i:Nat):∀σ H (Q Q':V->Hp->Prop),(∀v H,Q v H->Q' v H)->vZ i σ H Q->vZ i σ H Q':=by
 intro σ H Q Q' h q
 unfold vZ at q ⊢
 split at q
 ·exact h _ _ q
 ·exact q.elim
def Bw (K:W.Frag) (H:Hp) (a b:Addr):Prop:=∃kvs lvs,Rd H a (.dK kvs)/\Rd H b (.dK lvs)/\kvs.length=lvs.length/\∀k v,gy kvs k=some v->∃v',gy lvs k=some v'/\xl K H v v'
def DA (K:W.Frag):R2:=fun x y H Q=>match x,y with
 | .ref p,.ref q=>((∃d e,ig K H (.ref p) d/\ig K H (.ref q) e/\SeqAt.shaped d=true/\SeqAt.shaped e=true/\Q (.bl (PyData.eqv d e)) H) \/ (∃xs,SqL K H p xs/\SqL K H q xs/\xs.all oN=true/\Q (.bl true) H)) \/ (Bw K H p q/\Q (.bl true) H)
 | x,y=>vQ x y=true/\Q (.bl (decide (x=y))) H
theorem bZ (hu:X.A.units + 64 < cLine):OpR X (compareOp .Eq) (DA X.K):=((BY hu).or (BQ hu)).imp fun x y H Q q=>by
 by_cases hr:∃p q,x=V.ref p/\y=V.ref q
 ·obtain ⟨p,q',rfl,rfl⟩:=hr
  rcases q with q | ⟨⟨kvs,lvs,h1,h2,h3,h4⟩,h5⟩
  ·exact .inl q
  ·exact .inr ⟨p,q',kvs,lvs,rfl,rfl,h1,h2,h3,h4,h5⟩
 ·refine .inl ?_
  cases x <;> cases y <;> first | exact q | exact absurd ⟨_,_,rfl,rfl⟩ hr
inductive Bq (xs:List V) (H:Hp) (Q:VK):Prop
 | mk (a:Addr) (kvs:List (Key × V)) (h0:xs=[.ref a]) (h1:Rd H a (.dK kvs)) (q:Q (.int (kvs.length:Nat)) H):Bq xs H Q
theorem dS:b7 X (.builtin "len") (fun xs H Q=>yK X.K xs H Q \/ Bq xs H Q):=Cn.or fun pins s σ H xs us Q I r ⟨a,kvs,h0,h1,q⟩=>Ax pins s σ H xs us Q I r ⟨a,kvs,h0,h1,q⟩
theorem uM (hc:X.calm=true:=by rfl):b7 X (.type "list") (fun xs H Q=>(∃p ys,xs=[.ref p]/\(SqL X.K H p ys \/ SqT X.K H p ys)/\∀l,H l=none->Q (.ref l) (upd H l (.lst ys))) \/ ∃d kvs,xs=[.ref d]/\Rd H d (.dK kvs)/\∀l,H l=none->Q (.ref l) (upd H l (.lst (kvs.map fun kv=>kV kv.1)))):=fY.or (yt hc)
end
end L2
namespace L2
open PySem PySem.Spec PyProof.Rows
section
variable {X:Cx}{pins:List (Addr × Obj)}{σ:St}{H:Hp}{s:Shared}
end
end L2
set_option maxHeartbeats 4000000
namespace L2
open PySem PySem.Spec PyProof.Rows
end L2
namespace L2
open PySem PySem.Spec PyProof.Rows
section
variable {X:Cx}
theorem yB {o:Expr}{to:TE}{apos cpos:Pos} (ho:PE X o to) (hbase:attributeBase o "clear" X.env (eval o X.env)=eval o X.env:=by rfl) (hline:(apos.endLine == cpos.line)=true:=by rfl) :
  PE X (.Call (.Attribute o "clear" apos) [] [] cpos) (ze X.K "list" xM to) :=
 tD PySem.F.plainAttrs_list PySem.F.slot_list_clear PySem.F.type_list_clear wm ho hbase hline
end
end L2
namespace L2
open PySem PySem.Spec PyProof.Rows
section
variable {X:Cx}
theorem uG {o:Expr}{to:TE}{apos cpos:Pos} (ho:PE X o to) (hbase:attributeBase o "pop" X.env (eval o X.env)=eval o X.env:=by rfl) (hline:(apos.endLine == cpos.line)=true:=by rfl) :
  PE X (.Call (.Attribute o "pop" apos) [] [] cpos) (ze X.K "list" zm to) :=
 tD PySem.F.plainAttrs_list PySem.F.slot_list_pop PySem.F.type_list_pop Ak ho hbase hline
end
end L2
namespace L2
open PySem PySem.Spec PyProof.Rows
section
variable {X:Cx}
end
end L2
namespace L2
open PySem PySem.Spec PyProof.Rows
section
variable {X:Cx}
theorem uY:MtR X "dict.clear" (fun x xs H Q=>∃a kvs,x=.ref a/\xs=[]/\H a=some (.dK kvs)/\Q .non (upd H a (.dK []))):=by
 intro pins s σ H x xs v us Q I rx rs h
 obtain ⟨a,kvs,rfl,rfl,e,q⟩:=h
 cases rx
 obtain rfl:=Vals.zero rs
 exact zt I e fun s' I'=>⟨.non,_,I',rfl,q⟩
theorem wk {o:Expr}{to:TE}{apos cpos:Pos} (ho:PE X o to) (hbase:attributeBase o "clear" X.env (eval o X.env)=eval o X.env:=by rfl) (hline:(apos.endLine == cpos.line)=true:=by rfl) :
  PE X (.Call (.Attribute o "clear" apos) [] [] cpos) (ze X.K "dict" (fun x xs H Q=>∃a kvs,x=.ref a/\xs=[]/\H a=some (.dK kvs)/\Q .non (upd H a (.dK []))) to) :=
 tD PySem.F.plainAttrs_dict PySem.F.slot_dict_clear PySem.F.type_dict_clear uY ho hbase hline
end
end L2
namespace L2
open PySem PySem.Spec PyProof.Rows
section
variable {X:Cx}
end
end L2
namespace L2
open PySem PySem.Spec PyProof.Rows
section
variable {X:Cx}
end
end L2
namespace L2
open PySem PySem.Spec PyProof.Rows
section
variable {X:Cx}
end
end L2
namespace L2
open PySem PySem.Spec PyProof.Rows
section
variable {X:Cx}
end
end L2
namespace L2
open PySem PySem.Spec PyProof.Rows
section
variable {X:Cx}{e:Expr}{te:TE}{es:List Expr}{t:Str->TE}{pos:Pos}
def PJ (X:Cx) (es:List Expr) (t:Str->TE):Prop :=
 ∀(acc:Str) (pins:List (Addr × Obj)) (s:Shared) (σ:St) (H:Hp) (Q:VK),Inv X pins σ H s->t acc σ H Q->wpAny (model X.prog X.w) X.A (joinParts acc (evalEach es X.env)) (EP X pins σ Q) X.xe s
theorem AS:PJ X [] (fun acc _ H Q=>acc.length <= sizeLine/\Q (.str acc) H):=fun acc pins s σ H Q I h=>by
 show wpAny _ _ (joinParts acc []) _ _ _
 exact joinParts_nil (Q:=EP X pins σ Q) ⟨.str acc,H,I.tok _,⟨_,rfl⟩,h.2⟩ h.1
theorem tS (he:PE X e te) (ht:PJ X es t):PJ X (e :: es) (fun acc σ H Q=>te σ H fun v H'=>∃x,v=.str x/\(acc ++ x).length <= sizeLine/\t (acc ++ x) σ H' Q):=fun acc pins s σ H Q I h=>by
 show wpAny _ _ (joinParts acc (eval e X.env :: evalEach es X.env)) _ _ _
 refine joinParts_cons (thn (he pins s σ H _ I h) fun v s1 ⟨x,H1,I1,r1,y,e1,l1,q1⟩=>?_)
 subst e1
 obtain ⟨tk,rfl⟩:=r1
 exact ⟨l1,ht _ pins s1 σ H1 Q I1 q1⟩
theorem zv {a b:Expr} (h:PJ X (a :: b :: es) t):PE X (.JoinedStr (a :: b :: es) pos) (fun σ H Q=>t Str.empty σ H Q):=fun pins s σ H Q I q=>JoinedStr_many (h Str.empty pins s σ H Q I q)
theorem AR (he:PE X e te):PE X (.FormattedValue e (-1) none pos) (fun σ H Q=>te σ H fun v H'=>(∃i:Int,v=.int i/\i.natAbs.log2 < 1920/\Q (.str (toString i:String)) H') \/ ∃x,v=.str x/\x.length <= sizeLine/\Q (.str x) H'):=fun pins s σ H Q I h=>by
 refine FormattedValue_plain (thn (he pins s σ H _ I h) fun v s1 ⟨x,H1,I1,r1,q1⟩=>?_)
 rcases q1 with ⟨i,rfl,hi,q1⟩ | ⟨y,rfl,hy,q1⟩
 ·obtain ⟨tk,rfl⟩:=r1
  exact formatField_int_small hi ⟨.str (toString i:String),H1,I1.tok _,⟨_,rfl⟩,q1⟩
 ·obtain ⟨tk,rfl⟩:=r1
  exact formatField_str (fun t' tk=>⟨.str y,H1,I1.tok _,⟨_,rfl⟩,q1⟩) hy
end
end L2
namespace L2
open PySem PySem.Spec PyProof.Rows
section
variable {X:Cx}
theorem j6 {o e:Expr}{to:TE}{t:TA}{apos cpos:Pos} (ho:PE X o to) (ha:PA X [e] t) (hbase:attributeBase o "extend" X.env (eval o X.env)=eval o X.env:=by rfl)
  (hfew:((backTo cpos (starEach [e] X.env)).all (fun x=>!x.1) && (backToKw cpos (keywordEach [] X.env)).all (fun x=>x.1.isSome)
   && decide ([e].length + ([]:List Keyword).length + (if ([]:List Keyword).isEmpty then 0 else 1) < 30))=true:=by rfl)
  (hline:(apos.endLine == cpos.line)=true:=by rfl) (hs:starEach [e] X.env=(false,eval e X.env) :: starEach [] X.env:=by rfl) (hplain:(backTo cpos (starEach [] X.env)).any (·.1)=false:=by rfl) :
  PE X (.Call (.Attribute o "extend" apos) [e] [] cpos) (tBM X.K "list" uE to t) :=
 xc PySem.F.plainAttrs_list PySem.F.slot_list_extend PySem.F.type_list_extend u9 ho ha hbase hfew hline hs hplain
end
end L2
namespace L2
open PySem PySem.Spec PyProof.Rows
section
variable {prog:Program}{w:World}{K:Type} [DecidableEq K] {knd:KeyKind prog w K}{A:Around}{E:Value->Shared->Prop}{s:Shared}
end
section
variable {X:Cx}
end
end L2
namespace L2
open PySem PySem.Spec PyProof.Rows
section
variable {prog:Program}{w:World}{A:Around}{E:Value->Shared->Prop}{s:Shared}
end
section
variable {X:Cx}
end
end L2
namespace L2
open PySem PySem.Spec PyProof.Rows
section
variable {K:W.Frag}{H:Hp}{Q:VK}
theorem tix {p:Addr}{xs:List V}{v:V}{j:Nat} (h:SqT K H p xs) (e:xs[j]?=some v) (q:Q v H):ixS K p (j:Int) H Q \/ dgI p (.int (j:Int)) H Q:=.inl ⟨xs,v,.inr h,jf e,q⟩
theorem lix {p:Addr}{xs:List V}{v:V}{i:Int} (h:SqL K H p xs) (e:atI xs i=some v) (q:Q v H):ixS K p i H Q \/ dgI p (.int i) H Q:=.inl ⟨xs,v,.inl h,e,q⟩
theorem dgk {d:Addr}{kvs:List (Key × V)}{x:Str}{v:V} (h:H d=some (.dK kvs)) (e:gy kvs (.inr x)=some v) (q:Q v H):dgI d (.str x) H Q:=⟨v,e ▸ jP.k (k:=.inr x) h,q⟩
theorem fdI {a C dx:Addr}{f:Str}{fs:List (Str × V)}{v:V} (h:H a=some (.ins C dx fs)) (c:Cls K C) (n:aC K C f) (e:fs.lookup f=some v) (q:Q v H):xF K f (.ref a) H Q:=⟨a,C,dx,fs,v,rfl,h,c,n,e,q⟩
theorem lnl {p:Addr}{xs:List V} (h:H p=some (.lst xs)) (q:Q (.int (xs.length:Nat)) H):yK K [.ref p] H Q \/ Bq [.ref p] H Q:=.inl ⟨_,_,rfl,.inl ⟨_,SqL.of h,rfl⟩,q⟩
theorem isB {x:V}{D:Addr}{t:Value}{b:Bool}{R:Bool->Hp->Prop} (ty:jJ K H x t) (k:W.kitOne K t (.ref D)=some b) (q:R b H):sF K [x,.ref D] H fun v H1=>rR K v H1 R:=⟨x,.ref D,t,b,rfl,(fun z=>by cases z),ty,k,b,rfl,q⟩
end
end L2
namespace L2
open PySem PySem.Spec PyProof.Rows
section
variable {X:Cx}
end
end L2
namespace L2
open PySem PySem.Spec PyProof.Rows
section
variable {X:Cx}
end
end L2
namespace L2
open PySem PySem.Spec PyProof.Rows
section
variable {P:Program}{w:World}{K:W.Frag}{mg:Str->Option Value}{base:Heap}{k:Nat}{x:Str}{ps:List Str}{dvs:List V}{sp:Sp}
structure TopFnD (K:W.Frag) (mg:Str->Option Value) (x:Str) (st:Stmt) (ps:List Str) (dvs:List V):Prop where
 ex:∃(f:Addr) (oc:Value) (od:Option Addr) (dV kV doc pm:Value) (an:Option Addr) (cdv ct:Value) (osl:Array (Option Value)) (ds:List Value),K.lookup f=some ⟨oc,od,.func (W.fnOf x x (bJ st) (bA st) (ar st) dV kV doc pm an cdv ct),osl⟩/\W.codeIn K cdv x=true/\W.keepIn K (.ref f)=true/\mg x=some (.ref f)/\Vals dvs ds /\
  Binds K (W.fnOf x x (bJ st) (bA st) (ar st) dV kV doc pm an cdv ct) ps []/\Binds K (W.fnOf x x (bJ st) (bA st) (ar st) dV kV doc pm an cdv ct) ps ds
end
end L2
namespace L2
open PySem PySem.Spec PyProof.Rows
section
variable {prog:Program}{w:World}{A:Around}{E:Value->Shared->Prop}{s:Shared}{S:Addr}{a b c:Option Tok}{ep:Nat}{led:Bool}
end
structure RkIn (val:Nat->Int) (i:Nat) (a b c:Option Tok):Prop where
 a:a.isSome=(List.range i).any fun j=>decide (val j=0)
 b:b.isSome=(List.range i).any fun j=>decide (val j=1)
 c:c.isSome=(List.range i).any fun j=>decide (val j=2)
section
variable {prog:Program}{w:World}{A:Around}{R:Result->Shared->Prop}{I:Addr}{fp wr:List Addr}{G:Array GenState->Array GenState->Prop}{n:Nat}{P:Nat->Value->Prop}{St:Nat->Shared->Prop}{led:Bool}
end
section
variable {prog:Program}{w:World}{A:Around}{E:Value->Shared->Prop}{s:Shared}
end
end L2
namespace L2
open PySem PySem.Spec PyProof.Rows
section
variable {prog:Program}{w:World}{A:Around}{E:Value->Shared->Prop}{s:Shared}{S:Addr}{a b c:Option Tok}{ep:Nat}
end
end L2
namespace L2
open PySem PySem.Spec PyProof.Rows
section
variable {prog:Program}{w:World}{A:Around}{E:Value->Shared->Prop}{s:Shared}{S:Addr}{a b c:Option Tok}{ep:Nat}
end
end L2
namespace L2
open PySem PySem.Spec PyProof.Rows
section
variable {prog:Program}{w:World}{A:Around}{E:Value->Shared->Prop}{s:Shared}{S:Addr}{a b c:Option Tok}{ep:Nat}
end
end L2
namespace L2
open PySem PySem.Spec PyProof.Rows
theorem Paired.Cc {α β:Type}{F:α->β->Prop}{x:α}{y:β} (h:F x y):∀{a:List α}{b:List β},Paired F a b->Paired F (a ++ [x]) (b ++ [y])
 | _,_,.nil=>.cons h .nil
 | _,_,.cons r t=>.cons r (Paired.Cc h t)
theorem x6 {α:Type}{K:W.Frag}{a:Addr}{xs:List V}{own:Nat}{fr:List Nat}{g:CB->TG}{tf:CB->TT}{te:CB->TE}{Q:VK}{σ:St}{H1:Hp} (src:List α) (p:α->Bool) (R:α->V->Hp->Prop) (hx:SqL K H1 a xs) (hl:xs.length=src.length) (hn:xs.length < sizeLine)
  (he:∀(b:CB) (i:Nat) (x:V) (e:α) (v0:St) (H:Hp) (N:St->Hp->Prop) (Y:St->V->Hp->Prop),xs[i]?=some x->src[i]?=some e->v0.length=own->ah H1 H ->
   (p e=false->∀v1 H',v1.length=own->ah H H'->N (v1 ++ cFr fr σ) H')->(p e=true->∀v1 y H',v1.length=own->ah H H'->R e y H'->Y (v1 ++ cFr fr σ) y H') ->
   g b x (v0 ++ cFr fr σ) H fun σ3 H3=>tf b σ3 H3 fun k H4=>if k=true then te b σ3 H4 fun y H5=>Y σ3 y H5 else N σ3 H4)
  (mono:∀e y H H',ah H H'->R e y H->R e y H') (st:∀e y H D ys zs,H D=some (.lst ys)->R e y H->R e y (upd H D (.lst zs)))
  (fin:∀D H ys,H1 D=none->ah H1 H->H D=some (.lst ys)->Paired (fun e y=>R e y H) (src.filter p) ys->Q (.ref D) H):kT (Itl K a) own fr g tf te Q σ H1:=by
 refine ⟨fun b D hD=>?_⟩
 refine ⟨fun i m σ' H'=>m=xs.length - i/\i <= xs.length/\(∃v0,σ'=v0 ++ cFr fr σ/\v0.length=own)/\ah H1 H'/\∃ys,H' D=some (.lst ys)/\ys.length <= i/\Paired (fun e y=>R e y H') ((src.take i).filter p) ys,⟨xs.length,rfl,Nat.zero_le _,⟨List.replicate own none,rfl,List.length_replicate ..⟩,ah.upd hD _,[],ak,Nat.le_refl _,.nil⟩,?_⟩
 rintro i m σ' H' ⟨rfl,hi,⟨v0,rfl,hv⟩,sm,ys,hL,hy,hR⟩
 by_cases hlt:i < xs.length
 ·have hs:i < src.length:=by omega
  refine .inr ⟨⟨xs,xs[i],sm.seq hx,List.getElem?_eq_getElem hlt⟩,fun σ2 H2=>(∃v0,σ2=v0 ++ cFr fr σ/\v0.length=own)/\ah H1 H2/\∃ys,H2 D=some (.lst ys)/\ys.length <= i + 1/\Paired (fun e y=>R e y H2) ((src.take (i + 1)).filter p) ys,fun σ2 H2 q=>⟨xs.length - (i + 1),by omega,rfl,hlt,q⟩,fun v H2 y=>?_⟩
  obtain ⟨rfl,y2⟩:=y
  have e:=y2 xs (sm.seq hx)
  have tk:src.take (i + 1)=src.take i ++ [src[i]]:=by rw [List.take_add_one,List.getElem?_eq_getElem hs];rfl
  refine he b i v src[i] v0 _ _ _ e (List.getElem?_eq_getElem hs) hv sm (fun pf v1 H3 h1 s3=>?_) (fun pt v1 y H3 h1 s3 r3=>?_)
  ·refine ⟨⟨v1,rfl,h1⟩,sm.trans s3,ys,s3 _ _ hL,by omega,?_⟩
   rw [tk,List.filter_append,List.filter_cons_of_neg (by rw [pf];exact Bool.false_ne_true),List.filter_nil,List.append_nil]
   exact Paired.nT hR fun e y z=>mono _ _ _ _ s3 z
  ·have hD4:=s3 _ _ hL
   refine ⟨ys,hD4,by omega,⟨v1,rfl,h1⟩,?_,ys ++ [y],ak,by simp;omega,?_⟩
   ·intro c o q
    by_cases hc:c=D
    ·rw [hc,hD] at q;cases q
    ·rw [aI hc];exact (sm.trans s3) c o q
   ·rw [tk,List.filter_append,List.filter_cons_of_pos pt,List.filter_nil]
    exact Paired.Cc (F:=fun e y'=>R e y' (upd H3 D (.lst (ys ++ [y])))) (st _ _ _ _ _ _ hD4 r3) (Paired.nT hR fun e y z=>st _ _ _ _ _ _ hD4 (mono _ _ _ _ s3 z))
 ·have e:i=xs.length:=by omega
  subst e
  rw [hl,List.take_length] at hR
  exact .inl ⟨⟨xs,sm.seq hx,Nat.le_refl _⟩,fin D H' ys hD sm hL hR⟩
end L2
namespace L2
open PySem PySem.Spec PyProof.Rows
end L2
namespace L2
open PySem PySem.Spec PyProof.Rows
section
variable {X:Cx}
end
end L2
namespace L2
open PySem PySem.Spec PyProof.Rows
section
variable {prog:Program}{w:World}{A:Around}{E:Value->Shared->Prop}{s:Shared}
end
end L2
namespace L2
open PySem PySem.Spec PyProof.Rows
section
variable {prog:Program}{w:World}{A:Around}{E:Value->Shared->Prop}{s:Shared}
end
end L2
namespace L2
open PySem PySem.Spec PyProof.Rows
section
variable {X:Cx}{pins:List (Addr × Obj)}{σ:St}{H:Hp}{s:Shared}
end
end L2
namespace L2
open PySem PyProof.Rows
def gal:Bool->Keyed->Array Keyed->Nat->Nat->Nat->StateT SortSt Sem (Option Nat):=sortPriv% PySem.Builtin.gallop
section
variable {prog:Program}{w:World}{A:Around}{E:Value->Shared->Prop}{s:Shared}{a₀:Array Keyed}{κ:KeyKind}
theorem qg (hO:κ.OneLt) {st:SortSt}{x y:Keyed}{a b:κ.α}{Q:Option Bool->SortSt->Prop} (hk:kindOf st=oneType') (ha:κ.keyOf x.1=some a) (hb:κ.keyOf y.1=some b) (h:Q (some (κ.blt a b)) st):wpS (model prog w) A E s (lt' x y) Q st:=by
 rw [lt'_eq]
 refine wpS_bind (wpS_get ?_)
 rw [hk,keyLt'_oneType]
 exact wpS_bind (wpS_lift (wpAny_attempt (hO prog w A _ s x.1 y.1 a b ha hb ⟨rfl,wpS_pure h⟩)))
theorem aH {st:SortSt}{xs:Array Keyed}{i:Nat}{x:Keyed}{Q:Keyed->SortSt->Prop} (e:xs[i]?=some x) (h:Q x st):wpS (model prog w) A E s (elem' xs i) Q st:=by
 rw [elem'_eq,e]
 exact wpS_pure h
def byd (κ:KeyKind) (left:Bool) (k:κ.α) (xs:Array Keyed) (i:Nat):Bool:=if left then κ.blt (KK κ xs i) k else !κ.blt k (KK κ xs i)
theorem jg (hO:κ.OneLt) {st:SortSt}{left:Bool}{key:Keyed}{k:κ.α}{xs:Array Keyed}{base n hint:Nat}{Q:Option Nat->SortSt->Prop} (hk:kindOf st=oneType') (hx:∀i,i < n->∃x a,xs[base + i]?=some x/\κ.keyOf x.1=some a) (ha:κ.keyOf key.1=some k) (hh:hint < n)
    (hm:∀i j,i <= j->j < n->byd κ left k xs (base + j)=true->byd κ left k xs (base + i)=true)
    (h:∀r,r <= n->(∀i,i < r->byd κ left k xs (base + i)=true)->(∀i,r <= i->i < n->byd κ left k xs (base + i)=false)->Q (some r) st):wpS (model prog w) A E s (gal left key xs base n hint) Q st:=by
  have bd:∀(i:Nat) {R:Option Bool->SortSt->Prop},i < n->R (some (byd κ left k xs (base + i))) st->wpS (model prog w) A E s (do let x <- elem' xs (base + i);if left=true then lt' x key else do let r <- lt' key x;pure (r.map (!·))) R st:=by
    intro i R hi hR
    obtain ⟨x,a,e,hxa⟩:=hx i hi
    have ek:KK κ xs (base + i)=a:=by unfold KK;rw [e];simp [hxa]
    refine wpS_bind (aH e ?_)
    unfold byd at hR
    rw [ek] at hR
    cases left with
    | true=>exact qg hO hk hxa ha hR
    | false=>exact wpS_bind (qg hO hk ha hxa (wpS_pure hR))
  have bin:∀(f:Nat->Option (Option Nat) × Nat × Nat->StateT SortSt Sem (ForInStep (Option (Option Nat) × Nat × Nat))),(∀(x l o:Nat) (R:ForInStep (Option (Option Nat) × Nat × Nat)->SortSt->Prop),o <= n->(l ≥ o->R (.done (none,l,o)) st)->(l < o->byd κ left k xs (base + (l + (o - l) / 2))=true->R (.yield (none,l + (o - l) / 2 + 1,o)) st)->(l < o->byd κ left k xs (base + (l + (o - l) / 2))=false->R (.yield (none,l,l + (o - l) / 2)) st)->wpS (model prog w) A E s (f x (none,l,o)) R st) ->
      ∀lo hi,lo <= hi->hi <= n->(∀i,i < lo->byd κ left k xs (base + i)=true)->(∀i,hi <= i->i < n->byd κ left k xs (base + i)=false)->wpS (model prog w) A E s (forIn [:n] (none,lo,hi) f) (fun c st'=>st'=st/\∃o,c=(none,o,o)/\o <= n/\(∀i,i < o->byd κ left k xs (base + i)=true)/\(∀i,o <= i->i < n->byd κ left k xs (base + i)=false)) st:=by
    intro f hf lo hi h1 h2 h3 h4
    refine wpS_forRange (I:=fun x c st'=>st'=st/\∃l o,c=(none,l,o)/\l <= o/\o <= n/\o - l <= n - x/\(∀i,i < l->byd κ left k xs (base + i)=true)/\(∀i,o <= i->i < n->byd κ left k xs (base + i)=false)) ?s0 ?f0 ⟨rfl,lo,hi,rfl,h1,h2,by omega,h3,h4⟩
    case f0 =>
      rintro c st' ⟨rfl,l,o,rfl,g1,g2,g3,g4,g5⟩
      have:l=o:=by omega
      subst this
      exact ⟨rfl,l,rfl,g2,g4,g5⟩
    case s0 =>
      rintro x c st' _ _ ⟨rfl,l,o,rfl,g1,g2,g3,g4,g5⟩
      refine hf x l o _ g2 (fun g=>?_) (fun g z=>?_) (fun g z=>?_)
      · have:l=o:=by omega
        subst this
        exact ⟨rfl,l,rfl,g2,g4,g5⟩
      · exact ⟨rfl,_,o,rfl,by omega,g2,by omega,(fun i hi=>hm i (l + (o - l) / 2) (by omega) (by omega) z),g5⟩
      · exact ⟨rfl,l,_,rfl,by omega,by omega,by omega,g4,fun i hi hn=>by
            cases y:byd κ left k xs (base + i) with
            | false=>rfl
            | true=>rw [hm _ i hi hn y] at z;cases z⟩
  have neg:∀i j,i <= j->j < n->byd κ left k xs (base + i)=false->byd κ left k xs (base + j)=false:=fun i j hij hj e=>by
    cases z:byd κ left k xs (base + j) with
    | false=>rfl
    | true=>rw [hm i j hij hj z] at e;cases e
  refine wpS_bind (bd hint hh ?_)
  dsimp only
  cases hd:byd κ left k xs (base + hint) with
  | true =>
    rw [if_pos rfl]
    refine wpS_bind (wpS_mono (wpS_forRange (I:=fun x c st'=>st'=st/\∃l o,c=(none,l,o)/\l < o/\x + 1 <= o/\hint + l < n/\byd κ left k xs (base + (hint + l))=true)
      (Q:=fun c st'=>st'=st/\∃l o,c=(none,l,o)/\l < o/\hint + l < n/\byd κ left k xs (base + (hint + l))=true/\(n - hint <= o \/ byd κ left k xs (base + (hint + o))=false)) ?s1 ?f1 ⟨rfl,0,1,rfl,by omega,by omega,hh,hd⟩) ?p1)
    case f1 =>
      rintro c st' ⟨rfl,l,o,rfl,h1,h2,h3,h4⟩
      exact ⟨rfl,l,o,rfl,h1,h3,h4,.inl (by omega)⟩
    case s1 =>
      rintro x c st' _ _ ⟨rfl,l,o,rfl,h1,h2,h3,h4⟩
      dsimp only
      by_cases g:o ≥ n - hint
      · rw [if_pos g]
        exact wpS_pure ⟨rfl,l,o,rfl,h1,h3,h4,.inl g⟩
      · rw [if_neg g]
        refine wpS_bind (bd (hint + o) (by omega) ?_)
        dsimp only
        cases z:byd κ left k xs (base + (hint + o)) with
        | false=>exact wpS_pure ⟨rfl,l,o,rfl,h1,h3,h4,.inr z⟩
        | true=>exact wpS_pure ⟨rfl,o,2 * o + 1,rfl,by omega,by omega,by omega,z⟩
    case p1 =>
      rintro c st' ⟨rfl,l,o,rfl,h1,h3,h4,h5⟩
      dsimp only
      refine wpS_bind (wpS_mono (bin _ (by
        intro x l o R h0 h1 h2 h3
        dsimp only
        by_cases g:l ≥ o
        · rw [if_pos g]
          exact wpS_pure (h1 g)
        · rw [if_neg g]
          refine wpS_bind (bd (l + (o - l) / 2) (by omega) ?_)
          dsimp only
          cases z:byd κ left k xs (base + (l + (o - l) / 2)) with
          | true=>exact wpS_pure (h2 (by omega) z)
          | false=>exact wpS_pure (h3 (by omega) z)) (hint + l + 1) (hint + min o (n - hint)) (by omega) (by omega) (fun i hi=>hm i (hint + l) (by omega) h3 h4) (fun i hi hn=>by
        rcases h5 with h5 | h5
        · omega
        · by_cases g:n - hint <= o
          · omega
          · exact neg (hint + o) i (by omega) hn h5)) ?_)
      rintro c st'' ⟨rfl,r,rfl,g2,g4,g5⟩
      exact wpS_pure (h r g2 g4 g5)
  | false =>
    rw [if_neg Bool.false_ne_true]
    refine wpS_bind (wpS_mono (wpS_forRange (I:=fun x c st'=>st'=st/\∃l o,c=(none,l,o)/\l < o/\x + 1 <= o/\l <= hint/\byd κ left k xs (base + (hint - l))=false)
      (Q:=fun c st'=>st'=st/\∃l o,c=(none,l,o)/\l < o/\l <= hint/\byd κ left k xs (base + (hint - l))=false/\(hint + 1 <= o \/ byd κ left k xs (base + (hint - o))=true)) ?s2 ?f2 ⟨rfl,0,1,rfl,by omega,by omega,by omega,hd⟩) ?p2)
    case f2 =>
      rintro c st' ⟨rfl,l,o,rfl,h1,h2,h3,h4⟩
      exact ⟨rfl,l,o,rfl,h1,h3,h4,.inl (by omega)⟩
    case s2 =>
      rintro x c st' _ _ ⟨rfl,l,o,rfl,h1,h2,h3,h4⟩
      dsimp only
      by_cases g:o ≥ hint + 1
      · rw [if_pos g]
        exact wpS_pure ⟨rfl,l,o,rfl,h1,h3,h4,.inl g⟩
      · rw [if_neg g]
        refine wpS_bind (bd (hint - o) (by omega) ?_)
        dsimp only
        cases z:byd κ left k xs (base + (hint - o)) with
        | true=>exact wpS_pure ⟨rfl,l,o,rfl,h1,h3,h4,.inr z⟩
        | false=>exact wpS_pure ⟨rfl,o,2 * o + 1,rfl,by omega,by omega,by omega,z⟩
    case p2 =>
      rintro c st' ⟨rfl,l,o,rfl,h1,h3,h4,h5⟩
      dsimp only
      refine wpS_bind (wpS_mono (bin _ (by
        intro x l o R h0 h1 h2 h3
        dsimp only
        by_cases g:l ≥ o
        · rw [if_pos g]
          exact wpS_pure (h1 g)
        · rw [if_neg g]
          refine wpS_bind (bd (l + (o - l) / 2) (by omega) ?_)
          dsimp only
          cases z:byd κ left k xs (base + (l + (o - l) / 2)) with
          | true=>exact wpS_pure (h2 (by omega) z)
          | false=>exact wpS_pure (h3 (by omega) z)) (hint + 1 - min o (hint + 1)) (hint - l) (by omega) (by omega) (fun i hi=>by
        rcases h5 with h5 | h5
        · omega
        · by_cases g:hint + 1 <= o
          · omega
          · exact hm i (hint - o) (by omega) (by omega) h5) (fun i hi hn=>neg (hint - l) i (by omega) hn h4)) ?_)
      rintro c st'' ⟨rfl,r,rfl,g2,g4,g5⟩
      exact wpS_pure (h r g2 g4 g5)
end
end L2
namespace L2
open PySem PyProof.Rows
section
variable {κ:KeyKind}
def ky (κ:KeyKind) (x:Keyed):κ.α:=(κ.keyOf x.1).getD κ.dflt
def Srt (κ:KeyKind) (l:List Keyed):Prop:=l.Pairwise fun x y=>κ.kle (ky κ x) (ky κ y)
theorem Srt.app {l m:List Keyed} (h1:Srt κ l) (h2:Srt κ m) (h:∀x ∈ l,∀y ∈ m,κ.kle (ky κ x) (ky κ y)):Srt κ (l ++ m):=List.pairwise_append.mpr ⟨h1,h2,h⟩
theorem Srt.left {l m:List Keyed} (h:Srt κ (l ++ m)):Srt κ l:=(List.pairwise_append.mp h).1
theorem Srt.right {l m:List Keyed} (h:Srt κ (l ++ m)):Srt κ m:=(List.pairwise_append.mp h).2.1
theorem Srt.le {l m:List Keyed} (h:Srt κ (l ++ m)):∀x ∈ l,∀y ∈ m,κ.kle (ky κ x) (ky κ y):=(List.pairwise_append.mp h).2.2
structure Mg (κ:KeyKind) (a b o:List Keyed) (i j:Nat):Prop where
 pm:o.Perm (a.take i ++ b.take j)
 sa:Srt κ (o ++ a.drop i)
 sb:Srt κ (o ++ b.drop j)
 ha:i <= a.length
 hb:j <= b.length
theorem Mg.chA {a b o:List Keyed}{i j:Nat} (h:Mg κ a b o i j) (k:Nat) (hk:i + k <= a.length) (le:∀x ∈ (a.drop i).take k,∀y ∈ b.drop j,κ.kle (ky κ x) (ky κ y)):Mg κ a b (o ++ (a.drop i).take k) (i + k) j:=by
 have e:o ++ (a.drop i).take k ++ a.drop (i + k)=o ++ a.drop i:=by
  rw [List.append_assoc,<- List.drop_drop,List.take_append_drop]
 have sa:=h.sa
 refine ⟨?_,by rw [e];exact sa,?_,hk,h.hb⟩
 ·have e2:a.take (i + k)=a.take i ++ (a.drop i).take k:=by rw [List.take_add]
  rw [e2,List.append_assoc]
  exact (h.pm.append_right _).trans (by
   rw [List.append_assoc]
   exact List.Perm.append_left _ List.perm_append_comm)
 ·rw [<- e] at sa
  refine Srt.app sa.left h.sb.right fun x hx y hy=>?_
  rcases List.mem_append.mp hx with hx | hx
  ·exact h.sb.le x hx y hy
  ·exact le x hx y hy
theorem Mg.chB {a b o:List Keyed}{i j:Nat} (h:Mg κ a b o i j) (k:Nat) (hk:j + k <= b.length) (le:∀x ∈ (b.drop j).take k,∀y ∈ a.drop i,κ.kle (ky κ x) (ky κ y)):Mg κ a b (o ++ (b.drop j).take k) i (j + k):=by
 have e:o ++ (b.drop j).take k ++ b.drop (j + k)=o ++ b.drop j:=by
  rw [List.append_assoc,<- List.drop_drop,List.take_append_drop]
 have sb:=h.sb
 refine ⟨?_,?_,by rw [e];exact sb,h.ha,hk⟩
 ·have e2:b.take (j + k)=b.take j ++ (b.drop j).take k:=by rw [List.take_add]
  rw [e2,<- List.append_assoc]
  exact h.pm.append_right _
 ·rw [<- e] at sb
  refine Srt.app sb.left h.sa.right fun x hx y hy=>?_
  rcases List.mem_append.mp hx with hx | hx
  ·exact h.sa.le x hx y hy
  ·exact le x hx y hy
theorem Mg.DL {a b o:List Keyed}{i j:Nat} (h:Mg κ a b o i j) (e:j=b.length):(o ++ a.drop i ++ b.drop j).Perm (a ++ b)/\Srt κ (o ++ a.drop i ++ b.drop j):=by
 subst e
 rw [List.drop_length,List.append_nil]
 refine ⟨?_,h.sa⟩
 have p:=h.pm
 rw [List.take_length] at p
 refine (p.append_right _).trans ?_
 have q:(a.take i ++ b ++ a.drop i).Perm (a.take i ++ (a.drop i ++ b)):=by
  rw [List.append_assoc]
  exact List.Perm.append_left _ List.perm_append_comm
 rw [<- List.append_assoc,List.take_append_drop] at q
 exact q
theorem Mg.Di {a b o:List Keyed}{i j:Nat} (h:Mg κ a b o i j) (e:i=a.length):(o ++ a.drop i ++ b.drop j).Perm (a ++ b)/\Srt κ (o ++ a.drop i ++ b.drop j):=by
 subst e
 rw [List.drop_length,List.append_nil]
 refine ⟨?_,h.sb⟩
 have p:=h.pm
 rw [List.take_length] at p
 refine (p.append_right _).trans ?_
 rw [List.append_assoc,List.take_append_drop]
theorem Mg.last {a b o:List Keyed}{i j:Nat} (h:Mg κ a b o i j) (le:∀x ∈ b,∀y ∈ a.drop i,κ.kle (ky κ x) (ky κ y)):(o ++ b.drop j ++ a.drop i).Perm (a ++ b)/\Srt κ (o ++ b.drop j ++ a.drop i):=by
 constructor
 ·have p1:(o ++ b.drop j ++ a.drop i).Perm (a.take i ++ b.take j ++ b.drop j ++ a.drop i):=(h.pm.append_right _).append_right _
  refine p1.trans ?_
  rw [List.append_assoc (a.take i),List.take_append_drop]
  have q:(a.take i ++ b ++ a.drop i).Perm (a.take i ++ (a.drop i ++ b)):=by
   rw [List.append_assoc]
   exact List.Perm.append_left _ List.perm_append_comm
  rw [<- List.append_assoc,List.take_append_drop] at q
  exact q
 ·refine Srt.app h.sb h.sa.right fun x hx y hy=>?_
  rcases List.mem_append.mp hx with hx | hx
  ·exact h.sa.le x hx y hy
  ·exact le x (List.mem_of_mem_drop hx) y hy
end
end L2
namespace L2
open PySem PyProof.Rows
section
variable {prog:Program}{w:World}{A:Around}{E:Value->Shared->Prop}{s:Shared}{κ:KeyKind}
abbrev sG (st:SortSt) (g:Nat):SortSt:=SortSt.mk' (kindOf st) (arrOf st) (pendingOf st) g (failedOf st)
theorem jZ (xs:Array Keyed) (i j:Nat):(xs.extract i j).toList=(xs.toList.drop i).take (j - i):=by
 rw [Array.toList_extract]
theorem nZ (xs:Array Keyed) (i:Nat):(xs.extract i xs.size).toList=xs.toList.drop i:=by
 rw [jZ]
 exact List.take_of_length_le (by rw [List.length_drop,Array.length_toList];exact Nat.le_refl _)
theorem ie {xs:Array Keyed} (hk:KeysOf κ xs) {i:Nat} (h:i < xs.size):∃x,xs[i]?=some x/\κ.keyOf x.1=some (ky κ x)/\KK κ xs i=ky κ x/\xs.toList.drop i=x :: xs.toList.drop (i + 1)/\x ∈ xs.toList:=by
 have e:xs[i]?=some xs[i]:=getElem?_pos _ i h
 have m:xs[i] ∈ xs.toList:=by simp
 obtain ⟨a,ha⟩:=hk _ m
 have k:ky κ xs[i]=a:=by unfold ky;rw [ha];rfl
 refine ⟨xs[i],e,by rw [k];exact ha,by unfold KK ky;rw [e],?_,m⟩
 have hl:i < xs.toList.length:=by rw [Array.length_toList];exact h
 rw [List.drop_eq_getElem_cons hl]
 simp
theorem tB {xs:Array Keyed} (hk:KeysOf κ xs) {i:Nat}{z:Keyed} (h:z ∈ xs.toList.drop i):∃j,i <= j/\j < xs.size/\KK κ xs j=ky κ z:=by
 obtain ⟨j,hj⟩:=List.getElem?_of_mem h
 rw [List.getElem?_drop] at hj
 have hl:=(List.getElem?_eq_some_iff.mp hj).1
 rw [Array.length_toList] at hl
 refine ⟨i + j,Nat.le_add_right _ _,hl,?_⟩
 rw [Array.getElem?_toList] at hj
 unfold KK ky
 rw [hj]
theorem fM {xs:Array Keyed} (hk:KeysOf κ xs) {i k:Nat}{z:Keyed} (h:z ∈ (xs.toList.drop i).take k):∃j,j < k/\i + j < xs.size/\KK κ xs (i + j)=ky κ z:=by
 obtain ⟨j,hj⟩:=List.getElem?_of_mem h
 have hl:=(List.getElem?_eq_some_iff.mp hj).1
 rw [List.length_take,List.length_drop,Array.length_toList] at hl
 rw [List.getElem?_take_of_lt (by omega),List.getElem?_drop,Array.getElem?_toList] at hj
 refine ⟨j,by omega,by omega,?_⟩
 unfold KK ky
 rw [hj]
theorem uT {xs:Array Keyed} (hs:Srt κ xs.toList) {i j:Nat} (hij:i <= j) (hj:j < xs.size):κ.kle (KK κ xs i) (KK κ xs j):=by
 rcases Nat.lt_or_ge i j with h | h
 ·have:=List.pairwise_iff_getElem.mp hs i j (by rw [Array.length_toList];omega) (by rw [Array.length_toList];exact hj) h
  unfold KK
  rw [getElem?_pos xs i (by omega),getElem?_pos xs j hj]
  simpa [ky] using this
 ·have:i=j:=by omega
  subst this
  exact KeyOrd.kle_refl _
theorem Ck (hO:κ.OneLt) {st:SortSt}{a b o:Array Keyed}{i j:Nat}{y:Keyed}{R:Option Nat->SortSt->Prop} (hk:kindOf st=oneType') (ka:KeysOf κ a) (sa:Srt κ a.toList) (M:Mg κ a.toList b.toList o.toList i j) (hi:i < a.size) (hy:b.toList.drop j=y :: b.toList.drop (j + 1)) (ky':κ.keyOf y.1=some (ky κ y))
  (h:∀k,i + k <= a.size->Mg κ a.toList b.toList (o ++ a.extract i (i + k)).toList (i + k) j->(∀z ∈ a.toList.drop (i + k),κ.kle (ky κ y) (ky κ z))->R (some k) st):wpS (model prog w) A E s (gal false y a i (a.size - i) 0) R st:=by
 refine jg hO hk (fun m hm=>?_) ky' (by omega) (fun m n hmn hn e=>?_) (fun k hk1 h1 h2=>?_)
 ·obtain ⟨x,e,kx,_⟩:=ie ka (show i + m < a.size by omega)
  exact ⟨x,_,e,kx⟩
 ·unfold byd at e ⊢
  rw [if_neg Bool.false_ne_true] at e ⊢
  have e:κ.kle (KK κ a (i + n)) (ky κ y):=by simpa [KeyOrd.kle] using e
  have:=KeyOrd.kle_trans (uT sa (show i + m <= i + n by omega) (by omega)) e
  simpa [KeyOrd.kle] using this
 ·refine h k (by omega) ?_ ?_
  ·rw [Array.toList_append,jZ,Nat.add_sub_cancel_left]
   refine M.chA k (by rw [Array.length_toList];omega) fun x hx z hz=>?_
   obtain ⟨m,m1,m2,m3⟩:=fM ka hx
   have e:=h1 m m1
   unfold byd at e
   rw [if_neg Bool.false_ne_true] at e
   have e:κ.kle (KK κ a (i + m)) (ky κ y):=by simpa [KeyOrd.kle] using e
   rw [m3] at e
   refine KeyOrd.kle_trans e ?_
   rw [hy] at hz
   rcases List.mem_cons.mp hz with rfl | hz
   ·exact KeyOrd.kle_refl _
   ·have s:=M.sb.right
    rw [hy] at s
    exact (List.pairwise_cons.mp s).1 z hz
  ·intro z hz
   obtain ⟨m,m1,m2,m3⟩:=tB ka hz
   have e:=h2 (m - i) (by omega) (by omega)
   unfold byd at e
   rw [if_neg Bool.false_ne_true,show i + (m - i)=m by omega,m3] at e
   exact KeyOrd.kle_of_klt (by simpa [KeyOrd.klt] using e)
theorem zL (hO:κ.OneLt) {st:SortSt}{a b o:Array Keyed}{i j:Nat}{x:Keyed}{R:Option Nat->SortSt->Prop} (hk:kindOf st=oneType') (kb:KeysOf κ b) (sb:Srt κ b.toList) (M:Mg κ a.toList b.toList o.toList i j) (hj:j < b.size) (hx:a.toList.drop i=x :: a.toList.drop (i + 1)) (kx':κ.keyOf x.1=some (ky κ x))
  (h:∀k,j + k <= b.size->Mg κ a.toList b.toList (o ++ b.extract j (j + k)).toList i (j + k)->(∀z ∈ b.toList.drop (j + k),κ.kle (ky κ x) (ky κ z))->R (some k) st):wpS (model prog w) A E s (gal true x b j (b.size - j) 0) R st:=by
 refine jg hO hk (fun m hm=>?_) kx' (by omega) (fun m n hmn hn e=>?_) (fun k hk1 h1 h2=>?_)
 ·obtain ⟨x,e,kx,_⟩:=ie kb (show j + m < b.size by omega)
  exact ⟨x,_,e,kx⟩
 ·unfold byd at e ⊢
  rw [if_pos rfl] at e ⊢
  exact KeyOrd.klt_of_kle_of_klt (uT sb (show j + m <= j + n by omega) (by omega)) e
 ·refine h k (by omega) ?_ ?_
  ·rw [Array.toList_append,jZ,Nat.add_sub_cancel_left]
   refine M.chB k (by rw [Array.length_toList];omega) fun y hy z hz=>?_
   obtain ⟨m,m1,m2,m3⟩:=fM kb hy
   have e:=h1 m m1
   unfold byd at e
   rw [if_pos rfl,m3] at e
   refine KeyOrd.kle_trans (KeyOrd.kle_of_klt e) ?_
   rw [hx] at hz
   rcases List.mem_cons.mp hz with rfl | hz
   ·exact KeyOrd.kle_refl _
   ·have s:=M.sa.right
    rw [hx] at s
    exact (List.pairwise_cons.mp s).1 z hz
  ·intro z hz
   obtain ⟨m,m1,m2,m3⟩:=tB kb hz
   have e:=h2 (m - j) (by omega) (by omega)
   unfold byd at e
   rw [if_pos rfl,show j + (m - j)=m by omega,m3] at e
   exact e
theorem Mg.pA {a b o:Array Keyed}{i j:Nat}{x:Keyed} (M:Mg κ a.toList b.toList o.toList i j) (hx:a.toList.drop i=x :: a.toList.drop (i + 1)) (le:∀z ∈ b.toList.drop j,κ.kle (ky κ x) (ky κ z)):Mg κ a.toList b.toList (o.push x).toList (i + 1) j:=by
 have e:(a.toList.drop i).take 1=[x]:=by rw [hx];rfl
 have h:=M.chA 1 (by
  have:=congrArg List.length hx
  rw [List.length_drop,List.length_cons] at this
  omega) (fun u hu z hz=>by
   rw [e] at hu
   rw [List.mem_singleton.mp hu]
   exact le z hz)
 rw [e] at h
 rwa [Array.toList_push]
theorem Mg.pB {a b o:Array Keyed}{i j:Nat}{y:Keyed} (M:Mg κ a.toList b.toList o.toList i j) (hy:b.toList.drop j=y :: b.toList.drop (j + 1)) (le:∀z ∈ a.toList.drop i,κ.kle (ky κ y) (ky κ z)):Mg κ a.toList b.toList (o.push y).toList i (j + 1):=by
 have e:(b.toList.drop j).take 1=[y]:=by rw [hy];rfl
 have h:=M.chB 1 (by
  have:=congrArg List.length hy
  rw [List.length_drop,List.length_cons] at this
  omega) (fun u hu z hz=>by
   rw [e] at hu
   rw [List.mem_singleton.mp hu]
   exact le z hz)
 rw [e] at h
 rwa [Array.toList_push]
theorem wW {l:List Keyed}{x y:Keyed}{r:List Keyed} (s:Srt κ l) (e:l=x :: r) (h:κ.kle (ky κ y) (ky κ x)):∀z ∈ l,κ.kle (ky κ y) (ky κ z):=fun z hz=>by
 subst e
 rcases List.mem_cons.mp hz with rfl | hz
 ·exact h
 ·exact KeyOrd.kle_trans h ((List.pairwise_cons.mp s).1 z hz)
end
end L2
namespace L2
open PySem PyProof.Rows
def mlo:Array Keyed->Array Keyed->StateT SortSt Sem (Array Keyed):=sortPriv% PySem.Builtin.mergeLo
section
variable {prog:Program}{w:World}{A:Around}{E:Value->Shared->Prop}{s:Shared}{κ:KeyKind}
abbrev Gd (κ:KeyKind) (a b r:Array Keyed):Prop:=r.toList.Perm (a.toList ++ b.toList)/\Srt κ r.toList
theorem Mg.dB {a b o:Array Keyed}{i j:Nat} (M:Mg κ a.toList b.toList o.toList i j) (e:j=b.size):Gd κ a b (o ++ a.extract i ++ b.extract j):=by
 unfold Gd
 rw [Array.toList_append,Array.toList_append,nZ,nZ]
 exact M.DL (by rw [Array.length_toList];exact e)
theorem Mg.dA {a b o:Array Keyed}{i j:Nat} (M:Mg κ a.toList b.toList o.toList i j) (e:i=a.size):Gd κ a b (o ++ a.extract i ++ b.extract j):=by
 unfold Gd
 rw [Array.toList_append,Array.toList_append,nZ,nZ]
 exact M.Di (by rw [Array.length_toList];exact e)
theorem Mg.dL {a b o:Array Keyed}{i j:Nat} (M:Mg κ a.toList b.toList o.toList i j) (le:∀x ∈ b.toList,∀y ∈ a.toList.drop (a.size - 1),κ.kle (ky κ x) (ky κ y)) (e:i + 1=a.size):Gd κ a b (o ++ b.extract j ++ a.extract i):=by
 unfold Gd
 rw [Array.toList_append,Array.toList_append,nZ,nZ]
 exact M.last (by rw [show i=a.size - 1 by omega];exact le)
theorem yn (hO:κ.OneLt) {st:SortSt}{a b:Array Keyed}{Q:Array Keyed->SortSt->Prop} (hk:kindOf st=oneType') (ka:KeysOf κ a) (kb:KeysOf κ b) (sa:Srt κ a.toList) (sb:Srt κ b.toList) (a1:1 <= a.size) (b1:1 <= b.size) (h0:κ.kle (KK κ b 0) (KK κ a 0)) (hl:∀x ∈ b.toList,∀y ∈ a.toList.drop (a.size - 1),κ.kle (ky κ x) (ky κ y))
  (h:∀r g,Gd κ a b r->Q r (sG st g)):wpS (model prog w) A E s (mlo a b) Q st:=by
 obtain ⟨y0,ey0,ky0,kk0,dy0,_⟩:=ie kb (show 0 < b.size by omega)
 obtain ⟨x0,ex0,kx0,kkx,dx0,_⟩:=ie ka (show 0 < a.size by omega)
 have M0:Mg κ a.toList b.toList (#[y0]:Array Keyed).toList 0 1:=by
  have M:Mg κ a.toList b.toList (#[]:Array Keyed).toList 0 0:=⟨by simp,by simpa using sa,by simpa using sb,Nat.zero_le _,Nat.zero_le _⟩
  have:=M.pB (y:=y0) dy0 (wW (by simpa using sa) dx0 (by rw [<- kk0,<- kkx];exact h0))
  simpa using this
 refine wpS_bind (wpS_lift (wpAny_rule ⟨rfl,?_⟩))
 dsimp only
 refine wpS_bind (aH ey0 ?_)
 by_cases c1:(1 == b.size)=true
 ·rw [if_pos c1]
  exact wpS_pure (h _ (gallopOf st) (M0.dB (by simpa using c1)))
 rw [if_neg c1]
 by_cases c2:(0 + 1 == a.size)=true
 ·rw [if_pos c2]
  exact wpS_pure (h _ (gallopOf st) (M0.dL hl (by simpa using c2)))
 rw [if_neg c2]
 have b2:1 < b.size:=by
  have:¬ 1=b.size:=by simpa using c1
  omega
 have a2:0 + 1 < a.size:=by
  have:¬ 1=a.size:=by simpa using c2
  omega
 refine wpS_bind (wpS_get ?_)
 refine wpS_bind (wpS_mono (wpS_forRange (I:=fun x c st'=>∃o i j mg g,c=(none,o,i,j,mg)/\st'=sG st g/\Mg κ a.toList b.toList o.toList i j/\i + 1 < a.size/\j < b.size/\x + 1 <= i + j)
  (Q:=fun c st'=>∃r g,c.1=some r/\st'=sG st g/\Gd κ a b r) ?s1 ?f1 ⟨_,_,_,_,gallopOf st,rfl,rfl,M0,a2,b2,by omega⟩) ?p1)
 case f1 =>
  rintro c st' ⟨o,i,j,mg,g,rfl,rfl,M,hi,hj,hx⟩
  omega
 case p1 =>
  rintro ⟨c,cc⟩ st' ⟨r,g,e,rfl,hg⟩
  cases e
  exact wpS_pure (h r g hg)
 case s1 =>
  rintro x c st' _ hx ⟨o,i,j,mg,g,rfl,rfl,M,hi,hj,hx'⟩
  dsimp only
  refine wpS_bind (wpS_mono (wpS_forRange (I:=fun y c st'=>∃o i j ac bc,c=(none,o,i,j,ac,bc)/\st'=sG st g/\Mg κ a.toList b.toList o.toList i j/\i + 1 < a.size/\j < b.size/\x + 1 + min y 1 <= i + j)
   (Q:=fun c st'=>st'=sG st g/\((∃r,c.1=some r/\Gd κ a b r) \/ ∃o i j ac bc,c=(none,o,i,j,ac,bc)/\Mg κ a.toList b.toList o.toList i j/\i + 1 < a.size/\j < b.size/\x + 2 <= i + j)) ?s2 ?f2 ⟨o,i,j,0,0,rfl,rfl,M,hi,hj,by omega⟩) ?p2)
  case f2 =>
   rintro c st' ⟨o,i,j,ac,bc,rfl,rfl,M,hi,hj,hx⟩
   exact ⟨rfl,.inr ⟨o,i,j,ac,bc,rfl,M,hi,hj,by omega⟩⟩
  case s2 =>
   rintro y c st' _ hy ⟨o,i,j,ac,bc,rfl,rfl,M,hi,hj,hx⟩
   obtain ⟨yb,eyb,kyb,kkb,dyb,_⟩:=ie kb hj
   obtain ⟨xa,exa,kxa,kkx,dxa,_⟩:=ie ka (show i < a.size by omega)
   dsimp only
   refine wpS_bind (aH eyb ?_)
   refine wpS_bind (aH exa ?_)
   refine wpS_bind (qg hO hk kyb kxa ?_)
   dsimp only
   cases z:κ.blt (ky κ yb) (ky κ xa) with
   | true =>
    rw [if_pos rfl]
    have M':=M.pB dyb (wW M.sa.right dxa (KeyOrd.kle_of_klt z))
    refine wpS_bind (aH eyb ?_)
    by_cases e1:(j + 1 == b.size)=true
    ·rw [if_pos e1]
     exact wpS_pure ⟨rfl,.inl ⟨_,rfl,M'.dB (by simpa using e1)⟩⟩
    ·rw [if_neg e1]
     have e1:¬ j + 1=b.size:=by simpa using e1
     split
     ·exact wpS_pure ⟨rfl,.inr ⟨_,_,_,_,_,rfl,M',hi,by omega,by omega⟩⟩
     ·exact wpS_pure ⟨_,_,_,_,_,rfl,rfl,M',hi,by omega,by omega⟩
   | false =>
    rw [if_neg Bool.false_ne_true]
    have M':=M.pA dxa (wW M.sb.right dyb (show κ.kle _ _ from z))
    refine wpS_bind (aH exa ?_)
    by_cases e1:(i + 1 + 1 == a.size)=true
    ·rw [if_pos e1]
     exact wpS_pure ⟨rfl,.inl ⟨_,rfl,M'.dL hl (by simpa using e1)⟩⟩
    ·rw [if_neg e1]
     have e1:¬ i + 1 + 1=a.size:=by simpa using e1
     split
     ·exact wpS_pure ⟨rfl,.inr ⟨_,_,_,_,_,rfl,M',by omega,hj,by omega⟩⟩
     ·exact wpS_pure ⟨_,_,_,_,_,rfl,rfl,M',by omega,hj,by omega⟩
  case p2 =>
   rintro c st' ⟨rfl,⟨r,e,hg⟩ | ⟨o,i,j,ac,bc,rfl,M,hi,hj,hx⟩⟩
   ·obtain ⟨c,cc⟩:=c
    cases e
    exact wpS_pure ⟨r,g,rfl,rfl,hg⟩
   ·dsimp only
    refine wpS_bind (wpS_lift (wpAny_rule ⟨rfl,?_⟩))
    refine wpS_bind (wpS_mono (wpS_forRange (I:=fun y c st'=>∃o i j mg ac bc g,c=(none,o,i,j,mg,ac,bc)/\st'=sG st g/\Mg κ a.toList b.toList o.toList i j/\i + 1 < a.size/\j < b.size/\x + 2 <= i + j)
     (Q:=fun c st'=>∃g,st'=sG st g/\((∃r,c.1=some r/\Gd κ a b r) \/ ∃o i j mg ac bc,c=(none,o,i,j,mg,ac,bc)/\Mg κ a.toList b.toList o.toList i j/\i + 1 < a.size/\j < b.size/\x + 2 <= i + j)) ?s3 ?f3 ⟨o,i,j,_,ac,bc,g,rfl,rfl,M,hi,hj,hx⟩) ?p3)
    case f3 =>
     rintro c st' ⟨o,i,j,mg,ac,bc,g,rfl,rfl,M,hi,hj,hx⟩
     exact ⟨g,rfl,.inr ⟨o,i,j,mg,ac,bc,rfl,M,hi,hj,hx⟩⟩
    case p3 =>
     rintro c st' ⟨g,rfl,⟨r,e,hg⟩ | ⟨o,i,j,mg,ac,bc,rfl,M,hi,hj,hx⟩⟩
     ·obtain ⟨c,cc⟩:=c
      cases e
      exact wpS_pure ⟨r,g,rfl,rfl,hg⟩
     ·dsimp only
      exact wpS_bind (wpS_modify (wpS_pure ⟨o,i,j,_,_,rfl,rfl,M,hi,hj,by omega⟩))
    case s3 =>
     clear M hi hj hx
     rintro y c st' _ hy ⟨o,i,j,mg,ac,bc,g,rfl,rfl,M,hi,hj,hx⟩
     obtain ⟨yb,eyb,kyb,kkb,dyb,_⟩:=ie kb hj
     dsimp only
     rcases Nat.lt_or_ge 1 mg with mc | mc
     all_goals
      first | rw [if_pos (show mg > 1 from mc)] | rw [if_neg (show ¬ mg > 1 from Nat.not_lt.mpr mc)]
      refine wpS_bind (wpS_modify ?_)
      refine wpS_bind (aH eyb ?_)
      refine wpS_bind (Ck (o:=o) hO hk ka sa M (by omega) dyb kyb fun k hk1 M1 le1=>?_)
      dsimp only
      have nx:∀(o':Array Keyed) (i':Nat),Mg κ a.toList b.toList o'.toList i' j->(∀z ∈ a.toList.drop i',κ.kle (ky κ yb) (ky κ z))->i <= i'->i' + 1 < a.size->∃x,a[i']?=some x/\κ.keyOf x.1=some (ky κ x)/\a.toList.drop i'=x :: a.toList.drop (i' + 1)/\Mg κ a.toList b.toList (o'.push yb).toList i' (j + 1):=fun o' i' M' le' _ hi'=>by
       obtain ⟨x,ex,kx,_,dx,_⟩:=ie ka (show i' < a.size by omega)
       exact ⟨x,ex,kx,dx,M'.pB dyb le'⟩
      by_cases k0:k > 0
      ·rw [if_pos k0]
       by_cases e1:(i + k + 1 == a.size)=true
       ·rw [if_pos e1]
        exact wpS_pure ⟨_,rfl,.inl ⟨_,rfl,M1.dL hl (by simpa using e1)⟩⟩
       rw [if_neg e1]
       by_cases e2:(i + k == a.size)=true
       ·rw [if_pos e2]
        exact wpS_pure ⟨_,rfl,.inl ⟨_,rfl,M1.dA (by simpa using e2)⟩⟩
       rw [if_neg e2]
       have e1:¬ i + k + 1=a.size:=by simpa using e1
       have e2:¬ i + k=a.size:=by simpa using e2
       obtain ⟨xa,exa,kxa,dxa,M2⟩:=nx _ _ M1 le1 (by omega) (by omega)
       refine wpS_bind (aH eyb ?_)
       by_cases e3:(j + 1 == b.size)=true
       ·rw [if_pos e3]
        exact wpS_pure ⟨_,rfl,.inl ⟨_,rfl,M2.dB (by simpa using e3)⟩⟩
       rw [if_neg e3]
       have e3:¬ j + 1=b.size:=by simpa using e3
       refine wpS_bind (aH exa ?_)
       refine wpS_bind (zL hO hk kb sb M2 (by omega) dxa kxa fun k2 hk2 M3 le3=>?_)
       dsimp only
       by_cases k20:k2 > 0
       ·rw [if_pos k20]
        by_cases e4:(j + 1 + k2 == b.size)=true
        ·rw [if_pos e4]
         exact wpS_pure ⟨_,rfl,.inl ⟨_,rfl,M3.dB (by simpa using e4)⟩⟩
        rw [if_neg e4]
        have e4:¬ j + 1 + k2=b.size:=by simpa using e4
        refine wpS_bind (aH exa ?_)
        have M4:=M3.pA dxa le3
        by_cases e5:(i + k + 1 + 1 == a.size)=true
        ·rw [if_pos e5]
         exact wpS_pure ⟨_,rfl,.inl ⟨_,rfl,M4.dL hl (by simpa using e5)⟩⟩
        rw [if_neg e5]
        have e5:¬ i + k + 1 + 1=a.size:=by simpa using e5
        by_cases e6:(decide (k < 7) && decide (k2 < 7))=true
        ·rw [if_pos e6]
         exact wpS_pure ⟨_,rfl,.inr ⟨_,_,_,_,_,_,rfl,M4,by omega,by omega,by omega⟩⟩
        ·rw [if_neg e6]
         exact wpS_pure ⟨_,_,_,_,_,_,_,rfl,rfl,M4,by omega,by omega,by omega⟩
       ·rw [if_neg k20]
        have k2z:k2=0:=by omega
        subst k2z
        rw [show j + 1 + 0=j + 1 from rfl] at le3
        refine wpS_bind (aH exa ?_)
        have M4:=M2.pA dxa le3
        by_cases e5:(i + k + 1 + 1 == a.size)=true
        ·rw [if_pos e5]
         exact wpS_pure ⟨_,rfl,.inl ⟨_,rfl,M4.dL hl (by simpa using e5)⟩⟩
        rw [if_neg e5]
        have e5:¬ i + k + 1 + 1=a.size:=by simpa using e5
        by_cases e6:(decide (k < 7) && decide (0 < 7))=true
        ·rw [if_pos e6]
         exact wpS_pure ⟨_,rfl,.inr ⟨_,_,_,_,_,_,rfl,M4,by omega,by omega,by omega⟩⟩
        ·rw [if_neg e6]
         exact wpS_pure ⟨_,_,_,_,_,_,_,rfl,rfl,M4,by omega,by omega,by omega⟩
      ·rw [if_neg k0]
       have kz:k=0:=by omega
       subst kz
       obtain ⟨xa,exa,kxa,dxa,M2⟩:=nx o i M le1 (by omega) hi
       refine wpS_bind (aH eyb ?_)
       by_cases e3:(j + 1 == b.size)=true
       ·rw [if_pos e3]
        exact wpS_pure ⟨_,rfl,.inl ⟨_,rfl,M2.dB (by simpa using e3)⟩⟩
       rw [if_neg e3]
       have e3:¬ j + 1=b.size:=by simpa using e3
       refine wpS_bind (aH exa ?_)
       refine wpS_bind (zL hO hk kb sb M2 (by omega) dxa kxa fun k2 hk2 M3 le3=>?_)
       dsimp only
       by_cases k20:k2 > 0
       ·rw [if_pos k20]
        by_cases e4:(j + 1 + k2 == b.size)=true
        ·rw [if_pos e4]
         exact wpS_pure ⟨_,rfl,.inl ⟨_,rfl,M3.dB (by simpa using e4)⟩⟩
        rw [if_neg e4]
        have e4:¬ j + 1 + k2=b.size:=by simpa using e4
        refine wpS_bind (aH exa ?_)
        have M4:=M3.pA dxa le3
        by_cases e5:(i + 1 + 1 == a.size)=true
        ·rw [if_pos e5]
         exact wpS_pure ⟨_,rfl,.inl ⟨_,rfl,M4.dL hl (by simpa using e5)⟩⟩
        rw [if_neg e5]
        have e5:¬ i + 1 + 1=a.size:=by simpa using e5
        by_cases e6:(decide (0 < 7) && decide (k2 < 7))=true
        ·rw [if_pos e6]
         exact wpS_pure ⟨_,rfl,.inr ⟨_,_,_,_,_,_,rfl,M4,by omega,by omega,by omega⟩⟩
        ·rw [if_neg e6]
         exact wpS_pure ⟨_,_,_,_,_,_,_,rfl,rfl,M4,by omega,by omega,by omega⟩
       ·rw [if_neg k20]
        have k2z:k2=0:=by omega
        subst k2z
        rw [show j + 1 + 0=j + 1 from rfl] at le3
        refine wpS_bind (aH exa ?_)
        have M4:=M2.pA dxa le3
        by_cases e5:(i + 1 + 1 == a.size)=true
        ·rw [if_pos e5]
         exact wpS_pure ⟨_,rfl,.inl ⟨_,rfl,M4.dL hl (by simpa using e5)⟩⟩
        rw [if_neg e5]
        have e5:¬ i + 1 + 1=a.size:=by simpa using e5
        by_cases e6:(decide (0 < 7) && decide (0 < 7))=true
        ·rw [if_pos e6]
         exact wpS_pure ⟨_,rfl,.inr ⟨_,_,_,_,_,_,rfl,M4,by omega,by omega,by omega⟩⟩
        ·rw [if_neg e6]
         exact wpS_pure ⟨_,_,_,_,_,_,_,rfl,rfl,M4,by omega,by omega,by omega⟩
end
end L2
namespace L2
open PySem PyProof.Rows
section
variable {prog:Program}{w:World}{A:Around}{E:Value->Shared->Prop}{s:Shared}{κ:KeyKind}
structure Mh (κ:KeyKind) (a b r:List Keyed) (i j:Nat):Prop where
 pm:r.Perm (a.drop i ++ b.drop j)
 sa:Srt κ (a.take i ++ r)
 sb:Srt κ (b.take j ++ r)
 ha:i <= a.length
 hb:j <= b.length
theorem eW {l:List Keyed}{t i:Nat} (h:t <= i):l.take i=l.take t ++ (l.drop t).take (i - t):=by
 have:=List.take_add (l:=l) (i:=t) (j:=i - t)
 rwa [show t + (i - t)=i by omega] at this
theorem nB {l:List Keyed}{t i:Nat} (h:t <= i):l.drop t=(l.drop t).take (i - t) ++ l.drop i:=by
 have:=List.take_append_drop (i - t) (l.drop t)
 rw [List.drop_drop,show t + (i - t)=i by omega] at this
 exact this.symm
theorem Mh.chA {a b r:List Keyed}{i j:Nat} (h:Mh κ a b r i j) (t:Nat) (ht:t <= i) (le:∀x ∈ b.take j,∀y ∈ (a.drop t).take (i - t),κ.kle (ky κ x) (ky κ y)):Mh κ a b ((a.drop t).take (i - t) ++ r) t j:=by
 have sa:=h.sa
 rw [eW ht,List.append_assoc] at sa
 refine ⟨?_,sa,?_,Nat.le_trans ht h.ha,h.hb⟩
 ·have p:((a.drop t).take (i - t) ++ r).Perm ((a.drop t).take (i - t) ++ (a.drop i ++ b.drop j)):=List.Perm.append_left _ h.pm
  rwa [<- List.append_assoc,<- nB ht] at p
 ·refine Srt.app h.sb.left sa.right fun x hx y hy=>?_
  rcases List.mem_append.mp hy with hy | hy
  ·exact le x hx y hy
  ·exact h.sb.le x hx y hy
theorem Mh.chB {a b r:List Keyed}{i j:Nat} (h:Mh κ a b r i j) (t:Nat) (ht:t <= j) (le:∀x ∈ a.take i,∀y ∈ (b.drop t).take (j - t),κ.kle (ky κ x) (ky κ y)):Mh κ a b ((b.drop t).take (j - t) ++ r) i t:=by
 have sb:=h.sb
 rw [eW ht,List.append_assoc] at sb
 refine ⟨?_,?_,sb,h.ha,Nat.le_trans ht h.hb⟩
 ·have p:((b.drop t).take (j - t) ++ r).Perm ((b.drop t).take (j - t) ++ (a.drop i ++ b.drop j)):=List.Perm.append_left _ h.pm
  refine p.trans ?_
  have q:((b.drop t).take (j - t) ++ a.drop i ++ b.drop j).Perm (a.drop i ++ (b.drop t).take (j - t) ++ b.drop j):=List.Perm.append_right _ List.perm_append_comm
  rwa [List.append_assoc,List.append_assoc (a.drop i),<- nB ht] at q
 ·refine Srt.app h.sa.left sb.right fun x hx y hy=>?_
  rcases List.mem_append.mp hy with hy | hy
  ·exact le x hx y hy
  ·exact h.sa.le x hx y hy
theorem Mh.end {a b r:List Keyed}{i j:Nat} (h:Mh κ a b r i j) (e:i=0 \/ j=0):(a.take i ++ b.take j ++ r).Perm (a ++ b)/\Srt κ (a.take i ++ b.take j ++ r):=by
 constructor
 ·have p:(a.take i ++ b.take j ++ r).Perm (a.take i ++ b.take j ++ (a.drop i ++ b.drop j)):=List.Perm.append_left _ h.pm
  refine p.trans ?_
  have q:(a.take i ++ (b.take j ++ a.drop i ++ b.drop j)).Perm (a.take i ++ (a.drop i ++ b.take j ++ b.drop j)):=List.Perm.append_left _ (List.Perm.append_right _ List.perm_append_comm)
  have e1:a.take i ++ b.take j ++ (a.drop i ++ b.drop j)=a.take i ++ (b.take j ++ a.drop i ++ b.drop j):=by simp
  have e2:a.take i ++ (a.drop i ++ b.take j ++ b.drop j)=a ++ b:=by
   rw [List.append_assoc (a.drop i),List.take_append_drop,<- List.append_assoc,List.take_append_drop]
  rw [e1,<- e2]
  exact q
 ·rcases e with e | e
  ·subst e
   rw [List.take_zero,List.nil_append]
   exact h.sb
  ·subst e
   rw [List.take_zero,List.append_nil]
   exact h.sa
theorem Mh.first {a b r:List Keyed}{i j:Nat} (h:Mh κ a b r i j) (le:∀x ∈ b.take j,∀y ∈ a,κ.kle (ky κ x) (ky κ y)):(b.take j ++ a.take i ++ r).Perm (a ++ b)/\Srt κ (b.take j ++ a.take i ++ r):=by
 constructor
 ·have p:(b.take j ++ a.take i ++ r).Perm (b.take j ++ a.take i ++ (a.drop i ++ b.drop j)):=List.Perm.append_left _ h.pm
  refine p.trans ?_
  have e1:b.take j ++ a.take i ++ (a.drop i ++ b.drop j)=b.take j ++ a ++ b.drop j:=by
   rw [List.append_assoc,<- List.append_assoc (a.take i),List.take_append_drop,List.append_assoc]
  rw [e1]
  have q:(b.take j ++ a ++ b.drop j).Perm (a ++ b.take j ++ b.drop j):=List.Perm.append_right _ List.perm_append_comm
  rwa [List.append_assoc a,List.take_append_drop] at q
 ·rw [List.append_assoc]
  refine Srt.app h.sb.left h.sa fun x hx y hy=>?_
  rcases List.mem_append.mp hy with hy | hy
  ·exact le x hx y (List.mem_of_mem_take hy)
  ·exact h.sb.le x hx y hy
theorem tM (xs:Array Keyed) (i:Nat):(xs.extract 0 i).toList=xs.toList.take i:=by
 rw [jZ,List.drop_zero,Nat.sub_zero]
theorem BC {xs:Array Keyed} (hk:KeysOf κ xs) {i:Nat} (h:i < xs.size) {x:Keyed} (e:xs[i]?=some x):xs.toList.take (i + 1)=xs.toList.take i ++ [x]:=by
 rw [List.take_add_one,Array.getElem?_toList,e]
 rfl
theorem pX {xs:Array Keyed}{i:Nat}{z:Keyed} (h:z ∈ xs.toList.take i):∃j,j < i/\j < xs.size/\KK κ xs j=ky κ z:=by
 obtain ⟨j,hj⟩:=List.getElem?_of_mem h
 have hl:=(List.getElem?_eq_some_iff.mp hj).1
 rw [List.length_take,Array.length_toList] at hl
 rw [List.getElem?_take_of_lt (by omega),Array.getElem?_toList] at hj
 refine ⟨j,by omega,by omega,?_⟩
 unfold KK ky
 rw [hj]
theorem A8 (hO:κ.OneLt) {st:SortSt}{a b o:Array Keyed}{i j:Nat}{y:Keyed}{R:Option Nat->SortSt->Prop} (hk:kindOf st=oneType') (ka:KeysOf κ a) (sa:Srt κ a.toList) (M:Mh κ a.toList b.toList o.reverse.toList i j) (hi:1 <= i) (ia:i <= a.size) (hy:b.toList.take j=b.toList.take (j - 1) ++ [y]) (ky':κ.keyOf y.1=some (ky κ y))
  (h:∀t,t <= i->Mh κ a.toList b.toList (o ++ (a.extract t i).reverse).reverse.toList t j->(∀z ∈ a.toList.take t,κ.kle (ky κ z) (ky κ y))->R (some t) st):wpS (model prog w) A E s (gal false y a 0 i (i - 1)) R st:=by
 refine jg hO hk (fun m hm=>?_) ky' (by omega) (fun m n hmn hn e=>?_) (fun t hk1 h1 h2=>?_)
 ·obtain ⟨x,e,kx,_⟩:=ie ka (show 0 + m < a.size by omega)
  exact ⟨x,_,e,kx⟩
 ·unfold byd at e ⊢
  rw [if_neg Bool.false_ne_true] at e ⊢
  have e:κ.kle (KK κ a (0 + n)) (ky κ y):=by simpa [KeyOrd.kle] using e
  have:=KeyOrd.kle_trans (uT sa (show 0 + m <= 0 + n by omega) (by omega)) e
  simpa [KeyOrd.kle] using this
 ·refine h t hk1 ?_ ?_
  ·have e:(o ++ (a.extract t i).reverse).reverse.toList=(a.toList.drop t).take (i - t) ++ o.reverse.toList:=by
    rw [Array.reverse_append,Array.reverse_reverse,Array.toList_append,jZ]
   rw [e]
   refine M.chA t hk1 fun x hx z hz=>?_
   obtain ⟨m,m1,m2,m3⟩:=fM ka hz
   have e:=h2 (t + m) (by omega) (by omega)
   unfold byd at e
   rw [if_neg Bool.false_ne_true,show 0 + (t + m)=t + m by omega,m3] at e
   have e:κ.kle (ky κ y) (ky κ z):=KeyOrd.kle_of_klt (by simpa [KeyOrd.klt] using e)
   refine KeyOrd.kle_trans ?_ e
   rw [hy] at hx
   rcases List.mem_append.mp hx with hx | hx
   ·have s:=M.sb.left
    rw [hy] at s
    exact s.le x hx y (List.mem_singleton.mpr rfl)
   ·rw [List.mem_singleton.mp hx]
    exact KeyOrd.kle_refl _
  ·intro z hz
   obtain ⟨m,m1,m2,m3⟩:=pX (κ:=κ) hz
   have e:=h1 m m1
   unfold byd at e
   rw [if_neg Bool.false_ne_true,show 0 + m=m by omega,m3] at e
   simpa [KeyOrd.kle] using e
theorem xX (hO:κ.OneLt) {st:SortSt}{a b o:Array Keyed}{i j:Nat}{x:Keyed}{R:Option Nat->SortSt->Prop} (hk:kindOf st=oneType') (kb:KeysOf κ b) (sb:Srt κ b.toList) (M:Mh κ a.toList b.toList o.reverse.toList i j) (hj:1 <= j) (jb:j <= b.size) (hx:a.toList.take i=a.toList.take (i - 1) ++ [x]) (kx':κ.keyOf x.1=some (ky κ x))
  (h:∀t,t <= j->Mh κ a.toList b.toList (o ++ (b.extract t j).reverse).reverse.toList i t->(∀z ∈ b.toList.take t,κ.kle (ky κ z) (ky κ x))->R (some t) st):wpS (model prog w) A E s (gal true x b 0 j (j - 1)) R st:=by
 refine jg hO hk (fun m hm=>?_) kx' (by omega) (fun m n hmn hn e=>?_) (fun t hk1 h1 h2=>?_)
 ·obtain ⟨x,e,kx,_⟩:=ie kb (show 0 + m < b.size by omega)
  exact ⟨x,_,e,kx⟩
 ·unfold byd at e ⊢
  rw [if_pos rfl] at e ⊢
  exact KeyOrd.klt_of_kle_of_klt (uT sb (show 0 + m <= 0 + n by omega) (by omega)) e
 ·refine h t hk1 ?_ ?_
  ·have e:(o ++ (b.extract t j).reverse).reverse.toList=(b.toList.drop t).take (j - t) ++ o.reverse.toList:=by
    rw [Array.reverse_append,Array.reverse_reverse,Array.toList_append,jZ]
   rw [e]
   refine M.chB t hk1 fun u hu z hz=>?_
   obtain ⟨m,m1,m2,m3⟩:=fM kb hz
   have e:=h2 (t + m) (by omega) (by omega)
   unfold byd at e
   rw [if_pos rfl,show 0 + (t + m)=t + m by omega,m3] at e
   refine KeyOrd.kle_trans ?_ (show κ.kle (ky κ x) (ky κ z) from e)
   rw [hx] at hu
   rcases List.mem_append.mp hu with hu | hu
   ·have s:=M.sa.left
    rw [hx] at s
    exact s.le u hu x (List.mem_singleton.mpr rfl)
   ·rw [List.mem_singleton.mp hu]
    exact KeyOrd.kle_refl _
  ·intro z hz
   obtain ⟨m,m1,m2,m3⟩:=pX (κ:=κ) hz
   have e:=h1 m m1
   unfold byd at e
   rw [if_pos rfl,show 0 + m=m by omega,m3] at e
   exact KeyOrd.kle_of_klt e
theorem wy (o:Array Keyed) (x:Keyed):(o.push x).reverse.toList=x :: o.reverse.toList:=by simp
theorem xx {l:List Keyed}{i:Nat}{x:Keyed} (h:l.take (i + 1)=l.take i ++ [x]):(l.drop i).take 1=[x]:=by
 have e:=eW (l:=l) (show i <= i + 1 by omega)
 rw [Nat.add_sub_cancel_left,h] at e
 exact (List.append_cancel_left e).symm
theorem Mh.pA {a b o:Array Keyed}{i j:Nat}{x:Keyed} (M:Mh κ a.toList b.toList o.reverse.toList (i + 1) j) (hx:a.toList.take (i + 1)=a.toList.take i ++ [x]) (le:∀z ∈ b.toList.take j,κ.kle (ky κ z) (ky κ x)):Mh κ a.toList b.toList (o.push x).reverse.toList i j:=by
 have e:=xx hx
 have h:=M.chA i (by omega) (fun u hu z hz=>by
  rw [Nat.add_sub_cancel_left,e] at hz
  rw [List.mem_singleton.mp hz]
  exact le u hu)
 rw [Nat.add_sub_cancel_left,e] at h
 rw [wy]
 exact h
theorem Mh.pB {a b o:Array Keyed}{i j:Nat}{y:Keyed} (M:Mh κ a.toList b.toList o.reverse.toList i (j + 1)) (hy:b.toList.take (j + 1)=b.toList.take j ++ [y]) (le:∀z ∈ a.toList.take i,κ.kle (ky κ z) (ky κ y)):Mh κ a.toList b.toList (o.push y).reverse.toList i j:=by
 have e:=xx hy
 have h:=M.chB j (by omega) (fun u hu z hz=>by
  rw [Nat.add_sub_cancel_left,e] at hz
  rw [List.mem_singleton.mp hz]
  exact le u hu)
 rw [Nat.add_sub_cancel_left,e] at h
 rw [wy]
 exact h
theorem zH {l m:List Keyed}{x y:Keyed} (s:Srt κ l) (e:l=m ++ [x]) (h:κ.kle (ky κ x) (ky κ y)):∀z ∈ l,κ.kle (ky κ z) (ky κ y):=fun z hz=>by
 subst e
 rcases List.mem_append.mp hz with hz | hz
 ·exact KeyOrd.kle_trans (s.le z hz x (List.mem_singleton.mpr rfl)) h
 ·rw [List.mem_singleton.mp hz]
  exact h
end
end L2
namespace L2
open PySem PyProof.Rows
def mhi:Array Keyed->Array Keyed->StateT SortSt Sem (Array Keyed):=sortPriv% PySem.Builtin.mergeHi
section
variable {prog:Program}{w:World}{A:Around}{E:Value->Shared->Prop}{s:Shared}{κ:KeyKind}
theorem vt {xs:Array Keyed} (hk:KeysOf κ xs) {i:Nat} (h:1 <= i) (hi:i <= xs.size):∃x,xs[i - 1]?=some x/\κ.keyOf x.1=some (ky κ x)/\xs.toList.take i=xs.toList.take (i - 1) ++ [x]:=by
 obtain ⟨x,e,kx,_⟩:=ie hk (show i - 1 < xs.size by omega)
 refine ⟨x,e,kx,?_⟩
 have:=BC hk (show i - 1 < xs.size by omega) e
 rwa [show i - 1 + 1=i by omega] at this
theorem Mh.qA {a b o:Array Keyed}{i j:Nat}{x:Keyed} (M:Mh κ a.toList b.toList o.reverse.toList i j) (hi:1 <= i) (hx:a.toList.take i=a.toList.take (i - 1) ++ [x]) (le:∀z ∈ b.toList.take j,κ.kle (ky κ z) (ky κ x)):Mh κ a.toList b.toList (o.push x).reverse.toList (i - 1) j:=by
 obtain ⟨i,rfl⟩:∃k,i=k + 1:=⟨i - 1,by omega⟩
 exact M.pA hx le
theorem Mh.qB {a b o:Array Keyed}{i j:Nat}{y:Keyed} (M:Mh κ a.toList b.toList o.reverse.toList i j) (hj:1 <= j) (hy:b.toList.take j=b.toList.take (j - 1) ++ [y]) (le:∀z ∈ a.toList.take i,κ.kle (ky κ z) (ky κ y)):Mh κ a.toList b.toList (o.push y).reverse.toList i (j - 1):=by
 obtain ⟨j,rfl⟩:∃k,j=k + 1:=⟨j - 1,by omega⟩
 exact M.pB hy le
theorem Mh.dE {a b o:Array Keyed}{i j:Nat} (M:Mh κ a.toList b.toList o.reverse.toList i j) (e:i=0 \/ j=0):Gd κ a b (a.extract 0 i ++ b.extract 0 j ++ o.reverse):=by
 unfold Gd
 rw [Array.toList_append,Array.toList_append,tM,tM]
 exact M.end e
theorem Mh.dF {a b o:Array Keyed}{i j:Nat} (M:Mh κ a.toList b.toList o.reverse.toList i j) (le:∀x ∈ b.toList.take 1,∀y ∈ a.toList,κ.kle (ky κ x) (ky κ y)) (e:j=1):Gd κ a b (b.extract 0 j ++ a.extract 0 i ++ o.reverse):=by
 unfold Gd
 rw [Array.toList_append,Array.toList_append,tM,tM]
 subst e
 exact M.first le
theorem yu (hO:κ.OneLt) {st:SortSt}{a b:Array Keyed}{Q:Array Keyed->SortSt->Prop} (hk:kindOf st=oneType') (ka:KeysOf κ a) (kb:KeysOf κ b) (sa:Srt κ a.toList) (sb:Srt κ b.toList) (a1:1 <= a.size) (b1:1 <= b.size) (hf:∀x ∈ b.toList.take 1,∀y ∈ a.toList,κ.kle (ky κ x) (ky κ y)) (hl:∀x ∈ b.toList,∀y ∈ a.toList.drop (a.size - 1),κ.kle (ky κ x) (ky κ y))
  (h:∀r g,Gd κ a b r->Q r (sG st g)):wpS (model prog w) A E s (mhi a b) Q st:=by
 obtain ⟨x0,ex0,kx0,tx0⟩:=vt ka a1 (Nat.le_refl _)
 have M0:Mh κ a.toList b.toList (#[x0]:Array Keyed).reverse.toList (a.size - 1) b.size:=by
  have ta:a.toList.take a.size=a.toList:=List.take_of_length_le (by rw [Array.length_toList];exact Nat.le_refl _)
  have tb:b.toList.take b.size=b.toList:=List.take_of_length_le (by rw [Array.length_toList];exact Nat.le_refl _)
  have M:Mh κ a.toList b.toList (#[]:Array Keyed).reverse.toList a.size b.size:=⟨by rw [List.drop_of_length_le (by rw [Array.length_toList];exact Nat.le_refl _),List.drop_of_length_le (by rw [Array.length_toList];exact Nat.le_refl _)];simp,by rw [ta];simpa using sa,by rw [tb];simpa using sb,by rw [Array.length_toList];exact Nat.le_refl _,by rw [Array.length_toList];exact Nat.le_refl _⟩
  refine M.qA a1 tx0 fun z hz=>hl z (List.mem_of_mem_take hz) x0 ?_
  obtain ⟨x1,ex1,_,_,dx1,_⟩:=ie ka (show a.size - 1 < a.size by omega)
  rw [ex0] at ex1
  cases ex1
  rw [dx1]
  exact List.mem_cons_self
 refine wpS_bind (wpS_lift (wpAny_rule ⟨rfl,?_⟩))
 dsimp only
 refine wpS_bind (aH ex0 ?_)
 by_cases c1:(a.size - 1 == 0)=true
 ·rw [if_pos c1]
  exact wpS_pure (h _ (gallopOf st) (M0.dE (.inl (by simpa using c1))))
 rw [if_neg c1]
 by_cases c2:(b.size == 1)=true
 ·rw [if_pos c2]
  exact wpS_pure (h _ (gallopOf st) (M0.dF hf (by simpa using c2)))
 rw [if_neg c2]
 have c1:¬ a.size - 1=0:=by simpa using c1
 have c2:¬ b.size=1:=by simpa using c2
 refine wpS_bind (wpS_get ?_)
 refine wpS_bind (wpS_mono (wpS_forRange (I:=fun x c st'=>∃o i j mg g,c=(none,i,j,o,mg)/\st'=sG st g/\Mh κ a.toList b.toList o.reverse.toList i j/\1 <= i/\i <= a.size/\2 <= j/\j <= b.size/\x + 1 + i + j <= a.size + b.size)
  (Q:=fun c st'=>∃r g,c.1=some r/\st'=sG st g/\Gd κ a b r) ?s1 ?f1 ⟨_,_,_,_,gallopOf st,rfl,rfl,M0,by omega,by omega,by omega,Nat.le_refl _,by omega⟩) ?p1)
 case f1 =>
  rintro c st' ⟨o,i,j,mg,g,rfl,rfl,M,hi,ia,hj,jb,hx⟩
  omega
 case p1 =>
  rintro ⟨c,cc⟩ st' ⟨r,g,e,rfl,hg⟩
  cases e
  exact wpS_pure (h r g hg)
 case s1 =>
  rintro x c st' _ hx ⟨o,i,j,mg,g,rfl,rfl,M,hi,ia,hj,jb,hx'⟩
  dsimp only
  refine wpS_bind (wpS_mono (wpS_forRange (I:=fun y c st'=>∃o i j ac bc,c=(none,i,j,o,ac,bc)/\st'=sG st g/\Mh κ a.toList b.toList o.reverse.toList i j/\1 <= i/\i <= a.size/\2 <= j/\j <= b.size/\x + 1 + min y 1 + i + j <= a.size + b.size)
   (Q:=fun c st'=>st'=sG st g/\((∃r,c.1=some r/\Gd κ a b r) \/ ∃o i j ac bc,c=(none,i,j,o,ac,bc)/\Mh κ a.toList b.toList o.reverse.toList i j/\1 <= i/\i <= a.size/\2 <= j/\j <= b.size/\x + 2 + i + j <= a.size + b.size)) ?s2 ?f2 ⟨o,i,j,0,0,rfl,rfl,M,hi,ia,hj,jb,by omega⟩) ?p2)
  case f2 =>
   rintro c st' ⟨o,i,j,ac,bc,rfl,rfl,M,hi,ia,hj,jb,hx⟩
   exact ⟨rfl,.inr ⟨o,i,j,ac,bc,rfl,M,hi,ia,hj,jb,by omega⟩⟩
  case s2 =>
   rintro y c st' _ hy ⟨o,i,j,ac,bc,rfl,rfl,M,hi,ia,hj,jb,hx⟩
   obtain ⟨yb,eyb,kyb,dyb⟩:=vt kb (show 1 <= j by omega) jb
   obtain ⟨xa,exa,kxa,dxa⟩:=vt ka hi ia
   dsimp only
   refine wpS_bind (aH eyb ?_)
   refine wpS_bind (aH exa ?_)
   refine wpS_bind (qg hO hk kyb kxa ?_)
   dsimp only
   cases z:κ.blt (ky κ yb) (ky κ xa) with
   | true =>
    rw [if_pos rfl]
    have M':=M.qA hi dxa (zH M.sb.left dyb (KeyOrd.kle_of_klt z))
    refine wpS_bind (aH exa ?_)
    by_cases e1:(i - 1 == 0)=true
    ·rw [if_pos e1]
     exact wpS_pure ⟨rfl,.inl ⟨_,rfl,M'.dE (.inl (by simpa using e1))⟩⟩
    ·rw [if_neg e1]
     have e1:¬ i - 1=0:=by simpa using e1
     split
     ·exact wpS_pure ⟨rfl,.inr ⟨_,_,_,_,_,rfl,M',by omega,by omega,hj,jb,by omega⟩⟩
     ·exact wpS_pure ⟨_,_,_,_,_,rfl,rfl,M',by omega,by omega,hj,jb,by omega⟩
   | false =>
    rw [if_neg Bool.false_ne_true]
    have M':=M.qB (by omega) dyb (zH M.sa.left dxa (show κ.kle _ _ from z))
    refine wpS_bind (aH eyb ?_)
    by_cases e1:(j - 1 == 1)=true
    ·rw [if_pos e1]
     exact wpS_pure ⟨rfl,.inl ⟨_,rfl,M'.dF hf (by simpa using e1)⟩⟩
    ·rw [if_neg e1]
     have e1:¬ j - 1=1:=by simpa using e1
     split
     ·exact wpS_pure ⟨rfl,.inr ⟨_,_,_,_,_,rfl,M',hi,ia,by omega,by omega,by omega⟩⟩
     ·exact wpS_pure ⟨_,_,_,_,_,rfl,rfl,M',hi,ia,by omega,by omega,by omega⟩
  case p2 =>
   rintro c st' ⟨rfl,⟨r,e,hg⟩ | ⟨o,i,j,ac,bc,rfl,M,hi,ia,hj,jb,hx⟩⟩
   ·obtain ⟨c,cc⟩:=c
    cases e
    exact wpS_pure ⟨r,g,rfl,rfl,hg⟩
   ·dsimp only
    refine wpS_bind (wpS_lift (wpAny_rule ⟨rfl,?_⟩))
    refine wpS_bind (wpS_mono (wpS_forRange (I:=fun y c st'=>∃o i j mg ac bc g,c=(none,i,j,o,mg,ac,bc)/\st'=sG st g/\Mh κ a.toList b.toList o.reverse.toList i j/\1 <= i/\i <= a.size/\2 <= j/\j <= b.size/\x + 2 + i + j <= a.size + b.size)
     (Q:=fun c st'=>∃g,st'=sG st g/\((∃r,c.1=some r/\Gd κ a b r) \/ ∃o i j mg ac bc,c=(none,i,j,o,mg,ac,bc)/\Mh κ a.toList b.toList o.reverse.toList i j/\1 <= i/\i <= a.size/\2 <= j/\j <= b.size/\x + 2 + i + j <= a.size + b.size)) ?s3 ?f3 ⟨o,i,j,_,ac,bc,g,rfl,rfl,M,hi,ia,hj,jb,hx⟩) ?p3)
    case f3 =>
     rintro c st' ⟨o,i,j,mg,ac,bc,g,rfl,rfl,M,hi,ia,hj,jb,hx⟩
     exact ⟨g,rfl,.inr ⟨o,i,j,mg,ac,bc,rfl,M,hi,ia,hj,jb,hx⟩⟩
    case p3 =>
     rintro c st' ⟨g,rfl,⟨r,e,hg⟩ | ⟨o,i,j,mg,ac,bc,rfl,M,hi,ia,hj,jb,hx⟩⟩
     ·obtain ⟨c,cc⟩:=c
      cases e
      exact wpS_pure ⟨r,g,rfl,rfl,hg⟩
     ·dsimp only
      exact wpS_bind (wpS_modify (wpS_pure ⟨o,i,j,_,_,rfl,rfl,M,hi,ia,hj,jb,by omega⟩))
    case s3 =>
     clear M hi hj hx ia jb
     rintro y c st' _ hy ⟨o,i,j,mg,ac,bc,g,rfl,rfl,M,hi,ia,hj,jb,hx⟩
     obtain ⟨yb,eyb,kyb,dyb⟩:=vt kb (show 1 <= j by omega) jb
     dsimp only
     rcases Nat.lt_or_ge 1 mg with mc | mc
     all_goals
      first | rw [if_pos (show mg > 1 from mc)] | rw [if_neg (show ¬ mg > 1 from Nat.not_lt.mpr mc)]
      refine wpS_bind (wpS_modify ?_)
      refine wpS_bind (aH eyb ?_)
      refine wpS_bind (A8 (o:=o) hO hk ka sa M hi ia dyb kyb fun t hk1 M1 le1=>?_)
      dsimp only
      by_cases k0:i - t > 0
      ·rw [if_pos k0]
       by_cases e1:(t == 0)=true
       ·rw [if_pos e1]
        exact wpS_pure ⟨_,rfl,.inl ⟨_,rfl,M1.dE (.inl (by simpa using e1))⟩⟩
       rw [if_neg e1]
       have e1:¬ t=0:=by simpa using e1
       have M2:=M1.qB (show 1 <= j by omega) dyb le1
       obtain ⟨xa,exa,kxa,dxa⟩:=vt ka (show 1 <= t by omega) (by omega)
       refine wpS_bind (aH eyb ?_)
       by_cases e3:(j - 1 == 1)=true
       ·rw [if_pos e3]
        exact wpS_pure ⟨_,rfl,.inl ⟨_,rfl,M2.dF hf (by simpa using e3)⟩⟩
       rw [if_neg e3]
       have e3:¬ j - 1=1:=by simpa using e3
       refine wpS_bind (aH exa ?_)
       refine wpS_bind (xX hO hk kb sb M2 (by omega) (by omega) dxa kxa fun u hk2 M3 le3=>?_)
       dsimp only
       by_cases k20:j - 1 - u > 0
       ·rw [if_pos k20]
        by_cases e4:(u == 1)=true
        ·rw [if_pos e4]
         exact wpS_pure ⟨_,rfl,.inl ⟨_,rfl,M3.dF hf (by simpa using e4)⟩⟩
        rw [if_neg e4]
        have e4:¬ u=1:=by simpa using e4
        by_cases e5:(u == 0)=true
        ·rw [if_pos e5]
         exact wpS_pure ⟨_,rfl,.inl ⟨_,rfl,M3.dE (.inr (by simpa using e5))⟩⟩
        rw [if_neg e5]
        have e5:¬ u=0:=by simpa using e5
        refine wpS_bind (aH exa ?_)
        have M4:=M3.qA (by omega) dxa le3
        by_cases e6:(t - 1 == 0)=true
        ·rw [if_pos e6]
         exact wpS_pure ⟨_,rfl,.inl ⟨_,rfl,M4.dE (.inl (by simpa using e6))⟩⟩
        rw [if_neg e6]
        have e6:¬ t - 1=0:=by simpa using e6
        by_cases e7:(decide (i - t < 7) && decide (j - 1 - u < 7))=true
        ·rw [if_pos e7]
         exact wpS_pure ⟨_,rfl,.inr ⟨_,_,_,_,_,_,rfl,M4,by omega,by omega,by omega,by omega,by omega⟩⟩
        ·rw [if_neg e7]
         exact wpS_pure ⟨_,_,_,_,_,_,_,rfl,rfl,M4,by omega,by omega,by omega,by omega,by omega⟩
       ·rw [if_neg k20]
        have uz:u=j - 1:=by omega
        rw [uz] at le3
        refine wpS_bind (aH exa ?_)
        have M4:=M2.qA (by omega) dxa le3
        by_cases e6:(t - 1 == 0)=true
        ·rw [if_pos e6]
         exact wpS_pure ⟨_,rfl,.inl ⟨_,rfl,M4.dE (.inl (by simpa using e6))⟩⟩
        rw [if_neg e6]
        have e6:¬ t - 1=0:=by simpa using e6
        by_cases e7:(decide (i - t < 7) && decide (j - 1 - u < 7))=true
        ·rw [if_pos e7]
         exact wpS_pure ⟨_,rfl,.inr ⟨_,_,_,_,_,_,rfl,M4,by omega,by omega,by omega,by omega,by omega⟩⟩
        ·rw [if_neg e7]
         exact wpS_pure ⟨_,_,_,_,_,_,_,rfl,rfl,M4,by omega,by omega,by omega,by omega,by omega⟩
      ·rw [if_neg k0]
       have tz:t=i:=by omega
       rw [tz] at le1
       have M2:=M.qB (show 1 <= j by omega) dyb le1
       obtain ⟨xa,exa,kxa,dxa⟩:=vt ka (show 1 <= i by omega) (by omega)
       refine wpS_bind (aH eyb ?_)
       by_cases e3:(j - 1 == 1)=true
       ·rw [if_pos e3]
        exact wpS_pure ⟨_,rfl,.inl ⟨_,rfl,M2.dF hf (by simpa using e3)⟩⟩
       rw [if_neg e3]
       have e3:¬ j - 1=1:=by simpa using e3
       refine wpS_bind (aH exa ?_)
       refine wpS_bind (xX hO hk kb sb M2 (by omega) (by omega) dxa kxa fun u hk2 M3 le3=>?_)
       dsimp only
       by_cases k20:j - 1 - u > 0
       ·rw [if_pos k20]
        by_cases e4:(u == 1)=true
        ·rw [if_pos e4]
         exact wpS_pure ⟨_,rfl,.inl ⟨_,rfl,M3.dF hf (by simpa using e4)⟩⟩
        rw [if_neg e4]
        have e4:¬ u=1:=by simpa using e4
        by_cases e5:(u == 0)=true
        ·rw [if_pos e5]
         exact wpS_pure ⟨_,rfl,.inl ⟨_,rfl,M3.dE (.inr (by simpa using e5))⟩⟩
        rw [if_neg e5]
        have e5:¬ u=0:=by simpa using e5
        refine wpS_bind (aH exa ?_)
        have M4:=M3.qA (by omega) dxa le3
        by_cases e6:(i - 1 == 0)=true
        ·rw [if_pos e6]
         exact wpS_pure ⟨_,rfl,.inl ⟨_,rfl,M4.dE (.inl (by simpa using e6))⟩⟩
        rw [if_neg e6]
        have e6:¬ i - 1=0:=by simpa using e6
        by_cases e7:(decide (i - t < 7) && decide (j - 1 - u < 7))=true
        ·rw [if_pos e7]
         exact wpS_pure ⟨_,rfl,.inr ⟨_,_,_,_,_,_,rfl,M4,by omega,by omega,by omega,by omega,by omega⟩⟩
        ·rw [if_neg e7]
         exact wpS_pure ⟨_,_,_,_,_,_,_,rfl,rfl,M4,by omega,by omega,by omega,by omega,by omega⟩
       ·rw [if_neg k20]
        have uz:u=j - 1:=by omega
        rw [uz] at le3
        refine wpS_bind (aH exa ?_)
        have M4:=M2.qA (by omega) dxa le3
        by_cases e6:(i - 1 == 0)=true
        ·rw [if_pos e6]
         exact wpS_pure ⟨_,rfl,.inl ⟨_,rfl,M4.dE (.inl (by simpa using e6))⟩⟩
        rw [if_neg e6]
        have e6:¬ i - 1=0:=by simpa using e6
        by_cases e7:(decide (i - t < 7) && decide (j - 1 - u < 7))=true
        ·rw [if_pos e7]
         exact wpS_pure ⟨_,rfl,.inr ⟨_,_,_,_,_,_,rfl,M4,by omega,by omega,by omega,by omega,by omega⟩⟩
        ·rw [if_neg e7]
         exact wpS_pure ⟨_,_,_,_,_,_,_,rfl,rfl,M4,by omega,by omega,by omega,by omega,by omega⟩
end
end L2
namespace L2
open PySem PyProof.Rows
section
variable {prog:Program}{w:World}{A:Around}{E:Value->Shared->Prop}{s:Shared}{κ:KeyKind}
def putAt (xs:Array Keyed) (i:Nat) (m:List (Keyed × Nat)):Array Keyed:=m.foldl (fun a p=>a.setIfInBounds (i + p.2) p.1) xs
theorem tJ (i:Nat):∀(m:List Keyed) (k:Nat) (xs:Array Keyed),i + k + m.length <= xs.size->(putAt xs i (m.zipIdx k)).toList=xs.toList.take (i + k) ++ m ++ xs.toList.drop (i + k + m.length)
 | [],k,xs,h=>by
  show xs.toList=_
  simp
 | x :: m,k,xs,h=>by
  rw [List.length_cons] at h
  rw [List.zipIdx_cons]
  show (putAt (xs.setIfInBounds (i + k) x) i (m.zipIdx (k + 1))).toList=_
  rw [tJ i m (k + 1) _ (by rw [Array.size_setIfInBounds];omega),Array.toList_setIfInBounds]
  have hl:i + k < xs.toList.length:=by rw [Array.length_toList];omega
  have e1:(xs.toList.set (i + k) x).take (i + (k + 1))=xs.toList.take (i + k) ++ [x]:=by
   rw [show i + (k + 1)=i + k + 1 by omega,List.take_add_one,List.take_set_of_le (Nat.le_refl _),List.getElem?_set_self hl]
   rfl
  have e2:(xs.toList.set (i + k) x).drop (i + (k + 1) + m.length)=xs.toList.drop (i + k + (m.length + 1)):=by
   rw [List.drop_set_of_lt (by omega)]
   congr 1
   omega
  rw [e1,e2,List.length_cons]
  simp
theorem zh {σ:Type}{M:Model}{Q:PUnit->σ->Prop}{st st':σ} (h:Q ⟨⟩ st'):wpS M A E s (set st':StateT σ Sem PUnit) Q st:=by
 unfold wpS
 rw [StateT.run_set]
 exact wpAny_pure ⟨rfl,h⟩
def Seg (κ:KeyKind) (xs:Array Keyed) (i n:Nat):Prop:=∀p q,i <= p->p <= q->q < i + n->κ.kle (KK κ xs p) (KK κ xs q)
theorem CY {xs:Array Keyed}{i:Nat}{x:Keyed} (h:xs.toList[i]?=some x):KK κ xs i=ky κ x:=by
 rw [Array.getElem?_toList] at h
 unfold KK ky
 rw [h]
theorem j8 {xs:Array Keyed}{i n:Nat} (h:Seg κ xs i n) (hl:i + n <= xs.size):Srt κ ((xs.toList.drop i).take n):=by
 refine List.pairwise_iff_getElem.mpr fun p q hp hq hpq=>?_
 rw [List.length_take,List.length_drop,Array.length_toList] at hp hq
 have g:∀r (hr:r < ((xs.toList.drop i).take n).length),KK κ xs (i + r)=ky κ (((xs.toList.drop i).take n)[r]):=fun r hr=>by
  refine CY ?_
  rw [<- List.getElem?_drop,<- List.getElem?_eq_getElem hr,List.getElem?_take_of_lt (by rw [List.length_take,List.length_drop,Array.length_toList] at hr;omega)]
 rw [<- g p,<- g q]
 exact h _ _ (by omega) (by omega) (by omega)
theorem yZ {xs:Array Keyed}{P M S:List Keyed}{i n:Nat} (e:xs.toList=P ++ M ++ S) (hi:P.length=i) (hn:M.length=n) (h:Srt κ M):Seg κ xs i n:=by
 intro p q hp hpq hq
 have g:∀r,r < n->∃x,M[r]?=some x/\KK κ xs (i + r)=ky κ x:=fun r hr=>by
  refine ⟨M[r]'(by omega),List.getElem?_eq_getElem (by omega),CY ?_⟩
  rw [e,List.append_assoc,List.getElem?_append_right (by omega),List.getElem?_append_left (by omega),show i + r - P.length=r by omega]
  exact List.getElem?_eq_getElem (by omega)
 obtain ⟨x,hx,kx⟩:=g (p - i) (by omega)
 obtain ⟨y,hy,kyy⟩:=g (q - i) (by omega)
 rw [show i + (p - i)=p by omega] at kx
 rw [show i + (q - i)=q by omega] at kyy
 rw [kx,kyy]
 rcases Nat.lt_or_ge p q with hlt | hge
 ·obtain ⟨l1,g1⟩:=List.getElem?_eq_some_iff.mp hx
  obtain ⟨l2,g2⟩:=List.getElem?_eq_some_iff.mp hy
  rw [<- g1,<- g2]
  exact List.pairwise_iff_getElem.mp h (p - i) (q - i) l1 l2 (by omega)
 ·have:p=q:=by omega
  subst this
  rw [hx] at hy
  cases hy
  exact KeyOrd.kle_refl _
theorem yW {A1 A2 B1 B2 m:List Keyed} (sA:Srt κ (A1 ++ A2)) (sB:Srt κ (B1 ++ B2)) (pm:m.Perm (A2 ++ B1)) (sm:Srt κ m) (fA:∀x ∈ A1,∀y ∈ B1 ++ B2,κ.kle (ky κ x) (ky κ y)) (fB:∀x ∈ A2,∀y ∈ B2,κ.kle (ky κ x) (ky κ y)):Srt κ (A1 ++ m ++ B2)/\(A1 ++ m ++ B2).Perm (A1 ++ A2 ++ (B1 ++ B2)):=by
 constructor
 ·rw [List.append_assoc]
  refine Srt.app sA.left (Srt.app sm sB.right fun x hx y hy=>?_) fun x hx y hy=>?_
  ·rcases List.mem_append.mp (pm.mem_iff.mp hx) with hx | hx
   ·exact fB x hx y hy
   ·exact sB.le x hx y hy
  ·rcases List.mem_append.mp hy with hy | hy
   ·rcases List.mem_append.mp (pm.mem_iff.mp hy) with hy | hy
    ·exact sA.le x hx y hy
    ·exact fA x hx y (List.mem_append_left _ hy)
   ·exact fA x hx y (List.mem_append_right _ hy)
 ·have e:A1 ++ A2 ++ (B1 ++ B2)=A1 ++ (A2 ++ B1) ++ B2:=by simp
  rw [e]
  exact List.Perm.append_right _ (List.Perm.append_left _ pm)
theorem pv {xs:Array Keyed}{i j p:Nat} (h:p < j - i) (hj:j <= xs.size):KK κ (xs.extract i j) p=KK κ xs (i + p):=by
 refine KK_congr ?_
 rw [Array.getElem?_extract,if_pos (by omega)]
theorem rb {xs:Array Keyed} (hk:KeysOf κ xs) (i j:Nat):KeysOf κ (xs.extract i j):=fun p hp=>by
 rw [jZ] at hp
 exact hk p (List.mem_of_mem_drop (List.mem_of_mem_take hp))
end
end L2
namespace L2
open PySem PyProof.Rows
section
variable {prog:Program}{w:World}{A:Around}{E:Value->Shared->Prop}{s:Shared}{κ:KeyKind}
theorem yU (hO:κ.OneLt) {st:SortSt}{i sa na pw nb pw2:Nat}{Q:Bool->SortSt->Prop} (hk:kindOf st=oneType') (hf:failedOf st=none) (kx:KeysOf κ (arrOf st)) (h1:(pendingOf st)[i]?=some (sa,na,pw)) (h2:(pendingOf st)[i + 1]?=some (sa + na,nb,pw2)) (a1:1 <= na) (b1:1 <= nb) (hsz:sa + na + nb <= (arrOf st).size) (gA:Seg κ (arrOf st) sa na) (gB:Seg κ (arrOf st) (sa + na) nb)
  (h:∀st' M,kindOf st'=oneType'->failedOf st'=none->pendingOf st'=((pendingOf st).setIfInBounds i (sa,na + nb,pw)).eraseIdxIfInBounds (i + 1)->(arrOf st').toList=(arrOf st).toList.take sa ++ M ++ (arrOf st).toList.drop (sa + na + nb)->Srt κ M->M.Perm (((arrOf st).toList.drop sa).take (na + nb))->Q true st'):wpS (model prog w) A E s (mergeAt' i) Q st:=by
 refine wpS_bind (wpS_get ?_)
 dsimp only
 rw [h1,h2]
 dsimp only
 refine wpS_bind (zh ?_)
 have lsz:(arrOf st).toList.length=(arrOf st).size:=Array.length_toList
 have fin:∀(k u:Nat) (m:List Keyed) (st':SortSt),k <= na->u <= nb->kindOf st'=oneType'->failedOf st'=none->pendingOf st'=((pendingOf st).setIfInBounds i (sa,na + nb,pw)).eraseIdxIfInBounds (i + 1)->(arrOf st').toList=(arrOf st).toList.take (sa + k) ++ m ++ (arrOf st).toList.drop (sa + na + u)->m.Perm (((arrOf st).toList.drop (sa + k)).take (na - k) ++ ((arrOf st).toList.drop (sa + na)).take u)->Srt κ m ->
   (∀x ∈ ((arrOf st).toList.drop sa).take k,∀y ∈ ((arrOf st).toList.drop (sa + na)).take nb,κ.kle (ky κ x) (ky κ y))->(∀x ∈ ((arrOf st).toList.drop (sa + k)).take (na - k),∀y ∈ ((arrOf st).toList.drop (sa + na + u)).take (nb - u),κ.kle (ky κ x) (ky κ y))->Q true st':=by
  intro k u m st' hk1 hu1 g1 g2 g3 g4 pm sm fA fB
  have sA:=j8 gA (by omega)
  have sB:=j8 gB (by omega)
  have eA:((arrOf st).toList.drop sa).take na=((arrOf st).toList.drop sa).take k ++ ((arrOf st).toList.drop (sa + k)).take (na - k):=by
   have:=eW (l:=(arrOf st).toList.drop sa) hk1
   rwa [List.drop_drop] at this
  have eB:((arrOf st).toList.drop (sa + na)).take nb=((arrOf st).toList.drop (sa + na)).take u ++ ((arrOf st).toList.drop (sa + na + u)).take (nb - u):=by
   have:=eW (l:=(arrOf st).toList.drop (sa + na)) hu1
   rwa [List.drop_drop] at this
  have eAB:((arrOf st).toList.drop sa).take (na + nb)=((arrOf st).toList.drop sa).take na ++ ((arrOf st).toList.drop (sa + na)).take nb:=by
   have:=eW (l:=(arrOf st).toList.drop sa) (show na <= na + nb by omega)
   rwa [List.drop_drop,Nat.add_sub_cancel_left] at this
  rw [eA] at sA
  rw [eB] at sB fA
  obtain ⟨r1,r2⟩:=yW sA sB pm sm fA fB
  refine h st' _ g1 g2 g3 ?_ r1 ?_
  ·have e3:=nB (l:=(arrOf st).toList) (show sa + na + u <= sa + na + nb by omega)
   rw [show sa + na + nb - (sa + na + u)=nb - u by omega] at e3
   rw [g4,List.take_add]
   conv=>lhs;rw [e3]
   simp
  ·rw [eAB,eA,eB]
   exact r2
 obtain ⟨y0,ey0,ky0,kk0,dy0,_⟩:=ie kx (show sa + na < (arrOf st).size by omega)
 refine wpS_bind (aH ey0 ?_)
 refine wpS_bind (jg hO hk (fun m hm=>?_) ky0 (by omega) (fun m n hmn hn e=>?_) (fun k hk1 g1 g2=>?_))
 ·obtain ⟨x,e,kx,_⟩:=ie kx (show sa + m < (arrOf st).size by omega)
  exact ⟨x,_,e,kx⟩
 ·unfold byd at e ⊢
  rw [if_neg Bool.false_ne_true] at e ⊢
  have e:κ.kle (KK κ (arrOf st) (sa + n)) (ky κ y0):=by simpa [KeyOrd.kle] using e
  have:=KeyOrd.kle_trans (gA (sa + m) (sa + n) (by omega) (by omega) (by omega)) e
  simpa [KeyOrd.kle] using this
 dsimp only
 have le1:∀x ∈ ((arrOf st).toList.drop sa).take k,∀y ∈ ((arrOf st).toList.drop (sa + na)).take nb,κ.kle (ky κ x) (ky κ y):=fun x hx y hy=>by
  obtain ⟨m,m1,m2,m3⟩:=fM kx hx
  obtain ⟨n,n1,n2,n3⟩:=fM kx hy
  have e:=g1 m m1
  unfold byd at e
  rw [if_neg Bool.false_ne_true,m3] at e
  have e:κ.kle (ky κ x) (ky κ y0):=by simpa [KeyOrd.kle] using e
  refine KeyOrd.kle_trans e ?_
  rw [<- kk0,<- n3]
  exact gB _ _ (by omega) (by omega) (by omega)
 have lt1:∀m,k <= m->m < na->κ.klt (ky κ y0) (KK κ (arrOf st) (sa + m)):=fun m m1 m2=>by
  have e:=g2 m m1 m2
  unfold byd at e
  rw [if_neg Bool.false_ne_true] at e
  simpa [KeyOrd.klt] using e
 by_cases c1:(na - k == 0)=true
 ·rw [if_pos c1]
  have c1:na - k=0:=by simpa using c1
  refine wpS_pure (fin k 0 [] _ hk1 (Nat.zero_le _) hk hf rfl ?_ (by rw [c1];simp) List.Pairwise.nil le1 (fun x hx=>by rw [c1,List.take_zero] at hx;cases hx))
  rw [List.append_nil,show sa + k=sa + na by omega]
  exact (List.take_append_drop (sa + na) _).symm
 rw [if_neg c1]
 have c1:¬ na - k=0:=by simpa using c1
 obtain ⟨x1,ex1,kx1,kkx1,_,_⟩:=ie kx (show sa + k + (na - k) - 1 < (arrOf st).size by omega)
 refine wpS_bind (aH ex1 ?_)
 refine wpS_bind (jg hO hk (fun m hm=>?_) kx1 (by omega) (fun m n hmn hn e=>?_) (fun u hu1 f1 f2=>?_))
 ·obtain ⟨x,e,kx,_⟩:=ie kx (show sa + na + m < (arrOf st).size by omega)
  exact ⟨x,_,e,kx⟩
 ·unfold byd at e ⊢
  rw [if_pos rfl] at e ⊢
  exact KeyOrd.klt_of_kle_of_klt (gB (sa + na + m) (sa + na + n) (by omega) (by omega) (by omega)) e
 dsimp only
 have fB:∀x ∈ ((arrOf st).toList.drop (sa + k)).take (na - k),∀y ∈ ((arrOf st).toList.drop (sa + na + u)).take (nb - u),κ.kle (ky κ x) (ky κ y):=fun x hx y hy=>by
  obtain ⟨m,m1,m2,m3⟩:=fM kx hx
  obtain ⟨n,n1,n2,n3⟩:=fM kx hy
  have e:=f2 (u + n) (by omega) (by omega)
  unfold byd at e
  rw [if_pos rfl,<- Nat.add_assoc,n3] at e
  refine KeyOrd.kle_trans ?_ (show κ.kle (ky κ x1) (ky κ y) from e)
  rw [<- m3,<- kkx1]
  exact gA _ _ (by omega) (by omega) (by omega)
 by_cases c2:(u == 0)=true
 ·rw [if_pos c2]
  have c2:u=0:=by simpa using c2
  subst c2
  refine wpS_pure (fin k 0 (((arrOf st).toList.drop (sa + k)).take (na - k)) _ hk1 (Nat.zero_le _) hk hf rfl ?_ (by simp) (j8 (fun p q h1 h2 h3=>gA p q (by omega) h2 (by omega)) (by omega)) le1 fB)
  have e:=eW (l:=(arrOf st).toList) (show sa + k <= sa + na by omega)
  rw [show sa + na - (sa + k)=na - k by omega] at e
  rw [<- e]
  exact (List.take_append_drop (sa + na) _).symm
 rw [if_neg c2]
 have c2:¬ u=0:=by simpa using c2
 have ea:((arrOf st).extract (sa + k) (sa + na)).toList=((arrOf st).toList.drop (sa + k)).take (na - k):=by rw [jZ,show sa + na - (sa + k)=na - k by omega]
 have eb:((arrOf st).extract (sa + na) (sa + na + u)).toList=((arrOf st).toList.drop (sa + na)).take u:=by rw [jZ,Nat.add_sub_cancel_left]
 have za:((arrOf st).extract (sa + k) (sa + na)).size=na - k:=by rw [Array.size_extract];omega
 have zb:((arrOf st).extract (sa + na) (sa + na + u)).size=u:=by rw [Array.size_extract];omega
 have sA2:Srt κ ((arrOf st).extract (sa + k) (sa + na)).toList:=by
  rw [ea]
  exact j8 (fun p q h1 h2 h3=>gA p q (by omega) h2 (by omega)) (by omega)
 have sB1:Srt κ ((arrOf st).extract (sa + na) (sa + na + u)).toList:=by
  rw [eb]
  exact j8 (fun p q h1 h2 h3=>gB p q (by omega) h2 (by omega)) (by omega)
 have kA:=rb kx (sa + k) (sa + na)
 have kB:=rb kx (sa + na) (sa + na + u)
 have hl:∀x ∈ ((arrOf st).extract (sa + na) (sa + na + u)).toList,∀y ∈ ((arrOf st).extract (sa + k) (sa + na)).toList.drop (((arrOf st).extract (sa + k) (sa + na)).size - 1),κ.kle (ky κ x) (ky κ y):=fun x hx y hy=>by
  rw [eb] at hx
  obtain ⟨m,m1,m2,m3⟩:=fM kx hx
  obtain ⟨n,n1,n2,n3⟩:=tB kA hy
  rw [za] at n1 n2
  have e:=f1 m m1
  unfold byd at e
  rw [if_pos rfl,m3] at e
  rw [pv (by omega) (by omega),show sa + k + n=sa + k + (na - k) - 1 by omega,kkx1] at n3
  rw [<- n3]
  exact KeyOrd.kle_of_klt e
 have hfst:∀x ∈ ((arrOf st).extract (sa + na) (sa + na + u)).toList.take 1,∀y ∈ ((arrOf st).extract (sa + k) (sa + na)).toList,κ.kle (ky κ x) (ky κ y):=fun x hx y hy=>by
  obtain ⟨m,m1,m2,m3⟩:=pX (κ:=κ) hx
  rw [ea] at hy
  obtain ⟨n,n1,n2,n3⟩:=fM kx hy
  rw [pv (by omega) (by omega),show sa + na + m=sa + na by omega,kk0] at m3
  rw [<- m3,<- n3,Nat.add_assoc]
  exact KeyOrd.kle_of_klt (lt1 (k + n) (by omega) (by omega))
 have h0:κ.kle (KK κ ((arrOf st).extract (sa + na) (sa + na + u)) 0) (KK κ ((arrOf st).extract (sa + k) (sa + na)) 0):=by
  rw [pv (by omega) (by omega),pv (by omega) (by omega),Nat.add_zero,Nat.add_zero,kk0]
  exact KeyOrd.kle_of_klt (lt1 k (Nat.le_refl _) (by omega))
 have out:∀(r:Array Keyed) (g:Nat),Gd κ ((arrOf st).extract (sa + k) (sa + na)) ((arrOf st).extract (sa + na) (sa + na + u)) r->Q true (SortSt.mk' (kindOf st) (putAt (arrOf st) (sa + k) r.toList.zipIdx) (((pendingOf st).setIfInBounds i (sa,na + nb,pw)).eraseIdxIfInBounds (i + 1)) g (failedOf st)):=by
  intro r g ⟨p1,p2⟩
  rw [ea,eb] at p1
  have rl:r.toList.length=na - k + u:=by
   rw [p1.length_eq,List.length_append,List.length_take,List.length_take,List.length_drop,List.length_drop,lsz]
   omega
  refine fin k u r.toList _ hk1 hu1 hk hf rfl ?_ p1 p2 le1 fB
  show (putAt (arrOf st) (sa + k) r.toList.zipIdx).toList=_
  rw [tJ (sa + k) r.toList 0 (arrOf st) (by rw [rl];omega),rl,show sa + k + 0 + (na - k + u)=sa + na + u by omega]
  rfl
 by_cases c3:na - k <= u
 ·rw [if_pos c3]
  refine wpS_bind (yn hO hk kA kB sA2 sB1 (by rw [za];omega) (by rw [zb];omega) h0 hl fun r g hg=>?_)
  refine wpS_bind (wpS_modify ?_)
  refine wpS_bind (wpS_get (wpS_pure ?_))
  have:=out r g hg
  rw [show (failedOf st).isNone=true by rw [hf];rfl]
  exact this
 ·rw [if_neg c3]
  refine wpS_bind (yu hO hk kA kB sA2 sB1 (by rw [za];omega) (by rw [zb];omega) hfst hl fun r g hg=>?_)
  refine wpS_bind (wpS_modify ?_)
  refine wpS_bind (wpS_get (wpS_pure ?_))
  have:=out r g hg
  rw [show (failedOf st).isNone=true by rw [hf];rfl]
  exact this
end
end L2
namespace L2
open PySem PyProof.Rows
section
variable {prog:Program}{w:World}{A:Around}{E:Value->Shared->Prop}{s:Shared}{κ:KeyKind}
structure Chg (st0 st:SortSt) (lo:Nat):Prop where
 kd:kindOf st=oneType'
 fl:failedOf st=none
 pd:pendingOf st=pendingOf st0
 pm:(arrOf st).Perm (arrOf st0)
 fr:∀p,p < lo->(arrOf st)[p]?=(arrOf st0)[p]?
theorem Chg.sz {st0 st:SortSt}{lo:Nat} (C:Chg st0 st lo):(arrOf st).size=(arrOf st0).size:=C.pm.size_eq
theorem pL {xs ys:Array Keyed} (h:KeysOf κ ys) (p:xs.Perm ys):KeysOf κ xs:=fun q hq=>h q ((Array.perm_iff_toList_perm.mp p).mem_iff.mp hq)
theorem Chg.set {st0 st:SortSt}{lo:Nat} (C:Chg st0 st lo) {xs:Array Keyed} (p:xs.Perm (arrOf st)) (f:∀q,q < lo->xs[q]?=(arrOf st)[q]?):Chg st0 (setArr st xs) lo:=⟨C.kd,C.fl,C.pd,p.trans C.pm,fun q hq=>(f q hq).trans (C.fr q hq)⟩
theorem mV (hO:κ.OneLt) {st0 st:SortSt}{lo i j:Nat}{Q:Option Bool->SortSt->Prop} (C:Chg st0 st lo) (k0:KeysOf κ (arrOf st0)) (hi:i < (arrOf st0).size) (hj:j < (arrOf st0).size) (h:Q (some (κ.blt (KK κ (arrOf st) i) (KK κ (arrOf st) j))) st):wpS (model prog w) A E s (ltAt' i j) Q st:=by
 have kx:=pL k0 C.pm
 obtain ⟨x,ex,kx1,kkx,_⟩:=ie kx (show i < (arrOf st).size by rw [C.sz];exact hi)
 obtain ⟨y,ey,ky1,kky,_⟩:=ie kx (show j < (arrOf st).size by rw [C.sz];exact hj)
 rw [kkx,kky] at h
 exact wpS_ltAtK hO C.kd (p:=x.2) (q:=y.2) ex ey kx1 ky1 h
theorem yH (hO:κ.OneLt) {st0 st:SortSt}{lo n ok:Nat}{Q:Bool->SortSt->Prop} (k0:KeysOf κ (arrOf st0)) (hn:lo + n <= (arrOf st0).size) (hok:ok <= n) (C:Chg st0 st lo) (hs:Seg κ (arrOf st) lo ok)
  (h:∀st',Chg st0 st' lo->Seg κ (arrOf st') lo n->Q true st'):wpS (model prog w) A E s (binarySort' lo n ok) Q st:=by
 refine wpS_bind (wpS_mono (wpS_forRange (I:=fun k c st'=>c=(none,())/\Chg st0 st' lo/\Seg κ (arrOf st') lo (min k n)) (Q:=fun c st'=>c=(none,())/\Chg st0 st' lo/\Seg κ (arrOf st') lo n) ?s1 ?f1 ⟨rfl,C,?i1⟩) ?p1)
 case p1 =>
  rintro c st' ⟨rfl,C',g⟩
  exact wpS_pure (h st' C' g)
 case i1 =>
  intro p q hp hpq hq
  by_cases z:ok=0
  ·have:p=q:=by omega
   rw [this]
   exact KeyOrd.kle_refl _
  ·exact hs p q hp hpq (by omega)
 case f1 =>
  rintro c st' ⟨hc,C',g⟩
  rw [show min (max (max ok 1) n) n=n by omega] at g
  exact ⟨hc,C',g⟩
 case s1 =>
  rintro k c st1 hak hkn ⟨rfl,C1,g⟩
  rw [show min k n=k by omega] at g
  refine wpS_bind (wpS_mono (wpS_forRange (I:=fun x c st2=>st2=st1/\∃l r,c=(none,l,r)/\l <= r/\r <= k/\r - l <= k - x/\(∀p,p < l->κ.kle (KK κ (arrOf st1) (lo + p)) (KK κ (arrOf st1) (lo + k)))/\(∀p,r <= p->p < k->κ.kle (KK κ (arrOf st1) (lo + k)) (KK κ (arrOf st1) (lo + p))))
   (Q:=fun c st2=>st2=st1/\∃l,c=(none,l,l)/\l <= k/\(∀p,p < l->κ.kle (KK κ (arrOf st1) (lo + p)) (KK κ (arrOf st1) (lo + k)))/\(∀p,l <= p->p < k->κ.kle (KK κ (arrOf st1) (lo + k)) (KK κ (arrOf st1) (lo + p)))) ?s2 ?f2 ⟨rfl,0,k,rfl,Nat.zero_le _,Nat.le_refl _,by omega,fun p hp=>absurd hp (Nat.not_lt_zero _),fun p h1 h2=>by omega⟩) ?p2)
  case f2 =>
   rintro c st2 ⟨rfl,l,r,rfl,h1,h2,h3,h4,h5⟩
   have:l=r:=by omega
   subst this
   exact ⟨rfl,l,rfl,h2,h4,h5⟩
  case s2 =>
   rintro x c st2 _ hx ⟨rfl,l,r,rfl,h1,h2,h3,h4,h5⟩
   dsimp only
   by_cases z:l ≥ r
   ·rw [if_pos z]
    have:l=r:=by omega
    subst this
    exact wpS_pure ⟨rfl,l,rfl,h2,h4,h5⟩
   ·rw [if_neg z]
    refine wpS_bind (mV hO C1 k0 (show lo + k < _ by omega) (show lo + (l + r) / 2 < _ by omega) ?_)
    dsimp only
    cases y:κ.blt (KK κ (arrOf st2) (lo + k)) (KK κ (arrOf st2) (lo + (l + r) / 2)) with
    | true=>exact wpS_pure ⟨rfl,l,(l + r) / 2,rfl,by omega,by omega,by omega,h4,fun p p1 p2=>KeyOrd.kle_trans (KeyOrd.kle_of_klt y) (g _ _ (by omega) (by omega) (by omega))⟩
    | false=>exact wpS_pure ⟨rfl,(l + r) / 2 + 1,r,rfl,by omega,by omega,by omega,fun p p1=>KeyOrd.kle_trans (g _ (lo + (l + r) / 2) (by omega) (by omega) (by omega)) y,h5⟩
  case p2 =>
   rintro c st2 ⟨rfl,l,rfl,h2,h4,h5⟩
   have hks:lo + k < (arrOf st2).size:=by rw [C1.sz];omega
   refine wpS_bind (wpS_modify (wpS_pure ⟨rfl,C1.set (bubble_perm _ _ _) (fun q hq=>?_),?_⟩))
   ·show (bubble (arrOf st2) (lo + k) (lo + k - (lo + l)))[q]?=_
    rw [getElem?_bubble hks (lo + k - (lo + l)) (by omega),if_neg (by omega),if_neg (by omega)]
   ·rw [show min (k + 1) n=k + 1 by omega]
    intro p q hp hpq hq
    show κ.kle (KK κ (bubble (arrOf st2) (lo + k) (lo + k - (lo + l))) p) (KK κ (bubble (arrOf st2) (lo + k) (lo + k - (lo + l))) q)
    rw [KK_bubble hks (by omega),KK_bubble hks (by omega),show lo + k - (lo + k - (lo + l))=lo + l by omega]
    by_cases a1:p=lo + l
    ·rw [if_pos a1]
     by_cases b1:q=lo + l
     ·rw [if_pos b1]
      exact KeyOrd.kle_refl _
     ·rw [if_neg b1,if_pos (by omega)]
      have:=h5 (q - 1 - lo) (by omega) (by omega)
      rwa [show lo + (q - 1 - lo)=q - 1 by omega] at this
    ·rw [if_neg a1]
     by_cases a2:lo + l < p/\p <= lo + k
     ·rw [if_pos a2,if_neg (show ¬ q=lo + l by omega),if_pos (by omega)]
      exact g _ _ (by omega) (by omega) (by omega)
     ·rw [if_neg a2]
      by_cases b1:q=lo + l
      ·rw [if_pos b1]
       have:=h4 (p - lo) (by omega)
       rwa [show lo + (p - lo)=p by omega] at this
      ·rw [if_neg b1]
       by_cases b2:lo + l < q/\q <= lo + k
       ·rw [if_pos b2]
        exact g _ _ (by omega) (by omega) (by omega)
       ·rw [if_neg b2]
        exact g _ _ (by omega) (by omega) (by omega)
end
end L2
namespace L2
open PySem PyProof.Rows
section
variable {prog:Program}{w:World}{A:Around}{E:Value->Shared->Prop}{s:Shared}{κ:KeyKind}
def Dec (κ:KeyKind) (xs:Array Keyed) (lo n:Nat):Prop:=∀p q,lo <= p->p <= q->q < lo + n->κ.kle (KK κ xs q) (KK κ xs p)
theorem iS {xs:Array Keyed}{i j lo:Nat} (hj:j <= xs.size) (hi:lo <= i) (q:Nat) (hq:q < lo):(mirror xs i j ((j - i) / 2))[q]?=xs[q]?:=by
 rw [getElem?_mirror_all hj,if_neg (by omega)]
theorem qE {st:SortSt}{lo a nrem:Nat}{f:Nat->Option (Option Nat) × Nat->StateT SortSt Sem (ForInStep (Option (Option Nat) × Nat))} (ha:1 <= a) (han:a <= nrem) (g:Seg κ (arrOf st) lo a)
  (hf:∀(x n:Nat) (R:ForInStep (Option (Option Nat) × Nat)->SortSt->Prop),1 <= n->n < nrem->(κ.blt (KK κ (arrOf st) (lo + n)) (KK κ (arrOf st) (lo + n - 1))=true->R (.done (none,n)) st)->(κ.blt (KK κ (arrOf st) (lo + n)) (KK κ (arrOf st) (lo + n - 1))=false->R (.yield (none,n + 1)) st)->wpS (model prog w) A E s (f x (none,n)) R st) :
  wpS (model prog w) A E s (forIn [a:nrem] (none,a) f) (fun c st'=>st'=st/\∃m,c=(none,m)/\a <= m/\m <= nrem/\Seg κ (arrOf st) lo m/\(m=nrem \/ κ.klt (KK κ (arrOf st) (lo + m)) (KK κ (arrOf st) (lo + m - 1)))) st:=by
 refine wpS_forRange (I:=fun x c st'=>st'=st/\c=(none,x)/\Seg κ (arrOf st) lo x) ?s1 ?f1 ⟨rfl,rfl,g⟩
 case f1 =>
  rintro c st' ⟨rfl,rfl,g⟩
  rw [show max a nrem=nrem by omega] at g ⊢
  exact ⟨rfl,nrem,rfl,han,Nat.le_refl _,g,.inl rfl⟩
 case s1 =>
  rintro x c st' hax hx ⟨rfl,rfl,g⟩
  refine hf x x _ (by omega) hx (fun z=>?_) (fun z=>?_)
  ·exact ⟨rfl,x,rfl,hax,by omega,g,.inr z⟩
  ·refine ⟨rfl,rfl,fun p q hp hpq hq=>?_⟩
   by_cases hqx:q < lo + x
   ·exact g p q hp hpq hqx
   ·have e:q=lo + x:=by omega
    subst e
    by_cases hpx:p=lo + x
    ·rw [hpx]
     exact KeyOrd.kle_refl _
    ·exact KeyOrd.kle_trans (g p (lo + x - 1) hp (by omega) (by omega)) z
theorem mf {xs:Array Keyed}{lo n:Nat} (hj:lo + n <= xs.size) (d:Dec κ xs lo n):Seg κ (mirror xs lo (lo + n) ((lo + n - lo) / 2)) lo n:=fun p q hp hpq hq=>by
 rw [KK_mirror hj,KK_mirror hj,if_pos (by omega),if_pos (by omega)]
 exact d _ _ (by omega) (by omega) (by omega)
theorem wN {st0 st:SortSt}{lo n nrem:Nat}{f:Nat->Option (Option Nat) × Nat × Nat->StateT SortSt Sem (ForInStep (Option (Option Nat) × Nat × Nat))} (h1:1 <= n) (hn:n <= nrem) (hl:lo + nrem <= (arrOf st0).size) (C:Chg st0 st lo) (d:Dec κ (arrOf st) lo n)
  (hf:∀(x n e:Nat) (st:SortSt) (R:ForInStep (Option (Option Nat) × Nat × Nat)->SortSt->Prop),Chg st0 st lo->1 <= n->n < nrem->(κ.blt (KK κ (arrOf st) (lo + n)) (KK κ (arrOf st) (lo + n - 1))=true->R (.yield (none,n + 1,0)) (if e > 0 then setArr st (mirror (arrOf st) (lo + n - (e + 1)) (lo + n) ((lo + n - (lo + n - (e + 1))) / 2)) else st))->(κ.blt (KK κ (arrOf st) (lo + n)) (KK κ (arrOf st) (lo + n - 1))=false->κ.blt (KK κ (arrOf st) (lo + n - 1)) (KK κ (arrOf st) (lo + n))=true->R (.done (none,n,e)) st)->(κ.blt (KK κ (arrOf st) (lo + n)) (KK κ (arrOf st) (lo + n - 1))=false->κ.blt (KK κ (arrOf st) (lo + n - 1)) (KK κ (arrOf st) (lo + n))=false->R (.yield (none,n + 1,e + 1)) st)->wpS (model prog w) A E s (f x (none,n,e)) R st) :
  wpS (model prog w) A E s (forIn [n:nrem] (none,n,0) f) (fun c st'=>∃m e,c=(none,m,e)/\Chg st0 st' lo/\n <= m/\m <= nrem/\Dec κ (arrOf st') lo m/\e + 1 <= m/\∀p,lo + m - (e + 1) <= p->p < lo + m->KK κ (arrOf st') p=KK κ (arrOf st') (lo + m - 1)) st:=by
 refine wpS_forRange (I:=fun x c st'=>∃e,c=(none,x,e)/\Chg st0 st' lo/\Dec κ (arrOf st') lo x/\e + 1 <= x/\∀p,lo + x - (e + 1) <= p->p < lo + x->KK κ (arrOf st') p=KK κ (arrOf st') (lo + x - 1)) ?s1 ?f1 ⟨0,rfl,C,d,h1,fun p a b=>by congr 1;omega⟩
 case f1 =>
  rintro c st' ⟨e,rfl,C',d',he,eq⟩
  rw [show max n nrem=nrem by omega] at d' he eq ⊢
  exact ⟨nrem,e,rfl,C',hn,Nat.le_refl _,d',he,eq⟩
 case s1 =>
  rintro x c st' hax hx ⟨e,rfl,C',d',he,eq⟩
  have ext:∀{ys:Array Keyed},(∀p,KK κ ys p=KK κ (arrOf st') p)->κ.kle (KK κ (arrOf st') (lo + x)) (KK κ (arrOf st') (lo + x - 1))->Dec κ ys lo (x + 1):=fun {ys} hy z p q hp hpq hq=>by
   rw [hy,hy]
   by_cases hqx:q < lo + x
   ·exact d' p q hp hpq hqx
   ·have e:q=lo + x:=by omega
    subst e
    by_cases hpx:p=lo + x
    ·rw [hpx]
     exact KeyOrd.kle_refl _
    ·exact KeyOrd.kle_trans z (d' p (lo + x - 1) hp (by omega) (by omega))
  refine hf x x e st' _ C' (by omega) hx (fun z=>?_) (fun z y=>?_) (fun z y=>?_)
  ·have hz:lo + x <= (arrOf st').size:=by rw [C'.sz];omega
   by_cases e0:e > 0
   ·rw [if_pos e0]
    have k:∀p,KK κ (mirror (arrOf st') (lo + x - (e + 1)) (lo + x) ((lo + x - (lo + x - (e + 1))) / 2)) p=KK κ (arrOf st') p:=KK_mirror_equal hz eq
    exact ⟨0,rfl,C'.set (mirror_perm _ _ _ _) (iS hz (by omega)),ext k (KeyOrd.kle_of_klt z),by omega,fun p a b=>by congr 1;omega⟩
   ·rw [if_neg e0]
    exact ⟨0,rfl,C',ext (fun _=>rfl) (KeyOrd.kle_of_klt z),by omega,fun p a b=>by congr 1;omega⟩
  ·exact ⟨x,e,rfl,C',hax,by omega,d',he,eq⟩
  ·have q:=KeyOrd.kle_antisymm (show κ.kle (KK κ (arrOf st') (lo + x - 1)) (KK κ (arrOf st') (lo + x)) from z) y
   refine ⟨e + 1,rfl,C',ext (fun _=>rfl) y,by omega,fun p a b=>?_⟩
   rw [show lo + (x + 1) - 1=lo + x by omega]
   by_cases px:p=lo + x
   ·rw [px]
   ·rw [<- q]
    exact eq p (by omega) (by omega)
end
end L2
namespace L2
open PySem PyProof.Rows
section
variable {prog:Program}{w:World}{A:Around}{E:Value->Shared->Prop}{s:Shared}{κ:KeyKind}
theorem zw (hO:κ.OneLt) {st0 st:SortSt}{lo nrem:Nat}{Q:Option Nat->SortSt->Prop} (k0:KeysOf κ (arrOf st0)) (h1:1 <= nrem) (hl:lo + nrem <= (arrOf st0).size) (C:Chg st0 st lo)
  (h:∀m st',Chg st0 st' lo->1 <= m->m <= nrem->Seg κ (arrOf st') lo m->Q (some m) st'):wpS (model prog w) A E s (countRun' lo nrem) Q st:=by
 refine wpS_bind (wpS_mono (qE (κ:=κ) (lo:=lo) (Nat.le_refl 1) h1 (fun p q hp hpq hq=>?_) ?_) ?_)
 ·have:p=q:=by omega
  rw [this]
  exact KeyOrd.kle_refl _
 ·intro x n R n1 nr a1 a2
  dsimp only
  refine wpS_bind (mV hO C k0 (show lo + n < _ by omega) (show lo + n - 1 < _ by omega) ?_)
  dsimp only
  cases z:κ.blt (KK κ (arrOf st) (lo + n)) (KK κ (arrOf st) (lo + n - 1)) with
  | true=>exact wpS_pure (a1 z)
  | false=>exact wpS_pure (a2 z)
 rintro c st' ⟨rfl,m,rfl,m1,m2,g,hm⟩
 dsimp only
 by_cases e:(m == nrem)=true
 ·rw [if_pos e]
  exact wpS_pure (h m _ C m1 m2 g)
 rw [if_neg e]
 have e:¬ m=nrem:=by simpa using e
 have hm:κ.klt (KK κ (arrOf st') (lo + m)) (KK κ (arrOf st') (lo + m - 1)):=hm.elim (fun z=>absurd z e) id
 have hz0:lo + m <= (arrOf st').size:=by rw [C.sz];omega
 by_cases mm:m > 1
 ·rw [if_pos mm]
  refine wpS_bind (mV hO C k0 (show lo < _ by omega) (show lo + m - 1 < _ by omega) ?_)
  dsimp only
  cases z:κ.blt (KK κ (arrOf st') lo) (KK κ (arrOf st') (lo + m - 1)) with
  | true=>exact wpS_pure (h m _ C m1 m2 g)
  | false =>
   rw [if_neg Bool.false_ne_true]
   have eqs:∀p,lo <= p->p < lo + m->KK κ (arrOf st') p=KK κ (arrOf st') (lo + m - 1):=fun p p1 p2=>KeyOrd.kle_antisymm (g p _ p1 (by omega) (by omega)) (KeyOrd.kle_trans (show κ.kle _ (KK κ (arrOf st') lo) from z) (g lo p (Nat.le_refl _) p1 p2))
   have k:∀p,KK κ (mirror (arrOf st') lo (lo + m) ((lo + m - lo) / 2)) p=KK κ (arrOf st') p:=KK_mirror_equal hz0 eqs
   have C1:=C.set (mirror_perm (arrOf st') lo (lo + m) ((lo + m - lo) / 2)) (iS hz0 (Nat.le_refl _))
   have d1:Dec κ (mirror (arrOf st') lo (lo + m) ((lo + m - lo) / 2)) lo (m + 1):=fun p q hp hpq hq=>by
    rw [k,k]
    by_cases qm:q < lo + m
    ·rw [eqs p hp (by omega),eqs q (by omega) qm]
     exact KeyOrd.kle_refl _
    ·have:q=lo + m:=by omega
     subst this
     by_cases pm:p=lo + m
     ·rw [pm]
      exact KeyOrd.kle_refl _
     ·rw [eqs p hp (by omega)]
      exact KeyOrd.kle_of_klt hm
   refine wpS_bind (wpS_modify ?_)
   refine wpS_bind (wpS_lift (wpAny_rule ⟨rfl,?_⟩))
   refine wpS_bind (wpS_mono (wN (κ:=κ) (st0:=st0) (by omega) (by omega) hl C1 d1 ?_) ?_)
   ·intro x n e st R C n1 nr a1 a2 a3
    dsimp only
    refine wpS_bind (mV hO C k0 (show lo + n < _ by omega) (show lo + n - 1 < _ by omega) ?_)
    dsimp only
    cases z:κ.blt (KK κ (arrOf st) (lo + n)) (KK κ (arrOf st) (lo + n - 1)) with
    | true =>
     have a1:=a1 z
     rw [if_pos rfl]
     by_cases e0:e > 0
     ·rw [if_pos e0] at a1 ⊢
      exact wpS_bind (wpS_modify (wpS_pure a1))
     ·rw [if_neg e0] at a1 ⊢
      exact wpS_pure a1
    | false =>
     rw [if_neg Bool.false_ne_true]
     refine wpS_bind (mV hO C k0 (show lo + n - 1 < _ by omega) (show lo + n < _ by omega) ?_)
     dsimp only
     cases y:κ.blt (KK κ (arrOf st) (lo + n - 1)) (KK κ (arrOf st) (lo + n)) with
     | true=>exact wpS_pure (a2 z y)
     | false=>exact wpS_pure (a3 z y)
   ·rintro c st2 ⟨r,e,rfl,C2,r1,r2,d2,e1,eq⟩
    dsimp only
    have hz:lo + r <= (arrOf st2).size:=by rw [C2.sz];omega
    by_cases e0:e > 0
    ·rw [if_pos e0]
     have k:∀p,KK κ (mirror (arrOf st2) (lo + r - (e + 1)) (lo + r) ((lo + r - (lo + r - (e + 1))) / 2)) p=KK κ (arrOf st2) p:=KK_mirror_equal hz eq
     have C3:=C2.set (mirror_perm (arrOf st2) (lo + r - (e + 1)) (lo + r) ((lo + r - (lo + r - (e + 1))) / 2)) (iS hz (by omega))
     have d3:Dec κ (mirror (arrOf st2) (lo + r - (e + 1)) (lo + r) ((lo + r - (lo + r - (e + 1))) / 2)) lo r:=fun p q hp hpq hq=>by rw [k,k];exact d2 p q hp hpq hq
     refine wpS_bind (wpS_modify ?_)
     have hy:lo + r <= _:=(show lo + r <= (mirror (arrOf st2) (lo + r - (e + 1)) (lo + r) ((lo + r - (lo + r - (e + 1))) / 2)).size by rw [mirror_size];exact hz)
     refine wpS_bind (wpS_modify ?_)
     have C4:=C3.set (mirror_perm (mirror (arrOf st2) (lo + r - (e + 1)) (lo + r) ((lo + r - (lo + r - (e + 1))) / 2)) lo (lo + r) ((lo + r - lo) / 2)) (iS hy (Nat.le_refl _))
     refine wpS_bind (wpS_mono (qE (κ:=κ) (lo:=lo) (st:=setArr (setArr st2 (mirror (arrOf st2) (lo + r - (e + 1)) (lo + r) ((lo + r - (lo + r - (e + 1))) / 2))) (mirror (mirror (arrOf st2) (lo + r - (e + 1)) (lo + r) ((lo + r - (lo + r - (e + 1))) / 2)) lo (lo + r) ((lo + r - lo) / 2))) (show 1 <= r by omega) r2 (mf hy d3) ?_) ?_)
     ·intro x n R n1 nr a1 a2
      dsimp only
      refine wpS_bind (mV hO C4 k0 (show lo + n < _ by omega) (show lo + n - 1 < _ by omega) ?_)
      dsimp only
      cases z:κ.blt (KK κ (mirror (mirror (arrOf st2) (lo + r - (e + 1)) (lo + r) ((lo + r - (lo + r - (e + 1))) / 2)) lo (lo + r) ((lo + r - lo) / 2)) (lo + n)) (KK κ (mirror (mirror (arrOf st2) (lo + r - (e + 1)) (lo + r) ((lo + r - (lo + r - (e + 1))) / 2)) lo (lo + r) ((lo + r - lo) / 2)) (lo + n - 1)) with
      | true=>exact wpS_pure (a1 z)
      | false=>exact wpS_pure (a2 z)
     ·rintro c st3 ⟨rfl,v,rfl,v1,v2,g3,_⟩
      exact wpS_pure (h v _ C4 (by omega) v2 g3)
    ·rw [if_neg e0]
     have hy:lo + r <= _:=hz
     refine wpS_bind (wpS_modify ?_)
     have C4:=C2.set (mirror_perm (arrOf st2) lo (lo + r) ((lo + r - lo) / 2)) (iS hy (Nat.le_refl _))
     refine wpS_bind (wpS_mono (qE (κ:=κ) (lo:=lo) (st:=setArr st2 (mirror (arrOf st2) lo (lo + r) ((lo + r - lo) / 2))) (show 1 <= r by omega) r2 (mf hy d2) ?_) ?_)
     ·intro x n R n1 nr a1 a2
      dsimp only
      refine wpS_bind (mV hO C4 k0 (show lo + n < _ by omega) (show lo + n - 1 < _ by omega) ?_)
      dsimp only
      cases z:κ.blt (KK κ (mirror (arrOf st2) lo (lo + r) ((lo + r - lo) / 2)) (lo + n)) (KK κ (mirror (arrOf st2) lo (lo + r) ((lo + r - lo) / 2)) (lo + n - 1)) with
      | true=>exact wpS_pure (a1 z)
      | false=>exact wpS_pure (a2 z)
     ·rintro c st3 ⟨rfl,v,rfl,v1,v2,g3,_⟩
      exact wpS_pure (h v _ C4 (by omega) v2 g3)
 ·rw [if_neg mm]
  have C1:=C
  have d1:Dec κ (arrOf st') lo (m + 1):=fun p q hp hpq hq=>by
   by_cases pq:p=q
   ·rw [pq]
    exact KeyOrd.kle_refl _
   ·rw [show q=lo + m by omega,show p=lo + m - 1 by omega]
    exact KeyOrd.kle_of_klt hm
  refine wpS_bind (wpS_lift (wpAny_rule ⟨rfl,?_⟩))
  refine wpS_bind (wpS_mono (wN (κ:=κ) (st0:=st0) (by omega) (by omega) hl C1 d1 ?_) ?_)
  ·intro x n e st R C n1 nr a1 a2 a3
   dsimp only
   refine wpS_bind (mV hO C k0 (show lo + n < _ by omega) (show lo + n - 1 < _ by omega) ?_)
   dsimp only
   cases z:κ.blt (KK κ (arrOf st) (lo + n)) (KK κ (arrOf st) (lo + n - 1)) with
   | true =>
    have a1:=a1 z
    rw [if_pos rfl]
    by_cases e0:e > 0
    ·rw [if_pos e0] at a1 ⊢
     exact wpS_bind (wpS_modify (wpS_pure a1))
    ·rw [if_neg e0] at a1 ⊢
     exact wpS_pure a1
   | false =>
    rw [if_neg Bool.false_ne_true]
    refine wpS_bind (mV hO C k0 (show lo + n - 1 < _ by omega) (show lo + n < _ by omega) ?_)
    dsimp only
    cases y:κ.blt (KK κ (arrOf st) (lo + n - 1)) (KK κ (arrOf st) (lo + n)) with
    | true=>exact wpS_pure (a2 z y)
    | false=>exact wpS_pure (a3 z y)
  ·rintro c st2 ⟨r,e,rfl,C2,r1,r2,d2,e1,eq⟩
   dsimp only
   have hz:lo + r <= (arrOf st2).size:=by rw [C2.sz];omega
   by_cases e0:e > 0
   ·rw [if_pos e0]
    have k:∀p,KK κ (mirror (arrOf st2) (lo + r - (e + 1)) (lo + r) ((lo + r - (lo + r - (e + 1))) / 2)) p=KK κ (arrOf st2) p:=KK_mirror_equal hz eq
    have C3:=C2.set (mirror_perm (arrOf st2) (lo + r - (e + 1)) (lo + r) ((lo + r - (lo + r - (e + 1))) / 2)) (iS hz (by omega))
    have d3:Dec κ (mirror (arrOf st2) (lo + r - (e + 1)) (lo + r) ((lo + r - (lo + r - (e + 1))) / 2)) lo r:=fun p q hp hpq hq=>by rw [k,k];exact d2 p q hp hpq hq
    refine wpS_bind (wpS_modify ?_)
    have hy:lo + r <= _:=(show lo + r <= (mirror (arrOf st2) (lo + r - (e + 1)) (lo + r) ((lo + r - (lo + r - (e + 1))) / 2)).size by rw [mirror_size];exact hz)
    refine wpS_bind (wpS_modify ?_)
    have C4:=C3.set (mirror_perm (mirror (arrOf st2) (lo + r - (e + 1)) (lo + r) ((lo + r - (lo + r - (e + 1))) / 2)) lo (lo + r) ((lo + r - lo) / 2)) (iS hy (Nat.le_refl _))
    refine wpS_bind (wpS_mono (qE (κ:=κ) (lo:=lo) (st:=setArr (setArr st2 (mirror (arrOf st2) (lo + r - (e + 1)) (lo + r) ((lo + r - (lo + r - (e + 1))) / 2))) (mirror (mirror (arrOf st2) (lo + r - (e + 1)) (lo + r) ((lo + r - (lo + r - (e + 1))) / 2)) lo (lo + r) ((lo + r - lo) / 2))) (show 1 <= r by omega) r2 (mf hy d3) ?_) ?_)
    ·intro x n R n1 nr a1 a2
     dsimp only
     refine wpS_bind (mV hO C4 k0 (show lo + n < _ by omega) (show lo + n - 1 < _ by omega) ?_)
     dsimp only
     cases z:κ.blt (KK κ (mirror (mirror (arrOf st2) (lo + r - (e + 1)) (lo + r) ((lo + r - (lo + r - (e + 1))) / 2)) lo (lo + r) ((lo + r - lo) / 2)) (lo + n)) (KK κ (mirror (mirror (arrOf st2) (lo + r - (e + 1)) (lo + r) ((lo + r - (lo + r - (e + 1))) / 2)) lo (lo + r) ((lo + r - lo) / 2)) (lo + n - 1)) with
     | true=>exact wpS_pure (a1 z)
     | false=>exact wpS_pure (a2 z)
    ·rintro c st3 ⟨rfl,v,rfl,v1,v2,g3,_⟩
     exact wpS_pure (h v _ C4 (by omega) v2 g3)
   ·rw [if_neg e0]
    have hy:lo + r <= _:=hz
    refine wpS_bind (wpS_modify ?_)
    have C4:=C2.set (mirror_perm (arrOf st2) lo (lo + r) ((lo + r - lo) / 2)) (iS hy (Nat.le_refl _))
    refine wpS_bind (wpS_mono (qE (κ:=κ) (lo:=lo) (st:=setArr st2 (mirror (arrOf st2) lo (lo + r) ((lo + r - lo) / 2))) (show 1 <= r by omega) r2 (mf hy d2) ?_) ?_)
    ·intro x n R n1 nr a1 a2
     dsimp only
     refine wpS_bind (mV hO C4 k0 (show lo + n < _ by omega) (show lo + n - 1 < _ by omega) ?_)
     dsimp only
     cases z:κ.blt (KK κ (mirror (arrOf st2) lo (lo + r) ((lo + r - lo) / 2)) (lo + n)) (KK κ (mirror (arrOf st2) lo (lo + r) ((lo + r - lo) / 2)) (lo + n - 1)) with
     | true=>exact wpS_pure (a1 z)
     | false=>exact wpS_pure (a2 z)
    ·rintro c st3 ⟨rfl,v,rfl,v1,v2,g3,_⟩
     exact wpS_pure (h v _ C4 (by omega) v2 g3)
end
end L2
namespace L2
open PySem PyProof.Rows
section
variable {prog:Program}{w:World}{A:Around}{E:Value->Shared->Prop}{s:Shared}{κ:KeyKind}
def Rns (κ:KeyKind) (xs:Array Keyed):Nat->List (Nat × Nat × Nat)->Nat->Prop
 | a,[],lo=>a=lo
 | a,(b,n,_) :: r,lo=>b=a/\1 <= n/\Seg κ xs a n/\Rns κ xs (a + n) r lo
theorem Rns.le {xs:Array Keyed}:∀{r:List (Nat × Nat × Nat)}{a lo:Nat},Rns κ xs a r lo->a + r.length <= lo
 | [],a,lo,h=>Nat.le_of_eq h
 | (b,n,p) :: r,a,lo,h=>by
  have:=h.2.2.2.le
  have:=h.2.1
  rw [List.length_cons]
  omega
theorem Rns.app {xs:Array Keyed}{v:List (Nat × Nat × Nat)}{lo:Nat}:∀{u:List (Nat × Nat × Nat)}{a:Nat},Rns κ xs a (u ++ v) lo->∃m,Rns κ xs a u m/\Rns κ xs m v lo
 | [],a,h=>⟨a,rfl,h⟩
 | (b,n,p) :: u,a,h=>by
  obtain ⟨m,h1,h2⟩:=Rns.app (u:=u) h.2.2.2
  exact ⟨m,⟨h.1,h.2.1,h.2.2.1,h1⟩,h2⟩
theorem Rns.cat {xs:Array Keyed}{v:List (Nat × Nat × Nat)}{m lo:Nat}:∀{u:List (Nat × Nat × Nat)}{a:Nat},Rns κ xs a u m->Rns κ xs m v lo->Rns κ xs a (u ++ v) lo
 | [],a,h,h2=>by rw [show a=m from h];exact h2
 | (b,n,p) :: u,a,h,h2=>⟨h.1,h.2.1,h.2.2.1,Rns.cat h.2.2.2 h2⟩
theorem tF {xs ys:Array Keyed}{i n:Nat} (h:Seg κ xs i n) (e:∀p,i <= p->p < i + n->ys[p]?=xs[p]?):Seg κ ys i n:=fun p q hp hpq hq=>by
 rw [KK_congr (e p hp (by omega)),KK_congr (e q (by omega) hq)]
 exact h p q hp hpq hq
theorem Rns.cg {xs ys:Array Keyed}:∀{r:List (Nat × Nat × Nat)}{a lo:Nat},Rns κ xs a r lo->(∀p,a <= p->p < lo->ys[p]?=xs[p]?)->Rns κ ys a r lo
 | [],a,lo,h,_=>h
 | (b,n,p) :: r,a,lo,h,e=>by
  have:=h.2.2.2.le
  exact ⟨h.1,h.2.1,tF h.2.2.1 (fun p p1 p2=>e p p1 (by omega)),Rns.cg h.2.2.2 fun p p1 p2=>e p (by omega) p2⟩
theorem xh {α:Type}{a b x:α}:∀(u v:List α),((u ++ a :: b :: v).set u.length x).eraseIdx (u.length + 1)=u ++ x :: v
 | [],v=>rfl
 | c :: u,v=>by
  show c :: ((u ++ a :: b :: v).set u.length x).eraseIdx (u.length + 1)=_
  rw [xh u v]
  rfl
structure Sb (st0 st:SortSt):Prop where
 kd:kindOf st=oneType'
 fl:failedOf st=none
 pm:(arrOf st).Perm (arrOf st0)
theorem xi (hO:κ.OneLt) {st0 st:SortSt}{lo i:Nat}{rs:List (Nat × Nat × Nat)}{Q:Bool->SortSt->Prop} (k0:KeysOf κ (arrOf st0)) (S:Sb st0 st) (pe:(pendingOf st).toList=rs) (R:Rns κ (arrOf st) 0 rs lo) (hlo:lo <= (arrOf st0).size) (hi:i + 1 < rs.length)
  (h:∀st' rs',Sb st0 st'->(pendingOf st').toList=rs'->Rns κ (arrOf st') 0 rs' lo->rs'.length + 1=rs.length->(∀p,lo <= p->(arrOf st')[p]?=(arrOf st)[p]?)->Q true st'):wpS (model prog w) A E s (mergeAt' i) Q st:=by
 have sz:(arrOf st).size=(arrOf st0).size:=S.pm.size_eq
 obtain ⟨⟨sa,na,pw⟩,ea⟩:∃x,rs[i]?=some x:=⟨_,List.getElem?_eq_getElem (by omega)⟩
 obtain ⟨⟨sb,nb,pw2⟩,eb⟩:∃x,rs[i + 1]?=some x:=⟨_,List.getElem?_eq_getElem hi⟩
 have es:rs=rs.take i ++ (sa,na,pw) :: (sb,nb,pw2) :: rs.drop (i + 2):=by
  have e1:=List.drop_eq_getElem_cons (l:=rs) (i:=i) (by omega)
  have e2:=List.drop_eq_getElem_cons (l:=rs) (i:=i + 1) hi
  rw [(List.getElem?_eq_some_iff.mp ea).2] at e1
  rw [(List.getElem?_eq_some_iff.mp eb).2] at e2
  conv=>lhs;rw [<- List.take_append_drop i rs,e1,e2]
 have R':=R
 rw [es] at R'
 obtain ⟨m,R1,z1,n1,g1,z2,n2,g2,R3⟩:=R'.app
 subst z1
 subst z2
 have l3:=R3.le
 have l1:=R1.le
 refine yU hO S.kd S.fl (pL k0 S.pm) (by rw [<- Array.getElem?_toList,pe];exact ea) (by rw [<- Array.getElem?_toList,pe];exact eb) n1 n2 (by rw [sz];omega) g1 g2 fun st' M h1 h2 h3 h4 h5 h6=>?_
 have lsz:(arrOf st).toList.length=(arrOf st).size:=Array.length_toList
 have lM:M.length=na + nb:=by
  rw [h6.length_eq,List.length_take,List.length_drop,lsz,sz]
  omega
 have lt:((arrOf st).toList.take sa).length=sa:=by rw [List.length_take,lsz,sz];omega
 have pm:(arrOf st').Perm (arrOf st):=by
  rw [Array.perm_iff_toList_perm,h4]
  have e:(arrOf st).toList=(arrOf st).toList.take sa ++ ((arrOf st).toList.drop sa).take (na + nb) ++ (arrOf st).toList.drop (sa + na + nb):=by
   rw [Nat.add_assoc,<- List.take_add,List.take_append_drop]
  have p:=((h6.append_left ((arrOf st).toList.take sa)).append_right ((arrOf st).toList.drop (sa + na + nb)))
  rwa [<- e] at p
 have lo1:∀p,p < sa->(arrOf st')[p]?=(arrOf st)[p]?:=fun p hp=>by
  rw [<- Array.getElem?_toList,<- Array.getElem?_toList,h4,List.append_assoc,List.getElem?_append_left (by omega),List.getElem?_take_of_lt hp]
 have hi1:∀p,sa + na + nb <= p->(arrOf st')[p]?=(arrOf st)[p]?:=fun p hp=>by
  rw [<- Array.getElem?_toList,<- Array.getElem?_toList,h4,List.getElem?_append_right (by rw [List.length_append,lt,lM];omega),List.length_append,lt,lM,List.getElem?_drop]
  congr 1
  omega
 have il:(rs.take i).length=i:=by rw [List.length_take];omega
 have ne:(pendingOf st').toList=rs.take i ++ (sa,na + nb,pw) :: rs.drop (i + 2):=by
  rw [h3,Array.toList_eraseIdxIfInBounds,Array.toList_setIfInBounds,pe]
  have e:=xh (a:=(sa,na,pw)) (b:=(sa + na,nb,pw2)) (x:=(sa,na + nb,pw)) (rs.take i) (rs.drop (i + 2))
  rwa [il,<- es] at e
 refine h st' _ ⟨h1,h2,pm.trans S.pm⟩ ne (Rns.cat (R1.cg fun p _ hp=>lo1 p hp) ⟨rfl,by omega,yZ h4 lt lM h5,?_⟩) ?_ (fun p hp=>hi1 p (by omega))
 ·rw [<- Nat.add_assoc]
  exact R3.cg fun p hp _=>hi1 p hp
 ·rw [List.length_append,List.length_cons,il,List.length_drop]
  omega
end
end L2
namespace L2
open PySem PyProof.Rows
section
variable {prog:Program}{w:World}{A:Around}{E:Value->Shared->Prop}{s:Shared}{κ:KeyKind}
theorem Rns.mod {xs:Array Keyed}{f:Nat × Nat × Nat->Nat × Nat × Nat}:∀{r:List (Nat × Nat × Nat)}{a lo:Nat} (i:Nat),(∀y,(f y).1=y.1/\(f y).2.1=y.2.1)->Rns κ xs a r lo->Rns κ xs a (r.modify i f) lo
 | [],a,lo,0,hf,h=>h
 | [],a,lo,i + 1,hf,h=>h
 | (b,n,p) :: r,a,lo,0,hf,h=>by
  obtain ⟨e1,e2⟩:=hf (b,n,p)
  show Rns κ xs a (f (b,n,p) :: r) lo
  rcases hy:f (b,n,p) with ⟨b',n',p'⟩
  rw [hy] at e1 e2
  have e1:b'=b:=e1
  have e2:n'=n:=e2
  subst e1
  subst e2
  exact h
 | (b,n,p) :: r,a,lo,i + 1,hf,h=>⟨h.1,h.2.1,h.2.2.1,Rns.mod i hf h.2.2.2⟩
theorem yk (hO:κ.OneLt) {st:SortSt}{Q:Unit->SortSt->Prop} (kd:kindOf st=oneType') (fl:failedOf st=none) (pd:pendingOf st=#[]) (k0:KeysOf κ (arrOf st))
  (h:∀st',(arrOf st').Perm (arrOf st)->failedOf st'=none->SortedToK κ (arrOf st') (arrOf st).size->Q () st'):wpS (model prog w) A E s sortRuns' Q st:=by
 rw [sortRuns'_eq]
 refine wpS_bind (wpS_get ?_)
 dsimp only
 refine wpS_bind (wpS_mono (wpS_forRange (I:=fun x c st'=>∃lo rs,c=(none,lo)/\Sb st st'/\(pendingOf st').toList=rs/\Rns κ (arrOf st') 0 rs lo/\lo <= (arrOf st).size/\x <= lo)
  (Q:=fun c st'=>∃rs,c=(none,(arrOf st).size)/\Sb st st'/\(pendingOf st').toList=rs/\Rns κ (arrOf st') 0 rs (arrOf st).size) ?s1 ?f1 ⟨0,[],rfl,⟨kd,fl,Array.Perm.refl _⟩,by rw [pd],rfl,Nat.zero_le _,Nat.zero_le _⟩) ?p1)
 case f1 =>
  rintro c st' ⟨lo,rs,rfl,S,pe,R,h1,h2⟩
  have:lo=(arrOf st).size:=by
   have:max 0 (arrOf st).size <= lo:=h2
   omega
  subst this
  exact ⟨rs,rfl,S,pe,R⟩
 case p1 =>
  rintro c st' ⟨rs,rfl,S,pe,R⟩
  dsimp only
  refine wpS_bind (wpS_mono (wpS_forRange (I:=fun x c st4=>c=(none,())/\∃rs4,Sb st st4/\(pendingOf st4).toList=rs4/\Rns κ (arrOf st4) 0 rs4 (arrOf st).size/\(rs4.length <= 1 \/ rs4.length + x <= (arrOf st).size))
   (Q:=fun c st4=>c=(none,())/\∃rs4,Sb st st4/\Rns κ (arrOf st4) 0 rs4 (arrOf st).size/\rs4.length <= 1) ?s2 ?f2 ⟨rfl,rs,S,pe,R,.inr (by have:=R.le;omega)⟩) ?p2)
  case f2 =>
   rintro c st4 ⟨rfl,rs4,S4,pe4,R4,l4⟩
   refine ⟨rfl,rs4,S4,R4,?_⟩
   have:max 0 (arrOf st).size=(arrOf st).size:=by omega
   omega
  case s2 =>
   rintro x c st4 _ hx ⟨rfl,rs4,S4,pe4,R4,l4⟩
   have z4:(pendingOf st4).size=rs4.length:=by rw [<- pe4,Array.length_toList]
   refine wpS_bind (wpS_get ?_)
   by_cases c4:(pendingOf st4).size <= 1
   ·rw [if_pos c4]
    exact wpS_pure ⟨rfl,rs4,S4,R4,by omega⟩
   ·rw [if_neg c4]
    refine wpS_bind (xi hO k0 S4 pe4 R4 (Nat.le_refl _) ?_ fun st5 rs5 S5 pe5 R5 l5 _=>?_)
    ·have hh:∀(P:Prop) [Decidable P],(if P then (pendingOf st4).size - 2 - 1 else (pendingOf st4).size - 2) + 1 < rs4.length:=fun P _=>by split <;> omega
     exact hh _
    ·rw [if_neg (by decide)]
     exact wpS_pure ⟨rfl,rs5,S5,pe5,R5,by omega⟩
  case p2 =>
   rintro c st4 ⟨rfl,rs4,S4,R4,l4⟩
   refine wpS_pure (h st4 S4.pm S4.fl fun i j hij hj=>?_)
   match rs4,R4,l4 with
   | [],e,_ =>
    have:0=(arrOf st).size:=e
    omega
   | [(b,n,p)],⟨e1,e2,g,e3⟩,_ =>
    have e3:0 + n=(arrOf st).size:=e3
    exact g i j (Nat.zero_le _) hij (by omega)
 case s1 =>
  rintro x c st' _ hx ⟨lo,rs,rfl,S,pe,R,h1,h2⟩
  dsimp only
  by_cases c1:lo ≥ (arrOf st).size
  ·rw [if_pos c1]
   have:lo=(arrOf st).size:=by omega
   subst this
   exact wpS_pure ⟨rs,rfl,S,pe,R⟩
  rw [if_neg c1]
  have z':(arrOf st').size=(arrOf st).size:=S.pm.size_eq
  have k':=pL k0 S.pm
  refine wpS_bind (zw (st0:=st') hO k' (by omega) (by rw [z'];omega) ⟨S.kd,S.fl,rfl,Array.Perm.refl _,fun _ _=>rfl⟩ fun m st2 C2 m1 m2 g2=>?_)
  dsimp only
  split
  ·next hlt =>
   refine wpS_bind (wpS_lift (wpAny_rule ⟨rfl,?_⟩))
   refine wpS_bind (yH (st0:=st') hO k' (by rw [z'];omega) (by omega) C2 g2 fun st3 C3 g3=>?_)
   rw [if_neg (by decide)]
   generalize hN:min ((arrOf st).size - lo) (minRun' (arrOf st).size (arrOf st).size 0)=N3 at g3 ⊢
   have hmr:m < minRun' (arrOf st).size (arrOf st).size 0:=hlt
   have hn1:1 <= N3:=by omega
   have hn2:lo + N3 <= (arrOf st).size:=by omega
   have S3:Sb st st3:=⟨C3.kd,C3.fl,C3.pm.trans S.pm⟩
   have pe3:(pendingOf st3).toList=rs:=by rw [C3.pd];exact pe
   have R3:Rns κ (arrOf st3) 0 rs lo:=R.cg fun p _ hp=>C3.fr p hp
   refine wpS_bind (wpS_get ?_)
   rcases eb:(pendingOf st3).back? with _ | ⟨s1,n1,p1⟩
   ·dsimp only
    refine wpS_bind (wpS_modify (wpS_pure ⟨lo + N3,rs ++ [(lo,N3,0)],rfl,⟨S3.kd,S3.fl,S3.pm⟩,?_,Rns.cat R3 ⟨rfl,hn1,g3,rfl⟩,hn2,by omega⟩))
    show ((pendingOf st3).push (lo,N3,0)).toList=_
    rw [Array.toList_push,pe3]
   ·dsimp only
    refine wpS_bind (wpS_mono (wpS_forRange (I:=fun _ c st4=>c=(none,())/\∃rs4,Sb st st4/\(pendingOf st4).toList=rs4/\Rns κ (arrOf st4) 0 rs4 lo/\Seg κ (arrOf st4) lo N3) (Q:=fun c st4=>c=(none,())/\∃rs4,Sb st st4/\(pendingOf st4).toList=rs4/\Rns κ (arrOf st4) 0 rs4 lo/\Seg κ (arrOf st4) lo N3) ?_ (fun c st4 z=>z) ⟨rfl,rs,S3,pe3,R3,g3⟩) ?_)
    ·rintro x4 c st4 _ _ ⟨rfl,rs4,S4,pe4,R4,g4⟩
     refine wpS_bind (wpS_get ?_)
     have l4:(pendingOf st4).size=rs4.length:=by rw [<- pe4,Array.length_toList]
     by_cases c4:(pendingOf st4).size > 1
     ·rw [if_pos c4,getElem?_pos (pendingOf st4) ((pendingOf st4).size - 2) (by omega)]
      rcases (pendingOf st4)[(pendingOf st4).size - 2]'(by omega) with ⟨o1,o2,o3⟩
      dsimp only
      split
      ·exact wpS_pure ⟨rfl,rs4,S4,pe4,R4,g4⟩
      ·refine wpS_bind (xi hO k0 S4 pe4 R4 (by omega) (show (pendingOf st4).size - 2 + 1 < rs4.length by omega) fun st5 rs5 S5 pe5 R5 _ fr5=>?_)
       rw [if_neg (by decide)]
       exact wpS_pure ⟨rfl,rs5,S5,pe5,R5,tF g4 fun p p1 _=>fr5 p p1⟩
     ·rw [if_neg c4]
      exact wpS_pure ⟨rfl,rs4,S4,pe4,R4,g4⟩
    ·rintro c st6 ⟨rfl,rs6,S6,pe6,R6,g6⟩
     dsimp only
     refine wpS_bind (wpS_modify ?_)
     refine wpS_bind (wpS_modify (wpS_pure ⟨lo + N3,rs6.modify ((pendingOf st6).size - 1) (fun y:Nat × Nat × Nat=>(y.1,y.2.1,power' (arrOf st).size (2 * s1 + n1) (2 * s1 + n1 + n1 + N3) (arrOf st).size)) ++ [(lo,N3,0)],rfl,⟨S6.kd,S6.fl,S6.pm⟩,?_,Rns.cat (R6.mod (f:=(fun y:Nat × Nat × Nat=>(y.1,y.2.1,power' (arrOf st).size (2 * s1 + n1) (2 * s1 + n1 + n1 + N3) (arrOf st).size))) _ (fun y=>⟨rfl,rfl⟩)) (show Rns κ (arrOf st6) lo [(lo,N3,0)] (lo + N3) from ⟨rfl,hn1,g6,rfl⟩),hn2,by omega⟩))
     show (((pendingOf st6).modify _ _).push (lo,N3,0)).toList=_
     rw [Array.toList_push,Array.toList_modify,pe6]
  ·have C3:=C2
   have g3:=g2
   have hn1:=m1
   have hn2:lo + m <= (arrOf st).size:=by omega
   have S3:Sb st st2:=⟨C3.kd,C3.fl,C3.pm.trans S.pm⟩
   have pe3:(pendingOf st2).toList=rs:=by rw [C3.pd];exact pe
   have R3:Rns κ (arrOf st2) 0 rs lo:=R.cg fun p _ hp=>C3.fr p hp
   refine wpS_bind (wpS_get ?_)
   rcases eb:(pendingOf st2).back? with _ | ⟨s1,n1,p1⟩
   ·dsimp only
    refine wpS_bind (wpS_modify (wpS_pure ⟨lo + m,rs ++ [(lo,m,0)],rfl,⟨S3.kd,S3.fl,S3.pm⟩,?_,Rns.cat R3 ⟨rfl,hn1,g3,rfl⟩,hn2,by omega⟩))
    show ((pendingOf st2).push (lo,m,0)).toList=_
    rw [Array.toList_push,pe3]
   ·dsimp only
    refine wpS_bind (wpS_mono (wpS_forRange (I:=fun _ c st4=>c=(none,())/\∃rs4,Sb st st4/\(pendingOf st4).toList=rs4/\Rns κ (arrOf st4) 0 rs4 lo/\Seg κ (arrOf st4) lo m) (Q:=fun c st4=>c=(none,())/\∃rs4,Sb st st4/\(pendingOf st4).toList=rs4/\Rns κ (arrOf st4) 0 rs4 lo/\Seg κ (arrOf st4) lo m) ?_ (fun c st4 z=>z) ⟨rfl,rs,S3,pe3,R3,g3⟩) ?_)
    ·rintro x4 c st4 _ _ ⟨rfl,rs4,S4,pe4,R4,g4⟩
     refine wpS_bind (wpS_get ?_)
     have l4:(pendingOf st4).size=rs4.length:=by rw [<- pe4,Array.length_toList]
     by_cases c4:(pendingOf st4).size > 1
     ·rw [if_pos c4,getElem?_pos (pendingOf st4) ((pendingOf st4).size - 2) (by omega)]
      rcases (pendingOf st4)[(pendingOf st4).size - 2]'(by omega) with ⟨o1,o2,o3⟩
      dsimp only
      split
      ·exact wpS_pure ⟨rfl,rs4,S4,pe4,R4,g4⟩
      ·refine wpS_bind (xi hO k0 S4 pe4 R4 (by omega) (show (pendingOf st4).size - 2 + 1 < rs4.length by omega) fun st5 rs5 S5 pe5 R5 _ fr5=>?_)
       rw [if_neg (by decide)]
       exact wpS_pure ⟨rfl,rs5,S5,pe5,R5,tF g4 fun p p1 _=>fr5 p p1⟩
     ·rw [if_neg c4]
      exact wpS_pure ⟨rfl,rs4,S4,pe4,R4,g4⟩
    ·rintro c st6 ⟨rfl,rs6,S6,pe6,R6,g6⟩
     dsimp only
     refine wpS_bind (wpS_modify ?_)
     refine wpS_bind (wpS_modify (wpS_pure ⟨lo + m,rs6.modify ((pendingOf st6).size - 1) (fun y:Nat × Nat × Nat=>(y.1,y.2.1,power' (arrOf st).size (2 * s1 + n1) (2 * s1 + n1 + n1 + m) (arrOf st).size)) ++ [(lo,m,0)],rfl,⟨S6.kd,S6.fl,S6.pm⟩,?_,Rns.cat (R6.mod (f:=(fun y:Nat × Nat × Nat=>(y.1,y.2.1,power' (arrOf st).size (2 * s1 + n1) (2 * s1 + n1 + n1 + m) (arrOf st).size))) _ (fun y=>⟨rfl,rfl⟩)) (show Rns κ (arrOf st6) lo [(lo,m,0)] (lo + m) from ⟨rfl,hn1,g6,rfl⟩),hn2,by omega⟩))
     show (((pendingOf st6).modify _ _).push (lo,m,0)).toList=_
     rw [Array.toList_push,Array.toList_modify,pe6]
end
end L2
namespace L2
open PySem PyProof.Rows
section
variable {prog:Program}{w:World}{A:Around}{E:Value->Shared->Prop}{s:Shared}{κ:KeyKind}
theorem yd (hO:κ.OneLt) {q:Addr}{xs:List Value}{n:Nat}{P:Fin->Shared->Prop} (hq:s.heap.get? q=some (seqObj "list" xs.toArray n)) (k0:KeysOf κ (pairsOf xs)) (kk:∀x y r,xs=x :: y :: r->keyKind' (x :: y :: r).toArray=pure oneType') (hs:xs.length <= sizeLine)
  (fin:∀st':SortSt,(arrOf st').Perm (pairsOf xs)->SortedToK κ (arrOf st') (pairsOf xs).size->P (.done (.ret .none)) { s with heap:=sortedHeap s.heap q xs ((arrOf st').map (·.2)) }):wpAny (model prog w) A (Builtin.«list.sort» ⟨[.ref q],[]⟩) P E s:=by
 have lt:=Heap.lt_size hq
 obtain ⟨e1,h1⟩:∃e1,(s.heap.update q (Obj.mapSeq fun _=>#[])).get? q=some (seqObj "list" #[] e1):=⟨_,get?_update_seq hq (fun _=>#[])⟩
 have h6:(((s.heap.update q (Obj.mapSeq fun _=>#[])).push (seqObj "tuple" xs.toArray 0)).push (seqObj "list" #[] 0)).get? q=some (seqObj "list" #[] e1):=(Heap.get?_push_ne _ _ _ (by rw [size_push',Heap.size_update];exact Nat.ne_of_lt (Nat.lt_succ_of_lt lt))).trans ((Heap.get?_push_ne _ _ _ (by rw [Heap.size_update];exact Nat.ne_of_lt lt)).trans h1)
 have zz:xs.toArray.size=xs.length:=by simp
 rw [list_sort_plain]
 refine wpAny_bind (listItems_at hq rfl (wpAny_bind (listUpdate_at hq rfl (wpAny_bind (seqEpoch_at h1 rfl (wpAny_bind (wpAny_newTuple (wpAny_bind (wpAny_newList (wpAny_holding ?_))))))))))
 show wpAny (model prog w) A _ P E { s with heap:=((s.heap.update q (Obj.mapSeq fun _=>#[])).push (seqObj "tuple" xs.toArray 0)).push (seqObj "list" #[] 0) }
 dsimp only
 by_cases c:xs.toArray.size < 2
 ·rw [if_pos c,if_pos c]
  refine wpAny_bind (wpAny_pure ?_)
  rw [StateT.run_pure]
  refine wpAny_bind (wpAny_pure (wpAny_bind (seqEpoch_at h6 rfl (wpAny_bind (listUpdate_at h6 rfl ?_ (hsz2:=by rw [Array.size_map];show (pairsOf xs).size <= _;rw [pairsOf_size];exact Nat.le_succ_of_le hs))))))
  simp only [bne_self_eq_false,Bool.false_eq_true,if_false]
  refine wpAny_pure (fin (SortSt.mk' general' (xs.toArray.zip xs.toArray) #[] 7 none) (Array.Perm.refl _) fun i j hij hj=>?_)
  rw [pairsOf_size] at hj
  rw [show i=j by omega]
  exact KeyOrd.kle_refl _
 ·rw [if_neg c,if_neg c]
  match xs,zz,c,hq,k0,kk,hs,fin,h6 with
  | [],_,c,_,_,_,_,_,_=>exact absurd (by decide) c
  | [_],_,c,_,_,_,_,_,_=>exact absurd (by simp) c
  | x :: y :: r,_,_,hq,k0,kk,hs,fin,h6 =>
   rw [kk _ _ _ rfl]
   refine wpAny_bind (wpAny_pure (wpAny_bind (wpAny_mono (yk (κ:=κ) hO (st:=SortSt.mk' oneType' ((x :: y :: r).toArray.zip (x :: y :: r).toArray) #[] 7 none) (Q:=fun _ st'=>(arrOf st').Perm (pairsOf (x :: y :: r))/\failedOf st'=none/\SortedToK κ (arrOf st') (pairsOf (x :: y :: r)).size) rfl rfl rfl k0 fun st' a1 a2 a3=>⟨a1,a2,a3⟩) ?_ fun _ _ e=>e)))
   rintro ⟨⟨⟩,st'⟩ s' ⟨rfl,hp,hf,g⟩
   dsimp only
   refine wpAny_bind (seqEpoch_at h6 rfl (wpAny_bind (listUpdate_at h6 rfl ?_ (hsz2:=Nat.le_trans (Nat.le_of_eq ((Array.size_map ..).trans (hp.size_eq.trans (pairsOf_size _)))) (Nat.le_succ_of_le hs)))))
   rw [hf]
   simp only [bne_self_eq_false,Bool.false_eq_true,if_false]
   exact wpAny_pure (fin st' hp g)
theorem yY (hO:κ.OneLt) {l:Addr}{xs:List Value}{Q:Value->Shared->Prop} (hl:s.heap.IsList l xs.toArray) (k0:KeysOf κ (pairsOf xs)) (kk:∀x y r,xs=x :: y :: r->keyKind' (x :: y :: r).toArray=pure oneType') (hs:xs.length <= sizeLine)
  (fin:∀st':SortSt,(arrOf st').Perm (pairsOf xs)->SortedToK κ (arrOf st') (pairsOf xs).size->Q (.ref (s.heap.objs.size + 1)) { s with heap:=sortedAll s.heap xs ((arrOf st').map (·.2)) }):wpAny (model prog w) A (call (.builtin "sorted") [.ref l]) Q E s:=by
 refine Calls.call_function_entry kind_sorted plain_sorted entry_sorted (args_sorted1 _) ?_
 unfold Builtin.«sorted»
 refine wpAny_bind (m:=checkCount "sorted" 1 1 _) (wpAny_pure (wpAny_bind (collect_list hl (wpAny_bind (wpAny_newList ?_)))))
 have z:((s.heap.push (seqObj "list" #[] 0)).update s.heap.objs.size (Obj.mapSeq (· ++ xs.toArray))).objs.size=s.heap.objs.size + 1:=(Heap.size_update ..).trans (size_push' ..)
 have hL:(((s.heap.push (seqObj "list" #[] 0)).update s.heap.objs.size (Obj.mapSeq (· ++ xs.toArray))).push (seqObj "list" xs.toArray 0)).get? (s.heap.objs.size + 1)=some (seqObj "list" xs.toArray 0):=z ▸ Heap.get?_push_size _ rfl
 show wpAny _ _ _ _ _ { s with heap:=((s.heap.push (seqObj "list" #[] 0)).update s.heap.objs.size (Obj.mapSeq (· ++ xs.toArray))).push (seqObj "list" xs.toArray 0) }
 rw [z]
 refine wpAny_bind (wpAny_holding (wpAny_call_entry slot_list_sort ⟨_,hL,rfl⟩ entry_list_sort (yd hO hL k0 kk hs fun st' a1 a2=>⟨_,rfl,wpAny_pure ⟨_,rfl,fin st' a1 a2⟩⟩) (args_list_sort _)))
end
end L2
namespace L2
open PySem PySem.Spec PyProof.Rows
theorem oV:∀{ss:List Str}{us:List Value},Vals (ss.map V.str) us->StrsAre us ss
 | [],_,h=>by cases h;exact .nil
 | n :: ss,_,h=>by
  cases h with
  | cons h r =>
   obtain ⟨t,rfl⟩:=h
   exact .cons _ _ (oV r)
theorem oB:∀{us:List Value}{ss:List Str},StrsAre us ss->Vals (ss.map V.str) us
 | _,_,.nil=>.nil
 | _,_,.cons _ t r=>.cons ⟨t,rfl⟩ (oB r)
theorem tL:∀(p:Str) (l:List Str),risingS p l=true->(p :: l).Pairwise fun a b=>a.cps.toList <= b.cps.toList
 | p,[],_=>List.pairwise_singleton _ _
 | p,x :: r,h=>by
  have h:(!ltCps x.cps.toList p.cps.toList && risingS x r)=true:=h
  rw [Bool.and_eq_true,Bool.not_eq_true',ltCps_eq,decide_eq_false_iff_not] at h
  have ih:=tL x r h.2
  have le:p.cps.toList <= x.cps.toList:=h.1
  refine List.pairwise_cons.mpr ⟨fun y hy=>?_,ih⟩
  rcases List.mem_cons.mp hy with rfl | hy
  ·exact le
  ·exact List.le_trans le (List.rel_of_pairwise_cons ih hy)
theorem ug:∀(l:List Str),sortedS l=true->l.Pairwise fun a b=>a.cps.toList <= b.cps.toList
 | [],_=>.nil
 | x :: r,h=>tL x r h
theorem we {a b:List Str} (p:a.Perm b) (ha:sortedS a=true) (hb:sortedS b=true):a=b :=
 List.Perm.eq_of_pairwise (le:=fun a b=>a.cps.toList <= b.cps.toList) (fun x y _ _ h1 h2=>by
  have e:x.cps.toList=y.cps.toList:=List.le_antisymm h1 h2
  obtain ⟨⟨x⟩⟩:=x
  obtain ⟨⟨y⟩⟩:=y
  cases e
  rfl) (ug a ha) (ug b hb) p
section
variable {X:Cx}
theorem oq:b7 X (.builtin "sorted") (fun xs H Q=>∃(p:Addr) (ss:List Str),xs=[.ref p]/\SqL X.K H p (ss.map V.str)/\∀(l:Addr) (ss':List Str),ss'.Perm ss->sortedS ss'=true->H l=none->Q (.ref l) (upd H l (.lst (ss'.map V.str)))):=by
 intro pins s σ H xs us Q I r h
 obtain ⟨p,ss,rfl,hq,q⟩:=h
 obtain ⟨u,rfl,rx⟩:=vals1 r
 cases rx
 obtain ⟨its,rv,pl,hz⟩:=I.list hq
 have el:=rv.length
 have hS:=oV rv
 have hp:s.heap.objs.size <= s.heap.objs.size + 1:=Nat.le_succ _
 have hN:H (s.heap.objs.size + 1)=none:=I.hok.fresh hp
 rw [List.length_map] at el
 refine yY strKind_oneLt pl.isList hS.keysOf (fun x y r e=>keyKind_strs (by rw [<- e];exact hS)) (by rw [<- el];simpa using hz) fun st' p1 p2=>?_
 obtain ⟨ss',a1,a2,a3⟩:=sorted_out_str hS p1 p2
 refine ⟨.ref (s.heap.objs.size + 1),_,I.laid (t':=s.toks) (fun b o e=>sortedAll_old e) hp ?_,rfl,q _ ss' a2 a3 hN⟩
 obtain ⟨e,he⟩:=sortedAll_at s.heap its ((arrOf st').map (·.2))
 have l3:=a2.length_eq
 exact ⟨by rw [List.length_map,l3];simpa using hz,_,e,oB a1,by rw [Array.toArray_toList];exact he⟩
end
end L2
namespace K30
open PySem L2
theorem scM {N P:List Str}{sc:Scope} (k:sc.kind=.function:=by rfl) (c:sc.isCoroutine=false:=by rfl) (g:sc.isGenerator=false:=by rfl) (n:N.Nodup:=by decide +kernel) (p:N.take P.length=P:=by rfl) (q:∀x ∈ P,sc.names.lookup x=some .local \/ sc.names.lookup x=some .cell:=by decide +kernel) (f:∀y ∈ sc.names,y.2 ≠ .free:=by decide +kernel):az N P sc:=⟨k,c,g,n,p,q,f⟩
theorem px {X:Cx}{a b:Expr}{ta tb:TE}{pos:Pos} (hu:X.A.units + 64 < cLine) (ha:PE X a ta) (hb:PE X b tb) (hs:uC b:=by exact fun _ _=>rfl):PE X (.Subscript a b pos) (tOp (Cp X.K) ta tb):=Bx (AO hu) ha hb hs
theorem pgn {X:Cx}{pos:Pos}{i:Nat}{x:Str} (hN:X.N.Nodup) (hi:X.N[i]?=some x) (hx:Loc X.env.scope x:=by first | exact Or.inl rfl | exact Or.inr rfl) (hf:X.fn x=true \/ X.env.scope.names.lookup x=some .local:=by first | exact .inl rfl | exact .inr rfl | assumption):PG X (.Name x pos) (jA i):=uX hN hi hx hf
theorem pst {X:Cx} (i:Nat) {x:Str}{e:Expr}{te:TE}{pos pos':Pos} (hN:X.N.Nodup) (he:PE X e te) (hi:X.N[i]?=some x:=by rfl) (hx:Loc X.env.scope x:=by first | exact Or.inl rfl | exact Or.inr rfl) (hs:swapsWith e (some (.Name x pos')) pos.line X.env=pure false:=by rfl) (hf:X.fn x=true \/ X.env.scope.names.lookup x=some .local:=by first | exact .inl rfl | exact .inr rfl | assumption):PS X (.Assign [.Name x pos'] e pos) (yw te (jA i)):=zY hN hi hx he hs hf
theorem pcB {X:Cx}{id:String}{r:List V->Hp->VK->Prop}{x:Str}{e:Expr}{es:List Expr}{t:TA}{p pos:Pos} (hc:b7 X (.builtin id) r) (hm:X.mg x=none) (ha:PA X (e :: es) t) (hg:Gl X x:=by rfl) (hv:bootBuiltins x=some (.builtin id):=by boot_by_name) (hn:x ≠ "__name__":=by decide) (hdb:(x == ("__debug__":Str))=false:=by decide) (he:starEach (e :: es) X.env=(false,eval e X.env) :: starEach es X.env:=by rfl) (hpl:(backTo pos (starEach es X.env)).any (·.1)=false:=by rfl):PE X (.Call (.Name x p) (e :: es) [] pos) (tCB r t):=xN hc hg hm hv ha hn hdb he hpl
theorem pcT {X:Cx}{T:String}{r:List V->Hp->VK->Prop}{x:Str}{e:Expr}{es:List Expr}{t:TA}{p pos:Pos} (hc:b7 X (.type T) r) (hm:X.mg x=none) (ha:PA X (e :: es) t) (hg:Gl X x:=by rfl) (hv:bootBuiltins x=some (.type T):=by boot_by_name) (hn:x ≠ "__name__":=by decide) (hdb:(x == ("__debug__":Str))=false:=by decide) (he:starEach (e :: es) X.env=(false,eval e X.env) :: starEach es X.env:=by rfl) (hpl:(backTo pos (starEach es X.env)).any (·.1)=false:=by rfl):PE X (.Call (.Name x p) (e :: es) [] pos) (tCB r t):=vm hc hg hm hv ha hn hdb he hpl
theorem ptc {X:Cx}{a b:Expr}{ta tb:TE}{pos:Pos}{op:CmpOp}{r:R2} (ho:OpR X (compareOp op) r) (ha:PE X a ta) (hb:PE X b tb) (hm:behindInMarks op b=false:=by exact xU _):PT X (.Compare a [op] [b] pos) (zJ (tOp r ta tb)):=zf ho ha hb hm
theorem pec {X:Cx}{a b:Expr}{ta tb:TE}{pos:Pos}{op:CmpOp}{r:R2} (ho:OpR X (compareOp op) r) (ha:PE X a ta) (hb:PE X b tb) (hm:behindInMarks op b=false:=by exact xU _):PE X (.Compare a [op] [b] pos) (tOp r ta tb):=zx ho ha hb hm
abbrev i8:Stmt:=top 19
theorem o6:az ["number"] ["number"] (ar i8):=scM
abbrev iz:Stmt:=top 20
theorem dG:az ["rows","place","loop","found","row"] ["rows","place","loop"] (ar iz):=scM
abbrev fT:Stmt:=top 21
theorem iF:az ["row","loop","here"] ["row","loop"] (ar fT):=scM
abbrev ez:Stmt:=top 22
theorem dm:az ["program","found","deed"] ["program"] (ar ez):=scM
abbrev jG:Stmt:=top 23
theorem rn:az ["row"] ["row"] (ar jG):=scM
abbrev gm:Stmt:=top 24
theorem eg:az ["heads","found","head"] ["heads"] (ar gm):=scM
abbrev mq:Stmt:=top 25
theorem dP:az ["program","found","deed","row","place","loop"] ["program"] (ar mq):=scM
abbrev qb:Stmt:=top 26
theorem wB:az ["program"] ["program"] (ar qb):=scM
abbrev fN:Stmt:=top 28
theorem fb:az ["_law_script","_law_k","_law_cell"] ["_law_script","_law_k"] (ar fN):=scM
abbrev jR:Stmt:=top 29
theorem rf:az ["_law_script","_law_at","_law_many"] ["_law_script","_law_at","_law_many"] (ar jR):=scM
abbrev ll:Stmt:=top 30
theorem eU:az ["_law_cell","_law_k","_law_digits","_law_ahead","_law_number"] ["_law_cell","_law_k"] (ar ll):=scM
abbrev iJ:Stmt:=top 31
theorem bh:az ["_law_cell","_law_other","_law_many","_law_words","_law_letters","_law_step","_law_found","_law_k","_law_number","_law_word"] ["_law_cell","_law_other","_law_many"] (ar iJ):=scM
abbrev jQ:Stmt:=top 32
theorem qU:az ["_law_some","_law_number"] ["_law_some","_law_number"] (ar jQ):=scM
abbrev iN:Stmt:=top 33
theorem bQ:az ["_law_names_here","_law_cell","_law_ranks","_law_rows","_law_turn"] ["_law_names_here","_law_cell"] (ar iN):=scM
abbrev je:Stmt:=top 34
theorem gI:az ["_law_names_here","_law_parts","_law_targets","_law_found"] ["_law_names_here","_law_parts"] (ar je):=scM
abbrev iq:Stmt:=top 35
theorem pO:az ["_law_number","_law_scope_here"] ["_law_number","_law_scope_here"] (ar iq):=scM
abbrev iU:Stmt:=top 36
theorem dM:az ["_law_cell","_law_scope_here","_law_one","_law_other","_law_number"] ["_law_cell","_law_scope_here"] (ar iU):=scM
abbrev iV:Stmt:=top 37
theorem cH:az ["_law_state","_law_cell","_law_scope_here","_law_way","_law_value_here","_law_number","_law_target"] ["_law_state","_law_cell","_law_scope_here"] (ar iV):=scM
abbrev gN:Stmt:=top 38
theorem bT:az ["_law_state","_law_cell","_law_scope_here","_law_loop","_law_number","_law_left","_law_right","_law_many"] ["_law_state","_law_cell","_law_scope_here","_law_loop"] (ar gN):=scM
abbrev gK:Stmt:=top 39
theorem nM:az ["_law_state"] ["_law_state"] (ar gK):=scM
abbrev lj:Stmt:=top 40
theorem fm:az ["_law_state","_law_cell","_law_scope_here","_law_way","_law_name","_law_many","_law_cost"] ["_law_state","_law_cell","_law_scope_here"] (ar lj):=scM
abbrev jM:Stmt:=top 41
theorem jd:az ["_law_state","_law_cells","_law_scope_here","_law_room","_law_found","_law_cell"] ["_law_state","_law_cells","_law_scope_here","_law_room"] (ar jM):=scM
abbrev jU:Stmt:=top 42
theorem a9:az ["_law_script","_law_names_here","_law_cell","_law_state","_law_rows","_law_at","_law_k","_law_start","_law_name","_law_parts","_law_many","_law_cells"] ["_law_script","_law_names_here"] (ar jU):=scM
abbrev eE:Stmt:=top 43
theorem lV:az ["_law_row_here","_law_number"] ["_law_row_here","_law_number"] (ar eE):=scM
abbrev dg:Stmt:=top 44
theorem aJ:az ["_law_flat_here","_law_at","_law_found","_law_row_here","_law_number","_law_first","_law_other","_law_body_here"] ["_law_flat_here","_law_at"] (ar dg):=scM
abbrev fP:Stmt:=top 45
theorem aT:az ["_law_flat_here","_law_heads_here","_law_deeds","_law_at","_law_number","_law_body_here","_law_end","_law_main"] ["_law_flat_here"] (ar fP):=scM
abbrev jT:Stmt:=top 46
theorem cv:az ["_law_flat_here","_law_found","_law_stack","_law_at","_law_row_here"] ["_law_flat_here"] (ar jT):=scM
abbrev kU:Stmt:=top 47
theorem gP:az ["_law_flat_here","_law_some","_law_at","_law_row_here"] ["_law_flat_here"] (ar kU):=scM
abbrev gQ:Stmt:=top 48
theorem jn:az ["_law_program_here","_law_due_here","_law_found"] ["_law_program_here","_law_due_here"] (ar gQ):=scM
abbrev ix:Stmt:=top 49
theorem gS:az ["_law_program_here","_law_due_here","_law_found","_law_number"] ["_law_program_here","_law_due_here"] (ar ix):=scM
abbrev mX:Stmt:=top 50
theorem iY:az ["_law_script","_law_names_here","_law_flat_here","_law_program_here","_law_lain_here","_law_due_here","_law_at","_law_k"] ["_law_script"] (ar mX):=scM
abbrev cS:Stmt:=inClass (top 2) 0
theorem rG:az ["self","number"] ["self","number"] (ar cS):=scM
abbrev fw:Stmt:=inClass (top 3) 0
theorem lH:az ["self","number","name","rank"] ["self","number","name","rank"] (ar fw):=scM
abbrev df:Stmt:=inClass (top 4) 0
theorem kN:az ["self","number","name","rank","size"] ["self","number","name","rank","size"] (ar df):=scM
abbrev gc:Stmt:=inClass (top 5) 0
theorem mw:az ["self","number","name","size"] ["self","number","name","size"] (ar gc):=scM
abbrev fL:Stmt:=inClass (top 6) 0
theorem nG:az ["self","number","name","rank"] ["self","number","name","rank"] (ar fL):=scM
abbrev gg:Stmt:=inClass (top 7) 0
theorem nC:az ["self","number","name","value"] ["self","number","name","value"] (ar gg):=scM
abbrev gj:Stmt:=inClass (top 8) 0
theorem mT:az ["self","number","name","place","value"] ["self","number","name","place","value"] (ar gj):=scM
abbrev dW:Stmt:=inClass (top 9) 0
theorem lR:az ["self","number","name","value"] ["self","number","name","value"] (ar dW):=scM
abbrev gk:Stmt:=inClass (top 10) 0
theorem mZ:az ["self","number","name","value","mark"] ["self","number","name","value","mark"] (ar gk):=scM
abbrev eO:Stmt:=inClass (top 11) 0
theorem lF:az ["self","number","name","things"] ["self","number","name","things"] (ar eO):=scM
abbrev gT:Stmt:=inClass (top 13) 0
theorem nO:az ["self","number","value","first","other","left","right"] ["self","number","value","first","other","left","right"] (ar gT):=scM
abbrev dZ:Stmt:=inClass (top 14) 0
theorem lK:az ["self","number","thing","most","body","left","right"] ["self","number","thing","most","body","left","right"] (ar dZ):=scM
abbrev eV:Stmt:=inClass (top 15) 0
theorem lQ:az ["self","number","name","parts","body"] ["self","number","name","parts","body"] (ar eV):=scM
abbrev eG:Stmt:=inClass (top 16) 0
theorem lO:az ["self","heads","deeds","main"] ["self","heads","deeds","main"] (ar eG):=scM
structure Adr where
 Row:Addr
 bE:Addr
 a7:Addr
 bU:Addr
 bV:Addr
 bW:Addr
 bL:Addr
 bD:Addr
 bM:Addr
 bC:Addr
 bX:Addr
 bR:Addr
 aV:Addr
 br:Addr
 Program:Addr
structure Txt (K:W.Frag) (mg:Str->Option Value) (A:Adr):Prop where
 kK:bp K mg "row_place" i8 ["number"]
 dO:bp K mg "laid_rows" iz ["rows","place","loop"]
 fG:bp K mg "laid_inside" fT ["row","loop"]
 gO:bp K mg "laid_program" ez ["program"]
 mD:bp K mg "is_place" jG ["row"]
 iR:bp K mg "head_places" gm ["heads"]
 places:bp K mg "places" mq ["program"]
 under:bp K mg "under" qb ["program"]
 iM:bp K mg "_law_cell_at" fN ["_law_script","_law_k"]
 mN:bp K mg "_law_more" jR ["_law_script","_law_at","_law_many"]
 pZ:bp K mg "_law_mix" ll ["_law_cell","_law_k"]
 kG:bp K mg "_law_names" iJ ["_law_cell","_law_other","_law_many"]
 mS:bp K mg "_law_pick" jQ ["_law_some","_law_number"]
 ko:bp K mg "_law_heads" iN ["_law_names_here","_law_cell"]
 kr:bp K mg "_law_scope" je ["_law_names_here","_law_parts"]
 kJ:bp K mg "_law_thing" iq ["_law_number","_law_scope_here"]
 kZ:bp K mg "_law_value" iU ["_law_cell","_law_scope_here"]
 kD:bp K mg "_law_plain" iV ["_law_state","_law_cell","_law_scope_here"]
 jS:bp K mg "_law_opened" gN ["_law_state","_law_cell","_law_scope_here","_law_loop"]
 jO:bp K mg "_law_closed" gK ["_law_state"]
 qp:bp K mg "_law_row" lj ["_law_state","_law_cell","_law_scope_here"]
 nj:bp K mg "_law_body" jM ["_law_state","_law_cells","_law_scope_here","_law_room"]
 nh:bp K mg "_law_flat" jU ["_law_script","_law_names_here"]
 gL:bp K mg "_law_row_made" eE ["_law_row_here","_law_number"]
 bS:bp K mg "_law_rows_made" dg ["_law_flat_here","_law_at"]
 jc:bp K mg "_law_program" fP ["_law_flat_here"]
 mr:bp K mg "_law_lain" jT ["_law_flat_here"]
 pj:bp K mg "_law_due" kU ["_law_flat_here"]
 jF:bp K mg "_law_places" gQ ["_law_program_here","_law_due_here"]
 kI:bp K mg "_law_under" ix ["_law_program_here","_law_due_here"]
 uc:mg "all"=none
 ng:mg "dict"=none
 aK:mg "isinstance"=none
 fJ:mg "len"=none
 cn:mg "list"=none
 bY:mg "range"=none
 i7:mg "sorted"=none
 lB:mg "str"=none
 tH:∃t,mg "CLOCK"=some (.str "the clock" t)
 gz:cE K mg A.Row "Row" [A.Row]
 nE:MFn K A.Row "__init__" "Row.__init__" cS ["self","number"]
 gE:cE K mg A.bE "HandRow" [A.bE,A.Row]
 ft:MFn K A.bE "__init__" "HandRow.__init__" fw ["self","number","name","rank"]
 iL:aC K A.bE "name"
 ij:aC K A.bE "rank"
 cJ:aC K A.bE "number"
 cm:cE K mg A.a7 "GivenRow" [A.a7,A.Row]
 dy:MFn K A.a7 "__init__" "GivenRow.__init__" df ["self","number","name","rank","size"]
 dq:aC K A.a7 "name"
 hE:aC K A.a7 "rank"
 gW:aC K A.a7 "size"
 cG:aC K A.a7 "number"
 eP:cE K mg A.bU "OwnRow" [A.bU,A.Row]
 fU:MFn K A.bU "__init__" "OwnRow.__init__" gc ["self","number","name","size"]
 f9:aC K A.bU "name"
 jy:aC K A.bU "size"
 dh:aC K A.bU "number"
 eX:cE K mg A.bV "LetRow" [A.bV,A.Row]
 fS:MFn K A.bV "__init__" "LetRow.__init__" fL ["self","number","name","rank"]
 gb:aC K A.bV "name"
 jt:aC K A.bV "rank"
 dz:aC K A.bV "number"
 iG:cE K mg A.bW "SetRow" [A.bW,A.Row]
 gn:MFn K A.bW "__init__" "SetRow.__init__" gg ["self","number","name","value"]
 jC:aC K A.bW "name"
 iC:aC K A.bW "value"
 dv:aC K A.bW "number"
 i9:cE K mg A.bL "PutRow" [A.bL,A.Row]
 fX:MFn K A.bL "__init__" "PutRow.__init__" gj ["self","number","name","place","value"]
 ju:aC K A.bL "name"
 iZ:aC K A.bL "place"
 i3:aC K A.bL "value"
 dD:aC K A.bL "number"
 dN:cE K mg A.bD "SendRow" [A.bD,A.Row]
 dQ:MFn K A.bD "__init__" "SendRow.__init__" dW ["self","number","name","value"]
 iW:aC K A.bD "name"
 hZ:aC K A.bD "value"
 cN:aC K A.bD "number"
 gG:cE K mg A.bM "SayRow" [A.bM,A.Row]
 gh:MFn K A.bM "__init__" "SayRow.__init__" gk ["self","number","name","value","mark"]
 jD:aC K A.bM "name"
 iE:aC K A.bM "value"
 jx:aC K A.bM "mark"
 dC:aC K A.bM "number"
 gu:cE K mg A.bC "CallRow" [A.bC,A.Row]
 fo:MFn K A.bC "__init__" "CallRow.__init__" eO ["self","number","name","things"]
 i5:aC K A.bC "name"
 gq:aC K A.bC "things"
 cO:aC K A.bC "number"
 gC:cE K mg A.bX "LastRow" [A.bX,A.Row]
 iX:MFn K A.bX "__init__" "Row.__init__" cS ["self","number"]
 cV:aC K A.bX "number"
 dH:cE K mg A.bR "IfRow" [A.bR,A.Row]
 gM:MFn K A.bR "__init__" "IfRow.__init__" gT ["self","number","value","first","other","left","right"]
 jB:aC K A.bR "value"
 gi:aC K A.bR "first"
 fQ:aC K A.bR "other"
 jW:aC K A.bR "left"
 jq:aC K A.bR "right"
 dY:aC K A.bR "number"
 cw:cE K mg A.aV "LoopRow" [A.aV,A.Row]
 fu:MFn K A.aV "__init__" "LoopRow.__init__" dZ ["self","number","thing","most","body","left","right"]
 gZ:aC K A.aV "thing"
 i6:aC K A.aV "most"
 eY:aC K A.aV "body"
 iQ:aC K A.aV "left"
 gX:aC K A.aV "right"
 cU:aC K A.aV "number"
 b5:cE K mg A.br "DeedRow" [A.br,A.Row]
 eT:MFn K A.br "__init__" "DeedRow.__init__" eV ["self","number","name","parts","body"]
 cz:aC K A.br "name"
 dw:aC K A.br "parts"
 dU:aC K A.br "body"
 cP:aC K A.br "number"
 cW:cE K mg A.Program "Program" [A.Program]
 er:MFn K A.Program "__init__" "Program.__init__" eG ["self","heads","deeds","main"]
 da:aC K A.Program "heads"
 cj:aC K A.Program "deeds"
 eN:aC K A.Program "main"
 aZ:OfC K A.Row "__init__"
 nd:[A.Row,A.bE,A.a7,A.bU,A.bV,A.bW,A.bL,A.bD,A.bM,A.bC,A.bX,A.bR,A.aV,A.br,A.Program].Nodup
section
variable {P:Program}{w:World}{K:W.Frag}{mg:Str->Option Value}{base:Heap}{A:Adr}
theorem alc {H:Hp}{p:Addr} (h:H p=none) (o:HO):ah H (upd H p o)/\upd H p o p=some o:=⟨ah.upd h o,ak⟩
theorem Aw:W.kitOne K (.type "list") (.type "list")=some true:=by kernel_rfl!
theorem Bv:W.kitOne K (.type "dict") (.type "dict")=some true:=by kernel_rfl!
theorem sz {n:Nat} (h:n <= 1000):n <= sizeLine:=Nat.le_of_lt (aG h)
theorem bx (x:Int) {m:Int} (hm:0 < m):0 <= x % m/\x % m < m:=⟨Int.emod_nonneg x (show m ≠ 0 by omega),Int.emod_lt_of_pos x hm⟩
theorem yP {α:Type}{xs:List α}{k:Int} (h0:0 <= k) (h1:k < (xs.length:Int)):∃x,xs[k.toNat]?=some x/\atI xs k=some x:=by
 have hk:k.toNat < xs.length:=by omega
 have e:=jf (xs:=xs) (j:=k.toNat) (List.getElem?_eq_getElem hk)
 rw [show ((k.toNat:Nat):Int)=k by omega] at e
 exact ⟨_,List.getElem?_eq_getElem hk,e⟩
theorem rp {α:Type} (xs:List α):xs.filter (fun _=>true)=xs:=List.filter_eq_self.mpr fun _ _=>rfl
end
section
variable {P:Program}{w:World}{K:W.Frag}{mg:Str->Option Value}{base:Heap}{A:Adr}
theorem ah.out {H0 H:Hp} (s:ah H0 H) {x:Addr} (h:H0 x=none) (u:HO):ah H0 (upd H x u):=fun a o q=>by
 rw [aI (fun z=>by rw [z,h] at q;cases q)]
 exact s a o q
theorem ao {H:Hp}{x a:Addr}{u o:HO} (n:a ≠ x) (e:H a=some o):upd H x u a=some o:=by rw [aI n];exact e
theorem fresh_ne {H:Hp}{x y:Addr}{o:HO} (h:H x=none) (e:H y=some o):x ≠ y:=fun z=>by rw [z,e] at h;cases h
def Ks (H0:Hp) (x:Addr) (H:Hp):List (Addr × HO)->Prop
 | []=>True
 | p :: ks=>(H p.1=some p.2/\p.1 ≠ x/\H0 p.1=none)/\Ks H0 x H ks
theorem Ks.imp {H0 H H':Hp}{x:Addr} (f:∀a o,a ≠ x->H a=some o->H' a=some o):∀{ks:List (Addr × HO)},Ks H0 x H ks->Ks H0 x H' ks
 | [],_=>trivial
 | _ :: _,⟨⟨h1,h2,h3⟩,t⟩=>⟨⟨f _ _ h2 h1,h2,h3⟩,Ks.imp f t⟩
structure IA (K:W.Frag) (H0:Hp) (x C dx:Addr) (fs:List (Str × V)) (m:Nat) (ks:List (Addr × HO)) (H:Hp):Prop where
 s:ah H0 H
 i:H x=some (.ins C dx fs)
 k:Ks H0 x H ks
 x:H0 x=none
 c:Cls K C
 l:fs.length <= m
theorem IA.one {H:Hp}{x C dx:Addr} (hx:H x=none) (hd:H dx=none) (c:Cls K C):IA K H x C dx [] 0 [] (upd (upd H dx (.own x)) x (.ins C dx [])):=⟨ah.out (ah.upd hd _) hx _,ak,trivial,hx,c,Nat.le_refl _⟩
section
variable {H0 H:Hp}{x C dx:Addr}{fs:List (Str × V)}{m:Nat}{ks:List (Addr × HO)}
theorem uI (f:Str) (v:V):∀fs:List (Str × V),(fe f v fs).length <= fs.length + 1
 | []=>Nat.le_refl _
 | (g,x) :: r=>by
  unfold fe
  split
  ·exact Nat.le_succ _
  ·exact Nat.succ_le_succ (uI f v r)
theorem IA.put (a:IA K H0 x C dx fs m ks H) (f:Str) (v:V):IA K H0 x C dx (fe f v fs) (m + 1) ks (upd H x (.ins C dx (fe f v fs))):=⟨ah.out a.s a.x _,ak,a.k.imp fun _ _ h e=>ao h e,a.x,a.c,Nat.le_trans (uI f v fs) (Nat.succ_le_succ a.l)⟩
theorem IA.fld {f:Str}{v:V}{Q:Hp->Prop} (a:IA K H0 x C dx fs m ks H) (n:aC K C f) (k:∀H',IA K H0 x C dx (fe f v fs) (m + 1) ks H'->Q H') (l:m < 1000:=by decide):zV K f v (.ref x) H Q:=⟨x,C,dx,fs,rfl,a.i,a.c,n,Nat.lt_of_le_of_lt a.l l,k _ (a.put _ _)⟩
theorem IA.nw {n:Addr} (a:IA K H0 x C dx fs m ks H) (hn:H n=none) (o:HO):IA K H0 x C dx fs m ((n,o) :: ks) (upd H n o) :=
 have e:n ≠ x:=fun z=>by rw [z,a.i] at hn;cases hn
 ⟨a.s.trans (ah.upd hn _),ao e.symm a.i,⟨⟨ak,e,ah.free a.s hn⟩,a.k.imp fun _ _ _ h=>ah.upd hn _ _ _ h⟩,a.x,a.c,a.l⟩
end
inductive c0 (K:W.Frag) (A:Adr) (vs:List V) (H:Hp) (Q:VK) (E9:XK):Prop
 | mk (x C dx:Addr) (fs:List (Str × V)) (n:V) (z0:vs=[.ref x,n]) (z1:H x=some (.ins C dx fs)) (z2:Cls K C) (z3:aC K C "number") (z4:fs.length < 1000) (z5:Q .non (upd H x (.ins C dx (fe "number" n fs)))):c0 K A vs H Q E9
theorem jw {C:Addr} (F:MFn K C "__init__" "Row.__init__" cS ["self","number"]):vN P w K mg base 2 C "__init__" ["self","number"] (c0 K A):=by
 refine F.hs (k:=1) rG (fun f cdv A' outer s H vs Q E hr hu h=>?_)
 obtain ⟨x,C,dx,fs,n,rfl,hx,c,na,hl,q⟩:=h
 exact ⟨_,(ai (aQ (fv 0) (fv 1) rfl)),⟨x,C,dx,fs,rfl,hx,c,na,hl,q⟩⟩
theorem bz (T:Txt K mg A):vN P w K mg base 2 A.Row "__init__" ["self","number"] (c0 K A):=jw T.nE
theorem IA.row {H0 H:Hp}{x C dx:Addr}{ks:List (Addr × HO)}{v:V}{Q:VK} (a:IA K H0 x C dx [] 0 ks H) (n:aC K C "number") (k:∀H',IA K H0 x C dx (fe "number" v []) 1 ks H'->Q .non H'):c0 K A [.ref x,v] H Q E0:=⟨x,C,dx,[],v,rfl,a.i,a.c,n,by decide,k _ (a.put _ _)⟩
inductive gY (K:W.Frag) (A:Adr) (vs:List V) (G:Hp) (R:VK) (E9:XK):Prop
 | mk (x dx:Addr) (v0 v1 v2:V) (H:Hp) (z0:vs=[.ref x,v0,v1,v2]) (z1:G=upd (upd H dx (.own x)) x (.ins A.bE dx [])) (z2:H x=none) (z3:H dx=none) (z4:∀(H':Hp),ah H H'->H' x=some (.ins A.bE dx [("number",v0),("name",v1),("rank",v2)])->R .non H'):gY K A vs G R E9
theorem nc (T:Txt K mg A):T.ft.Hz P w mg base 3 (gY K A):=by
 refine T.ft.hs (k:=2) lH (fun f cdv A' outer s G vs R E hr hu h=>?_)
 obtain ⟨x,dx,v0,v1,v2,H,rfl,rfl,hx,hd,q⟩:=h
 refine ⟨_,(ab (aD (bF T.gz T.aZ (bz T) hr (aa (fv 0) (aa (fv 1) ae))))
 (ab (aQ (fv 0) (fv 2) rfl)
 (ai (aQ (fv 0) (fv 3) rfl)))),?_⟩
 exact (IA.one (C:=A.bE) hx hd T.gE.cl).row T.cJ fun H a=>a.fld T.iL fun H a=>a.fld T.ij fun H a=>q _ a.s a.i
inductive gw (K:W.Frag) (A:Adr) (vs:List V) (G:Hp) (R:VK) (E9:XK):Prop
 | mk (x dx:Addr) (v0 v1 v2 v3:V) (H:Hp) (z0:vs=[.ref x,v0,v1,v2,v3]) (z1:G=upd (upd H dx (.own x)) x (.ins A.a7 dx [])) (z2:H x=none) (z3:H dx=none) (z4:∀(H':Hp),ah H H'->H' x=some (.ins A.a7 dx [("number",v0),("name",v1),("rank",v2),("size",v3)])->R .non H'):gw K A vs G R E9
theorem lW (T:Txt K mg A):T.dy.Hz P w mg base 3 (gw K A):=by
 refine T.dy.hs (k:=2) kN (fun f cdv A' outer s G vs R E hr hu h=>?_)
 obtain ⟨x,dx,v0,v1,v2,v3,H,rfl,rfl,hx,hd,q⟩:=h
 refine ⟨_,(ab (aD (bF T.gz T.aZ (bz T) hr (aa (fv 0) (aa (fv 1) ae))))
 (ab (aQ (fv 0) (fv 2) rfl)
 (ab (aQ (fv 0) (fv 3) rfl)
 (ai (aQ (fv 0) (fv 4) rfl))))),?_⟩
 exact (IA.one (C:=A.a7) hx hd T.cm.cl).row T.cG fun H a=>a.fld T.dq fun H a=>a.fld T.hE fun H a=>a.fld T.gW fun H a=>q _ a.s a.i
inductive iP (K:W.Frag) (A:Adr) (vs:List V) (G:Hp) (R:VK) (E9:XK):Prop
 | mk (x dx:Addr) (v0 v1 v2:V) (H:Hp) (z0:vs=[.ref x,v0,v1,v2]) (z1:G=upd (upd H dx (.own x)) x (.ins A.bU dx [])) (z2:H x=none) (z3:H dx=none) (z4:∀(H':Hp),ah H H'->H' x=some (.ins A.bU dx [("number",v0),("name",v1),("size",v2)])->R .non H'):iP K A vs G R E9
theorem nS (T:Txt K mg A):T.fU.Hz P w mg base 3 (iP K A):=by
 refine T.fU.hs (k:=2) mw (fun f cdv A' outer s G vs R E hr hu h=>?_)
 obtain ⟨x,dx,v0,v1,v2,H,rfl,rfl,hx,hd,q⟩:=h
 refine ⟨_,(ab (aD (bF T.gz T.aZ (bz T) hr (aa (fv 0) (aa (fv 1) ae))))
 (ab (aQ (fv 0) (fv 2) rfl)
 (ai (aQ (fv 0) (fv 3) rfl)))),?_⟩
 exact (IA.one (C:=A.bU) hx hd T.eP.cl).row T.dh fun H a=>a.fld T.f9 fun H a=>a.fld T.jy fun H a=>q _ a.s a.i
inductive iO (K:W.Frag) (A:Adr) (vs:List V) (G:Hp) (R:VK) (E9:XK):Prop
 | mk (x dx:Addr) (v0 v1 v2:V) (H:Hp) (z0:vs=[.ref x,v0,v1,v2]) (z1:G=upd (upd H dx (.own x)) x (.ins A.bV dx [])) (z2:H x=none) (z3:H dx=none) (z4:∀(H':Hp),ah H H'->H' x=some (.ins A.bV dx [("number",v0),("name",v1),("rank",v2)])->R .non H'):iO K A vs G R E9
theorem nR (T:Txt K mg A):T.fS.Hz P w mg base 3 (iO K A):=by
 refine T.fS.hs (k:=2) nG (fun f cdv A' outer s G vs R E hr hu h=>?_)
 obtain ⟨x,dx,v0,v1,v2,H,rfl,rfl,hx,hd,q⟩:=h
 refine ⟨_,(ab (aD (bF T.gz T.aZ (bz T) hr (aa (fv 0) (aa (fv 1) ae))))
 (ab (aQ (fv 0) (fv 2) rfl)
 (ai (aQ (fv 0) (fv 3) rfl)))),?_⟩
 exact (IA.one (C:=A.bV) hx hd T.eX.cl).row T.dz fun H a=>a.fld T.gb fun H a=>a.fld T.jt fun H a=>q _ a.s a.i
inductive iD (K:W.Frag) (A:Adr) (vs:List V) (G:Hp) (R:VK) (E9:XK):Prop
 | mk (x dx:Addr) (v0 v1 v2:V) (H:Hp) (z0:vs=[.ref x,v0,v1,v2]) (z1:G=upd (upd H dx (.own x)) x (.ins A.bW dx [])) (z2:H x=none) (z3:H dx=none) (z4:∀(H':Hp),ah H H'->H' x=some (.ins A.bW dx [("number",v0),("name",v1),("value",v2)])->R .non H'):iD K A vs G R E9
theorem nK (T:Txt K mg A):T.gn.Hz P w mg base 3 (iD K A):=by
 refine T.gn.hs (k:=2) nC (fun f cdv A' outer s G vs R E hr hu h=>?_)
 obtain ⟨x,dx,v0,v1,v2,H,rfl,rfl,hx,hd,q⟩:=h
 refine ⟨_,(ab (aD (bF T.gz T.aZ (bz T) hr (aa (fv 0) (aa (fv 1) ae))))
 (ab (aQ (fv 0) (fv 2) rfl)
 (ai (aQ (fv 0) (fv 3) rfl)))),?_⟩
 exact (IA.one (C:=A.bW) hx hd T.iG.cl).row T.dv fun H a=>a.fld T.jC fun H a=>a.fld T.iC fun H a=>q _ a.s a.i
inductive iB (K:W.Frag) (A:Adr) (vs:List V) (G:Hp) (R:VK) (E9:XK):Prop
 | mk (x dx:Addr) (v0 v1 v2 v3:V) (H:Hp) (z0:vs=[.ref x,v0,v1,v2,v3]) (z1:G=upd (upd H dx (.own x)) x (.ins A.bL dx [])) (z2:H x=none) (z3:H dx=none) (z4:∀(H':Hp),ah H H'->H' x=some (.ins A.bL dx [("number",v0),("name",v1),("place",v2),("value",v3)])->R .non H'):iB K A vs G R E9
theorem nQ (T:Txt K mg A):T.fX.Hz P w mg base 3 (iB K A):=by
 refine T.fX.hs (k:=2) mT (fun f cdv A' outer s G vs R E hr hu h=>?_)
 obtain ⟨x,dx,v0,v1,v2,v3,H,rfl,rfl,hx,hd,q⟩:=h
 refine ⟨_,(ab (aD (bF T.gz T.aZ (bz T) hr (aa (fv 0) (aa (fv 1) ae))))
 (ab (aQ (fv 0) (fv 2) rfl)
 (ab (aQ (fv 0) (fv 3) rfl)
 (ai (aQ (fv 0) (fv 4) rfl))))),?_⟩
 exact (IA.one (C:=A.bL) hx hd T.i9.cl).row T.dD fun H a=>a.fld T.ju fun H a=>a.fld T.iZ fun H a=>a.fld T.i3 fun H a=>q _ a.s a.i
inductive hX (K:W.Frag) (A:Adr) (vs:List V) (G:Hp) (R:VK) (E9:XK):Prop
 | mk (x dx:Addr) (v0 v1 v2:V) (H:Hp) (z0:vs=[.ref x,v0,v1,v2]) (z1:G=upd (upd H dx (.own x)) x (.ins A.bD dx [])) (z2:H x=none) (z3:H dx=none) (z4:∀(H':Hp),ah H H'->H' x=some (.ins A.bD dx [("number",v0),("name",v1),("value",v2)])->R .non H'):hX K A vs G R E9
theorem mB (T:Txt K mg A):T.dQ.Hz P w mg base 3 (hX K A):=by
 refine T.dQ.hs (k:=2) lR (fun f cdv A' outer s G vs R E hr hu h=>?_)
 obtain ⟨x,dx,v0,v1,v2,H,rfl,rfl,hx,hd,q⟩:=h
 refine ⟨_,(ab (aD (bF T.gz T.aZ (bz T) hr (aa (fv 0) (aa (fv 1) ae))))
 (ab (aQ (fv 0) (fv 2) rfl)
 (ai (aQ (fv 0) (fv 3) rfl)))),?_⟩
 exact (IA.one (C:=A.bD) hx hd T.dN.cl).row T.cN fun H a=>a.fld T.iW fun H a=>a.fld T.hZ fun H a=>q _ a.s a.i
inductive ip (K:W.Frag) (A:Adr) (vs:List V) (G:Hp) (R:VK) (E9:XK):Prop
 | mk (x dx:Addr) (v0 v1 v2 v3:V) (H:Hp) (z0:vs=[.ref x,v0,v1,v2,v3]) (z1:G=upd (upd H dx (.own x)) x (.ins A.bM dx [])) (z2:H x=none) (z3:H dx=none) (z4:∀(H':Hp),ah H H'->H' x=some (.ins A.bM dx [("number",v0),("name",v1),("value",v2),("mark",v3)])->R .non H'):ip K A vs G R E9
theorem nU (T:Txt K mg A):T.gh.Hz P w mg base 3 (ip K A):=by
 refine T.gh.hs (k:=2) mZ (fun f cdv A' outer s G vs R E hr hu h=>?_)
 obtain ⟨x,dx,v0,v1,v2,v3,H,rfl,rfl,hx,hd,q⟩:=h
 refine ⟨_,(ab (aD (bF T.gz T.aZ (bz T) hr (aa (fv 0) (aa (fv 1) ae))))
 (ab (aQ (fv 0) (fv 2) rfl)
 (ab (aQ (fv 0) (fv 3) rfl)
 (ai (aQ (fv 0) (fv 4) rfl))))),?_⟩
 exact (IA.one (C:=A.bM) hx hd T.gG.cl).row T.dC fun H a=>a.fld T.jD fun H a=>a.fld T.iE fun H a=>a.fld T.jx fun H a=>q _ a.s a.i
inductive h9 (K:W.Frag) (A:Adr) (vs:List V) (G:Hp) (R:VK) (E9:XK):Prop
 | mk (x dx:Addr) (v0 v1:V) (t0:Addr) (l0:List V) (H:Hp) (z0:vs=[.ref x,v0,v1,.ref t0]) (z1:G=upd (upd H dx (.own x)) x (.ins A.bC dx [])) (z2:H x=none) (z3:H dx=none) (z4:SqL K H t0 l0) (z5:∀(n0:Addr) (H':Hp),H n0=none->ah H H'->H' n0=some (.lst l0)->H' x=some (.ins A.bC dx [("number",v0),("name",v1),("things",.ref n0)])->R .non H'):h9 K A vs G R E9
theorem mU (T:Txt K mg A):T.fo.Hz P w mg base 3 (h9 K A):=by
 refine T.fo.hs (k:=2) lF (fun f cdv A' outer s G vs R E hr hu h=>?_)
 obtain ⟨x,dx,v0,v1,t0,l0,H,rfl,rfl,hx,hd,s0,q⟩:=h
 refine ⟨_,(ab (aD (bF T.gz T.aZ (bz T) hr (aa (fv 0) (aa (fv 1) ae))))
 (ab (aQ (fv 0) (fv 2) rfl)
 (ai (aQ (fv 0) (pcT fY T.cn (aa (fv 3) ae)) rfl)))),?_⟩
 refine (IA.one (C:=A.bC) hx hd T.gu.cl).row T.cO fun H a=>a.fld T.i5 fun H a=>⟨_,l0,rfl,.inl (a.s.seq s0),fun n0 f=>?_⟩
 replace a:=a.nw f (.lst l0)
 exact a.fld T.gq fun H a=>q n0 _ a.k.1.2.2 a.s a.k.1.1 a.i
inductive jz (K:W.Frag) (A:Adr) (vs:List V) (G:Hp) (R:VK) (E9:XK):Prop
 | mk (x dx:Addr) (v0 v1 v2 v3:V) (t0 t1:Addr) (l0 l1:List V) (H:Hp) (z0:vs=[.ref x,v0,v1,.ref t0,.ref t1,v2,v3]) (z1:G=upd (upd H dx (.own x)) x (.ins A.bR dx [])) (z2:H x=none) (z3:H dx=none) (z4:SqL K H t0 l0) (z5:SqL K H t1 l1) (z6:∀(n0 n1:Addr) (H':Hp),H n0=none->H n1=none->ah H H'->H' n0=some (.lst l0)->H' n1=some (.lst l1)->H' x=some (.ins A.bR dx [("number",v0),("value",v1),("first",.ref n0),("other",.ref n1),("left",v2),("right",v3)])->R .non H'):jz K A vs G R E9
theorem pV (T:Txt K mg A):T.gM.Hz P w mg base 3 (jz K A):=by
 refine T.gM.hs (k:=2) nO (fun f cdv A' outer s G vs R E hr hu h=>?_)
 obtain ⟨x,dx,v0,v1,v2,v3,t0,t1,l0,l1,H,rfl,rfl,hx,hd,s0,s1,q⟩:=h
 refine ⟨_,(ab (aD (bF T.gz T.aZ (bz T) hr (aa (fv 0) (aa (fv 1) ae))))
 (ab (aQ (fv 0) (fv 2) rfl)
 (ab (aQ (fv 0) (pcT fY T.cn (aa (fv 3) ae)) rfl)
 (ab (aQ (fv 0) (pcT fY T.cn (aa (fv 4) ae)) rfl)
 (ab (aQ (fv 0) (fv 5) rfl)
 (ai (aQ (fv 0) (fv 6) rfl))))))),?_⟩
 refine (IA.one (C:=A.bR) hx hd T.dH.cl).row T.dY fun H a=>a.fld T.jB fun H a=>⟨_,l0,rfl,.inl (a.s.seq s0),fun n0 f=>?_⟩
 replace a:=a.nw f (.lst l0)
 refine a.fld T.gi fun H a=>⟨_,l1,rfl,.inl (a.s.seq s1),fun n1 f=>?_⟩
 replace a:=a.nw f (.lst l1)
 exact a.fld T.fQ fun H a=>a.fld T.jW fun H a=>a.fld T.jq fun H a=>q n0 n1 _ a.k.2.1.2.2 a.k.1.2.2 a.s a.k.2.1.1 a.k.1.1 a.i
inductive hU (K:W.Frag) (A:Adr) (vs:List V) (G:Hp) (R:VK) (E9:XK):Prop
 | mk (x dx:Addr) (v0 v1 v2 v3 v4:V) (t0:Addr) (l0:List V) (H:Hp) (z0:vs=[.ref x,v0,v1,v2,.ref t0,v3,v4]) (z1:G=upd (upd H dx (.own x)) x (.ins A.aV dx [])) (z2:H x=none) (z3:H dx=none) (z4:SqL K H t0 l0) (z5:∀(n0:Addr) (H':Hp),H n0=none->ah H H'->H' n0=some (.lst l0)->H' x=some (.ins A.aV dx [("number",v0),("thing",v1),("most",v2),("body",.ref n0),("left",v3),("right",v4)])->R .non H'):hU K A vs G R E9
theorem mY (T:Txt K mg A):T.fu.Hz P w mg base 3 (hU K A):=by
 refine T.fu.hs (k:=2) lK (fun f cdv A' outer s G vs R E hr hu h=>?_)
 obtain ⟨x,dx,v0,v1,v2,v3,v4,t0,l0,H,rfl,rfl,hx,hd,s0,q⟩:=h
 refine ⟨_,(ab (aD (bF T.gz T.aZ (bz T) hr (aa (fv 0) (aa (fv 1) ae))))
 (ab (aQ (fv 0) (fv 2) rfl)
 (ab (aQ (fv 0) (fv 3) rfl)
 (ab (aQ (fv 0) (pcT fY T.cn (aa (fv 4) ae)) rfl)
 (ab (aQ (fv 0) (fv 5) rfl)
 (ai (aQ (fv 0) (fv 6) rfl))))))),?_⟩
 refine (IA.one (C:=A.aV) hx hd T.cw.cl).row T.cU fun H a=>a.fld T.gZ fun H a=>a.fld T.i6 fun H a=>⟨_,l0,rfl,.inl (a.s.seq s0),fun n0 f=>?_⟩
 replace a:=a.nw f (.lst l0)
 exact a.fld T.eY fun H a=>a.fld T.iQ fun H a=>a.fld T.gX fun H a=>q n0 _ a.k.1.2.2 a.s a.k.1.1 a.i
inductive hJ (K:W.Frag) (A:Adr) (vs:List V) (G:Hp) (R:VK) (E9:XK):Prop
 | mk (x dx:Addr) (v0 v1:V) (t0 t1:Addr) (l0 l1:List V) (H:Hp) (z0:vs=[.ref x,v0,v1,.ref t0,.ref t1]) (z1:G=upd (upd H dx (.own x)) x (.ins A.br dx [])) (z2:H x=none) (z3:H dx=none) (z4:SqL K H t0 l0) (z5:SqL K H t1 l1) (z6:∀(n0 n1:Addr) (H':Hp),H n0=none->H n1=none->ah H H'->H' n0=some (.lst l0)->H' n1=some (.lst l1)->H' x=some (.ins A.br dx [("number",v0),("name",v1),("parts",.ref n0),("body",.ref n1)])->R .non H'):hJ K A vs G R E9
theorem nD (T:Txt K mg A):T.eT.Hz P w mg base 3 (hJ K A):=by
 refine T.eT.hs (k:=2) lQ (fun f cdv A' outer s G vs R E hr hu h=>?_)
 obtain ⟨x,dx,v0,v1,t0,t1,l0,l1,H,rfl,rfl,hx,hd,s0,s1,q⟩:=h
 refine ⟨_,(ab (aD (bF T.gz T.aZ (bz T) hr (aa (fv 0) (aa (fv 1) ae))))
 (ab (aQ (fv 0) (fv 2) rfl)
 (ab (aQ (fv 0) (pcT fY T.cn (aa (fv 3) ae)) rfl)
 (ai (aQ (fv 0) (pcT fY T.cn (aa (fv 4) ae)) rfl))))),?_⟩
 refine (IA.one (C:=A.br) hx hd T.b5.cl).row T.cP fun H a=>a.fld T.cz fun H a=>⟨_,l0,rfl,.inl (a.s.seq s0),fun n0 f=>?_⟩
 replace a:=a.nw f (.lst l0)
 refine a.fld T.dw fun H a=>⟨_,l1,rfl,.inl (a.s.seq s1),fun n1 f=>?_⟩
 replace a:=a.nw f (.lst l1)
 exact a.fld T.dU fun H a=>q n0 n1 _ a.k.2.1.2.2 a.k.1.2.2 a.s a.k.2.1.1 a.k.1.1 a.i
inductive hV (K:W.Frag) (A:Adr) (vs:List V) (G:Hp) (R:VK) (E9:XK):Prop
 | mk (x dx:Addr) (t0 t1 t2:Addr) (l0 l1 l2:List V) (H:Hp) (z0:vs=[.ref x,.ref t0,.ref t1,.ref t2]) (z1:G=upd (upd H dx (.own x)) x (.ins A.Program dx [])) (z2:H x=none) (z3:H dx=none) (z4:SqL K H t0 l0) (z5:SqL K H t1 l1) (z6:SqL K H t2 l2) (z7:∀(n0 n1 n2:Addr) (H':Hp),H n0=none->H n1=none->H n2=none->ah H H'->H' n0=some (.lst l0)->H' n1=some (.lst l1)->H' n2=some (.lst l2)->H' x=some (.ins A.Program dx [("heads",.ref n0),("deeds",.ref n1),("main",.ref n2)])->R .non H'):hV K A vs G R E9
theorem ny (T:Txt K mg A):T.er.Hz P w mg base 3 (hV K A):=by
 refine T.er.hs (k:=2) lO (fun f cdv A' outer s G vs R E hr hu h=>?_)
 obtain ⟨x,dx,t0,t1,t2,l0,l1,l2,H,rfl,rfl,hx,hd,s0,s1,s2,q⟩:=h
 refine ⟨_,(ab (aQ (fv 0) (pcT fY T.cn (aa (fv 1) ae)) rfl)
 (ab (aQ (fv 0) (pcT fY T.cn (aa (fv 2) ae)) rfl)
 (ai (aQ (fv 0) (pcT fY T.cn (aa (fv 3) ae)) rfl)))),?_⟩
 have a:=IA.one (C:=A.Program) hx hd T.cW.cl
 refine ⟨_,l0,rfl,.inl (a.s.seq s0),fun n0 f=>?_⟩
 replace a:=a.nw f (.lst l0)
 refine a.fld T.da fun H a=>⟨_,l1,rfl,.inl (a.s.seq s1),fun n1 f=>?_⟩
 replace a:=a.nw f (.lst l1)
 refine a.fld T.cj fun H a=>⟨_,l2,rfl,.inl (a.s.seq s2),fun n2 f=>?_⟩
 replace a:=a.nw f (.lst l2)
 exact a.fld T.eN fun H a=>q n0 n1 n2 _ a.k.2.2.1.2.2 a.k.2.1.2.2 a.k.1.2.2 a.s a.k.2.2.1.1 a.k.2.1.1 a.k.1.1 a.i
end
section
variable {P:Program}{w:World}{K:W.Frag}{mg:Str->Option Value}{base:Heap}{A:Adr}{N:Nat->Str}
theorem ag {t u:TS}{D:Ends}{σ:St}{H:Hp} (h:∀N:St->Hp->Prop,(∀σ H,u D σ H->N σ H)->t { D with nx:=N } σ H):Ci t u D σ H:=h (u D) fun _ _ z=>z
theorem eZ {α β:Type}{F:α->β->Prop}:∀{l₁:List α}{l₂:List β}{i:Nat}{a:α},Paired F l₁ l₂->l₁[i]?=some a->∃b,l₂[i]?=some b/\F a b
 | _,_,_,_,.nil,h=>by cases h
 | _,_,0,_,.cons h _,e=>by cases e;exact ⟨_,rfl,h⟩
 | _,_,i + 1,_,.cons _ r,e=>by
  have:∃b,_:=eZ (i:=i) r e
  exact this
theorem fD {α β:Type}{F:α->β->Prop}:∀{l₁:List α}{l₂:List β}{i:Nat}{b:β},Paired F l₁ l₂->l₂[i]?=some b->∃a,l₁[i]?=some a/\F a b
 | _,_,_,_,.nil,h=>by cases h
 | _,_,0,_,.cons h _,e=>by cases e;exact ⟨_,rfl,h⟩
 | _,_,i + 1,_,.cons _ r,e=>by
  have:∃a,_:=fD (i:=i) r e
  exact this
abbrev cls (A:Adr):List Addr:=[A.Row,A.bE,A.a7,A.bU,A.bV,A.bW,A.bL,A.bD,A.bM,A.bC,A.bX,A.bR,A.aV,A.br,A.Program]
theorem Bt (T:Txt K mg A) (i j:Nat) (hi:i < 15:=by decide) (hj:j < 15:=by decide) (h:i ≠ j:=by decide):(cls A)[i]'hi ≠ (cls A)[j]'hj:=fun e=>h ((List.getElem_inj T.nd).mp e)
theorem DC {C:Addr}{x:Str}{up:List Addr} (O:cE K mg C x up) (hs:C ∈ up:=by exact List.mem_cons_self):W.kitOne K (.ref C) (.ref C)=some true:=by
 rw [O.kit O hs,decide_eq_true hs]
theorem DP {C D R:Addr}{x y:Str}{vp:List Addr} (O:cE K mg C x [C,R]) (U:cE K mg D y vp) (h1:D ≠ C) (h2:D ≠ R):W.kitOne K (.ref C) (.ref D)=some false:=by
 rw [O.kit U List.mem_cons_self,decide_eq_false]
 intro m
 rcases List.mem_cons.mp m with e | m
 ·exact h1 e
 ·rcases List.mem_cons.mp m with e | m
  ·exact h2 e
  ·cases m
instance memK (k:Key) (ks:List Key):Decidable (k ∈ ks):=decidable_of_iff ((ks.any fun j=>decide (j=k))=true) (by
 rw [List.any_eq_true]
 exact ⟨fun ⟨j,m,e⟩=>of_decide_eq_true e ▸ m,fun m=>⟨k,m,decide_eq_true rfl⟩⟩)
def clI (A:Adr) (i:Nat):Addr:=(cls A).getD i 0
theorem xO (T:Txt K mg A) {i j:Nat} (hi:i < 15) (hj:j < 15) (h:i ≠ j):clI A i ≠ clI A j:=by
 unfold clI
 rw [List.getD_eq_getElem?_getD,List.getD_eq_getElem?_getD,List.getElem?_eq_getElem (show i < (cls A).length from hi),List.getElem?_eq_getElem (show j < (cls A).length from hj)]
 exact Bt T i j hi hj h
theorem o7 (T:Txt K mg A) (i:Nat) (h:i < 14) (h0:0 < i):∃x,cE K mg (clI A i) x [clI A i,A.Row]:=by
 match i,h,h0 with
 | 1,_,_=>exact ⟨_,T.gE⟩
 | 2,_,_=>exact ⟨_,T.cm⟩
 | 3,_,_=>exact ⟨_,T.eP⟩
 | 4,_,_=>exact ⟨_,T.eX⟩
 | 5,_,_=>exact ⟨_,T.iG⟩
 | 6,_,_=>exact ⟨_,T.i9⟩
 | 7,_,_=>exact ⟨_,T.dN⟩
 | 8,_,_=>exact ⟨_,T.gG⟩
 | 9,_,_=>exact ⟨_,T.gu⟩
 | 10,_,_=>exact ⟨_,T.gC⟩
 | 11,_,_=>exact ⟨_,T.dH⟩
 | 12,_,_=>exact ⟨_,T.cw⟩
 | 13,_,_=>exact ⟨_,T.b5⟩
theorem yg (T:Txt K mg A) (i j:Nat) (hi:i < 14) (hj:j < 14) (i0:0 < i) (j0:0 < j):W.kitOne K (.ref (clI A i)) (.ref (clI A j))=some (decide (i=j)):=by
 obtain ⟨x,O⟩:=o7 T i hi i0
 obtain ⟨y,U⟩:=o7 T j hj j0
 by_cases e:i=j
 ·subst e
  rw [decide_eq_true rfl]
  exact DC O
 ·rw [decide_eq_false e]
  exact DP O U (xO T (by omega) (by omega) (fun z=>e z.symm)) (xO T (j:=0) (by omega) (by omega) (by omega))
end
section
variable {P:Program}{w:World}{K:W.Frag}{mg:Str->Option Value}{base:Heap}{A:Adr}{N:Nat->Str}
seal PE PA PS PSs PT PW
inductive Th where
 | i (n:Int) | x (a:Nat)
inductive Val where
 | one (a:Th) | op (a:Th) (w:Str) (b:Th)
def Th.v (N:Nat->Str):Th->V
 | .i n=>.int n
 | .x a=>.str (N a)
def vV (N:Nat->Str):Val->List V
 | .one a=>[a.v N]
 | .op a w b=>[a.v N,.str w,b.v N]
inductive Lr where
 | hand (i:Nat) (r:Int) | giv (i:Nat) (r z:Int) | own (i:Nat) (z:Int) | lt (i:Nat) (r:Int)
 | set (x:Nat) (v:Val) | put (x:Nat) (p:Th) (v:Val) | snd (h:Nat) (v:Val) | say (x:Nat) (v:Val) (m:Nat)
 | call (i:Nat) (ts:List Th) | last
def Lr.ci:Lr->Nat
 | .hand _ _=>1 | .giv _ _ _=>2 | .own _ _=>3 | .lt _ _=>4 | .set _ _=>5 | .put _ _ _=>6 | .snd _ _=>7 | .say _ _ _=>8
 | .call _ _=>9 | .last=>10
abbrev nV (N:Nat->Str) (ns:List Nat):List V:=ns.map fun i=>V.str (N i)
def Lr.fs (N:Nat->Str) (p:Addr):Lr->List (Str × V)
 | .hand i r=>[("name",.str (N i)),("rank",.int r)]
 | .giv i r z=>[("name",.str (N i)),("rank",.int r),("size",.int z)]
 | .own i z=>[("name",.str (N i)),("size",.int z)]
 | .lt i r=>[("name",.str (N i)),("rank",.int r)]
 | .set x _=>[("name",.str (N x)),("value",.ref p)]
 | .put x t _=>[("name",.str (N x)),("place",t.v N),("value",.ref p)]
 | .snd h _=>[("name",.str (N h)),("value",.ref p)]
 | .say x _ m=>[("name",.str (N x)),("value",.ref p),("mark",.str (N m))]
 | .call i _=>[("name",.str (N i)),("things",.ref p)]
 | .last=>[]
def Lr.ob (N:Nat->Str):Lr->Option HO
 | .set _ v=>some (.tup (vV N v))
 | .put _ _ v=>some (.tup (vV N v))
 | .snd _ v=>some (.tup (vV N v))
 | .say _ v _=>some (.tup (vV N v))
 | .call _ ts=>some (.lst (ts.map (Th.v N)))
 | _=>none
inductive Pt where
 | leaf (n:Int) (r:Lr)
 | iff (n:Int) (v:Val) (l r:Int) (f o:List Pt)
 | loop (n:Int) (t:Th) (m l r:Int) (b:List Pt)
 | ba (n:Int) (i:Nat) (ps:List Nat) (b:List Pt)
def Pt.no:Pt->Int
 | .leaf n _=>n
 | .iff n _ _ _ _ _=>n
 | .loop n _ _ _ _ _=>n
 | .ba n _ _ _=>n
def Pt.ci:Pt->Nat
 | .leaf _ r=>r.ci
 | .iff _ _ _ _ _ _=>11
 | .loop _ _ _ _ _ _=>12
 | .ba _ _ _ _=>13
def Dp (A:Adr) (N:Nat->Str) (X:Hp) (v:V) (n:Int) (r:Lr):Prop:=∃a dx p,v=.ref a/\X a=some (.ins (clI A r.ci) dx (("number",.int n) :: r.fs N p))/\∀o,r.ob N=some o->X p=some o
mutual
def bt (A:Adr) (N:Nat->Str) (X:Hp):V->Pt->Prop
 | v,.leaf n r=>Dp A N X v n r
 | v,.iff n val l r f o=>∃a dx p pf po xf xo,v=.ref a/\X a=some (.ins A.bR dx [("number",.int n),("value",.ref p),("first",.ref pf),("other",.ref po),("left",.int l),("right",.int r)])/\X p=some (.tup (vV N val))/\X pf=some (.lst xf)/\X po=some (.lst xo)/\aB A N X xf f/\aB A N X xo o
 | v,.loop n t m l r b=>∃a dx pb xb,v=.ref a/\X a=some (.ins A.aV dx [("number",.int n),("thing",t.v N),("most",.int m),("body",.ref pb),("left",.int l),("right",.int r)])/\X pb=some (.lst xb)/\aB A N X xb b
 | v,.ba n i ps b=>∃a dx pp pb xb,v=.ref a/\X a=some (.ins A.br dx [("number",.int n),("name",.str (N i)),("parts",.ref pp),("body",.ref pb)])/\X pp=some (.lst (nV N ps))/\X pb=some (.lst xb)/\aB A N X xb b
def aB (A:Adr) (N:Nat->Str) (X:Hp):List V->List Pt->Prop
 | vs,[]=>vs=[]
 | vs,t :: ts=>∃x xs,vs=x :: xs/\bt A N X x t/\aB A N X xs ts
end
mutual
theorem bt.same {X X':Hp} (s:ah X X'):∀(t:Pt) (v:V),bt A N X v t->bt A N X' v t
 | .leaf n r,v,h=>by
  unfold bt at h ⊢
  obtain ⟨a,dx,p,e,h1,h2⟩:=h
  exact ⟨a,dx,p,e,s _ _ h1,fun o ho=>s _ _ (h2 o ho)⟩
 | .iff n val l r f o,v,h=>by
  unfold bt at h ⊢
  obtain ⟨a,dx,p,pf,po,xf,xo,e,h1,h2,h3,h4,h5,h6⟩:=h
  exact ⟨a,dx,p,pf,po,xf,xo,e,s _ _ h1,s _ _ h2,s _ _ h3,s _ _ h4,aB.same s f _ h5,aB.same s o _ h6⟩
 | .loop n t m l r b,v,h=>by
  unfold bt at h ⊢
  obtain ⟨a,dx,pb,xb,e,h1,h2,h3⟩:=h
  exact ⟨a,dx,pb,xb,e,s _ _ h1,s _ _ h2,aB.same s b _ h3⟩
 | .ba n i ps b,v,h=>by
  unfold bt at h ⊢
  obtain ⟨a,dx,pp,pb,xb,e,h1,h2,h3,h4⟩:=h
  exact ⟨a,dx,pp,pb,xb,e,s _ _ h1,s _ _ h2,s _ _ h3,aB.same s b _ h4⟩
theorem aB.same {X X':Hp} (s:ah X X'):∀(ts:List Pt) (vs:List V),aB A N X vs ts->aB A N X' vs ts
 | [],vs,h=>by
  unfold aB at h ⊢
  exact h
 | t :: ts,vs,h=>by
  unfold aB at h ⊢
  obtain ⟨x,xs,e,h1,h2⟩:=h
  exact ⟨x,xs,e,bt.same s t _ h1,aB.same s ts _ h2⟩
end
theorem aB.nil {X:Hp}:aB A N X [] []:=by
 unfold aB
 rfl
theorem aB.cons {X:Hp}{x:V}{t:Pt}{ts:List Pt}{vs:List V} (h:bt A N X x t) (h':aB A N X vs ts):aB A N X (x :: vs) (t :: ts):=by
 unfold aB
 exact ⟨x,vs,rfl,h,h'⟩
theorem aB.one {X:Hp}{x:V}{t:Pt} (h:bt A N X x t):aB A N X [x] [t]:=aB.cons h aB.nil
theorem aB.len {X:Hp}:∀{ts:List Pt}{vs:List V},aB A N X vs ts->vs.length=ts.length
 | [],vs,h=>by
  unfold aB at h
  rw [h]
  rfl
 | t :: ts,vs,h=>by
  unfold aB at h
  obtain ⟨y,ys,e,h1,h2⟩:=h
  subst e
  simp [aB.len h2]
theorem aB.get {X:Hp}:∀{ts:List Pt}{vs:List V}{i:Nat}{v:V},aB A N X vs ts->vs[i]?=some v->∃t,ts[i]?=some t/\bt A N X v t
 | [],vs,i,v,h,e=>by
  unfold aB at h
  rw [h] at e
  cases e
 | t :: ts,vs,i,v,h,e=>by
  unfold aB at h
  obtain ⟨y,ys,e',h1,h2⟩:=h
  subst e'
  cases i with
  | zero=>cases e;exact ⟨t,rfl,h1⟩
  | succ i=>exact aB.get (i:=i) h2 e
theorem jr (p:Pt):0 < p.ci/\p.ci < 14:=by
 cases p with
 | leaf n r=>cases r <;> simp [Pt.ci,Lr.ci]
 | _=>simp [Pt.ci]
theorem CM (T:Txt K mg A) (p:Pt):Cls K (clI A p.ci)/\aC K (clI A p.ci) "number":=by
 cases p with
 | leaf n r =>
  cases r with
  | hand _ _=>exact ⟨T.gE.cl,T.cJ⟩
  | giv _ _ _=>exact ⟨T.cm.cl,T.cG⟩
  | own _ _=>exact ⟨T.eP.cl,T.dh⟩
  | lt _ _=>exact ⟨T.eX.cl,T.dz⟩
  | set _ _=>exact ⟨T.iG.cl,T.dv⟩
  | put _ _ _=>exact ⟨T.i9.cl,T.dD⟩
  | snd _ _=>exact ⟨T.dN.cl,T.cN⟩
  | say _ _ _=>exact ⟨T.gG.cl,T.dC⟩
  | call _ _=>exact ⟨T.gu.cl,T.cO⟩
  | _=>exact ⟨T.gC.cl,T.cV⟩
 | iff _ _ _ _ _ _=>exact ⟨T.dH.cl,T.dY⟩
 | loop _ _ _ _ _ _=>exact ⟨T.cw.cl,T.cU⟩
 | ba _ _ _ _=>exact ⟨T.b5.cl,T.cP⟩
theorem vX {X:Hp}{v:V}{p:Pt} (h:bt A N X v p):∃a dx fs,v=.ref a/\X a=some (.ins (clI A p.ci) dx (("number",.int p.no) :: fs)):=by
 cases p with
 | leaf n r =>
  unfold bt at h
  obtain ⟨a,dx,p,e,h1,h2⟩:=h
  exact ⟨a,dx,_,e,h1⟩
 | iff n val l r f o =>
  unfold bt at h
  obtain ⟨a,dx,p,pf,po,xf,xo,e,h1,_⟩:=h
  exact ⟨a,dx,_,e,h1⟩
 | loop n t m l r b =>
  unfold bt at h
  obtain ⟨a,dx,pb,xb,e,h1,_⟩:=h
  exact ⟨a,dx,_,e,h1⟩
 | ba n i ps b =>
  unfold bt at h
  obtain ⟨a,dx,pp,pb,xb,e,h1,_⟩:=h
  exact ⟨a,dx,_,e,h1⟩
theorem og (T:Txt K mg A) {X H:Hp} (s:ah X H) {v:V}{p:Pt} (h:bt A N X v p) (j:Nat) (j0:0 < j) (hj:j < 14) {R:Bool->Hp->Prop} (q:R (decide (p.ci=j)) H):sF K [v,.ref (clI A j)] H fun v H1=>rR K v H1 R:=by
 obtain ⟨a,dx,fs,rfl,ha⟩:=vX h
 obtain ⟨x,O⟩:=o7 T p.ci (jr p).2 (jr p).1
 exact isB (O.BE (s _ _ ha)) (yg T p.ci j (jr p).2 hj (jr p).1 j0) q
theorem A6 (T:Txt K mg A) {X H:Hp} (s:ah X H) {v:V}{p:Pt} (h:bt A N X v p) {j:Nat} (e:p.ci=j) {R:Bool->Hp->Prop} (q:R true H):sF K [v,.ref (clI A j)] H fun v H1=>rR K v H1 R:=og T s h j (e ▸ (jr p).1) (e ▸ (jr p).2) (by rw [decide_eq_true e];exact q)
theorem vh (T:Txt K mg A) {X H:Hp} (s:ah X H) {v:V}{p:Pt} (h:bt A N X v p) {j:Nat} (e:p.ci ≠ j) {R:Bool->Hp->Prop} (q:R false H) (j0:0 < j:=by decide) (hj:j < 14:=by decide):sF K [v,.ref (clI A j)] H fun v H1=>rR K v H1 R:=og T s h j j0 hj (by rw [decide_eq_false e];exact q)
theorem p5 (T:Txt K mg A) {X H:Hp} (s:ah X H) {v:V}{p:Pt} (h:bt A N X v p) (j:Nat) (j0:0 < j) (hj:j < 14) {Q:VK} (q:Q (.bl (decide (p.ci=j))) H):sF K [v,.ref (clI A j)] H Q:=by
 obtain ⟨a,dx,fs,rfl,ha⟩:=vX h
 obtain ⟨x,O⟩:=o7 T p.ci (jr p).2 (jr p).1
 exact ⟨_,_,_,_,rfl,(fun z=>by cases z),O.BE (s _ _ ha),yg T p.ci j (jr p).2 hj (jr p).1 j0,q⟩
theorem rX (T:Txt K mg A) {X H:Hp} (s:ah X H) {v:V}{p:Pt} (h:bt A N X v p) {Q:VK} (q:Q (.int p.no) H):xF K "number" v H Q:=by
 obtain ⟨a,dx,fs,rfl,ha⟩:=vX h
 obtain ⟨c1,c2⟩:=CM T p
 exact fdI (s _ _ ha) c1 c2 rfl q
def bu (n:Int):Str:=Str.empty ++ ("row ":Str) ++ Str.ofString (toString n)
def A0 (s:Str):Nat:=(s.cps.toList.drop 4).foldl (fun a c=>10 * a + (c - 48)) 0
theorem gD:∀n:Fin 1001,((n.val:Int).natAbs.log2 < 1920)/\(Str.ofString (toString (n.val:Int))).length <= 20/\A0 (bu (n.val:Int))=n.val/\(bu (n.val:Int)).cps[0]?=some 114:=by decide +kernel
theorem yC {a b:Int} (a0:0 <= a) (a1:a <= 1000) (b0:0 <= b) (b1:b <= 1000) (h:bu a=bu b):a=b:=by
 obtain ⟨a,rfl⟩:∃k:Nat,a=(k:Int):=⟨a.toNat,by omega⟩
 obtain ⟨b,rfl⟩:∃k:Nat,b=(k:Int):=⟨b.toNat,by omega⟩
 have h1:=(gD ⟨a,by omega⟩).2.2.1
 have h2:=(gD ⟨b,by omega⟩).2.2.1
 rw [show A0 (bu (a:Int))=A0 (bu (b:Int)) by rw [h]] at h1
 have:b=a:=h2.symm.trans h1
 rw [this]
theorem yO {a:Int} (a0:0 <= a) (a1:a <= 1000) {x:Str} (hx:x.cps[0]? ≠ some 114):bu a ≠ x:=by
 obtain ⟨a,rfl⟩:∃k:Nat,a=(k:Int):=⟨a.toNat,by omega⟩
 intro e
 exact hx (e ▸ (gD ⟨a,by omega⟩).2.2.2)
theorem fF (a b:Str):(a ++ b).length=a.length + b.length:=Array.size_append
inductive qX (vs:List V) (H:Hp) (Q:VK) (E9:XK):Prop
 | mk (n:Int) (z0:vs=[.int n]) (z1:0 <= n) (z2:n <= 1000) (z3:Q (.str (bu n)) H):qX vs H Q E9
theorem qe (T:Txt K mg A):T.kK.Hz P w base 1 qX:=by
 refine T.kK.hs o6 (fun f cdv A' outer s H vs Q E' hr hu h=>?_)
 obtain ⟨n,rfl,h0,h1,q⟩:=h
 obtain ⟨n,rfl⟩:∃k:Nat,n=(k:Int):=⟨n.toNat,by omega⟩
 obtain ⟨k1,k2,_⟩:=gD ⟨n,by omega⟩
 refine ⟨_,(ai (aA (zv (tS aj (tS (AR (fv 0)) AS))))),⟨_,rfl,(by decide),Or.inl ⟨_,rfl,k1,_,rfl,?_⟩⟩⟩
 have l:(bu (n:Int)).length <= sizeLine:=by
  unfold bu
  rw [fF]
  exact Nat.le_trans (Nat.add_le_add_left k2 _) (by decide)
 exact ⟨l,l,q⟩
end
section
variable {P:Program}{w:World}{K:W.Frag}{mg:Str->Option Value}{base:Heap}{A:Adr}{N:Nat->Str}
seal PE PA PS PSs PT PW
theorem Paired.two {α β:Type}{F:α->β->Prop}:∀{xs zs:List α}{ys ws:List β},Paired F xs ys->Paired F zs ws->Paired F (xs ++ zs) (ys ++ ws)
 | _,_,_,_,.nil,h=>h
 | _,_,_,_,.cons g r,h=>.cons g (Paired.two r h)
abbrev Le:=Pt × Option Str × Option Str
def oS:Option Str->V
 | none=>.non
 | some x=>.str x
mutual
def fC (lp:Option Str):Pt->List Le
 | .leaf _ _=>[]
 | .iff n _ _ _ f o=>bq (some (bu n)) lp f ++ bq (some (bu n)) lp o
 | .loop n _ _ _ _ b=>bq (some (bu n)) (some (bu n)) b
 | .ba _ _ _ _=>[]
def bq (pl lp:Option Str):List Pt->List Le
 | []=>[]
 | t :: ts=>(t,pl,lp) :: (fC lp t ++ bq pl lp ts)
end
mutual
def dep:Pt->Nat
 | .leaf _ _=>0
 | .iff _ _ _ _ f o=>max (lb f) (lb o) + 1
 | .loop _ _ _ _ _ b=>lb b + 1
 | .ba _ _ _ b=>0
def lb:List Pt->Nat
 | []=>0
 | t :: ts=>max (dep t) (lb ts)
end
theorem qv {t:Pt}:∀{ts:List Pt},t ∈ ts->dep t <= lb ts
 | t' :: ts,m=>by
  unfold lb
  rcases List.mem_cons.mp m with rfl | m
  ·exact Nat.le_max_left _ _
  ·exact Nat.le_trans (qv m) (Nat.le_max_right _ _)
theorem mv {pl lp:Option Str}:∀(a b:List Pt),bq pl lp (a ++ b)=bq pl lp a ++ bq pl lp b
 | [],b=>by simp [bq]
 | t :: a,b=>by
  have h1:bq pl lp (t :: (a ++ b))=(t,pl,lp) :: (fC lp t ++ bq pl lp (a ++ b)):=by rw [bq]
  have h2:bq pl lp (t :: a)=(t,pl,lp) :: (fC lp t ++ bq pl lp a):=by rw [bq]
  show bq pl lp (t :: (a ++ b))=_
  rw [h1,h2,mv a b]
  simp
theorem oY {pl lp:Option Str}{ts:List Pt}{t:Pt}{i:Nat} (h:ts[i]?=some t):bq pl lp (ts.take (i + 1))=bq pl lp (ts.take i) ++ (t,pl,lp) :: fC lp t:=by
 rw [List.take_add_one,h,mv]
 show bq pl lp (ts.take i) ++ bq pl lp [t]=_
 rw [show bq pl lp [t]=(t,pl,lp) :: fC lp t by simp [bq]]
theorem xP {pl lp:Option Str}{ts:List Pt}{t:Pt}{i:Nat} (h:ts[i]?=some t):bq pl lp ts=bq pl lp (ts.take i) ++ ((t,pl,lp) :: fC lp t) ++ bq pl lp (ts.drop (i + 1)):=by
 rw [<- oY h,<- mv,List.take_append_drop]
def Nb (es:List Le):Prop:=∀e ∈ es,0 <= e.1.no/\e.1.no <= 1000
def LyE (A:Adr) (N:Nat->Str) (X:Hp) (e:Le) (y:V) (H:Hp):Prop:=∃tp v,y=V.ref tp/\H tp=some (.tup [v,oS e.2.1,oS e.2.2])/\bt A N X v e.1
def Ly (A:Adr) (N:Nat->Str) (X H:Hp) (es:List Le) (ys:List V):Prop:=Paired (fun e y=>LyE A N X e y H) es ys
theorem Ly.same {X H H':Hp} (s:∀x w,H x=some (.tup w)->H' x=some (.tup w)) {es:List Le}{ys:List V} (h:Ly A N X H es ys):Ly A N X H' es ys:=Paired.nT h fun _ _ ⟨tp,v,e,h1,h2⟩=>⟨tp,v,e,s _ _ h1,h2⟩
inductive l6 (A:Adr) (d:Nat) (vs:List V) (H:Hp) (Q:VK) (E9:XK):Prop
 | mk (N:Nat->Str) (X:Hp) (L:Addr) (xs:List V) (pl lp:Option Str) (ts:List Pt) (z0:vs=[.ref L,oS pl,oS lp]) (z1:ah X H) (z2:X L=some (.lst xs)) (z3:aB A N X xs ts) (z4:lb ts <= d) (z5:Nb (bq pl lp ts)) (z6:(bq pl lp ts).length <= 900)
  (z7:∀(R:Addr) (ys:List V) (H':Hp),ah H H'->H R=none->H' R=some (.lst ys)->Ly A N X H' (bq pl lp ts) ys->Q (.ref R) H'):l6 A d vs H Q E9
inductive lg (A:Adr) (d:Nat) (vs:List V) (H:Hp) (Q:VK) (E9:XK):Prop
 | mk (N:Nat->Str) (X:Hp) (v:V) (lp:Option Str) (t:Pt) (z0:vs=[v,oS lp]) (z1:ah X H) (z2:bt A N X v t) (z3:dep t <= d) (z4:0 <= t.no/\t.no <= 1000) (z5:Nb (fC lp t)) (z6:(fC lp t).length <= 900)
  (z7:∀(R:Addr) (ys:List V) (H':Hp),ah H H'->H R=none->H' R=some (.lst ys)->Ly A N X H' (fC lp t) ys->Q (.ref R) H'):lg A d vs H Q E9
def wV (A:Adr):Nat->Sp
 | 0=>fun _ _ _ _=>False
 | d + 1=>l6 A d
theorem ua (T:Txt K mg A) (d j:Nat) (D_laid_inside:T.fG.Hz P w base j (lg A d)):T.dO.Hz P w base (j + 1) (l6 A d):=by
 refine T.dO.hs (k:=j) dG (fun f cdv A' outer s H vs Q E' hr hu h=>?_)
 obtain ⟨N,X,L,xs,pl,lp,ts,rfl,s0,hL,pt,dp,nb,ln,q⟩:=h
 refine ⟨_,(ab (pst 3 dG.nd (aL ae))
  (ab (cD PassesOwn.never rfl (iT (fv 0)) (pgn (i:=4) dG.nd rfl)
   (ab (aD (aP (fv 3) (aa (aO (aa (fv 4) (aa (fv 1) (aa (fv 2) ae)))) ae)))
   (ai (aD (j6 (fv 3) (aa (aq (hj:=by omega) D_laid_inside hr (aa (fv 4) (aa (fv 2) ae))) ae))))))
  (ai (aA (fv 3))))),?_⟩
 refine ag fun M1 K1=>⟨Nat.zero_le _,fun R hR=>?_⟩
 obtain ⟨s1,e1⟩:=alc hR (HO.lst [])
 generalize upd H R _=H1 at s1 e1 ⊢
 refine K1 _ _ ?_
 clear K1 M1
 try dsimp only
 refine ag fun M1 K1=>Or.inl ⟨⟨_,SqL.of ((s0.trans s1) _ _ hL)⟩,gp (K:=K) (xs:=xs) (fun i σ Hc=>∃(ys:List V) (v4:Option V),σ=[some (.ref L),some (oS pl),some (oS lp),some (.ref R),v4]/\ah H Hc/\Hc R=some (.lst ys)/\Ly A N X Hc (bq pl lp (ts.take i)) ys) ⟨[],none,rfl,s1,e1,by rw [show bq pl lp (ts.take 0)=[] by show bq pl lp []=[];rw [bq]];exact .nil⟩ (fun i σ Hc _ ⟨_,_,_,z,_⟩=>SqL.of ((s0.trans z) _ _ hL)) ?_ ?_⟩
 ·rintro i v σ Hc hv ⟨ys,v4,rfl,sc,hRc,ly⟩
  obtain ⟨t,ht,pa⟩:=pt.get hv
  have mt:t ∈ ts:=List.mem_of_getElem? ht
  have e:=xP (pl:=pl) (lp:=lp) ht
  have le:(bq pl lp (ts.take i)).length + (1 + (fC lp t).length) <= 900:=by
   rw [e] at ln
   simp at ln
   omega
  have n1:∀z ∈ ((t,pl,lp) :: fC lp t),0 <= z.1.no/\z.1.no <= 1000:=fun z hz=>nb z (by rw [e];exact List.mem_append_left _ (List.mem_append_right _ hz))
  have lly:=Paired.length ly
  try dsimp only
  refine ag fun N1 J1=>⟨Or.inl ⟨rfl,_,SqL.of hRc⟩,by show 3 <= sizeLine;decide,fun tp htp=>?_⟩
  have tpR:tp ≠ R:=fresh_ne htp hRc
  refine ⟨_,_,_,rfl,rfl,ao tpR.symm hRc,aG (by omega),?_⟩
  have s2:ah H (upd (upd Hc tp (.tup [v,oS pl,oS lp])) R (.lst (ys ++ [.ref tp]))):=ah.out (sc.trans (ah.upd htp _)) hR _
  have e2:upd (upd Hc tp (.tup [v,oS pl,oS lp])) R (.lst (ys ++ [.ref tp])) R=some (.lst (ys ++ [.ref tp])):=ak
  have l2:Ly A N X (upd (upd Hc tp (.tup [v,oS pl,oS lp])) R (.lst (ys ++ [.ref tp]))) (bq pl lp (ts.take i) ++ [(t,pl,lp)]) (ys ++ [.ref tp]):=by
   refine Paired.two (ly.same fun x w e=>?_) (.cons ⟨tp,v,rfl,ao tpR ak,pa⟩ .nil)
   exact ao (fun y=>by rw [y,hRc] at e;cases e) (ao (fun y=>by rw [y,htp] at e;cases e) e)
  generalize upd (upd Hc tp (.tup [v,oS pl,oS lp])) R (.lst (ys ++ [.ref tp]))=Hd at s2 e2 l2 ⊢
  refine J1 _ _ ?_
  clear J1 N1
  try dsimp only
  refine ⟨Or.inl ⟨rfl,_,SqL.of e2⟩,N,X,v,lp,t,rfl,s0.trans s2,pa,Nat.le_trans (qv mt) dp,n1 _ List.mem_cons_self,fun z hz=>n1 z (List.mem_cons_of_mem _ hz),by omega,fun R2 zs He s3 hR2 eR2 l3=>?_⟩
  have lz:=Paired.length l3
  refine ⟨_,_,_,_,rfl,rfl,s3 _ _ e2,eR2,sz (by rw [List.length_append,<- lz,<- lly];simp;omega),⟨_,_,rfl,ah.out (s2.trans s3) hR _,ak,?_⟩⟩
  rw [oY ht,show bq pl lp (ts.take i) ++ (t,pl,lp) :: fC lp t=bq pl lp (ts.take i) ++ [(t,pl,lp)] ++ fC lp t by simp]
  have dR:∀x w,He x=some (.tup w)->upd He R (.lst (ys ++ [.ref tp] ++ zs)) x=some (.tup w):=fun x w e=>ao (fun y=>by rw [y,s3 _ _ e2] at e;cases e) e
  exact Paired.two (l2.same fun x w e=>dR x w (s3 _ _ e)) (l3.same dR)
 rintro σ Hc ⟨ys,v4,rfl,sc,hRc,ly⟩
 rw [show ts.take xs.length=ts by rw [pt.len];exact List.take_length] at ly
 exact K1 _ _ (q R ys Hc sc hR hRc ly)
theorem oX (T:Txt K mg A) (d j:Nat) (D_laid_rows:T.dO.Hz P w base (j + 1) (wV A d)):T.fG.Hz P w base (j + 2) (lg A d):=by
 refine T.fG.hs (k:=j + 1) iF (fun f cdv A' outer s H vs Q E' hr hu h=>?_)
 obtain ⟨N,X,v,lp,t,rfl,s0,pa,dp,nt,nb,ln,q⟩:=h
 refine ⟨_,(ab (pst 2 iF.nd (aq (hj:=by omega) (qe T) hr (aa (cq (fv 0) rfl) ae)))
  (ab (aS (cT (pcB bN T.aK (aa (fv 0) (aa (dJ T.dH.mg) ae))) (fun _=>rfl))
   (ai (aA (au aN (aq (hj:=by omega) D_laid_rows hr (aa (cq (fv 0) rfl) (aa (fv 2) (aa (fv 1) ae)))) (aq (hj:=by omega) D_laid_rows hr (aa (cq (fv 0) rfl) (aa (fv 2) (aa (fv 1) ae)))))))
   aE)
  (ab (aS (cT (pcB bN T.aK (aa (fv 0) (aa (dJ T.cw.mg) ae))) (fun _=>rfl))
   (ai (aA (aq (hj:=by omega) D_laid_rows hr (aa (cq (fv 0) rfl) (aa (fv 2) (aa (fv 2) ae))))))
   aE)
  (ai (aA (aL ae)))))),?_⟩
 refine ag fun M1 K1=>rX T s0 pa ⟨_,rfl,nt.1,nt.2,K1 _ _ ?_⟩
 clear K1 M1
 try dsimp only
 refine ag fun M1 K1=>og T s0 pa 11 (by decide) (by decide) ?_
 cases t with
 | iff n val l r f o =>
  refine jl ?_
  unfold bt at pa
  obtain ⟨a,dx,p,pf,po,xf,xo,rfl,h1,h2,h3,h4,h5,h6⟩:=pa
  unfold dep at dp
  cases d with
  | zero=>omega
  | succ d =>
  unfold fC at nb ln q
  have nf:Nb (bq (some (bu n)) lp f):=fun y hy=>nb y (List.mem_append_left _ hy)
  have no:Nb (bq (some (bu n)) lp o):=fun y hy=>nb y (List.mem_append_right _ hy)
  rw [List.length_append] at ln
  refine fdI (s0 _ _ h1) T.dH.cl T.gi rfl ⟨N,X,pf,xf,some (bu n),lp,f,rfl,s0,h3,h5,by omega,nf,by omega,fun R1 y1 H1 s1 n1 e1 l1=>fdI ((s0.trans s1) _ _ h1) T.dH.cl T.fQ rfl ⟨N,X,po,xo,some (bu n),lp,o,rfl,s0.trans s1,h4,h6,by omega,no,by omega,fun R2 y2 H2 s2 n2 e2 l2=>?_⟩⟩
  have z1:=Paired.length l1
  have z2:=Paired.length l2
  refine ⟨R1,R2,_,_,rfl,rfl,s2 _ _ e1,e2,sz (by omega),fun R hR=>?_⟩
  have s3:ah H2 (upd H2 R (.lst (y1 ++ y2))):=ah.upd hR _
  exact q R _ _ ((s1.trans s2).trans s3) (ah.free (s1.trans s2) hR) ak (Paired.two (l1.same fun x w e=>s3 _ _ (s2 _ _ e)) (l2.same fun x w e=>s3 _ _ e))
 | loop n t m l r b =>
  refine bO (K1 _ _ ?_)
  clear K1 M1
  try dsimp only
  refine ag fun M1 K1=>og T s0 pa 12 (by decide) (by decide) (jl ?_)
  unfold bt at pa
  obtain ⟨a,dx,pb,xb,rfl,h1,h2,h3⟩:=pa
  unfold dep at dp
  cases d with
  | zero=>omega
  | succ d =>
  unfold fC at nb ln q
  exact fdI (s0 _ _ h1) T.cw.cl T.eY rfl ⟨N,X,pb,xb,some (bu n),some (bu n),b,rfl,s0,h2,h3,by omega,nb,ln,fun R1 y1 H1 s1 n1 e1 l1=>q R1 y1 H1 s1 n1 e1 l1⟩
 | leaf n r =>
  have e11:decide ((Pt.leaf n r).ci=11)=false:=by cases r <;> rfl
  have e12:decide ((Pt.leaf n r).ci=12)=false:=by cases r <;> rfl
  rw [e11]
  refine bO (K1 _ _ ?_)
  clear K1 M1
  try dsimp only
  refine ag fun M1 K1=>og T s0 pa 12 (by decide) (by decide) ?_
  rw [e12]
  refine bO (K1 _ _ ?_)
  clear K1 M1
  refine ⟨Nat.zero_le _,fun R hR=>q R [] _ (ah.upd hR _) hR ak ?_⟩
  unfold fC
  exact .nil
 | ba n i ps b =>
  refine bO (K1 _ _ ?_)
  clear K1 M1
  try dsimp only
  refine ag fun M1 K1=>og T s0 pa 12 (by decide) (by decide) (bO (K1 _ _ ?_))
  clear K1 M1
  refine ⟨Nat.zero_le _,fun R hR=>q R [] _ (ah.upd hR _) hR ak ?_⟩
  unfold fC
  exact .nil
theorem su (T:Txt K mg A):∀d,T.dO.Hz P w base (2 * d + 3) (l6 A d)
 | 0=>ua T 0 2 (oX T 0 0 (T.dO.hs (k:=0) dG (fun _ _ _ _ _ _ _ _ _ _ _ h=>h.elim) (fun _ _ _ _ h=>h.elim)))
 | d + 1=>ua T (d + 1) (2 * d + 4) (oX T (d + 1) (2 * d + 2) (su T d))
end
section
variable {P:Program}{w:World}{K:W.Frag}{mg:Str->Option Value}{base:Heap}{A:Adr}{N:Nat->Str}
seal PE PA PS PSs PT PW
def qQ:Pt->List Pt
 | .ba _ _ _ b=>b
 | _=>[]
def dNm (N:Nat->Str):Pt->Str
 | .ba _ i _ _=>N i
 | _=>Str.empty
def dPs (N:Nat->Str):Pt->List Str
 | .ba _ _ ps _=>ps.map N
 | _=>[]
def An:Pt->Prop
 | .ba _ _ _ _=>True
 | _=>False
def fH (N:Nat->Str) (ds:List Pt):List Le:=ds.flatMap fun p=>bq (some (dNm N p)) none (qQ p)
theorem mM {ts:List Pt}{t:Pt}{i:Nat} (h:ts[i]?=some t):fH N (ts.take (i + 1))=fH N (ts.take i) ++ bq (some (dNm N t)) none (qQ t):=by
 unfold fH
 rw [List.take_add_one,h]
 simp
theorem vz {ts:List Pt}{t:Pt}{i:Nat} (h:ts[i]?=some t):fH N ts=fH N (ts.take i) ++ bq (some (dNm N t)) none (qQ t) ++ fH N (ts.drop (i + 1)):=by
 rw [<- mM h]
 unfold fH
 rw [<- List.flatMap_append,List.take_append_drop]
def vB (A:Adr) (N:Nat->Str) (X:Hp) (v:V) (hs ds ms:List Pt):Prop:=∃a dx n0 n1 n2 x0 x1 x2,v=.ref a/\X a=some (.ins A.Program dx [("heads",.ref n0),("deeds",.ref n1),("main",.ref n2)])/\X n0=some (.lst x0)/\X n1=some (.lst x1)/\X n2=some (.lst x2)/\aB A N X x0 hs/\aB A N X x1 ds/\aB A N X x2 ms
def b8 (N:Nat->Str) (ds ms:List Pt):List Le:=fH N ds ++ bq none none ms
def hPl (N:Nat->Str):Pt->Option Str
 | .leaf _ (.giv i _ _)=>some (N i)
 | .leaf _ (.own i _)=>some (N i)
 | .leaf _ (.lt i _)=>some (N i)
 | _=>none
def vF (p:Pt):Bool:=decide (p.ci=11) || (decide (p.ci=12) || (decide (p.ci=7) || decide (p.ci=8)))
def cB (es:List Le):List Str:=(es.filter fun e=>vF e.1).map fun e=>bu e.1.no
def b6 (N:Nat->Str) (hs ds ms:List Pt):List Str:=hs.filterMap (hPl N) ++ (ds.flatMap fun p=>dNm N p :: dPs N p) ++ cB (b8 N ds ms) ++ [("the clock":Str)]
structure Ok (N:Nat->Str) (d:Nat) (hs ds ms:List Pt):Prop where
 ba:∀p ∈ ds,An p/\lb (qQ p) <= d
 main:lb ms <= d
 nb:Nb (b8 N ds ms)
 ln:(b8 N ds ms).length <= 300
 hl:hs.length <= 300
 pl:(b6 N hs ds ms).length <= 900
 nd:(b6 N hs ds ms).Nodup
abbrev sS (xs:List Str):List V:=xs.map V.str
inductive qr (A:Adr) (d:Nat) (vs:List V) (H:Hp) (Q:VK) (E9:XK):Prop
 | mk (N:Nat->Str) (X:Hp) (v:V) (hs ds ms:List Pt) (z0:vs=[v]) (z1:ah X H) (z2:vB A N X v hs ds ms) (z3:Ok N d hs ds ms)
  (z7:∀(R:Addr) (ys:List V) (H':Hp),ah H H'->H R=none->H' R=some (.lst ys)->Ly A N X H' (b8 N ds ms) ys->Q (.ref R) H'):qr A d vs H Q E9
theorem uw (T:Txt K mg A) (d:Nat):T.gO.Hz P w base (2 * d + 4) (qr A d):=by
 refine T.gO.hs (k:=2 * d + 3) dm (fun f cdv A' outer s H vs Q E' hr hu h=>?_)
 obtain ⟨N,X,v,hs,ds,ms,rfl,s0,⟨a,dx,n0,n1,n2,x0,x1,x2,rfl,ha,e0,e1,e2,p0,p1,p2⟩,ok,q⟩:=h
 have ln:=ok.ln
 have nb:=ok.nb
 unfold b8 at ln nb
 rw [List.length_append] at ln
 refine ⟨_,(ab (pst 1 dm.nd (aL ae))
  (ab (cD PassesOwn.never rfl (iT (cq (fv 0) rfl)) (pgn (i:=2) dm.nd rfl)
   (ai (aD (j6 (fv 1) (aa (aq (hj:=by omega) (su T d) hr (aa (cq (fv 2) rfl) (aa (cq (fv 2) rfl) (aa iy ae)))) ae)))))
  (ai (aA (au aN (fv 1) (aq (hj:=by omega) (su T d) hr (aa (cq (fv 0) rfl) (aa iy (aa iy ae))))))))),?_⟩
 refine ag fun M1 K1=>⟨Nat.zero_le _,fun R hR=>?_⟩
 obtain ⟨s1,eR⟩:=alc hR (HO.lst [])
 generalize upd H R _=H1 at s1 eR ⊢
 refine K1 _ _ ?_
 clear K1 M1
 try dsimp only
 refine ag fun M1 K1=>fdI ((s0.trans s1) _ _ ha) T.cW.cl T.cj rfl (Or.inl ⟨⟨_,SqL.of ((s0.trans s1) _ _ e1)⟩,gp (K:=K) (xs:=x1) (fun i σ Hc=>∃(ys:List V) (v2:Option V),σ=[some (.ref a),some (.ref R),v2]/\ah H Hc/\Hc R=some (.lst ys)/\Ly A N X Hc (fH N (ds.take i)) ys) ⟨[],none,rfl,s1,eR,.nil⟩ (fun i σ Hc _ ⟨_,_,_,z,_⟩=>SqL.of ((s0.trans z) _ _ e1)) ?_ ?_⟩)
 ·rintro i v σ Hc hv ⟨ys,v2,rfl,sc,hRc,ly⟩
  obtain ⟨t,ht,pa⟩:=p1.get hv
  have mt:t ∈ ds:=List.mem_of_getElem? ht
  obtain ⟨dt,dd⟩:=ok.ba t mt
  cases t with
  | ba n i' ps b =>
   unfold bt at pa
   obtain ⟨a',dx',pp,pb,xb,rfl,h1,h2,h3,h4⟩:=pa
   have e:=vz (N:=N) ht
   have le:(fH N (ds.take i)).length + (bq (some (N i')) none b).length <= 300:=by
    have:=congrArg List.length e
    simp only [List.length_append] at this
    have z:bq (some (dNm N (.ba n i' ps b))) none (qQ (.ba n i' ps b))=bq (some (N i')) none b:=rfl
    rw [z] at this
    omega
   have nbb:Nb (bq (some (N i')) none b):=fun y hy=>nb y (List.mem_append_left _ (by rw [e];exact List.mem_append_left _ (List.mem_append_right _ hy)))
   have lly:=Paired.length ly
   refine ⟨Or.inl ⟨rfl,_,SqL.of hRc⟩,fdI ((s0.trans sc) _ _ h1) T.b5.cl T.dU rfl (fdI ((s0.trans sc) _ _ h1) T.b5.cl T.cz rfl ⟨N,X,pb,xb,some (N i'),none,b,rfl,s0.trans sc,h3,h4,dd,nbb,by omega,fun R2 zs He s3 hR2 eR2 l3=>?_⟩)⟩
   have lz:=Paired.length l3
   refine ⟨_,_,_,_,rfl,rfl,s3 _ _ hRc,eR2,sz (by omega),⟨_,_,rfl,ah.out (sc.trans s3) hR _,ak,?_⟩⟩
   rw [mM ht]
   have dR:∀x w,He x=some (.tup w)->upd He R (.lst (ys ++ zs)) x=some (.tup w):=fun x w e=>ao (fun y=>by rw [y,s3 _ _ hRc] at e;cases e) e
   exact Paired.two (ly.same fun x w e=>dR x w (s3 _ _ e)) (l3.same dR)
  | _=>exact dt.elim
 rintro σ Hc ⟨ys,v2,rfl,sc,hRc,ly⟩
 rw [show ds.take x1.length=ds by rw [p1.len];exact List.take_length] at ly
 refine K1 _ _ ?_
 have lly:=Paired.length ly
 try dsimp only
 refine fdI ((s0.trans sc) _ _ ha) T.cW.cl T.eN rfl ⟨N,X,n2,x2,none,none,ms,rfl,s0.trans sc,e2,p2,ok.main,fun y hy=>nb y (List.mem_append_right _ hy),by omega,fun R2 zs He s3 hR2 eR2 l3=>?_⟩
 have lz:=Paired.length l3
 refine ⟨R,R2,_,_,rfl,rfl,s3 _ _ hRc,eR2,sz (by omega),fun R3 hR3=>?_⟩
 have s4:ah He (upd He R3 (.lst (ys ++ zs))):=ah.upd hR3 _
 exact q R3 _ _ ((sc.trans s3).trans s4) (ah.free (sc.trans s3) hR3) ak (Paired.two (ly.same fun x w e=>s4 _ _ (s3 _ _ e)) (l3.same fun x w e=>s4 _ _ e))
inductive mW (A:Adr) (vs:List V) (H:Hp) (Q:VK) (E9:XK):Prop
 | mk (N:Nat->Str) (X:Hp) (v:V) (t:Pt) (z0:vs=[v]) (z1:ah X H) (z2:bt A N X v t) (z3:Q (.bl (vF t)) H):mW A vs H Q E9
theorem vT (T:Txt K mg A):T.mD.Hz P w base 1 (mW A):=by
 refine T.mD.hs rn (fun f cdv A' outer s H vs Q E' hr hu h=>?_)
 obtain ⟨N,X,v,t,rfl,s0,pa,q⟩:=h
 refine ⟨_,(ai (aA (x9 (pcB bN T.aK (aa (fv 0) (aa (dJ T.dH.mg) ae))) (x9 (pcB bN T.aK (aa (fv 0) (aa (dJ T.cw.mg) ae))) (x9 (pcB bN T.aK (aa (fv 0) (aa (dJ T.dN.mg) ae))) (Ae (pcB bN T.aK (aa (fv 0) (aa (dJ T.gG.mg) ae))))))))),?_⟩
 unfold vF at q
 refine p5 T s0 pa 11 (by decide) (by decide) ⟨_,rfl,?_⟩
 cases e1:decide (t.ci=11) with
 | true=>rw [e1] at q;exact jl q
 | false =>
 rw [e1] at q
 refine bO (p5 T s0 pa 12 (by decide) (by decide) ⟨_,rfl,?_⟩)
 cases e2:decide (t.ci=12) with
 | true=>rw [e2] at q;exact jl q
 | false =>
 rw [e2] at q
 refine bO (p5 T s0 pa 7 (by decide) (by decide) ⟨_,rfl,?_⟩)
 cases e3:decide (t.ci=7) with
 | true=>rw [e3] at q;exact jl q
 | false =>
 rw [e3] at q
 exact bO (p5 T s0 pa 8 (by decide) (by decide) q)
end
section
variable {P:Program}{w:World}{K:W.Frag}{mg:Str->Option Value}{base:Heap}{A:Adr}{N:Nat->Str}
seal PE PA PS PSs PT PW
def Sm (M:List Addr) (H H':Hp):Prop:=∀a o,a ∉ M->H a=some o->H' a=some o
theorem Sm.refl (M:List Addr) (H:Hp):Sm M H H:=fun _ _ _ h=>h
theorem Sm.trans {M:List Addr}{H H' H'':Hp} (h:Sm M H H') (h':Sm M H' H''):Sm M H H'':=fun a o m e=>h' a o m (h a o m e)
theorem Sm.new {M:List Addr}{H H':Hp} (s:ah H H'):Sm M H H':=fun a o _ e=>s a o e
theorem Sm.at {M:List Addr}{H:Hp}{a:Addr} (m:a ∈ M) (o:HO):Sm M H (upd H a o):=fun b u hb e=>ao (fun z=>hb (z ▸ m)) e
theorem Sm.same {M:List Addr}{X H H':Hp} (h:Sm M H H') (s:ah X H) (n:∀m ∈ M,X m=none):ah X H':=fun a o e=>h a o (fun m=>by rw [n a m] at e;cases e) (s a o e)
theorem AX (N:Nat->Str) (t:Pt):(hPl N t).isSome=(decide (t.ci=2) || (decide (t.ci=3) || decide (t.ci=4))):=by
 cases t with
 | leaf n r=>cases r <;> rfl
 | _=>rfl
theorem sN (T:Txt K mg A) {X H:Hp} (s:ah X H) {v:V}{t:Pt} (h:bt A N X v t) {x:Str} (e:hPl N t=some x) {Q:VK} (q:Q (.str x) H):xF K "name" v H Q:=by
 cases t with
 | leaf n r =>
  unfold bt at h
  obtain ⟨a,dx,p,rfl,h1,h2⟩:=h
  cases r with
  | giv i _ _=>cases e;exact fdI (s _ _ h1) T.cm.cl T.dq rfl q
  | own i _=>cases e;exact fdI (s _ _ h1) T.eP.cl T.f9 rfl q
  | lt i _=>cases e;exact fdI (s _ _ h1) T.eX.cl T.gb rfl q
  | _=>cases e
 | _=>cases e
theorem zd {α β:Type} (f:α->Option β) {xs:List α}{i:Nat}{x:α} (h:xs[i]?=some x):(xs.take (i + 1)).filterMap f=(xs.take i).filterMap f ++ (f x).toList:=by
 rw [List.take_add_one,h,List.filterMap_append]
 show _ ++ List.filterMap f [x]=_
 rw [List.filterMap_cons]
 cases f x <;> rfl
inductive oF (A:Adr) (vs:List V) (H:Hp) (Q:VK) (E9:XK):Prop
 | mk (N:Nat->Str) (X:Hp) (L:Addr) (xs:List V) (hs:List Pt) (z0:vs=[.ref L]) (z1:ah X H) (z2:X L=some (.lst xs)) (z3:aB A N X xs hs) (z4:hs.length <= 900)
  (z5:∀(R:Addr) (H':Hp),ah H H'->H R=none->H' R=some (.lst (sS (hs.filterMap (hPl N))))->Q (.ref R) H'):oF A vs H Q E9
theorem xr (T:Txt K mg A):T.iR.Hz P w base 1 (oF A):=by
 refine T.iR.hs eg (fun f cdv A' outer s H vs Q E' hr hu h=>?_)
 obtain ⟨N,X,L,xs,hs,rfl,s0,hL,pt,ln,q⟩:=h
 refine ⟨_,(ab (pst 1 eg.nd (aL ae))
  (ab (cD PassesOwn.never rfl (iT (fv 0)) (pgn (i:=2) eg.nd rfl)
   (ai (aS (PW.pt (pw_or (cT (pcB bN T.aK (aa (fv 2) (aa (dJ T.cm.mg) ae))) (fun _=>rfl)) (pw_or (cT (pcB bN T.aK (aa (fv 2) (aa (dJ T.eP.mg) ae))) (fun _=>rfl)) (pw_or1 (cT (pcB bN T.aK (aa (fv 2) (aa (dJ T.eX.mg) ae))) (fun _=>rfl))))))
    (ai (aD (aP (fv 1) (aa (cq (fv 2) rfl) ae))))
    aE)))
  (ai (aA (fv 1))))),?_⟩
 refine ag fun M1 K1=>⟨Nat.zero_le _,fun R hR=>?_⟩
 obtain ⟨s1,e1⟩:=alc hR (HO.lst [])
 generalize upd H R _=H1 at s1 e1 ⊢
 refine K1 _ _ ?_
 clear K1 M1
 try dsimp only
 refine ag fun M1 K1=>Or.inl ⟨⟨_,SqL.of ((s0.trans s1) _ _ hL)⟩,gp (K:=K) (xs:=xs) (fun i σ Hc=>∃(v2:Option V),σ=[some (.ref L),some (.ref R),v2]/\ah H Hc/\Hc R=some (.lst (sS ((hs.take i).filterMap (hPl N))))) ⟨none,rfl,s1,e1⟩ (fun i σ Hc _ ⟨_,_,z,_⟩=>SqL.of ((s0.trans z) _ _ hL)) ?_ ?_⟩
 ·rintro i v σ Hc hv ⟨v2,rfl,sc,hRc⟩
  obtain ⟨t,ht,pa⟩:=pt.get hv
  have hi:=AX N t
  have st:=zd (hPl N) ht
  have il:i < hs.length:=(List.getElem?_eq_some_iff.mp ht).1
  have l1:=List.length_filterMap_le (hPl N) (hs.take i)
  rw [List.length_take] at l1
  have yes:∀x,hPl N t=some x->upd Hc R (.lst (sS ((hs.take i).filterMap (hPl N)) ++ [.str x])) R=some (.lst (sS ((hs.take (i + 1)).filterMap (hPl N)))):=fun x e=>by
   rw [ak,st,e]
   simp [sS]
  have no:hPl N t=none->Hc R=some (.lst (sS ((hs.take (i + 1)).filterMap (hPl N)))):=fun e=>by
   rw [st,e]
   simpa using hRc
  try dsimp only
  have s2:=s0.trans sc
  cases e:hPl N t with
  | none =>
   rw [e] at hi
   have c2:t.ci ≠ 2:=fun z=>by rw [z] at hi;cases hi
   have c3:t.ci ≠ 3:=fun z=>by rw [z] at hi;cases hi
   have c4:t.ci ≠ 4:=fun z=>by rw [z] at hi;cases hi
   exact vh T s2 pa c2 (bO (vh T s2 pa c3 (bO (vh T s2 pa c4 (bO ⟨_,rfl,sc,no e⟩)))))
  | some x =>
   rw [e] at hi
   have lz:(sS ((hs.take i).filterMap (hPl N))).length < sizeLine:=aG (by rw [List.length_map];omega)
   by_cases c2:t.ci=2
   ·exact A6 T s2 pa c2 (jl ⟨Or.inl ⟨rfl,_,SqL.of hRc⟩,sN T s2 pa e ⟨_,_,_,rfl,rfl,hRc,lz,_,rfl,ah.out sc hR _,yes x e⟩⟩)
   by_cases c3:t.ci=3
   ·exact vh T s2 pa c2 (bO (A6 T s2 pa c3 (jl ⟨Or.inl ⟨rfl,_,SqL.of hRc⟩,sN T s2 pa e ⟨_,_,_,rfl,rfl,hRc,lz,_,rfl,ah.out sc hR _,yes x e⟩⟩)))
   by_cases c4:t.ci=4
   ·exact vh T s2 pa c2 (bO (vh T s2 pa c3 (bO (A6 T s2 pa c4 (jl ⟨Or.inl ⟨rfl,_,SqL.of hRc⟩,sN T s2 pa e ⟨_,_,_,rfl,rfl,hRc,lz,_,rfl,ah.out sc hR _,yes x e⟩⟩)))))
   ·rw [decide_eq_false c2,decide_eq_false c3,decide_eq_false c4] at hi
    cases hi
 rintro σ Hc ⟨v2,rfl,sc,hRc⟩
 rw [show hs.take xs.length=hs by rw [pt.len];exact List.take_length] at hRc
 exact K1 _ _ (q R Hc sc hR hRc)
end
section
variable {P:Program}{w:World}{K:W.Frag}{mg:Str->Option Value}{base:Heap}{A:Adr}{N:Nat->Str}
seal PE PA PS PSs PT PW
theorem uS {α β:Type} (f:α->List β) {xs:List α}{i:Nat}{x:α} (h:xs[i]?=some x):(xs.take (i + 1)).flatMap f=(xs.take i).flatMap f ++ f x:=by
 rw [List.take_add_one,h]
 simp
theorem Aq {α β:Type} (f:α->List β) {xs:List α}{i:Nat}{x:α} (h:xs[i]?=some x):((xs.take i).flatMap f).length + (f x).length <= (xs.flatMap f).length:=by
 have e:xs.flatMap f=(xs.take (i + 1)).flatMap f ++ (xs.drop (i + 1)).flatMap f:=by rw [<- List.flatMap_append,List.take_append_drop]
 rw [e,uS f h]
 simp only [List.length_append]
 omega
theorem sD {es:List Le}{i:Nat}{e:Le} (h:es[i]?=some e):cB (es.take (i + 1))=cB (es.take i) ++ (if vF e.1=true then [bu e.1.no] else []):=by
 unfold cB
 rw [List.take_add_one,h,List.filter_append,List.map_append]
 congr 1
 show List.map _ (List.filter _ [e])=_
 rw [List.filter_cons,List.filter_nil]
 split <;> rfl
theorem oh (es:List Le):(cB es).length <= es.length:=by
 unfold cB
 rw [List.length_map]
 exact List.length_filter_le _ _
inductive oR (A:Adr) (d:Nat) (vs:List V) (H:Hp) (Q:VK) (E9:XK):Prop
 | mk (N:Nat->Str) (X:Hp) (v:V) (hs ds ms:List Pt) (z0:vs=[v]) (z1:ah X H) (z2:vB A N X v hs ds ms) (z3:Ok N d hs ds ms)
  (z7:∀(R:Addr) (H':Hp),ah H H'->H R=none->H' R=some (.lst (sS (b6 N hs ds ms)))->Q (.ref R) H'):oR A d vs H Q E9
theorem wa (T:Txt K mg A) (d:Nat):T.places.Hz P w base (2 * d + 5) (oR A d):=by
 refine T.places.hs (k:=2 * d + 4) dP (fun f cdv A' outer s H vs Q E' hr hu h=>?_)
 obtain ⟨N,X,v,hs,ds,ms,rfl,s0,pg,ok,q⟩:=h
 obtain ⟨a,dx,n0,n1,n2,x0,x1,x2,rfl,ha,e0,e1,e2,p0,p1,p2⟩:=id pg
 refine ⟨_,(ab (pst 1 dP.nd (aq (hj:=by omega) (xr T) hr (aa (cq (fv 0) rfl) ae)))
  (ab (cD PassesOwn.never rfl (iT (cq (fv 0) rfl)) (pgn (i:=2) dP.nd rfl)
   (ai (aD (j6 (fv 1) (aa (au aN (aL (aa (cq (fv 2) rfl) ae)) (cq (fv 2) rfl)) ae)))))
  (ab (cD PassesOwn.never rfl (iT (aq (hj:=by omega) (uw T d) hr (aa (fv 0) ae))) (iu rfl (bf (pgn (i:=3) dP.nd rfl) (bf (pgn (i:=4) dP.nd rfl) (bf (pgn (i:=5) dP.nd rfl) fE))))
   (ai (aS (cT (aq (hj:=by omega) (vT T) hr (aa (fv 3) ae)) (fun _=>rfl))
    (ai (aD (aP (fv 1) (aa (aq (hj:=by omega) (qe T) hr (aa (cq (fv 3) rfl) ae)) ae))))
    aE)))
  (ai (aA (au aN (fv 1) (aL (aa (zg T.tH) ae)))))))),?_⟩
 have pl:=ok.pl
 unfold b6 at pl q
 simp only [List.length_append,List.length_singleton] at pl
 have hl:=ok.hl
 refine ag fun M1 K1=>fdI (s0 _ _ ha) T.cW.cl T.da rfl ⟨N,X,n0,x0,hs,rfl,s0,e0,p0,by omega,fun R H1 s1 hR eR=>K1 _ _ ?_⟩
 clear K1 M1
 try dsimp only
 generalize hs.filterMap (hPl N)=B0 at eR pl q
 refine ag fun M1 K1=>fdI ((s0.trans s1) _ _ ha) T.cW.cl T.cj rfl (Or.inl ⟨⟨_,SqL.of ((s0.trans s1) _ _ e1)⟩,gp (K:=K) (xs:=x1) (fun i σ Hc=>∃(v2:Option V),σ=[some (.ref a),some (.ref R),v2,none,none,none]/\ah H Hc/\Hc R=some (.lst (sS (B0 ++ (ds.take i).flatMap fun p=>dNm N p :: dPs N p)))) ⟨none,rfl,s1,by rw [List.take_zero,List.flatMap_nil,List.append_nil];exact eR⟩ (fun i σ Hc _ ⟨_,_,z,_⟩=>SqL.of ((s0.trans z) _ _ e1)) ?_ ?_⟩)
 ·rintro i v σ Hc hv ⟨v2,rfl,sc,hRc⟩
  obtain ⟨t,ht,pa⟩:=p1.get hv
  have mt:t ∈ ds:=List.mem_of_getElem? ht
  obtain ⟨dt,dd⟩:=ok.ba t mt
  have st:=uS (fun p=>dNm N p :: dPs N p) ht
  have sl:=Aq (fun p=>dNm N p :: dPs N p) ht
  cases t with
  | ba n i' ps b =>
   unfold bt at pa
   obtain ⟨a',dx',pp,pb,xb,rfl,h1,h2,h3,h4⟩:=pa
   have sX:=s0.trans sc
   have lp:B0.length + ((ds.take i).flatMap fun p=>dNm N p :: dPs N p).length + (1 + ps.length) <= 900:=by
    have z:(dNm N (Pt.ba n i' ps b) :: dPs N (Pt.ba n i' ps b)).length=ps.length + 1:=by simp [dPs]
    rw [z] at sl
    omega
   refine ⟨Or.inl ⟨rfl,_,SqL.of hRc⟩,fdI (sX _ _ h1) T.b5.cl T.cz rfl ⟨by show 1 <= sizeLine;decide,fun q1 hq1=>?_⟩⟩
   have n1:q1 ≠ R:=fresh_ne hq1 hRc
   have sq:ah Hc (upd Hc q1 (.lst [.str (N i')])):=ah.upd hq1 _
   refine fdI ((sX.trans sq) _ _ h1) T.b5.cl T.dw rfl ⟨q1,pp,_,_,rfl,rfl,ak,(sX.trans sq) _ _ h2,sz (by rw [List.length_map,List.length_singleton];omega),fun q2 hq2=>?_⟩
   have sq2:=ah.upd hq2 (.lst ([V.str (N i')] ++ nV N ps))
   have n2:q2 ≠ R:=fresh_ne hq2 (sq _ _ hRc)
   refine ⟨_,_,_,_,rfl,rfl,sq2 _ _ (sq _ _ hRc),ak,sz (by simp only [List.length_append,List.length_map,List.length_singleton];omega),⟨_,rfl,ah.out ((sc.trans sq).trans sq2) hR _,?_⟩⟩
   rw [ak,st]
   simp [sS,dNm,dPs,nV,Function.comp_def]
  | _=>exact dt.elim
 rintro σ Hc ⟨v2,rfl,sc,hRc⟩
 rw [show ds.take x1.length=ds by rw [p1.len];exact List.take_length] at hRc
 refine K1 _ _ ?_
 clear K1 M1
 try dsimp only
 rw [<- List.length_append] at pl
 generalize B0 ++ (ds.flatMap fun p=>dNm N p :: dPs N p)=B1 at hRc pl q
 refine ag fun M1 K1=>⟨N,X,.ref a,hs,ds,ms,rfl,s0.trans sc,pg,ok,fun L ys H2 s2 hL eL ly=>?_⟩
 have nL:L ≠ R:=fresh_ne hL hRc
 have nb:=ok.nb
 generalize b8 N ds ms=es at ly nb pl q
 have lly:=Paired.length ly
 refine Or.inl ⟨⟨_,SqL.of eL⟩,gp (K:=K) (xs:=ys) (fun i σ Hd=>∃(v3 v4 v5:Option V),σ=[some (.ref a),some (.ref R),v2,v3,v4,v5]/\Sm [R] H2 Hd/\Hd R=some (.lst (sS (B1 ++ cB (es.take i))))) ⟨none,none,none,rfl,Sm.refl _ _,by rw [List.take_zero];show _=some (HO.lst (sS (B1 ++ [])));rw [List.append_nil];exact s2 _ _ hRc⟩ (fun i σ Hd _ ⟨_,_,_,_,z,_⟩=>SqL.of (z _ _ (fun m=>nL (List.mem_singleton.mp m)) eL)) ?_ ?_⟩
 ·rintro i y σ Hd hy ⟨v3,v4,v5,rfl,sd,hRd⟩
  obtain ⟨e,he,tp,v,rfl,etp,pa⟩:=fD ly hy
  have etp':=sd _ _ (fun m=>by rw [List.mem_singleton.mp m,s2 _ _ hRc] at etp;cases etp) etp
  have sX:ah X Hd:=sd.same ((s0.trans sc).trans s2) (fun m hm=>by
   rw [List.mem_singleton.mp hm]
   exact ah.free s0 hR)
  have ne:=nb e (List.mem_of_getElem? he)
  have st:=sD he
  have rl:=oh (es.take i)
  have rl2:(cB (es.take i)).length <= (cB es).length:=by
   have:cB es=cB (es.take i) ++ cB (es.drop i):=by
    unfold cB
    rw [<- List.map_append,<- List.filter_append,List.take_append_drop]
   rw [this]
   simp
  try dsimp only
  refine ⟨tp,_,rfl,SqT.of etp',rfl,_,_,rfl,_,_,rfl,_,_,rfl,rfl,⟨N,X,v,e.1,rfl,sX,pa,_,rfl,?_⟩⟩
  cases c:vF e.1 with
  | true =>
   rw [c,if_pos rfl] at st
   refine jl ⟨Or.inl ⟨rfl,_,SqL.of hRd⟩,rX T sX pa ⟨_,rfl,ne.1,ne.2,⟨_,_,_,rfl,rfl,hRd,aG (by simp only [sS,List.length_map,List.length_append];omega),⟨_,_,_,rfl,sd.trans (Sm.at (List.mem_singleton.mpr rfl) _),?_⟩⟩⟩⟩
   rw [ak,st]
   simp [sS]
  | false =>
   rw [c,if_neg Bool.false_ne_true,List.append_nil] at st
   exact bO ⟨_,_,_,rfl,sd,by rw [st];exact hRd⟩
 rintro σ Hd ⟨v3,v4,v5,rfl,sd,hRd⟩
 rw [show es.take ys.length=es by rw [<- lly];exact List.take_length] at hRd
 refine K1 _ _ ?_
 have s3:ah H Hd:=sd.same (sc.trans s2) (fun m hm=>by rw [List.mem_singleton.mp hm];exact hR)
 refine ⟨by show 1 <= sizeLine;decide,fun q1 hq1=>?_⟩
 have sq:ah Hd (upd Hd q1 (.lst [.str "the clock"])):=ah.upd hq1 _
 refine ⟨R,q1,_,_,rfl,rfl,sq _ _ hRd,ak,sz (by simp only [sS,List.length_map,List.length_append,List.length_singleton];omega),fun q2 hq2=>q q2 _ ((s3.trans sq).trans (ah.upd hq2 _)) (ah.free (s3.trans sq) hq2) ?_⟩
 rw [ak]
 simp [sS]
end
section
variable {P:Program}{w:World}{K:W.Frag}{mg:Str->Option Value}{base:Heap}{A:Adr}{N:Nat->Str}
seal PE PA PS PSs PT PW
theorem w8:W.kitOne K (.type "str") (.type "str")=some true:=by kernel_rfl!
theorem y4 (x:Str) (acc:List Str):inV (.str x) (sS acc)=decide (x ∈ acc):=by
 unfold inV sS
 rw [List.any_map,Bool.eq_iff_iff,List.any_eq_true,decide_eq_true_iff]
 constructor
 ·rintro ⟨y,m,e⟩
  have e:decide (y=x)=true:=e
  exact of_decide_eq_true e ▸ m
 ·intro m
  exact ⟨x,m,decide_eq_true rfl⟩
theorem vD (acc:List Str):(sS acc).all iK=true:=by
 unfold sS
 rw [List.all_map,List.all_eq_true]
 exact fun _ _=>rfl
def vTh:Val->List Th
 | .one a=>[a]
 | .op a _ b=>[a,b]
def spN (sp:Nat->Sp):Nat->Sp
 | 0=>fun _ _ _ _=>False
 | d + 1=>sp d
end
section
variable {P:Program}{w:World}{K:W.Frag}{mg:Str->Option Value}{base:Heap}{A:Adr}{N:Nat->Str}
seal PE PA PS PSs PT PW
theorem wM {H:Hp} (ns:List Int):cC K H (ns.map V.int) (ns.map PyData.int)/\PyData.canLayAll0 (ns.map PyData.int)=true/\PyData.depthAll (ns.map PyData.int)=0:=by
 induction ns with
 | nil=>exact ⟨.nil,rfl,rfl⟩
 | cons n r ih =>
  obtain ⟨h1,h2,h3⟩:=ih
  exact ⟨.cons (.int n) h1,by rw [List.map_cons];simp [PyData.canLayAll0,PyData.canLay0,h2],by rw [List.map_cons];simp [PyData.depthAll,PyData.depth,h3]⟩
theorem ke {H:Hp}{xs:List Str} (ok:∀x ∈ xs,PyData.strOk x=true):cC K H (sS xs) (xs.map PyData.str)/\PyData.canLayAll0 (xs.map PyData.str)=true/\PyData.depthAll (xs.map PyData.str)=0:=by
 induction xs with
 | nil=>exact ⟨.nil,rfl,rfl⟩
 | cons n r ih =>
  obtain ⟨h1,h2,h3⟩:=ih fun x hx=>ok x (List.mem_cons_of_mem _ hx)
  exact ⟨.cons (.str n) h1,by rw [List.map_cons];simp [PyData.canLayAll0,PyData.canLay0,h2,ok n List.mem_cons_self],by rw [List.map_cons];simp [PyData.depthAll,PyData.depth,h3]⟩
theorem ne_nil {H:Hp}{p q:Addr}{xs:List V}{ds:List PyData} (hp:SqL K H p xs) (hq:SqL K H q []) (r:cC K H xs ds/\PyData.canLayAll0 ds=true/\PyData.depthAll ds=0) {Q:VK} (k:Q (.bl (!xs.isEmpty)) H):fNe K (.ref p) (.ref q) H Q:=by
 obtain ⟨h1,h2,h3⟩:=r
 refine ⟨.list ds,.list [],.lst hp h1,.lst hq .nil,by simp [SeqAt.shaped,PyData.canLay0,PyData.depth,h2,h3],rfl,?_⟩
 cases h1 with
 | nil=>exact k
 | cons _ _=>exact k
inductive uv (K:W.Frag) (vs:List V) (H:Hp) (Q:VK) (E9:XK):Prop
 | mk (a:Addr) (ns:List Int) (k:Int) (z0:vs=[.ref a,.int k]) (z1:SqL K H a (ns.map V.int)) (z2:0 <= k) (z4:k < 1000) (z3:∀(c:Int) (H':Hp),ah H H'->Q (.int c) H'):uv K vs H Q E9
theorem xJ {ns:List Int}{k:Int} (h0:0 <= k) (h1:k < (ns.length:Int)):∃c,atI (ns.map V.int) k=some (.int c):=by
 have hk:k.toNat < ns.length:=by omega
 refine ⟨ns[k.toNat],?_⟩
 have e:=jf (xs:=ns.map V.int) (j:=k.toNat) (v:=.int ns[k.toNat]) (by rw [List.getElem?_map,List.getElem?_eq_getElem hk];rfl)
 rw [show ((k.toNat:Nat):Int)=k by omega] at e
 exact e
theorem qd (T:Txt K mg A):T.iM.Hz P w base 1 (uv K):=by
 refine T.iM.hs fb (fun f cdv A' outer s H vs Q E hr hu h=>?_)
 obtain ⟨a,ns,k,rfl,hS,h0,h1,q⟩:=h
 have el:(((ns.map V.int).length:Nat):Int)=(ns.length:Int):=by rw [List.length_map]
 refine ⟨_,(ab (aS (ptc vg (fv 1) (pcB dS T.fJ (aa (fv 0) ae)))
   (ai (aA (px hu (fv 0) (fv 1))))
   aE)
  (ab (pst 2 fb.nd af)
  (ab (aS (ptc (pS hu) (fv 0) (aL ae))
   (ai (pst 2 fb.nd (px hu (fv 0) (au bw (fv 1) (pcB dS T.fJ (aa (fv 0) ae))))))
   aE)
  (ai (aA (au bw (au ck (au aN (au aN (au bw (fv 2) af) (au ck af (fv 1))) af) af) af)))))),?_⟩
 refine ag fun M1 K1=>Or.inl ⟨_,_,rfl,Or.inl ⟨_,hS,rfl⟩,_,rfl,bj (fun c=>?_) (fun c=>K1 _ _ ?_)⟩
 ·have c':k < (((ns.map V.int).length:Nat):Int):=of_decide_eq_true c
  rw [el] at c'
  obtain ⟨x,hx⟩:=xJ h0 c'
  exact lix hS hx (q x H (ah.refl _))
 clear K1 M1
 try dsimp only
 refine ag fun M1 K1=>K1 _ _ ?_
 clear K1 M1
 try dsimp only
 refine ag fun M1 K1=>?_
 have fin:∀(c:Int) (H':Hp),ah H H'->M1 [some (.ref a),some (.int k),some (.int c)] H':=fun c H' s'=>K1 _ _ ⟨by show (0:Int) < 1000003;decide,.inl ⟨by decide,by omega⟩,.inr ⟨by decide,by decide⟩,by show (0:Int) < 2147483647;decide,q _ H' s'⟩
 refine ⟨Nat.zero_le _,fun R hR=>?_⟩
 obtain ⟨s1,e1⟩:=alc hR (HO.lst [])
 generalize upd H R _=H1 at s1 e1 ⊢
 refine ne_nil (s1.seq hS) (SqL.of e1) (wM ns) ⟨_,rfl,?_⟩
 cases ns with
 | nil=>exact bO (fin 0 H1 s1)
 | cons n r =>
  refine jl ?_
  have m:=bx k (show (0:Int) < (((n :: r).map V.int).length:Int) by rw [List.length_map,List.length_cons];omega)
  obtain ⟨x,hx⟩:=xJ (ns:=n :: r) m.1 (Int.lt_of_lt_of_le m.2 (Int.le_of_eq el))
  exact Or.inl ⟨_,_,rfl,Or.inl ⟨_,s1.seq hS,rfl⟩,by show (0:Int) < (((n :: r).map V.int).length:Int);rw [List.length_map,List.length_cons];omega,lix (s1.seq hS) hx (fin x H1 s1)⟩
inductive rB (K:W.Frag) (vs:List V) (H:Hp) (Q:VK) (E9:XK):Prop
 | mk (a:Addr) (ns:List Int) (k:Int) (n:Nat) (z0:vs=[.ref a,.int k,.int n]) (z1:SqL K H a (ns.map V.int)) (z2:0 <= k) (z4:k + n < 1000)
  (z3:∀(R:Addr) (cs:List Int) (H':Hp),ah H H'->H R=none->H' R=some (.lst (cs.map V.int))->cs.length=n->Q (.ref R) H'):rB K vs H Q E9
theorem zc {ys:List V} (h:∀(i:Nat) y,ys[i]?=some y->∃c,y=V.int c):∃cs:List Int,ys=cs.map V.int:=by
 induction ys with
 | nil=>exact ⟨[],rfl⟩
 | cons y r ih =>
  obtain ⟨c,rfl⟩:=h 0 y rfl
  obtain ⟨cs,rfl⟩:=ih fun i z hz=>h (i + 1) z hz
  exact ⟨c :: cs,rfl⟩
theorem ur (T:Txt K mg A):T.mN.Hz P w base 2 (rB K):=by
 refine T.mN.hs (k:=1) rf (fun f cdv A' outer s H vs Q E hr hu h=>?_)
 obtain ⟨a,ns,k,n,rfl,hS,h0,h1,q⟩:=h
 refine ⟨_,(ai (aA (j5 (N:=["_law_k","_law_script","_law_at"]) (own:=1) (fr:=[0,1]) (b9.of (by kernel_rfl!)) rfl (bK rfl T.bY (aa (fv 2) ae)) (fun b=>pgn (i:=0) (show List.Nodup (["_law_k","_law_script","_law_at"]:List PySem.Str) by decide +kernel) rfl) (fun b=>kQ) (fun b=>aq (qd T) hr (aa (fv 1) (aa (au aN (fv 2) (fv 0)) ae)))))),⟨_,rfl,by omega,by omega,?_⟩⟩
 rw [Int.toNat_natCast]
 refine mL (n:=n) (x:=fun i=>.int (0 + (i:Int))) (fun j y H=>∃c,y=V.int c) (aG (by omega)) (fun _ _=>Nat.le_refl _) (fun _ _ h _=>h) (fun _ _ _ _ _ _ y=>y) (fun b j H1 G hj s1 kk=>⟨a,ns,_,rfl,s1.seq hS,by omega,by omega,fun c H' s'=>kk _ H' s' ⟨c,rfl⟩⟩) (fun j y H1 H2 s1 h=>h) (fun j y H1 D ys zs hD h=>h) (fun D H1 ys hD s1 e1 ly hy=>?_)
 ·obtain ⟨cs,rfl⟩:=zc hy
  exact q D cs H1 s1 hD e1 (by rw [<- ly,List.length_map])
theorem yq {m:Int} (h:0 < m):∀x:Int,0 <= x % m/\x % m < m:=fun x=>bx x h
inductive xm (vs:List V) (H:Hp) (Q:VK) (E9:XK):Prop
 | mk (c k:Int) (z0:vs=[.int c,.int k]) (z1:0 <= k) (z2:k < 1000) (z3:∀m:Int,0 <= m->m < 1000000000000000->Q (.int m) H):xm vs H Q E9
theorem lA (T:Txt K mg A):T.pZ.Hz P w base 1 xm:=by
 refine T.pZ.hs eU (fun f cdv A' outer s H vs Q E hr hu h=>?_)
 obtain ⟨c,k,rfl,h0,h1,q⟩:=h
 refine ⟨_,(ab (aS (PW.pt (pw_and (ptc (bZ hu) (au bw (fv 0) af) af) (pw_and1 (ptc sP (fv 0) (au om af af)))))
   (ab (pst 2 eU.nd (au cI (fv 0) af))
   (ab (cD PassesOwn.never rfl (bK rfl T.bY (aa (fv 1) ae)) (pgn (i:=3) eU.nd rfl)
    (ai (pst 2 eU.nd (au cI (fv 2) (au om af af)))))
   (ai (aS (ptc sP (fv 2) af)
    (ai (aA (au bw (fv 2) (au om af af))))
    aE))))
   aE)
  (ab (pst 4 eU.nd (au bw (au ck (au aN (au bw (fv 0) af) af) (au aN (au ck (fv 1) (fv 1)) af)) af))
  (ai (aA (au bw (au ck (fv 4) (au aN (au bw (fv 4) af) af)) af))))),?_⟩
 refine ag fun M1 K1=>?_
 have fin:∀(v2 v3 v4:Option V),M1 [some (.int c),some (.int k),v2,v3,v4] H:=fun v2 v3 v4=>K1 _ _ (by
  refine ag fun M2 K2=>?_
  have kk:-(2 ^ 64) < k * k + 7919/\k * k + 7919 < 2 ^ 64:=by
   have a1:0 <= k * k:=Int.mul_nonneg h0 h0
   have a2:k * k <= 1000 * 1000:=Int.mul_le_mul (by omega) (by omega) h0 (by decide)
   omega
  refine ⟨by show (0:Int) < 1000003;decide,.inl ⟨by omega,by omega⟩,.inr kk,by show (0:Int) < 2147483647;decide,?_⟩
  obtain ⟨m0,m1⟩:=bx ((c % 1000003 + 17) * (k * k + 7919)) (show (0:Int) < 2147483647 by decide)
  refine K2 _ _ ?_
  clear K2 M2
  try dsimp only
  have m2:=yq (show (0:Int) < 2147483647 by decide)
  exact ⟨by show (0:Int) < 65521;decide,.inl ⟨by omega,by omega⟩,by show (0:Int) < 2147483647;decide,q _ (m2 _).1 (Int.lt_trans (m2 _).2 (by decide))⟩)
 refine ⟨by show (0:Int) < 2;decide,rfl,_,rfl,bj (fun _=>?_) (fun _=>bO (fin none none none))⟩
 refine ⟨⟨by decide,by decide,by decide⟩,_,rfl,bj (fun _=>?_) (fun _=>fin none none none)⟩
 refine ag fun M2 K2=>⟨⟨by decide,by decide⟩,K2 _ _ ?_⟩
 clear K2 M2
 try dsimp only
 refine ag fun M2 K2=>⟨_,rfl,by omega,by omega,cL (fun i σ Hc=>∃(d:Int) (v3:Option V),σ=[some (.int c),some (.int k),some (.int d),v3,none]/\Hc=H) ⟨_,none,rfl,rfl⟩ ?_ ?_⟩
 ·rintro i σ Hc hi ⟨d,v3,rfl,rfl⟩
  exact ⟨⟨by decide,by decide,by decide⟩,⟨by decide,by decide⟩,_,_,rfl,rfl⟩
 rintro σ Hc ⟨d,v3,rfl,rfl⟩
 refine K2 _ _ ?_
 try dsimp only
 refine ⟨_,rfl,bj (fun _=>?_) (fun _=>fin _ _ _)⟩
 obtain ⟨e0,e1⟩:=bx d (show (0:Int) < 10 ^ 15 by decide)
 exact ⟨⟨by decide,by decide,by decide⟩,by show (0:Int) < 10 ^ 15;decide,q _ e0 e1⟩
inductive tR (K:W.Frag) (vs:List V) (H:Hp) (Q:VK) (E9:XK):Prop
 | mk (a:Addr) (xs:List V) (n:Int) (z0:vs=[.ref a,.int n]) (z1:SqL K H a xs) (z2:0 < xs.length) (z3:∀x ∈ xs,Q x H):tR K vs H Q E9
theorem kH (T:Txt K mg A):T.mS.Hz P w base 1 (tR K):=by
 refine T.mS.hs qU (fun f cdv A' outer s H vs Q E hr hu h=>?_)
 obtain ⟨a,xs,n,rfl,hS,h0,q⟩:=h
 refine ⟨_,(ai (aA (px hu (fv 0) (au bw (fv 1) (pcB dS T.fJ (aa (fv 0) ae)))))),?_⟩
 have m:=bx n (show (0:Int) < (xs.length:Int) by omega)
 obtain ⟨x,hx,ax⟩:=yP m.1 m.2
 exact Or.inl ⟨_,_,rfl,Or.inl ⟨_,hS,rfl⟩,by show (0:Int) < (xs.length:Int);omega,lix hS ax (q x (List.mem_of_getElem? hx))⟩
end
section
variable {P:Program}{w:World}{K:W.Frag}{mg:Str->Option Value}{base:Heap}{A:Adr}{N:Nat->Str}
seal PE PA PS PSs PT PW
structure j2 (N:Nat->Str):Prop where
 inj:∀i j,i < 24->j < 24->N i=N j->i=j
 ch:∀i,i < 24->∀c ∈ (N i).cps.toList,97 <= c/\c <= 122
abbrev LET:Str:="abcdefghijklmnopqrstuvwxyz"
def ra (k:Int):Nat:=(97 + k).toNat
theorem Ar {k:Int} (h0:0 <= k) (h1:k < 26):atI LET.cps.toList k=some (ra k):=by
 obtain ⟨n,rfl⟩:∃n:Nat,k=(n:Int):=⟨k.toNat,by omega⟩
 have h:∀m:Fin 26,atI LET.cps.toList ((m.val:Nat):Int)=some (ra ((m.val:Nat):Int)):=by decide +kernel
 exact h ⟨n,by omega⟩
abbrev Bh:Str:="set if by at idle most end else main over rest last"
abbrev AV:Str:="loop given hand own put say send call deed let open house closed"
def pF:List Str:=["set","if","by","at","idle","most","end","else","main","over","rest","last"]
def qk:List Str:=["loop","given","hand","own","put","say","send","call","deed","let","open","house","closed"]
def words:List Str:=pF ++ qk
theorem vx:mh Bh " " pF:=⟨by decide +kernel,by decide +kernel,by decide +kernel,by decide +kernel,by decide,by decide +kernel⟩
theorem vL:mh AV " " qk:=⟨by decide +kernel,by decide +kernel,by decide +kernel,by decide +kernel,by decide,by decide +kernel⟩
theorem wI:words.Nodup:=by decide +kernel
theorem xT:∀x ∈ words,∀c ∈ x.cps.toList,97 <= c/\c <= 122:=by decide +kernel
theorem zA (o:Int):j2 fun k=>words.getD ((o + (0 + (k:Int))) % 25).toNat Str.empty:=by
 have g:∀k:Nat,∃j,j < 25/\((o + (0 + (k:Int))) % 25).toNat=j:=fun k=>⟨_,by have:=bx (o + (0 + (k:Int))) (show (0:Int) < 25 by decide);omega,rfl⟩
 have e:∀j,j < 25->words.getD j Str.empty ∈ words:=fun j h=>by
  rw [List.getD_eq_getElem?_getD,List.getElem?_eq_getElem (show j < words.length from h)]
  exact List.getElem_mem _
 refine ⟨fun i j hi hj h=>?_,fun i hi=>?_⟩
 ·obtain ⟨a,ha,ea⟩:=g i
  obtain ⟨b,hb,eb⟩:=g j
  have h:words.getD ((o + (0 + (i:Int))) % 25).toNat Str.empty=words.getD ((o + (0 + (j:Int))) % 25).toNat Str.empty:=h
  rw [ea,eb,List.getD_eq_getElem?_getD,List.getD_eq_getElem?_getD,List.getElem?_eq_getElem (show a < words.length from ha),List.getElem?_eq_getElem (show b < words.length from hb)] at h
  have:=(List.getElem_inj wI).mp h
  omega
 ·obtain ⟨a,ha,ea⟩:=g i
  show ∀c ∈ (words.getD ((o + (0 + (i:Int))) % 25).toNat Str.empty).cps.toList,_
  rw [ea]
  exact xT _ (e a ha)
def dec (v:Int) (cs:List Nat):Int:=cs.foldl (fun v (c:Nat)=>(v + 1) * 26 + ((c:Int) - 97)) v
theorem wj {n:Int} (cs:List Nat):dec (n / 26 - 1) (ra (n % 26) :: cs)=dec n cs:=by
 unfold dec
 rw [List.foldl_cons]
 congr 1
 have m:=bx n (show (0:Int) < 26 by decide)
 have e:((ra (n % 26):Nat):Int) - 97=n % 26:=by
  unfold ra
  omega
 rw [e]
 omega
def BP (n:Int) (x:Str):Prop:=dec (-1) x.cps.toList=n/\∀c ∈ x.cps.toList,97 <= c/\c <= 122
theorem DR {N:Nat->Str}{c s:Int} (hs:1 <= s) (h:∀k:Nat,k < 24->BP (c + (k:Int) * s) (N k)):j2 N:=by
 refine ⟨fun i j hi hj e=>?_,fun i hi=>(h i hi).2⟩
 have h1:=(h i hi).1
 rw [e,(h j hj).1] at h1
 have h2:(j:Int) * s=(i:Int) * s:=by omega
 have:=Int.eq_of_mul_eq_mul_right (by omega) h2
 omega
theorem yf {a:Nat}{x:Str}:((⟨#[a]⟩:Str) ++ x).cps.toList=a :: x.cps.toList:=by
 show (#[a] ++ x.cps).toList=_
 rw [Array.toList_append]
 rfl
theorem DT {n:Int}{j:Nat} (h0:0 <= n) (h:n + 1 < 26 ^ (j + 1)):n / 26 - 1 + 1 < 26 ^ j:=by
 have e:(26:Int) ^ (j + 1)=26 ^ j * 26:=Int.pow_succ _ _
 rw [e] at h
 have:=Int.ediv_lt_of_lt_mul (by decide:(0:Int) < 26) (show n < 26 ^ j * 26 by omega)
 omega
inductive oe (vs:List V) (H:Hp) (Q:VK) (E9:XK):Prop
 | mk (c o:Int) (z0:vs=[.int c,.int o,.int 24])
  (z1:∀(R:Addr) (N:Nat->Str) (H':Hp),ah H H'->H R=none->H' R=some (.lst (sS ((List.range 24).map N)))->j2 N->Q (.ref R) H'):oe vs H Q E9
theorem xu (T:Txt K mg A):T.kG.Hz P w base 1 oe:=by
 refine T.kG.hs bh (fun f cdv A' outer s H vs Q E hr hu h=>?_)
 obtain ⟨c,o,rfl,q⟩:=h
 refine ⟨_,(ab (pst 3 bh.nd (m_split aj (aa aj ae)))
  (ab (pst 3 bh.nd (au aN (fv 3) (m_split aj (aa aj ae))))
  (ab (aS (ptc (bZ hu) (au bw (fv 0) af) af)
   (ai (aA (j5 (N:=["_law_k","_law_words","_law_other"]) (own:=1) (fr:=[3,1]) (b9.of (by kernel_rfl!)) rfl (bK rfl T.bY (aa (fv 2) ae)) (fun b=>pgn (i:=0) (show List.Nodup (["_law_k","_law_words","_law_other"]:List PySem.Str) by decide +kernel) rfl) (fun b=>kQ) (fun b=>px hu (fv 1) (au bw (au aN (fv 2) (fv 0)) (pcB dS T.fJ (aa (fv 1) ae)))))))
   aE)
  (ab (pst 4 bh.nd aj)
  (ab (pst 5 bh.nd (px hu (aL (aa af (aa af (aa af (aa af (aa (au aN af (au bw (fv 1) (au om af af))) ae)))))) (au bw (au cI (fv 0) af) af)))
  (ab (pst 6 bh.nd (aL ae))
  (ab (cD PassesOwn.never rfl (bK rfl T.bY (aa (fv 2) ae)) (pgn (i:=7) bh.nd rfl)
   (ab (pst 8 bh.nd (au aN (au bw (au cI (fv 0) af) (au om af af)) (au ck (fv 7) (fv 5))))
   (ab (pst 9 bh.nd aj)
   (ab (iI PassesOwn.never (ptc DF (fv 8) af)
    (ab (pst 9 bh.nd (au aN (px hu (fv 4) (au bw (fv 8) af)) (fv 9)))
    (ai (pst 8 bh.nd (au q0 (au cI (fv 8) af) af)))))
   (ai (aD (aP (fv 6) (aa (fv 9) ae))))))))
  (ai (aA (fv 6)))))))))),?_⟩
 refine ag fun M1 K1=>⟨rfl,_,_,_,rfl,rfl,vx,fun L1 hL1=>?_⟩
 obtain ⟨s1,e1⟩:=alc hL1 (HO.lst (pF.map V.str))
 generalize upd H L1 _=H1 at s1 e1 ⊢
 refine K1 _ _ ?_
 clear K1 M1
 try dsimp only
 refine ag fun M1 K1=>⟨rfl,_,_,_,rfl,rfl,vL,fun L2 hL2=>?_⟩
 obtain ⟨s2,e2⟩:=alc hL2 (HO.lst (qk.map V.str))
 generalize upd H1 L2 _=H2 at s2 e2 ⊢
 refine ⟨L1,L2,_,_,rfl,rfl,s2 _ _ e1,e2,by decide,fun L3 hL3=>?_⟩
 obtain ⟨s3,e3⟩:=alc hL3 (HO.lst (pF.map V.str ++ qk.map V.str))
 generalize upd H2 L3 _=H3 at s3 e3 ⊢
 have t3:=(s1.trans s2).trans s3
 have e3:H3 L3=some (.lst (sS words)):=by rw [e3,<- List.map_append];rfl
 refine K1 _ _ ?_
 clear K1 M1
 try dsimp only
 refine ag fun M1 K1=>⟨by show (0:Int) < 4;decide,rfl,_,rfl,bj (fun _=>?_) (fun _=>K1 _ _ ?_)⟩
 ·refine ⟨_,rfl,by decide,by decide,rT (n:=24) (fun _=>true) (fun k=>.str (words.getD ((o + (0 + (k:Int))) % 25).toNat Str.empty)) (by decide) (fun b i H4 R hi s4 k=>k H4 (ah.refl _)) (fun b i H4 R hi _ s4 k=>?_) (fun D H4 hD s4 e4=>?_)⟩
  ·have m:=bx (o + (0 + (i:Int))) (show (0:Int) < 25 by decide)
   have g:((o + (0 + (i:Int))) % 25).toNat < words.length:=by show _ < 25;omega
   have ax:=jf (xs:=sS words) (j:=((o + (0 + (i:Int))) % 25).toNat) (v:=.str (words.getD ((o + (0 + (i:Int))) % 25).toNat Str.empty)) (by rw [List.getElem?_map,List.getD_eq_getElem?_getD,List.getElem?_eq_getElem g];rfl)
   rw [show ((((o + (0 + (i:Int))) % 25).toNat:Nat):Int)=(o + (0 + (i:Int))) % 25 by omega] at ax
   exact lnl (s4 _ _ e3) ⟨by show (0:Int) < 25;decide,lix (SqL.of (s4 _ _ e3)) ax (k H4 (ah.refl _))⟩
  ·refine q D _ H4 (t3.trans s4) (ah.free t3 hD) ?_ (zA o)
   rw [e4,rp]
   simp [sS]
 clear K1 M1
 try dsimp only
 refine ag fun M1 K1=>K1 _ _ ?_
 clear K1 M1
 try dsimp only
 refine ag fun M1 K1=>?_
 obtain ⟨o0,o1⟩:=bx o (show (0:Int) < 10 ^ 9 by decide)
 refine ⟨⟨by decide,by decide,by decide⟩,by show (0:Int) < 10 ^ 9;decide,by show 5 <= sizeLine;decide,fun L4 hL4=>?_⟩
 obtain ⟨s4,e4⟩:=alc hL4 (HO.lst [.int 1,.int 26,.int 27,.int 676,.int (1 + o % 10 ^ (9:Int).toNat)])
 generalize upd H3 L4 _=H4 at s4 e4 ⊢
 have t4:=t3.trans s4
 refine ⟨⟨by decide,by decide⟩,by show (0:Int) < 5;decide,?_⟩
 obtain ⟨st,ax,st0,st1⟩:∃st:Int,atI [V.int 1,.int 26,.int 27,.int 676,.int (1 + o % 10 ^ (9:Int).toNat)] (c / 4 % 5)=some (.int st)/\1 <= st/\st <= 1000000000:=by
  obtain ⟨m0,m1⟩:=bx (c / 4) (show (0:Int) < 5 by decide)
  generalize c / 4 % 5=j at m0 m1
  have cs:j=0 \/ j=1 \/ j=2 \/ j=3 \/ j=4:=by omega
  rcases cs with rfl | rfl | rfl | rfl | rfl
  ·exact ⟨1,rfl,by decide,by decide⟩
  ·exact ⟨26,rfl,by decide,by decide⟩
  ·exact ⟨27,rfl,by decide,by decide⟩
  ·exact ⟨676,rfl,by decide,by decide⟩
  ·have o1':o % 10 ^ (9:Int).toNat < 1000000000:=o1
   have o0':0 <= o % 10 ^ (9:Int).toNat:=o0
   exact ⟨_,rfl,by omega,by omega⟩
 refine lix (SqL.of e4) ax (K1 _ _ ?_)
 clear K1 M1
 try dsimp only
 refine ag fun M1 K1=>⟨Nat.zero_le _,fun R hR=>?_⟩
 obtain ⟨s5,e5⟩:=alc hR (HO.lst [])
 generalize upd H4 R _=H5 at s5 e5 ⊢
 have t5:=t4.trans s5
 have hR0:H R=none:=ah.free t4 hR
 obtain ⟨b0,b1⟩:=bx (c / 20) (show (0:Int) < 10 ^ 10 by decide)
 refine K1 _ _ ?_
 clear K1 M1
 try dsimp only
 refine ag fun M1 K1=>⟨_,rfl,by decide,by decide,cL (fun i σ Hc=>∃(xs:List Str) (v7 v8 v9:Option V),σ=[some (.int c),some (.int o),some (.int 24),some (.ref L3),some (.str LET),some (.int st),some (.ref R),v7,v8,v9]/\ah H Hc/\Hc R=some (.lst (sS xs))/\xs.length=i/\∀(k:Nat) x,xs[k]?=some x->BP (c / 20 % 10 ^ (10:Int).toNat + (k:Int) * st) x) ⟨[],none,none,none,rfl,t5,e5,rfl,fun k x hx=>by cases hx⟩ ?_ ?_⟩
 ·rintro i σ Hc hi ⟨xs,v7,v8,v9,rfl,sc,hRc,lx,wd⟩
  have hi24:i < 24:=hi
  have ei:(0:Int) + (i:Int)=(i:Int):=by omega
  rw [ei]
  try dsimp only
  refine ag fun N1 J1=>⟨⟨by decide,by decide⟩,⟨by decide,by decide,by decide⟩,by show (0:Int) < 10 ^ 10;decide,.inl ⟨by omega,by omega⟩,J1 _ _ ?_⟩
  clear J1 N1
  try dsimp only
  refine ag fun N1 J1=>J1 _ _ ?_
  clear J1 N1
  try dsimp only
  refine ag fun N1 J1=>?_
  have bb:c / 20 % 10 ^ (10:Int).toNat + (i:Int) * st + 1 < 26 ^ 8:=by
   have b1':c / 20 % 10 ^ (10:Int).toNat < 10000000000:=b1
   have m1:(i:Int) * st <= 23 * 1000000000:=Int.mul_le_mul (by omega) st1 (by omega) (by decide)
   have:(26:Int) ^ 8=208827064576:=by decide
   omega
  have b0':0 <= c / 20 % 10 ^ (10:Int).toNat:=b0
  have m0:0 <= (i:Int) * st:=Int.mul_nonneg (by omega) (by omega)
  have ww:0 <= c / 20 % 10 ^ (10:Int).toNat + (i:Int) * st:=Int.add_nonneg b0' m0
  generalize ew:c / 20 % 10 ^ (10:Int).toNat + (i:Int) * st=wn at bb ww
  refine ⟨fun m σ' Hd=>∃(n:Int) (x:Str),σ'=[some (.int c),some (.int o),some (.int 24),some (.ref L3),some (.str LET),some (.int st),some (.ref R),some (.int (i:Int)),some (.int n),some (.str x)]/\Hc=Hd/\-1 <= n/\n + 1 < 26 ^ m/\m + x.length <= 8/\dec n x.cps.toList=wn/\∀c ∈ x.cps.toList,97 <= c/\c <= 122,⟨8,wn,"",rfl,rfl,by omega,bb,by decide,rfl,fun c hc=>by cases hc⟩,?_⟩
  rintro m σ' Hd ⟨n,x,rfl,rfl,n0,n1,lm,dx,cx⟩
  refine ⟨_,rfl,bj (fun z=>?_) (fun z=>J1 _ _ ?_)⟩
  ·have z:0 <= n:=of_decide_eq_true z
   cases m with
   | zero=>rw [Int.pow_zero] at n1;omega
   | succ m =>
   refine ⟨fun σ' Hd=>∃(n:Int) (x:Str),σ'=[some (.int c),some (.int o),some (.int 24),some (.ref L3),some (.str LET),some (.int st),some (.ref R),some (.int (i:Int)),some (.int n),some (.str x)]/\Hc=Hd/\-1 <= n/\n + 1 < 26 ^ m/\m + x.length <= 8/\dec n x.cps.toList=wn/\∀c ∈ x.cps.toList,97 <= c/\c <= 122,fun σ' Hd h=>⟨m,Nat.lt_succ_self _,h⟩,ag fun N2 J2=>?_⟩
   obtain ⟨l0,l1⟩:=bx n (show (0:Int) < 26 by decide)
   have lx':(Str.mk #[ra (n % 26)] ++ x).length=1 + x.length:=fF _ _
   refine ⟨by show (0:Int) < 26;decide,⟨ra (n % 26),by decide +kernel,Ar l0 l1,⟨by show 1 + x.length <= sizeLine;exact Nat.le_of_lt (aG (by omega)),J2 _ _ ⟨⟨by decide,by decide⟩,_,_,rfl,rfl,by omega,DT z n1,by rw [lx'];omega,?_,?_⟩⟩⟩⟩
   ·rw [yf,wj]
    exact dx
   ·rw [yf]
    intro d hd
    rcases List.mem_cons.mp hd with rfl | hd
    ·unfold ra
     omega
    ·exact cx d hd
  ·have z:¬ 0 <= n:=of_decide_eq_false (Bool.eq_false_iff.mpr z)
   have en:n=-1:=by omega
   subst en
   refine ⟨Or.inl ⟨rfl,_,SqL.of hRc⟩,_,_,_,rfl,rfl,hRc,aG (by rw [List.length_map];omega),⟨xs ++ [x],_,_,_,rfl,ah.out sc hR0 _,by rw [ak];simp [sS],by rw [List.length_append,lx];rfl,fun k y hy=>?_⟩⟩
   by_cases hk:k < xs.length
   ·rw [List.getElem?_append_left hk] at hy
    exact wd k y hy
   ·have ek:k=xs.length:=by
     have:=(List.getElem?_eq_some_iff.mp hy).1
     rw [List.length_append,List.length_singleton] at this
     omega
    subst ek
    rw [List.getElem?_append_right (Nat.le_refl _),Nat.sub_self] at hy
    cases hy
    rw [lx,ew]
    exact ⟨dx,cx⟩
 rintro σ Hc ⟨xs,v7,v8,v9,rfl,sc,hRc,lx,wd⟩
 have lx:xs.length=24:=lx
 refine K1 _ _ ?_
 have ex:xs=(List.range 24).map fun k=>xs.getD k Str.empty:=by
  refine List.ext_getElem? fun k=>?_
  rw [List.getElem?_map]
  by_cases hk:k < 24
  ·rw [List.getElem?_range hk,List.getElem?_eq_getElem (by omega)]
   show _=some (xs.getD k Str.empty)
   rw [List.getD_eq_getElem?_getD,List.getElem?_eq_getElem (by omega)]
   rfl
  ·rw [List.getElem?_eq_none (by omega),List.getElem?_eq_none (by rw [List.length_range];omega)]
   rfl
 refine q R (fun k=>xs.getD k Str.empty) Hc sc hR0 (by rw [hRc];exact congrArg (fun z=>some (HO.lst (sS z))) ex) (DR st0 fun k hk=>wd k _ ?_)
 rw [List.getD_eq_getElem?_getD,List.getElem?_eq_getElem (by omega)]
 rfl
end
section
variable {P:Program}{w:World}{K:W.Frag}{mg:Str->Option Value}{base:Heap}{A:Adr}{N:Nat->Str}
seal PE PA PS PSs PT PW
def Lr.wd:Lr->Str
 | .hand _ _=>"hand" | .giv _ _ _=>"given" | .own _ _=>"own" | .lt _ _=>"let" | .set _ _=>"set" | .put _ _ _=>"put" | .snd _ _=>"send" | .say _ _ _=>"say"
 | .call _ _=>"call" | .last=>"last"
inductive Fr where
 | leaf (r:Lr) | ba (i:Nat) (ps:List Nat) | main | iff (v:Val) (l r:Int) | loop (t:Th) (m l r:Int) | els | fin
def Fr.wd:Fr->Str
 | .leaf r=>r.wd | .ba _ _=>"deed" | .main=>"main" | .iff _ _ _=>"if" | .loop _ _ _ _=>"loop" | .els=>"else" | .fin=>"end"
def Fr.ts (N:Nat->Str) (p:Addr):Fr->List V
 | .leaf r=>(r.fs N p).map (·.2) | .ba i _=>[.str (N i),.ref p] | .iff _ l r=>[.ref p,.int l,.int r] | .loop t m l r=>[t.v N,.int m,.int l,.int r] | _=>[]
def Fr.ob (N:Nat->Str):Fr->Option HO
 | .leaf r=>r.ob N | .ba _ ps=>some (.lst (nV N ps)) | .iff v _ _=>some (.tup (vV N v)) | _=>none
def jm (N:Nat->Str) (X:Hp) (v:V) (f:Fr):Prop:=∃a p,v=.ref a/\X a=some (.tup (.str f.wd :: f.ts N p))/\∀o,f.ob N=some o->X p=some o
theorem jm.same {X X':Hp} (s:ah X X') {v:V}{f:Fr} (h:jm N X v f):jm N X' v f:=by
 obtain ⟨a,p,e,h1,h2⟩:=h
 exact ⟨a,p,e,s _ _ h1,fun o ho=>s _ _ (h2 o ho)⟩
def aY (N:Nat->Str) (X:Hp) (fs:List Fr) (vs:List V):Prop:=Paired (fun f v=>jm N X v f) fs vs
theorem aY.same {X X':Hp} (s:ah X X') {fs:List Fr}{vs:List V} (h:aY N X fs vs):aY N X' fs vs:=Paired.nT h fun _ _ z=>jm.same s z
theorem fr0 {X:Hp}{a:Addr}{f:Fr} (h:X a=some (.tup (.str f.wd :: f.ts N a))) (e:f.ob N=none):jm N X (.ref a) f:=⟨a,a,rfl,h,fun o ho=>by rw [e] at ho;cases ho⟩
def nI (N:Nat->Str):List Str:=(List.range 24).map N
theorem wY {j:Nat} (h:j < 24):(sS (nI N))[j]?=some (.str (N j)):=by
 unfold nI
 rw [List.getElem?_map,List.getElem?_map,List.getElem?_range h]
 rfl
theorem lxn {H:Hp}{p:Addr}{xs:List V}{v:V}{Q:VK}{j:Nat} (h:SqL K H p xs) (e:xs[j]?=some v) (q:Q v H):ixS K p (j:Int) H Q \/ dgI p (.int (j:Int)) H Q:=lix h (jf e) q
theorem nmx {H:Hp}{p:Addr}{Q:VK}{j:Nat} (h:SqL K H p (sS (nI N))) (q:Q (.str (N j)) H) (hj:j < 24:=by decide):ixS K p (j:Int) H Q \/ dgI p (.int (j:Int)) H Q:=lxn h (wY hj) q
theorem lX {n t:Nat} (d:Nat) (h:t <= n):HT.sIx n d (some (t:Int))=t:=by
 unfold HT.sIx
 show (if (t:Int) < 0 then ((t:Int) + n).toNat else min (t:Int).toNat n)=t
 rw [if_neg (by omega),Int.toNat_natCast]
 omega
theorem Al {xs:List V}{t:Nat} (h:t <= xs.length):lI xs (some (t:Int)) none=xs.drop t:=by
 unfold lI
 rw [lX _ h,show HT.sIx xs.length xs.length none=xs.length from rfl]
 exact List.take_of_length_le (by rw [List.length_drop];omega)
theorem AL {xs:List V}{t:Nat} (h:t <= xs.length):lI xs none (some (t:Int))=xs.take t:=by
 unfold lI
 rw [lX _ h,show HT.sIx xs.length 0 none=0 from rfl]
 rfl
def lT (rk:Nat->Int) (z:Int):List Lr:=[.hand 0 (rk 0),.giv 1 (rk 1) 0,.giv 2 (rk 2) 3,.own 3 0,.own 4 z,.lt 5 (rk 3),.lt 6 (rk 4),.own 7 0,.hand 8 (rk 5),.giv 19 (rk 6) 0,.own 20 0]
def nN (t:Nat) (xs:List Lr):List Lr:=xs.drop t ++ xs.take t
theorem lC {α β:Type}{F:α->β->Prop}:∀{l:List α}{m:List β} (t:Nat),Paired F l m->Paired F (l.drop t) (m.drop t)
 | _,_,0,h=>h
 | _,_,t + 1,.nil=>.nil
 | _,_,t + 1,.cons _ r=>lC t r
theorem lr {α β:Type}{F:α->β->Prop}:∀{l:List α}{m:List β} (t:Nat),Paired F l m->Paired F (l.take t) (m.take t)
 | _,_,0,_=>.nil
 | _,_,t + 1,.nil=>.nil
 | _,_,t + 1,.cons h r=>.cons h (lr t r)
inductive nX (K:W.Frag) (vs:List V) (H:Hp) (Q:VK) (E9:XK):Prop
 | mk (N:Nat->Str) (nl:Addr) (c:Int) (z0:vs=[.ref nl,.int c]) (z1:H nl=some (.lst (sS (nI N))))
  (z2:∀(R:Addr) (rk:Nat->Int) (z:Int) (t:Nat) (ys:List V) (H':Hp),ah H H'->H R=none->H' R=some (.lst ys)->aY N H' ((nN t (lT rk z)).map Fr.leaf) ys->(∀i,rk i=0 \/ rk i=1 \/ rk i=2)->1 <= z->z <= 4->t <= 11->Q (.ref R) H'):nX K vs H Q E9
theorem xG (T:Txt K mg A):T.ko.Hz P w base 2 (nX K):=by
 have D_law_mix:=lA (P:=P) (w:=w) (base:=base) T
 refine T.ko.hs (k:=1) bQ (fun f cdv A' outer s H vs Q E hr hu h=>?_)
 obtain ⟨N,nl,c,rfl,hN,q⟩:=h
 refine ⟨_,(ab (rY (j:=2) (N:=["_law_k","_law_cell"]) (own:=1) (fr:=[1]) (b9.of (by kernel_rfl!)) rfl bQ.nd rfl (Or.inl rfl) (bK rfl T.bY (aa af ae)) (fun b=>pgn (i:=0) (show List.Nodup (["_law_k","_law_cell"]:List PySem.Str) by decide +kernel) rfl) (fun b=>kQ) (fun b=>au bw (aq D_law_mix hr (aa (fv 1) (aa (au aN af (fv 0)) ae))) af))
  (ab (pst 3 bQ.nd (aL (aa (aO (aa aj (aa (px hu (fv 0) af) (aa (px hu (fv 2) af) ae)))) (aa (aO (aa aj (aa (px hu (fv 0) af) (aa (px hu (fv 2) af) (aa af ae))))) (aa (aO (aa aj (aa (px hu (fv 0) af) (aa (px hu (fv 2) af) (aa af ae))))) ae)))))
  (ab (pst 3 bQ.nd (au aN (fv 3) (aL (aa (aO (aa aj (aa (px hu (fv 0) af) (aa af ae)))) (aa (aO (aa aj (aa (px hu (fv 0) af) (aa (au aN af (au bw (aq D_law_mix hr (aa (fv 1) (aa af ae))) af)) ae)))) (aa (aO (aa aj (aa (px hu (fv 0) af) (aa (px hu (fv 2) af) ae)))) ae))))))
  (ab (pst 3 bQ.nd (au aN (fv 3) (aL (aa (aO (aa aj (aa (px hu (fv 0) af) (aa (px hu (fv 2) af) ae)))) (aa (aO (aa aj (aa (px hu (fv 0) af) (aa af ae)))) (aa (aO (aa aj (aa (px hu (fv 0) af) (aa (px hu (fv 2) af) ae)))) ae))))))
  (ab (pst 3 bQ.nd (au aN (fv 3) (aL (aa (aO (aa aj (aa (px hu (fv 0) af) (aa (px hu (fv 2) af) (aa af ae))))) (aa (aO (aa aj (aa (px hu (fv 0) af) (aa af ae)))) ae)))))
  (ab (pst 4 bQ.nd (au bw (aq D_law_mix hr (aa (fv 1) (aa af ae))) af))
  (ai (aA (au aN (nv sL (fv 3) (l7 (fv 4)) ue) (nv sL (fv 3) ue (l7 (fv 4)))))))))))),?_⟩
 refine ag fun M1 K1=>⟨_,rfl,by decide,by decide,mL (n:=7) (x:=fun i=>.int (0 + (i:Int))) (fun j y H=>∃c:Int,y=V.int c/\(c=0 \/ c=1 \/ c=2)) (by decide) (fun _ _=>Nat.le_refl _) (fun _ _ h _=>h) (fun _ _ _ _ _ _ y=>y) (fun b j H1 G hj s1 kk=>?_) (fun j y H1 H2 s1 h=>h) (fun j y H1 D ys zs hD h=>h) (fun LK H0 ys hLK s0 eK ly hy=>K1 _ _ ?_)⟩
 ·refine ⟨c,_,rfl,by omega,by omega,fun m m0 m1=>⟨by show (0:Int) < 3;decide,kk _ H1 (ah.refl _) ⟨_,rfl,?_⟩⟩⟩
  have:=bx m (show (0:Int) < 3 by decide)
  omega
 clear K1 M1
 obtain ⟨rk,hrk,ey⟩:∃rk:Nat->Int,(∀i,rk i=0 \/ rk i=1 \/ rk i=2)/\ys=(List.range 7).map fun i=>V.int (rk i):=by
  refine ⟨fun i=>match ys[i]? with | some (.int c)=>c | _=>0,fun i=>?_,List.ext_getElem? fun i=>?_⟩
  ·dsimp only
   cases e:ys[i]? with
   | none=>exact .inl rfl
   | some y =>
    obtain ⟨c,rfl,hc⟩:=hy i y e
    exact hc
  ·rw [List.getElem?_map]
   by_cases hi:i < 7
   ·rw [List.getElem?_range hi]
    obtain ⟨y,e⟩:∃y,ys[i]?=some y:=⟨_,List.getElem?_eq_getElem (by omega)⟩
    obtain ⟨c,rfl,hc⟩:=hy i y e
    show _=some (V.int (match ys[i]? with | some (.int c)=>c | _=>0))
    rw [e]
   ·rw [List.getElem?_eq_none (by omega),List.getElem?_eq_none (by rw [List.length_range];omega)]
    rfl
 subst ey
 have d0:=s0
 try dsimp only
 refine ag fun M1 K1=>?_
 have e0:ah H0 H0:=ah.refl _
 refine nmx (j:=0) (SqL.of (d0 _ _ hN)) (lxn (j:=0) (SqL.of (e0 _ _ eK)) rfl (⟨by show 3 <= sizeLine;decide,fun t0 ht0=>?_⟩))
 obtain ⟨c1,g0⟩:=alc ht0 (HO.tup [V.str "hand",.str (N 0),.int (rk 0)])
 generalize upd H0 t0 _=H1 at c1 g0 ⊢
 have d1:=d0.trans c1
 have e1:=e0.trans c1
 refine nmx (j:=1) (SqL.of (d1 _ _ hN)) (lxn (j:=1) (SqL.of (e1 _ _ eK)) rfl (⟨by show 4 <= sizeLine;decide,fun t1 ht1=>?_⟩))
 obtain ⟨c2,g1⟩:=alc ht1 (HO.tup [V.str "given",.str (N 1),.int (rk 1),.int 0])
 generalize upd H1 t1 _=H2 at c2 g1 ⊢
 have d2:=d1.trans c2
 have e2:=e1.trans c2
 refine nmx (j:=2) (SqL.of (d2 _ _ hN)) (lxn (j:=2) (SqL.of (e2 _ _ eK)) rfl (⟨by show 4 <= sizeLine;decide,fun t2 ht2=>?_⟩))
 obtain ⟨c3,g2⟩:=alc ht2 (HO.tup [V.str "given",.str (N 2),.int (rk 2),.int 3])
 generalize upd H2 t2 _=H3 at c3 g2 ⊢
 have d3:=d2.trans c3
 have e3:=e2.trans c3
 refine ⟨by show 3 <= sizeLine;decide,fun l0 hl0=>?_⟩
 obtain ⟨c4,a0⟩:=alc hl0 (HO.lst [V.ref t0,V.ref t1,V.ref t2])
 generalize upd H3 l0 _=H4 at c4 a0 ⊢
 have d4:=d3.trans c4
 have e4:=e3.trans c4
 refine K1 _ _ ?_
 clear K1 M1
 try dsimp only
 refine ag fun M1 K1=>nmx (j:=3) (SqL.of (d4 _ _ hN)) (⟨by show 3 <= sizeLine;decide,fun t3 ht3=>?_⟩)
 obtain ⟨c5,g3⟩:=alc ht3 (HO.tup [V.str "own",.str (N 3),.int 0])
 generalize upd H4 t3 _=H5 at c5 g3 ⊢
 have d5:=d4.trans c5
 have e5:=e4.trans c5
 refine nmx (j:=4) (SqL.of (d5 _ _ hN)) (⟨c,27,rfl,by decide,by decide,fun m m0 m1=>⟨by show (0:Int) < 4;decide,⟨by show 3 <= sizeLine;decide,fun t4 ht4=>?_⟩⟩⟩)
 obtain ⟨c6,g4⟩:=alc ht4 (HO.tup [V.str "own",.str (N 4),.int (1 + m % 4)])
 generalize upd H5 t4 _=H6 at c6 g4 ⊢
 have d6:=d5.trans c6
 have e6:=e5.trans c6
 refine nmx (j:=5) (SqL.of (d6 _ _ hN)) (lxn (j:=3) (SqL.of (e6 _ _ eK)) rfl (⟨by show 3 <= sizeLine;decide,fun t5 ht5=>?_⟩))
 obtain ⟨c7,g5⟩:=alc ht5 (HO.tup [V.str "let",.str (N 5),.int (rk 3)])
 generalize upd H6 t5 _=H7 at c7 g5 ⊢
 have d7:=d6.trans c7
 have e7:=e6.trans c7
 refine ⟨by show 3 <= sizeLine;decide,fun l1 hl1=>?_⟩
 obtain ⟨c8,a1⟩:=alc hl1 (HO.lst [V.ref t3,V.ref t4,V.ref t5])
 generalize upd H7 l1 _=H8 at c8 a1 ⊢
 have d8:=d7.trans c8
 have e8:=e7.trans c8
 have f1:ah H4 H8:=fun a o h=>c8 _ _ (c7 _ _ (c6 _ _ (c5 _ _ h)))
 refine ⟨l0,l1,_,_,rfl,rfl,f1 _ _ a0,a1,by show 6 <= sizeLine;decide,fun b1 hb1=>?_⟩
 obtain ⟨c9,q1⟩:=alc hb1 (HO.lst ([V.ref t0,V.ref t1,V.ref t2] ++ [V.ref t3,V.ref t4,V.ref t5]))
 generalize upd H8 b1 _=H9 at c9 q1 ⊢
 have q1:H9 b1=some (.lst [V.ref t0,V.ref t1,V.ref t2,V.ref t3,V.ref t4,V.ref t5]):=q1
 have d9:=d8.trans c9
 have e9:=e8.trans c9
 refine K1 _ _ ?_
 clear K1 M1
 try dsimp only
 refine ag fun M1 K1=>nmx (j:=6) (SqL.of (d9 _ _ hN)) (lxn (j:=4) (SqL.of (e9 _ _ eK)) rfl (⟨by show 3 <= sizeLine;decide,fun t6 ht6=>?_⟩))
 obtain ⟨c10,g6⟩:=alc ht6 (HO.tup [V.str "let",.str (N 6),.int (rk 4)])
 generalize upd H9 t6 _=H10 at c10 g6 ⊢
 have d10:=d9.trans c10
 have e10:=e9.trans c10
 refine nmx (j:=7) (SqL.of (d10 _ _ hN)) (⟨by show 3 <= sizeLine;decide,fun t7 ht7=>?_⟩)
 obtain ⟨c11,g7⟩:=alc ht7 (HO.tup [V.str "own",.str (N 7),.int 0])
 generalize upd H10 t7 _=H11 at c11 g7 ⊢
 have d11:=d10.trans c11
 have e11:=e10.trans c11
 refine nmx (j:=8) (SqL.of (d11 _ _ hN)) (lxn (j:=5) (SqL.of (e11 _ _ eK)) rfl (⟨by show 3 <= sizeLine;decide,fun t8 ht8=>?_⟩))
 obtain ⟨c12,g8⟩:=alc ht8 (HO.tup [V.str "hand",.str (N 8),.int (rk 5)])
 generalize upd H11 t8 _=H12 at c12 g8 ⊢
 have d12:=d11.trans c12
 have e12:=e11.trans c12
 refine ⟨by show 3 <= sizeLine;decide,fun l2 hl2=>?_⟩
 obtain ⟨c13,a2⟩:=alc hl2 (HO.lst [V.ref t6,V.ref t7,V.ref t8])
 generalize upd H12 l2 _=H13 at c13 a2 ⊢
 have d13:=d12.trans c13
 have e13:=e12.trans c13
 have f2:ah H9 H13:=fun a o h=>c13 _ _ (c12 _ _ (c11 _ _ (c10 _ _ h)))
 refine ⟨b1,l2,_,_,rfl,rfl,f2 _ _ q1,a2,by show 9 <= sizeLine;decide,fun b2 hb2=>?_⟩
 obtain ⟨c14,q2⟩:=alc hb2 (HO.lst ([V.ref t0,V.ref t1,V.ref t2,V.ref t3,V.ref t4,V.ref t5] ++ [V.ref t6,V.ref t7,V.ref t8]))
 generalize upd H13 b2 _=H14 at c14 q2 ⊢
 have q2:H14 b2=some (.lst [V.ref t0,V.ref t1,V.ref t2,V.ref t3,V.ref t4,V.ref t5,V.ref t6,V.ref t7,V.ref t8]):=q2
 have d14:=d13.trans c14
 have e14:=e13.trans c14
 refine K1 _ _ ?_
 clear K1 M1
 try dsimp only
 refine ag fun M1 K1=>nmx (j:=19) (SqL.of (d14 _ _ hN)) (lxn (j:=6) (SqL.of (e14 _ _ eK)) rfl (⟨by show 4 <= sizeLine;decide,fun t9 ht9=>?_⟩))
 obtain ⟨c15,g9⟩:=alc ht9 (HO.tup [V.str "given",.str (N 19),.int (rk 6),.int 0])
 generalize upd H14 t9 _=H15 at c15 g9 ⊢
 have d15:=d14.trans c15
 have e15:=e14.trans c15
 refine nmx (j:=20) (SqL.of (d15 _ _ hN)) (⟨by show 3 <= sizeLine;decide,fun t10 ht10=>?_⟩)
 obtain ⟨c16,g10⟩:=alc ht10 (HO.tup [V.str "own",.str (N 20),.int 0])
 generalize upd H15 t10 _=H16 at c16 g10 ⊢
 have d16:=d15.trans c16
 have e16:=e15.trans c16
 refine ⟨by show 2 <= sizeLine;decide,fun l3 hl3=>?_⟩
 obtain ⟨c17,a3⟩:=alc hl3 (HO.lst [V.ref t9,V.ref t10])
 generalize upd H16 l3 _=H17 at c17 a3 ⊢
 have d17:=d16.trans c17
 have e17:=e16.trans c17
 have f3:ah H14 H17:=fun a o h=>c17 _ _ (c16 _ _ (c15 _ _ h))
 refine ⟨b2,l3,_,_,rfl,rfl,f3 _ _ q2,a3,by show 11 <= sizeLine;decide,fun b3 hb3=>?_⟩
 obtain ⟨c18,q3⟩:=alc hb3 (HO.lst ([V.ref t0,V.ref t1,V.ref t2,V.ref t3,V.ref t4,V.ref t5,V.ref t6,V.ref t7,V.ref t8] ++ [V.ref t9,V.ref t10]))
 generalize upd H17 b3 _=H18 at c18 q3 ⊢
 have q3:H18 b3=some (.lst [V.ref t0,V.ref t1,V.ref t2,V.ref t3,V.ref t4,V.ref t5,V.ref t6,V.ref t7,V.ref t8,V.ref t9,V.ref t10]):=q3
 have d18:=d17.trans c18
 have e18:=e17.trans c18
 have z1:=bx m (show (0:Int) < 4 by decide)
 have pr:aY N H18 ((lT rk (1 + m % 4)).map Fr.leaf) [V.ref t0,V.ref t1,V.ref t2,V.ref t3,V.ref t4,V.ref t5,V.ref t6,V.ref t7,V.ref t8,V.ref t9,V.ref t10]:=by
  have k0:H18 t0=_:=c18 _ _ (c17 _ _ (c16 _ _ (c15 _ _ (c14 _ _ (c13 _ _ (c12 _ _ (c11 _ _ (c10 _ _ (c9 _ _ (c8 _ _ (c7 _ _ (c6 _ _ (c5 _ _ (c4 _ _ (c3 _ _ (c2 _ _ g0))))))))))))))))
  have k1:H18 t1=_:=c18 _ _ (c17 _ _ (c16 _ _ (c15 _ _ (c14 _ _ (c13 _ _ (c12 _ _ (c11 _ _ (c10 _ _ (c9 _ _ (c8 _ _ (c7 _ _ (c6 _ _ (c5 _ _ (c4 _ _ (c3 _ _ g1)))))))))))))))
  have k2:H18 t2=_:=c18 _ _ (c17 _ _ (c16 _ _ (c15 _ _ (c14 _ _ (c13 _ _ (c12 _ _ (c11 _ _ (c10 _ _ (c9 _ _ (c8 _ _ (c7 _ _ (c6 _ _ (c5 _ _ (c4 _ _ g2))))))))))))))
  have k3:H18 t3=_:=c18 _ _ (c17 _ _ (c16 _ _ (c15 _ _ (c14 _ _ (c13 _ _ (c12 _ _ (c11 _ _ (c10 _ _ (c9 _ _ (c8 _ _ (c7 _ _ (c6 _ _ g3))))))))))))
  have k4:H18 t4=_:=c18 _ _ (c17 _ _ (c16 _ _ (c15 _ _ (c14 _ _ (c13 _ _ (c12 _ _ (c11 _ _ (c10 _ _ (c9 _ _ (c8 _ _ (c7 _ _ g4)))))))))))
  have k5:H18 t5=_:=c18 _ _ (c17 _ _ (c16 _ _ (c15 _ _ (c14 _ _ (c13 _ _ (c12 _ _ (c11 _ _ (c10 _ _ (c9 _ _ (c8 _ _ g5))))))))))
  have k6:H18 t6=_:=c18 _ _ (c17 _ _ (c16 _ _ (c15 _ _ (c14 _ _ (c13 _ _ (c12 _ _ (c11 _ _ g6)))))))
  have k7:H18 t7=_:=c18 _ _ (c17 _ _ (c16 _ _ (c15 _ _ (c14 _ _ (c13 _ _ (c12 _ _ g7))))))
  have k8:H18 t8=_:=c18 _ _ (c17 _ _ (c16 _ _ (c15 _ _ (c14 _ _ (c13 _ _ g8)))))
  have k9:H18 t9=_:=c18 _ _ (c17 _ _ (c16 _ _ g9))
  have k10:H18 t10=_:=c18 _ _ (c17 _ _ g10)
  exact .cons (fr0 k0 rfl) (.cons (fr0 k1 rfl) (.cons (fr0 k2 rfl) (.cons (fr0 k3 rfl) (.cons (fr0 k4 rfl) (.cons (fr0 k5 rfl) (.cons (fr0 k6 rfl) (.cons (fr0 k7 rfl) (.cons (fr0 k8 rfl) (.cons (fr0 k9 rfl) (.cons (fr0 k10 rfl) (.nil)))))))))))
 refine K1 _ _ ?_
 clear K1 M1
 try dsimp only
 refine ag fun M1 K1=>⟨c,1,rfl,by decide,by decide,fun m' m0' m1'=>⟨by show (0:Int) < 11;decide,K1 _ _ ?_⟩⟩
 clear K1 M1
 have z2:=bx m' (show (0:Int) < 11 by decide)
 obtain ⟨t,ht⟩:∃t:Nat,m' % 11=(t:Int):=⟨(m' % 11).toNat,by omega⟩
 have t11:t <= 11:=by omega
 dsimp only [jA,List.set]
 rw [ht]
 have lp:=Paired.length pr
 generalize hys:[V.ref t0,V.ref t1,V.ref t2,V.ref t3,V.ref t4,V.ref t5,V.ref t6,V.ref t7,V.ref t8,V.ref t9,V.ref t10]=ys at q3 pr lp
 have ly:ys.length=11:=by rw [<- hys];rfl
 refine ⟨_,rfl,Or.inl ⟨b3,_,rfl,SqL.of q3,fun p1 hp1=>?_⟩⟩
 rw [Al (by omega)]
 obtain ⟨s24,e24⟩:=alc hp1 (HO.lst (ys.drop t))
 generalize upd H18 p1 _=X24 at s24 e24 ⊢
 refine ⟨_,rfl,Or.inl ⟨b3,_,rfl,SqL.of (s24 _ _ q3),fun p2 hp2=>?_⟩⟩
 rw [AL (by omega)]
 obtain ⟨s25,e25⟩:=alc hp2 (HO.lst (ys.take t))
 generalize upd X24 p2 _=X25 at s25 e25 ⊢
 refine ⟨p1,p2,_,_,rfl,rfl,s25 _ _ e24,e25,sz (by rw [List.length_drop,List.length_take];omega),fun LR hLR=>?_⟩
 have s26:=ah.upd hLR (.lst (ys.drop t ++ ys.take t))
 refine q LR rk (1 + m % 4) t _ _ (d18.trans (s24.trans (s25.trans s26))) (ah.free (d18.trans (s24.trans s25)) hLR) ak ?_ hrk (by omega) (by omega) t11
 unfold nN
 rw [List.map_append,List.map_drop,List.map_take]
 exact aY.same (s24.trans (s25.trans s26)) (Paired.two (lC t pr) (lr t pr))
end
section
variable {P:Program}{w:World}{K:W.Frag}{mg:Str->Option Value}{base:Heap}{A:Adr}{N:Nat->Str}
seal PE PA PS PSs PT PW
def del (X:List Addr) (H:Hp):Hp:=fun a=>if a ∈ X then none else H a
theorem b4 {X:List Addr}{H:Hp}:ah (del X H) H:=fun a o h=>by
 unfold del at h
 split at h
 ·cases h
 ·exact h
theorem aF {X:List Addr}{H:Hp}{a:Addr}{o:HO} (h:a ∉ X) (e:H a=some o):del X H a=some o:=by
 unfold del
 rw [if_neg h]
 exact e
theorem cF {X:List Addr}{H:Hp}{a:Addr}{o:HO} (h:del X H a=some o):a ∉ X/\H a=some o:=by
 unfold del at h
 split at h
 ·cases h
 ·exact ⟨by assumption,h⟩
abbrev S3:List Nat:=[3,7,20]
abbrev S7:List Nat:=[1,2,3,4,7,19,20]
def lU (ps:List Nat) (t:Th):Prop:=∀a,t=.x a->a ∈ S7 ++ ps
def vOk (ps:List Nat) (v:Val):Prop:=∀t ∈ vTh v,lU ps t
def lG (N:Nat->Str) (X:Hp) (sc:Addr) (ps:List Nat):Prop:=∃a1 a2 a3 a4,X sc=some (.dK [(.inr "targets",.ref a1),(.inr "things",.ref a2),(.inr "lists",.ref a3),(.inr "hands",.ref a4)])/\X a1=some (.lst (nV N (S3 ++ ps)))/\X a2=some (.lst (nV N ([1,19] ++ (S3 ++ ps))))/\X a3=some (.lst (nV N [2,4]))/\X a4=some (.lst (nV N [0,8]))
theorem lG.same {X X':Hp} (s:ah X X') {sc:Addr}{ps:List Nat} (h:lG N X sc ps):lG N X' sc ps:=by
 obtain ⟨a1,a2,a3,a4,h1,h2,h3,h4,h5⟩:=h
 exact ⟨a1,a2,a3,a4,s _ _ h1,s _ _ h2,s _ _ h3,s _ _ h4,s _ _ h5⟩
inductive rK (vs:List V) (H:Hp) (Q:VK) (E9:XK):Prop
 | mk (N:Nat->Str) (nl pp:Addr) (ps:List Nat) (z0:vs=[.ref nl,.ref pp]) (z1:H nl=some (.lst (sS (nI N)))) (z2:H pp=some (.lst (nV N ps))) (z3:ps.length <= 10)
  (z4:∀(sc:Addr) (H':Hp),ah H H'->H sc=none->(∀M:List Addr,(∀x ∈ M,H x ≠ none)->lG N (del M H') sc ps)->Q (.ref sc) H'):rK vs H Q E9
theorem uh (T:Txt K mg A):T.kr.Hz P w base 1 rK:=by
 refine T.kr.hs gI (fun f cdv A' outer s H vs Q E hr hu h=>?_)
 obtain ⟨N,nl,pp,ps,rfl,hN,hP,lp,q⟩:=h
 have lv:(nV N ps).length=ps.length:=List.length_map _
 refine ⟨_,(ab (pst 2 gI.nd (au aN (aL (aa (px hu (fv 0) af) (aa (px hu (fv 0) af) (aa (px hu (fv 0) af) ae)))) (fv 1)))
  (ab (pst 3 gI.nd (uD (cZ aj (fv 2) (cZ aj (au aN (aL (aa (px hu (fv 0) af) (aa (px hu (fv 0) af) ae))) (fv 2)) (cZ aj (aL (aa (px hu (fv 0) af) (aa (px hu (fv 0) af) ae))) (tN)))) rfl rfl (by intro z;cases z) (by decide)))
  (ab (cK (aL (aa (px hu (fv 0) af) (aa (px hu (fv 0) af) ae))) (jL (fv 3) aj (jH hu set_list)))
  (ai (aA (fv 3)))))),?_⟩
 refine ag fun M1 K1=>nmx (j:=3) (SqL.of hN) (nmx (j:=7) (SqL.of hN) (nmx (j:=20) (SqL.of hN) ⟨by show 3 <= sizeLine;decide,fun l0 h0=>?_⟩))
 obtain ⟨s0,e0⟩:=alc h0 (HO.lst [.str (N 3),.str (N 7),.str (N 20)])
 generalize upd H l0 _=H0 at s0 e0 ⊢
 refine ⟨l0,pp,_,_,rfl,rfl,e0,s0 _ _ hP,sz (by rw [lv];show 3 + ps.length <= 1000;omega),fun a1 ha1=>?_⟩
 obtain ⟨s1,e1⟩:=alc ha1 (HO.lst ([.str (N 3),.str (N 7),.str (N 20)] ++ nV N ps))
 generalize upd H0 a1 _=H1 at s1 e1 ⊢
 have e1:H1 a1=some (.lst (nV N (S3 ++ ps))):=e1
 have t1:=s0.trans s1
 refine K1 _ _ ?_
 clear K1 M1
 try dsimp only
 refine ag fun M1 K1 D hD=>?_
 obtain ⟨s2,e2⟩:=alc hD (HO.dK [])
 generalize upd H1 D _=H2 at s2 e2 ⊢
 have t2:=t1.trans s2
 refine nmx (j:=1) (SqL.of (t2 _ _ hN)) (nmx (j:=19) (SqL.of (t2 _ _ hN)) ⟨by show 2 <= sizeLine;decide,fun l3 h3=>?_⟩)
 obtain ⟨s3,e3⟩:=alc h3 (HO.lst [.str (N 1),.str (N 19)])
 generalize upd H2 l3 _=H3 at s3 e3 ⊢
 refine ⟨l3,a1,_,_,rfl,rfl,e3,(s2.trans s3) _ _ e1,sz (by rw [List.length_map,List.length_append];show 2 + (3 + ps.length) <= 1000;omega),fun a2 ha2=>?_⟩
 obtain ⟨s4,e4⟩:=alc ha2 (HO.lst ([.str (N 1),.str (N 19)] ++ nV N (S3 ++ ps)))
 generalize upd H3 a2 _=H4 at s4 e4 ⊢
 have e4:H4 a2=some (.lst (nV N ([1,19] ++ (S3 ++ ps)))):=e4
 have t4:=t2.trans (s3.trans s4)
 refine nmx (j:=2) (SqL.of (t4 _ _ hN)) (nmx (j:=4) (SqL.of (t4 _ _ hN)) ⟨by show 2 <= sizeLine;decide,fun a3 ha3=>?_⟩)
 obtain ⟨s5,e5⟩:=alc ha3 (HO.lst [.str (N 2),.str (N 4)])
 generalize upd H4 a3 _=H5 at s5 e5 ⊢
 have t5:=t4.trans s5
 have s25:=s3.trans (s4.trans s5)
 refine ⟨s25 _ _ e2,[(.inr "targets",.ref a1),(.inr "things",.ref a2),(.inr "lists",.ref a3)],rfl,by show 3 <= 15;decide,?_⟩
 have D1:H1 D=none:=hD
 have s15:ah H1 (upd H5 D (.dK (aX [] [(.inr "targets",.ref a1),(.inr "things",.ref a2),(.inr "lists",.ref a3)]))):=ah.out (s2.trans s25) D1 _
 have n2:a2 ≠ D:=fun z=>by rw [z,s3 _ _ e2] at ha2;cases ha2
 have n3:a3 ≠ D:=fun z=>by rw [z,(s3.trans s4) _ _ e2] at ha3;cases ha3
 have k1:=s15 _ _ e1
 have k2:upd H5 D (.dK (aX [] [(.inr "targets",.ref a1),(.inr "things",.ref a2),(.inr "lists",.ref a3)])) a2=_:=ao n2 (s5 _ _ e4)
 have k3:upd H5 D (.dK (aX [] [(.inr "targets",.ref a1),(.inr "things",.ref a2),(.inr "lists",.ref a3)])) a3=_:=ao n3 e5
 have eD:upd H5 D (.dK (aX [] [(.inr "targets",.ref a1),(.inr "things",.ref a2),(.inr "lists",.ref a3)])) D=some (.dK [(.inr "targets",.ref a1),(.inr "things",.ref a2),(.inr "lists",.ref a3)]):=ak
 generalize upd H5 D _=H6 at s15 k1 k2 k3 eD ⊢
 have t6:=t1.trans s15
 refine K1 _ _ ?_
 clear K1 M1
 try dsimp only
 refine ag fun M1 K1=>nmx (j:=0) (SqL.of (t6 _ _ hN)) (nmx (j:=8) (SqL.of (t6 _ _ hN)) ⟨by show 2 <= sizeLine;decide,fun a4 ha4=>?_⟩)
 obtain ⟨s7,e7⟩:=alc ha4 (HO.lst [.str (N 0),.str (N 8)])
 generalize upd H6 a4 _=H7 at s7 e7 ⊢
 refine ⟨_,mE.k (k:=.inr "hands") (s7 _ _ eD) (show 3 < sizeLine by decide),K1 _ _ ?_⟩
 clear K1 M1
 have o1:a1 ≠ D:=fun z=>by rw [z,D1] at e1;cases e1
 have o2:a2 ≠ D:=n2
 have o4:a4 ≠ D:=fun z=>by rw [z,eD] at ha4;cases ha4
 refine q D _ (t1.trans (ah.out (s15.trans s7) D1 _)) (ah.free t1 D1) fun M hM=>?_
 have nw:∀{x:Addr},H x=none->x ∉ M:=fun h m=>hM _ m h
 exact ⟨a1,a2,a3,a4,aF (nw (ah.free t1 D1)) ak,aF (nw (ah.free s0 ha1)) (ao o1 (s7 _ _ k1)),aF (nw (ah.free (t2.trans s3) ha2)) (ao o2 (s7 _ _ k2)),aF (nw (ah.free t4 ha3)) (ao n3 (s7 _ _ k3)),aF (nw (ah.free t6 ha4)) (ao o4 e7)⟩
theorem zS {a:Nat}{ps:List Nat} (h:a ∈ [1,19] ++ (S3 ++ ps)):a ∈ S7 ++ ps:=by
 rcases List.mem_append.mp h with m | m
 ·exact List.mem_append_left _ ((show ∀x ∈ ([1,19]:List Nat),x ∈ S7 by decide) a m)
 ·rcases List.mem_append.mp m with m | m
  ·exact List.mem_append_left _ ((show ∀x ∈ S3,x ∈ S7 by decide) a m)
  ·exact List.mem_append_right _ m
inductive oa (vs:List V) (H:Hp) (Q:VK) (E9:XK):Prop
 | mk (N:Nat->Str) (sc:Addr) (ps:List Nat) (n:Int) (z0:vs=[.int n,.ref sc]) (z1:0 <= n) (z2:n < 1000000000000000) (z3:lG N H sc ps)
  (z4:∀(t:Th) (H':Hp),ah H H'->lU ps t->Q (t.v N) H'):oa vs H Q E9
theorem iA (T:Txt K mg A):T.kJ.Hz P w base 2 oa:=by
 refine T.kJ.hs (k:=1) pO (fun f cdv A' outer s H vs Q E hr hu h=>?_)
 obtain ⟨N,sc,ps,n,rfl,h0,h1,hS,q⟩:=h
 refine ⟨_,(ab (aS (ptc (bZ hu) (au bw (fv 0) af) af)
   (ai (aA (au bw (au ck (au cI (fv 0) af) af) (px hu (aL (aa af (aa (au om af af) ae))) (au bw (au cI (fv 0) af) af)))))
   aE)
  (ai (aA (aq (kH T) hr (aa (px hu (fv 1) aj) (aa (au cI (fv 0) af) ae)))))),?_⟩
 refine ag fun M1 K1=>⟨by show (0:Int) < 2;decide,rfl,_,rfl,bj (fun _=>?_) (fun _=>K1 _ _ ?_)⟩
 ·refine ⟨⟨by decide,by decide⟩,.inr ⟨by decide,by decide⟩,⟨by decide,by decide,by decide⟩,by show 2 <= sizeLine;decide,fun L hL=>?_⟩
  obtain ⟨s1,e1⟩:=alc hL (HO.lst [.int 4,.int (10 ^ (12:Int).toNat)])
  generalize upd H L _=H1 at s1 e1 ⊢
  obtain ⟨m0,m1⟩:=bx (n / 2) (show (0:Int) < 2 by decide)
  refine ⟨⟨by decide,by decide⟩,by show (0:Int) < 2;decide,?_⟩
  obtain ⟨y,ay,y0⟩:∃y:Int,atI [V.int 4,.int (10 ^ (12:Int).toNat)] (n / 2 % 2)=some (.int y)/\0 < y:=by
   generalize n / 2 % 2=j at m0 m1
   have cs:j=0 \/ j=1:=by omega
   rcases cs with rfl | rfl
   ·exact ⟨4,rfl,by decide⟩
   ·exact ⟨_,rfl,by decide⟩
  exact lix (SqL.of e1) ay ⟨y0,q (.i _) H1 s1 (fun a z=>by cases z)⟩
 clear K1 M1
 try dsimp only
 obtain ⟨a1,a2,a3,a4,h1,h2,h3,h4,h5⟩:=hS
 refine dgk h1 rfl ⟨⟨by decide,by decide⟩,a2,_,_,rfl,SqL.of h3,by simp,fun x hx=>?_⟩
 obtain ⟨a,ma,rfl⟩:=List.mem_map.mp hx
 refine q (.x a) H (ah.refl _) fun b z=>?_
 cases z
 exact zS ma
inductive tV (vs:List V) (H:Hp) (Q:VK) (E9:XK):Prop
 | mk (N:Nat->Str) (sc:Addr) (ps:List Nat) (c:Int) (z0:vs=[.int c,.ref sc]) (z3:lG N H sc ps)
  (z4:∀(p:Addr) (v:Val) (H':Hp),ah H H'->H p=none->H' p=some (.tup (vV N v))->vOk ps v->Q (.ref p) H'):tV vs H Q E9
theorem DH {ps:List Nat}{t:Th} (h:lU ps t):vOk ps (.one t):=fun u hu=>by
 rw [List.mem_singleton.mp hu]
 exact h
theorem CS {ps:List Nat}{t u:Th}{x:Str} (h:lU ps t) (h':lU ps u):vOk ps (.op t x u):=fun v hv=>by
 simp only [vTh,List.mem_cons,List.not_mem_nil,or_false] at hv
 rcases hv with rfl | rfl
 ·exact h
 ·exact h'
theorem xw (T:Txt K mg A):T.kZ.Hz P w base 3 tV:=by
 have D_law_mix:=lA (P:=P) (w:=w) (base:=base) T
 refine T.kZ.hs (k:=2) dM (fun f cdv A' outer s H vs Q E hr hu h=>?_)
 obtain ⟨N,sc,ps,c,rfl,hS,q⟩:=h
 refine ⟨_,(ab (pst 2 dM.nd (aq (hj:=by omega) (iA T) hr (aa (aq (hj:=by omega) D_law_mix hr (aa (fv 0) (aa af ae))) (aa (fv 1) ae))))
  (ab (pst 3 dM.nd (aq (hj:=by omega) (iA T) hr (aa (aq (hj:=by omega) D_law_mix hr (aa (fv 0) (aa af ae))) (aa (fv 1) ae))))
  (ab (pst 4 dM.nd (aq (hj:=by omega) D_law_mix hr (aa (fv 0) (aa af ae))))
  (ab (aS (ptc vg (au bw (fv 4) af) af)
   (ai (aA (aO (aa (fv 2) ae))))
   aE)
  (ab (aS (ptc (bZ hu) (au bw (fv 4) af) af)
   (ai (aA (aO (aa (aq (hj:=by omega) (kH T) hr (aa (px hu (fv 1) aj) (aa (au cI (fv 4) af) ae))) (aa aj (aa (fv 3) ae))))))
   aE)
  (ai (aA (aO (aa (fv 2) (aa (aq (hj:=by omega) (kH T) hr (aa (aL (aa aj (aa aj (aa aj (aa aj (aa aj (aa aj (aa aj ae)))))))) (aa (au cI (fv 4) af) ae))) (aa (fv 3) ae))))))))))),?_⟩
 refine ag fun M1 K1=>⟨c,28,rfl,by decide,by decide,fun m m0 m1=>⟨N,sc,ps,m,rfl,m0,m1,hS,fun t1 H1 s1 o1=>K1 _ _ ?_⟩⟩
 clear K1 M1
 try dsimp only
 refine ag fun M1 K1=>⟨c,29,rfl,by decide,by decide,fun m2 m20 m21=>⟨N,sc,ps,m2,rfl,m20,m21,hS.same s1,fun t2 H2 s2 o2=>K1 _ _ ?_⟩⟩
 clear K1 M1
 have t2':=s1.trans s2
 try dsimp only
 refine ag fun M1 K1=>⟨c,30,rfl,by decide,by decide,fun n n0 n1=>K1 _ _ ?_⟩
 clear K1 M1
 try dsimp only
 refine ag fun M1 K1=>⟨by show (0:Int) < 4;decide,_,rfl,bj (fun _=>?_) (fun _=>K1 _ _ ?_)⟩
 ·exact ⟨by show 1 <= sizeLine;decide,fun p hp=>q p (.one t1) _ (t2'.trans (ah.upd hp _)) (ah.free t2' hp) ak (DH o1)⟩
 clear K1 M1
 try dsimp only
 refine ag fun M1 K1=>⟨by show (0:Int) < 4;decide,rfl,_,rfl,bj (fun _=>?_) (fun _=>K1 _ _ ?_)⟩
 ·obtain ⟨a1,a2,a3,a4,h1,h2,h3,h4,h5⟩:=hS.same t2'
  refine dgk h1 rfl ⟨⟨by decide,by decide⟩,a3,_,_,rfl,SqL.of h4,by simp,fun x hx=>?_⟩
  obtain ⟨a,ma,rfl⟩:=List.mem_map.mp hx
  refine ⟨by show 3 <= sizeLine;decide,fun p hp=>q p (.op (.x a) "at" t2) _ (t2'.trans (ah.upd hp _)) (ah.free t2' hp) ak (CS (fun b z=>?_) o2)⟩
  cases z
  exact List.mem_append_left _ ((show ∀x ∈ ([2,4]:List Nat),x ∈ S7 by decide) a ma)
 clear K1 M1
 try dsimp only
 refine ⟨by show 7 <= sizeLine;decide,fun L hL=>?_⟩
 obtain ⟨s3,e3⟩:=alc hL (HO.lst [.str "+",.str "-",.str "*",.str "over",.str "rest",.str "<",.str "="])
 generalize upd H2 L _=H3 at s3 e3 ⊢
 refine ⟨⟨by decide,by decide⟩,L,_,_,rfl,SqL.of e3,by decide,fun x hx=>?_⟩
 obtain ⟨y,rfl⟩:∃y:Str,x=.str y:=by
  simp only [List.mem_cons,List.not_mem_nil,or_false] at hx
  rcases hx with e | e | e | e | e | e | e <;> exact ⟨_,e⟩
 refine ⟨by show 3 <= sizeLine;decide,fun p hp=>?_⟩
 have t3:=t2'.trans s3
 exact q p (.op t1 y t2) _ (t3.trans (ah.upd hp _)) (ah.free t3 hp) ak (CS o1 o2)
end
section
variable {P:Program}{w:World}{K:W.Frag}{mg:Str->Option Value}{base:Heap}{A:Adr}{N:Nat->Str}
seal PE PA PS PSs PT PW
theorem Sm.del {M:List Addr}{H H':Hp} (s:Sm M H H'):ah (del M H) (del M H'):=fun a o h=>by
 obtain ⟨h1,h2⟩:=cF h
 exact aF h1 (s a o h1 h2)
theorem Sm.mono {M M':List Addr}{H H':Hp} (s:Sm M H H') (m:∀a ∈ M,a ∈ M'):Sm M' H H':=fun a o h e=>s a o (fun z=>h (m a z)) e
structure Sa where
 S:Addr
 o:Addr
 t:Addr
 m:Addr
 d:Addr
 F:Addr
abbrev Sa.M (s:Sa):List Addr:=[s.S,s.o,s.t,s.m,s.d,s.F]
abbrev Sa.Q (s:Sa):List Addr:=[s.S,s.o,s.t,s.m,s.d]
def Sn (s:Sa) (H H':Hp):Prop:=Sm s.Q H H'
theorem Sa.qm {s:Sa}{a:Addr} (h:a ∈ s.Q):a ∈ s.M:=by
 simp only [Sa.Q,Sa.M,List.mem_cons,List.not_mem_nil,or_false] at h ⊢
 rcases h with h | h | h | h | h <;> simp [h]
theorem Sn.del {s:Sa}{H H':Hp} (h:Sn s H H'):ah (del s.M H) (del s.M H'):=Sm.del (Sm.mono h fun _=>Sa.qm)
theorem Sn.trans {s:Sa}{H H' H'':Hp} (h:Sn s H H') (h':Sn s H' H''):Sn s H H'':=Sm.trans h h'
theorem Sn.new {s:Sa}{H H':Hp} (h:ah H H'):Sn s H H':=Sm.new h
theorem Sn.at {s:Sa}{H:Hp}{a:Addr} (m:a ∈ s.Q) (o:HO):Sn s H (upd H a o):=Sm.at m o
def stK (s:Sa) (room:Int):List (Key × V):=[(.inr "open",.ref s.o),(.inr "times",.ref s.t),(.inr "marks",.ref s.m),(.inr "deeds",.ref s.d),(.inr "room",.int room)]
structure Sg where
 op:List Str
 tm:List Int
 ma:List Nat
 dd:List (Nat × Nat × Int)
 room:Int
def qq (N:Nat->Str) (X:Hp) (dd:List (Nat × Nat × Int)) (vs:List V):Prop:=Paired (fun (e:Nat × Nat × Int) v=>∃a,v=V.ref a/\X a=some (.tup [.str (N e.1),.int e.2.1,.int e.2.2])) dd vs
theorem qq.same {X X':Hp} (s:ah X X') {dd:List (Nat × Nat × Int)}{vs:List V} (h:qq N X dd vs):qq N X' dd vs:=Paired.nT h fun _ _ ⟨a,e,z⟩=>⟨a,e,s _ _ z⟩
structure SAt (N:Nat->Str) (H:Hp) (s:Sa) (g:Sg):Prop where
 hS:H s.S=some (.dK (stK s g.room))
 ho:H s.o=some (.lst (sS g.op))
 ht:H s.t=some (.lst (g.tm.map V.int))
 hm:H s.m=some (.lst (nV N g.ma))
 hd:∃ds,H s.d=some (.lst ds)/\qq N (del s.M H) g.dd ds
 nd:s.M.Nodup
 hF:∃ys,H s.F=some (.lst ys)
 mo:∀m ∈ g.ma,m=5 \/ m=6
 nm:j2 N
theorem SAt.in {H:Hp}{s:Sa}{g:Sg} (h:SAt N H s g) {a:Addr} (m:a ∈ s.M):H a ≠ none:=by
 obtain ⟨ds,hd,_⟩:=h.hd
 obtain ⟨ys,hF⟩:=h.hF
 simp only [List.mem_cons,List.not_mem_nil,or_false] at m
 rcases m with rfl | rfl | rfl | rfl | rfl | rfl
 ·rw [h.hS];simp
 ·rw [h.ho];simp
 ·rw [h.ht];simp
 ·rw [h.hm];simp
 ·rw [hd];simp
 ·rw [hF];simp
theorem SAt.new {H:Hp}{s:Sa}{g:Sg} (h:SAt N H s g) {a:Addr} (e:H a=none):a ∉ s.M:=fun m=>h.in m e
theorem SAt.same {H H':Hp}{s:Sa}{g:Sg} (h:SAt N H s g) (e:ah H H'):SAt N H' s g:=by
 obtain ⟨ds,hd,dd⟩:=h.hd
 exact ⟨e _ _ h.hS,e _ _ h.ho,e _ _ h.ht,e _ _ h.hm,⟨ds,e _ _ hd,dd.same (Sn.del (Sn.new e))⟩,h.nd,h.hF.imp fun _ z=>e _ _ z,h.mo,h.nm⟩
theorem SAt.ne {H:Hp}{s:Sa}{g:Sg} (h:SAt N H s g):(s.S ≠ s.o/\s.S ≠ s.t/\s.S ≠ s.m/\s.S ≠ s.d/\s.o ≠ s.t/\s.o ≠ s.m/\s.o ≠ s.d/\s.t ≠ s.m/\s.t ≠ s.d/\s.m ≠ s.d)/\s.F ≠ s.S/\s.F ≠ s.o/\s.F ≠ s.t/\s.F ≠ s.m/\s.F ≠ s.d:=by
 have nd:=h.nd
 simp only [Sa.M,List.nodup_cons,List.mem_cons,List.not_mem_nil,or_false,not_or,List.nodup_nil,and_true,not_false_eq_true] at nd
 obtain ⟨⟨a,b,c,d,x1⟩,⟨e,f,i,x2⟩,⟨j,k,x3⟩,⟨l,x4⟩,x5⟩:=nd
 exact ⟨⟨a,b,c,d,e,f,i,j,k,l⟩,Ne.symm x1,Ne.symm x2,Ne.symm x3,Ne.symm x4,Ne.symm x5⟩
theorem SAt.marks {H:Hp}{s:Sa}{g:Sg} (h:SAt N H s g) {mk:List Nat} (e:∀m ∈ mk,m=5 \/ m=6):SAt N (upd H s.m (.lst (nV N mk))) s { g with ma:=mk }:=by
 obtain ⟨⟨a,b,c,d,e',f,i,j,k,l⟩,x1,x2,x3,x4,x5⟩:=h.ne
 obtain ⟨ds,hd,dd⟩:=h.hd
 exact ⟨ao c h.hS,ao f h.ho,ao j h.ht,ak,⟨ds,ao (Ne.symm l) hd,dd.same (Sn.del (Sn.at (by simp) _))⟩,h.nd,h.hF.imp fun _ z=>ao x4 z,e,h.nm⟩
theorem SAt.kY {H:Hp}{s:Sa}{g:Sg} (h:SAt N H s g) (r:Int):SAt N (upd H s.S (.dK (stK s r))) s { g with room:=r }:=by
 obtain ⟨⟨a,b,c,d,e',f,i,j,k,l⟩,x1,x2,x3,x4,x5⟩:=h.ne
 obtain ⟨ds,hd,dd⟩:=h.hd
 exact ⟨ak,ao (Ne.symm a) h.ho,ao (Ne.symm b) h.ht,ao (Ne.symm c) h.hm,⟨ds,ao (Ne.symm d) hd,dd.same (Sn.del (Sn.at (by simp) _))⟩,h.nd,h.hF.imp fun _ z=>ao x1 z,h.mo,h.nm⟩
theorem SAt.opened {H:Hp}{s:Sa}{g:Sg} (h:SAt N H s g) (op:List Str):SAt N (upd H s.o (.lst (sS op))) s { g with op:=op }:=by
 obtain ⟨⟨a,b,c,d,e',f,i,j,k,l⟩,x1,x2,x3,x4,x5⟩:=h.ne
 obtain ⟨ds,hd,dd⟩:=h.hd
 exact ⟨ao a h.hS,ak,ao (Ne.symm e') h.ht,ao (Ne.symm f) h.hm,⟨ds,ao (Ne.symm i) hd,dd.same (Sn.del (Sn.at (by simp) _))⟩,h.nd,h.hF.imp fun _ z=>ao x2 z,h.mo,h.nm⟩
theorem SAt.zG {H:Hp}{s:Sa}{g:Sg} (h:SAt N H s g) (tm:List Int):SAt N (upd H s.t (.lst (tm.map V.int))) s { g with tm:=tm }:=by
 obtain ⟨⟨a,b,c,d,e',f,i,j,k,l⟩,x1,x2,x3,x4,x5⟩:=h.ne
 obtain ⟨ds,hd,dd⟩:=h.hd
 exact ⟨ao b h.hS,ao e' h.ho,ak,ao (Ne.symm j) h.hm,⟨ds,ao (Ne.symm k) hd,dd.same (Sn.del (Sn.at (by simp) _))⟩,h.nd,h.hF.imp fun _ z=>ao x3 z,h.mo,h.nm⟩
theorem j2.str (h:j2 N) (i:Nat) (hi:i < 24):PyData.strOk (N i)=true:=by
 unfold PyData.strOk
 rw [Array.all_eq_true']
 intro c hc
 have:=h.ch i hi c (Array.mem_toList_iff.mpr hc)
 exact decide_eq_true (by omega)
theorem zB {H:Hp}{p:Addr}{xs:List V}{y:V}{Q:VK} (h:H p=some (.lst (xs ++ [y]))) (q:Q y (upd H p (.lst xs))):zm (.ref p) [] H Q:=⟨p,_,y,rfl,rfl,h,by simp,by rw [List.dropLast_concat];exact q⟩
def sY (ps:List Nat) (dd:List (Nat × Nat)) (lp:Bool):Lr->Prop
 | .set x v=>x ∈ S7 ++ ps/\vOk ps v
 | .put x t v=>x ∈ S7 ++ ps/\lU ps t/\vOk ps v
 | .snd h v=>(h=0 \/ h=8)/\vOk ps v
 | .say x v m=>x ∈ S7 ++ ps/\vOk ps v/\(m=5 \/ m=6)
 | .call i ts=>(i,ts.length) ∈ dd/\∀t ∈ ts,lU ps t
 | .last=>lp=true
 | _=>False
theorem Ct {a:Nat}{ps:List Nat} (h:a ∈ S3 ++ ps):a ∈ S7 ++ ps:=zS (List.mem_append_right _ h)
theorem fr1 {X:Hp}{a p:Addr}{f:Fr}{o:HO} (h:X a=some (.tup (.str f.wd :: f.ts N p))) (e:f.ob N=some o) (hp:X p=some o):jm N X (.ref a) f:=⟨a,p,rfl,h,fun o' ho=>by rw [e] at ho;cases ho;exact hp⟩
inductive oH (vs:List V) (H:Hp) (Q:VK) (E9:XK):Prop
 | mk (N:Nat->Str) (s:Sa) (g:Sg) (c:Int) (sc:Addr) (ps:List Nat) (z0:vs=[.ref s.S,.int c,.ref sc]) (z1:SAt N H s g) (z2:lG N (del s.M H) sc ps)
  (z3:∀(v:V) (r:Lr) (mk:List Nat) (H':Hp),Sn s H H'->SAt N H' s { g with ma:=mk }->jm N (del s.M H') v (.leaf r)->(∀dd lp,sY ps dd lp r)->Q v H'):oH vs H Q E9
theorem xZ (T:Txt K mg A):T.kD.Hz P w base 4 oH:=by
 have D_law_mix:=lA (P:=P) (w:=w) (base:=base) T
 refine T.kD.hs (k:=3) cH (fun f cdv A' outer s' H vs Q E hr hu h=>?_)
 obtain ⟨N,s,g,c,sc,ps,rfl,hA,hS,q⟩:=h
 refine ⟨_,(ab (pst 3 cH.nd (au bw (aq (hj:=by omega) D_law_mix hr (aa (fv 1) (aa af ae))) af))
  (ab (pst 4 cH.nd (aq (hj:=by omega) (xw T) hr (aa (fv 1) (aa (fv 2) ae))))
  (ab (pst 5 cH.nd (aq (hj:=by omega) D_law_mix hr (aa (fv 1) (aa af ae))))
  (ab (pst 6 cH.nd (aq (hj:=by omega) (kH T) hr (aa (px hu (fv 2) aj) (aa (fv 5) ae))))
  (ab (aS (PW.pt (pw_and (ptc (bZ hu) (fv 3) af) (pw_and1 (ptc (pS hu) (px hu (fv 0) aj) (aL ae)))))
   (ai (aA (aO (aa aj (aa (fv 6) (aa (fv 4) (aa (uG (px hu (fv 0) aj)) ae)))))))
   aE)
  (ab (aS (ptc vg (fv 3) af)
   (ai (aA (aO (aa aj (aa (aq (hj:=by omega) (kH T) hr (aa (px hu (fv 2) aj) (aa (fv 5) ae))) (aa (fv 4) ae))))))
   aE)
  (ab (aS (ptc (bZ hu) (fv 3) af)
   (ai (aA (aO (aa aj (aa (px hu (px hu (fv 2) aj) af) (aa (aq (hj:=by omega) (iA T) hr (aa (aq (hj:=by omega) D_law_mix hr (aa (fv 1) (aa af ae))) (aa (fv 2) ae))) (aa (fv 4) ae)))))))
   aE)
  (ai (aA (aO (aa aj (aa (fv 6) (aa (fv 4) ae))))))))))))),?_⟩
 refine ag fun M1 K1=>⟨c,4,rfl,by decide,by decide,fun m m0 m1=>⟨by show (0:Int) < 8;decide,K1 _ _ ?_⟩⟩
 clear K1 M1
 try dsimp only
 refine ag fun M1 K1=>⟨N,sc,ps,c,rfl,hS.same b4,fun p v H1 s1 f1 e1 ov=>K1 _ _ ?_⟩
 clear K1 M1
 have A1:=hA.same s1
 have S1:=hS.same (Sn.del (Sn.new s1))
 have p1:p ∉ s.M:=hA.new f1
 try dsimp only
 refine ag fun M1 K1=>⟨c,6,rfl,by decide,by decide,fun n n0 n1=>?_⟩
 obtain ⟨a1,a2,a3,a4,h1,h2,h3,h4,h5⟩:=S1
 refine K1 _ _ ?_
 clear K1 M1
 try dsimp only
 refine ag fun M1 K1=>dgk (b4 _ _ h1) rfl ⟨a1,_,n,rfl,SqL.of (b4 _ _ h2),by simp,fun x hx=>K1 _ _ ?_⟩
 clear K1 M1
 obtain ⟨a,ma,rfl⟩:=List.mem_map.mp hx
 have ma':=Ct ma
 have ep:∀{H':Hp},ah H1 H'->del s.M H' p=some (.tup (vV N v)):=fun e=>aF p1 (e _ _ e1)
 have fin:∀(r:Lr) (t:Addr) (mk:List Nat) (H2:Hp),Sn s H H2->SAt N H2 s { g with ma:=mk }->H2 t=none->(∀H',ah H2 H'->H' t=some (.tup (.str r.wd :: (r.fs N p).map (·.2)))->jm N (del s.M H') (.ref t) (.leaf r))->(∀dd lp,sY ps dd lp r)->Q (.ref t) (upd H2 t (.tup (.str r.wd :: (r.fs N p).map (·.2)))):=fun r t mk H2 s2 A2 ht fr ok=>q _ r mk _ (s2.trans (Sn.new (ah.upd ht _))) (A2.same (ah.upd ht _)) (fr _ (ah.upd ht _) ak) ok
 have go:∀(r:Lr) (t:Addr) (H2:Hp),ah H1 H2->H2 t=none->r.ob N=some (.tup (vV N v))->(∀dd lp,sY ps dd lp r)->Q (.ref t) (upd H2 t (.tup (.str r.wd :: (r.fs N p).map (·.2)))):=fun r t H2 s2 ht eo ok=>fin r t g.ma H2 (Sn.new (s1.trans s2)) ((A1.same s2)) ht (fun H' e et=>fr1 (p:=p) (aF (hA.new (ah.free (s1.trans s2) ht)) et) eo (ep (s2.trans e))) ok
 try dsimp only
 refine ag fun M1 K1=>?_
 have rest:∀(H2:Hp),ah H1 H2->M1 [some (.ref s.S),some (.int c),some (.ref sc),some (.int (m % 8)),some (.ref p),some (.int n),some (.str (N a))] H2:=fun H2 s2=>K1 _ _ (by
  try dsimp only
  have S2:=fun x o (e:del s.M H1 x=some o)=>s2 _ _ (b4 _ _ e)
  refine ag fun M2 K2=>⟨_,rfl,bj (fun _=>?_) (fun _=>K2 _ _ ?_)⟩
  ·refine dgk (S2 _ _ h1) rfl ⟨a4,_,n,rfl,SqL.of (S2 _ _ h5),by simp,fun x hx=>?_⟩
   obtain ⟨b,mb,rfl⟩:=List.mem_map.mp hx
   refine ⟨by show 3 <= sizeLine;decide,fun t ht=>go (.snd b v) t H2 s2 ht rfl fun dd lp=>⟨?_,ov⟩⟩
   simpa using mb
  clear K2 M2
  try dsimp only
  refine ag fun M2 K2=>⟨rfl,_,rfl,bj (fun _=>?_) (fun _=>K2 _ _ ?_)⟩
  ·refine dgk (S2 _ _ h1) rfl (lxn (j:=1) (SqL.of (S2 _ _ h4)) rfl ⟨c,9,rfl,by decide,by decide,fun m' m0' m1'=>⟨N,sc,ps,m',rfl,m0',m1',⟨a1,a2,a3,a4,S2 _ _ h1,S2 _ _ h2,S2 _ _ h3,S2 _ _ h4,S2 _ _ h5⟩,fun th H3 s3 oth=>⟨by show 4 <= sizeLine;decide,fun t ht=>go (.put 4 th v) t H3 (s2.trans s3) ht rfl fun dd lp=>⟨by simp [S7],oth,ov⟩⟩⟩⟩)
  try dsimp only
  refine ⟨by show 3 <= sizeLine;decide,fun t ht=>go (.set a v) t H2 s2 ht rfl fun dd lp=>⟨ma',ov⟩⟩)
 refine ⟨rfl,_,rfl,bj (fun _=>?_) (fun _=>bO (rest H1 (ah.refl _)))⟩
 refine dgk A1.hS rfl ⟨Nat.zero_le _,fun L hL=>?_⟩
 obtain ⟨s2,e2⟩:=alc hL (HO.lst [])
 generalize upd H1 L _=H2 at s2 e2 ⊢
 have A2:=A1.same s2
 have ok:∀x ∈ g.ma.map N,PyData.strOk x=true:=fun x hx=>by
  obtain ⟨i,mi,rfl⟩:=List.mem_map.mp hx
  rcases A2.mo i mi with rfl | rfl <;> exact A2.nm.str _ (by decide)
 refine ne_nil (SqL.of A2.hm) (SqL.of e2) ((show nV N g.ma=sS (g.ma.map N) by simp [sS]) ▸ ke ok) ⟨_,rfl,?_⟩
 by_cases e0:g.ma=[]
 ·rw [e0]
  exact bO (rest H2 s2)
 obtain ⟨ks,k0,ek⟩:∃ks k0,g.ma=ks ++ [k0]:=⟨g.ma.dropLast,g.ma.getLast e0,(List.dropLast_concat_getLast e0).symm⟩
 have en:(!(nV N g.ma).isEmpty)=true:=by
  cases hg:g.ma with
  | nil=>exact absurd hg e0
  | cons x r=>rfl
 rw [en]
 have hm:=A2.hm
 rw [ek] at hm
 have hm:H2 s.m=some (.lst (nV N ks ++ [.str (N k0)])):=by rw [hm];simp
 have mks:∀x ∈ ks,x=5 \/ x=6:=fun x hx=>A2.mo x (by rw [ek];exact List.mem_append_left _ hx)
 have mk0:k0=5 \/ k0=6:=A2.mo k0 (by rw [ek];simp)
 have A3:=A2.marks mks
 refine jl (dgk A2.hS rfl ⟨Or.inl ⟨rfl,_,SqL.of hm⟩,zB hm ?_⟩)
 have s3:Sn s H2 (upd H2 s.m (.lst (nV N ks))):=Sn.at (by simp) _
 refine ⟨by show 4 <= sizeLine;decide,fun t ht=>fin (.say a v k0) t ks _ ((Sn.new (s1.trans s2)).trans s3) A3 ht (fun H' e et=>?_) fun dd lp=>⟨ma',ov,mk0⟩⟩
 have tm:t ∉ s.M:=A3.new ht
 exact fr1 (p:=p) (aF tm et) rfl (aF p1 (e _ _ (s3 _ _ (fun m=>p1 (Sa.qm m)) (s2 _ _ e1))))
end
section
variable {P:Program}{w:World}{K:W.Frag}{mg:Str->Option Value}{base:Heap}{A:Adr}{N:Nat->Str}
seal PE PA PS PSs PT PW
inductive Tr where
 | leaf (r:Lr) | iff (v:Val) (l r:Int) (f o:List Tr) | loop (t:Th) (m l r:Int) (b:List Tr)
mutual
def flT:Tr->List Fr
 | .leaf r=>[.leaf r]
 | .iff v l r f o=>.iff v l r :: (aw f ++ .els :: (aw o ++ [.fin]))
 | .loop t m l r b=>.loop t m l r :: (aw b ++ [.fin])
def aw:List Tr->List Fr
 | []=>[]
 | t :: ts=>flT t ++ aw ts
end
mutual
def okT (ps:List Nat) (dd:List (Nat × Nat)) (lp:Bool):Tr->Prop
 | .leaf r=>sY ps dd lp r
 | .iff v _ _ f o=>vOk ps v/\cb ps dd lp f/\cb ps dd lp o
 | .loop t m _ _ b=>lU ps t/\1 <= m/\m <= 4/\cb ps dd true b
def cb (ps:List Nat) (dd:List (Nat × Nat)) (lp:Bool):List Tr->Prop
 | []=>True
 | t :: ts=>okT ps dd lp t/\cb ps dd lp ts
end
mutual
def dpT:Tr->Nat
 | .leaf _=>0
 | .iff _ _ _ f o=>max (cy f) (cy o) + 1
 | .loop _ _ _ _ b=>cy b + 1
def cy:List Tr->Nat
 | []=>0
 | t :: ts=>max (dpT t) (cy ts)
end
theorem dX:∀(a b:List Tr),aw (a ++ b)=aw a ++ aw b
 | [],b=>by rw [List.nil_append,aw,List.nil_append]
 | t :: a,b=>by rw [List.cons_append,aw,aw,dX a b,List.append_assoc]
theorem mH (t:Tr):aw [t]=flT t:=by rw [aw,aw,List.append_nil]
theorem mO {ps:List Nat}{dd:List (Nat × Nat)}{lp:Bool}:∀{a b:List Tr},cb ps dd lp a->cb ps dd lp b->cb ps dd lp (a ++ b)
 | [],b,_,h=>h
 | t :: a,b,h,h'=>by
  rw [cb] at h
  rw [List.cons_append,cb]
  exact ⟨h.1,mO h.2 h'⟩
theorem rh {ps:List Nat}{dd:List (Nat × Nat)}{lp:Bool}{t:Tr} (h:okT ps dd lp t):cb ps dd lp [t]:=by
 rw [cb,cb]
 exact ⟨h,trivial⟩
theorem kj:∀(a b:List Tr),cy (a ++ b)=max (cy a) (cy b)
 | [],b=>by rw [List.nil_append,cy];omega
 | t :: a,b=>by rw [List.cons_append,cy,cy,kj a b];omega
theorem qD (t:Tr):cy [t]=dpT t:=by rw [cy,cy];omega
inductive Op where
 | lp (t:Th) (m l r:Int) | i1 (v:Val) (l r:Int) | i2 (v:Val) (l r:Int) (f:List Tr)
def Op.wd:Op->Str
 | .lp _ _ _ _=>"loop" | .i1 _ _ _=>"if" | .i2 _ _ _ _=>"other"
def Op.fl:Op->List Fr
 | .lp t m l r=>[.loop t m l r]
 | .i1 v l r=>[.iff v l r]
 | .i2 v l r f=>.iff v l r :: (aw f ++ [.els])
def Op.BN:Op->Bool
 | .lp _ _ _ _=>true
 | _=>false
abbrev Zp:=List (List Tr × Op)
def flZ:Zp->List Tr->List Fr
 | [],cur=>aw cur
 | (pa,op) :: z,cur=>flZ z pa ++ (op.fl ++ aw cur)
def eI (z:Zp):List Str:=(z.map fun e=>e.2.wd).reverse
def lpZ (z:Zp):Bool:=z.any fun e=>e.2.BN
def BF (ps:List Nat) (dd:List (Nat × Nat)) (lp:Bool) (k:Nat):Op->Prop
 | .lp t m _ _=>lU ps t/\1 <= m/\m <= 4
 | .i1 v _ _=>vOk ps v
 | .i2 v _ _ f=>vOk ps v/\cb ps dd lp f/\cy f + k + 1 <= 6
def okZ (ps:List Nat) (dd:List (Nat × Nat)):Zp->Prop
 | []=>True
 | (pa,op) :: z=>cb ps dd (lpZ z) pa/\cy pa + z.length <= 6/\BF ps dd (lpZ z) z.length op/\okZ ps dd z
def Op.mu:Op->Nat
 | .i1 _ _ _=>2
 | _=>1
def muZ (z:Zp):Nat:=(z.map fun e=>e.2.mu).sum
theorem uB (z:Zp) (a b:List Tr):flZ z (a ++ b)=flZ z a ++ aw b:=by
 cases z with
 | nil=>exact dX a b
 | cons e z =>
  obtain ⟨pa,op⟩:=e
  show flZ z pa ++ (op.fl ++ aw (a ++ b))=flZ z pa ++ (op.fl ++ aw a) ++ aw b
  rw [dX]
  simp only [List.append_assoc]
theorem xp:∀z:Zp,muZ z <= 2 * z.length
 | []=>Nat.le_refl _
 | (pa,op) :: z=>by
  have:=xp z
  have h:op.mu <= 2:=by cases op <;> simp [Op.mu]
  unfold muZ at this ⊢
  rw [List.map_cons,List.sum_cons,List.length_cons]
  show op.mu + _ <= _
  omega
structure BAt (N:Nat->Str) (H:Hp) (s:Sa) (g:Sg) (ps:List Nat) (dd:List (Nat × Nat)) (z:Zp) (cur:List Tr):Prop where
 a:SAt N H s g
 op:g.op=eI z
 tl:g.tm.length=z.length + 1
 tb:∀x ∈ g.tm,1 <= x/\x <= 6
 de:g.dd.map (fun e=>(e.1,e.2.1))=dd
 oz:okZ ps dd z
 oc:cb ps dd (lpZ z) cur
 zl:z.length <= 6
 dc:cy cur + z.length <= 6
theorem j9 (e:List Tr × Op) (z:Zp):eI (e :: z)=eI z ++ [e.2.wd]:=by
 unfold eI
 rw [List.map_cons,List.reverse_cons]
theorem fK {xs:List V}{y:V}:atI (xs ++ [y]) (-1)=some y:=by
 have e:ixN (xs ++ [y]).length (-1)=some xs.length:=by
  unfold ixN
  rw [if_neg (by decide),if_pos (by rw [List.length_append,List.length_singleton];omega),List.length_append,List.length_singleton]
  congr 1
  omega
 unfold atI
 rw [e]
 simp
theorem yS {xs:List V}{y:V}:ixN (xs ++ [y]).length (-1)=some xs.length:=by
 unfold ixN
 rw [if_neg (by decide),if_pos (by rw [List.length_append,List.length_singleton];omega),List.length_append,List.length_singleton]
 congr 1
 omega
theorem xv {xs:List V}{y v:V}:(xs ++ [y]).set xs.length v=xs ++ [v]:=by
 rw [List.set_append_right _ _ (Nat.le_refl _),Nat.sub_self]
 rfl
theorem xR (e:List Tr × Op) (z:Zp):lpZ (e :: z)=(e.2.BN || lpZ z):=rfl
theorem pN (a:List Str) (x:Str):sS (a ++ [x])=sS a ++ [.str x]:=by simp [sS]
inductive oA (vs:List V) (H:Hp) (Q:VK) (E9:XK):Prop
 | mk (N:Nat->Str) (s:Sa) (g:Sg) (ps:List Nat) (dd:List (Nat × Nat)) (z:Zp) (cur:List Tr) (z0:vs=[.ref s.S]) (z1:BAt N H s g ps dd z cur) (z2:z ≠ [])
  (z3:∀(v:V) (f:Fr) (g':Sg) (z':Zp) (cur':List Tr) (H':Hp),Sn s H H'->BAt N H' s g' ps dd z' cur'->g'.dd=g.dd->flZ z' cur'=flZ z cur ++ [f]->muZ z' + 1=muZ z->jm N (del s.M H') v f->Q v H'):oA vs H Q E9
theorem qY (T:Txt K mg A):T.jO.Hz P w base 1 oA:=by
 refine T.jO.hs nM (fun f cdv A' outer s' H vs Q E hr hu h=>?_)
 obtain ⟨N,s,g,ps,dd,z,cur,rfl,B,hz,q⟩:=h
 cases z with
 | nil=>exact absurd rfl hz
 | cons e z =>
 obtain ⟨pa,op⟩:=e
 have ho:=B.a.ho
 rw [B.op,j9,pN] at ho
 have oz:=B.oz
 unfold okZ at oz
 obtain ⟨o1,o2,o3,o4⟩:=oz
 have oc:=B.oc
 have dc:=B.dc
 have zl:=B.zl
 rw [List.length_cons] at dc zl
 refine ⟨_,(ab (aS (ptc (bZ hu) (px hu (px hu (fv 0) aj) (jE fZ af)) aj)
   (ab (cK aj (jL (px hu (fv 0) aj) (jE fZ af) (jH hu set_list)))
   (ai (aA (aO (aa aj ae)))))
   aE)
  (ab (aD (uG (px hu (fv 0) aj)))
  (ab (aD (uG (px hu (fv 0) aj)))
  (ai (aA (aO (aa aj ae))))))),?_⟩
 refine ag fun M1 K1=>dgk B.a.hS rfl ⟨_,rfl,lix (SqL.of ho) fK ⟨rfl,_,rfl,?_⟩⟩
 have fin:∀(t:Tr),op.mu=1->flT t=op.fl ++ (aw cur ++ [.fin])->okT ps dd (lpZ z) t->dpT t + z.length <= 6->M1 [some (.ref s.S)] H:=by
  intro t em ef ok dt
  refine K1 _ _ ?_
  clear K1 M1
  obtain ⟨ts,t0,et⟩:∃ts t0,g.tm=ts ++ [t0]:=by
   have:g.tm ≠ []:=fun z=>by
    have:=B.tl
    rw [z] at this
    cases this
   exact ⟨g.tm.dropLast,g.tm.getLast this,(List.dropLast_concat_getLast this).symm⟩
  have A1:=B.a.opened (eI z)
  have tl:=B.tl
  rw [et,List.length_append,List.length_singleton,List.length_cons] at tl
  refine ag fun M1 K1=>dgk B.a.hS rfl ⟨Or.inl ⟨rfl,_,SqL.of ho⟩,zB ho (K1 _ _ ?_)⟩
  clear K1 M1
  have ht:=A1.ht
  have ht:upd H s.o (.lst (sS (eI z))) s.t=some (.lst (ts.map V.int ++ [.int t0])):=by rw [ht];show some (HO.lst (g.tm.map V.int))=_;rw [et];simp
  have A2:=A1.zG ts
  have s1:Sn s H (upd H s.o (.lst (sS (eI z)))):=Sn.at (by simp) _
  have s2:Sn s (upd H s.o (.lst (sS (eI z)))) (upd (upd H s.o (.lst (sS (eI z)))) s.t (.lst (ts.map V.int))):=Sn.at (by simp) _
  try dsimp only
  refine ag fun M1 K1=>dgk A1.hS rfl ⟨Or.inl ⟨rfl,_,SqL.of ht⟩,zB ht (K1 _ _ ?_)⟩
  clear K1 M1
  try dsimp only
  refine ⟨by show 1 <= sizeLine;decide,fun r hr=>?_⟩
  have s3:=ah.upd hr (.tup [V.str "end"])
  refine q _ .fin { g with op:=eI z,tm:=ts } z (pa ++ [t]) _ ((s1.trans s2).trans (Sn.new s3)) ⟨A2.same s3,rfl,by show ts.length=_;omega,fun x hx=>B.tb x (by rw [et];exact List.mem_append_left _ hx),B.de,o4,mO o1 (rh ok),by omega,?_⟩ rfl ?_ ?_ (fr0 (aF (A2.new hr) ak) rfl)
  ·rw [kj,qD]
   omega
  ·rw [uB,mH,ef]
   show _=flZ z pa ++ (op.fl ++ aw cur) ++ [.fin]
   simp only [List.append_assoc]
  ·unfold muZ
   rw [List.map_cons,List.sum_cons]
   show _=op.mu + _
   rw [em]
   omega
 cases op with
 | lp t m l r =>
  refine bj (fun z=>absurd z (show ¬ decide (V.str "loop"=V.str "if")=true by decide)) (fun _=>fin (.loop t m l r cur) rfl (by rw [flT];rfl) (by rw [okT];exact ⟨o3.1,o3.2.1,o3.2.2,oc⟩) (by rw [dpT];omega))
 | i2 v l r f =>
  refine bj (fun z=>absurd z (show ¬ decide (V.str "other"=V.str "if")=true by decide)) (fun _=>fin (.iff v l r f cur) rfl (by rw [flT];simp [Op.fl]) (by rw [okT];exact ⟨o3.1,o3.2.1,oc⟩) ?_)
  rw [dpT]
  have:=o3.2.2
  omega
 | i1 v l r =>
  clear fin K1
  refine bj (fun _=>?_) (fun z=>absurd (show decide (V.str "if"=V.str "if")=true from decide_eq_true rfl) z)
  have A1:=B.a.opened (eI z ++ [("other":Str)])
  have s1:Sn s H (upd H s.o (.lst (sS (eI z ++ [("other":Str)])))):=Sn.at (by simp) _
  refine ag fun M2 K2=>dgk B.a.hS rfl ⟨_,rfl,Or.inl ⟨_,_,ho,yS,?_⟩⟩
  rw [xv,<- pN]
  refine K2 _ _ ?_
  clear K2
  try dsimp only
  refine ⟨by show 1 <= sizeLine;decide,fun r' hr=>?_⟩
  have s3:=ah.upd hr (.tup [V.str "else"])
  refine q _ .els { g with op:=eI z ++ [("other":Str)] } ((pa,.i2 v l r cur) :: z) [] _ (s1.trans (Sn.new s3)) ⟨A1.same s3,by rw [j9];rfl,B.tl,B.tb,B.de,⟨o1,o2,⟨o3,oc,by omega⟩,o4⟩,by rw [cb];trivial,by rw [List.length_cons];omega,by rw [cy,List.length_cons];omega⟩ rfl ?_ ?_ (fr0 (aF (A1.new hr) ak) rfl)
  ·show flZ z pa ++ (Op.fl (.i2 v l r cur) ++ aw [])=flZ z pa ++ (Op.fl (.i1 v l r) ++ aw cur) ++ [.els]
   rw [aw]
   simp [Op.fl]
  ·unfold muZ
   rw [List.map_cons,List.sum_cons,List.map_cons,List.sum_cons]
   show 1 + _ + 1=2 + _
   omega
end
section
variable {P:Program}{w:World}{K:W.Frag}{mg:Str->Option Value}{base:Heap}{A:Adr}{N:Nat->Str}
seal PE PA PS PSs PT PW
theorem BAt.times {H:Hp}{s:Sa}{g:Sg}{ps:List Nat}{dd:List (Nat × Nat)}{z:Zp}{cur:List Tr} (B:BAt N H s g ps dd z cur):∃ts t0,g.tm=ts ++ [t0]/\1 <= t0/\t0 <= 6:=by
 have:g.tm ≠ []:=fun z=>by
  have:=B.tl
  rw [z] at this
  cases this
 have e:=(List.dropLast_concat_getLast this).symm
 have m:=B.tb (g.tm.getLast this) (List.getLast_mem _)
 exact ⟨_,_,e,m.1,m.2⟩
theorem sI {ts:List Int}{t0:Int}:(ts ++ [t0]).map V.int=ts.map V.int ++ [.int t0]:=by simp
theorem BAt.kY {H:Hp}{s:Sa}{g:Sg}{ps:List Nat}{dd:List (Nat × Nat)}{z:Zp}{cur:List Tr} (B:BAt N H s g ps dd z cur) (r:Int):BAt N (upd H s.S (.dK (stK s r))) s { g with room:=r } ps dd z cur:=⟨B.a.kY r,B.op,B.tl,B.tb,B.de,B.oz,B.oc,B.zl,B.dc⟩
theorem BAt.same {H H':Hp}{s:Sa}{g:Sg}{ps:List Nat}{dd:List (Nat × Nat)}{z:Zp}{cur:List Tr} (B:BAt N H s g ps dd z cur) (e:ah H H'):BAt N H' s g ps dd z cur:=⟨B.a.same e,B.op,B.tl,B.tb,B.de,B.oz,B.oc,B.zl,B.dc⟩
theorem j3 (s:Sa) (r r':Int):putK (stK s r) (.inr "room") (.int r')=stK s r':=rfl
inductive oG (vs:List V) (H:Hp) (Q:VK) (E9:XK):Prop
 | mk (N:Nat->Str) (s:Sa) (g:Sg) (ps:List Nat) (dd:List (Nat × Nat)) (z:Zp) (cur:List Tr) (c:Int) (sc:Addr) (b:Bool) (z0:vs=[.ref s.S,.int c,.ref sc,.bl b]) (z1:BAt N H s g ps dd z cur) (z2:z.length < 6) (z4:lG N (del s.M H) sc ps)
  (z3:∀(v:V) (f:Fr) (g':Sg) (z':Zp) (cur':List Tr) (H':Hp),Sn s H H'->BAt N H' s g' ps dd z' cur'->g'.dd=g.dd->flZ z' cur'=flZ z cur ++ [f]->jm N (del s.M H') v f->Q v H'):oG vs H Q E9
theorem wC (T:Txt K mg A):T.jS.Hz P w base 4 oG:=by
 refine T.jS.hs (k:=3) bT (fun f cdv A' outer s' H vs Q E hr hu h=>?_)
 obtain ⟨N,s,g,ps,dd,z,cur,c,sc,b,rfl,B,zl,hS,q⟩:=h
 obtain ⟨ts,t0,et,t1,t6⟩:=B.times
 have htm:H s.t=some (.lst (ts.map V.int ++ [.int t0])):=by rw [B.a.ht,et,sI]
 refine ⟨_,(ab (pst 4 bT.nd (aq (hj:=by omega) (lA T) hr (aa (fv 1) (aa af ae))))
  (ab (pst 5 bT.nd (au ck (au bw (fv 4) af) (au bw (au cI (fv 4) af) af)))
  (ab (pst 6 bT.nd (au ck (au bw (au cI (fv 4) af) af) (au bw (au cI (fv 4) af) af)))
  (ab (pst 7 bT.nd (au aN af (au bw (au cI (fv 4) af) af)))
  (ab (aS (ptc sP (au ck (px hu (px hu (fv 0) aj) (jE fZ af)) (fv 7)) af)
   (ai (pst 7 bT.nd af))
   aE)
  (ab (cK (au q0 (px hu (fv 0) aj) (au ck (au ck (px hu (px hu (fv 0) aj) (jE fZ af)) (fv 7)) (au aN (fv 5) (fv 6)))) (jL (fv 0) aj (jH hu set_list)))
  (ab (aS (cT (fv 3) (fun _=>rfl))
   (ab (aD (aP (px hu (fv 0) aj) (aa aj ae)))
   (ab (aD (aP (px hu (fv 0) aj) (aa (au ck (px hu (px hu (fv 0) aj) (jE fZ af)) (fv 7)) ae)))
   (ai (aA (aO (aa aj (aa (aq (hj:=by omega) (iA T) hr (aa (aq (hj:=by omega) (lA T) hr (aa (fv 1) (aa af ae))) (aa (fv 2) ae))) (aa (fv 7) (aa (fv 5) (aa (fv 6) ae))))))))))
   aE)
  (ab (aD (aP (px hu (fv 0) aj) (aa aj ae)))
  (ab (aD (aP (px hu (fv 0) aj) (aa (px hu (px hu (fv 0) aj) (jE fZ af)) ae)))
  (ai (aA (aO (aa aj (aa (aq (hj:=by omega) (xw T) hr (aa (fv 1) (aa (fv 2) ae))) (aa (fv 5) (aa (fv 6) ae)))))))))))))))),?_⟩
 refine ag fun M1 K1=>⟨c,7,rfl,by decide,by decide,fun n n0 n1=>?_⟩
 have sm:∀{x:Int},0 <= x->x < 100->-(2 ^ 64) < x/\x < 2 ^ 64:=fun a b=>by omega
 obtain ⟨a0,a1⟩:=bx n (show (0:Int) < 3 by decide)
 obtain ⟨b0,b1⟩:=bx (n / 12) (show (0:Int) < 3 by decide)
 refine K1 _ _ ?_
 clear K1 M1
 try dsimp only
 refine ag fun M1 K1=>⟨by show (0:Int) < 3;decide,⟨by decide,by decide⟩,by show (0:Int) < 4;decide,.inl (sm a0 (by omega)),K1 _ _ ?_⟩
 clear K1 M1
 try dsimp only
 refine ag fun M1 K1=>⟨⟨by decide,by decide⟩,by show (0:Int) < 3;decide,⟨by decide,by decide⟩,by show (0:Int) < 4;decide,.inl (sm b0 (by omega)),?_⟩
 obtain ⟨m0,m1⟩:=bx (n / 144) (show (0:Int) < 4 by decide)
 refine K1 _ _ ?_
 clear K1 M1
 try dsimp only
 refine ag fun M1 K1=>⟨⟨by decide,by decide⟩,by show (0:Int) < 4;decide,K1 _ _ ?_⟩
 clear K1 M1
 try dsimp only
 refine ag fun M1 K1=>?_
 have fin:∀(mm l r:Int),1 <= mm->mm <= 4->t0 * mm <= 6->M1 [some (.ref s.S),some (.int c),some (.ref sc),some (.bl b),some (.int n),some (.int l),some (.int r),some (.int mm)] H:=by
  intro mm l r h1 h4 h6
  have tp:1 <= t0 * mm:=Int.mul_pos (by omega) (by omega)
  refine K1 _ _ ?_
  clear K1 M1
  try dsimp only
  refine ag fun M1 K1=>dgk B.a.hS rfl (dgk B.a.hS rfl ⟨_,rfl,lix (SqL.of htm) fK ⟨.inl (sm (by omega) (by omega)),.inl (sm (by omega) (by omega)),⟨_,mE.k (k:=.inr "room") B.a.hS (show 5 < sizeLine by decide),K1 _ _ ?_⟩⟩⟩)
  clear K1 M1
  rw [j3]
  have A1:=B.a.kY (g.room - t0 * mm * (l + r))
  have s1:Sn s H (upd H s.S (.dK (stK s (g.room - t0 * mm * (l + r))))):=Sn.at (by simp) _
  have nn:=B.a.ne
  have ht1:upd H s.S (.dK (stK s (g.room - t0 * mm * (l + r)))) s.t=some (.lst (ts.map V.int ++ [.int t0])):=ao (Ne.symm nn.1.2.1) htm
  have ho1:=A1.ho
  generalize upd H s.S _=H1 at A1 s1 ht1 ho1 ⊢
  have lo:g.op.length=z.length:=by rw [B.op];simp [eI]
  have ltm:g.tm.length=z.length + 1:=B.tl
  have tll:ts.length=z.length:=by rw [et,List.length_append,List.length_singleton] at ltm;omega
  have push:∀(op:Op) (tn:Int),1 <= tn->tn <= 6->BF ps dd (lpZ z) z.length op->BAt N (upd (upd H1 s.o (.lst (sS (g.op ++ [op.wd])))) s.t (.lst ((g.tm ++ [tn]).map V.int))) s { g with room:=g.room - t0 * mm * (l + r),op:=g.op ++ [op.wd],tm:=g.tm ++ [tn] } ps dd ((cur,op) :: z) []:=fun op tn h1 h6 ok=>by
   refine ⟨(A1.opened (g.op ++ [op.wd])).zG (g.tm ++ [tn]),by show g.op ++ [op.wd]=_;rw [j9,B.op],by show (g.tm ++ [tn]).length=_;rw [List.length_append,List.length_singleton,List.length_cons];omega,fun x hx=>?_,B.de,⟨B.oc,B.dc,ok,B.oz⟩,by rw [cb];trivial,by rw [List.length_cons];omega,by rw [cy,List.length_cons];omega⟩
   rcases List.mem_append.mp hx with m | m
   ·exact B.tb x m
   ·rw [List.mem_singleton.mp m]
    exact ⟨h1,h6⟩
  have fl:∀(op:Op) (f:Fr),op.fl=[f]->flZ ((cur,op) :: z) []=flZ z cur ++ [f]:=fun op f e=>by
   show flZ z cur ++ (op.fl ++ aw [])=_
   rw [e,aw,List.append_nil]
  have S1:=hS.same (Sn.del s1)
  cases b with
  | true =>
   refine ag fun M1 K1=>⟨_,rfl,jl ?_⟩
   have A2:=A1.opened (g.op ++ [("loop":Str)])
   have s2:Sn s H1 (upd H1 s.o (.lst (sS (g.op ++ [("loop":Str)])))):=Sn.at (by simp) _
   have ht2:upd H1 s.o (.lst (sS (g.op ++ [("loop":Str)]))) s.t=some (.lst (ts.map V.int ++ [.int t0])):=ao (Ne.symm nn.1.2.2.2.2.1) ht1
   refine ag fun M2 K2=>dgk A1.hS rfl ⟨Or.inl ⟨rfl,_,SqL.of ho1⟩,_,_,_,rfl,rfl,ho1,aG (by rw [List.length_map];show g.op.length <= 1000;omega),?_⟩
   rw [<- pN]
   refine K2 _ _ ?_
   clear K2 M2
   try dsimp only
   refine ag fun M2 K2=>dgk A2.hS rfl ⟨Or.inl ⟨rfl,_,SqL.of ht2⟩,dgk A2.hS rfl ⟨_,rfl,lix (SqL.of ht2) fK ⟨.inl (sm (by omega) (by omega)),⟨_,_,_,rfl,rfl,ht2,aG (by rw [List.length_append,List.length_map,List.length_singleton];omega),K2 _ _ ?_⟩⟩⟩⟩
   clear K2 M2
   rw [show ts.map V.int ++ [.int t0] ++ [.int (t0 * mm)]=(g.tm ++ [t0 * mm]).map V.int by rw [et];simp]
   have s3:Sn s (upd H1 s.o (.lst (sS (g.op ++ [("loop":Str)])))) (upd (upd H1 s.o (.lst (sS (g.op ++ [("loop":Str)])))) s.t (.lst ((g.tm ++ [t0 * mm]).map V.int))):=Sn.at (by simp) _
   have t3:=(s1.trans s2).trans s3
   have S3:=hS.same (Sn.del t3)
   try dsimp only
   refine ⟨c,8,rfl,by decide,by decide,fun m' m0' m1'=>⟨N,sc,ps,m',rfl,m0',m1',S3.same b4,fun th H4 s4 oth=>?_⟩⟩
   have B4:=(push (.lp th mm l r) (t0 * mm) tp h6 ⟨oth,h1,h4⟩).same s4
   refine ⟨by show 5 <= sizeLine;decide,fun rr hrr=>?_⟩
   have s5:=ah.upd hrr (.tup [V.str "loop",th.v N,.int mm,.int l,.int r])
   exact q _ (.loop th mm l r) _ _ _ _ (t3.trans (Sn.new (s4.trans s5))) (B4.same s5) rfl (fl _ _ rfl) (fr0 (aF (B4.a.new hrr) ak) rfl)
  | false =>
   refine ag fun M1 K1=>⟨_,rfl,bO (K1 _ _ ?_)⟩
   clear K1 M1
   try dsimp only
   have A2:=A1.opened (g.op ++ [("if":Str)])
   have s2:Sn s H1 (upd H1 s.o (.lst (sS (g.op ++ [("if":Str)])))):=Sn.at (by simp) _
   have ht2:upd H1 s.o (.lst (sS (g.op ++ [("if":Str)]))) s.t=some (.lst (ts.map V.int ++ [.int t0])):=ao (Ne.symm nn.1.2.2.2.2.1) ht1
   refine ag fun M2 K2=>dgk A1.hS rfl ⟨Or.inl ⟨rfl,_,SqL.of ho1⟩,_,_,_,rfl,rfl,ho1,aG (by rw [List.length_map];show g.op.length <= 1000;omega),?_⟩
   rw [<- pN]
   refine K2 _ _ ?_
   clear K2 M2
   try dsimp only
   refine ag fun M2 K2=>dgk A2.hS rfl ⟨Or.inl ⟨rfl,_,SqL.of ht2⟩,dgk A2.hS rfl ⟨_,rfl,lix (SqL.of ht2) fK ⟨_,_,_,rfl,rfl,ht2,aG (by rw [List.length_append,List.length_map,List.length_singleton];omega),K2 _ _ ?_⟩⟩⟩
   clear K2 M2
   rw [show ts.map V.int ++ [.int t0] ++ [.int t0]=(g.tm ++ [t0]).map V.int by rw [et];simp]
   have s3:Sn s (upd H1 s.o (.lst (sS (g.op ++ [("if":Str)])))) (upd (upd H1 s.o (.lst (sS (g.op ++ [("if":Str)])))) s.t (.lst ((g.tm ++ [t0]).map V.int))):=Sn.at (by simp) _
   have t3:=(s1.trans s2).trans s3
   have S3:=hS.same (Sn.del t3)
   try dsimp only
   refine ⟨N,sc,ps,c,rfl,S3.same b4,fun p v H4 s4 f4 e4 ov=>?_⟩
   have B3:=push (.i1 v l r) t0 t1 t6 ov
   have p4:p ∉ s.M:=B3.a.new f4
   have B4:=B3.same s4
   refine ⟨by show 4 <= sizeLine;decide,fun rr hrr=>?_⟩
   have s5:=ah.upd hrr (.tup [V.str "if",.ref p,.int l,.int r])
   exact q _ (.iff v l r) _ _ _ _ (t3.trans (Sn.new (s4.trans s5))) (B4.same s5) rfl (fl _ _ rfl) (fr1 (p:=p) (aF (B4.a.new hrr) ak) rfl (aF p4 (s5 _ _ e4)))
 refine dgk B.a.hS rfl ⟨_,rfl,lix (SqL.of htm) fK ⟨.inl (sm (by omega) (by omega)),_,rfl,bj (fun _=>fin 1 _ _ (by decide) (by decide) (by omega)) (fun z=>fin _ _ _ (by omega) (by omega) ?_)⟩⟩
 ·have:=of_decide_eq_false (Bool.eq_false_iff.mpr z)
  omega
end
section
variable {P:Program}{w:World}{K:W.Frag}{mg:Str->Option Value}{base:Heap}{A:Adr}{N:Nat->Str}
seal PE PA PS PSs PT PW
theorem zi {H:Hp}{p q:Addr}{xs:List V}{ds:List PyData} (hp:SqL K H p xs) (hq:SqL K H q []) (h1:cC K H xs ds) (sh:SeqAt.shaped (.list ds)=true) {Q:VK} (k:Q (.bl (!xs.isEmpty)) H):fNe K (.ref p) (.ref q) H Q:=by
 refine ⟨.list ds,.list [],.lst hp h1,.lst hq .nil,sh,rfl,?_⟩
 cases h1 with
 | nil=>exact k
 | cons _ _=>exact k
def ddD (N:Nat->Str) (e:Nat × Nat × Int):PyData:=.tuple [.str (N e.1),.int e.2.1,.int e.2.2]
theorem xy (nm:j2 N) {X H:Hp} (s:ah X H):∀{dd:List (Nat × Nat × Int)}{ds:List V},qq N X dd ds->(∀e ∈ dd,e.1 < 24)->cC K H ds (dd.map (ddD N))/\PyData.canLayAll0 (dd.map (ddD N))=true/\PyData.depthAll (dd.map (ddD N)) <= 1
 | _,_,.nil,_=>⟨.nil,rfl,Nat.zero_le _⟩
 | e :: dd,_,.cons h r,ok=>by
  obtain ⟨a,rfl,ha⟩:=h
  obtain ⟨h1,h2,h3⟩:=xy nm s r fun e he=>ok e (List.mem_cons_of_mem _ he)
  have so:=nm.str e.1 (ok e List.mem_cons_self)
  refine ⟨.cons (.tup (SqT.of (s _ _ ha)) (.cons (.str _) (.cons (.int _) (.cons (.int _) .nil)))) h1,?_,?_⟩
  ·rw [List.map_cons]
   simp [ddD,PyData.canLayAll0,PyData.canLay0,h2,so]
  ·rw [List.map_cons]
   simp [ddD,PyData.depthAll,PyData.depth]
   omega
theorem Bo (z:Zp):decide (("loop":Str) ∈ eI z)=lpZ z:=by
 induction z with
 | nil=>rfl
 | cons e z ih =>
  rw [j9,xR,<- ih]
  obtain ⟨pa,op⟩:=e
  cases op with
  | lp _ _ _ _ =>
   show decide (_ ∈ eI z ++ [("loop":Str)])=(true || _)
   rw [decide_eq_true (by simp)]
   rfl
  | i1 _ _ _ =>
   show decide (_ ∈ eI z ++ [("if":Str)])=(false || _)
   rw [Bool.false_or]
   refine decide_eq_decide.mpr ⟨fun h=>?_,fun h=>List.mem_append_left _ h⟩
   rcases List.mem_append.mp h with h | h
   ·exact h
   ·exact absurd (List.mem_singleton.mp h) (by decide)
  | i2 _ _ _ _ =>
   show decide (_ ∈ eI z ++ [("other":Str)])=(false || _)
   rw [Bool.false_or]
   refine decide_eq_decide.mpr ⟨fun h=>?_,fun h=>List.mem_append_left _ h⟩
   rcases List.mem_append.mp h with h | h
   ·exact h
   ·exact absurd (List.mem_singleton.mp h) (by decide)
theorem xQ (op:Op):PyData.strOk op.wd=true:=by
 cases op with
 | lp _ _ _ _=>exact (by decide +kernel:PyData.strOk ("loop":Str)=true)
 | i1 _ _ _=>exact (by decide +kernel:PyData.strOk ("if":Str)=true)
 | i2 _ _ _ _=>exact (by decide +kernel:PyData.strOk ("other":Str)=true)
inductive tW (vs:List V) (H:Hp) (Q:VK) (E9:XK):Prop
 | mk (N:Nat->Str) (s:Sa) (g:Sg) (ps:List Nat) (dd:List (Nat × Nat)) (z:Zp) (cur:List Tr) (c:Int) (sc:Addr) (z0:vs=[.ref s.S,.int c,.ref sc]) (z1:BAt N H s g ps dd z cur) (z4:lG N (del s.M H) sc ps) (z5:∀e ∈ g.dd,e.1 < 24/\e.2.1 <= 4)
  (z3:∀(v:V) (f:Fr) (g':Sg) (z':Zp) (cur':List Tr) (H':Hp),Sn s H H'->BAt N H' s g' ps dd z' cur'->g'.dd=g.dd->flZ z' cur'=flZ z cur ++ [f]->jm N (del s.M H') v f->Q v H'):tW vs H Q E9
theorem BAt.leaf {H:Hp}{s:Sa}{g:Sg}{ps:List Nat}{dd:List (Nat × Nat)}{z:Zp}{cur:List Tr} (B:BAt N H s g ps dd z cur) {r:Lr} (ok:sY ps dd (lpZ z) r):BAt N H s g ps dd z (cur ++ [.leaf r])/\flZ z (cur ++ [.leaf r])=flZ z cur ++ [.leaf r]:=by
 refine ⟨⟨B.a,B.op,B.tl,B.tb,B.de,B.oz,mO B.oc (rh (by rw [okT];exact ok)),B.zl,?_⟩,?_⟩
 ·rw [kj,qD,dpT]
  have:=B.dc
  omega
 ·rw [uB,mH,flT]
theorem A7 {ps:List Nat}{ys:List V} (h:∀(i:Nat) y,ys[i]?=some y->∃t:Th,y=t.v N/\lU ps t):∃ts:List Th,ys=ts.map (Th.v N)/\∀t ∈ ts,lU ps t:=by
 induction ys with
 | nil=>exact ⟨[],rfl,fun t ht=>by cases ht⟩
 | cons y r ih =>
  obtain ⟨t,rfl,ht⟩:=h 0 y rfl
  obtain ⟨ts,rfl,hts⟩:=ih fun i z hz=>h (i + 1) z hz
  refine ⟨t :: ts,rfl,fun u hu=>?_⟩
  rcases List.mem_cons.mp hu with rfl | hu
  ·exact ht
  ·exact hts u hu
theorem AB (T:Txt K mg A):T.qp.Hz P w base 5 tW:=by
 refine T.qp.hs (k:=4) fm (fun f cdv A' outer s' H vs Q E hr hu h=>?_)
 obtain ⟨N,s,g,ps,dd,z,cur,c,sc,rfl,B,hS,hdd,q⟩:=h
 refine ⟨_,(ab (pst 3 fm.nd (au bw (fv 1) af))
  (ab (aS (PW.pt (pw_and (ptc sP (fv 3) af) (pw_and1 (ptc (pS hu) (px hu (fv 0) aj) (aL ae)))))
   (ai (aA (aq (hj:=by omega) (qY T) hr (aa (fv 0) ae))))
   aE)
  (ab (cK (au q0 (px hu (fv 0) aj) (px hu (px hu (fv 0) aj) (jE fZ af))) (jL (fv 0) aj (jH hu set_list)))
  (ab (aS (PW.pt (pw_and (ptc sP (fv 3) af) (pw_and (ptc vg (fv 3) af) (pw_and (ptc vg (pcB dS T.fJ (aa (px hu (fv 0) aj) ae)) af) (pw_and1 (ptc sP (px hu (fv 0) aj) af))))))
   (ai (aA (aq (hj:=by omega) (wC T) hr (aa (fv 0) (aa (fv 1) (aa (fv 2) (aa (pec vg (fv 3) af) ae)))))))
   aE)
  (ab (aS (PW.pt (pw_and (ptc (bZ hu) (fv 3) af) (pw_and1 (ptc (pS hu) (px hu (fv 0) aj) (aL ae)))))
   (ab (cK (aq (hj:=by omega) (kH T) hr (aa (px hu (fv 0) aj) (aa (aq (hj:=by omega) (lA T) hr (aa (fv 1) (aa af ae))) ae))) (iu rfl (bf (pgn (i:=4) fm.nd rfl) (bf (pgn (i:=5) fm.nd rfl) (bf (pgn (i:=6) fm.nd rfl) fE)))))
   (ai (aS (ptc sP (px hu (fv 0) aj) (au ck (px hu (px hu (fv 0) aj) (jE fZ af)) (fv 6)))
    (ab (cK (au q0 (px hu (fv 0) aj) (au ck (px hu (px hu (fv 0) aj) (jE fZ af)) (fv 6))) (jL (fv 0) aj (jH hu set_list)))
    (ai (aA (aO (aa aj (aa (fv 4) (aa (j5 (N:=["_law_k","_law_scope_here","_law_cell"]) (own:=1) (fr:=[2,1]) (b9.of (by kernel_rfl!)) rfl (bK rfl T.bY (aa (fv 5) ae)) (fun b=>pgn (i:=0) (show List.Nodup (["_law_k","_law_scope_here","_law_cell"]:List PySem.Str) by decide +kernel) rfl) (fun b=>kQ) (fun b=>aq (hj:=by omega) (iA T) hr (aa (aq (hj:=by omega) (lA T) hr (aa (fv 2) (aa (au aN af (fv 0)) ae))) (aa (fv 1) ae)))) ae)))))))
    aE)))
   aE)
  (ab (aS (PW.pt (pw_and (ptc (bZ hu) (fv 3) af) (pw_and1 (ptc (ox hu) aj (px hu (fv 0) aj) ((by with_unfolding_all rfl))))))
   (ai (aA (aO (aa aj ae))))
   aE)
  (ai (aA (aq (hj:=by omega) (xZ T) hr (aa (fv 0) (aa (fv 1) (aa (fv 2) ae)))))))))))),?_⟩
 refine ag fun M1 K1=>⟨by show (0:Int) < 11;decide,K1 _ _ ?_⟩
 clear K1 M1
 try dsimp only
 refine ag fun M1 K1=>?_
 have go:∀H1,ah H H1->M1 [some (.ref s.S),some (.int c),some (.ref sc),some (.int (c % 11)),none,none,none] H1:=by
  intro H1 s1
  refine K1 _ _ ?_
  clear K1 M1
  have B1:=B.same s1
  obtain ⟨ts,t0,et,t1,t6⟩:=B.times
  have htm:H1 s.t=some (.lst (ts.map V.int ++ [.int t0])):=by rw [B1.a.ht,et,sI]
  try dsimp only
  refine ag fun M1 K1=>dgk B1.a.hS rfl (dgk B1.a.hS rfl ⟨_,rfl,lix (SqL.of htm) fK ⟨_,mE.k (k:=.inr "room") B1.a.hS (show 5 < sizeLine by decide),K1 _ _ ?_⟩⟩)
  clear K1 M1
  rw [j3]
  have B2:=B1.kY (g.room - t0)
  have s2:Sn s H1 (upd H1 s.S (.dK (stK s (g.room - t0)))):=Sn.at (by simp) _
  have htm2:upd H1 s.S (.dK (stK s (g.room - t0))) s.t=some (.lst (ts.map V.int ++ [.int t0])):=by rw [B2.a.ht];show some (HO.lst (g.tm.map V.int))=_;rw [et,sI]
  have t2:Sn s H (upd H1 s.S (.dK (stK s (g.room - t0)))):=(Sn.new s1).trans s2
  generalize upd H1 s.S _=H2 at B2 s2 htm2 t2 ⊢
  generalize g.room - t0=rm at B2
  have S2:=hS.same (Sn.del t2)
  have ho2:=B2.a.ho
  have lo:g.op.length=z.length:=by rw [B.op];simp [eI]
  try dsimp only
  refine ag fun M1 K1=>?_
  have go2:M1 [some (.ref s.S),some (.int c),some (.ref sc),some (.int (c % 11)),none,none,none] H2:=by
   refine K1 _ _ ?_
   clear K1 M1
   try dsimp only
   refine ag fun M1 K1=>?_
   have go3:∀(v4 v5 v6:Option V) (H3:Hp),ah H2 H3->M1 [some (.ref s.S),some (.int c),some (.ref sc),some (.int (c % 11)),v4,v5,v6] H3:=by
    intro v4 v5 v6 H3 s3
    refine K1 _ _ ?_
    clear K1 M1
    have B3:=B2.same s3
    have S3:=S2.same (Sn.del (Sn.new s3))
    have t3:=t2.trans (Sn.new s3)
    try dsimp only
    refine ag fun M1 K1=>?_
    have pl:∀H4,ah H3 H4->M1 [some (.ref s.S),some (.int c),some (.ref sc),some (.int (c % 11)),v4,v5,v6] H4:=fun H4 s4=>K1 _ _ ⟨N,s,_,c,sc,ps,rfl,(B3.same s4).a,S3.same (Sn.del (Sn.new s4)),fun v r mk H' s' a' fr ok=>by
     have B':BAt N H' s { g with room:=rm,ma:=mk } ps dd z cur:=⟨a',B3.op,B3.tl,B3.tb,B3.de,B3.oz,B3.oc,B3.zl,B3.dc⟩
     obtain ⟨b1,b2⟩:=B'.leaf (ok dd (lpZ z))
     exact q v (.leaf r) _ z _ H' (t3.trans ((Sn.new s4).trans s')) b1 rfl b2 fr⟩
    refine ⟨rfl,_,rfl,bj (fun _=>?_) (fun _=>bO (pl H3 (ah.refl _)))⟩
    refine dgk B3.a.hS rfl (Or.inl ⟨_,Or.inl (SqL.of B3.a.ho),rfl,vD _,_,rfl,?_⟩)
    have el:inV (V.str "loop") (sS g.op)=lpZ z:=by rw [y4,B.op,Bo]
    refine bj (fun z9=>?_) (fun _=>pl H3 (ah.refl _))
    have z9:inV (V.str "loop") (sS g.op)=true:=z9
    rw [el] at z9
    refine ⟨by show 1 <= sizeLine;decide,fun r hr=>?_⟩
    have s4:=ah.upd hr (.tup [V.str "last"])
    obtain ⟨b1,b2⟩:=(B3.same s4).leaf (r:=.last) z9
    exact q _ (.leaf .last) _ z _ _ (t3.trans (Sn.new s4)) b1 rfl b2 (fr0 (aF (B3.a.new hr) ak) rfl)
   refine ⟨rfl,_,rfl,bj (fun _=>?_) (fun _=>bO (go3 none none none H2 (ah.refl _)))⟩
   refine dgk B2.a.hS rfl ⟨Nat.zero_le _,fun L hL=>?_⟩
   obtain ⟨s3,e3⟩:=alc hL (HO.lst [])
   generalize upd H2 L _=H3 at s3 e3 ⊢
   have B3:=B2.same s3
   obtain ⟨ds,hd3,dd3⟩:=B3.a.hd
   have dl:=Paired.length dd3
   have RR:cC K H3 ds (g.dd.map (ddD N))/\PyData.canLayAll0 (g.dd.map (ddD N))=true/\PyData.depthAll (g.dd.map (ddD N)) <= 1:=xy (K:=K) B3.a.nm (b4 (X:=s.M) (H:=H3)) dd3 fun e he=>(hdd e he).1
   obtain ⟨r1,r2,r3⟩:=RR
   refine zi (SqL.of hd3) (SqL.of e3) r1 (by simp [SeqAt.shaped,PyData.canLay0,PyData.depth,r2];omega) ⟨_,rfl,?_⟩
   by_cases e0:ds=[]
   ·rw [e0]
    exact bO (go3 none none none H3 s3)
   have en:(!ds.isEmpty)=true:=by
    cases hg:ds with
    | nil=>exact absurd hg e0
    | cons x r=>rfl
   rw [en]
   refine jl (ag fun M2 K2=>dgk B3.a.hS rfl ⟨c,1,rfl,by decide,by decide,fun m m0 m1=>⟨s.d,_,m,rfl,SqL.of hd3,List.length_pos_iff.mpr e0,fun x hx=>?_⟩⟩)
   obtain ⟨j,hj⟩:=List.getElem?_of_mem hx
   obtain ⟨e,he,a,rfl,ha⟩:=fD dd3 hj
   have me:e ∈ g.dd:=List.mem_of_getElem? he
   obtain ⟨e24,e4⟩:=hdd e me
   refine ⟨a,_,rfl,SqT.of (b4 _ _ ha),rfl,_,_,rfl,_,_,rfl,_,_,rfl,rfl,K2 _ _ ?_⟩
   clear K2 M2
   have htm3:=s3 _ _ htm2
   have sm:∀{x:Int},0 <= x->x < 100->-(2 ^ 64) < x/\x < 2 ^ 64:=fun a b=>by omega
   try dsimp only
   refine dgk B3.a.hS rfl (dgk B3.a.hS rfl ⟨_,rfl,lix (SqL.of htm3) fK ⟨.inl (sm (by omega) (by omega)),_,rfl,bj (fun _=>?_) (fun _=>go3 _ _ _ H3 s3)⟩⟩)
   refine ag fun M2 K2=>dgk B3.a.hS rfl (dgk B3.a.hS rfl ⟨_,rfl,lix (SqL.of htm3) fK ⟨.inl (sm (by omega) (by omega)),⟨_,mE.k (k:=.inr "room") B3.a.hS (show 5 < sizeLine by decide),K2 _ _ ?_⟩⟩⟩)
   clear K2 M2
   rw [j3]
   have B4:=B3.kY (rm - t0 * e.2.2)
   have s4:Sn s H3 (upd H3 s.S (.dK (stK s (rm - t0 * e.2.2)))):=Sn.at (by simp) _
   have t4:Sn s H (upd H3 s.S (.dK (stK s (rm - t0 * e.2.2)))):=(t2.trans (Sn.new s3)).trans s4
   generalize upd H3 s.S _=H4 at B4 s4 t4 ⊢
   have S4:=hS.same (Sn.del t4)
   try dsimp only
   refine ⟨_,rfl,by omega,by omega,?_⟩
   rw [Int.toNat_natCast]
   refine mL (n:=e.2.1) (x:=fun i=>.int (0 + (i:Int))) (fun j y H=>∃t:Th,y=t.v N/\lU ps t) (aG (by omega)) (fun _ _=>Nat.le_refl _) (fun _ _ h _=>h) (fun _ _ _ _ _ _ y=>y) (fun b j H5 G hj s5 kk=>⟨c,_,rfl,by omega,by omega,fun m' m0' m1'=>⟨N,sc,ps,m',rfl,m0',m1',(S4.same b4).same s5,fun th H6 s6 oth=>kk _ H6 s6 ⟨th,rfl,oth⟩⟩⟩) (fun j y H1 H2 s1 h=>h) (fun j y H1 D ys zs hD h=>h) (fun D H5 ys hD s5 e5 ly hy=>?_)
   ·obtain ⟨tls,rfl,ot⟩:=A7 hy
    have B5:=B4.same s5
    have D5:D ∉ s.M:=B4.a.new hD
    refine ⟨by show 3 <= sizeLine;decide,fun r hr=>?_⟩
    have s6:=ah.upd hr (.tup [V.str "call",.str (N e.1),.ref D])
    have mem:(e.1,tls.length) ∈ dd:=by
     rw [<- B.de]
     refine List.mem_map.mpr ⟨e,me,?_⟩
     rw [show tls.length=e.2.1 by rw [<- ly,List.length_map]]
    obtain ⟨b1,b2⟩:=(B5.same s6).leaf (r:=.call e.1 tls) ⟨mem,ot⟩
    exact q _ (.leaf (.call e.1 tls)) _ z _ _ (t4.trans (Sn.new (s5.trans s6))) b1 rfl b2 (fr1 (p:=D) (aF (B5.a.new hr) ak) rfl (aF D5 (s6 _ _ e5)))
  refine ⟨_,rfl,bj (fun _=>?_) (fun _=>bO go2)⟩
  refine ⟨_,rfl,bj (fun _=>?_) (fun _=>bO go2)⟩
  refine dgk B2.a.hS rfl (lnl ho2 ⟨_,rfl,bj (fun z6=>?_) (fun _=>bO go2)⟩)
  refine dgk B2.a.hS rfl ⟨_,rfl,bj (fun _=>?_) (fun _=>go2)⟩
  have z6:(((sS g.op).length:Nat):Int) < 6:=of_decide_eq_true z6
  rw [List.length_map] at z6
  exact ⟨N,s,_,ps,dd,z,cur,c,sc,_,rfl,B2,by omega,S2,fun v f g' z' cur' H' s' B' ed fl fr=>q v f g' z' cur' H' (t2.trans s') B' ed fl fr⟩
 refine ⟨_,rfl,bj (fun _=>?_) (fun _=>bO (go H (ah.refl _)))⟩
 refine dgk B.a.hS rfl ⟨Nat.zero_le _,fun L hL=>?_⟩
 obtain ⟨s1,e1⟩:=alc hL (HO.lst [])
 generalize upd H L _=H1 at s1 e1 ⊢
 have B1:=B.same s1
 have okw:∀x ∈ g.op,PyData.strOk x=true:=fun x hx=>by
  rw [B.op] at hx
  unfold eI at hx
  rw [List.mem_reverse] at hx
  obtain ⟨⟨pa,op⟩,_,rfl⟩:=List.mem_map.mp hx
  exact xQ op
 refine ne_nil (SqL.of B1.a.ho) (SqL.of e1) (ke okw) ⟨_,rfl,?_⟩
 by_cases e0:z=[]
 ·have e2:g.op=[]:=by rw [B.op,e0];rfl
  rw [e2]
  exact bO (go H1 s1)
 have en:(!(sS g.op).isEmpty)=true:=by
  have l1:g.op.length=z.length:=by rw [B.op];simp [eI]
  cases hg:g.op with
  | nil =>
   rw [hg] at l1
   exact absurd (List.length_eq_zero_iff.mp l1.symm) e0
  | cons x r=>rfl
 rw [en]
 exact jl ⟨N,s,g,ps,dd,z,cur,rfl,B1,e0,fun v f g' z' cur' H' s' B' ed fl mu fr=>q v f g' z' cur' H' ((Sn.new s1).trans s') B' ed fl fr⟩
end
section
variable {P:Program}{w:World}{K:W.Frag}{mg:Str->Option Value}{base:Heap}{A:Adr}{N:Nat->Str}
seal PE PA PS PSs PT PW
theorem SAt.grown {H:Hp}{s:Sa}{g:Sg} (h:SAt N H s g) (ys:List V):SAt N (upd H s.F (.lst ys)) s g:=by
 obtain ⟨⟨a,b,c,d,e',f,i,j,k,l⟩,x1,x2,x3,x4,x5⟩:=h.ne
 obtain ⟨ds,hd,dd⟩:=h.hd
 exact ⟨ao (Ne.symm x1) h.hS,ao (Ne.symm x2) h.ho,ao (Ne.symm x3) h.ht,ao (Ne.symm x4) h.hm,⟨ds,ao (Ne.symm x5) hd,dd.same (Sm.del (Sm.at (by simp) _))⟩,h.nd,⟨ys,ak⟩,h.mo,h.nm⟩
theorem BAt.grown {H:Hp}{s:Sa}{g:Sg}{ps:List Nat}{dd:List (Nat × Nat)}{z:Zp}{cur:List Tr} (B:BAt N H s g ps dd z cur) (ys:List V):BAt N (upd H s.F (.lst ys)) s g ps dd z cur:=⟨B.a.grown ys,B.op,B.tl,B.tb,B.de,B.oz,B.oc,B.zl,B.dc⟩
theorem SAt.fq {H:Hp}{s:Sa}{g:Sg} (h:SAt N H s g):s.F ∉ s.Q:=by
 obtain ⟨_,x1,x2,x3,x4,x5⟩:=h.ne
 simp only [Sa.Q,List.mem_cons,List.not_mem_nil,or_false,not_or]
 exact ⟨x1,x2,x3,x4,x5⟩
theorem Sn.m {s:Sa}{H H':Hp} (h:Sn s H H'):Sm s.M H H':=Sm.mono h fun _=>Sa.qm
inductive qu (vs:List V) (H:Hp) (Q:VK) (E9:XK):Prop
 | mk (N:Nat->Str) (s:Sa) (g:Sg) (ps:List Nat) (dd:List (Nat × Nat)) (cl sc:Addr) (cs:List Int) (rm:Int) (z0:vs=[.ref s.S,.ref cl,.ref sc,.int rm]) (z1:BAt N H s g ps dd [] []) (z2:del s.M H cl=some (.lst (cs.map V.int))) (z3:cs.length <= 40) (z4:lG N (del s.M H) sc ps) (z5:∀e ∈ g.dd,e.1 < 24/\e.2.1 <= 4)
  (z6:∀(R:Addr) (ys:List V) (ts:List Tr) (g':Sg) (H':Hp),Sn s H H'->H R=none->H' R=some (.lst ys)->aY N (del s.Q H') (aw ts ++ [.fin]) ys->cb ps dd false ts->cy ts <= 6->(aw ts).length <= cs.length + 12->BAt N H' s g' ps dd [] []->g'.dd=g.dd->Q (.ref R) H'):qu vs H Q E9
theorem uV (T:Txt K mg A):T.nj.Hz P w base 6 qu:=by
 refine T.nj.hs (k:=5) jd (fun f cdv A' outer s' H vs Q E hr hu h=>?_)
 obtain ⟨N,s0,g,ps,dd,cl,sc,cs,rm,rfl,B,hcl,lc,hS,hdd,q⟩:=h
 refine ⟨_,(ab (cK (fv 3) (jL (fv 0) aj (jH hu set_list)))
  (ab (pst 4 jd.nd (aL ae))
  (ab (cD PassesOwn.never rfl (iT (fv 1)) (pgn (i:=5) jd.nd rfl)
   (ai (aD (aP (fv 4) (aa (aq (hj:=by omega) (AB T) hr (aa (fv 0) (aa (fv 5) (aa (fv 2) ae)))) ae)))))
  (ab (iI PassesOwn.never (ptc (pS hu) (px hu (fv 0) aj) (aL ae))
   (ai (aD (aP (fv 4) (aa (aq (hj:=by omega) (qY T) hr (aa (fv 0) ae)) ae)))))
  (ai (aA (au aN (fv 4) (aL (aa (aO (aa aj ae)) ae))))))))),?_⟩
 refine ag fun M1 K1=>⟨_,mE.k (k:=.inr "room") B.a.hS (show 5 < sizeLine by decide),K1 _ _ ?_⟩
 clear K1 M1
 rw [j3]
 have B1:=B.kY rm
 have s1:Sn s0 H (upd H s0.S (.dK (stK s0 rm))):=Sn.at (by simp) _
 have n1:∀x,upd H s0.S (.dK (stK s0 rm)) x=none->H x=none:=fun x hx=>by
  by_cases e:x=s0.S
  ·rw [e,ak] at hx;cases hx
  ·rw [aI e] at hx;exact hx
 generalize upd H s0.S _=H1 at B1 s1 n1 ⊢
 try dsimp only
 refine ag fun M1 K1=>⟨Nat.zero_le _,fun F hF=>K1 _ _ ?_⟩
 clear K1 M1
 obtain ⟨s2,e2⟩:=alc hF (HO.lst [])
 generalize upd H1 F _=H2 at s2 e2 ⊢
 have HF:H F=none:=n1 _ hF
 have F0:F ∉ s0.M:=B1.a.new hF
 have B2:=B1.same s2
 obtain ⟨s,es⟩:∃s:Sa,s={ s0 with F:=F }:=⟨_,rfl⟩
 have eS:s.S=s0.S:=by rw [es]
 have eF:s.F=F:=by rw [es]
 have eQ:s.Q=s0.Q:=by rw [es]
 have eM:∀a ∈ s.M,a ∈ s0.Q \/ a=F:=fun a m=>by
  rw [es] at m
  simp only [Sa.M,Sa.Q,List.mem_cons,List.not_mem_nil,or_false] at m ⊢
  rcases m with h | h | h | h | h | h <;> simp [h]
 have B2':BAt N H2 s { g with room:=rm } ps dd [] []:=by
  obtain ⟨ds,hd,dda⟩:=B1.a.hd
  have nn:=B1.a.ne
  have h5:F ≠ s0.S/\F ≠ s0.o/\F ≠ s0.t/\F ≠ s0.m/\F ≠ s0.d:=by
   simp only [Sa.M,List.mem_cons,List.not_mem_nil,or_false,not_or] at F0
   exact ⟨F0.1,F0.2.1,F0.2.2.1,F0.2.2.2.1,F0.2.2.2.2.1⟩
  have dda':qq N (del s.M H2) g.dd ds:=dda.same fun a o h=>by
   obtain ⟨h1,h2⟩:=cF h
   refine aF (fun m=>?_) (s2 _ _ h2)
   rcases eM a m with z | z
   ·exact h1 (Sa.qm z)
   ·rw [z,hF] at h2;cases h2
  have nd:s.M.Nodup:=by
   rw [es]
   obtain ⟨⟨a,b,c,d,e,f,i,j,k,l⟩,_⟩:=nn
   simp only [Sa.M,List.nodup_cons,List.mem_cons,List.not_mem_nil,or_false,not_or,List.nodup_nil,and_true,not_false_eq_true]
   exact ⟨⟨a,b,c,d,Ne.symm h5.1⟩,⟨e,f,i,Ne.symm h5.2.1⟩,⟨j,k,Ne.symm h5.2.2.1⟩,⟨l,Ne.symm h5.2.2.2.1⟩,Ne.symm h5.2.2.2.2⟩
  subst es
  exact ⟨⟨B2.a.hS,B2.a.ho,B2.a.ht,B2.a.hm,⟨ds,s2 _ _ hd,dda'⟩,nd,⟨[],e2⟩,B2.a.mo,B2.a.nm⟩,B2.op,B2.tl,B2.tb,B2.de,B2.oz,B2.oc,B2.zl,B2.dc⟩
 have out:∀{H':Hp},Sm s.M H2 H'->Sn s0 H H':=fun {H'} sm a o ha e=>sm a o (fun m=>by
  rcases eM a m with z | z
  ·exact ha z
  ·rw [z,HF] at e;cases e) (s2 _ _ (s1 a o ha e))
 have dn:ah (del s0.M H) (del s.M H2):=fun x o e=>by
  obtain ⟨h1,h2⟩:=cF e
  refine aF (fun m=>?_) (s2 _ _ (s1 _ _ (fun m=>h1 (Sa.qm m)) h2))
  rcases eM x m with z | z
  ·exact h1 (Sa.qm z)
  ·rw [z,HF] at h2;cases h2
 have hcl2:=dn _ _ hcl
 have hS2:lG N (del s.M H2) sc ps:=hS.same dn
 rw [<- eS]
 try dsimp only
 refine ag fun M1 K1=>Or.inl ⟨⟨_,SqL.of (b4 _ _ hcl2)⟩,gp (K:=K) (xs:=cs.map V.int) (fun i σ Hc=>∃(v5:Option V) (ys:List V) (g':Sg) (z:Zp) (cur:List Tr),σ=[some (.ref s.S),some (.ref cl),some (.ref sc),some (.int rm),some (.ref F),v5]/\Sm s.M H2 Hc/\Hc F=some (.lst ys)/\aY N (del s.M Hc) (flZ z cur) ys/\ys.length=i/\BAt N Hc s g' ps dd z cur/\g'.dd=g.dd) ⟨none,[],{ g with room:=rm },[],[],rfl,Sm.refl _ _,e2,by show aY N _ (aw []) _;rw [aw];exact .nil,rfl,B2',rfl⟩ (fun i σ Hc _ ⟨_,_,_,_,_,_,z,_⟩=>SqL.of (b4 _ _ (Sm.del z _ _ hcl2))) ?_ ?_⟩
 ·rintro i x σ Hc hx ⟨v5,ys,g',z,cur,rfl,sc',hFc,fr,ly,Bc,gd⟩
  rw [List.getElem?_map] at hx
  cases hc:cs[i]? with
  | none=>rw [hc] at hx;cases hx
  | some c =>
  rw [hc] at hx
  cases hx
  have il:i < cs.length:=(List.getElem?_eq_some_iff.mp hc).1
  try dsimp only
  refine ⟨Or.inl ⟨rfl,_,SqL.of hFc⟩,N,s,g',ps,dd,z,cur,c,sc,rfl,Bc,hS2.same (Sm.del sc'),fun e he=>hdd e (gd ▸ he),fun v f g2 z2 cur2 H3 s3 B3 gd2 fl3 fr3=>?_⟩
  have hF3:H3 F=some (.lst ys):=s3 _ _ (by have:=Bc.a.fq;rw [eF] at this;exact this) hFc
  have s4:Sm s.M H3 (upd H3 F (.lst (ys ++ [v]))):=Sm.at (by rw [<- eF];simp) _
  have B4:=B3.grown (ys ++ [v])
  rw [eF] at B4
  refine ⟨_,_,_,rfl,rfl,hF3,aG (by omega),_,ys ++ [v],g2,z2,cur2,rfl,(sc'.trans s3.m).trans s4,ak,?_,by rw [List.length_append,ly];rfl,B4,gd2.trans gd⟩
  rw [fl3]
  exact Paired.two (aY.same (Sm.del (s3.m.trans s4)) fr) (.cons (jm.same (Sm.del s4) fr3) .nil)
 rintro σ Hc ⟨v5,ys,g',z,cur,rfl,sc',hFc,fr,ly,Bc,gd⟩
 rw [List.length_map] at ly
 refine K1 _ _ ?_
 clear K1 M1
 try dsimp only
 refine ag fun M1 K1=>⟨fun m σ' Hd=>∃(ys:List V) (g':Sg) (z:Zp) (cur:List Tr),σ'=[some (.ref s.S),some (.ref cl),some (.ref sc),some (.int rm),some (.ref F),v5]/\Sm s.M H2 Hd/\Hd F=some (.lst ys)/\aY N (del s.M Hd) (flZ z cur) ys/\muZ z=m/\ys.length + m <= cs.length + 12/\BAt N Hd s g' ps dd z cur/\g'.dd=g.dd,⟨muZ z,ys,g',z,cur,rfl,sc',hFc,fr,rfl,by have:=xp z;have:=Bc.zl;omega,Bc,gd⟩,?_⟩
 clear fr ly Bc gd hFc sc'
 rintro m σ' Hd ⟨ys,g',z,cur,rfl,sc',hFc,fr,em,lm,Bc,gd⟩
 refine dgk Bc.a.hS rfl ⟨Nat.zero_le _,fun L hL=>?_⟩
 obtain ⟨s5,e5⟩:=alc hL (HO.lst [])
 generalize upd Hd L _=H5 at s5 e5 ⊢
 have B5:=Bc.same s5
 have okw:∀x ∈ g'.op,PyData.strOk x=true:=fun x hx=>by
  rw [Bc.op] at hx
  unfold eI at hx
  rw [List.mem_reverse] at hx
  obtain ⟨⟨pa,op⟩,_,rfl⟩:=List.mem_map.mp hx
  exact xQ op
 refine ne_nil (SqL.of B5.a.ho) (SqL.of e5) (ke okw) ⟨_,rfl,?_⟩
 have fr5:=aY.same (Sm.del (Sm.new s5)) fr
 have hF5:=s5 _ _ hFc
 have sc5:=sc'.trans (Sm.new s5)
 by_cases e0:z=[]
 ·have eo:g'.op=[]:=by rw [Bc.op,e0];rfl
  rw [eo]
  refine bO (K1 _ _ ?_)
  clear K1 M1
  subst e0
  try dsimp only
  refine ⟨by show 1 <= sizeLine;decide,fun t ht=>?_⟩
  obtain ⟨s6,e6⟩:=alc ht (HO.tup [V.str "end"])
  generalize upd H5 t _=H6 at s6 e6 ⊢
  refine ⟨by show 1 <= sizeLine;decide,fun l hl=>?_⟩
  obtain ⟨s7,e7⟩:=alc hl (HO.lst [V.ref t])
  generalize upd H6 l _=H7 at s7 e7 ⊢
  refine ⟨F,l,_,_,rfl,rfl,(s6.trans s7) _ _ hF5,e7,sz (by rw [List.length_singleton];omega),fun R hR=>?_⟩
  have s8:=ah.upd hR (.lst (ys ++ [V.ref t]))
  have t58:=s6.trans (s7.trans s8)
  have sR:Sm s.M H2 (upd H7 R (.lst (ys ++ [V.ref t]))):=sc5.trans (Sm.new t58)
  have B8:=B5.same t58
  have B8':BAt N (upd H7 R (.lst (ys ++ [V.ref t]))) s0 g' ps dd [] []:=by
   obtain ⟨ys0,f0⟩:=B.a.hF
   have k0:upd H7 R (.lst (ys ++ [V.ref t])) s0.F=some (.lst ys0):=out sR _ _ B.a.fq f0
   obtain ⟨ds,hd,dda⟩:=B8.a.hd
   have dda':qq N (del s0.M (upd H7 R (.lst (ys ++ [V.ref t])))) g'.dd ds:=Paired.nT dda fun e v ⟨a,ea,ha⟩=>⟨a,ea,by
    obtain ⟨h1,h2⟩:=cF ha
    refine aF (fun m=>?_) h2
    simp only [Sa.M,List.mem_cons,List.not_mem_nil,or_false] at m
    rcases m with h | h | h | h | h | h
    ·exact h1 (by rw [h,es];simp)
    ·exact h1 (by rw [h,es];simp)
    ·exact h1 (by rw [h,es];simp)
    ·exact h1 (by rw [h,es];simp)
    ·exact h1 (by rw [h,es];simp)
    ·rw [h,k0] at h2;cases h2⟩
   subst es
   exact ⟨⟨B8.a.hS,B8.a.ho,B8.a.ht,B8.a.hm,⟨ds,hd,dda'⟩,B.a.nd,⟨ys0,k0⟩,B8.a.mo,B8.a.nm⟩,B8.op,B8.tl,B8.tb,B8.de,trivial,by rw [cb];trivial,Nat.zero_le _,by rw [cy];exact Nat.zero_le _⟩
  have fin:aY N (del s.M (upd H7 R (.lst (ys ++ [V.ref t])))) (aw cur ++ [.fin]) (ys ++ [V.ref t]):=Paired.two (aY.same (Sm.del (Sm.new t58)) fr5) (.cons (fr0 (aF (B5.a.new ht) ((s7.trans s8) _ _ e6)) rfl) .nil)
  have lf:=Paired.length fr5
  have lf:(aw cur).length=ys.length:=lf
  have dcz:=Bc.dc
  have HR:H R=none:=by
   cases e:H R with
   | none=>rfl
   | some o =>
    by_cases mR:R ∈ s0.Q
    ·exact absurd hR ((B5.same (s6.trans s7)).a.in (by rw [<- eQ] at mR;exact Sa.qm mR))
    ·have:=(out (sc5.trans (Sm.new (s6.trans s7)))) R o mR e
     rw [hR] at this
     cases this
  refine q R _ cur g' _ (out sR) HR ak ?_ Bc.oc (by have:=Bc.dc;rw [List.length_nil] at this;omega) (by omega) B8' gd
  rw [<- eQ]
  exact aY.same (fun a o h=>aF (fun m=>(cF h).1 (Sa.qm m)) (cF h).2) fin
 have en:(!(sS g'.op).isEmpty)=true:=by
  have l1:g'.op.length=z.length:=by rw [Bc.op];simp [eI]
  cases hg:g'.op with
  | nil =>
   rw [hg] at l1
   exact absurd (List.length_eq_zero_iff.mp l1.symm) e0
  | cons x r=>rfl
 rw [en]
 refine jl ⟨fun σ' Hd=>∃(ys:List V) (g':Sg) (z:Zp) (cur:List Tr) (m':Nat),m' < m/\σ'=[some (.ref s.S),some (.ref cl),some (.ref sc),some (.int rm),some (.ref F),v5]/\Sm s.M H2 Hd/\Hd F=some (.lst ys)/\aY N (del s.M Hd) (flZ z cur) ys/\muZ z=m'/\ys.length + m' <= cs.length + 12/\BAt N Hd s g' ps dd z cur/\g'.dd=g.dd,fun σ' Hd ⟨ys,g',z,cur,m',hm',h⟩=>⟨m',hm',ys,g',z,cur,h⟩,⟨Or.inl ⟨rfl,_,SqL.of hF5⟩,N,s,g',ps,dd,z,cur,rfl,B5,e0,fun v f g2 z2 cur2 H6 s6 B6 gd2 fl6 mu6 fr6=>?_⟩⟩
 have hF6:H6 F=some (.lst ys):=s6 _ _ (by have:=Bc.a.fq;rw [eF] at this;exact this) hF5
 have s7:Sm s.M H6 (upd H6 F (.lst (ys ++ [v]))):=Sm.at (by rw [<- eF];simp) _
 have B7:=B6.grown (ys ++ [v])
 rw [eF] at B7
 refine ⟨_,_,_,rfl,rfl,hF6,aG (by omega),ys ++ [v],g2,z2,cur2,muZ z2,by omega,rfl,(sc5.trans s6.m).trans s7,ak,?_,rfl,by rw [List.length_append,List.length_singleton];omega,B7,gd2.trans gd⟩
 rw [fl6]
 exact Paired.two (aY.same (Sm.del (s6.m.trans s7)) fr5) (.cons (jm.same (Sm.del s7) fr6) .nil)
end
section
variable {P:Program}{w:World}{K:W.Frag}{mg:Str->Option Value}{base:Heap}{A:Adr}{N:Nat->Str}
seal PE PA PS PSs PT PW
abbrev De:=Nat × List Nat × List Tr
def flD (d:De):List Fr:=.ba d.1 d.2.1 :: (aw d.2.2 ++ [.fin])
def aW (ds:List De):List Fr:=ds.flatMap flD
def lP (ds:List De):List (Nat × Nat):=ds.map fun d=>(d.1,d.2.1.length)
def dnI (k:Nat):Nat:=if k=0 then 9 else if k=1 then 10 else 21
def stI (k:Nat):Nat:=if k=0 then 11 else if k=1 then 15 else 22
def mxI (k:Nat):Nat:=if k=0 then 5 else if k=1 then 5 else 3
def psI (k n:Nat):List Nat:=(List.range n).map (stI k + ·)
structure BM (ds:List De):Prop where
 at':∀(k:Nat) d,ds[k]?=some d->d.1=dnI k/\(∃n,n < mxI k/\d.2.1=psI k n)/\cb d.2.1 (lP (ds.take k)) false d.2.2/\cy d.2.2 <= 6/\(aw d.2.2).length <= 17
structure j7 (hs:List Lr) (ds:List De) (mb:List Tr):Prop where
 hd:∃rk z t,hs=nN t (lT rk z)/\(∀i,rk i=0 \/ rk i=1 \/ rk i=2)/\1 <= z/\z <= 4/\t <= 11
 dl:ds.length=3
 de:BM ds
 mo:cb [] (lP ds) false mb
 md:cy mb <= 6
 ml:(aw mb).length <= 48
def flA (hs:List Lr) (ds:List De) (mb:List Tr):List Fr:=hs.map Fr.leaf ++ aW ds ++ .main :: (aw mb ++ [.fin])
theorem SAt.Ce {H:Hp}{s:Sa}{g:Sg} (h:SAt N H s g) {ds:List V} (dd:List (Nat × Nat × Int)) (e:qq N (del s.M H) dd ds):SAt N (upd H s.d (.lst ds)) s { g with dd:=dd }:=by
 obtain ⟨⟨a,b,c,d,e',f,i,j,k,l⟩,x1,x2,x3,x4,x5⟩:=h.ne
 exact ⟨ao d h.hS,ao i h.ho,ao k h.ht,ao l h.hm,⟨ds,ak,e.same (Sm.del (Sm.at (by simp) _))⟩,h.nd,h.hF.imp fun _ z=>ao x5 z,h.mo,h.nm⟩
theorem SAt.put {H:Hp}{s:Sa}{g:Sg} (h:SAt N H s g) {R:Addr} (m:R ∉ s.M) {xs ys:List V} (hR:H R=some (.lst xs)):SAt N (upd H R (.lst ys)) s g:=by
 have nn:∀a ∈ s.M,a ≠ R:=fun a ha e=>m (e ▸ ha)
 obtain ⟨ds,hd,dd⟩:=h.hd
 refine ⟨ao (nn _ (by simp)) h.hS,ao (nn _ (by simp)) h.ho,ao (nn _ (by simp)) h.ht,ao (nn _ (by simp)) h.hm,⟨ds,ao (nn _ (by simp)) hd,Paired.nT dd fun e v ⟨a,ea,ha⟩=>⟨a,ea,?_⟩⟩,h.nd,h.hF.imp fun _ z=>ao (nn _ (by simp)) z,h.mo,h.nm⟩
 obtain ⟨h1,h2⟩:=cF ha
 exact aF h1 (ao (fun e=>by rw [e,hR] at h2;cases h2) h2)
theorem BAt.idle {H:Hp}{s:Sa}{g:Sg}{ps:List Nat}{dd:List (Nat × Nat)} (B:BAt N H s g ps dd [] []) (ps':List Nat):BAt N H s g ps' dd [] []:=⟨B.a,B.op,B.tl,B.tb,B.de,trivial,by rw [cb];trivial,B.zl,B.dc⟩
theorem BAt.with {H H':Hp}{s:Sa}{g:Sg}{ps:List Nat}{dd:List (Nat × Nat)} (B:BAt N H s g ps dd [] []) (a:SAt N H' s g):BAt N H' s g ps dd [] []:=⟨a,B.op,B.tl,B.tb,B.de,B.oz,B.oc,B.zl,B.dc⟩
theorem aY.fresh {M:List Addr}{H:Hp}{R:Addr} (hR:H R=none) {o:HO}{fs:List Fr}{vs:List V} (h:aY N (del M H) fs vs):aY N (del (R :: M) (upd H R o)) fs vs:=aY.same (fun a x e=>by
 obtain ⟨h1,h2⟩:=cF e
 have n:a ≠ R:=fun z=>by rw [z,hR] at h2;cases h2
 exact aF (fun m=>by
  rcases List.mem_cons.mp m with z | z
  ·exact n z
  ·exact h1 z) (ao n h2)) h
theorem yA {k:Nat} (h:k < 3):k=0 \/ k=1 \/ k=2:=by omega
theorem zj {xs:List V}{a n:Nat} (h:a + n <= xs.length):lI xs (some (a:Int)) (some ((a:Int) + (n:Int)))=(xs.drop a).take n:=by
 unfold lI
 rw [lX _ (by omega),show ((a:Int) + (n:Int))=((a + n:Nat):Int) by push_cast;rfl,lX _ h]
 congr 1
 omega
theorem Av {a n:Nat} (h:a + n <= 24):((sS (nI N)).drop a).take n=nV N ((List.range n).map (a + ·)):=by
 refine List.ext_getElem? fun i=>?_
 by_cases hi:i < n
 ·rw [List.getElem?_take_of_lt hi,List.getElem?_drop,wY (by omega),List.getElem?_map,List.getElem?_map,List.getElem?_range hi]
  rfl
 ·rw [List.getElem?_eq_none (by rw [List.length_take];omega),List.getElem?_eq_none (by rw [List.length_map,List.length_map,List.length_range];omega)]
theorem tU {M:List Addr}{H:Hp} (h:∀x ∈ M,∀xs,H x ≠ some (.tup xs)):∀{fs:List Fr}{vs:List V},aY N H fs vs->(∀f ∈ fs,f.ob N=none)->aY N (del M H) fs vs
 | _,_,.nil,_=>.nil
 | f :: fs,_,.cons g r,e=>by
  obtain ⟨a,p,ev,h1,h2⟩:=g
  refine .cons ⟨a,p,ev,aF (fun m=>h a m _ h1) h1,fun o ho=>?_⟩ (tU h r fun f hf=>e f (List.mem_cons_of_mem _ hf))
  rw [e f List.mem_cons_self] at ho
  cases ho
inductive uu (K:W.Frag) (vs:List V) (H:Hp) (Q:VK) (E9:XK):Prop
 | mk (N:Nat->Str) (a nl:Addr) (ns:List Int) (z0:vs=[.ref a,.ref nl]) (z1:SqL K H a (ns.map V.int)) (z2:H nl=some (.lst (sS (nI N)))) (z3:j2 N)
  (z4:∀(R:Addr) (ys:List V) (hs:List Lr) (ds:List De) (mb:List Tr) (H':Hp),ah H H'->H R=none->H' R=some (.lst ys)->aY N H' (flA hs ds mb) ys->j7 hs ds mb->Q (.ref R) H'):uu K vs H Q E9
theorem AD (T:Txt K mg A):T.nh.Hz P w base 7 (uu K):=by
 have D_law_mix:=lA (P:=P) (w:=w) (base:=base) T
 refine T.nh.hs (k:=6) a9 (fun f cdv A' outer s' H vs Q E hr hu h=>?_)
 obtain ⟨N,a,nl,ns,rfl,hA,hN,nm,q⟩:=h
 refine ⟨_,(ab (pst 2 a9.nd (aq (hj:=by omega) (qd T) hr (aa (fv 0) (aa af ae))))
  (ab (pst 3 a9.nd (uD (cZ aj (aL ae) (cZ aj (aL (aa af ae)) (cZ aj (aL (aa (px hu (fv 1) af) (aa (px hu (fv 1) af) ae))) (cZ aj (aL ae) (cZ aj af (tN)))))) rfl rfl (by intro z;cases z) (by decide)))
  (ab (pst 4 a9.nd (aq (hj:=by omega) (xG T) hr (aa (fv 1) (aa (fv 2) ae))))
  (ab (pst 5 a9.nd af)
  (ab (cD PassesOwn.never rfl (bK rfl T.bY (aa af ae)) (pgn (i:=6) a9.nd rfl)
   (ab (pst 7 a9.nd (px hu (aL (aa af (aa af (aa af ae)))) (fv 6)))
   (ab (pst 8 a9.nd (px hu (fv 1) (px hu (aL (aa af (aa af (aa af ae)))) (fv 6))))
   (ab (pst 9 a9.nd (nv sL (fv 1) (l7 (fv 7)) (l7 (au aN (fv 7) (au bw (aq (hj:=by omega) D_law_mix hr (aa (fv 2) (aa (au aN af (fv 6)) ae))) (px hu (aL (aa af (aa af (aa af ae)))) (fv 6)))))))
   (ab (aD (aP (fv 4) (aa (aO (aa aj (aa (fv 8) (aa (fv 9) ae)))) ae)))
   (ab (pst 10 a9.nd (au bw (aq (hj:=by omega) D_law_mix hr (aa (fv 2) (aa (au aN af (fv 6)) ae))) af))
   (ab (pst 4 a9.nd (au aN (fv 4) (aq (hj:=by omega) (uV T) hr (aa (fv 3) (aa (aq (hj:=by omega) (ur T) hr (aa (fv 0) (aa (fv 5) (aa (fv 10) ae)))) (aa (aq (hj:=by omega) (uh T) hr (aa (fv 1) (aa (fv 9) ae))) (aa af ae)))))))
   (ab (aD (aP (px hu (fv 3) aj) (aa (aO (aa (fv 8) (aa (pcB dS T.fJ (aa (fv 9) ae)) (aa (au q0 af (px hu (fv 3) aj)) ae)))) ae)))
   (ai (pst 5 a9.nd (au aN (fv 5) (fv 10))))))))))))
  (ab (aD (aP (fv 4) (aa (aO (aa aj ae)) ae)))
  (ab (pst 11 a9.nd (aq (hj:=by omega) (ur T) hr (aa (fv 0) (aa (fv 5) (aa (au aN af (au bw (aq (hj:=by omega) D_law_mix hr (aa (fv 2) (aa af ae))) af)) ae)))))
  (ai (aA (au aN (fv 4) (aq (hj:=by omega) (uV T) hr (aa (fv 3) (aa (fv 11) (aa (aq (hj:=by omega) (uh T) hr (aa (fv 1) (aa (aL ae) ae))) (aa af ae))))))))))))))),?_⟩
 refine ag fun M1 K1=>⟨a,ns,2,rfl,hA,by decide,by decide,fun c H0 s0=>K1 _ _ ?_⟩
 clear K1 M1
 try dsimp only
 refine ag fun M1 K1 S hS=>?_
 obtain ⟨s1,e1⟩:=alc hS (HO.dK [])
 generalize upd H0 S _=H1 at s1 e1 ⊢
 refine ⟨Nat.zero_le _,fun o ho=>?_⟩
 obtain ⟨s2,e2⟩:=alc ho (HO.lst [])
 generalize upd H1 o _=H2 at s2 e2 ⊢
 refine ⟨by show 1 <= sizeLine;decide,fun t ht=>?_⟩
 obtain ⟨s3,e3⟩:=alc ht (HO.lst [.int 1])
 generalize upd H2 t _=H3 at s3 e3 ⊢
 have t3:=(s0.trans s1).trans (s2.trans s3)
 refine nmx (j:=5) (SqL.of (t3 _ _ hN)) (nmx (j:=6) (SqL.of (t3 _ _ hN)) ⟨by show 2 <= sizeLine;decide,fun m hm=>?_⟩)
 obtain ⟨s4,e4⟩:=alc hm (HO.lst [.str (N 5),.str (N 6)])
 generalize upd H3 m _=H4 at s4 e4 ⊢
 refine ⟨Nat.zero_le _,fun d hd=>?_⟩
 obtain ⟨s5,e5⟩:=alc hd (HO.lst [])
 generalize upd H4 d _=H5 at s5 e5 ⊢
 have s15:=(s2.trans s3).trans (s4.trans s5)
 have h05:=(s0.trans s1).trans s15
 let s:Sa:=⟨S,o,t,m,d,nl⟩
 refine ⟨s15 _ _ e1,stK s 0,rfl,by show 5 <= 15;decide,K1 _ _ ?_⟩
 clear K1 M1
 have HS:H S=none:=ah.free s0 hS
 have s6:ah H (upd H5 S (.dK (aX [] (stK s 0)))):=ah.out h05 HS _
 have eS:upd H5 S (.dK (aX [] (stK s 0))) S=some (.dK (stK s 0)):=ak
 have no:o ≠ S:=fun z=>by rw [z,e1] at ho;cases ho
 have nt:t ≠ S:=fun z=>by rw [z,s2 _ _ e1] at ht;cases ht
 have nmm:m ≠ S:=fun z=>by rw [z,(s2.trans s3) _ _ e1] at hm;cases hm
 have nd:d ≠ S:=fun z=>by rw [z,((s2.trans s3).trans s4) _ _ e1] at hd;cases hd
 have to':t ≠ o:=fun z=>by rw [z,e2] at ht;cases ht
 have mo':m ≠ o:=fun z=>by rw [z,s3 _ _ e2] at hm;cases hm
 have do':d ≠ o:=fun z=>by rw [z,(s3.trans s4) _ _ e2] at hd;cases hd
 have mt':m ≠ t:=fun z=>by rw [z,e3] at hm;cases hm
 have dt':d ≠ t:=fun z=>by rw [z,s4 _ _ e3] at hd;cases hd
 have dm':d ≠ m:=fun z=>by rw [z,e4] at hd;cases hd
 have lS:nl ≠ S:=fun z=>by rw [z,HS] at hN;cases hN
 have lo:nl ≠ o:=fun z=>by rw [z,ah.free (s0.trans s1) ho] at hN;cases hN
 have lt:nl ≠ t:=fun z=>by rw [z,ah.free ((s0.trans s1).trans s2) ht] at hN;cases hN
 have lm:nl ≠ m:=fun z=>by rw [z,ah.free t3 hm] at hN;cases hN
 have ld:nl ≠ d:=fun z=>by rw [z,ah.free (t3.trans s4) hd] at hN;cases hN
 have qH:∀x ∈ s.Q,H x=none:=fun x hx=>by
  simp only [Sa.Q,s,List.mem_cons,List.not_mem_nil,or_false] at hx
  rcases hx with rfl | rfl | rfl | rfl | rfl
  ·exact HS
  ·exact ah.free (s0.trans s1) ho
  ·exact ah.free ((s0.trans s1).trans s2) ht
  ·exact ah.free t3 hm
  ·exact ah.free (t3.trans s4) hd
 have B6:BAt N (upd H5 S (.dK (aX [] (stK s 0)))) s ⟨[],[1],[5,6],[],0⟩ [] [] [] []:=by
  refine ⟨⟨eS,ao no ((s3.trans (s4.trans s5)) _ _ e2),ao nt ((s4.trans s5) _ _ e3),ao nmm (s5 _ _ e4),⟨[],ao nd e5,.nil⟩,?_,⟨_,ao lS (h05 _ _ hN)⟩,(fun x hx=>by simpa using hx),nm⟩,rfl,rfl,(fun x hx=>by rw [List.mem_singleton.mp hx];exact ⟨by decide,by decide⟩),rfl,trivial,by rw [cb];trivial,Nat.zero_le _,by rw [cy];exact Nat.zero_le _⟩
  simp only [s,Sa.M,List.nodup_cons,List.mem_cons,List.not_mem_nil,or_false,not_or,List.nodup_nil,and_true,not_false_eq_true]
  exact ⟨⟨Ne.symm no,Ne.symm nt,Ne.symm nmm,Ne.symm nd,Ne.symm lS⟩,⟨Ne.symm to',Ne.symm mo',Ne.symm do',Ne.symm lo⟩,⟨Ne.symm mt',Ne.symm dt',Ne.symm lt⟩,⟨Ne.symm dm',Ne.symm lm⟩,Ne.symm ld⟩
 generalize upd H5 S _=H6 at B6 s6 eS ⊢
 have esS:s.S=S:=rfl
 have esF:s.F=nl:=rfl
 have esd:s.d=d:=rfl
 clear_value s
 subst esS esF
 clear e1 e2 e3 e4 e5 s1 s2 s3 s4 s5 t3 s15 h05 no nt nmm nd to' mo' do' mt' dt' dm' lS lo lt lm ld hS ho ht hm hd HS
 try dsimp only
 refine ag fun M1 K1=>⟨N,s.F,c,rfl,s6 _ _ hN,fun R rk z tt ys H7 s7 hR7 eR7 fr7 hrk z1 z4 t11=>K1 _ _ ?_⟩
 clear K1 M1
 have B7:=B6.same s7
 have t7:=s6.trans s7
 have R0:H R=none:=ah.free s6 hR7
 have RM:R ∉ s.M:=B6.a.new hR7
 have fr7':aY N (del (R :: s.Q) H7) ((nN tt (lT rk z)).map Fr.leaf) ys:=by
  refine tU (fun x hx xs e=>?_) fr7 (fun f hf=>?_)
  ·obtain ⟨ds,hd,_⟩:=B7.a.hd
   simp only [Sa.Q,List.mem_cons,List.not_mem_nil,or_false] at hx
   rcases hx with rfl | rfl | rfl | rfl | rfl | rfl
   ·rw [eR7] at e;cases e
   ·rw [B7.a.hS] at e;cases e
   ·rw [B7.a.ho] at e;cases e
   ·rw [B7.a.ht] at e;cases e
   ·rw [B7.a.hm] at e;cases e
   ·rw [hd] at e;cases e
  ·obtain ⟨r,hr,rfl⟩:=List.mem_map.mp hf
   have hr:r ∈ lT rk z:=by
    unfold nN at hr
    rcases List.mem_append.mp hr with h | h
    ·exact List.mem_of_mem_drop h
    ·exact List.mem_of_mem_take h
   unfold lT at hr
   simp only [List.mem_cons,List.not_mem_nil,or_false] at hr
   rcases hr with rfl | rfl | rfl | rfl | rfl | rfl | rfl | rfl | rfl | rfl | rfl <;> rfl
 have ly7:ys.length=11:=by
  have:=Paired.length fr7
  rw [List.length_map] at this
  unfold nN at this
  rw [List.length_append,List.length_drop,List.length_take,show (lT rk z).length=11 from rfl] at this
  omega
 obtain ⟨hs,ehs⟩:∃hs,hs=nN tt (lT rk z):=⟨_,rfl⟩
 rw [<- ehs] at fr7'
 try dsimp only
 refine ag fun M1 K1=>K1 _ _ ?_
 clear K1 M1
 try dsimp only
 refine ag fun M1 K1=>⟨_,rfl,by decide,by decide,cL (fun i σ Hc=>∃(R:Addr) (v6 v7 v8 v9 v10:Option V) (des:List De) (g:Sg) (ys:List V) (av:Int),σ=[some (.ref a),some (.ref s.F),some (.int c),some (.ref s.S),some (.ref R),some (.int av),v6,v7,v8,v9,v10,none]/\ah H Hc/\H R=none/\R ∉ s.M/\Hc R=some (.lst ys)/\aY N (del (R :: s.Q) Hc) (hs.map Fr.leaf ++ aW des) ys/\des.length=i/\BM des/\BAt N Hc s g [] (lP des) [] []/\(∀e ∈ g.dd,e.1 < 24/\e.2.1 <= 4)/\8 <= av/\av <= 8 + 5 * (i:Int)/\ys.length <= 11 + 19 * i) ⟨R,none,none,none,none,none,[],_,ys,8,rfl,t7,R0,RM,eR7,by rw [show aW []=[] from rfl,List.append_nil];exact fr7',rfl,⟨fun k d h=>by simp at h⟩,B7,(fun e he=>by cases he),by decide,by decide,by omega⟩ ?_ ?_⟩
 ·clear fr7 fr7' ly7 eR7 R0 RM hR7 B7 t7 s7
  rintro i σ Hc hi ⟨R,v6,v7,v8,v9,v10,des,g,ys,av,rfl,tc,R0,RM,eR,fr,dl,dk,B,hdd,a8,aM,yl⟩
  have hi3:i < 3:=hi
  have ei:(0:Int) + (i:Int)=(i:Int):=by omega
  rw [ei]
  have RQ:R ∉ s.Q:=fun m=>RM (Sa.qm m)
  have st24:stI i + mxI i <= 25/\dnI i < 24/\mxI i <= 5/\0 < mxI i:=by
   rcases yA hi3 with rfl | rfl | rfl <;> decide
  try dsimp only
  refine ag fun N1 J1=>⟨by show 3 <= sizeLine;decide,fun L1 hL1=>?_⟩
  obtain ⟨sa,ea⟩:=alc hL1 (HO.lst [.int 11,.int 15,.int 22])
  generalize upd Hc L1 _=Ha at sa ea ⊢
  refine lxn (j:=i) (v:=.int (stI i)) (SqL.of ea) (by rcases yA hi3 with rfl | rfl | rfl <;> rfl) (J1 _ _ ?_)
  clear J1 N1
  try dsimp only
  refine ag fun N1 J1=>⟨by show 3 <= sizeLine;decide,fun L2 hL2=>?_⟩
  obtain ⟨sb,eb⟩:=alc hL2 (HO.lst [.int 9,.int 10,.int 21])
  generalize upd Ha L2 _=Hb at sb eb ⊢
  have tb:=tc.trans (sa.trans sb)
  refine lxn (j:=i) (v:=.int (dnI i)) (SqL.of eb) (by rcases yA hi3 with rfl | rfl | rfl <;> rfl) (nmx (j:=dnI i) (SqL.of (tb _ _ hN)) (J1 _ _ ?_) st24.2.1)
  clear J1 N1
  try dsimp only
  refine ag fun N1 J1=>⟨_,rfl,c,_,rfl,by omega,by omega,fun m1 m10 m11=>⟨by show 3 <= sizeLine;decide,fun L3 hL3=>?_⟩⟩
  obtain ⟨sd,ed⟩:=alc hL3 (HO.lst [.int 5,.int 5,.int 3])
  generalize upd Hb L3 _=Hd at sd ed ⊢
  refine lxn (j:=i) (v:=.int (mxI i)) (SqL.of ed) (by rcases yA hi3 with rfl | rfl | rfl <;> rfl) ⟨by show (0:Int) < (mxI i:Int);omega,?_⟩
  obtain ⟨n,en⟩:∃n:Nat,m1 % (mxI i:Int)=(n:Int):=⟨(m1 % (mxI i:Int)).toNat,by have:=bx m1 (show (0:Int) < (mxI i:Int) by omega);omega⟩
  have nlt:n < mxI i:=by have:=bx m1 (show (0:Int) < (mxI i:Int) by omega);omega
  dsimp only
  rw [en]
  have td:=tb.trans sd
  refine ⟨_,rfl,Or.inl ⟨s.F,_,rfl,SqL.of (td _ _ hN),fun pp hpp=>?_⟩⟩
  rw [zj (by rw [List.length_map];show stI i + n <= (nI N).length;rw [show (nI N).length=24 by simp [nI]];omega),Av (by omega)]
  obtain ⟨se,ee⟩:=alc hpp (HO.lst (nV N ((List.range n).map (stI i + ·))))
  generalize upd Hd pp _=He at se ee ⊢
  have ee:He pp=some (.lst (nV N (psI i n))):=ee
  have ppM:pp ∉ s.M:=(B.same ((sa.trans sb).trans sd)).a.new hpp
  have pl:(psI i n).length=n:=by unfold psI;rw [List.length_map,List.length_range]
  generalize hps:psI i n=ps at ee pl
  refine J1 _ _ ?_
  clear J1 N1
  have sce:=((sa.trans sb).trans sd).trans se
  have te:=tc.trans sce
  try dsimp only
  refine ag fun N1 J1=>?_
  have eRe:=sce _ _ eR
  refine ⟨Or.inl ⟨rfl,_,SqL.of eRe⟩,by show 3 <= sizeLine;decide,fun tdd htd=>?_⟩
  obtain ⟨sf,ef⟩:=alc htd (HO.tup [V.str "deed",.str (N (dnI i)),.ref pp])
  generalize upd He tdd _=Hf at sf ef ⊢
  have scf:=sce.trans sf
  refine ⟨_,_,_,rfl,rfl,sf _ _ eRe,aG (by omega),?_⟩
  have Bf:=B.same scf
  have Ag:=Bf.a.put RM (ys:=ys ++ [V.ref tdd]) (scf _ _ eR)
  have sg:ah H (upd Hf R (.lst (ys ++ [V.ref tdd]))):=ah.out (tc.trans scf) R0 _
  have eRg:upd Hf R (.lst (ys ++ [V.ref tdd])) R=some (.lst (ys ++ [V.ref tdd])):=ak
  have mg:Sm (R :: s.Q) Hf (upd Hf R (.lst (ys ++ [V.ref tdd]))):=Sm.at List.mem_cons_self _
  have fg:aY N (del (R :: s.Q) (upd Hf R (.lst (ys ++ [V.ref tdd])))) (hs.map Fr.leaf ++ aW des ++ [.ba (dnI i) ps]) (ys ++ [V.ref tdd]):=by
   refine Paired.two (aY.same (Sm.del ((Sm.new scf).trans mg)) fr) (.cons ?_ .nil)
   have n1:tdd ∉ R :: s.Q:=fun m=>by
    rcases List.mem_cons.mp m with z | z
    ·rw [z,eRe] at htd;cases htd
    ·exact (B.same sce).a.new htd (Sa.qm z)
   have n2:pp ∉ R :: s.Q:=fun m=>by
    rcases List.mem_cons.mp m with z | z
    ·rw [z,((sa.trans sb).trans sd) _ _ eR] at hpp;cases hpp
    ·exact (B.same ((sa.trans sb).trans sd)).a.new hpp (Sa.qm z)
   refine fr1 (p:=pp) (aF n1 (mg _ _ n1 ef)) rfl (aF n2 (mg _ _ n2 (sf _ _ ee)))
  have epg:upd Hf R (.lst (ys ++ [V.ref tdd])) pp=some (.lst (nV N ps)):=ao (fun z=>by rw [z,((sa.trans sb).trans sd) _ _ eR] at hpp;cases hpp) (sf _ _ ee)
  have Bg:BAt N (upd Hf R (.lst (ys ++ [V.ref tdd]))) s g [] (lP des) [] []:=B.with Ag
  generalize upd Hf R (.lst (ys ++ [V.ref tdd]))=Hg at sg eRg fg epg Bg ⊢
  clear Ag mg Bf
  refine J1 _ _ ?_
  clear J1 N1
  try dsimp only
  refine ag fun N1 J1=>⟨c,_,rfl,by omega,by omega,fun m2 m20 m21=>⟨by show (0:Int) < 6;decide,?_⟩⟩
  obtain ⟨k6,ek6⟩:∃n:Nat,m2 % 6=(n:Int):=⟨(m2 % 6).toNat,by have:=bx m2 (show (0:Int) < 6 by decide);omega⟩
  have k6l:k6 <= 5:=by have:=bx m2 (show (0:Int) < 6 by decide);omega
  dsimp only
  rw [ek6]
  refine J1 _ _ ?_
  clear J1 N1
  try dsimp only
  refine ag fun N1 J1=>⟨a,ns,av,k6,rfl,sg.seq hA,by omega,by omega,fun CL cs Hh sh fh eh lh=>⟨N,s.F,pp,ps,rfl,(sg.trans sh) _ _ hN,sh _ _ epg,by omega,fun sc Hi si fi eSc=>?_⟩⟩
  have sgi:=sh.trans si
  have Bi:=(Bg.same sgi).idle ps
  have ki:∀{x:Addr}{o:HO},Hg x=none->Hi x=some o->del s.M Hi x=some o:=fun {x o} h e=>aF (Bg.a.new h) e
  have scd:lG N (del s.M Hi) sc ps:=eSc s.M fun x hx=>(Bg.same sh).a.in hx
  refine ⟨N,s,g,ps,lP des,CL,sc,cs,200,rfl,Bi,ki fh (si _ _ eh),by omega,scd,hdd,fun R2 zs ts g2 Hj sj hR2 eR2 fr2 ok2 dp2 ln2 B2 gd2=>?_⟩
  have tj:ah H Hj:=Sm.same sj (sg.trans sgi) qH
  have eRj:Hj R=some (.lst (ys ++ [V.ref tdd])):=sj _ _ RQ (sgi _ _ eRg)
  have lz:=Paired.length fr2
  rw [List.length_append,List.length_singleton] at lz
  refine ⟨R,R2,_,_,rfl,rfl,eRj,eR2,sz (by rw [List.length_append,List.length_singleton];omega),fun R3 hR3=>?_⟩
  have sk:=ah.upd hR3 (.lst (ys ++ [V.ref tdd] ++ zs))
  have tk:=tj.trans sk
  have fj:aY N (del s.Q Hj) (hs.map Fr.leaf ++ aW des ++ [.ba (dnI i) ps] ++ (aw ts ++ [.fin])) (ys ++ [V.ref tdd] ++ zs):=by
   refine Paired.two (aY.same (fun x o h=>?_) fg) fr2
   obtain ⟨h1,h2⟩:=cF h
   have h1':x ∉ s.Q:=fun m=>h1 (List.mem_cons_of_mem _ m)
   exact aF h1' (sj _ _ h1' (sgi _ _ h2))
  have fk:=aY.fresh hR3 (o:=.lst (ys ++ [V.ref tdd] ++ zs)) fj
  have eRk:upd Hj R3 (.lst (ys ++ [V.ref tdd] ++ zs)) R3=some (.lst (ys ++ [V.ref tdd] ++ zs)):=ak
  have R3M:R3 ∉ s.M:=B2.a.new hR3
  have R30:H R3=none:=ah.free tj hR3
  have Bk:=B2.same sk
  generalize upd Hj R3 (.lst (ys ++ [V.ref tdd] ++ zs))=Hk at sk tk fk eRk Bk ⊢
  have epk:=sk _ _ (sj _ _ (fun m=>ppM (Sa.qm m)) (sgi _ _ epg))
  refine J1 _ _ ?_
  clear J1 N1
  try dsimp only
  refine ag fun N1 J1=>?_
  obtain ⟨dvs,hdk,ddk⟩:=Bk.a.hd
  refine dgk Bk.a.hS rfl ⟨Or.inl ⟨rfl,_,SqL.of hdk⟩,lnl epk (dgk Bk.a.hS rfl ⟨by show 3 <= sizeLine;decide,fun te hte=>?_⟩)⟩
  have lpv:(nV N ps).length=n:=by rw [List.length_map,pl]
  rw [lpv]
  obtain ⟨sl,el⟩:=alc hte (HO.tup [V.str (N (dnI i)),.int (n:Int),.int (201 - g2.room)])
  generalize upd Hk te _=Hl at sl el ⊢
  have dlen:=Paired.length ddk
  have Bl:=Bk.same sl
  have gl:g2.dd.length=des.length:=by
   have:=congrArg List.length B2.de
   unfold lP at this
   rw [List.length_map,List.length_map] at this
   exact this
  refine ⟨_,_,_,rfl,rfl,sl _ _ hdk,aG (by omega),?_⟩
  have teM:te ∉ s.M:=Bk.a.new hte
  have Am:=Bl.a.Ce (ds:=dvs ++ [V.ref te]) (g2.dd ++ [(dnI i,n,201 - g2.room)]) (Paired.two (qq.same (Sm.del (Sm.new sl)) ddk) (.cons ⟨te,rfl,aF teM el⟩ .nil))
  have sdQ:s.d ∈ s.Q:=by simp
  have mm:Sm (R3 :: s.Q) Hl (upd Hl s.d (.lst (dvs ++ [V.ref te]))):=Sm.at (List.mem_cons_of_mem _ sdQ) _
  have tm:ah H (upd Hl s.d (.lst (dvs ++ [V.ref te]))):=ah.out (tk.trans sl) (qH _ sdQ) _
  have dnew:lP (des ++ [(dnI i,ps,ts)])=lP des ++ [(dnI i,n)]:=by
   unfold lP
   rw [List.map_append]
   simp [pl]
  refine J1 _ _ ?_
  clear J1 N1
  refine ⟨R3,_,_,_,_,_,des ++ [(dnI i,ps,ts)],{ g2 with dd:=g2.dd ++ [(dnI i,n,201 - g2.room)] },ys ++ [V.ref tdd] ++ zs,av + k6,rfl,tm,R30,R3M,ao (fun z=>R3M (z ▸ Sa.qm sdQ)) (sl _ _ eRk),?_,by rw [List.length_append,dl];rfl,⟨fun k d hd=>?_⟩,⟨Am,B2.op,B2.tl,B2.tb,?_,trivial,by rw [cb];trivial,Nat.zero_le _,by rw [cy];exact Nat.zero_le _⟩,fun e he=>?_,by omega,by push_cast;omega,?_⟩
  ·rw [show hs.map Fr.leaf ++ aW (des ++ [(dnI i,ps,ts)])=hs.map Fr.leaf ++ aW des ++ [.ba (dnI i) ps] ++ (aw ts ++ [.fin]) by unfold aW;rw [List.flatMap_append];simp [flD]]
   exact aY.same (Sm.del ((Sm.new sl).trans mm)) fk
  ·by_cases hk:k < des.length
   ·rw [List.getElem?_append_left hk] at hd
    have:=dk.at' k d hd
    rw [List.take_append_of_le_length (by omega)]
    exact this
   ·have ek:k=des.length:=by
     have:=(List.getElem?_eq_some_iff.mp hd).1
     rw [List.length_append,List.length_singleton] at this
     omega
    subst ek
    rw [List.getElem?_append_right (Nat.le_refl _),Nat.sub_self] at hd
    cases hd
    rw [List.take_left',dl]
    ·exact ⟨rfl,⟨n,nlt,hps.symm⟩,ok2,dp2,by show (aw ts).length <= 17;omega⟩
    ·rfl
  ·show List.map _ (g2.dd ++ [(dnI i,n,201 - g2.room)])=_
   rw [dnew,List.map_append,B2.de]
   rfl
  ·rcases List.mem_append.mp he with m | m
   ·exact hdd e (gd2 ▸ m)
   ·rw [List.mem_singleton.mp m]
    exact ⟨st24.2.1,by show n <= 4;omega⟩
  ·rw [List.length_append,List.length_append,List.length_singleton]
   omega
 rintro σ Hc ⟨R,v6,v7,v8,v9,v10,des,g,ys,av,rfl,tc,R0,RM,eR,fr,dl,dk,B,hdd,a8,aM,yl⟩
 have dl:des.length=3:=dl
 have aM:av <= 8 + 5 * 3:=aM
 have yl:ys.length <= 11 + 19 * 3:=yl
 refine K1 _ _ ?_
 clear K1 M1
 have RQ:R ∉ s.Q:=fun m=>RM (Sa.qm m)
 try dsimp only
 refine ag fun M1 K1=>⟨Or.inl ⟨rfl,_,SqL.of eR⟩,by show 1 <= sizeLine;decide,fun tdd htd=>?_⟩
 obtain ⟨sf,ef⟩:=alc htd (HO.tup [V.str "main"])
 generalize upd Hc tdd _=Hf at sf ef ⊢
 refine ⟨_,_,_,rfl,rfl,sf _ _ eR,aG (by omega),?_⟩
 have Ag:=(B.same sf).a.put RM (ys:=ys ++ [V.ref tdd]) (sf _ _ eR)
 have sg:ah H (upd Hf R (.lst (ys ++ [V.ref tdd]))):=ah.out (tc.trans sf) R0 _
 have eRg:upd Hf R (.lst (ys ++ [V.ref tdd])) R=some (.lst (ys ++ [V.ref tdd])):=ak
 have mg:Sm (R :: s.Q) Hf (upd Hf R (.lst (ys ++ [V.ref tdd]))):=Sm.at List.mem_cons_self _
 have fg:aY N (del (R :: s.Q) (upd Hf R (.lst (ys ++ [V.ref tdd])))) (hs.map Fr.leaf ++ aW des ++ [.main]) (ys ++ [V.ref tdd]):=by
  refine Paired.two (aY.same (Sm.del ((Sm.new sf).trans mg)) fr) (.cons ?_ .nil)
  have n1:tdd ∉ R :: s.Q:=fun m=>by
   rcases List.mem_cons.mp m with z | z
   ·rw [z,eR] at htd;cases htd
   ·exact B.a.new htd (Sa.qm z)
  exact fr0 (aF n1 (mg _ _ n1 ef)) rfl
 have Bg:BAt N (upd Hf R (.lst (ys ++ [V.ref tdd]))) s g [] (lP des) [] []:=B.with Ag
 generalize upd Hf R (.lst (ys ++ [V.ref tdd]))=Hg at sg eRg fg Bg ⊢
 clear Ag mg
 refine K1 _ _ ?_
 clear K1 M1
 try dsimp only
 refine ag fun M1 K1=>⟨c,19,rfl,by decide,by decide,fun m2 m20 m21=>⟨by show (0:Int) < 33;decide,?_⟩⟩
 obtain ⟨k6,ek6⟩:∃n:Nat,4 + m2 % 33=(n:Int):=⟨(4 + m2 % 33).toNat,by have:=bx m2 (show (0:Int) < 33 by decide);omega⟩
 have k6l:k6 <= 36:=by have:=bx m2 (show (0:Int) < 33 by decide);omega
 refine ⟨a,ns,av,k6,by rw [<- ek6];rfl,sg.seq hA,by omega,by omega,fun CL cs Hh sh fh eh lh=>K1 _ _ ?_⟩
 clear K1 M1
 try dsimp only
 refine ⟨Nat.zero_le _,fun pp hpp=>?_⟩
 obtain ⟨sp,ep⟩:=alc hpp (HO.lst [])
 generalize upd Hh pp _=Hp' at sp ep ⊢
 refine ⟨N,s.F,pp,[],rfl,(sg.trans (sh.trans sp)) _ _ hN,ep,by decide,fun sc Hi si fi eSc=>?_⟩
 have sgi:=(sh.trans sp).trans si
 have Bi:=Bg.same sgi
 refine ⟨N,s,g,[],lP des,CL,sc,cs,800,rfl,Bi,aF (Bg.a.new fh) ((sp.trans si) _ _ eh),by omega,eSc s.M fun x hx=>(Bg.same (sh.trans sp)).a.in hx,hdd,fun R2 zs ts g2 Hj sj hR2 eR2 fr2 ok2 dp2 ln2 B2 gd2=>?_⟩
 have tj:ah H Hj:=Sm.same sj (sg.trans sgi) qH
 have eRj:Hj R=some (.lst (ys ++ [V.ref tdd])):=sj _ _ RQ (sgi _ _ eRg)
 have lz:=Paired.length fr2
 rw [List.length_append,List.length_singleton] at lz
 refine ⟨R,R2,_,_,rfl,rfl,eRj,eR2,sz (by rw [List.length_append,List.length_singleton];omega),fun R3 hR3=>?_⟩
 have sk:=ah.upd hR3 (.lst (ys ++ [V.ref tdd] ++ zs))
 refine q R3 _ hs des ts _ (tj.trans sk) (ah.free tj hR3) ak ?_ ⟨⟨rk,z,tt,ehs,hrk,z1,z4,t11⟩,dl,dk,ok2,dp2,by omega⟩
 unfold flA
 rw [show hs.map Fr.leaf ++ aW des ++ .main :: (aw ts ++ [.fin])=hs.map Fr.leaf ++ aW des ++ [.main] ++ (aw ts ++ [.fin]) by simp]
 refine Paired.two (aY.same (fun x o h=>?_) fg) (aY.same (fun x o h=>sk _ _ (cF h).2) fr2)
 obtain ⟨h1,h2⟩:=cF h
 exact sk _ _ (sj _ _ (fun m=>h1 (List.mem_cons_of_mem _ m)) (sgi _ _ h2))
end
section
variable {P:Program}{w:World}{K:W.Frag}{mg:Str->Option Value}{base:Heap}{A:Adr}{N:Nat->Str}
seal PE PA PS PSs PT PW
def rsH (X H H':Hp):Hp:=fun b=>if ((X b).isSome || (H b).isNone)=true then H' b else none
theorem nu {X H H':Hp}{b:Addr}{o:HO} (h:rsH X H H' b=some o):((X b).isSome || (H b).isNone)=true/\H' b=some o:=by
 unfold rsH at h
 split at h
 ·next c=>exact ⟨c,h⟩
 ·cases h
theorem rE {X H H':Hp}{b:Addr}{o:HO} (c:((X b).isSome || (H b).isNone)=true) (h:H' b=some o):rsH X H H' b=some o:=by
 unfold rsH
 rw [if_pos c]
 exact h
theorem qh {X H H':Hp}:ah (rsH X H H') H':=fun b o h=>(nu h).2
theorem cX {X H H' H'':Hp} (s:ah H' H''):ah (rsH X H H') (rsH X H H''):=fun b o h=>rE (nu h).1 (s _ _ (nu h).2)
theorem kh {X H H1 H':Hp} (d:∀b,H1 b=none->H b=none):ah (rsH X H1 H') (rsH X H H'):=fun b o h=>by
 obtain ⟨c,e⟩:=nu h
 refine rE ?_ e
 rcases Bool.or_eq_true_iff.mp c with c | c
 ·rw [c];rfl
 ·rw [d b (Option.isNone_iff_eq_none.mp c)];simp
theorem gU {X H H':Hp} (s:ah X H'):ah X (rsH X H H'):=fun b o h=>rE (by rw [h];rfl) (s _ _ h)
theorem bP {X H H':Hp}{b:Addr}{o:HO} (n:H b=none) (h:H' b=some o):rsH X H H' b=some o:=rE (by rw [n];simp) h
theorem jN {X H H':Hp}{D:Addr}{o:HO} (n:X D=none) (e:H D ≠ none):ah (rsH X H H') (rsH X H (upd H' D o)):=fun b u h=>by
 obtain ⟨c,z⟩:=nu h
 refine rE c (ao (fun y=>?_) z)
 rw [y,n] at c
 rcases Bool.or_eq_true_iff.mp c with c | c
 ·cases c
 ·exact e (Option.isNone_iff_eq_none.mp c)
theorem same_none {H H':Hp} (s:ah H H'):∀b,H' b=none->H b=none:=fun b h=>ah.free s h
def wdI (j:Nat):Str:=(["","hand","given","own","let","set","put","send","say","call","last"]:List Str).getD j ""
theorem w9 (r:Lr):r.wd=wdI r.ci:=by cases r <;> rfl
theorem xn (r:Lr):1 <= r.ci/\r.ci <= 10:=by cases r <;> simp [Lr.ci]
theorem zk:∀i:Fin 11,∀j:Fin 11,wdI i.val=wdI j.val->i.val=j.val:=by decide +kernel
theorem jV {r:Lr}{j:Nat} (z:decide (V.str r.wd=V.str (wdI j))=true) (hj:j < 11:=by decide):r.ci=j:=by
 have h:=V.str.inj (of_decide_eq_true z)
 rw [w9] at h
 have:=xn r
 exact zk ⟨r.ci,by omega⟩ ⟨j,hj⟩ h
theorem kf {r:Lr}{j:Nat} (z:¬ decide (V.str r.wd=V.str (wdI j))=true):r.ci ≠ j:=fun e=>z (decide_eq_true (by rw [w9,e]))
inductive qO (A:Adr) (vs:List V) (H:Hp) (Q:VK) (E9:XK):Prop
 | mk (N:Nat->Str) (X:Hp) (v:V) (n:Int) (r:Lr) (z0:vs=[v,.int n]) (z1:ah X H) (z2:jm N X v (.leaf r))
  (z3:∀(a:Addr) (H':Hp),ah H H'->H a=none->bt A N (rsH X H H') (.ref a) (.leaf n r)->Q (.ref a) H'):qO A vs H Q E9
theorem sJ {H:Hp}{x dx:Addr}{R:VK}{v0:V} (T:Txt K mg A) (hx:H x=none) (hd:H dx=none) (q:∀(H':Hp),ah H H'->H' x=some (.ins A.bX dx [("number",v0)])->R .non H'):c0 K A (.ref x :: ([v0] ++ [])) (upd (upd H dx (.own x)) x (.ins A.bX dx [])) R E0 :=
 ⟨x,A.bX,dx,[],_,rfl,ak,T.gC.cl,T.cV,by decide,q _ (ah.out (ah.out (ah.upd hd _) hx _) hx _) ak⟩
theorem tP (T:Txt K mg A):T.gL.Hz P w base 5 (qO A):=by
 have D_LastRow_init:=jw (P:=P) (w:=w) (mg:=mg) (base:=base) (A:=A) T.iX
 refine T.gL.hs (k:=4) lV (fun f cdv A' outer s H vs Q E hr hu h=>?_)
 obtain ⟨N,X,v,n,r,rfl,s0,⟨a,p,rfl,h1,h2⟩,q⟩:=h
 have hT:=SqT.of (K:=K) (s0 _ _ h1)
 refine ⟨_,(ab (aS (ptc (bZ hu) (px hu (fv 0) af) aj)
   (ai (aA (bH T.gE (nc T) hr (aa (fv 1) (aa (px hu (fv 0) af) (aa (px hu (fv 0) af) ae))))))
   aE)
  (ab (aS (ptc (bZ hu) (px hu (fv 0) af) aj)
   (ai (aA (bH T.cm (lW T) hr (aa (fv 1) (aa (px hu (fv 0) af) (aa (px hu (fv 0) af) (aa (px hu (fv 0) af) ae)))))))
   aE)
  (ab (aS (ptc (bZ hu) (px hu (fv 0) af) aj)
   (ai (aA (bH T.eP (nS T) hr (aa (fv 1) (aa (px hu (fv 0) af) (aa (px hu (fv 0) af) ae))))))
   aE)
  (ab (aS (ptc (bZ hu) (px hu (fv 0) af) aj)
   (ai (aA (bH T.eX (nR T) hr (aa (fv 1) (aa (px hu (fv 0) af) (aa (px hu (fv 0) af) ae))))))
   aE)
  (ab (aS (ptc (bZ hu) (px hu (fv 0) af) aj)
   (ai (aA (bH T.iG (nK T) hr (aa (fv 1) (aa (px hu (fv 0) af) (aa (px hu (fv 0) af) ae))))))
   aE)
  (ab (aS (ptc (bZ hu) (px hu (fv 0) af) aj)
   (ai (aA (bH T.i9 (nQ T) hr (aa (fv 1) (aa (px hu (fv 0) af) (aa (px hu (fv 0) af) (aa (px hu (fv 0) af) ae)))))))
   aE)
  (ab (aS (ptc (bZ hu) (px hu (fv 0) af) aj)
   (ai (aA (bH T.dN (mB T) hr (aa (fv 1) (aa (px hu (fv 0) af) (aa (px hu (fv 0) af) ae))))))
   aE)
  (ab (aS (ptc (bZ hu) (px hu (fv 0) af) aj)
   (ai (aA (bH T.gG (nU T) hr (aa (fv 1) (aa (px hu (fv 0) af) (aa (px hu (fv 0) af) (aa (px hu (fv 0) af) ae)))))))
   aE)
  (ab (aS (ptc (bZ hu) (px hu (fv 0) af) aj)
   (ai (aA (bH T.gu (mU T) hr (aa (fv 1) (aa (px hu (fv 0) af) (aa (pcT uM T.cn (aa (px hu (fv 0) af) ae)) ae))))))
   aE)
  (ai (aA (bH T.gC D_LastRow_init hr (aa (fv 1) ae))))))))))))),?_⟩
 refine ag fun M1 K1=>tix (j:=0) hT rfl ⟨rfl,_,rfl,bj (fun z=>?_) (fun z1=>K1 _ _ ?_)⟩
 ·have ec:=jV (j:=1) z
  cases r with
  | hand i r =>
   refine tix (j:=1) hT rfl (tix (j:=2) hT rfl (fun r6 dx6 hr6 hd_ hne_=>⟨_,_,_,_,_,_,rfl,rfl,hr6,hd_,fun H6 s6 hx=>⟨rfl,q r6 H6 s6 hr6 ?_⟩⟩))
   unfold bt
   exact ⟨r6,dx6,p,rfl,bP hr6 hx,fun o ho=>gU (s0.trans s6) _ _ (h2 o ho)⟩
  | _=>cases ec
 clear K1 M1
 refine ag fun M1 K1=>tix (j:=0) hT rfl ⟨rfl,_,rfl,bj (fun z=>?_) (fun z2=>K1 _ _ ?_)⟩
 ·have ec:=jV (j:=2) z
  cases r with
  | giv i r z =>
   refine tix (j:=1) hT rfl (tix (j:=2) hT rfl (tix (j:=3) hT rfl (fun r6 dx6 hr6 hd_ hne_=>⟨_,_,_,_,_,_,_,rfl,rfl,hr6,hd_,fun H6 s6 hx=>⟨rfl,q r6 H6 s6 hr6 ?_⟩⟩)))
   unfold bt
   exact ⟨r6,dx6,p,rfl,bP hr6 hx,fun o ho=>gU (s0.trans s6) _ _ (h2 o ho)⟩
  | _=>cases ec
 clear K1 M1
 refine ag fun M1 K1=>tix (j:=0) hT rfl ⟨rfl,_,rfl,bj (fun z=>?_) (fun z3=>K1 _ _ ?_)⟩
 ·have ec:=jV (j:=3) z
  cases r with
  | own i z =>
   refine tix (j:=1) hT rfl (tix (j:=2) hT rfl (fun r6 dx6 hr6 hd_ hne_=>⟨_,_,_,_,_,_,rfl,rfl,hr6,hd_,fun H6 s6 hx=>⟨rfl,q r6 H6 s6 hr6 ?_⟩⟩))
   unfold bt
   exact ⟨r6,dx6,p,rfl,bP hr6 hx,fun o ho=>gU (s0.trans s6) _ _ (h2 o ho)⟩
  | _=>cases ec
 clear K1 M1
 refine ag fun M1 K1=>tix (j:=0) hT rfl ⟨rfl,_,rfl,bj (fun z=>?_) (fun z4=>K1 _ _ ?_)⟩
 ·have ec:=jV (j:=4) z
  cases r with
  | lt i r =>
   refine tix (j:=1) hT rfl (tix (j:=2) hT rfl (fun r6 dx6 hr6 hd_ hne_=>⟨_,_,_,_,_,_,rfl,rfl,hr6,hd_,fun H6 s6 hx=>⟨rfl,q r6 H6 s6 hr6 ?_⟩⟩))
   unfold bt
   exact ⟨r6,dx6,p,rfl,bP hr6 hx,fun o ho=>gU (s0.trans s6) _ _ (h2 o ho)⟩
  | _=>cases ec
 clear K1 M1
 refine ag fun M1 K1=>tix (j:=0) hT rfl ⟨rfl,_,rfl,bj (fun z=>?_) (fun z5=>K1 _ _ ?_)⟩
 ·have ec:=jV (j:=5) z
  cases r with
  | set x v =>
   refine tix (j:=1) hT rfl (tix (j:=2) hT rfl (fun r6 dx6 hr6 hd_ hne_=>⟨_,_,_,_,_,_,rfl,rfl,hr6,hd_,fun H6 s6 hx=>⟨rfl,q r6 H6 s6 hr6 ?_⟩⟩))
   unfold bt
   exact ⟨r6,dx6,p,rfl,bP hr6 hx,fun o ho=>gU (s0.trans s6) _ _ (h2 o ho)⟩
  | _=>cases ec
 clear K1 M1
 refine ag fun M1 K1=>tix (j:=0) hT rfl ⟨rfl,_,rfl,bj (fun z=>?_) (fun z6=>K1 _ _ ?_)⟩
 ·have ec:=jV (j:=6) z
  cases r with
  | put x t v =>
   refine tix (j:=1) hT rfl (tix (j:=2) hT rfl (tix (j:=3) hT rfl (fun r6 dx6 hr6 hd_ hne_=>⟨_,_,_,_,_,_,_,rfl,rfl,hr6,hd_,fun H6 s6 hx=>⟨rfl,q r6 H6 s6 hr6 ?_⟩⟩)))
   unfold bt
   exact ⟨r6,dx6,p,rfl,bP hr6 hx,fun o ho=>gU (s0.trans s6) _ _ (h2 o ho)⟩
  | _=>cases ec
 clear K1 M1
 refine ag fun M1 K1=>tix (j:=0) hT rfl ⟨rfl,_,rfl,bj (fun z=>?_) (fun z7=>K1 _ _ ?_)⟩
 ·have ec:=jV (j:=7) z
  cases r with
  | snd h v =>
   refine tix (j:=1) hT rfl (tix (j:=2) hT rfl (fun r6 dx6 hr6 hd_ hne_=>⟨_,_,_,_,_,_,rfl,rfl,hr6,hd_,fun H6 s6 hx=>⟨rfl,q r6 H6 s6 hr6 ?_⟩⟩))
   unfold bt
   exact ⟨r6,dx6,p,rfl,bP hr6 hx,fun o ho=>gU (s0.trans s6) _ _ (h2 o ho)⟩
  | _=>cases ec
 clear K1 M1
 refine ag fun M1 K1=>tix (j:=0) hT rfl ⟨rfl,_,rfl,bj (fun z=>?_) (fun z8=>K1 _ _ ?_)⟩
 ·have ec:=jV (j:=8) z
  cases r with
  | say x v m =>
   refine tix (j:=1) hT rfl (tix (j:=2) hT rfl (tix (j:=3) hT rfl (fun r6 dx6 hr6 hd_ hne_=>⟨_,_,_,_,_,_,_,rfl,rfl,hr6,hd_,fun H6 s6 hx=>⟨rfl,q r6 H6 s6 hr6 ?_⟩⟩)))
   unfold bt
   exact ⟨r6,dx6,p,rfl,bP hr6 hx,fun o ho=>gU (s0.trans s6) _ _ (h2 o ho)⟩
  | _=>cases ec
 clear K1 M1
 refine ag fun M1 K1=>tix (j:=0) hT rfl ⟨rfl,_,rfl,bj (fun z=>?_) (fun z9=>K1 _ _ ?_)⟩
 ·have ec:=jV (j:=9) z
  cases r with
  | call i ts =>
   have hp:=h2 _ rfl
   refine tix (j:=1) hT rfl (tix (j:=2) hT rfl (Or.inl ⟨p,_,rfl,Or.inl (SqL.of (s0 _ _ hp)),fun l hl=>?_⟩))
   obtain ⟨s1,e1⟩:=alc hl (HO.lst (ts.map (Th.v N)))
   generalize upd H l _=H1 at s1 e1 ⊢
   refine fun r6 dx6 hr6 hd_ hne_=>⟨_,_,_,_,_,_,_,rfl,rfl,hr6,hd_,SqL.of e1,fun n6 H6 f6 s6 h6 hx=>⟨rfl,q r6 H6 (s1.trans s6) (ah.free s1 hr6) ?_⟩⟩
   unfold bt
   exact ⟨r6,dx6,n6,rfl,bP (ah.free s1 hr6) hx,fun o ho=>by cases ho;exact bP (ah.free s1 f6) h6⟩
  | _=>cases ec
 clear K1 M1
 have c:=xn r
 have e10:r.ci=10:=by
  have:=kf (j:=1) z1
  have:=kf (j:=2) z2
  have:=kf (j:=3) z3
  have:=kf (j:=4) z4
  have:=kf (j:=5) z5
  have:=kf (j:=6) z6
  have:=kf (j:=7) z7
  have:=kf (j:=8) z8
  have:=kf (j:=9) z9
  omega
 cases r with
 | last =>
  refine fun r6 dx6 hr6 hd_ hne_=>sJ T hr6 hd_ fun H6 s6 hx=>⟨rfl,q r6 H6 s6 hr6 ?_⟩
  unfold bt
  exact ⟨r6,dx6,p,rfl,bP hr6 hx,fun o ho=>by cases ho⟩
 | _=>cases e10
end
section
variable {P:Program}{w:World}{K:W.Frag}{mg:Str->Option Value}{base:Heap}{A:Adr}{N:Nat->Str}
seal PE PA PS PSs PT PW
mutual
def ptT (n:Int):Tr->Pt
 | .leaf r=>.leaf n r
 | .iff v l r f o=>.iff n v l r (bB (n + 1) f) (bB (n + 2 + ((aw f).length:Nat)) o)
 | .loop t m l r b=>.loop n t m l r (bB (n + 1) b)
def bB (n:Int):List Tr->List Pt
 | []=>[]
 | t :: ts=>ptT n t :: bB (n + ((flT t).length:Nat)) ts
end
theorem qC:∀(a:List Tr) (n:Int) (b:List Tr),bB n (a ++ b)=bB n a ++ bB (n + ((aw a).length:Nat)) b
 | [],n,b=>by
  rw [List.nil_append,bB,aw,List.nil_append]
  congr 1
  simp
 | t :: a,n,b=>by
  rw [List.cons_append,bB,bB,qC a,aw,List.length_append,List.cons_append]
  congr 3
  push_cast
  omega
theorem xt (n:Int) (t:Tr):bB n [t]=[ptT n t]:=by rw [bB,bB]
theorem qx:∀(a:List Tr) (n:Int),(bB n a).length=a.length
 | [],n=>by rw [bB];rfl
 | t :: a,n=>by rw [bB,List.length_cons,List.length_cons,qx a]
def hdF:Tr->Fr
 | .leaf r=>.leaf r
 | .iff v l r _ _=>.iff v l r
 | .loop t m l r _=>.loop t m l r
theorem zM (t:Tr):∃tl,flT t=hdF t :: tl:=by
 cases t with
 | leaf r=>exact ⟨[],by rw [flT];rfl⟩
 | iff v l r f o=>exact ⟨_,by rw [flT];rfl⟩
 | loop t m l r b=>exact ⟨_,by rw [flT];rfl⟩
theorem uO:∀a:List Tr,a.length <= (aw a).length
 | []=>Nat.zero_le _
 | t :: a=>by
  obtain ⟨tl,e⟩:=zM t
  have:=uO a
  rw [aw,e,List.length_append,List.length_cons,List.length_cons]
  omega
theorem aB.snoc {X:Hp}:∀{ts:List Pt}{vs:List V}{x:V}{t:Pt},aB A N X vs ts->bt A N X x t->aB A N X (vs ++ [x]) (ts ++ [t])
 | [],vs,x,t,h,h'=>by
  unfold aB at h
  subst h
  exact aB.one h'
 | u :: ts,vs,x,t,h,h'=>by
  unfold aB at h
  obtain ⟨y,ys,rfl,h1,h2⟩:=h
  exact aB.cons h1 (aB.snoc h2 h')
theorem kL {X:Hp}{fs:List Fr}{xs:List V} (h:aY N X fs xs) {a b:List Fr}{f:Fr} (e:fs=a ++ f :: b):∃v,atI xs (a.length:Int)=some v/\jm N X v f:=by
 obtain ⟨v,hv,fv⟩:=eZ (i:=a.length) (a:=f) h (by rw [e,List.getElem?_append_right (Nat.le_refl _),Nat.sub_self];rfl)
 exact ⟨v,jf hv,fv⟩
def yc (f:Fr):Bool:=match f with
 | .els=>true
 | .fin=>true
 | _=>false
theorem uo (f:Fr):inV (V.str f.wd) [V.str "else",V.str "end"]=yc f:=by
 cases f with
 | leaf r=>cases r <;> rfl
 | _=>rfl
theorem yM {F:Addr}{H H':Hp} (s:Sm [F] H H') (hF:H' F ≠ none):∀b,H' b=none->H b=none:=fun b h=>by
 cases e:H b with
 | none=>rfl
 | some o =>
  by_cases z:b=F
  ·rw [z] at h;exact absurd h hF
  ·rw [s b o (fun m=>z (List.mem_singleton.mp m)) e] at h;cases h
theorem y3:∀i:Fin 11,wdI i.val ≠ "if"/\wdI i.val ≠ "loop":=by decide +kernel
theorem w6 (r:Lr):¬ decide (V.str r.wd=V.str "if")=true/\¬ decide (V.str r.wd=V.str "loop")=true:=by
 have:=xn r
 have h:=y3 ⟨r.ci,by omega⟩
 rw [w9]
 exact ⟨fun z=>h.1 (V.str.inj (of_decide_eq_true z)),fun z=>h.2 (V.str.inj (of_decide_eq_true z))⟩
inductive l9 (A:Adr) (d:Nat) (vs:List V) (H:Hp) (Q:VK) (E9:XK):Prop
 | mk (N:Nat->Str) (X:Hp) (L:Addr) (xs:List V) (fs pre post:List Fr) (ts:List Tr) (st:Fr) (z0:vs=[.ref L,.int (pre.length:Nat)]) (z1:ah X H) (z2:X L=some (.lst xs)) (z3:aY N X fs xs) (z4:fs=pre ++ aw ts ++ st :: post) (z5:yc st=true) (z6:cy ts <= d) (z7:xs.length <= 300)
  (z8:∀(p R:Addr) (ys:List V) (H':Hp),ah H H'->H' p=some (.tup [.ref R,.int ((pre.length + (aw ts).length:Nat):Int)])->H' R=some (.lst ys)->aB A N (rsH X H H') ys (bB ((pre.length:Nat) + 1) ts)->Q (.ref p) H'):l9 A d vs H Q E9
theorem uW (T:Txt K mg A) (d j:Nat) (hj:5 <= j) (D_law_rows_made:T.bS.Hz P w base j (spN (l9 A) d)):T.bS.Hz P w base (j + 1) (l9 A d):=by
 refine T.bS.hs (k:=j) aJ (fun f cdv A' outer s H vs Q E hr hu h=>?_)
 obtain ⟨N,X,L,xs,fs,pre,post,ts,st,rfl,s0,hL,fr,efs,hst,dp,lx,q⟩:=h
 have lfs:fs.length <= 300:=by rw [Paired.length fr];exact lx
 refine ⟨_,(ab (pst 2 aJ.nd (aL ae))
  (ab (iI PassesOwn.never (ptc (jX hu) (px hu (px hu (fv 0) (fv 1)) af) (aO (aa aj (aa aj ae))) ((by with_unfolding_all rfl)))
   (ab (pst 3 aJ.nd (px hu (fv 0) (fv 1)))
   (ab (pst 4 aJ.nd (au aN (fv 1) af))
   (ab (aS (ptc (bZ hu) (px hu (fv 3) af) aj)
    (ab (cK (aq (hj:=by omega) D_law_rows_made hr (aa (fv 0) (aa (au aN (fv 1) af) ae))) (iu rfl (bf (pgn (i:=5) aJ.nd rfl) (bf (pgn (i:=1) aJ.nd rfl) fE))))
    (ab (cK (aq (hj:=by omega) D_law_rows_made hr (aa (fv 0) (aa (au aN (fv 1) af) ae))) (iu rfl (bf (pgn (i:=6) aJ.nd rfl) (bf (pgn (i:=1) aJ.nd rfl) fE))))
    (ai (aD (aP (fv 2) (aa (bH (hj:=by omega) T.dH (pV T) hr (aa (fv 4) (aa (px hu (fv 3) af) (aa (fv 5) (aa (fv 6) (aa (px hu (fv 3) af) (aa (px hu (fv 3) af) ae))))))) ae))))))
    (ai (aS (ptc (bZ hu) (px hu (fv 3) af) aj)
     (ab (cK (aq (hj:=by omega) D_law_rows_made hr (aa (fv 0) (aa (au aN (fv 1) af) ae))) (iu rfl (bf (pgn (i:=7) aJ.nd rfl) (bf (pgn (i:=1) aJ.nd rfl) fE))))
     (ai (aD (aP (fv 2) (aa (bH (hj:=by omega) T.cw (mY T) hr (aa (fv 4) (aa (px hu (fv 3) af) (aa (px hu (fv 3) af) (aa (fv 7) (aa (px hu (fv 3) af) (aa (px hu (fv 3) af) ae))))))) ae)))))
     (ai (aD (aP (fv 2) (aa (aq (hj:=by omega) (tP T) hr (aa (fv 3) (aa (fv 4) ae))) ae)))))))
   (ai (pst 1 aJ.nd (au aN (fv 1) af)))))))
  (ai (aA (aO (aa (fv 2) (aa (fv 1) ae))))))),?_⟩
 refine ag fun M1 K1=>⟨Nat.zero_le _,fun F hF=>?_⟩
 obtain ⟨s1,e1⟩:=alc hF (HO.lst [])
 generalize upd H F _=H1 at s1 e1 ⊢
 have XF:X F=none:=ah.free s0 hF
 have H1F:H1 F ≠ none:=by rw [e1];simp
 have FL:L ≠ F:=fun z=>by rw [z,XF] at hL;cases hL
 refine K1 _ _ ?_
 clear K1 M1
 try dsimp only
 refine ag fun M1 K1=>⟨fun m σ Hc=>∃(dn rest:List Tr) (ys:List V) (v3 v4 v5 v6 v7:Option V),ts=dn ++ rest/\rest.length=m/\σ=[some (.ref L),some (.int ((pre.length + (aw dn).length:Nat):Int)),some (.ref F),v3,v4,v5,v6,v7]/\Sm [F] H1 Hc/\Hc F=some (.lst ys)/\aB A N (rsH X H1 Hc) ys (bB ((pre.length:Nat) + 1) dn),⟨ts.length,[],ts,[],none,none,none,none,none,rfl,rfl,rfl,Sm.refl _ _,e1,by rw [bB];exact aB.nil⟩,?_⟩
 rintro m σ Hc ⟨dn,rest,ys,v3,v4,v5,v6,v7,ets,em,rfl,sc,hFc,pt⟩
 have sX:ah X Hc:=sc.same (s0.trans s1) (fun m hm=>by rw [List.mem_singleton.mp hm];exact XF)
 have sH:ah H Hc:=sc.same s1 (fun m hm=>by rw [List.mem_singleton.mp hm];exact hF)
 have hLc:=SqL.of (K:=K) (sX _ _ hL)
 have nb:=yM sc (by rw [hFc];simp)
 cases rest with
 | nil =>
  rw [List.append_nil] at ets
  subst ets
  obtain ⟨v,av,⟨a,p,rfl,ha,_⟩⟩:=kL fr (a:=pre ++ aw ts) (f:=st) (b:=post) efs
  rw [List.length_append] at av
  refine lix hLc av (tix (j:=0) (SqT.of (sX _ _ ha)) rfl ⟨by show 2 <= sizeLine;decide,fun tp htp=>?_⟩)
  have st':=ah.upd htp (.tup [V.str "else",.str "end"])
  refine Or.inl ⟨_,Or.inr (SqT.of ak),rfl,rfl,_,rfl,bj (fun z=>absurd z (by show ¬ (!inV (V.str st.wd) [V.str "else",V.str "end"])=true;rw [uo,hst];decide)) (fun _=>K1 _ _ ⟨by show 2 <= sizeLine;decide,fun p hp=>?_⟩)⟩
  have s5:=ah.upd hp (.tup [V.ref F,.int ((pre.length + (aw ts).length:Nat):Int)])
  exact q p F ys _ (sH.trans (st'.trans s5)) ak ((st'.trans s5) _ _ hFc) (aB.same (kh (same_none s1)) _ _ (aB.same (cX (st'.trans s5)) _ _ pt))
 | cons t rest =>
 clear K1
 obtain ⟨tl,et⟩:=zM t
 have efs':fs=(pre ++ aw dn) ++ hdF t :: (tl ++ aw rest ++ st :: post):=by
  rw [efs,ets,dX,aw,et]
  simp
 obtain ⟨v,av,fv'⟩:=kL fr efs'
 rw [List.length_append] at av
 have fv0:=fv'
 obtain ⟨a,p,rfl,ha,hob⟩:=fv'
 have nstop:yc (hdF t)=false:=by cases t <;> rfl
 refine lix hLc av (tix (j:=0) (SqT.of (sX _ _ ha)) rfl ⟨by show 2 <= sizeLine;decide,fun tp htp=>?_⟩)
 obtain ⟨s2,e2⟩:=alc htp (HO.tup [V.str "else",.str "end"])
 generalize upd Hc tp _=H2 at s2 e2 ⊢
 refine Or.inl ⟨_,Or.inr (SqT.of e2),rfl,rfl,_,rfl,bj (fun _=>?_) (fun z=>absurd (by show (!inV (V.str (hdF t).wd) [V.str "else",V.str "end"])=true;rw [uo,nstop];rfl) z)⟩
 refine ⟨fun σ Hc=>∃(dn rest:List Tr) (ys:List V) (v3 v4 v5 v6 v7:Option V) (m':Nat),m' < m/\ts=dn ++ rest/\rest.length=m'/\σ=[some (.ref L),some (.int ((pre.length + (aw dn).length:Nat):Int)),some (.ref F),v3,v4,v5,v6,v7]/\Sm [F] H1 Hc/\Hc F=some (.lst ys)/\aB A N (rsH X H1 Hc) ys (bB ((pre.length:Nat) + 1) dn),fun σ Hc ⟨dn,rest,ys,v3,v4,v5,v6,v7,m',hm',h⟩=>⟨m',hm',dn,rest,ys,v3,v4,v5,v6,v7,h⟩,?_⟩
 have sX2:=sX.trans s2
 have dlen:=uO dn
 have lf:pre.length + (aw dn).length + 1 <= fs.length:=by
  have:=congrArg List.length efs'
  simp only [List.length_append,List.length_cons] at this
  omega
 have ly:ys.length=dn.length:=by rw [pt.len,qx]
 have dpt:dpT t <= d:=by
  rw [ets,kj,cy] at dp
  omega
 try dsimp only
 refine ag fun N1 J1=>lix (s2.seq hLc) av (J1 _ _ ?_)
 clear J1 N1
 try dsimp only
 refine ag fun N1 J1=>J1 _ _ ?_
 clear J1 N1
 try dsimp only
 refine ag fun N1 J1=>?_
 have hF2:=s2 _ _ hFc
 have fin:∀(x:V) (H4:Hp) (u5 u6 u7:Option V) (at':Int),ah H2 H4->bt A N (rsH X H2 H4) x (ptT (((pre.length + (aw dn).length:Nat):Int) + 1) t)->at' + 1=((pre.length + (aw dn).length + (flT t).length:Nat):Int) ->
   N1 [some (.ref L),some (.int at'),some (.ref F),some (.ref a),some (.int (((pre.length + (aw dn).length:Nat):Int) + 1)),u5,u6,u7] (upd H4 F (.lst (ys ++ [x]))):=by
  intro x H4 u5 u6 u7 at' s4 pa ea
  refine J1 _ _ ?_
  have s5:Sm [F] H4 (upd H4 F (.lst (ys ++ [x]))):=Sm.at (List.mem_singleton.mpr rfl) _
  have em':rest.length + 1=m:=em
  refine ⟨dn ++ [t],rest,ys ++ [x],some (.ref a),some (.int (((pre.length + (aw dn).length:Nat):Int) + 1)),u5,u6,u7,rest.length,by omega,by rw [ets];simp,rfl,?_,(sc.trans (Sm.new (s2.trans s4))).trans s5,ak,?_⟩
  ·show [_,some (V.int (at' + 1)),_,_,_,_,_,_]=_
   rw [ea,dX,mH,List.length_append,Nat.add_assoc]
  ·rw [qC,xt,show ((pre.length:Nat):Int) + 1 + ((aw dn).length:Nat)=((pre.length + (aw dn).length:Nat):Int) + 1 by push_cast;omega]
   refine aB.snoc (aB.same (jN XF H1F) _ _ (aB.same (cX (s2.trans s4)) _ _ pt)) (bt.same (jN XF H1F) _ _ (bt.same (kh fun b h=>nb b (ah.free s2 h)) _ _ pa))
 clear J1
 have hT2:=SqT.of (K:=K) (sX2 _ _ ha)
 have szy:∀{n:Nat},n=ys.length->n < sizeLine:=fun e=>aG (by omega)
 cases t with
 | leaf r =>
  refine tix (j:=0) hT2 rfl ⟨rfl,_,rfl,bj (fun z=>absurd z (w6 r).1) (fun _=>tix (j:=0) hT2 rfl ⟨rfl,_,rfl,bj (fun z=>absurd z (w6 r).2) (fun _=>⟨Or.inl ⟨rfl,_,SqL.of hF2⟩,N,X,_,_,r,rfl,sX2,fv0,fun b H4 s4 hb pb=>⟨_,_,_,rfl,rfl,s4 _ _ hF2,szy rfl,fin _ H4 _ _ _ _ s4 (by rw [ptT];exact pb) (by rw [flT];push_cast;rfl)⟩⟩)⟩)⟩
 | iff vv l r ff oo =>
  have hp:=hob _ rfl
  rw [dpT] at dpt
  cases d with
  | zero=>omega
  | succ d =>
  refine tix (j:=0) hT2 rfl ⟨rfl,_,rfl,bj (fun _=>?_) (fun z=>absurd (show decide (V.str "if"=V.str "if")=true from decide_eq_true rfl) z)⟩
  have e1':fs=(pre ++ aw dn ++ [.iff vv l r]) ++ aw ff ++ .els :: (aw oo ++ .fin :: (aw rest ++ st :: post)):=by
   rw [efs,ets,dX,aw,flT]
   simp
  have e2':fs=(pre ++ aw dn ++ [.iff vv l r] ++ aw ff ++ [.els]) ++ aw oo ++ .fin :: (aw rest ++ st :: post):=by
   rw [e1']
   simp
  have l1:(pre ++ aw dn ++ [Fr.iff vv l r]).length=pre.length + (aw dn).length + 1:=by simp only [List.length_append,List.length_singleton]
  have l2:(pre ++ aw dn ++ [Fr.iff vv l r] ++ aw ff ++ [Fr.els]).length=pre.length + (aw dn).length + 1 + (aw ff).length + 1:=by simp only [List.length_append,List.length_singleton]
  refine ag fun N2 J2=>⟨N,X,L,xs,fs,_,_,ff,.els,by rw [l1];push_cast;rfl,sX2,hL,fr,e1',rfl,by omega,lx,fun p1 R1 y1 H3 s3 ep1 eR1 pt1=>⟨p1,_,rfl,SqT.of ep1,rfl,_,_,rfl,_,_,rfl,rfl,J2 _ _ ?_⟩⟩
  clear J2 N2
  have sX3:=sX2.trans s3
  try dsimp only
  refine ag fun N2 J2=>⟨N,X,L,xs,fs,_,_,oo,.fin,by rw [l1,l2];push_cast;rfl,sX3,hL,fr,e2',rfl,by omega,lx,fun p2 R2 y2 H4 s4 ep2 eR2 pt2=>⟨p2,_,rfl,SqT.of ep2,rfl,_,_,rfl,_,_,rfl,rfl,J2 _ _ ?_⟩⟩
  clear J2 N2
  have s34:=s3.trans s4
  have hT4:=s34.tup hT2
  try dsimp only
  refine ⟨Or.inl ⟨rfl,_,SqL.of (s34 _ _ hF2)⟩,tix (j:=1) hT4 rfl (tix (j:=2) hT4 rfl (tix (j:=3) hT4 rfl (fun r6 dx6 hr6 hd_ hne_=>⟨_,_,_,_,_,_,_,_,_,_,_,rfl,rfl,hr6,hd_,SqL.of (s4 _ _ eR1),SqL.of eR2,fun n6 n7 H6 f6 f7 s6 h6 h7 hx=>⟨rfl,?_⟩⟩)))⟩
  have s26:=s34.trans s6
  refine ⟨_,_,_,rfl,rfl,s26 _ _ hF2,szy rfl,fin _ H6 _ _ _ _ s26 ?_ ?_⟩
  ·rw [ptT]
   unfold bt
   rw [l1] at pt1
   rw [l2] at pt2
   refine ⟨r6,dx6,p,n6,n7,y1,y2,rfl,bP (ah.free s34 hr6) hx,gU (sX2.trans s26) _ _ hp,bP (ah.free s34 f6) h6,bP (ah.free s34 f7) h7,?_,?_⟩
   ·have:=aB.same (cX (s4.trans s6)) _ _ pt1
    push_cast at this ⊢
    exact this
   ·have:=aB.same (kh (same_none s3)) _ _ (aB.same (cX s6) _ _ pt2)
    push_cast at this ⊢
    rw [show (↑pre.length + ↑(aw dn).length + 1 + 2 + ↑(aw ff).length:Int)=↑pre.length + ↑(aw dn).length + 1 + ↑(aw ff).length + 1 + 1 by omega]
    exact this
  ·rw [l2,flT]
   simp only [List.length_cons,List.length_append,List.length_nil]
   push_cast
   omega
 | loop th mm l r bb =>
  rw [dpT] at dpt
  cases d with
  | zero=>omega
  | succ d =>
  refine tix (j:=0) hT2 rfl ⟨rfl,_,rfl,bj (fun z=>absurd z (show ¬ decide (V.str "loop"=V.str "if")=true by decide)) (fun _=>tix (j:=0) hT2 rfl ⟨rfl,_,rfl,bj (fun _=>?_) (fun z=>absurd (show decide (V.str "loop"=V.str "loop")=true from decide_eq_true rfl) z)⟩)⟩
  have e1':fs=(pre ++ aw dn ++ [.loop th mm l r]) ++ aw bb ++ .fin :: (aw rest ++ st :: post):=by
   rw [efs,ets,dX,aw,flT]
   simp
  have l1:(pre ++ aw dn ++ [Fr.loop th mm l r]).length=pre.length + (aw dn).length + 1:=by simp only [List.length_append,List.length_singleton]
  refine ag fun N2 J2=>⟨N,X,L,xs,fs,_,_,bb,.fin,by rw [l1];push_cast;rfl,sX2,hL,fr,e1',rfl,by omega,lx,fun p1 R1 y1 H3 s3 ep1 eR1 pt1=>⟨p1,_,rfl,SqT.of ep1,rfl,_,_,rfl,_,_,rfl,rfl,J2 _ _ ?_⟩⟩
  clear J2 N2
  have hT3:=s3.tup hT2
  try dsimp only
  refine ⟨Or.inl ⟨rfl,_,SqL.of (s3 _ _ hF2)⟩,tix (j:=1) hT3 rfl (tix (j:=2) hT3 rfl (tix (j:=3) hT3 rfl (tix (j:=4) hT3 rfl (fun r6 dx6 hr6 hd_ hne_=>⟨_,_,_,_,_,_,_,_,_,_,rfl,rfl,hr6,hd_,SqL.of eR1,fun n6 H6 f6 s6 h6 hx=>⟨rfl,?_⟩⟩))))⟩
  have s26:=s3.trans s6
  refine ⟨_,_,_,rfl,rfl,s26 _ _ hF2,szy rfl,fin _ H6 _ _ _ _ s26 ?_ ?_⟩
  ·rw [ptT]
   unfold bt
   rw [l1] at pt1
   refine ⟨r6,dx6,n6,y1,rfl,bP (ah.free s3 hr6) hx,bP (ah.free s3 f6) h6,?_⟩
   have:=aB.same (cX s6) _ _ pt1
   push_cast at this ⊢
   exact this
  ·rw [l1,flT]
   simp only [List.length_cons,List.length_append,List.length_nil]
   push_cast
   omega
theorem tw (T:Txt K mg A):∀d,T.bS.Hz P w base (d + 6) (l9 A d)
 | 0=>uW T 0 5 (Nat.le_refl _) (T.bS.hs (k:=4) aJ (fun _ _ _ _ _ _ _ _ _ _ _ h=>h.elim) (fun _ _ _ _ h=>h.elim))
 | d + 1=>uW T (d + 1) (d + 6) (by omega) (tw T d)
end
section
variable {P:Program}{w:World}{K:W.Frag}{mg:Str->Option Value}{base:Heap}{A:Adr}{N:Nat->Str}
seal PE PA PS PSs PT PW
def hdP (n:Int):List Lr->List Pt
 | []=>[]
 | r :: rs=>.leaf n r :: hdP (n + 1) rs
def deP (n:Int):List De->List Pt
 | []=>[]
 | d :: ds=>.ba n d.1 d.2.1 (bB (n + 1) d.2.2) :: deP (n + ((flD d).length:Nat)) ds
theorem uP:∀(a:List Lr) (n:Int) (b:List Lr),hdP n (a ++ b)=hdP n a ++ hdP (n + (a.length:Nat)) b
 | [],n,b=>by
  rw [List.nil_append,hdP,List.nil_append]
  congr 1
  simp
 | r :: a,n,b=>by
  rw [List.cons_append,hdP,hdP,uP a,List.length_cons,List.cons_append]
  congr 3
  push_cast
  omega
theorem uy:∀(a:List De) (n:Int) (b:List De),deP n (a ++ b)=deP n a ++ deP (n + ((aW a).length:Nat)) b
 | [],n,b=>by
  rw [List.nil_append,deP,List.nil_append]
  congr 1
  simp [aW]
 | d :: a,n,b=>by
  rw [List.cons_append,deP,deP,uy a,show aW (d :: a)=flD d ++ aW a from rfl,List.length_append,List.cons_append]
  congr 3
  push_cast
  omega
theorem pT:∀(a:List Lr) (n:Int),(hdP n a).length=a.length
 | [],n=>rfl
 | r :: a,n=>by rw [hdP,List.length_cons,List.length_cons,pT a]
theorem uA:∀(a:List De) (n:Int),(deP n a).length=a.length
 | [],n=>rfl
 | r :: a,n=>by rw [deP,List.length_cons,List.length_cons,uA a]
theorem qP {M:List Addr}{H H':Hp} (s:Sm M H H') (hF:∀m ∈ M,H' m ≠ none):∀b,H' b=none->H b=none:=fun b h=>by
 cases e:H b with
 | none=>rfl
 | some o =>
  by_cases z:b ∈ M
  ·exact absurd h (hF b z)
  ·rw [s b o z e] at h;cases h
def dmF (f:Fr):Bool:=match f with
 | .ba _ _=>true
 | .main=>true
 | _=>false
theorem xD (f:Fr):inV (V.str f.wd) [V.str "deed",V.str "main"]=dmF f:=by
 cases f with
 | leaf r=>cases r <;> rfl
 | _=>rfl
def msN (hs:List Lr) (ds:List De):Int:=((hs.length + (aW ds).length:Nat):Int) + 2
inductive q4 (A:Adr) (vs:List V) (H:Hp) (Q:VK) (E9:XK):Prop
 | mk (N:Nat->Str) (X:Hp) (L:Addr) (xs:List V) (hs:List Lr) (ds:List De) (mb:List Tr) (z0:vs=[.ref L]) (z1:ah X H) (z2:X L=some (.lst xs)) (z3:aY N X (flA hs ds mb) xs) (z4:j7 hs ds mb) (z7:xs.length <= 300)
  (z8:∀(v:V) (H':Hp),ah H H'->vB A N H' v (hdP 1 hs) (deP ((hs.length:Nat) + 1) ds) (bB (msN hs ds) mb)->Q v H'):q4 A vs H Q E9
theorem yz (T:Txt K mg A):T.jc.Hz P w base 13 (q4 A):=by
 refine T.jc.hs (k:=12) aT (fun f cdv A' outer s H vs Q E hr hu h=>?_)
 obtain ⟨N,X,L,xs,hs,ds,mb,rfl,s0,hL,fr,O,lx,q⟩:=h
 have lfs:(flA hs ds mb).length <= 300:=by rw [Paired.length fr];exact lx
 have lfs':hs.length + (aW ds).length + (aw mb).length + 2=(flA hs ds mb).length:=by unfold flA;simp;omega
 refine ⟨_,(ab (pst 1 aT.nd (aL ae))
  (ab (pst 2 aT.nd (aL ae))
  (ab (pst 3 aT.nd af)
  (ab (iI PassesOwn.never (ptc (jX hu) (px hu (px hu (fv 0) (fv 3)) af) (aO (aa aj (aa aj ae))) ((by with_unfolding_all rfl)))
   (ab (aD (aP (fv 1) (aa (aq (hj:=by omega) (tP T) hr (aa (px hu (fv 0) (fv 3)) (aa (au aN (fv 3) af) ae))) ae)))
   (ai (pst 3 aT.nd (au aN (fv 3) af)))))
  (ab (iI PassesOwn.never (ptc (bZ hu) (px hu (px hu (fv 0) (fv 3)) af) aj)
   (ab (pst 4 aT.nd (au aN (fv 3) af))
   (ab (cK (aq (hj:=by omega) (tw T 6) hr (aa (fv 0) (aa (au aN (fv 3) af) ae))) (iu rfl (bf (pgn (i:=5) aT.nd rfl) (bf (pgn (i:=6) aT.nd rfl) fE))))
   (ab (aD (aP (fv 2) (aa (bH (hj:=by omega) T.b5 (nD T) hr (aa (fv 4) (aa (px hu (px hu (fv 0) (fv 3)) af) (aa (pcT uM T.cn (aa (px hu (px hu (fv 0) (fv 3)) af) ae)) (aa (fv 5) ae))))) ae)))
   (ai (pst 3 aT.nd (au aN (fv 6) af)))))))
  (ab (cK (aq (hj:=by omega) (tw T 6) hr (aa (fv 0) (aa (au aN (fv 3) af) ae))) (iu rfl (bf (pgn (i:=7) aT.nd rfl) (bf (pgn (i:=6) aT.nd rfl) fE))))
  (ai (aA (bH (hj:=by omega) T.cW (ny T) hr (aa (fv 1) (aa (fv 2) (aa (fv 7) ae)))))))))))),?_⟩
 refine ag fun M1 K1=>⟨Nat.zero_le _,fun F hF=>?_⟩
 obtain ⟨s1,e1⟩:=alc hF (HO.lst [])
 generalize upd H F _=H1 at s1 e1 ⊢
 refine K1 _ _ ?_
 clear K1 M1
 try dsimp only
 refine ag fun M1 K1=>⟨Nat.zero_le _,fun G hG=>?_⟩
 obtain ⟨s2,e2⟩:=alc hG (HO.lst [])
 generalize upd H1 G _=H2 at s2 e2 ⊢
 have XF:X F=none:=ah.free s0 hF
 have XG:X G=none:=ah.free (s0.trans s1) hG
 have GF:G ≠ F:=fun z=>by rw [z,e1] at hG;cases hG
 have H2F:H2 F ≠ none:=by rw [s2 _ _ e1];simp
 have H2G:H2 G ≠ none:=by rw [e2];simp
 have e1':=s2 _ _ e1
 have t2:=s1.trans s2
 have fxq:∀{Hc:Hp},Sm [F,G] H2 Hc->ah X Hc:=fun sc=>sc.same (s0.trans t2) (fun m hm=>by
  simp only [List.mem_cons,List.not_mem_nil,or_false] at hm
  rcases hm with rfl | rfl
  ·exact XF
  ·exact XG)
 have fhq:∀{Hc:Hp},Sm [F,G] H2 Hc->ah H Hc:=fun sc=>sc.same t2 (fun m hm=>by
  simp only [List.mem_cons,List.not_mem_nil,or_false] at hm
  rcases hm with rfl | rfl
  ·exact hF
  ·exact ah.free s1 hG)
 have mF:F ∈ [F,G]:=List.mem_cons_self
 have mG:G ∈ [F,G]:=List.mem_cons_of_mem _ List.mem_cons_self
 refine K1 _ _ ?_
 clear K1 M1
 try dsimp only
 refine ag fun M1 K1=>K1 _ _ ?_
 clear K1 M1
 try dsimp only
 refine ag fun M1 K1=>⟨fun m σ Hc=>∃(dn rest:List Lr) (ys:List V),hs=dn ++ rest/\rest.length=m/\σ=[some (.ref L),some (.ref F),some (.ref G),some (.int (dn.length:Nat)),none,none,none,none]/\Sm [F,G] H2 Hc/\Hc F=some (.lst ys)/\Hc G=some (.lst [])/\aB A N (rsH X H2 Hc) ys (hdP 1 dn),⟨hs.length,[],hs,[],rfl,rfl,rfl,Sm.refl _ _,e1',e2,aB.nil⟩,?_⟩
 rintro m σ Hc ⟨dn,rest,ys,ehs,em,rfl,sc,hFc,hGc,pt⟩
 have sX:=fxq sc
 have hLc:=SqL.of (K:=K) (sX _ _ hL)
 cases rest with
 | cons r rest =>
  clear K1
  have efs:flA hs ds mb=dn.map Fr.leaf ++ .leaf r :: (rest.map Fr.leaf ++ aW ds ++ .main :: (aw mb ++ [.fin])):=by
   unfold flA
   rw [ehs]
   simp
  obtain ⟨v,av,fv'⟩:=kL fr efs
  rw [List.length_map] at av
  have fv0:=fv'
  obtain ⟨a,p,rfl,ha,hob⟩:=fv'
  refine lix hLc av (tix (j:=0) (SqT.of (sX _ _ ha)) rfl ⟨by show 2 <= sizeLine;decide,fun tp htp=>?_⟩)
  obtain ⟨s3,e3⟩:=alc htp (HO.tup [V.str "deed",.str "main"])
  generalize upd Hc tp _=H3 at s3 e3 ⊢
  refine Or.inl ⟨_,Or.inr (SqT.of e3),rfl,rfl,_,rfl,bj (fun _=>?_) (fun z=>absurd (by show (!inV (V.str (Fr.leaf r).wd) [V.str "deed",V.str "main"])=true;rw [xD];rfl) z)⟩
  refine ⟨fun σ Hc=>∃(dn rest:List Lr) (ys:List V) (m':Nat),m' < m/\hs=dn ++ rest/\rest.length=m'/\σ=[some (.ref L),some (.ref F),some (.ref G),some (.int (dn.length:Nat)),none,none,none,none]/\Sm [F,G] H2 Hc/\Hc F=some (.lst ys)/\Hc G=some (.lst [])/\aB A N (rsH X H2 Hc) ys (hdP 1 dn),fun σ Hc ⟨dn,rest,ys,m',hm',h⟩=>⟨m',hm',dn,rest,ys,h⟩,?_⟩
  have sX3:=sX.trans s3
  have hF3:=s3 _ _ hFc
  try dsimp only
  refine ag fun N1 J1=>⟨Or.inl ⟨rfl,_,SqL.of hF3⟩,lix (SqL.of (sX3 _ _ hL)) av ⟨N,X,_,_,r,rfl,sX3,fv0,fun b H4 s4 hb pb=>?_⟩⟩
  have ly:ys.length=dn.length:=by rw [pt.len,pT]
  have ld:dn.length + 1 <= hs.length:=by rw [ehs];simp
  refine ⟨_,_,_,rfl,rfl,s4 _ _ hF3,aG (by omega),J1 _ _ ?_⟩
  have s5:Sm [F,G] H4 (upd H4 F (.lst (ys ++ [V.ref b]))):=Sm.at mF _
  have em':rest.length + 1=m:=em
  refine ⟨dn ++ [r],rest,ys ++ [V.ref b],rest.length,by omega,by rw [ehs];simp,rfl,?_,(sc.trans (Sm.new (s3.trans s4))).trans s5,ak,ao GF ((s3.trans s4) _ _ hGc),?_⟩
  ·rw [List.length_append,List.length_singleton]
   rfl
  ·rw [uP,hdP,hdP,show (1:Int) + (dn.length:Nat)=((dn.length:Nat):Int) + 1 by omega]
   have nb:=qP sc (by
    intro m hm
    simp only [List.mem_cons,List.not_mem_nil,or_false] at hm
    rcases hm with rfl | rfl
    ·rw [hFc];simp
    ·rw [hGc];simp)
   exact aB.snoc (aB.same (jN XF H2F) _ _ (aB.same (cX (s3.trans s4)) _ _ pt)) (bt.same (jN XF H2F) _ _ (bt.same (kh fun b h=>nb b (ah.free s3 h)) _ _ pb))
 | nil =>
 rw [List.append_nil] at ehs
 subst ehs
 obtain ⟨gf,gtl,egf,hgf⟩:∃gf gtl,aW ds ++ .main :: (aw mb ++ [Fr.fin])=gf :: gtl/\dmF gf=true:=by
  cases ds with
  | nil=>exact ⟨.main,_,rfl,rfl⟩
  | cons d r=>exact ⟨.ba d.1 d.2.1,_,rfl,rfl⟩
 have efs:flA hs ds mb=hs.map Fr.leaf ++ gf :: gtl:=by
  unfold flA
  rw [List.append_assoc,egf]
 obtain ⟨v,av,⟨a,p,rfl,ha,hob⟩⟩:=kL fr efs
 rw [List.length_map] at av
 refine lix hLc av (tix (j:=0) (SqT.of (sX _ _ ha)) rfl ⟨by show 2 <= sizeLine;decide,fun tp htp=>?_⟩)
 obtain ⟨s3,e3⟩:=alc htp (HO.tup [V.str "deed",.str "main"])
 generalize upd Hc tp _=H3 at s3 e3 ⊢
 refine Or.inl ⟨_,Or.inr (SqT.of e3),rfl,rfl,_,rfl,bj (fun z=>absurd z (by show ¬ (!inV (V.str gf.wd) [V.str "deed",V.str "main"])=true;rw [xD,hgf];decide)) (fun _=>K1 _ _ ?_)⟩
 clear K1 M1
 have sc3:=sc.trans (Sm.new s3)
 have hF3:=s3 _ _ hFc
 have hG3:=s3 _ _ hGc
 have pt3:=aB.same (cX s3) _ _ pt
 clear pt hFc hGc sc sX hLc htp e3 av ha hob efs egf hgf
 try dsimp only
 refine ag fun M1 K1=>⟨fun m σ Hc=>∃(dn rest:List De) (zs:List V) (v4 v5 v6:Option V),ds=dn ++ rest/\rest.length=m/\σ=[some (.ref L),some (.ref F),some (.ref G),some (.int ((hs.length + (aW dn).length:Nat):Int)),v4,v5,v6,none]/\Sm [F,G] H2 Hc/\Hc F=some (.lst ys)/\Hc G=some (.lst zs)/\aB A N (rsH X H2 Hc) ys (hdP 1 hs)/\aB A N (rsH X H2 Hc) zs (deP ((hs.length:Nat) + 1) dn),⟨ds.length,[],ds,[],none,none,none,rfl,rfl,rfl,sc3,hF3,hG3,pt3,aB.nil⟩,?_⟩
 clear hF3 hG3 pt3 sc3 s3 m em
 clear hG hF
 rintro m σ Hd ⟨dn,rest,zs,v4,v5,v6,eds,em,rfl,sc,hFc,hGc,pt,pz⟩
 have sX:=fxq sc
 have hLc:=SqL.of (K:=K) (sX _ _ hL)
 have nb:=qP sc (by
  intro m hm
  simp only [List.mem_cons,List.not_mem_nil,or_false] at hm
  rcases hm with rfl | rfl
  ·rw [hFc];simp
  ·rw [hGc];simp)
 cases rest with
 | cons d rest =>
  clear K1
  have efs:flA hs ds mb=(hs.map Fr.leaf ++ aW dn) ++ .ba d.1 d.2.1 :: (aw d.2.2 ++ .fin :: (aW rest ++ .main :: (aw mb ++ [.fin]))):=by
   unfold flA aW
   rw [eds]
   simp [flD]
  have efs2:flA hs ds mb=(hs.map Fr.leaf ++ aW dn ++ [.ba d.1 d.2.1]) ++ aw d.2.2 ++ .fin :: (aW rest ++ .main :: (aw mb ++ [.fin])):=by
   rw [efs]
   simp
  have l2:(hs.map Fr.leaf ++ aW dn ++ [Fr.ba d.1 d.2.1]).length=hs.length + (aW dn).length + 1:=by simp only [List.length_append,List.length_map,List.length_singleton]
  obtain ⟨v,av,fv'⟩:=kL fr efs
  rw [List.length_append,List.length_map] at av
  obtain ⟨a,p,rfl,ha,hob⟩:=fv'
  have hp:=hob _ rfl
  refine lix hLc av (tix (j:=0) (SqT.of (sX _ _ ha)) rfl ⟨rfl,_,rfl,bj (fun _=>?_) (fun z=>absurd (show decide (V.str "deed"=V.str "deed")=true from decide_eq_true rfl) z)⟩)
  refine ⟨fun σ Hc=>∃(dn rest:List De) (zs:List V) (v4 v5 v6:Option V) (m':Nat),m' < m/\ds=dn ++ rest/\rest.length=m'/\σ=[some (.ref L),some (.ref F),some (.ref G),some (.int ((hs.length + (aW dn).length:Nat):Int)),v4,v5,v6,none]/\Sm [F,G] H2 Hc/\Hc F=some (.lst ys)/\Hc G=some (.lst zs)/\aB A N (rsH X H2 Hc) ys (hdP 1 hs)/\aB A N (rsH X H2 Hc) zs (deP ((hs.length:Nat) + 1) dn),fun σ Hc ⟨dn,rest,ys,v4,v5,v6,m',hm',h⟩=>⟨m',hm',dn,rest,ys,v4,v5,v6,h⟩,?_⟩
  have dpd:cy d.2.2 <= 6:=by
   have:=O.de.at' dn.length d (by rw [eds,List.getElem?_append_right (Nat.le_refl _),Nat.sub_self];rfl)
   exact this.2.2.2.1
  try dsimp only
  refine ag fun N1 J1=>J1 _ _ ?_
  clear J1 N1
  try dsimp only
  refine ag fun N1 J1=>⟨N,X,L,xs,_,_,_,d.2.2,.fin,by rw [l2];push_cast;rfl,sX,hL,fr,efs2,rfl,dpd,lx,fun p1 R1 y1 H4 s4 ep1 eR1 pt1=>⟨p1,_,rfl,SqT.of ep1,rfl,_,_,rfl,_,_,rfl,rfl,J1 _ _ ?_⟩⟩
  clear J1 N1
  have sX4:=sX.trans s4
  have hL4:=SqL.of (K:=K) (sX4 _ _ hL)
  have hT4:=SqT.of (K:=K) (sX4 _ _ ha)
  try dsimp only
  refine ag fun N1 J1=>⟨Or.inl ⟨rfl,_,SqL.of (s4 _ _ hGc)⟩,lix hL4 av (tix (j:=1) hT4 rfl (lix hL4 av (tix (j:=2) hT4 rfl (Or.inl ⟨p,_,rfl,Or.inl (SqL.of (sX4 _ _ hp)),fun l hl=>?_⟩))))⟩
  obtain ⟨s5,e5⟩:=alc hl (HO.lst (nV N d.2.1))
  generalize upd H4 l _=H5 at s5 e5 ⊢
  refine fun r6 dx6 hr6 hd_ hne_=>⟨_,_,_,_,_,_,_,_,_,rfl,rfl,hr6,hd_,SqL.of e5,SqL.of (s5 _ _ eR1),fun n6 n7 H6 f6 f7 s6 h6 h7 hx=>⟨rfl,?_⟩⟩
  have s36:=s4.trans (s5.trans s6)
  have lz:zs.length=dn.length:=by rw [pz.len,uA]
  have ld:dn.length <= 3:=by
   have:=O.dl
   rw [eds,List.length_append] at this
   omega
  refine ⟨_,_,_,rfl,rfl,s36 _ _ hGc,aG (by omega),J1 _ _ ?_⟩
  have s7:Sm [F,G] H6 (upd H6 G (.lst (zs ++ [V.ref r6]))):=Sm.at mG _
  have em':rest.length + 1=m:=em
  have sn:ah Hd H4:=s4
  refine ⟨dn ++ [d],rest,zs ++ [V.ref r6],some (.int (((hs.length + (aW dn).length:Nat):Int) + 1)),some (.ref R1),some (.int (((hs.map Fr.leaf ++ aW dn ++ [Fr.ba d.1 d.2.1]).length + (aw d.2.2).length:Nat):Int)),rest.length,by omega,by rw [eds];simp,rfl,?_,(sc.trans (Sm.new s36)).trans s7,ao (Ne.symm GF) (s36 _ _ hFc),ak,aB.same (jN XG H2G) _ _ (aB.same (cX s36) _ _ pt),?_⟩
  ·have:(((hs.map Fr.leaf ++ aW dn ++ [Fr.ba d.1 d.2.1]).length + (aw d.2.2).length:Nat):Int) + 1=((hs.length + (aW (dn ++ [d])).length:Nat):Int):=by
    rw [l2]
    unfold aW
    rw [List.flatMap_append,List.length_append]
    simp [flD]
    omega
   rw [<- this]
   rfl
  ·rw [uy,deP,deP]
   refine aB.snoc (aB.same (jN XG H2G) _ _ (aB.same (cX s36) _ _ pz)) (bt.same (jN XG H2G) _ _ (bt.same (kh nb) _ _ (X:=rsH X Hd H6) ?_))
   unfold bt
   rw [l2] at pt1
   have e9:(((hs.length:Nat):Int) + 1 + ((aW dn).length:Nat))=((hs.length + (aW dn).length:Nat):Int) + 1:=by push_cast;omega
   rw [e9]
   refine ⟨r6,dx6,n6,n7,y1,rfl,bP (ah.free (s4.trans s5) hr6) hx,bP (ah.free (s4.trans s5) f6) h6,bP (ah.free (s4.trans s5) f7) h7,?_⟩
   have:=aB.same (cX (s5.trans s6)) _ _ pt1
   push_cast at this ⊢
   exact this
 | nil =>
 rw [List.append_nil] at eds
 subst eds
 have efs:flA hs ds mb=(hs.map Fr.leaf ++ aW ds) ++ .main :: (aw mb ++ [.fin]):=rfl
 have efs2:flA hs ds mb=(hs.map Fr.leaf ++ aW ds ++ [.main]) ++ aw mb ++ .fin :: []:=by
  rw [efs]
  simp
 have l2:(hs.map Fr.leaf ++ aW ds ++ [Fr.main]).length=hs.length + (aW ds).length + 1:=by simp only [List.length_append,List.length_map,List.length_singleton]
 obtain ⟨v,av,⟨a,p,rfl,ha,hob⟩⟩:=kL fr efs
 rw [List.length_append,List.length_map] at av
 refine lix hLc av (tix (j:=0) (SqT.of (sX _ _ ha)) rfl ⟨rfl,_,rfl,bj (fun z=>absurd z (show ¬ decide (V.str "main"=V.str "deed")=true by decide)) (fun _=>K1 _ _ ?_)⟩)
 clear K1 M1
 try dsimp only
 refine ag fun M1 K1=>⟨N,X,L,xs,_,_,_,mb,.fin,by rw [l2];push_cast;rfl,sX,hL,fr,efs2,rfl,O.md,lx,fun p1 R1 y1 H4 s4 ep1 eR1 pt1=>⟨p1,_,rfl,SqT.of ep1,rfl,_,_,rfl,_,_,rfl,rfl,K1 _ _ ?_⟩⟩
 clear K1 M1
 try dsimp only
 refine fun r6 dx6 hr6 hd_ hne_=>⟨_,_,_,_,_,_,_,_,_,rfl,rfl,hr6,hd_,SqL.of (s4 _ _ hFc),SqL.of (s4 _ _ hGc),SqL.of eR1,fun n6 n7 n8 H6 f6 f7 f8 s6 h6 h7 h8 hx=>⟨rfl,q _ H6 ((fhq sc).trans (s4.trans s6)) ?_⟩⟩
 rw [l2] at pt1
 refine ⟨r6,dx6,n6,n7,n8,_,_,_,rfl,hx,h6,h7,h8,aB.same (qh.trans (s4.trans s6)) _ _ pt,aB.same (qh.trans (s4.trans s6)) _ _ pz,?_⟩
 have:=aB.same (qh.trans s6) _ _ pt1
 unfold msN
 push_cast at this ⊢
 rw [show (↑hs.length + ↑(aW ds).length + 2:Int)=↑hs.length + ↑(aW ds).length + 1 + 1 by omega]
 exact this
end
section
variable {P:Program}{w:World}{K:W.Frag}{mg:Str->Option Value}{base:Heap}{A:Adr}{N:Nat->Str}
def isB:Fr->Bool
 | .leaf r=>decide (5 <= r.ci)
 | .iff _ _ _=>true
 | .loop _ _ _ _=>true
 | _=>false
def stp (N:Nat->Str) (s:List (Option Str)) (n:Int):Fr->List (Option Str)
 | .ba i _=>[some (N i)]
 | .main=>[none]
 | .fin=>s.tail
 | .iff _ _ _=>some (bu n) :: s
 | .loop _ _ _ _=>some (bu n) :: s
 | _=>s
def vn (l:List Str) (n:Int):Fr->List Str
 | .loop _ _ _ _=>bu n :: l
 | .iff _ _ _=>Str.empty :: l
 | .fin=>l.tail
 | _=>l
def lpO (l:List Str):Option Str:=l.find? fun x=>decide (x ≠ Str.empty)
abbrev En:=Fr × Int × Option Str × Str
def aR (N:Nat->Str):List (Option Str)->List Str->Int->List Fr->List En
 | _,_,_,[]=>[]
 | s,l,n,f :: fs=>(if isB f=true then [(f,n,s.headD none,(lpO l).getD Str.empty)] else []) ++ aR N (stp N s n f) (vn l n f) (n + 1) fs
def gd (N:Nat->Str):List (Option Str)->Int->List Fr->Prop
 | _,_,[]=>True
 | s,n,f :: fs=>((isB f=true \/ f=.fin)->s ≠ [])/\gd N (stp N s n f) (n + 1) fs
def frP:Pt->Fr
 | .leaf _ r=>.leaf r
 | .iff _ v l r _ _=>.iff v l r
 | .loop _ t m l r _=>.loop t m l r
 | .ba _ i ps _=>.ba i ps
def eF (e:Le):En:=(frP e.1,e.1.no,e.2.1,e.2.2.getD Str.empty)
theorem yo (n:Int):4 <= (bu n).length:=by
 unfold bu
 rw [fF,fF]
 exact Nat.le_trans (show 4 <= (Str.empty.length + ("row ":Str).length) by decide) (Nat.le_add_right _ _)
theorem AK (n:Int):bu n ≠ Str.empty:=fun e=>by
 have:=yo n
 rw [e] at this
 exact absurd this (by decide)
theorem zy (n:Int) (l:List Str):lpO (bu n :: l)=some (bu n):=by
 unfold lpO
 rw [List.find?_cons,decide_eq_true (AK n)]
theorem zX (l:List Str):lpO (Str.empty :: l)=lpO l:=by
 unfold lpO
 rw [List.find?_cons,decide_eq_false fun z=>z rfl]
theorem C6 {ps:List Nat}{dd:List (Nat × Nat)}{lp:Bool}{r:Lr} (h:sY ps dd lp r):isB (.leaf r)=true:=by
 cases r <;> first | rfl | exact h.elim
theorem BO {lp:Option Str}{t:Pt}{ts:List Pt}{pl:Option Str}:bq pl lp (t :: ts)=(t,pl,lp) :: (fC lp t ++ bq pl lp ts):=by rw [bq]
mutual
theorem Az {ps:List Nat}{dd:List (Nat × Nat)}:∀(t:Tr) (lp:Bool) (pl:Option Str) (s:List (Option Str)) (l:List Str) (n:Int) (rest:List Fr),okT ps dd lp t ->
  aR N (pl :: s) l n (flT t ++ rest)=((ptT n t,pl,lpO l) :: fC (lpO l) (ptT n t)).map eF ++ aR N (pl :: s) l (n + ((flT t).length:Nat)) rest
 | .leaf r,lp,pl,s,l,n,rest,ok=>by
  rw [okT] at ok
  rw [flT,ptT,fC]
  show aR N _ _ _ (.leaf r :: rest)=_
  rw [aR,if_pos (C6 ok)]
  rfl
 | .iff v a b f o,lp,pl,s,l,n,rest,ok=>by
  rw [okT] at ok
  rw [flT,ptT,fC]
  have e:(Fr.iff v a b :: (aw f ++ .els :: (aw o ++ [.fin]))) ++ rest=.iff v a b :: (aw f ++ (.els :: (aw o ++ (.fin :: rest)))):=by simp
  rw [e,aR,if_pos (show isB _=true from rfl)]
  have h1:=gJ f lp (some (bu n)) (pl :: s) (Str.empty :: l) (n + 1) (.els :: (aw o ++ (.fin :: rest))) ok.2.1
  have h2:=gJ o lp (some (bu n)) (pl :: s) (Str.empty :: l) (n + 1 + ((aw f).length:Nat) + 1) (.fin :: rest) ok.2.2
  rw [zX] at h1 h2
  show _ ++ aR N (some (bu n) :: pl :: s) (Str.empty :: l) (n + 1) _=_
  rw [h1,aR,if_neg (by decide)]
  show _ ++ (_ ++ ([] ++ aR N (some (bu n) :: pl :: s) (Str.empty :: l) _ _))=_
  rw [h2,aR,if_neg (by decide)]
  show _ ++ (_ ++ ([] ++ (_ ++ ([] ++ aR N (pl :: s) l _ rest))))=_
  rw [show n + 2 + ((aw f).length:Nat)=n + 1 + ((aw f).length:Nat) + 1 by omega,List.length_cons,List.length_append,List.length_cons,List.length_append,List.length_singleton]
  rw [show n + 1 + ((aw f).length:Nat) + 1 + ((aw o).length:Nat) + 1=n + (((aw f).length + ((aw o).length + 1 + 1) + 1:Nat):Int) by push_cast;omega]
  rw [List.map_cons,List.map_append]
  simp only [List.nil_append,List.append_assoc,List.cons_append]
  rfl
 | .loop t m a b c,lp,pl,s,l,n,rest,ok=>by
  rw [okT] at ok
  rw [flT,ptT,fC]
  have e:(Fr.loop t m a b :: (aw c ++ [.fin])) ++ rest=.loop t m a b :: (aw c ++ (.fin :: rest)):=by simp
  rw [e,aR,if_pos (show isB _=true from rfl)]
  have h1:=gJ c true (some (bu n)) (pl :: s) (bu n :: l) (n + 1) (.fin :: rest) ok.2.2.2
  rw [zy] at h1
  show _ ++ aR N (some (bu n) :: pl :: s) (bu n :: l) (n + 1) _=_
  rw [h1,aR,if_neg (by decide)]
  show _ ++ (_ ++ ([] ++ aR N (pl :: s) l _ rest))=_
  rw [List.length_cons,List.length_append,List.length_singleton,show n + 1 + ((aw c).length:Nat) + 1=n + (((aw c).length + 1 + 1:Nat):Int) by push_cast;omega,List.map_cons]
  simp only [List.nil_append,List.append_assoc,List.cons_append]
  rfl
theorem gJ {ps:List Nat}{dd:List (Nat × Nat)}:∀(ts:List Tr) (lp:Bool) (pl:Option Str) (s:List (Option Str)) (l:List Str) (n:Int) (rest:List Fr),cb ps dd lp ts ->
  aR N (pl :: s) l n (aw ts ++ rest)=(bq pl (lpO l) (bB n ts)).map eF ++ aR N (pl :: s) l (n + ((aw ts).length:Nat)) rest
 | [],lp,pl,s,l,n,rest,ok=>by
  rw [aw,bB,bq]
  simp
 | t :: ts,lp,pl,s,l,n,rest,ok=>by
  rw [cb] at ok
  rw [aw,bB,BO,List.append_assoc,Az t lp pl s l n _ ok.1,gJ ts lp pl s l _ rest ok.2,List.length_append]
  rw [show n + ((flT t).length:Nat) + ((aw ts).length:Nat)=n + (((flT t).length + (aw ts).length:Nat):Int) by push_cast;omega]
  simp only [List.map_cons,List.map_append,List.append_assoc,List.cons_append]
end
mutual
theorem DS:∀(t:Tr) (pl:Option Str) (s:List (Option Str)) (n:Int) (rest:List Fr),gd N (pl :: s) (n + ((flT t).length:Nat)) rest->gd N (pl :: s) n (flT t ++ rest)
 | .leaf r,pl,s,n,rest,h=>by
  rw [flT] at h ⊢
  show gd N _ _ (.leaf r :: rest)
  exact ⟨fun _ z=>(by cases z),h⟩
 | .iff v a b f o,pl,s,n,rest,h=>by
  rw [flT] at h ⊢
  have e:(Fr.iff v a b :: (aw f ++ .els :: (aw o ++ [.fin]))) ++ rest=.iff v a b :: (aw f ++ (.els :: (aw o ++ (.fin :: rest)))):=by simp
  rw [e]
  refine ⟨fun _ z=>(by cases z),oI f (some (bu n)) (pl :: s) (n + 1) _ ⟨fun _ z=>(by cases z),oI o (some (bu n)) (pl :: s) _ _ ⟨fun _ z=>(by cases z),?_⟩⟩⟩
  rw [List.length_cons,List.length_append,List.length_cons,List.length_append,List.length_singleton,show n + (((aw f).length + ((aw o).length + 1 + 1) + 1:Nat):Int)=n + 1 + ((aw f).length:Nat) + 1 + ((aw o).length:Nat) + 1 by push_cast;omega] at h
  exact h
 | .loop t m a b c,pl,s,n,rest,h=>by
  rw [flT] at h ⊢
  have e:(Fr.loop t m a b :: (aw c ++ [.fin])) ++ rest=.loop t m a b :: (aw c ++ (.fin :: rest)):=by simp
  rw [e]
  refine ⟨fun _ z=>(by cases z),oI c (some (bu n)) (pl :: s) (n + 1) _ ⟨fun _ z=>(by cases z),?_⟩⟩
  rw [List.length_cons,List.length_append,List.length_singleton,show n + (((aw c).length + 1 + 1:Nat):Int)=n + 1 + ((aw c).length:Nat) + 1 by push_cast;omega] at h
  exact h
theorem oI:∀(ts:List Tr) (pl:Option Str) (s:List (Option Str)) (n:Int) (rest:List Fr),gd N (pl :: s) (n + ((aw ts).length:Nat)) rest->gd N (pl :: s) n (aw ts ++ rest)
 | [],pl,s,n,rest,h=>by
  rw [aw] at h ⊢
  simpa using h
 | t :: ts,pl,s,n,rest,h=>by
  rw [aw] at h ⊢
  rw [List.append_assoc]
  refine DS t pl s n _ (oI ts pl s _ rest ?_)
  rw [List.length_append,show n + (((flT t).length + (aw ts).length:Nat):Int)=n + ((flT t).length:Nat) + ((aw ts).length:Nat) by push_cast;omega] at h
  exact h
end
theorem tI:∀(hs:List Lr) (n:Int) (rest:List Fr),(∀r ∈ hs,r.ci < 5)->aR N [] [] n (hs.map Fr.leaf ++ rest)=aR N [] [] (n + (hs.length:Nat)) rest/\(gd N [] (n + (hs.length:Nat)) rest->gd N [] n (hs.map Fr.leaf ++ rest))
 | [],n,rest,_=>by simp
 | r :: hs,n,rest,h=>by
  have c:=h r List.mem_cons_self
  have nb:¬ isB (.leaf r)=true:=fun z=>by
   have:5 <= r.ci:=of_decide_eq_true z
   omega
  obtain ⟨h1,h2⟩:=tI hs (n + 1) rest fun r hr=>h r (List.mem_cons_of_mem _ hr)
  have e:n + ((r :: hs).length:Nat)=n + 1 + (hs.length:Nat):=by rw [List.length_cons];push_cast;omega
  rw [e]
  refine ⟨?_,fun g=>⟨fun z=>?_,h2 g⟩⟩
  ·rw [List.map_cons,List.cons_append,aR,if_neg nb,List.nil_append,<- h1]
   rfl
  ·rcases z with z | z
   ·exact absurd z nb
   ·cases z
theorem uk (ddA:List De->List (Nat × Nat)):∀(ds:List De) (n:Int) (rest:List Fr),(∀d ∈ ds,∃dd,cb d.2.1 dd false d.2.2) ->
  aR N [] [] n (aW ds ++ rest)=(fH N (deP n ds)).map eF ++ aR N [] [] (n + ((aW ds).length:Nat)) rest/\(gd N [] (n + ((aW ds).length:Nat)) rest->gd N [] n (aW ds ++ rest))
 | [],n,rest,_=>by simp [aW,deP,fH]
 | d :: ds,n,rest,h=>by
  obtain ⟨dd,ok⟩:=h d List.mem_cons_self
  obtain ⟨h1,h2⟩:=uk ddA ds (n + ((flD d).length:Nat)) rest fun d hd=>h d (List.mem_cons_of_mem _ hd)
  have e:aW (d :: ds) ++ rest=.ba d.1 d.2.1 :: (aw d.2.2 ++ (.fin :: (aW ds ++ rest))):=by
   show flD d ++ aW ds ++ rest=_
   simp [flD]
  have el:n + ((aW (d :: ds)).length:Nat)=n + ((flD d).length:Nat) + ((aW ds).length:Nat):=by
   show n + ((flD d ++ aW ds).length:Nat)=_
   rw [List.length_append]
   push_cast
   omega
  have ef:n + 1 + ((aw d.2.2).length:Nat) + 1=n + ((flD d).length:Nat):=by
   unfold flD
   rw [List.length_cons,List.length_append,List.length_singleton]
   push_cast
   omega
  rw [e,el]
  constructor
  ·rw [aR,if_neg (by show ¬ false=true;decide)]
   show [] ++ aR N (some (N d.1) :: []) [] (n + 1) _=_
   rw [gJ d.2.2 false (some (N d.1)) [] [] (n + 1) _ ok,aR,if_neg (by decide)]
   show [] ++ (_ ++ ([] ++ aR N [] [] (n + 1 + ((aw d.2.2).length:Nat) + 1) (aW ds ++ rest)))=_
   rw [ef,h1,deP]
   show _=List.map eF (bq (some (N d.1)) none (bB (n + 1) d.2.2) ++ fH N (deP _ ds)) ++ _
   rw [List.map_append]
   simp only [List.nil_append,List.append_assoc]
   rfl
  ·intro g
   refine ⟨fun z=>?_,?_⟩
   ·rcases z with z | z <;> cases z
   ·show gd N (some (N d.1) :: []) (n + 1) _
    refine oI d.2.2 _ _ _ _ ⟨fun _ z=>(by cases z),?_⟩
    show gd N [] (n + 1 + ((aw d.2.2).length:Nat) + 1) (aW ds ++ rest)
    rw [ef]
    exact h2 g
theorem mj {hs:List Lr}{ds:List De}{mb:List Tr} (O:j7 hs ds mb):aR N [] [] 1 (flA hs ds mb)=(b8 N (deP ((hs.length:Nat) + 1) ds) (bB (msN hs ds) mb)).map eF/\gd N [] 1 (flA hs ds mb):=by
 have hd:∀r ∈ hs,r.ci < 5:=by
  obtain ⟨rk,z,t,rfl,_⟩:=O.hd
  intro r hr
  have hr:r ∈ lT rk z:=by
   unfold nN at hr
   rcases List.mem_append.mp hr with h | h
   ·exact List.mem_of_mem_drop h
   ·exact List.mem_of_mem_take h
  unfold lT at hr
  simp only [List.mem_cons,List.not_mem_nil,or_false] at hr
  rcases hr with rfl | rfl | rfl | rfl | rfl | rfl | rfl | rfl | rfl | rfl | rfl <;> simp [Lr.ci]
 have okd:∀d ∈ ds,∃dd,cb d.2.1 dd false d.2.2:=fun d m=>by
  obtain ⟨k,hk⟩:=List.getElem?_of_mem m
  exact ⟨_,(O.de.at' k d hk).2.2.1⟩
 have e:flA hs ds mb=hs.map Fr.leaf ++ (aW ds ++ (.main :: (aw mb ++ (.fin :: [])))):=by
  unfold flA
  simp
 obtain ⟨a1,a2⟩:=tI (N:=N) hs 1 (aW ds ++ (.main :: (aw mb ++ (.fin :: [])))) hd
 obtain ⟨b1,b2⟩:=uk (N:=N) lP ds (1 + (hs.length:Nat)) (.main :: (aw mb ++ (.fin :: []))) okd
 have en:(1:Int) + (hs.length:Nat)=(hs.length:Nat) + 1:=by omega
 have em:(1:Int) + (hs.length:Nat) + ((aW ds).length:Nat) + 1=msN hs ds:=by unfold msN;push_cast;omega
 rw [e]
 constructor
 ·rw [a1,b1,aR,if_neg (by decide)]
  show _ ++ ([] ++ aR N (none :: []) [] _ _)=_
  rw [em,gJ mb false none [] [] _ _ O.mo,aR,if_neg (by decide)]
  show _ ++ ([] ++ (_ ++ ([] ++ aR N [] [] _ [])))=_
  rw [aR,en]
  unfold b8
  rw [List.map_append]
  simp only [List.nil_append,List.append_nil]
  rfl
 ·refine a2 (b2 ⟨fun z=>?_,?_⟩)
  ·rcases z with z | z <;> cases z
  ·show gd N (none :: []) _ _
   exact oI mb _ _ _ _ ⟨fun _ z=>(by cases z),trivial⟩
end
section
variable {P:Program}{w:World}{K:W.Frag}{mg:Str->Option Value}{base:Heap}{A:Adr}{N:Nat->Str}
seal PE PA PS PSs PT PW
theorem pP {X H:Hp}{R:Addr} (s:ah X H) (h:X R=none) (o:HO):ah X (upd H R o):=fun a u e=>ao (fun z=>by rw [z,h] at e;cases e) (s a u e)
def stA (N:Nat->Str):List (Option Str)->Int->List Fr->List (Option Str)
 | s,_,[]=>s
 | s,n,f :: fs=>stA N (stp N s n f) (n + 1) fs
def lsA:List Str->Int->List Fr->List Str
 | l,_,[]=>l
 | l,n,f :: fs=>lsA (vn l n f) (n + 1) fs
theorem qV (f:Fr):∀(xs:List Fr) (s:List (Option Str)) (n:Int),stA N s n (xs ++ [f])=stp N (stA N s n xs) (n + (xs.length:Nat)) f
 | [],s,n=>by show stp N s n f=stp N s (n + ((0:Nat):Int)) f;rw [show n + ((0:Nat):Int)=n by omega]
 | x :: xs,s,n=>by
  show stA N (stp N s n x) (n + 1) (xs ++ [f])=stp N (stA N (stp N s n x) (n + 1) xs) _ f
  rw [qV f xs,List.length_cons,show n + 1 + ((xs.length:Nat):Int)=n + ((xs.length + 1:Nat):Int) by omega]
theorem mn (f:Fr):∀(xs:List Fr) (s:List (Option Str)) (l:List Str) (n:Int),aR N s l n (xs ++ [f])=aR N s l n xs ++ (if isB f=true then [(f,n + (xs.length:Nat),(stA N s n xs).headD none,(lpO (lsA l n xs)).getD Str.empty)] else [])
 | [],s,l,n=>by
  show (if isB f=true then _ else _) ++ []=[] ++ _
  rw [List.append_nil,List.nil_append]
  show _=if isB f=true then [(f,n + ((0:Nat):Int),s.headD none,(lpO l).getD Str.empty)] else []
  rw [show n + ((0:Nat):Int)=n by omega]
 | x :: xs,s,l,n=>by
  show _ ++ aR N (stp N s n x) (vn l n x) (n + 1) (xs ++ [f])=(_ ++ aR N (stp N s n x) (vn l n x) (n + 1) xs) ++ _
  rw [mn f xs,List.length_cons,<- List.append_assoc,show n + 1 + ((xs.length:Nat):Int)=n + ((xs.length + 1:Nat):Int) by omega]
  rfl
theorem zF {f:Fr}:∀{fs:List Fr}{s:List (Option Str)}{n:Int}{i:Nat},gd N s n fs->fs[i]?=some f->isB f=true \/ f=.fin->stA N s n (fs.take i) ≠ []
 | x :: fs,s,n,0,g,h,hf=>by
  cases h
  exact g.1 hf
 | x :: fs,s,n,i + 1,g,h,hf=>zF (fs:=fs) g.2 h hf
theorem lZ {α:Type}{xs:List α}{i:Nat}{x:α} (h:xs[i]?=some x):xs.take (i + 1)=xs.take i ++ [x]:=by rw [List.take_add_one,h];rfl
def laA (N:Nat->Str) (fs:List Fr):Nat->List (Option Str)
 | 0=>[]
 | i + 1=>laA N fs i ++ [if isB (fs.getD i .fin)=true then (stA N [] 1 (fs.take i)).headD none else none]
theorem km (fs:List Fr):∀i,(laA N fs i).length=i
 | 0=>rfl
 | i + 1=>by rw [laA,List.length_append,km fs i,List.length_singleton]
theorem uU {fs:List Fr}{i:Nat}{f:Fr} (h:fs[i]?=some f):∀{n:Nat},i < n->(laA N fs n)[i]?=some (if isB f=true then (stA N [] 1 (fs.take i)).headD none else none)
 | n + 1,hn=>by
  rw [laA]
  by_cases e:i=n
  ·subst e
   rw [List.getElem?_append_right (by rw [km];omega),km,Nat.sub_self,List.getD_eq_getElem?_getD,h]
   rfl
  ·rw [List.getElem?_append_left (by rw [km];omega)]
   exact uU h (by omega)
def nhF:Fr->Bool
 | .els=>true
 | .leaf r=>decide (r.ci < 5)
 | _=>false
theorem Cg (f:Fr):inV (V.str f.wd) [V.str "else",V.str "hand",V.str "given",V.str "own",V.str "let"]=nhF f:=by
 cases f with
 | leaf r=>cases r <;> rfl
 | _=>rfl
def ilF:Fr->Bool
 | .iff _ _ _=>true
 | .loop _ _ _ _=>true
 | _=>false
theorem Cq (f:Fr):inV (V.str f.wd) [V.str "if",V.str "loop"]=ilF f:=by
 cases f with
 | leaf r=>cases r <;> rfl
 | _=>rfl
def xS:Fr->Bool
 | .fin=>true
 | _=>false
theorem xj (f:Fr):decide (f.wd="end")=xS f:=by
 cases f with
 | leaf r=>cases r <;> rfl
 | _=>rfl
def pM (N:Nat->Str) (s:List (Option Str)):Fr->List (Option Str)
 | .ba i _=>[some (N i)]
 | .main=>[none]
 | .fin=>s.tail
 | _=>s
theorem xY (s:List (Option Str)) (n:Int) (f:Fr):stp N s n f=if ilF f=true then some (bu n) :: pM N s f else pM N s f:=by cases f <;> rfl
theorem pW (n:Int):("row ":Str) ++ Str.ofString (toString n)=bu n:=by
 unfold bu
 rw [show Str.empty ++ ("row ":Str)="row " from by decide]
theorem kq {n:Nat} (h:n <= 1000):(n:Int).natAbs.log2 < 1920/\("row ":Str).length + (Str.ofString (toString (n:Int))).length <= sizeLine:=by
 obtain ⟨k1,k2,_⟩:=gD ⟨n,by omega⟩
 exact ⟨k1,Nat.le_trans (Nat.add_le_add_left k2 _) (by decide)⟩
theorem vU {s:List (Option Str)} (h:s ≠ []):s.reverse.map oS=s.tail.reverse.map oS ++ [oS (s.headD none)]:=by
 cases s with
 | nil=>exact absurd rfl h
 | cons x s=>simp
theorem wb (s:List (Option Str)) (f:Fr):(pM N s f).length <= s.length + 1:=by
 cases f with
 | ba _ _=>exact Nat.succ_le_succ (Nat.zero_le _)
 | main=>exact Nat.succ_le_succ (Nat.zero_le _)
 | fin =>
  show s.tail.length <= _
  rw [List.length_tail]
  omega
 | _=>exact Nat.le_succ _
theorem ux:∀(xs:List Fr) (s:List (Option Str)) (n:Int),(stA N s n xs).length <= s.length + xs.length
 | [],s,n=>Nat.le_refl _
 | x :: xs,s,n=>by
  have h:=ux xs (stp N s n x) (n + 1)
  have h1:(stp N s n x).length <= s.length + 1:=by
   cases x with
   | ba _ _=>exact Nat.succ_le_succ (Nat.zero_le _)
   | main=>exact Nat.succ_le_succ (Nat.zero_le _)
   | fin =>
    show s.tail.length <= _
    rw [List.length_tail]
    omega
   | iff _ _ _=>exact Nat.le_refl _
   | loop _ _ _ _=>exact Nat.le_refl _
   | _=>exact Nat.le_succ _
  rw [List.length_cons]
  show (stA N (stp N s n x) (n + 1) xs).length <= _
  omega
inductive rJ (vs:List V) (H:Hp) (Q:VK) (E9:XK):Prop
 | mk (N:Nat->Str) (X:Hp) (L:Addr) (xs:List V) (fs:List Fr) (z0:vs=[.ref L]) (z1:ah X H) (z2:X L=some (.lst xs)) (z3:aY N X fs xs) (z4:gd N [] 1 fs) (z5:xs.length <= 300)
  (z6:∀(R:Addr) (H':Hp),ah H H'->H R=none->H' R=some (.lst ((laA N fs fs.length).map oS))->Q (.ref R) H'):rJ vs H Q E9
theorem yJ (T:Txt K mg A):T.mr.Hz P w base 1 rJ:=by
 refine T.mr.hs cv (fun f' cdv A' outer s H vs Q E' hr hu h=>?_)
 obtain ⟨N,X,L,xs,fs,rfl,s0,hL,fr,hg,lx,q⟩:=h
 have lf:=Paired.length fr
 refine ⟨_,(ab (pst 1 cv.nd (aL ae))
  (ab (pst 2 cv.nd (aL ae))
  (ab (cD PassesOwn.never rfl (bK rfl T.bY (aa (pcB dS T.fJ (aa (fv 0) ae)) ae)) (pgn (i:=3) cv.nd rfl)
   (ab (pst 4 cv.nd (px hu (fv 0) (fv 3)))
   (ab (aS (ptc (ox hu) (px hu (fv 4) af) (aO (aa aj (aa aj ae))) ((by with_unfolding_all rfl)))
    (ab (pst 2 cv.nd (aL (aa (wz (ptc (bZ hu) (px hu (fv 4) af) aj) (px hu (fv 4) af) iy) ae)))
    (ai (aD (aP (fv 1) (aa iy ae)))))
    (ai (aS (ptc (ox hu) (px hu (fv 4) af) (aO (aa aj (aa aj (aa aj (aa aj (aa aj ae)))))) ((by with_unfolding_all rfl)))
     (ai (aD (aP (fv 1) (aa iy ae))))
     (ai (aS (ptc (bZ hu) (px hu (fv 4) af) aj)
      (ab (aD (uG (fv 2)))
      (ai (aD (aP (fv 1) (aa iy ae)))))
      (ai (aD (aP (fv 1) (aa (px hu (fv 2) (jE fZ af)) ae)))))))))
   (ai (aS (ptc (ox hu) (px hu (fv 4) af) (aO (aa aj (aa aj ae))) ((by with_unfolding_all rfl)))
    (ai (aD (aP (fv 2) (aa (au aN aj (pcT tE T.lB (aa (au aN (fv 3) af) ae))) ae))))
    aE)))))
  (ai (aA (fv 1)))))),?_⟩
 refine ag fun M1 K1=>⟨Nat.zero_le _,fun R hR=>?_⟩
 obtain ⟨s1,e1⟩:=alc hR (HO.lst [])
 generalize upd H R _=H1 at s1 e1 ⊢
 refine K1 _ _ ?_
 clear K1 M1
 try dsimp only
 refine ag fun M1 K1=>⟨Nat.zero_le _,fun S hS=>?_⟩
 obtain ⟨s2,e2⟩:=alc hS (HO.lst [])
 have RS:R ≠ S:=fun z=>by rw [<- z,e1] at hS;cases hS
 generalize upd H1 S _=H2 at s2 e2 ⊢
 refine K1 _ _ ?_
 clear K1 M1
 try dsimp only
 refine ag fun M1 K1=>lnl ((s0.trans (s1.trans s2)) _ _ hL) ⟨_,rfl,by omega,by omega,?_⟩
 rw [show ((xs.length:Nat):Int).toNat=fs.length by rw [lf];simp]
 refine cL (fun i σ Hc=>∃(S:Addr) (v3 v4:Option V),σ=[some (.ref L),some (.ref R),some (.ref S),v3,v4]/\ah H Hc/\H S=none/\R ≠ S/\Hc R=some (.lst ((laA N fs i).map oS))/\Hc S=some (.lst ((stA N [] 1 (fs.take i)).reverse.map oS))) ⟨S,none,none,rfl,s1.trans s2,ah.free s1 hS,RS,s2 _ _ e1,by rw [List.take_zero];exact e2⟩ ?_ ?_
 ·clear S hS e2 RS s2 H2 e1 s1 H1 K1
  rintro i σ Hc hi ⟨S,v3,v4,rfl,sc,HS,RS,hRc,hSc⟩
  have ej:(0:Int) + (i:Int)=(i:Int):=by omega
  rw [ej]
  obtain ⟨f,hf⟩:∃f,fs[i]?=some f:=⟨_,List.getElem?_eq_getElem hi⟩
  obtain ⟨v,hv,a,p,rfl,ha,hob⟩:=eZ (i:=i) (a:=f) fr hf
  have sX:=s0.trans sc
  have st1:stA N [] 1 (fs.take (i + 1))=stp N (stA N [] 1 (fs.take i)) ((i:Int) + 1) f:=by
   rw [lZ hf,qV,List.length_take,Nat.min_eq_left (Nat.le_of_lt hi),Int.add_comm]
  have la1:(laA N fs (i + 1)).map oS=(laA N fs i).map oS ++ [oS (if isB f=true then (stA N [] 1 (fs.take i)).headD none else none)]:=by
   rw [laA,List.map_append,List.getD_eq_getElem?_getD,hf]
   rfl
  have lla:=km (N:=N) fs i
  have gda:=zF (i:=i) hg hf
  have lss:=ux (N:=N) (fs.take i) [] 1
  rw [List.length_take,List.length_nil] at lss
  generalize stA N [] 1 (fs.take i)=ss at st1 la1 hSc gda lss ⊢
  generalize laA N fs i=la at la1 hRc lla ⊢
  try dsimp only
  refine ag fun M2 K2=>lxn (SqL.of (sX _ _ hL)) hv (K2 _ _ ?_)
  clear K2 M2
  try dsimp only
  refine ag fun M2 K2=>?_
  have fin:∀(S':Addr) (Hd:Hp),ah H Hd->H S'=none->R ≠ S'->Hd R=some (.lst (la.map oS ++ [oS (if isB f=true then ss.headD none else none)]))->Hd S'=some (.lst ((pM N ss f).reverse.map oS))->M2 [some (.ref L),some (.ref R),some (.ref S'),some (.int i),some (.ref a)] Hd:=by
   intro S' Hd sd HS' RS' hRd hSd
   refine K2 _ _ (tix (j:=0) (SqT.of ((s0.trans sd) _ _ ha)) rfl ⟨by show 2 <= sizeLine;decide,fun tp htp=>?_⟩)
   obtain ⟨s3,e3⟩:=alc htp (HO.tup [V.str "if",.str "loop"])
   generalize upd Hd tp _=H3 at s3 e3 ⊢
   refine Or.inl ⟨_,Or.inr (SqT.of e3),rfl,rfl,_,rfl,?_⟩
   rw [show (if false=true then !inV (V.str f.wd) [V.str "if",V.str "loop"] else inV (V.str f.wd) [V.str "if",V.str "loop"])=ilF f from Cq f]
   refine bj (fun z=>?_) (fun z=>?_)
   ·refine ⟨Or.inl ⟨rfl,_,SqL.of (s3 _ _ hSd)⟩,Or.inl ⟨_,rfl,(kq (n:=i + 1) (by omega)).1,(kq (n:=i + 1) (by omega)).2,_,_,_,rfl,rfl,s3 _ _ hSd,?_,?_⟩⟩
    ·rw [List.length_map,List.length_reverse]
     exact aG (by have:=wb (N:=N) ss f;omega)
    ·refine ⟨S',_,_,rfl,pP (sd.trans s3) HS' _,HS',RS',by rw [la1];exact ao RS' (s3 _ _ hRd),?_⟩
     rw [ak,st1,xY,if_pos z,<- pW]
     simp
     rfl
   ·exact ⟨S',_,_,rfl,sd.trans s3,HS',RS',by rw [la1];exact s3 _ _ hRd,by rw [st1,xY,if_neg z];exact s3 _ _ hSd⟩
  clear K2
  have ap:∀{S':Addr}{Hd:Hp} (v:V),ah H Hd->H S'=none->R ≠ S'->Hd R=some (.lst (la.map oS))->v=oS (if isB f=true then ss.headD none else none)->Hd S'=some (.lst ((pM N ss f).reverse.map oS))->(la.map oS).length < sizeLine/\M2 [some (.ref L),some (.ref R),some (.ref S'),some (.int i),some (.ref a)] (upd Hd R (.lst (la.map oS ++ [v]))):=by
   intro S' Hd v sd HS' RS' hRd hv hSd
   refine ⟨aG (by rw [List.length_map,lla];omega),fin S' _ (pP sd hR _) HS' RS' (by rw [ak,hv]) (ao (fun z=>RS' z.symm) hSd)⟩
  refine tix (j:=0) (SqT.of (sX _ _ ha)) rfl ⟨by show 2 <= sizeLine;decide,fun tp htp=>?_⟩
  obtain ⟨s3,e3⟩:=alc htp (HO.tup [V.str "deed",.str "main"])
  generalize upd Hc tp _=H3 at s3 e3 ⊢
  have c3:=sc.trans s3
  have R3:=s3 _ _ hRc
  have S3:=s3 _ _ hSc
  refine Or.inl ⟨_,Or.inr (SqT.of e3),rfl,rfl,_,rfl,?_⟩
  rw [show (if false=true then !inV (V.str f.wd) [V.str "deed",V.str "main"] else inV (V.str f.wd) [V.str "deed",V.str "main"])=dmF f from xD f]
  refine bj (fun z=>?_) (fun z=>?_)
  ·try dsimp only
   refine ag fun M3 K3=>?_
   have go:∀v,v=oS ((pM N ss f).headD none)->(pM N ss f).length=1->isB f=false->1 <= sizeLine/\∀p,H3 p=none->M3 [some (.ref L),some (.ref R),some (.ref p),some (.int i),some (.ref a)] (upd H3 p (.lst [v])):=by
    intro v ev lv nb
    refine ⟨by decide,fun S' hS'=>?_⟩
    obtain ⟨s4,e4⟩:=alc hS' (HO.lst [v])
    generalize upd H3 S' _=H4 at s4 e4 ⊢
    have RS':R ≠ S':=fun z=>by rw [<- z,R3] at hS';cases hS'
    obtain ⟨b1,b2⟩:=ap (Hd:=H4) V.non (c3.trans s4) (ah.free c3 hS') RS' (s4 _ _ R3) (by rw [nb];rfl) (by
     rw [e4,ev]
     match h:pM N ss f,lv with
     | [x],_=>rfl)
    exact K3 _ _ ⟨Or.inl ⟨rfl,_,SqL.of (s4 _ _ R3)⟩,_,_,_,rfl,rfl,s4 _ _ R3,b1,b2⟩
   clear K3
   cases f with
   | ba k ps =>
    refine tix (j:=0) (SqT.of ((s0.trans c3) _ _ ha)) rfl ⟨rfl,_,rfl,bj (fun _=>?_) (fun z=>absurd (decide_eq_true rfl) z)⟩
    exact tix (j:=1) (SqT.of ((s0.trans c3) _ _ ha)) rfl (go _ rfl rfl rfl)
   | main =>
    exact tix (j:=0) (SqT.of ((s0.trans c3) _ _ ha)) rfl ⟨rfl,_,rfl,bj (fun z=>absurd (V.str.inj (of_decide_eq_true z)) (by decide)) (fun _=>go _ rfl rfl rfl)⟩
   | _=>cases z
  have sp:xS f=false->pM N ss f=ss:=by
   intro n
   cases f with
   | ba _ _=>exact absurd rfl z
   | main=>exact absurd rfl z
   | fin=>cases n
   | _=>rfl
  refine tix (j:=0) (SqT.of ((s0.trans c3) _ _ ha)) rfl ⟨by show 5 <= sizeLine;decide,fun tp5 htp5=>?_⟩
  obtain ⟨s5,e5⟩:=alc htp5 (HO.tup [V.str "else",V.str "hand",V.str "given",V.str "own",V.str "let"])
  generalize upd H3 tp5 _=H5 at s5 e5 ⊢
  have c5:=c3.trans s5
  have R5:=s5 _ _ R3
  have S5:=s5 _ _ S3
  refine Or.inl ⟨_,Or.inr (SqT.of e5),rfl,rfl,_,rfl,?_⟩
  rw [show (if false=true then !inV (V.str f.wd) [V.str "else",V.str "hand",V.str "given",V.str "own",V.str "let"] else inV (V.str f.wd) [V.str "else",V.str "hand",V.str "given",V.str "own",V.str "let"])=nhF f from Cg f]
  refine bj (fun y=>?_) (fun y=>?_)
  ·have nb:isB f=false/\xS f=false:=by
    cases f with
    | leaf r =>
     have:r.ci < 5:=of_decide_eq_true y
     exact ⟨decide_eq_false (by omega),rfl⟩
    | els=>exact ⟨rfl,rfl⟩
    | _=>cases y
   obtain ⟨b1,b2⟩:=ap (Hd:=H5) V.non c5 HS RS R5 (by rw [nb.1];rfl) (by rw [sp nb.2];exact S5)
   exact ⟨Or.inl ⟨rfl,_,SqL.of R5⟩,_,_,_,rfl,rfl,R5,b1,b2⟩
  refine tix (j:=0) (SqT.of ((s0.trans c5) _ _ ha)) rfl ⟨rfl,_,rfl,bj (fun x=>?_) (fun x=>?_)⟩
  ·have ef:xS f=true:=by rw [<- xj];exact decide_eq_true (V.str.inj (of_decide_eq_true x))
   have ef:f=.fin:=by cases f <;> first | rfl | cases ef
   subst ef
   have ne:=gda (.inr rfl)
   rw [vU ne] at S5
   try dsimp only
   refine ag fun M3 K3=>⟨Or.inl ⟨rfl,_,SqL.of S5⟩,zB S5 (?_)⟩
   obtain ⟨b1,b2⟩:=ap (S':=S) (Hd:=upd H5 S (.lst (ss.tail.reverse.map oS))) V.non (pP c5 HS _) HS RS (ao RS R5) rfl ak
   exact K3 _ _ ⟨Or.inl ⟨rfl,_,SqL.of (ao RS R5)⟩,_,_,_,rfl,rfl,ao RS R5,b1,b2⟩
  ·have nf:xS f=false:=by
    rw [<- xj]
    exact decide_eq_false fun e=>x (decide_eq_true (by rw [e]))
   have hb:isB f=true:=by
    cases f with
    | leaf r =>
     have y:¬ (decide (r.ci < 5)=true):=y
     exact decide_eq_true (by have:=of_decide_eq_false (Bool.eq_false_iff.mpr y);omega)
    | ba _ _=>exact absurd rfl z
    | main=>exact absurd rfl z
    | els=>exact absurd rfl y
    | fin=>cases nf
    | _=>rfl
   have ne:=gda (.inl hb)
   obtain ⟨b1,b2⟩:=ap (Hd:=H5) (oS (ss.headD none)) c5 HS RS R5 (by rw [if_pos hb]) (by rw [sp nf];exact S5)
   refine ⟨Or.inl ⟨rfl,_,SqL.of R5⟩,_,rfl,lix (SqL.of S5) (v:=oS (ss.headD none)) (by rw [vU ne];exact xH _ _) ⟨_,_,_,rfl,rfl,R5,b1,b2⟩⟩
 rintro σ Hc ⟨S,v3,v4,rfl,sc,HS,RS,hRc,hSc⟩
 exact K1 _ _ (q R Hc sc hR hRc)
end
section
variable {P:Program}{w:World}{K:W.Frag}{mg:Str->Option Value}{base:Heap}{A:Adr}{N:Nat->Str}
mutual
theorem CG:∀(t:Tr) (n:Int),dep (ptT n t)=dpT t
 | .leaf r,n=>by rw [ptT,dep,dpT]
 | .iff v a c f o,n=>by rw [ptT,dep,dpT,kO f,kO o]
 | .loop t m a c d,n=>by rw [ptT,dep,dpT,kO d]
theorem kO:∀(ts:List Tr) (n:Int),lb (bB n ts)=cy ts
 | [],n=>by rw [bB,lb,cy]
 | t :: ts,n=>by rw [bB,lb,cy,CG t,kO ts]
end
theorem kX (N:Nat->Str):∀(fs:List Fr) (s:List (Option Str)) (l:List Str) (n:Int),(aR N s l n fs).length <= fs.length
 | [],s,l,n=>by rw [aR];exact Nat.le_refl _
 | f :: fs,s,l,n=>by
  have h:=kX N fs (stp N s n f) (vn l n f) (n + 1)
  rw [aR,List.length_append,List.length_cons]
  have:(if isB f=true then [(f,n,s.headD none,(lpO l).getD Str.empty)] else []).length <= 1:=by split <;> simp
  omega
theorem j4 {ps:List Nat}{dd:List (Nat × Nat)}{ts:List Tr}{b:Bool} (ok:cb ps dd b ts) (pl:Option Str) (n:Int):(bq pl none (bB n ts)).length <= (aw ts).length:=by
 have h:=gJ (N:=fun _=>Str.empty) ts b pl [] [] n [] ok
 have h2:=kX (fun _=>Str.empty) (aw ts ++ []) [pl] [] n
 rw [h,aR,List.append_nil,List.length_map,List.append_nil] at h2
 exact h2
theorem ud:∀{ds:List De}{n:Int}{k:Nat}{p:Pt},(deP n ds)[k]?=some p->∃d n',ds[k]?=some d/\n <= n'/\n' + ((flD d).length:Nat) <= n + ((aW ds).length:Nat)/\p=.ba n' d.1 d.2.1 (bB (n' + 1) d.2.2)
 | [],n,k,p,h=>by rw [deP] at h;simp at h
 | d :: ds,n,0,p,h=>by
  rw [deP] at h
  cases h
  refine ⟨d,n,rfl,Int.le_refl _,?_,rfl⟩
  show _ <= n + (((flD d ++ aW ds).length:Nat):Int)
  rw [List.length_append]
  push_cast
  omega
 | d :: ds,n,k + 1,p,h=>by
  rw [deP] at h
  obtain ⟨d',n',h1,h2,h3,h4⟩:=ud (ds:=ds) (k:=k) h
  refine ⟨d',n',h1,by omega,?_,h4⟩
  show _ <= n + (((flD d ++ aW ds).length:Nat):Int)
  rw [List.length_append]
  push_cast
  push_cast at h3
  omega
theorem Ap {α β:Type}{f:α->β}{l:List α} (h:l.Nodup) (i:∀x ∈ l,∀y ∈ l,f x=f y->x=y):(l.map f).Nodup:=by
 induction l with
 | nil=>exact List.nodup_nil
 | cons x r ih =>
  rw [List.nodup_cons] at h
  rw [List.map_cons,List.nodup_cons]
  refine ⟨fun m=>?_,ih h.2 fun a ha b hb=>i a (List.mem_cons_of_mem _ ha) b (List.mem_cons_of_mem _ hb)⟩
  obtain ⟨y,my,e⟩:=List.mem_map.mp m
  have:=i y (List.mem_cons_of_mem _ my) x List.mem_cons_self e
  exact h.1 (this ▸ my)
theorem uH {hs:List Lr}{ds:List De}{mb:List Tr} (O:j7 hs ds mb):hs.length=11/\(aW ds).length <= 57/\(aw mb).length <= 48:=by
 refine ⟨?_,?_,O.ml⟩
 ·obtain ⟨rk,z,t,rfl,_,_,_,ht⟩:=O.hd
  unfold nN
  rw [List.length_append,List.length_drop,List.length_take,show (lT rk z).length=11 from rfl]
  omega
 ·have dl:=O.dl
  match ds,dl with
  | [a,b,c],_ =>
   have h0:=(O.de.at' 0 a rfl).2.2.2.2
   have h1:=(O.de.at' 1 b rfl).2.2.2.2
   have h2:=(O.de.at' 2 c rfl).2.2.2.2
   show (flD a ++ (flD b ++ (flD c ++ []))).length <= 57
   unfold flD
   simp only [List.length_append,List.length_cons,List.length_nil]
   omega
theorem uR {hs:List Lr}{ds:List De}{mb:List Tr} (O:j7 hs ds mb):(b8 N (deP ((hs.length:Nat) + 1) ds) (bB (msN hs ds) mb)).length <= 99:=by
 unfold b8
 rw [List.length_append]
 have h1:=j4 O.mo none (msN hs ds)
 have h2:=O.ml
 have h3:(fH N (deP ((hs.length:Nat) + 1) ds)).length <= 51:=by
  generalize ((hs.length:Nat):Int) + 1=n
  have dl:=O.dl
  match ds,dl with
  | [a,b,c],_ =>
   obtain ⟨_,_,o0,_,h0⟩:=O.de.at' 0 a rfl
   obtain ⟨_,_,o1,_,h1⟩:=O.de.at' 1 b rfl
   obtain ⟨_,_,o2,_,h2⟩:=O.de.at' 2 c rfl
   rw [deP,deP,deP,deP]
   show (bq (some (N a.1)) none (bB _ a.2.2) ++ (bq (some (N b.1)) none (bB _ b.2.2) ++ (bq (some (N c.1)) none (bB _ c.2.2) ++ []))).length <= 51
   simp only [List.length_append,List.length_nil]
   have:=j4 o0 (some (N a.1)) (n + 1)
   have:=j4 o1 (some (N b.1)) (n + ((flD a).length:Nat) + 1)
   have:=j4 o2 (some (N c.1)) (n + ((flD a).length:Nat) + ((flD b).length:Nat) + 1)
   omega
 omega
end
section
variable {P:Program}{w:World}{K:W.Frag}{mg:Str->Option Value}{base:Heap}{A:Adr}{N:Nat->Str}
def Ao (ps:List Nat) (dd:List (Nat × Nat)):Fr->Prop
 | .leaf r=>∃lp,sY ps dd lp r
 | .ba _ _=>False
 | .main=>False
 | _=>True
mutual
theorem C0 {ps:List Nat}{dd:List (Nat × Nat)}:∀(t:Tr) (b:Bool),okT ps dd b t->∀f ∈ flT t,Ao ps dd f
 | .leaf r,b,ok=>by
  rw [okT] at ok
  rw [flT]
  intro f hf
  rw [List.mem_singleton.mp hf]
  exact ⟨b,ok⟩
 | .iff v a c f o,b,ok=>by
  rw [okT] at ok
  rw [flT]
  intro e he
  rcases List.mem_cons.mp he with rfl | he
  ·trivial
  rcases List.mem_append.mp he with he | he
  ·exact oU f b ok.2.1 e he
  rcases List.mem_cons.mp he with rfl | he
  ·trivial
  rcases List.mem_append.mp he with he | he
  ·exact oU o b ok.2.2 e he
  ·rw [List.mem_singleton.mp he]
   trivial
 | .loop t m a c d,b,ok=>by
  rw [okT] at ok
  rw [flT]
  intro e he
  rcases List.mem_cons.mp he with rfl | he
  ·trivial
  rcases List.mem_append.mp he with he | he
  ·exact oU d true ok.2.2.2 e he
  ·rw [List.mem_singleton.mp he]
   trivial
theorem oU {ps:List Nat}{dd:List (Nat × Nat)}:∀(ts:List Tr) (b:Bool),cb ps dd b ts->∀f ∈ aw ts,Ao ps dd f
 | [],b,ok=>by
  rw [aw]
  intro f hf
  cases hf
 | t :: ts,b,ok=>by
  rw [cb] at ok
  rw [aw]
  intro f hf
  rcases List.mem_append.mp hf with hf | hf
  ·exact C0 t b ok.1 f hf
  ·exact oU ts b ok.2 f hf
end
theorem AY (nm:j2 N) {x:Nat} (hx:x < 24) {n:Int} (h0:0 <= n) (h1:n <= 1000):N x ≠ bu n:=fun e=>by
 have h:32 ∈ (bu n).cps.toList:=by
  unfold bu
  show 32 ∈ (((Str.empty ++ ("row ":Str)).cps ++ (Str.ofString (toString n)).cps)).toList
  rw [Array.toList_append]
  exact List.mem_append_left _ (by decide)
 rw [<- e] at h
 have:=(nm.ch x hx 32 h).1
 omega
end
section
variable {P:Program}{w:World}{K:W.Frag}{mg:Str->Option Value}{base:Heap}{A:Adr}{N:Nat->Str}
theorem kg:∀(fs:List Fr) (s:List (Option Str)) (l:List Str) (n:Int),(aR N s l n fs).Pairwise (fun a b=>a.2.1 < b.2.1)/\∀e ∈ aR N s l n fs,n <= e.2.1/\e.2.1 < n + (fs.length:Nat)
 | [],s,l,n=>⟨List.Pairwise.nil,fun e h=>by cases h⟩
 | f :: fs,s,l,n=>by
  obtain ⟨h1,h2⟩:=kg fs (stp N s n f) (vn l n f) (n + 1)
  rw [aR,List.length_cons]
  split
  ·refine ⟨List.pairwise_append.mpr ⟨List.pairwise_singleton _ _,h1,fun a ha b hb=>?_⟩,fun e he=>?_⟩
   ·rw [List.mem_singleton.mp ha]
    have:=(h2 b hb).1
    show n < b.2.1
    omega
   ·rcases List.mem_append.mp he with he | he
    ·rw [List.mem_singleton.mp he]
     exact ⟨Int.le_refl _,by show n < _;omega⟩
    ·have:=h2 e he
     omega
  ·exact ⟨h1,fun e he=>by have:=h2 e he;omega⟩
theorem uq {hs:List Lr}{ds:List De}{mb:List Tr} (O:j7 hs ds mb):(flA hs ds mb).length <= 118:=by
 obtain ⟨l1,l2,l3⟩:=uH O
 unfold flA
 rw [List.length_append,List.length_append,List.length_map,List.length_cons,List.length_append,List.length_singleton]
 omega
theorem wQ {hs:List Lr}{ds:List De}{mb:List Tr} (O:j7 hs ds mb):(b8 N (deP ((hs.length:Nat) + 1) ds) (bB (msN hs ds) mb)).Pairwise (fun a b=>a.1.no < b.1.no)/\∀e ∈ b8 N (deP ((hs.length:Nat) + 1) ds) (bB (msN hs ds) mb),1 <= e.1.no/\e.1.no <= 300:=by
 obtain ⟨b1,_⟩:=mj (N:=N) O
 obtain ⟨h1,h2⟩:=kg (N:=N) (flA hs ds mb) [] [] 1
 rw [b1] at h1 h2
 rw [List.pairwise_map] at h1
 have l:=uq O
 refine ⟨h1,fun e he=>?_⟩
 have:1 <= e.1.no/\e.1.no < 1 + ((flA hs ds mb).length:Nat):=h2 (eF e) (List.mem_map_of_mem he)
 omega
def ixH:Lr->List Nat
 | .giv i _ _=>[i]
 | .own i _=>[i]
 | .lt i _=>[i]
 | _=>[]
def ixA (hs:List Lr) (ds:List De):List Nat:=hs.flatMap ixH ++ ds.flatMap fun d=>d.1 :: d.2.1
theorem zP:∀(hs:List Lr) (n:Int),(hdP n hs).filterMap (hPl N)=(hs.flatMap ixH).map N
 | [],n=>by simp [hdP]
 | r :: hs,n=>by
  rw [hdP,List.filterMap_cons,List.flatMap_cons,List.map_append,<- zP hs (n + 1)]
  cases r <;> rfl
theorem zN:∀(ds:List De) (n:Int),((deP n ds).flatMap fun p=>dNm N p :: dPs N p)=(ds.flatMap fun d=>d.1 :: d.2.1).map N
 | [],n=>by simp [deP]
 | d :: ds,n=>by
  rw [deP,List.flatMap_cons,List.flatMap_cons,List.map_append,<- zN ds]
  rfl
theorem zU:∀n0,n0 < 5->∀n1,n1 < 5->∀n2,n2 < 3->([1,2,3,4,5,6,7,19,20] ++ ((9 :: psI 0 n0) ++ ((10 :: psI 1 n1) ++ ((21 :: psI 2 n2) ++ [])))).Nodup/\∀i ∈ [1,2,3,4,5,6,7,19,20] ++ ((9 :: psI 0 n0) ++ ((10 :: psI 1 n1) ++ ((21 :: psI 2 n2) ++ []))),i < 24:=by decide
theorem sW {hs:List Lr}{ds:List De}{mb:List Tr} (O:j7 hs ds mb):(ixA hs ds).Nodup/\(∀i ∈ ixA hs ds,i < 24)/\(ixA hs ds).length <= 22:=by
 obtain ⟨rk,z,t,e1,_⟩:=O.hd
 have ed:∃n0 n1 n2,n0 < 5/\n1 < 5/\n2 < 3/\(ds.flatMap fun d=>d.1 :: d.2.1)=(9 :: psI 0 n0) ++ ((10 :: psI 1 n1) ++ ((21 :: psI 2 n2) ++ [])):=by
  have hl:=O.dl
  match ds,hl,O.de with
  | [a,b,c],_,de =>
   obtain ⟨a1,⟨n0,h0,a2⟩,_⟩:=de.at' 0 a rfl
   obtain ⟨b1,⟨n1,h1,b2⟩,_⟩:=de.at' 1 b rfl
   obtain ⟨c1,⟨n2,h2,c2⟩,_⟩:=de.at' 2 c rfl
   refine ⟨n0,n1,n2,h0,h1,h2,?_⟩
   rw [List.flatMap_cons,List.flatMap_cons,List.flatMap_cons,a1,a2,b1,b2,c1,c2]
   rfl
 obtain ⟨n0,n1,n2,h0,h1,h2,ed⟩:=ed
 have pm:(ixA hs ds).Perm ([1,2,3,4,5,6,7,19,20] ++ ((9 :: psI 0 n0) ++ ((10 :: psI 1 n1) ++ ((21 :: psI 2 n2) ++ [])))):=by
  unfold ixA
  rw [ed]
  refine List.Perm.append_right _ ?_
  rw [e1]
  unfold nN
  have:(lT rk z).flatMap ixH=[1,2,3,4,5,6,7,19,20]:=rfl
  rw [<- this]
  refine List.Perm.flatMap_right _ (List.perm_append_comm.trans ?_)
  rw [List.take_append_drop]
 obtain ⟨d1,d2⟩:=zU n0 h0 n1 h1 n2 h2
 refine ⟨pm.nodup_iff.mpr d1,fun i hi=>d2 i (pm.mem_iff.mp hi),?_⟩
 rw [pm.length_eq]
 simp [psI]
 omega
theorem ji {hs:List Lr}{ds:List De} (ms:List Pt) (n:Int):b6 N (hdP 1 hs) (deP n ds) ms=(ixA hs ds).map N ++ cB (b8 N (deP n ds) ms) ++ [("the clock":Str)]:=by
 unfold b6 ixA
 rw [zP,zN,List.map_append]
theorem vI {n:Int} (h0:0 <= n) (h1:n <= 1000):bu n ≠ "the clock":=yO h0 h1 (by decide)
theorem wu (nm:j2 N) {x:Nat} (hx:x < 24):N x ≠ "the clock":=fun e=>by
 have h:32 ∈ ("the clock":Str).cps.toList:=by decide
 rw [<- e] at h
 have:=(nm.ch x hx 32 h).1
 omega
theorem zO {hs:List Lr}{ds:List De}{mb:List Tr} (O:j7 hs ds mb):(b6 N (hdP 1 hs) (deP ((hs.length:Nat) + 1) ds) (bB (msN hs ds) mb)).length <= 130:=by
 rw [ji,List.length_append,List.length_append,List.length_map,List.length_singleton]
 have h1:=(sW O).2.2
 have h2:=oh (b8 N (deP ((hs.length:Nat) + 1) ds) (bB (msN hs ds) mb))
 have h3:=uR (N:=N) O
 omega
theorem BK (nm:j2 N) {hs:List Lr}{ds:List De}{mb:List Tr} (O:j7 hs ds mb):(b6 N (hdP 1 hs) (deP ((hs.length:Nat) + 1) ds) (bB (msN hs ds) mb)).Nodup:=by
 rw [ji]
 obtain ⟨d1,d2,_⟩:=sW O
 obtain ⟨r1,r2⟩:=wQ (N:=N) O
 generalize b8 N (deP ((hs.length:Nat) + 1) ds) (bB (msN hs ds) mb)=es at r1 r2
 have rm:∀x ∈ cB es,∃n:Int,x=bu n/\0 <= n/\n <= 1000:=fun x hx=>by
  obtain ⟨e,he,rfl⟩:=List.mem_map.mp hx
  have:=r2 e (List.mem_filter.mp he).1
  exact ⟨_,rfl,by omega,by omega⟩
 have nmM:((ixA hs ds).map N).Nodup:=Ap d1 fun x hx y hy e=>nm.inj x y (d2 x hx) (d2 y hy) e
 have rwM:(cB es).Nodup:=by
  unfold cB List.Nodup
  rw [List.pairwise_map]
  refine (r1.filter _).imp_of_mem fun {a b} ha hb h e=>?_
  have a1:=r2 a (List.mem_filter.mp ha).1
  have b1:=r2 b (List.mem_filter.mp hb).1
  have:=yC (by omega) (by omega) (by omega) (by omega) e
  omega
 refine List.nodup_append.mpr ⟨List.nodup_append.mpr ⟨nmM,rwM,fun a ha b hb e=>?_⟩,by simp,fun a ha b hb e=>?_⟩
 ·obtain ⟨i,hi,rfl⟩:=List.mem_map.mp ha
  obtain ⟨n,rfl,n0,n1⟩:=rm b hb
  exact AY nm (d2 i hi) n0 n1 e
 ·rw [List.mem_singleton.mp hb] at e
  rcases List.mem_append.mp ha with ha | ha
  ·obtain ⟨i,hi,rfl⟩:=List.mem_map.mp ha
   exact wu nm (d2 i hi) e
  ·obtain ⟨n,rfl,n0,n1⟩:=rm a ha
   exact vI n0 n1 e
theorem BD (nm:j2 N) {hs:List Lr}{ds:List De}{mb:List Tr} (O:j7 hs ds mb):Ok N 6 (hdP 1 hs) (deP ((hs.length:Nat) + 1) ds) (bB (msN hs ds) mb) where
 ba:=fun p m=>by
  obtain ⟨k,hk⟩:=List.getElem?_of_mem m
  obtain ⟨d,n',h1,_,_,rfl⟩:=ud hk
  refine ⟨trivial,?_⟩
  show lb (bB (n' + 1) d.2.2) <= 6
  rw [kO]
  exact (O.de.at' k d h1).2.2.2.1
 main:=by rw [kO];exact O.md
 nb:=fun e he=>by
  have:=(wQ (N:=N) O).2 e he
  exact ⟨by omega,by omega⟩
 ln:=Nat.le_trans (uR O) (by decide)
 hl:=by rw [pT,(uH O).1];decide
 pl:=Nat.le_trans (zO O) (by decide)
 nd:=BK nm O
theorem A9 (nm:j2 N) {x:Nat} (hx:x < 24):PyData.strOk (N x)=true:=by
 unfold PyData.strOk
 rw [Array.all_eq_true]
 intro i hi
 have:=nm.ch x hx (N x).cps[i] (by rw [Array.mem_toList_iff];exact Array.getElem_mem hi)
 exact decide_eq_true (by omega)
theorem xI:∀n:Fin 301,PyData.strOk (bu (n.val:Int))=true:=by decide +kernel
theorem r9 (nm:j2 N) {hs:List Lr}{ds:List De}{mb:List Tr} (O:j7 hs ds mb):∀x ∈ b6 N (hdP 1 hs) (deP ((hs.length:Nat) + 1) ds) (bB (msN hs ds) mb),PyData.strOk x=true:=by
 rw [ji]
 obtain ⟨d1,d2,_⟩:=sW O
 obtain ⟨r1,r2⟩:=wQ (N:=N) O
 intro x hx
 rcases List.mem_append.mp hx with hx | hx
 ·rcases List.mem_append.mp hx with hx | hx
  ·obtain ⟨i,hi,rfl⟩:=List.mem_map.mp hx
   exact A9 nm (d2 i hi)
  ·obtain ⟨e,he,rfl⟩:=List.mem_map.mp hx
   have:=r2 e (List.mem_filter.mp he).1
   have h:=xI ⟨e.1.no.toNat,by omega⟩
   rwa [show ((e.1.no.toNat:Nat):Int)=e.1.no by omega] at h
 ·rw [List.mem_singleton.mp hx]
  decide +kernel
end
section
variable {P:Program}{w:World}{K:W.Frag}{mg:Str->Option Value}{base:Heap}{A:Adr}{N:Nat->Str}
seal PE PA PS PSs PT PW
def naF (N:Nat->Str):Fr->List Str
 | .leaf (.giv i _ _)=>[N i]
 | .leaf (.own i _)=>[N i]
 | .leaf (.lt i _)=>[N i]
 | .ba i ps=>N i :: ps.map N
 | _=>[]
def rwF:Fr->Bool
 | .iff _ _ _=>true
 | .loop _ _ _ _=>true
 | .leaf (.snd _ _)=>true
 | .leaf (.say _ _ _)=>true
 | _=>false
def roF (n:Int) (f:Fr):List Str:=if rwF f=true then [bu n] else []
def fz (N:Nat->Str):Int->List Fr->List Str
 | _,[]=>[]
 | n,f :: fs=>naF N f ++ roF n f ++ fz N (n + 1) fs
theorem kM (f:Fr):∀(xs:List Fr) (n:Int),fz N n (xs ++ [f])=fz N n xs ++ (naF N f ++ roF (n + (xs.length:Nat)) f)
 | [],n=>by
  show naF N f ++ roF n f ++ []=[] ++ (naF N f ++ roF (n + ((0:Nat):Int)) f)
  rw [show n + ((0:Nat):Int)=n by omega]
  simp
 | x :: xs,n=>by
  show _ ++ fz N (n + 1) (xs ++ [f])=(_ ++ fz N (n + 1) xs) ++ _
  rw [kM f xs,List.length_cons,<- List.append_assoc,show n + 1 + ((xs.length:Nat):Int)=n + ((xs.length + 1:Nat):Int) by omega]
def yR:Fr->Bool
 | .leaf (.giv _ _ _)=>true
 | .leaf (.own _ _)=>true
 | .leaf (.lt _ _)=>true
 | .ba _ _=>true
 | _=>false
theorem Af (f:Fr):inV (V.str f.wd) [V.str "given",V.str "own",V.str "let",V.str "deed"]=yR f:=by
 cases f with
 | leaf r=>cases r <;> rfl
 | _=>rfl
theorem Cf (f:Fr):inV (V.str f.wd) [V.str "if",V.str "loop",V.str "send",V.str "say"]=rwF f:=by
 cases f with
 | leaf r=>cases r <;> rfl
 | _=>rfl
def deF:Fr->Bool
 | .ba _ _=>true
 | _=>false
theorem tX (f:Fr):decide (f.wd="deed")=deF f:=by
 cases f with
 | leaf r=>cases r <;> rfl
 | _=>rfl
def psF (N:Nat->Str):Fr->List Str
 | .ba _ ps=>ps.map N
 | _=>[]
def n1F (N:Nat->Str):Fr->List Str
 | .leaf (.giv i _ _)=>[N i]
 | .leaf (.own i _)=>[N i]
 | .leaf (.lt i _)=>[N i]
 | .ba i _=>[N i]
 | _=>[]
theorem tZ (f:Fr):naF N f=n1F N f ++ psF N f:=by
 cases f with
 | leaf r=>cases r <;> rfl
 | _=>rfl
theorem CU {f:Fr} (h:yR f=false):n1F N f=[]:=by
 cases f with
 | leaf r=>cases r <;> first | rfl | cases h
 | ba _ _=>cases h
 | _=>rfl
theorem CF {f:Fr} (h:deF f=false):psF N f=[]:=by
 cases f <;> first | rfl | cases h
theorem AN {f:Fr} (p:Addr) (h:yR f=true):∃i ts,n1F N f=[N i]/\V.str f.wd :: f.ts N p=V.str f.wd :: V.str (N i) :: ts:=by
 cases f with
 | leaf r=>cases r <;> first | exact ⟨_,_,rfl,rfl⟩ | cases h
 | ba i _=>exact ⟨_,_,rfl,rfl⟩
 | _=>cases h
inductive um (vs:List V) (H:Hp) (Q:VK) (E9:XK):Prop
 | mk (N:Nat->Str) (X:Hp) (L:Addr) (xs:List V) (fs:List Fr) (z0:vs=[.ref L]) (z1:ah X H) (z2:X L=some (.lst xs)) (z3:aY N X fs xs) (z5:xs.length <= 300) (z6:(fz N 1 fs).length <= 900)
  (z8:∀(R:Addr) (ss:List Str) (H':Hp),ah H H'->H R=none->H' R=some (.lst (sS ss))->ss.Perm ("the clock" :: fz N 1 fs)->PyProof.Rows.sortedS ss=true->Q (.ref R) H'):um vs H Q E9
theorem Bp {fs:List Fr}{i:Nat}{f:Fr} (hf:fs[i]?=some f):(fz N 1 (fs.take i)).length + ((n1F N f).length + (psF N f).length + (roF ((i:Int) + 1) f).length) <= (fz N 1 fs).length:=by
 have h:∀(ys:List Fr) (xs:List Fr) (n:Int),(fz N n xs).length <= (fz N n (xs ++ ys)).length:=fun ys xs=>by
  induction xs with
  | nil=>intro n;exact Nat.zero_le _
  | cons x xs ih =>
   intro n
   show (_ ++ fz N (n + 1) xs).length <= (_ ++ fz N (n + 1) (xs ++ ys)).length
   have:=ih (n + 1)
   simp only [List.length_append] at this ⊢
   omega
 have h1:=h (fs.drop (i + 1)) (fs.take (i + 1)) 1
 rw [List.take_append_drop,lZ hf,kM,List.length_take,Nat.min_eq_left (Nat.le_of_lt (List.getElem?_eq_some_iff.mp hf).1),Int.add_comm,tZ] at h1
 simp only [List.length_append] at h1 ⊢
 omega
theorem Ah (T:Txt K mg A):T.pj.Hz P w base 1 um:=by
 refine T.pj.hs gP (fun f' cdv A' outer s H vs Q E' hr hu h=>?_)
 obtain ⟨N,X,L,xs,fs,rfl,s0,hL,fr,lx,ld,q⟩:=h
 have lf:=Paired.length fr
 refine ⟨_,(ab (pst 1 gP.nd (aL (aa aj ae)))
  (ab (cD PassesOwn.never rfl (bK rfl T.bY (aa (pcB dS T.fJ (aa (fv 0) ae)) ae)) (pgn (i:=2) gP.nd rfl)
   (ab (pst 3 gP.nd (px hu (fv 0) (fv 2)))
   (ab (aS (ptc (ox hu) (px hu (fv 3) af) (aO (aa aj (aa aj (aa aj (aa aj ae))))) ((by with_unfolding_all rfl)))
    (ai (aD (aP (fv 1) (aa (px hu (fv 3) af) ae))))
    aE)
   (ab (aS (ptc (bZ hu) (px hu (fv 3) af) aj)
    (ai (aD (j6 (fv 1) (aa (px hu (fv 3) af) ae))))
    aE)
   (ai (aS (ptc (ox hu) (px hu (fv 3) af) (aO (aa aj (aa aj (aa aj (aa aj ae))))) ((by with_unfolding_all rfl)))
    (ai (aD (aP (fv 1) (aa (au aN aj (pcT tE T.lB (aa (au aN (fv 2) af) ae))) ae))))
    aE))))))
  (ai (aA (pcB oq T.i7 (aa (fv 1) ae)))))),?_⟩
 refine ag fun M1 K1=>⟨by show 1 <= sizeLine;decide,fun R hR=>?_⟩
 obtain ⟨s1,e1⟩:=alc hR (HO.lst [V.str "the clock"])
 generalize upd H R _=H1 at s1 e1 ⊢
 refine K1 _ _ ?_
 clear K1 M1
 try dsimp only
 refine ag fun M1 K1=>lnl ((s0.trans s1) _ _ hL) ⟨_,rfl,by omega,by omega,?_⟩
 rw [show ((xs.length:Nat):Int).toNat=fs.length by rw [lf];simp]
 refine cL (fun i σ Hc=>∃(v2 v3:Option V),σ=[some (.ref L),some (.ref R),v2,v3]/\ah H Hc/\Hc R=some (.lst (sS ("the clock" :: fz N 1 (fs.take i))))) ⟨none,none,rfl,s1,by rw [List.take_zero];exact e1⟩ ?_ ?_
 ·clear K1
  rintro i σ Hc hi ⟨v2,v3,rfl,sc,hRc⟩
  have ej:(0:Int) + (i:Int)=(i:Int):=by omega
  rw [ej]
  obtain ⟨f,hf⟩:∃f,fs[i]?=some f:=⟨_,List.getElem?_eq_getElem hi⟩
  obtain ⟨v,hv,a,p,rfl,ha,hob⟩:=eZ (i:=i) (a:=f) fr hf
  have dl:=Bp (N:=N) hf
  have du:fz N 1 (fs.take (i + 1))=fz N 1 (fs.take i) ++ (n1F N f ++ psF N f ++ roF ((i:Int) + 1) f):=by
   rw [lZ hf,kM,List.length_take,Nat.min_eq_left (Nat.le_of_lt hi),Int.add_comm,tZ]
  generalize fz N 1 (fs.take i)=D0 at du dl hRc
  try dsimp only
  refine ag fun M2 K2=>lxn (SqL.of ((s0.trans sc) _ _ hL)) hv (K2 _ _ ?_)
  clear K2 M2
  try dsimp only
  refine ag fun M2 K2=>?_
  have b1:∀Hd,ah H Hd->Hd R=some (.lst (sS ("the clock" :: (D0 ++ n1F N f))))->M2 [some (.ref L),some (.ref R),some (.int i),some (.ref a)] Hd:=by
   intro Hd sd hRd
   refine K2 _ _ ?_
   clear K2 M2
   refine ag fun M3 K3=>?_
   have b2:∀He,ah H He->He R=some (.lst (sS ("the clock" :: (D0 ++ (n1F N f ++ psF N f)))))->M3 [some (.ref L),some (.ref R),some (.int i),some (.ref a)] He:=by
    intro He se hRe
    refine K3 _ _ ?_
    clear K3 M3
    try dsimp only
    refine tix (j:=0) (SqT.of ((s0.trans se) _ _ ha)) rfl ⟨by show 4 <= sizeLine;decide,fun tp htp=>?_⟩
    obtain ⟨s3,e3⟩:=alc htp (HO.tup [V.str "if",V.str "loop",V.str "send",V.str "say"])
    generalize upd He tp _=H3 at s3 e3 ⊢
    refine Or.inl ⟨_,Or.inr (SqT.of e3),rfl,rfl,_,rfl,?_⟩
    rw [show (if false=true then !inV (V.str f.wd) [V.str "if",V.str "loop",V.str "send",V.str "say"] else inV (V.str f.wd) [V.str "if",V.str "loop",V.str "send",V.str "say"])=rwF f from Cf f]
    refine bj (fun z=>?_) (fun z=>?_)
    ·refine ⟨Or.inl ⟨rfl,_,SqL.of (s3 _ _ hRe)⟩,Or.inl ⟨_,rfl,(kq (n:=i + 1) (by omega)).1,(kq (n:=i + 1) (by omega)).2,_,_,_,rfl,rfl,s3 _ _ hRe,?_,?_⟩⟩
     ·simp only [sS,List.length_map,List.length_append,List.length_cons]
      exact aG (by omega)
     ·refine ⟨_,_,rfl,pP (se.trans s3) hR _,?_⟩
      rw [ak,du,show roF ((i:Int) + 1) f=[bu ((i:Int) + 1)] from if_pos z,<- pW]
      simp [sS]
    ·refine ⟨_,_,rfl,se.trans s3,?_⟩
     rw [du,show roF ((i:Int) + 1) f=[] from if_neg z,List.append_nil]
     exact s3 _ _ hRe
   clear K3
   try dsimp only
   refine tix (j:=0) (SqT.of ((s0.trans sd) _ _ ha)) rfl ⟨rfl,_,rfl,bj (fun z=>?_) (fun z=>?_)⟩
   ·have ef:deF f=true:=by rw [<- tX];exact decide_eq_true (V.str.inj (of_decide_eq_true z))
    cases f with
    | ba k ps =>
     have hp:=hob _ rfl
     refine ⟨Or.inl ⟨rfl,_,SqL.of hRd⟩,tix (j:=2) (SqT.of ((s0.trans sd) _ _ ha)) rfl ⟨_,_,_,_,rfl,rfl,hRd,(s0.trans sd) _ _ hp,?_,?_⟩⟩
     ·refine sz ?_
      simp only [sS,List.length_map,List.length_append,List.length_cons]
      simp only [List.length_append,psF,List.length_map] at dl
      omega
     ·refine b2 _ (pP sd hR _) ?_
      rw [ak]
      simp [sS,psF,nV,Function.comp_def]
    | _=>cases ef
   ·have nd:deF f=false:=by
     rw [<- tX]
     exact decide_eq_false fun e=>z (decide_eq_true (by rw [e]))
    exact b2 Hd sd (by rw [CF nd,List.append_nil];exact hRd)
  clear K2
  refine tix (j:=0) (SqT.of ((s0.trans sc) _ _ ha)) rfl ⟨by show 4 <= sizeLine;decide,fun tp htp=>?_⟩
  obtain ⟨s3,e3⟩:=alc htp (HO.tup [V.str "given",V.str "own",V.str "let",V.str "deed"])
  generalize upd Hc tp _=H3 at s3 e3 ⊢
  have c3:=sc.trans s3
  have R3:=s3 _ _ hRc
  refine Or.inl ⟨_,Or.inr (SqT.of e3),rfl,rfl,_,rfl,?_⟩
  rw [show (if false=true then !inV (V.str f.wd) [V.str "given",V.str "own",V.str "let",V.str "deed"] else inV (V.str f.wd) [V.str "given",V.str "own",V.str "let",V.str "deed"])=yR f from Af f]
  refine bj (fun z=>?_) (fun z=>?_)
  ·obtain ⟨k,ts,en,et⟩:=AN (N:=N) p z
   rw [et] at ha
   refine ⟨Or.inl ⟨rfl,_,SqL.of R3⟩,tix (j:=1) (SqT.of ((s0.trans c3) _ _ ha)) rfl ⟨_,_,_,rfl,rfl,R3,?_,?_⟩⟩
   ·simp only [sS,List.length_map,List.length_cons]
    exact aG (by omega)
   ·refine b1 _ (pP c3 hR _) ?_
    rw [ak,en]
    simp [sS]
  ·exact b1 H3 c3 (by rw [CU (Bool.eq_false_iff.mpr z),List.append_nil];exact R3)
 rintro σ Hc ⟨v2,v3,rfl,sc,hRc⟩
 rw [List.take_length] at hRc
 exact K1 _ _ ⟨R,"the clock" :: fz N 1 fs,rfl,SqL.of hRc,fun l ss' pm so hl=>q l ss' _ (sc.trans (ah.upd hl _)) (ah.free sc hl) ak pm so⟩
end
section
variable {P:Program}{w:World}{K:W.Frag}{mg:Str->Option Value}{base:Heap}{A:Adr}{N:Nat->Str}
def roA:Int->List Fr->List Str
 | _,[]=>[]
 | n,f :: fs=>roF n f ++ roA (n + 1) fs
theorem rL:∀(fs:List Fr) (n:Int),(fz N n fs).Perm (fs.flatMap (naF N) ++ roA n fs)
 | [],n=>.nil
 | f :: fs,n=>by
  show (naF N f ++ roF n f ++ fz N (n + 1) fs).Perm ((naF N f ++ fs.flatMap (naF N)) ++ (roF n f ++ roA (n + 1) fs))
  refine ((rL fs (n + 1)).append_left _).trans ?_
  rw [List.append_assoc,List.append_assoc]
  refine List.Perm.append_left _ ?_
  rw [<- List.append_assoc,<- List.append_assoc]
  exact List.perm_append_comm.append_right _
theorem rw_isB {f:Fr} (h:rwF f=true):isB f=true:=by
 cases f with
 | leaf r=>cases r <;> first | rfl | cases h
 | _=>first | rfl | cases h
theorem uL:∀(fs:List Fr) (s:List (Option Str)) (l:List Str) (n:Int),roA n fs=(aR N s l n fs).flatMap fun e=>roF e.2.1 e.1
 | [],s,l,n=>rfl
 | f :: fs,s,l,n=>by
  rw [aR,List.flatMap_append,<- uL fs]
  show roF n f ++ roA (n + 1) fs=_
  congr 1
  cases h:isB f with
  | true =>
   rw [if_pos rfl]
   simp
  | false =>
   rw [if_neg (by decide)]
   have:rwF f=false:=Bool.eq_false_iff.mpr fun z=>by
    rw [rw_isB z] at h
    cases h
   unfold roF
   rw [this]
   rfl
theorem rw_isPl (p:Pt):rwF (frP p)=vF p:=by
 cases p with
 | leaf n r=>cases r <;> rfl
 | _=>rfl
theorem zT:∀(es:List Le),((es.map eF).flatMap fun e=>roF e.2.1 e.1)=cB es
 | []=>rfl
 | e :: es=>by
  rw [List.map_cons,List.flatMap_cons,zT es]
  unfold cB
  rw [List.filter_cons]
  show roF e.1.no (frP e.1) ++ _=_
  unfold roF
  rw [rw_isPl]
  split <;> rfl
theorem zR {ps:List Nat}{dd:List (Nat × Nat)}{f:Fr} (h:Ao ps dd f):naF N f=[]:=by
 cases f with
 | leaf r =>
  obtain ⟨lp,h⟩:=h
  cases r <;> first | rfl | exact h.elim
 | ba _ _=>exact h.elim
 | _=>rfl
theorem x8 {α β:Type}{f:α->List β}{l:List α} (h:∀x ∈ l,f x=[]):l.flatMap f=[]:=List.flatMap_eq_nil_iff.mpr h
theorem Cw {hs:List Lr}{ds:List De}{mb:List Tr} (O:j7 hs ds mb):(flA hs ds mb).flatMap (naF N)=(ixA hs ds).map N:=by
 have h1:∀hs:List Lr,(hs.map Fr.leaf).flatMap (naF N)=(hs.flatMap ixH).map N:=fun hs=>by
  induction hs with
  | nil=>rfl
  | cons r hs ih =>
   rw [List.map_cons,List.flatMap_cons,List.flatMap_cons,List.map_append,ih]
   cases r <;> rfl
 have h2:∀ds:List De,(∀d ∈ ds,∃dd,cb d.2.1 dd false d.2.2)->(aW ds).flatMap (naF N)=(ds.flatMap fun d=>d.1 :: d.2.1).map N:=fun ds=>by
  induction ds with
  | nil=>exact fun _=>rfl
  | cons d ds ih =>
   intro hd
   obtain ⟨dd,ok⟩:=hd d List.mem_cons_self
   show (flD d ++ aW ds).flatMap (naF N)=_
   rw [List.flatMap_append,ih fun x hx=>hd x (List.mem_cons_of_mem _ hx),List.flatMap_cons,List.map_append]
   congr 1
   unfold flD
   rw [List.flatMap_cons,List.flatMap_append,x8 fun f hf=>zR (oU d.2.2 false ok f hf)]
   simp [naF]
 unfold flA ixA
 rw [List.flatMap_append,List.flatMap_append,h1,h2 ds fun d m=>by
  obtain ⟨k,hk⟩:=List.getElem?_of_mem m
  exact ⟨_,(O.de.at' k d hk).2.2.1⟩]
 rw [List.flatMap_cons,List.flatMap_append,x8 fun f hf=>zR (oU mb false O.mo f hf),List.map_append]
 simp [naF]
theorem rS {hs:List Lr}{ds:List De}{mb:List Tr} (O:j7 hs ds mb):(("the clock":Str) :: fz N 1 (flA hs ds mb)).Perm (b6 N (hdP 1 hs) (deP ((hs.length:Nat) + 1) ds) (bB (msN hs ds) mb)):=by
 rw [ji]
 refine List.Perm.trans (List.Perm.cons _ (rL _ _)) ?_
 rw [Cw O,uL (N:=N) _ [] [] 1,(mj (N:=N) O).1,zT]
 exact List.perm_append_comm (l₁:=[("the clock":Str)])
end
section
variable {P:Program}{w:World}{K:W.Frag}{mg:Str->Option Value}{base:Heap}{A:Adr}{N:Nat->Str}
seal PE PA PS PSs PT PW
def uK (e:En):Key × V:=(.inl e.2.1,oS e.2.2.1)
def unK (es:List Le):List (Key × V):=es.map fun e=>(.inl e.1.no,oS e.2.1)
theorem yT (es:List Le):unK es=(es.map eF).map uK:=by
 unfold unK
 rw [List.map_map]
 rfl
theorem qR {kvs:List (Key × V)}{k:Key} (h:k ∉ kvs.map (·.1)):L2.gy kvs k=none:=by
 induction kvs with
 | nil=>rfl
 | cons p r ih =>
  rw [List.map_cons,List.mem_cons] at h
  exact (gv (fun e=>h (.inl e.symm))).trans (ih fun z=>h (.inr z))
theorem qT:∀(kvs acc:List (Key × V)),((acc ++ kvs).map (·.1)).Nodup->aX acc kvs=acc ++ kvs
 | [],acc,_=>by rw [List.append_nil];rfl
 | (k,v) :: kvs,acc,h=>by
  have nk:k ∉ acc.map (·.1):=fun m=>by
   rw [List.map_append,List.map_cons] at h
   exact (List.nodup_append.mp h).2.2 k m k List.mem_cons_self rfl
  show aX (putK acc k v) kvs=_
  rw [qN v (qR nk),qT kvs (acc ++ [(k,v)]) (by simpa using h)]
  simp
theorem yD {kvs:List (Key × V)} (nd:(kvs.map (·.1)).Nodup) {k:Key}{v:V} (m:(k,v) ∈ kvs):L2.gy kvs k=some v:=by
 induction kvs with
 | nil=>cases m
 | cons p r ih =>
  rw [List.map_cons,List.nodup_cons] at nd
  rcases List.mem_cons.mp m with rfl | m
  ·exact iw rfl
  ·refine (gv fun e=>nd.1 ?_).trans (ih nd.2 m)
   rw [e]
   exact List.mem_map_of_mem m
def UnE (e:Le) (y:V) (H:Hp):Prop:=∃t,y=V.ref t/\H t=some (.tup [.int e.1.no,oS e.2.1])
theorem xq {H:Hp}:∀{es:List Le}{ys:List V},Paired (fun e y=>UnE e y H) es ys->∃ps:List Addr,ys=ps.map V.ref/\ps.length=(unK es).length/\∀(i:Nat) t k v,ps[i]?=some t->(unK es)[i]?=some (k,v)->H t=some (.tup [kV k,v])
 | _,_,.nil=>⟨[],rfl,rfl,fun i t k v h=>by simp at h⟩
 | _,_,.cons (l₁:=es) ⟨t,e,h⟩ r=>by
  obtain ⟨ps,e1,e2,e3⟩:=xq r
  refine ⟨t :: ps,by rw [e,e1];rfl,by simpa [unK] using e2,fun i t' k v h1 h2=>?_⟩
  cases i with
  | zero =>
   cases h1
   cases h2
   exact h
  | succ i=>exact e3 i t' k v h1 h2
inductive rA (A:Adr) (d:Nat) (vs:List V) (H:Hp) (Q:VK) (E9:XK):Prop
 | mk (N:Nat->Str) (X:Hp) (v:V) (hs ds ms:List Pt) (z0:vs=[v]) (z1:ah X H) (z2:vB A N X v hs ds ms) (z3:Ok N d hs ds ms) (z4:((unK (b8 N ds ms)).map (·.1)).Nodup)
  (z7:∀(R:Addr) (H':Hp),ah H H'->H R=none->H' R=some (.dK (unK (b8 N ds ms)))->Q (.ref R) H'):rA A d vs H Q E9
theorem yj (T:Txt K mg A) (d:Nat):T.under.Hz P w base (2 * d + 5) (rA A d):=by
 refine T.under.hs (k:=2 * d + 4) wB (fun f cdv A' outer s H vs Q E' hr hu h=>?_)
 obtain ⟨N,X,v,hs,ds,ms,rfl,s0,pg,ok,nd,q⟩:=h
 refine ⟨_,(ai (aA (pcT yv T.ng (aa (j5 (N:=["row","place","loop"]) (own:=3) (fr:=[]) (b9.of (by kernel_rfl!)) rfl (iT (aq (hj:=by omega) (uw T d) hr (aa (fv 0) ae))) (fun b=>iu rfl (bf (pgn (i:=0) (show List.Nodup (["row","place","loop"]:List PySem.Str) by decide +kernel) rfl) (bf (pgn (i:=1) (show List.Nodup (["row","place","loop"]:List PySem.Str) by decide +kernel) rfl) (bf (pgn (i:=2) (show List.Nodup (["row","place","loop"]:List PySem.Str) by decide +kernel) rfl) fE)))) (fun b=>kQ) (fun b=>aO (aa (cq (fv 0) rfl) (aa (fv 1) ae)))) ae)))),⟨N,X,v,hs,ds,ms,rfl,s0,pg,ok,fun L ys H2 s2 hL eL ly=>?_⟩⟩
 have lly:=Paired.length ly
 have ln:=ok.ln
 generalize b8 N ds ms=es at ly ln nd q lly
 refine Or.inl ⟨⟨_,SqL.of eL⟩,x6 (K:=K) (own:=3) es (fun _=>true) UnE (SqL.of eL) lly.symm (aG (by omega)) ?_ ?_ ?_ ?_⟩
 ·intro b i x e v0 H3 Nn Y hx he hv s3 no yes
  obtain ⟨u0,u1,u2,rfl⟩:∃u0 u1 u2,v0=[u0,u1,u2]:=by
   match v0,hv with
   | [u,u',u''],_=>exact ⟨u,u',u'',rfl⟩
  obtain ⟨e',he',tp,vr,rfl,etp,pa⟩:=fD ly hx
  rw [he] at he'
  cases he'
  have sX:=s0.trans (s2.trans s3)
  exact ⟨tp,_,rfl,SqT.of (s3 _ _ etp),rfl,_,_,rfl,_,_,rfl,_,_,rfl,rfl,rX T sX pa ⟨by show 2 <= sizeLine;decide,fun t ht=>yes rfl [some vr,some (oS e.2.1),some (oS e.2.2)] _ _ rfl (ah.upd ht _) ⟨t,rfl,ak⟩⟩⟩
 ·rintro e y H3 H4 s3 ⟨t,rfl,h⟩
  exact ⟨t,rfl,s3 _ _ h⟩
 ·rintro e y H3 D ys zs hD ⟨t,rfl,h⟩
  exact ⟨t,rfl,ao (fun z=>by rw [z,hD] at h;cases h) h⟩
 intro D H3 zs hD s3 eD pz
 have ef:es.filter (fun _=>true)=es:=List.filter_eq_self.mpr fun _ _=>rfl
 rw [ef] at pz
 obtain ⟨ps,rfl,k1,k2⟩:=xq pz
 have kl:(unK es).length <= 300:=by unfold unK;rw [List.length_map];exact ln
 refine ⟨D,ps,unK es,rfl,SqL.of eD,k1,by omega,fun i t k v ht hk=>SqT.of (k2 i t k v ht hk),fun W hW=>q W _ ((s2.trans s3).trans (ah.upd hW _)) (ah.free (s2.trans s3) hW) ?_⟩
 rw [ak,qT _ [] (by simpa using nd)]
 rfl
inductive mx (A:Adr) (vs:List V) (H:Hp) (Q:VK) (E9:XK):Prop
 | mk (N:Nat->Str) (X:Hp) (v:V) (hs ds ms:List Pt) (R:Addr) (ss:List Str) (z0:vs=[v,.ref R]) (z1:ah X H) (z2:vB A N X v hs ds ms) (z3:Ok N 6 hs ds ms) (z4:H R=some (.lst (sS ss))) (z5:ss.Perm (b6 N hs ds ms)) (z6:PyProof.Rows.sortedS ss=true) (z7:∀x ∈ b6 N hs ds ms,PyData.strOk x=true)
  (z8:∀H',ah H H'->Q (.bl true) H'):mx A vs H Q E9
theorem vC (T:Txt K mg A):T.jF.Hz P w base 18 (mx A):=by
 refine T.jF.hs (k:=17) jn (fun f cdv A' outer s H vs Q E' hr hu h=>?_)
 obtain ⟨N,X,v,hs,ds,ms,R,ss,rfl,s0,pg,ok,hR,pm,so,st,q⟩:=h
 refine ⟨_,(ab (pst 2 jn.nd (aq (hj:=by omega) (wa T 6) hr (aa (fv 0) ae)))
  (ab (aS (PW.pt (pw_or (kF (cT (pcB bN T.aK (aa (fv 2) (aa (l8 (v:=.ty "list") rfl T.cn (by boot_by_name) rfl) ae))) (fun _=>rfl))) (pw_or1 (kF (cT (pcB CC T.uc (aa (j5 (N:=["_law_place"]) (own:=1) (fr:=[]) (b9.of (by kernel_rfl!)) rfl (iT (fv 2)) (fun b=>pgn (i:=0) (show List.Nodup (["_law_place"]:List PySem.Str) by decide +kernel) rfl) (fun b=>kQ) (fun b=>pcB bN T.aK (aa (fv 0) (aa (l8 (v:=.ty "str") rfl T.lB (by boot_by_name) rfl) ae)))) ae)) (fun _=>rfl))))))
   (ai (aA js))
   aE)
  (ab (aS (ptc (pS hu) (pcB oq T.i7 (aa (fv 2) ae)) (fv 1))
   (ai (aA js))
   aE)
  (ab (aD (yB (fv 2)))
  (ai (aA js)))))),?_⟩
 refine ag fun M1 K1=>⟨N,X,v,hs,ds,ms,rfl,s0,pg,ok,fun F H1 s1 hF eF=>?_⟩
 have pl:=ok.pl
 generalize b6 N hs ds ms=ps at pm st eF pl
 refine K1 _ _ ?_
 clear K1 M1
 try dsimp only
 refine ag fun M1 K1=>⟨_,_,_,true,rfl,(fun z=>by cases z),.lst eF,Aw,true,rfl,bO (Or.inl ⟨⟨_,SqL.of eF⟩,vc (K:=K) (fun _=>true) (fun _=>V.bl true) (SqL.of eF) (by rw [List.length_map];exact aG (by omega)) (fun b x Hc G hx sc k=>k Hc (ah.refl _)) (fun b x Hc G hx _ sc k=>?_) (fun D Hc hD sc eD=>?_)⟩)⟩
 ·obtain ⟨y,_,rfl⟩:=List.mem_map.mp hx
  exact ⟨_,_,_,true,rfl,(fun z=>by cases z),.str y,w8,k Hc (ah.refl _)⟩
 refine ⟨D,(ps.map fun _=>true),rfl,SqL.of (by rw [eD,List.filter_eq_self.mpr fun _ _=>rfl];simp [Function.comp_def]),true,?_,bO (K1 _ _ ?_)⟩
 ·rw [show ((ps.map fun _=>true).all id)=true by simp]
  rfl
 clear K1 M1
 have eF2:=sc _ _ eF
 have t2:=s1.trans sc
 try dsimp only
 refine ag fun M1 K1=>⟨F,ps,rfl,SqL.of eF2,fun l ss' pm' so' hl=>?_⟩
 have e1:ss'=ss:=L2.we (pm'.trans pm.symm) so' so
 subst e1
 have s3:=ah.upd hl (HO.lst (sS ss'))
 have s4:ah H (upd Hc l (.lst (sS ss'))):=t2.trans s3
 obtain ⟨g1,g2,g3⟩:=ke (K:=K) (H:=upd Hc l (.lst (sS ss'))) (xs:=ss') fun x hx=>st x (pm'.mem_iff.mp hx)
 have sh:SeqAt.shaped (.list (ss'.map PyData.str))=true:=by simp [SeqAt.shaped,PyData.canLay0,PyData.depth,g2,g3]
 refine ⟨.list (ss'.map PyData.str),.list (ss'.map PyData.str),.lst (SqL.of ak) g1,.lst (SqL.of (s4 _ _ hR)) g1,sh,sh,?_⟩
 rw [SeqAt.eqv_refl _ (by simp [PyData.canLay0,g2])]
 refine ⟨_,rfl,bO (K1 _ _ ?_)⟩
 clear K1 M1
 try dsimp only
 refine ag fun M1 K1=>?_
 have eF3:=s3 _ _ eF2
 exact ⟨Or.inl ⟨rfl,_,SqL.of eF3⟩,_,_,rfl,rfl,eF3,K1 _ _ (q _ (pP (t2.trans s3) hF _))⟩
inductive ou (A:Adr) (vs:List V) (H:Hp) (Q:VK) (E9:XK):Prop
 | mk (N:Nat->Str) (X:Hp) (v:V) (hs ds ms:List Pt) (R:Addr) (z0:vs=[v,.ref R]) (z1:ah X H) (z2:vB A N X v hs ds ms) (z3:Ok N 6 hs ds ms) (z4:H R=some (.dK (unK (b8 N ds ms)))) (z5:((unK (b8 N ds ms)).map (·.1)).Nodup) (z6:X R=none)
  (z8:∀H',ah H H'->Q (.bl true) H'):ou A vs H Q E9
theorem wK (T:Txt K mg A):T.kI.Hz P w base 18 (ou A):=by
 refine T.kI.hs (k:=17) gS (fun f cdv A' outer s H vs Q E' hr hu h=>?_)
 obtain ⟨N,X,v,hs,ds,ms,R,rfl,s0,pg,ok,hR,nd,XR,q⟩:=h
 refine ⟨_,(ab (pst 2 gS.nd (aq (hj:=by omega) (yj T 6) hr (aa (fv 0) ae)))
  (ab (aS (PW.pt (pw_or (kF (cT (pcB bN T.aK (aa (fv 2) (aa (l8 (v:=.ty "dict") rfl T.ng (by boot_by_name) rfl) ae))) (fun _=>rfl))) (pw_or1 (ptc (pS hu) (pcB dS T.fJ (aa (fv 2) ae)) (pcB dS T.fJ (aa (fv 1) ae))))))
   (ai (aA js))
   aE)
  (ab (ym PassesOwn.never rfl (fv 1) (CT 1) (pgn (i:=3) gS.nd rfl)
   (ab (aS (PW.pt (pw_or (ptc (jX hu) (fv 3) (fv 2) ((by with_unfolding_all rfl))) (pw_or1 (kF (PW.pt (pw_or (ptc DJ (px hu (fv 2) (fv 3)) iy) (pw_or1 (cT (pcB bN T.aK (aa (px hu (fv 2) (fv 3)) (aa (l8 (v:=.ty "str") rfl T.lB (by boot_by_name) rfl) ae))) (fun _=>rfl)))))))))
    (ai (aA js))
    aE)
   (ai (aS (ptc (pS hu) (px hu (fv 2) (fv 3)) (px hu (fv 1) (fv 3)))
    (ai (aA js))
    aE))))
  (ab (aD (wk (fv 2)))
  (ai (aA js)))))),?_⟩
 refine ag fun M1 K1=>⟨N,X,v,hs,ds,ms,rfl,s0,pg,ok,nd,fun F H1 s1 hF eF=>?_⟩
 generalize hkv:unK (b8 N ds ms)=kvs at nd eF hR
 have hR1:=s1 _ _ hR
 have RF:F ≠ R:=fresh_ne hF hR
 refine K1 _ _ ?_
 clear K1 M1
 try dsimp only
 refine ag fun M1 K1=>⟨_,_,_,true,rfl,(fun z=>by cases z),.dK eF,Bv,true,rfl,bO (Or.inr ⟨F,kvs,rfl,.inl eF,Or.inr ⟨R,kvs,rfl,.inl hR1,⟨rfl,_,rfl,bj (fun z=>absurd z (by rw [decide_eq_true rfl];decide)) fun _=>K1 _ _ ?_⟩⟩⟩)⟩
 clear K1 M1
 try dsimp only
 refine ag fun M1 K1=>⟨R,kvs,rfl,hR1,fun o nfz knd=>⟨fun i σ Hf=>∃v3,σ=[some v,some (.ref R),some (.ref F),v3]/\Hf=upd H1 R (.frz o (.dK kvs)),⟨none,rfl,rfl⟩,fun i σ Hf _ ⟨_,_,z⟩=>by rw [z];exact ak,?_,?_⟩⟩
 ·rintro i k u σ Hf hk ⟨v3,rfl,rfl⟩
  have mk:=List.mem_of_getElem? hk
  have vk:=yD nd mk
  have hFf:upd H1 R (.frz o (.dK kvs)) F=some (.dK kvs):=ao RF eF
  have hRf:upd H1 R (.frz o (.dK kvs)) R=some (.frz o (.dK kvs)):=ak
  obtain ⟨e,me,ek⟩:=List.mem_map.mp (hkv ▸ mk)
  obtain ⟨rfl,rfl⟩:=Prod.mk.inj ek
  generalize upd H1 R (.frz o (.dK kvs))=Hf at hFf hRf ⊢
  have gF:jP Hf F (.int e.1.no) (some (oS e.2.1)):=by rw [<- vk];exact .inl ⟨_,_,.inl hFf,rfl,rfl⟩
  have gR:jP Hf R (.int e.1.no) (some (oS e.2.1)):=by rw [<- vk];exact .inl ⟨_,_,.inr ⟨o,hRf⟩,rfl,rfl⟩
  try dsimp only
  refine ag fun N1 J1=>Or.inr ⟨F,_,rfl,gF,_,rfl,bO (Or.inr ⟨_,gF,⟨rfl,_,rfl,?_⟩⟩)⟩
  have fin:N1 [some v,some (.ref R),some (.ref F),some (.int e.1.no)] Hf:=J1 _ _ (by
   try dsimp only
   refine Or.inr ⟨_,gF,Or.inr ⟨_,gR,?_⟩⟩
   cases e.2.1 with
   | none=>exact ⟨rfl,_,rfl,bO ⟨_,rfl,rfl⟩⟩
   | some x=>exact ⟨rfl,_,rfl,bj (fun z=>absurd z (by show ¬ (!decide (V.str x=V.str x))=true;rw [decide_eq_true rfl];decide)) fun _=>⟨_,rfl,rfl⟩⟩)
  cases he:e.2.1 with
  | none=>exact jl (bO fin)
  | some x =>
   refine bO ?_
   rw [he] at gF
   exact Or.inr ⟨_,gF,⟨_,_,_,true,rfl,(fun z=>by cases z),.str x,w8,true,rfl,bO fin⟩⟩
 rintro σ Hf ⟨v3,rfl,rfl⟩
 have eb:upd (upd H1 R (.frz o (.dK kvs))) R (.dK kvs)=H1:=by
  funext a
  by_cases z:a=R
  ·rw [z,ak,hR1]
  ·rw [aI z,aI z]
 rw [eb]
 refine K1 _ _ ?_
 clear K1 M1
 try dsimp only
 exact ag fun M1 K1=>⟨Or.inr (Or.inr (Or.inl ⟨rfl,.inl ⟨_,eF⟩⟩)),F,kvs,rfl,rfl,eF,K1 _ _ (q _ (pP s1 hF _))⟩
end
section
variable {P:Program}{w:World}{K:W.Frag}{mg:Str->Option Value}{base:Heap}{A:Adr}{N:Nat->Str}
seal PE PA PS PSs PT PW
theorem CV (f:Fr):inV (V.str f.wd) [V.str "hand",V.str "given",V.str "own",V.str "let",V.str "deed",V.str "main",V.str "else",V.str "end"]=!isB f:=by
 cases f with
 | leaf r=>cases r <;> rfl
 | _=>rfl
def ql (K:W.Frag):Sp:=fun vs H Q _=>∃(a:Addr) (ns:List Int),vs=[.ref a]/\SqL K H a (ns.map V.int)/\ns.length <= 63/\∀H',Q (.bl true) H'
theorem Co {es:List En} (h:es.Pairwise fun a b=>a.2.1 < b.2.1):((es.map uK).map (·.1)).Nodup:=by
 rw [List.map_map]
 unfold List.Nodup
 rw [List.pairwise_map]
 exact h.imp fun {a b} z e=>by
  have e:(Sum.inl a.2.1:Key)=.inl b.2.1:=e
  have:=Sum.inl.inj e
  omega
theorem CD (T:Txt K mg A) (F:bp K mg "law" mX ["_law_script"]):Has P w K mg base 20 "law" ["_law_script"] (ql K):=by
 refine F.hs (k:=19) iY (fun f cdv A' outer s0 H vs Q E hr hu h=>?_) (fun vs H Q E h=>by obtain ⟨a,ns,rfl,_⟩:=h;rfl)
 obtain ⟨sc,ns,rfl,hS,_,q⟩:=h
 refine ⟨_,(ab (pst 1 iY.nd (aq (hj:=by omega) (xu T) hr (aa (aq (hj:=by omega) (qd T) hr (aa (fv 0) (aa af ae))) (aa (aq (hj:=by omega) (qd T) hr (aa (fv 0) (aa af ae))) (aa af ae)))))
  (ab (pst 2 iY.nd (aq (hj:=by omega) (AD T) hr (aa (fv 0) (aa (fv 1) ae))))
  (ab (pst 3 iY.nd (aq (hj:=by omega) (yz T) hr (aa (fv 2) ae)))
  (ab (pst 4 iY.nd (aq (hj:=by omega) (yJ T) hr (aa (fv 2) ae)))
  (ab (pst 5 iY.nd (vY))
  (ab (cD PassesOwn.never rfl (bK rfl T.bY (aa (pcB dS T.fJ (aa (fv 2) ae)) ae)) (pgn (i:=6) iY.nd rfl)
   (ai (aS (ptc (jX hu) (px hu (px hu (fv 2) (fv 6)) af) (aO (aa aj (aa aj (aa aj (aa aj (aa aj (aa aj (aa aj (aa aj ae))))))))) ((by with_unfolding_all rfl)))
    (ab (cK (px hu (fv 4) (fv 6)) (jL (fv 5) (au aN (fv 6) af) (jH hu set_list)))
    (ai (aS (ptc (pS hu) (aq (hj:=by omega) (qe T) hr (aa (au aN (fv 6) af) ae)) (au aN aj (pcT tE T.lB (aa (au aN (fv 6) af) ae))))
     (ai (aA js))
     aE)))
    aE)))
  (ab (cD PassesOwn.never rfl (bK rfl T.bY (aa af ae)) (pgn (i:=7) iY.nd rfl)
   (ai (aS (PW.pt (pw_or (kF (cT (aq (hj:=by omega) (vC T) hr (aa (fv 3) (aa (aq (hj:=by omega) (Ah T) hr (aa (fv 2) ae)) ae))) (fun _=>rfl))) (pw_or1 (kF (cT (aq (hj:=by omega) (wK T) hr (aa (fv 3) (aa (fv 5) ae))) (fun _=>rfl))))))
    (ai (aA js))
    aE)))
  (ai (aA js))))))))),?_⟩
 refine ag fun M1 K1=>⟨sc,ns,0,rfl,hS,by decide,by decide,fun c1 H1 s1=>⟨sc,ns,1,rfl,s1.seq hS,by decide,by decide,fun c2 H2 s2=>⟨c1,c2,rfl,fun nl N H3 s3 hnl enl nm=>K1 _ _ ?_⟩⟩⟩
 clear K1 M1
 have t3:=s1.trans (s2.trans s3)
 try dsimp only
 refine ag fun M1 K1=>⟨N,sc,nl,ns,rfl,t3.seq hS,enl,nm,fun L xs hs ds mb H4 s4 hL eL fr O=>K1 _ _ ?_⟩
 clear K1 M1
 have lf:=uq O
 have lx':=Paired.length fr
 have lx:xs.length <= 300:=by omega
 try dsimp only
 refine ag fun M1 K1=>⟨N,H4,L,xs,hs,ds,mb,rfl,ah.refl _,eL,fr,O,lx,fun v H5 s5 pg=>?_⟩
 have OL:=BD nm O
 have st:=r9 nm O
 have pd:=rS (N:=N) O
 have pl:=zO (N:=N) O
 obtain ⟨bo,hg⟩:=mj (N:=N) O
 have rg:=(kg (N:=N) (flA hs ds mb) [] [] 1).1
 have ub:=yT (b8 N (deP ((hs.length:Nat) + 1) ds) (bB (msN hs ds) mb))
 rw [<- bo] at ub
 have und:=Co rg
 rw [<- ub] at und
 generalize hdP 1 hs=hs' at pg OL st pd pl
 generalize deP ((hs.length:Nat) + 1) ds=ds' at pg OL st pd ub und pl
 generalize bB (msN hs ds) mb=ms' at pg OL st pd ub und pl
 generalize flA hs ds mb=fs at fr ub pd rg hg lx' lf
 refine K1 _ _ ?_
 clear K1 M1
 try dsimp only
 refine ag fun M1 K1=>⟨N,H4,L,xs,fs,rfl,s5,eL,fr,hg,lx,fun La H6 s6 hLa eLa=>K1 _ _ ?_⟩
 clear K1 M1
 try dsimp only
 refine ag fun M1 K1 Dd hDd=>?_
 obtain ⟨s7,eDd⟩:=alc hDd (HO.dK [])
 generalize upd H6 Dd _=H7 at s7 eDd ⊢
 have t7:=s6.trans s7
 have H5D:H5 Dd=none:=ah.free s6 hDd
 have eL7:=(s5.trans t7) _ _ eL
 have La7:=s7 _ _ eLa
 have LaD:La ≠ Dd:=fun z=>by rw [<- z,eLa] at hDd;cases hDd
 refine K1 _ _ ?_
 clear K1 M1
 try dsimp only
 refine ag fun M1 K1=>lnl eL7 ⟨_,rfl,by omega,by omega,?_⟩
 rw [show ((xs.length:Nat):Int).toNat=fs.length by rw [lx'];simp]
 refine cL (fun i σ Hc=>∃(v6:Option V),σ=[some (.ref sc),some (.ref nl),some (.ref L),some v,some (.ref La),some (.ref Dd),v6,none]/\ah H5 Hc/\Hc La=some (.lst ((laA N fs fs.length).map oS))/\Hc Dd=some (.dK ((aR N [] [] 1 (fs.take i)).map uK))) ⟨none,rfl,t7,La7,by rw [List.take_zero];exact eDd⟩ ?_ ?_
 ·clear K1
  rintro i σ Hc hi ⟨v6,rfl,sc',hLc,hDc⟩
  have ej:(0:Int) + (i:Int)=(i:Int):=by omega
  rw [ej]
  obtain ⟨f,hf⟩:∃f,fs[i]?=some f:=⟨_,List.getElem?_eq_getElem hi⟩
  obtain ⟨vf,hv,a,p,rfl,ha,hob⟩:=eZ (i:=i) (a:=f) fr hf
  have sX:=s5.trans sc'
  have lag:=uU (N:=N) hf hi
  have bo1:aR N [] [] 1 (fs.take (i + 1))=aR N [] [] 1 (fs.take i) ++ (if isB f=true then [(f,(i:Int) + 1,(stA N [] 1 (fs.take i)).headD none,(lpO (lsA [] 1 (fs.take i))).getD Str.empty)] else []):=by
   rw [lZ hf,mn,List.length_take,Nat.min_eq_left (Nat.le_of_lt hi),Int.add_comm]
  obtain ⟨_,rg0⟩:=kg (N:=N) (fs.take i) [] [] 1
  have bl:=kX N (fs.take i) [] [] 1
  rw [List.length_take] at rg0 bl
  generalize (stA N [] 1 (fs.take i)).headD none=pl0 at bo1 lag
  generalize (lpO (lsA [] 1 (fs.take i))).getD Str.empty=lp0 at bo1
  generalize aR N [] [] 1 (fs.take i)=B0 at bo1 hDc rg0 bl
  try dsimp only
  refine lxn (SqL.of (sX _ _ eL)) hv (tix (j:=0) (SqT.of (sX _ _ ha)) rfl ⟨by show 8 <= sizeLine;decide,fun tp htp=>?_⟩)
  obtain ⟨s8,e8⟩:=alc htp (HO.tup [V.str "hand",V.str "given",V.str "own",V.str "let",V.str "deed",V.str "main",V.str "else",V.str "end"])
  generalize upd Hc tp _=H8 at s8 e8 ⊢
  have c8:=sc'.trans s8
  have L8:=s8 _ _ hLc
  have D8:=s8 _ _ hDc
  refine Or.inl ⟨_,Or.inr (SqT.of e8),rfl,rfl,_,rfl,?_⟩
  rw [show (if true=true then !inV (V.str f.wd) [V.str "hand",V.str "given",V.str "own",V.str "let",V.str "deed",V.str "main",V.str "else",V.str "end"] else inV (V.str f.wd) [V.str "hand",V.str "given",V.str "own",V.str "let",V.str "deed",V.str "main",V.str "else",V.str "end"])=isB f from by rw [if_pos rfl,CV];simp]
  refine bj (fun z=>?_) (fun z=>?_)
  ·rw [if_pos z] at bo1 lag
   try dsimp only
   refine ag fun M2 K2=>lxn (SqL.of L8) (v:=oS pl0) (by rw [List.getElem?_map,lag];rfl) (Or.inr ⟨_,mE.k (k:=.inl ((i:Int) + 1)) D8 (aG (by rw [List.length_map];omega)),K2 _ _ ?_⟩)
   clear K2 M2
   have nk:(Sum.inl ((i:Int) + 1):Key) ∉ (B0.map uK).map (·.1):=fun m=>by
    obtain ⟨u,mu,eu⟩:=List.mem_map.mp m
    obtain ⟨e,me,rfl⟩:=List.mem_map.mp mu
    have eu:(Sum.inl e.2.1:Key)=.inl ((i:Int) + 1):=eu
    have:=(rg0 e me).2
    have:=Sum.inl.inj eu
    omega
   rw [qN _ (qR nk)]
   have c9:=pP c8 H5D (.dK (B0.map uK ++ [(.inl ((i:Int) + 1),oS pl0)]))
   have D9:upd H8 Dd (.dK (B0.map uK ++ [(.inl ((i:Int) + 1),oS pl0)])) Dd=_:=ak
   have L9:upd H8 Dd (.dK (B0.map uK ++ [(.inl ((i:Int) + 1),oS pl0)])) La=_:=ao LaD L8
   generalize upd H8 Dd _=H9 at c9 D9 L9 ⊢
   try dsimp only
   refine ⟨_,rfl,by omega,by omega,Or.inl ⟨_,rfl,(kq (n:=i + 1) (by omega)).1,(kq (n:=i + 1) (by omega)).2,⟨rfl,_,rfl,?_⟩⟩⟩
   have rt:V.str (bu ((i:Int) + 1))=V.str (("row ":Str) ++ Str.ofString (toString ((i:Int) + 1))):=by rw [pW]
   refine bj (fun z=>absurd z (by rw [decide_eq_true rt];decide)) fun _=>⟨_,rfl,c9,L9,?_⟩
   rw [D9,bo1,List.map_append]
   rfl
  ·rw [if_neg z,List.append_nil] at bo1
   exact ⟨_,rfl,c8,L8,by rw [bo1];exact D8⟩
 rintro σ Hc ⟨v6,rfl,sc',hLc,hDc⟩
 rw [List.take_length,<- ub] at hDc
 refine K1 _ _ ?_
 clear K1 M1
 try dsimp only
 refine ag fun M1 K1=>⟨_,rfl,by decide,by decide,cL (fun i σ Hd=>∃(v7:Option V),σ=[some (.ref sc),some (.ref nl),some (.ref L),some v,some (.ref La),some (.ref Dd),v6,v7]/\ah Hc Hd) ⟨none,rfl,ah.refl _⟩ ?_ ?_⟩
 ·clear K1
  rintro i σ Hd hi ⟨v7,rfl,sd⟩
  try dsimp only
  have du:(fz N 1 fs).length <= 900:=by
   have:=pd.length_eq
   rw [List.length_cons] at this
   omega
  exact ⟨N,H4,L,xs,fs,rfl,s5.trans (sc'.trans sd),eL,fr,lx,du,fun R ss He se hR eR pm so=>⟨N,H5,v,hs',ds',ms',R,ss,rfl,sc'.trans (sd.trans se),pg,OL,eR,pm.trans pd,so,st,fun Hf sf=>⟨_,rfl,bO ⟨N,H5,v,hs',ds',ms',Dd,rfl,sc'.trans (sd.trans (se.trans sf)),pg,OL,(sd.trans (se.trans sf)) _ _ hDc,und,H5D,fun Hg sg=>⟨_,rfl,bO ⟨_,rfl,sd.trans (se.trans (sf.trans sg))⟩⟩⟩⟩⟩⟩
 rintro σ Hd ⟨v7,rfl,sd⟩
 exact K1 _ _ (q _)
end
abbrev FnI (K:W.Frag) (f:Addr) (x y:Str) (s:Stmt):Prop:=∃(oc:Value) (od:Option Addr) (kV dc pm:Value) (an:Option Addr) (cd ct:Value) (sl:Array (Option Value)),K.lookup f=some ⟨oc,od,.func (W.fnOf x y (bJ s) (bA s) (ar s) .none kV dc pm an cd ct),sl⟩/\W.codeIn K cd y=true/\W.keepIn K (.ref f)=true
abbrev cf (K:W.Frag) (x:Str) (s:Stmt):Prop:=∃f,W.nsIn K mainGlobals x=some (some (.ref f))/\FnI K f x x s
abbrev jk (K:W.Frag) (C:Addr) (m q:Str) (s:Stmt):Prop:=∃f,W.findIn K (.ref C) m=some (some (.ref f))/\W.isFn K (.ref f)=true/\FnI K f m q s
abbrev jj (K:W.Frag) (C:Addr) (x:Str) (up:List Addr):Prop:=W.nsIn K mainGlobals x=some (some (.ref C))/\(∃cd,W.clsIn K C=some cd/\cd.mro=up.map Value.ref ++ [Value.type "object"])/\W.plainGet K C Str.empty=true/\W.hasDictIn K C=true/\W.plainOver K C=true/\W.findIn K (.ref C) "__setattr__"=some (some (.builtin "object.__setattr__"))/\W.typeIn K (.ref C)=some (.type "type")/\W.findIn K (.ref C) "__class__"=some (some (.builtin "object.__class__"))/\W.makesIn K C=true/\W.keepIn K (.ref C)=true
abbrev NsI (K:W.Frag) (x:Str):Prop:=W.nsIn K mainGlobals x=some none
abbrev NoI (K:W.Frag) (C:Addr) (x:Str):Prop:=W.findIn K (.ref C) x=some none
section
variable {K:W.Frag}{mg:Str->Option Value}{h:Heap}{x m q:Str}{s:Stmt}{ps:List Str}{C:Addr}{up:List Addr}
theorem cu (X:K.In h) (G:h.Ns mainGlobals mg) (t:cf K x s) (b:∀(kV doc pm:Value) (an:Option Addr) (cdv ct:Value) (us:List Value),us.length=ps.length->bindArgs (W.fnOf x x (bJ s) (bA s) (ar s) .none kV doc pm an cdv ct) ⟨us,[]⟩=pure (ps.zip us)):bp K mg x s ps:=by
 obtain ⟨f,a,_,_,_,_,_,_,_,_,_,l,c,k⟩:=t
 exact xW X G a l c k b
theorem jI (t:jk K C m q s) (b:∀(kV doc pm:Value) (an:Option Addr) (cdv ct:Value) (us:List Value),us.length=ps.length->bindArgs (W.fnOf m q (bJ s) (bA s) (ar s) .none kV doc pm an cdv ct) ⟨us,[]⟩=pure (ps.zip us)):MFn K C m q s ps:=by
 obtain ⟨f,a,i,_,_,_,_,_,_,_,_,_,l,c,k⟩:=t
 exact Bj a i l c k b
theorem jK (X:K.In h) (G:h.Ns mainGlobals mg) (cg:W.specialIn K (.builtin "object.__class__") "__get__"=some (some (.builtin "getset_descriptor.__get__"))) (ct:W.takesIn K (.builtin "object.__class__")=some true) (t:jj K C x up):cE K mg C x up:=by
 obtain ⟨a,b,c,d,e,f,g,i,j,k⟩:=t
 exact ⟨W.mg_of X G a,⟨c,d,e,f⟩,b,g,i,cg,ct,j,k⟩
end
theorem ar0 {p:List Value->Prop} (h:p []):∀us:List Value,us.length=0->p us:=fun us e=>by
 cases us with
 | nil=>exact h
 | cons b t=>cases e
theorem arS {p:List Value->Prop}{n:Nat} (h:∀a,∀us:List Value,us.length=n->p (a :: us)):∀us:List Value,us.length=n + 1->p us:=fun us e=>by
 cases us with
 | nil=>cases e
 | cons b t=>exact h b t (Nat.succ.inj e)
theorem ar1 {p:List Value->Prop} (h:∀a0,p [a0]):∀us:List Value,us.length=1->p us:=arS fun a0=>ar0 (h a0)
theorem ar2 {p:List Value->Prop} (h:∀a0 a1,p [a0,a1]):∀us:List Value,us.length=2->p us:=arS fun a0=>arS fun a1=>ar0 (h a0 a1)
theorem ar3 {p:List Value->Prop} (h:∀a0 a1 a2,p [a0,a1,a2]):∀us:List Value,us.length=3->p us:=arS fun a0=>arS fun a1=>arS fun a2=>ar0 (h a0 a1 a2)
theorem ar4 {p:List Value->Prop} (h:∀a0 a1 a2 a3,p [a0,a1,a2,a3]):∀us:List Value,us.length=4->p us:=arS fun a0=>arS fun a1=>arS fun a2=>arS fun a3=>ar0 (h a0 a1 a2 a3)
theorem ar5 {p:List Value->Prop} (h:∀a0 a1 a2 a3 a4,p [a0,a1,a2,a3,a4]):∀us:List Value,us.length=5->p us:=arS fun a0=>arS fun a1=>arS fun a2=>arS fun a3=>arS fun a4=>ar0 (h a0 a1 a2 a3 a4)
theorem ar7 {p:List Value->Prop} (h:∀a0 a1 a2 a3 a4 a5 a6,p [a0,a1,a2,a3,a4,a5,a6]):∀us:List Value,us.length=7->p us:=arS fun a0=>arS fun a1=>arS fun a2=>arS fun a3=>arS fun a4=>arS fun a5=>arS fun a6=>ar0 (h a0 a1 a2 a3 a4 a5 a6)
theorem all_mk {l:W.OpenLaw}{w:World}{K:W.Frag}{h:Heap}{mg:Str->Option Value}{fa:Addr} (A:Adr) (X:K.In h) (G:h.Ns mainGlobals mg) (hfa:mg "law"=some (.ref fa))
 (t1:cf K "row_place" i8) (t2:cf K "laid_rows" iz) (t3:cf K "laid_inside" fT) (t4:cf K "laid_program" ez)
 (t5:cf K "is_place" jG) (t6:cf K "head_places" gm) (t7:cf K "places" mq) (t8:cf K "under" qb)
 (t9:cf K "_law_cell_at" fN) (t10:cf K "_law_more" jR) (t11:cf K "_law_mix" ll) (t12:cf K "_law_names" iJ)
 (t13:cf K "_law_pick" jQ) (t14:cf K "_law_heads" iN) (t15:cf K "_law_scope" je) (t16:cf K "_law_thing" iq)
 (t17:cf K "_law_value" iU) (t18:cf K "_law_plain" iV) (t19:cf K "_law_opened" gN) (t20:cf K "_law_closed" gK)
 (t21:cf K "_law_row" lj) (t22:cf K "_law_body" jM) (t23:cf K "_law_flat" jU) (t24:cf K "_law_row_made" eE)
 (t25:cf K "_law_rows_made" dg) (t26:cf K "_law_program" fP) (t27:cf K "_law_lain" jT) (t28:cf K "_law_due" kU)
 (t29:cf K "_law_places" gQ) (t30:cf K "_law_under" ix) (t31:cf K "law" mX) (uc:NsI K "all")
 (ng:NsI K "dict") (aK:NsI K "isinstance") (fJ:NsI K "len") (cn:NsI K "list")
 (bY:NsI K "range") (i7:NsI K "sorted") (lB:NsI K "str") (g_CLOCK:∃k:Tok,W.nsIn K mainGlobals "CLOCK"=some (some (.str "the clock" k)))
 (cg:W.specialIn K (.builtin "object.__class__") "__get__"=some (some (.builtin "getset_descriptor.__get__"))) (ct:W.takesIn K (.builtin "object.__class__")=some true) (x_Row:jj K A.Row "Row" [A.Row]) (x_HandRow:jj K A.bE "HandRow" [A.bE,A.Row])
 (x_GivenRow:jj K A.a7 "GivenRow" [A.a7,A.Row]) (x_OwnRow:jj K A.bU "OwnRow" [A.bU,A.Row]) (x_LetRow:jj K A.bV "LetRow" [A.bV,A.Row]) (x_SetRow:jj K A.bW "SetRow" [A.bW,A.Row])
 (x_PutRow:jj K A.bL "PutRow" [A.bL,A.Row]) (x_SendRow:jj K A.bD "SendRow" [A.bD,A.Row]) (x_SayRow:jj K A.bM "SayRow" [A.bM,A.Row]) (x_CallRow:jj K A.bC "CallRow" [A.bC,A.Row])
 (x_LastRow:jj K A.bX "LastRow" [A.bX,A.Row]) (x_IfRow:jj K A.bR "IfRow" [A.bR,A.Row]) (x_LoopRow:jj K A.aV "LoopRow" [A.aV,A.Row]) (x_DeedRow:jj K A.br "DeedRow" [A.br,A.Row])
 (x_Program:jj K A.Program "Program" [A.Program]) (m1:jk K A.Row "__init__" "Row.__init__" cS) (m2:jk K A.bE "__init__" "HandRow.__init__" fw) (m3:jk K A.a7 "__init__" "GivenRow.__init__" df)
 (m4:jk K A.bU "__init__" "OwnRow.__init__" gc) (m5:jk K A.bV "__init__" "LetRow.__init__" fL) (m6:jk K A.bW "__init__" "SetRow.__init__" gg) (m7:jk K A.bL "__init__" "PutRow.__init__" gj)
 (m8:jk K A.bD "__init__" "SendRow.__init__" dW) (m9:jk K A.bM "__init__" "SayRow.__init__" gk) (m10:jk K A.bC "__init__" "CallRow.__init__" eO) (m11:jk K A.bX "__init__" "Row.__init__" cS)
 (m12:jk K A.bR "__init__" "IfRow.__init__" gT) (m13:jk K A.aV "__init__" "LoopRow.__init__" dZ) (m14:jk K A.br "__init__" "DeedRow.__init__" eV) (m15:jk K A.Program "__init__" "Program.__init__" eG)
 (n1:NoI K A.bE "name") (n2:NoI K A.bE "rank") (n3:NoI K A.bE "number") (n4:NoI K A.a7 "name")
 (n5:NoI K A.a7 "rank") (n6:NoI K A.a7 "size") (n7:NoI K A.a7 "number") (n8:NoI K A.bU "name")
 (n9:NoI K A.bU "size") (n10:NoI K A.bU "number") (n11:NoI K A.bV "name") (n12:NoI K A.bV "rank")
 (n13:NoI K A.bV "number") (n14:NoI K A.bW "name") (n15:NoI K A.bW "value") (n16:NoI K A.bW "number")
 (n17:NoI K A.bL "name") (n18:NoI K A.bL "place") (n19:NoI K A.bL "value") (n20:NoI K A.bL "number")
 (n21:NoI K A.bD "name") (n22:NoI K A.bD "value") (n23:NoI K A.bD "number") (n24:NoI K A.bM "name")
 (n25:NoI K A.bM "value") (n26:NoI K A.bM "mark") (n27:NoI K A.bM "number") (n28:NoI K A.bC "name")
 (n29:NoI K A.bC "things") (n30:NoI K A.bC "number") (n31:NoI K A.bX "number") (n32:NoI K A.bR "value")
 (n33:NoI K A.bR "first") (n34:NoI K A.bR "other") (n35:NoI K A.bR "left") (n36:NoI K A.bR "right")
 (n37:NoI K A.bR "number") (n38:NoI K A.aV "thing") (n39:NoI K A.aV "most") (n40:NoI K A.aV "body")
 (n41:NoI K A.aV "left") (n42:NoI K A.aV "right") (n43:NoI K A.aV "number") (n44:NoI K A.br "name")
 (n45:NoI K A.br "parts") (n46:NoI K A.br "body") (n47:NoI K A.br "number") (n48:NoI K A.Program "heads")
 (n49:NoI K A.Program "deeds") (n50:NoI K A.Program "main") (y_Row_init:W.specialIn K (.ref A.Row) "__getattribute__"=some (some (.builtin "type.__getattribute__"))/\W.readsIn K A.Row (.type "type")=true/\∃f,W.findIn K (.ref A.Row) "__init__"=some (some (.ref f))/\W.findCls K (.ref A.Row) (.type "type") "__init__"=some (.val (.ref f))) (nod:[A.Row,A.bE,A.a7,A.bU,A.bV,A.bW,A.bL,A.bD,A.bM,A.bC,A.bX,A.bR,A.aV,A.br,A.Program].Nodup)
:∃fd:FuncData,(∀(s:Shared) (v:Value),BindsTo s fd ⟨[v],[]⟩ [("_law_script",v)])/\∀base:Heap,K.In base->base.Ns mainGlobals mg->kE l.prog w K mg base CX0 20 fa fd ["_law_script"] (ql K):=by
 have T:Txt K mg A:={
  kK:=cu X G t1 fun _ _ _ _ _ _=>ar1 fun _=>rfl,dO:=cu X G t2 fun _ _ _ _ _ _=>ar3 fun _ _ _=>rfl,fG:=cu X G t3 fun _ _ _ _ _ _=>ar2 fun _ _=>rfl,
  gO:=cu X G t4 fun _ _ _ _ _ _=>ar1 fun _=>rfl,mD:=cu X G t5 fun _ _ _ _ _ _=>ar1 fun _=>rfl,iR:=cu X G t6 fun _ _ _ _ _ _=>ar1 fun _=>rfl,
  places:=cu X G t7 fun _ _ _ _ _ _=>ar1 fun _=>rfl,under:=cu X G t8 fun _ _ _ _ _ _=>ar1 fun _=>rfl,iM:=cu X G t9 fun _ _ _ _ _ _=>ar2 fun _ _=>rfl,
  mN:=cu X G t10 fun _ _ _ _ _ _=>ar3 fun _ _ _=>rfl,pZ:=cu X G t11 fun _ _ _ _ _ _=>ar2 fun _ _=>rfl,kG:=cu X G t12 fun _ _ _ _ _ _=>ar3 fun _ _ _=>rfl,
  mS:=cu X G t13 fun _ _ _ _ _ _=>ar2 fun _ _=>rfl,ko:=cu X G t14 fun _ _ _ _ _ _=>ar2 fun _ _=>rfl,kr:=cu X G t15 fun _ _ _ _ _ _=>ar2 fun _ _=>rfl,
  kJ:=cu X G t16 fun _ _ _ _ _ _=>ar2 fun _ _=>rfl,kZ:=cu X G t17 fun _ _ _ _ _ _=>ar2 fun _ _=>rfl,kD:=cu X G t18 fun _ _ _ _ _ _=>ar3 fun _ _ _=>rfl,
  jS:=cu X G t19 fun _ _ _ _ _ _=>ar4 fun _ _ _ _=>rfl,jO:=cu X G t20 fun _ _ _ _ _ _=>ar1 fun _=>rfl,qp:=cu X G t21 fun _ _ _ _ _ _=>ar3 fun _ _ _=>rfl,
  nj:=cu X G t22 fun _ _ _ _ _ _=>ar4 fun _ _ _ _=>rfl,nh:=cu X G t23 fun _ _ _ _ _ _=>ar2 fun _ _=>rfl,gL:=cu X G t24 fun _ _ _ _ _ _=>ar2 fun _ _=>rfl,
  bS:=cu X G t25 fun _ _ _ _ _ _=>ar2 fun _ _=>rfl,jc:=cu X G t26 fun _ _ _ _ _ _=>ar1 fun _=>rfl,mr:=cu X G t27 fun _ _ _ _ _ _=>ar1 fun _=>rfl,
  pj:=cu X G t28 fun _ _ _ _ _ _=>ar1 fun _=>rfl,jF:=cu X G t29 fun _ _ _ _ _ _=>ar2 fun _ _=>rfl,kI:=cu X G t30 fun _ _ _ _ _ _=>ar2 fun _ _=>rfl,
  uc:=W.mg_none_of X G uc,ng:=W.mg_none_of X G ng,aK:=W.mg_none_of X G aK,
  fJ:=W.mg_none_of X G fJ,cn:=W.mg_none_of X G cn,bY:=W.mg_none_of X G bY,
  i7:=W.mg_none_of X G i7,lB:=W.mg_none_of X G lB,tH:=g_CLOCK.imp fun _ e=>W.mg_of X G e,
  gz:=jK X G cg ct x_Row,nE:=jI m1 fun _ _ _ _ _ _=>ar2 fun _ _=>rfl,gE:=jK X G cg ct x_HandRow,
  ft:=jI m2 fun _ _ _ _ _ _=>ar4 fun _ _ _ _=>rfl,iL:=n1,ij:=n2,
  cJ:=n3,cm:=jK X G cg ct x_GivenRow,dy:=jI m3 fun _ _ _ _ _ _=>ar5 fun _ _ _ _ _=>rfl,
  dq:=n4,hE:=n5,gW:=n6,
  cG:=n7,eP:=jK X G cg ct x_OwnRow,fU:=jI m4 fun _ _ _ _ _ _=>ar4 fun _ _ _ _=>rfl,
  f9:=n8,jy:=n9,dh:=n10,
  eX:=jK X G cg ct x_LetRow,fS:=jI m5 fun _ _ _ _ _ _=>ar4 fun _ _ _ _=>rfl,gb:=n11,
  jt:=n12,dz:=n13,iG:=jK X G cg ct x_SetRow,
  gn:=jI m6 fun _ _ _ _ _ _=>ar4 fun _ _ _ _=>rfl,jC:=n14,iC:=n15,
  dv:=n16,i9:=jK X G cg ct x_PutRow,fX:=jI m7 fun _ _ _ _ _ _=>ar5 fun _ _ _ _ _=>rfl,
  ju:=n17,iZ:=n18,i3:=n19,
  dD:=n20,dN:=jK X G cg ct x_SendRow,dQ:=jI m8 fun _ _ _ _ _ _=>ar4 fun _ _ _ _=>rfl,
  iW:=n21,hZ:=n22,cN:=n23,
  gG:=jK X G cg ct x_SayRow,gh:=jI m9 fun _ _ _ _ _ _=>ar5 fun _ _ _ _ _=>rfl,jD:=n24,
  iE:=n25,jx:=n26,dC:=n27,
  gu:=jK X G cg ct x_CallRow,fo:=jI m10 fun _ _ _ _ _ _=>ar4 fun _ _ _ _=>rfl,i5:=n28,
  gq:=n29,cO:=n30,gC:=jK X G cg ct x_LastRow,
  iX:=jI m11 fun _ _ _ _ _ _=>ar2 fun _ _=>rfl,cV:=n31,dH:=jK X G cg ct x_IfRow,
  gM:=jI m12 fun _ _ _ _ _ _=>ar7 fun _ _ _ _ _ _ _=>rfl,jB:=n32,gi:=n33,
  fQ:=n34,jW:=n35,jq:=n36,
  dY:=n37,cw:=jK X G cg ct x_LoopRow,fu:=jI m13 fun _ _ _ _ _ _=>ar7 fun _ _ _ _ _ _ _=>rfl,
  gZ:=n38,i6:=n39,eY:=n40,
  iQ:=n41,gX:=n42,cU:=n43,
  b5:=jK X G cg ct x_DeedRow,eT:=jI m14 fun _ _ _ _ _ _=>ar5 fun _ _ _ _ _=>rfl,cz:=n44,
  dw:=n45,dU:=n46,cP:=n47,
  cW:=jK X G cg ct x_Program,er:=jI m15 fun _ _ _ _ _ _=>ar4 fun _ _ _ _=>rfl,da:=n48,
  cj:=n49,eN:=n50,aZ:=⟨y_Row_init.1,y_Row_init.2.1,y_Row_init.2.2⟩,
  nd:=nod }
 have F:bp K mg "law" mX ["_law_script"]:=cu X G t31 fun _ _ _ _ _ _=>ar1 fun _=>rfl
 obtain ⟨f,a,oc,od,kV,dc,pm,an,cd,ct,sl,lk,_,_⟩:=t31
 refine ⟨W.fnOf "law" "law" (bJ mX) (bA mX) (ar mX) .none kV dc pm an cd ct,fun s v=>.of_eq rfl,fun base _ _=>?_⟩
 have e:=hfa.symm.trans (W.mg_of X G a)
 cases e
 exact Br (CD (P:=l.prog) (w:=w) (base:=base) T F) (W.mg_of X G a) lk
theorem walk {l:W.OpenLaw}{q:Program}{loose:List Str}{XP:(Str->Option Value)->Heap->Prop}{YP:World->Heap->Prop}{d:DefRec}{K:Params->W.Frag} (hn:l.most=some 63) (hdf:d.params.defaults=[]) (hY:∀(w:World) (h:Heap),YP w h->(K w.params).In h)
  (F:∀(w:World) (mg:Str->Option Value) (fa:Addr) (h:Heap),(K w.params).In h->h.Ns mainGlobals mg->mg d.name=some (.ref fa)->∃fd:FuncData,(∀(s:Shared) (u:Value),BindsTo s fd ⟨[u],[]⟩ [("_law_script",u)])/\∀base:Heap,(K w.params).In base->base.Ns mainGlobals mg->kE l.prog w (K w.params) mg base CX0 20 fa fd ["_law_script"] (ql (K w.params))) :
  W.WalkO q loose XP YP l.row.toRowW d [] (fun f vs=>PySem.call f vs) :=
 L2.yp (n:=63) (k:=20) (x:="_law_script") (CX:=fun _=>CX0) (sp:=fun w=>ql (K w.params)) hn (by decide) hdf ⟨rfl,by decide,by decide⟩ hY F (fun _ _ a ns hl _ hS=>⟨a,ns,rfl,hS,hl,fun _=>rfl⟩) fun _ _ _ _ _ z=>z
end K30
open PySem PySem.W PyProof.Rows
set_option maxRecDepth 100000 in
set_option maxHeartbeats 0 in
theorem PySem.Challenge.cw_hushrow_k30_places_and_under_holds : PySem.Challenge.rw_hushrow_k30_places_and_under.Holds := by
 w_on;o_law
 refine W.holds_open (q:=K30.dj) (loose:=[]) (Xt:=K30.test) (XP:=W.XL K30.dj []) (Yf:=(W.kHook K30.heapK K30.lD K30.gr).obs) (Ya:=(W.kHook K30.heapK K30.lD K30.gr).val) (YP:=(W.kHook K30.heapK K30.lD K30.gr).says) (N:=11062) K30.left (W.kHook K30.heapK K30.lD K30.gr).of (W.kHook K30.heapK K30.lD K30.gr).keeps
  (fun s e=>W.xl_of s (Bool.and_eq_true_iff.mp e).1) W.XL.keeps (by rfl) (by rfl) (by rfl) (fun s e=>W.recFacts_of (Bool.and_eq_true_iff.mp e).2) ?h4 ?h5 ?h6 ⟨rfl,rfl,rfl,rfl,rfl,by decide +kernel⟩ ?hw ?hc
 (case h4=>rfl);(case h5=>first | assumption | decide +kernel);(case h6=>decide +kernel);(case hw=>w_witness2)
 k_fill
 refine K30.walk (l:=PySem.Challenge.rw_hushrow_k30_places_and_under) rfl rfl (fun w h Y=>W.kIn_of Y) ?F
 case F =>
  intro w mg fa h KX G hmg
  refine K30.all_mk ⟨52,80,106,132,158,198,238,271,311,344,363,396,429,455,474⟩ KX G hmg ?_ ?_ ?_ ?_ ?_ ?_ ?_ ?_ ?_ ?_ ?_ ?_ ?_ ?_ ?_ ?_ ?_ ?_ ?_ ?_ ?_ ?_ ?_ ?_ ?_ ?_ ?_ ?_ ?_ ?_ ?_ ?_ ?_ ?_ ?_ ?_ ?_ ?_ ?_ ?_ ?_ ?_ ?_ ?_ ?_ ?_ ?_ ?_ ?_ ?_ ?_ ?_ ?_ ?_ ?_ ?_ ?_ ?_ ?_ ?_ ?_ ?_ ?_ ?_ ?_ ?_ ?_ ?_ ?_ ?_ ?_ ?_ ?_ ?_ ?_ ?_ ?_ ?_ ?_ ?_ ?_ ?_ ?_ ?_ ?_ ?_ ?_ ?_ ?_ ?_ ?_ ?_ ?_ ?_ ?_ ?_ ?_ ?_ ?_ ?_ ?_ ?_ ?_ ?_ ?_ ?_ ?_ ?_ ?_ ?_ ?_ ?_ ?_ ?_ ?_ ?_ ?_ ?_ ?_ ?_ ?_ ?_ ?_ ?_
  iterate 31 exact ⟨_,by k_is,_,_,_,_,_,_,_,_,_,by k_is,by k_is,by k_is⟩
  iterate 8 (show _=_;k_is)
  iterate 1 exact ⟨_,by k_is⟩
  iterate 2 (show _=_;k_is)
  iterate 15 exact ⟨by k_is,⟨_,by k_is,rfl⟩,by k_is,by k_is,by k_is,by k_is,by k_is,by k_is,by k_is,by k_is⟩
  iterate 15 exact ⟨_,by k_is,by k_is,_,_,_,_,_,_,_,_,_,by k_is,by k_is,by k_is⟩
  iterate 50 (show _=_;k_is)
  iterate 1 exact ⟨by k_is,by k_is,_,by k_is,by k_is⟩
  iterate 1 decide
