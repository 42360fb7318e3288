import PyProof.Rows.All
import Wide.All
import OpenK.AllK
import Wide.FinOn
import Lean
import PyProof.EqAt
import PyProof.EqKinds
import PyProof.TupleCall
import PyProof.AttrMissSeq
import KE.KDictList
import PyProof.WalksEnum
import PyProof.EnumMake
import PyProof.ZipIter
import PyProof.Rows.ZipGen
import PyProof.Rows.SumAny
import PyProof.DictUpdate
import KE.KRevSl
import PyProof.Rows.FStr
import PyProof.WalkInts
import PyProof.Rows.SortShellK
import PyProof.Rows.SortWalk
import PySem.Challenge.RW_hushrow_k50_one_row_evened
set_option Elab.async false
set_option linter.all false
set_option maxRecDepth 100000
namespace Hd
open PySem PySem.W PySem.Calls PyProof.Rows
def jm (tb:String->Option Builtin) (p:Program) (w:World) (n₀:Nat) (ann:Option Value):Nat->SharedT->Thread->Option SharedT
 | 0,_,_=>none
 | n + 1,s,t=>match through t with
  | true=>some s
  | false=>match stepOk n₀ ann t with
   | false=>none
   | true=>match stepT (denote tb) p w s t with
    | some (s',t')=>jm tb p w n₀ ann n s' t'
    | none=>none
theorem Aj {tb:String->Option Builtin}{p:Program}{w:World}{n₀:Nat}{ann:Option Value}:∀{n:Nat}{s s':SharedT}{t:Thread},
  jm tb p w n₀ ann n s t=some s'->topRun tb p w n₀ ann n s.abs t=some s'.abs
 | 0,_,_,_,h=>by cases h
 | n + 1,s,s',t,h=>by
  unfold jm at h
  unfold topRun
  cases he:through t with
  | true=>rw [he] at h;cases h;rfl
  | false =>
   rw [he] at h
   cases hk:stepOk n₀ ann t with
   | false=>rw [hk] at h;cases h
   | true =>
    rw [hk] at h
    cases hs:stepT (denote tb) p w s t with
    | none=>rw [hs] at h;cases h
    | some r=>obtain ⟨s₂,t₂⟩:=r;rw [hs] at h;rw [stepT_spec hs];exact Aj h
def D8 (p q:Program) (loose:List Str) (Xt:Shared->Bool) {α:Type} (Yf:Shared->α) (g0:Bool) (H:Heap) (s:Shared) :=
 (staticsOk (importedModules p.main.body) H s.heap && namesBound p s.heap && gensDone s && laidKept H s.heap,openSeen q loose (importedModules p.main.body) Xt g0 s,Yf s)
def zY (p:Program) (H:Heap) (s:Shared):=staticsOk (importedModules p.main.body) H s.heap && namesBound p s.heap && gensDone s && laidKept H s.heap
def treeOf:List Obj->Nat->BT->BT
 | [],_,t=>t
 | o :: r,i,t=>treeOf r (i + 1) (t.ins i o)
theorem Bi {p q:Program}{loose:List Str}{Xt:Shared->Bool}{α:Type}{Yf:Shared->α}{Ya:World->α}{N:Nat}{g0:Bool}{H₀:Params->Heap}{gs₀:Array GenState}{d₀:Drawn}{k₀ m₀ n₀:Nat}{ann:Option Value}{T₀:Params->BT}{life:Life}
  (opn:∀w:World,(fencedOpening treeTable p w N).map (fun s=>(s.heap,s.gens,s.drawn,s.toks))=some (H₀ w.params,gs₀,d₀,k₀))
  (size:∀w:World,((H₀ w.params).isNs mainGlobals && gs₀.size == 0,(H₀ w.params).objs.size,(H₀ w.params).nsMap mainGlobals "__annotations__")=(true,m₀,ann))
  (tree:∀P:Params,absHeap (T₀ P) n₀ life=H₀ P)
  (look:∀(w:World) (os:OsState),(jm treeTable p w m₀ ann N ⟨T₀ w.params,n₀,life,gs₀,d₀,k₀,os⟩ (topStub p)).map (fun s=>D8 p q loose Xt Yf g0 (H₀ w.params) s.abs)=some (true,openGood q loose,Ya w)) :
  LeftO p q loose Xt Yf Ya N g0:=fun w=>by
 obtain ⟨⟨h,gs,d,k,os⟩,e,e'⟩:=Option.map_eq_some_iff.mp (opn w)
 obtain ⟨rfl,rfl,rfl,rfl⟩:h=H₀ w.params/\gs=gs₀/\d=d₀/\k=k₀:=by simpa using e'
 obtain ⟨z1,z2,z3⟩:_/\_/\_:=by simpa only [Prod.mk.injEq] using size w
 obtain ⟨s,hs,hl⟩:=Option.map_eq_some_iff.mp (look w os)
 obtain ⟨l1,l23⟩:=Prod.mk.inj hl
 obtain ⟨l2,l3⟩:=Prod.mk.inj l23
 have r:=Aj hs
 have t:topFrom treeTable p w N ⟨H₀ w.params,gs,d,k,os⟩=some s.abs:=by
  unfold topFrom
  dsimp only
  rw [z1,z2,z3]
  unfold SharedT.abs at r
  dsimp only at r
  rw [tree w.params] at r
  show (topRun treeTable p w m₀ ann N ⟨H₀ w.params,gs,d,k,os⟩ (topStub p)).bind _=_
  rw [r]
  show (match staticsOk (importedModules p.main.body) (H₀ w.params) s.abs.heap && namesBound p s.abs.heap && gensDone s.abs && laidKept (H₀ w.params) s.abs.heap with | true=>_ | false=>_)=_
  rw [l1]
  rfl
 unfold openEnds
 rw [e]
 show (topFrom treeTable p w N _).map _=_
 rw [t]
 exact congrArg some (Prod.ext l2 l3)
theorem yZ {p q:Program}{loose:List Str}{Xt:Shared->Bool}{α:Type}{Yf:Shared->α}{Ya:World->α}{N:Nat}{g0:Bool}{H₀:Params->Heap}{gs₀:Array GenState}{d₀:Drawn}{k₀ m₀ n₀:Nat}{ann:Option Value}{T₀:Params->BT}{life:Life}
  (opn:∀w:World,(fencedOpening treeTable p w N).map (fun s=>(s.heap,s.gens,s.drawn,s.toks))=some (H₀ w.params,gs₀,d₀,k₀))
  (size:∀w:World,((H₀ w.params).isNs mainGlobals && gs₀.size == 0,(H₀ w.params).objs.size,(H₀ w.params).nsMap mainGlobals "__annotations__")=(true,m₀,ann))
  (tree:∀P:Params,absHeap (T₀ P) n₀ life=H₀ P)
  (look1:∀(w:World) (os:OsState),(jm treeTable p w m₀ ann N ⟨T₀ w.params,n₀,life,gs₀,d₀,k₀,os⟩ (topStub p)).map (fun s=>zY p (H₀ w.params) s.abs)=some true)
  (look3:∀(w:World) (os:OsState),(jm treeTable p w m₀ ann N ⟨T₀ w.params,n₀,life,gs₀,d₀,k₀,os⟩ (topStub p)).map (fun s=>(openSeen q loose (importedModules p.main.body) Xt g0 s.abs).1)=some (openGood q loose).1)
  (look7:∀(w:World) (os:OsState),(jm treeTable p w m₀ ann N ⟨T₀ w.params,n₀,life,gs₀,d₀,k₀,os⟩ (topStub p)).map (fun s=>(openSeen q loose (importedModules p.main.body) Xt g0 s.abs).2.1)=some (openGood q loose).2.1)
  (look5:∀(w:World) (os:OsState),(jm treeTable p w m₀ ann N ⟨T₀ w.params,n₀,life,gs₀,d₀,k₀,os⟩ (topStub p)).map (fun s=>(openSeen q loose (importedModules p.main.body) Xt g0 s.abs).2.2.1)=some true)
  (look6:∀(w:World) (os:OsState),(jm treeTable p w m₀ ann N ⟨T₀ w.params,n₀,life,gs₀,d₀,k₀,os⟩ (topStub p)).map (fun s=>(openSeen q loose (importedModules p.main.body) Xt g0 s.abs).2.2.2.1)=some true)
  (look4:∀(w:World) (os:OsState),(jm treeTable p w m₀ ann N ⟨T₀ w.params,n₀,life,gs₀,d₀,k₀,os⟩ (topStub p)).map (fun s=>(openSeen q loose (importedModules p.main.body) Xt g0 s.abs).2.2.2.2)=some (openGood q loose).2.2.2.2)
  (look2:∀(w:World) (os:OsState),(jm treeTable p w m₀ ann N ⟨T₀ w.params,n₀,life,gs₀,d₀,k₀,os⟩ (topStub p)).map (fun s=>Yf s.abs)=some (Ya w)) :
  LeftO p q loose Xt Yf Ya N g0:=Bi opn size tree fun w os=>by
 obtain ⟨s,hs,h1⟩:=Option.map_eq_some_iff.mp (look1 w os)
 have h2:=look2 w os
 have h3:=look3 w os
 have h4:=look4 w os
 have h5:=look5 w os
 have h6:=look6 w os
 have h7:=look7 w os
 rw [hs] at h2 h3 h4 h5 h6 h7 ⊢
 exact congrArg some (Prod.ext h1 (Prod.ext (Prod.ext (Option.some.inj h3) (Prod.ext (Option.some.inj h7) (Prod.ext (Option.some.inj h5) (Prod.ext (Option.some.inj h6) (Option.some.inj h4))))) (Option.some.inj h2)))
end Hd
namespace L2
open PySem PySem.Spec PyProof.Rows
def inClass (s:Stmt) (j:Nat):Stmt:=match s with
 | .ClassDef _ _ _ body _ _ _ _ _ _ _=>body.getD j (.Pass ⟨0,0,0,0⟩)
 | _=>.Pass ⟨0,0,0,0⟩
def bP (s:Stmt):Arguments:=match s with
 | .FunctionDef _ a _ _ _ _ _ _ _ _=>a
 | _=>{ posonlyargs:=[],args:=[],vararg:=none,kwonlyargs:=[],kw_defaults:=[],kwarg:=none,defaults:=[] }
def bu (s:Stmt):List Stmt:=match s with
 | .FunctionDef _ _ b _ _ _ _ _ _ _=>b
 | _=>[]
def ak (s:Stmt):Scope:=match s with
 | .FunctionDef _ _ _ _ _ _ sc _ _ _=>sc
 | _=>{ kind:=.function,names:=[],isGenerator:=false,isCoroutine:=false }
end L2
namespace K50
open PySem
def top (i:Nat):Stmt:=PySem.Challenge.pw_hushrow_k50_one_row_evened.main.body.getD i (.Pass ⟨0,0,0,0⟩)
end K50
set_option genSizeOf false
set_option maxHeartbeats 0
namespace K50
open PySem L2 PySem.W
noncomputable abbrev Ey (P:Params) (x:Str) (t:Nat) (v:Value):DictEntry:=⟨PyData.keyHash P x,.str x t,v⟩
noncomputable abbrev FL (P:Params) (a:Nat) (l:Int) (b:Nat):=Ey P "__firstlineno__" a (.int l b)
noncomputable abbrev SA (P:Params) (a b:Nat):=Ey P "__static_attributes__" a (.ref b)
noncomputable abbrev DO (P:Params) (a:Nat):=Ey P "__doc__" a .none
noncomputable abbrev M3O (P:Params) (a:Nat):=Ey P "__module__" a (.str "hushrow.rows" 237)
noncomputable abbrev ER (P:Params) (x:Str) (a b:Nat):=Ey P x a (.ref b)
noncomputable abbrev DI (x:Array DictEntry) (n:Nat):Obj:=⟨.type "dict",none,.dict x n,#[]⟩
noncomputable abbrev WR (x:Str) (a b:Nat) (y:String):Obj:=⟨.type "getset_descriptor",none,.fields #[.str x a,.ref b,.builtin y,.none],#[]⟩
noncomputable abbrev CX (n:Str) (a c:Nat) (bs m s:List Value) (d:Option Value) (u v:Nat) (w:String):Obj:=⟨.type "type",none,.cls { name:=n,bases:=bs,mro:=.ref a :: m,ns:=c,qualname:=n,hasDict:=true,slotNames:=[],subclasses:=s,abstract:=false,collection:=none,hasDel:=false },#[d,none,some (.str n u),some (.str n v),some (.builtin w),some (.bool true)]⟩
noncomputable abbrev CO (n q:Str) (t:Nat) (l a:Int) (r:Nat) (m:Nat):Obj:=⟨.type "code",none,.fields #[.str n t,.str q (t + 1),.str "/claim/cut.py" (t + 2),.int l 0,.int a 0,.int 0 0,.int 0 0,.int 3 0,.ref r,.bool true,.int 181 0,.ref (r + 1),.none,.ref (r + 2),.ref (r + 3),.ref (r + 4),.int m 0,.int l 0,.str "/claim/cut.py" (m + 1)],#[]⟩
noncomputable abbrev FU (n q:Str) (s:Stmt) (m:Str) (t c:Nat):Obj:=⟨.type "function",none,.func (W.fnOf n q (bP s) (bu s) (ak s) .none .none .none (.str m t) none (.ref c) .none),#[]⟩
noncomputable abbrev FD (n q:Str) (s:Stmt) (d:Nat) (m:Str) (t c:Nat):Obj:=⟨.type "function",none,.func (W.fnOf n q (bP s) (bu s) (ak s) (.ref d) .none .none (.str m t) none (.ref c) .none),#[]⟩
noncomputable abbrev F7T (x:Str) (i c:Nat):=FU x x (top i) "hushrow.ranks" 194 c
noncomputable abbrev F8T (x:Str) (i c:Nat):=FU x x (top i) "hushrow.costs" 856 c
noncomputable abbrev F9T (x:Str) (i c:Nat):=FU x x (top i) "hushrow.places" 945 c
noncomputable abbrev Ah (x:Str) (i c:Nat):=FU x x (top i) "hushrow.links" 1013 c
noncomputable abbrev BI (x:Str) (i c:Nat):=FU x x (top i) "hushrow.reach" 1069 c
noncomputable abbrev uH (x:Str) (i c:Nat):=FU x x (top i) "hushrow.evening" 1101 c
noncomputable abbrev l9 (x:Str) (i c:Nat):=FU x x (top i) "law_hushrow_k50_one_row_evened" 1195 c
noncomputable abbrev jC (x y:Str) (i j c:Nat):=FU x y (inClass (top i) j) "hushrow.rows" 237 c
noncomputable def heapK (P:Params):W.Frag :=
 (nat_lit 2,⟨.none,none,.dict #[] 0,#[]⟩) ::
 (nat_lit 3,DI #[Ey P "__name__" 165 (.str "law_hushrow_k50_one_row_evened" 1195),DO P 166,Ey P "__package__" 167 .none,Ey P "__loader__" 168 (.builtin "__main__.__loader__#opaque"),Ey P "__spec__" 169 .none,ER P "__annotations__" 170 6,ER P "__builtins__" 171 4,Ey P "__file__" 173 (.str "/claim/cut.py" 172),Ey P "__cached__" 174 .none,ER P "_wall" 193 21,ER P "only" 202 28,ER P "joined" 210 35,ER P "top" 217 42,ER P "fits" 225 49,ER P "names_in" 236 56,ER P "each_once" 247 63,ER P "Row" 290 94,ER P "HandRow" 325 122,ER P "GivenRow" 362 148,ER P "OwnRow" 397 174,ER P "LetRow" 432 200,ER P "SetRow" 481 240,ER P "PutRow" 532 280,ER P "SendRow" 574 313,ER P "SayRow" 625 353,ER P "CallRow" 666 384,ER P "LastRow" 689 403,ER P "IfRow" 737 436,ER P "LoopRow" 785 469,ER P "DeedRow" 822 495,ER P "Program" 855 514,ER P "most_of" 863 523,ER P "most_of_row" 873 530,ER P "exact_of" 884 537,ER P "exact_of_row" 892 544,ER P "one_more" 899 551,ER P "exact_of_if" 909 558,ER P "exact_of_loop" 918 565,ER P "balanced" 926 572,ER P "mosts" 935 579,ER P "exacts" 944 586,Ey P "CLOCK" 948 (.str "the clock" 947),ER P "row_place" 955 593,ER P "laid_rows" 966 600,ER P "laid_inside" 975 607,ER P "laid_program" 984 614,ER P "is_place" 991 621,ER P "head_places" 1000 628,ER P "places" 1012 635,ER P "drawn" 1020 640,ER P "row_links" 1031 647,ER P "said_links" 1040 654,ER P "called_links" 1053 661,ER P "step_links" 1062 668,ER P "links" 1068 674,ER P "sources" 1076 679,ER P "sources_of" 1082 684,ER P "ways_of" 1088 689,ER P "arrivals" 1094 694,ER P "table" 1100 700,ER P "rows_above" 1115 707,ER P "uneven" 1122 713,ER P "evened" 1129 719,ER P "head_copy" 1136 726,ER P "deed_copy" 1145 733,ER P "rows_evened" 1151 738,ER P "row_evened" 1160 745,ER P "plain_copy" 1167 752,ER P "if_evened" 1182 759,ER P "loop_evened" 1194 766,ER P "_law_cell_at" 1204 773,ER P "_law_sends" 1210 778,ER P "_law_idles" 1223 785,ER P "_law_if" 1233 792,ER P "_law_even" 1244 799,ER P "_law_value" 1251 806,ER P "_law_idles_told" 1261 813,ER P "_law_sends_told" 1272 820,ER P "_law_sides_told" 1283 827,ER P "_law_asked" 1292 834,ER P "_law_by_if" 1309 841,ER P "_law_by_loop" 1326 848,ER P "_law_by_deed" 1351 855,ER P "law" 1363 862] 84) ::
 (nat_lit 27,CO "only" "only" 196 5 1 22 200) ::
 (nat_lit 28,F7T "only" 2 27) ::
 (nat_lit 34,CO "joined" "joined" 203 7 2 29 208) ::
 (nat_lit 35,F7T "joined" 3 34) ::
 (nat_lit 41,CO "top" "top" 211 9 1 36 215) ::
 (nat_lit 42,F7T "top" 4 41) ::
 (nat_lit 48,CO "fits" "fits" 218 11 2 43 223) ::
 (nat_lit 49,F7T "fits" 5 48) ::
 (nat_lit 55,CO "names_in" "names_in" 228 14 1 50 234) ::
 (nat_lit 56,FU "names_in" "names_in" (top 7) "hushrow.things" 226 55) ::
 (nat_lit 76,CO "__init__" "Row.__init__" 260 29 2 71 265) ::
 (nat_lit 77,jC "__init__" "Row.__init__" 10 0 76) ::
 (nat_lit 93,DI #[M3O P 255,FL P 259 27 258,ER P "__init__" 267 77,ER P "reads" 274 84,ER P "target" 281 91,SA P 283 92,ER P "__dict__" 285 95,ER P "__weakref__" 287 96,DO P 288] 4) ::
 (nat_lit 94,CX "Row" 94 93 [.type "object"] [.type "object"] [.ref 122,.ref 148,.ref 174,.ref 200,.ref 240,.ref 280,.ref 313,.ref 353,.ref 384,.ref 403,.ref 436,.ref 469,.ref 495] none 248 256 "object.__new__") ::
 (nat_lit 95,⟨(.type "getset_descriptor"),none,.fields #[(.str "__dict__" 284),(.ref 94),(.builtin "function.__dict__"),(.builtin "function.__dict__#set")],#[]⟩) ::
 (nat_lit 96,WR "__weakref__" 286 94 "ExceptionGroup.__weakref__") ::
 (nat_lit 111,CO "__init__" "HandRow.__init__" 303 39 4 106 310) ::
 (nat_lit 112,jC "__init__" "HandRow.__init__" 11 0 111) ::
 (nat_lit 121,DI #[M3O P 298,FL P 302 37 301,ER P "__init__" 312 112,ER P "shown" 319 119,SA P 322 120,DO P 323] 2) ::
 (nat_lit 122,CX "HandRow" 122 121 [.ref 94] [.ref 94,.type "object"] [] (some (.ref 99)) 291 299 "object.__new__") ::
 (nat_lit 137,CO "__init__" "GivenRow.__init__" 338 48 5 132 346) ::
 (nat_lit 138,jC "__init__" "GivenRow.__init__" 12 0 137) ::
 (nat_lit 147,DI #[M3O P 333,FL P 337 46 336,ER P "__init__" 348 138,ER P "shown" 355 145,SA P 359 146,DO P 360] 2) ::
 (nat_lit 148,CX "GivenRow" 148 147 [.ref 94] [.ref 94,.type "object"] [] (some (.ref 125)) 326 334 "object.__new__") ::
 (nat_lit 163,CO "__init__" "OwnRow.__init__" 375 58 4 158 382) ::
 (nat_lit 164,jC "__init__" "OwnRow.__init__" 13 0 163) ::
 (nat_lit 173,DI #[M3O P 370,FL P 374 56 373,ER P "__init__" 384 164,ER P "shown" 391 171,SA P 394 172,DO P 395] 2) ::
 (nat_lit 174,CX "OwnRow" 174 173 [.ref 94] [.ref 94,.type "object"] [] (some (.ref 151)) 363 371 "object.__new__") ::
 (nat_lit 189,CO "__init__" "LetRow.__init__" 410 67 4 184 417) ::
 (nat_lit 190,jC "__init__" "LetRow.__init__" 14 0 189) ::
 (nat_lit 199,DI #[M3O P 405,FL P 409 65 408,ER P "__init__" 419 190,ER P "shown" 426 197,SA P 429 198,DO P 430] 2) ::
 (nat_lit 200,CX "LetRow" 200 199 [.ref 94] [.ref 94,.type "object"] [] (some (.ref 177)) 398 406 "object.__new__") ::
 (nat_lit 215,CO "__init__" "SetRow.__init__" 445 76 4 210 452) ::
 (nat_lit 216,jC "__init__" "SetRow.__init__" 15 0 215) ::
 (nat_lit 239,DI #[M3O P 440,FL P 444 74 443,ER P "__init__" 454 216,ER P "shown" 461 223,ER P "reads" 468 230,ER P "target" 475 237,SA P 478 238,DO P 479] 2) ::
 (nat_lit 240,CX "SetRow" 240 239 [.ref 94] [.ref 94,.type "object"] [] (some (.ref 203)) 433 441 "object.__new__") ::
 (nat_lit 255,CO "__init__" "PutRow.__init__" 494 91 5 250 502) ::
 (nat_lit 256,jC "__init__" "PutRow.__init__" 16 0 255) ::
 (nat_lit 279,DI #[M3O P 489,FL P 493 89 492,ER P "__init__" 504 256,ER P "shown" 511 263,ER P "reads" 518 270,ER P "target" 525 277,SA P 529 278,DO P 530] 2) ::
 (nat_lit 280,CX "PutRow" 280 279 [.ref 94] [.ref 94,.type "object"] [] (some (.ref 243)) 482 490 "object.__new__") ::
 (nat_lit 295,CO "__init__" "SendRow.__init__" 545 107 4 290 552) ::
 (nat_lit 296,jC "__init__" "SendRow.__init__" 17 0 295) ::
 (nat_lit 309,CO "reads" "SendRow.reads" 562 115 1 304 566) ::
 (nat_lit 310,jC "reads" "SendRow.reads" 17 2 309) ::
 (nat_lit 312,DI #[M3O P 540,FL P 544 105 543,ER P "__init__" 554 296,ER P "shown" 561 303,ER P "reads" 568 310,SA P 571 311,DO P 572] 2) ::
 (nat_lit 313,CX "SendRow" 313 312 [.ref 94] [.ref 94,.type "object"] [] (some (.ref 283)) 533 541 "object.__new__") ::
 (nat_lit 328,CO "__init__" "SayRow.__init__" 587 119 5 323 595) ::
 (nat_lit 329,jC "__init__" "SayRow.__init__" 18 0 328) ::
 (nat_lit 352,DI #[M3O P 582,FL P 586 117 585,ER P "__init__" 597 329,ER P "shown" 604 336,ER P "reads" 611 343,ER P "target" 618 350,SA P 622 351,DO P 623] 2) ::
 (nat_lit 353,CX "SayRow" 353 352 [.ref 94] [.ref 94,.type "object"] [] (some (.ref 316)) 575 583 "object.__new__") ::
 (nat_lit 368,CO "__init__" "CallRow.__init__" 638 135 4 363 645) ::
 (nat_lit 369,jC "__init__" "CallRow.__init__" 19 0 368) ::
 (nat_lit 383,DI #[M3O P 633,FL P 637 133 636,ER P "__init__" 647 369,ER P "shown" 654 376,ER P "reads" 660 381,SA P 663 382,DO P 664] 2) ::
 (nat_lit 384,CX "CallRow" 384 383 [.ref 94] [.ref 94,.type "object"] [] (some (.ref 356)) 626 634 "object.__new__") ::
 (nat_lit 402,DI #[M3O P 674,FL P 678 145 677,ER P "shown" 685 400,SA P 686 401,DO P 687] 2) ::
 (nat_lit 403,CX "LastRow" 403 402 [.ref 94] [.ref 94,.type "object"] [] (some (.ref 387)) 667 675 "object.__new__") ::
 (nat_lit 418,CO "__init__" "IfRow.__init__" 702 151 7 413 712) ::
 (nat_lit 419,jC "__init__" "IfRow.__init__" 21 0 418) ::
 (nat_lit 432,CO "reads" "IfRow.reads" 722 162 1 427 726) ::
 (nat_lit 433,jC "reads" "IfRow.reads" 21 2 432) ::
 (nat_lit 435,DI #[M3O P 697,FL P 701 149 700,ER P "__init__" 714 419,ER P "shown" 721 426,ER P "reads" 728 433,SA P 734 434,DO P 735] 2) ::
 (nat_lit 436,CX "IfRow" 436 435 [.ref 94] [.ref 94,.type "object"] [] (some (.ref 406)) 690 698 "object.__new__") ::
 (nat_lit 451,CO "__init__" "LoopRow.__init__" 750 166 7 446 760) ::
 (nat_lit 452,jC "__init__" "LoopRow.__init__" 22 0 451) ::
 (nat_lit 465,CO "reads" "LoopRow.reads" 770 177 1 460 774) ::
 (nat_lit 466,jC "reads" "LoopRow.reads" 22 2 465) ::
 (nat_lit 468,DI #[M3O P 745,FL P 749 164 748,ER P "__init__" 762 452,ER P "shown" 769 459,ER P "reads" 776 466,SA P 782 467,DO P 783] 2) ::
 (nat_lit 469,CX "LoopRow" 469 468 [.ref 94] [.ref 94,.type "object"] [] (some (.ref 439)) 738 746 "object.__new__") ::
 (nat_lit 484,CO "__init__" "DeedRow.__init__" 798 181 5 479 806) ::
 (nat_lit 485,jC "__init__" "DeedRow.__init__" 23 0 484) ::
 (nat_lit 494,DI #[M3O P 793,FL P 797 179 796,ER P "__init__" 808 485,ER P "shown" 815 492,SA P 819 493,DO P 820] 2) ::
 (nat_lit 495,CX "DeedRow" 495 494 [.ref 94] [.ref 94,.type "object"] [] (some (.ref 472)) 786 794 "object.__new__") ::
 (nat_lit 510,CO "__init__" "Program.__init__" 835 191 4 505 842) ::
 (nat_lit 511,jC "__init__" "Program.__init__" 24 0 510) ::
 (nat_lit 513,DI #[M3O P 830,FL P 834 189 833,ER P "__init__" 844 511,SA P 848 512,ER P "__dict__" 850 515,ER P "__weakref__" 852 516,DO P 853] 4) ::
 (nat_lit 514,CX "Program" 514 513 [.type "object"] [.type "object"] [] none 823 831 "object.__new__") ::
 (nat_lit 515,⟨(.type "getset_descriptor"),none,.fields #[(.str "__dict__" 849),(.ref 514),(.builtin "function.__dict__"),(.builtin "function.__dict__#set")],#[]⟩) ::
 (nat_lit 516,WR "__weakref__" 851 514 "ExceptionGroup.__weakref__") ::
 (nat_lit 522,⟨(.type "code"),none,.fields #[(.str "most_of" 858),(.str "most_of" 859),(.str "/claim/cut.py" 860),(.int (196) 0),(.int (2) 0),(.int (0) 0),(.int (0) 0),(.int (3) 0),(.ref 519),(.bool true),(.int (181) 0),(.ref 520),.none,.none,.none,(.ref 521),(.int (861) 0),(.int (196) 0),(.str "/claim/cut.py" 862)],#[]⟩) ::
 (nat_lit 523,F8T "most_of" 26 522) ::
 (nat_lit 529,CO "most_of_row" "most_of_row" 864 198 2 524 871) ::
 (nat_lit 530,F8T "most_of_row" 27 529) ::
 (nat_lit 536,CO "exact_of" "exact_of" 874 208 2 531 882) ::
 (nat_lit 537,F8T "exact_of" 28 536) ::
 (nat_lit 543,CO "exact_of_row" "exact_of_row" 885 216 2 538 890) ::
 (nat_lit 544,F8T "exact_of_row" 29 543) ::
 (nat_lit 550,CO "one_more" "one_more" 893 224 1 545 897) ::
 (nat_lit 551,F8T "one_more" 30 550) ::
 (nat_lit 557,CO "exact_of_if" "exact_of_if" 900 226 2 552 907) ::
 (nat_lit 558,F8T "exact_of_if" 31 557) ::
 (nat_lit 564,CO "exact_of_loop" "exact_of_loop" 910 232 2 559 916) ::
 (nat_lit 565,F8T "exact_of_loop" 32 564) ::
 (nat_lit 571,CO "balanced" "balanced" 919 237 2 566 924) ::
 (nat_lit 572,F8T "balanced" 33 571) ::
 (nat_lit 578,CO "mosts" "mosts" 927 239 1 573 933) ::
 (nat_lit 579,F8T "mosts" 34 578) ::
 (nat_lit 585,CO "exacts" "exacts" 936 244 1 580 942) ::
 (nat_lit 586,F8T "exacts" 35 585) ::
 (nat_lit 592,CO "row_place" "row_place" 949 251 1 587 953) ::
 (nat_lit 593,F9T "row_place" 38 592) ::
 (nat_lit 599,CO "laid_rows" "laid_rows" 956 253 3 594 964) ::
 (nat_lit 600,F9T "laid_rows" 39 599) ::
 (nat_lit 606,CO "laid_inside" "laid_inside" 967 259 2 601 973) ::
 (nat_lit 607,F9T "laid_inside" 40 606) ::
 (nat_lit 613,CO "laid_program" "laid_program" 976 266 1 608 982) ::
 (nat_lit 614,F9T "laid_program" 41 613) ::
 (nat_lit 620,CO "is_place" "is_place" 985 271 1 615 989) ::
 (nat_lit 621,F9T "is_place" 42 620) ::
 (nat_lit 627,CO "head_places" "head_places" 992 273 1 622 998) ::
 (nat_lit 628,F9T "head_places" 43 627) ::
 (nat_lit 634,CO "places" "places" 1001 279 1 629 1010) ::
 (nat_lit 635,F9T "places" 44 634) ::
 (nat_lit 639,⟨(.type "code"),none,.fields #[(.str "drawn" 1015),(.str "drawn" 1016),(.str "/claim/cut.py" 1017),(.int (288) 0),(.int (4) 0),(.int (0) 0),(.int (0) 0),(.int (3) 0),(.ref 636),(.bool true),(.int (181) 0),(.ref 637),.none,.none,.none,(.ref 638),(.int (1018) 0),(.int (288) 0),(.str "/claim/cut.py" 1019)],#[]⟩) ::
 (nat_lit 640,Ah "drawn" 46 639) ::
 (nat_lit 646,CO "row_links" "row_links" 1021 290 4 641 1029) ::
 (nat_lit 647,Ah "row_links" 47 646) ::
 (nat_lit 653,CO "said_links" "said_links" 1032 303 2 648 1038) ::
 (nat_lit 654,Ah "said_links" 48 653) ::
 (nat_lit 660,CO "called_links" "called_links" 1041 307 3 655 1051) ::
 (nat_lit 661,Ah "called_links" 49 660) ::
 (nat_lit 667,CO "step_links" "step_links" 1054 315 2 662 1060) ::
 (nat_lit 668,Ah "step_links" 50 667) ::
 (nat_lit 669,⟨(.type "tuple"),none,.seq #[(.bool false)] 0,#[]⟩) ::
 (nat_lit 673,⟨(.type "code"),none,.fields #[(.str "links" 1063),(.str "links" 1064),(.str "/claim/cut.py" 1065),(.int (322) 0),(.int (2) 0),(.int (0) 0),(.int (0) 0),(.int (3) 0),(.ref 670),(.bool true),(.int (181) 0),(.ref 671),.none,.none,.none,(.ref 672),(.int (1066) 0),(.int (322) 0),(.str "/claim/cut.py" 1067)],#[]⟩) ::
 (nat_lit 674,FD "links" "links" (top 51) 669 "hushrow.links" 1013 673) ::
 (nat_lit 678,⟨(.type "code"),none,.fields #[(.str "sources" 1071),(.str "sources" 1072),(.str "/claim/cut.py" 1073),(.int (332) 0),(.int (1) 0),(.int (0) 0),(.int (0) 0),(.int (3) 0),(.ref 675),(.bool true),(.int (181) 0),(.ref 676),.none,.none,.none,(.ref 677),(.int (1074) 0),(.int (332) 0),(.str "/claim/cut.py" 1075)],#[]⟩) ::
 (nat_lit 679,BI "sources" 53 678) ::
 (nat_lit 683,⟨(.type "code"),none,.fields #[(.str "sources_of" 1077),(.str "sources_of" 1078),(.str "/claim/cut.py" 1079),(.int (334) 0),(.int (2) 0),(.int (0) 0),(.int (0) 0),(.int (3) 0),(.ref 680),(.bool true),(.int (181) 0),(.ref 681),.none,.none,.none,(.ref 682),(.int (1080) 0),(.int (334) 0),(.str "/claim/cut.py" 1081)],#[]⟩) ::
 (nat_lit 684,BI "sources_of" 54 683) ::
 (nat_lit 688,⟨(.type "code"),none,.fields #[(.str "ways_of" 1083),(.str "ways_of" 1084),(.str "/claim/cut.py" 1085),(.int (336) 0),(.int (2) 0),(.int (0) 0),(.int (0) 0),(.int (3) 0),(.ref 685),(.bool true),(.int (181) 0),(.ref 686),.none,.none,.none,(.ref 687),(.int (1086) 0),(.int (336) 0),(.str "/claim/cut.py" 1087)],#[]⟩) ::
 (nat_lit 689,BI "ways_of" 55 688) ::
 (nat_lit 693,⟨(.type "code"),none,.fields #[(.str "arrivals" 1089),(.str "arrivals" 1090),(.str "/claim/cut.py" 1091),(.int (341) 0),(.int (2) 0),(.int (0) 0),(.int (0) 0),(.int (3) 0),(.ref 690),(.bool true),(.int (181) 0),(.ref 691),.none,.none,.none,(.ref 692),(.int (1092) 0),(.int (341) 0),(.str "/claim/cut.py" 1093)],#[]⟩) ::
 (nat_lit 694,BI "arrivals" 56 693) ::
 (nat_lit 695,⟨(.type "tuple"),none,.seq #[(.bool false)] 0,#[]⟩) ::
 (nat_lit 699,⟨(.type "code"),none,.fields #[(.str "table" 1095),(.str "table" 1096),(.str "/claim/cut.py" 1097),(.int (353) 0),(.int (2) 0),(.int (0) 0),(.int (0) 0),(.int (3) 0),(.ref 696),(.bool true),(.int (181) 0),(.ref 697),.none,.none,.none,(.ref 698),(.int (1098) 0),(.int (353) 0),(.str "/claim/cut.py" 1099)],#[]⟩) ::
 (nat_lit 700,FD "table" "table" (top 57) 695 "hushrow.reach" 1069 699) ::
 (nat_lit 706,CO "rows_above" "rows_above" 1103 361 2 701 1113) ::
 (nat_lit 707,uH "rows_above" 59 706) ::
 (nat_lit 708,⟨(.type "tuple"),none,.seq #[(.int (0) 1116)] 0,#[]⟩) ::
 (nat_lit 712,⟨(.type "code"),none,.fields #[(.str "uneven" 1117),(.str "uneven" 1118),(.str "/claim/cut.py" 1119),(.int (369) 0),(.int (2) 0),(.int (0) 0),(.int (0) 0),(.int (3) 0),(.ref 709),(.bool true),(.int (181) 0),(.ref 710),.none,.none,.none,(.ref 711),(.int (1120) 0),(.int (369) 0),(.str "/claim/cut.py" 1121)],#[]⟩) ::
 (nat_lit 713,FD "uneven" "uneven" (top 60) 708 "hushrow.evening" 1101 712) ::
 (nat_lit 714,⟨(.type "tuple"),none,.seq #[(.int (0) 1123)] 0,#[]⟩) ::
 (nat_lit 718,⟨(.type "code"),none,.fields #[(.str "evened" 1124),(.str "evened" 1125),(.str "/claim/cut.py" 1126),(.int (372) 0),(.int (2) 0),(.int (0) 0),(.int (0) 0),(.int (3) 0),(.ref 715),(.bool true),(.int (181) 0),(.ref 716),.none,.none,.none,(.ref 717),(.int (1127) 0),(.int (372) 0),(.str "/claim/cut.py" 1128)],#[]⟩) ::
 (nat_lit 719,FD "evened" "evened" (top 61) 714 "hushrow.evening" 1101 718) ::
 (nat_lit 725,CO "head_copy" "head_copy" 1130 378 1 720 1134) ::
 (nat_lit 726,uH "head_copy" 62 725) ::
 (nat_lit 732,CO "deed_copy" "deed_copy" 1137 386 3 727 1143) ::
 (nat_lit 733,uH "deed_copy" 63 732) ::
 (nat_lit 737,⟨(.type "code"),none,.fields #[(.str "rows_evened" 1146),(.str "rows_evened" 1147),(.str "/claim/cut.py" 1148),(.int (388) 0),(.int (3) 0),(.int (0) 0),(.int (0) 0),(.int (3) 0),(.ref 734),(.bool true),(.int (181) 0),(.ref 735),.none,.none,.none,(.ref 736),(.int (1149) 0),(.int (388) 0),(.str "/claim/cut.py" 1150)],#[]⟩) ::
 (nat_lit 738,uH "rows_evened" 64 737) ::
 (nat_lit 744,CO "row_evened" "row_evened" 1152 390 3 739 1158) ::
 (nat_lit 745,uH "row_evened" 65 744) ::
 (nat_lit 751,CO "plain_copy" "plain_copy" 1161 396 1 746 1165) ::
 (nat_lit 752,uH "plain_copy" 66 751) ::
 (nat_lit 758,CO "if_evened" "if_evened" 1168 408 3 753 1180) ::
 (nat_lit 759,uH "if_evened" 67 758) ::
 (nat_lit 765,CO "loop_evened" "loop_evened" 1183 419 3 760 1192) ::
 (nat_lit 766,uH "loop_evened" 68 765) ::
 (nat_lit 772,CO "_law_cell_at" "_law_cell_at" 1197 428 2 767 1202) ::
 (nat_lit 773,l9 "_law_cell_at" 70 772) ::
 (nat_lit 777,⟨(.type "code"),none,.fields #[(.str "_law_sends" 1205),(.str "_law_sends" 1206),(.str "/claim/cut.py" 1207),(.int (432) 0),(.int (2) 0),(.int (0) 0),(.int (0) 0),(.int (3) 0),(.ref 774),(.bool true),(.int (181) 0),(.ref 775),.none,.none,.none,(.ref 776),(.int (1208) 0),(.int (432) 0),(.str "/claim/cut.py" 1209)],#[]⟩) ::
 (nat_lit 778,l9 "_law_sends" 71 777) ::
 (nat_lit 784,CO "_law_idles" "_law_idles" 1211 434 4 779 1221) ::
 (nat_lit 785,l9 "_law_idles" 72 784) ::
 (nat_lit 791,CO "_law_if" "_law_if" 1224 443 4 786 1231) ::
 (nat_lit 792,l9 "_law_if" 73 791) ::
 (nat_lit 798,CO "_law_even" "_law_even" 1234 445 4 793 1242) ::
 (nat_lit 799,l9 "_law_even" 74 798) ::
 (nat_lit 805,CO "_law_value" "_law_value" 1245 450 1 800 1249) ::
 (nat_lit 806,l9 "_law_value" 75 805) ::
 (nat_lit 812,CO "_law_idles_told" "_law_idles_told" 1252 452 2 807 1259) ::
 (nat_lit 813,l9 "_law_idles_told" 76 812) ::
 (nat_lit 819,CO "_law_sends_told" "_law_sends_told" 1262 457 3 814 1270) ::
 (nat_lit 820,l9 "_law_sends_told" 77 819) ::
 (nat_lit 826,CO "_law_sides_told" "_law_sides_told" 1273 465 5 821 1281) ::
 (nat_lit 827,l9 "_law_sides_told" 78 826) ::
 (nat_lit 833,CO "_law_asked" "_law_asked" 1284 469 3 828 1290) ::
 (nat_lit 834,l9 "_law_asked" 79 833) ::
 (nat_lit 840,CO "_law_by_if" "_law_by_if" 1293 473 5 835 1307) ::
 (nat_lit 841,l9 "_law_by_if" 80 840) ::
 (nat_lit 847,CO "_law_by_loop" "_law_by_loop" 1310 484 5 842 1324) ::
 (nat_lit 848,l9 "_law_by_loop" 81 847) ::
 (nat_lit 854,CO "_law_by_deed" "_law_by_deed" 1327 497 5 849 1349) ::
 (nat_lit 855,l9 "_law_by_deed" 82 854) ::
 (nat_lit 861,CO "law" "law" 1352 520 1 856 1361) ::
 (nat_lit 862,l9 "law" 83 861) :: []
noncomputable def nG:List Addr:=[2,3,27,28,34,35,41,42,48,49,55,56,76,77,93,94,95,96,111,112,121,122,137,138,147,148,163,164,173,174,189,190,199,200,215,216,239,240,255,256,279,280,295,296,309,310,312,313,328,329,352,353,368,369,383,384,402,403,418,419,432,433,435,436,451,452,465,466,468,469,484,485,494,495,510,511,513,514,515,516,522,523,529,530,536,537,543,544,550,551,557,558,564,565,571,572,578,579,585,586,592,593,599,600,606,607,613,614,620,621,627,628,634,635,639,640,646,647,653,654,660,661,667,668,669,673,674,678,679,683,684,688,689,693,694,695,699,700,706,707,708,712,713,714,718,719,725,726,732,733,737,738,744,745,751,752,758,759,765,766,772,773,777,778,784,785,791,792,798,799,805,806,812,813,819,820,826,827,833,834,840,841,847,848,854,855,861,862]
theorem ix (P:Params):nG=(heapK P).map (·.1):=by kernel_rfl
noncomputable abbrev prog:Program:=PySem.Challenge.pw_hushrow_k50_one_row_evened
noncomputable abbrev law:W.OpenLaw:=PySem.Challenge.rw_hushrow_k50_one_row_evened
noncomputable def eY:Program:={ prog with main:={ prog.main with body:=[top 0,top 2,top 3,top 4,top 5,top 7,top 9,top 10,top 11,top 12,top 13,top 14,top 15,top 16,top 17,top 18,top 19,top 20,top 21,top 22,top 23,top 24,top 26,top 27,top 28,top 29,top 30,top 31,top 32,top 33,top 34,top 35,top 37,top 38,top 39,top 40,top 41,top 42,top 43,top 44,top 46,top 47,top 48,top 49,top 50,top 53,top 54,top 55,top 56,top 59,top 62,top 63,top 64,top 65,top 66,top 67,top 68,top 70,top 71,top 72,top 73,top 74,top 75,top 76,top 77,top 78,top 79,top 80,top 81,top 82,top 83] } }
noncomputable abbrev hook:W.Hook:=W.kHook heapK nG ix
noncomputable abbrev test:Shared->Bool:=fun s=>xlAt eY [] s && recOk (RowW.records law.row.toRowW) s
noncomputable abbrev Em:Shared->List (Option Obj):=fun s=>nG.map s.heap.get?
noncomputable abbrev FQ:World->List (Option Obj):=fun w=>(heapK w.params).map fun p=>some p.2
noncomputable def T₀ (P:Params):BT:=Hd.treeOf (boot_heap P).objs.toList 0 .nil
noncomputable def lookL (w:World) (os:OsState):=(Hd.jm treeTable prog w 11 (some (.ref 6)) 12816 ⟨T₀ w.params,11,{},Array.mk [],boot_drawn,boot_toks,os⟩ (topStub prog)).map fun s=>Hd.zY prog (boot_heap w.params) s.abs
noncomputable def rD (w:World) (os:OsState):=some true
noncomputable def lookO (w:World) (os:OsState):=(Hd.jm treeTable prog w 11 (some (.ref 6)) 12816 ⟨T₀ w.params,11,{},Array.mk [],boot_drawn,boot_toks,os⟩ (topStub prog)).map fun s=>(openSeen eY ["links","table","uneven","evened"] (importedModules prog.main.body) test true s.abs).1
noncomputable def lookQ (w:World) (os:OsState):=some (openGood eY ["links","table","uneven","evened"]).1
noncomputable def lookY (w:World) (os:OsState):=(Hd.jm treeTable prog w 11 (some (.ref 6)) 12816 ⟨T₀ w.params,11,{},Array.mk [],boot_drawn,boot_toks,os⟩ (topStub prog)).map fun s=>(openSeen eY ["links","table","uneven","evened"] (importedModules prog.main.body) test true s.abs).2.1
noncomputable def lookB (w:World) (os:OsState):=some (openGood eY ["links","table","uneven","evened"]).2.1
noncomputable def lookW (w:World) (os:OsState):=(Hd.jm treeTable prog w 11 (some (.ref 6)) 12816 ⟨T₀ w.params,11,{},Array.mk [],boot_drawn,boot_toks,os⟩ (topStub prog)).map fun s=>(openSeen eY ["links","table","uneven","evened"] (importedModules prog.main.body) test true s.abs).2.2.1
noncomputable def lookX (w:World) (os:OsState):=(Hd.jm treeTable prog w 11 (some (.ref 6)) 12816 ⟨T₀ w.params,11,{},Array.mk [],boot_drawn,boot_toks,os⟩ (topStub prog)).map fun s=>(openSeen eY ["links","table","uneven","evened"] (importedModules prog.main.body) test true s.abs).2.2.2.1
noncomputable def lookU (w:World) (os:OsState):=(Hd.jm treeTable prog w 11 (some (.ref 6)) 12816 ⟨T₀ w.params,11,{},Array.mk [],boot_drawn,boot_toks,os⟩ (topStub prog)).map fun s=>(openSeen eY ["links","table","uneven","evened"] (importedModules prog.main.body) test true s.abs).2.2.2.2
noncomputable def lookV (w:World) (os:OsState):=some (openGood eY ["links","table","uneven","evened"]).2.2.2.2
noncomputable def lookM (w:World) (os:OsState):=(Hd.jm treeTable prog w 11 (some (.ref 6)) 12816 ⟨T₀ w.params,11,{},Array.mk [],boot_drawn,boot_toks,os⟩ (topStub prog)).map fun s=>Em s.abs
noncomputable def lookS (w:World) (os:OsState):=some (FQ w)
theorem lookL_self:lookL=lookL:=rfl
theorem lookO_self:lookO=lookO:=rfl
theorem lookQ_self:lookQ=lookQ:=rfl
theorem lookY_self:lookY=lookY:=rfl
theorem lookB_self:lookB=lookB:=rfl
theorem lookW_self:lookW=lookW:=rfl
theorem lookX_self:lookX=lookX:=rfl
theorem lookU_self:lookU=lookU:=rfl
theorem lookV_self:lookV=lookV:=rfl
theorem lookM_self:lookM=lookM:=rfl
theorem lookS_self:lookS=lookS:=rfl
end K50
noncomputable def PySem.W.Fast.tw14598715356260435866:PySem.Params->PySem.Obj:=PySem.W.boot_o_0
theorem PySem.W.Fast.te14598715356260435866:PySem.W.boot_o_0=PySem.W.Fast.tw14598715356260435866:=rfl
noncomputable def PySem.W.Fast.tw14506554390634729930:PySem.Program:=PySem.Challenge.pw_hushrow_k50_one_row_evened
theorem PySem.W.Fast.te14506554390634729930:PySem.Challenge.pw_hushrow_k50_one_row_evened=PySem.W.Fast.tw14506554390634729930:=rfl
noncomputable def PySem.W.Fast.tw5560328905122622769:PySem.Params->PySem.W.Frag:=K50.heapK
theorem PySem.W.Fast.te5560328905122622769:K50.heapK=PySem.W.Fast.tw5560328905122622769:=rfl
lay_quick K50.lookL K50.lookO K50.lookQ K50.lookY K50.lookB K50.lookW K50.lookX K50.lookU K50.lookV K50.lookM K50.lookS
name_quick K50lookL for K50.lookL by K50.lookL_self
name_quick K50lookO for K50.lookO by K50.lookO_self
name_quick K50lookQ for K50.lookQ by K50.lookQ_self
name_quick K50lookY for K50.lookY by K50.lookY_self
name_quick K50lookB for K50.lookB by K50.lookB_self
name_quick K50lookW for K50.lookW by K50.lookW_self
name_quick K50lookX for K50.lookX by K50.lookX_self
name_quick K50lookU for K50.lookU by K50.lookU_self
name_quick K50lookV for K50.lookV by K50.lookV_self
name_quick K50lookM for K50.lookM by K50.lookM_self
name_quick K50lookS for K50.lookS by K50.lookS_self
namespace K50
open PySem L2 PySem.W
theorem su:W.Fast.K50lookY=W.Fast.K50lookB:=by kernel_rfl
theorem sy:W.Fast.K50lookM=W.Fast.K50lookS:=by kernel_rfl
theorem rZ:W.Fast.K50lookO=W.Fast.K50lookQ:=by kernel_rfl
theorem vj:W.Fast.K50lookL=rD:=by kernel_rfl
theorem uD:lookY=lookB:=W.Fast.K50lookY_eq.trans (su.trans W.Fast.K50lookB_eq.symm)
theorem tN:W.Fast.K50lookW=rD:=by kernel_rfl
theorem vx:lookW=rD:=W.Fast.K50lookW_eq.trans tN
theorem sN:W.Fast.K50lookX=rD:=by kernel_rfl
theorem vB:lookX=rD:=W.Fast.K50lookX_eq.trans sN
theorem sF:W.Fast.K50lookU=W.Fast.K50lookV:=by kernel_rfl
theorem uV:lookU=lookV:=W.Fast.K50lookU_eq.trans (sF.trans W.Fast.K50lookV_eq.symm)
theorem uk:lookO=lookQ:=W.Fast.K50lookO_eq.trans (rZ.trans W.Fast.K50lookQ_eq.symm)
theorem vM:lookL=rD:=W.Fast.K50lookL_eq.trans vj
theorem vh:lookM=lookS:=W.Fast.K50lookM_eq.trans (sy.trans W.Fast.K50lookS_eq.symm)
theorem BD (P:Params):absHeap (T₀ P) 11 {}=boot_heap P:=by kernel_rfl
theorem AX (w:World):((boot_heap w.params).isNs mainGlobals && (Array.mk []:Array GenState).size == 0,(boot_heap w.params).objs.size,(boot_heap w.params).nsMap mainGlobals "__annotations__")=(true,11,some (.ref 6)):=by kernel_rfl
theorem left:LeftO prog eY ["links","table","uneven","evened"] test hook.obs hook.val 12816:=Hd.yZ (boot_open (p:=prog) (N:=12816) (by kernel_rfl) rfl (fun _=>rfl)) AX BD (fun w os=>congrFun (congrFun vM w) os) (fun w os=>congrFun (congrFun uk w) os) (fun w os=>congrFun (congrFun uD w) os) (fun w os=>congrFun (congrFun vx w) os) (fun w os=>congrFun (congrFun vB w) os) (fun w os=>congrFun (congrFun uV w) os) (fun w os=>congrFun (congrFun vh w) os)
end K50
namespace L2
open PySem PySem.Spec PyProof.Rows
abbrev Key:=Sum Int Str
def rp:Key->Value->Bool
 | .inl k,v=>Value.isInt k v
 | .inr x,v=>Value.isStrOf x v
def Fx (w:World):Key->Int
 | .inl k=>hashInt k
 | .inr x=>hashStr w x
theorem cq:∀{k:Key}{v:Value},rp k v=true->(∃i t,k=Sum.inl i/\v=Value.int i t) \/ (∃x t,k=Sum.inr x/\v=Value.str x t)
 | .inl i,v,h=>by
  obtain ⟨t,e⟩:=Value.isInt_shape (k:=i) (v:=v) h
  exact .inl ⟨i,t,rfl,e⟩
 | .inr x,v,h=>by
  obtain ⟨t,e⟩:=Value.isStrOf_shape (x:=x) (v:=v) h
  exact .inr ⟨x,t,rfl,e⟩
theorem yG (i:Int) (t:Tok):rp (.inl i) (.int i t)=true:=by simp [rp,Value.isInt]
theorem xW (x:Str) (t:Tok):rp (.inr x) (.str x t)=true:=by simp [rp,Value.isStrOf]
theorem DR (a b:Int):decide ((Sum.inl a:Key)=Sum.inl b)=(a == b):=by
 by_cases e:a=b
 ·subst e;simp
 ·have h:¬ (Sum.inl a:Key)=Sum.inl b:=fun q=>e (Sum.inl.inj q)
  rw [decide_eq_false h]
  exact (beq_eq_false_iff_ne.mpr e).symm
theorem C6 (a b:Str):decide ((Sum.inr a:Key)=Sum.inr b)=decide (a=b):=by
 by_cases e:a=b
 ·subst e;simp
 ·have h:¬ (Sum.inr a:Key)=Sum.inr b:=fun q=>e (Sum.inr.inj q)
  rw [decide_eq_false h,decide_eq_false e]
theorem C4 (a:Int) (b:Str):decide ((Sum.inl a:Key)=Sum.inr b)=false:=decide_eq_false (fun q=>nomatch q)
theorem DF (a:Str) (b:Int):decide ((Sum.inr a:Key)=Sum.inl b)=false:=decide_eq_false (fun q=>nomatch q)
def bN (prog:Program) (w:World):PySem.KeyKind prog w Key where
 is:=rp
 hash:=Fx w
 inj:=fun v a b ha hb=>by
  rcases cq ha with ⟨i,t,rfl,rfl⟩ | ⟨x,t,rfl,rfl⟩
  ·rcases cq hb with ⟨j,u,rfl,e⟩ | ⟨y,u,rfl,e⟩
   ·injection e with e1 _;rw [e1]
   ·exact nomatch e
  ·rcases cq hb with ⟨j,u,rfl,e⟩ | ⟨y,u,rfl,e⟩
   ·exact nomatch e
   ·injection e with e1 _;rw [e1]
 byValue:=fun k v h=>by
  rcases cq h with ⟨i,t,rfl,rfl⟩ | ⟨x,t,rfl,rfl⟩ <;> rfl
 pyHash:=fun hv h=>by
  rcases cq hv with ⟨i,t,rfl,rfl⟩ | ⟨x,t,rfl,rfl⟩
  ·exact wpAny_pyHash_int h
  ·exact wpAny_pyHash_str h
 eqBool:=fun hu hv h=>by
  rcases cq hu with ⟨i,t,rfl,rfl⟩ | ⟨x,t,rfl,rfl⟩
  ·rcases cq hv with ⟨j,u,rfl,rfl⟩ | ⟨y,u,rfl,rfl⟩
   ·rw [DR] at h;exact wpAny_eqBool_int h
   ·rw [C4] at h;exact SeqAt.EqAt.int_str i t y u _ _ _ _ h
  ·rcases cq hv with ⟨j,u,rfl,rfl⟩ | ⟨y,u,rfl,rfl⟩
   ·rw [DF] at h;exact SeqAt.EqAt.str_int x t j u _ _ _ _ h
   ·rw [C6] at h;exact wpAny_eqBool_str h
 «strs»:=fun k x t v h=>by
  rcases cq h with ⟨i,u,rfl,e⟩ | ⟨y,u,rfl,e⟩
  ·exact nomatch e
  ·injection e with e1 _
   subst e1
   cases v <;> rfl
theorem u5 (prog:Program) (w:World) (i:Int) (t:Tok):(bN prog w).is (.inl i) (.int i t)=true:=yG i t
theorem uv (prog:Program) (w:World) (x:Str) (t:Tok):(bN prog w).is (.inr x) (.str x t)=true:=xW x t
end L2
namespace L2
open PySem PySem.Spec PyProof.Rows
inductive V where
 | non | bl (b:Bool) | int (i:Int) | str (x:Str) | byt (b:Array UInt8) | flt (b:UInt64) | ref (a:Addr) | ty (n:String)
 deriving DecidableEq
def RelV:V->Value->Prop
 | .non,u=>u=Value.none
 | .bl b,u=>u=Value.bool b
 | .int i,u=>∃t,u=Value.int i t
 | .str x,u=>∃t,u=Value.str x t
 | .byt b,u=>∃t,u=Value.bytes b t
 | .flt b,u=>∃t,u=Value.float b t
 | .ref a,u=>u=Value.ref a
 | .ty n,u=>u=Value.type n
abbrev Vals:List V->List Value->Prop:=Paired RelV
theorem Vals.length {xs:List V}{us:List Value} (r:Vals xs us):xs.length=us.length:=Paired.length r
theorem Vals.get:∀{xs:List V}{us:List Value}{i:Nat}{x:V},Vals xs us->xs[i]?=some x->∃u,us[i]?=some u/\RelV x u
 | _,_,_,_,.nil,e=>by simp at e
 | _,_,0,_,.cons r _,e=>by simp at e;subst e;exact ⟨_,rfl,r⟩
 | _,_,i + 1,x,.cons _ t,e=>by
  obtain ⟨u,h1,h2⟩:=Vals.get (i:=i) (x:=x) t (by simpa using e)
  exact ⟨u,by simpa using h1,h2⟩
theorem Vals.set {x:V}{u:Value} (r:RelV x u):∀{xs:List V}{us:List Value} (i:Nat),Vals xs us->Vals (xs.set i x) (us.set i u)
 | _,_,_,.nil=>.nil
 | _,_,0,.cons _ t=>.cons r t
 | _,_,i + 1,.cons q t=>.cons q (Vals.set r i t)
theorem Vals.append:∀{xs ys:List V}{us ws:List Value},Vals xs us->Vals ys ws->Vals (xs ++ ys) (us ++ ws)
 | _,_,_,_,.nil,s=>s
 | _,_,_,_,.cons r t,s=>.cons r (Vals.append t s)
theorem Vals.none_of:∀{xs:List V}{us:List Value}{i:Nat},Vals xs us->xs[i]?=none->us[i]?=none:=fun {xs us i} r e=>by
 have h1:=r.length
 have h2:xs.length <= i:=List.getElem?_eq_none_iff.mp e
 exact List.getElem?_eq_none_iff.mpr (by omega)
def kM:Option V->Option Value->Prop
 | some v,some u=>RelV v u
 | none,none=>True
 | _,_=>False
def KV {κ:Type}:List (κ × V)->List (κ × Value)->Prop:=Paired fun (p:κ × V) (q:κ × Value)=>p.1=q.1/\RelV p.2 q.2
def kV:Key->V
 | .inl i=>.int i
 | .inr x=>.str x
inductive HO where
 | lst (xs:List V)
 | tup (xs:List V)
 | dK (kvs:List (Key × V)) | dT (kvs:List (List Key × V))
 | set (S:Int->Bool) (n:Nat)
 | ins (C dx:Addr) (fs:List (Str × V))
 | own (x:Addr)
 | xd (fs:List (Str × V))
 | met (f x:Addr)
 | rng (lo hi:Int)
 | frz (o:Obj) (u:HO)
 | tbl (ps:Array Value)
 | ext (φ:Heap->Prop)
abbrev Hp:=Addr->Option HO
def upd (H:Hp) (a:Addr) (o:HO):Hp:=fun b=>if b=a then some o else H b
theorem aw {H:Hp}{a:Addr}{o:HO}:upd H a o a=some o:=by unfold upd;rw [if_pos rfl]
theorem aI {H:Hp}{a b:Addr}{o:HO} (h:b ≠ a):upd H a o b=H b:=by unfold upd;rw [if_neg h]
theorem AW {H:Hp}{a:Addr}{o u:HO}:upd (upd H a o) a u=upd H a u:=by
 funext b;unfold upd;split <;> rfl
theorem EY {H:Hp}{a b:Addr}{o u:HO} (h:H a=some o) (h':H b=some u) (d:o ≠ u):a ≠ b:=by
 intro e;subst e;rw [h] at h';exact d (Option.some.inj h')
theorem eE {H:Hp}{a b:Addr}{o:HO} (h:H a=some o) (h':H b=none):a ≠ b:=by
 intro e;subst e;rw [h] at h';cases h'
section
variable (P:Program) (w:World)
def cn (H:Hp) (h:Heap) (a:Addr):HO->Prop
 | .lst xs=>xs.length <= sizeLine/\∃(its:List Value) (n:Nat),Vals xs its/\h.get? a=some { cls:=.type "list",data:=.seq its.toArray n }
 | .tup xs=>xs.length <= sizeLine/\∃its:List Value,Vals xs its/\IsTup h a its.toArray
 | .dK kvs=>kvs.length <= sizeLine/\(a == sysModules)=false/\∃vs,KV kvs vs/\h.DictOf (bN P w) a vs
 | .dT kvs=>kvs.length <= sizeLine/\(a == sysModules)=false/\∃xs:List (List Key × Addr × Value),
   Paired (fun (p:List Key × V) (q:List Key × Addr × Value)=>p.1=q.1/\H q.2.1=some (.tup (p.1.map kV))/\RelV p.2 q.2.2) kvs xs /\
   ∃o es ep,h.get? a=some o/\o.ExactDict/\o.data=.dict es ep/\es.toList=xs.map (entryOfKey (tupleKind (bN P w)))/\(xs.map (·.1)).Nodup
 | .set S n=>h.SetOf (intKind P w) a S n
 | .ins C dx fs=>H dx=some (.own a)/\fs.length <= 1000/\dx ≠ a/\h.get? a=some (W.instObj C dx) /\
   ∃mA,h.Ns1 dx mA/\(∀f,kM (fs.lookup f) (mA f))/\PySem.Within mA (fs.map (·.1))
 | .own _=>∃o,h.get? a=some o
 | .xd fs=>∃mA,h.Ns1 a mA/\∀f,kM (fs.lookup f) (mA f)
 | .rng lo hi=>∃t u v,h.get? a=some { cls:=.type "range",data:=.fields #[.int lo t,.int hi u,.int 1 v] }
 | .frz o u=>h.get? a=some o/\cn H h a u
 | .tbl ps=>h.get? a=some { cls:=.none,data:=.fields ps }
 | .met f x=>h.get? a=some (W.methodObj (.ref f) (.ref x))
 | .ext φ=>φ h/\(∃o,h.get? a=some o)/\∀h1 h2:Heap,φ h1->(∀o,h1.get? a=some o->h2.get? a=some o)->φ h2
def HOk (H:Hp) (h:Heap):Prop:=∀a o,H a=some o->cn P w H h a o
end
section
variable {P:Program}{w:World}{H H':Hp}{h h':Heap}{a:Addr}{o:HO}
theorem cn.lt (x:cn P w H h a o):a < h.objs.size:=by
 cases o with
 | lst xs=>obtain ⟨_,_,_,_,e⟩:=x;exact Heap.lt_size e
 | tup xs=>obtain ⟨_,_,_,p⟩:=x;exact p.lt
 | dK kvs=>obtain ⟨_,_,_,_,o,_,_,e,_⟩:=x;exact Heap.lt_size e
 | dT kvs=>obtain ⟨_,_,_,_,o,_,_,e,_⟩:=x;exact Heap.lt_size e
 | set S n=>obtain ⟨o,_,_,_,e,_⟩:=x;exact Heap.lt_size e
 | ins C dx fs=>obtain ⟨_,_,_,e,_⟩:=x;exact Heap.lt_size e
 | own y=>obtain ⟨_,e⟩:=x;exact Heap.lt_size e
 | xd fs=>obtain ⟨_,⟨_,_,_,e,_⟩,_⟩:=x;exact Heap.lt_size e
 | rng lo hi=>obtain ⟨_,_,_,e⟩:=x;exact Heap.lt_size e
 | frz ob u=>obtain ⟨e,_⟩:=x;exact Heap.lt_size e
 | tbl ps=>exact Heap.lt_size (show h.get? a=some _ from x)
 | met f y=>exact Heap.lt_size (show h.get? a=some _ from x)
 | ext φ=>obtain ⟨_,⟨_,e⟩,_⟩:=x;exact Heap.lt_size e
theorem Paired.mR {α β:Type}{F G:α->β->Prop}:∀{l₁:List α}{l₂:List β},Paired F l₁ l₂->(∀a b,F a b->G a b)->Paired G l₁ l₂
 | _,_,.nil,_=>.nil
 | _,_,.cons r t,f=>.cons (f _ _ r) (Paired.mR t f)
theorem cn.qx (x:cn P w H h a o) (k:∀b u,(b=a \/ H b=some (.own a))->h.get? b=some u->h'.get? b=some u)
  (ho:∀b,H b=some (.own a)->H' b=some (.own a)) (ht:∀b xs,H b=some (.tup xs)->H' b=some (.tup xs)):cn P w H' h' a o:=by
 induction o with
 | lst xs=>obtain ⟨z,its,n,r,e⟩:=x;exact ⟨z,its,n,r,k _ _ (.inl rfl) e⟩
 | tup xs=>obtain ⟨z,its,r,ob,e,c⟩:=x;exact ⟨z,its,r,ob,k _ _ (.inl rfl) e,c⟩
 | dK kvs=>obtain ⟨z,y,vs,r,ob,es,ep,e,c⟩:=x;exact ⟨z,y,vs,r,ob,es,ep,k _ _ (.inl rfl) e,c⟩
 | dT kvs =>
  obtain ⟨z,y,xs,r,ob,es,ep,e,c⟩:=x
  exact ⟨z,y,xs,Paired.mR r fun p q z=>⟨z.1,ht _ _ z.2.1,z.2.2⟩,ob,es,ep,k _ _ (.inl rfl) e,c⟩
 | set S n=>obtain ⟨ob,es,ep,t,e,c⟩:=x;exact ⟨ob,es,ep,t,k _ _ (.inl rfl) e,c⟩
 | ins C dx fs =>
  obtain ⟨d,z,ne,e,mA,⟨od,es,ep,e2,c⟩,r⟩:=x
  exact ⟨ho _ d,z,ne,k _ _ (.inl rfl) e,mA,⟨od,es,ep,k _ _ (.inr d) e2,c⟩,r⟩
 | own y=>obtain ⟨ob,e⟩:=x;exact ⟨ob,k _ _ (.inl rfl) e⟩
 | xd fs=>obtain ⟨mA,⟨od,es,ep,e,c⟩,r⟩:=x;exact ⟨mA,⟨od,es,ep,k _ _ (.inl rfl) e,c⟩,r⟩
 | rng lo hi=>obtain ⟨t,u,v,e⟩:=x;exact ⟨t,u,v,k _ _ (.inl rfl) e⟩
 | frz ob u ih=>obtain ⟨e,q⟩:=x;exact ⟨k _ _ (.inl rfl) e,ih q⟩
 | tbl ps =>
  have e:h.get? a=some { cls:=.none,data:=.fields ps }:=x
  show h'.get? a=some { cls:=.none,data:=.fields ps }
  exact k a _ (.inl rfl) e
 | met f y =>
  have e:h.get? a=some (W.methodObj (.ref f) (.ref y)):=x
  show h'.get? a=some (W.methodObj (.ref f) (.ref y))
  exact k a _ (.inl rfl) e
 | ext φ=>obtain ⟨p,⟨o,e⟩,st⟩:=x;exact ⟨st _ _ p fun o q=>k _ _ (.inl rfl) q,⟨o,k _ _ (.inl rfl) e⟩,st⟩
theorem HOk.lt (x:HOk P w H h) (e:H a=some o):a < h.objs.size:=(x a o e).lt
theorem HOk.fresh (x:HOk P w H h) (e:h.objs.size <= a):H a=none:=by
 cases q:H a with
 | none=>rfl
 | some u=>exact absurd (Nat.lt_of_lt_of_le (x.lt q) e) (Nat.lt_irrefl _)
theorem HOk.kept (x:HOk P w H h) (k:∀b u,h.get? b=some u->h'.get? b=some u):HOk P w H h':=fun a o e =>
 (x a o e).qx (fun b u _ q=>k b u q) (fun _ q=>q) fun _ _ q=>q
theorem HOk.laid (x:HOk P w H h) (k:∀b u,h.get? b=some u->h'.get? b=some u) (hp:h.objs.size <= a) (new:cn P w (upd H a o) h' a o):HOk P w (upd H a o) h':=fun b u e=>by
 have hn:=x.fresh hp
 by_cases hb:b=a
 ·subst hb;rw [aw] at e;cases e;exact new
 ·rw [aI hb] at e
  exact (x b u e).qx (fun c v _ q=>k c v q) (fun c q=>by rw [aI (eE q hn)];exact q) fun c xs q=>by rw [aI (eE q hn)];exact q
end
def Rd (H:Hp) (a:Addr) (u:HO):Prop:=H a=some u \/ ∃o,H a=some (.frz o u)
theorem Rd.ok {P:Program}{w:World}{H:Hp}{h:Heap}{a:Addr}{u:HO} (r:Rd H a u) (x:HOk P w H h):cn P w H h a u:=by
 rcases r with r | ⟨o,r⟩
 ·exact x a u r
 ·obtain ⟨_,q⟩:=x a _ r
  exact q
def Mut:Option HO->Prop
 | some (.lst _)=>True
 | some (.dK _)=>True
 | some (.dT _)=>True
 | some (.set _ _)=>True
 | some (.ins _ _ _)=>True
 | some (.ext _)=>True
 | _=>False
section
variable {P:Program}{w:World}{H:Hp}{h h':Heap}{x e:Addr}{o':HO}
theorem HOk.write (ok:HOk P w H h) (mu:Mut (H x)) (he:e=x \/ H e=some (.own x)) (k:∀b u,b ≠ e->h.get? b=some u->h'.get? b=some u) (heo:∃u,h'.get? e=some u)
  (new:cn P w (upd H x o') h' x o'):HOk P w (upd H x o') h':=fun b u q=>by
 have nown:∀c y,H c=some (.own y)->c ≠ x:=fun c y r z=>by subst z;rw [r] at mu;exact mu
 have ntup:∀c xs,H c=some (.tup xs)->c ≠ x:=fun c xs r z=>by subst z;rw [r] at mu;exact mu
 by_cases hb:b=x
 ·subst hb;rw [aw] at q;cases q;exact new
 ·rw [aI hb] at q
  by_cases hbe:b=e
  ·have q':H b=some (.own x):=by
    rcases he with z | z
    ·exact absurd (hbe.trans z) hb
    ·rw [hbe];exact z
   rw [q] at q';cases q'
   obtain ⟨v,hv⟩:=heo
   exact ⟨v,by rw [hbe];exact hv⟩
  ·refine (ok b u q).qx (fun c v hc r=>k c v ?_ r) (fun c r=>by rw [aI (nown c b r)];exact r) fun c xs r=>by rw [aI (ntup c xs r)];exact r
   rcases hc with rfl | hc
   ·exact hbe
   ·rintro rfl
    rcases he with z | z
    ·exact nown c b hc z
    ·rw [hc] at z;cases z;exact hb rfl
end
structure Un (fs ex:List Addr) (H H':Hp) (h h':Heap):Prop where
 keep:∀b o,h.get? b=some o->H b=none->b ∉ fs->b ∉ ex->h'.get? b=some o
 slot:∀b o,h.get? b=some o->H b=none->b ∈ fs->b ∉ ex->∃sl,h'.get? b=some { o with slots:=sl }
 free:∀b o,h.get? b=some o->H b=none->b ∉ ex->H' b=none
 there:∀b o,h.get? b=some o->b ∉ ex->∃o',h'.get? b=some o'
 qw:∀b xs,H b=some (.tup xs)->H' b=some (.tup xs)
 nU:∀b o u,H b=some (.frz o u)->H' b=some (.frz o u)
 qt:∀b ps,H b=some (.tbl ps)->∃more,H' b=some (.tbl (ps ++ more))
section
variable {fs fs' ex ex':List Addr}{H H1 H2:Hp}{h h1 h2 h':Heap}{a x e:Addr}{o:HO}
theorem Un.any (u:Un fs ex H H1 h h1) {b:Addr}{ob:Obj} (q:h.get? b=some ob) (n:H b=none) (hx:b ∉ ex):∃sl,h1.get? b=some { ob with slots:=sl }:=by
 by_cases hb:b ∈ fs
 ·exact u.slot b ob q n hb hx
 ·exact ⟨ob.slots,u.keep b ob q n hb hx⟩
theorem Un.kept (k:∀b u,h.get? b=some u->h'.get? b=some u):Un fs ex H H h h' :=
 ⟨fun b ob q _ _ _=>k b ob q,fun b ob q _ _ _=>⟨ob.slots,k b ob q⟩,fun _ _ _ n _=>n,fun b ob q _=>⟨ob,k b ob q⟩,fun _ _ q=>q,fun _ _ _ q=>q,fun _ ps q=>⟨#[],by rw [q];simp⟩⟩
theorem Un.refl:Un fs ex H H h h:=Un.kept fun _ _ q=>q
theorem Un.laid (k:∀b u,h.get? b=some u->h'.get? b=some u) (hp:h.objs.size <= a) (hn:H a=none):Un fs ex H (upd H a o) h h' where
 keep:=fun b u q _ _ _=>k b u q
 slot:=fun b u q _ _ _=>⟨u.slots,k b u q⟩
 free:=fun b u q n _=>by rw [aI (Nat.ne_of_lt (Nat.lt_of_lt_of_le (Heap.lt_size q) hp))];exact n
 there:=fun b u q _=>⟨u,k b u q⟩
 qw:=fun b xs q=>by rw [aI (eE q hn)];exact q
 nU:=fun b u xs q=>by rw [aI (eE q hn)];exact q
 qt:=fun b ps q=>⟨#[],by rw [aI (eE q hn),q];simp⟩
theorem Un.write (mu:Mut (H x)) (he:e=x \/ H e=some (.own x)) (k:∀b u,b ≠ e->h.get? b=some u->h'.get? b=some u) (heo:∃u,h'.get? e=some u):Un fs ex H (upd H x o) h h':=by
 have hx:∀b,H b=none->b ≠ x:=fun b n z=>by subst z;rw [n] at mu;exact mu
 have hb:∀b,H b=none->b ≠ e:=fun b n z=>by
  subst z
  rcases he with r | r
  ·exact hx b n r
  ·rw [n] at r;cases r
 have hm:∀b u,H b=some u->¬ Mut (some u)->b ≠ x:=fun b u q nm z=>by subst z;rw [q] at mu;exact nm mu
 refine ⟨fun b u q n _ _=>k b u (hb b n) q,fun b u q n _ _=>⟨u.slots,k b u (hb b n) q⟩,fun b u q n _=>by rw [aI (hx b n)];exact n,fun b u q _=>?_,
  fun b xs q=>by rw [aI (hm b _ q fun z=>z)];exact q,fun b u xs q=>by rw [aI (hm b _ q fun z=>z)];exact q,fun b ps q=>⟨#[],by rw [aI (hm b _ q fun z=>z),q];simp⟩⟩
 by_cases hbe:b=e
 ·subst hbe;exact heo
 ·exact ⟨u,k b u hbe q⟩
end
def trk (h:Heap) (H:Hp):List Addr:=(List.range h.objs.size).filter fun a=>(H a).isSome
def tM (h:Heap) (H:Hp):Heap:=W.hideAll h (trk h H)
theorem xX (h:Heap) (H:Hp):(tM h H).objs.size=h.objs.size:=W.hideAll_size _ _
theorem zH {h:Heap}{H:Hp}{b:Addr}{o:Obj} (e:h.get? b=some o) (n:H b=none):(tM h H).get? b=some o :=
 W.hideAll_get _ e fun hm=>by
  have q:(H b).isSome=true:=(List.mem_filter.mp hm).2
  rw [n] at q;simp at q
theorem Bs {h:Heap}{H:Hp}{b:Addr}{o:Obj} (e:(tM h H).get? b=some o):h.get? b=some o/\H b=none:=by
 have e':h.get? b=some o:=W.of_hideAll (trk h H) e
 refine ⟨e',?_⟩
 cases q:H b with
 | none=>rfl
 | some x =>
  have hm:b ∈ trk h H:=List.mem_filter.mpr ⟨List.mem_range.mpr (Heap.lt_size e'),by simp [q]⟩
  have z:(tM h H).get? b=none:=W.hideAll_none (trk h H) hm
  rw [z] at e;cases e
end L2
namespace L2
open PySem PySem.Spec PyProof.Rows
structure Mod (K:W.Frag) (mg:Str->Option Value) (base:Heap):Prop where
 kin:K.In base
 glob:base.Ns mainGlobals mg
 blt:∃mb,base.Ns builtinsNs mb/\∀x:Str,x ≠ "__name__"->mb x=bootBuiltins x
 nolimit:base.NoLimit
structure Cx where
 prog:Program
 w:World
 K:W.Frag
 mg:Str->Option Value
 base:Heap
 A:Around
 N:List Str
 s₀:Shared
 H₀:Hp
 env:Env
 outer:List Env
 stack:List Env
 ex:List Addr
 fn:Str->Bool
 calm:Bool
 pn:List (Addr × Obj)
 xe:Value->Shared->Prop
def frs (l:List Env):List Addr:=l.filterMap (·.frame)
abbrev Cx.fs (X:Cx):List Addr:=frs X.outer
def Vis (sc:Scope) (x:Str):Prop:=sc.names.lookup x=some .local \/ sc.names.lookup x=some .cell \/ sc.names.lookup x=some .free
def Loc (sc:Scope) (x:Str):Prop:=sc.names.lookup x=some .local \/ sc.names.lookup x=some .cell
def Look (env:Env) (h:Heap) (m:Str->Option Value) (x:Str) (u:Value):Prop :=
 (env.kindOf x=some .local/\m x=some u) \/ ((env.kindOf x=some .cell \/ env.kindOf x=some .free)/\∃c,env.cells.lookup x=some c/\h.IsCell c (some u))
structure Cx.Ok (X:Cx):Prop where
 mod:Mod X.K X.mg X.base
 kind:X.env.scope.kind=.function
 glob:X.env.globals=mainGlobals
 blt:X.env.builtins=builtinsNs
 above:X.s₀.heap.objs.size <= X.env.locals
 inj:∀x y c,X.env.cells.lookup x=some c->X.env.cells.lookup y=some c->x=y
 has:∀x,(X.env.kindOf x=some .cell \/ X.env.kindOf x=some .free)->∃c,X.env.cells.lookup x=some c
 cab:∀x c,X.fn x=true->X.env.cells.lookup x=some c->X.s₀.heap.objs.size <= c
 hd:X.calm=true->X.A.handled=none
 frames:X.A.frames=some X.stack
 stk:X.stack=X.outer \/ (X.stack=X.env :: X.outer/\X.env.frame=some X.env.locals)
 exf:∀b ∈ X.ex,b ≠ X.env.locals/\∀x c,X.env.cells.lookup x=some c->c ≠ b
 bs:∀b o,X.base.get? b=some o->X.s₀.heap.get? b=some o/\X.H₀ b=none
 bsz:X.base.objs.size <= X.s₀.heap.objs.size
 zL:∀b o,X.base.get? b=some o->b ∉ X.ex
 zt:∀b ∈ X.ex,b ∉ X.fs
 nQ:X.s₀.heap.FunFrames X.base X.outer
 frf:∀b ∈ X.fs,X.H₀ b=none
structure Inv (X:Cx) (pins:List (Addr × Obj)) (σ:List (Option V)) (H:Hp) (s:Shared):Prop where
 ok:X.Ok
 os:s.os=X.s₀.os
 bare:AllBare s.gens
 base:Un X.fs X.ex X.H₀ H X.s₀.heap s.heap
 loc:∃m,s.heap.Ns X.env.locals m/\∀(i:Nat) (x:Str) (v:V),X.N[i]?=some x->σ[i]?=some (some v)->Vis X.env.scope x->∃u,RelV v u/\Look X.env s.heap m x u
 cell:∀x c,X.env.cells.lookup x=some c->∃v,s.heap.IsCell c v
 free:H X.env.locals=none
 iA:∀x c,X.env.cells.lookup x=some c->H c=none
 pin:∀p ∈ X.pn ++ pins,s.heap.get? p.1=some p.2/\H p.1=none/\p.1 ≠ X.env.locals/\p.1 ∉ X.fs/\∀v,p.2.data ≠ .cell v
 hok:HOk X.prog X.w H s.heap
 len:σ.length=X.N.length
section
variable {X:Cx}{pins:List (Addr × Obj)}{σ:List (Option V)}{H H':Hp}{s:Shared}{h':Heap}
theorem Cx.Ok.FW (ok:X.Ok) {b:Addr}{o:Obj} (e:X.base.get? b=some o):b ∉ X.fs:=fun hb=>by
 have:=(ok.nQ.mem hb).1
 rw [e] at this;cases this
theorem Inv.bs (I:Inv X pins σ H s):∀b o,X.base.get? b=some o->s.heap.get? b=some o/\H b=none:=fun b o e =>
 ⟨I.base.keep b o (I.ok.bs b o e).1 (I.ok.bs b o e).2 (I.ok.FW e) (I.ok.zL b o e),I.base.free b o (I.ok.bs b o e).1 (I.ok.bs b o e).2 (I.ok.zL b o e)⟩
theorem Inv.bk (I:Inv X pins σ H s):∀b o,X.base.get? b=some o->s.heap.get? b=some o:=fun b o e=>(I.bs b o e).1
theorem Inv.mod (I:Inv X pins σ H s):Mod X.K X.mg X.base:=I.ok.mod
theorem Inv.kIn (I:Inv X pins σ H s):X.K.In s.heap:=I.ok.mod.kin.keeps I.bk
theorem Inv.lt (I:Inv X pins σ H s):X.env.locals < s.heap.objs.size:=let ⟨_,hn,_⟩:=I.loc;hn.lt
theorem Inv.sz (I:Inv X pins σ H s):X.s₀.heap.objs.size <= s.heap.objs.size:=Nat.le_trans I.ok.above (Nat.le_of_lt I.lt)
theorem Inv.E6 (I:Inv X pins σ H s) {a:Addr} (h:s.heap.objs.size <= a):a ∉ X.fs:=fun hb=>by
 obtain ⟨_,o,ho,_⟩:=I.ok.nQ.mem hb
 exact absurd (Nat.lt_of_lt_of_le (Heap.lt_size ho) (Nat.le_trans I.sz h)) (Nat.lt_irrefl _)
theorem Inv.cne (I:Inv X pins σ H s):∀x c,X.env.cells.lookup x=some c->c ≠ X.env.locals:=fun x c e z=>by
 obtain ⟨v,o,ho,hd⟩:=I.cell x c e
 obtain ⟨m,⟨o',es,ep,ho',hd',_⟩,_⟩:=I.loc
 rw [z,ho'] at ho;cases ho;rw [hd'] at hd;cases hd
theorem Inv.nQ (I:Inv X pins σ H s):s.heap.FunFrames X.base X.outer:=by
 have all:∀(l:List Env),(∀b ∈ frs l,b ∈ X.fs)->X.s₀.heap.FunFrames X.base l->s.heap.FunFrames X.base l:=by
  intro l
  induction l with
  | nil=>intro _ _;trivial
  | cons env r ih =>
   intro hs hl
   obtain ⟨hk,⟨L,o,hf,hn,ho,hd⟩,hr⟩:=hl
   have hL:L ∈ X.fs:=hs L (by unfold frs;rw [List.filterMap_cons,hf];exact List.mem_cons_self)
   obtain ⟨sl,e⟩:=I.base.slot L o ho (I.ok.frf L hL) hL fun z=>I.ok.zt L z hL
   exact ⟨hk,⟨L,_,hf,hn,e,hd⟩,ih (fun b hb=>hs b (by unfold frs;rw [List.filterMap_cons,hf];exact List.mem_cons_of_mem _ hb)) hr⟩
 exact all X.outer (fun _ hb=>hb) I.ok.nQ
theorem Inv.stack (I:Inv X pins σ H s):s.heap.FunFrames X.base X.stack:=by
 rcases I.ok.stk with e | ⟨e,hf⟩
 ·rw [e];exact I.nQ
 ·rw [e]
  obtain ⟨m,hn,_⟩:=I.loc
  refine .cons (by rw [I.ok.kind];decide) hf hn ?_ I.nQ
  exact Heap.get?_none_of_le (Nat.le_trans I.ok.bsz I.ok.above)
theorem Inv.wJ (I:Inv X pins σ H s):∀b ∈ frs X.stack,b ∈ X.env.locals :: X.fs:=fun b hb=>by
 rcases I.ok.stk with e | ⟨e,hf⟩
 ·rw [e] at hb;exact List.mem_cons_of_mem _ hb
 ·rw [e] at hb
  unfold frs at hb
  rw [List.filterMap_cons,hf] at hb
  exact hb
theorem Inv.xG (I:Inv X pins σ H s):∀b ∈ frs X.stack,H b=none:=fun b hb=>by
 rcases List.mem_cons.mp (I.wJ b hb) with e | hb
 ·rw [e];exact I.free
 ·obtain ⟨_,o,ho,_⟩:=I.ok.nQ.mem hb
  exact I.base.free b o ho (I.ok.frf b hb) fun z=>I.ok.zt b z hb
theorem Inv.step {g':Array GenState}{t':Nat}{d':Drawn}{ch:List Addr} (I:Inv X pins σ H s)
  (hch:∀b ∈ ch,(b ∈ X.ex \/ X.s₀.heap.objs.size <= b)/\b ≠ X.env.locals/\(∀x c,X.env.cells.lookup x=some c->c ≠ b)/\∀p ∈ X.pn ++ pins,p.1 ≠ b)
  (keep:∀b o,b ≠ X.env.locals->b ∉ X.fs->b ∉ ch->s.heap.get? b=some o->H b=none->h'.get? b=some o)
  (slot:∀b o,b ≠ X.env.locals->b ∈ X.fs->b ∉ ch->s.heap.get? b=some o->H b=none->∃sl,h'.get? b=some { o with slots:=sl }) (free:∀b o,b ∉ ch->s.heap.get? b=some o->H b=none->H' b=none)
  (there:∀b o,b ∉ ch->s.heap.get? b=some o->∃o',h'.get? b=some o')
  (qw:∀b xs,H b=some (.tup xs)->H' b=some (.tup xs)) (nU:∀b o u,H b=some (.frz o u)->H' b=some (.frz o u)) (qt:∀b ps,H b=some (.tbl ps)->∃more,H' b=some (.tbl (ps ++ more)))
  (ns:∀m,s.heap.Ns X.env.locals m->h'.Ns X.env.locals m) (hok:HOk X.prog X.w H' h') (hg:AllBare g') :
  Inv X pins σ H' { s with heap:=h',gens:=g',drawn:=d',toks:=t' }:=by
 have neL:∀b o,X.s₀.heap.get? b=some o->b ≠ X.env.locals:=fun b o e=>Nat.ne_of_lt (Nat.lt_of_lt_of_le (Heap.lt_size e) I.ok.above)
 have neC:∀b o,X.s₀.heap.get? b=some o->b ∉ X.ex->b ∉ ch:=fun b o e hx hb=>by
  rcases (hch b hb).1 with z | z
  ·exact hx z
  ·exact absurd (Nat.lt_of_lt_of_le (Heap.lt_size e) z) (Nat.lt_irrefl _)
 have cellK:∀x c,X.env.cells.lookup x=some c->∀v,s.heap.IsCell c v->h'.IsCell c v:=fun x c e v ⟨o,ho,hd⟩=>by
  have nch:c ∉ ch:=fun z=>(hch c z).2.2.1 x c e rfl
  by_cases hc:c ∈ X.fs
  ·obtain ⟨sl,q⟩:=slot c o (I.cne x c e) hc nch ho (I.iA x c e)
   exact ⟨_,q,hd⟩
  ·exact ⟨o,keep c o (I.cne x c e) hc nch ho (I.iA x c e),hd⟩
 refine ⟨I.ok,I.os,hg,⟨fun b o e n hb hx=>?_,fun b o e n hb hx=>?_,fun b o e n hx=>?_,fun b o e hx=>?_,fun b xs e=>qw b xs (I.base.qw b xs e),fun b o xs e=>nU b o xs (I.base.nU b o xs e),fun b ps e=>?_⟩,?_,fun x c e=>?_,?_,fun x c e=>?_,fun p hp=>?_,hok,I.len⟩
 ·exact keep b o (neL b o e) hb (neC b o e hx) (I.base.keep b o e n hb hx) (I.base.free b o e n hx)
 ·obtain ⟨sl,e1⟩:=I.base.slot b o e n hb hx
  obtain ⟨sl',e2⟩:=slot b _ (neL b o e) hb (neC b o e hx) e1 (I.base.free b o e n hx)
  exact ⟨sl',e2⟩
 ·obtain ⟨o',e1⟩:=I.base.there b o e hx
  exact free b o' (neC b o e hx) e1 (I.base.free b o e n hx)
 ·obtain ⟨o',e1⟩:=I.base.there b o e hx
  exact there b o' (neC b o e hx) e1
 ·obtain ⟨m1,e1⟩:=I.base.qt b ps e
  obtain ⟨m2,e2⟩:=qt b _ e1
  exact ⟨m1 ++ m2,by rw [e2,Array.append_assoc]⟩
 ·obtain ⟨m,hn,hl⟩:=I.loc
  refine ⟨m,ns m hn,fun i x v e1 e2 e3=>?_⟩
  obtain ⟨u,r,l⟩:=hl i x v e1 e2 e3
  refine ⟨u,r,?_⟩
  rcases l with l | ⟨k,c,e,z⟩
  ·exact .inl l
  ·exact .inr ⟨k,c,e,cellK x c e _ z⟩
 ·obtain ⟨v,z⟩:=I.cell x c e
  exact ⟨v,cellK x c e v z⟩
 ·obtain ⟨m,⟨o,_,_,ho,_⟩,_⟩:=I.loc
  exact free _ o (fun z=>(hch _ z).2.1 rfl) ho I.free
 ·obtain ⟨v,o,ho,hd⟩:=I.cell x c e
  exact free c o (fun z=>(hch c z).2.2.1 x c e rfl) ho (I.iA x c e)
 ·obtain ⟨e,n,ne,nf,d⟩:=I.pin p hp
  have nch:p.1 ∉ ch:=fun z=>(hch p.1 z).2.2.2 p hp rfl
  exact ⟨keep p.1 p.2 ne nf nch e n,free p.1 p.2 nch e n,ne,nf,d⟩
theorem Inv.un {t':Nat} (I:Inv X pins σ H s) (u:Un X.fs [] H H' s.heap h') (hok:HOk X.prog X.w H' h'):Inv X pins σ H' { s with heap:=h',toks:=t' }:=by
 obtain ⟨m,⟨o,es,ep,ho,r⟩,_⟩:=id I.loc
 obtain ⟨sl,hL⟩:=u.any ho I.free (by simp)
 exact I.step (g':=s.gens) (d':=s.drawn) (ch:=[]) (fun _ z=>nomatch z) (fun b o _ hb _ e n=>u.keep b o e n hb (by simp)) (fun b o _ hb _ e n=>u.slot b o e n hb (by simp)) (fun b o _ e n=>u.free b o e n (by simp)) (fun b o _ e=>u.there b o e (by simp)) u.qw u.nU u.qt (fun m' hm=>by
  obtain ⟨o',es',ep',ho',r'⟩:=hm
  rw [ho] at ho';cases ho'
  exact ⟨_,es',ep',hL,r'⟩) hok I.bare
theorem Inv.call {g':Array GenState}{t':Nat}{d':Drawn}{ch:List Addr} (I:Inv X pins σ H s) (u:Un (frs X.stack) ch H H' s.heap h') (hok:HOk X.prog X.w H' h') (hg:AllBare g')
  (hch:∀b ∈ ch,(b ∈ X.ex \/ X.s₀.heap.objs.size <= b)/\b ≠ X.env.locals/\(∀x c,X.env.cells.lookup x=some c->c ≠ b)/\∀p ∈ X.pn ++ pins,p.1 ≠ b) :
  Inv X pins σ H' { s with heap:=h',gens:=g',drawn:=d',toks:=t' }:=by
 obtain ⟨m,⟨o,es,ep,ho,r⟩,_⟩:=id I.loc
 obtain ⟨sl,hL⟩:=u.any ho I.free fun z=>(hch _ z).2.1 rfl
 exact I.step (ch:=ch) hch (fun b o hL hb hc e n=>u.keep b o e n (fun z=>(List.mem_cons.mp (I.wJ b z)).elim hL hb) hc) (fun b o _ _ hc e n=>u.any e n hc) (fun b o hc e n=>u.free b o e n hc) (fun b o hc e=>u.there b o e hc) u.qw u.nU u.qt (fun m' hm=>by
  obtain ⟨o',es',ep',ho',r'⟩:=hm
  rw [ho] at ho';cases ho'
  exact ⟨_,es',ep',hL,r'⟩) hok hg
theorem Inv.turned {t':Nat}{it:Addr} (I:Inv X pins σ H s) (k:∀b o,b ≠ it->s.heap.get? b=some o->h'.get? b=some o) (hn:H it=none) (hL:it ≠ X.env.locals)
  (h1:it ∈ X.ex \/ X.s₀.heap.objs.size <= it) (h2:∀x c,X.env.cells.lookup x=some c->c ≠ it) (h3:∀p ∈ X.pn ++ pins,p.1 ≠ it):Inv X pins σ H { s with heap:=h',toks:=t' }:=by
 have nit:∀b u,H b=some u->b ≠ it:=fun b u e z=>by rw [z,hn] at e;cases e
 refine I.step (g':=s.gens) (d':=s.drawn) (ch:=[it]) (fun b hb=>?_) (fun b o _ _ hc e _=>k b o (fun z=>hc (by simp [z])) e) (fun b o _ _ hc e _=>⟨o.slots,k b o (fun z=>hc (by simp [z])) e⟩) (fun _ _ _ _ n=>n)
  (fun b o hc e=>⟨o,k b o (fun z=>hc (by simp [z])) e⟩) (fun _ _ e=>e) (fun _ _ _ e=>e) (fun b ps e=>⟨#[],by rw [e];simp⟩) (fun m hm=>?_) (fun b u e=>?_) I.bare
 ·have e:b=it:=by simpa using hb
  subst e
  exact ⟨h1,hL,h2,h3⟩
 ·obtain ⟨o,es,ep,ho,r⟩:=hm
  exact ⟨o,es,ep,k _ o (Ne.symm hL) ho,r⟩
 ·refine (I.hok b u e).qx (fun c v hc q=>k c v ?_ q) (fun _ q=>q) fun _ _ q=>q
  rcases hc with z | z
  ·rw [z];exact nit b u e
  ·exact nit c _ z
theorem Inv.tok (I:Inv X pins σ H s) (t:Nat):Inv X pins σ H { s with toks:=t }:=I.un (h':=s.heap) (t':=t) Un.refl I.hok
theorem Inv.kept {t':Nat} (I:Inv X pins σ H s) (k:∀b u,s.heap.get? b=some u->h'.get? b=some u):Inv X pins σ H { s with heap:=h',toks:=t' }:=I.un (Un.kept k) (I.hok.kept k)
theorem Inv.laid {a:Addr}{o:HO}{t':Nat} (I:Inv X pins σ H s) (k:∀b u,s.heap.get? b=some u->h'.get? b=some u) (hp:s.heap.objs.size <= a) (new:cn X.prog X.w (upd H a o) h' a o) :
  Inv X pins σ (upd H a o) { s with heap:=h',toks:=t' }:=I.un (Un.laid k hp (I.hok.fresh hp)) (I.hok.laid k hp new)
theorem Inv.write {x e:Addr}{o:HO}{t':Nat} (I:Inv X pins σ H s) (mu:Mut (H x)) (he:e=x \/ H e=some (.own x)) (k:∀b u,b ≠ e->s.heap.get? b=some u->h'.get? b=some u) (heo:∃u,h'.get? e=some u)
  (new:cn X.prog X.w (upd H x o) h' x o):Inv X pins σ (upd H x o) { s with heap:=h',toks:=t' }:=I.un (Un.write mu he k heo) (I.hok.write mu he k heo new)
theorem Inv.tZ {pins':List (Addr × Obj)} (I:Inv X pins σ H s) (h:∀p ∈ pins',s.heap.get? p.1=some p.2/\H p.1=none/\p.1 ≠ X.env.locals/\p.1 ∉ X.fs/\∀v,p.2.data ≠ .cell v):Inv X pins' σ H s :=
 ⟨I.ok,I.os,I.bare,I.base,I.loc,I.cell,I.free,I.iA,fun p hp=>(List.mem_append.mp hp).elim (fun z=>I.pin p (List.mem_append_left _ z)) (h p),I.hok,I.len⟩
theorem uZ {N:List Str} (hN:N.Nodup) {i j:Nat}{x:Str} (a:N[i]?=some x) (b:N[j]?=some x):i=j:=by
 obtain ⟨h1,e1⟩:=List.getElem?_eq_some_iff.mp a
 obtain ⟨h2,e2⟩:=List.getElem?_eq_some_iff.mp b
 exact (List.getElem_inj hN).mp (e1.trans e2.symm)
theorem ye {M:Model}{A:Around}{E:Value->Shared->Prop}{i:Nat}{x:Str}{v:V}{u:Value}{Q:Unit->Shared->Prop} (I:Inv X pins σ H s) (hN:X.N.Nodup) (hi:X.N[i]?=some x) (hx:Loc X.env.scope x) (r:RelV v u)
  (h:∀s',Inv X pins (σ.set i (some v)) H s'->(∃a,Heap.SameBut a s.heap s'.heap/\(a=X.env.locals \/ X.env.cells.lookup x=some a))->Q () s') (hf:X.fn x=true \/ X.env.scope.names.lookup x=some .local:=by first | exact .inl rfl | exact .inr rfl | assumption):wpAny M A (storeName X.env x u) Q E s:=by
 obtain ⟨m,hn,hl⟩:=id I.loc
 have hcls:(X.env.scope.kind == .class || (X.env.scope.kind == .module && X.env.locals != X.env.globals))=false:=by rw [I.ok.kind];rfl
 have hiσ:i < σ.length:=by rw [I.len];exact (List.getElem?_eq_some_iff.mp hi).1
 have cne:=I.cne
 have tracked:∀{a:Addr}{h':Heap},(∃o,s.heap.get? a=some o/\H a=none)->Heap.SameBut a s.heap h'->HOk X.prog X.w H h':=fun {a h'} ha hs b ob e=>by
  obtain ⟨_,_,hfree⟩:=ha
  refine (I.hok b ob e).qx (fun c w' hc q=>(hs.2 c ?_).trans q) (fun _ q=>q) fun _ _ q=>q
  rintro rfl
  rcases hc with rfl | hc
  ·rw [hfree] at e;cases e
  ·rw [hfree] at hc;cases hc
 rcases hx with hk | hk
 ·refine wpAny_storeName_local hk hn (fun h' hn' hs=>?_) hcls
  obtain ⟨oL,_,_,hoL,_⟩:=id hn
  refine h _ ⟨I.ok,I.os,I.bare,⟨fun b o e n hb hx=>?_,fun b o e n hb hx=>?_,I.base.free,fun b o e hx=>?_,I.base.qw,I.base.nU,I.base.qt⟩,⟨_,hn',fun j y v' e1 e2 e3=>?_⟩,fun y c e=>?_,I.free,I.iA,fun p hp=>?_,tracked ⟨oL,hoL,I.free⟩ hs,by simpa using I.len⟩ ⟨_,hs,.inl rfl⟩
  ·exact (hs.2 b (Nat.ne_of_lt (Nat.lt_of_lt_of_le (Heap.lt_size e) I.ok.above))).trans (I.base.keep b o e n hb hx)
  ·obtain ⟨sl,e1⟩:=I.base.slot b o e n hb hx
   exact ⟨sl,(hs.2 b (Nat.ne_of_lt (Nat.lt_of_lt_of_le (Heap.lt_size e) I.ok.above))).trans e1⟩
  ·obtain ⟨o',e1⟩:=I.base.there b o e hx
   exact ⟨o',(hs.2 b (Nat.ne_of_lt (Nat.lt_of_lt_of_le (Heap.lt_size e) I.ok.above))).trans e1⟩
  ·by_cases hj:j=i
   ·subst hj
    rw [hi] at e1;cases e1
    rw [List.getElem?_set_self hiσ] at e2
    cases e2
    exact ⟨u,r,.inl ⟨hk,by simp⟩⟩
   ·rw [List.getElem?_set_ne (Ne.symm hj)] at e2
    obtain ⟨u',r',q⟩:=hl j y v' e1 e2 e3
    refine ⟨u',r',?_⟩
    rcases q with ⟨k,e⟩ | ⟨k,c,e,z⟩
    ·refine .inl ⟨k,?_⟩
     have:y ≠ x:=fun e=>hj (uZ hN e1 (e ▸ hi))
     simp [this,e]
    ·exact .inr ⟨k,c,e,z.sameBut hs (cne y c e)⟩
  ·obtain ⟨w',z⟩:=I.cell y c e
   exact ⟨w',z.sameBut hs (cne y c e)⟩
  ·obtain ⟨e,n,ne,nf,d⟩:=I.pin p hp
   exact ⟨(hs.2 p.1 ne).trans e,n,ne,nf,d⟩
 ·have hfn:X.fn x=true:=by
   rcases hf with z | z
   ·exact z
   ·rw [z] at hk;cases hk
  obtain ⟨c,hc⟩:=I.ok.has x (.inl hk)
  obtain ⟨w',z⟩:=I.cell x c hc
  refine wpAny_storeName_cell I.ok.kind hk hc z (fun h' hc' hs=>?_)
  obtain ⟨oc,hoc,hocd⟩:=id z
  refine h { s with heap:=h' } ⟨I.ok,I.os,I.bare,⟨fun b o e n hb hx=>?_,fun b o e n hb hx=>?_,I.base.free,fun b o e hx=>?_,I.base.qw,I.base.nU,I.base.qt⟩,⟨m,hn.sameBut hs (Ne.symm (cne x c hc)),fun j y v' e1 e2 e3=>?_⟩,fun y c' e=>?_,I.free,I.iA,fun p hp=>?_,tracked ⟨oc,hoc,I.iA x c hc⟩ hs,by simpa using I.len⟩ ⟨c,hs,.inr hc⟩
  ·exact (hs.2 b (Nat.ne_of_lt (Nat.lt_of_lt_of_le (Heap.lt_size e) (I.ok.cab x c hfn hc)))).trans (I.base.keep b o e n hb hx)
  ·obtain ⟨sl,e1⟩:=I.base.slot b o e n hb hx
   exact ⟨sl,(hs.2 b (Nat.ne_of_lt (Nat.lt_of_lt_of_le (Heap.lt_size e) (I.ok.cab x c hfn hc)))).trans e1⟩
  ·obtain ⟨o',e1⟩:=I.base.there b o e hx
   exact ⟨o',(hs.2 b (Nat.ne_of_lt (Nat.lt_of_lt_of_le (Heap.lt_size e) (I.ok.cab x c hfn hc)))).trans e1⟩
  ·by_cases hj:j=i
   ·subst hj
    rw [hi] at e1;cases e1
    rw [List.getElem?_set_self hiσ] at e2
    cases e2
    exact ⟨u,r,.inr ⟨.inl hk,c,hc,hc'⟩⟩
   ·rw [List.getElem?_set_ne (Ne.symm hj)] at e2
    obtain ⟨u',r',q⟩:=hl j y v' e1 e2 e3
    refine ⟨u',r',?_⟩
    rcases q with q | ⟨k,c',e,z'⟩
    ·exact .inl q
    ·refine .inr ⟨k,c',e,z'.sameBut hs ?_⟩
     rintro rfl
     exact hj (uZ hN e1 (I.ok.inj _ _ _ e hc ▸ hi))
  ·by_cases hcc:c'=c
   ·subst hcc;exact ⟨_,hc'⟩
   ·obtain ⟨w2,z2⟩:=I.cell y c' e
    exact ⟨w2,z2.sameBut hs hcc⟩
  ·obtain ⟨e,n,ne,nf,d⟩:=I.pin p hp
   refine ⟨(hs.2 p.1 ?_).trans e,n,ne,nf,d⟩
   intro q
   rw [q,hoc] at e
   have q':oc=p.2:=Option.some.inj e
   exact d w' (by rw [<- q'];exact hocd)
theorem qo {M:Model}{A:Around}{E:Value->Shared->Prop}{i:Nat}{x:Str}{v:V}{u:Value}{Q:Unit->Shared->Prop} (I:Inv X pins σ H s) (hN:X.N.Nodup) (hi:X.N[i]?=some x) (hx:Loc X.env.scope x) (r:RelV v u)
  (h:∀s',Inv X pins (σ.set i (some v)) H s'->Q () s') (hf:X.fn x=true \/ X.env.scope.names.lookup x=some .local:=by first | exact .inl rfl | exact .inr rfl | assumption):wpAny M A (storeName X.env x u) Q E s :=
 ye I hN hi hx r (fun s' I' _=>h s' I') hf
theorem Inv.Eg {s':Shared}{ch:List Addr} (I:Inv X pins σ H s) (ho:s'.os=s.os) (u:Un (frs X.stack) ch H H' s.heap s'.heap) (hok:HOk X.prog X.w H' s'.heap) (hg:AllBare s'.gens)
  (hch:∀b ∈ ch,(b ∈ X.ex \/ X.s₀.heap.objs.size <= b)/\b ≠ X.env.locals/\(∀x c,X.env.cells.lookup x=some c->c ≠ b)/\∀p ∈ X.pn ++ pins,p.1 ≠ b):Inv X pins σ H' s':=by
 obtain ⟨h',g',d',t',o'⟩:=s'
 have e:o'=s.os:=ho
 subst e
 exact I.call (g':=g') (t':=t') (d':=d') u hok hg hch
end
abbrev XK:=Value->Option Addr->Hp->Prop
abbrev St:=List (Option V)
abbrev VK:=V->Hp->Prop
abbrev TE:=St->Hp->VK->Prop
abbrev TT:=St->Hp->(Bool->Hp->Prop)->Prop
abbrev TA:=St->Hp->(List V->Hp->Prop)->Prop
structure Ends where
 nx:St->Hp->Prop
 rt:VK
 bk:St->Hp->Prop:=fun _ _=>False
 ct:St->Hp->Prop:=fun _ _=>False
abbrev TS:=Ends->St->Hp->Prop
def EP (X:Cx) (pins:List (Addr × Obj)) (σ:St) (Q:VK) (u:Value) (s':Shared):Prop:=∃v H',Inv X pins σ H' s'/\RelV v u/\Q v H'
def TP (X:Cx) (pins:List (Addr × Obj)) (σ:St) (Q:Bool->Hp->Prop) (b:Bool) (s':Shared):Prop:=∃H',Inv X pins σ H' s'/\Q b H'
def AP (X:Cx) (pins:List (Addr × Obj)) (σ:St) (Q:List V->Hp->Prop) (us:List Value) (s':Shared):Prop:=∃vs H',Inv X pins σ H' s'/\Vals vs us/\Q vs H'
def SP (X:Cx) (pins:List (Addr × Obj)) (D:Ends) (f:Flow) (s':Shared):Prop :=
 match f with
 | .next=>∃σ' H',Inv X pins σ' H' s'/\D.nx σ' H'
 | .brk=>∃σ' H',Inv X pins σ' H' s'/\D.bk σ' H'
 | .cont=>∃σ' H',Inv X pins σ' H' s'/\D.ct σ' H'
 | .ret u=>∃v σ' H',Inv X pins σ' H' s'/\RelV v u/\D.rt v H'
def PE (X:Cx) (e:Expr) (t:TE):Prop :=
 ∀(pins:List (Addr × Obj)) (s:Shared) (σ:St) (H:Hp) (Q:VK),Inv X pins σ H s->t σ H Q->wpAny (model X.prog X.w) X.A (eval e X.env) (EP X pins σ Q) X.xe s
def PT (X:Cx) (e:Expr) (t:TT):Prop :=
 ∀(pins:List (Addr × Obj)) (s:Shared) (σ:St) (H:Hp) (Q:Bool->Hp->Prop),Inv X pins σ H s->t σ H Q->wpAny (model X.prog X.w) X.A (isTrue e X.env (eval e X.env)) (TP X pins σ Q) X.xe s
def PW (X:Cx) (e:Expr) (t:TT):Prop :=
 ∀(whole:Sem Value) (pins:List (Addr × Obj)) (s:Shared) (σ:St) (H:Hp) (Q:Bool->Hp->Prop),Inv X pins σ H s->t σ H Q->wpAny (model X.prog X.w) X.A (isTrue e X.env whole) (TP X pins σ Q) X.xe s
theorem PW.pt {X:Cx}{e:Expr}{t:TT} (h:PW X e t):PT X e t:=h _
def PA (X:Cx) (es:List Expr) (t:TA):Prop :=
 ∀(pos:Pos) (pins:List (Addr × Obj)) (s:Shared) (σ:St) (H:Hp) (Q:List V->Hp->Prop),Inv X pins σ H s->t σ H Q->wpAny (model X.prog X.w) X.A (spliced (backTo pos (starEach es X.env))) (AP X pins σ Q) X.xe s
def PS (X:Cx) (st:Stmt) (t:TS):Prop :=
 ∀(pins:List (Addr × Obj)) (s:Shared) (σ:St) (H:Hp) (D:Ends),Inv X pins σ H s->t D σ H->wpAny (model X.prog X.w) X.A (exec st X.env) (SP X pins D) X.xe s
def PSs (X:Cx) (st:List Stmt) (t:TS):Prop :=
 ∀(pins:List (Addr × Obj)) (s:Shared) (σ:St) (H:Hp) (D:Ends),Inv X pins σ H s->t D σ H->wpAny (model X.prog X.w) X.A (execs st X.env) (SP X pins D) X.xe s
theorem thn {α:Type}{t:Sem α}{Q Q':α->Shared->Prop}{M:Model}{A:Around}{E:Value->Shared->Prop}{s:Shared} (h:wpAny M A t Q E s) (hQ:∀a s,Q a s->Q' a s):wpAny M A t Q' E s:=wpAny_mono h hQ fun _ _ x=>x
end L2
namespace L2
open PySem PySem.Spec PyProof.Rows
section
variable {X:Cx}
def FA (i:Nat):TE:=fun σ H Q=>∃v,σ[i]?=some (some v)/\Q v H
def tC (v:V):TE:=fun _ H Q=>Q v H
theorem Cs {i:Nat}{x:Str}{pos:Pos} (hN:X.N[i]?=some x) (hv:Vis X.env.scope x) (hd:(x == ("__debug__":Str))=false:=by decide) (hcd:(x == ("__classdict__":Str))=false:=by decide):PE X (.Name x pos) (FA i):=by
 intro pins s σ H Q I h
 obtain ⟨v,e,h⟩:=h
 obtain ⟨m,hn,hl⟩:=I.loc
 obtain ⟨u,r,l⟩:=hl i x v hN e hv
 have fin:EP X pins σ Q u s:=⟨v,H,I,r,h⟩
 rcases l with ⟨hk,hm⟩ | ⟨hk,c,hc,hcell⟩
 ·exact wpAny_Name (wpAny_loadName_local I.ok.kind hk hn hm fin) hd
 ·rcases hk with hk | hk
  ·exact wpAny_Name (wpAny_loadName_cell I.ok.kind hk hc hcell fin) hd
  ·exact wpAny_Name (wpAny_loadName_free I.ok.kind hk hc hcell fin hcd) hd
theorem ao {i j pos}:PE X (.Constant (.int i) j pos) (tC (.int i)):=fun _ _ _ H _ I h=>wpAny_Constant_int ⟨.int i,H,I.tok _,⟨_,rfl⟩,h⟩
theorem eV {b j pos}:PE X (.Constant (.bool b) j pos) (tC (.bl b)):=fun _ _ _ H _ I h=>Constant_bool ⟨.bl b,H,I,rfl,h⟩
theorem dH {j pos}:PE X (.Constant .none j pos) (tC .non):=fun _ _ _ H _ I h=>Constant_none ⟨.non,H,I,rfl,h⟩
theorem br {x j pos}:PE X (.Constant (.str x) j pos) (tC (.str x)):=fun _ _ _ H _ I h=>Calls.Constant_str ⟨.str x,H,I.tok _,⟨_,rfl⟩,h⟩
def Gl (X:Cx) (x:Str):Prop:=X.env.kindOf x=some .globalImplicit
theorem oN {E:Value->Shared->Prop}{pins:List (Addr × Obj)}{s:Shared}{σ:St}{H:Hp}{x:Str}{u:Value}{pos:Pos}{Q:Value->Shared->Prop} (I:Inv X pins σ H s) (hg:Gl X x) (hm:X.mg x=some u) (h:Q u s)
  (hd:(x == ("__debug__":Str))=false:=by decide):wpAny (model X.prog X.w) X.A (eval (.Name x pos) X.env) Q E s :=
 Calls.Name_function_global I.ok.kind hg (Calls.loadGlobal_global (by rw [I.ok.glob];exact I.mod.glob.keeps I.bk) hm h) hd
theorem jo {E:Value->Shared->Prop}{pins:List (Addr × Obj)}{s:Shared}{σ:St}{H:Hp}{x:Str}{u:Value}{pos:Pos}{Q:Value->Shared->Prop} (I:Inv X pins σ H s) (hg:Gl X x) (hm:X.mg x=none) (hv:bootBuiltins x=some u) (h:Q u s)
  (hn:x ≠ "__name__":=by decide) (hd:(x == ("__debug__":Str))=false:=by decide):wpAny (model X.prog X.w) X.A (eval (.Name x pos) X.env) Q E s:=by
 obtain ⟨mb,h1,h2⟩:=I.mod.blt
 exact Calls.Name_function_global I.ok.kind hg (Calls.loadGlobal_builtin (by rw [I.ok.glob];exact I.mod.glob.keeps I.bk) hm (by rw [I.ok.blt];exact h1.keeps I.bk) ((h2 x hn).trans hv) h) hd
theorem xM {x:Str}{v:V}{u:Value}{pos:Pos} (hg:Gl X x) (hm:X.mg x=some u) (r:RelV v u) (hd:(x == ("__debug__":Str))=false:=by decide):PE X (.Name x pos) (tC v) :=
 fun _ _ _ H _ I h=>oN I hg hm ⟨v,H,I,r,h⟩ hd
theorem mz {x:Str}{v:V}{u:Value}{pos:Pos} (hg:Gl X x) (hm:X.mg x=none) (hv:bootBuiltins x=some u) (r:RelV v u) (hn:x ≠ "__name__":=by decide) (hd:(x == ("__debug__":Str))=false:=by decide):PE X (.Name x pos) (tC v) :=
 fun _ _ _ H _ I h=>jo I hg hm hv ⟨v,H,I,r,h⟩ hn hd
variable {a b:Expr}{ta tb:TE}{pos:Pos}
variable {tA tB':TT}{rest:List Expr}
def FV (t u:TT):TT:=fun σ H Q=>t σ H fun c H1=>if c=true then u σ H1 Q else Q false H1
def tOr (t u:TT):TT:=fun σ H Q=>t σ H fun c H1=>if c=true then Q true H1 else u σ H1 Q
def F0 (t:TT):TT:=fun σ H Q=>t σ H fun c H1=>Q (!c) H1
theorem pw_and1 (ha:PT X a tA):PW X (.BoolOp .And [a] pos) tA:=by
 intro wh pins s σ H Q I h
 refine isTrue_and (thn (ha pins s σ H Q I h) fun c s1 e=>?_)
 cases c with
 | true=>exact isTrue_and_nil e
 | false=>exact e
theorem pw_or1 (ha:PT X a tA):PW X (.BoolOp .Or [a] pos) tA:=by
 intro wh pins s σ H Q I h
 refine isTrue_or (thn (ha pins s σ H Q I h) fun c s1 e=>?_)
 cases c with
 | false=>exact isTrue_or_nil e
 | true=>exact e
theorem pw_and (ha:PT X a tA) (hb:PW X (.BoolOp .And (b :: rest) pos) tB'):PW X (.BoolOp .And (a :: b :: rest) pos) (FV tA tB'):=by
 intro wh pins s σ H Q I h
 refine isTrue_and (thn (ha pins s σ H _ I h) fun c s1 ⟨H1,I1,q1⟩=>?_)
 cases c with
 | true=>exact hb wh pins s1 σ H1 Q I1 q1
 | false=>exact ⟨H1,I1,q1⟩
theorem pw_or (ha:PT X a tA) (hb:PW X (.BoolOp .Or (b :: rest) pos) tB'):PW X (.BoolOp .Or (a :: b :: rest) pos) (tOr tA tB'):=by
 intro wh pins s σ H Q I h
 refine isTrue_or (thn (ha pins s σ H _ I h) fun c s1 ⟨H1,I1,q1⟩=>?_)
 cases c with
 | true=>exact ⟨H1,I1,q1⟩
 | false=>exact hb wh pins s1 σ H1 Q I1 q1
theorem dO (ha:PT X a tA):PT X (.UnaryOp .Not a pos) (F0 tA):=by
 intro pins s σ H Q I h
 exact isTrue_not (ha pins s σ H (fun c H1=>Q (!c) H1) I h)
def En (ta tb:TE):TE:=fun σ H Q=>ta σ H fun x H1=>∃c,x=.bl c/\if c=true then tb σ H1 Q else Q (.bl false) H1
def Fy (ta tb:TE):TE:=fun σ H Q=>ta σ H fun x H1=>∃c,x=.bl c/\if c=true then Q (.bl true) H1 else tb σ H1 Q
theorem iT {op}{t:TE} (h:PE X a t):PE X (.BoolOp op [a] pos) t:=fun pins s σ H Q I hw=>BoolOp_one (h pins s σ H Q I hw)
theorem k8 (ha:PE X a ta) (hb:PE X (.BoolOp .And (b :: rest) pos) tb):PE X (.BoolOp .And (a :: b :: rest) pos) (En ta tb):=by
 intro pins s σ H Q I h
 refine BoolOp_and (thn (ha pins s σ H _ I h) fun v s1 ⟨x,H1,I1,r1,q1⟩=>?_)
 obtain ⟨c,rfl,q1⟩:=q1
 cases r1
 refine wpAny_truthy_bool ?_
 cases c with
 | true=>exact hb pins s1 σ H1 Q I1 q1
 | false=>exact ⟨.bl false,H1,I1,rfl,q1⟩
theorem xq (ha:PE X a ta) (hb:PE X (.BoolOp .Or (b :: rest) pos) tb):PE X (.BoolOp .Or (a :: b :: rest) pos) (Fy ta tb):=by
 intro pins s σ H Q I h
 refine BoolOp_or (thn (ha pins s σ H _ I h) fun v s1 ⟨x,H1,I1,r1,q1⟩=>?_)
 obtain ⟨c,rfl,q1⟩:=q1
 cases r1
 refine wpAny_truthy_bool ?_
 cases c with
 | false=>exact hb pins s1 σ H1 Q I1 q1
 | true=>exact ⟨.bl true,H1,I1,rfl,q1⟩
def tIf (t:TT) (ta tb:TE):TE:=fun σ H Q=>t σ H fun c H1=>if c=true then ta σ H1 Q else tb σ H1 Q
theorem zV {c:Expr} (hc:PT X c tA) (ha:PE X a ta) (hb:PE X b tb):PE X (.IfExp c a b pos) (tIf tA ta tb):=by
 intro pins s σ H Q I h
 refine wpAny_IfExp (thn (hc pins s σ H _ I h) fun d s1 ⟨H1,I1,q1⟩=>?_)
 cases d with
 | true=>exact ha pins s1 σ H1 Q I1 q1
 | false=>exact hb pins s1 σ H1 Q I1 q1
end
end L2
namespace L2
open PySem PySem.Spec PyProof.Rows
def SqL (K:W.Frag) (H:Hp) (a:Addr) (xs:List V):Prop :=
 Rd H a (.lst xs) \/
  ∃(o:Obj) (its:Array Value) (n:Nat),K.lookup a=some o/\o.cls=.type "list"/\o.dict=none/\o.data=.seq its n/\its.size <= sizeLine/\Vals xs its.toList
def SqT (K:W.Frag) (H:Hp) (a:Addr) (xs:List V):Prop :=
 Rd H a (.tup xs) \/
  ∃(o:Obj) (its:Array Value) (n:Nat),K.lookup a=some o/\o.cls=.type "tuple"/\o.data=.seq its n/\its.size <= sizeLine/\Vals xs its.toList
def Fh:Value->Option V
 | .none=>some .non
 | .bool b=>some (.bl b)
 | .int i _=>some (.int i)
 | .str x _=>some (.str x)
 | .bytes b _=>some (.byt b)
 | .float b _=>some (.flt b)
 | .ref a=>some (.ref a)
 | .type n=>some (.ty n)
 | _=>none
theorem RelV.abs {x:V}{u:Value} (r:RelV x u):Fh u=some x:=by
 cases x with
 | non=>cases r;rfl
 | bl _=>cases r;rfl
 | int _=>obtain ⟨t,rfl⟩:=r;rfl
 | str _=>obtain ⟨t,rfl⟩:=r;rfl
 | byt _=>obtain ⟨t,rfl⟩:=r;rfl
 | flt _=>obtain ⟨t,rfl⟩:=r;rfl
 | ref _=>cases r;rfl
 | ty _=>cases r;rfl
theorem RelV.inj {x y:V}{u:Value} (r:RelV x u) (q:RelV y u):x=y:=Option.some.inj (r.abs.symm.trans q.abs)
theorem Vals.inj:∀{xs ys:List V}{us:List Value},Vals xs us->Vals ys us->xs=ys
 | _,_,_,.nil,.nil=>rfl
 | _,_,_,.cons r t,.cons r' t'=>by rw [r.inj r',Vals.inj t t']
section
variable {X:Cx}{pins:List (Addr × Obj)}{σ:St}{H:Hp}{s:Shared}{a:Addr}{xs ys:List V}
theorem SqL.of {K:W.Frag} (h:H a=some (.lst xs)):SqL K H a xs:=.inl (.inl h)
theorem SqT.of {K:W.Frag} (h:H a=some (.tup xs)):SqT K H a xs:=.inl (.inl h)
theorem Inv.list (I:Inv X pins σ H s) (h:SqL X.K H a xs):∃its:List Value,Vals xs its/\PlainL s.heap a its.toArray/\xs.length <= sizeLine:=by
 rcases h with h | ⟨o,its,n,hk,hc,hd,hs,hz,r⟩
 ·obtain ⟨z,its,n,r,e⟩:=h.ok I.hok
  exact ⟨its,r,⟨_,n,e,rfl,rfl,rfl⟩,z⟩
 ·refine ⟨its.toList,r,⟨o,n,I.kIn a o hk,hc,hd,by simpa using hs⟩,?_⟩
  have e:=r.length
  simp only [Array.length_toList] at e
  omega
theorem Inv.tuple (I:Inv X pins σ H s) (h:SqT X.K H a xs):∃its:List Value,Vals xs its/\IsTup s.heap a its.toArray/\xs.length <= sizeLine:=by
 rcases h with h | ⟨o,its,n,hk,hc,hs,hz,r⟩
 ·obtain ⟨z,its,r,p⟩:=h.ok I.hok
  exact ⟨its,r,p,z⟩
 ·refine ⟨its.toList,r,⟨o,I.kIn a o hk,hc,n,by simpa using hs⟩,?_⟩
  have e:=r.length
  simp only [Array.length_toList] at e
  omega
theorem Inv.lQ (I:Inv X pins σ H s) (h:SqL X.K H a xs) (h':SqL X.K H a ys):xs=ys:=by
 obtain ⟨its,r,⟨o,n,e,_,_,d⟩,_⟩:=I.list h
 obtain ⟨its',r',⟨o',n',e',_,_,d'⟩,_⟩:=I.list h'
 rw [e] at e';cases e'
 rw [d] at d'
 injection d' with d1 _
 have:its=its':=by simpa using congrArg Array.toList d1
 subst this
 exact r.inj r'
theorem Inv.rA (I:Inv X pins σ H s) (h:SqT X.K H a xs) (h':SqT X.K H a ys):xs=ys:=by
 obtain ⟨its,r,⟨o,e,_,n,d⟩,_⟩:=I.tuple h
 obtain ⟨its',r',⟨o',e',_,n',d'⟩,_⟩:=I.tuple h'
 rw [e] at e';cases e'
 rw [d] at d'
 injection d' with d1 _
 have:its=its':=by simpa using congrArg Array.toList d1
 subst this
 exact r.inj r'
end
abbrev Cx.qB (X:Cx) (E:Value->Shared->Prop):Cx:={ X with xe:=E }
abbrev Cx.nox (X:Cx):Cx:=X.qB fun _ _=>False
theorem Cx.Ok.qB {X:Cx} (ok:X.Ok) (E:Value->Shared->Prop):(X.qB E).Ok :=
 ⟨ok.mod,ok.kind,ok.glob,ok.blt,ok.above,ok.inj,ok.has,ok.cab,ok.hd,ok.frames,ok.stk,ok.exf,ok.bs,ok.bsz,ok.zL,ok.zt,ok.nQ,ok.frf⟩
theorem Cx.Ok.j3 {X:Cx}{E:Value->Shared->Prop} (ok:(X.qB E).Ok):X.Ok :=
 ⟨ok.mod,ok.kind,ok.glob,ok.blt,ok.above,ok.inj,ok.has,ok.cab,ok.hd,ok.frames,ok.stk,ok.exf,ok.bs,ok.bsz,ok.zL,ok.zt,ok.nQ,ok.frf⟩
section
variable {X:Cx}{pins:List (Addr × Obj)}{σ:St}{H:Hp}{s:Shared}{E:Value->Shared->Prop}
theorem Inv.qB (I:Inv X pins σ H s) (E:Value->Shared->Prop):Inv (X.qB E) pins σ H s:=⟨I.ok.qB E,I.os,I.bare,I.base,I.loc,I.cell,I.free,I.iA,I.pin,I.hok,I.len⟩
theorem Inv.j3 (I:Inv (X.qB E) pins σ H s):Inv X pins σ H s:=⟨I.ok.j3,I.os,I.bare,I.base,I.loc,I.cell,I.free,I.iA,I.pin,I.hok,I.len⟩
theorem SP.j3 {D:Ends}{f:Flow}{s':Shared} (h:SP (X.qB E) pins D f s'):SP X pins D f s':=by
 cases f with
 | next=>obtain ⟨σ',H',I,q⟩:=h;exact ⟨σ',H',I.j3,q⟩
 | brk=>obtain ⟨σ',H',I,q⟩:=h;exact ⟨σ',H',I.j3,q⟩
 | cont=>obtain ⟨σ',H',I,q⟩:=h;exact ⟨σ',H',I.j3,q⟩
 | ret u=>obtain ⟨v,σ',H',I,r,q⟩:=h;exact ⟨v,σ',H',I.j3,r,q⟩
theorem PSs.nox {st:List Stmt}{t:TS} (h:PSs X.nox st t):PSs X st t:=fun pins s σ H D I hw =>
 wpAny_mono (h pins s σ H D (I.qB _) hw) (fun _ _ q=>q.j3) fun _ _ z=>False.elim z
end
section
variable {X:Cx}{st:Stmt}{rest:List Stmt}{t u:TS}{e:Expr}{te:TE}{pos:Pos}
def D9:TS:=fun D σ H=>D.nx σ H
def Eb (t u:TS):TS:=fun D σ H=>t { D with nx:=u D } σ H
theorem aE:PSs X [] D9:=fun _ _ σ H _ I h=>wpAny_execs_nil ⟨σ,H,I,h⟩
theorem af (h1:PS X st t) (h2:PSs X rest u):PSs X (st :: rest) (Eb t u):=by
 intro pins s σ H D I h
 refine wpAny_execs_cons (thn (h1 pins s σ H { D with nx:=u D } I h) fun f s1 q=>?_)
 cases f with
 | next =>
  obtain ⟨σ',H',I',q⟩:=q
  exact h2 pins s1 σ' H' D I' q
 | ret v=>exact q
 | brk=>exact q
 | cont=>exact q
theorem ah (h1:PS X st t):PSs X [st] t:=by
 intro pins s σ H D I h
 refine wpAny_execs_cons (thn (h1 pins s σ H D I h) fun f s1 q=>?_)
 cases f with
 | next=>exact wpAny_execs_nil q
 | ret v=>exact q
 | brk=>exact q
 | cont=>exact q
theorem Inv.quiet {pins:List (Addr × Obj)}{σ:St}{H:Hp}{s:Shared} (I:Inv X pins σ H s):interactive X.env=false:=by simp [interactive,I.ok.kind]
def Es (te:TE):TS:=fun D σ H=>te σ H fun _ H1=>D.nx σ H1
theorem bo (he:PE X e te) (hs:swapsWith e none pos.line X.env=pure false:=by rfl):PS X (.Expr e pos) (Es te):=by
 intro pins s σ H D I h
 exact wpAny_Expr_any (thn (he pins s σ H _ I h) fun v s1 ⟨x,H1,I1,r1,q1⟩=>⟨σ,H1,I1,q1⟩) I.quiet hs
def FI (te:TE):TS:=fun D σ H=>te σ H D.rt
theorem ax (he:PE X e te):PS X (.Return (some e) pos) (FI te):=by
 intro pins s σ H D I h
 exact wpAny_Return_some (thn (he pins s σ H _ I h) fun v s1 ⟨x,H1,I1,r1,q1⟩=>⟨x,σ,H1,I1,r1,q1⟩)
def Fn (c:TT) (t u:TS):TS:=fun D σ H=>c σ H fun b H1=>if b=true then t D σ H1 else u D σ H1
theorem aV {c:Expr}{a b:List Stmt}{tc:TT} (hc:PT X c tc) (ha:PSs X a t) (hb:PSs X b u):PS X (.If c a b pos) (Fn tc t u):=by
 intro pins s σ H D I h
 refine wpAny_If (thn (hc pins s σ H _ I h) fun d s1 ⟨H1,I1,q1⟩=>?_)
 cases d with
 | true=>exact ha pins s1 σ H1 D I1 q1
 | false=>exact hb pins s1 σ H1 D I1 q1
end
abbrev TG:=V->St->Hp->(St->Hp->Prop)->Prop
abbrev TGs:=List V->St->Hp->(St->Hp->Prop)->Prop
def PG (X:Cx) (target:Expr) (t:TG):Prop :=
 ∀(pins:List (Addr × Obj)) (s:Shared) (σ:St) (H:Hp) (v:V) (u:Value) (Q:St->Hp->Prop),Inv X pins σ H s->RelV v u->t v σ H Q ->
  wpAny (model X.prog X.w) X.A (assign target X.env u) (fun _ s'=>∃σ' H',Inv X pins σ' H' s'/\Q σ' H') X.xe s
def PGs (X:Cx) (ts:List Expr) (t:TGs):Prop :=
 ∀(pins:List (Addr × Obj)) (s:Shared) (σ:St) (H:Hp) (vs:List V) (us:List Value) (Q:St->Hp->Prop),Inv X pins σ H s->Vals vs us->t vs σ H Q ->
  wpAny (model X.prog X.w) X.A (assignInOrder ((assignEach ts X.env).map (·.2)) us) (fun _ s'=>∃σ' H',Inv X pins σ' H' s'/\Q σ' H') X.xe s
abbrev BB:=V->V->V->Hp->(Hp->Prop)->Prop
def Ac (X:Cx) (t:BB):Prop :=
 ∀(pins:List (Addr × Obj)) (s:Shared) (σ:St) (H:Hp) (o i v:V) (ov iv u:Value) (Q:Hp->Prop),Inv X pins σ H s->RelV o ov->RelV i iv->RelV v u->t o i v H Q ->
  wpAny (model X.prog X.w) X.A (setItem ov iv u) (fun _ s'=>∃H',Inv X pins σ H' s'/\Q H') X.xe s
abbrev TIp:=V->V->Hp->VK->Prop
def PIp (X:Cx) (op:Operator) (t:TIp):Prop :=
 ∀(pins:List (Addr × Obj)) (s:Shared) (σ:St) (H:Hp) (x y:V) (v u:Value) (Q:VK),Inv X pins σ H s->RelV x v->RelV y u->t x y H Q ->
  wpAny (model X.prog X.w) X.A (inplaceOp op v u) (EP X pins σ Q) X.xe s
section
variable {X:Cx}{pos:Pos}
def kY (i:Nat):TG:=fun v σ H Q=>Q (σ.set i (some v)) H
theorem xg {i:Nat}{x:Str} (hN:X.N.Nodup) (hi:X.N[i]?=some x) (hx:Loc X.env.scope x) (hf:X.fn x=true \/ X.env.scope.names.lookup x=some .local:=by first | exact .inl rfl | exact .inr rfl | assumption):PG X (.Name x pos) (kY i):=by
 intro pins s σ H v u Q I r h
 exact wpAny_assign_Name (qo I hN hi hx r (fun s' I'=>⟨_,H,I',h⟩) hf)
def DP:TGs:=fun vs σ H Q=>vs=[]/\Q σ H
def uw (t:TG) (u:TGs):TGs:=fun vs σ H Q=>∃v r,vs=v :: r/\t v σ H fun σ' H'=>u r σ' H' Q
theorem eO:PGs X [] DP:=by
 intro pins s σ H vs us Q I r h
 obtain ⟨e,h⟩:=h
 subst e
 cases r
 exact assignInOrder_nil ⟨σ,H,I,h⟩
theorem bc {e:Expr}{es:List Expr}{t:TG}{u:TGs} (h1:PG X e t) (h2:PGs X es u)
  (hs:(assignEach (e :: es) X.env).map (·.2)=assign e X.env :: (assignEach es X.env).map (·.2):=by rfl):PGs X (e :: es) (uw t u):=by
 intro pins s σ H vs us Q I r h
 obtain ⟨v,vr,e1,h⟩:=h
 subst e1
 cases r with
 | cons r rr =>
  rw [hs]
  refine assignInOrder_cons (thn (h1 pins s σ H _ _ _ I r h) fun _ s1 ⟨σ1,H1,I1,q1⟩=>?_)
  exact h2 pins s1 σ1 H1 _ _ Q I1 rr q1
inductive EW (K:W.Frag) (n:Nat) (v:V) (H:Hp) (R:List V->Prop):Prop
 | mk (a:Addr) (xs:List V) (h0:v=.ref a) (h1:SqT K H a xs) (h2:xs.length=n) (q:R xs):EW K n v H R
def DD (K:W.Frag) (n:Nat) (t:TGs):TG:=fun v σ H Q=>EW K n v H (fun xs=>t xs σ H Q)
theorem gS {es:List Expr}{k:Nat}{t:TGs}{n:Nat} (hc:X.calm=true) (h:PGs X es t)
  (hn:(assignEach es X.env).length=n:=by rfl) (hst:(assignEach es X.env).findIdx? (·.1)=none:=by rfl):PG X (.Tuple es k pos) (DD X.K n t):=by
 intro pins s σ H v u Q I r hw
 obtain ⟨a,xs,e1,hq,hl,hw⟩:=hw
 subst e1
 cases r
 obtain ⟨its,rv,ht,hz⟩:=I.tuple hq
 refine assign_Tuple_tuple (I.ok.hd hc) ht (by simp [hn,<- hl,rv.length]) hst fun h' hx=>?_
 have I1:Inv X pins σ H { s with heap:=h' }:=I.kept (t':=s.toks) fun b o e=>hx b o (Nat.ne_of_lt (Heap.lt_size e)) e
 exact h pins _ σ H xs _ Q I1 (by simpa using rv) hw
def Fo (to ti:TE) (t:BB):TG:=fun v σ H Q=>to σ H fun o H1=>ti σ H1 fun i H2=>t o i v H2 fun H3=>Q σ H3
theorem rU {o i:Expr}{to ti:TE}{t:BB} (ho:PE X o to) (hi:PE X i ti) (hs:Ac X t)
  (ha:∀v,assign (.Subscript o i pos) X.env v=(do
   let ov <- holding [v] (eval o X.env)
   let iv <- holding [v,ov] (eval i X.env)
   standAt pos
   holding [v,ov,iv] (setItem ov iv v)
   release [v,ov,iv] []):=by intro _;rfl):PG X (.Subscript o i pos) (Fo to ti t):=by
 intro pins s σ H v u Q I r h
 rw [ha]
 refine wpAny_bind (wpAny_holding (thn (ho pins s σ H _ I h) fun ov s1 ⟨x,H1,I1,r1,q1⟩=>?_))
 refine wpAny_bind (wpAny_holding (thn (hi pins s1 σ H1 _ I1 q1) fun iv s2 ⟨y,H2,I2,r2,q2⟩=>?_))
 refine wpAny_bind (wpAny_standAt (wpAny_bind (wpAny_holding (thn (hs pins s2 σ H2 x y v ov iv u _ I2 r1 r2 r q2) fun _ s3 ⟨H3,I3,q3⟩=>?_))))
 exact wpAny_release ⟨σ,H3,I3,q3⟩
def BN (te:TE) (g:TG):TS:=fun D σ H=>te σ H fun x H1=>g x σ H1 D.nx
theorem lI {tg e:Expr}{te:TE}{g:TG} (he:PE X e te) (hg:PG X tg g) (hs:swapsWithSole [tg] e pos.line X.env=pure false:=by rfl) (hw:swappedStores [tg] e X.env=pure none:=by rfl)
  (h1:(assignEach [tg] X.env).map (·.2)=[assign tg X.env]:=by rfl):PS X (.Assign [tg] e pos) (BN te g):=by
 intro pins s σ H D I h
 refine wpAny_Assign_stores (thn (he pins s σ H _ I h) fun v s1 ⟨x,H1,I1,r1,q1⟩=>?_) hs hw
 rw [h1]
 exact thn (hg pins s1 σ H1 x v _ I1 r1 q1) fun _ s2 q=>q
theorem DJ {i:Nat}{x:Str}{e:Expr}{te:TE}{pos':Pos} (hN:X.N.Nodup) (hi:X.N[i]?=some x) (hx:Loc X.env.scope x) (he:PE X e te) (hs:swapsWith e (some (.Name x pos')) pos.line X.env=pure false:=by rfl) (hf:X.fn x=true \/ X.env.scope.names.lookup x=some .local:=by first | exact .inl rfl | exact .inr rfl | assumption) :
  PS X (.Assign [.Name x pos'] e pos) (BN te (kY i)):=by
 intro pins s σ H D I h
 refine wpAny_Assign_Name (thn (he pins s σ H _ I h) fun v s1 ⟨y,H1,I1,r1,q1⟩=>?_) hs
 exact qo I1 hN hi hx r1 (fun s2 I2=>⟨_,H1,I2,q1⟩) hf
def F2 (i:Nat) (te:TE) (ti:TIp):TS:=fun D σ H=>∃x,σ[i]?=some (some x)/\te σ H fun y H1=>ti x y H1 fun z H2=>D.nx (σ.set i (some z)) H2
theorem AJ {i:Nat}{x:Str}{e:Expr}{te:TE}{op:Operator}{ti:TIp}{pos':Pos} (hN:X.N.Nodup) (hi:X.N[i]?=some x) (hx:Loc X.env.scope x) (he:PE X e te) (ho:PIp X op ti) (hf:X.fn x=true \/ X.env.scope.names.lookup x=some .local:=by first | exact .inl rfl | exact .inr rfl | assumption) :
  PS X (.AugAssign (.Name x pos') op e pos) (F2 i te ti):=by
 intro pins s σ H D I h
 obtain ⟨v,e1,h⟩:=h
 obtain ⟨m,hn,hl⟩:=I.loc
 have vis:Vis X.env.scope x:=by rcases hx with k | k;exact .inl k;exact .inr (.inl k)
 obtain ⟨u,r,l⟩:=hl i x v hi e1 vis
 refine wpAny_AugAssign_Name ?_
 have go:wpAny (model X.prog X.w) X.A (eval e X.env) (fun w s₂=>wpAny (model X.prog X.w) X.A (inplaceOp op u w) (fun r s₃=>wpAny (model X.prog X.w) X.A (storeName X.env x r) (fun _=>SP X pins D .next) X.xe s₃) X.xe s₂) X.xe s:=by
  refine thn (he pins s σ H _ I h) fun w s1 ⟨y,H1,I1,r1,q1⟩=>?_
  refine thn (ho pins s1 σ H1 v y u w _ I1 r r1 q1) fun z s2 ⟨zv,H2,I2,r2,q2⟩=>?_
  exact qo I2 hN hi hx r2 (fun s3 I3=>⟨_,H2,I3,q2⟩) hf
 rcases l with ⟨hk,hm⟩ | ⟨hk,c,hc,hcell⟩
 ·exact wpAny_loadName_local I.ok.kind hk hn hm go
 ·rcases hk with hk | hk
  ·exact wpAny_loadName_cell I.ok.kind hk hc hcell go
  ·rcases hx with k | k
   ·have:X.env.scope.names.lookup x=some .free:=hk
    rw [k] at this;cases this
   ·have:X.env.scope.names.lookup x=some .free:=hk
    rw [k] at this;cases this
def ipI (f:Int->Int->Int):TIp:=fun x y H Q=>∃i j,x=.int i/\y=.int j/\Q (.int (f i j)) H
theorem zP:PIp X .Add (ipI fun i j=>i + j):=by
 intro pins s σ H x y v u Q I r1 r2 h
 obtain ⟨i,j,e1,e2,q⟩:=h
 subst e1;subst e2
 obtain ⟨t,rfl⟩:=r1
 obtain ⟨t',rfl⟩:=r2
 exact iadd_int ⟨.int _,H,I.tok _,⟨_,rfl⟩,q⟩
end
section
variable {X:Cx}{pos:Pos}
def Cy (c:TT) (tb:TS):TS:=fun D σ H=>∃W:Nat->St->Hp->Prop,(∃m,W m σ H)/\∀m σ H,W m σ H ->
 c σ H fun b H1=>if b=true then ∃N:St->Hp->Prop,(∀σ' H',N σ' H'->∃m',m' < m/\W m' σ' H')/\tb { D with nx:=N,ct:=N,bk:=D.nx } σ H1 else D.nx σ H1
theorem yR {c:Expr}{body:List Stmt}{tc:TT}{tb:TS} (hp:PassesOwn (model X.prog X.w) X.A X.env X.xe) (hc:PT X c tc) (hb:PSs X body tb):PS X (.While c body [] pos) (Cy tc tb):=by
 intro pins s σ H D I h
 obtain ⟨W,⟨m0,w0⟩,turn⟩:=h
 refine wpAny_While (codeAny_whileLoop (fun n s'=>∃σ' H',Inv X pins σ' H' s'/\W n σ' H') ?_ m0 ⟨σ,H,I,w0⟩)
 rintro n s1 ⟨σ1,H1,I1,w1⟩
 refine wpAny_passesOwn hp (thn (hc pins s1 σ1 H1 _ I1 (turn n σ1 H1 w1)) fun b s2 ⟨H2,I2,q2⟩=>?_)
 cases b with
 | true =>
  obtain ⟨N,hN,q2⟩:=q2
  rw [if_pos rfl]
  refine wpAny_passesOwn hp (thn (hb pins s2 σ1 H2 _ I2 q2) fun f s3 q3=>?_)
  cases f with
  | next =>
   obtain ⟨σ3,H3,I3,n3⟩:=q3
   obtain ⟨m',hm,w3⟩:=hN σ3 H3 n3
   exact ⟨m',hm,σ3,H3,I3,w3⟩
  | cont =>
   obtain ⟨σ3,H3,I3,n3⟩:=q3
   obtain ⟨m',hm,w3⟩:=hN σ3 H3 n3
   exact ⟨m',hm,σ3,H3,I3,w3⟩
  | brk=>exact q3
  | ret v=>exact q3
 | false =>
  rw [if_neg Bool.false_ne_true]
  exact wpAny_execs_nil ⟨σ1,H2,I2,q2⟩
end
structure It where
 go:Nat->Hp->Prop
 yld:Nat->Hp->V->Hp->Prop
 stop:Nat->Hp->Prop
def pX (X:Cx) (pins:List (Addr × Obj)) (H:Hp) (b:Addr):Prop :=
 H b=none/\b ≠ X.env.locals/\b ∉ X.fs/\(b ∈ X.ex \/ X.s₀.heap.objs.size <= b)/\(∀x c,X.env.cells.lookup x=some c->c ≠ b)/\∀p ∈ X.pn ++ pins,p.1 ≠ b
theorem Inv.qC {X:Cx}{pins:List (Addr × Obj)}{σ:St}{H H':Hp}{s:Shared}{b:Addr} (I:Inv X pins σ H s) (hb:s.heap.objs.size <= b) (hn:H' b=none):pX X pins H' b:=by
 refine ⟨hn,Nat.ne_of_gt (Nat.lt_of_lt_of_le I.lt hb),I.E6 hb,.inr (Nat.le_trans I.sz hb),fun x c e z=>?_,fun p hp z=>?_⟩
 ·obtain ⟨v,q⟩:=I.cell x c e
  exact absurd (Nat.lt_of_lt_of_le q.lt (by rw [z];exact hb)) (Nat.lt_irrefl _)
 ·exact absurd (Nat.lt_of_lt_of_le (Heap.lt_size (I.pin p hp).1) (by rw [z];exact hb)) (Nat.lt_irrefl _)
structure Turn (P:Program) (w:World) (K:W.Frag) (tg:Expr) (J:It) (fp:List Addr) (it:Addr) (tn:Nat->Heap->Prop):Prop where
 mem:it ∈ fp
 obj:∀i h,tn i h->∀b ∈ fp,∃o,h.get? b=some o/\∀v,o.data ≠ .cell v
 keep:∀i h h',tn i h->(∀b ∈ fp,∀o,h.get? b=some o->h'.get? b=some o)->tn i h'
 item:∀(X:Cx),X.prog=P->X.w=w->X.K=K->X.calm=true->∀(i:Nat) (pins:List (Addr × Obj)) (s:Shared) (σ:St) (H:Hp) (E:Value->Shared->Prop),Inv X pins σ H s->(∀b ∈ fp,pX X pins H b)->tn i s.heap->J.go i H ->
  wpAny (model P w) X.A (pyNext (.ref it)) (fun r s1=>∃u,r=some u /\
   wpAny (model P w) X.A (letOwnedTupleGo tg (.ref it) u) (fun _ s2=>∃x H',Inv X pins σ H' s2/\RelV x u/\J.yld i H x H'/\tn (i + 1) s2.heap/\∀b ∈ fp,H' b=none) E s1) E s
 done:∀(X:Cx),X.prog=P->X.w=w->X.K=K->X.calm=true->∀(i:Nat) (pins:List (Addr × Obj)) (s:Shared) (σ:St) (H:Hp) (E:Value->Shared->Prop),Inv X pins σ H s->(∀b ∈ fp,pX X pins H b)->tn i s.heap->J.stop i H ->
  wpAny (model P w) X.A (pyNext (.ref it)) (fun r s1=>r=none/\Inv X pins σ H s1) E s
 self:∀(A:Around) (i:Nat) (s:Shared) (Q:Value->Shared->Prop) (E:Value->Shared->Prop),tn i s.heap->Q (.ref it) s->wpAny (model P w) A (pyIter (.ref it)) Q E s
abbrev TI:=St->Hp->(It->Hp->Prop)->Prop
def PIE (X:Cx) (pins:List (Addr × Obj)) (σ:St) (tg:Expr) (R:It->Hp->Prop) (itv:Value) (s2:Shared):Prop :=
 ∃(it:Addr) (fp:List Addr) (tn:Nat->Heap->Prop) (J:It) (H':Hp),itv=.ref it/\Inv X pins σ H' s2/\Turn X.prog X.w X.K tg J fp it tn/\tn 0 s2.heap/\(∀b ∈ fp,pX X pins H' b)/\R J H'
def PI (X:Cx) (tg iter:Expr) (wi:TI):Prop :=
 ∀(pins:List (Addr × Obj)) (s:Shared) (σ:St) (H:Hp) (R:It->Hp->Prop),Inv X pins σ H s->wi σ H R ->
  wpAny (model X.prog X.w) X.A (eval iter X.env) (fun v s1=>wpAny (model X.prog X.w) X.A (pyIter v) (PIE X pins σ tg R) X.xe s1) X.xe s
theorem u3 {M:Model}{A:Around}{E:Value->Shared->Prop}{s:Shared}{tg:Expr}{it:Addr}{u:Value}{o:Obj}{n:String}{vs:Array Value}{Q:Unit->Shared->Prop} (ho:s.heap.get? it=some o) (hc:o.cls=.type n) (hd:o.data=.fields vs)
    (hn:["enumerate","zip","dict_itemiterator","dict_reverseitemiterator","odict_iterator","itertools.zip_longest","itertools.pairwise"].contains n=false) (hQ:Q () s):wpAny M A (letOwnedTupleGo tg (.ref it) u) Q E s:=by
  unfold letOwnedTupleGo
  cases tg <;> first
    | exact wpAny_pure hQ
    | (cases u <;> first
        | exact wpAny_pure hQ
        | (refine wpAny_bind (wpAny_load ho ?_)
           rw [hc,hd]
           show wpAny M A (if (["enumerate","zip","dict_itemiterator","dict_reverseitemiterator","odict_iterator","itertools.zip_longest","itertools.pairwise"].contains n && vs[0]? == some (rawInt _))=true then _ else _) Q E s
           rw [if_neg (by intro h;rw [hn,Bool.false_and] at h;cases h)]
           exact wpAny_pure hQ))
def Itl (K:W.Frag) (a:Addr):It :=
 ⟨fun i H=>∃xs x,SqL K H a xs/\xs[i]?=some x,fun i H x H'=>H'=H/\∀xs,SqL K H a xs->xs[i]?=some x,fun i H=>∃xs,SqL K H a xs/\xs.length <= i⟩
def Itt (K:W.Frag) (a:Addr):It :=
 ⟨fun i H=>∃xs x,SqT K H a xs/\xs[i]?=some x,fun i H x H'=>H'=H/\∀xs,SqT K H a xs->xs[i]?=some x,fun i H=>∃xs,SqT K H a xs/\xs.length <= i⟩
def Itr (lo:Int) (n:Nat):It:=⟨fun i _=>i < n,fun i H x H'=>H'=H/\x=.int (lo + i),fun i _=>n <= i⟩
theorem yx {P:Program}{w:World}{K:W.Frag}{tg:Expr} (a it:Addr):Turn P w K tg (Itl K a) [it] it (fun i h=>h.IsListIter it a i) where
 mem:=by simp
 obj:=fun i h st b hb=>by
  have e:b=it:=by simpa using hb
  subst e
  obtain ⟨o,e,c,d⟩:=st
  exact ⟨o,e,fun v z=>by rw [d] at z;cases z⟩
 keep:=fun i h h' st k=>st.at fun o e=>k it (by simp) o e
 item:=by
  intro X hP hw hK hc i pins s σ H E I hf st hg
  subst hP hw hK
  obtain ⟨xs,x,hq,hx⟩:=hg
  obtain ⟨its,rv,p,hz⟩:=I.list hq
  obtain ⟨u,hu,ru⟩:=rv.get hx
  obtain ⟨f0,f1,f2,f3,f4,f5⟩:=hf it (by simp)
  refine wpAny_pyNext_list_item st p.isList (x:=u) (by simpa using hu) fun h' st' sb=>?_
  have I1:Inv X pins σ H { s with heap:=h' }:=I.turned (t':=s.toks) (fun b o hb e=>(sb.2 b hb).trans e) f0 f1 f3 f4 f5
  obtain ⟨o,e,c,d⟩:=id st'
  exact ⟨u,rfl,u3 (s:={ s with heap:=h' }) e c d (by decide) ⟨x,H,I1,ru,⟨rfl,fun ys hy=>by rw [I.lQ hy hq];exact hx⟩,st',fun b hb=>(hf b hb).1⟩⟩
 done:=by
  intro X hP hw hK hc i pins s σ H E I hf st hg
  subst hP hw hK
  obtain ⟨xs,hq,hx⟩:=hg
  obtain ⟨its,rv,p,hz⟩:=I.list hq
  obtain ⟨f0,f1,f2,f3,f4,f5⟩:=hf it (by simp)
  have hl:=rv.length
  exact wpAny_pyNext_list_end (I.ok.hd hc) st p.isList (by simp;omega) fun h' eb=>⟨rfl,I.turned (t':=s.toks) (fun b o hb e=>eb b o hb e) f0 f1 f3 f4 f5⟩
 self:=fun _ _ _ _ _ st h=>wpAny_pyIter_listiter st h
theorem wx {P:Program}{w:World}{K:W.Frag}{tg:Expr} (a it:Addr):Turn P w K tg (Itt K a) [it] it (fun i h=>h.IsTupleIter it a i) where
 mem:=by simp
 obj:=fun i h st b hb=>by
  have e:b=it:=by simpa using hb
  subst e
  obtain ⟨o,e,c,d⟩:=st
  exact ⟨o,e,fun v z=>by rw [d] at z;cases z⟩
 keep:=fun i h h' st k=>st.at fun o e=>k it (by simp) o e
 item:=by
  intro X hP hw hK hc i pins s σ H E I hf st hg
  subst hP hw hK
  obtain ⟨xs,x,hq,hx⟩:=hg
  obtain ⟨its,rv,p,hz⟩:=I.tuple hq
  obtain ⟨u,hu,ru⟩:=rv.get hx
  obtain ⟨f0,f1,f2,f3,f4,f5⟩:=hf it (by simp)
  refine wpAny_pyNext_tuple_item st (show s.heap.IsTuple a its.toArray from p) (x:=u) (by simpa using hu) fun h' st' sb=>?_
  have I1:Inv X pins σ H { s with heap:=h' }:=I.turned (t':=s.toks) (fun b o hb e=>(sb.2 b hb).trans e) f0 f1 f3 f4 f5
  obtain ⟨o,e,c,d⟩:=id st'
  exact ⟨u,rfl,u3 (s:={ s with heap:=h' }) e c d (by decide) ⟨x,H,I1,ru,⟨rfl,fun ys hy=>by rw [I.rA hy hq];exact hx⟩,st',fun b hb=>(hf b hb).1⟩⟩
 done:=by
  intro X hP hw hK hc i pins s σ H E I hf st hg
  subst hP hw hK
  obtain ⟨xs,hq,hx⟩:=hg
  obtain ⟨its,rv,p,hz⟩:=I.tuple hq
  obtain ⟨f0,f1,f2,f3,f4,f5⟩:=hf it (by simp)
  have hl:=rv.length
  exact wpAny_pyNext_tuple_end (I.ok.hd hc) st (show s.heap.IsTuple a its.toArray from p) (by simp;omega) fun h' eb=>⟨rfl,I.turned (t':=s.toks) (fun b o hb e=>eb b o hb e) f0 f1 f3 f4 f5⟩
 self:=fun _ _ _ _ _ st h=>wpAny_pyIter_tupleiter st h
theorem v8 {P:Program}{w:World}{K:PySem.W.Frag}{tg:Expr} (it:Addr) (lo:Int) (n:Nat):Turn P w K tg (Itr lo n) [it] it (fun i h=>IsRangeIter h it (lo + (i:Nat) * 1) ((n:Int) - (i:Nat)) 1) where
 mem:=by simp
 obj:=fun i h st b hb=>by
  have e:b=it:=by simpa using hb
  subst e
  exact ⟨_,st,fun v z=>by
   have z':Data.fields _=Data.cell v:=z
   cases z'⟩
 keep:=fun i h h' st k=>k it (by simp) _ st
 item:=by
  intro X hP hw hK hc i pins s σ H E I hf st hg
  subst hP hw hK
  obtain ⟨f0,f1,f2,f3,f4,f5⟩:=hf it (by simp)
  have W:=Walks.range (prog:=X.prog) (w:=X.w) (I.ok.hd hc) it lo 1 n
  refine W.item i s _ _ hg st fun v h' tk hv st' kk=>?_
  obtain ⟨t,rfl⟩:=hv
  have I1:Inv X pins σ H { s with heap:=h',toks:=tk }:=I.turned (fun b o hb e=>kk b o (by simpa using hb) e) f0 f1 f3 f4 f5
  refine ⟨_,rfl,u3 (s:={ s with heap:=h',toks:=tk }) (n:="range_iterator") st' rfl rfl (by decide) ⟨.int (lo + i),H,I1,⟨t,?_⟩,⟨rfl,rfl⟩,st',fun b hb=>(hf b hb).1⟩⟩
  rw [Int.mul_one]
 done:=by
  intro X hP hw hK hc i pins s σ H E I hf st hg
  subst hP hw hK
  obtain ⟨f0,f1,f2,f3,f4,f5⟩:=hf it (by simp)
  exact wpAny_pyNext_range_end (I.ok.hd hc) st (by have:n <= i:=hg;omega) fun h' eb=>⟨rfl,I.turned (t':=s.toks) (fun b o hb e=>eb b o hb e) f0 f1 f3 f4 f5⟩
 self:=fun _ _ _ _ _ st h=>wpAny_pyIter_rangeiter st h
end L2
namespace L2
open PySem PySem.Spec PyProof.Rows
section
variable {X:Cx}{tg:Expr}
theorem Au {pins:List (Addr × Obj)}{σ:St}{H:Hp}{s:Shared}{R:It->Hp->Prop}{E:Value->Shared->Prop}{lo hi:Int}{t u v:Tok}{tk:Nat} (I:Inv X pins σ H s) (h1:-(2 ^ 62) <= lo) (h2:lo < 2 ^ 62) (h3:-(2 ^ 62) <= hi) (h4:hi < 2 ^ 62)
  (q:R (Itr lo (hi - lo).toNat) H):wpAny (model X.prog X.w) X.A (pyIter (.ref s.heap.objs.size)) (PIE X pins σ tg R) E { s with heap:=s.heap.push { cls:=.type "range",data:=.fields #[.int lo t,.int hi u,.int 1 v] },toks:=tk }:=by
 refine wpAny_pyIter_range (IsRange.new ..) (small_one h1 h2 h3 h4) ?_
 have I1:Inv X pins σ H { s with heap:=s.heap.push { cls:=.type "range",data:=.fields #[.int lo t,.int hi u,.int 1 v] },toks:=tk }:=I.kept fun b o e=>Heap.get?_push_of_some _ e
 refine ⟨(s.heap.push { cls:=.type "range",data:=.fields #[.int lo t,.int hi u,.int 1 v] }).objs.size,[(s.heap.push { cls:=.type "range",data:=.fields #[.int lo t,.int hi u,.int 1 v] }).objs.size],_,_,H,rfl,
  I1.kept (t':=tk) fun b o e=>Heap.get?_push_of_some _ e,v8 _ lo (hi - lo).toNat,?_,fun b hb=>?_,q⟩
 ·have e1:lo + ((0:Nat):Int) * 1=lo:=by simp
  have e2:(((hi - lo).toNat:Nat):Int) - ((0:Nat):Int)=Builtin.Range.rangeSize lo hi 1:=by rw [rangeSize_one];split <;> omega
  show IsRangeIter _ _ (lo + ((0:Nat):Int) * 1) ((((hi - lo).toNat:Nat):Int) - ((0:Nat):Int)) 1
  rw [e1,e2]
  exact Heap.get?_push_size _ rfl
 ·have e:b=(s.heap.push { cls:=.type "range",data:=.fields #[.int lo t,.int hi u,.int 1 v] }).objs.size:=by simpa using hb
  subst e
  exact I1.qC (Nat.le_refl _) (I1.hok.fresh (Nat.le_refl _))
inductive EU (vs:List V) (H:Hp) (R:It->Hp->Prop):Prop
 | mk (j:Int) (h0:vs=[.int j]) (h1:-(2 ^ 62) <= j) (h2:j < 2 ^ 62) (q:R (Itr 0 j.toNat) H):EU vs H R
def EN (ta:TA):TI:=fun σ H R=>ta σ H fun vs H1=>EU vs H1 R
theorem rG {a:Expr}{ta:TA}{p pos:Pos} (hg:Gl X "range") (hm:X.mg "range"=none) (ha:PA X [a] ta) (hs:starEach [a] X.env=[(false,eval a X.env)]:=by rfl):PI X tg (.Call (.Name "range" p) [a] [] pos) (EN ta):=by
 intro pins s σ H R I h
 refine Call_ (jo I hg hm boot_range (PyProof.Rows.callWith_type1 (thn (ha pos pins s σ H _ I h) fun us s1 ⟨vs,H1,I1,r1,q1⟩=>?_) hs rfl))
 obtain ⟨j,e,q1,q2,q⟩:=q1
 subst e
 cases r1 with
 | cons r rr =>
  cases rr
  obtain ⟨t,rfl⟩:=r
  exact call_range_1 (Au I1 (by omega) (by omega) q1 q2 (by simpa using q))
def FC (wi:TI) (g:TG) (tb:TS):TS:=fun D σ H=>wi σ H fun J H1=>∃W:Nat->Nat->St->Hp->Prop,(∃m,W 0 m σ H1)/\∀i m σ H,W i m σ H ->
 (J.stop i H/\D.nx σ H) \/ (J.go i H/\∃N:St->Hp->Prop,(∀σ' H',N σ' H'->∃m',m' < m/\W (i + 1) m' σ' H')/\∀x H',J.yld i H x H'->g x σ H' fun σ2 H2=>tb { D with nx:=N,ct:=N,bk:=D.nx } σ2 H2)
def pj (fp:List Addr) (h:Heap):List (Addr × Obj):=fp.filterMap fun b=>(h.get? b).map fun o=>(b,o)
theorem iQ {fp:List Addr}{h:Heap}{b:Addr}{o:Obj} (hb:b ∈ fp) (e:h.get? b=some o):(b,o) ∈ pj fp h:=List.mem_filterMap.mpr ⟨b,hb,by rw [e];rfl⟩
theorem yf {fp:List Addr}{h:Heap}{p:Addr × Obj} (hp:p ∈ pj fp h):p.1 ∈ fp/\h.get? p.1=some p.2:=by
 obtain ⟨b,hb,e⟩:=List.mem_filterMap.mp hp
 cases q:h.get? b with
 | none=>rw [q] at e;cases e
 | some o =>
  rw [q] at e
  have e':(b,o)=p:=Option.some.inj e
  subst e'
  exact ⟨hb,q⟩
theorem Inv.pinned {pins:List (Addr × Obj)}{σ:St}{H:Hp}{s:Shared}{fp:List Addr} (I:Inv X pins σ H s) (hf:∀b ∈ fp,pX X pins H b) (ho:∀b ∈ fp,∃o,s.heap.get? b=some o/\∀v,o.data ≠ .cell v):Inv X (pins ++ pj fp s.heap) σ H s :=
 I.tZ fun p hp=>(List.mem_append.mp hp).elim (fun z=>I.pin p (List.mem_append_right _ z)) fun z=>by
  obtain ⟨hb,e⟩:=yf z
  obtain ⟨f0,f1,f2,_⟩:=hf p.1 hb
  obtain ⟨o,e',d⟩:=ho p.1 hb
  rw [e] at e';cases e'
  exact ⟨e,f0,f1,f2,d⟩
theorem Inv.j4 {pins pl:List (Addr × Obj)}{σ:St}{H:Hp}{s:Shared} (I:Inv X (pins ++ pl) σ H s):Inv X pins σ H s:=I.tZ fun p hp=>I.pin p (List.mem_append_right _ (List.mem_append_left _ hp))
theorem cP {iter:Expr}{body:List Stmt}{wi:TI}{g:TG}{tb:TS}{pos:Pos} (hp:PassesOwn (model X.prog X.w) X.A X.env X.xe) (hc:X.calm=true) (hi:PI X tg iter wi) (hg:PG X tg g) (hb:PSs X body tb)
  (hs:∀x,foldedSetIterable iter X.env x=pure x:=by intro _;rfl):PS X (.For tg iter body [] pos) (FC wi g tb):=by
 intro pins s σ H D I h
 refine wpAny_For (thn (hi pins s σ H _ I h) fun v s1 h1=>thn h1 fun itv s2 h2=>?_) hs
 obtain ⟨it,fp,tn,J,H2,e,I2,T,st2,f2,W,⟨m0,w0⟩,turn⟩:=h2
 subst e
 have stat:∀{H':Hp},(∀b ∈ fp,H' b=none)->∀b ∈ fp,pX X pins H' b:=fun hn b hb=>⟨hn b hb,(f2 b hb).2⟩
 refine codeAny_forLoop_any (fun n s'=>∃i σ' H',Inv X pins σ' H' s'/\tn i s'.heap/\(∀b ∈ fp,H' b=none)/\W i n σ' H') ?_ m0 ⟨0,σ,H2,I2,st2,fun b hb=>(f2 b hb).1,w0⟩
 rintro n s3 ⟨i,σ3,H3,I3,st3,fr3,w3⟩
 rcases turn i n σ3 H3 w3 with ⟨stop,qn⟩ | ⟨go,N,hN,step⟩
 ·refine wpAny_passesOwn hp (thn (T.done X rfl rfl rfl hc i pins s3 σ3 H3 X.xe I3 (stat fr3) st3 stop) fun r s4 ⟨hr,I4⟩=>?_)
  subst hr
  exact wpAny_execs_nil ⟨σ3,H3,I4,qn⟩
 ·refine wpAny_passesOwn hp (thn (T.item X rfl rfl rfl hc i pins s3 σ3 H3 X.xe I3 (stat fr3) st3 go) fun r s4 ⟨u,hr,h4⟩=>?_)
  subst hr
  refine wpAny_passesOwn hp (thn h4 fun _ s5 ⟨x,H5,I5,r5,y5,st5,fr5⟩=>?_)
  have I5':=I5.pinned (stat fr5) (T.obj _ _ st5)
  refine wpAny_passesOwn hp (thn (hg _ s5 σ3 H5 x u _ I5' r5 (step x H5 y5)) fun _ s6 ⟨σ6,H6,I6,q6⟩=>?_)
  refine wpAny_passesOwn hp (thn (hb _ s6 σ6 H6 _ I6 q6) fun f s7 q7=>?_)
  have again:∀{σ7:St}{H7:Hp},Inv X (pins ++ pj fp s5.heap) σ7 H7 s7->N σ7 H7->∃m,m < n/\∃i σ' H',Inv X pins σ' H' s7/\tn i s7.heap/\(∀b ∈ fp,H' b=none)/\W i m σ' H':=fun {σ7 H7} I7 n7=>by
   obtain ⟨m',hm,w7⟩:=hN σ7 H7 n7
   refine ⟨m',hm,i + 1,σ7,H7,I7.j4,T.keep _ _ _ st5 fun b hb o e=>(I7.pin (b,o) (List.mem_append_right _ (List.mem_append_right _ (iQ hb e)))).1,fun b hb=>?_,w7⟩
   obtain ⟨o,e,d⟩:=T.obj _ _ st5 b hb
   exact (I7.pin (b,o) (List.mem_append_right _ (List.mem_append_right _ (iQ hb e)))).2.1
  cases f with
  | next=>obtain ⟨σ7,H7,I7,n7⟩:=q7;exact again I7 n7
  | cont=>obtain ⟨σ7,H7,I7,n7⟩:=q7;exact again I7 n7
  | brk=>obtain ⟨σ7,H7,I7,q7⟩:=q7;exact ⟨σ7,H7,I7.j4,q7⟩
  | ret v=>obtain ⟨x7,σ7,H7,I7,r7,q7⟩:=q7;exact ⟨x7,σ7,H7,I7.j4,r7,q7⟩
end
theorem cu {K:PySem.W.Frag}{a:Addr}{xs:List V}{g:TG}{tb:TS}{D:Ends}{σ:St}{H:Hp} (Pv:Nat->St->Hp->Prop) (h0:Pv 0 σ H) (hl:∀i σ H,i <= xs.length->Pv i σ H->SqL K H a xs)
  (hs:∀i x σ H,xs[i]?=some x->Pv i σ H->g x σ H fun σ2 H2=>tb { D with nx:=Pv (i + 1),ct:=Pv (i + 1),bk:=D.nx } σ2 H2) (hd:∀σ H,Pv xs.length σ H->D.nx σ H) :
  ∃W:Nat->Nat->St->Hp->Prop,(∃m,W 0 m σ H)/\∀i m σ H,W i m σ H ->
   ((Itl K a).stop i H/\D.nx σ H) \/ ((Itl K a).go i H/\∃N:St->Hp->Prop,(∀σ' H',N σ' H'->∃m',m' < m/\W (i + 1) m' σ' H')/\∀x H',(Itl K a).yld i H x H'->g x σ H' fun σ2 H2=>tb { D with nx:=N,ct:=N,bk:=D.nx } σ2 H2):=by
 refine ⟨fun i m σ H=>m=xs.length - i/\i <= xs.length/\Pv i σ H,⟨xs.length,by simp,Nat.zero_le _,h0⟩,?_⟩
 rintro i m σ H ⟨rfl,hi,p⟩
 have q:=hl i σ H hi p
 by_cases hlt:i < xs.length
 ·refine .inr ⟨⟨xs,xs[i],q,by simp [hlt]⟩,Pv (i + 1),fun σ' H' p'=>⟨xs.length - (i + 1),by omega,rfl,hlt,p'⟩,fun x H' y=>?_⟩
  obtain ⟨e,y⟩:=y
  subst e
  exact hs i x σ _ (y xs q) p
 ·have e:i=xs.length:=by omega
  subst e
  exact .inl ⟨⟨xs,q,Nat.le_refl _⟩,hd σ H p⟩
theorem Bc {K:PySem.W.Frag}{a:Addr}{xs:List V}{g:TG}{tb:TS}{D:Ends}{σ:St}{H:Hp} (Pv:Nat->St->Hp->Prop) (h0:Pv 0 σ H) (hl:∀i σ H,i <= xs.length->Pv i σ H->SqT K H a xs)
  (hs:∀i x σ H,xs[i]?=some x->Pv i σ H->g x σ H fun σ2 H2=>tb { D with nx:=Pv (i + 1),ct:=Pv (i + 1),bk:=D.nx } σ2 H2) (hd:∀σ H,Pv xs.length σ H->D.nx σ H) :
  ∃W:Nat->Nat->St->Hp->Prop,(∃m,W 0 m σ H)/\∀i m σ H,W i m σ H ->
   ((Itt K a).stop i H/\D.nx σ H) \/ ((Itt K a).go i H/\∃N:St->Hp->Prop,(∀σ' H',N σ' H'->∃m',m' < m/\W (i + 1) m' σ' H')/\∀x H',(Itt K a).yld i H x H'->g x σ H' fun σ2 H2=>tb { D with nx:=N,ct:=N,bk:=D.nx } σ2 H2):=by
 refine ⟨fun i m σ H=>m=xs.length - i/\i <= xs.length/\Pv i σ H,⟨xs.length,by simp,Nat.zero_le _,h0⟩,?_⟩
 rintro i m σ H ⟨rfl,hi,p⟩
 have q:=hl i σ H hi p
 by_cases hlt:i < xs.length
 ·refine .inr ⟨⟨xs,xs[i],q,by simp [hlt]⟩,Pv (i + 1),fun σ' H' p'=>⟨xs.length - (i + 1),by omega,rfl,hlt,p'⟩,fun x H' y=>?_⟩
  obtain ⟨e,y⟩:=y
  subst e
  exact hs i x σ _ (y xs q) p
 ·have e:i=xs.length:=by omega
  subst e
  exact .inl ⟨⟨xs,q,Nat.le_refl _⟩,hd σ H p⟩
theorem yt {lo:Int}{n:Nat}{g:TG}{tb:TS}{D:Ends}{σ:St}{H:Hp} (Pv:Nat->St->Hp->Prop) (h0:Pv 0 σ H)
  (hs:∀i σ H,i < n->Pv i σ H->g (.int (lo + i)) σ H fun σ2 H2=>tb { D with nx:=Pv (i + 1),ct:=Pv (i + 1),bk:=D.nx } σ2 H2) (hd:∀σ H,Pv n σ H->D.nx σ H) :
  ∃W:Nat->Nat->St->Hp->Prop,(∃m,W 0 m σ H)/\∀i m σ H,W i m σ H ->
   ((Itr lo n).stop i H/\D.nx σ H) \/ ((Itr lo n).go i H/\∃N:St->Hp->Prop,(∀σ' H',N σ' H'->∃m',m' < m/\W (i + 1) m' σ' H')/\∀x H',(Itr lo n).yld i H x H'->g x σ H' fun σ2 H2=>tb { D with nx:=N,ct:=N,bk:=D.nx } σ2 H2):=by
 refine ⟨fun i m σ H=>m=n - i/\i <= n/\Pv i σ H,⟨n,by simp,Nat.zero_le _,h0⟩,?_⟩
 rintro i m σ H ⟨rfl,hi,p⟩
 by_cases hlt:i < n
 ·refine .inr ⟨hlt,Pv (i + 1),fun σ' H' p'=>⟨n - (i + 1),by omega,rfl,hlt,p'⟩,fun x H' y=>?_⟩
  obtain ⟨e,y⟩:=y
  subst e y
  exact hs i σ _ hlt p
 ·have e:i=n:=by omega
  subst e
  exact .inl ⟨Nat.le_refl _,hd σ H p⟩
end L2
namespace L2
open PySem PySem.Spec PyProof.Rows
abbrev R2:=V->V->Hp->VK->Prop
def OpR (X:Cx) (f:Value->Value->Sem Value) (r:R2):Prop :=
 ∀(pins:List (Addr × Obj)) (s:Shared) (σ:St) (H:Hp) (x y:V) (v u:Value) (Q:VK),Inv X pins σ H s->RelV x v->RelV y u->r x y H Q ->
  wpAny (model X.prog X.w) X.A (f v u) (EP X pins σ Q) X.xe s
def dg (X:Cx) (f:Value) (r:List V->Hp->VK->Prop):Prop :=
 ∀(pins:List (Addr × Obj)) (s:Shared) (σ:St) (H:Hp) (xs:List V) (us:List Value) (Q:VK),Inv X pins σ H s->Vals xs us->r xs H Q ->
  wpAny (model X.prog X.w) X.A (call f us) (EP X pins σ Q) X.xe s
def FT (X:Cx) (r:V->Hp->(Bool->Hp->Prop)->Prop):Prop :=
 ∀(pins:List (Addr × Obj)) (s:Shared) (σ:St) (H:Hp) (x:V) (v:Value) (Q:Bool->Hp->Prop),Inv X pins σ H s->RelV x v->r x H Q ->
  wpAny (model X.prog X.w) X.A (truthy v) (TP X pins σ Q) X.xe s
def tOp (r:R2) (ta tb:TE):TE:=fun σ H Q=>ta σ H fun x H1=>tb σ H1 fun y H2=>r x y H2 Q
def rI (C:Int->Int->Prop) (g:Int->Int->V):R2:=fun x y H Q=>∃i j,x=.int i/\y=.int j/\C i j/\Q (g i j) H
def rI0 (g:Int->Int->V):R2:=fun x y H Q=>∃i j,x=.int i/\y=.int j/\Q (g i j) H
section
variable {X:Cx}{a b c:Expr}{ta tb tc:TE}{pos:Pos}
theorem CI (ha:PE X a ta) (hb:PE X b tb) {pins:List (Addr × Obj)}{s:Shared}{σ:St}{H:Hp}{R:V->V->Hp->Prop} (I:Inv X pins σ H s)
  (h:ta σ H fun x H1=>tb σ H1 fun y H2=>R x y H2) {Q:Value->Shared->Prop}{f:Value->Value->Sem Value}
  (hf:∀v u s2 x y H2,Inv X pins σ H2 s2->RelV x v->RelV y u->R x y H2->wpAny (model X.prog X.w) X.A (f v u) Q X.xe s2) :
  wpAny (model X.prog X.w) X.A (eval a X.env) (fun v s₁=>wpAny (model X.prog X.w) X.A (eval b X.env) (fun u s₂=>wpAny (model X.prog X.w) X.A (f v u) Q X.xe s₂) X.xe s₁) X.xe s:=by
 refine thn (ha pins s σ H _ I h) fun v s1 ⟨x,H1,I1,r1,q1⟩=>?_
 refine thn (hb pins s1 σ H1 _ I1 q1) fun u s2 ⟨y,H2,I2,r2,q2⟩=>?_
 exact hf v u s2 x y H2 I2 r1 r2 q2
theorem aG {op:Operator}{r:R2} (ho:OpR X (binaryOp op) r) (ha:PE X a ta) (hb:PE X b tb):PE X (.BinOp a op b pos) (tOp r ta tb):=by
 intro pins s σ H Q I h
 exact wpAny_BinOp (CI ha hb I h fun v u s2 x y H2 I2 rx ry q=>ho pins s2 σ H2 x y v u Q I2 rx ry q)
theorem opI {f:Value->Value->Sem Value}{C:Int->Int->Prop}{g:Int->Int->Int}
  (rule:∀(i j:Int) (t u:Tok) (s:Shared) (Q:Value->Shared->Prop) (E:Value->Shared->Prop),C i j->Q (.int (g i j) s.toks) { s with toks:=s.toks + 1 }->wpAny (model X.prog X.w) X.A (f (.int i t) (.int j u)) Q E s) :
  OpR X f (rI C fun i j=>.int (g i j)):=by
 intro pins s σ H x y v u Q I rx ry h
 obtain ⟨i,j,rfl,rfl,hc,q⟩:=h
 obtain ⟨t,rfl⟩:=rx
 obtain ⟨t',rfl⟩:=ry
 exact rule i j t t' s _ _ hc ⟨.int (g i j),H,I.tok _,⟨_,rfl⟩,q⟩
theorem DB {f:Value->Value->Sem Value}{g:Int->Int->Int}
  (rule:∀(i j:Int) (t u:Tok) (s:Shared) (Q:Value->Shared->Prop) (E:Value->Shared->Prop),Q (.int (g i j) s.toks) { s with toks:=s.toks + 1 }->wpAny (model X.prog X.w) X.A (f (.int i t) (.int j u)) Q E s) :
  OpR X f (rI0 fun i j=>.int (g i j)):=by
 intro pins s σ H x y v u Q I rx ry h
 obtain ⟨i,j,rfl,rfl,q⟩:=h
 obtain ⟨t,rfl⟩:=rx
 obtain ⟨t',rfl⟩:=ry
 exact rule i j t t' s _ _ ⟨.int (g i j),H,I.tok _,⟨_,rfl⟩,q⟩
theorem Dx {f:Value->Value->Sem Value}{g:Int->Int->Bool}
  (rule:∀(i j:Int) (t u:Tok) (s:Shared) (Q:Value->Shared->Prop) (E:Value->Shared->Prop),Q (.bool (g i j)) s->wpAny (model X.prog X.w) X.A (f (.int i t) (.int j u)) Q E s) :
  OpR X f (rI0 fun i j=>.bl (g i j)):=by
 intro pins s σ H x y v u Q I rx ry h
 obtain ⟨i,j,rfl,rfl,q⟩:=h
 obtain ⟨t,rfl⟩:=rx
 obtain ⟨t',rfl⟩:=ry
 exact rule i j t t' s _ _ ⟨.bl (g i j),H,I,rfl,q⟩
def zg (i j:Int):Prop:=0 <= j/\j <= 1000000/\i.natAbs < 2 ^ 64
def xZ (i j:Int):Prop:=(-(2 ^ 64) < i/\i < 2 ^ 64) \/ (-(2 ^ 64) < j/\j < 2 ^ 64)
theorem xZ.ok {i j:Int} (h:xZ i j):IntMulOk i j:=by
 rcases h with ⟨h1,h2⟩ | ⟨h1,h2⟩
 ·exact .of_left (intBits_le_64 h1 h2)
 ·exact .of_right (intBits_le_64 h1 h2)
theorem CT:OpR X (binaryOp .Add) (rI0 fun i j=>.int (i + j)):=DB fun _ _ _ _ _ _ _ q=>add_int q
theorem DC:OpR X (binaryOp .Sub) (rI0 fun i j=>.int (i - j)):=DB fun _ _ _ _ _ _ _ q=>sub_int q
theorem DQ:OpR X (binaryOp .Mult) (rI xZ fun i j=>.int (i * j)):=opI fun _ _ _ _ _ _ _ hc q=>mul_int q hc.ok
theorem Du:OpR X (binaryOp .Mod) (rI (fun _ j=>0 < j) fun i j=>.int (i % j)):=opI fun i j _ _ _ _ _ hc q=>by
 have h1:(0:Int) < j:=hc
 exact mod_int' (by omega) (by rw [Int.fmod_eq_emod_of_nonneg i (by omega)];exact q)
theorem C5:OpR X (binaryOp .Pow) (rI zg fun i j=>.int (i ^ j.toNat)):=opI fun _ _ _ _ _ _ _ hc q=>pow_int_small hc.1 hc.2.1 hc.2.2 q
theorem Cv:OpR X (binaryOp .LShift) (rI zg fun i j=>.int (i * 2 ^ j.toNat)):=opI fun _ _ _ _ _ _ _ hc q=>lshift_int_small hc.1 hc.2.1 hc.2.2 q
theorem DX:OpR X (binaryOp .BitOr) (rI0 fun i j=>.int (Builtin.bitOr i j)):=DB fun _ _ _ _ _ _ _ q=>or_int q
end
def yD:V->V->Bool
 | .non,.non=>true | .non,.int _=>true | .int _,.non=>true | .non,.bl _=>true | .bl _,.non=>true | .non,.str _=>true | .str _,.non=>true
 | .int _,.int _=>true | .bl _,.bl _=>true | .str _,.str _=>true | .byt _,.byt _=>true
 | .int _,.str _=>true | .str _,.int _=>true | .bl _,.str _=>true | .str _,.bl _=>true
 | _,_=>false
def rEq:R2:=fun x y H Q=>yD x y=true/\Q (.bl (decide (x=y))) H
def rNe:R2:=fun x y H Q=>yD x y=true/\Q (.bl (!decide (x=y))) H
theorem xm {i j:Int}:decide (V.int i=V.int j)=(i == j):=by
 rw [Bool.eq_iff_iff]
 simp
theorem y8 {i j:Bool}:decide (V.bl i=V.bl j)=(i == j):=by
 rw [Bool.eq_iff_iff]
 simp
theorem xH {i j:Str}:decide (V.str i=V.str j)=(i == j):=by
 rw [Bool.eq_iff_iff]
 simp
theorem wX {i j:Array UInt8}:decide (V.byt i=V.byt j)=(i.toList == j.toList):=by
 rw [Bool.eq_iff_iff]
 cases i
 cases j
 simp
section
variable {X:Cx}{a b c:Expr}{ta tb tc:TE}{pos:Pos}
theorem bj {pins:List (Addr × Obj)}{σ:St}{H:Hp}{s:Shared}{Q:VK}{k k':Bool} (I:Inv X pins σ H s) (q:Q (.bl k) H) (e:k=k'):EP X pins σ Q (.bool k') s:=by
 subst e
 exact ⟨.bl k,H,I,rfl,q⟩
theorem ES:OpR X (compareOp .Eq) rEq:=by
 intro pins s σ H x y v u Q I rx ry h
 obtain ⟨hs,q⟩:=h
 cases x with
 | non =>
  cases rx
  cases y with
  | non=>cases ry;exact PySem.EqNone.eq_none_none (bj I q (by simp))
  | bl j=>cases ry;exact PySem.EqNone.eq_none_bool (bj I q (by simp))
  | int j=>obtain ⟨t',rfl⟩:=ry;exact PySem.EqNone.eq_none_int (bj I q (by simp))
  | str j=>obtain ⟨t',rfl⟩:=ry;exact PySem.EqNone.eq_none_str (bj I q (by simp))
  | _=>exact absurd (show false=true from hs) Bool.false_ne_true
 | bl i =>
  cases rx
  cases y with
  | non=>cases ry;exact PySem.EqNone.eq_bool_none (bj I q (by simp))
  | bl j=>cases ry;exact eq_bool (bj I q y8)
  | str j=>obtain ⟨t',rfl⟩:=ry;exact PySem.EqMixed.eq_bool_str (bj I q (by simp))
  | _=>exact absurd (show false=true from hs) Bool.false_ne_true
 | int i =>
  obtain ⟨t,rfl⟩:=rx
  cases y with
  | non=>cases ry;exact PySem.EqNone.eq_int_none (bj I q (by simp))
  | int j=>obtain ⟨t',rfl⟩:=ry;exact eq_int (bj I q xm)
  | str j=>obtain ⟨t',rfl⟩:=ry;exact PySem.EqMixed.eq_int_str (bj I q (by simp))
  | _=>exact absurd (show false=true from hs) Bool.false_ne_true
 | str i =>
  obtain ⟨t,rfl⟩:=rx
  cases y with
  | non=>cases ry;exact PySem.EqNone.eq_str_none (bj I q (by simp))
  | bl j=>cases ry;exact PySem.EqMixed.eq_str_bool (bj I q (by simp))
  | int j=>obtain ⟨t',rfl⟩:=ry;exact PySem.EqMixed.eq_str_int (bj I q (by simp))
  | str j=>obtain ⟨t',rfl⟩:=ry;exact eq_str (bj I q xH)
  | _=>exact absurd (show false=true from hs) Bool.false_ne_true
 | byt i =>
  obtain ⟨t,rfl⟩:=rx
  cases y with
  | byt j=>obtain ⟨t',rfl⟩:=ry;exact W.eq_bytes (bj I q wX)
  | _=>exact absurd (show false=true from hs) Bool.false_ne_true
 | _=>cases y <;> exact absurd (show false=true from hs) Bool.false_ne_true
theorem Ex:OpR X (compareOp .NotEq) rNe:=by
 intro pins s σ H x y v u Q I rx ry h
 obtain ⟨hs,q⟩:=h
 cases x with
 | non =>
  cases rx
  cases y with
  | non=>cases ry;exact PySem.EqNone.ne_none_none (bj I q (by simp))
  | bl j=>cases ry;exact PySem.EqNone.ne_none_bool (bj I q (by simp))
  | int j=>obtain ⟨t',rfl⟩:=ry;exact PySem.EqNone.ne_none_int (bj I q (by simp))
  | str j=>obtain ⟨t',rfl⟩:=ry;exact PySem.EqNone.ne_none_str (bj I q (by simp))
  | _=>exact absurd (show false=true from hs) Bool.false_ne_true
 | bl i =>
  cases rx
  cases y with
  | non=>cases ry;exact PySem.EqNone.ne_bool_none (bj I q (by simp))
  | bl j=>cases ry;exact ne_bool (bj I q (congrArg not y8))
  | str j=>obtain ⟨t',rfl⟩:=ry;exact PySem.EqMixed.ne_bool_str (bj I q (by simp))
  | _=>exact absurd (show false=true from hs) Bool.false_ne_true
 | int i =>
  obtain ⟨t,rfl⟩:=rx
  cases y with
  | non=>cases ry;exact PySem.EqNone.ne_int_none (bj I q (by simp))
  | int j=>obtain ⟨t',rfl⟩:=ry;exact ne_int (bj I q (congrArg not xm))
  | str j=>obtain ⟨t',rfl⟩:=ry;exact PySem.EqMixed.ne_int_str (bj I q (by simp))
  | _=>exact absurd (show false=true from hs) Bool.false_ne_true
 | str i =>
  obtain ⟨t,rfl⟩:=rx
  cases y with
  | non=>cases ry;exact PySem.EqNone.ne_str_none (bj I q (by simp))
  | bl j=>cases ry;exact PySem.EqMixed.ne_str_bool (bj I q (by simp))
  | int j=>obtain ⟨t',rfl⟩:=ry;exact PySem.EqMixed.ne_str_int (bj I q (by simp))
  | str j=>obtain ⟨t',rfl⟩:=ry;exact ne_str (bj I q (congrArg not xH))
  | _=>exact absurd (show false=true from hs) Bool.false_ne_true
 | byt i =>
  obtain ⟨t,rfl⟩:=rx
  cases y with
  | byt j=>obtain ⟨t',rfl⟩:=ry;exact W.ne_bytes (bj I q (congrArg not wX))
  | _=>exact absurd (show false=true from hs) Bool.false_ne_true
 | _=>cases y <;> exact absurd (show false=true from hs) Bool.false_ne_true
theorem Et:OpR X (compareOp .Lt) (rI0 fun i j=>.bl (decide (i < j))):=Dx fun _ _ _ _ _ _ _ q=>lt_int q
theorem Eh:OpR X (compareOp .LtE) (rI0 fun i j=>.bl (decide (i <= j))):=Dx fun _ _ _ _ _ _ _ q=>le_int q
theorem Ed:OpR X (compareOp .Gt) (rI0 fun i j=>.bl (decide (j < i))):=Dx fun _ _ _ _ _ _ _ q=>gt_int q
theorem yB:OpR X (compareOp .In) (fun x y H Q=>∃i j,x=.str i/\y=.str j/\Q (.bl (!(Builtin.Str.occurrences j i 0 j.length 1).isEmpty)) H):=by
 intro pins s σ H x y v u Q I rx ry h
 obtain ⟨i,j,rfl,rfl,q⟩:=h
 obtain ⟨t,rfl⟩:=rx
 obtain ⟨t',rfl⟩:=ry
 exact in_str (bj I q rfl)
theorem C3:OpR X (compareOp .Is) (fun x y H Q=>y=.non/\Q (.bl (decide (x=.non))) H):=by
 intro pins s σ H x y v u Q I rx ry h
 obtain ⟨rfl,q⟩:=h
 cases ry
 refine is_none_gen (bj I q ?_)
 cases x <;> first
  | (cases rx;rfl)
  | (obtain ⟨t,rfl⟩:=rx;rfl)
theorem BS:OpR X (compareOp .IsNot) (fun x y H Q=>y=.non/\Q (.bl (!decide (x=.non))) H):=by
 intro pins s σ H x y v u Q I rx ry h
 obtain ⟨rfl,q⟩:=h
 cases ry
 refine isnot_none_gen (bj I q ?_)
 cases x <;> first
  | (cases rx;rfl)
  | (obtain ⟨t,rfl⟩:=rx;rfl)
theorem OpR.or {f:Value->Value->Sem Value}{r r':R2} (h:OpR X f r) (h':OpR X f r'):OpR X f (fun x y H Q=>r x y H Q \/ r' x y H Q):=by
 intro pins s σ H x y v u Q I rx ry q
 rcases q with q | q
 ·exact h pins s σ H x y v u Q I rx ry q
 ·exact h' pins s σ H x y v u Q I rx ry q
theorem zC (b:Expr) {op:CmpOp} (h:op ≠ .In:=by decide) (h2:op ≠ .NotIn:=by decide):behindInMarks op b=false:=by
 have e1:(op == CmpOp.In)=false:=by cases op <;> first | rfl | exact absurd rfl h
 have e2:(op == CmpOp.NotIn)=false:=by cases op <;> first | rfl | exact absurd rfl h2
 cases b <;> simp [behindInMarks,e1,e2]
theorem A4 {op:CmpOp}{r:R2} (ho:OpR X (compareOp op) r) (ha:PE X a ta) (hb:PE X b tb) (hm:behindInMarks op b=false):PE X (.Compare a [op] [b] pos) (tOp r ta tb):=by
 intro pins s σ H Q I h
 exact wpAny_Compare1 (CI ha hb I h fun v u s2 x y H2 I2 rx ry q=>ho pins s2 σ H2 x y v u Q I2 rx ry q) hm
inductive blI (x:V) (H:Hp) (Q:Bool->Hp->Prop):Prop
 | mk (k:Bool) (h:x=.bl k) (q:Q k H):blI x H Q
def Cf (t:TE):TT:=fun σ H Q=>t σ H fun x H'=>blI x H' Q
theorem Bz {op:CmpOp}{r:R2} (ho:OpR X (compareOp op) r) (ha:PE X a ta) (hb:PE X b tb) (hm:behindInMarks op b=false):PT X (.Compare a [op] [b] pos) (Cf (tOp r ta tb)):=by
 intro pins s σ H Q I h
 refine wpAny_isTrue_Compare1 (thn (ha pins s σ H _ I h) fun v s1 ⟨x,H1,I1,r1,q1⟩=>thn (hb pins s1 σ H1 _ I1 q1) fun u s2 ⟨y,H2,I2,r2,q2⟩ =>
  thn (ho pins s2 σ H2 x y v u _ I2 r1 r2 q2) fun c s3 ⟨z,H3,I3,r3,k,e,q3⟩=>?_) hm
 subst e
 cases r3
 exact wpAny_truthy_bool ⟨H3,I3,q3⟩
def Fz (K:W.Frag) (x:V) (H:Hp) (k:Bool):Prop :=
 match x with
 | .non=>k=false
 | .bl b=>k=b
 | .int i=>k=(i != 0)
 | .str y=>y.length <= sizeLine/\k=((y.length:Int) != 0)
 | .byt y=>y.size <= sizeLine/\k=((y.size:Int) != 0)
 | .ref p=>(∃xs,SqL K H p xs/\k=!xs.isEmpty) \/ (∃xs,SqT K H p xs/\k=!xs.isEmpty) \/ ∃kvs,H p=some (.dK kvs)/\k=!kvs.isEmpty
 | _=>False
theorem wc {κ:Type}{kvs:List (κ × V)}{vs:List (κ × Value)} (r:KV kvs vs):(!vs.isEmpty)=!kvs.isEmpty:=by
 cases r <;> rfl
theorem qk {xs:List V}{its:List Value} (r:Vals xs its):(!its.toArray.isEmpty)=!xs.isEmpty:=by
 cases r <;> simp
theorem mV:(sizeLine:Nat) < 2 ^ 63:=by rw [sizeLine_eq];decide
inductive uq (K:W.Frag) (x:V) (H:Hp) (Q:Bool->Hp->Prop):Prop
 | mk (k:Bool) (h:Fz K x H k) (q:Q k H):uq K x H Q
theorem CJ:FT X (uq X.K):=by
 intro pins s σ H x v Q I rx h
 obtain ⟨k,e,q⟩:=h
 have hl:=mV
 have hs:sizeLine=16777216:=sizeLine_eq
 cases x with
 | non =>
  cases rx
  have e':k=false:=e
  subst e'
  exact truthy_none ⟨H,I,q⟩
 | bl b =>
  cases rx
  have e':k=b:=e
  subst e'
  exact wpAny_truthy_bool ⟨H,I,q⟩
 | int i =>
  obtain ⟨t,rfl⟩:=rx
  have e':k=(i != 0):=e
  subst e'
  exact PySem.P.truthy_int ⟨H,I,q⟩
 | str y =>
  obtain ⟨t,rfl⟩:=rx
  obtain ⟨hy,e'⟩:y.length <= sizeLine/\k=((y.length:Int) != 0):=e
  subst e'
  exact PySem.P.truthy_str (by omega) ⟨H,I.tok _,q⟩
 | byt y =>
  obtain ⟨t,rfl⟩:=rx
  obtain ⟨hy,e'⟩:y.size <= sizeLine/\k=((y.size:Int) != 0):=e
  subst e'
  exact W.truthy_bytes (by omega) ⟨H,I.tok _,q⟩
 | ref p =>
  cases rx
  have e':(∃xs,SqL X.K H p xs/\k=!xs.isEmpty) \/ (∃xs,SqT X.K H p xs/\k=!xs.isEmpty) \/ ∃kvs,H p=some (.dK kvs)/\k=!kvs.isEmpty:=e
  rcases e' with ⟨xs,hx,e'⟩ | ⟨xs,hx,e'⟩ | ⟨kvs,hx,e'⟩
  ·subst e'
   obtain ⟨its,r,pl,hz⟩:=I.list hx
   have hlen:=r.length
   exact wpAny_truthy_list pl.isList (by simp only [List.size_toArray];omega) ⟨H,I.tok _,by rw [qk r];exact q⟩
  ·subst e'
   obtain ⟨its,r,pl,hz⟩:=I.tuple hx
   have hlen:=r.length
   exact truthy_tuple pl (by simp only [List.size_toArray];omega) ⟨H,I.tok _,by rw [qk r];exact q⟩
  ·subst e'
   obtain ⟨hz,hS,vs,r,m⟩:kvs.length <= sizeLine/\(p == sysModules)=false/\∃vs,KV kvs vs/\s.heap.DictOf (bN X.prog X.w) p vs:=I.hok p _ hx
   have hlen:kvs.length=vs.length:=Paired.length r
   exact wpAny_truthy_dict hS m (by omega) ⟨H,I.tok _,by rw [wc r];exact q⟩
 | _=>exact (show False from e).elim
theorem zM (ha:PE X a ta) (he:∀whole,isTrue a X.env whole=(do let v <- whole;standAt a.pos;holding [v] (truthy v))) :
  PT X a (fun σ H Q=>ta σ H fun x H'=>uq X.K x H' Q):=by
 intro pins s σ H Q I h
 exact isTrue_plain (thn (ha pins s σ H _ I h) fun v s1 ⟨x,H1,I1,r1,q1⟩=>CJ pins s1 σ H1 x v Q I1 r1 q1) (he _)
theorem vP:OpR X (binaryOp .Add) (fun x y H Q=>∃i j,x=.str i/\y=.str j/\i.length + j.length <= sizeLine/\Q (.str (i ++ j)) H):=by
 intro pins s σ H x y v u Q I rx ry h
 obtain ⟨i,j,rfl,rfl,hz,q⟩:=h
 obtain ⟨t,rfl⟩:=rx
 obtain ⟨t',rfl⟩:=ry
 exact add_str (fun t' tk=>⟨.str (i ++ j),H,I.tok _,⟨_,rfl⟩,q⟩) hz
theorem vals1 {x:V}{us:List Value} (r:Vals [x] us):∃u,us=[u]/\RelV x u:=by
 cases r with
 | cons r1 r2=>cases r2;exact ⟨_,rfl,r1⟩
theorem vals2 {x y:V}{us:List Value} (r:Vals [x,y] us):∃u w',us=[u,w']/\RelV x u/\RelV y w':=by
 cases r with
 | cons r1 r2 =>
  cases r2 with
  | cons r3 r4=>cases r4;exact ⟨_,_,rfl,r1,r3⟩
theorem yg (hc:X.calm=true):dg X (.builtin "max") (fun xs H Q=>∃i j,xs=[.int i,.int j]/\Q (.int (if j > i then j else i)) H):=by
 intro pins s σ H xs us Q I r h
 obtain ⟨i,j,rfl,q⟩:=h
 obtain ⟨u,w',rfl,⟨t,rfl⟩,⟨t',rfl⟩⟩:=vals2 r
 refine max_two_ints (I.ok.hd hc) fun h' tk k=>⟨_,H,I.kept k,?_,q⟩
 by_cases hj:j > i
 ·rw [if_pos hj,if_pos hj];exact ⟨_,rfl⟩
 ·rw [if_neg hj,if_neg hj];exact ⟨_,rfl⟩
def EZ (K:W.Frag) (x:V) (H:Hp) (n:Nat):Prop :=
 match x with
 | .str y=>y.length <= sizeLine/\n=y.length
 | .byt y=>y.size <= sizeLine/\n=y.size
 | .ref p=>(∃xs,SqL K H p xs/\n=xs.length) \/ ∃xs,SqT K H p xs/\n=xs.length
 | _=>False
theorem yV:dg X (.builtin "len") (fun xs H Q=>∃x n,xs=[x]/\EZ X.K x H n/\Q (.int n) H):=by
 intro pins s σ H xs us Q I r h
 obtain ⟨x,n,rfl,e,q⟩:=h
 obtain ⟨u,rfl,rx⟩:=vals1 r
 have hl:=mV
 have hs:sizeLine=16777216:=sizeLine_eq
 cases x with
 | str y =>
  obtain ⟨t,rfl⟩:=rx
  obtain ⟨hy,e'⟩:y.length <= sizeLine/\n=y.length:=e
  subst e'
  exact len_str (by omega) ⟨.int _,H,I.tok _,⟨_,rfl⟩,q⟩
 | byt y =>
  obtain ⟨t,rfl⟩:=rx
  obtain ⟨hy,e'⟩:y.size <= sizeLine/\n=y.size:=e
  subst e'
  exact W.len_bytes (by omega) ⟨.int _,H,I.tok _,⟨_,rfl⟩,q⟩
 | ref p =>
  cases rx
  have e':(∃xs,SqL X.K H p xs/\n=xs.length) \/ ∃xs,SqT X.K H p xs/\n=xs.length:=e
  rcases e' with ⟨xs,hx,e'⟩ | ⟨xs,hx,e'⟩
  ·subst e'
   obtain ⟨its,r',pl,hz⟩:=I.list hx
   have hlen:=r'.length
   exact Calls.call_len_list pl.isList (by simp only [List.size_toArray];omega) ⟨.int xs.length,H,I.tok _,⟨_,by simp only [List.size_toArray];rw [hlen]⟩,q⟩
  ·subst e'
   obtain ⟨its,r',pl,hz⟩:=I.tuple hx
   have hlen:=r'.length
   exact len_tuple pl (by simp only [List.size_toArray];omega) ⟨.int xs.length,H,I.tok _,⟨_,by simp only [List.size_toArray];rw [hlen]⟩,q⟩
 | _=>exact (show False from e).elim
end
end L2
namespace L2
open PySem PySem.Spec PyProof.Rows
structure wb (h:Heap) (x dx C:Addr) (mA:Str->Option Value):Prop where
 obj:h.get? x=some (W.instObj C dx)
 ns:h.Ns1 dx mA
 ne:dx ≠ x
theorem yA {h:Heap}{dx:Addr}{mA:Str->Option Value} (n:h.Ns1 dx mA):∃od,h.get? dx=some od/\∀name,W.lookIn name od=some (mA name):=by
 obtain ⟨o,es,ep,ho,hd,hk,_,hm⟩:=n
 refine ⟨o,ho,fun name=>?_⟩
 have e:=hm name
 unfold nsFind findBy at e
 rw [<- Array.find?_toList] at e
 unfold W.lookIn
 rw [hd]
 dsimp only
 split
 ·rename_i y q
  rw [q] at e
  exact congrArg some e
 ·rename_i q
  rw [q] at e
  have a:es.toList.any (·.refKey)=false:=by
   rw [List.any_eq_false]
   intro y hy
   obtain ⟨z,t,hkey⟩:=hk y (Array.mem_toList_iff.mp hy)
   simp [DictEntry.refKey,hkey]
  have a':¬ es.toList.any (·.refKey)=true:=by rw [a];exact Bool.false_ne_true
  rw [if_neg a']
  exact congrArg some e
theorem wb.look {h:Heap}{x dx C:Addr}{mA:Str->Option Value} (I:wb h x dx C mA):∃od,W.InstAt h x (W.instObj C dx) C (some od)/\∀name,W.lookIn name od=some (mA name) :=
 let ⟨od,ho,hl⟩:=yA I.ns
 ⟨od,⟨I.obj,rfl,rfl,ho⟩,hl⟩
section
variable {prog:Program}{w:World}{A:Around}{E:Value->Shared->Prop}{s:Shared}{K:W.Frag}{x dx C f:Addr}{mA:Str->Option Value}{name:Str}{v:Value}
theorem get_map {expr:Bool}{Q:Value->Shared->Prop} (X:K.In s.heap) (I:wb s.heap x dx C mA) (hg:W.plainGet K C name=true) (hh:W.hasDictIn K C=true)
  (ha:W.findIn K (.ref C) name=some none) (hv:mA name=some v) (hv':W.handedIn v=true) (h:Q v { s with toks:=s.toks + 1 }) :
  wpAny (model prog w) A (getAttr (.ref x) name expr) Q E s:=by
 obtain ⟨od,J,hl⟩:=I.look
 exact W.get_value X J (W.plainGet_of hg).1 (W.findObj_own hh ha rfl (by rw [hl,hv])) hv' h
theorem As {pl:Sem Bool}{Q:Value × List Value->Shared->Prop} (X:K.In s.heap) (I:wb s.heap x dx C mA) (hg:W.plainGet K C name=true)
  (hf:W.findIn K (.ref C) name=some (some (.ref f))) (ht:W.isFn K (.ref f)=true) (hv:mA name=none) (h:Q (.ref f,[.ref x]) s) :
  wpAny (model prog w) A (getMethod (.ref x) name pl) Q E s:=by
 obtain ⟨od,J,hl⟩:=I.look
 exact W.method_fn X J (W.plainGet_of hg).1 (W.plainGet_of hg).2 hf (beq_iff_eq.mp ht) (by show (W.lookIn name od).map (·.isSome)=some false;rw [hl,hv];rfl) h
theorem Bh {ns:List Str}{Q:Unit->Shared->Prop} (X:K.In s.heap) (I:wb s.heap x dx C mA)
  (hs:W.findIn K (.ref C) "__setattr__"=some (some (.builtin "object.__setattr__"))) (hp:W.plainOver K C=true) (ht:W.takerIn K C name=some none) (hh:W.hasDictIn K C=true)
  (hw:PySem.Within mA ns) (hsz:ns.length <= sizeLine)
  (h:∀h',wb h' x dx C (fun y=>if y=name then some v else mA y)->Heap.SameBut dx s.heap h'->Q () { s with heap:=h',toks:=s.toks + 2 }) :
  wpAny (model prog w) A (setAttr (.ref x) name v) Q E s:=by
 obtain ⟨od,J,hl⟩:=I.look
 refine W.set_plain X J hs (W.osa_open (s:={ s with toks:=s.toks + 1 }) (r:=none) X J hp ht fun b=>?_)
 obtain ⟨cd,hc,hd'⟩:=W.any_some hh
 have hx:s.heap.get? x=some ⟨.ref C,some dx,.plain,#[]⟩:=I.obj
 refine wpAny_bind (wpAny_pure (wpAny_bind (wpAny_bind (wpAny_loadPart hx (wpAny_bind (W.Looks.here (s:={ s with toks:=s.toks + 1 }) (W.looks_clsIn X hc) ?_))))))
 rw [hd']
 refine wpAny_pure (a:=some dx) (wpAny_bind (wpAny_pure (wpAny_bind ?_)))
 refine wpAny_nsSet1 (s:={ s with toks:=s.toks + 1 }) I.ns fun h' hn2 hs2=>?_
 obtain ⟨oD,esD,epD,hoD,hdD,hcD⟩:=hn2.count (PySem.Within.cons name v hw)
 refine wpAny_bind (wpAny_lookBehind hoD (by rw [hdD];exact pastItsLine_dict (Nat.le_trans hcD (by rw [List.length_cons];omega))) ?_)
 exact wpAny_pure (h _ ⟨(hs2.2 _ (Ne.symm I.ne)).trans I.obj,hn2,I.ne⟩ hs2)
theorem Ax {R:Result->Shared->Prop}{vs:List Value}{kw:List (Str × Value)} (X:K.In s.heap) (hm:W.makesIn K C=true)
  (hi:W.findIn K (.ref C) "__init__"=some (some (.ref f))) (hf:W.typeIn K (.ref f)=some (.type "function"))
  (h:codeAny (model prog w) (A.under (.builtin "type.__call__" ⟨.ref C :: vs,kw⟩)) (.call (.ref f) ⟨.ref (s.heap.objs.size + 1) :: vs,kw⟩) (W.InitBack (s.heap.objs.size + 1) R)
   { s with heap:=(s.heap.push W.emptyDict).push (W.instObj C s.heap.objs.size) }) :
  codeAny (model prog w) A (.call (.ref C) ⟨vs,kw⟩) R s:=by
 obtain ⟨hh,g,d,t,os⟩:=s
 exact W.make_core (W.makes_of X hm) (W.looks_findIn X hi) (fun self=>W.bind_fn X self hf) (.inl rfl) h
end
def fM (f:Str) (v:V):List (Str × V)->List (Str × V)
 | []=>[(f,v)]
 | (g,x) :: r=>if g=f then (g,v) :: r else (g,x) :: fM f v r
theorem nF (f g:Str) (v:V):∀fs:List (Str × V),(fM f v fs).lookup g=if g=f then some v else fs.lookup g
 | []=>by
  show List.lookup g [(f,v)]=_
  by_cases h:g=f
  ·have hb:(g == f)=true:=beq_iff_eq.mpr h
   simp only [List.lookup,hb,if_pos h]
  ·have hb:(g == f)=false:=beq_eq_false_iff_ne.mpr h
   simp only [List.lookup,hb,if_neg h]
 | (k,x) :: r=>by
  have ih:=nF f g v r
  rw [show fM f v ((k,x) :: r)=(if k=f then (k,v) :: r else (k,x) :: fM f v r) from rfl]
  by_cases hk:k=f
  ·rw [if_pos hk]
   by_cases h:g=k
   ·have hb:(g == k)=true:=beq_iff_eq.mpr h
    simp only [List.lookup,hb,if_pos (h.trans hk)]
   ·have hb:(g == k)=false:=beq_eq_false_iff_ne.mpr h
    simp only [List.lookup,hb,if_neg (fun e:g=f=>h (e.trans hk.symm))]
  ·rw [if_neg hk]
   by_cases h:g=k
   ·have hb:(g == k)=true:=beq_iff_eq.mpr h
    simp only [List.lookup,hb,if_neg (fun e:g=f=>hk (h.symm.trans e))]
   ·have hb:(g == k)=false:=beq_eq_false_iff_ne.mpr h
    simp only [List.lookup,hb]
    exact ih
theorem mI (f:Str) (v:V):∀fs:List (Str × V),f ∈ (fM f v fs).map (·.1)/\∀g,g ∈ fs.map (·.1)->g ∈ (fM f v fs).map (·.1)
 | []=>⟨by simp [fM],fun g h=>by simp at h⟩
 | (k,x) :: r=>by
  obtain ⟨i1,i2⟩:=mI f v r
  rw [show fM f v ((k,x) :: r)=(if k=f then (k,v) :: r else (k,x) :: fM f v r) from rfl]
  by_cases hk:k=f
  ·rw [if_pos hk]
   subst hk
   exact ⟨by simp,fun g h=>by simpa using h⟩
  ·rw [if_neg hk]
   refine ⟨?_,fun g h=>?_⟩
   ·rw [List.map_cons]
    exact List.mem_cons_of_mem _ i1
   ·rw [List.map_cons] at h ⊢
    rcases List.mem_cons.mp h with e | e
    ·exact List.mem_cons.mpr (.inl e)
    ·exact List.mem_cons_of_mem _ (i2 g e)
theorem nE (f:Str) (v:V):∀fs:List (Str × V),(fM f v fs).length <= fs.length + 1
 | []=>by simp [fM]
 | (k,x) :: r=>by
  have ih:=nE f v r
  rw [show fM f v ((k,x) :: r)=(if k=f then (k,v) :: r else (k,x) :: fM f v r) from rfl]
  by_cases hk:k=f
  ·rw [if_pos hk,List.length_cons,List.length_cons];omega
  ·rw [if_neg hk,List.length_cons,List.length_cons];omega
theorem kM.some_of {v:V}{o:Option Value} (r:kM (some v) o):∃u,o=some u/\RelV v u:=by
 cases o with
 | none=>exact (show False from r).elim
 | some u=>exact ⟨u,rfl,r⟩
theorem kM.none_of {o:Option Value} (r:kM none o):o=none:=by
 cases o with
 | none=>rfl
 | some u=>exact (show False from r).elim
theorem yo {v:V}{u:Value} (r:RelV v u):W.handedIn u=true:=by
 cases v with
 | non=>cases (show u=Value.none from r);rfl
 | bl b=>cases (show u=Value.bool b from r);rfl
 | int i=>obtain ⟨t,e⟩:=(show ∃t,u=Value.int i t from r);cases e;rfl
 | str x=>obtain ⟨t,e⟩:=(show ∃t,u=Value.str x t from r);cases e;rfl
 | byt b=>obtain ⟨t,e⟩:=(show ∃t,u=Value.bytes b t from r);cases e;rfl
 | flt b=>obtain ⟨t,e⟩:=(show ∃t,u=Value.float b t from r);cases e;rfl
 | ref a=>cases (show u=Value.ref a from r);rfl
 | ty n=>cases (show u=Value.type n from r);rfl
section
variable {P:Program}{w:World}{H H':Hp}{h h':Heap}{a C dx:Addr}{fs fs':List (Str × V)}
theorem ot (hok:HOk P w H h) (e:H a=some (.ins C dx fs)):∃mA,wb h a dx C mA/\(∀f,kM (fs.lookup f) (mA f))/\PySem.Within mA (fs.map (·.1))/\fs.length <= 1000/\H dx=some (.own a):=by
 obtain ⟨d,z,ne,ob,mA,n,r,q⟩:=(show cn P w H h a (.ins C dx fs) from hok a _ e)
 exact ⟨mA,⟨ob,n,ne⟩,r,q,z,d⟩
end
structure Cls (K:W.Frag) (C:Addr):Prop where
 pg:W.plainGet K C Str.empty=true
 hd:W.hasDictIn K C=true
 po:W.plainOver K C=true
 sa:W.findIn K (.ref C) "__setattr__"=some (some (.builtin "object.__setattr__"))
theorem Cls.get {K:W.Frag}{C:Addr} (c:Cls K C) (f:Str):W.plainGet K C f=true:=c.pg
def aK (K:W.Frag) (C:Addr) (f:Str):Prop:=W.findIn K (.ref C) f=some none
theorem aK.DY {K:W.Frag}{C:Addr}{f:Str} (n:aK K C f):W.takerIn K C f=some none:=by
 unfold W.takerIn
 rw [show W.findIn K (.ref C) f=some none from n]
 rfl
structure Con (K:W.Frag) (C:Addr) (f:Str) (v:V) (u:Value):Prop where
 at_:W.findIn K (.ref C) f=some (some u)
 rel:RelV v u
 get:W.specialIn K u "__get__"=some none
 cp:W.copiedNames.contains f=false
structure Meth (K:W.Frag) (C:Addr) (m:Str) (f:Addr):Prop where
 at_:W.findIn K (.ref C) m=some (some (.ref f))
 fn:W.isFn K (.ref f)=true
 kp:W.keepIn K (.ref f)=true
section
variable {X:Cx}{pins:List (Addr × Obj)}{σ:St}{H:Hp}{s:Shared}{a C dx:Addr}{fs:List (Str × V)}{f:Str}{v:V}{A:Around}{E:Value->Shared->Prop}
theorem wC {b:Bool}{Q:Value->Shared->Prop} (I:Inv X pins σ H s) (e:H a=some (.ins C dx fs)) (c:Cls X.K C) (n:aK X.K C f) (l:fs.lookup f=some v)
  (h:∀u s',Inv X pins σ H s'->RelV v u->Q u s'):wpAny (model X.prog X.w) A (getAttr (.ref a) f b) Q E s:=by
 obtain ⟨mA,O,r,_,_,_⟩:=ot I.hok e
 obtain ⟨u,hu,ru⟩:=kM.some_of (v:=v) (o:=mA f) (by rw [<- l];exact r f)
 exact get_map I.kIn O (c.get f) c.hd n hu (yo ru) (h u _ (I.tok _) ru)
theorem wu {m:Str}{g:Addr}{pl:Sem Bool}{Q:Value × List Value->Shared->Prop} (I:Inv X pins σ H s) (e:H a=some (.ins C dx fs)) (c:Cls X.K C) (k:Meth X.K C m g) (l:fs.lookup m=none)
  (h:Q (.ref g,[.ref a]) s):wpAny (model X.prog X.w) A (getMethod (.ref a) m pl) Q E s:=by
 obtain ⟨mA,O,r,_,_,_⟩:=ot I.hok e
 have hn:mA m=none:=kM.none_of (by rw [<- l];exact r m)
 exact As I.kIn O (c.get m) k.at_ k.fn hn h
theorem vI {y:V}{u:Value}{Q:Unit->Shared->Prop} (I:Inv X pins σ H s) (e:H a=some (.ins C dx fs)) (c:Cls X.K C) (n:aK X.K C f) (hl:fs.length < 1000) (ry:RelV y u)
  (h:∀s',Inv X pins σ (upd H a (.ins C dx (fM f y fs))) s'->Q () s'):wpAny (model X.prog X.w) A (setAttr (.ref a) f u) Q E s:=by
 obtain ⟨mA,O,r,wi,_,ho⟩:=ot I.hok e
 have hz:(fs.map (·.1)).length <= sizeLine:=by rw [List.length_map,sizeLine_eq];omega
 refine Bh I.kIn O c.sa c.po n.DY c.hd wi hz fun h' O' sb=>h _ ?_
 have hd:∃o,h'.get? dx=some o:=let ⟨o,_,_,e',_⟩:=O'.ns;⟨o,e'⟩
 refine I.write (x:=a) (e:=dx) (by rw [e];exact True.intro) (.inr ho) (fun b q hb z=>(sb.2 b hb).trans z) hd ?_
 refine ⟨by rw [aI O.ne];exact ho,?_,O.ne,O'.obj,_,O'.ns,fun g=>?_,fun g hg=>?_⟩
 ·have:=nE f y fs;omega
 ·show kM ((fM f y fs).lookup g) (if g=f then some u else mA g)
  rw [nF]
  by_cases q:g=f
  ·rw [if_pos q,if_pos q];exact ry
  ·rw [if_neg q,if_neg q];exact r g
 ·by_cases q:g=f
  ·rw [q];exact (mI f y fs).1
  ·refine (mI f y fs).2 g (wi g fun z=>hg ?_)
   show (if g=f then some u else mA g)=none
   rw [if_neg q];exact z
theorem Inv.made (I:Inv X pins σ H s):Inv X pins σ (upd (upd H s.heap.objs.size (.own (s.heap.objs.size + 1))) (s.heap.objs.size + 1) (.ins C s.heap.objs.size []))
  { s with heap:=(s.heap.push W.emptyDict).push (W.instObj C s.heap.objs.size) }:=by
 have e1:(s.heap.push W.emptyDict).get? s.heap.objs.size=some W.emptyDict:=Heap.get?_push_size s.heap rfl
 have e2:((s.heap.push W.emptyDict).push (W.instObj C s.heap.objs.size)).get? (s.heap.objs.size + 1)=some (W.instObj C s.heap.objs.size):=by
  have:=Heap.get?_push_size (s.heap.push W.emptyDict) (o:=W.instObj C s.heap.objs.size) rfl
  rwa [Heap.size_push] at this
 have e3:(s.heap.push W.emptyDict).Ns s.heap.objs.size (fun _=>none):=⟨W.emptyDict,#[],_,e1,rfl,(fun e he=>absurd he (by simp)),fun _=>rfl⟩
 have I1:=I.laid (a:=s.heap.objs.size) (o:=.own (s.heap.objs.size + 1)) (h':=s.heap.push W.emptyDict) (t':=s.toks) (fun b u q=>Heap.get?_push_of_some _ q) (Nat.le_refl _) ⟨_,e1⟩
 refine I1.laid (a:=s.heap.objs.size + 1) (o:=.ins C s.heap.objs.size []) (t':=s.toks) (fun b u q=>Heap.get?_push_of_some _ q) (Nat.le_of_eq (Heap.size_push _ _)) ?_
 have ne:s.heap.objs.size ≠ s.heap.objs.size + 1:=Nat.ne_of_lt (Nat.lt_succ_self _)
 refine ⟨by rw [aI ne,aw],Nat.zero_le _,ne,e2,fun _=>none,(Heap.Ns1.of_empty e3).at fun o q=>Heap.get?_push_of_some _ q,fun _=>True.intro,fun y hy=>absurd rfl hy⟩
theorem Bu {prog:Program}{w:World}{env:Env}{e:Expr}{f:Str}{pos:Pos}{s:Shared}{Q:Value->Shared->Prop} (hb:attributeBase e f env (eval e env)=eval e env)
  (h:wpAny (model prog w) A (eval e env) (fun o s₁=>wpAny (model prog w) A (getAttr o f true) Q E s₁) E s):wpAny (model prog w) A (eval (.Attribute e f pos) env) Q E s :=
 Attribute_any_ h (by rw [arm_eval_Attribute,hb])
end
inductive mi (K:W.Frag) (f:Str) (x:V) (H:Hp) (Q:VK):Prop
 | mk (a C dx:Addr) (fs:List (Str × V)) (v:V) (h0:x=.ref a) (h1:H a=some (.ins C dx fs)) (h2:Cls K C) (h3:aK K C f) (h4:fs.lookup f=some v) (q:Q v H):mi K f x H Q
def Fc (K:W.Frag) (ta:TE) (f:Str):TE:=fun σ H Q=>ta σ H fun x H1=>mi K f x H1 Q
inductive Ct (K:W.Frag) (f:Str) (y x:V) (H:Hp) (Q:Hp->Prop):Prop
 | mk (a C dx:Addr) (fs:List (Str × V)) (h0:x=.ref a) (h1:H a=some (.ins C dx fs)) (h2:Cls K C) (h3:aK K C f) (h4:fs.length < 1000) (q:Q (upd H a (.ins C dx (fM f y fs)))):Ct K f y x H Q
def Fw (K:W.Frag) (ta tv:TE) (f:Str):TS:=fun D σ H=>tv σ H fun y H1=>ta σ H1 fun x H2=>Ct K f y x H2 (D.nx σ)
section
variable {X:Cx}{o e value:Expr}{f:Str}{pos pos' tpos:Pos}{ta tv:TE}
theorem au (he:PE X e ta) (hb:attributeBase e f X.env (eval e X.env)=eval e X.env):PE X (.Attribute e f pos) (Fc X.K ta f):=by
 intro pins s σ H Q I h
 refine Bu hb (thn (he pins s σ H _ I h) fun u s1 ⟨x,H1,I1,rx,a,C,dx,fs,v,ex,ea,c,n,l,q⟩=>?_)
 subst ex
 obtain rfl:u=Value.ref a:=rx
 exact wC I1 ea c n l fun u' s2 I2 ru=>⟨v,H1,I2,ru,q⟩
theorem a9 (ha:PE X o ta) (hv:PE X value tv) (hs:swapsWith value (some (.Attribute o f pos')) pos.line X.env=pure false):PS X (.Assign [.Attribute o f pos'] value pos) (Fw X.K ta tv f):=by
 intro pins s σ H D I h
 refine plainObj_wpAny_Assign_Attribute (thn (hv pins s σ H _ I h) fun u s1 ⟨y,H1,I1,ry,q⟩=>thn (ha pins s1 σ H1 _ I1 q) fun ov s2 ⟨x,H2,I2,rx,a,C,dx,fs,ex,ea,c,n,l,q2⟩=>?_) hs
 subst ex
 obtain rfl:ov=Value.ref a:=rx
 exact vI I2 ea c n l ry fun s3 I3=>⟨σ,_,I3,q2⟩
end
section
variable {X:Cx}{pins:List (Addr × Obj)}{σ:St}{H:Hp}{s:Shared}{A:Around}{E:Value->Shared->Prop}{Q:Value->Shared->Prop}{c:Value}{b:Bool}
inductive lB (K:W.Frag) (H:Hp):V->Value->Prop where
 | non:lB K H .non (.type "NoneType")
 | bl (x:Bool):lB K H (.bl x) (.type "bool")
 | int (i:Int):lB K H (.int i) (.type "int")
 | str (x:Str):lB K H (.str x) (.type "str")
 | flt (x:UInt64):lB K H (.flt x) (.type "float")
 | lst {a:Addr}{xs:List V} (e:H a=some (.lst xs)):lB K H (.ref a) (.type "list")
 | frz {a:Addr}{o:Obj}{xs:List V} (e:H a=some (.frz o (.lst xs))):lB K H (.ref a) (.type "list")
 | tup {a:Addr}{xs:List V} (e:H a=some (.tup xs)):lB K H (.ref a) (.type "tuple")
 | dK {a:Addr}{kvs:List (Key × V)} (e:H a=some (.dK kvs)):lB K H (.ref a) (.type "dict")
 | dT {a:Addr}{kvs:List (List Key × V)} (e:H a=some (.dT kvs)):lB K H (.ref a) (.type "dict")
 | ins {a C dx:Addr}{fs:List (Str × V)} (e:H a=some (.ins C dx fs)) (cl:Cls K C) (ha:W.findIn K (.ref C) "__class__"=some (some (.builtin "object.__class__")))
   (hn:W.specialIn K (.builtin "object.__class__") "__get__"=some (some (.builtin "getset_descriptor.__get__"))) (htk:W.takesIn K (.builtin "object.__class__")=some true)
   (hm:W.mroIn K C (.type "object")=some true):lB K H (.ref a) (.ref C)
theorem yp {x:V}{u t:Value} (I:Inv X pins σ H s) (rx:RelV x u) (ty:lB X.K H x t) (e:W.kitOne X.K t c=some b) (h:∀tk,Q (.bool b) { s with toks:=tk }) :
  wpAny (model X.prog X.w) A (call (.builtin "isinstance") [u,c]) Q E s:=by
 cases ty with
 | non=>cases (show u=Value.none from rx);exact W.kia_one W.kitx_none I.kIn True.intro e (fun z=>nomatch z) h
 | bl y=>cases (show u=Value.bool y from rx);exact W.kia_one W.kitx_bool I.kIn True.intro e (fun z=>nomatch z) h
 | int i=>obtain ⟨t,q⟩:=(show ∃t,u=Value.int i t from rx);cases q;exact W.kia_one W.kitx_int I.kIn True.intro e (fun z=>nomatch z) h
 | str y=>obtain ⟨t,q⟩:=(show ∃t,u=Value.str y t from rx);cases q;exact W.kia_one W.kitx_str I.kIn True.intro e (fun z=>nomatch z) h
 | flt y=>obtain ⟨t,q⟩:=(show ∃t,u=Value.float y t from rx);cases q;exact W.kia_one W.kitx_float I.kIn True.intro e (fun z=>nomatch z) h
 | @lst a xs ea =>
  cases (show u=Value.ref a from rx)
  obtain ⟨_,_,n,_,h1⟩:=(show cn X.prog X.w H s.heap a (.lst xs) from I.hok a _ ea)
  exact W.kia_one W.kitx_list I.kIn ⟨_,h1,rfl⟩ e (fun z=>nomatch z) h
 | @frz a ob xs ea =>
  cases (show u=Value.ref a from rx)
  obtain ⟨_,_,_,n,_,h1⟩:=(show cn X.prog X.w H s.heap a (.frz ob (.lst xs)) from I.hok a _ ea)
  exact W.kia_one W.kitx_list I.kIn ⟨_,h1,rfl⟩ e (fun z=>nomatch z) h
 | @tup a xs ea =>
  cases (show u=Value.ref a from rx)
  obtain ⟨_,_,_,p⟩:=(show cn X.prog X.w H s.heap a (.tup xs) from I.hok a _ ea)
  obtain ⟨o,h1,h2,_⟩:=p
  exact W.kia_one W.kitx_tuple I.kIn ⟨o,h1,h2⟩ e (fun z=>nomatch z) h
 | @dK a kvs ea =>
  cases (show u=Value.ref a from rx)
  obtain ⟨_,_,vs,_,p⟩:=(show cn X.prog X.w H s.heap a (.dK kvs) from I.hok a _ ea)
  obtain ⟨o,es,ep,h1,h2,_⟩:=p
  exact W.kia_one W.kitx_dict I.kIn ⟨o,h1,h2.1⟩ e (fun z=>nomatch z) h
 | @dT a kvs ea =>
  cases (show u=Value.ref a from rx)
  obtain ⟨_,_,xs,_,o,es,ep,h1,h2,_⟩:=(show cn X.prog X.w H s.heap a (.dT kvs) from I.hok a _ ea)
  exact W.kia_one W.kitx_dict I.kIn ⟨o,h1,h2.1⟩ e (fun z=>nomatch z) h
 | @ins a C dx fs ea cl ha hn htk hm =>
  cases (show u=Value.ref a from rx)
  obtain ⟨mA,O,_⟩:=ot I.hok ea
  obtain ⟨od,J,_⟩:=O.look
  exact W.kia_one (W.kitx_own (cl.get _) cl.hd ha hn htk hm) I.kIn J e (fun z=>nomatch z) h
end
end L2
namespace L2
open PySem PySem.Spec PyProof.Rows
structure dJ (k:Nat) (A:Around):Prop where
 hd:A.handled=none
 dp:A.depth + 3 * k + 5 < recursionLimit
 un:A.units + 16 * k + 200 < cLine
theorem dJ.mono {j k:Nat}{A:Around} (r:dJ k A) (h:j <= k):dJ j A:=⟨r.hd,by have:=r.dp;omega,by have:=r.un;omega⟩
theorem dJ.deeper {k:Nat}{A:Around} (r:dJ (k + 1) A) (env:Env):dJ k (A.deeper env) :=
 ⟨r.hd,by have:=r.dp;show A.depth + 1 + 3 * k + 5 < _;omega,by have:=r.un;show A.units + 3 + 16 * k + 200 < _;omega⟩
theorem wk {A:Around}{C:Addr}{us:List Value}{kw:List (Str × Value)}:(A.under (.builtin "type.__call__" ⟨.ref C :: us,kw⟩)).depth=A.depth + 1:=by
 first | rfl | simp [Around.under,Code.weight,Code.isCreation,Code.isGuard,Code.isCaller,Code.frames,Code.isFrame,guardIds]
theorem wz {A:Around}{C:Addr}{us:List Value}{kw:List (Str × Value)}:(A.under (.builtin "type.__call__" ⟨.ref C :: us,kw⟩)).units=A.units + 1:=by
 first | rfl | simp [Around.under,Code.cUnits,Code.frames,Code.isFrame]
theorem dJ.make {k:Nat}{A:Around} (r:dJ (k + 1) A) (C:Addr) (us:List Value) (kw:List (Str × Value)):dJ k (A.under (.builtin "type.__call__" ⟨.ref C :: us,kw⟩)) :=
 ⟨r.hd,by have:=r.dp;rw [wk];omega,by have:=r.un;rw [wz];omega⟩
theorem dJ.depth {k:Nat}{A:Around} (r:dJ k A):A.depth < recursionLimit:=by have:=r.dp;omega
theorem dJ.units {k:Nat}{A:Around} (r:dJ k A):A.units + 64 < cLine:=by have:=r.un;omega
def Bp:TA:=fun _ H Q=>Q [] H
def AD (ta:TE) (tr:TA):TA:=fun σ H Q=>ta σ H fun x H1=>tr σ H1 fun xs H2=>Q (x :: xs) H2
section
variable {X:Cx}{e:Expr}{es:List Expr}{te:TE}{t:TA}{pos:Pos}
theorem ae:PA X [] Bp:=fun _ _ _ _ H Q I h=>Calls.spliced_nil ⟨[],H,I,.nil,h⟩
theorem aa (ha:PE X e te) (hr:PA X es t) (hs:starEach (e :: es) X.env=(false,eval e X.env) :: starEach es X.env:=by rfl):PA X (e :: es) (AD te t):=by
 intro pos pins s σ H Q I h
 rw [hs]
 show wpAny _ _ (spliced ((false,eval e X.env) :: backTo pos (starEach es X.env))) _ _ s
 refine Calls.spliced_cons (thn (ha pins s σ H _ I h) fun u s1 ⟨x,H1,I1,r1,q1⟩=>?_)
 exact thn (hr pos pins s1 σ H1 _ I1 q1) fun us s2 ⟨xs,H2,I2,r2,q2⟩=>⟨x :: xs,H2,I2,.cons r1 r2,q2⟩
def Fg (t:TA):TE:=fun σ H Q=>t σ H fun xs H1=>xs.length <= sizeLine/\∀p,H1 p=none->Q (.ref p) (upd H1 p (.tup xs))
def Fu (t:TA):TE:=fun σ H Q=>t σ H fun xs H1=>xs.length <= sizeLine/\∀p,H1 p=none->Q (.ref p) (upd H1 p (.lst xs))
theorem bR {x1} (h:PA X es t):PE X (.Tuple es x1 pos) (Fg t):=by
 intro pins s σ H Q I hq
 refine wpAny_Tuple_spliced (thn (h pos pins s σ H _ I hq) fun us s1 ⟨xs,H1,I1,r,z,q⟩=>⟨by rw [<- r.length];exact z,?_⟩)
 have hf:H1 s1.heap.objs.size=none:=I1.hok.fresh (Nat.le_refl _)
 refine ⟨.ref s1.heap.objs.size,upd H1 s1.heap.objs.size (.tup xs),I1.laid (t':=s1.toks) (fun b u e=>Heap.get?_push_of_some _ e) (Nat.le_refl _) ?_,rfl,q _ hf⟩
 exact ⟨z,us,r,⟨_,Heap.get?_push_size _ rfl,rfl,_,rfl⟩⟩
theorem aZ (h:PA X es t):PE X (.List es pos) (Fu t):=by
 intro pins s σ H Q I hq
 refine wpAny_List_spliced (thn (h pos pins s σ H _ I hq) fun us s1 ⟨xs,H1,I1,r,z,q⟩=>⟨by rw [<- r.length];exact z,?_⟩)
 have hf:H1 s1.heap.objs.size=none:=I1.hok.fresh (Nat.le_refl _)
 refine ⟨.ref s1.heap.objs.size,upd H1 s1.heap.objs.size (.lst xs),I1.laid (t':=s1.toks) (fun b u e=>Heap.get?_push_of_some _ e) (Nat.le_refl _) ?_,rfl,q _ hf⟩
 exact ⟨z,us,0,r,Heap.get?_push_size _ rfl⟩
end
abbrev Sp:=List V->Hp->VK->XK->Prop
abbrev CXT:=List Env->Hp->Shared->XK->Value->Shared->Prop
structure wK (P:Program) (w:World) (K:W.Frag) (mg:Str->Option Value) (base:Heap) (A:Around) (outer:List Env) (s:Shared) (H:Hp):Prop where
 frames:A.frames=some outer
 mod:Mod K mg base
 bs:∀b o,base.get? b=some o->s.heap.get? b=some o/\H b=none
 bsz:base.objs.size <= s.heap.objs.size
 nQ:s.heap.FunFrames base outer
 frf:∀b ∈ frs outer,H b=none
 hok:HOk P w H s.heap
 bare:AllBare s.gens
def CE (outer:List Env) (P:Program) (w:World) (H:Hp) (s:Shared) (Q:VK) (u:Value) (s':Shared):Prop :=
 ∃v H',s'.os=s.os/\AllBare s'.gens/\Un (frs outer) [] H H' s.heap s'.heap/\HOk P w H' s'.heap/\RelV v u/\Q v H'
def CR (CX:CXT) (outer:List Env) (P:Program) (w:World) (H:Hp) (s:Shared) (Q:VK) (E:XK) (r:Result) (s':Shared):Prop :=
 match r with
 | .ok (.ret u)=>CE outer P w H s Q u s'
 | .ok _=>False
 | .error e=>CX outer H s E e s'
structure jx (P:Program) (w:World) (K:W.Frag) (mg:Str->Option Value) (base:Heap) (CX:CXT) (k:Nat) (f:Addr) (fd:FuncData) (ps:List Str) (sp:Sp):Prop where
 len:∀vs H Q E,sp vs H Q E->vs.length=ps.length
 run:∀(A:Around) (outer:List Env) (s:Shared) (H:Hp) (args:Args) (us:List Value) (vs:List V) (Q:VK) (E:XK),dJ k A->wK P w K mg base A outer s H->BindsTo s fd args (ps.zip us)->Vals vs us->sp vs H Q E ->
  codeAny (model P w) A (.call (.ref f) args) (CR CX outer P w H s Q E) s
theorem jx.mono {P:Program}{w:World}{K:W.Frag}{mg:Str->Option Value}{base:Heap}{CX:CXT}{j k:Nat}{f:Addr}{fd:FuncData}{ps:List Str}{sp:Sp} (F:jx P w K mg base CX j f fd ps sp) (h:j <= k) :
  jx P w K mg base CX k f fd ps sp:=⟨F.len,fun A outer s H args us vs Q E hr=>F.run A outer s H args us vs Q E (hr.mono h)⟩
theorem wK.make {P:Program}{w:World}{K:W.Frag}{mg:Str->Option Value}{base:Heap}{A:Around}{outer:List Env}{s:Shared}{H:Hp} (e:wK P w K mg base A outer s H) (C:Addr) (us:List Value) (kw:List (Str × Value)) :
  wK P w K mg base (A.under (.builtin "type.__call__" ⟨.ref C :: us,kw⟩)) outer s H:=⟨by first | exact e.frames | (simpa [Around.under,Code.envs,Code.isFrame,pushEnvs] using e.frames),e.mod,e.bs,e.bsz,e.nQ,e.frf,e.hok,e.bare⟩
section
variable {X:Cx}{pins:List (Addr × Obj)}{σ:St}{H:Hp}{s s':Shared}
theorem Inv.Av (I:Inv X pins σ H s):wK X.prog X.w X.K X.mg X.base X.A X.stack s H :=
 ⟨I.ok.frames,I.ok.mod,I.bs,Nat.le_trans I.ok.bsz I.sz,I.stack,I.xG,I.hok,I.bare⟩
theorem Inv.after {Q:VK}{u:Value} (I:Inv X pins σ H s) (h:CE X.stack X.prog X.w H s Q u s'):EP X pins σ Q u s':=by
 obtain ⟨v,H',os,bare,un,hok,r,q⟩:=h
 obtain ⟨hh,g,d,t,os'⟩:=s'
 obtain rfl:os'=s.os:=os
 exact ⟨v,H',I.call (h':=hh) (g':=g) (d':=d) (t':=t) (ch:=[]) un hok bare (fun b z=>absurd z (by simp)),r,q⟩
end
def qV (sp:Sp) (dvs:List V) (E:XK) (t:TA):TE:=fun σ H Q=>t σ H fun vs H1=>sp (vs ++ dvs) H1 Q E
inductive FZ (C:Addr) (m:Str) (x:V) (H:Hp) (R:Prop):Prop
 | mk (a dx:Addr) (fs:List (Str × V)) (h0:x=.ref a) (h1:H a=some (.ins C dx fs)) (h2:fs.lookup m=none) (q:R):FZ C m x H R
def B5 (C:Addr) (sp:Sp) (dvs:List V) (E:XK) (t:TA):TE:=fun σ H Q=>t σ H fun vs H1=>∀x dx,H1 x=none->H1 dx=none->dx ≠ x ->
 sp (.ref x :: (vs ++ dvs)) (upd (upd H1 dx (.own x)) x (.ins C dx [])) (fun v H2=>v=.non/\Q (.ref x) H2) E
def Binds (K:W.Frag) (fd:FuncData) (ps:List Str) (ds:List Value):Prop :=
 ∀(s:Shared) (us:List Value),K.In s.heap->(us ++ ds).length=ps.length->BindsTo s fd ⟨us,[]⟩ (ps.zip (us ++ ds))
theorem Binds.all {K:W.Frag}{fd:FuncData}{ps:List Str} (h:∀us:List Value,us.length=ps.length->bindArgs fd ⟨us,[]⟩=pure (ps.zip us)):Binds K fd ps []:=fun s us _ hl=>by
 rw [List.append_nil] at hl ⊢
 exact .of_eq (h us hl)
def Passes (CX:CXT) (X:Cx) (E:XK):Prop:=∀(pins:List (Addr × Obj)) (σ:St) (H:Hp) (s:Shared) (e:Value) (s':Shared),Inv X pins σ H s->CX X.stack H s E e s'->X.xe e s'
section
variable {X:Cx}{CX:CXT}{k:Nat}{f C:Addr}{fd:FuncData}{ps:List Str}{sp:Sp}{dvs:List V}{ds:List Value}{E:XK}{x m:Str}{p pos apos:Pos}{e o:Expr}{es:List Expr}{ta:TE}{t:TA}
theorem vW {pins:List (Addr × Obj)}{σ:St}{H:Hp}{s:Shared}{Q:VK}{us:List Value}{vs:List V} (F:jx X.prog X.w X.K X.mg X.base CX k f fd ps sp) (hr:dJ k X.A) (hb:Binds X.K fd ps ds) (hd:Vals dvs ds) (hx:Passes CX X E)
  (I:Inv X pins σ H s) (r:Vals vs us) (h:sp (vs ++ dvs) H Q E):wpAny (model X.prog X.w) X.A (call (.ref f) us) (EP X pins σ Q) X.xe s:=by
 have r2:Vals (vs ++ dvs) (us ++ ds):=r.append hd
 have hl:(us ++ ds).length=ps.length:=by rw [<- r2.length];exact F.len _ _ _ _ h
 refine wpAny_call (codeAny_mono (F.run X.A X.stack s H ⟨us,[]⟩ (us ++ ds) (vs ++ dvs) Q E hr I.Av (hb s us I.kIn hl) r2 h) fun r s' hq=>?_)
 cases r with
 | error e=>exact hx pins σ H s e s' I hq
 | ok fl =>
  cases fl with
  | ret u=>exact I.after hq
  | next=>exact False.elim hq
  | brk=>exact False.elim hq
  | cont=>exact False.elim hq
theorem wU (F:jx X.prog X.w X.K X.mg X.base CX k f fd ps sp) (hr:dJ k X.A) (hg:Gl X x) (hm:X.mg x=some (.ref f)) (hk:W.keepIn X.K (.ref f)=true) (hb:Binds X.K fd ps ds) (hd:Vals dvs ds) (hx:Passes CX X E)
  (ha:PA X (e :: es) t) (hdb:(x == ("__debug__":Str))=false:=by decide) (he:starEach (e :: es) X.env=(false,eval e X.env) :: starEach es X.env:=by rfl) (hpl:(backTo pos (starEach es X.env)).any (·.1)=false:=by rfl) :
  PE X (.Call (.Name x p) (e :: es) [] pos) (qV sp dvs E t):=by
 intro pins s σ H Q I h
 refine wpAny_Call_Name_kw (oN I hg hm ?_ hdb)
 refine W.callWith_K (h₀:=X.base) I.ok.mod.kin hk (thn (ha pos pins s σ H _ I h) fun us s1 ⟨vs,H1,I1,r,q⟩=>⟨I1.kIn,?_⟩) he hpl
 exact vW F hr hb hd hx I1 r q
structure Mk (K:W.Frag) (C f:Addr):Prop where
 makes:W.makesIn K C=true
 init:W.findIn K (.ref C) "__init__"=some (some (.ref f))
 fn:W.isFn K (.ref f)=true
 kp:W.keepIn K (.ref C)=true
theorem zz {pins:List (Addr × Obj)}{σ:St}{H:Hp}{s:Shared}{Q:VK}{us:List Value}{vs:List V} (M:Mk X.K C f) (F:jx X.prog X.w X.K X.mg X.base CX k f fd ps sp) (hr:dJ (k + 1) X.A) (hb:Binds X.K fd ps ds) (hd:Vals dvs ds)
  (hx:Passes CX X E) (I:Inv X pins σ H s) (r:Vals vs us)
  (h:∀x dx,H x=none->H dx=none->dx ≠ x->sp (.ref x :: (vs ++ dvs)) (upd (upd H dx (.own x)) x (.ins C dx [])) (fun v H2=>v=.non/\Q (.ref x) H2) E) :
  wpAny (model X.prog X.w) X.A (call (.ref C) us) (EP X pins σ Q) X.xe s:=by
 have hq:=h (s.heap.objs.size + 1) s.heap.objs.size (I.hok.fresh (Nat.le_succ _)) (I.hok.fresh (Nat.le_refl _)) (Nat.ne_of_lt (Nat.lt_succ_self _))
 have I2:=Inv.made (C:=C) I
 have r2:Vals (V.ref (s.heap.objs.size + 1) :: (vs ++ dvs)) (Value.ref (s.heap.objs.size + 1) :: (us ++ ds)):=.cons rfl (r.append hd)
 have hl:(Value.ref (s.heap.objs.size + 1) :: us ++ ds).length=ps.length:=by
  have e:=r2.length
  rw [F.len _ _ _ _ hq] at e
  exact e.symm
 refine wpAny_call (Ax (f:=f) I.kIn M.makes M.init (beq_iff_eq.mp M.fn) (codeAny_mono (F.run _ X.stack _ _ ⟨Value.ref (s.heap.objs.size + 1) :: us,[]⟩ (Value.ref (s.heap.objs.size + 1) :: (us ++ ds)) _ _ E (hr.make C us [])
  (I2.Av.make C us []) (hb _ (Value.ref (s.heap.objs.size + 1) :: us) I2.kIn hl) r2 hq) fun r s' hq'=>?_))
 cases r with
 | error e=>exact hx pins σ _ _ e s' I2 hq'
 | ok fl =>
  cases fl with
  | ret u =>
   obtain ⟨v,H',I3,rv,ev,q3⟩:=I2.after hq'
   subst ev
   exact ⟨rv,⟨V.ref (s.heap.objs.size + 1),H',I3,rfl,q3⟩⟩
  | next=>exact False.elim hq'
  | brk=>exact False.elim hq'
  | cont=>exact False.elim hq'
theorem A9 (M:Mk X.K C f) (F:jx X.prog X.w X.K X.mg X.base CX k f fd ps sp) (hr:dJ (k + 1) X.A) (hg:Gl X x) (hm:X.mg x=some (.ref C)) (hb:Binds X.K fd ps ds) (hd:Vals dvs ds) (hx:Passes CX X E)
  (ha:PA X (e :: es) t) (hdb:(x == ("__debug__":Str))=false:=by decide) (he:starEach (e :: es) X.env=(false,eval e X.env) :: starEach es X.env:=by rfl) (hpl:(backTo pos (starEach es X.env)).any (·.1)=false:=by rfl) :
  PE X (.Call (.Name x p) (e :: es) [] pos) (B5 C sp dvs E t):=by
 intro pins s σ H Q I h
 refine wpAny_Call_Name_kw (oN I hg hm ?_ hdb)
 refine W.callWith_K (h₀:=X.base) I.ok.mod.kin M.kp (thn (ha pos pins s σ H _ I h) fun us s1 ⟨vs,H1,I1,r,q⟩=>⟨I1.kIn,?_⟩) he hpl
 exact zz M F hr hb hd hx I1 r q
end
section
variable {X:Cx}{CX:CXT}{k:Nat}{f C:Addr}{fd:FuncData}{ps ks:List Str}{sp:Sp}{E:XK}{x m:Str}{p pos apos kpos:Pos}{e o:Expr}{es:List Expr}{kws:List Keyword}{te ta:TE}{t tk:TA}{nm:Option Str}
structure KBinds (K:W.Frag) (fd:FuncData) (ps ks:List Str) (g:List Value->List Value->List Value) (gV:List V->List V->List V):Prop where
 to:∀(s:Shared) (us ws:List Value),K.In s.heap->(g us ws).length=ps.length->BindsTo s fd ⟨us,ks.zip ws⟩ (ps.zip (g us ws))
 rel:∀{vs:List V}{us:List Value}{zs:List V}{ws:List Value},Vals vs us->Vals zs ws->Vals (gV vs zs) (g us ws)
variable {g:List Value->List Value->List Value}{gV:List V->List V->List V}
end
structure az (N P:List Str) (sc:Scope):Prop where
 kind:sc.kind=.function
 co:sc.isCoroutine=false
 gen:sc.isGenerator=false
 nd:N.Nodup
 pre:N.take P.length=P
 par:∀x ∈ P,sc.names.lookup x=some .local \/ sc.names.lookup x=some .cell
 C7:∀y ∈ sc.names,y.2 ≠ .free
theorem qQ {kindOf:Str->Option NameKind}{x:Str}:∀{binds:List (Str × Value)}{m:Str->Option Value},(∀v,(x,v) ∉ binds)->bindL kindOf binds m x=m x
 | [],_,_=>rfl
 | (n,v) :: r,m,h=>by
  unfold bindL
  rw [qQ fun w hw=>h w (List.mem_cons_of_mem _ hw)]
  split
  ·have:x ≠ n:=by rintro rfl;exact h v List.mem_cons_self
   simp [this]
  ·rfl
theorem qZ {kindOf:Str->Option NameKind}{x:Str}:∀{binds:List (Str × Value)}{m:Str->Option Value},(∀v,(x,v) ∉ binds)->bindC kindOf binds m x=m x
 | [],_,_=>rfl
 | (n,v) :: r,m,h=>by
  unfold bindC
  rw [qZ fun w hw=>h w (List.mem_cons_of_mem _ hw)]
  split
  ·rfl
  ·have:x ≠ n:=by rintro rfl;exact h v List.mem_cons_self
   simp [this]
theorem q0 {kindOf:Str->Option NameKind}{x:Str}{v:Value}:∀{P:List Str}{vs:List Value}{i:Nat}{m:Str->Option Value},P.Nodup->P[i]?=some x->vs[i]?=some v->kindOf x=some .local ->
  bindL kindOf (P.zip vs) m x=some v
 | [],_,_,_,_,h,_,_=>by simp at h
 | _ :: _,[],_,_,_,_,h,_=>by simp at h
 | p :: P,w :: vs,0,m,nd,h1,h2,hk=>by
  simp at h1 h2;subst h1;subst h2
  show bindL kindOf ((p,w) :: P.zip vs) m p=_
  unfold bindL
  rw [qQ fun v hv=>(List.nodup_cons.mp nd).1 (List.of_mem_zip hv).1,if_pos hk]
  simp
 | p :: P,w :: vs,i + 1,m,nd,h1,h2,hk=>by
  show bindL kindOf ((p,w) :: P.zip vs) m x=_
  unfold bindL
  exact q0 (i:=i) (List.nodup_cons.mp nd).2 (by simpa using h1) (by simpa using h2) hk
theorem rg {kindOf:Str->Option NameKind}{x:Str}{v:Value}:∀{P:List Str}{vs:List Value}{i:Nat}{m:Str->Option Value},P.Nodup->P[i]?=some x->vs[i]?=some v->kindOf x ≠ some .local ->
  bindC kindOf (P.zip vs) m x=some v
 | [],_,_,_,_,h,_,_=>by simp at h
 | _ :: _,[],_,_,_,_,h,_=>by simp at h
 | p :: P,w :: vs,0,m,nd,h1,h2,hk=>by
  simp at h1 h2;subst h1;subst h2
  show bindC kindOf ((p,w) :: P.zip vs) m p=_
  unfold bindC
  rw [qZ fun v hv=>(List.nodup_cons.mp nd).1 (List.of_mem_zip hv).1,if_neg hk]
  simp
 | p :: P,w :: vs,i + 1,m,nd,h1,h2,hk=>by
  show bindC kindOf ((p,w) :: P.zip vs) m x=_
  unfold bindC
  exact rg (i:=i) (List.nodup_cons.mp nd).2 (by simpa using h1) (by simpa using h2) hk
def start (N:List Str) (vs:List V):St:=vs.map some ++ List.replicate (N.length - vs.length) none
def r9 (CX:CXT) (P:Program) (w:World) (K:W.Frag) (mg:Str->Option Value) (base:Heap) (N:List Str) (qual:Str) (scope:Scope) (f:Addr) (cd:Value) (A:Around) (outer:List Env) (s:Shared) (H:Hp) (E:XK):Cx where
 prog:=P
 w:=w
 K:=K
 mg:=mg
 base:=base
 A:=A.deeper (envOfC qual scope s.heap.objs.size f cd)
 N:=N
 s₀:=s
 H₀:=H
 env:=envOfC qual scope s.heap.objs.size f cd
 outer:=outer
 stack:=envOfC qual scope s.heap.objs.size f cd :: outer
 ex:=[]
 calm:=true
 fn:=fun _=>true
 pn:=[]
 xe:=fun e s'=>wpAny (model P w) (A.deeper (envOfC qual scope s.heap.objs.size f cd)) (leaving (envOfC qual scope s.heap.objs.size f cd) e) (fun _ s''=>CX outer H s E e s'') (fun e' s''=>CX outer H s E e' s'') s'
theorem uN {sc:Scope}{n:Nat}{x:Str} (h:sc.names.lookup x=some .cell):∃c,(cellsFrom n sc.names []).lookup x=some c:=by
 have q:=W.cellsFrom_some sc.names n [] (.inl h)
 exact Option.isSome_iff_exists.mp q
theorem yC {CX:CXT}{P:Program}{w:World}{K:W.Frag}{mg:Str->Option Value}{base:Heap}{N ps:List Str}{qual:Str}{scope:Scope}{f:Addr}{cd:Value}{A:Around}{outer:List Env}{s s1:Shared}{H:Hp}{E:XK}{us:List Value}{vs:List V}
  (S:az N ps scope) (hd:A.handled=none) (e0:wK P w K mg base A outer s H) (hl:vs.length=ps.length) (r:Vals vs us)
  (x:InCallC s s.heap.objs.size (bindL (envOfC qual scope s.heap.objs.size f cd).kindOf (ps.zip us) fun _=>none) (cellsFrom (s.heap.objs.size + 1) scope.names []) (bindC (envOfC qual scope s.heap.objs.size f cd).kindOf (ps.zip us) fun _=>none) s1) :
  Inv (r9 CX P w K mg base N qual scope f cd A outer s H E) [] (start N vs) H s1:=by
 have hpl:ps.length <= N.length:=by have:=congrArg List.length S.pre;rw [List.length_take] at this;omega
 obtain ⟨h1,tk,rfl,hk⟩:=x.done
 have noA:∀b:Addr,b ∉ (r9 CX P w K mg base N qual scope f cd A outer s H E).ex:=fun b z=>absurd (show b ∈ ([]:List Addr) from z) (by simp)
 refine ⟨⟨e0.mod,S.kind,rfl,rfl,Nat.le_refl _,fun y z c h1 h2=>?_,fun y hy=>?_,fun y c _ h=>?_,fun _=>hd,Around.frames_deeper e0.frames,.inr ⟨rfl,rfl⟩,fun b z=>absurd z (noA b),e0.bs,e0.bsz,fun b _ _=>noA b,fun b z=>absurd z (noA b),e0.nQ,e0.frf⟩,
  rfl,e0.bare,Un.kept hk,⟨_,x.toInCall.ns,fun i y v h1 h2 h3=>?_⟩,fun y c h=>⟨_,x.cell y c h⟩,e0.hok.fresh (Nat.le_refl _),fun y c h=>?_,fun p hp=>absurd (show p ∈ ([]:List (Addr × Obj)) from hp) (by simp),e0.hok.kept hk,?_⟩
 ·exact name_of_addr x.apart (PySem.mem_of_lookup h1) (PySem.mem_of_lookup h2)
 ·have hy:scope.names.lookup y=some .cell \/ scope.names.lookup y=some .free:=hy
  rcases hy with hy | hy
  ·exact uN hy
  ·exact absurd rfl (S.C7 _ (PySem.mem_of_lookup hy))
 ·exact Nat.le_of_lt (x.above y c (PySem.mem_of_lookup h))
 ·have hi:i < vs.length:=by
   unfold start at h2
   by_cases hi:i < vs.length
   ·exact hi
   ·rw [List.getElem?_append_right (by simpa using hi)] at h2
    rw [List.getElem?_replicate] at h2
    split at h2 <;> cases h2
  have ha:vs[i]?=some v:=by
   unfold start at h2
   rw [List.getElem?_append_left (by simpa using hi),List.getElem?_map] at h2
   cases e:vs[i]? with
   | none=>rw [e] at h2;cases h2
   | some a=>rw [e] at h2;cases h2;rfl
  obtain ⟨u,hu,rv⟩:=r.get ha
  have hp:ps[i]?=some y:=by
   rw [<- S.pre,List.getElem?_take_of_lt (by omega)];exact h1
  have ndP:ps.Nodup:=by rw [<- S.pre];exact S.nd.sublist (List.take_sublist _ _)
  refine ⟨u,rv,?_⟩
  rcases S.par y (List.mem_of_getElem? hp) with k | k
  ·exact .inl ⟨k,q0 ndP hp hu k⟩
  ·obtain ⟨c,e⟩:=uN (n:=s.heap.objs.size + 1) k
   refine .inr ⟨.inl k,c,e,?_⟩
   have q:=x.cell y c e
   rw [rg ndP hp hu (by show scope.names.lookup y ≠ _;rw [k];decide)] at q
   exact q
 ·exact e0.hok.fresh (Nat.le_of_lt (x.above y c (PySem.mem_of_lookup h)))
 ·unfold start
  show _=N.length
  rw [List.length_append,List.length_map,List.length_replicate]
  omega
theorem Ce {CX:CXT}{P:Program}{w:World}{K:W.Frag}{mg:Str->Option Value}{base:Heap}{k:Nat}{f:Addr}{name qual:Str}{params:Arguments}{body:List Stmt}{scope:Scope}{dV kV doc pm cdv ct oc:Value}{an od:Option Addr}
  {osl:Array (Option Value)}{N ps:List Str}{sp:Sp} (lk:K.lookup f=some ⟨oc,od,.func (W.fnOf name qual params body scope dV kV doc pm an cdv ct),osl⟩) (hcd:W.codeIn K cdv qual=true) (S:az N ps scope)
  (len:∀vs H Q E,sp vs H Q E->vs.length=ps.length)
  (hbody:∀(A:Around) (outer:List Env) (s:Shared) (H:Hp) (vs:List V) (Q:VK) (E:XK),dJ k (A.deeper (envOfC qual scope s.heap.objs.size f cdv))->sp vs H Q E ->
   ∃t,PSs (r9 CX P w K mg base N qual scope f cdv A outer s H E) body t/\t { nx:=fun _ H'=>Q .non H',rt:=Q } (start N vs) H) :
  jx P w K mg base CX (k + 1) f (W.fnOf name qual params body scope dV kV doc pm an cdv ct) ps sp:=by
 refine ⟨len,fun A outer s H args us vs Q E hr e0 hb r hsp=>?_⟩
 have hl:=len _ _ _ _ hsp
 have KX:K.In s.heap:=e0.mod.kin.keeps fun b o e=>(e0.bs b o e).1
 have lim:s.heap.NoLimit:=e0.mod.nolimit.keeps fun b o e=>(e0.bs b o e).1
 have hkind:∀y ∈ ps.zip us,scope.names.lookup y.1=some .local \/ (scope.names.lookup y.1=some .cell/\((cellsFrom (s.heap.objs.size + 1) scope.names []).lookup y.1).isSome=true):=fun ⟨n,v⟩ hy=>by
  rcases S.par n (List.of_mem_zip hy).1 with q | q
  ·exact .inl q
  ·exact .inr ⟨q,W.cellsFrom_some _ _ _ (.inl q)⟩
 refine codeAny_call_function hr.depth (KX _ _ lk) rfl S.co S.gen rfl (W.codeRec_of KX hcd) (hb _ _ _ _ ?_)
 refine wpAny_newFunctionEnv_cells S.kind hkind fun env he s1 x=>?_
 subst he
 refine ⟨lim.keeps x.toInCall.keep,codeAny_func ?_⟩
 obtain ⟨t,ht,hq⟩:=hbody A outer s H vs Q E (hr.deeper _) hsp
 have I:Inv (r9 CX P w K mg base N qual scope f cdv A outer s H E) [] (start N vs) H s1:=yC S hr.hd e0 hl r x
 refine wpAny_mono (ht [] s1 (start N vs) H _ I hq) (fun fl s' hs=>?_) fun e s' hs=>hs
 have fin:∀{σ':St}{H':Hp}{v:V}{u:Value},Inv (r9 CX P w K mg base N qual scope f cdv A outer s H E) [] σ' H' s'->RelV v u->Q v H'->CE outer P w H s Q u s' :=
  fun {σ' H' v u} J rv q=>⟨v,H',J.os,J.bare,J.base,J.hok,rv,q⟩
 cases fl with
 | ret u =>
  obtain ⟨v,σ',H',J,rv,q⟩:=hs
  exact fin J rv q
 | next =>
  obtain ⟨σ',H',J,q⟩:=hs
  exact fin (v:=V.non) (u:=Value.none) J rfl q
 | brk =>
  obtain ⟨_,_,_,q⟩:=hs
  exact False.elim q
 | cont =>
  obtain ⟨_,_,_,q⟩:=hs
  exact False.elim q
end L2
namespace L2
open PySem PySem.Spec PyProof.Rows
section
variable {X:Cx}{x:Str}{p pos:Pos}{e:Expr}{es:List Expr}{t:TA}{id T:String}{r:List V->Hp->VK->Prop}
def tCB (r:List V->Hp->VK->Prop) (t:TA):TE:=fun σ H Q=>t σ H fun vs H1=>r vs H1 Q
theorem zN (hc:dg X (.builtin id) r) (hg:Gl X x) (hm:X.mg x=none) (hv:bootBuiltins x=some (.builtin id)) (ha:PA X (e :: es) t) (hn:x ≠ "__name__":=by decide) (hdb:(x == ("__debug__":Str))=false:=by decide)
  (he:starEach (e :: es) X.env=(false,eval e X.env) :: starEach es X.env:=by rfl) (hpl:(backTo pos (starEach es X.env)).any (·.1)=false:=by rfl):PE X (.Call (.Name x p) (e :: es) [] pos) (tCB r t):=by
 intro pins s σ H Q I h
 refine wpAny_Call_Name_kw (jo I hg hm hv ?_ hn hdb)
 exact PyProof.Rows.callWith_builtin1 (thn (ha pos pins s σ H _ I h) fun us s1 ⟨vs,H1,I1,r1,q1⟩=>hc pins s1 σ H1 vs us Q I1 r1 q1) he hpl
theorem yy (hc:dg X (.type T) r) (hg:Gl X x) (hm:X.mg x=none) (hv:bootBuiltins x=some (.type T)) (ha:PA X (e :: es) t) (hn:x ≠ "__name__":=by decide) (hdb:(x == ("__debug__":Str))=false:=by decide)
  (he:starEach (e :: es) X.env=(false,eval e X.env) :: starEach es X.env:=by rfl) (hpl:(backTo pos (starEach es X.env)).any (·.1)=false:=by rfl):PE X (.Call (.Name x p) (e :: es) [] pos) (tCB r t):=by
 intro pins s σ H Q I h
 refine wpAny_Call_Name_kw (jo I hg hm hv ?_ hn hdb)
 exact PyProof.Rows.callWith_type1 (thn (ha pos pins s σ H _ I h) fun us s1 ⟨vs,H1,I1,r1,q1⟩=>hc pins s1 σ H1 vs us Q I1 r1 q1) he hpl
end
end L2
namespace HT
open PySem PyProof.Rows
section
open PySem.SeqAt
open PySem.AutoSeq1 (wpAny_loadPart')
open PySem.MeetsSeq PySem.MeetsSeq2 PySem.MeetsSeq3
end
section
variable {prog:Program}{w:World}{A:Around}{E:Value->Shared->Prop}{s:Shared}
end
end HT
namespace L2
open PySem PySem.Spec PyProof.Rows
inductive FY (x:V) (H:Hp) (Q:Option Int->Hp->Prop):Prop
 | mk (i:Int) (h:x=.int i) (q:Q (some i) H):FY x H Q
theorem intsAre_of {ns:List Int}:∀{us:List Value},Vals (ns.map V.int) us->IntsAre us ns:=by
 induction ns with
 | nil=>intro us r;rw [List.map_nil] at r;cases r;exact .nil
 | cons n ns ih =>
  intro us r
  rw [List.map_cons] at r
  cases r with
  | cons r1 r2 =>
   obtain ⟨t,e⟩:=r1
   subst e
   exact .cons n t (ih r2)
section
variable {X:Cx}{e:Expr}{te:TE}{lo hi:Option Expr}{tl th:TO}{pos p2:Pos}
end
end L2
namespace L2
open PySem PySem.Spec PyProof.Rows
def ixN (n:Nat) (i:Int):Option Nat:=if 0 <= i then (if i < n then some i.toNat else none) else if -(n:Int) <= i then some (i + n).toNat else none
def atI {α:Type} (xs:List α) (i:Int):Option α:=(ixN xs.length i).bind fun j=>xs[j]?
theorem xB {n:Nat}{i:Int}{j:Nat} (h:ixN n i=some j):seqIndex? i n=some j/\j < n/\-(n:Int) <= i/\i < n:=by
 unfold ixN at h
 by_cases h0:0 <= i
 ·rw [if_pos h0] at h
  by_cases h1:i < n
  ·rw [if_pos h1] at h
   have e:i.toNat=j:=Option.some.inj h
   exact ⟨by rw [seqIndex_of h0 h1,e],by omega,by omega,h1⟩
  ·rw [if_neg h1] at h;cases h
 ·rw [if_neg h0] at h
  by_cases h1:-(n:Int) <= i
  ·rw [if_pos h1] at h
   have e:(i + n).toNat=j:=Option.some.inj h
   exact ⟨by rw [seqIndex_neg (by omega) h1,e],by omega,h1,by omega⟩
  ·rw [if_neg h1] at h;cases h
theorem tm {α:Type}{xs:List α}{i:Int}{v:α} (h:atI xs i=some v):∃j,seqIndex? i xs.length=some j/\xs[j]?=some v/\j < xs.length/\-(xs.length:Int) <= i/\i < xs.length:=by
 unfold atI at h
 cases e:ixN xs.length i with
 | none=>rw [e] at h;cases h
 | some j =>
  rw [e] at h
  obtain ⟨h1,h2,h3,h4⟩:=xB e
  exact ⟨j,h1,h,h2,h3,h4⟩
theorem oA {α:Type}{xs:List α}{j:Nat}{v:α} (h:xs[j]?=some v):atI xs (j:Int)=some v:=by
 have hj:j < xs.length:=(List.getElem?_eq_some_iff.mp h).1
 have e:ixN xs.length (j:Int)=some j:=by
  unfold ixN
  rw [if_pos (by omega),if_pos (by omega)];simp
 unfold atI;rw [e];exact h
def xS (b:Expr):Prop:=∀o i,subscripted b false o i=operate [o,i] (getItem o i)
def IxR (X:Cx) (r:R2):Prop :=
 ∀(value slice:Expr) (pins:List (Addr × Obj)) (s:Shared) (σ:St) (H:Hp) (x y:V) (v u:Value) (Q:VK),Inv X pins σ H s->RelV x v->RelV y u->r x y H Q ->
  subscripted slice false v u=operate [v,u] (getItem v u)->wpAny (model X.prog X.w) X.A (subscriptTail value slice v u) (EP X pins σ Q) X.xe s
def MtR (X:Cx) (id:String) (r:V->List V->Hp->VK->Prop):Prop :=
 ∀(pins:List (Addr × Obj)) (s:Shared) (σ:St) (H:Hp) (x:V) (xs:List V) (v:Value) (us:List Value) (Q:VK),Inv X pins σ H s->RelV x v->Vals xs us->r x xs H Q ->
  wpAny (model X.prog X.w) X.A (call (.builtin id) (v :: us)) (EP X pins σ Q) X.xe s
section
variable {X:Cx}{a b:Expr}{ta tb:TE}{pos:Pos}
theorem Ei {r:R2} (hr:IxR X r) (ha:PE X a ta) (hb:PE X b tb) (hs:xS b):PE X (.Subscript a b pos) (tOp r ta tb):=by
 intro pins s σ H Q I h
 exact Subscript_ (CI ha hb I h fun v u s2 x y H2 I2 rx ry q=>hr a b pins s2 σ H2 x y v u Q I2 rx ry q (hs _ _))
def FK (K:W.Frag):R2:=fun x y H Q=>∃p xs i v,x=.ref p/\y=.int i/\SqL K H p xs/\atI xs i=some v/\Q v H
def Fv (K:W.Frag):R2:=fun x y H Q=>∃p xs i v,x=.ref p/\y=.int i/\SqT K H p xs/\atI xs i=some v/\Q v H
def FR:R2:=fun x y H Q=>∃z i c,x=.str z/\y=.int i/\z.length <= sizeLine/\atI z.cps.toList i=some c/\Q (.str ⟨#[c]⟩) H
theorem AY:IxR X (FK X.K):=by
 intro value slice pins s σ H x y v u Q I rx ry h hs
 obtain ⟨p,xs,i,z,rfl,rfl,hq,he,q⟩:=h
 cases rx
 obtain ⟨t,rfl⟩:=ry
 obtain ⟨its,r,pl,hz⟩:=I.list hq
 obtain ⟨j,h1,h2,h3,h4,h5⟩:=tm he
 obtain ⟨w,ew,rw'⟩:=r.get h2
 have hl:=r.length
 have hn:=mV
 have fin:EP X pins σ Q w s:=⟨z,H,I,rw',q⟩
 by_cases h0:0 <= i
 ·have hj:i.toNat=j:=by
   rw [seqIndex_of h0 h5] at h1
   exact Option.some.inj h1
  exact item_listR pl.isList h0 (by omega) (by rw [hj];simpa using ew) fin hs
 ·have hj:(i + (its.toArray.size:Int)).toNat=j:=by
   rw [seqIndex_neg (by omega) h4] at h1
   rw [List.size_toArray,<- hl]
   exact Option.some.inj h1
  exact subscriptTail_builtinR (x:=w) pl.isList.typeIs slot_list_getitem.lookup
   (wpAny_getItem_list_neg (Q:=fun r s'=>r=w/\EP X pins σ Q r s') pl.isList (by omega) (by rw [List.size_toArray] <;> omega) (by omega) (by rw [hj];simpa using ew) ⟨rfl,fin⟩) hs
theorem De:IxR X (Fv X.K):=by
 intro value slice pins s σ H x y v u Q I rx ry h hs
 obtain ⟨p,xs,i,z,rfl,rfl,hq,he,q⟩:=h
 cases rx
 obtain ⟨t,rfl⟩:=ry
 obtain ⟨its,r,pl,hz⟩:=I.tuple hq
 obtain ⟨j,h1,h2,h3,h4,h5⟩:=tm he
 obtain ⟨w,ew,rw'⟩:=r.get h2
 have hl:=r.length
 have hn:=mV
 have fin:EP X pins σ Q w s:=⟨z,H,I,rw',q⟩
 exact subscriptTail_builtinR (x:=w) pl.typeIs slot_tuple_getitem.lookup
  (getItem_tuple (j:=j) (Q:=fun r s'=>r=w/\EP X pins σ Q r s') pl (by omega) (by omega) (by rw [List.size_toArray,<- hl];exact h1) (by simpa using ew) ⟨rfl,fin⟩) hs
theorem CZ:IxR X FR:=by
 intro value slice pins s σ H x y v u Q I rx ry h hs
 obtain ⟨z,i,c,rfl,rfl,hz,he,q⟩:=h
 obtain ⟨t,rfl⟩:=rx
 obtain ⟨t',rfl⟩:=ry
 obtain ⟨j,h1,h2,h3,h4,h5⟩:=tm he
 have hl:z.cps.toList.length=z.length:=by simp [Str.length]
 rw [hl] at h1 h4 h5
 have hn:=mV
 exact tail_any (typeIs_str s z t) slot_str_getitem.lookup (getItem_str (c:=c) (by
  have e1:decide (i < -(2 ^ 63:Int))=false:=decide_eq_false (by omega)
  have e2:decide (i ≥ 2 ^ 63)=false:=decide_eq_false (by omega)
  rw [e1,e2,Bool.or_false]) (by rw [h1];simpa using h2) ⟨.str ⟨#[c]⟩,H,I.tok _,⟨_,rfl⟩,q⟩) hs
theorem wd (its:List Value) (n j:Nat) (u:Value):Obj.mapSeq (·.setIfInBounds j u) { cls:=.type "list",data:=.seq its.toArray n }={ cls:=.type "list",data:=.seq (its.set j u).toArray n }:=by
 simp [Obj.mapSeq]
theorem Inv.lst {pins:List (Addr × Obj)}{σ:St}{H:Hp}{s:Shared}{p:Addr}{xs:List V} (I:Inv X pins σ H s) (h:H p=some (.lst xs)) :
  ∃(its:List Value) (n:Nat),Vals xs its/\s.heap.get? p=some { cls:=.type "list",data:=.seq its.toArray n }/\xs.length <= sizeLine:=by
 obtain ⟨z,its,n,r,e⟩:=I.hok p _ h
 exact ⟨its,n,r,e,z⟩
theorem Inv.Dg {pins:List (Addr × Obj)}{σ:St}{H:Hp}{s:Shared}{p:Addr}{xs ys:List V}{its its':List Value}{n n':Nat}{f:Obj->Obj} (I:Inv X pins σ H s) (h:H p=some (.lst xs))
  (ho:s.heap.get? p=some { cls:=.type "list",data:=.seq its.toArray n }) (hf:f { cls:=.type "list",data:=.seq its.toArray n }={ cls:=.type "list",data:=.seq its'.toArray n' }) (r:Vals ys its') (hz:ys.length <= sizeLine) (t:Nat) :
  Inv X pins σ (upd H p (.lst ys)) { s with heap:=s.heap.update p f,toks:=t }:=by
 have e:(s.heap.update p f).get? p=some { cls:=.type "list",data:=.seq its'.toArray n' }:=by
  rw [Heap.get?_update_self f ho (by rw [hf] <;> rfl),hf]
 refine I.write (x:=p) (e:=p) (by rw [h];trivial) (.inl rfl) (fun b u hb q=>(Heap.get?_update_other _ _ (Ne.symm hb)).trans q) ⟨_,e⟩ ?_
 exact ⟨hz,its',n',r,e⟩
def BW:V->V->V->Hp->(Hp->Prop)->Prop:=fun o i v H Q=>∃p xs k j,o=.ref p/\i=.int k/\H p=some (.lst xs)/\ixN xs.length k=some j/\Q (upd H p (.lst (xs.set j v)))
theorem set_list:Ac X BW:=by
 intro pins s σ H o i v ov iv u Q I ro ri rv h
 obtain ⟨p,xs,k,j,rfl,rfl,hp,hj,q⟩:=h
 cases ro
 obtain ⟨t,rfl⟩:=ri
 obtain ⟨its,n,r,ho,hz⟩:=I.lst hp
 obtain ⟨h1,h2,h3,h4⟩:=xB hj
 have hl:=r.length
 have hn:=mV
 have I':Inv X pins σ (upd H p (.lst (xs.set j v))) { s with heap:=s.heap.update p (Obj.mapSeq (·.setIfInBounds j u)) } :=
  I.Dg hp ho (wd its n j u) (r.set rv j) (by rw [List.length_set];exact hz) s.toks
 by_cases h0:0 <= k
 ·have hk:k.toNat=j:=by
   rw [seqIndex_of h0 h4] at h1
   exact Option.some.inj h1
  exact W.ki_setAt ho h0 (by omega) (by rw [List.size_toArray,<- hl];exact h4) (by rw [hk];exact ⟨_,I',q⟩)
 ·have hk:(k + (its.toArray.size:Int)).toNat=j:=by
   rw [seqIndex_neg (by omega) h3] at h1
   rw [List.size_toArray,<- hl]
   exact Option.some.inj h1
  exact W.ki_setBack ho (by omega) (by rw [List.size_toArray,<- hl];exact h3) (by omega) (by rw [hk];exact ⟨_,I',q⟩)
def jH:V->Bool
 | .non=>true
 | .bl _=>true
 | .int _=>true
 | .str _=>true
 | _=>false
def eqV:V->V->Bool
 | .non,.non=>true
 | .bl a,.bl b=>a == b
 | .bl a,.int b=>(if a then 1 else 0) == b
 | .int a,.bl b=>a == (if b then 1 else 0)
 | .int a,.int b=>a == b
 | .str a,.str b=>a == b
 | _,_=>false
theorem C0 {A:Around}{s:Shared}{y x:V}{u v:Value} (ry:RelV y u) (rx:RelV x v) (fy:jH y=true) (fx:jH x=true):SeqAt.EqAt A s u v (eqV y x):=by
 cases y with
 | non =>
  cases ry
  cases x with
  | non=>cases rx;exact SeqAt.EqAt.same _
  | bl b=>cases rx;exact SeqAt.EqAt.none_bool b
  | int b=>obtain ⟨t,rfl⟩:=rx;exact SeqAt.EqAt.none_int b t
  | str b=>obtain ⟨t,rfl⟩:=rx;exact SeqAt.EqAt.none_str b t
  | _=>exact absurd (show false=true from fx) Bool.false_ne_true
 | bl a =>
  cases ry
  cases x with
  | non=>cases rx;exact SeqAt.EqAt.bool_none a
  | bl b=>cases rx;exact SeqAt.EqAt.bool_bool a b
  | int b=>obtain ⟨t,rfl⟩:=rx;exact SeqAt.EqAt.bool_int a b t
  | str b=>obtain ⟨t,rfl⟩:=rx;exact SeqAt.EqAt.bool_str a b t
  | _=>exact absurd (show false=true from fx) Bool.false_ne_true
 | int a =>
  obtain ⟨t',rfl⟩:=ry
  cases x with
  | non=>cases rx;exact SeqAt.EqAt.int_none a t'
  | bl b=>cases rx;exact SeqAt.EqAt.int_bool a t' b
  | int b=>obtain ⟨t,rfl⟩:=rx;exact SeqAt.EqAt.int_int a t' b t
  | str b=>obtain ⟨t,rfl⟩:=rx;exact SeqAt.EqAt.int_str a t' b t
  | _=>exact absurd (show false=true from fx) Bool.false_ne_true
 | str a =>
  obtain ⟨t',rfl⟩:=ry
  cases x with
  | non=>cases rx;exact SeqAt.EqAt.str_none a t'
  | bl b=>cases rx;exact SeqAt.EqAt.str_bool a t' b
  | int b=>obtain ⟨t,rfl⟩:=rx;exact SeqAt.EqAt.str_int a t' b t
  | str b=>obtain ⟨t,rfl⟩:=rx;exact SeqAt.EqAt.str_str a t' b t
  | _=>exact absurd (show false=true from fx) Bool.false_ne_true
 | _=>exact absurd (show false=true from fy) Bool.false_ne_true
def eqU (x:V) (u:Value):Bool:=match u with
 | .none=>eqV .non x
 | .bool b=>eqV (.bl b) x
 | .int i _=>eqV (.int i) x
 | .str z _=>eqV (.str z) x
 | _=>false
theorem zw {x y:V}{u:Value} (r:RelV y u) (f:jH y=true):eqU x u=eqV y x:=by
 cases y with
 | non=>cases r;rfl
 | bl b=>cases r;rfl
 | int i=>obtain ⟨t,rfl⟩:=r;rfl
 | str z=>obtain ⟨t,rfl⟩:=r;rfl
 | _=>exact absurd (show false=true from f) Bool.false_ne_true
theorem lW {x:V}:∀{xs:List V}{us:List Value},Vals xs us->xs.all jH=true->us.any (eqU x)=xs.any fun y=>eqV y x
 | _,_,.nil,_=>rfl
 | y :: xs,u :: us,.cons r t,f=>by
  rw [List.all_cons,Bool.and_eq_true] at f
  rw [List.any_cons,List.any_cons,zw r f.1,lW t f.2]
theorem j5 {A:Around}{s:Shared}{x:V}{v:Value} (rx:RelV x v) (fx:jH x=true):∀{xs:List V}{us:List Value},Vals xs us->xs.all jH=true->∀u ∈ us,SeqAt.EqAt A s u v (eqU x u)
 | _,_,.nil,_=>fun u hu=>by cases hu
 | y :: xs,u :: us,.cons r t,f=>fun u' hu=>by
  rw [List.all_cons,Bool.and_eq_true] at f
  rcases List.mem_cons.mp hu with rfl | hu
  ·rw [zw r f.1];exact C0 r rx f.1 fx
  ·exact j5 rx fx t f.2 u' hu
def inV (x:V) (xs:List V):Bool:=xs.any fun y=>eqV y x
def rIn (K:W.Frag) (neg:Bool):R2:=fun x y H Q=>∃p xs,y=.ref p/\(SqL K H p xs \/ SqT K H p xs)/\jH x=true/\xs.all jH=true/\Q (.bl (if neg then !inV x xs else inV x xs)) H
theorem x8:OpR X (compareOp .In) (rIn X.K false):=by
 intro pins s σ H x y v u Q I rx ry h
 obtain ⟨p,xs,rfl,hq,fx,fs,q⟩:=h
 cases ry
 rcases hq with hq | hq
 ·obtain ⟨its,r,pl,hz⟩:=I.list hq
  refine SeqAt.in_listAt (eqU x) pl.isList (fun w hw=>j5 rx fx r fs w (by simpa using hw)) ⟨.bl _,H,I,rfl,?_⟩
  rw [show its.toArray.any (eqU x)=its.any (eqU x) by simp,lW r fs]
  exact q
 ·obtain ⟨its,r,pl,hz⟩:=I.tuple hq
  refine SeqAt.in_tupleAt (eqU x) pl (fun w hw=>j5 rx fx r fs w (by simpa using hw)) ⟨.bl _,H,I,rfl,?_⟩
  rw [show its.toArray.any (eqU x)=its.any (eqU x) by simp,lW r fs]
  exact q
theorem tE:OpR X (compareOp .NotIn) (rIn X.K true):=by
 intro pins s σ H x y v u Q I rx ry h
 obtain ⟨p,xs,rfl,hq,fx,fs,q⟩:=h
 cases ry
 rcases hq with hq | hq
 ·obtain ⟨its,r,pl,hz⟩:=I.list hq
  refine SeqAt.notIn_listAt (eqU x) pl.isList (fun w hw=>j5 rx fx r fs w (by simpa using hw)) ⟨.bl _,H,I,rfl,?_⟩
  rw [show its.toArray.any (eqU x)=its.any (eqU x) by simp,lW r fs]
  exact q
 ·obtain ⟨its,r,pl,hz⟩:=I.tuple hq
  refine SeqAt.notIn_tupleAt (eqU x) pl (fun w hw=>j5 rx fx r fs w (by simpa using hw)) ⟨.bl _,H,I,rfl,?_⟩
  rw [show its.toArray.any (eqU x)=its.any (eqU x) by simp,lW r fs]
  exact q
theorem rO:OpR X (compareOp .NotIn) (fun x y H Q=>∃i j,x=.str i/\y=.str j/\Q (.bl (!(!(Builtin.Str.occurrences j i 0 j.length 1).isEmpty))) H):=by
 intro pins s σ H x y v u Q I rx ry h
 obtain ⟨i,j,rfl,rfl,q⟩:=h
 obtain ⟨t,rfl⟩:=rx
 obtain ⟨t',rfl⟩:=ry
 exact notIn_str ⟨.bl _,H,I,rfl,q⟩
theorem dg.or {f:Value}{r r':List V->Hp->VK->Prop} (h:dg X f r) (h':dg X f r'):dg X f (fun xs H Q=>r xs H Q \/ r' xs H Q):=by
 intro pins s σ H xs us Q I rs q
 rcases q with q | q
 ·exact h pins s σ H xs us Q I rs q
 ·exact h' pins s σ H xs us Q I rs q
theorem sY:dg X (.type "list") (fun xs H Q=>∃p ys,xs=[.ref p]/\(SqL X.K H p ys \/ SqT X.K H p ys)/\∀l,H l=none->Q (.ref l) (upd H l (.lst ys))):=by
 intro pins s σ H xs us Q I r h
 obtain ⟨p,ys,rfl,hq,q⟩:=h
 obtain ⟨u,rfl,rx⟩:=vals1 r
 cases rx
 have fin:∀(its:List Value),Vals ys its->ys.length <= sizeLine->∀(h':Heap) (c':Nat),(∀b o',s.heap.get? b=some o'->h'.get? b=some o') ->
   h'.get? s.heap.objs.size=some { cls:=.type "list",dict:=none,data:=.seq its.toArray c',slots:=#[] }->EP X pins σ Q (.ref s.heap.objs.size) { s with heap:=h' }:=fun its r' hz h' c' kp e =>
  ⟨.ref s.heap.objs.size,_,I.laid (t':=s.toks) kp (Nat.le_refl _) (show cn X.prog X.w _ h' _ (.lst ys) from ⟨hz,its,c',r',e⟩),rfl,q _ (I.hok.fresh (Nat.le_refl _))⟩
 rcases hq with hq | hq
 ·obtain ⟨its,r',pl,hz⟩:=I.list hq
  have hlen:=r'.length
  obtain ⟨o,ho,hc,n,hd⟩:=pl.isList
  exact call_list_seq p (.inl rfl) ho hc hd (fun h' c' kp e=>fin its r' hz h' c' kp e) (by simp only [List.size_toArray] <;> omega)
 ·obtain ⟨its,r',pl,hz⟩:=I.tuple hq
  have hlen:=r'.length
  obtain ⟨o,ho,hc,n,hd⟩:=pl
  exact call_list_seq p (.inr rfl) ho hc hd (fun h' c' kp e=>fin its r' hz h' c' kp e) (by simp only [List.size_toArray] <;> omega)
def tyV (K:W.Frag) (T:String) (x:V) (H:Hp):Prop:=match x with
 | .str _=>T="str"
 | .int _=>T="int"
 | .ref p=>(T="list"/\∃xs,SqL K H p xs) \/ (T="tuple"/\∃o,K.lookup p=some o/\o.cls=.type "tuple"/\o.dict=none) \/
   (T="dict"/\((∃kvs,H p=some (.dK kvs)) \/ ∃kvs,H p=some (.dT kvs))) \/ (T="set"/\∃S n,H p=some (.set S n))
 | _=>False
theorem zU {pins:List (Addr × Obj)}{σ:St}{H:Hp}{s:Shared}{T:String}{x:V}{v:Value} (I:Inv X pins σ H s) (r:RelV x v) (ty:tyV X.K T x H) :
  s.TypeIs v T/\∀a,v=.ref a->∃ob,s.heap.get? a=some ob/\ob.dict=none:=by
 cases x with
 | str z =>
  obtain ⟨t,rfl⟩:=r
  cases (show T="str" from ty)
  exact ⟨typeIs_str s z t,fun _ e=>nomatch e⟩
 | int i =>
  obtain ⟨t,rfl⟩:=r
  cases (show T="int" from ty)
  exact ⟨typeIs_int s i t,fun _ e=>nomatch e⟩
 | ref p =>
  cases r
  rcases ty with ⟨rfl,xs,hq⟩ | ⟨rfl,o,hk,hc,hd⟩ | ⟨rfl,hk⟩ | ⟨rfl,S,n,hk⟩
  ·obtain ⟨its,_,pl,_⟩:=I.list hq
   refine ⟨pl.isList.typeIs,fun a e=>?_⟩
   cases e
   obtain ⟨o,n,e,c,hd,_⟩:=pl
   exact ⟨o,e,hd⟩
  ·refine ⟨⟨o,I.kIn p o hk,hc⟩,fun a e=>?_⟩
   cases e
   exact ⟨o,I.kIn _ o hk,hd⟩
  ·have z:∃o,s.heap.get? p=some o/\o.ExactDict:=by
    rcases hk with ⟨kvs,hk⟩ | ⟨kvs,hk⟩
    ·obtain ⟨_,_,_,_,o,_,_,e,ex,_⟩:=I.hok p _ hk
     exact ⟨o,e,ex⟩
    ·obtain ⟨_,_,_,_,o,_,_,e,ex,_⟩:=I.hok p _ hk
     exact ⟨o,e,ex⟩
   obtain ⟨o,e,ex⟩:=z
   refine ⟨⟨o,e,ex.1⟩,fun a e2=>?_⟩
   cases e2
   exact ⟨o,e,ex.2.1⟩
  ·obtain ⟨o,_,_,_,e,ex,_⟩:=I.hok p _ hk
   refine ⟨⟨o,e,ex.1⟩,fun a e2=>?_⟩
   cases e2
   exact ⟨o,e,ex.2.1⟩
 | _=>exact False.elim ty
def Ew (K:W.Frag) (T:String) (r:V->List V->Hp->VK->Prop) (to:TE):TE:=fun σ H Q=>to σ H fun x H1=>tyV K T x H1/\r x [] H1 Q
def tBM (K:W.Frag) (T:String) (r:V->List V->Hp->VK->Prop) (to:TE) (t:TA):TE:=fun σ H Q=>to σ H fun x H1=>tyV K T x H1/\t σ H1 fun xs H2=>r x xs H2 Q
variable {o e:Expr}{es:List Expr}{to:TE}{t:TA}{name:Str}{apos cpos:Pos}{T id:String}{r:V->List V->Hp->VK->Prop}
theorem DS (pa:PlainAttrs T) (slot:Slot T name id) (hty:typeOf (.builtin id)=pure (.type "method_descriptor")) (hm:MtR X id r) (ho:PE X o to)
  (hbase:attributeBase o name X.env (eval o X.env)=eval o X.env:=by rfl) (hline:(apos.endLine == cpos.line)=true:=by rfl):PE X (.Call (.Attribute o name apos) [] [] cpos) (Ew X.K T r to):=by
 intro pins s σ H Q I h
 refine wpAny_Call_method0_late hbase hline (thn (ho pins s σ H _ I h) fun v s1 ⟨x,H1,I1,r1,ty,q1⟩=>?_)
 obtain ⟨h1,h2⟩:=zU I1 r1 ty
 exact ⟨T,id,pa,slot,hty,h1,h2,Calls.callWith_builtin rfl (PySem.evalArgs_none (hm pins s1 σ H1 x [] v [] Q I1 r1 .nil q1))⟩
theorem Cc (pa:PlainAttrs T) (slot:Slot T name id) (hty:typeOf (.builtin id)=pure (.type "method_descriptor")) (hm:MtR X id r) (ho:PE X o to) (ha:PA X (e :: es) t)
  (hbase:attributeBase o name X.env (eval o X.env)=eval o X.env:=by rfl)
  (hfew:((backTo cpos (starEach (e :: es) X.env)).all (fun x=>!x.1) && (backToKw cpos (keywordEach [] X.env)).all (fun x=>x.1.isSome)
   && decide ((e :: es).length + ([]:List Keyword).length + (if ([]:List Keyword).isEmpty then 0 else 1) < 30))=true:=by rfl)
  (hline:(apos.endLine == cpos.line)=true:=by rfl) (hs:starEach (e :: es) X.env=(false,eval e X.env) :: starEach es X.env:=by rfl) (hplain:(backTo cpos (starEach es X.env)).any (·.1)=false:=by rfl) :
  PE X (.Call (.Attribute o name apos) (e :: es) [] cpos) (tBM X.K T r to t):=by
 intro pins s σ H Q I h
 refine wpAny_Call_method_late hbase hfew hline rfl (thn (ho pins s σ H _ I h) fun v s1 ⟨x,H1,I1,r1,ty,q1⟩=>?_)
 obtain ⟨h1,h2⟩:=zU I1 r1 ty
 refine ⟨T,id,pa,slot,hty,h1,h2,?_⟩
 have hA:=ha cpos pins s1 σ H1 _ I1 q1
 rw [hs] at hA ⊢
 refine Calls.callWith_builtin (by show (false || (backTo cpos (starEach es X.env)).any (·.1))=false;rw [hplain] <;> rfl) (Calls.evalArgs_plain ?_)
 exact thn hA fun us s2 ⟨vs,H2,I2,r2,q2⟩=>hm pins s2 σ H2 x vs v us Q I2 r1 r2 q2
end
end L2
namespace L2
open PySem PySem.Spec PyProof.Rows
def MtM (X:Cx) (id:String) (r:V->List V->Hp->VK->Prop):Prop :=
 ∀(pins:List (Addr × Obj)) (s:Shared) (σ:St) (H:Hp) (x:V) (xs:List V) (v:Value) (us:List Value) (Q:VK),Inv X pins σ H s->RelV x v->Vals xs us->r x xs H Q ->
  wpAny (model X.prog X.w) X.A (call (.builtin id) (v :: us)) (EP X pins σ Q) X.xe s
theorem Vals.one:∀{x:V}{us:List Value},Vals [x] us->∃u,us=[u]/\RelV x u
 | _,_,.cons r .nil=>⟨_,rfl,r⟩
theorem Vals.rep {xs:List V}{us:List Value} (h:Vals xs us):∀k:Nat,Vals (List.replicate k xs).flatten (List.replicate k us).flatten
 | 0=>.nil
 | k + 1=>by
  rw [List.replicate_succ,List.replicate_succ,List.flatten_cons,List.flatten_cons]
  exact Vals.append h (Vals.rep h k)
theorem foldl_rep (its:List Value):∀(k:Nat) (acc:List Value),
  List.foldl (fun x1 x2=>x1 ++ x2) acc.toArray (List.replicate k its.toArray)=(acc ++ (List.replicate k its).flatten).toArray
 | 0,acc=>by simp
 | k + 1,acc=>by
  have e:acc.toArray ++ its.toArray=(acc ++ its).toArray:=by simp
  have e2:(acc ++ its) ++ (List.replicate k its).flatten=acc ++ (List.replicate (k + 1) its).flatten:=by
   rw [List.replicate_succ,List.flatten_cons,List.append_assoc]
  rw [<- e2,<- foldl_rep its k (acc ++ its),<- e,List.replicate_succ,List.foldl_cons]
section
variable {X:Cx}{pins:List (Addr × Obj)}{σ:St}{H:Hp}{s:Shared}{l b:Addr}{xs ys zs:List V}
theorem Inv.E8 {its its':List Value}{n:Nat}{f:Array Value->Array Value}{t':Nat} (I:Inv X pins σ H s) (hH:H l=some (.lst xs))
  (e:s.heap.get? l=some { cls:=.type "list",data:=.seq its.toArray n }) (hf:f its.toArray=its'.toArray) (hv:Vals ys its') (hz:ys.length <= sizeLine) :
  Inv X pins σ (upd H l (.lst ys)) { s with heap:=s.heap.update l (Obj.mapSeq f),toks:=t' }:=by
 have q:=PySem.IsL.update e f
 rw [hf] at q
 refine I.write (x:=l) (e:=l) (by rw [hH];exact trivial) (.inl rfl) (fun b' u hb hu=>(Heap.get?_update_other s.heap (Obj.mapSeq f) (Ne.symm hb)).trans hu) ⟨_,q⟩ ?_
 exact ⟨hz,its',_,hv,q⟩
theorem Inv.E4 {its:List Value}{t':Nat} (I:Inv X pins σ H s) (hv:Vals ys its) (hz:ys.length <= sizeLine) :
  Inv X pins σ (upd H s.heap.objs.size (.lst ys)) { s with heap:=s.heap.push { cls:=.type "list",data:=.seq its.toArray },toks:=t' } :=
 I.laid (fun _ _ q=>Heap.get?_push_of_some _ q) (Nat.le_refl _) ⟨hz,its,0,hv,Heap.get?_push_size _ rfl⟩
theorem Inv.fresh (I:Inv X pins σ H s):H s.heap.objs.size=none:=I.hok.fresh (Nat.le_refl _)
theorem Inv.x5 (I:Inv X pins σ H s) (hH:H l=some (.lst xs)):xs.length <= sizeLine/\∃(its:List Value) (n:Nat),Vals xs its/\xs.length=its.length/\s.heap.get? l=some { cls:=.type "list",data:=.seq its.toArray n }:=by
 obtain ⟨z,its,n,r,e⟩:=I.hok l _ hH
 exact ⟨z,its,n,r,r.length,e⟩
theorem vC {n:Nat} (h:n <= sizeLine):Builtin.List.listTooLong n=false:=by
 unfold Builtin.List.listTooLong
 exact decide_eq_false (by omega)
end
section
variable {X:Cx}
inductive tK (x:V) (vs:List V) (H:Hp) (Q:VK):Prop
 | mk (l:Addr) (xs:List V) (y:V) (h0:x=.ref l) (h1:vs=[y]) (h2:H l=some (.lst xs)) (h3:xs.length < sizeLine) (q:Q .non (upd H l (.lst (xs ++ [y])))):tK x vs H Q
theorem qS:MtM X "list.append" tK:=by
 intro pins s σ H x vs v us Q I rx rv h
 obtain ⟨l,xs,y,rfl,rfl,hH,hz,q⟩:=h
 cases rx
 obtain ⟨u,rfl,ru⟩:=rv.one
 obtain ⟨z,its,n,r,hl,e⟩:=I.x5 hH
 refine call_meets F.slot_list_append ⟨_,e,rfl⟩ F.entry_list_append (F.args_list_append_2 _ _) (PySem.list_append l its.toArray n u (by rw [List.size_toArray];omega)) ⟨e,?_⟩
 refine ⟨.non,_,I.E8 (its':=its ++ [u]) hH e (by simp) (r.append (.cons ru .nil)) ?_,rfl,q⟩
 rw [List.length_append,List.length_singleton]
 omega
def xF:V->List V->Hp->VK->Prop:=fun x vs H Q=>∃l b xs zs,x=.ref l/\vs=[.ref b]/\H l=some (.lst xs)/\H b=some (.lst zs)/\xs.length + zs.length <= sizeLine/\Q .non (upd H l (.lst (xs ++ zs)))
theorem xY:MtM X "list.extend" xF:=by
 intro pins s σ H x vs v us Q I rx rv h
 obtain ⟨l,b,xs,zs,rfl,rfl,hH,hB,hz,q⟩:=h
 cases rx
 obtain ⟨u,rfl,ru⟩:=rv.one
 cases ru
 obtain ⟨z,its,n,r,hl,e⟩:=I.x5 hH
 obtain ⟨z2,its2,n2,r2,hl2,e2⟩:=I.x5 hB
 have hsz:its.toArray.size + its2.toArray.size <= sizeLine:=by rw [List.size_toArray,List.size_toArray];omega
 have hlong:¬ (!its.toArray.isEmpty && Builtin.List.listTooLong (its.toArray.size + its2.toArray.size))=true:=by
  rw [vC hsz,Bool.and_false]
  exact Bool.false_ne_true
 refine call_meets F.slot_list_extend ⟨_,e,rfl⟩ F.entry_list_extend (F.args_list_extend_2 _ _)
  (AutoSeq1.list_extend_list_list_0 l its.toArray n b its2.toArray n2 hlong (by rw [List.size_toArray];omega) (by omega)) ⟨e,e2,?_⟩
 refine ⟨.non,_,I.E8 (its':=its ++ its2) hH e (by simp) (r.append r2) ?_,rfl,q⟩
 rw [List.length_append]
 omega
inductive Fi (x:V) (vs:List V) (H:Hp) (Q:VK):Prop
 | mk (l:Addr) (xs:List V) (y:V) (h0:x=.ref l) (h1:vs=[]) (h2:H l=some (.lst xs)) (h3:xs[xs.length - 1]?=some y) (q:Q y (upd H l (.lst xs.dropLast))):Fi x vs H Q
def C8:R2:=fun x y H Q=>∃l b xs zs,x=.ref l/\y=.ref b/\H l=some (.lst xs)/\H b=some (.lst zs)/\xs.length + zs.length <= sizeLine/\∀p,H p=none->Q (.ref p) (upd H p (.lst (xs ++ zs)))
theorem CN:OpR X (binaryOp .Add) C8:=by
 intro pins s σ H x y v u Q I rx ry h
 obtain ⟨l,b,xs,zs,rfl,rfl,hH,hB,hz,q⟩:=h
 cases rx
 cases ry
 obtain ⟨z,its,n,r,hl,e⟩:=I.x5 hH
 obtain ⟨z2,its2,n2,r2,hl2,e2⟩:=I.x5 hB
 refine PySem.P.add_list e e2 ?_ (by rw [List.size_toArray,List.size_toArray];omega)
 have ea:its.toArray ++ its2.toArray=(its ++ its2).toArray:=by simp
 rw [ea]
 exact ⟨.ref _,_,I.E4 (t':=s.toks) (r.append r2) (by rw [List.length_append];omega),rfl,q _ I.fresh⟩
def Fe:R2:=fun x y H Q=>∃l k xs,x=.ref l/\y=.int k/\H l=some (.lst xs)/\-(2 ^ 63) <= k/\k < 2 ^ 63/\xs.length * k.toNat <= sizeLine /\
 ∀p,H p=none->Q (.ref p) (upd H p (.lst (List.replicate k.toNat xs).flatten))
theorem len_rep {α:Type} (xs:List α) (k:Nat):(List.replicate k xs).flatten.length=k * xs.length:=by
 induction k with
 | zero=>simp
 | succ k ih=>rw [List.replicate_succ,List.flatten_cons,List.length_append,ih,Nat.succ_mul,Nat.add_comm]
theorem Dv:OpR X (binaryOp .Mult) Fe:=by
 intro pins s σ H x y v u Q I rx ry h
 obtain ⟨l,k,xs,rfl,rfl,hH,h1,h2,hz,q⟩:=h
 cases rx
 obtain ⟨t,rfl⟩:=ry
 obtain ⟨z,its,n,r,hl,e⟩:=I.x5 hH
 have hlen:its.toArray.size * k.toNat <= sizeLine:=by rw [List.size_toArray,<- hl];exact hz
 have hcap:¬ its.toArray.size * k.toNat > (2 ^ 63 - 1) / 8:=by
  have:(sizeLine:Nat) <= (2 ^ 63 - 1) / 8:=by decide
  omega
 have hfit:¬ (!Builtin.List.listFitsIndex k)=true:=by
  rw [fitsIndex_both h1 h2]
  exact Bool.false_ne_true
 have hlong:¬ Builtin.List.listTooLong (its.toArray.size * k.toNat)=true:=by
  rw [vC hlen]
  exact Bool.false_ne_true
 have hnew:List.foldl (fun x1 x2=>x1 ++ x2) #[] (List.replicate (if its.toArray.isEmpty=true then 0 else k.toNat) its.toArray)=(List.replicate k.toNat its).flatten.toArray:=by
  have f0:∀m:Nat,List.foldl (fun x1 x2=>x1 ++ x2) #[] (List.replicate m its.toArray)=(List.replicate m its).flatten.toArray:=fun m=>by
   have:=foldl_rep its m []
   rw [List.nil_append] at this
   exact this
  rw [f0]
  cases its with
  | nil=>simp
  | cons a r'=>rw [if_neg (by simp)]
 refine wpAny_binaryOp_repeat_ref (T:="list") (U:="int") (by decide) ⟨_,e,rfl⟩ (fun s'=>typeIs_int s' k t) noFill_list_mul F.fills_int_mul F.slot_int_rmul repeat_list F.slot_int_index.lookup
  (call_meets F.slot_int_rmul (typeIs_int s k t) F.entry_int_rmul (F.args_int_rmul_2 _ _) (int___rmul___int_list k t l its.toArray n)
   ⟨e,rfl,⟨_,e,rfl⟩,call_meets F.slot_list_mul ⟨_,e,rfl⟩ F.entry_list_mul (F.args_list_mul_2 _ _) (AutoListH.list___mul___list_int_3 l its.toArray n k t hfit hcap hlong) ⟨e,?_⟩⟩)
 rw [hnew]
 exact ⟨.ref _,_,I.E4 (t':=s.toks) (r.rep k.toNat) (by rw [len_rep,Nat.mul_comm];exact hz),rfl,q _ I.fresh⟩
end
section
variable {prog:Program}{w:World}{A:Around}{E:Value->Shared->Prop}{s:Shared}
end
section
variable {X:Cx}
end
end L2
namespace Att
open PySem PySem.W PySem.Calls PyProof.Rows
theorem oj {P:Params}{h:Heap}:∀(ns:List Int) (vs:List Value),WellAll P h vs (ns.map WData.int)->IntsAre vs ns:=by
 intro ns
 induction ns with
 | nil =>
  intro vs w
  rw [List.map_nil] at w
  cases w
  exact .nil
 | cons n ns ih =>
  intro vs w
  rw [List.map_cons] at w
  cases w with
  | cons a b =>
   cases a
   exact .cons _ _ (ih _ b)
theorem yH {l:OpenLaw}{n:Nat} (hn:l.most=some n) {P:Params}{h:Heap}{args:List WData}{vals:List Value}
  (hpre:l.row.toRowW.claim.pre args=true) (hwl:WellAll P h vals args) :
  ∃a vs ns,vals=[Value.ref a]/\args=[WData.list (ns.map WData.int)]/\h.get? a=some { cls:=.type "list",data:=.seq vs.toArray }/\IntsAre vs ns/\ns.length <= n:=by
 have hsh:WShape.hasAll [] args [.list .int]=true:=(pre_splitW hpre).1
 have hc:l.pre.holds [] { args:=args }=true:=(pre_splitW hpre).2
 obtain ⟨d,r,rfl,h1,h2⟩:=hasAllW_cons hsh
 obtain rfl:=hasAllW_nil h2
 obtain ⟨xs,rfl,h3⟩:=hasW_list h1
 obtain ⟨ns,rfl⟩:=items_int h3
 have hlen:ns.length <= n:=by
  unfold OpenLaw.pre at hc
  have h4:(WTm.not (.lt (.lit (.int (n:Int))) (.len (.arg 0)))).holds [] { args:=[.list (ns.map .int)] }=true:=by
   have h4:=(holds_andW hc).1
   rw [hn] at h4
   exact h4
  have h5:=condW_of h4 (w_not (w_lt w_lit (w_len_list (w_arg rfl))))
  rw [List.length_map] at h5
  refine Nat.le_of_not_lt fun q=>?_
  have q':(n:Int) < ((ns.length:Nat):Int):=by omega
  first
   | (rw [decide_eq_true q'] at h5;exact absurd h5 (by decide))
   | (simp at h5;omega)
 cases hwl with
 | cons w1 w2 =>
  cases w2
  cases w1 with
  | list ho hall=>exact ⟨_,_,ns,rfl,rfl,ho,oj ns _ hall,hlen⟩
theorem yu (l:OpenLaw) (args:List WData):l.row.toRowW.claim.post args (.bool true) args=true :=
 postW_of (r:=l.row.toRowW) (X:=(true == true))
  (show WShape.has [] (.bool true) .bool=true by first | rfl | decide | simp [WShape.has,WShape.arms,WShape.armsAll])
  (show (WTm.eq .res (.lit (.bool true))).value [] { args:=args,res:=some (.bool true),after:=args }=some (.bool (true == true)) from w_eq_bool (w_res rfl) w_lit) rfl
theorem vf {l:OpenLaw}{n:Nat}{q:Program}{loose:List Str}{XP:(Str->Option Value)->Heap->Prop}{YP:World->Heap->Prop}{d:DefRec}
  (hn:l.most=some n) (hdf:d.params.defaults=[])
  (call:∀(w:World) (s₀ s₁:Shared) (mg mb:Str->Option Value) (fa:Addr) (o:Obj) (pm cd doc:Value) (a:Addr) (vs:List Value) (ns:List Int),
   Ground q loose [] XP w s₀ mg mb s₁.heap->YP w s₁.heap ->
   s₁.heap.get? fa=some o->o.data=.func (docDef d.name d.params d.body d.scope pm cd doc)->s₁.heap.CodeRec cd d.name->mg d.name=some (.ref fa) ->
   s₁.heap.get? a=some { cls:=.type "list",data:=.seq vs.toArray }->IntsAre vs ns->ns.length <= n->s₁.gens=#[] ->
   codeAny (model l.prog w) callerA (.call (.ref fa) ⟨[.ref a],[]⟩) (fun r s'=>r=.ok (.ret (.bool true))/\OldK s₁.heap s'.heap/\s'.os=s₁.os/\AllBare s'.gens) s₁) :
  WalkO q loose XP YP l.row.toRowW d [] (fun f vs=>PySem.call f vs):=by
 intro w s₀ s₁ mg mb G Y fa o pm cd doc dV kV ho hd hcd hD hmg hg args vals as hpre hlay hrd hwl hlo
 obtain rfl:dV=.none:=Dflts.none hD hdf
 obtain rfl:kV=.none:=Dflts.noKw hD
 obtain ⟨a,vs,ns,rfl,rfl,hobj,hints,hlen⟩:=yH hn hpre hwl
 refine enter_call (codeAny_mono (call w s₀ s₁ mg mb fa o pm cd doc a vs ns G Y ho (fd_plain hd) hcd hmg hobj hints hlen hg) fun r s' hq=>?_)
 obtain ⟨rfl,h2,h3,h4⟩:=hq
 exact ⟨.inl ⟨.bool true,.bool true,[],rfl,fun _=>rfl,.bool true,yu l _,fun _=>⟨List.Pairwise.nil,fun _ hm=>(nomatch hm)⟩⟩,h2,h3,h4⟩
section
variable {prog:Program}{w:World}{A:Around}{E:Value->Shared->Prop}{s:Shared}{K:Frag}
end
end Att
namespace L2
open PySem PySem.Spec PyProof.Rows
theorem iy:∀{vs:List Value}{ns:List Int},IntsAre vs ns->Vals (ns.map V.int) vs
 | _,_,.nil=>.nil
 | _,_,.cons n t h=>.cons ⟨t,rfl⟩ (iy h)
def CU (H:Hp):Prop:=∀b,H b=none \/ ∃o xs,H b=some (.frz o (.lst xs))
theorem AI {P:Program}{w:World}{K:W.Frag}{mg mb:Str->Option Value}{CX:CXT}{k:Nat}{fa a:Addr}{fd:FuncData}{x:Str}{sp:Sp}{s₁:Shared}{vs:List Value}{ns:List Int}
  (KX:K.In s₁.heap) (hns:s₁.heap.Ns mainGlobals mg) (hb:s₁.heap.Ns builtinsNs mb) (hbb:∀x:Str,x ≠ "__name__"->mb x=bootBuiltins x) (hlim:s₁.heap.NoLimit) (hg:s₁.gens=#[])
  (ha:s₁.heap.get? a=some { cls:=.type "list",data:=.seq vs.toArray }) (hi:IntsAre vs ns) (hl:ns.length <= sizeLine) (hr:dJ k callerA)
  (F:∀base:Heap,K.In base->base.Ns mainGlobals mg->jx P w K mg base CX k fa fd [x] sp) (hbind:∀(s:Shared) (u:Value),BindsTo s fd ⟨[u],[]⟩ [(x,u)])
  (hsp:∀H:Hp,CU H->SqL K H a (ns.map V.int)->sp [.ref a] H (fun v _=>v=.bl true) fun _ _ _=>False)
  (hCX:∀H e s',CX [] H s₁ (fun _ _ _=>False) e s'->False) :
  codeAny (model P w) callerA (.call (.ref fa) ⟨[.ref a],[]⟩) (fun r s'=>r=.ok (.ret (.bool true))/\OldK s₁.heap s'.heap/\s'.os=s₁.os/\AllBare s'.gens) s₁:=by
 have rv:=iy hi
 have lenV:=hi.length
 have core:∀H:Hp,CU H->SqL K H a (ns.map V.int)->HOk P w H s₁.heap->(∀b,H b ≠ none->b=a)->(H a ≠ none->K.lookup a=none) ->
   codeAny (model P w) callerA (.call (.ref fa) ⟨[.ref a],[]⟩) (fun r s'=>r=.ok (.ret (.bool true))/\OldK s₁.heap s'.heap/\s'.os=s₁.os/\AllBare s'.gens) s₁:=by
  intro H hO hS hok hA hK
  have base_of:∀{b:Addr}{o:Obj},s₁.heap.get? b=some o->H b=none->(tM s₁.heap H).get? b=some o:=fun e n=>zH e n
  have noA:∀{b:Addr}{o:Obj}{es:Array DictEntry}{ep:Nat},s₁.heap.get? b=some o->o.data=.dict es ep->H b=none:=fun {b o es ep} e d=>by
   cases q:H b with
   | none=>rfl
   | some u =>
    have e':b=a:=hA b (by rw [q];simp)
    subst e'
    rw [ha] at e;cases e
    have d':Data.seq vs.toArray _=Data.dict es ep:=d
    cases d'
  have nsK:∀{b:Addr}{m:Str->Option Value},s₁.heap.Ns b m->(tM s₁.heap H).Ns b m:=fun {b m} ⟨o,es,ep,e,d,r⟩=>⟨o,es,ep,base_of e (noA e d),d,r⟩
  have hKb:K.In (tM s₁.heap H):=fun b o e=>base_of (KX b o e) (by
   cases q:H b with
   | none=>rfl
   | some u =>
    have e':b=a:=hA b (by rw [q];simp)
    subst e'
    rw [hK (by rw [q];simp)] at e;cases e)
  have hM:Mod K mg (tM s₁.heap H):=⟨hKb,nsK hns,⟨mb,nsK hb,hbb⟩,let ⟨mc,h1,h2⟩:=hlim;⟨mc,nsK h1,h2⟩⟩
  have e0:wK P w K mg (tM s₁.heap H) callerA [] s₁ H:=⟨rfl,hM,fun b o e=>Bs e,Nat.le_of_eq (xX _ _),trivial,fun b hb=>absurd (show b ∈ ([]:List Addr) from hb) (by simp),hok,.of_eq hg⟩
  refine codeAny_mono ((F _ hKb (nsK hns)).run callerA [] s₁ H ⟨[.ref a],[]⟩ [.ref a] [.ref a] _ _ hr e0 (hbind s₁ (.ref a)) (.cons rfl .nil) (hsp H hO hS)) fun r s' h=>?_
  cases r with
  | error e=>exact (hCX H e s' h).elim
  | ok fl =>
   cases fl with
   | next=>exact False.elim h
   | brk=>exact False.elim h
   | cont=>exact False.elim h
   | ret u =>
    obtain ⟨v,H',os,bare,un,hok',r',q⟩:=h
    have q':v=.bl true:=q
    subst q'
    obtain rfl:u=Value.bool true:=r'
    refine ⟨rfl,OldK.of_keep fun b o e=>?_,os,bare⟩
    cases q:H b with
    | none=>exact un.keep b o e q (by intro z;exact absurd (show b ∈ ([]:List Addr) from z) (by simp)) (by simp)
    | some u =>
     rcases hO b with z | ⟨ob,xs,z⟩
     ·rw [q] at z;cases z
     ·have z2:=un.nU b ob _ z
      obtain ⟨e1,_⟩:=hok b _ z
      obtain ⟨e2,_⟩:=hok' b _ z2
      rw [e] at e1;cases e1
      exact e2
 cases hk:K.lookup a with
 | some o =>
  have e:=KX a o hk
  rw [ha] at e
  cases e
  refine core (fun _=>none) (fun _=>.inl rfl) (.inr ⟨_,vs.toArray,_,hk,rfl,rfl,rfl,by rw [List.size_toArray,lenV];exact hl,by simpa using rv⟩) (fun b u z=>by have z':(none:Option HO)=some u:=z;cases z') (fun b z=>absurd rfl z) fun z=>absurd rfl z
 | none =>
  refine core (fun b=>if b=a then some (.frz { cls:=.type "list",data:=.seq vs.toArray } (.lst (ns.map V.int))) else none) (fun b=>?_) (.inl (.inr ⟨{ cls:=.type "list",data:=.seq vs.toArray },if_pos rfl⟩)) (fun b u z=>?_) (fun b z=>?_) fun _=>hk
  ·by_cases hb:b=a
   ·exact .inr ⟨_,_,if_pos hb⟩
   ·exact .inl (if_neg hb)
  ·by_cases hb:b=a
   ·have z':=(if_pos hb).symm.trans z
    cases z'
    subst hb
    exact ⟨ha,by rw [List.length_map];exact hl,vs,_,rv,ha⟩
   ·have z':=(if_neg hb).symm.trans z
    cases z'
  ·by_cases hb:b=a
   ·exact hb
   ·exact absurd (if_neg hb) z
end L2
namespace L2
open PySem PySem.Spec PyProof.Rows
theorem BC {l:W.OpenLaw}{n k:Nat}{q:Program}{loose:List Str}{XP:(Str->Option Value)->Heap->Prop}{YP:World->Heap->Prop}{d:DefRec}{K:Params->W.Frag}{CX:World->CXT}{sp:World->Sp}{x:Str}
  (hn:l.most=some n) (hn2:n <= sizeLine) (hdf:d.params.defaults=[]) (hr:dJ k callerA)
  (hY:∀(w:World) (h:Heap),YP w h->(K w.params).In h)
  (F:∀(w:World) (mg:Str->Option Value) (fa:Addr) (h:Heap),(K w.params).In h->h.Ns mainGlobals mg->mg d.name=some (.ref fa) ->
   ∃fd:FuncData,(∀(s:Shared) (u:Value),BindsTo s fd ⟨[u],[]⟩ [(x,u)]) /\
    ∀base:Heap,(K w.params).In base->base.Ns mainGlobals mg->jx l.prog w (K w.params) mg base (CX w) k fa fd [x] (sp w))
  (hsp:∀(w:World) (H:Hp) (a:Addr) (ns:List Int),ns.length <= n->CU H->SqL (K w.params) H a (ns.map V.int)->sp w [.ref a] H (fun v _=>v=.bl true) fun _ _ _=>False)
  (hCX:∀(w:World) (H:Hp) (s:Shared) (e:Value) (s':Shared),CX w [] H s (fun _ _ _=>False) e s'->False) :
  W.WalkO q loose XP YP l.row.toRowW d [] (fun f vs=>PySem.call f vs):=by
 refine Att.vf hn hdf fun w s₀ s₁ mg mb fa o pm cd doc a vs ns G Y ho hd hcd hmg hobj hints hlen hg=>?_
 have KX:=hY w _ Y
 obtain ⟨fd,hb,hF⟩:=F w mg fa _ KX G.T.g hmg
 exact AI KX G.T.g G.T.b G.T.builtins G.T.nolimit hg hobj hints (Nat.le_trans hlen hn2) hr hF hb (fun H hO hS=>hsp w H a ns hlen hO hS) fun H e s'=>hCX w H s₁ e s'
end L2
namespace L2
open PySem PySem.Spec PyProof.Rows
abbrev CX0:CXT:=fun _ _ _ _ _ _=>False
abbrev E0:XK:=fun _ _ _=>False
theorem vd {X:Cx}:Passes CX0 X E0:=fun _ _ _ _ _ _ _ h=>h.elim
structure Fun (K:W.Frag) (x qual:Str) (st:Stmt) (f:Addr) (fd:FuncData):Prop where
 ex:∃(oc:Value) (od:Option Addr) (kV doc pm:Value) (an:Option Addr) (cdv ct:Value) (osl:Array (Option Value)),
  fd=W.fnOf x qual (bP st) (bu st) (ak st) .none kV doc pm an cdv ct/\K.lookup f=some ⟨oc,od,.func fd,osl⟩/\W.codeIn K cdv qual=true
 kp:W.keepIn K (.ref f)=true
section
variable {P:Program}{w:World}{K:W.Frag}{mg:Str->Option Value}{base:Heap}
theorem Fun.ok {x qual:Str}{st:Stmt}{f:Addr}{fd:FuncData}{N ps:List Str}{k:Nat}{sp:Sp} (F:Fun K x qual st f fd) (S:az N ps (ak st)) (len:∀vs H Q E,sp vs H Q E->vs.length=ps.length)
  (hbody:∀(cdv:Value) (A:Around) (outer:List Env) (s:Shared) (H:Hp) (vs:List V) (Q:VK) (E:XK),dJ k (A.deeper (envOfC qual (ak st) s.heap.objs.size f cdv))->sp vs H Q E ->
   ∃t,PSs (r9 CX0 P w K mg base N qual (ak st) f cdv A outer s H E).nox (bu st) t/\t { nx:=fun _ H'=>Q .non H',rt:=Q } (start N vs) H):jx P w K mg base CX0 (k + 1) f fd ps sp:=by
 obtain ⟨oc,od,kV,doc,pm,an,cdv,ct,osl,rfl,lk,hcd⟩:=F.ex
 refine Ce lk hcd S len fun A outer s H vs Q E hr hsp=>?_
 obtain ⟨t,h,q⟩:=hbody cdv A outer s H vs Q E hr hsp
 exact ⟨t,h.nox,q⟩
theorem Fun.binds {x qual:Str}{st:Stmt}{f:Addr}{fd:FuncData}{ps:List Str} (F:Fun K x qual st f fd)
  (h:∀(kV doc pm:Value) (an:Option Addr) (cdv ct:Value) (us:List Value),us.length=ps.length->bindArgs (W.fnOf x qual (bP st) (bu st) (ak st) .none kV doc pm an cdv ct) ⟨us,[]⟩=pure (ps.zip us)):Binds K fd ps []:=by
 obtain ⟨oc,od,kV,doc,pm,an,cdv,ct,osl,rfl,lk,hcd⟩:=F.ex
 exact .all (h kV doc pm an cdv ct)
theorem tY {x qual:Str}{st:Stmt}{f:Addr}{oc:Value}{od an:Option Addr}{osl:Array (Option Value)}{kV doc pm cdv ct:Value} (l:K.lookup f=some ⟨oc,od,.func (W.fnOf x qual (bP st) (bu st) (ak st) .none kV doc pm an cdv ct),osl⟩)
  (c:W.codeIn K cdv qual=true) (k:W.keepIn K (.ref f)=true):Fun K x qual st f (W.fnOf x qual (bP st) (bu st) (ak st) .none kV doc pm an cdv ct):=⟨⟨oc,od,kV,doc,pm,an,cdv,ct,osl,rfl,l,c⟩,k⟩
end
theorem aQ {n:Nat} (h:n <= 1000):n < sizeLine:=Nat.lt_of_le_of_lt h (by decide)
section
variable {X:Cx}
end
theorem aN {A B:Prop} (h:B):if false=true then A else B:=by
 rw [if_neg Bool.false_ne_true]
 exact h
theorem bU {A B:Prop} (h:A):if true=true then A else B:=by
 rw [if_pos rfl]
 exact h
theorem de {c A B:Prop} [Decidable c] (h1:c->A) (h2:¬ c->B):if c then A else B:=by
 by_cases h:c
 ·rw [if_pos h]
  exact h1 h
 ·rw [if_neg h]
  exact h2 h
def aq (H H':Hp):Prop:=∀b o,H b=some o->H' b=some o
theorem aq.refl (H:Hp):aq H H:=fun _ _ h=>h
theorem aq.trans {H H1 H2:Hp} (a:aq H H1) (b:aq H1 H2):aq H H2:=fun c o h=>b c o (a c o h)
theorem aq.free {H H':Hp} (e:aq H H') {l:Addr} (h:H' l=Option.none):H l=Option.none:=by
 cases q:H l with
 | none=>rfl
 | some o =>
  rw [e l o q] at h
  cases h
theorem aq.seq {K:W.Frag}{H H':Hp}{a:Addr}{xs:List V} (e:aq H H') (h:SqL K H a xs):SqL K H' a xs:=by
 rcases h with (h | ⟨o,h⟩) | h
 ·exact .inl (.inl (e _ _ h))
 ·exact .inl (.inr ⟨o,e _ _ h⟩)
 ·exact .inr h
end L2
namespace L2
open PySem PySem.Spec PyProof.Rows
theorem mW {α β:Type}{l:List α}{f:α->β->Sem (ForInStep β)} (g:β->α->β) (c:β) (h:∀x ∈ l,∀c,f x c=pure (.yield (g c x))) :
  forIn l c f=pure (l.foldl g c):=by
 induction l generalizing c with
 | nil=>rfl
 | cons x l ih =>
  rw [List.forIn_cons,h x List.mem_cons_self,pure_bind]
  exact ih _ fun y hy=>h y (List.mem_cons_of_mem _ hy)
def eg (env:Env) (cs:List (Str × Addr)) (x:Str × NameKind):List (Str × Addr) :=
 if x.2 == .free then (x.1,(env.cells.lookup x.1).getD 0) :: cs else cs
def pM (env:Env) (names:List (Str × NameKind)):List (Str × Addr):=names.foldl (eg env) []
theorem nY {scope:Scope}{env:Env} (h:∀x ∈ scope.names,x.2=.free->∃c,env.cells.lookup x.1=some c):closureFor scope env=pure (pM env scope.names):=by
 simp only [closureFor]
 rw [mW (eg env) [] (fun x hx c=>by
  obtain ⟨n,kind⟩:=x
  cases hk:kind == NameKind.free with
  | false=>simp only [eg,hk,Bool.false_eq_true,if_false]
  | true =>
   obtain ⟨a,ha⟩:=h (n,kind) hx (by simpa using hk)
   have ha':env.cells.lookup n=some a:=ha
   simp only [eg,hk,if_true,cellOf,ha',Option.getD_some,pure_bind])]
 rfl
theorem qc {env:Env}:∀{names:List (Str × NameKind)}{cs:List (Str × Addr)}{n:Str}{c:Addr},(n,c) ∈ names.foldl (eg env) cs->(n,c) ∈ cs \/ ((n,NameKind.free) ∈ names/\c=(env.cells.lookup n).getD 0)
 | [],_,_,_,h=>.inl h
 | (m,k) :: r,cs,n,c,h=>by
  rcases qc (names:=r) (cs:=eg env cs (m,k)) h with h | ⟨h,e⟩
  ·unfold eg at h
   by_cases hk:(k == NameKind.free)=true
   ·rw [if_pos hk] at h
    rcases List.mem_cons.mp h with e | h
    ·cases e
     have hk':k=.free:=by simpa using hk
     subst hk'
     exact .inr ⟨List.mem_cons_self,rfl⟩
    ·exact .inl h
   ·rw [if_neg hk] at h
    exact .inl h
  ·exact .inr ⟨List.mem_cons_of_mem _ h,e⟩
theorem rH {env:Env}{p:Str × Addr}:∀{names:List (Str × NameKind)}{cs:List (Str × Addr)},p ∈ cs->p ∈ names.foldl (eg env) cs
 | [],_,h=>h
 | x :: r,cs,h=>rH (names:=r) (cs:=eg env cs x) (by
  unfold eg
  split
  ·exact List.mem_cons_of_mem _ h
  ·exact h)
theorem sW {env:Env}{n:Str}:∀{names:List (Str × NameKind)}{cs:List (Str × Addr)},(n,NameKind.free) ∈ names->(n,(env.cells.lookup n).getD 0) ∈ names.foldl (eg env) cs
 | x :: r,cs,h=>by
  rcases List.mem_cons.mp h with e | h
  ·subst e
   refine rH (names:=r) (cs:=eg env cs (n,.free)) ?_
   unfold eg
   rw [if_pos (by rfl)]
   exact List.mem_cons_self
  ·exact sW (names:=r) h
theorem gR {α:Type}:∀{l:List (Str × α)}{n:Str}{c:α},(n,c) ∈ l->∃c',l.lookup n=some c'
 | (k,v) :: r,n,c,h=>by
  rw [List.lookup_cons]
  cases hb:n == k with
  | true=>exact ⟨v,rfl⟩
  | false =>
   rcases List.mem_cons.mp h with e | h
   ·cases e;simp at hb
   ·exact gR h
theorem eP:∀{names:List (Str × NameKind)}{k:Nat}{acc:List (Str × Addr)}{n:Str}{c:Addr},(n,c) ∈ cellsFrom k names acc->(n,c) ∈ acc \/ (k <= c/\(n,NameKind.cell) ∈ names)
 | [],_,_,_,_,h=>.inl h
 | (m,kd) :: r,k,acc,n,c,h=>by
  unfold cellsFrom at h
  by_cases hk:(kd == NameKind.cell)=true
  ·rw [if_pos hk] at h
   have hk':kd=.cell:=by simpa using hk
   subst hk'
   rcases eP (names:=r) h with h | ⟨h1,h2⟩
   ·rcases List.mem_cons.mp h with e | h
    ·cases e
     exact .inr ⟨Nat.le_refl _,List.mem_cons_self⟩
    ·exact .inl h
   ·exact .inr ⟨by omega,List.mem_cons_of_mem _ h2⟩
  ·rw [if_neg hk] at h
   rcases eP (names:=r) h with h | ⟨h1,h2⟩
   ·exact .inl h
   ·exact .inr ⟨h1,List.mem_cons_of_mem _ h2⟩
theorem hU:∀{names:List (Str × NameKind)}{k:Nat}{acc:List (Str × Addr)},(∀n c,(n,c) ∈ acc->c < k)->(∀n n' c,(n,c) ∈ acc->(n',c) ∈ acc->n=n') ->
  ∀{n n':Str}{c:Addr},(n,c) ∈ cellsFrom k names acc->(n',c) ∈ cellsFrom k names acc->n=n'
 | [],_,_,_,hi,_,_,_,h,h'=>hi _ _ _ h h'
 | (m,kd) :: r,k,acc,hl,hi,n,n',c,h,h'=>by
  unfold cellsFrom at h h'
  by_cases hk:(kd == NameKind.cell)=true
  ·rw [if_pos hk] at h h'
   refine hU (names:=r) (acc:=(m,k) :: acc) (fun a b hab=>?_) (fun a a' b ha ha'=>?_) h h'
   ·rcases List.mem_cons.mp hab with e | e
    ·cases e;exact Nat.lt_succ_self _
    ·exact Nat.lt_succ_of_lt (hl _ _ e)
   ·rcases List.mem_cons.mp ha with e | e <;> rcases List.mem_cons.mp ha' with e' | e'
    ·cases e;cases e';rfl
    ·cases e;exact absurd (hl _ _ e') (Nat.lt_irrefl _)
    ·cases e';exact absurd (hl _ _ e) (Nat.lt_irrefl _)
    ·exact hi _ _ _ e e'
  ·rw [if_neg hk] at h h'
   exact hU (names:=r) hl hi h h'
theorem gx:∀{names:List (Str × NameKind)}{h:Heap}{acc:List (Str × Addr)}{n:Str}{c:Addr},(n,c) ∈ cellsFrom h.objs.size names acc->(n,c) ∈ acc \/ (pushCells h names).IsCell c none
 | [],_,_,_,_,q=>.inl q
 | (m,kd) :: r,h,acc,n,c,q=>by
  unfold cellsFrom at q
  unfold pushCells
  by_cases hk:(kd == NameKind.cell)=true
  ·rw [if_pos hk] at q
   rw [if_pos hk]
   have e:h.objs.size + 1=(h.push { cls:=.type "cell",data:=.cell none }).objs.size:=(Heap.size_push ..).symm
   rw [e] at q
   rcases gx (names:=r) q with q | q
   ·rcases List.mem_cons.mp q with e' | q
    ·cases e'
     exact .inr ⟨_,pushCells_keeps r _ _ _ (Heap.get?_push_size _ rfl),rfl⟩
    ·exact .inl q
   ·exact .inr q
  ·rw [if_neg hk] at q
   rw [if_neg hk]
   exact gx (names:=r) q
theorem hV {x:Str}:∀{names:List (Str × NameKind)}{k:Nat}{acc:List (Str × Addr)},(x,NameKind.cell) ∉ names->(cellsFrom k names acc).lookup x=acc.lookup x
 | [],_,_,_=>rfl
 | (m,kd) :: r,k,acc,h=>by
  unfold cellsFrom
  have hr:(x,NameKind.cell) ∉ r:=fun z=>h (List.mem_cons_of_mem _ z)
  by_cases hk:(kd == NameKind.cell)=true
  ·have hk':kd=.cell:=by simpa using hk
   subst hk'
   rw [if_pos hk,hV hr,List.lookup_cons]
   have ne:(x == m)=false:=by
    cases hb:x == m with
    | false=>rfl
    | true=>exact absurd (by rw [beq_iff_eq.mp hb];exact List.mem_cons_self) h
   rw [ne]
  ·rw [if_neg hk]
   exact hV hr
section
variable {M:Model}{A:Around}{E:Value->Shared->Prop}{s:Shared}
theorem uR {scope:Scope}{globals:Addr}{cl:List (Str × Addr)}{qual:Str}{Av:Env}{Q:Env->Shared->Prop}
  (h:Q (newEnv scope s.heap.objs.size globals (cellsFrom (s.heap.objs.size + 1) scope.names cl) qual none .none (some Av) builtinsNs) { s with heap:=pushCells (s.heap.push { cls:=.type "dict",data:=.dict #[] }) scope.names }) :
  wpAny M A (newFunctionEnv scope globals cl [] qual none .none (some Av)) Q E s:=by
 simp only [newFunctionEnv,Option.isSome_some,if_true]
 refine wpAny_bind (wpAny_alloc ?_)
 refine wpAny_bind (wpAny_layCells _ (fun name kind cells=>by cases hkc:kind == NameKind.cell <;> simp [hkc]) _ _ _ _ ?_)
 rw [show ({ s with heap:=s.heap.push { cls:=.type "dict",data:=.dict #[] } }:Shared).heap.objs.size=s.heap.objs.size + 1 from Heap.size_push ..]
 refine wpAny_bind ?_
 rw [List.forIn_nil]
 exact wpAny_pure (wpAny_pure h)
end
structure CB where
 C:Addr
 ex:List Addr
 s:Shared
 H:Hp
def cxC (X:Cx) (N:List Str) (scope:Scope) (b:CB):Cx:={ X with
 N:=N
 s₀:=b.s
 H₀:=b.H
 env:=compEnvC scope (cellsFrom (b.C + 1) scope.names (pM X.env scope.names)) b.C X.env
 outer:=X.stack
 ex:=b.ex
 fn:=fun x=>scope.names.lookup x == some .cell
 pn:=[]
 xe:=fun _ _=>False }
theorem ko {env:Env}{x:Str}:∀{names:List (Str × NameKind)},
  (names.map fun (n,k)=>if (k == NameKind.free && env.scope.kind == .function && env.kindOf n == some .cell) then (n,NameKind.cell) else (n,k)).lookup x =
   (names.lookup x).map fun k=>if (k == NameKind.free && env.scope.kind == .function && env.kindOf x == some .cell) then NameKind.cell else k
 | []=>rfl
 | (n,k) :: r=>by
  have ih:=@ko env x r
  show List.lookup x ((if (k == NameKind.free && env.scope.kind == .function && env.kindOf n == some .cell)=true then (n,NameKind.cell) else (n,k)) :: _)=_
  cases hx:x == n with
  | true =>
   have e:x=n:=beq_iff_eq.mp hx
   subst e
   by_cases hc:(k == NameKind.free && env.scope.kind == .function && env.kindOf x == some .cell)=true
   ·rw [if_pos hc];simp only [List.lookup_cons,hx,Option.map_some,hc,if_true]
   ·rw [if_neg hc];simp only [List.lookup_cons,hx,Option.map_some];rw [if_neg hc]
  | false =>
   by_cases hc:(k == NameKind.free && env.scope.kind == .function && env.kindOf n == some .cell)=true
   ·rw [if_pos hc];simp only [List.lookup_cons,hx];exact ih
   ·rw [if_neg hc];simp only [List.lookup_cons,hx];exact ih
structure bS (psc:Scope) (PN N:List Str) (own:Nat) (fr:List Nat) (scope:Scope):Prop where
 kind:scope.kind=.function
 nd:(scope.names.map (·.1)).Nodup
 free:∀x ∈ scope.names,x.2=.free->psc.names.lookup x.1=some .cell \/ psc.names.lookup x.1=some .free
 len:N.length=own + fr.length
 frn:∀i,i < fr.length->N[own + i]?=(fr[i]?).bind fun j=>PN[j]?
 frk:∀i,i < fr.length->∀y,N[own + i]?=some y->scope.names.lookup y=some .free
def xu (psc:Scope) (PN N:List Str) (own:Nat) (fr:List Nat) (scope:Scope):Bool :=
 scope.kind == .function && decide (scope.names.map (·.1)).Nodup && scope.names.all (fun x=>x.2 != .free || (psc.names.lookup x.1 == some .cell || psc.names.lookup x.1 == some .free)) &&
  (N.length == own + fr.length) && ((fr.map fun j=>PN[j]?) == (N.drop own).map some) && (N.drop own).all (fun y=>scope.names.lookup y == some .free)
theorem bS.of {psc:Scope}{PN N:List Str}{own:Nat}{fr:List Nat}{scope:Scope} (h:xu psc PN N own fr scope=true):bS psc PN N own fr scope:=by
 unfold xu at h
 simp only [Bool.and_eq_true] at h
 obtain ⟨⟨⟨⟨⟨h1,h2⟩,h3⟩,h4⟩,h5⟩,h6⟩:=h
 have h4':N.length=own + fr.length:=eq_of_beq h4
 have h5':(fr.map fun j=>PN[j]?)=(N.drop own).map some:=eq_of_beq h5
 have dr:∀i,N[own + i]?=(N.drop own)[i]?:=fun i=>by rw [List.getElem?_drop]
 refine ⟨eq_of_beq h1,of_decide_eq_true h2,fun x hx hk=>?_,h4',fun i hi=>?_,fun i hi y hy=>?_⟩
 ·have q:=List.all_eq_true.mp h3 x hx
  rw [hk] at q
  simpa using q
 ·have q:=congrArg (fun l=>l[i]?) h5'
  simp only [List.getElem?_map] at q
  rw [dr]
  have ej:fr[i]?=some fr[i]:=List.getElem?_eq_getElem hi
  rw [ej] at q ⊢
  cases e:(N.drop own)[i]? with
  | none=>rw [e] at q;cases q
  | some y =>
   rw [e] at q
   exact (Option.some.inj q).symm
 ·rw [dr] at hy
  have q:=List.all_eq_true.mp h6 y (List.mem_of_getElem? hy)
  simpa using q
def cSt (own:Nat) (fr:List Nat) (σ:St):St:=List.replicate own none ++ fr.map fun j=>(σ[j]?).getD none
theorem fB {α:Type}:∀{l:List (Str × α)}{n:Str}{k:α},(l.map (·.1)).Nodup->(n,k) ∈ l->l.lookup n=some k
 | (m,v) :: r,n,k,nd,h=>by
  rw [List.map_cons,List.nodup_cons] at nd
  rw [List.lookup_cons]
  rcases List.mem_cons.mp h with e | h
  ·cases e;simp
  ·have ne:(n == m)=false:=by
    cases hb:n == m with
    | false=>rfl
    | true=>exact absurd (List.mem_map.mpr ⟨(n,k),h,beq_iff_eq.mp hb⟩) nd.1
   rw [ne]
   exact fB nd.2 h
section
variable {X:Cx}{pins:List (Addr × Obj)}{σ:St}{H:Hp}{s:Shared}{N:List Str}{own:Nat}{fr:List Nat}{scope:Scope}
theorem bS.cells (S:bS X.env.scope X.N N own fr scope) (ok:X.Ok):∀x ∈ scope.names,x.2=.free->∃c,X.env.cells.lookup x.1=some c:=fun x hx hk =>
 ok.has x.1 (S.free x hx hk)
theorem bS.cl (S:bS X.env.scope X.N N own fr scope) (ok:X.Ok) {n:Str}{c:Addr} (h:(n,c) ∈ pM X.env scope.names):X.env.cells.lookup n=some c:=by
 rcases qc h with h | ⟨h,e⟩
 ·cases h
 ·obtain ⟨c',e'⟩:=S.cells ok (n,.free) h rfl
  have e2:X.env.cells.lookup n=some c':=e'
  rw [e2] at e
  rw [e,e2]
  rfl
theorem Al {D C:Addr}{h':Heap}{fp:List Addr} (S:bS X.env.scope X.N N own fr scope) (I:Inv X pins σ H s) (hD:D=s.heap.objs.size) (hC:C=s.heap.objs.size + 1)
  (hh:h'=pushCells ((s.heap.push { cls:=.type "list",data:=.seq #[] }).push { cls:=.type "dict",data:=.dict #[] }) scope.names) (hfp:∀b ∈ fp,pX X pins H b) (hlt:∀b ∈ fp,b < s.heap.objs.size) :
  Inv (cxC X N scope ⟨C,fp,s,H⟩) [] (cSt own fr σ) (upd H D (.lst [])) { s with heap:=h' }:=by
 subst hD hC
 have eD:(s.heap.push { cls:=.type "list",data:=.seq #[] }).objs.size=s.heap.objs.size + 1:=Heap.size_push ..
 have eC:((s.heap.push { cls:=.type "list",data:=.seq #[] }).push { cls:=.type "dict",data:=.dict #[] }).objs.size=s.heap.objs.size + 2:=by rw [Heap.size_push,eD]
 have keep:∀b o,s.heap.get? b=some o->h'.get? b=some o:=fun b o e=>by
  rw [hh]
  exact pushCells_keeps _ _ _ _ (Heap.get?_push_of_some _ (Heap.get?_push_of_some _ e))
 have lst:h'.get? s.heap.objs.size=some { cls:=.type "list",data:=.seq #[] }:=by
  rw [hh]
  exact pushCells_keeps _ _ _ _ (Heap.get?_push_of_some _ (Heap.get?_push_size _ rfl))
 have dct:h'.get? (s.heap.objs.size + 1)=some { cls:=.type "dict",data:=.dict #[] }:=by
  rw [hh]
  refine pushCells_keeps _ _ _ _ ?_
  have:=Heap.get?_push_size (s.heap.push { cls:=.type "list",data:=.seq #[] }) (o:={ cls:=.type "dict",data:=.dict #[] }) rfl
  rw [eD] at this
  exact this
 have hnD:H s.heap.objs.size=none:=I.hok.fresh (Nat.le_refl _)
 have hnC:H (s.heap.objs.size + 1)=none:=I.hok.fresh (Nat.le_succ _)
 have inCl:∀{n:Str}{c:Addr},(n,c) ∈ pM X.env scope.names->X.env.cells.lookup n=some c:=fun h=>S.cl I.ok h
 have clt:∀{n:Str}{c:Addr},X.env.cells.lookup n=some c->c < s.heap.objs.size:=fun h=>by
  obtain ⟨v,z⟩:=I.cell _ _ h
  exact z.lt
 have cases_:∀{n:Str}{c:Addr},(cellsFrom (s.heap.objs.size + 1 + 1) scope.names (pM X.env scope.names)).lookup n=some c->X.env.cells.lookup n=some c \/ (s.heap.objs.size + 2 <= c/\(n,NameKind.cell) ∈ scope.names/\h'.IsCell c none):=fun {n c} h=>by
  have hm:=PySem.mem_of_lookup h
  have hcell:=hm
  rw [show s.heap.objs.size + 1 + 1=((s.heap.push { cls:=.type "list",data:=.seq #[] }).push { cls:=.type "dict",data:=.dict #[] }).objs.size from eC.symm] at hcell
  rcases eP hm with h1 | ⟨h1,h2⟩
  ·exact .inl (inCl h1)
  ·rcases gx hcell with h3 | h3
   ·exact .inl (inCl h3)
   ·exact .inr ⟨h1,h2,by rw [hh];exact h3⟩
 have kindOf:∀x,(cxC X N scope ⟨s.heap.objs.size + 1,fp,s,H⟩).env.kindOf x=(scope.names.lookup x).map fun k=>if (k == NameKind.free && X.env.scope.kind == .function && X.env.kindOf x == some .cell) then NameKind.cell else k:=fun x=>ko
 have hasName:∀x,((cxC X N scope ⟨s.heap.objs.size + 1,fp,s,H⟩).env.kindOf x=some .cell \/ (cxC X N scope ⟨s.heap.objs.size + 1,fp,s,H⟩).env.kindOf x=some .free)->∃c,(cellsFrom (s.heap.objs.size + 1 + 1) scope.names (pM X.env scope.names)).lookup x=some c:=fun x hx=>by
  rw [kindOf] at hx
  have h2:scope.names.lookup x=some .cell \/ scope.names.lookup x=some .free:=by
   cases e:scope.names.lookup x with
   | none=>rw [e] at hx;rcases hx with z | z <;> cases z
   | some k =>
    rw [e] at hx
    by_cases hk:k=.free
    ·exact .inr (by rw [hk])
    ·have hk':(k == NameKind.free)=false:=by simpa using hk
     simp only [Option.map_some,hk',Bool.false_and,Bool.false_eq_true,if_false] at hx
     rcases hx with z | z
     ·exact .inl z
     ·exact .inr z
  rcases h2 with h2 | h2
  ·exact Option.isSome_iff_exists.mp (W.cellsFrom_some scope.names _ _ (.inl h2))
  ·obtain ⟨c,hc⟩:=gR (sW (env:=X.env) (cs:=[]) (PySem.mem_of_lookup h2))
   exact Option.isSome_iff_exists.mp (W.cellsFrom_some scope.names _ _ (.inr (by rw [show (pM X.env scope.names).lookup x=some c from hc];rfl)))
 have cellAt:∀x c,(cellsFrom (s.heap.objs.size + 1 + 1) scope.names (pM X.env scope.names)).lookup x=some c->∃v,h'.IsCell c v:=fun x c e=>by
  rcases cases_ e with q | ⟨_,_,q⟩
  ·obtain ⟨v,o,ho,hd⟩:=I.cell x c q
   exact ⟨v,o,keep c o ho,hd⟩
  ·exact ⟨none,q⟩
 refine ⟨⟨I.ok.mod,S.kind,I.ok.glob,I.ok.blt,Nat.le_succ _,fun y z c h1 h2=>?_,hasName,fun y c hy h=>?_,I.ok.hd,I.ok.frames,.inl rfl,fun b hb=>⟨?_,fun x c e z=>?_⟩,fun b o e=>I.bs b o e,Nat.le_trans I.ok.bsz I.sz,fun b o e hb=>?_,fun b hb hf=>?_,I.stack,I.xG⟩,
  rfl,I.bare,?_,⟨fun _=>none,⟨_,#[],_,dct,rfl,fun e he=>absurd he (by simp),fun _=>rfl⟩,fun i x v h1 h2 h3=>?_⟩,cellAt,?_,fun x c e=>?_,fun p hp=>absurd (show p ∈ ([]:List (Addr × Obj)) from hp) (by simp),?_,?_⟩
 ·
  refine hU (fun n c hm=>?_) (fun n n' c hm hm'=>I.ok.inj n n' c (inCl hm) (inCl hm')) (PySem.mem_of_lookup h1) (PySem.mem_of_lookup h2)
  exact Nat.lt_succ_of_lt (Nat.lt_succ_of_lt (clt (inCl hm)))
 ·
  have hy':scope.names.lookup y=some .cell:=by simpa using (show (scope.names.lookup y == some .cell)=true from hy)
  rcases cases_ h with q | ⟨q,_⟩
  ·rcases eP (PySem.mem_of_lookup h) with q2 | ⟨q2,_⟩
   ·rcases qc q2 with z | ⟨z,_⟩
    ·cases z
    ·have:=fB S.nd z
     rw [hy'] at this
     cases this
   ·exact Nat.le_trans (Nat.le_add_right _ 2) q2
  ·exact Nat.le_trans (Nat.le_add_right _ 2) q
 ·exact Nat.ne_of_lt (Nat.lt_succ_of_lt (hlt b hb))
 ·rcases cases_ e with q | ⟨q,_⟩
  ·exact (hfp b hb).2.2.2.2.1 x c q z
  ·have hb':=hlt b hb
   rw [<- z] at hb'
   exact absurd (Nat.lt_of_lt_of_le hb' (Nat.le_trans (Nat.le_add_right _ 2) q)) (Nat.lt_irrefl _)
 ·rcases (hfp b hb).2.2.2.1 with z | z
  ·exact I.ok.zL b o e z
  ·exact Nat.lt_irrefl _ (Nat.lt_of_lt_of_le (Heap.lt_size e) (Nat.le_trans I.ok.bsz z))
 ·rcases List.mem_cons.mp (I.wJ b hf) with z | z
  ·exact (hfp b hb).2.1 z
  ·exact (hfp b hb).2.2.1 z
 ·exact Un.laid keep (Nat.le_refl _) hnD
 ·
  have h1:N[i]?=some x:=h1
  have hlen:i < N.length:=(List.getElem?_eq_some_iff.mp h1).1
  by_cases hi:i < own
  ·exfalso
   have h2':(cSt own fr σ)[i]?=some none:=by
    unfold cSt
    rw [List.getElem?_append_left (by simpa using hi),List.getElem?_replicate,if_pos hi]
   rw [h2'] at h2
   cases h2
  ·have hfi:i - own < fr.length:=by have:=S.len;omega
   have ei:own + (i - own)=i:=by omega
   have hk:=S.frk (i - own) hfi x (by rw [ei];exact h1)
   have hn:=S.frn (i - own) hfi
   rw [ei,h1] at hn
   have ej:fr[i - own]?=some fr[i - own]:=List.getElem?_eq_getElem hfi
   rw [ej] at hn
   have hn':X.N[fr[i - own]]?=some x:=hn.symm
   have h2':(cSt own fr σ)[i]?=some ((σ[fr[i - own]]?).getD none):=by
    unfold cSt
    rw [List.getElem?_append_right (by simpa using Nat.not_lt.mp hi),List.length_replicate,List.getElem?_map,ej]
    rfl
   rw [h2'] at h2
   have h2'':(σ[fr[i - own]]?).getD none=some v:=Option.some.inj h2
   have hσ:σ[fr[i - own]]?=some (some v):=by
    cases e:σ[fr[i - own]]? with
    | none=>rw [e] at h2'';cases h2''
    | some w=>rw [e] at h2'';exact congrArg some h2''
   obtain ⟨m,hm,hl⟩:=I.loc
   have hfree:=S.free (x,.free) (PySem.mem_of_lookup hk) rfl
   obtain ⟨u,r,l⟩:=hl _ x v hn' hσ (hfree.elim (fun z=>.inr (.inl z)) fun z=>.inr (.inr z))
   refine ⟨u,r,.inr ?_⟩
   have hcell:∃c,X.env.cells.lookup x=some c/\s.heap.IsCell c (some u):=by
    rcases l with ⟨l,_⟩ | ⟨_,c,e,z⟩
    ·exfalso
     rcases hfree with z | z
     ·have l':X.env.scope.names.lookup x=some .local:=l
      have z':X.env.scope.names.lookup x=some .cell:=z
      rw [l'] at z';cases z'
     ·have l':X.env.scope.names.lookup x=some .local:=l
      have z':X.env.scope.names.lookup x=some .free:=z
      rw [l'] at z';cases z'
    ·exact ⟨c,e,z⟩
   obtain ⟨c,e,o,ho,hd⟩:=hcell
   refine ⟨?_,c,?_,o,keep c o ho,hd⟩
   ·rw [kindOf,hk]
    by_cases z:(X.env.scope.kind == .function && X.env.kindOf x == some .cell)=true
    ·left
     simp only [Option.map_some,beq_self_eq_true,Bool.true_and,z,if_true]
    ·right
     simp only [Option.map_some,beq_self_eq_true,Bool.true_and]
     rw [if_neg z]
   ·show (cellsFrom (s.heap.objs.size + 1 + 1) scope.names (pM X.env scope.names)).lookup x=some c
    rw [hV fun z=>by
     have:=fB S.nd z
     rw [hk] at this
     cases this]
    obtain ⟨c',hc'⟩:=gR (sW (env:=X.env) (cs:=[]) (PySem.mem_of_lookup hk))
    have hc2:(pM X.env scope.names).lookup x=some c':=hc'
    rw [hc2]
    have:=inCl (PySem.mem_of_lookup hc2)
    rw [e] at this
    exact this.symm
 ·show upd H s.heap.objs.size (.lst []) (s.heap.objs.size + 1)=none
  rw [aI (Nat.ne_of_gt (Nat.lt_succ_self _))]
  exact hnC
 ·rcases cases_ e with q | ⟨q,_⟩
  ·have:=clt q
   rw [aI (Nat.ne_of_lt this)]
   exact I.iA x c q
  ·rw [aI (Nat.ne_of_gt (Nat.lt_of_lt_of_le (Nat.lt_add_of_pos_right (by decide)) q))]
   exact I.hok.fresh (Nat.le_trans (Nat.le_add_right _ 2) q)
 ·exact I.hok.laid keep (Nat.le_refl _) ⟨Nat.zero_le _,[],0,.nil,lst⟩
 ·show (cSt own fr σ).length=N.length
  unfold cSt
  rw [List.length_append,List.length_replicate,List.length_map,S.len]
end
def PF (X:Cx) (ifs:List Expr) (t:TT):Prop :=
 ∀(pins:List (Addr × Obj)) (s:Shared) (σ:St) (H:Hp) (Q:Bool->Hp->Prop),Inv X pins σ H s->t σ H Q ->
  wpAny (model X.prog X.w) X.A (forIn ifs true fun c r=>if r=true then do let ok <- isTrue c X.env (eval c X.env);pure (ForInStep.yield ok) else pure (ForInStep.yield r)) (TP X pins σ Q) X.xe s
def Ez:TT:=fun _ H Q=>Q true H
theorem gz {X:Cx}:PF X [] Ez:=fun _ _ _ H _ I h=>wpAny_tests_nil ⟨H,I,h⟩
theorem tI {X:Cx}{c:Expr}{t:TT} (h:PT X c t):PF X [c] t:=fun pins s σ H Q I hw=>wpAny_tests_one (h pins s σ H Q I hw)
theorem tS {prog:Program}{w:World}{A:Around}{R:Result->Shared->Prop}{s:Shared}{elt target iter:Expr}{ifs:List Expr}{scope:Scope}{pos:Pos}{it acc:Value}{env:Env} (I:Nat->Shared->Prop)
  (turn:∀n s,I n s->wpAny (model prog w) A (pyNext it) (fun r s₁=>match r with
   | none=>R (.ok .next) s₁
   | some v=>wpAny (model prog w) A (letOwnedTupleGo target it v) (fun _ s₁'=>wpAny (model prog w) A (assign target env v) (fun _ s₂ =>
     wpAny (model prog w) A (forIn ifs true fun c r=>if r=true then do let ok <- isTrue c env (eval c env);pure (ForInStep.yield ok) else pure (ForInStep.yield r)) (fun ok s₃ =>
      if ok=true then wpAny (model prog w) A (eval elt env) (fun x s₄ =>
       wpAny (model prog w) A (call (.builtin "list.append") [acc,x]) (fun _ s₅=>∃m,m < n/\I m s₅) (fun _ _=>False) s₄) (fun _ _=>False) s₃
      else ∃m,m < n/\I m s₃) (fun _ _=>False) s₂) (fun _ _=>False) s₁') (fun _ _=>False) s₁) (fun _ _=>False) s)
  (n:Nat) (h:I n s) :
  codeAny (model prog w) A (.compLoop (.ListComp elt [⟨target,iter,ifs,0⟩] scope pos) 0 it acc env) R s:=by
 refine codeAny_loop rfl I (fun n s hI=>?_) n h
 show wpAny _ A ((compTurn (.ListComp elt [⟨target,iter,ifs,0⟩] scope pos) 0 it acc env).onRaise (fun x=>do noteFrame x env;theTreesLotGoes x)) _ _ s
 refine wpAny_noted ?_
 rw [compTurn_list]
 have no:∀{α:Type}{t:Sem α}{Q:α->Shared->Prop}{E':Value->Shared->Prop}{s':Shared},wpAny (model prog w) A t Q (fun _ _=>False) s'->wpAny (model prog w) A t Q E' s':=fun h=>wpAny_mono h (fun _ _ q=>q) fun _ _ z=>z.elim
 refine wpAny_bind (wpAny_standAt (wpAny_bind (no (wpAny_mono (turn n s hI) (fun r s₁ h₁=>?_) fun _ _ h'=>h'))))
 cases r with
 | none=>exact wpAny_pure h₁
 | some v =>
  refine wpAny_bind (no (wpAny_mono h₁ (fun _ s₁' h₁'=>?_) fun _ _ h'=>h'))
  refine wpAny_bind (no (wpAny_mono h₁' (fun _ s₂ h₂=>wpAny_bind (no (wpAny_mono h₂ (fun ok s₃ h₃=>?_) fun _ _ h'=>h'))) fun _ _ h'=>h'))
  cases ok with
  | false=>exact wpAny_pure ⟨rfl,h₃⟩
  | true =>
   exact wpAny_bind (wpAny_bind (no (wpAny_mono h₃ (fun x s₄ h₄=>wpAny_bind (no (wpAny_mono h₄ (fun _ s₅ h₅=>wpAny_pure (wpAny_pure ⟨rfl,h₅⟩)) fun _ _ h'=>h'))) fun _ _ h'=>h')))
structure tH (J:It) (own:Nat) (fr:List Nat) (g:CB->TG) (tf:CB->TT) (te:CB->TE) (Q:VK) (σ:St) (H1:Hp):Prop where
 go:∀(b:CB) (D:Addr),H1 D=none->∃W:Nat->Nat->St->Hp->Prop,(∃m,W 0 m (cSt own fr σ) (upd H1 D (.lst [])))/\∀i m σ' H',W i m σ' H' ->
  (J.stop i H'/\Q (.ref D) H') \/ (J.go i H'/\∃M:St->Hp->Prop,(∀σ2 H2,M σ2 H2->∃m',m' < m/\W (i + 1) m' σ2 H2)/\∀x H2,J.yld i H' x H2->g b x σ' H2 fun σ3 H3=>tf b σ3 H3 fun k H4 =>
   if k=true then te b σ3 H4 fun y H5=>∃ys,H5 D=some (.lst ys)/\ys.length < sizeLine/\M σ3 (upd H5 D (.lst (ys ++ [y]))) else M σ3 H4)
def AQ (wi:TI) (own:Nat) (fr:List Nat) (g:CB->TG) (tf:CB->TT) (te:CB->TE):TE:=fun σ H Q=>wi σ H fun J H1=>tH J own fr g tf te Q σ H1
section
variable {X:Cx}{tg iter elt:Expr}{ifs:List Expr}{scope:Scope}{pos:Pos}{N:List Str}{own:Nat}{fr:List Nat}{wi:TI}{g:CB->TG}{tf:CB->TT}{te:CB->TE}
theorem uT {use:Option (Value->Sem Unit)}{R:Value->Shared->Prop}{pins:List (Addr × Obj)}{s:Shared}{σ:St}{H:Hp}{Q:VK} (S:bS X.env.scope X.N N own fr scope) (hc:X.calm=true) (hi:PI X tg iter wi)
  (hg:∀b,PG (cxC X N scope b) tg (g b)) (hf:∀b,PF (cxC X N scope b) ifs (tf b)) (he:∀b,PE (cxC X N scope b) elt (te b)) (hs:∀x,foldedSetIterable iter X.env x=pure x) (I:Inv X pins σ H s) (h:AQ wi own fr g tf te σ H Q)
  (fin:∀(D C:Addr) (oC:Obj) (m:Str->Option Value) (H':Hp) (s':Shared),Inv X (pins ++ [(C,oC)]) σ H' s'->X.s₀.heap.objs.size <= C->(∀p ∈ X.pn ++ pins,p.1 ≠ C)->(∀h':Heap,h'.get? C=some oC->h'.Ns C m)->Q (.ref D) H'->compPost (model X.prog X.w) X.A X.xe use R (.ref D) C (.ok .next) s') :
  wpAny (model X.prog X.w) X.A (comprehension (.ListComp elt [⟨tg,iter,ifs,0⟩] scope pos) scope X.env (firstIterPos [⟨tg,iter,ifs,0⟩] pos) (newList []) false (eval iter X.env) use) R X.xe s:=by
 refine wpAny_comprehension_free rfl hs (nY (S.cells I.ok)) S.kind (fun x hx hk=>?_) (thn (hi pins s σ H _ I h) fun v s1 h1=>thn h1 fun itv s2 h2=>?_)
 ·have:=fB S.nd (show (x.1,x.2) ∈ scope.names from hx)
  rw [this,hk]
 obtain ⟨it,fp,tn,J,H2,e,I2,T,st2,f2,q⟩:=h2
 subst e
 refine wpAny_newObj_type ?_
 refine uR ?_
 have eD:(s2.heap.push { cls:=.type "list",data:=.seq #[] }).objs.size=s2.heap.objs.size + 1:=Heap.size_push ..
 have hD:H2 s2.heap.objs.size=none:=I2.hok.fresh (Nat.le_refl _)
 have hlt:∀b ∈ fp,b < s2.heap.objs.size:=fun b hb=>by
  obtain ⟨o,ho,_⟩:=T.obj 0 _ st2 b hb
  exact Heap.lt_size ho
 obtain ⟨W,⟨m0,w0⟩,turn⟩:=q.go ⟨s2.heap.objs.size + 1,fp,s2,H2⟩ s2.heap.objs.size hD
 have IX:=Al (fp:=fp) S I2 rfl rfl rfl f2 hlt
 have st4:tn 0 (pushCells ((s2.heap.push { cls:=.type "list",data:=.seq #[] }).push { cls:=.type "dict",data:=.dict #[] }) scope.names) :=
  T.keep 0 _ _ st2 fun b _ o e=>pushCells_keeps _ _ _ _ (Heap.get?_push_of_some _ (Heap.get?_push_of_some _ e))
 have fr0:∀b ∈ fp,upd H2 s2.heap.objs.size (.lst []) b=none:=fun b hb=>by
  rw [aI (Nat.ne_of_lt (hlt b hb))]
  exact (f2 b hb).1
 have cne:∀b ∈ fp,∀x c,(cxC X N scope ⟨s2.heap.objs.size + 1,fp,s2,H2⟩).env.cells.lookup x=some c->c ≠ b:=fun b hb=>((IX.ok.exf b hb).2)
 have stat:∀{H':Hp},(∀b ∈ fp,H' b=none)->∀b ∈ fp,pX (cxC X N scope ⟨s2.heap.objs.size + 1,fp,s2,H2⟩) [] H' b:=fun hn b hb =>
  ⟨hn b hb,(IX.ok.exf b hb).1,IX.ok.zt b hb,.inl hb,cne b hb,fun p hp=>absurd (show p ∈ ([]:List (Addr × Obj)) from hp) (by simp)⟩
 have e4:∀cenv:Env,cenv=newEnv scope (s2.heap.push { cls:=.type "list",data:=.seq #[] }).objs.size X.env.globals (cellsFrom ((s2.heap.push { cls:=.type "list",data:=.seq #[] }).objs.size + 1) scope.names (pM X.env scope.names)) X.env.qual none .none (some X.env) builtinsNs ->
   ({ cenv with scope:=relabel scope X.env }:Env)=(cxC X N scope ⟨s2.heap.objs.size + 1,fp,s2,H2⟩).env/\cenv.locals=s2.heap.objs.size + 1:=fun cenv e=>by
  subst e
  rw [eD]
  exact ⟨rfl,rfl⟩
 obtain ⟨e5,e6⟩:=e4 _ rfl
 have loop:codeAny (model X.prog X.w) X.A (.compLoop (.ListComp elt [⟨tg,iter,ifs,0⟩] scope pos) 0 (.ref it) (.ref s2.heap.objs.size) (cxC X N scope ⟨s2.heap.objs.size + 1,fp,s2,H2⟩).env)
   (compPost (model X.prog X.w) X.A X.xe use R (.ref s2.heap.objs.size) (s2.heap.objs.size + 1)) { s2 with heap:=pushCells ((s2.heap.push { cls:=.type "list",data:=.seq #[] }).push { cls:=.type "dict",data:=.dict #[] }) scope.names }:=by
  refine tS (fun n s'=>∃i σ' H',Inv (cxC X N scope ⟨s2.heap.objs.size + 1,fp,s2,H2⟩) [] σ' H' s'/\tn i s'.heap/\(∀b ∈ fp,H' b=none)/\W i n σ' H') ?_ m0 ⟨0,_,_,IX,st4,fr0,w0⟩
  rintro n s5 ⟨i,σ5,H5,I5,st5,fr5,w5⟩
  rcases turn i n σ5 H5 w5 with ⟨stop,qn⟩ | ⟨go,M,hM,step⟩
  ·refine thn (T.done (cxC X N scope ⟨s2.heap.objs.size + 1,fp,s2,H2⟩) rfl rfl rfl hc i [] s5 σ5 H5 (fun _ _=>False) I5 (stat fr5) st5 stop) fun r s6 ⟨hr,I6⟩=>?_
   subst hr
   obtain ⟨m,hn,_⟩:=I6.loc
   obtain ⟨oC,es,ep,hoC,hd,hk,hm⟩:=id hn
   have IB:Inv X pins σ H5 s6:=I2.Eg (ch:=fp) I6.os I6.base I6.hok I6.bare fun b hb=>⟨(f2 b hb).2.2.2.1,(f2 b hb).2.1,(f2 b hb).2.2.2.2.1,(f2 b hb).2.2.2.2.2⟩
   have young:s2.heap.objs.size <= s2.heap.objs.size + 1:=Nat.le_succ _
   refine fin s2.heap.objs.size (s2.heap.objs.size + 1) oC m H5 s6 (IB.tZ fun p hp=>?_) (Nat.le_trans I2.sz young) (fun p hp=>Nat.ne_of_lt (Nat.lt_of_lt_of_le (Heap.lt_size (I2.pin p hp).1) young)) (fun h' e=>⟨oC,es,ep,e,hd,hk,hm⟩) qn
   rcases List.mem_append.mp hp with z | z
   ·exact IB.pin p (List.mem_append_right _ z)
   ·have ep':p=(s2.heap.objs.size + 1,oC):=by simpa using z
    subst ep'
    exact ⟨hoC,I6.free,Nat.ne_of_gt (Nat.lt_of_lt_of_le I2.lt young),I2.E6 young,fun v z=>by rw [hd] at z;cases z⟩
  ·refine thn (T.item (cxC X N scope ⟨s2.heap.objs.size + 1,fp,s2,H2⟩) rfl rfl rfl hc i [] s5 σ5 H5 (fun _ _=>False) I5 (stat fr5) st5 go) fun r s6 ⟨u,hr,h6⟩=>?_
   subst hr
   refine thn h6 fun _ s7 ⟨x,H7,I7,r7,y7,st7,fr7⟩=>?_
   have I7':=I7.pinned (stat fr7) (T.obj _ _ st7)
   refine thn (hg _ _ s7 σ5 H7 x u _ I7' r7 (step x H7 y7)) fun _ s8 ⟨σ8,H8,I8,q8⟩=>?_
   refine thn (hf _ _ s8 σ8 H8 _ I8 q8) fun k s9 ⟨H9,I9,q9⟩=>?_
   have again:∀{H10:Hp}{s10:Shared},Inv (cxC X N scope ⟨s2.heap.objs.size + 1,fp,s2,H2⟩) ([] ++ pj fp s7.heap) σ8 H10 s10->M σ8 H10 ->
     ∃m,m < n/\∃i σ' H',Inv (cxC X N scope ⟨s2.heap.objs.size + 1,fp,s2,H2⟩) [] σ' H' s10/\tn i s10.heap/\(∀b ∈ fp,H' b=none)/\W i m σ' H':=fun {H10 s10} I10 q10=>by
    obtain ⟨m',hm,w10⟩:=hM σ8 H10 q10
    refine ⟨m',hm,i + 1,σ8,H10,I10.j4,T.keep _ _ _ st7 fun b hb o e=>(I10.pin (b,o) (List.mem_append_right _ (List.mem_append_right _ (iQ hb e)))).1,fun b hb=>?_,w10⟩
    obtain ⟨o,e,d⟩:=T.obj _ _ st7 b hb
    exact (I10.pin (b,o) (List.mem_append_right _ (List.mem_append_right _ (iQ hb e)))).2.1
   cases k with
   | false=>exact again I9 q9
   | true =>
    refine thn (he _ _ s9 σ8 H9 _ I9 q9) fun w10 s10 ⟨y,H10,I10,r10,ys,hys,hz,q10⟩=>?_
    refine thn (qS _ s10 σ8 H10 (.ref s2.heap.objs.size) [y] (.ref s2.heap.objs.size) [w10] (fun _ H'=>M σ8 H') I10 rfl (.cons r10 .nil) ⟨_,ys,y,rfl,rfl,hys,hz,q10⟩) fun _ s11 ⟨_,H11,I11,_,q11⟩=>?_
    exact again I11 q11
 have go:codeAny (model X.prog X.w) X.A (.compStart (.ListComp elt [⟨tg,iter,ifs,0⟩] scope pos) 0 (.ref it) (.ref s2.heap.objs.size) (cxC X N scope ⟨s2.heap.objs.size + 1,fp,s2,H2⟩).env)
   (compPost (model X.prog X.w) X.A X.xe use R (.ref s2.heap.objs.size) (s2.heap.objs.size + 1)) { s2 with heap:=pushCells ((s2.heap.push { cls:=.type "list",data:=.seq #[] }).push { cls:=.type "dict",data:=.dict #[] }) scope.names } :=
  codeAny_compStart_list loop (T.self _ 0 _ _ _ st4 loop)
 have fin2:∀(env':Env) (L:Addr),env'=(cxC X N scope ⟨s2.heap.objs.size + 1,fp,s2,H2⟩).env->L=s2.heap.objs.size + 1 ->
   codeAny (model X.prog X.w) X.A (.compStart (.ListComp elt [⟨tg,iter,ifs,0⟩] scope pos) 0 (.ref it) (.ref s2.heap.objs.size) env') (compPost (model X.prog X.w) X.A X.xe use R (.ref s2.heap.objs.size) L)
    { s2 with heap:=pushCells ((s2.heap.push { cls:=.type "list",data:=.seq #[] }).push { cls:=.type "dict",data:=.dict #[] }) scope.names }:=by
  intro env' L h1 h2
  subst h1 h2
  exact go
 exact fin2 _ _ e5 e6
theorem qO {pins:List (Addr × Obj)}{C:Addr}{oC:Obj}{σ':St}{H':Hp}{s':Shared}{h':Heap} (I:Inv X (pins ++ [(C,oC)]) σ' H' s') (hy:X.s₀.heap.objs.size <= C) (hp:∀p ∈ X.pn ++ pins,p.1 ≠ C) (sb:Heap.SameBut C s'.heap h') :
  Inv X pins σ' H' { s' with heap:=h' }:=by
 have pC:=I.pin (C,oC) (List.mem_append_right _ (List.mem_append_right _ (by simp)))
 have I2:Inv X pins σ' H' s':=I.j4
 refine I2.turned (it:=C) (t':=s'.toks) (fun b o hb e=>(sb.2 b hb).trans e) pC.2.1 pC.2.2.1 (.inr hy) (fun x c e z=>?_) hp
 obtain ⟨v,o,ho,hd⟩:=I2.cell x c e
 rw [z,pC.1] at ho
 cases ho
 exact pC.2.2.2.2 v hd
theorem dm (S:bS X.env.scope X.N N own fr scope) (hc:X.calm=true) (hi:PI X tg iter wi) (hg:∀b,PG (cxC X N scope b) tg (g b)) (hf:∀b,PF (cxC X N scope b) ifs (tf b)) (he:∀b,PE (cxC X N scope b) elt (te b))
  (hs:∀x,foldedSetIterable iter X.env x=pure x:=by intro _;rfl):PE X (.ListComp elt [⟨tg,iter,ifs,0⟩] scope pos) (AQ wi own fr g tf te):=by
 intro pins s σ H Q I h
 rw [eval_ListComp]
 refine uT (use:=none) S hc hi hg hf he hs I h fun D C oC m H' s' I' hy hp hm q=>?_
 have pC:=I'.pin (C,oC) (List.mem_append_right _ (List.mem_append_right _ (by simp)))
 exact ⟨m,hm _ pC.1,fun h' sb=>⟨.ref D,H',qO I' hy hp sb,rfl,q⟩⟩
theorem pE {j:Nat}{y:Str}{py spos:Pos} (S:bS X.env.scope X.N N own fr scope) (hc:X.calm=true) (hN:X.N.Nodup) (hj:X.N[j]?=some y) (hy:Loc X.env.scope y) (hi:PI X tg iter wi) (hg:∀b,PG (cxC X N scope b) tg (g b)) (hf:∀b,PF (cxC X N scope b) ifs (tf b))
  (he:∀b,PE (cxC X N scope b) elt (te b)) (hfn:X.fn y=true \/ X.env.scope.names.lookup y=some .local:=by first | exact .inl rfl | exact .inr rfl | assumption) (hs:∀x,foldedSetIterable iter X.env x=pure x:=by intro _;rfl)
  (hsw:swapsWith (.ListComp elt [⟨tg,iter,ifs,0⟩] scope pos) (some (.Name y py)) spos.line X.env=pure true:=by rfl) :
  PS X (.Assign [.Name y py] (.ListComp elt [⟨tg,iter,ifs,0⟩] scope pos) spos) (BN (AQ wi own fr g tf te) (kY j)):=by
 intro pins s σ H D I h
 rw [exec_Assign_Name_used _ _ _ _ hsw]
 refine wpAny_bind (wpAny_standAt (wpAny_bind ?_))
 show wpAny _ _ (do let _ <- comprehension (.ListComp elt [⟨tg,iter,ifs,0⟩] scope pos) scope X.env _ (newList []) false (eval iter X.env) (some (assign (.Name y py) X.env))) _ _ s
 refine wpAny_bind (thn (uT (use:=some (assign (.Name y py) X.env)) (R:=fun _ s'=>SP X pins D .next s') S hc hi hg hf he hs I h fun D' C oC m H' s' I' hy' hp hm q=>?_) fun _ s' q=>wpAny_pure (wpAny_pure q))
 show wpAny _ _ (assign (.Name y py) X.env (.ref D')) _ _ s'
 refine thn (xg hN hj hy hfn _ s' σ H' (.ref D') (.ref D') _ I' rfl q) fun _ s'' ⟨σ2,H2,I2,q2⟩=>?_
 have pC:=I2.pin (C,oC) (List.mem_append_right _ (List.mem_append_right _ (by simp)))
 exact ⟨m,hm _ pC.1,fun h' sb=>⟨σ2,H2,qO I2 hy' hp sb,q2⟩⟩
end
end L2
namespace L2
open PySem PySem.Spec PyProof.Rows
theorem PE.imp {X:Cx}{e:Expr}{t t':TE} (h:PE X e t) (k:∀σ H Q,t' σ H Q->t σ H Q):PE X e t':=fun pins s σ H Q I q=>h pins s σ H Q I (k σ H Q q)
theorem OpR.imp {X:Cx}{f:Value->Value->Sem Value}{r r':R2} (h:OpR X f r) (k:∀x y H Q,r' x y H Q->r x y H Q):OpR X f r':=fun pins s σ H x y v u Q I rx ry q=>h pins s σ H x y v u Q I rx ry (k x y H Q q)
def yT (i:Nat):TE:=fun σ H Q=>match σ[i]? with
 | some (some v)=>Q v H
 | _=>False
section
variable {X:Cx}
theorem fv (i:Nat) {x:Str}{pos:Pos} (hN:X.N[i]?=some x:=by rfl) (hv:Vis X.env.scope x:=by first | exact Or.inl rfl | exact Or.inr (Or.inl rfl) | exact Or.inr (Or.inr rfl)) (hd:(x == ("__debug__":Str))=false:=by decide)
  (hcd:(x == ("__classdict__":Str))=false:=by decide):PE X (.Name x pos) (yT i):=(Cs hN hv hd hcd).imp fun σ H Q q=>by
 unfold yT at q
 cases e:σ[i]? with
 | none=>rw [e] at q;exact q.elim
 | some o =>
  cases o with
  | none=>rw [e] at q;exact q.elim
  | some v=>rw [e] at q;exact ⟨v,e,q⟩
def EE:R2:=fun x y H Q=>match x,y with
 | .int i,.int j=>Q (.int (i + j)) H
 | .str a,.str b=>a.length + b.length <= sizeLine/\Q (.str (a ++ b)) H
 | .ref p,.ref q=>C8 (.ref p) (.ref q) H Q
 | _,_=>False
theorem aU:OpR X (binaryOp .Add) EE:=by
 intro pins s σ H x y v u Q I rx ry h
 cases x with
 | int i =>
  cases y with
  | int j=>exact CT pins s σ H _ _ v u Q I rx ry ⟨i,j,rfl,rfl,h⟩
  | _=>exact (show False from h).elim
 | str a =>
  cases y with
  | str b=>exact vP pins s σ H _ _ v u Q I rx ry ⟨a,b,rfl,rfl,h.1,h.2⟩
  | _=>exact (show False from h).elim
 | ref p =>
  cases y with
  | ref q=>exact CN pins s σ H _ _ v u Q I rx ry h
  | _=>exact (show False from h).elim
 | _=>cases y <;> exact (show False from h).elim
def nO (C:Int->Int->Prop) (g:Int->Int->V):R2:=fun x y H Q=>match x,y with
 | .int i,.int j=>C i j/\Q (g i j) H
 | _,_=>False
def jk (g:Int->Int->V):R2:=fun x y H Q=>match x,y with
 | .int i,.int j=>Q (g i j) H
 | _,_=>False
theorem OpR.nO {f:Value->Value->Sem Value}{C:Int->Int->Prop}{g:Int->Int->V} (h:OpR X f (rI C g)):OpR X f (nO C g):=h.imp fun x y H Q q=>by
 cases x with
 | int i =>
  cases y with
  | int j=>exact ⟨i,j,rfl,rfl,q.1,q.2⟩
  | _=>exact (show False from q).elim
 | _=>cases y <;> exact (show False from q).elim
theorem OpR.jk {f:Value->Value->Sem Value}{g:Int->Int->V} (h:OpR X f (rI0 g)):OpR X f (jk g):=h.imp fun x y H Q q=>by
 cases x with
 | int i =>
  cases y with
  | int j=>exact ⟨i,j,rfl,rfl,q⟩
  | _=>exact (show False from q).elim
 | _=>cases y <;> exact (show False from q).elim
theorem nH:OpR X (binaryOp .Sub) (jk fun i j=>.int (i - j)):=DC.jk
theorem Ej:OpR X (binaryOp .Mult) (nO xZ fun i j=>.int (i * j)):=DQ.nO
def Cd (_ j:Int):Prop:=0 < j/\j < 2 ^ 64
theorem Bn {j:Int} (h:Cd 0 j):j.natAbs.log2 < 9000:=by
 have h1:j.natAbs < 2 ^ 64:=by
  have h2:j < 2 ^ 64:=h.2
  have h3:0 < j:=h.1
  omega
 have h0:j.natAbs ≠ 0:=by have h3:0 < j:=h.1;omega
 have:=(Nat.log2_lt h0).mpr h1
 omega
theorem rM:OpR X (binaryOp .FloorDiv) (nO Cd fun i j=>.int (i / j)):=(opI fun i j _ _ _ _ _ hc q=>by
 have h1:(0:Int) < j:=hc.1
 exact floordiv_int (by omega) (by rw [Int.fdiv_eq_ediv_of_nonneg i (by omega)];exact q) (.inl (PyProof.noPylong_of_log2 (Bn hc)))).nO
theorem gm:OpR X (binaryOp .Mod) (nO (fun _ j=>0 < j) fun i j=>.int (i % j)):=Du.nO
theorem EB:OpR X (binaryOp .Pow) (nO zg fun i j=>.int (i ^ j.toNat)):=C5.nO
theorem EH:OpR X (binaryOp .LShift) (nO zg fun i j=>.int (i * 2 ^ j.toNat)):=Cv.nO
theorem FO:OpR X (binaryOp .BitOr) (jk fun i j=>.int (Builtin.bitOr i j)):=DX.jk
theorem Eu:OpR X (compareOp .Lt) (jk fun i j=>.bl (decide (i < j))):=Et.jk
theorem F1:OpR X (compareOp .LtE) (jk fun i j=>.bl (decide (i <= j))):=Eh.jk
theorem DL:OpR X (compareOp .Gt) (jk fun i j=>.bl (decide (j < i))):=Ed.jk
mutual
inductive iK (K:W.Frag) (H:Hp):V->PyData->Prop where
 | non:iK K H .non .none
 | bl (b:Bool):iK K H (.bl b) (.bool b)
 | int (i:Int):iK K H (.int i) (.int i)
 | str (x:Str):iK K H (.str x) (.str x)
 | lst {a:Addr}{xs:List V}{ds:List PyData} (h:SqL K H a xs) (r:i7 K H xs ds):iK K H (.ref a) (.list ds)
 | tup {a:Addr}{xs:List V}{ds:List PyData} (h:SqT K H a xs) (r:i7 K H xs ds):iK K H (.ref a) (.tuple ds)
inductive i7 (K:W.Frag) (H:Hp):List V->List PyData->Prop where
 | nil:i7 K H [] []
 | cons {x:V}{xs:List V}{d:PyData}{ds:List PyData} (h:iK K H x d) (r:i7 K H xs ds):i7 K H (x :: xs) (d :: ds)
end
mutual
theorem Inv.reads {pins:List (Addr × Obj)}{σ:St}{H:Hp}{s:Shared} (I:Inv X pins σ H s):∀{x:V}{d:PyData}{u:Value},iK X.K H x d->RelV x u->∃as,Reads s.heap u d as
 | _,_,_,.non,r=>by cases r;exact ⟨_,.none⟩
 | _,_,_,.bl b,r=>by cases r;exact ⟨_,.bool b⟩
 | _,_,_,.int i,r=>by obtain ⟨t,rfl⟩:=r;exact ⟨_,.int i t⟩
 | _,_,_,.str x,r=>by obtain ⟨t,rfl⟩:=r;exact ⟨_,.str x t⟩
 | _,_,_,.lst h q,r=>by
  cases r
  obtain ⟨its,rv,⟨o,n,e,hc,_,hd⟩,_⟩:=I.list h
  obtain ⟨as,z⟩:=I.readsAll q rv
  exact ⟨_,.list e hc hd (by simpa using z)⟩
 | _,_,_,.tup h q,r=>by
  cases r
  obtain ⟨its,rv,⟨o,e,hc,n,hd⟩,_⟩:=I.tuple h
  obtain ⟨as,z⟩:=I.readsAll q rv
  exact ⟨_,.tuple e hc hd (by simpa using z)⟩
theorem Inv.readsAll {pins:List (Addr × Obj)}{σ:St}{H:Hp}{s:Shared} (I:Inv X pins σ H s):∀{xs:List V}{ds:List PyData}{us:List Value},i7 X.K H xs ds->Vals xs us->∃as,ReadsAll s.heap us ds as
 | _,_,_,.nil,r=>by cases r;exact ⟨_,.nil⟩
 | _,_,_,.cons h q,r=>by
  cases r with
  | cons r1 r2 =>
   obtain ⟨as,z⟩:=I.reads h r1
   obtain ⟨bs,z2⟩:=I.readsAll q r2
   exact ⟨_,.cons z z2⟩
end
def fEq (K:W.Frag):R2:=fun x y H Q=>match x,y with
 | .ref p,.ref q=>∃d e,iK K H (.ref p) d/\iK K H (.ref q) e/\SeqAt.shaped d=true/\SeqAt.shaped e=true/\Q (.bl (PyData.eqv d e)) H
 | x,y=>yD x y=true/\Q (.bl (decide (x=y))) H
def fNe (K:W.Frag):R2:=fun x y H Q=>match x,y with
 | .ref p,.ref q=>∃d e,iK K H (.ref p) d/\iK K H (.ref q) e/\SeqAt.shaped d=true/\SeqAt.shaped e=true/\Q (.bl (!PyData.eqv d e)) H
 | x,y=>yD x y=true/\Q (.bl (!decide (x=y))) H
theorem Ff (hu:X.A.units + 64 < cLine):OpR X (compareOp .Eq) (fEq X.K):=by
 intro pins s σ H x y v u Q I rx ry h
 by_cases hr:∃p q,x=V.ref p/\y=V.ref q
 ·obtain ⟨p,q,rfl,rfl⟩:=hr
  obtain ⟨d,e,hd,he,sd,se,hq⟩:=h
  obtain ⟨as,z1⟩:=I.reads hd rx
  obtain ⟨bs,z2⟩:=I.reads he ry
  exact eq_dataH z1 z2 sd se hu ⟨.bl _,H,I,rfl,hq⟩
 ·refine ES pins s σ H x y v u Q I rx ry ?_
  cases x <;> cases y <;> first | exact h | exact absurd ⟨_,_,rfl,rfl⟩ hr
theorem dz (hu:X.A.units + 64 < cLine):OpR X (compareOp .NotEq) (fNe X.K):=by
 intro pins s σ H x y v u Q I rx ry h
 by_cases hr:∃p q,x=V.ref p/\y=V.ref q
 ·obtain ⟨p,q,rfl,rfl⟩:=hr
  obtain ⟨d,e,hd,he,sd,se,hq⟩:=h
  obtain ⟨as,z1⟩:=I.reads hd rx
  obtain ⟨bs,z2⟩:=I.reads he ry
  exact ne_dataH z1 z2 sd se hu ⟨.bl _,H,I,rfl,hq⟩
 ·refine Ex pins s σ H x y v u Q I rx ry ?_
  cases x <;> cases y <;> first | exact h | exact absurd ⟨_,_,rfl,rfl⟩ hr
def fIn (K:W.Frag) (neg:Bool):R2:=fun x y H Q=>match y with
 | .str j=>∃i,x=.str i/\Q (.bl (if neg then !(!(Builtin.Str.occurrences j i 0 j.length 1).isEmpty) else !(Builtin.Str.occurrences j i 0 j.length 1).isEmpty)) H
 | .ref p=>∃xs,(SqL K H p xs \/ SqT K H p xs)/\jH x=true/\xs.all jH=true/\Q (.bl (if neg then !inV x xs else inV x xs)) H
 | _=>False
theorem FJ:OpR X (compareOp .In) (fIn X.K false):=by
 intro pins s σ H x y v u Q I rx ry h
 cases y with
 | str j =>
  obtain ⟨i,rfl,q⟩:=h
  exact yB pins s σ H _ _ v u Q I rx ry ⟨i,j,rfl,rfl,q⟩
 | ref p =>
  obtain ⟨xs,h1,h2,h3,q⟩:=h
  exact x8 pins s σ H _ _ v u Q I rx ry ⟨p,xs,rfl,h1,h2,h3,q⟩
 | _=>exact (show False from h).elim
theorem BQ:OpR X (compareOp .NotIn) (fIn X.K true):=by
 intro pins s σ H x y v u Q I rx ry h
 cases y with
 | str j =>
  obtain ⟨i,rfl,q⟩:=h
  exact rO pins s σ H _ _ v u Q I rx ry ⟨i,j,rfl,rfl,q⟩
 | ref p =>
  obtain ⟨xs,h1,h2,h3,q⟩:=h
  exact tE pins s σ H _ _ v u Q I rx ry ⟨p,xs,rfl,h1,h2,h3,q⟩
 | _=>exact (show False from h).elim
theorem Ad:OpR X (compareOp .Is) (fun x y H Q=>y=.non/\Q (.bl (decide (x=.non))) H):=C3
theorem xR:OpR X (compareOp .IsNot) (fun x y H Q=>y=.non/\Q (.bl (!decide (x=.non))) H):=BS
inductive ixS (K:W.Frag) (p:Addr) (i:Int) (H:Hp) (Q:VK):Prop
 | mk (xs:List V) (v:V) (h0:SqL K H p xs \/ SqT K H p xs) (h1:atI xs i=some v) (q:Q v H):ixS K p i H Q
def fIx (K:W.Frag):R2:=fun x y H Q=>match x,y with
 | .ref p,.int i=>ixS K p i H Q
 | .str z,.int i=>∃c,z.length <= sizeLine/\atI z.cps.toList i=some c/\Q (.str ⟨#[c]⟩) H
 | _,_=>False
theorem zo:IxR X (fIx X.K):=by
 intro value slice pins s σ H x y v u Q I rx ry h hs
 cases x with
 | ref p =>
  cases y with
  | int i =>
   obtain ⟨xs,w,h1 | h1,h2,q⟩:=h
   ·exact AY value slice pins s σ H _ _ v u Q I rx ry ⟨p,xs,i,w,rfl,rfl,h1,h2,q⟩ hs
   ·exact De value slice pins s σ H _ _ v u Q I rx ry ⟨p,xs,i,w,rfl,rfl,h1,h2,q⟩ hs
  | _=>exact (show False from h).elim
 | str z =>
  cases y with
  | int i =>
   obtain ⟨c,h1,h2,q⟩:=h
   exact CZ value slice pins s σ H _ _ v u Q I rx ry ⟨z,i,c,rfl,rfl,h1,h2,q⟩ hs
  | _=>exact (show False from h).elim
 | _=>cases y <;> exact (show False from h).elim
def Its (x:Str):It:=⟨fun i _=>i < x.cps.size,fun i H v H'=>H'=H/\∃c,x.cps[i]?=some c/\v=.str ⟨#[c]⟩,fun i _=>x.cps.size <= i⟩
theorem yW {P:Program}{w:World}{K:PySem.W.Frag}{tg:Expr}{T:String} (hT:T="str_ascii_iterator" \/ T="str_iterator") (it:Addr) (x:Str) (t:Tok):Turn P w K tg (Its x) [it] it (fun i h=>i <= x.cps.size/\h.IsStrIter it T x t i) where
 mem:=by simp
 obj:=fun i h st b hb=>by
  have e:b=it:=by simpa using hb
  subst e
  obtain ⟨_,o,e,c,d⟩:=st
  exact ⟨o,e,fun v z=>by rw [d] at z;cases z⟩
 keep:=fun i h h' st k=>by
  obtain ⟨hi,o,e,r⟩:=st
  exact ⟨hi,o,k it (by simp) o e,r⟩
 item:=by
  intro X hP hw hK hc i pins s σ H E I hf st hg
  subst hP hw hK
  obtain ⟨f0,f1,f2,f3,f4,f5⟩:=hf it (by simp)
  have W:Walks X.prog X.w X.A it [it] [it] x.cps.size (SignAt x) (fun i h=>h.IsStrIter it T x t i):=by
   rcases hT with rfl | rfl
   ·exact Walks.strAscii (I.ok.hd hc) it x t
   ·exact Walks.strWide (I.ok.hd hc) it x t
  refine W.item i s _ _ hg st.2 fun v h' tk hv st' kk=>?_
  obtain ⟨c,u,hcp,rfl⟩:=hv
  have I1:Inv X pins σ H { s with heap:=h',toks:=tk }:=I.turned (fun b o hb e=>kk b o (by simpa using hb) e) f0 f1 f3 f4 f5
  obtain ⟨o,e,c',d⟩:=id st'
  refine ⟨_,rfl,u3 (s:={ s with heap:=h',toks:=tk }) e c' d (by rcases hT with rfl | rfl <;> decide) ⟨.str ⟨#[c]⟩,H,I1,⟨u,rfl⟩,⟨rfl,c,hcp,rfl⟩,⟨hg,st'⟩,fun b hb=>(hf b hb).1⟩⟩
 done:=by
  intro X hP hw hK hc i pins s σ H E I hf st hg
  subst hP hw hK
  obtain ⟨f0,f1,f2,f3,f4,f5⟩:=hf it (by simp)
  have W:Walks X.prog X.w X.A it [it] [it] x.cps.size (SignAt x) (fun i h=>h.IsStrIter it T x t i):=by
   rcases hT with rfl | rfl
   ·exact Walks.strAscii (I.ok.hd hc) it x t
   ·exact Walks.strWide (I.ok.hd hc) it x t
  have e:i=x.cps.size:=Nat.le_antisymm st.1 hg
  subst e
  exact W.done s _ _ st.2 fun h' tk kk=>⟨rfl,I.turned (fun b o hb e=>kk b o (by simpa using hb) e) f0 f1 f3 f4 f5⟩
 self:=fun A i s Q E st h=>by
  rcases hT with rfl | rfl
  ·exact wpAny_pyIter_striter_ascii st.2 h
  ·exact wpAny_pyIter_striter_wide st.2 h
def FP (K:W.Frag) (tl:TE):TI:=fun σ H R=>tl σ H fun x H1=>match x with
 | .ref a=>((∃xs,SqL K H1 a xs)/\R (Itl K a) H1) \/ ((∃xs,SqT K H1 a xs)/\R (Itt K a) H1)
 | .str z=>R (Its z) H1
 | _=>False
theorem bB {tg l:Expr}{tl:TE} (hl:PE X l tl):PI X tg l (FP X.K tl):=by
 intro pins s σ H R I h
 refine thn (hl pins s σ H _ I h) fun v s1 ⟨x,H1,I1,r1,q1⟩=>?_
 cases x with
 | ref a =>
  cases r1
  rcases q1 with ⟨⟨xs,hq⟩,q⟩ | ⟨⟨xs,hq⟩,q⟩
  ·obtain ⟨its,rv,p,hz⟩:=I1.list hq
   refine wpAny_pyIter_list p.isList ?_
   refine ⟨s1.heap.objs.size,[s1.heap.objs.size],_,_,H1,rfl,I1.kept (t':=s1.toks) fun b o e=>Heap.get?_push_of_some _ e,yx a _,⟨_,Heap.get?_push_size _ rfl,rfl,rfl⟩,fun b hb=>?_,q⟩
   have e:b=s1.heap.objs.size:=by simpa using hb
   subst e
   exact I1.qC (Nat.le_refl _) (I1.hok.fresh (Nat.le_refl _))
  ·obtain ⟨its,rv,p,hz⟩:=I1.tuple hq
   refine wpAny_pyIter_tuple (show s1.heap.IsTuple a its.toArray from p) ?_
   refine ⟨s1.heap.objs.size,[s1.heap.objs.size],_,_,H1,rfl,I1.kept (t':=s1.toks) fun b o e=>Heap.get?_push_of_some _ e,wx a _,⟨_,Heap.get?_push_size _ rfl,rfl,rfl⟩,fun b hb=>?_,q⟩
   have e:b=s1.heap.objs.size:=by simpa using hb
   subst e
   exact I1.qC (Nat.le_refl _) (I1.hok.fresh (Nat.le_refl _))
 | str z =>
  obtain ⟨t,rfl⟩:=r1
  refine wpAny_pyIter_strU ?_
  refine ⟨s1.heap.objs.size,[s1.heap.objs.size],_,_,H1,rfl,I1.kept (t':=s1.toks) fun b o e=>Heap.get?_push_of_some _ e,yW (T:=strIterType z) ?_ _ z t,⟨Nat.zero_le _,_,Heap.get?_push_size _ rfl,rfl,rfl⟩,fun b hb=>?_,q1⟩
  ·unfold strIterType
   split
   ·exact .inl rfl
   ·exact .inr rfl
  ·have e:b=s1.heap.objs.size:=by simpa using hb
   subst e
   exact I1.qC (Nat.le_refl _) (I1.hok.fresh (Nat.le_refl _))
 | _=>exact (show False from q1).elim
theorem aM {a:Expr}{ta:TE} (ha:PE X a ta) (he:∀whole,isTrue a X.env whole=(do let v <- whole;standAt a.pos;holding [v] (truthy v))) :
  PT X a (fun σ H Q=>ta σ H fun x H'=>uq X.K x H' Q):=zM ha he
inductive x3 (K:W.Frag) (xs:List V) (H:Hp) (Q:VK):Prop
 | mk (x:V) (n:Nat) (h0:xs=[x]) (h1:EZ K x H n) (q:Q (.int n) H):x3 K xs H Q
theorem EX:dg X (.builtin "len") (x3 X.K):=fun pins s σ H xs us Q I r ⟨x,n,h0,h1,q⟩=>yV pins s σ H xs us Q I r ⟨x,n,h0,h1,q⟩
theorem gW:dg X (.type "list") (fun xs H Q=>∃p ys,xs=[.ref p]/\(SqL X.K H p ys \/ SqT X.K H p ys)/\∀l,H l=none->Q (.ref l) (upd H l (.lst ys))):=sY
def A5:V->Value
 | .ty n=>.type n
 | .ref a=>.ref a
 | _=>.none
theorem Ae {y:V}{u:Value} (r:RelV y u) (h:A5 y ≠ .none):u=A5 y:=by
 cases y with
 | ty n=>exact r
 | ref a=>exact r
 | _=>exact absurd rfl h
inductive wI (K:W.Frag) (xs:List V) (H:Hp) (Q:VK):Prop
 | mk (x y:V) (t:Value) (b:Bool) (h0:xs=[x,y]) (h1:A5 y ≠ .none) (h2:lB K H x t) (h3:W.kitOne K t (A5 y)=some b) (q:Q (.bl b) H):wI K xs H Q
theorem aH:dg X (.builtin "isinstance") (wI X.K):=by
 intro pins s σ H xs us Q I r h
 obtain ⟨x,y,t,b,rfl,hy,ty,e,q⟩:=h
 obtain ⟨u,w',rfl,rx,ry⟩:=vals2 r
 rw [Ae ry hy]
 exact yp I rx ty e fun tk=>⟨.bl b,H,I.tok _,rfl,q⟩
theorem gb {o e:Expr}{to:TE}{t:TA}{apos cpos:Pos} (ho:PE X o to) (ha:PA X [e] t) (hbase:attributeBase o "append" X.env (eval o X.env)=eval o X.env:=by rfl)
  (hfew:((backTo cpos (starEach [e] X.env)).all (fun x=>!x.1) && (backToKw cpos (keywordEach [] X.env)).all (fun x=>x.1.isSome)
   && decide ([e].length + ([]:List Keyword).length + (if ([]:List Keyword).isEmpty then 0 else 1) < 30))=true:=by rfl)
  (hline:(apos.endLine == cpos.line)=true:=by rfl) (hs:starEach [e] X.env=(false,eval e X.env) :: starEach [] X.env:=by rfl) (hplain:(backTo cpos (starEach [] X.env)).any (·.1)=false:=by rfl) :
  PE X (.Call (.Attribute o "append" apos) [e] [] cpos) (tBM X.K "list" tK to t):=Cc PySem.F.plainAttrs_list PySem.F.slot_list_append PySem.F.type_list_append qS ho ha hbase hfew hline hs hplain
theorem BU:MtR X "int.bit_length" (fun x xs H Q=>∃i,x=.int i/\xs=[]/\Q (.int (Builtin.Int.intBits i)) H):=by
 intro pins s σ H x xs v us Q I rx rs h
 obtain ⟨i,rfl,rfl,q⟩:=h
 obtain ⟨t,rfl⟩:=rx
 cases rs
 exact call_int_bit_length ⟨.int _,H,I.tok _,⟨_,rfl⟩,q⟩
theorem rW {o:Expr}{to:TE}{apos cpos:Pos} (ho:PE X o to) (hbase:attributeBase o "bit_length" X.env (eval o X.env)=eval o X.env:=by rfl) (hline:(apos.endLine == cpos.line)=true:=by rfl) :
  PE X (.Call (.Attribute o "bit_length" apos) [] [] cpos) (Ew X.K "int" (fun x xs H Q=>∃i,x=.int i/\xs=[]/\Q (.int (Builtin.Int.intBits i)) H) to) :=
 DS PySem.F.plainAttrs_int PySem.F.slot_int_bit_length PySem.F.type_int_bit_length BU ho hbase hline
end
def Has (P:Program) (w:World) (K:W.Frag) (mg:Str->Option Value) (base:Heap) (k:Nat) (x:Str) (ps:List Str) (sp:Sp):Prop :=
 ∃f fd,jx P w K mg base CX0 k f fd ps sp/\Binds K fd ps []/\W.keepIn K (.ref f)=true/\mg x=some (.ref f)/\∃oc od osl,K.lookup f=some ⟨oc,od,.func fd,osl⟩
structure aT (K:W.Frag) (mg:Str->Option Value) (x:Str) (st:Stmt) (ps:List Str):Prop where
 ex:∃f fd,Fun K x x st f fd/\Binds K fd ps []/\mg x=some (.ref f)
theorem aj {X:Cx}{j k:Nat}{x:Str}{ps:List Str}{sp:Sp}{e:Expr}{es:List Expr}{t:TA}{p pos:Pos} (D:Has X.prog X.w X.K X.mg X.base j x ps sp) (hr:dJ k X.A) (ha:PA X (e :: es) t) (hj:j <= k:=by decide) (hg:Gl X x:=by rfl)
  (hdb:(x == ("__debug__":Str))=false:=by decide) (he:starEach (e :: es) X.env=(false,eval e X.env) :: starEach es X.env:=by rfl) (hpl:(backTo pos (starEach es X.env)).any (·.1)=false:=by rfl) :
  PE X (.Call (.Name x p) (e :: es) [] pos) (qV sp [] E0 t):=by
 obtain ⟨f,fd,F,b,kp,m,_⟩:=D
 exact wU F (hr.mono hj) hg m kp b .nil vd ha hdb he hpl
abbrev aT.Hz {K:W.Frag}{mg:Str->Option Value}{x:Str}{st:Stmt}{ps:List Str} (_:aT K mg x st ps) (P:Program) (w:World) (base:Heap) (k:Nat) (sp:Sp):Prop:=L2.Has P w K mg base k x ps sp
theorem aT.hs {P:Program}{w:World}{K:W.Frag}{mg:Str->Option Value}{base:Heap}{x:Str}{st:Stmt}{N ps:List Str}{k:Nat}{sp:Sp} (F:aT K mg x st ps) (S:az N ps (ak st))
  (hbody:∀(f:Addr) (cdv:Value) (A:Around) (outer:List Env) (s:Shared) (H:Hp) (vs:List V) (Q:VK) (E:XK),dJ k (A.deeper (envOfC x (ak st) s.heap.objs.size f cdv))->(A.deeper (envOfC x (ak st) s.heap.objs.size f cdv)).units + 64 < cLine->sp vs H Q E ->
   ∃t,PSs (r9 CX0 P w K mg base N x (ak st) f cdv A outer s H E).nox (bu st) t/\t { nx:=fun _ H'=>Q .non H',rt:=Q } (start N vs) H) (len:∀vs H Q E,sp vs H Q E->vs.length=ps.length:=by intro _ _ _ _ h;cases h;subst_vars;rfl):Has P w K mg base (k + 1) x ps sp:=by
 obtain ⟨f,fd,F,b,m⟩:=F.ex
 obtain ⟨oc,od,kV,doc,pm,an,cdv,ct,osl,e,lk,hcd⟩:=F.ex
 exact ⟨f,fd,F.ok S len fun cdv A outer s H vs Q E hr h=>hbody f cdv A outer s H vs Q E hr hr.units h,b,F.kp,m,oc,od,osl,lk⟩
end L2
namespace L2
open PySem PySem.Spec PyProof.Rows
theorem aq.upd {H:Hp}{p:Addr} (h:H p=none) (o:HO):aq H (upd H p o):=fun b u q=>by rw [aI (eE q h)];exact q
theorem aq.tup {K:W.Frag}{H H':Hp}{a:Addr}{xs:List V} (e:aq H H') (h:SqT K H a xs):SqT K H' a xs:=by
 rcases h with (h | ⟨o,h⟩) | h
 ·exact .inl (.inl (e _ _ h))
 ·exact .inl (.inr ⟨o,e _ _ h⟩)
 ·exact .inr h
mutual
theorem aq.rep {K:W.Frag}{H H':Hp} (e:aq H H'):∀{x:V}{d:PyData},iK K H x d->iK K H' x d
 | _,_,.non=>.non
 | _,_,.bl b=>.bl b
 | _,_,.int i=>.int i
 | _,_,.str x=>.str x
 | _,_,.lst h r=>.lst (e.seq h) (e.wB r)
 | _,_,.tup h r=>.tup (e.tup h) (e.wB r)
theorem aq.wB {K:W.Frag}{H H':Hp} (e:aq H H'):∀{xs:List V}{ds:List PyData},i7 K H xs ds->i7 K H' xs ds
 | _,_,.nil=>.nil
 | _,_,.cons h r=>.cons (e.rep h) (e.wB r)
end
def cFr (fr:List Nat) (σ:St):St:=fr.map fun j=>(σ[j]?).getD none
section
variable {X:Cx}
end
theorem zd {K:W.Frag}{mg:Str->Option Value}{h:Heap}{x:Str}{st:Stmt}{ps:List Str}{f:Addr}{oc:Value}{od an:Option Addr}{osl:Array (Option Value)}{kV doc pm cdv ct:Value} (X:K.In h) (G:h.Ns mainGlobals mg)
  (a:W.nsIn K mainGlobals x=some (some (.ref f))) (l:K.lookup f=some ⟨oc,od,.func (W.fnOf x x (bP st) (bu st) (ak st) .none kV doc pm an cdv ct),osl⟩) (c:W.codeIn K cdv x=true) (k:W.keepIn K (.ref f)=true)
  (hb:∀(kV doc pm:Value) (an:Option Addr) (cdv ct:Value) (us:List Value),us.length=ps.length->bindArgs (W.fnOf x x (bP st) (bu st) (ak st) .none kV doc pm an cdv ct) ⟨us,[]⟩=pure (ps.zip us)):aT K mg x st ps :=
 ⟨f,_,tY l c k,(tY l c k).binds hb,W.mg_of X G a⟩
theorem CA {P:Program}{w:World}{K:W.Frag}{mg:Str->Option Value}{base:Heap}{k:Nat}{x:Str}{ps:List Str}{sp:Sp}{f:Addr}{oc:Value}{od:Option Addr}{osl:Array (Option Value)}{fd:FuncData} (D:Has P w K mg base k x ps sp) (m:mg x=some (.ref f))
  (l:K.lookup f=some ⟨oc,od,.func fd,osl⟩):jx P w K mg base CX0 k f fd ps sp:=by
 obtain ⟨g,gd,F,b,kp,mg',_,_,_,l'⟩:=id D
 rw [m] at mg'
 cases mg'
 rw [l] at l'
 cases l'
 exact F
end L2
namespace L2
open PySem PySem.Spec PyProof.Rows
section
variable {prog:Program}{w:World}{A:Around}{R:Result->Shared->Prop}{I l:Addr}{its:Array Value}{ns:List Int}{St:Nat->Heap->Prop}{fp wr:List Addr}{d:Value}
end
section
variable {X:Cx}
end
end L2
namespace L2
open PySem PySem.Spec PyProof.Rows
section
variable {X:Cx}
theorem nK (hc:X.calm=true:=by rfl):dg X (.builtin "max") (fun xs H Q=>∃i j,xs=[.int i,.int j]/\Q (.int (if j > i then j else i)) H):=yg hc
theorem Be {x:Str}{z:Str}{pos:Pos} (h:∃t,X.mg x=some (.str z t)) (hg:Gl X x:=by rfl) (hd:(x == ("__debug__":Str))=false:=by decide):PE X (.Name x pos) (tC (.str z)):=by
 obtain ⟨t,e⟩:=h
 exact xM hg e ⟨t,rfl⟩ hd
end
end L2
namespace L2
open PySem PySem.Spec PyProof.Rows
section
variable {X:Cx}{tg:Expr}
def fz {α:Type} (xs:List α):List α:=(List.range ((xs.length + 1) / 2)).filterMap fun m=>xs[m * 2]?
theorem ue {α:Type} (xs:List α):(fz xs).length <= xs.length:=by
 unfold fz
 refine Nat.le_trans (List.length_filterMap_le _ _) ?_
 rw [List.length_range]
 omega
theorem Vals.fz {xs:List V}{us:List Value} (r:Vals xs us):Vals (fz xs) (fz us):=by
 have hl:=r.length
 unfold L2.fz
 rw [hl]
 have gen:∀l:List Nat,Vals (l.filterMap fun m=>xs[m * 2]?) (l.filterMap fun m=>us[m * 2]?):=by
  intro l
  induction l with
  | nil=>exact .nil
  | cons m l ih =>
   rw [List.filterMap_cons,List.filterMap_cons]
   cases e:xs[m * 2]? with
   | none=>rw [r.none_of e];exact ih
   | some x =>
    obtain ⟨u,hu,ru⟩:=r.get e
    rw [hu]
    exact .cons ru ih
 exact gen _
theorem A2 (n:Nat):Builtin.Slice.slicePlaces 0 (n:Int) 2=(n + 1) / 2:=by
 unfold Builtin.Slice.slicePlaces
 have h1:(2:Int) > 0:=by omega
 simp only [h1,if_true]
 split <;> omega
theorem EF (xs:Array Value):((List.range ((xs.size + 1) / 2)).filterMap fun (m:Nat)=>xs[((0:Int) + (m:Int) * 2).toNat]?).toArray=(fz xs.toList).toArray:=by
 unfold fz
 have e:(fun (m:Nat)=>xs[((0:Int) + (m:Int) * 2).toNat]?)=fun m=>xs.toList[m * 2]?:=by
  funext m
  have:((0:Int) + (m:Int) * 2).toNat=m * 2:=by omega
  rw [this,Array.getElem?_toList]
 rw [e,Array.length_toList]
theorem yY {prog:Program}{w:World}{A:Around}{E:Value->Shared->Prop}{s:Shared}{sl:Addr}{t2:Tok}{n:Nat}{Q:Int × Int × Nat->Shared->Prop} (hs:s.heap.IsSliceOf sl .none .none (.int 2 t2)) (h:Q (0,2,(n + 1) / 2) s) :
  wpAny (model prog w) A (Builtin.Slice.sliceApplied (.ref sl) (pure (n:Int))) Q E s:=by
 obtain ⟨os,hos,hcs,hds⟩:=id hs
 unfold Builtin.Slice.sliceApplied Builtin.Slice.sliceFields
 refine wpAny_bind (wpAny_bind (wpAny_field hos hds (x:=.none) rfl (wpAny_bind (wpAny_field hos hds (x:=.none) rfl (wpAny_bind (wpAny_field hos hds (x:=.int 2 t2) rfl (wpAny_pure ?_)))))))
 refine wpAny_bind (slicePart_int ?_)
 show wpAny _ _ (if ((2:Int) == 0)=true then _ else _) _ _ s
 rw [if_neg (by decide)]
 refine wpAny_bind (slicePart_none (wpAny_bind (slicePart_none (wpAny_bind (wpAny_pure ?_)))))
 show wpAny _ _ (pure ((0:Int),(2:Int),Builtin.Slice.slicePlaces 0 (n:Int) 2)) _ _ s
 rw [A2]
 exact wpAny_pure h
theorem mB {prog:Program}{w:World}{A:Around}{E:Value->Shared->Prop}{s:Shared}{t sl:Addr}{items:Array Value}{t2:Tok}{Q:Value->Shared->Prop} (ht:IsTup s.heap t items) (hs:s.heap.IsSliceOf sl .none .none (.int 2 t2))
  (h:Q (.ref s.heap.objs.size) { s with heap:=s.heap.push { cls:=.type "tuple",data:=.seq (fz items.toList).toArray } }) (hsz:items.size <= sizeLine):wpAny (model prog w) A (getItem (.ref t) (.ref sl)) Q E s:=by
 have htake:sizeOk (.seq (fz items.toList).toArray):=by
  show (fz items.toList).toArray.size <= sizeLine
  rw [List.size_toArray]
  exact Nat.le_trans (ue _) (by rw [Array.length_toList];exact hsz)
 obtain ⟨os,hos,hcs,hds⟩:=id hs
 have hTs:s.TypeIs (.ref sl) "slice":=⟨os,hos,hcs⟩
 unfold getItem
 try with_reducible refine wpAny_holding ?_
 first | refine wpAny_bind (wpAny_pure ?_) | skip
 refine wpAny_bind (wpAny_sequenceKey ht.typeIs (by decide) ?_)
 refine wpAny_bind (wpAny_callSpecial?_slot (name:=Str.ofString "__getitem__") ht.typeIs PyProof.Rows.slot_tuple_getitem
  (wpAny_call_entry PyProof.Rows.slot_tuple_getitem ht.typeIs entry_tuple_getitem ?_ (args_tuple_getitem _ _)))
 show wpAny _ _ (Builtin.Tuple.tupleItemsOf (.ref t) >>= _) _ _ s
 refine wpAny_bind (tupleItemsOf_ ht ?_)
 refine wpAny_bind (wpAny_typeOf hTs ?_)
 rw [if_pos (by decide)]
 refine wpAny_bind (yY hs ?_)
 show wpAny _ _ (if ((0:Int) == 0 && (2:Int) == 1 && ((items.size + 1) / 2) == items.size)=true then _ else _) _ _ s
 rw [if_neg (by simp),EF]
 first
  | exact wpAny_bind (m:=Builtin.Tuple.tupleExact _) (wpAny_newObj_type (wpAny_pure ⟨_,rfl,wpAny_pure h⟩) htake)
  | exact wpAny_bind (m:=Builtin.Tuple.tupleExact _) (wpAny_newObj_type (wpAny_bind (wpAny_pure (wpAny_pure ⟨_,rfl,wpAny_pure h⟩))) htake)
  | exact wpAny_bind (wpAny_bind (m:=Builtin.Tuple.tupleExact _) (wpAny_newObj_type (wpAny_pure (wpAny_pure ⟨_,rfl,wpAny_pure h⟩)) htake))
  | exact wpAny_bind (wpAny_bind (m:=Builtin.Tuple.tupleExact _) (wpAny_newObj_type (wpAny_pure ⟨_,rfl,wpAny_pure h⟩) htake))
def Dj (K:W.Frag) (te:TE):TE:=fun σ H Q=>te σ H fun x H1=>∃a xs,x=.ref a/\SqT K H1 a xs/\∀p,H1 p=none->Q (.ref p) (upd H1 p (.tup (fz xs)))
theorem zb {e:Expr}{te:TE}{j:Nat}{pos p2 p3:Pos} (he:PE X e te):PE X (.Subscript e (.Slice none none (some (.Constant (.int 2) j p3)) p2) pos) (Dj X.K te):=by
 intro pins s σ H Q I h
 refine Subscript_ (thn (he pins s σ H _ I h) fun v s1 ⟨x,H1,I1,r1,a,xs,ex,hx,q⟩=>?_)
 subst ex
 cases r1
 refine wpAny_Slice ?_
 rw [evalPart_none]
 refine wpAny_pure ?_
 refine wpAny_pure ?_
 rw [evalPart_some]
 refine wpAny_Constant_int ?_
 obtain ⟨its,r,ht,hz⟩:=I1.tuple hx
 have hlen:its.toArray.size=xs.length:=by rw [List.size_toArray];exact r.length.symm
 have I4:Inv X pins σ H1 { s1 with heap:=s1.heap.push { cls:=.type "slice",data:=.fields #[.none,.none,.int 2 s1.toks] },toks:=s1.toks + 1 }:=I1.kept fun b ob q=>Heap.get?_push_of_some _ q
 have ht4:IsTup (s1.heap.push { cls:=.type "slice",data:=.fields #[.none,.none,.int 2 s1.toks] }) a its.toArray:=by
  obtain ⟨o,e,r⟩:=ht
  exact ⟨o,Heap.get?_push_of_some _ e,r⟩
 refine tail_any (ops:=[.ref a,.ref s1.heap.objs.size]) (s:={ s1 with heap:=s1.heap.push { cls:=.type "slice",data:=.fields #[.none,.none,.int 2 s1.toks] },toks:=s1.toks + 1 }) ht4.typeIs PyProof.Rows.slot_tuple_getitem.lookup (mB ht4 (Heap.IsSliceOf.new ..) ?_ (by rw [hlen];exact hz)) (by with_unfolding_all rfl)
 refine ⟨.ref _,_,I4.laid (t':=s1.toks + 1) (o:=.tup (fz xs)) (fun b ob q=>Heap.get?_push_of_some _ q) (Nat.le_refl _) ?_,rfl,q _ (I4.hok.fresh (Nat.le_refl _))⟩
 exact ⟨Nat.le_trans (ue xs) hz,_,r.fz,IsTup.new _ _⟩
theorem aO {x:Str}{pos:Pos}{a:Addr} (h:X.mg x=some (.ref a)) (hg:Gl X x:=by rfl) (hd:(x == ("__debug__":Str))=false:=by decide):PE X (.Name x pos) (tC (.ref a)):=xM hg h rfl hd
end
end L2
namespace L2
open PySem PySem.Spec PyProof.Rows
end L2
namespace L2
open PySem PySem.Spec PyProof.Rows
theorem zZ {J:It}{n:Nat}{x:Nat->V}{fr:List Nat}{te:CB->TE}{Q:VK}{σ:St}{H1:Hp} (R:Nat->V->Hp->Prop) (hn:n < sizeLine)
  (stop:∀H,aq H1 H->J.stop n H) (go:∀i H,i < n->aq H1 H->J.go i H) (yld:∀i H v H',i < n->aq H1 H->J.yld i H v H'->H'=H/\v=x i)
  (he:∀b i H (G:VK),i < n->aq H1 H->(∀y H',aq H H'->R i y H'->G y H')->te b (some (x i) :: cFr fr σ) H G)
  (mono:∀i y H H',aq H H'->R i y H->R i y H') (st:∀i y H D ys zs,H D=some (.lst ys)->R i y H->R i y (upd H D (.lst zs)))
  (fin:∀D H ys,H1 D=none->aq H1 H->H D=some (.lst ys)->ys.length=n->(∀(i:Nat) y,ys[i]?=some y->R i y H)->Q (.ref D) H):tH J 1 fr (fun _=>kY 0) (fun _=>Ez) te Q σ H1:=by
 refine ⟨fun b D hD=>?_⟩
 refine ⟨fun i m σ' H'=>m=n - i/\i <= n/\(∃v0,σ'=v0 :: cFr fr σ)/\aq H1 H'/\∃ys,H' D=some (.lst ys)/\ys.length=i/\∀(j:Nat) y,ys[j]?=some y->R j y H',⟨n,rfl,Nat.zero_le _,⟨none,rfl⟩,aq.upd hD _,[],aw,rfl,fun j y h=>by cases h⟩,?_⟩
 rintro i m σ' H' ⟨rfl,hi,⟨v0,rfl⟩,sm,ys,hl,hy,hR⟩
 by_cases hlt:i < n
 ·refine .inr ⟨go i H' hlt sm,fun σ2 H2=>(∃v0,σ2=v0 :: cFr fr σ)/\aq H1 H2/\∃ys,H2 D=some (.lst ys)/\ys.length=i + 1/\∀(j:Nat) y,ys[j]?=some y->R j y H2,fun σ2 H2 q=>⟨n - (i + 1),by omega,rfl,hlt,q⟩,fun v H2 y=>?_⟩
  obtain ⟨rfl,rfl⟩:=yld i H' v H2 hlt sm y
  refine he b i _ _ hlt sm fun z H4 s4 rz=>⟨ys,s4 _ _ hl,by omega,⟨_,rfl⟩,?_,ys ++ [z],aw,by simp [hy],fun j y' hj=>?_⟩
  ·intro c o q
   by_cases hc:c=D
   ·rw [hc,hD] at q;cases q
   ·rw [aI hc];exact (sm.trans s4) c o q
  ·have hD4:=s4 _ _ hl
   by_cases hji:j < ys.length
   ·rw [List.getElem?_append_left hji] at hj
    exact st _ _ _ _ _ _ hD4 (mono _ _ _ _ s4 (hR j y' hj))
   ·by_cases e:j=ys.length
    ·subst e
     rw [List.getElem?_append_right (Nat.le_refl _)] at hj
     simp at hj
     subst hj
     rw [hy]
     exact st _ _ _ _ _ _ hD4 rz
    ·rw [List.getElem?_eq_none (by simp;omega)] at hj
     cases hj
 ·have e:i=n:=by omega
  subst e
  exact .inl ⟨stop H' sm,fin D H' ys hD sm hl hy hR⟩
end L2
namespace L2
open PySem PySem.Spec PyProof.Rows
section
variable {P:Program}{w:World}{K:W.Frag}{mg:Str->Option Value}{base:Heap}
structure MFn (K:W.Frag) (C:Addr) (m qual:Str) (st:Stmt) (ps:List Str):Prop where
 ex:∃f fd,Fun K m qual st f fd/\Binds K fd ps []/\Meth K C m f
def uI (P:Program) (w:World) (K:W.Frag) (mg:Str->Option Value) (base:Heap) (k:Nat) (C:Addr) (m:Str) (ps:List Str) (sp:Sp):Prop :=
 ∃f fd,jx P w K mg base CX0 k f fd ps sp/\Binds K fd ps []/\Meth K C m f
abbrev MFn.Hz {C:Addr}{m qual:Str}{st:Stmt}{ps:List Str} (_:MFn K C m qual st ps) (P:Program) (w:World) (mg:Str->Option Value) (base:Heap) (k:Nat) (sp:Sp):Prop:=uI P w K mg base k C m ps sp
theorem MFn.hs {C:Addr}{m qual:Str}{st:Stmt}{N ps:List Str}{k:Nat}{sp:Sp} (F:MFn K C m qual st ps) (S:az N ps (ak st))
  (hbody:∀(f:Addr) (cdv:Value) (A:Around) (outer:List Env) (s:Shared) (H:Hp) (vs:List V) (Q:VK) (E:XK),dJ k (A.deeper (envOfC qual (ak st) s.heap.objs.size f cdv))->(A.deeper (envOfC qual (ak st) s.heap.objs.size f cdv)).units + 64 < cLine->sp vs H Q E ->
   ∃t,PSs (r9 CX0 P w K mg base N qual (ak st) f cdv A outer s H E).nox (bu st) t/\t { nx:=fun _ H'=>Q .non H',rt:=Q } (start N vs) H) (len:∀vs H Q E,sp vs H Q E->vs.length=ps.length:=by intro _ _ _ _ h;cases h;subst_vars;rfl):uI P w K mg base (k + 1) C m ps sp:=by
 obtain ⟨f,fd,F,b,m⟩:=F.ex
 exact ⟨f,fd,F.ok S len fun cdv A outer s H vs Q E hr h=>hbody f cdv A outer s H vs Q E hr hr.units h,b,m⟩
theorem Has.mono {j k:Nat}{x:Str}{ps:List Str}{sp:Sp} (D:Has P w K mg base j x ps sp) (h:j <= k):Has P w K mg base k x ps sp:=by
 obtain ⟨f,fd,F,b⟩:=D
 exact ⟨f,fd,F.mono h,b⟩
structure dX (K:W.Frag) (mg:Str->Option Value) (C:Addr) (x:Str) (up:List Addr):Prop where
 mg:mg x=some (.ref C)
 cl:Cls K C
 mro:∃cd,W.clsIn K C=some cd/\cd.mro=up.map Value.ref ++ [Value.type "object"]
 ty:W.typeIn K (.ref C)=some (.type "type")
 kc:W.findIn K (.ref C) "__class__"=some (some (.builtin "object.__class__"))
 cg:W.specialIn K (.builtin "object.__class__") "__get__"=some (some (.builtin "getset_descriptor.__get__"))
 ct:W.takesIn K (.builtin "object.__class__")=some true
 mks:W.makesIn K C=true
 kp:W.keepIn K (.ref C)=true
variable {C D:Addr}{x y:Str}{up vp:List Addr}
theorem dX.sub (O:dX K mg C x up) (b:Value):W.mroIn K C b=some ((up.map Value.ref ++ [Value.type "object"]).contains b):=by
 obtain ⟨cd,h1,h2⟩:=O.mro
 unfold W.mroIn
 rw [h1]
 show (if cd.mro.isEmpty=true then none else some (cd.mro.contains b))=_
 rw [h2,if_neg (by cases up <;> simp)]
theorem qr (up:List Addr) (D:Addr):(up.map Value.ref ++ [Value.type "object"]).contains (Value.ref D)=decide (D ∈ up):=by
 induction up with
 | nil=>rfl
 | cons a r ih =>
  show ((Value.ref D == Value.ref a) || (r.map Value.ref ++ [Value.type "object"]).contains (Value.ref D))=_
  rw [ih]
  by_cases h:D=a
  ·subst h;simp
  ·have:(Value.ref D == Value.ref a)=false:=by
    rw [Bool.eq_false_iff]
    intro z
    exact h (Value.ref.inj (beq_iff_eq.mp z))
   rw [this,Bool.false_or]
   simp [h]
theorem dX.kit (O:dX K mg C x up) (U:dX K mg D y vp) (hs:C ∈ up):W.kitOne K (.ref C) (.ref D)=some (decide (D ∈ up)):=by
 unfold W.kitOne
 split
 ·rename_i q
  have:C=D:=Value.ref.inj (beq_iff_eq.mp q)
  rw [<- this,decide_eq_true hs]
 ·obtain ⟨cd,h1,_⟩:=U.mro
  unfold W.kitCls
  dsimp only
  rw [h1,U.ty]
  rw [if_pos (by rfl)]
  show W.mroIn K C (.ref D)=_
  rw [O.sub,qr]
theorem dX.EI (O:dX K mg C x up) {H:Hp}{a dx:Addr}{fs:List (Str × V)} (e:H a=some (.ins C dx fs)):lB K H (.ref a) (.ref C) :=
 .ins e O.cl O.kc O.cg O.ct ((O.sub _).trans (by simp))
end
section
variable {X:Cx}{k j:Nat}{C:Addr}{x m:Str}{ps:List Str}{sp:Sp}{o e:Expr}{es:List Expr}{ta:TE}{t:TA}{p apos pos:Pos}{up:List Addr}
theorem aX (O:dX X.K X.mg C x up) (D:uI X.prog X.w X.K X.mg X.base j C "__init__" ps sp) (hr:dJ k X.A) (ha:PA X (e :: es) t) (hj:j + 1 <= k:=by decide) (hg:Gl X x:=by rfl) (hdb:(x == ("__debug__":Str))=false:=by decide)
  (he:starEach (e :: es) X.env=(false,eval e X.env) :: starEach es X.env:=by rfl) (hpl:(backTo pos (starEach es X.env)).any (·.1)=false:=by rfl):PE X (.Call (.Name x p) (e :: es) [] pos) (B5 C sp [] E0 t):=by
 obtain ⟨f,fd,F,b,m⟩:=D
 exact A9 ⟨O.mks,m.at_,m.fn,O.kp⟩ F (hr.mono hj) hg O.mg b .nil vd ha hdb he hpl
def Dn (M:Addr->Sp->Prop) (m:Str) (ta:TE) (t:TA):TE:=fun σ H Q=>ta σ H fun x H1=>∃a C dx fs sp,x=.ref a/\H1 a=some (.ins C dx fs)/\fs.lookup m=none/\M C sp/\t σ H1 fun vs H2=>sp (x :: vs) H2 Q E0
theorem nC {M:Addr->Sp->Prop}{pl:Sem Bool} (he:PE X o ta) (hM:∀C sp,M C sp->Cls X.K C/\∃ps,uI X.prog X.w X.K X.mg X.base j C m ps sp) (hr:dJ k X.A) (hj:j <= k:=by decide)
  (ht:eval (.Call (.Attribute o m apos) [] [] pos) X.env=(do
   let ov <- eval o X.env
   standAt apos.atName
   let (f,first) <- holding [ov] (getMethod ov m pl)
   callWith pos f first (backTo pos (starEach [] X.env)) (backToKw pos (keywordEach [] X.env))):=by rfl) :
  PE X (.Call (.Attribute o m apos) [] [] pos) (Dn M m ta Bp):=by
 intro pins s σ H Q I h
 refine W.methodCall_KW (pl:=pl) (thn (he pins s σ H _ I h) fun u s1 ⟨x,H1,I1,rx,a,C,dx,fs,sp,ex,ea,l,hm,q⟩=>?_) ht
 obtain ⟨c,ps,f,fd,F,b,hm⟩:=hM C sp hm
 subst ex
 obtain rfl:u=Value.ref a:=rx
 refine wu I1 ea c hm l ?_
 exact W.callWith_K0 (first:=[.ref a]) I1.kIn hm.kp (vW (us:=[.ref a]) (vs:=[.ref a]) (dvs:=[]) F (hr.mono hj) b .nil vd I1 (.cons rfl .nil) q)
structure OfC (K:W.Frag) (C:Addr) (m:Str):Prop where
 ga:W.specialIn K (.ref C) "__getattribute__"=some (some (.builtin "type.__getattribute__"))
 rd:W.readsIn K C (.type "type")=true
 fc:∃f,W.findIn K (.ref C) m=some (some (.ref f))/\W.findCls K (.ref C) (.type "type") m=some (.val (.ref f))
theorem cb {pl:Sem Bool} (O:dX X.K X.mg C x up) (W:OfC X.K C m) (D:uI X.prog X.w X.K X.mg X.base j C m ps sp) (hr:dJ k X.A) (ha:PA X (e :: es) t) (hj:j <= k:=by decide) (hg:Gl X x:=by rfl) (hdb:(x == ("__debug__":Str))=false:=by decide)
  (hst:starEach (e :: es) X.env=(false,eval e X.env) :: starEach es X.env:=by rfl) (hpl:(backTo pos (starEach es X.env)).any (·.1)=false:=by rfl)
  (ht:eval (.Call (.Attribute (.Name x p) m apos) (e :: es) [] pos) X.env=(do
   let ov <- eval (.Name x p) X.env
   standAt apos.atName
   let (f,first) <- holding [ov] (getMethod ov m pl)
   callWith pos f first (backTo pos (starEach (e :: es) X.env)) (backToKw pos (keywordEach [] X.env))):=by rfl) :
  PE X (.Call (.Attribute (.Name x p) m apos) (e :: es) [] pos) (qV sp [] E0 t):=by
 obtain ⟨f,fd,F,b,hm⟩:=D
 intro pins s σ H Q I h
 refine PySem.W.methodCall_KW (pl:=pl) (oN I hg O.mg ?_ hdb) ht
 obtain ⟨f',h1,h2⟩:=W.fc
 have ef:f=f':=by
  have:=hm.at_.symm.trans h1
  cases this
  rfl
 subst ef
 refine PySem.W.method_cls I.kIn W.ga (PySem.W.cls_value I.kIn W.rd h2 rfl ?_)
 refine PySem.W.callWith_K (h₀:=X.base) I.ok.mod.kin hm.kp (thn (ha pos pins _ σ H _ (I.tok _) h) fun us s2 ⟨vs,H2,I2,r,q2⟩=>⟨I2.kIn,?_⟩) hst hpl
 exact vW (us:=us) (vs:=vs) F (hr.mono hj) b .nil vd I2 r q2
end
theorem DT {K:W.Frag}{C:Addr}{m qual:Str}{st:Stmt}{ps:List Str}{f:Addr}{oc:Value}{od an:Option Addr}{osl:Array (Option Value)}{kV doc pm cdv ct:Value}
  (a:W.findIn K (.ref C) m=some (some (.ref f))) (fn:W.isFn K (.ref f)=true) (l:K.lookup f=some ⟨oc,od,.func (W.fnOf m qual (bP st) (bu st) (ak st) .none kV doc pm an cdv ct),osl⟩) (c:W.codeIn K cdv qual=true) (k:W.keepIn K (.ref f)=true)
  (hb:∀(kV doc pm:Value) (an:Option Addr) (cdv ct:Value) (us:List Value),us.length=ps.length->bindArgs (W.fnOf m qual (bP st) (bu st) (ak st) .none kV doc pm an cdv ct) ⟨us,[]⟩=pure (ps.zip us)):MFn K C m qual st ps :=
 ⟨f,_,tY l c k,(tY l c k).binds hb,⟨a,fn,k⟩⟩
end L2
namespace L2
open PySem PySem.Spec PyProof.Rows
end L2
namespace L2
open PySem
end L2
namespace L2
open PySem
end L2
namespace L2
open PySem PySem.Spec PyProof.Rows
section
variable {X:Cx}
def qP:V->Bool
 | .flt _=>false
 | .byt _=>false
 | _=>true
theorem mO {x:V}{u v:Value} (hx:qP x=true) (ru:RelV x u) (rv:RelV x v) (A:Around) (s:Shared):SeqAt.EqAt A s u v true:=by
 cases x with
 | non=>cases ru;cases rv;exact .same _
 | bl b=>cases ru;cases rv;exact .same _
 | int i =>
  obtain ⟨t,rfl⟩:=ru
  obtain ⟨t',rfl⟩:=rv
  have:=SeqAt.EqAt.int_int (A:=A) (s:=s) i t i t'
  rwa [beq_self_eq_true] at this
 | str y =>
  obtain ⟨t,rfl⟩:=ru
  obtain ⟨t',rfl⟩:=rv
  have:=SeqAt.EqAt.str_str (A:=A) (s:=s) y t y t'
  rwa [beq_self_eq_true] at this
 | byt _=>cases hx
 | flt _=>cases hx
 | ref a=>cases ru;cases rv;exact .same _
 | ty n=>cases ru;cases rv;exact .same _
theorem ET (hu:X.A.units + 64 < cLine):OpR X (compareOp .Eq) (fun x y H Q=>∃p q xs,x=.ref p/\y=.ref q/\SqL X.K H p xs/\SqL X.K H q xs/\xs.all qP=true/\Q (.bl true) H):=by
 intro pins s σ H x y v u Q I rx ry h
 obtain ⟨p,q,xs,rfl,rfl,hp,hq,hf,k⟩:=h
 cases rx
 cases ry
 obtain ⟨its,r1,⟨o,n,e1,c1,_,d1⟩,_⟩:=I.list hp
 obtain ⟨jts,r2,⟨o2,n2,e2,c2,_,d2⟩,_⟩:=I.list hq
 have l1:=r1.length
 have l2:=r2.length
 refine SeqAt.eq_listAt (e:=fun _=>true) ⟨o,e1,c1,n,d1⟩ ⟨o2,e2,c2,n2,d2⟩ (by simp;omega) (by omega) (fun j h1 h2=>?_) ?_
 ·simp at h1 h2
  obtain ⟨x,hx⟩:∃x,xs[j]?=some x:=⟨xs[j]'(by omega),List.getElem?_eq_getElem (by omega)⟩
  obtain ⟨u1,g1,w1⟩:=r1.get hx
  obtain ⟨u2,g2,w2⟩:=r2.get hx
  have z1:its.toArray[j]'(by simpa using h1)=u1:=by
   have:=List.getElem?_eq_getElem h1
   rw [g1] at this
   simpa using (Option.some.inj this).symm
  have z2:jts.toArray[j]'(by simpa using h2)=u2:=by
   have:=List.getElem?_eq_getElem h2
   rw [g2] at this
   simpa using (Option.some.inj this).symm
  rw [z1,z2]
  exact mO (List.all_eq_true.mp hf x (List.mem_of_getElem? hx)) w1 w2 _ _
 ·have:((List.range its.toArray.size).all fun _=>true)=true:=by simp
  rw [this]
  exact ⟨.bl true,H,I,rfl,k⟩
def Fl (K:W.Frag):R2:=fun x y H Q=>match x,y with
 | .ref p,.ref q=>(∃d e,iK K H (.ref p) d/\iK K H (.ref q) e/\SeqAt.shaped d=true/\SeqAt.shaped e=true/\Q (.bl (PyData.eqv d e)) H) \/ (∃xs,SqL K H p xs/\SqL K H q xs/\xs.all qP=true/\Q (.bl true) H)
 | x,y=>yD x y=true/\Q (.bl (decide (x=y))) H
theorem D5 (hu:X.A.units + 64 < cLine):OpR X (compareOp .Eq) (Fl X.K):=((Ff hu).or (ET hu)).imp fun x y H Q q=>by
 by_cases hr:∃p q,x=V.ref p/\y=V.ref q
 ·obtain ⟨p,q',rfl,rfl⟩:=hr
  rcases q with q | ⟨xs,h1,h2,h3,h4⟩
  ·exact .inl q
  ·exact .inr ⟨p,q',xs,rfl,rfl,h1,h2,h3,h4⟩
 ·refine .inl ?_
  cases x <;> cases y <;> first | exact q | exact absurd ⟨_,_,rfl,rfl⟩ hr
theorem rJ:dg X (.type "int") (fun xs H Q=>∃b,xs=[.bl b]/\Q (.int (if b=true then 1 else 0)) H):=by
 intro pins s σ H xs us Q I r h
 obtain ⟨b,rfl,q⟩:=h
 obtain ⟨u,rfl,rfl⟩:=vals1 r
 exact PySem.call_int_bool ⟨.int _,H,I.tok _,⟨_,rfl⟩,q⟩
end
end L2
namespace L2
open PySem PySem.Spec PyProof.Rows
section
variable {κ:Type} [DecidableEq κ]
def b8 (kvs:List (κ × V)) (k:κ):Option V:=(kvs.find? fun kv=>decide (kv.1=k)).map (·.2)
def putK (kvs:List (κ × V)) (k:κ) (v:V):List (κ × V) :=
 if (kvs.any fun kv=>decide (kv.1=k))=true then kvs.map (fun kv=>if kv.1=k then (kv.1,v) else kv) else kvs ++ [(k,v)]
theorem cF {p:κ × V}{r:List (κ × V)}{k:κ} (e:p.1=k):b8 (p :: r) k=some p.2:=by simp [b8,List.find?_cons,e]
theorem cc {p:κ × V}{r:List (κ × V)}{k:κ} (e:¬ p.1=k):b8 (p :: r) k=b8 r k:=by simp [b8,List.find?_cons,e]
theorem fR (k:κ):∀kvs:List (κ × V),(kvs.any fun kv=>decide (kv.1=k))=(b8 kvs k).isSome
 | []=>rfl
 | p :: r=>by
  rw [List.any_cons]
  by_cases e:p.1=k
  ·simp only [cF e,decide_eq_true e,Bool.true_or,Option.isSome_some]
  ·rw [cc e,decide_eq_false e,Bool.false_or];exact fR k r
theorem vD (k j:κ) (y:V):∀kvs:List (κ × V),b8 (kvs.map fun kv=>if kv.1=k then (kv.1,y) else kv) j=(b8 kvs j).map fun x=>if j=k then y else x
 | []=>rfl
 | p :: r=>by
  have ih:=vD k j y r
  rw [List.map_cons]
  by_cases h:p.1=k
  ·rw [if_pos h]
   by_cases e:p.1=j
   ·rw [cF (p:=(p.1,y)) e,cF e,Option.map_some,if_pos (e.symm.trans h)]
   ·rw [cc (p:=(p.1,y)) e,cc e,ih]
  ·rw [if_neg h]
   by_cases e:p.1=j
   ·rw [cF (p:=p) e,cF e,Option.map_some,if_neg (fun z=>h (e.trans z))]
   ·rw [cc (p:=p) e,cc e,ih]
theorem ra (k j:κ) (y:V):∀kvs:List (κ × V),b8 kvs k=none->b8 (kvs ++ [(k,y)]) j=if j=k then some y else b8 kvs j
 | [],_=>by
  by_cases e:k=j
  ·rw [if_pos e.symm];exact cF (p:=(k,y)) e
  ·rw [if_neg (fun z=>e z.symm)];exact cc (p:=(k,y)) e
 | p :: r,hn=>by
  rw [List.cons_append]
  have hk:¬ p.1=k:=fun z=>by rw [cF z] at hn;cases hn
  rw [cc hk] at hn
  have ih:=ra k j y r hn
  by_cases e:p.1=j
  ·rw [cF e,cF e,if_neg (fun z=>hk (e.trans z))]
  ·rw [cc e,cc e,ih]
theorem zW (kvs:List (κ × V)) (k j:κ) (y:V):b8 (putK kvs k y) j=if j=k then some y else b8 kvs j:=by
 unfold putK
 by_cases a:(kvs.any fun kv=>decide (kv.1=k))=true
 ·rw [if_pos a,vD]
  rw [fR] at a
  by_cases e:j=k
  ·obtain ⟨x,hx⟩:=Option.isSome_iff_exists.mp a
   rw [if_pos e,e,hx,Option.map_some,if_pos rfl]
  ·rw [if_neg e]
   cases b8 kvs j with
   | none=>rfl
   | some x=>rw [Option.map_some,if_neg e]
 ·rw [if_neg a]
  refine ra k j y kvs ?_
  rw [fR] at a
  cases q:b8 kvs k with
  | none=>rfl
  | some x=>rw [q] at a;exact (a rfl).elim
theorem gC (kvs:List (κ × V)) (k:κ) (v:V):(putK kvs k v).length <= kvs.length + 1:=by
 unfold putK
 split
 ·rw [List.length_map];omega
 ·rw [List.length_append,List.length_cons,List.length_nil];omega
theorem uP {kvs:List (κ × V)}{k:κ} (v:V) (h:b8 kvs k=none):putK kvs k v=kvs ++ [(k,v)]:=by
 unfold putK
 rw [fR,h]
 exact if_neg (by decide)
theorem kM.iE {o:Option V}{u:Option Value} (r:kM o u):o.isSome=u.isSome:=by
 cases o with
 | none=>cases u with
  | none=>rfl
  | some _=>exact (show False from r).elim
 | some _=>cases u with
  | none=>exact (show False from r).elim
  | some _=>rfl
theorem KV.val {kvs:List (κ × V)}{vs:List (κ × Value)} (r:KV kvs vs) (k:κ):kM (b8 kvs k) (valueAt vs k):=by
 unfold KV at r
 induction r with
 | nil=>exact True.intro
 | @cons p q ps qs h t ih =>
  obtain ⟨h1,h2⟩:=h
  by_cases e:p.1=k
  ·have e':q.1=k:=h1.symm.trans e
   have b:valueAt (q :: qs) k=some q.2:=by simp [valueAt,List.find?_cons,e']
   rw [cF e,b];exact h2
  ·have e':¬ q.1=k:=fun z=>e (h1.trans z)
   have b:valueAt (q :: qs) k=valueAt qs k:=by simp [valueAt,List.find?_cons,e']
   rw [cc e,b];exact ih
theorem KV.any {kvs:List (κ × V)}{vs:List (κ × Value)} (r:KV kvs vs) (k:κ):(kvs.any fun kv=>decide (kv.1=k))=vs.any fun kv=>decide (kv.1=k):=by
 unfold KV at r
 induction r with
 | nil=>rfl
 | cons h t ih=>rw [List.any_cons,List.any_cons,ih,h.1]
theorem KV.DN {kvs:List (κ × V)}{vs:List (κ × Value)} (r:KV kvs vs) (k:κ) {y:V}{u:Value} (ry:RelV y u) :
  KV (kvs.map fun kv=>if kv.1=k then (kv.1,y) else kv) (vs.map fun kv=>if kv.1=k then (kv.1,u) else kv):=by
 unfold KV at r ⊢
 induction r with
 | nil=>exact .nil
 | @cons p q ps qs h t ih =>
  rw [List.map_cons,List.map_cons]
  refine .cons ?_ ih
  obtain ⟨h1,h2⟩:=h
  by_cases e:p.1=k
  ·rw [if_pos e,if_pos (h1.symm.trans e)];exact ⟨h1,ry⟩
  ·rw [if_neg e,if_neg (fun z=>e (h1.trans z))];exact ⟨h1,h2⟩
theorem KV.put {kvs:List (κ × V)}{vs:List (κ × Value)} (r:KV kvs vs) (k:κ) {y:V}{u:Value} (ry:RelV y u):KV (putK kvs k y) (stored vs k u):=by
 unfold putK stored
 rw [r.any k]
 by_cases e:(vs.any fun kv=>decide (kv.1=k))=true
 ·rw [if_pos e,if_pos e];exact r.DN k ry
 ·rw [if_neg e,if_neg e];exact Paired.snoc r ⟨rfl,ry⟩
theorem KV.keys {kvs:List (κ × V)}{vs:List (κ × Value)} (r:KV kvs vs):kvs.map (·.1)=vs.map (·.1):=by
 unfold KV at r
 induction r with
 | nil=>rfl
 | cons h t ih=>rw [List.map_cons,List.map_cons,ih,h.1]
theorem KV.length {kvs:List (κ × V)}{vs:List (κ × Value)} (r:KV kvs vs):kvs.length=vs.length:=Paired.length r
end
theorem rb {P:Program}{w:World}{k:Key}{u:Value} (r:RelV (kV k) u):(bN P w).is k u=true:=by
 cases k with
 | inl i=>obtain ⟨t,e⟩:=(show ∃t,u=Value.int i t from r);subst e;exact u5 P w i t
 | inr x=>obtain ⟨t,e⟩:=(show ∃t,u=Value.str x t from r);subst e;exact uv P w x t
theorem q4 {P:Program}{w:World}:∀{ks:List Key}{us:List Value},Vals (ks.map kV) us->ItemsAre (bN P w) ks us
 | [],_,r=>by rw [List.map_nil] at r;cases r;exact .nil
 | k :: ks,_,r=>by
  rw [List.map_cons] at r
  cases r with
  | cons h t=>exact .cons (rb h) (q4 t)
abbrev KT (H:Hp):List (List Key × V)->List (List Key × Addr × Value)->Prop:=Paired fun p q=>p.1=q.1/\H q.2.1=some (.tup (p.1.map kV))/\RelV p.2 q.2.2
theorem KT.val {H:Hp}{kvs:List (List Key × V)}{xs:List (List Key × Addr × Value)} (r:KT H kvs xs) (k:List Key):kM (b8 kvs k) ((atKey xs k).map (·.2)):=by
 induction r with
 | nil=>exact True.intro
 | @cons p q ps qs h t ih =>
  obtain ⟨h1,_,h2⟩:=h
  by_cases e:p.1=k
  ·have e':q.1=k:=h1.symm.trans e
   have b:atKey (q :: qs) k=some q.2:=by simp [atKey,List.find?_cons,e']
   rw [cF e,b];exact h2
  ·have e':¬ q.1=k:=fun z=>e (h1.trans z)
   have b:atKey (q :: qs) k=atKey qs k:=by simp [atKey,List.find?_cons,e']
   rw [cc e,b];exact ih
theorem KT.DN {H:Hp}{kvs:List (List Key × V)}{xs:List (List Key × Addr × Value)} (r:KT H kvs xs) (k:List Key) {y:V}{u:Value} (ry:RelV y u) :
  KT H (kvs.map fun kv=>if kv.1=k then (kv.1,y) else kv) (xs.map (putAt k u)):=by
 induction r with
 | nil=>exact .nil
 | @cons p q ps qs h t ih =>
  rw [List.map_cons,List.map_cons]
  refine .cons ?_ ih
  obtain ⟨h1,h2,h3⟩:=h
  unfold putAt
  by_cases e:p.1=k
  ·rw [if_pos e,if_pos (h1.symm.trans e)];exact ⟨h1,h2,ry⟩
  ·rw [if_neg e,if_neg (fun z=>e (h1.trans z))];exact ⟨h1,h2,h3⟩
theorem KT.put {H:Hp}{kvs:List (List Key × V)}{xs:List (List Key × Addr × Value)} (r:KT H kvs xs) (k:List Key) {b:Addr}{y:V}{u:Value} (hb:H b=some (.tup (k.map kV))) (ry:RelV y u) :
  KT H (putK kvs k y) (storedH xs k b u):=by
 have e:(kvs.any fun kv=>decide (kv.1=k))=(atKey xs k).isSome:=by
  rw [fR,(r.val k).iE,Option.isSome_map]
 unfold putK storedH
 rw [e]
 by_cases q:(atKey xs k).isSome=true
 ·rw [if_pos q,if_pos q];exact r.DN k ry
 ·rw [if_neg q,if_neg q];exact Paired.snoc r ⟨rfl,hb,ry⟩
theorem KT.keeps {H H':Hp}{kvs:List (List Key × V)}{xs:List (List Key × Addr × Value)} (r:KT H kvs xs) (ht:∀b ys,H b=some (.tup ys)->H' b=some (.tup ys)):KT H' kvs xs :=
 Paired.mR r fun _ _ z=>⟨z.1,ht _ _ z.2.1,z.2.2⟩
section
variable {P:Program}{w:World}{H:Hp}{h:Heap}{a:Addr}
theorem Cj {u:HO} (ok:HOk P w H h) (e:Rd H a u):cn P w H h a u:=e.ok ok
theorem mr {kvs:List (Key × V)} (ok:HOk P w H h) (e:Rd H a (.dK kvs)):kvs.length <= sizeLine/\(a == sysModules)=false/\∃vs,KV kvs vs/\h.DictOf (bN P w) a vs :=
 show cn P w H h a (.dK kvs) from Cj ok e
theorem Ap {kvs:List (Key × V)} (ok:HOk P w H h) (e:H a=some (.dK kvs)):kvs.length <= sizeLine/\(a == sysModules)=false/\∃vs,KV kvs vs/\h.DictOf (bN P w) a vs:=mr ok (.inl e)
theorem o4 {ks:List Key} (ok:HOk P w H h) (e:H a=some (.tup (ks.map kV))):(tupleKind (bN P w)).is h ks a:=by
 obtain ⟨_,its,r,o,h1,h2,n,h3⟩:=(show cn P w H h a (.tup (ks.map kV)) from ok a _ e)
 exact ⟨o,its.toArray,n,h1,h2,h3,by simpa using q4 r⟩
theorem uL {kvs:List (List Key × V)} (ok:HOk P w H h) (e:Rd H a (.dT kvs)):kvs.length <= sizeLine/\(a == sysModules)=false /\
  ∃xs,KT H kvs xs/\h.DictOfH (tupleKind (bN P w)) a xs:=by
 obtain ⟨z,y,xs,r,o,es,ep,h1,h2,h3,h4,h5⟩:=(show cn P w H h a (.dT kvs) from Cj ok e)
 refine ⟨z,y,xs,r,o,es,ep,h1,h2,h3,h4,fun x hx=>?_,h5⟩
 have all:∀{l:List (List Key × V)}{m:List (List Key × Addr × Value)},KT H l m->∀x ∈ m,(tupleKind (bN P w)).is h x.1 x.2.1:=by
  intro l m q
  induction q with
  | nil=>intro x hx;exact nomatch hx
  | @cons p q ps qs hq t ih =>
   intro x hx
   rcases List.mem_cons.mp hx with e | hx
   ·subst e
    exact o4 ok (by rw [<- hq.1];exact hq.2.1)
   ·exact ih x hx
 exact all r x hx
theorem EO {kvs:List (List Key × V)} (ok:HOk P w H h) (e:H a=some (.dT kvs)):kvs.length <= sizeLine/\(a == sysModules)=false /\
  ∃xs,KT H kvs xs/\h.DictOfH (tupleKind (bN P w)) a xs:=uL ok (.inl e)
end
def kL (H:Hp) (a:Addr) (y:V) (r:Option V):Prop :=
 (∃kvs k,Rd H a (.dK kvs)/\y=kV k/\r=b8 kvs k) \/ ∃kvs k b,Rd H a (.dT kvs)/\y=.ref b/\H b=some (.tup (k.map kV))/\r=b8 kvs k
def sO (H:Hp) (a:Addr) (y v:V) (H':Hp):Prop :=
 (∃kvs k,H a=some (.dK kvs)/\y=kV k/\kvs.length < sizeLine/\H'=upd H a (.dK (putK kvs k v))) \/
 ∃kvs k b,H a=some (.dT kvs)/\y=.ref b/\H b=some (.tup (k.map kV))/\kvs.length < sizeLine/\H'=upd H a (.dT (putK kvs k v))
theorem kL.k {H:Hp}{a:Addr}{kvs:List (Key × V)}{k:Key} (e:H a=some (.dK kvs)):kL H a (kV k) (b8 kvs k):=.inl ⟨kvs,k,.inl e,rfl,rfl⟩
theorem sO.k {H:Hp}{a:Addr}{kvs:List (Key × V)}{k:Key}{v:V} (e:H a=some (.dK kvs)) (hl:kvs.length < sizeLine):sO H a (kV k) v (upd H a (.dK (putK kvs k v))):=.inl ⟨kvs,k,e,rfl,hl,rfl⟩
section
variable {X:Cx}{pins:List (Addr × Obj)}{σ:St}{H:Hp}{s:Shared}{a:Addr}{y v:V}{u r:Value}{o:Option V}{A:Around}{E:Value->Shared->Prop}
theorem Inv.big (I:Inv X pins σ H s):sysModules < s.heap.objs.size:=by
 have h:mainGlobals < s.heap.objs.size:=(I.mod.glob.keeps I.bk).lt
 exact Nat.lt_trans (by decide) h
theorem yl {Q:Value->Shared->Prop} (hu:A.units + 1 < cLine) (I:Inv X pins σ H s) (g:kL H a y (some v)) (ry:RelV y u) (h:∀w' s',Inv X pins σ H s'->RelV v w'->Q w' s') :
  wpAny (model X.prog X.w) A (getItem (.ref a) u) Q E s:=by
 rcases g with ⟨kvs,k,e,ey,l⟩ | ⟨kvs,k,b,e,ey,eb,l⟩
 ·subst ey
  obtain ⟨z,hd,vs,rel,dd⟩:=mr I.hok e
  obtain ⟨w',hw,rw'⟩:=kM.some_of (v:=v) (o:=valueAt vs k) (by rw [l];exact rel.val k)
  exact wpAny_getItem_of (rb ry) dd.mapOf hw (h w' _ (I.tok _) rw')
 ·subst ey
  cases (show u=Value.ref b from ry)
  obtain ⟨z,hd,xs,rel,dd⟩:=uL I.hok e
  obtain ⟨w',hw,rw'⟩:=kM.some_of (v:=v) (o:=(atKey xs k).map (·.2)) (by rw [l];exact rel.val k)
  obtain ⟨p,hp,hp2⟩:=Option.map_eq_some_iff.mp hw
  refine wpAny_getItem_heap (tupleKind_room_in1 hu) (o4 I.hok eb) dd hp ?_
  rw [hp2]
  exact h w' _ (I.tok _) rw'
theorem Fq {Q:Value->Shared->Prop} (hu:A.units + 1 < cLine) (I:Inv X pins σ H s) (g:kL H a y o) (ry:RelV y u) (h:∀s',Inv X pins σ H s'->Q (.bool o.isSome) s') :
  wpAny (model X.prog X.w) A (compareOp .In u (.ref a)) Q E s:=by
 rcases g with ⟨kvs,k,e,ey,l⟩ | ⟨kvs,k,b,e,ey,eb,l⟩
 ·subst ey
  obtain ⟨z,hd,vs,rel,dd⟩:=mr I.hok e
  refine wpAny_in_of (rb ry) hd dd.mapOf ?_
  rw [<- (rel.val k).iE,<- l]
  exact h _ (I.tok _)
 ·subst ey
  cases (show u=Value.ref b from ry)
  obtain ⟨z,hd,xs,rel,dd⟩:=uL I.hok e
  refine wpAny_in_heap (tupleKind_room_in1 hu) (o4 I.hok eb) hd dd ?_
  have q:=(rel.val k).iE
  rw [Option.isSome_map] at q
  rw [<- q,<- l]
  exact h _ (I.tok _)
theorem BV {Q:Value->Shared->Prop} (hu:A.units + 1 < cLine) (I:Inv X pins σ H s) (g:kL H a y o) (ry:RelV y u) (h:∀s',Inv X pins σ H s'->Q (.bool (!o.isSome)) s') :
  wpAny (model X.prog X.w) A (compareOp .NotIn u (.ref a)) Q E s:=by
 rcases g with ⟨kvs,k,e,ey,l⟩ | ⟨kvs,k,b,e,ey,eb,l⟩
 ·subst ey
  obtain ⟨z,hd,vs,rel,dd⟩:=mr I.hok e
  refine wpAny_notIn_of (rb ry) hd dd.mapOf ?_
  rw [<- (rel.val k).iE,<- l]
  exact h _ (I.tok _)
 ·subst ey
  cases (show u=Value.ref b from ry)
  obtain ⟨z,hd,xs,rel,dd⟩:=uL I.hok e
  refine wpAny_notIn_heap (tupleKind_room_in1 hu) (o4 I.hok eb) hd dd ?_
  have q:=(rel.val k).iE
  rw [Option.isSome_map] at q
  rw [<- q,<- l]
  exact h _ (I.tok _)
theorem oy {h':Heap}{t':Nat}{ob:HO} (I:Inv X pins σ H s) (mu:Mut (H a)) (hs:Heap.SameBut a s.heap h') (he:∃q,h'.get? a=some q) (new:cn X.prog X.w (upd H a ob) h' a ob) :
  Inv X pins σ (upd H a ob) { s with heap:=h',toks:=t' } :=
 I.write (x:=a) (e:=a) mu (.inl rfl) (fun b q hb z=>(hs.2 b hb).trans z) he new
theorem AB {P:Program}{w:World}{H':Hp}{h':Heap}{kvs:List (Key × V)}{vs:List (Key × Value)} (z:kvs.length <= sizeLine) (hd:(a == sysModules)=false) (rel:KV kvs vs) (dd:h'.DictOf (bN P w) a vs) :
  cn P w H' h' a (.dK kvs):=⟨z,hd,vs,rel,dd⟩
theorem yk {H':Hp}{Q:Unit->Shared->Prop} (hu:A.units + 1 < cLine) (I:Inv X pins σ H s) (g:sO H a y v H') (ry:RelV y u) (rv:RelV v r) (h:∀s',Inv X pins σ H' s'->Q () s') :
  wpAny (model X.prog X.w) A (setItem (.ref a) u r) Q E s:=by
 rcases g with ⟨kvs,k,e,ey,l,eH⟩ | ⟨kvs,k,b,e,ey,eb,l,eH⟩
 ·subst ey eH
  obtain ⟨z,hd,vs,rel,dd⟩:=Ap I.hok e
  have hz:vs.length <= sizeLine:=by rw [<- rel.length];exact z
  have hl:(putK kvs k v).length <= sizeLine:=by have:=gC kvs k v;omega
  refine wpAny_setItem_pairs (hsz:=hz) (rb ry) dd fun h' dd' hs=>h _ ?_
  have he:∃q,h'.get? a=some q:=let ⟨q,_,_,hq,_⟩:=dd';⟨q,hq⟩
  exact oy I (by rw [e];exact True.intro) hs he (AB hl hd (rel.put k rv) dd')
 ·subst ey eH
  cases (show u=Value.ref b from ry)
  obtain ⟨z,hd,xs,rel,dd⟩:=EO I.hok e
  have hz:xs.length <= sizeLine:=by rw [<- Paired.length rel];exact z
  have hl:(putK kvs k v).length <= sizeLine:=by have:=gC kvs k v;omega
  refine wpAny_setItem_heap (hsz:=hz) (tupleKind_room_in1 hu) (o4 I.hok eb) dd fun h' dd' hs=>h _ ?_
  obtain ⟨q,es,ep,hq,h2,h3,h4,_,h5⟩:=dd'
  refine oy I (by rw [e];exact True.intro) hs ⟨q,hq⟩ ⟨hl,hd,_,(rel.put k eb rv).keeps fun c ys ec=>?_,q,es,ep,hq,h2,h3,h4,h5⟩
  rw [aI (EY ec e (fun z=>nomatch z))]
  exact ec
end
section
variable {X:Cx}{pins:List (Addr × Obj)}{σ:St}{H:Hp}{s:Shared}{a:Addr}{kvs:List (Key × V)}{k:Key}{u:Value}{A:Around}{E:Value->Shared->Prop}
theorem EV {Q:Value->Shared->Prop} (I:Inv X pins σ H s) (e:Rd H a (.dK kvs)) (h:∀t s',Inv X pins σ H s'->Q (.int kvs.length t) s'):wpAny (model X.prog X.w) A (call (.builtin "len") [.ref a]) Q E s:=by
 obtain ⟨z,hd,vs,rel,dd⟩:=mr I.hok e
 refine call_len_dict hd dd (by rw [<- rel.length];rw [sizeLine_eq] at z;omega) ?_
 rw [<- rel.length]
 exact h _ _ (I.tok _)
end
theorem vo {X:Cx}{pins:List (Addr × Obj)}{σ:St}{H:Hp}{s:Shared}{a:Addr}{y:V}{o:Option V} (I:Inv X pins σ H s) (g:kL H a y o):s.TypeIs (.ref a) "dict":=by
 rcases g with ⟨kvs,k,e,_,_⟩ | ⟨kvs,k,b,e,_,_,_⟩
 ·obtain ⟨_,_,vs,_,dd⟩:=mr I.hok e
  exact dd.typeIs
 ·obtain ⟨_,_,xs,_,dd⟩:=uL I.hok e
  exact dd.typeIs
section
variable {X:Cx}{o i e value:Expr}{pos pos' tpos:Pos}{td ty tv:TE}
end
theorem ug {P:Program}{w:World}{H:Hp} (h:Heap) (hb:sysModules < h.objs.size):cn P w H (h.push { cls:=.type "dict",data:=.dict #[] }) h.objs.size (.dK []) :=
 ⟨Nat.zero_le _,beq_eq_false_iff_ne.mpr (Ne.symm (Nat.ne_of_lt hb)),[],.nil,Heap.DictOf.new h⟩
def Dy:TE:=fun _ H Q=>∀p,H p=none->Q (.ref p) (upd H p (.dK []))
section
variable {X:Cx}{pos:Pos}
theorem uf:PE X (.Dict [] [] pos) Dy:=fun pins s σ H Q I h =>
 wpAny_Dict_empty ⟨.ref s.heap.objs.size,_,I.laid (a:=s.heap.objs.size) (o:=.dK []) (t':=s.toks) (fun _ _ q=>Heap.get?_push_of_some _ q) (Nat.le_refl _) (ug s.heap I.big),rfl,h _ (I.hok.fresh (Nat.le_refl _))⟩
end
def bC (kvs more:List (Key × V)):List (Key × V):=more.foldl (fun acc kv=>putK acc kv.1 kv.2) kvs
theorem kQ:∀(more kvs:List (Key × V)),(bC kvs more).length <= kvs.length + more.length
 | [],kvs=>by show kvs.length <= kvs.length + 0;omega
 | p :: r,kvs=>by
  have h1:=kQ r (putK kvs p.1 p.2)
  have h2:=gC kvs p.1 p.2
  show (bC (putK kvs p.1 p.2) r).length <= _
  rw [List.length_cons];omega
structure M1 (X:Cx) (o:Expr) (m:Str) (apos:Pos) (e:Expr) (cpos:Pos):Prop where
 base:attributeBase o m X.env (eval o X.env)=eval o X.env
 few:((backTo cpos (starEach [e] X.env)).all (fun x=>!x.1) && (backToKw cpos (keywordEach [] X.env)).all (fun x=>x.1.isSome)
  && decide (([e]:List Expr).length + ([]:List Keyword).length + (if ([]:List Keyword).isEmpty then 0 else 1) < 30))=true
 line:(apos.endLine == cpos.line)=true
 trees:backTo cpos (starEach [e] X.env)=[(false,eval e X.env)]
structure M2 (X:Cx) (o:Expr) (m:Str) (apos:Pos) (e f:Expr) (cpos:Pos):Prop where
 base:attributeBase o m X.env (eval o X.env)=eval o X.env
 few:((backTo cpos (starEach [e,f] X.env)).all (fun x=>!x.1) && (backToKw cpos (keywordEach [] X.env)).all (fun x=>x.1.isSome)
  && decide (([e,f]:List Expr).length + ([]:List Keyword).length + (if ([]:List Keyword).isEmpty then 0 else 1) < 30))=true
 line:(apos.endLine == cpos.line)=true
 trees:backTo cpos (starEach [e,f] X.env)=[(false,eval e X.env),(false,eval f X.env)]
section
variable {X:Cx}{pins:List (Addr × Obj)}{σ:St}{H:Hp}{s:Shared}{a:Addr}{y d:V}{u r:Value}{o:Option V}{A:Around}{E:Value->Shared->Prop}
end
section
variable {X:Cx}{o e f:Expr}{apos cpos:Pos}{td ty tx:TE}
end
section
variable {X:Cx}{pins:List (Addr × Obj)}{σ:St}{H:Hp}{s:Shared}{a:Addr}{kvs:List (Key × V)}{A:Around}{E:Value->Shared->Prop}
end
section
variable {X:Cx}{pins:List (Addr × Obj)}{σ:St}{H:Hp}{s:Shared}{a:Addr}{y:V}{u:Value}{A:Around}{E:Value->Shared->Prop}
end
end L2
namespace L2
open PySem PySem.Spec PyProof.Rows
section
variable {X:Cx}
theorem uW (hu:X.A.units + 64 < cLine):IxR X (fun x y H Q=>∃a v,x=.ref a/\kL H a y (some v)/\Q v H):=by
 intro value slice pins s σ H x y v u Q I rx ry h hs
 obtain ⟨a,z,rfl,g,q⟩:=h
 cases rx
 have hT:=vo I g
 unfold subscriptTail
 refine wpAny_bind ?_
 rw [getitemInPython_of_ne hT.not_modules]
 refine wpAny_bind (wpAny_specialOf hT PySem.F.slot_dict_getitem.lookup ?_)
 have h₂:wpAny (model X.prog X.w) X.A (getItem (.ref a) u) (EP X pins σ Q) X.xe s:=yl (by omega) I g ry fun w' s3 I3 rw'=>⟨z,H,I3,rw',q⟩
 have fin:wpAny (model X.prog X.w) X.A (subscripted slice false (.ref a) u) (fun r s₃=>wpAny (model X.prog X.w) X.A (letTemporaryGo value (.ref a) r >>= fun _=>pure r) (EP X pins σ Q) X.xe s₃) X.xe s:=by
  rw [hs]
  exact wpAny_operating (wpAny_mono h₂ (fun r s₃ h₃=>wpAny_bind (wpAny_letTemporaryGo (wpAny_pure h₃))) fun _ _ x=>x)
 first
  | exact wpAny_pure (wpAny_bind fin)
  | exact wpAny_bind (wpAny_pure (wpAny_bind fin))
  | exact wpAny_bind fin
inductive dgI (p:Addr) (y:V) (H:Hp) (Q:VK):Prop
 | mk (v:V) (h:kL H p y (some v)) (q:Q v H):dgI p y H Q
def EK (K:W.Frag):R2:=fun x y H Q=>match x,y with
 | .ref p,.int i=>ixS K p i H Q \/ dgI p (.int i) H Q
 | .ref p,.str k=>dgI p (.str k) H Q
 | .str z,.int i=>∃c,z.length <= sizeLine/\atI z.cps.toList i=some c/\Q (.str ⟨#[c]⟩) H
 | _,_=>False
theorem Dl (hu:X.A.units + 64 < cLine):IxR X (EK X.K):=by
 intro value slice pins s σ H x y v u Q I rx ry h hs
 cases x with
 | ref p =>
  cases y with
  | int i =>
   rcases h with h | ⟨w,g,q⟩
   ·exact zo value slice pins s σ H _ _ v u Q I rx ry h hs
   ·exact uW hu value slice pins s σ H _ _ v u Q I rx ry ⟨p,w,rfl,g,q⟩ hs
  | str k =>
   obtain ⟨w,g,q⟩:=h
   exact uW hu value slice pins s σ H _ _ v u Q I rx ry ⟨p,w,rfl,g,q⟩ hs
  | _=>exact (show False from h).elim
 | str z =>
  cases y with
  | int i=>exact zo value slice pins s σ H _ _ v u Q I rx ry h hs
  | _=>exact (show False from h).elim
 | _=>cases y <;> exact (show False from h).elim
theorem vt (hu:X.A.units + 64 < cLine):Ac X (fun o i v H Q=>∃a H',o=.ref a/\sO H a i v H'/\Q H'):=by
 intro pins s σ H o i v ov iv u Q I ro ri rv h
 obtain ⟨a,H',rfl,g,q⟩:=h
 cases ro
 exact yk (by omega) I g ri rv fun s4 I4=>⟨H',I4,q⟩
inductive dpI (p:Addr) (y v:V) (H:Hp) (Q:Hp->Prop):Prop
 | mk (H':Hp) (h:sO H p y v H') (q:Q H'):dpI p y v H Q
inductive stL (p:Addr) (k:Int) (v:V) (H:Hp) (Q:Hp->Prop):Prop
 | mk (xs:List V) (j:Nat) (h0:H p=some (.lst xs)) (h1:ixN xs.length k=some j) (q:Q (upd H p (.lst (xs.set j v)))):stL p k v H Q
def EJ:BB:=fun o i v H Q=>match o,i with
 | .ref p,.int k=>stL p k v H Q \/ dpI p (.int k) v H Q
 | .ref p,.str k=>dpI p (.str k) v H Q
 | _,_=>False
theorem sR (hu:X.A.units + 64 < cLine) (hl:Ac X BW):Ac X EJ:=by
 intro pins s σ H o i v ov iv u Q I ro ri rv h
 cases o with
 | ref p =>
  cases i with
  | int k =>
   rcases h with ⟨xs,j,h1,h2,q⟩ | ⟨H',g,q⟩
   ·exact hl pins s σ H _ _ v ov iv u Q I ro ri rv ⟨p,xs,k,j,rfl,rfl,h1,h2,q⟩
   ·exact vt hu pins s σ H _ _ v ov iv u Q I ro ri rv ⟨p,H',rfl,g,q⟩
  | str k =>
   obtain ⟨H',g,q⟩:=h
   exact vt hu pins s σ H _ _ v ov iv u Q I ro ri rv ⟨p,H',rfl,g,q⟩
  | _=>exact (show False from h).elim
 | _=>cases i <;> exact (show False from h).elim
theorem D3 (hu:X.A.units + 64 < cLine):OpR X (compareOp .In) (fun x y H Q=>∃a o,y=.ref a/\kL H a x o/\Q (.bl o.isSome) H):=by
 intro pins s σ H x y v u Q I rx ry h
 obtain ⟨a,o,rfl,g,q⟩:=h
 cases ry
 exact Fq (by omega) I g rx fun s3 I3=>⟨.bl o.isSome,H,I3,rfl,q⟩
theorem Aq (hu:X.A.units + 64 < cLine):OpR X (compareOp .NotIn) (fun x y H Q=>∃a o,y=.ref a/\kL H a x o/\Q (.bl (!o.isSome)) H):=by
 intro pins s σ H x y v u Q I rx ry h
 obtain ⟨a,o,rfl,g,q⟩:=h
 cases ry
 exact BV (by omega) I g rx fun s3 I3=>⟨.bl (!o.isSome),H,I3,rfl,q⟩
theorem B2 (hu:X.A.units + 64 < cLine):OpR X (compareOp .In) (fun x y H Q=>fIn X.K false x y H Q \/ ∃a o,y=.ref a/\kL H a x o/\Q (.bl o.isSome) H):=FJ.or (D3 hu)
theorem uy (hu:X.A.units + 64 < cLine):OpR X (compareOp .NotIn) (fun x y H Q=>fIn X.K true x y H Q \/ ∃a o,y=.ref a/\kL H a x o/\Q (.bl (!o.isSome)) H):=BQ.or (Aq hu)
theorem CL:dg X (.builtin "len") (fun xs H Q=>∃a kvs,xs=[.ref a]/\Rd H a (.dK kvs)/\Q (.int (kvs.length:Nat)) H):=by
 intro pins s σ H xs us Q I r h
 obtain ⟨a,kvs,rfl,e,q⟩:=h
 obtain ⟨u,rfl,rfl⟩:=vals1 r
 exact EV I e fun t s' I'=>⟨.int _,H,I',⟨_,rfl⟩,q⟩
end
end L2
namespace PySem
open Sem (wp)
section
variable {prog:Program}{w:World}{A:Around}{E:Value->Shared->Prop}{s:Shared}
theorem tU:typeLookup (.type "list") "keys"=pure none:=am_miss_of_fast (by kernel_rfl)
theorem tV {a:Addr}{o:Obj}{xs:Array Value}{k:Nat}{Q:Option Value->Shared->Prop} (hx:s.heap.get? a=some o) (hc:o.cls=.type "list") (hdat:o.data=.seq xs k) (hd:o.dict=none) (hA:A.handled=none)
  (h:∀h' tk,(∀b ob,s.heap.get? b=some ob->h'.get? b=some ob)->Q none { s with heap:=h',toks:=tk }):wpAny (model prog w) A (getAttr? (.ref a) "keys") Q E s:=by
 obtain ⟨c,dct,dat,sl⟩:=o
 simp only at hc hdat hd
 subst hc hdat hd
 obtain ⟨hp,g,d,tk,os⟩:=s
 have hT:∀tk',(⟨hp,g,d,tk',os⟩:Shared).TypeIs (.ref a) "list":=fun _=>⟨_,hx,rfl⟩
 have f1:=sub_AttributeError
 have f3:=F.slot_list_getattribute.lookup
 have f4:=F.slot_list_getattribute.bind (.ref a)
 have f5:=am_list_getattr_none
 have hmiss:=tU
 have hname:(["__module__","__name__","__qualname__","__doc__","__annotations__"]:List Str).contains "keys"=false:=by decide +kernel
 unfold getAttr? getAttrBy? getAttrBy
 repeat (any_goals (first | assumption | exact hT _ | ((with_reducible show wpAny _ _ (call (Value.builtin "list.__getattribute__") _ _) _ _ _);refine call_meets F.slot_list_getattribute (hT _) am_entry_list_getattribute (F.args_list_getattribute_2 _ _) (meets_getattribute_miss_list a xs k sl "keys" _ hmiss hname (by decide)) ⟨hx,hA,fun h' tk' e hx'=>?_⟩) | wp_step))
 obtain ⟨t',u',he⟩:=hx'.there
 have hTe:(⟨h',g,d,tk',os⟩:Shared).TypeIs (.ref e) "AttributeError":=⟨_,he,rfl⟩
 show wpAny _ _ (getattributeRaised _ _ _ _ _ _ _) _ _ _
 unfold getattributeRaised
 repeat (any_goals (first | assumption | wp_step))
 exact h _ _ hx'.keeps
end
end PySem
namespace L2
open PySem PySem.Spec PyProof.Rows
theorem jE:entryFor table "dict.update.loop"=some Builtin.«dict.update.loop»:=entryFor_of_tree (by kernel_rfl)
theorem dN:plainId "dict.update.loop"=true:=by decide +kernel
section
variable {X:Cx}{pins:List (Addr × Obj)}{σ:St}{H0:Hp}{A:Around}
theorem pair_items {prog:Program}{w:World}{E:Value->Shared->Prop}{s:Shared}{t:Addr}{its:Array Value}{Q:List Value->Shared->Prop} (h:s.heap.IsTuple t its) (q:Q its.toList s):wpAny (model prog w) A (Builtin.Dict.pairItems (.ref t)) Q E s:=by
 obtain ⟨o,ho,hc,n,hd⟩:=h
 unfold Builtin.Dict.pairItems
 refine wpAny_bind (wpAny_typeOf ⟨o,ho,hc⟩ ?_)
 rw [if_pos (by decide)]
 refine wpAny_bind ?_
 obtain ⟨c,dct,dat,sl⟩:=o
 simp only at hc hd
 subst hc hd
 obtain ⟨hp,g,d,tk,os⟩:=s
 repeat (any_goals (first | assumption | wp_step))
theorem vH (kvs:List (Key × V)) (i:Nat) {k:Key}{v:V} (h:kvs[i]?=some (k,v)):bC [] (kvs.take (i + 1))=putK (bC [] (kvs.take i)) k v:=by
 unfold bC
 rw [List.take_add_one,h,List.foldl_append]
 rfl
theorem zS (hc:X.calm=true) {l p it:Addr}{ps:List Addr}{kvs:List (Key × V)}{R:Result->Shared->Prop} (hA:A.handled=none) (hl:SqL X.K H0 l (ps.map V.ref)) (hlen:ps.length=kvs.length) (hn:kvs.length <= 1000)
  (hps:∀(i:Nat) t k v,ps[i]?=some t->kvs[i]?=some (k,v)->SqT X.K H0 t [kV k,v]) (hp:H0 p=none)
  (fin:∀s',Inv X pins σ (upd H0 p (.dK (bC [] kvs))) s'->R (.ok (.ret .none)) s') :
  ∀(n i:Nat) (s:Shared),n + i=ps.length->Inv X pins σ (upd H0 p (.dK (bC [] (kvs.take i)))) s->pX X pins (upd H0 p (.dK (bC [] (kvs.take i)))) it->s.heap.IsListIter it l i ->
   codeAny (model X.prog X.w) A (.builtin "dict.update.loop" ⟨[.ref p,.ref it,rawInt i,.none],[]⟩) R s:=by
 intro n
 induction n with
 | zero =>
  intro i s hi I hf st
  refine codeAny_builtin jE ?_
  rw [Around.under_plainId dN _]
  have sm:=aq.upd hp (.dK (bC [] (kvs.take i)))
  obtain ⟨its,rv,pl,hz⟩:=I.list (sm.seq hl)
  have hll:=rv.length
  rw [List.length_map] at hll
  obtain ⟨f0,f1,f2,f3,f4,f5⟩:=hf
  unfold Builtin.«dict.update.loop»
  refine wpAny_bind (wpAny_pyNext_list_end hA st pl.isList (by simp;omega) fun h' eb=>?_)
  have I':Inv X pins σ (upd H0 p (.dK (bC [] (kvs.take i)))) { s with heap:=h' }:=I.turned (t':=s.toks) (fun b o hb e=>eb b o hb e) f0 f1 f3 f4 f5
  rw [List.take_of_length_le (by omega)] at I'
  exact wpAny_bind (wpAny_pure (wpAny_pure (fin _ I')))
 | succ n ih =>
  intro i s hi I hf st
  refine codeAny_builtin jE ?_
  rw [Around.under_plainId dN _]
  have sm:=aq.upd hp (.dK (bC [] (kvs.take i)))
  obtain ⟨its,rv,pl,hz⟩:=I.list (sm.seq hl)
  have hll:=rv.length
  rw [List.length_map] at hll
  obtain ⟨t,ht⟩:∃t,ps[i]?=some t:=⟨ps[i]'(by omega),List.getElem?_eq_getElem (by omega)⟩
  obtain ⟨⟨k,v⟩,hk⟩:∃kv,kvs[i]?=some kv:=⟨kvs[i]'(by omega),List.getElem?_eq_getElem (by omega)⟩
  obtain ⟨u,hu1,hu2⟩:=rv.get (x:=.ref t) (i:=i) (by rw [List.getElem?_map,ht];rfl)
  cases hu2
  obtain ⟨f0,f1,f2,f3,f4,f5⟩:=hf
  unfold Builtin.«dict.update.loop»
  refine wpAny_bind (wpAny_pyNext_list_item st pl.isList (x:=.ref t) (by simpa using hu1) fun h' st' sb=>?_)
  have I1:Inv X pins σ (upd H0 p (.dK (bC [] (kvs.take i)))) { s with heap:=h' }:=I.turned (t':=s.toks) (fun b o hb e=>(sb.2 b hb).trans e) f0 f1 f3 f4 f5
  obtain ⟨jts,rj,pt,_⟩:=I1.tuple (sm.tup (hps i t k v ht hk))
  obtain ⟨u1,u2,e12,r1,r2⟩:∃u1 u2,jts=[u1,u2]/\RelV (kV k) u1/\RelV v u2:=by
   cases rj with
   | cons r1 q=>cases q with
    | cons r2 q=>cases q;exact ⟨_,_,rfl,r1,r2⟩
  subst e12
  refine wpAny_bind (wpAny_holding (wpAny_bind (wpAny_tryCatch (pair_items pt ?_))))
  show wpAny _ _ (holding [u1,u2] (dictSet p u1 u2)) _ _ _
  refine wpAny_holding ?_
  obtain ⟨z,hd,vs,rel,dd⟩:=Ap I1.hok (aw (H:=H0) (a:=p) (o:=.dK (bC [] (kvs.take i))))
  have hz':vs.length <= sizeLine:=by rw [<- rel.length];exact z
  have hlk:(bC [] (kvs.take i)).length <= 1000:=by
   have:=kQ (kvs.take i) []
   rw [List.length_take,List.length_nil] at this
   omega
  have hlp:(putK (bC [] (kvs.take i)) k v).length <= sizeLine:=by
   have h1:=gC (bC [] (kvs.take i)) k v
   have h2:=aQ hlk
   omega
  refine wpAny_dictSet_pairs (hsz:=hz') (rb r1) dd fun h2 dd' hs=>?_
  have he:∃q,h2.get? p=some q:=let ⟨q,_,_,hq,_⟩:=dd';⟨q,hq⟩
  have I2:=oy (t':=s.toks + 1) (ob:=.dK (putK (bC [] (kvs.take i)) k v)) I1 (by rw [aw];exact True.intro) hs he (AB hlp hd (rel.put k r2) dd')
  rw [AW,<- vH kvs i hk] at I2
  have hne:it ≠ p:=fun z=>by rw [z,aw] at f0;cases f0
  have f0':upd H0 p (.dK (bC [] (kvs.take (i + 1)))) it=none:=by
   rw [aI hne] at f0 ⊢
   exact f0
  refine wpAny_pure ⟨plainId_quiet dN _,?_⟩
  have ec:((i:Int) + 1)=((i + 1:Nat):Int):=by push_cast;rfl
  rw [ec]
  exact ih (i + 1) _ (by omega) I2 ⟨f0',f1,f2,f3,f4,f5⟩ (st'.at fun o e=>(hs.2 it hne).trans e)
theorem lZ (hc:X.calm=true:=by rfl):dg X (.type "dict") (fun xs H Q=>∃(l:Addr) (ps:List Addr) (kvs:List (Key × V)),xs=[.ref l]/\SqL X.K H l (ps.map V.ref)/\ps.length=kvs.length/\kvs.length <= 1000 /\
  (∀(i:Nat) t k v,ps[i]?=some t->kvs[i]?=some (k,v)->SqT X.K H t [kV k,v])/\∀p,H p=none->Q (.ref p) (upd H p (.dK (bC [] kvs)))):=by
 intro pins s σ H xs us Q I r h
 obtain ⟨l,ps,kvs,rfl,hl,hlen,hn,hps,q⟩:=h
 obtain ⟨u,rfl,rfl⟩:=vals1 r
 have hA:=I.ok.hd hc
 have hp:=I.hok.fresh (Nat.le_refl s.heap.objs.size)
 have I1:=I.laid (a:=s.heap.objs.size) (o:=.dK []) (t':=s.toks) (h':=s.heap.push { cls:=.type "dict",data:=.dict #[] }) (fun _ _ q=>Heap.get?_push_of_some _ q) (Nat.le_refl _) (ug s.heap I.big)
 refine callType_codes (Q₁:=fun obj s₁=>obj=.ref s.heap.objs.size/\s₁={ s with heap:=s.heap.push { cls:=.type "dict",data:=.dict #[] } }) F.kt_called_dict (F.kt_typeCall_dict_1 _) F.entry_dict_init (kt_code_dict_new _ ⟨rfl,rfl⟩) ?_
 rintro obj s₁ ⟨rfl,rfl⟩
 have hnew:(s.heap.push { cls:=.type "dict",data:=.dict #[] }).DictOf (bN X.prog X.w) s.heap.objs.size []:=Heap.DictOf.new s.heap
 have sm:=aq.upd hp (.dK [])
 obtain ⟨its,rv,pl,hz⟩:=I1.list (sm.seq hl)
 obtain ⟨o,n,ho,hoc,hod,hos⟩:=id pl
 refine ⟨hnew.typeIs,F.args_dict_init_2 _ _,?_⟩
 unfold Builtin.«dict.__init__»
 refine wpAny_bind ?_
 unfold Builtin.Dict.selfAndRest
 refine wpAny_bind (wpAny_notOrdered_dict hnew.typeIs ?_)
 show wpAny _ _ (pure (s.heap.objs.size,[Value.ref l])) _ _ _
 refine wpAny_pure ?_
 show wpAny _ _ (Builtin.Dict.updateFrom "dict.__init__" s.heap.objs.size (.ref l) [] .none) _ _ _
 unfold Builtin.Dict.updateFrom
 refine wpAny_bind (wpAny_typeOf ⟨o,ho,hoc⟩ ?_)
 rw [if_pos (by decide)]
 refine wpAny_bind (tV ho hoc hos hod hA fun h2 tk2 k2=>?_)
 have I2:Inv X pins σ (upd H s.heap.objs.size (.dK [])) { s with heap:=h2,toks:=tk2 }:=I1.kept (t':=tk2) k2
 rw [if_pos (show (none:Option Value).isNone=true from rfl)]
 obtain ⟨its2,rv2,pl2,_⟩:=I2.list (sm.seq hl)
 refine wpAny_bind (wpAny_rule (wpAny_bind (wpAny_pyIter_list pl2.isList ?_)))
 refine wpAny_pure ⟨plainId_quiet dN _,?_⟩
 have I3:=I2.kept (h':=h2.push { cls:=.type "list_iterator",data:=.fields #[.ref l,.int 0 0] }) (t':=tk2) fun b o e=>Heap.get?_push_of_some _ e
 have fp:=I2.qC (H':=upd H s.heap.objs.size (.dK [])) (Nat.le_refl _) (I2.hok.fresh (Nat.le_refl _))
 refine zS (X:=X) (H0:=H) (A:=X.A.in1) (p:=s.heap.objs.size) (kvs:=kvs) hc hA hl hlen hn hps hp (fun s' I'=>?_) ps.length 0 _ rfl I3 fp ⟨_,Heap.get?_push_size _ rfl,rfl,rfl⟩
 exact ⟨rfl,.ref s.heap.objs.size,_,I',rfl,q _ hp⟩
end
end L2
namespace L2
open PySem PySem.Spec PyProof.Rows
section
variable {X:Cx}{pins:List (Addr × Obj)}{σ:St}{H:Hp}{s:Shared}
theorem Inv.oP {h':Heap}{t':Nat}{ch:List Addr} (I:Inv X pins σ H s) (hf:∀b ∈ ch,pX X pins H b) (k:∀b o,b ∉ ch->s.heap.get? b=some o->h'.get? b=some o):Inv X pins σ H { s with heap:=h',toks:=t' }:=by
 have nit:∀b u,H b=some u->b ∉ ch:=fun b u e z=>by rw [(hf b z).1] at e;cases e
 refine I.step (g':=s.gens) (d':=s.drawn) (ch:=ch) (fun b hb=>⟨(hf b hb).2.2.2.1,(hf b hb).2.1,(hf b hb).2.2.2.2.1,(hf b hb).2.2.2.2.2⟩) (fun b o _ _ hc e _=>k b o hc e) (fun b o _ _ hc e _=>⟨o.slots,k b o hc e⟩) (fun _ _ _ _ n=>n)
  (fun b o hc e=>⟨o,k b o hc e⟩) (fun _ _ e=>e) (fun _ _ _ e=>e) (fun b ps e=>⟨#[],by rw [e];simp⟩) (fun m hm=>?_) (fun b u e=>?_) I.bare
 ·obtain ⟨o,es,ep,ho,r⟩:=hm
  exact ⟨o,es,ep,k _ o (fun z=>(hf _ z).2.1 rfl) ho,r⟩
 ·refine (I.hok b u e).qx (fun c v hc q=>k c v ?_ q) (fun _ q=>q) fun _ _ q=>q
  rcases hc with rfl | hc
  ·exact nit _ _ e
  ·exact nit _ _ hc
theorem Inv.B6 {T:Addr}{u:HO} (I:Inv X pins σ H s) (hf:pX X pins H T) (hz:X.s₀.heap.objs.size <= T) (new:cn X.prog X.w (upd H T u) s.heap T u):Inv X pins σ (upd H T u) s:=by
 obtain ⟨f0,f1,f2,f3,f4,f5⟩:=hf
 have ne0:∀b o,X.s₀.heap.get? b=some o->b ≠ T:=fun b o e=>Nat.ne_of_lt (Nat.lt_of_lt_of_le (Heap.lt_size e) hz)
 have neS:∀b v,H b=some v->b ≠ T:=fun b v e z=>by rw [z,f0] at e;cases e
 refine ⟨I.ok,I.os,I.bare,⟨I.base.keep,I.base.slot,fun b o e n hx=>by rw [aI (ne0 b o e)];exact I.base.free b o e n hx,I.base.there,fun b xs e=>by
   have:=I.base.qw b xs e
   rw [aI (neS b _ this)];exact this,fun b o v e=>by
   have:=I.base.nU b o v e
   rw [aI (neS b _ this)];exact this,fun b ps e=>by
   obtain ⟨more,q⟩:=I.base.qt b ps e
   exact ⟨more,by rw [aI (neS b _ q)];exact q⟩⟩,I.loc,I.cell,by rw [aI (Ne.symm f1)];exact I.free,fun x c e=>by rw [aI (f4 x c e)];exact I.iA x c e,
  fun p hp=>by rw [aI (f5 p hp)];exact I.pin p hp,fun b v e=>?_,I.len⟩
 by_cases hb:b=T
 ·subst hb;rw [aw] at e;cases e;exact new
 ·rw [aI hb] at e
  exact (I.hok b v e).qx (fun _ _ _ q=>q) (fun c q=>by rw [aI (neS c _ q)];exact q) fun c xs q=>by rw [aI (neS c _ q)];exact q
theorem Inv.FX {a:Addr}{o:Obj}{u:HO} (I:Inv X pins σ H s) (e:H a=some (.frz o u)) (hn:∀o u,X.H₀ a ≠ some (.frz o u)):Inv X pins σ (upd H a u) s:=by
 have nn:∀b,H b=none->b ≠ a:=fun b q z=>by rw [z,e] at q;cases q
 have nt:∀b xs,H b=some (.tup xs)->b ≠ a:=fun b xs q z=>by rw [z,e] at q;cases q
 have nw:∀b x,H b=some (.own x)->b ≠ a:=fun b x q z=>by rw [z,e] at q;cases q
 have nb:∀b ps,H b=some (.tbl ps)->b ≠ a:=fun b x q z=>by rw [z,e] at q;cases q
 refine ⟨I.ok,I.os,I.bare,⟨I.base.keep,I.base.slot,fun b o q n hx=>by
   have:=I.base.free b o q n hx
   rw [aI (nn b this)];exact this,I.base.there,fun b xs q=>by
   have:=I.base.qw b xs q
   rw [aI (nt b xs this)];exact this,fun b o v q=>by
   have hb:b ≠ a:=fun z=>hn o v (by rw [<- z];exact q)
   rw [aI hb];exact I.base.nU b o v q,fun b ps q=>by
   obtain ⟨more,r⟩:=I.base.qt b ps q
   exact ⟨more,by rw [aI (nb b _ r)];exact r⟩⟩,I.loc,I.cell,by rw [aI (nn _ I.free)];exact I.free,fun x c q=>by rw [aI (nn _ (I.iA x c q))];exact I.iA x c q,
  fun p hp=>by rw [aI (nn _ (I.pin p hp).2.1)];exact I.pin p hp,fun b v q=>?_,I.len⟩
 by_cases hb:b=a
 ·subst hb
  rw [aw] at q;cases q
  exact (I.hok b _ e).2.qx (fun _ _ _ q=>q) (fun c q=>by rw [aI (nw c _ q)];exact q) fun c xs q=>by rw [aI (nt c _ q)];exact q
 ·rw [aI hb] at q
  exact (I.hok b v q).qx (fun _ _ _ q=>q) (fun c q=>by rw [aI (nw c _ q)];exact q) fun c xs q=>by rw [aI (nt c _ q)];exact q
theorem Inv.freeze {a:Addr}{o:Obj}{u:HO} (I:Inv X pins σ H s) (e:H a=some u) (mu:Mut (H a)) (ho:s.heap.get? a=some o):Inv X pins σ (upd H a (.frz o u)) s:=by
 have hk:=I.hok a u e
 have:=oy (a:=a) (h':=s.heap) (t':=s.toks) (ob:=.frz o u) I mu ⟨rfl,fun _ _=>rfl⟩ ⟨o,ho⟩ ⟨ho,?_⟩
 ·exact this
 ·have nw:∀b x,H b=some (.own x)->b ≠ a:=fun b x q z=>by rw [z] at q;rw [q] at mu;exact mu
  have nt:∀b xs,H b=some (.tup xs)->b ≠ a:=fun b xs q z=>by rw [z] at q;rw [q] at mu;exact mu
  exact hk.qx (fun _ _ _ q=>q) (fun c q=>by rw [aI (nw c _ q)];exact q) fun c xs q=>by rw [aI (nt c _ q)];exact q
end
def Itd (d:Addr) (o:Obj) (kvs:List (Key × V)):It :=
 ⟨fun i H=>H d=some (.frz o (.dK kvs))/\i < kvs.length,fun i H x H'=>H'=H/\∃k v,kvs[i]?=some (k,v)/\x=kV k,fun i H=>H d=some (.frz o (.dK kvs))/\kvs.length <= i⟩
theorem B8 {P:Program}{w:World}{k:Key}{u:Value} (h:(bN P w).is k u=true):RelV (kV k) u:=by
 cases k with
 | inl i=>obtain ⟨t,e⟩:=Value.isInt_shape (show Value.isInt i u=true from h);exact ⟨t,e⟩
 | inr x=>obtain ⟨t,e⟩:=Value.isStrOf_shape (show Value.isStrOf x u=true from h);exact ⟨t,e⟩
theorem yF {P:Program}{w:World}{H:Hp}{h:Heap}{d:Addr}{o:Obj}{kvs:List (Key × V)}{vs:List (Key × Value)}{ep:Nat} (dd:h.DictAt (bN P w) d vs ep) (ho:h.get? d=some o) {h':Heap} (ho':h'.get? d=some o):h'.DictAt (bN P w) d vs ep:=by
 obtain ⟨o2,es,e,r⟩:=dd
 rw [ho] at e;cases e
 exact ⟨o,es,ho',r⟩
section
variable {X:Cx}
theorem yK {P:Program}{w:World}{K:W.Frag}{tg:Expr} (d it:Addr) (o:Obj) (kvs:List (Key × V)) (vs:List (Key × Value)) (ep:Nat) (rel:KV kvs vs) (hat:∀h:Heap,h.get? d=some o->h.DictAt (bN P w) d vs ep) :
  Turn P w K tg (Itd d o kvs) [it] it (fun i h=>h.IsKeyIter it d i vs.length ep) where
 mem:=by simp
 obj:=fun i h st b hb=>by
  have e:b=it:=by simpa using hb
  subst e
  obtain ⟨o,e,c,d⟩:=st
  exact ⟨o,e,fun v z=>by rw [d] at z;cases z⟩
 keep:=fun i h h' st k=>by
  obtain ⟨o,e,r⟩:=st
  exact ⟨o,k it (by simp) o e,r⟩
 item:=by
  intro X hP hw hK hc i pins s σ H E I hf st hg
  subst hP hw hK
  obtain ⟨e,hlt⟩:=hg
  have hd:=(show cn X.prog X.w H s.heap d (.frz o (.dK kvs)) from I.hok d _ e).1
  have hl:=rel.length
  obtain ⟨f0,f1,f2,f3,f4,f5⟩:=hf it (by simp)
  obtain ⟨⟨k,v⟩,hx⟩:∃kv,vs[i]?=some kv:=⟨vs[i]'(by omega),List.getElem?_eq_getElem (by omega)⟩
  obtain ⟨⟨k',v'⟩,hx'⟩:∃kv,kvs[i]?=some kv:=⟨kvs[i]'(by omega),List.getElem?_eq_getElem (by omega)⟩
  have hkk:k'=k:=by
   have:=congrArg (fun l=>l[i]?) rel.keys
   simp only [List.getElem?_map,hx,hx'] at this
   simpa using this
  subst hkk
  refine wpAny_pyNext_dict_item st (hat _ hd) hx fun key h' hkey st' sb=>?_
  have I1:Inv X pins σ H { s with heap:=h' }:=I.turned (t':=s.toks) (fun b o hb e=>(sb.2 b hb).trans e) f0 f1 f3 f4 f5
  obtain ⟨oi,ei,ci,di⟩:=id st'
  exact ⟨key,rfl,u3 (s:={ s with heap:=h' }) ei ci di (by decide) ⟨kV k',H,I1,B8 hkey,⟨rfl,k',v',hx',rfl⟩,st',fun b hb=>(hf b hb).1⟩⟩
 done:=by
  intro X hP hw hK hc i pins s σ H E I hf st hg
  subst hP hw hK
  obtain ⟨e,hlt⟩:=hg
  have hd:=(show cn X.prog X.w H s.heap d (.frz o (.dK kvs)) from I.hok d _ e).1
  have hl:=rel.length
  obtain ⟨f0,f1,f2,f3,f4,f5⟩:=hf it (by simp)
  exact wpAny_pyNext_dict_end (I.ok.hd hc) st (hat _ hd) (by simp;omega) fun h' eb=>⟨rfl,I.turned (t':=s.toks) (fun b o hb e=>eb b o hb e) f0 f1 f3 f4 f5⟩
 self:=fun _ _ _ _ _ st h=>wpAny_pyIter_keyiter st h
end
end L2
namespace L2
open PySem PySem.Spec PyProof.Rows
theorem ib {α β:Type}{F:α->β->Prop}:∀{l₁:List α}{l₂:List β},l₁.length=l₂.length->(∀(i:Nat) a b,l₁[i]?=some a->l₂[i]?=some b->F a b)->Paired F l₁ l₂
 | [],[],_,_=>.nil
 | [],_ :: _,h,_=>by simp at h
 | _ :: _,[],h,_=>by simp at h
 | x :: xs,y :: ys,h,f=>.cons (f 0 x y rfl rfl) (ib (by simpa using h) fun i a b ha hb=>f (i + 1) a b (by simpa using ha) (by simpa using hb))
theorem yM {α β:Type}{F:α->β->Prop}{l₁:List α}{l₂:List β} (h:Paired F l₁ l₂):∀{i:Nat}{a:α}{b:β},l₁[i]?=some a->l₂[i]?=some b->F a b:=by
 induction h with
 | nil=>intro i a b h;simp at h
 | cons r t ih =>
  intro i a b ha hb
  cases i with
  | zero=>simp only [List.getElem?_cons_zero,Option.some.injEq] at ha hb;subst ha hb;exact r
  | succ j=>exact ih (by simpa using ha) (by simpa using hb)
section
variable {X:Cx}{tg:Expr}
def xA (X:Cx) (d:Addr):Prop:=∀o u,X.H₀ d ≠ some (.frz o u)
def Ef (X:Cx) (tl:TE):TI:=fun σ H R=>tl σ H fun x H1=>∃d kvs,x=.ref d/\H1 d=some (.dK kvs)/\∀o,xA X d->(kvs.map (·.1)).Nodup->R (Itd d o kvs) (upd H1 d (.frz o (.dK kvs)))
theorem BA {l:Expr}{tl:TE} (hl:PE X l tl):PI X tg l (Ef X tl):=by
 intro pins s σ H R I h
 refine thn (hl pins s σ H _ I h) fun v s1 ⟨x,H1,I1,r1,q1⟩=>?_
 obtain ⟨d,kvs,e,hd,q⟩:=q1
 subst e
 cases r1
 obtain ⟨z,hs,vs,rel,dd⟩:=Ap I1.hok hd
 obtain ⟨ep,dat⟩:=dd.dictAt
 obtain ⟨o,es,ho,r⟩:=id dat
 have hn:xA X d:=fun o u z=>by
  have:=I1.base.nU d o u z
  rw [hd] at this;cases this
 refine wpAny_pyIter_dict hs dat ?_
 have I2:=I1.freeze hd (by rw [hd];exact True.intro) ho
 have hfr:upd H1 d (.frz o (.dK kvs)) s1.heap.objs.size=none:=by
  rw [aI (Nat.ne_of_gt (Heap.lt_size ho))];exact I1.hok.fresh (Nat.le_refl _)
 refine ⟨s1.heap.objs.size,[s1.heap.objs.size],_,_,_,rfl,I2.kept (t':=s1.toks) fun b o e=>Heap.get?_push_of_some _ e,
  yK d _ o kvs vs ep rel (fun h' h2=>yF (H:=H1) (kvs:=kvs) dat ho h2),⟨_,Heap.get?_push_size _ rfl,rfl,rfl⟩,fun b hb=>?_,q o hn (by rw [rel.keys];exact dat.nodup)⟩
 have e:b=s1.heap.objs.size:=by simpa using hb
 subst e
 exact I1.qC (Nat.le_refl _) hfr
def B7 (X:Cx) (D:Ends):St->Hp->Prop:=fun σ H=>∃d o kvs,xA X d/\H d=some (.frz o (.dK kvs))/\D.nx σ (upd H d (.dK kvs))
def EM (X:Cx) (tl:TE) (g:TG) (tb:TS):TS:=fun D σ H=>tl σ H fun x H1=>∃d kvs,x=.ref d/\H1 d=some (.dK kvs)/\∀o,xA X d->(kvs.map (·.1)).Nodup->∃Pv:Nat->St->Hp->Prop,Pv 0 σ (upd H1 d (.frz o (.dK kvs))) /\
 (∀i σ H,i <= kvs.length->Pv i σ H->H d=some (.frz o (.dK kvs))) /\
 (∀i k v σ H,kvs[i]?=some (k,v)->Pv i σ H->g (kV k) σ H fun σ2 H2=>tb { D with nx:=Pv (i + 1),ct:=Pv (i + 1),bk:=B7 X D } σ2 H2)/\∀σ H,Pv kvs.length σ H->D.nx σ (upd H d (.dK kvs))
theorem BG {l:Expr}{body:List Stmt}{tl:TE}{g:TG}{tb:TS}{pos:Pos} (hp:PassesOwn (model X.prog X.w) X.A X.env X.xe) (hc:X.calm=true) (hl:PE X l tl) (mono:∀σ H (Q Q':V->Hp->Prop),(∀v H,Q v H->Q' v H)->tl σ H Q->tl σ H Q')
  (hg:PG X tg g) (hb:PSs X body tb) (hs:∀x,foldedSetIterable l X.env x=pure x:=by intro _;rfl):PS X (.For tg l body [] pos) (EM X tl g tb):=by
 intro pins s σ H D I h
 refine thn (cP hp hc (BA hl) hg hb hs pins s σ H { D with nx:=B7 X D } I ?_) fun f s1 q=>?_
 ·refine mono σ H _ _ (fun x H1 q=>?_) h
  obtain ⟨d,kvs,e,hd,q⟩:=q
  refine ⟨d,kvs,e,hd,fun o hn hnd=>?_⟩
  obtain ⟨Pv,h0,hk,st,fin⟩:=q o hn hnd
  refine ⟨fun i m σ H=>m=kvs.length - i/\i <= kvs.length/\Pv i σ H,⟨kvs.length,by simp,Nat.zero_le _,h0⟩,?_⟩
  rintro i m σ H ⟨rfl,hi,p⟩
  by_cases hlt:i < kvs.length
  ·refine .inr ⟨⟨hk i σ H hi p,hlt⟩,Pv (i + 1),fun σ' H' p'=>⟨kvs.length - (i + 1),by omega,rfl,hlt,p'⟩,fun x H' y=>?_⟩
   obtain ⟨e,k,v,hx,y⟩:=y
   subst e y
   exact st i k v σ _ hx p
  ·have e:i=kvs.length:=by omega
   subst e
   exact .inl ⟨⟨hk _ σ H hi p,Nat.le_refl _⟩,d,o,kvs,hn,hk _ σ H hi p,fin σ H p⟩
 ·cases f with
  | next =>
   obtain ⟨σ1,H1,I1,d,o,kvs,hn,e,q⟩:=q
   exact ⟨σ1,_,I1.FX e hn,q⟩
  | cont=>exact q
  | brk=>exact q
  | ret v=>exact q
theorem BE (hc:X.calm=true:=by rfl):dg X (.type "list") (fun xs H Q=>∃d kvs,xs=[.ref d]/\Rd H d (.dK kvs)/\∀l,H l=none->Q (.ref l) (upd H l (.lst (kvs.map fun kv=>kV kv.1)))):=by
 intro pins s σ H xs us Q I r h
 obtain ⟨d,kvs,rfl,e,q⟩:=h
 obtain ⟨u,rfl,rfl⟩:=vals1 r
 obtain ⟨z,hs,vs,rel,dd⟩:=mr I.hok e
 obtain ⟨ep,dat⟩:=dd.dictAt
 have hl:=rel.length
 refine W.kdl_call (W.kdl_dict (knd:=bN X.prog X.w) (kvs:=vs) (ep:=ep) hs) (I.ok.hd hc) dat (by omega) fun h' tk acc c hk hS hacc=>?_
 have hp:=I.hok.fresh (Nat.le_refl s.heap.objs.size)
 refine ⟨.ref s.heap.objs.size,_,I.laid (a:=s.heap.objs.size) (o:=.lst (kvs.map fun kv=>kV kv.1)) (t':=tk) hk (Nat.le_refl _) ⟨by rw [List.length_map];exact z,acc.toList,c,?_,by simpa using hS⟩,rfl,q _ hp⟩
 have hsz:acc.size=vs.length:=hacc.1
 refine ib (by simp [hsz,hl]) fun i x y hx hy=>?_
 rw [List.getElem?_map] at hx
 obtain ⟨k,v,hv,hk⟩:=hacc.2 i y (by rw [<- Array.getElem?_toList];exact hy)
 cases hkv:kvs[i]? with
 | none=>rw [hkv] at hx;cases hx
 | some kv =>
  rw [hkv] at hx
  have hx':kV kv.1=x:=Option.some.inj hx
  have:=congrArg (fun l=>l[i]?) rel.keys
  simp only [List.getElem?_map,hkv,hv] at this
  have hkk:kv.1=k:=by simpa using this
  rw [<- hx',hkk]
  exact B8 hk
end
section
variable {prog:Program}{w:World}{K:Type} [DecidableEq K] {knd:KeyKind prog w K}{A:Around}{E:Value->Shared->Prop}{s:Shared}
theorem qT {d:Addr}{Q:Unit->Shared->Prop} (hd:(d == sysModules)=false) (q:Q () s):wpAny (model prog w) A (Builtin.Dict.showsAll d) Q E s:=by
 unfold Builtin.Dict.showsAll
 rw [if_neg (by rw [hd];exact Bool.false_ne_true)]
 exact wpAny_pure q
theorem wQ {k:K}{v:Value}{es:List DictEntry}{lvs:List (K × Value)} (h:Pairs knd es lvs):valueAt lvs k=some v->∃j e,(es.findIdx? fun e=>knd.is k e.key)=some j/\es[j]?=some e/\e.val=v:=by
 induction h with
 | nil=>intro z;cases z
 | @cons e kv es lvs h1 h2 t ih =>
  intro z
  by_cases hk:kv.1=k
  ·subst hk
   have:valueAt (kv :: lvs) kv.1=some kv.2:=by simp [valueAt,List.find?_cons]
   rw [this] at z
   exact ⟨0,e,by rw [List.findIdx?_cons,if_pos h1],rfl,by rw [h2];exact Option.some.inj z⟩
  ·have:valueAt (kv :: lvs) k=valueAt lvs k:=by simp [valueAt,List.find?_cons,hk]
   rw [this] at z
   obtain ⟨j,f,hj,hf,hv⟩:=ih z
   have hn:¬ knd.is k e.key=true:=fun q=>hk (knd.inj _ _ _ h1 q)
   exact ⟨j + 1,f,by rw [List.findIdx?_cons,if_neg hn,hj];rfl,hf,hv⟩
theorem vJ {id:String}{a b:Addr}{kvs lvs:List (K × Value)}{Q:Bool->Shared->Prop} (hda:(a == sysModules)=false) (hdb:(b == sysModules)=false) (ha:s.heap.DictOf knd a kvs) (hb:s.heap.DictOf knd b lvs) (hl:kvs.length=lvs.length)
  (hv:∀(i:Nat) k v,kvs[i]?=some (k,v)->∃v',valueAt lvs k=some v'/\SeqAt.EqAt A s v v' true) (q:Q true s):wpAny (model prog w) A (Builtin.Dict.samePairs id a b) Q E s:=by
 obtain ⟨o,es,ep,ho,hx,hd,hk,hp,hn⟩:=ha
 obtain ⟨o2,es2,ep2,ho2,hx2,hd2,hk2,hp2,hn2⟩:=hb
 have hz:es.size=kvs.length:=by rw [<- hp.length];simp
 have hz2:es2.size=lvs.length:=by rw [<- hp2.length];simp
 unfold Builtin.Dict.samePairs
 refine wpAny_bind (qT hda ?_)
 refine wpAny_bind (qT hdb ?_)
 refine wpAny_bind (wpAny_dictEntries ho hd ?_)
 refine wpAny_bind (wpAny_dictEntries ho2 hd2 ?_)
 rw [if_neg (by simp;omega)]
 refine wpAny_bind (wpAny_dictEpoch ho hd ?_)
 refine wpAny_bind ?_
 rw [Std.Legacy.Range.forIn_eq_forIn_range']
 simp only [Std.Legacy.Range.size,Nat.sub_zero,Nat.add_sub_cancel,Nat.div_one]
 refine wpAny_forIn_list _ (fun rest b s'=>b=(none,())/\s'=s/\∀i ∈ rest,i < es.size) _ ?_ ?_ _ _ ⟨rfl,rfl,fun i hi=>?_⟩
 ·rintro i rest c s' ⟨rfl,rfl,hr⟩
  have hi:i < es.size:=hr i (by simp)
  refine wpAny_bind (wpAny_dictEntries ho hd ?_)
  rw [Array.getElem?_eq_getElem hi]
  obtain ⟨⟨k,v⟩,hkv⟩:∃kv,kvs[i]?=some kv:=⟨kvs[i]'(by omega),List.getElem?_eq_getElem (by omega)⟩
  obtain ⟨hkey,hval⟩:=hp.get? (e:=es[i]) (by simp [hi]) hkv
  obtain ⟨k',hk',hh⟩:=hk es[i] (Array.getElem_mem hi)
  obtain ⟨v',hv',he⟩:=hv i k v hkv
  have hkk:k'=k:=knd.inj _ _ _ hk' hkey
  subst hkk
  show wpAny _ _ (holding [es[i].key,es[i].val] _ >>= _) _ _ _
  refine wpAny_bind (wpAny_holding ?_)
  rw [hh,hval]
  refine wpAny_bind (wpAny_dictFind_of hkey ho2 hd2 hk2 ?_)
  obtain ⟨j,f,hj,hf,hfv⟩:=wQ hp2 hv'
  rw [<- List.findIdx?_toArray,Array.toArray_toList] at hj
  rw [Array.getElem?_toList] at hf
  rw [hj]
  refine wpAny_bind (wpAny_dictEntries ho2 hd2 ?_)
  rw [hf]
  show wpAny _ _ (holding [f.val] (eqBool v f.val)) _ _ _
  rw [hfv]
  refine wpAny_holding (he _ _ _ _ ?_)
  rw [if_neg (by decide)]
  refine wpAny_bind (wpAny_dictEpoch ho hd ?_)
  rw [if_neg (by simp)]
  exact wpAny_pure ⟨rfl,rfl,fun z hz=>hr z (List.mem_cons_of_mem _ hz)⟩
 ·rintro c s' ⟨rfl,rfl,_⟩
  exact wpAny_pure q
 ·have:=(List.mem_range'_1.mp hi).2
  omega
end
theorem rN {κ:Type} [DecidableEq κ]:∀{kvs:List (κ × V)}{i:Nat}{k:κ}{v:V},(kvs.map (·.1)).Nodup->kvs[i]?=some (k,v)->b8 kvs k=some v
 | [],i,k,v,_,h=>by simp at h
 | p :: r,0,k,v,_,h=>by
  simp only [List.getElem?_cons_zero,Option.some.injEq] at h
  subst h
  exact cF (p:=(k,v)) rfl
 | p :: r,i + 1,k,v,hn,h=>by
  rw [List.map_cons] at hn
  have hr:=List.nodup_cons.mp hn
  have hi:r[i]?=some (k,v):=by simpa using h
  have hne:¬ p.1=k:=fun z=>hr.1 (by rw [z];exact List.mem_map_of_mem (f:=(·.1)) (List.mem_of_getElem? hi))
  rw [cc hne]
  exact rN hr.2 hi
section
variable {X:Cx}
def zr (K:W.Frag) (H:Hp) (v v':V):Prop:=(v=v'/\qP v=true) \/ ∃p q xs,v=.ref p/\v'=.ref q/\SqL K H p xs/\SqL K H q xs/\xs.all qP=true
theorem Br {pins:List (Addr × Obj)}{σ:St}{H:Hp}{s:Shared}{A:Around}{v v':V}{u u':Value} (I:Inv X pins σ H s) (hu:A.units < cLine) (h:zr X.K H v v') (r:RelV v u) (r':RelV v' u'):SeqAt.EqAt A s u u' true:=by
 rcases h with ⟨rfl,hf⟩ | ⟨p,q,xs,rfl,rfl,hp,hq,hf⟩
 ·exact mO hf r r' A s
 ·cases r
  cases r'
  by_cases hpq:p=q
  ·subst hpq;exact .same _
  ·obtain ⟨its,r1,⟨o,n,e1,c1,_,d1⟩,_⟩:=I.list hp
   obtain ⟨jts,r2,⟨o2,n2,e2,c2,_,d2⟩,_⟩:=I.list hq
   have l1:=r1.length
   have l2:=r2.length
   have hR:=SeqAt.RcAt.lists (A:=A) (s:=s) (e:=fun _=>true) (l:=p) (b:=q) (items:=its.toArray) (items2:=jts.toArray) ⟨o,e1,c1,n,d1⟩ ⟨o2,e2,c2,n2,d2⟩ (by simp;omega) hu (fun j h1 h2=>by
    simp at h1 h2
    obtain ⟨x,hx⟩:∃x,xs[j]?=some x:=⟨xs[j]'(by omega),List.getElem?_eq_getElem (by omega)⟩
    obtain ⟨u1,g1,w1⟩:=r1.get hx
    obtain ⟨u2,g2,w2⟩:=r2.get hx
    have z1:its.toArray[j]'(by simpa using h1)=u1:=by
     have:=List.getElem?_eq_getElem h1
     rw [g1] at this
     simpa using (Option.some.inj this).symm
    have z2:jts.toArray[j]'(by simpa using h2)=u2:=by
     have:=List.getElem?_eq_getElem h2
     rw [g2] at this
     simpa using (Option.some.inj this).symm
    rw [z1,z2]
    exact mO (List.all_eq_true.mp hf x (List.mem_of_getElem? hx)) w1 w2 _ _)
   have:((List.range its.toArray.size).all fun _=>true)=true:=by simp
   rw [this] at hR
   exact .of_refs hpq hR
theorem Ee (hu:X.A.units + 64 < cLine):OpR X (compareOp .Eq) (fun x y H Q=>∃a b kvs lvs,x=.ref a/\y=.ref b/\Rd H a (.dK kvs)/\Rd H b (.dK lvs)/\kvs.length=lvs.length /\
  (∀k v,b8 kvs k=some v->∃v',b8 lvs k=some v'/\zr X.K H v v')/\Q (.bl true) H):=by
 intro pins s σ H x y v u Q I rx ry h
 obtain ⟨a,b,kvs,lvs,rfl,rfl,ha,hb,hl,hv,q⟩:=h
 cases rx
 cases ry
 obtain ⟨z,hs,vs,rel,dd⟩:=mr I.hok ha
 obtain ⟨z2,hs2,vs2,rel2,dd2⟩:=mr I.hok hb
 have e1:=rel.length
 have e2:=rel2.length
 refine wpAny_richCompare_same_room (op:=.Eq) dd.typeIs dd2.typeIs PySem.F.slot_dict_eq (wpAny_call_entry PySem.F.slot_dict_eq dd.typeIs PySem.F.entry_dict_eq ?_ (PySem.F.args_dict_eq_2 _ _)) (by omega)
 show wpAny _ _ (Builtin.Dict.dictSlotArgs "__eq__" ⟨[.ref a,.ref b],[]⟩ >>= _) _ _ _
 refine wpAny_bind ?_
 unfold Builtin.Dict.dictSlotArgs
 refine wpAny_bind (wpAny_notOrdered_dict dd.typeIs ?_)
 show wpAny _ _ (pure (Value.ref a,Value.ref b)) _ _ _
 refine wpAny_pure ?_
 refine wpAny_bind (wpAny_isInstance (T:="dict") (b:=true) dd2.typeIs (by rw [isSubtype_type];kernel_rfl) ?_)
 show wpAny _ _ (Builtin.Dict.samePairs "dict.__eq__" a b >>= _) _ _ _
 refine wpAny_bind (vJ hs hs2 dd dd2 (by omega) (fun i k v hi=>?_) ?_)
 ·obtain ⟨⟨k',v'⟩,hkv⟩:∃kv,kvs[i]?=some kv:=⟨kvs[i]'(by have:=(List.getElem?_eq_some_iff.mp hi).1;omega),List.getElem?_eq_getElem _⟩
  have hr:k'=k/\RelV v' v:=yM rel hkv hi
  obtain ⟨rfl,hrv⟩:=hr
  obtain ⟨w',hw,hq⟩:=hv k' v' (rN (by rw [rel.keys];exact (dd.dictAt.choose_spec).nodup) hkv)
  have hval:=rel2.val k'
  rw [hw] at hval
  cases hvv:valueAt vs2 k' with
  | none=>rw [hvv] at hval;exact (show False from hval).elim
  | some u' =>
   rw [hvv] at hval
   exact ⟨u',rfl,Br I (show X.A.units + 1 < cLine by omega) hq hrv hval⟩
 ·show wpAny _ _ (ret (.bool true)) _ _ _
  exact wpAny_pure ⟨.bool true,rfl,(fun z=>nomatch z),.bl true,H,I,rfl,q⟩
end
end L2
namespace L2
open PySem PySem.Spec PyProof.Rows
section
variable {X:Cx}
structure SplitOk (z y:Str) (ws:List Str):Prop where
 h1:(decide (z.length < y.length) || decide (Builtin.Str.strKind z < Builtin.Str.strKind y))=false
 hy:(y.length == 0)=false
 hf:(Builtin.Str.occurrences z y 0 z.length (z.length + 1)).isEmpty=false
 hx:z.length <= sizeLine
 hn:ws.length <= sizeLine
 e:Builtin.Str.partsBetween z (Builtin.Str.occurrences z y 0 z.length (z.length + 1)) y.length=ws
def E5 (z:Str) (n:Int):Str:=if n < 1 then Str.empty else if (n == 1 || z.length == 0)=true then z else ⟨(List.replicate n.toNat z.cps).foldl (· ++ ·) #[]⟩
def B9:R2:=fun x y H Q=>match x,y with
 | .int i,.int j=>xZ i j/\Q (.int (i * j)) H
 | .str z,.int n=>n < 1000/\-1000 < n/\z.length <= 1000/\Q (.str (E5 z n)) H
 | .ref p,.int k=>∃xs,H p=some (.lst xs)/\-(2 ^ 63) <= k/\k < 2 ^ 63/\xs.length * k.toNat <= sizeLine/\∀l,H l=none->Q (.ref l) (upd H l (.lst (List.replicate k.toNat xs).flatten))
 | _,_=>False
theorem yq (xs:List (Array Nat)):∀acc:Array Nat,(xs.foldl (· ++ ·) acc).size=acc.size + (xs.map (·.size)).sum:=by
 induction xs with
 | nil=>intro acc;simp
 | cons x r ih=>intro acc;rw [List.foldl_cons,ih,Array.size_append,List.map_cons,List.sum_cons];omega
theorem yU (z:Str) (n:Nat):(⟨(List.replicate n z.cps).foldl (· ++ ·) #[]⟩:Str).length=n * z.length:=by
 show ((List.replicate n z.cps).foldl (· ++ ·) #[]).size=_
 rw [yq,List.map_replicate]
 have:∀m k:Nat,(List.replicate m k).sum=m * k:=fun m k=>by
  induction m with
  | zero=>simp
  | succ m ih=>rw [List.replicate_succ,List.sum_cons,ih,Nat.succ_mul];omega
 rw [this]
 simp [Str.length]
theorem nA:OpR X (binaryOp .Mult) B9:=by
 intro pins s σ H x y v u Q I rx ry h
 cases x with
 | int i =>
  cases y with
  | int j=>exact Ej pins s σ H _ _ v u Q I rx ry h
  | _=>exact (show False from h).elim
 | str z =>
  cases y with
  | int n =>
   obtain ⟨h1,h2,h3,q⟩:=h
   obtain ⟨t,rfl⟩:=rx
   obtain ⟨t2,rfl⟩:=ry
   have hb:¬ n < 1->n.toNat * z.length <= 1000000:=fun hn=>by
    have e1:n.toNat <= 1000:=by omega
    exact Nat.le_trans (Nat.mul_le_mul e1 h3) (by decide)
   refine P.mul_str (by rw [decide_eq_false (by omega),decide_eq_false (by omega)];rfl) (fun hn _=>?_) (fun hn _=>?_) ?_
   ·intro z1
    have h0:(0:Int) < n:=by omega
    have:=Int.lt_mul_of_ediv_lt h0 z1
    have e2:((z.length:Int)) * n <= 1000 * 1000:=Int.mul_le_mul (by omega) (by omega) (by omega) (by decide)
    omega
   ·unfold Builtin.Str.tooLong
    have:=hb hn
    rw [Nat.mul_comm] at this
    refine decide_eq_false ?_
    rw [sizeLine_eq]
    omega
   ·unfold E5 at q
    by_cases c1:n < 1
    ·rw [if_pos c1] at q ⊢
     exact ⟨by decide,.str _,H,I.tok _,⟨_,rfl⟩,q⟩
    ·rw [if_neg c1] at q ⊢
     by_cases c2:(n == 1 || z.length == 0)=true
     ·rw [if_pos c2] at q ⊢
      exact ⟨.str _,H,I,⟨_,rfl⟩,q⟩
     ·rw [if_neg c2] at q ⊢
      refine ⟨?_,.str _,H,I.tok _,⟨_,rfl⟩,q⟩
      rw [yU]
      have:=hb c1
      rw [sizeLine_eq]
      omega
  | _=>exact (show False from h).elim
 | ref p =>
  cases y with
  | int k =>
   obtain ⟨xs,h1,h2,h3,h4,q⟩:=h
   exact Dv pins s σ H _ _ v u Q I rx ry ⟨p,k,xs,rfl,rfl,h1,h2,h3,h4,q⟩
  | _=>exact (show False from h).elim
 | _=>cases y <;> exact (show False from h).elim
end
end L2
namespace L2
open PySem PySem.Spec PyProof.Rows
section
variable {X:Cx}
def Ck (K:W.Frag) (H:Hp) (a b:Addr):Prop:=∃kvs lvs,Rd H a (.dK kvs)/\Rd H b (.dK lvs)/\kvs.length=lvs.length/\∀k v,b8 kvs k=some v->∃v',b8 lvs k=some v'/\zr K H v v'
def Ft (K:W.Frag):R2:=fun x y H Q=>match x,y with
 | .ref p,.ref q=>((∃d e,iK K H (.ref p) d/\iK K H (.ref q) e/\SeqAt.shaped d=true/\SeqAt.shaped e=true/\Q (.bl (PyData.eqv d e)) H) \/ (∃xs,SqL K H p xs/\SqL K H q xs/\xs.all qP=true/\Q (.bl true) H)) \/ (Ck K H p q/\Q (.bl true) H)
 | x,y=>yD x y=true/\Q (.bl (decide (x=y))) H
theorem mw (hu:X.A.units + 64 < cLine):OpR X (compareOp .Eq) (Ft X.K):=((D5 hu).or (Ee hu)).imp fun x y H Q q=>by
 by_cases hr:∃p q,x=V.ref p/\y=V.ref q
 ·obtain ⟨p,q',rfl,rfl⟩:=hr
  rcases q with q | ⟨⟨kvs,lvs,h1,h2,h3,h4⟩,h5⟩
  ·exact .inl q
  ·exact .inr ⟨p,q',kvs,lvs,rfl,rfl,h1,h2,h3,h4,h5⟩
 ·refine .inl ?_
  cases x <;> cases y <;> first | exact q | exact absurd ⟨_,_,rfl,rfl⟩ hr
inductive AR (xs:List V) (H:Hp) (Q:VK):Prop
 | mk (a:Addr) (kvs:List (Key × V)) (h0:xs=[.ref a]) (h1:Rd H a (.dK kvs)) (q:Q (.int (kvs.length:Nat)) H):AR xs H Q
theorem iP:dg X (.builtin "len") (fun xs H Q=>x3 X.K xs H Q \/ AR xs H Q):=EX.or fun pins s σ H xs us Q I r ⟨a,kvs,h0,h1,q⟩=>CL pins s σ H xs us Q I r ⟨a,kvs,h0,h1,q⟩
theorem Bd (hc:X.calm=true:=by rfl):dg X (.type "list") (fun xs H Q=>(∃p ys,xs=[.ref p]/\(SqL X.K H p ys \/ SqT X.K H p ys)/\∀l,H l=none->Q (.ref l) (upd H l (.lst ys))) \/ ∃d kvs,xs=[.ref d]/\Rd H d (.dK kvs)/\∀l,H l=none->Q (.ref l) (upd H l (.lst (kvs.map fun kv=>kV kv.1)))):=gW.or (BE hc)
end
end L2
namespace L2
open PySem PySem.Spec PyProof.Rows
section
variable {X:Cx}{pins:List (Addr × Obj)}{σ:St}{H:Hp}{s:Shared}
def Itz (K:W.Frag) (a b:Addr):It :=
  ⟨fun i H=>∃xs ys x y,SqL K H a xs/\SqL K H b ys/\xs[i]?=some x/\ys[i]?=some y,
   fun i H v H'=>∃T x y,v=.ref T/\H T=none/\H'=upd H T (.tup [x,y])/\∀xs ys,SqL K H a xs->SqL K H b ys->xs[i]?=some x/\ys[i]?=some y,
   fun i H=>∃xs ys,SqL K H a xs/\SqL K H b ys/\(xs.length <= i \/ ys.length <= i)⟩
def D0 (z TI TO i1 i2 a b:Addr) (i:Nat) (h:Heap):Prop:=IsZip h z TI TO .none/\IsPair h TI (.ref i1) (.ref i2)/\(∃u v,IsPair h TO u v)/\h.IsListIter i1 a i/\h.IsListIter i2 b i
theorem AN {P:Program}{w:World}{K:W.Frag}{elts:List Expr}{x1}{pos:Pos}{a b z TI TO i1 i2:Addr} (D:ZipApart z TI TO i1 i2 a b) :
  Turn P w K (.Tuple elts x1 pos) (Itz K a b) [z,TI,TO,i1,i2] z (D0 z TI TO i1 i2 a b) where
 mem:=by simp
 obj:=fun i h st c hc=>by
  obtain ⟨hz,hI,⟨u,v,hO⟩,⟨o1,e1,_,d1⟩,⟨o2,e2,_,d2⟩⟩:=st
  simp only [List.mem_cons,List.not_mem_nil,or_false] at hc
  rcases hc with rfl | rfl | rfl | rfl | rfl
  ·exact ⟨_,hz,fun v q=>by cases (show Data.fields _=Data.cell v from q)⟩
  ·exact ⟨_,hI,fun v q=>by cases (show Data.seq _ _=Data.cell v from q)⟩
  ·exact ⟨_,hO,fun v q=>by cases (show Data.seq _ _=Data.cell v from q)⟩
  ·exact ⟨o1,e1,fun v q=>by rw [d1] at q;cases q⟩
  ·exact ⟨o2,e2,fun v q=>by rw [d2] at q;cases q⟩
 keep:=fun i h h' st k=>by
  obtain ⟨hz,hI,⟨u,v,hO⟩,h1,h2⟩:=st
  exact ⟨k z (by simp) _ hz,k TI (by simp) _ hI,⟨u,v,k TO (by simp) _ hO⟩,h1.at fun o e=>k i1 (by simp) o e,h2.at fun o e=>k i2 (by simp) o e⟩
 item:=by
  intro X hP hw hK hc i pins s σ H E I hf st hg
  subst hP hw hK
  obtain ⟨xs,ys,x,y,hq,hq',hx,hy⟩:=hg
  obtain ⟨its,rv,p,hz'⟩:=I.list hq
  obtain ⟨its',rv',p',hz''⟩:=I.list hq'
  obtain ⟨u,hu,ru⟩:=rv.get hx
  obtain ⟨v,hv,rv2⟩:=rv'.get hy
  obtain ⟨hz,hI,⟨u0,v0,hO⟩,h1,h2⟩:=st
  have hT:=I.qC (H':=H) (Nat.le_refl s.heap.objs.size) (I.hok.fresh (Nat.le_refl _))
  have lt:∀{c:Addr}{o:Obj},s.heap.get? c=some o->s.heap.objs.size ≠ c:=fun e=>Nat.ne_of_gt (Heap.lt_size e)
  refine wpAny_pyNext_zip_item D hz hI hO h1 h2 p.isList p'.isList (x:=u) (y:=v) (by simpa using hu) (by simpa using hv) fun h' a1 a2 a3 a4 a5 a6 a7=>?_
  have I1:Inv X pins σ H { s with heap:=h',toks:=s.toks }:=I.oP (ch:=[z,TI,TO,i1,i2]) hf fun c o hc q=>a7 c o (fun e=>hc (by simp [e])) (fun e=>hc (by simp [e])) (fun e=>hc (by simp [e])) (fun e=>hc (by simp [e])) q
  have I2:=I1.B6 (u:=.tup [x,y]) hT I.sz ⟨by show 2 <= sizeLine;decide,[u,v],.cons ru (.cons rv2 .nil),⟨_,a5,rfl,_,rfl⟩⟩
  refine ⟨_,rfl,wpAny_letOwnedTupleGo_zip (s:={ s with heap:=h' }) a1 fun h2' hz2 hs2=>?_⟩
  have f0:=hf z (by simp)
  have hI':h'.get? TI=_:=a7 TI _ D.TIz D.TITO D.TIi1 D.TIi2 hI
  have zT:z ≠ s.heap.objs.size:=Ne.symm (lt hz)
  refine ⟨.ref s.heap.objs.size,_,I2.turned (t':=s.toks) (it:=z) (fun c o hc q=>(hs2.2 c hc).trans q) (by rw [aI zT];exact f0.1) f0.2.1 f0.2.2.2.1 f0.2.2.2.2.1 f0.2.2.2.2.2,rfl,
   ⟨_,x,y,rfl,hT.1,rfl,fun xs' ys' q q'=>by rw [I.lQ q hq,I.lQ q' hq'];exact ⟨hx,hy⟩⟩,⟨hz2,(hs2.2 TI D.TIz).trans hI',⟨u,v,(hs2.2 TO D.TOz).trans a2⟩,a3.at fun o q=>(hs2.2 i1 D.i1z).trans q,a4.at fun o q=>(hs2.2 i2 D.i2z).trans q⟩,fun c hc=>?_⟩
  have cT:c ≠ s.heap.objs.size:=by
   simp only [List.mem_cons,List.not_mem_nil,or_false] at hc
   rcases hc with rfl | rfl | rfl | rfl | rfl
   ·exact zT
   ·exact Ne.symm (lt hI)
   ·exact Ne.symm (lt hO)
   ·obtain ⟨o,e,_⟩:=h1;exact Ne.symm (lt e)
   ·obtain ⟨o,e,_⟩:=h2;exact Ne.symm (lt e)
  rw [aI cT]
  exact (hf c hc).1
 done:=by
  intro X hP hw hK hc i pins s σ H E I hf st hg
  subst hP hw hK
  obtain ⟨xs,ys,hq,hq',hx⟩:=hg
  obtain ⟨its,rv,p,hz'⟩:=I.list hq
  obtain ⟨its',rv',p',hz''⟩:=I.list hq'
  obtain ⟨hz,hI,⟨u0,v0,hO⟩,h1,h2⟩:=st
  have hl:=rv.length
  have hl':=rv'.length
  refine wpAny_pyNext_zip_end (I.ok.hd hc) D hz hI hO h1 h2 p.isList p'.isList (by simp;omega) fun h' eb=>⟨rfl,?_⟩
  exact I.oP (ch:=[z,TI,TO,i1,i2]) hf fun c o hc q=>eb c o (fun e=>hc (by simp [e])) (fun e=>hc (by simp [e])) (fun e=>hc (by simp [e])) (fun e=>hc (by simp [e])) q
 self:=fun _ _ _ _ _ st h=>wpAny_pyIter_zip st.1 h
def FN (K:W.Frag) (ta:TA):TI:=fun σ H R=>ta σ H fun vs H1=>∃a b,vs=[.ref a,.ref b]/\(∃xs,SqL K H1 a xs)/\(∃ys,SqL K H1 b ys)/\R (Itz K a b) H1
theorem rf:bootBuiltins "zip"=some (.type "zip"):=by decide +kernel
theorem Dc {a b:Expr}{ta:TA}{p pos:Pos}{elts:List Expr}{x1}{pos2:Pos} (hg:Gl X "zip") (hm:X.mg "zip"=none) (ha:PA X [a,b] ta) (he:starEach [a,b] X.env=(false,eval a X.env) :: starEach [b] X.env:=by rfl)
  (hpl:(backTo pos (starEach [b] X.env)).any (·.1)=false:=by rfl):PI X (.Tuple elts x1 pos2) (.Call (.Name "zip" p) [a,b] [] pos) (FN X.K ta):=by
 intro pins s σ H R I h
 refine Call_ (jo I hg hm rf (PyProof.Rows.callWith_type1 (thn (ha pos pins s σ H _ I h) fun us s1 ⟨vs,H1,I1,r1,q1⟩=>?_) he hpl))
 obtain ⟨a,b,e,⟨xs,hq⟩,⟨ys,hq'⟩,q⟩:=q1
 subst e
 obtain ⟨u,v,rfl,ru,rv⟩:=vals2 r1
 cases ru
 cases rv
 obtain ⟨its,rv1,p1,hz1⟩:=I1.list hq
 obtain ⟨its',rv2,p2,hz2⟩:=I1.list hq'
 have lt:∀{c:Addr}{zs:Array Value},s1.heap.IsList c zs->c < s1.heap.objs.size:=fun h=>by obtain ⟨o,e,_⟩:=h;exact Heap.lt_size e
 refine call_zip_2 p1.isList p2.isList fun h' hz hI hO h1 h2 hsz hk=>?_
 refine wpAny_pyIter_zip hz ?_
 refine ⟨s1.heap.objs.size + 4,[s1.heap.objs.size + 4,s1.heap.objs.size + 2,s1.heap.objs.size + 3,s1.heap.objs.size,s1.heap.objs.size + 1],_,_,H1,rfl,I1.kept (t':=s1.toks) hk,AN (zipApart_new (lt p1.isList) (lt p2.isList)),⟨hz,hI,⟨_,_,hO⟩,h1,h2⟩,fun c hc=>?_,q⟩
 have le:s1.heap.objs.size <= c:=by
  simp only [List.mem_cons,List.not_mem_nil,or_false] at hc
  rcases hc with h | h | h | h | h
  ·rw [h];exact Nat.le_add_right _ _
  ·rw [h];exact Nat.le_add_right _ _
  ·rw [h];exact Nat.le_add_right _ _
  ·rw [h];exact Nat.le_refl _
  ·rw [h];exact Nat.le_add_right _ _
 exact I1.qC le (I1.hok.fresh le)
end
theorem Bt {K:PySem.W.Frag}{a b:Addr}{xs ys:List V}{g:TG}{tb:TS}{D:Ends}{σ:St}{H:Hp} (Pv:Nat->St->Hp->Prop) (h0:Pv 0 σ H) (hl:∀i σ H,i <= xs.length->Pv i σ H->SqL K H a xs/\SqL K H b ys) (hle:xs.length=ys.length)
  (hs:∀i x y σ H T,xs[i]?=some x->ys[i]?=some y->Pv i σ H->H T=none->g (.ref T) σ (upd H T (.tup [x,y])) fun σ2 H2=>tb { D with nx:=Pv (i + 1),ct:=Pv (i + 1),bk:=D.nx } σ2 H2) (hd:∀σ H,Pv xs.length σ H->D.nx σ H) :
  ∃W:Nat->Nat->St->Hp->Prop,(∃m,W 0 m σ H)/\∀i m σ H,W i m σ H ->
   ((Itz K a b).stop i H/\D.nx σ H) \/ ((Itz K a b).go i H/\∃N:St->Hp->Prop,(∀σ' H',N σ' H'->∃m',m' < m/\W (i + 1) m' σ' H')/\∀x H',(Itz K a b).yld i H x H'->g x σ H' fun σ2 H2=>tb { D with nx:=N,ct:=N,bk:=D.nx } σ2 H2):=by
 refine ⟨fun i m σ H=>m=xs.length - i/\i <= xs.length/\Pv i σ H,⟨xs.length,by simp,Nat.zero_le _,h0⟩,?_⟩
 rintro i m σ H ⟨rfl,hi,p⟩
 obtain ⟨q,q'⟩:=hl i σ H hi p
 by_cases hlt:i < xs.length
 ·have hlt':i < ys.length:=by omega
  refine .inr ⟨⟨xs,ys,xs[i],ys[i],q,q',by simp [hlt],by simp [hlt']⟩,Pv (i + 1),fun σ' H' p'=>⟨xs.length - (i + 1),by omega,rfl,hlt,p'⟩,fun v H' y=>?_⟩
  obtain ⟨T,x,y,rfl,hT,rfl,h⟩:=y
  obtain ⟨e1,e2⟩:=h xs ys q q'
  exact hs i x y σ _ T e1 e2 p hT
 ·have e:i=xs.length:=by omega
  subst e
  exact .inl ⟨⟨xs,ys,q,q',Or.inl (Nat.le_refl _)⟩,hd σ H p⟩
end L2
set_option maxHeartbeats 4000000
namespace L2
open PySem PySem.Spec PyProof.Rows
end L2
namespace L2
open PySem PySem.Spec PyProof.Rows
section
variable {X:Cx}
end
end L2
namespace L2
open PySem PySem.Spec PyProof.Rows
section
variable {X:Cx}
end
end L2
namespace L2
open PySem PySem.Spec PyProof.Rows
section
variable {X:Cx}
end
end L2
namespace L2
open PySem PySem.Spec PyProof.Rows
section
variable {X:Cx}
end
end L2
namespace L2
open PySem PySem.Spec PyProof.Rows
section
variable {X:Cx}
end
end L2
namespace L2
open PySem PySem.Spec PyProof.Rows
section
variable {X:Cx}
theorem Eo (hc:X.calm=true:=by rfl):dg X (.builtin "sum") (fun xs H Q=>∃(p:Addr) (ns:List Int),xs=[.ref p]/\SqL X.K H p (ns.map V.int)/\Q (.int ns.sum) H):=by
 intro pins s σ H xs us Q I r h
 obtain ⟨p,ns,rfl,hq,q⟩:=h
 obtain ⟨u,rfl,rx⟩:=vals1 r
 cases rx
 obtain ⟨its,rv,pl,hz⟩:=I.list hq
 have hl:=pl.isList
 have ia:=intsAre_of rv
 obtain ⟨xs,hx⟩:=ia.allInts.items
 have hn:xs.toList.map (·.1)=ns:=by
  rw [<- nums_intItems,<- hx]
  exact ia.numsOf
 rw [hx] at hl
 refine sum_intListG (I.ok.hd hc) hl fun h' tk t' hk=>⟨.int _,H,I.kept (t':=tk) hk,⟨_,rfl⟩,?_⟩
 rw [preSum_eq,List.take_of_length_le (by simp),hn]
 exact q
end
end L2
namespace L2
open PySem PySem.Spec PyProof.Rows
section
variable {X:Cx}
end
end L2
namespace L2
open PySem PySem.Spec PyProof.Rows
section
variable {X:Cx}
end
end L2
namespace L2
open PySem PySem.Spec PyProof.Rows
section
variable {X:Cx}{e:Expr}{te:TE}{es:List Expr}{t:Str->TE}{pos:Pos}
def PJ (X:Cx) (es:List Expr) (t:Str->TE):Prop :=
 ∀(acc:Str) (pins:List (Addr × Obj)) (s:Shared) (σ:St) (H:Hp) (Q:VK),Inv X pins σ H s->t acc σ H Q->wpAny (model X.prog X.w) X.A (joinParts acc (evalEach es X.env)) (EP X pins σ Q) X.xe s
theorem CH:PJ X [] (fun acc _ H Q=>acc.length <= sizeLine/\Q (.str acc) H):=fun acc pins s σ H Q I h=>by
 show wpAny _ _ (joinParts acc []) _ _ _
 exact joinParts_nil (Q:=EP X pins σ Q) ⟨.str acc,H,I.tok _,⟨_,rfl⟩,h.2⟩ h.1
theorem xJ (he:PE X e te) (ht:PJ X es t):PJ X (e :: es) (fun acc σ H Q=>te σ H fun v H'=>∃x,v=.str x/\(acc ++ x).length <= sizeLine/\t (acc ++ x) σ H' Q):=fun acc pins s σ H Q I h=>by
 show wpAny _ _ (joinParts acc (eval e X.env :: evalEach es X.env)) _ _ _
 refine joinParts_cons (thn (he pins s σ H _ I h) fun v s1 ⟨x,H1,I1,r1,y,e1,l1,q1⟩=>?_)
 subst e1
 obtain ⟨tk,rfl⟩:=r1
 exact ⟨l1,ht _ pins s1 σ H1 Q I1 q1⟩
theorem BH {a b:Expr} (h:PJ X (a :: b :: es) t):PE X (.JoinedStr (a :: b :: es) pos) (fun σ H Q=>t Str.empty σ H Q):=fun pins s σ H Q I q=>JoinedStr_many (h Str.empty pins s σ H Q I q)
theorem C9 (he:PE X e te):PE X (.FormattedValue e (-1) none pos) (fun σ H Q=>te σ H fun v H'=>(∃i:Int,v=.int i/\i.natAbs.log2 < 1920/\Q (.str (toString i:String)) H') \/ ∃x,v=.str x/\x.length <= sizeLine/\Q (.str x) H'):=fun pins s σ H Q I h=>by
 refine FormattedValue_plain (thn (he pins s σ H _ I h) fun v s1 ⟨x,H1,I1,r1,q1⟩=>?_)
 rcases q1 with ⟨i,rfl,hi,q1⟩ | ⟨y,rfl,hy,q1⟩
 ·obtain ⟨tk,rfl⟩:=r1
  exact formatField_int_small hi ⟨.str (toString i:String),H1,I1.tok _,⟨_,rfl⟩,q1⟩
 ·obtain ⟨tk,rfl⟩:=r1
  exact formatField_str (fun t' tk=>⟨.str y,H1,I1.tok _,⟨_,rfl⟩,q1⟩) hy
end
end L2
namespace L2
open PySem PySem.Spec PyProof.Rows
section
variable {X:Cx}
theorem fT {o e:Expr}{to:TE}{t:TA}{apos cpos:Pos} (ho:PE X o to) (ha:PA X [e] t) (hbase:attributeBase o "extend" X.env (eval o X.env)=eval o X.env:=by rfl)
  (hfew:((backTo cpos (starEach [e] X.env)).all (fun x=>!x.1) && (backToKw cpos (keywordEach [] X.env)).all (fun x=>x.1.isSome)
   && decide ([e].length + ([]:List Keyword).length + (if ([]:List Keyword).isEmpty then 0 else 1) < 30))=true:=by rfl)
  (hline:(apos.endLine == cpos.line)=true:=by rfl) (hs:starEach [e] X.env=(false,eval e X.env) :: starEach [] X.env:=by rfl) (hplain:(backTo cpos (starEach [] X.env)).any (·.1)=false:=by rfl) :
  PE X (.Call (.Attribute o "extend" apos) [e] [] cpos) (tBM X.K "list" xF to t) :=
 Cc PySem.F.plainAttrs_list PySem.F.slot_list_extend PySem.F.type_list_extend xY ho ha hbase hfew hline hs hplain
end
end L2
namespace L2
open PySem PySem.Spec PyProof.Rows
section
variable {prog:Program}{w:World}{K:Type} [DecidableEq K] {knd:KeyKind prog w K}{A:Around}{E:Value->Shared->Prop}{s:Shared}
end
section
variable {X:Cx}
end
end L2
namespace L2
open PySem PySem.Spec PyProof.Rows
section
variable {prog:Program}{w:World}{A:Around}{E:Value->Shared->Prop}{s:Shared}
end
section
variable {X:Cx}
end
end L2
namespace L2
open PySem PySem.Spec PyProof.Rows
section
variable {K:W.Frag}{H:Hp}{Q:VK}
theorem tix {p:Addr}{xs:List V}{v:V}{j:Nat} (h:SqT K H p xs) (e:xs[j]?=some v) (q:Q v H):ixS K p (j:Int) H Q \/ dgI p (.int (j:Int)) H Q:=.inl ⟨xs,v,.inr h,oA e,q⟩
theorem lix {p:Addr}{xs:List V}{v:V}{i:Int} (h:SqL K H p xs) (e:atI xs i=some v) (q:Q v H):ixS K p i H Q \/ dgI p (.int i) H Q:=.inl ⟨xs,v,.inl h,e,q⟩
theorem dgk {d:Addr}{kvs:List (Key × V)}{x:Str}{v:V} (h:H d=some (.dK kvs)) (e:b8 kvs (.inr x)=some v) (q:Q v H):dgI d (.str x) H Q:=⟨v,e ▸ kL.k (k:=.inr x) h,q⟩
theorem fdI {a C dx:Addr}{f:Str}{fs:List (Str × V)}{v:V} (h:H a=some (.ins C dx fs)) (c:Cls K C) (n:aK K C f) (e:fs.lookup f=some v) (q:Q v H):mi K f (.ref a) H Q:=⟨a,C,dx,fs,v,rfl,h,c,n,e,q⟩
theorem lnl {p:Addr}{xs:List V} (h:H p=some (.lst xs)) (q:Q (.int (xs.length:Nat)) H):x3 K [.ref p] H Q \/ AR [.ref p] H Q:=.inl ⟨_,_,rfl,.inl ⟨_,SqL.of h,rfl⟩,q⟩
theorem isB {x:V}{D:Addr}{t:Value}{b:Bool}{R:Bool->Hp->Prop} (ty:lB K H x t) (k:W.kitOne K t (.ref D)=some b) (q:R b H):wI K [x,.ref D] H fun v H1=>uq K v H1 R:=⟨x,.ref D,t,b,rfl,(fun z=>by cases z),ty,k,b,rfl,q⟩
end
end L2
namespace L2
open PySem PySem.Spec PyProof.Rows
section
variable {X:Cx}
end
end L2
namespace L2
open PySem PySem.Spec PyProof.Rows
section
variable {X:Cx}
end
end L2
namespace L2
open PySem PySem.Spec PyProof.Rows
def vu (P:Program) (w:World) (K:W.Frag) (mg:Str->Option Value) (base:Heap) (k:Nat) (x:Str) (ps:List Str) (dvs:List V) (sp:Sp):Prop :=
 ∃f fd ds,jx P w K mg base CX0 k f fd ps sp/\Binds K fd ps []/\Binds K fd ps ds/\Vals dvs ds/\W.keepIn K (.ref f)=true/\mg x=some (.ref f)/\∃oc od osl,K.lookup f=some ⟨oc,od,.func fd,osl⟩
section
variable {P:Program}{w:World}{K:W.Frag}{mg:Str->Option Value}{base:Heap}{k:Nat}{x:Str}{ps:List Str}{dvs:List V}{sp:Sp}
theorem vu.has (D:vu P w K mg base k x ps dvs sp):Has P w K mg base k x ps sp:=by
 obtain ⟨f,fd,ds,F,b,_,_,kp,m,l⟩:=D
 exact ⟨f,fd,F,b,kp,m,l⟩
structure ja (K:W.Frag) (mg:Str->Option Value) (x:Str) (st:Stmt) (ps:List Str) (dvs:List V):Prop where
 ex:∃(f:Addr) (oc:Value) (od:Option Addr) (dV kV doc pm:Value) (an:Option Addr) (cdv ct:Value) (osl:Array (Option Value)) (ds:List Value),K.lookup f=some ⟨oc,od,.func (W.fnOf x x (bP st) (bu st) (ak st) dV kV doc pm an cdv ct),osl⟩/\W.codeIn K cdv x=true/\W.keepIn K (.ref f)=true/\mg x=some (.ref f)/\Vals dvs ds /\
  Binds K (W.fnOf x x (bP st) (bu st) (ak st) dV kV doc pm an cdv ct) ps []/\Binds K (W.fnOf x x (bP st) (bu st) (ak st) dV kV doc pm an cdv ct) ps ds
abbrev ja.Hz {st:Stmt} (_:ja K mg x st ps dvs) (P:Program) (w:World) (base:Heap) (k:Nat) (sp:Sp):Prop:=vu P w K mg base k x ps dvs sp
theorem ja.hs {st:Stmt}{N:List Str} (F:ja K mg x st ps dvs) (S:az N ps (ak st))
  (hbody:∀(f:Addr) (cdv:Value) (A:Around) (outer:List Env) (s:Shared) (H:Hp) (vs:List V) (Q:VK) (E:XK),dJ k (A.deeper (envOfC x (ak st) s.heap.objs.size f cdv))->(A.deeper (envOfC x (ak st) s.heap.objs.size f cdv)).units + 64 < cLine->sp vs H Q E ->
   ∃t,PSs (r9 CX0 P w K mg base N x (ak st) f cdv A outer s H E).nox (bu st) t/\t { nx:=fun _ H'=>Q .non H',rt:=Q } (start N vs) H) (len:∀vs H Q E,sp vs H Q E->vs.length=ps.length:=by intro _ _ _ _ h;cases h;subst_vars;rfl):vu P w K mg base (k + 1) x ps dvs sp:=by
 obtain ⟨f,oc,od,dV,kV,doc,pm,an,cdv,ct,osl,ds,lk,hcd,kp,m,hv,b1,b2⟩:=F.ex
 refine ⟨f,_,ds,Ce lk hcd S len fun A outer s H vs Q E hr hsp=>?_,b1,b2,hv,kp,m,oc,od,osl,lk⟩
 obtain ⟨t,h,q⟩:=hbody f cdv A outer s H vs Q E hr hr.units hsp
 exact ⟨t,h.nox,q⟩
end
theorem pR {X:Cx}{j k:Nat}{x:Str}{ps:List Str}{dvs:List V}{sp:Sp}{e:Expr}{es:List Expr}{t:TA}{p pos:Pos} (D:vu X.prog X.w X.K X.mg X.base j x ps dvs sp) (hr:dJ k X.A) (ha:PA X (e :: es) t) (hj:j <= k:=by decide) (hg:Gl X x:=by rfl)
  (hdb:(x == ("__debug__":Str))=false:=by decide) (he:starEach (e :: es) X.env=(false,eval e X.env) :: starEach es X.env:=by rfl) (hpl:(backTo pos (starEach es X.env)).any (·.1)=false:=by rfl) :
  PE X (.Call (.Name x p) (e :: es) [] pos) (qV sp dvs E0 t):=by
 obtain ⟨f,fd,ds,F,_,b,hv,kp,m,_⟩:=D
 exact wU F (hr.mono hj) hg m kp b hv vd ha hdb he hpl
end L2
namespace L2
open PySem PySem.Spec PyProof.Rows
def b4 (a b c:Option Tok):Array (Int × Value):=((a.map fun t=>((0:Int),Value.int 0 t)).toList ++ ((b.map fun t=>((1:Int),Value.int 1 t)).toList ++ (c.map fun t=>((2:Int),Value.int 2 t)).toList)).toArray
def uY (a b c:Option Tok):Array Nat:=((a.map fun _=>0).toList ++ ((b.map fun _=>1).toList ++ (c.map fun _=>2).toList)).toArray
def rkT (a b c:Option Tok) (led:Bool):SetTable:={ mask:=7,place:=uY a b c,dummies:=#[],finger:=0,led:=led,moves:=0,plain:=true }
abbrev rkO (a b c:Option Tok) (ep:Nat) (led:Bool):Obj:={ cls:=.type "set",dict:=none,data:=.set (b4 a b c) ep (rkT a b c led) }
theorem lay0 (b c:Option Tok) (led:Bool) (t:Tok):layNew (rkT none b c led) (b4 none b c) 0 (.int 0 t)=(b4 (some t) b c,rkT (some t) b c led,false,false):=by cases b <;> cases c <;> kernel_rfl
theorem Fp (a c:Option Tok) (led:Bool) (t:Tok):layNew (rkT a none c led) (b4 a none c) 1 (.int 1 t)=(b4 a (some t) c,rkT a (some t) c led,false,false):=by cases a <;> cases c <;> kernel_rfl
theorem Fd (a b:Option Tok) (led:Bool) (t:Tok):layNew (rkT a b none led) (b4 a b none) 2 (.int 2 t)=(b4 a b (some t),rkT a b (some t) led,false,false):=by cases a <;> cases b <;> kernel_rfl
theorem rT (a b c:Option Tok) (led:Bool):(rkT a b c led).tooFull=false:=by cases a <;> cases b <;> cases c <;> kernel_rfl
theorem d6 (a b c:Option Tok) (led:Bool):(rkT a b c led).fits (b4 a b c).size=true:=by cases a <;> cases b <;> cases c <;> kernel_rfl
theorem gE (a b c:Option Tok):(b4 a b c).size <= 3:=by cases a <;> cases b <;> cases c <;> simp [b4]
section
variable {prog:Program}{w:World}{A:Around}{E:Value->Shared->Prop}{s:Shared}{S:Addr}{a b c:Option Tok}{ep:Nat}{led:Bool}
theorem lT:ElemsOf (intKind prog w) (b4 a b c).toList:=fun e he=>by
 have:e.2=.int e.1 (match e.2 with | .int _ t=>t | _=>0):=by
  cases a <;> cases b <;> cases c <;> simp [b4] at he <;> rcases he with rfl | rfl | rfl <;> rfl
 rw [this]
 exact ⟨⟨e.1,intKind_is _ _ _ _,by cases a <;> cases b <;> cases c <;> simp [b4] at he <;> rcases he with rfl | rfl | rfl <;> rfl⟩,rfl⟩
theorem wF {r:Int}{t:Tok}{Q:Bool->Shared->Prop}{es':Array (Int × Value)}{t':SetTable} (ho:s.heap.get? S=some (rkO a b c ep led)) (lay:layNew (rkT a b c led) (b4 a b c) ((intKind prog w).hash r) (.int r t)=(es',t',false,false)) (pl:t'.plain=true) (tf:t'.tooFull=false) (sz:es'.size <= 3)
  (nf:(b4 a b c).toList.findIdx? (fun e=>(intKind prog w).is r e.2)=none) (q:Q true { s with heap:=s.heap.update S (Obj.putSet es' t') }):wpAny (model prog w) A (setAddHashed S (.int r t) ((intKind prog w).hash r)) Q E s:=by
 have h4:=gE a b c
 unfold setAddHashed setAddHashedIn
 refine wpAny_holding (wpAny_bind (wpAny_setState_of ho rfl (d6 a b c led) ?_))
 dsimp only
 rw [byScan_of (knd:=intKind prog w) rfl (by unfold scanBound;omega) lT]
 simp only [if_true]
 unfold setAddByScan
 refine wpAny_bind (wpAny_bind (wpAny_rule (wpAny_bind (wpAny_setScan_of (intKind_is prog w r t) ho rfl (d6 a b c led) lT ?_))))
 rw [nf]
 dsimp only
 rw [lay]
 refine wpAny_bind (wpAny_pure ?_)
 dsimp only
 rw [if_pos pl]
 refine wpAny_bind (wpAny_pure (a:=true) ?_)
 simp only [if_true]
 refine wpAny_bind (wpAny_storeSet_of ho rfl ?_ (Nat.le_trans sz (by decide)))
 rw [tf]
 exact wpAny_pure (wpAny_pure q)
theorem Co {r:Int}{t:Tok}{j:Nat}{Q:Bool->Shared->Prop} (ho:s.heap.get? S=some (rkO a b c ep led)) (nf:(b4 a b c).toList.findIdx? (fun e=>(intKind prog w).is r e.2)=some j) (q:Q false s):wpAny (model prog w) A (setAddHashed S (.int r t) ((intKind prog w).hash r)) Q E s:=by
 have h4:=gE a b c
 unfold setAddHashed setAddHashedIn
 refine wpAny_holding (wpAny_bind (wpAny_setState_of ho rfl (d6 a b c led) ?_))
 dsimp only
 rw [byScan_of (knd:=intKind prog w) rfl (by unfold scanBound;omega) lT]
 simp only [if_true]
 unfold setAddByScan
 refine wpAny_bind (wpAny_bind (wpAny_rule (wpAny_bind (wpAny_setScan_of (intKind_is prog w r t) ho rfl (d6 a b c led) lT ?_))))
 rw [nf]
 exact wpAny_pure (wpAny_pure q)
theorem nB {x y z:Option Tok} (ho:s.heap.get? S=some (rkO a b c ep led)):Heap.SameBut S s.heap (s.heap.update S (Obj.putSet (b4 x y z) (rkT x y z led)))/\(s.heap.update S (Obj.putSet (b4 x y z) (rkT x y z led))).get? S=some (rkO x y z (ep + 1) led):=⟨Heap.SameBut.update ..,Heap.get?_update_self _ ho rfl⟩
theorem DE {r:Int}{t:Tok}{Q:Bool->Shared->Prop} (hr:r=0 \/ r=1 \/ r=2) (ho:s.heap.get? S=some (rkO a b c ep led))
  (q:∀(bl:Bool) (h':Heap) (ep':Nat) (x y z:Option Tok),Heap.SameBut S s.heap h'->h'.get? S=some (rkO x y z ep' led)->x.isSome=(a.isSome || decide (r=0))->y.isSome=(b.isSome || decide (r=1))->z.isSome=(c.isSome || decide (r=2))->Q bl { s with heap:=h' }):wpAny (model prog w) A (setAddHashed S (.int r t) ((intKind prog w).hash r)) Q E s:=by
 have old:∀j,(b4 a b c).toList.findIdx? (fun e=>(intKind prog w).is r e.2)=some j->a.isSome=(a.isSome || decide (r=0))->b.isSome=(b.isSome || decide (r=1))->c.isSome=(c.isSome || decide (r=2))->wpAny (model prog w) A (setAddHashed S (.int r t) ((intKind prog w).hash r)) Q E s:=fun j nf h1 h2 h3=>Co ho nf (q false s.heap ep a b c (Heap.SameBut.refl S s.heap) ho h1 h2 h3)
 rcases hr with rfl | rfl | rfl
 ·cases a with
  | some u=>exact old 0 rfl rfl (by simp) (by simp)
  | none=>exact wF ho (lay0 b c led t) rfl (rT ..) (gE ..) (by cases b <;> cases c <;> rfl) (q true _ _ _ _ _ (nB ho).1 (nB ho).2 rfl (by simp) (by simp))
 ·cases b with
  | some u=>cases a with
   | none=>exact old 0 rfl (by simp) rfl (by simp)
   | some v=>exact old 1 rfl (by simp) rfl (by simp)
  | none=>exact wF ho (Fp a c led t) rfl (rT ..) (gE ..) (by cases a <;> cases c <;> rfl) (q true _ _ _ _ _ (nB ho).1 (nB ho).2 (by simp) rfl (by simp))
 ·cases c with
  | some u=>cases a with
   | none=>cases b with
    | none=>exact old 0 rfl (by simp) (by simp) rfl
    | some v=>exact old 1 rfl (by simp) (by simp) rfl
   | some v=>cases b with
    | none=>exact old 1 rfl (by simp) (by simp) rfl
    | some v=>exact old 2 rfl (by simp) (by simp) rfl
  | none=>exact wF ho (Fd a b led t) rfl (rT ..) (gE ..) (by cases a <;> cases b <;> rfl) (q true _ _ _ _ _ (nB ho).1 (nB ho).2 (by simp) (by simp) rfl)
end
structure Ai (val:Nat->Int) (i:Nat) (a b c:Option Tok):Prop where
 a:a.isSome=(List.range i).any fun j=>decide (val j=0)
 b:b.isSome=(List.range i).any fun j=>decide (val j=1)
 c:c.isSome=(List.range i).any fun j=>decide (val j=2)
theorem qg (f:Nat->Bool) (i:Nat):(List.range (i + 1)).any f=((List.range i).any f || f i):=by
 rw [List.range_succ,List.any_append]
 simp
section
variable {prog:Program}{w:World}{A:Around}{R:Result->Shared->Prop}{I:Addr}{fp wr:List Addr}{G:Array GenState->Array GenState->Prop}{n:Nat}{P:Nat->Value->Prop}{St:Nat->Shared->Prop}{led:Bool}
theorem Bw (W:WalksS prog w A.in1 I fp wr G n P St) (S:Addr) (hSf:S ∉ fp) (val:Nat->Int) (hval:∀i v,P i v->∃t,v=.int (val i) t) (h3:∀i v,P i v->val i=0 \/ val i=1 \/ val i=2) :
  ∀(k i:Nat) (s:Shared) (a b c:Option Tok) (ep:Nat),n - i=k->i <= n->St i s->s.heap.get? S=some (rkO a b c ep led)->Ai val i a b c ->
   (∀s' x y z ep',Moved (S :: wr) G s s'->s'.heap.get? S=some (rkO x y z ep' led)->Ai val n x y z->R (.ok (.ret .none)) s')->codeAny (model prog w) A (.builtin "set.update.loop" ⟨[.ref S,.ref I],[]⟩) R s:=by
 have sw:S ∉ wr:=fun h=>hSf (W.sub _ h)
 have sub:∀b ∈ wr,b ∈ S :: wr:=fun b hb=>List.mem_cons_of_mem _ hb
 intro k
 induction k with
 | zero =>
  intro i s a b c ep hk hi st hS hm q
  obtain rfl:i=n:=by omega
  refine codeAny_builtin PyProof.Rows.F.entry_set_update_loop ?_
  rw [Around.under_plainId PyProof.Rows.F.plain_set_update_loop _]
  refine wpAny_bind (m:=pyNext (.ref I)) (W.done s _ _ st fun s' mv=>?_)
  exact wpAny_pure (q s' a b c ep (mv.mono sub) (mv.heap S _ sw hS) hm)
 | succ k ih =>
  intro i s a b c ep hk hi st hS hm q
  have lt:i < n:=by omega
  refine codeAny_builtin PyProof.Rows.F.entry_set_update_loop ?_
  rw [Around.under_plainId PyProof.Rows.F.plain_set_update_loop _]
  refine wpAny_bind (m:=pyNext (.ref I)) (W.item i s _ _ lt st fun v s' hP st' mv=>?_)
  obtain ⟨t,rfl⟩:=hval i v hP
  refine wpAny_bind (wpAny_holding (m:=setAdd S (.int (val i) t)) ?_)
  unfold setAdd
  refine wpAny_holding (wpAny_bind ((intKind prog w).pyHash (k:=val i) (intKind_is _ _ _ _) ?_))
  refine DE (s:={ s' with toks:=s'.toks + 1 }) (h3 i _ hP) (mv.heap S _ sw hS) fun bl h' ep' x y z sb hS' e1 e2 e3=>?_
  refine wpAny_pure ⟨plainId_quiet PyProof.Rows.F.plain_set_update_loop _,ih (i + 1) _ x y z ep' (by omega) lt (W.frame _ s' _ _ st' (Nat.le_succ _) fun b hb o e=>?_) hS' ⟨by rw [e1,hm.a,qg],by rw [e2,hm.b,qg],by rw [e3,hm.c,qg]⟩ fun s'' x y z ep'' mv' hS'' hm'=>?_⟩
  ·rw [sb.2 b (fun h=>hSf (by rw [<- h];exact hb))]
   exact e
  ·refine q s'' x y z ep'' (Moved.trans W.gtrans ((mv.mono sub).then_heap (Nat.le_succ _) fun b o hb e=>?_) mv') hS'' hm'
   rw [sb.2 b (fun h=>hb (by rw [h];exact List.mem_cons_self))]
   exact e
end
section
variable {prog:Program}{w:World}{A:Around}{E:Value->Shared->Prop}{s:Shared}
theorem lH {Q:Bool->Shared->Prop} (q:Q (w.params.followText "set-order") s):wpAny (model prog w) A setsByText Q E s:=wpAny_bind (wpAny_askSetting (wpAny_pure q))
theorem BJ (u:Value) {Q:Value->Shared->Prop} (q:Q (.ref s.heap.objs.size) { s with heap:=s.heap.push (rkO none none none 0 (!w.params.followText "set-order")) }) :
  codeAny (model prog w) A (.call (.builtin "set.__new__") ⟨[.type "set",u],[]⟩) (wants Q E) s:=by
 refine codeAny_of_tree (wpAny_bind (wpAny_of_eq (PySem.F.newCall_set_1 u) (wpAny_pure ⟨plainId_quiet PySem.F.plain_set_new _,codeAny_builtin PySem.F.entry_set_new ?_⟩)))
 rw [Around.under_plainId PySem.F.plain_set_new _]
 unfold Builtin.«set.__new__» Builtin.Frozenset.newClass
 have hsub:=PySem.sub_set_self
 obtain ⟨hp,g,d,tk,os⟩:=s
 dsimp only
 wp_walk
 refine wpAny_askSetting (wpAny_pure ?_)
 dsimp only
 simp only [newObj]
 exact wpAny_bind (wpAny_alloc (wpAny_pure (wpAny_pure q)))
set_option maxHeartbeats 3200000 in
theorem uz {l:Addr}{items:Array Value}{val:Nat->Int}{Q:Value->Shared->Prop} (hh:A.handled=none) (hl:s.heap.IsList l items) (hv:∀(i:Nat) (v:Value),items[i]?=some v->∃t,v=Value.int (val i) t) (h3:∀(i:Nat) (v:Value),items[i]?=some v->val i=0 \/ val i=1 \/ val i=2)
  (q:∀(h':Heap) (tk:Nat) (x y z:Option Tok) (ep:Nat),h'.get? s.heap.objs.size=some (rkO x y z ep (!w.params.followText "set-order"))->Ai val items.size x y z->(∀b o,b < s.heap.objs.size->s.heap.get? b=some o->h'.get? b=some o)->Q (.ref s.heap.objs.size) { s with heap:=h',toks:=tk }) :
  wpAny (model prog w) A (call (.type "set") [.ref l]) Q E s:=by
 obtain ⟨c,tl,hmro⟩:=PySem.F.called_set.mro
 have m1:=PySem.F.called_set.made
 have m2:=PySem.F.called_set.sub
 refine wpAny_call (codeAny_of_tree ?_)
 show wpAny _ _ (callAny (.type "set") _) _ _ _
 refine wpAny_pure ⟨Code.quiet_builtin _ (by decide +kernel),codeAny_builtin PySem.F.entry_type_call ?_⟩
 rw [Around.under_plain (weight_type_call_type "set" [.ref l] []) rfl]
 have m3:=PySem.F.called_set.notType
 have m4:=PySem.F.called_set.canCreate
 have m5:=PySem.F.typeCall_set_1 (.ref l)
 repeat (any_goals (first | assumption | wp_step))
 refine codeAny_mono (BJ (.ref l) (E:=E) (Q:=fun obj s₁=>obj=.ref s.heap.objs.size/\s₁={ s with heap:=s.heap.push (rkO none none none 0 (!w.params.followText "set-order")) }) ⟨rfl,rfl⟩) fun r s₁ hr=>?_
 cases r with
 | error e=>exact hr
 | ok fl =>
  cases fl with
  | ret obj =>
   obtain ⟨rfl,rfl⟩:=hr
   have hS:(s.heap.push (rkO none none none 0 (!w.params.followText "set-order"))).get? s.heap.objs.size=some (rkO none none none 0 (!w.params.followText "set-order")):=Heap.get?_push_size _ rfl
   have hT:Shared.TypeIs { s with heap:=s.heap.push (rkO none none none 0 (!w.params.followText "set-order")) } (.ref s.heap.objs.size) "set":=⟨_,hS,rfl⟩
   have n1:=PySem.F.called_set.init.lookup
   have n2:=PySem.F.called_set.init.bind (.ref s.heap.objs.size)
   repeat (any_goals (first | assumption | wp_step))
   refine codeAny_mono (codeAny_call_builtin (R:=wants (fun r s₂=>r=.none/\∃h' tk x y z ep,s₂={ s with heap:=h',toks:=tk }/\h'.get? s.heap.objs.size=some (rkO x y z ep (!w.params.followText "set-order"))/\Ai val items.size x y z/\∀b o,b < s.heap.objs.size->s.heap.get? b=some o->h'.get? b=some o) E) PySem.F.called_set.init.plain PySem.F.entry_set_init (PySem.check_set_init_1 hT ?_)) fun r₂ s₂ hr₂=>?_
   ·obtain ⟨ol,hol,hcl,nl,hdl⟩:=hl
    obtain ⟨ocls,odict,odata,oslots⟩:=ol
    simp only at hcl hdl
    subst hcl;subst hdl
    have hol':(s.heap.push (rkO none none none 0 (!w.params.followText "set-order"))).get? l=some { cls:=.type "list",dict:=odict,data:=.seq items nl,slots:=oslots }:=Heap.get?_push_of_some _ hol
    have k1:=PySem.F.sub_list_set
    have k2:=PySem.F.sub_list_frozenset
    have k3:(Value.type "list" == Value.type "dict")=false:=by decide
    have hl1:(s.heap.push (rkO none none none 0 (!w.params.followText "set-order"))).IsList l items:=⟨_,hol',rfl,nl,rfl⟩
    unfold Builtin.«set.__init__» noKeywords Builtin.Frozenset.updateFrom
    generalize hPI:pyIter=PI
    wp_walk
    subst hPI
    refine wpAny_pyIter_list hl1 (wpAny_bind (wpAny_runValue ?_))
    have lS:l < s.heap.objs.size:=Heap.lt_size hol
    have zs:(s.heap.push (rkO none none none 0 (!w.params.followText "set-order"))).objs.size=s.heap.objs.size + 1:=Heap.size_push ..
    refine Bw ((Walks.list (A:=A.in1.in1.in1) (by simp [hh]) _ l (by rw [zs];exact Nat.ne_of_lt (Nat.lt_succ_of_lt lS)) items).toS) s.heap.objs.size (by rw [zs];simp only [List.mem_cons,List.not_mem_nil,or_false,not_or];exact ⟨Nat.ne_of_lt (Nat.lt_succ_self _),Nat.ne_of_gt lS⟩) val hv h3 items.size 0 _ none none none 0 (by omega) (Nat.zero_le _) ⟨⟨_,Heap.get?_push_size _ rfl,rfl,rfl⟩,hl1.push _⟩ (Heap.get?_push_of_some _ hS) ⟨rfl,rfl,rfl⟩ ?_
    intro s' x y z ep mv hS' hm
    obtain ⟨h',g',d',tk',os'⟩:=s'
    have e1:g'=s.gens:=mv.gens
    have e2:d'=s.drawn:=mv.drawn
    have e3:os'=s.os:=mv.os
    subst e1;subst e2;subst e3
    refine wpAny_pure (wpAny_pure ⟨rfl,h',tk',x,y,z,ep,rfl,hS',hm,fun b o hb e=>?_⟩)
    refine mv.heap b o (by rw [zs];simp only [List.mem_cons,List.not_mem_nil,or_false,not_or];exact ⟨Nat.ne_of_lt hb,Nat.ne_of_lt (Nat.lt_succ_of_lt hb)⟩) (Heap.get?_push_of_some _ (Heap.get?_push_of_some _ e))
   ·cases r₂ with
    | error e=>exact hr₂
    | ok fl₂ =>
     cases fl₂ with
     | ret r =>
      obtain ⟨rfl,h',tk,x,y,z,ep,rfl,g1,g2,g3⟩:=hr₂
      repeat (any_goals (first | assumption | wp_step))
      exact q h' tk x y z ep g1 g2 g3
     | _=>exact hr₂.elim
  | _=>exact hr.elim
end
end L2
namespace L2
open PySem PySem.Spec PyProof.Rows
theorem iJ:Slot "set_iterator" "__next__" "set_iterator.__next__":=.of (owner:="set_iterator") (n:="__next__") (by rw [typeLookup_type,builtinLookup_eq_fast];kernel_rfl) (by decide +kernel) (by decide +kernel) (by decide +kernel) (by first | exact .inl (by decide +kernel) | exact .inr (by decide +kernel)) (by rw [isSubtype_type];kernel_rfl)
theorem vA:Slot "set_iterator" "__iter__" "set_iterator.__iter__":=.of (owner:="set_iterator") (n:="__iter__") (by rw [typeLookup_type,builtinLookup_eq_fast];kernel_rfl) (by decide +kernel) (by decide +kernel) (by decide +kernel) (by first | exact .inl (by decide +kernel) | exact .inr (by decide +kernel)) (by rw [isSubtype_type];kernel_rfl)
theorem qX:entryFor table "set_iterator.__next__"=some Builtin.«set_iterator.__next__»:=entryFor_of_tree (by kernel_rfl)
theorem uS (a:Value):argsOk "set_iterator.__next__" ⟨[a],[]⟩:=by unfold argsOk;kernel_rfl
theorem we:entryFor table "set.__iter__"=some Builtin.«frozenset.__iter__»:=entryFor_alias (id':="frozenset.__iter__") (by kernel_rfl) rfl (by decide +kernel) (by kernel_rfl)
def rkW (tx:Bool) (ord:Nat->Nat) (a b c:Option Tok):Array (Int × Value):=if tx=true then pickOrder ord (b4 a b c) else b4 a b c
def gY (tx:Bool) (a b c:Option Tok) (i:Nat):Nat:=if tx=true then 0 else match i with
 | 0=>0
 | j + 1=>(uY a b c).getD j 0 + 1
abbrev itO (slot i:Nat) (S:Addr) (n ep:Nat):Obj:={ cls:=.type "set_iterator",data:=.fields #[rawInt slot,rawInt i,.ref S,rawInt n,rawInt ep] }
section
variable {prog:Program}{w:World}{A:Around}{E:Value->Shared->Prop}{s:Shared}{S:Addr}{a b c:Option Tok}{ep:Nat}
theorem y9 {i:Nat} (h:i <= (b4 a b c).size):SetTable.below (uY a b c) (gY false a b c i)=i/\(uY a b c)[i]?=(b4 a b c)[i]?.map fun _=>(uY a b c).getD i 0:=by
 have h3:=gE a b c
 have i3:i=0 \/ i=1 \/ i=2 \/ i=3:=by omega
 rcases i3 with rfl | rfl | rfl | rfl <;> cases a <;> cases b <;> cases c <;> first | (simp [b4] at h;done) | (refine ⟨?_,?_⟩ <;> kernel_rfl)
theorem xV {i:Nat}{Q:Option (Value × Nat)->Shared->Prop} (ho:s.heap.get? S=some (rkO a b c ep (!w.params.followText "set-order"))) (h:i <= (b4 a b c).size)
  (q:Q ((rkW (w.params.followText "set-order") (w.params.setOrder S ep) a b c)[i]?.map fun e=>(e.2,gY (w.params.followText "set-order") a b c (i + 1))) s):wpAny (model prog w) A (setNext S (gY (w.params.followText "set-order") a b c i) i ep) Q E s:=by
 unfold setNext
 refine wpAny_bind (wpAny_setState_of ho rfl (d6 ..) ?_)
 refine wpAny_bind (lH ?_)
 cases hx:w.params.followText "set-order" with
 | true =>
  rw [hx] at ho q
  simp only [if_true,bne_self_eq_false,Bool.false_eq_true,if_false]
  unfold setWalk
  refine wpAny_bind (wpAny_bind (wpAny_setState_of ho rfl (d6 ..) (wpAny_bind (lH ?_))))
  rw [hx]
  simp only [if_true]
  refine wpAny_bind (wpAny_askSetting (wpAny_pure (wpAny_pure ?_)))
  exact q
 | false =>
  rw [hx] at ho q
  simp only [Bool.false_eq_true,if_false]
  show wpAny _ _ (if false=true then _ else _) _ _ _
  simp only [Bool.false_eq_true,if_false]
  refine wpAny_bind (show wpAny _ _ (pure ()) _ _ _ from wpAny_pure ?_)
  obtain ⟨e1,e2⟩:=y9 h
  refine wpAny_pure ?_
  show Q (match (b4 a b c)[SetTable.below (uY a b c) (gY false a b c i)]?,(uY a b c)[SetTable.below (uY a b c) (gY false a b c i)]? with | some (_,x),some j=>some (x,j + 1) | _,_=>none) s
  rw [e1,e2]
  rw [show rkW false (w.params.setOrder S ep) a b c=b4 a b c from rfl] at q
  cases he:(b4 a b c)[i]? with
  | none=>rw [he] at q;exact q
  | some e=>rw [he] at q;exact q
def wR (w:World) (I S:Addr) (a b c:Option Tok) (ep i:Nat) (h:Heap):Prop:=h.get? I=some (itO (gY (w.params.followText "set-order") a b c i) i S (b4 a b c).size ep)/\h.get? S=some (rkO a b c ep (!w.params.followText "set-order"))
theorem AV {I:Addr}{i:Nat}{e:Int × Value}{Q:Option Value->Shared->Prop} (ne:S ≠ I) (st:wR w I S a b c ep i s.heap) (h:i <= (b4 a b c).size) (he:(rkW (w.params.followText "set-order") (w.params.setOrder S ep) a b c)[i]?=some e)
  (q:∀h',wR w I S a b c ep (i + 1) h'->Heap.SameBut I s.heap h'->Q (some e.2) { s with heap:=h' }):wpAny (model prog w) A (pyNext (.ref I)) Q E s:=by
 obtain ⟨hI,hS⟩:=st
 have ty:s.TypeIs (.ref I) "set_iterator":=⟨_,hI,rfl⟩
 unfold pyNext
 refine wpAny_bind (wpAny_attempt (wpAny_callSpecial?_slot (name:=Str.ofString "__next__") ty iJ (wpAny_call_entry iJ ty qX ?_ (uS _))))
 show wpAny _ _ (fieldsOf (.ref I) >>= _) _ _ s
 refine wpAny_bind (wpAny_bind (wpAny_load hI (wpAny_pure ?_)))
 dsimp only [rawInt]
 refine wpAny_bind (wpAny_setEntries_of hS rfl (d6 ..) ?_)
 simp only [bne_self_eq_false,Bool.false_eq_true,if_false,Int.toNat_natCast]
 refine wpAny_bind (xV hS h ?_)
 rw [he]
 dsimp only [Option.map]
 refine wpAny_bind (wpAny_setField hI rfl (by simp) ?_)
 have h1:(s.heap.update I (Obj.mapFields (·.setIfInBounds 0 (rawInt (gY (w.params.followText "set-order") a b c (i + 1):Nat))))).get? I=some (itO (gY (w.params.followText "set-order") a b c (i + 1)) i S (b4 a b c).size ep):=Heap.get?_update_self _ hI rfl
 refine wpAny_bind (wpAny_setField h1 rfl (by simp) ?_)
 have h2:=Heap.get?_update_self (Obj.mapFields (·.setIfInBounds 1 (rawInt ((i:Int) + 1)))) h1 rfl
 refine wpAny_pure ⟨_,rfl,wpAny_pure (q _ ⟨h2,?_⟩ ?_)⟩
 ·exact (Heap.get?_update_other _ _ ne.symm).trans ((Heap.get?_update_other _ _ ne.symm).trans hS)
 ·exact (Heap.SameBut.update ..).trans (Heap.SameBut.update ..)
theorem CM {I:Addr}{Q:Option Value->Shared->Prop} (hh:A.handled=none) (st:wR w I S a b c ep (b4 a b c).size s.heap) (he:(rkW (w.params.followText "set-order") (w.params.setOrder S ep) a b c)[(b4 a b c).size]?=none)
  (q:∀h',Heap.ExtBut I s.heap h'->Q none { s with heap:=h' }):wpAny (model prog w) A (pyNext (.ref I)) Q E s:=by
 obtain ⟨hI,hS⟩:=st
 have ty:s.TypeIs (.ref I) "set_iterator":=⟨_,hI,rfl⟩
 unfold pyNext
 refine wpAny_bind (wpAny_attempt (wpAny_callSpecial?_slot (name:=Str.ofString "__next__") ty iJ (wpAny_call_entry iJ ty qX ?_ (uS _))))
 show wpAny _ _ (fieldsOf (.ref I) >>= _) _ _ s
 refine wpAny_bind (wpAny_bind (wpAny_load hI (wpAny_pure ?_)))
 dsimp only [rawInt]
 refine wpAny_bind (wpAny_setEntries_of hS rfl (d6 ..) ?_)
 simp only [bne_self_eq_false,Bool.false_eq_true,if_false,Int.toNat_natCast]
 refine wpAny_bind (xV hS (Nat.le_refl _) ?_)
 rw [he]
 dsimp only [Option.map]
 refine wpAny_bind (wpAny_setField hI rfl (by simp) (wpAny_bind ?_))
 simp only [newExc,newTuple]
 refine wpAny_bind (wpAny_newObj_type (wpAny_bind (m:=firstArgMember _ _) (wpAny_of_eq (a:=Value.none) (by first | rfl | (simp only [firstArgMember];rfl)) (wpAny_newObj_type ?_ (by size_fits)))) (by size_fits))
 simp only [raiseNew]
 refine wpAny_bind (wpAny_handled ?_)
 rw [show A.in1.handled=none from hh]
 refine wpAny_bind (wpAny_pure (wpAny_throw ?_))
 refine wpAny_bind (wpAny_isInstance (T:="StopIteration") (b:=true) ⟨_,Heap.get?_push_size _ rfl,rfl⟩ isSubtype_stop ?_)
 exact wpAny_pure (q _ (((Heap.SameBut.update ..).extBut.push _).push _))
end
end L2
namespace L2
open PySem PySem.Spec PyProof.Rows
theorem qf {α:Type}:∀{l:List α}{i:Nat} (h:i < l.length),(l[i] :: l.eraseIdx i).Perm l
 | x :: l,0,_=>List.Perm.refl _
 | x :: l,i + 1,h=>((List.Perm.swap _ _ _).trans ((qf (l:=l) (i:=i) (by simpa using h)).cons x))
theorem xT {α:Type} (next:Nat->Nat):∀(n k:Nat) (left:List α) (out:Array α),left.length=n->(pickOrder.go next n k left out).toList.Perm (out.toList ++ left)
 | 0,k,left,out,h=>by
  rw [List.length_eq_zero_iff.mp h]
  unfold pickOrder.go
  simp
 | n + 1,k,left,out,h=>by
  have lt:next k % left.length < left.length:=Nat.mod_lt _ (by omega)
  unfold pickOrder.go
  rw [List.getElem?_eq_getElem lt]
  dsimp only
  refine (xT next n (k + 1) _ _ (by rw [List.length_eraseIdx_of_lt lt];omega)).trans ?_
  rw [Array.toList_push,List.append_assoc]
  exact List.Perm.append_left _ (qf lt)
theorem yN {α:Type} (next:Nat->Nat) (xs:Array α):(pickOrder next xs).toList.Perm xs.toList:=by
 have:=xT next xs.size 0 xs.toList #[] (Array.length_toList ..)
 simpa [pickOrder] using this
theorem yL:entryFor table "set_iterator.__iter__"=some Builtin.«dict_keyiterator.__iter__»:=entryFor_alias (id':="dict_keyiterator.__iter__") (by kernel_rfl) rfl (by decide +kernel) (by kernel_rfl)
theorem y3 (a:Value):argsOk "set_iterator.__iter__" ⟨[a],[]⟩:=by unfold argsOk;kernel_rfl
section
variable {prog:Program}{w:World}{A:Around}{E:Value->Shared->Prop}{s:Shared}{S:Addr}{a b c:Option Tok}{ep:Nat}
theorem qp (tx:Bool) (ord:Nat->Nat):(rkW tx ord a b c).toList.Perm (b4 a b c).toList:=by
 cases tx
 ·exact List.Perm.refl _
 ·exact yN _ _
theorem md (tx:Bool) (ord:Nat->Nat):(rkW tx ord a b c).size=(b4 a b c).size:=by
 have:=(qp (a:=a) (b:=b) (c:=c) tx ord).length_eq
 simpa using this
theorem wR.at {I:Addr}{i:Nat}{h h':Heap} (x:wR w I S a b c ep i h) (e:∀b ∈ [I,S],∀o,h.get? b=some o->h'.get? b=some o):wR w I S a b c ep i h':=⟨e I (by simp) _ x.1,e S (by simp) _ x.2⟩
theorem Ar (hh:A.handled=none) (I:Addr) (ne:S ≠ I):Walks prog w A I [I,S] [I] (b4 a b c).size (fun i v=>(rkW (w.params.followText "set-order") (w.params.setOrder S ep) a b c)[i]?.map (·.2)=some v) (fun i h=>wR w I S a b c ep i h) where
 sub:=fun b hb=>by simp at hb;simp [hb]
 frame:=fun i h h' st k=>st.at k
 item:=fun i s Q E hi st q=>by
  have lt:i < (rkW (w.params.followText "set-order") (w.params.setOrder S ep) a b c).size:=by rw [md];exact hi
  refine AV ne st (Nat.le_of_lt hi) (Array.getElem?_eq_getElem lt) fun h' st' sb=>?_
  exact q _ h' s.toks (by rw [Array.getElem?_eq_getElem lt];rfl) st' fun b o hb e=>by rw [sb.2 b (fun z=>hb (by rw [z];simp))];exact e
 done:=fun s Q E st q=>CM hh st (Array.getElem?_eq_none (by rw [md];exact Nat.le_refl _)) fun h' x=>q h' s.toks fun b o hb e=>x b o (fun z=>hb (by rw [z];simp)) e
 self:=fun i s Q E st q=>by
  have ty:s.TypeIs (.ref I) "set_iterator":=⟨_,st.1,rfl⟩
  refine wpAny_pyIter_slot ty vA (wpAny_call_entry vA ty yL ?_ (y3 _))
  exact wpAny_pure ⟨_,rfl,"set_iterator",_,ty,iJ.lookup,q⟩
end
end L2
namespace L2
open PySem PySem.Spec PyProof.Rows
theorem vO:typeLookup (.type "set") "__len__"=pure (some (.builtin "set.__len__")):=by rw [typeLookup_type,builtinLookup_eq_fast];kernel_rfl
section
variable {prog:Program}{w:World}{A:Around}{E:Value->Shared->Prop}{s:Shared}{S:Addr}{a b c:Option Tok}{ep:Nat}
theorem BF {Q:Value->Shared->Prop} (ho:s.heap.get? S=some (rkO a b c ep (!w.params.followText "set-order"))) (q:Q (.ref s.heap.objs.size) { s with heap:=s.heap.push (itO 0 0 S (b4 a b c).size ep) }):wpAny (model prog w) A (pyIter (.ref S)) Q E s:=by
 have ty:s.TypeIs (.ref S) "set":=⟨_,ho,rfl⟩
 refine wpAny_pyIter_slot ty PySem.F.slot_set_iter (wpAny_call_entry PySem.F.slot_set_iter ty we ?_ (PySem.F.args_set_iter_1 _))
 unfold Builtin.«frozenset.__iter__»
 refine wpAny_bind (show wpAny _ _ (pure S) _ _ _ from wpAny_pure ?_)
 refine wpAny_bind (wpAny_bind (wpAny_setEntries_of ho rfl (d6 ..) (wpAny_pure ?_)))
 refine wpAny_bind (wpAny_bind (wpAny_setState_of ho rfl (d6 ..) (wpAny_bind (lH ?_))))
 refine wpAny_pure ?_
 have e:(!w.params.followText "set-order" && false)=false:=Bool.and_false _
 show wpAny _ _ (if (!w.params.followText "set-order" && false)=true then _ else _) _ _ _
 rw [e]
 simp only [Bool.false_eq_true,if_false]
 refine wpAny_bind (wpAny_pure (wpAny_bind (wpAny_bind (wpAny_setState_of ho rfl (d6 ..) (wpAny_pure ?_)))))
 refine wpAny_bind (wpAny_newObj_type (wpAny_pure ⟨_,rfl,"set_iterator",_,⟨_,Heap.get?_push_size _ rfl,rfl⟩,iJ.lookup,q⟩))
theorem wo {Q:List Value->Shared->Prop} (hh:A.handled=none) (ho:s.heap.get? S=some (rkO a b c ep (!w.params.followText "set-order")))
  (q:∀(s':Shared) (acc:Array Value),s'.gens=s.gens->s'.drawn=s.drawn->s'.os=s.os->(∀b o,s.heap.get? b=some o->s'.heap.get? b=some o)->s.heap.objs.size <= s'.heap.objs.size->acc.toList=(rkW (w.params.followText "set-order") (w.params.setOrder S ep) a b c).toList.map (·.2)->Q acc.toList s'):wpAny (model prog w) A (collect (.ref S)) Q E s:=by
 have lS:S < s.heap.objs.size:=Heap.lt_size ho
 unfold collect
 refine wpAny_bind (wpAny_runValue (codeAny_builtin PySem.F.entry_proto_collect ?_))
 rw [Around.under_plainId PySem.F.plain_proto_collect _]
 refine wpAny_bind (m:=newList []) (wpAny_newObj_type ?_)
 refine wpAny_pure ⟨plainId_quiet PySem.F.plain_list_iadd _,codeAny_builtin PySem.F.entry_list_iadd ?_⟩
 rw [Around.under_plainId PySem.F.plain_list_iadd _]
 show wpAny _ A.in1 (Builtin.List.listExtendWith (.ref s.heap.objs.size) (.ref S) (.ref s.heap.objs.size)) _ _ _
 have h1:(s.heap.push { cls:=.type "list",data:=.seq ([]:List Value).toArray }).get? S=some (rkO a b c ep (!w.params.followText "set-order")):=Heap.get?_push_of_some _ ho
 have h0:(s.heap.push { cls:=.type "list",data:=.seq ([]:List Value).toArray }).get? s.heap.objs.size=some { cls:=.type "list",data:=.seq ([]:List Value).toArray }:=Heap.get?_push_size _ rfl
 have z1:(s.heap.push { cls:=.type "list",data:=.seq ([]:List Value).toArray }).objs.size=s.heap.objs.size + 1:=Heap.size_push ..
 generalize hH:s.heap.push { cls:=.type "list",data:=.seq ([]:List Value).toArray }=H at h1 h0 z1 ⊢
 have ty:Shared.TypeIs { s with heap:=H } (.ref S) "set":=⟨_,h1,rfl⟩
 unfold Builtin.List.listExtendWith
 refine wpAny_bind (wpAny_typeOf ty ?_)
 have k1:Builtin.List.listSameRef (.ref s.heap.objs.size) (.ref S)=false:=by simp [Builtin.List.listSameRef,Nat.ne_of_gt lS]
 have k2:(Value.type "set" == Value.type "list")=false:=by decide
 have k3:(Value.type "set" == Value.type "tuple")=false:=by decide
 simp only [k1,k2,k3,Bool.or_false,Bool.false_eq_true,if_false]
 refine wpAny_bind (BF h1 ?_)
 have h1':=Heap.get?_push_of_some (itO 0 0 S (b4 a b c).size ep) h1
 have ty':Shared.TypeIs { s with heap:=H.push (itO 0 0 S (b4 a b c).size ep) } (.ref S) "set":=⟨_,h1',rfl⟩
 refine wpAny_bind (wpAny_holding ?_)
 unfold Builtin.List.listLengthHint
 refine wpAny_bind (wpAny_specialOf ty' vO ?_)
 wp_delta
 refine wpAny_bind (wpAny_isInstance (b:=true) ty' (by rw [isSubtype_type];kernel_rfl) ?_)
 show wpAny _ A.in1 (typeOf (Value.ref S) >>= _) _ _ _
 refine wpAny_bind (wpAny_typeOf ty' (wpAny_pure ?_))
 show wpAny _ A.in1 (rule "list.extend.makes-room" >>= fun _=>Builtin.List.listTouch (.ref s.heap.objs.size) >>= fun _=>again (.builtin "list.extend.loop" ⟨[.ref s.heap.objs.size,.ref H.objs.size,.ref s.heap.objs.size],[]⟩)) _ _ _
 refine wpAny_bind (wpAny_rule (wpAny_bind ?_))
 have h0':=Heap.get?_push_of_some (itO 0 0 S (b4 a b c).size ep) h0
 have hI:(H.push (itO 0 0 S (b4 a b c).size ep)).get? H.objs.size=some (itO 0 0 S (b4 a b c).size ep):=Heap.get?_push_size _ rfl
 generalize hH2:H.push (itO 0 0 S (b4 a b c).size ep)=H2 at h0' hI h1' ⊢
 show wpAny _ A.in1 (updateSeq s.heap.objs.size (·.push .none) >>= fun _=>updateSeq s.heap.objs.size (·.pop)) _ _ _
 refine wpAny_bind (wpAny_updateSeq h0' rfl ?_)
 have g2:=Heap.get?_update_self (Obj.mapSeq (·.push Value.none)) h0' rfl
 refine wpAny_updateSeq (hz:=by seq_fits) g2 rfl ?_
 have g3:=Heap.get?_update_self (Obj.mapSeq (·.pop)) g2 rfl
 have oth:∀b o,b ≠ s.heap.objs.size->H2.get? b=some o->((H2.update s.heap.objs.size (Obj.mapSeq (·.push Value.none))).update s.heap.objs.size (Obj.mapSeq (·.pop))).get? b=some o:=fun b o hb e=>(Heap.get?_update_other _ _ (Ne.symm hb)).trans ((Heap.get?_update_other _ _ (Ne.symm hb)).trans e)
 have nS:S ≠ s.heap.objs.size:=Nat.ne_of_lt lS
 have nI:H.objs.size ≠ s.heap.objs.size:=by rw [z1];exact Nat.succ_ne_self _
 have nSI:S ≠ H.objs.size:=by rw [z1];exact Nat.ne_of_lt (Nat.lt_succ_of_lt lS)
 have e0:gY (w.params.followText "set-order") a b c 0=0:=by unfold gY;split <;> rfl
 have W:=Ar (prog:=prog) (w:=w) (A:=A.in1) (a:=a) (b:=b) (c:=c) (ep:=ep) (by simp [hh]) H.objs.size nSI
 refine wpAny_pure ⟨plainId_quiet PySem.F.plain_extend_loop _,codeAny_extend_loopS W.toS (Nat.le_trans (gE a b c) (by decide)) _ ?_ _ (b4 a b c).size 0 _ _ _ rfl (Nat.zero_le _) ⟨?_,oth _ _ nS h1'⟩ g3 (ItemsOf.nil _) fun s' acc' c' mv hL hacc=>?_⟩
 ·simp only [List.mem_cons,List.not_mem_nil,or_false,not_or]
  exact ⟨nI.symm,nS.symm⟩
 ·rw [e0]
  exact oth _ _ nI hI
 ·show wpAny _ A (load s.heap.objs.size >>= _) _ _ s'
  refine wpAny_bind (wpAny_load hL (wpAny_pure ?_))
  have old:∀b o,s.heap.get? b=some o->s'.heap.get? b=some o:=fun b o e=>by
   have lt:=Heap.lt_size e
   refine mv.heap b o (fun m=>?_) (oth b o (Nat.ne_of_lt lt) (by rw [<- hH2,<- hH];exact Heap.get?_push_of_some _ (Heap.get?_push_of_some _ e)))
   simp only [List.mem_cons,List.not_mem_nil,or_false] at m
   rcases m with m | m
   ·exact absurd lt (by rw [m];exact Nat.lt_irrefl _)
   ·rw [m,z1] at lt
    exact absurd lt (Nat.not_lt.mpr (Nat.le_succ _))
  refine q s' acc' mv.gens mv.drawn mv.os old ?_ ?_
  ·exact Nat.le_of_lt (Heap.lt_size hL)
  ·refine List.ext_getElem? fun i=>?_
   rw [List.getElem?_map,Array.getElem?_toList,Array.getElem?_toList]
   cases e:acc'[i]? with
   | some v=>exact (hacc.2 i v e).symm
   | none =>
    have:=Array.getElem?_eq_none_iff.mp e
    rw [Array.getElem?_eq_none (by rw [md,<- hacc.1];exact this)]
    rfl
theorem x9 {ns:List Int}{Q:Value->Shared->Prop} (hh:A.handled=none) (ho:s.heap.get? S=some (rkO a b c ep (!w.params.followText "set-order"))) (hn:IntsAre ((rkW (w.params.followText "set-order") (w.params.setOrder S ep) a b c).toList.map (·.2)) ns)
  (q:∀(h':Heap) (tk:Nat) (L e:Addr) (out:Array Value) (ns':List Int),(∀b o,s.heap.get? b=some o->h'.get? b=some o)->s.heap.objs.size <= L->h'.get? L=some (seqObj "list" out e)->IntsAre out.toList ns'->ns'.Perm ns->ns'.Pairwise (· <= ·)->Q (.ref L) { s with heap:=h',toks:=tk }) :
  wpAny (model prog w) A (call (.builtin "sorted") [.ref S]) Q E s:=by
 refine Calls.call_function_entry kind_sorted plain_sorted entry_sorted (args_sorted1 _) ?_
 unfold Builtin.«sorted»
 refine wpAny_bind (m:=checkCount "sorted" 1 1 _) (wpAny_pure ?_)
 refine wpAny_bind (wo (by simp [hh]) ho fun s1 acc g1 g2 g3 old sz hacc=>?_)
 obtain ⟨h1,gn,dr,tk,os⟩:=s1
 obtain rfl:gn=s.gens:=g1
 obtain rfl:dr=s.drawn:=g2
 obtain rfl:os=s.os:=g3
 rw [hacc]
 have l4:((rkW (w.params.followText "set-order") (w.params.setOrder S ep) a b c).toList.map (·.2)).length < 64:=by
  have h3:=gE a b c
  rw [List.length_map,Array.length_toList,md]
  omega
 generalize (rkW (w.params.followText "set-order") (w.params.setOrder S ep) a b c).toList.map (·.2)=vs at hn l4
 refine wpAny_bind (wpAny_newList ?_)
 have hL:(h1.push (seqObj "list" vs.toArray 0)).get? h1.objs.size=some (seqObj "list" vs.toArray 0):=Heap.get?_push_size _ rfl
 refine wpAny_bind (wpAny_holding (wpAny_call_entry slot_list_sort ⟨_,hL,rfl⟩ entry_list_sort (list_sort_tree hL hn l4 fun out ns' a1 a2 a3=>⟨_,rfl,?_⟩) (args_list_sort _)))
 have lt:h1.objs.size < (h1.push (seqObj "list" vs.toArray 0)).objs.size:=Heap.lt_size hL
 obtain ⟨e,he⟩:=sortedHeap_at (out:=out) hL
 refine wpAny_pure ⟨_,rfl,q (sortedHeap (h1.push (seqObj "list" vs.toArray 0)) h1.objs.size vs out) tk h1.objs.size e out ns' (fun b o hb=>?_) sz he a1 a2 a3⟩
 have hb1:=old b o hb
 have lb:=Heap.lt_size hb1
 exact (sortedHeap_old (Nat.ne_of_lt lb) (Nat.lt_trans lb lt)).trans (Heap.get?_push_of_some _ hb1)
end
end L2
namespace L2
open PySem PySem.Spec PyProof.Rows
theorem Paired.D6 {α β:Type}{F:α->β->Prop}{x:α}{y:β} (h:F x y):∀{a:List α}{b:List β},Paired F a b->Paired F (a ++ [x]) (b ++ [y])
 | _,_,.nil=>.cons h .nil
 | _,_,.cons r t=>.cons r (Paired.D6 h t)
theorem dA {α:Type}{K:W.Frag}{a:Addr}{xs:List V}{own:Nat}{fr:List Nat}{g:CB->TG}{tf:CB->TT}{te:CB->TE}{Q:VK}{σ:St}{H1:Hp} (src:List α) (p:α->Bool) (R:α->V->Hp->Prop) (hx:SqL K H1 a xs) (hl:xs.length=src.length) (hn:xs.length < sizeLine)
  (he:∀(b:CB) (i:Nat) (x:V) (e:α) (v0:St) (H:Hp) (N:St->Hp->Prop) (Y:St->V->Hp->Prop),xs[i]?=some x->src[i]?=some e->v0.length=own->aq H1 H ->
   (p e=false->∀v1 H',v1.length=own->aq H H'->N (v1 ++ cFr fr σ) H')->(p e=true->∀v1 y H',v1.length=own->aq H H'->R e y H'->Y (v1 ++ cFr fr σ) y H') ->
   g b x (v0 ++ cFr fr σ) H fun σ3 H3=>tf b σ3 H3 fun k H4=>if k=true then te b σ3 H4 fun y H5=>Y σ3 y H5 else N σ3 H4)
  (mono:∀e y H H',aq H H'->R e y H->R e y H') (st:∀e y H D ys zs,H D=some (.lst ys)->R e y H->R e y (upd H D (.lst zs)))
  (fin:∀D H ys,H1 D=none->aq H1 H->H D=some (.lst ys)->Paired (fun e y=>R e y H) (src.filter p) ys->Q (.ref D) H):tH (Itl K a) own fr g tf te Q σ H1:=by
 refine ⟨fun b D hD=>?_⟩
 refine ⟨fun i m σ' H'=>m=xs.length - i/\i <= xs.length/\(∃v0,σ'=v0 ++ cFr fr σ/\v0.length=own)/\aq H1 H'/\∃ys,H' D=some (.lst ys)/\ys.length <= i/\Paired (fun e y=>R e y H') ((src.take i).filter p) ys,⟨xs.length,rfl,Nat.zero_le _,⟨List.replicate own none,rfl,List.length_replicate ..⟩,aq.upd hD _,[],aw,Nat.le_refl _,.nil⟩,?_⟩
 rintro i m σ' H' ⟨rfl,hi,⟨v0,rfl,hv⟩,sm,ys,hL,hy,hR⟩
 by_cases hlt:i < xs.length
 ·have hs:i < src.length:=by omega
  refine .inr ⟨⟨xs,xs[i],sm.seq hx,List.getElem?_eq_getElem hlt⟩,fun σ2 H2=>(∃v0,σ2=v0 ++ cFr fr σ/\v0.length=own)/\aq H1 H2/\∃ys,H2 D=some (.lst ys)/\ys.length <= i + 1/\Paired (fun e y=>R e y H2) ((src.take (i + 1)).filter p) ys,fun σ2 H2 q=>⟨xs.length - (i + 1),by omega,rfl,hlt,q⟩,fun v H2 y=>?_⟩
  obtain ⟨rfl,y2⟩:=y
  have e:=y2 xs (sm.seq hx)
  have tk:src.take (i + 1)=src.take i ++ [src[i]]:=by rw [List.take_add_one,List.getElem?_eq_getElem hs];rfl
  refine he b i v src[i] v0 _ _ _ e (List.getElem?_eq_getElem hs) hv sm (fun pf v1 H3 h1 s3=>?_) (fun pt v1 y H3 h1 s3 r3=>?_)
  ·refine ⟨⟨v1,rfl,h1⟩,sm.trans s3,ys,s3 _ _ hL,by omega,?_⟩
   rw [tk,List.filter_append,List.filter_cons_of_neg (by rw [pf];exact Bool.false_ne_true),List.filter_nil,List.append_nil]
   exact Paired.mR hR fun e y z=>mono _ _ _ _ s3 z
  ·have hD4:=s3 _ _ hL
   refine ⟨ys,hD4,by omega,⟨v1,rfl,h1⟩,?_,ys ++ [y],aw,by simp;omega,?_⟩
   ·intro c o q
    by_cases hc:c=D
    ·rw [hc,hD] at q;cases q
    ·rw [aI hc];exact (sm.trans s3) c o q
   ·rw [tk,List.filter_append,List.filter_cons_of_pos pt,List.filter_nil]
    exact Paired.D6 (F:=fun e y'=>R e y' (upd H3 D (.lst (ys ++ [y])))) (st _ _ _ _ _ _ hD4 r3) (Paired.mR hR fun e y z=>st _ _ _ _ _ _ hD4 (mono _ _ _ _ s3 z))
 ·have e:i=xs.length:=by omega
  subst e
  rw [hl,List.take_length] at hR
  exact .inl ⟨⟨xs,sm.seq hx,Nat.le_refl _⟩,fin D H' ys hD sm hL hR⟩
end L2
namespace L2
open PySem PySem.Spec PyProof.Rows
theorem lN {K:W.Frag}{a:Addr}{xs:List V}{own:Nat}{fr:List Nat}{g:CB->TG}{tf:CB->TT}{te:CB->TE}{Q:VK}{σ:St}{H1:Hp} (Pv:Addr->Nat->List V->Hp->Prop) (hx:SqL K H1 a xs) (hn:xs.length < sizeLine) (h0:∀D,H1 D=none->Pv D 0 [] (upd H1 D (.lst [])))
  (he:∀(b:CB) (D:Addr) (i:Nat) (x:V) (v0:St) (H:Hp) (ys:List V) (N:St->Hp->Prop) (Y:St->V->Hp->Prop),xs[i]?=some x->v0.length=own->H1 D=none->aq H1 H->H D=some (.lst ys)->Pv D i ys H ->
   (∀v1 H',v1.length=own->aq H H'->Pv D (i + 1) ys H'->N (v1 ++ cFr fr σ) H')->(∀v1 y H',v1.length=own->aq H H'->Pv D (i + 1) (ys ++ [y]) (upd H' D (.lst (ys ++ [y])))->Y (v1 ++ cFr fr σ) y H') ->
   g b x (v0 ++ cFr fr σ) H fun σ3 H3=>tf b σ3 H3 fun k H4=>if k=true then te b σ3 H4 fun y H5=>Y σ3 y H5 else N σ3 H4)
  (fin:∀D H ys,H1 D=none->aq H1 H->H D=some (.lst ys)->Pv D xs.length ys H->Q (.ref D) H):tH (Itl K a) own fr g tf te Q σ H1:=by
 refine ⟨fun b D hD=>?_⟩
 refine ⟨fun i m σ' H'=>m=xs.length - i/\i <= xs.length/\(∃v0,σ'=v0 ++ cFr fr σ/\v0.length=own)/\aq H1 H'/\∃ys,H' D=some (.lst ys)/\ys.length <= i/\Pv D i ys H',⟨xs.length,rfl,Nat.zero_le _,⟨List.replicate own none,rfl,List.length_replicate ..⟩,aq.upd hD _,[],aw,Nat.le_refl _,h0 D hD⟩,?_⟩
 rintro i m σ' H' ⟨rfl,hi,⟨v0,rfl,hv⟩,sm,ys,hL,hy,hR⟩
 by_cases hlt:i < xs.length
 ·refine .inr ⟨⟨xs,xs[i],sm.seq hx,List.getElem?_eq_getElem hlt⟩,fun σ2 H2=>(∃v0,σ2=v0 ++ cFr fr σ/\v0.length=own)/\aq H1 H2/\∃ys,H2 D=some (.lst ys)/\ys.length <= i + 1/\Pv D (i + 1) ys H2,fun σ2 H2 q=>⟨xs.length - (i + 1),by omega,rfl,hlt,q⟩,fun v H2 y=>?_⟩
  obtain ⟨rfl,y2⟩:=y
  have e:=y2 xs (sm.seq hx)
  refine he b D i v v0 _ ys _ _ e hv hD sm hL hR (fun v1 H3 h1 s3 p3=>?_) (fun v1 y H3 h1 s3 p3=>?_)
  ·exact ⟨⟨v1,rfl,h1⟩,sm.trans s3,ys,s3 _ _ hL,by omega,p3⟩
  ·refine ⟨ys,s3 _ _ hL,by omega,⟨v1,rfl,h1⟩,?_,ys ++ [y],aw,by simp;omega,p3⟩
   intro c o q
   by_cases hc:c=D
   ·rw [hc,hD] at q;cases q
   ·rw [aI hc];exact (sm.trans s3) c o q
 ·have e:i=xs.length:=by omega
  subst e
  exact .inl ⟨⟨xs,sm.seq hx,Nat.le_refl _⟩,fin D H' ys hD sm hL hR⟩
end L2
namespace L2
open PySem PySem.Spec PyProof.Rows
def rk3 (ns:List Int):List Int:=[0,1,2].filter fun r=>decide (r ∈ ns)
theorem kW:∀{l:List (Int × Value)},(∀e ∈ l,∃t,e.2=Value.int e.1 t)->IntsAre (l.map (·.2)) (l.map (·.1))
 | [],_=>.nil
 | (n,v) :: l,h=>by
  obtain ⟨t,e⟩:=h (n,v) List.mem_cons_self
  have e:v=.int n t:=e
  subst e
  exact .cons _ _ (kW fun e he=>h e (List.mem_cons_of_mem _ he))
theorem CW (a b c:Option Tok):(∀e ∈ (b4 a b c).toList,∃t,e.2=Value.int e.1 t):=by
 intro e he
 cases a <;> cases b <;> cases c <;> simp [b4] at he <;> rcases he with rfl | rfl | rfl <;> exact ⟨_,rfl⟩
theorem A6 (ns:List Int) (r:Int):((List.range ns.length).any fun j=>decide (ns.getD j 0=r))=decide (r ∈ ns):=by
 rw [Bool.eq_iff_iff,List.any_eq_true,decide_eq_true_iff]
 constructor
 ·rintro ⟨j,hj,e⟩
  have hj:=List.mem_range.mp hj
  have e:=of_decide_eq_true e
  rw [List.getD_eq_getElem?_getD,List.getElem?_eq_getElem hj] at e
  exact e ▸ List.getElem_mem hj
 ·intro m
  obtain ⟨j,hj,e⟩:=List.getElem_of_mem m
  refine ⟨j,List.mem_range.mpr hj,decide_eq_true ?_⟩
  rw [List.getD_eq_getElem?_getD,List.getElem?_eq_getElem hj]
  exact e
theorem D7 {ns:List Int}{a b c:Option Tok} (h:Ai (fun i=>ns.getD i 0) ns.length a b c):(b4 a b c).toList.map (·.1)=rk3 ns:=by
 obtain ⟨h0,h1,h2⟩:=h
 rw [A6] at h0 h1 h2
 unfold rk3
 simp only [List.filter_cons,List.filter_nil,<- h0,<- h1,<- h2]
 cases a <;> cases b <;> cases c <;> rfl
theorem wG (ns:List Int):(rk3 ns).Pairwise (· <= ·):=List.Pairwise.filter _ (by decide)
theorem ou {a b:List Int} (p:a.Perm b) (h:a.Pairwise (· <= ·)) (h':b.Pairwise (· <= ·)):a=b:=p.eq_of_pairwise (fun _ _ _ _ x y=>Int.le_antisymm x y) h h'
theorem nz:∀{ns:List Int}{us:List Value},Vals (ns.map V.int) us->IntsAre us ns
 | [],_,h=>by cases h;exact .nil
 | n :: ns,_,h=>by
  cases h with
  | cons h r =>
   obtain ⟨t,rfl⟩:=h
   exact .cons _ _ (nz r)
section
variable {X:Cx}
theorem yr:dg X (.builtin "sorted") (fun xs H Q=>∃(p:Addr) (ns:List Int),xs=[.ref p]/\SqL X.K H p (ns.map V.int)/\ns.length < 64/\∀(l:Addr) (ns':List Int),ns'.Perm ns->ns'.Pairwise (· <= ·)->H l=none->Q (.ref l) (upd H l (.lst (ns'.map V.int)))):=by
 intro pins s σ H xs us Q I r h
 obtain ⟨p,ns,rfl,hq,hn,q⟩:=h
 obtain ⟨u,rfl,rx⟩:=vals1 r
 cases rx
 obtain ⟨its,rv,pl,hz⟩:=I.list hq
 have el:=rv.length
 rw [List.length_map] at el
 have hp:s.heap.objs.size <= s.heap.objs.size + 1:=Nat.le_succ _
 have hN:H (s.heap.objs.size + 1)=none:=I.hok.fresh hp
 refine sorted_ints pl.isList (nz rv) (by omega) fun out ns' a1 a2 a3=>⟨.ref (s.heap.objs.size + 1),_,I.laid (t':=s.toks) (fun b o e=>sortedAll_old e) hp ?_,rfl,q _ ns' a2 a3 hN⟩
 obtain ⟨e,he⟩:=sortedAll_at s.heap its out
 have l2:=(iy a1).length
 have l3:=a2.length_eq
 rw [List.length_map] at l2
 exact ⟨by rw [List.length_map];exact Nat.le_trans (show ns'.length <= 64 by omega) (by decide),out.toList,e,iy a1,by rw [Array.toArray_toList];exact he⟩
def vX (K:W.Frag) (t:TA):TE:=fun σ H Q=>t σ H fun xs H1=>∃(p:Addr) (ns:List Int),xs=[.ref p]/\SqL K H1 p (ns.map V.int)/\(∀n ∈ ns,n=0 \/ n=1 \/ n=2)/\∀l,H1 l=none->Q (.ref l) (upd H1 l (.lst ((rk3 ns).map V.int)))
theorem tB {e:Expr}{t:TA}{p p' pos pos':Pos} (hm:X.mg "sorted"=none) (hm':X.mg "set"=none) (ha:PA X [e] t) (hc:X.calm=true:=by rfl) (hg:Gl X "sorted":=by rfl) (hg':Gl X "set":=by rfl)
  (he:starEach [.Call (.Name "set" p') [e] [] pos'] X.env=(false,eval (.Call (.Name "set" p') [e] [] pos') X.env) :: starEach [] X.env:=by rfl) (hpl:(backTo pos (starEach [] X.env)).any (·.1)=false:=by rfl)
  (he':starEach [e] X.env=(false,eval e X.env) :: starEach [] X.env:=by rfl) (hpl':(backTo pos' (starEach [] X.env)).any (·.1)=false:=by rfl):PE X (.Call (.Name "sorted" p) [.Call (.Name "set" p') [e] [] pos'] [] pos) (vX X.K t):=by
 intro pins s σ H Q I h
 refine wpAny_Call_Name_kw (jo I hg hm (by boot_by_name) ?_)
 refine PyProof.Rows.callWith_builtin1 ?_ he hpl
 rw [he]
 show wpAny _ _ (spliced ((false,eval (.Call (.Name "set" p') [e] [] pos') X.env) :: backTo pos (starEach [] X.env))) _ _ s
 refine Calls.spliced_cons ?_
 refine wpAny_Call_Name_kw (jo I hg' hm' (by boot_by_name) ?_)
 refine PyProof.Rows.callWith_type1 (thn (ha pos' pins s σ H _ I h) fun us s1 ⟨vs,H1,I1,r1,q1⟩=>?_) he' hpl'
 obtain ⟨l,ns,rfl,hl,h3,q⟩:=q1
 obtain ⟨u,rfl,rx⟩:=vals1 r1
 cases rx
 obtain ⟨its,rv,pl,hz⟩:=I1.list hl
 have el:=rv.length
 rw [List.length_map] at el
 have hA:=I.ok.hd hc
 have iv:=nz rv
 refine uz (val:=fun i=>ns.getD i 0) hA pl.isList (fun i v hi=>?_) (fun i v hi=>?_) fun h' tk x y z ep hS rk old=>?_
 ·rw [List.getElem?_toArray] at hi
  obtain ⟨n,t,e,en⟩:=iv.at i v hi
  refine ⟨t,?_⟩
  rw [e]
  show _=Value.int (ns.getD i 0) t
  rw [List.getD_eq_getElem?_getD,en]
  rfl
 ·rw [List.getElem?_toArray] at hi
  obtain ⟨n,t,e,en⟩:=iv.at i v hi
  have:=h3 n (List.mem_of_getElem? en)
  rw [List.getD_eq_getElem?_getD,en]
  exact this
 have I2:Inv X pins σ H1 { s1 with heap:=h',toks:=tk }:=I1.kept fun b o e=>old b o (Heap.lt_size e) e
 show wpAny _ _ (spliced (backTo pos (starEach [] X.env))) _ _ _
 refine Calls.spliced_nil ?_
 have sz:its.toArray.size=ns.length:=by simp [el]
 rw [sz] at rk
 have hn:=kW (l:=(rkW (X.w.params.followText "set-order") (X.w.params.setOrder s1.heap.objs.size ep) x y z).toList) (fun e he=>CW x y z e ((List.Perm.mem_iff (qp _ _)).mp he))
 refine x9 hA hS hn fun h2 tk2 L e2 out ns' old2 sL hL ia pm pw=>?_
 have en:ns'=rk3 ns:=by
  refine ou ?_ pw (wG ns)
  rw [<- D7 rk]
  exact pm.trans (List.Perm.map _ (qp _ _))
 subst en
 have hf:H1 L=none:=I2.hok.fresh sL
 refine ⟨.ref L,upd H1 L (.lst ((rk3 ns).map V.int)),I2.laid (t':=tk2) old2 sL ?_,rfl,q L hf⟩
 have l3:(rk3 ns).length <= 3:=List.length_filter_le _ _
 exact ⟨by rw [List.length_map];exact Nat.le_trans l3 (by decide),out.toList,e2,iy ia,by rw [Array.toArray_toList];exact hL⟩
end
end L2
namespace L2
open PySem PySem.Spec PyProof.Rows
section
variable {prog:Program}{w:World}{A:Around}{E:Value->Shared->Prop}{s:Shared}
theorem wD {it t:Addr}{i:Nat}{its:Array Value}{x:Value}{Q:Value->Shared->Prop} (hi:s.heap.IsTupleIter it t i) (ht:s.heap.IsTuple t its) (hx:its[i]?=some x)
  (q:∀h',h'.IsTupleIter it t (i + 1)->Heap.SameBut it s.heap h'->Q x { s with heap:=h' }):wpAny (model prog w) A (Builtin.SmallTypes.nextOf (.ref it)) Q E s:=by
 obtain ⟨o,ho,hc,hd⟩:=id hi;obtain ⟨ol,hol,_,nl,hdl⟩:=ht;unfold Builtin.SmallTypes.nextOf
 refine wpAny_bind (wpAny_callSpecial?_slot (name:=Str.ofString "__next__") hi.typeIs PySem.F.slot_tuple_iterator_next (wpAny_call_entry PySem.F.slot_tuple_iterator_next hi.typeIs PySem.F.entry_tuple_iterator_next ?_ (PySem.F.args_tuple_iterator_next_1 _)))
 show wpAny _ _ (field (.ref it) 0 >>= _) _ _ s;refine wpAny_bind (wpAny_field ho hd (x:=.ref t) rfl ?_)
 have n:¬ ((Value.ref t == Value.none)=true):=Bool.false_ne_true
 show wpAny _ _ (if (Value.ref t == Value.none)=true then _ else _) _ _ s;rw [if_neg n]
 show wpAny _ _ (field (.ref it) 1 >>= _) _ _ s;refine wpAny_bind (wpAny_field ho hd (x:=.int i 0) rfl ?_)
 show wpAny _ _ (seqItems? (.ref t) >>= _) _ _ s;refine wpAny_bind (wpAny_seqItems hol hdl ?_)
 simp only [Int.toNat_natCast,hx]
 refine wpAny_bind (wpAny_setField ho hd (by simp) (wpAny_pure ⟨x,rfl,wpAny_pure (q _ ⟨_,Heap.get?_update_self _ ho (Obj.isFreed_of_fields (Obj.data_mapFields hd _)),(Obj.cls_mapFields ..).trans hc,?_⟩ (Heap.SameBut.update ..))⟩))
 rw [Obj.data_mapFields hd];simp [rawInt]
theorem yz {z TI TO i1 i2 l t:Addr}{k1 k2:Nat}{xs ys:Array Value}{x y a b:Value}{Q:Value->Shared->Prop} (D:ZipApart z TI TO i1 i2 l t) (hz:IsZip s.heap z TI TO .none) (hI:IsPair s.heap TI (.ref i1) (.ref i2)) (hO:IsPair s.heap TO a b)
  (h1:s.heap.IsListIter i1 l k1) (h2:s.heap.IsTupleIter i2 t k2) (hl:s.heap.IsList l xs) (ht:s.heap.IsTuple t ys) (hx:xs[k1]?=some x) (hy:ys[k2]?=some y)
  (q:∀h',IsZip h' z TI TO (rawInt s.heap.objs.size)->IsPair h' TO x y->h'.IsListIter i1 l (k1 + 1)->h'.IsTupleIter i2 t (k2 + 1)->IsPair h' s.heap.objs.size x y->h'.objs.size=s.heap.objs.size + 1 ->
   (∀c o,c ≠ z->c ≠ TO->c ≠ i1->c ≠ i2->s.heap.get? c=some o->h'.get? c=some o)->Q (.ref s.heap.objs.size) { s with heap:=h' }) :
  wpAny (model prog w) A (Builtin.«zip.__next__» ⟨[.ref z],[]⟩) (fun fin s'=>∃v,fin=.done (.ret v)/\Q v s') E s:=by
 show wpAny _ _ (field (.ref z) 2 >>= _) _ _ _;refine wpAny_bind (wpAny_field hz rfl (x:=.bool false) rfl ?_)
 show wpAny _ _ (field (.ref z) 3 >>= _) _ _ _;refine wpAny_bind (wpAny_field hz rfl (x:=.ref TI) rfl (wpAny_bind (wpAny_seqItems hI rfl ?_)))
 show wpAny _ _ (Builtin.SmallTypes.ownedTupleIsFree (.ref z) >>= _) _ _ _;refine wpAny_bind ?_;unfold Builtin.SmallTypes.ownedTupleIsFree
 refine wpAny_bind (wpAny_field hz rfl (x:=.none) rfl (wpAny_pure ?_));simp only [if_true]
 refine wpAny_bind (wpAny_rule (wpAny_bind (wpAny_field hz rfl (x:=.ref TO) rfl (wpAny_bind (wpAny_setField_rec hz (by simp) fun hA zA sA=>?_)))))
 replace zA:IsZip hA z TI TO .ellipsis:=zA
 refine wpAny_bind ?_;simp only [List.zipIdx_cons,List.zipIdx_nil,List.forIn_cons,List.forIn_nil]
 refine wpAny_bind (wpAny_bind (wpAny_onRaise ?_));show wpAny _ _ (Builtin.SmallTypes.nextOf (.ref i1) >>= _) _ _ _
 refine wpAny_bind (wpAny_nextOf_list_item (h1.extBut sA.extBut D.i1z) (hl.extBut sA.extBut D.l1z) hx fun hB iB sB=>wpAny_pure ?_)
 have oB:IsPair hB TO a b:=sB.extBut _ _ D.TOi1 (sA.extBut _ _ D.TOz hO)
 refine wpAny_bind (wpAny_seqItems oB rfl (wpAny_bind (wpAny_updateSeq_pair oB fun hC oC sC=>?_)))
 replace oC:IsPair hC TO x b:=oC
 refine wpAny_bind (wpAny_letGo (wpAny_pure (wpAny_bind (wpAny_bind (wpAny_onRaise ?_)))));show wpAny _ _ (Builtin.SmallTypes.nextOf (.ref i2) >>= _) _ _ _
 have j2:hC.IsTupleIter i2 t k2:=((h2.extBut sA.extBut D.i2z).extBut sB.extBut D.i12.symm).extBut sC.extBut D.TOi2.symm
 have u2:hC.IsTuple t ys:=((ht.extBut sA.extBut D.l2z).extBut sB.extBut D.l2i1).extBut sC.extBut D.l2TO
 refine wpAny_bind (wD j2 u2 hy fun hD iD sD=>wpAny_pure ?_)
 have oD:IsPair hD TO x b:=sD.extBut _ _ D.TOi2 oC
 refine wpAny_bind (wpAny_seqItems oD rfl (wpAny_bind (wpAny_updateSeq_pair oD fun hE' oE sE=>?_)))
 replace oE:IsPair hE' TO x y:=oE
 refine wpAny_bind (wpAny_letGo (wpAny_pure (wpAny_pure (wpAny_bind (wpAny_seqItems oE rfl (wpAny_bind (wpAny_newTuple ?_)))))))
 have sz:hE'.objs.size=s.heap.objs.size:=by rw [sE.1,sD.1,sC.1,sB.1,sA.1]
 have zE:IsZip hE' z TI TO .ellipsis:=sE.extBut _ _ D.TOz.symm (sD.extBut _ _ D.i2z.symm (sC.extBut _ _ D.TOz.symm (sB.extBut _ _ D.i1z.symm zA)))
 have kE:∀c o,c ≠ z->c ≠ TO->c ≠ i1->c ≠ i2->s.heap.get? c=some o->hE'.get? c=some o:=fun c o c1 c2 c3 c4 e=>sE.extBut _ _ c2 (sD.extBut _ _ c4 (sC.extBut _ _ c2 (sB.extBut _ _ c3 (sA.extBut _ _ c1 e))))
 have i1E:hE'.IsListIter i1 l (k1 + 1):=((iB.extBut sC.extBut D.TOi1.symm).extBut sD.extBut D.i12).extBut sE.extBut D.TOi1.symm
 have i2E:hE'.IsTupleIter i2 t (k2 + 1):=iD.extBut sE.extBut D.TOi2.symm
 have zl:z < hE'.objs.size:=Heap.lt_size zE
 show wpAny _ _ (Builtin.SmallTypes.ownedTupleHandOut (.ref z) (.ref hE'.objs.size) >>= _) _ _ _;refine wpAny_bind ?_;unfold Builtin.SmallTypes.ownedTupleHandOut
 have zF:IsZip (hE'.push { cls:=.type "tuple",data:=.seq #[x,y] }) z TI TO .ellipsis:=Heap.get?_push_of_some _ zE
 refine wpAny_bind (wpAny_setField_rec zF (by simp) fun hG zG sG=>?_)
 replace zG:IsZip hG z TI TO (rawInt hE'.objs.size):=zG
 refine wpAny_setField_rec zG (by simp) fun hJ zJ sJ=>?_
 replace zJ:IsZip hJ z TI TO (rawInt hE'.objs.size):=zJ
 have up:∀c o,c ≠ z->hE'.get? c=some o->hJ.get? c=some o:=fun c o c1 e=>sJ.extBut _ _ c1 (sG.extBut _ _ c1 (Heap.get?_push_of_some _ e))
 have tJ:IsPair hJ hE'.objs.size x y:=sJ.extBut _ _ (Nat.ne_of_gt zl) (sG.extBut _ _ (Nat.ne_of_gt zl) (Heap.get?_push_size _ rfl))
 have nJ:hJ.objs.size=hE'.objs.size + 1:=by rw [sJ.1,sG.1,Heap.size_push]
 rw [sz] at zJ tJ nJ
 refine wpAny_pure ⟨_,rfl,?_⟩;show Q (.ref hE'.objs.size) _;rw [sz]
 have i1J:hJ.IsListIter i1 l (k1 + 1):=i1E.at fun o e=>up _ o D.i1z e
 have i2J:hJ.IsTupleIter i2 t (k2 + 1):=by obtain ⟨o,e,r⟩:=i2E;exact ⟨o,up _ o D.i2z e,r⟩
 exact q hJ zJ (up _ _ D.TOz oE) i1J i2J tJ nJ fun c o c1 c2 c3 c4 e=>up c o c1 (kE c o c1 c2 c3 c4 e)
theorem Ab {z TI TO i1 i2 l:Addr}{k1:Nat}{xs:Array Value}{Q:Fin->Shared->Prop} (hh:A.handled=none) (n1:i1 ≠ z) (n2:l ≠ z) (hz:IsZip s.heap z TI TO .none) (hI:IsPair s.heap TI (.ref i1) (.ref i2)) (h1:s.heap.IsListIter i1 l k1) (hl:s.heap.IsList l xs) (hx:xs[k1]?=none)
  (q:∀h' e,(∀c o,c ≠ z->c ≠ i1->s.heap.get? c=some o->h'.get? c=some o)->(∃o,h'.get? e=some o/\o.cls=.type "StopIteration")->E (.ref e) { s with heap:=h' }):wpAny (model prog w) A (Builtin.«zip.__next__» ⟨[.ref z],[]⟩) Q E s:=by
 show wpAny _ _ (field (.ref z) 2 >>= _) _ _ _;refine wpAny_bind (wpAny_field hz rfl (x:=.bool false) rfl ?_)
 show wpAny _ _ (field (.ref z) 3 >>= _) _ _ _;refine wpAny_bind (wpAny_field hz rfl (x:=.ref TI) rfl (wpAny_bind (wpAny_seqItems hI rfl ?_)))
 show wpAny _ _ (Builtin.SmallTypes.ownedTupleIsFree (.ref z) >>= _) _ _ _;refine wpAny_bind ?_;unfold Builtin.SmallTypes.ownedTupleIsFree
 refine wpAny_bind (wpAny_field hz rfl (x:=.none) rfl (wpAny_pure ?_));simp only [if_true]
 refine wpAny_bind (wpAny_rule (wpAny_bind (wpAny_field hz rfl (x:=.ref TO) rfl (wpAny_bind (wpAny_setField_rec hz (by simp) fun hA zA sA=>?_)))))
 replace zA:IsZip hA z TI TO .ellipsis:=zA
 refine wpAny_bind ?_;simp only [List.zipIdx_cons,List.zipIdx_nil,List.forIn_cons,List.forIn_nil]
 refine wpAny_bind (wpAny_bind (wpAny_onRaise ?_));show wpAny _ _ (Builtin.SmallTypes.nextOf (.ref i1) >>= _) _ _ _
 refine wpAny_bind (wpAny_nextOf_list_end hh (h1.extBut sA.extBut n1) (hl.extBut sA.extBut n2) hx fun hB e sB he=>?_)
 obtain ⟨oe,ge,ce⟩:=he
 have zB:IsZip hB z TI TO .ellipsis:=sB _ _ n1.symm zA
 have ez:e ≠ z:=fun y=>by rw [y,zB] at ge;cases ge;simp at ce
 refine wpAny_setField_rec zB (by simp) fun hC _ sC=>q hC e (fun c o c1 c3 y=>sC.extBut _ _ c1 (sB _ _ c3 (sA.extBut _ _ c1 y))) ⟨oe,sC.extBut _ _ ez ge,ce⟩
theorem yI {z TI TO i1 i2 l t:Addr}{k1 k2:Nat}{xs ys:Array Value}{x y a b:Value}{Q:Option Value->Shared->Prop} (D:ZipApart z TI TO i1 i2 l t) (hz:IsZip s.heap z TI TO .none) (hI:IsPair s.heap TI (.ref i1) (.ref i2)) (hO:IsPair s.heap TO a b)
  (h1:s.heap.IsListIter i1 l k1) (h2:s.heap.IsTupleIter i2 t k2) (hl:s.heap.IsList l xs) (ht:s.heap.IsTuple t ys) (hx:xs[k1]?=some x) (hy:ys[k2]?=some y)
  (q:∀h',IsZip h' z TI TO (rawInt s.heap.objs.size)->IsPair h' TO x y->h'.IsListIter i1 l (k1 + 1)->h'.IsTupleIter i2 t (k2 + 1)->IsPair h' s.heap.objs.size x y->h'.objs.size=s.heap.objs.size + 1 ->
   (∀c o,c ≠ z->c ≠ TO->c ≠ i1->c ≠ i2->s.heap.get? c=some o->h'.get? c=some o)->Q (some (.ref s.heap.objs.size)) { s with heap:=h' }):wpAny (model prog w) A (pyNext (.ref z)) Q E s:=by
 have ty:s.TypeIs (.ref z) "zip":=⟨_,hz,rfl⟩
 unfold pyNext
 exact wpAny_bind (wpAny_attempt (wpAny_callSpecial?_slot (name:=Str.ofString "__next__") ty PySem.F.slot_zip_next (wpAny_call_entry PySem.F.slot_zip_next ty PySem.F.entry_zip_next (yz D hz hI hO h1 h2 hl ht hx hy fun h' a1 a2 a3 a4 a5 a6 a7=>wpAny_pure (q h' a1 a2 a3 a4 a5 a6 a7)) (PySem.F.args_zip_next_1 _))))
theorem yv {z TI TO i1 i2 l:Addr}{k1:Nat}{xs:Array Value}{Q:Option Value->Shared->Prop} (hh:A.handled=none) (n1:i1 ≠ z) (n2:l ≠ z) (hz:IsZip s.heap z TI TO .none) (hI:IsPair s.heap TI (.ref i1) (.ref i2)) (h1:s.heap.IsListIter i1 l k1) (hl:s.heap.IsList l xs) (hx:xs[k1]?=none)
  (q:∀h',(∀c o,c ≠ z->c ≠ i1->s.heap.get? c=some o->h'.get? c=some o)->Q none { s with heap:=h' }):wpAny (model prog w) A (pyNext (.ref z)) Q E s:=by
 have ty:s.TypeIs (.ref z) "zip":=⟨_,hz,rfl⟩
 unfold pyNext
 refine wpAny_bind (wpAny_attempt (wpAny_callSpecial?_slot (name:=Str.ofString "__next__") ty PySem.F.slot_zip_next (wpAny_call_entry PySem.F.slot_zip_next ty PySem.F.entry_zip_next (Ab hh n1 n2 hz hI h1 hl hx fun h' e hk he=>?_) (PySem.F.args_zip_next_1 _))))
 obtain ⟨o,ho,hc⟩:=he
 exact wpAny_bind (wpAny_isInstance (T:="StopIteration") (b:=true) ⟨o,ho,hc⟩ isSubtype_stop (wpAny_pure (q _ hk)))
end
end L2
namespace L2
open PySem PySem.Spec PyProof.Rows
def zt1 (h:Heap) (l:Addr):Heap:=h.push { cls:=.type "list_iterator",data:=.fields #[.ref l,.int 0 0] }
def zt2 (h:Heap) (l t:Addr):Heap:=(zt1 h l).push { cls:=.type "tuple_iterator",data:=.fields #[.ref t,.int 0 0] }
def zt3 (h:Heap) (l t:Addr):Heap:=(zt2 h l t).push { cls:=.type "tuple",data:=.seq #[.ref h.objs.size,.ref (zt1 h l).objs.size] }
def zt4 (h:Heap) (l t:Addr):Heap:=(zt3 h l t).push { cls:=.type "tuple",data:=.seq #[.none,.none] }
def zt5 (h:Heap) (l t:Addr):Heap:=(zt4 h l t).push { cls:=.type "zip",data:=.fields #[.none,.bool false,.bool false,.ref (zt2 h l t).objs.size,.ref (zt3 h l t).objs.size] }
theorem Cp (l t:Addr) (xs ys:Array Value):Meets (Builtin.«zip.__new__» ⟨[.type "zip",.ref l,.ref t],[]⟩) (fun _ R s=>s.heap.IsList l xs/\s.heap.IsTuple t ys/\R (.ok (.ret (.ref (zt4 s.heap l t).objs.size))) { s with heap:=zt5 s.heap l t }) :=
 .of_wp fun prog w A R s h=>by
  obtain ⟨hp,g,d,tk,os⟩:=s;obtain ⟨hl,ht,h⟩:=h
  have hsub:isSubtype (.type "zip") (.type "zip")=pure true:=by rw [isSubtype_type];kernel_rfl
  have hL:Heap.IsList (Shared.heap ⟨hp,g,d,tk,os⟩) l xs:=hl
  have hT:Heap.IsTuple (Shared.heap ⟨hp.push { cls:=.type "list_iterator",data:=.fields #[.ref l,.int 0 0] },g,d,tk,os⟩) t ys:=Heap.IsTuple.push ht _
  wp_walk using wpAny_pyIter_list hL,wpAny_pyIter_tuple hT
  exact ⟨_,rfl,h⟩
section
variable {prog:Program}{w:World}{A:Around}{E:Value->Shared->Prop}{s:Shared}
theorem yJ {l t:Addr}{xs ys:Array Value}{Q:Value->Shared->Prop} (hl:s.heap.IsList l xs) (ht:s.heap.IsTuple t ys)
  (q:∀h',IsZip h' (s.heap.objs.size + 4) (s.heap.objs.size + 2) (s.heap.objs.size + 3) .none->IsPair h' (s.heap.objs.size + 2) (.ref s.heap.objs.size) (.ref (s.heap.objs.size + 1)) ->
   IsPair h' (s.heap.objs.size + 3) .none .none->h'.IsListIter s.heap.objs.size l 0->h'.IsTupleIter (s.heap.objs.size + 1) t 0->(∀c o,s.heap.get? c=some o->h'.get? c=some o)->Q (.ref (s.heap.objs.size + 4)) { s with heap:=h' }) :
  wpAny (model prog w) A (call (.type "zip") [.ref l,.ref t]) Q E s:=by
 refine callType_new PySem.F.called_zip (by decide) (PySem.F.typeCall_zip_2 _ _) (PySem.F.newCall_zip_2 _ _) (fun obj=>PySem.F.args_object_init_3 obj _ _) PySem.F.entry_zip_new (Cp l t xs ys) ⟨hl,ht,?_⟩
 have n1:(zt1 s.heap l).objs.size=s.heap.objs.size + 1:=Heap.size_push ..
 have n2:(zt2 s.heap l t).objs.size=s.heap.objs.size + 2:=by unfold zt2;rw [Heap.size_push,n1]
 have n3:(zt3 s.heap l t).objs.size=s.heap.objs.size + 3:=by unfold zt3;rw [Heap.size_push,n2]
 have n4:(zt4 s.heap l t).objs.size=s.heap.objs.size + 4:=by unfold zt4;rw [Heap.size_push,n3]
 have up4:∀c o,(zt4 s.heap l t).get? c=some o->(zt5 s.heap l t).get? c=some o:=fun c o e=>Heap.get?_push_of_some _ e
 have up3:∀c o,(zt3 s.heap l t).get? c=some o->(zt5 s.heap l t).get? c=some o:=fun c o e=>up4 c o (Heap.get?_push_of_some _ e)
 have up2:∀c o,(zt2 s.heap l t).get? c=some o->(zt5 s.heap l t).get? c=some o:=fun c o e=>up3 c o (Heap.get?_push_of_some _ e)
 have up1:∀c o,(zt1 s.heap l).get? c=some o->(zt5 s.heap l t).get? c=some o:=fun c o e=>up2 c o (Heap.get?_push_of_some _ e)
 have g5:(zt5 s.heap l t).get? (zt4 s.heap l t).objs.size=some _:=Heap.get?_push_size _ rfl
 have g4:(zt5 s.heap l t).get? (zt3 s.heap l t).objs.size=some _:=up4 _ _ (Heap.get?_push_size _ rfl)
 have g3:(zt5 s.heap l t).get? (zt2 s.heap l t).objs.size=some _:=up3 _ _ (Heap.get?_push_size _ rfl)
 have g2:(zt5 s.heap l t).get? (zt1 s.heap l).objs.size=some _:=up2 _ _ (Heap.get?_push_size _ rfl)
 have g1:(zt5 s.heap l t).get? s.heap.objs.size=some _:=up1 _ _ (Heap.get?_push_size _ rfl)
 rw [n2,n3,n4] at g5;rw [n3] at g4;rw [n2,n1] at g3;rw [n1] at g2
 show _/\_
 rw [n4]
 exact ⟨⟨_,g5,rfl⟩,q _ g5 g3 g4 ⟨_,g1,rfl,rfl⟩ ⟨_,g2,rfl,rfl⟩ fun c o e=>up1 c o (Heap.get?_push_of_some _ e)⟩
end
end L2
namespace L2
open PySem PySem.Spec PyProof.Rows
section
variable {X:Cx}{pins:List (Addr × Obj)}{σ:St}{H:Hp}{s:Shared}
def yS (K:W.Frag) (a b:Addr):It :=
  ⟨fun i H=>∃xs ys x y,SqL K H a xs/\SqT K H b ys/\xs[i]?=some x/\ys[i]?=some y,
   fun i H v H'=>∃T x y,v=.ref T/\H T=none/\H'=upd H T (.tup [x,y])/\∀xs ys,SqL K H a xs->SqT K H b ys->xs[i]?=some x/\ys[i]?=some y,
   fun i H=>∃xs,SqL K H a xs/\xs.length <= i⟩
def Fj (z TI TO i1 i2 a b:Addr) (i:Nat) (h:Heap):Prop:=IsZip h z TI TO .none/\IsPair h TI (.ref i1) (.ref i2)/\(∃u v,IsPair h TO u v)/\h.IsListIter i1 a i/\h.IsTupleIter i2 b i
theorem pA {h h':Heap}{a t:Addr}{i:Nat} (x:h.IsTupleIter a t i) (k:∀o,h.get? a=some o->h'.get? a=some o):h'.IsTupleIter a t i:=by
 obtain ⟨o,e,r⟩:=x
 exact ⟨o,k o e,r⟩
theorem yP {P:Program}{w:World}{K:W.Frag}{elts:List Expr}{x1}{pos:Pos}{a b z TI TO i1 i2:Addr} (D:ZipApart z TI TO i1 i2 a b) :
  Turn P w K (.Tuple elts x1 pos) (yS K a b) [z,TI,TO,i1,i2] z (Fj z TI TO i1 i2 a b) where
 mem:=by simp
 obj:=fun i h st c hc=>by
  obtain ⟨hz,hI,⟨u,v,hO⟩,⟨o1,e1,_,d1⟩,⟨o2,e2,_,d2⟩⟩:=st;simp only [List.mem_cons,List.not_mem_nil,or_false] at hc
  rcases hc with rfl | rfl | rfl | rfl | rfl
  ·exact ⟨_,hz,(fun v q=>by cases (show Data.fields _=Data.cell v from q))⟩
  ·exact ⟨_,hI,(fun v q=>by cases (show Data.seq _ _=Data.cell v from q))⟩
  ·exact ⟨_,hO,(fun v q=>by cases (show Data.seq _ _=Data.cell v from q))⟩
  ·exact ⟨o1,e1,(fun v q=>by rw [d1] at q;cases q)⟩
  ·exact ⟨o2,e2,(fun v q=>by rw [d2] at q;cases q)⟩
 keep:=fun i h h' st k=>by
  obtain ⟨hz,hI,⟨u,v,hO⟩,h1,h2⟩:=st
  exact ⟨k z (by simp) _ hz,k TI (by simp) _ hI,⟨u,v,k TO (by simp) _ hO⟩,h1.at (fun o e=>k i1 (by simp) o e),pA h2 fun o e=>k i2 (by simp) o e⟩
 item:=by
  intro X hP hw hK hc i pins s σ H E I hf st hg
  subst hP hw hK
  obtain ⟨xs,ys,x,y,hq,hq',hx,hy⟩:=hg;obtain ⟨its,rv,p,_⟩:=I.list hq;obtain ⟨jts,rw',p',_⟩:=I.tuple hq'
  obtain ⟨u,hu,ru⟩:=rv.get hx;obtain ⟨v,hv,rv2⟩:=rw'.get hy;obtain ⟨hz,hI,⟨u0,v0,hO⟩,h1,h2⟩:=st
  have hT:=I.qC (H':=H) (Nat.le_refl s.heap.objs.size) (I.hok.fresh (Nat.le_refl _))
  have lt:∀{c:Addr}{o:Obj},s.heap.get? c=some o->s.heap.objs.size ≠ c:=fun e=>Nat.ne_of_gt (Heap.lt_size e)
  refine yI D hz hI hO h1 h2 p.isList p' (x:=u) (y:=v) (by simpa using hu) (by simpa using hv) fun h' a1 a2 a3 a4 a5 a6 a7=>?_
  have k7:∀c o,c ∉ [z,TI,TO,i1,i2]->s.heap.get? c=some o->h'.get? c=some o:=fun c o hc q=>a7 c o (fun e=>hc (by simp [e])) (fun e=>hc (by simp [e])) (fun e=>hc (by simp [e])) (fun e=>hc (by simp [e])) q
  have J1:Inv X pins σ H { s with heap:=h',toks:=s.toks }:=I.oP (ch:=[z,TI,TO,i1,i2]) hf k7
  have J2:=J1.B6 (u:=.tup [x,y]) hT I.sz ⟨by show 2 <= sizeLine;decide,[u,v],.cons ru (.cons rv2 .nil),⟨_,a5,rfl,_,rfl⟩⟩
  refine ⟨_,rfl,wpAny_letOwnedTupleGo_zip (s:={ s with heap:=h' }) a1 fun g hz2 hs2=>?_⟩
  have f0:=hf z (by simp)
  have gI:h'.get? TI=_:=a7 TI _ D.TIz D.TITO D.TIi1 D.TIi2 hI
  have zT:z ≠ s.heap.objs.size:=Ne.symm (lt hz)
  refine ⟨.ref s.heap.objs.size,_,J2.turned (t':=s.toks) (it:=z) (fun c o hc q=>(hs2.2 c hc).trans q) (by rw [aI zT];exact f0.1) f0.2.1 f0.2.2.2.1 f0.2.2.2.2.1 f0.2.2.2.2.2,rfl,⟨_,x,y,rfl,hT.1,rfl,fun xs' ys' q q'=>by rw [I.lQ q hq,I.rA q' hq'];exact ⟨hx,hy⟩⟩,?_,fun c hc=>?_⟩
  ·exact ⟨hz2,(hs2.2 TI D.TIz).trans gI,⟨u,v,(hs2.2 TO D.TOz).trans a2⟩,a3.at (fun o q=>(hs2.2 i1 D.i1z).trans q),pA a4 fun o q=>(hs2.2 i2 D.i2z).trans q⟩
  have cT:c ≠ s.heap.objs.size:=by
   simp only [List.mem_cons,List.not_mem_nil,or_false] at hc
   rcases hc with rfl | rfl | rfl | rfl | rfl
   ·exact zT
   ·exact Ne.symm (lt hI)
   ·exact Ne.symm (lt hO)
   ·obtain ⟨o,e,_⟩:=h1;exact Ne.symm (lt e)
   ·obtain ⟨o,e,_⟩:=h2;exact Ne.symm (lt e)
  rw [aI cT];exact (hf c hc).1
 done:=by
  intro X hP hw hK hc i pins s σ H E I hf st hg
  subst hP hw hK
  obtain ⟨xs,hq,hx⟩:=hg;obtain ⟨its,rv,p,_⟩:=I.list hq;obtain ⟨hz,hI,_,h1,_⟩:=st
  have hl:=rv.length
  refine yv (I.ok.hd hc) D.i1z D.l1z hz hI h1 p.isList (by simp;omega) fun h' eb=>⟨rfl,?_⟩
  exact I.oP (ch:=[z,TI,TO,i1,i2]) hf fun c o hc q=>eb c o (fun e=>hc (by simp [e])) (fun e=>hc (by simp [e])) q
 self:=fun _ _ _ _ _ st h=>wpAny_pyIter_zip st.1 h
def ED (K:W.Frag) (ta:TA):TI:=fun σ H R=>ta σ H fun vs H1=>∃a b,vs=[.ref a,.ref b]/\(∃xs,SqL K H1 a xs)/\(∃ys,SqT K H1 b ys)/\R (yS K a b) H1
theorem BM {a b:Expr}{ta:TA}{p pos:Pos}{elts:List Expr}{x1}{pos2:Pos} (hg:Gl X "zip") (hm:X.mg "zip"=none) (ha:PA X [a,b] ta) (he:starEach [a,b] X.env=(false,eval a X.env) :: starEach [b] X.env:=by rfl)
  (hpl:(backTo pos (starEach [b] X.env)).any (·.1)=false:=by rfl):PI X (.Tuple elts x1 pos2) (.Call (.Name "zip" p) [a,b] [] pos) (ED X.K ta):=by
 intro pins s σ H R I h
 refine Call_ (jo I hg hm rf (PyProof.Rows.callWith_type1 (thn (ha pos pins s σ H _ I h) fun us s1 ⟨vs,H1,I1,r1,q1⟩=>?_) he hpl))
 obtain ⟨a,b,e,⟨xs,hq⟩,⟨ys,hq'⟩,q⟩:=q1;subst e;obtain ⟨u,v,rfl,ru,rv⟩:=vals2 r1;cases ru;cases rv
 obtain ⟨its,rv1,p1,_⟩:=I1.list hq;obtain ⟨jts,rv2,p2,_⟩:=I1.tuple hq'
 have la:a < s1.heap.objs.size:=by obtain ⟨o,e,_⟩:=p1.isList;exact Heap.lt_size e
 have lb:b < s1.heap.objs.size:=by obtain ⟨o,e,_⟩:=p2;exact Heap.lt_size e
 refine yJ p1.isList p2 fun h' hz hI hO h1 h2 hk=>wpAny_pyIter_zip hz ?_
 refine ⟨s1.heap.objs.size + 4,[s1.heap.objs.size + 4,s1.heap.objs.size + 2,s1.heap.objs.size + 3,s1.heap.objs.size,s1.heap.objs.size + 1],_,_,H1,rfl,I1.kept (t':=s1.toks) hk,yP (zipApart_new la lb),⟨hz,hI,⟨_,_,hO⟩,h1,h2⟩,fun c hc=>?_,q⟩
 have le:s1.heap.objs.size <= c:=by
  simp only [List.mem_cons,List.not_mem_nil,or_false] at hc
  rcases hc with h | h | h | h | h <;> rw [h] <;> first | exact Nat.le_add_right _ _ | exact Nat.le_refl _
 exact I1.qC le (I1.hok.fresh le)
end
theorem zj {K:PySem.W.Frag}{a b:Addr}{xs ys:List V}{g:TG}{tb:TS}{D:Ends}{σ:St}{H:Hp} (Pv:Nat->St->Hp->Prop) (h0:Pv 0 σ H) (hl:∀i σ H,i <= xs.length->Pv i σ H->SqL K H a xs/\SqT K H b ys) (le:xs.length=ys.length)
  (st:∀i x y σ H T,xs[i]?=some x->ys[i]?=some y->Pv i σ H->H T=none->g (.ref T) σ (upd H T (.tup [x,y])) fun σ2 H2=>tb { D with nx:=Pv (i + 1),ct:=Pv (i + 1),bk:=D.nx } σ2 H2) (fin:∀σ H,Pv xs.length σ H->D.nx σ H) :
  ∃W:Nat->Nat->St->Hp->Prop,(∃m,W 0 m σ H)/\∀i m σ H,W i m σ H ->
   ((yS K a b).stop i H/\D.nx σ H) \/ ((yS K a b).go i H/\∃N:St->Hp->Prop,(∀σ' H',N σ' H'->∃m',m' < m/\W (i + 1) m' σ' H')/\∀x H',(yS K a b).yld i H x H'->g x σ H' fun σ2 H2=>tb { D with nx:=N,ct:=N,bk:=D.nx } σ2 H2):=by
 refine ⟨fun i m σ H=>m=xs.length - i/\i <= xs.length/\Pv i σ H,⟨xs.length,by simp,Nat.zero_le _,h0⟩,?_⟩
 rintro i m σ H ⟨rfl,hi,p⟩
 obtain ⟨q,q'⟩:=hl i σ H hi p
 by_cases c:i < xs.length
 ·have c':i < ys.length:=by omega
  refine .inr ⟨⟨xs,ys,xs[i],ys[i],q,q',by simp [c],by simp [c']⟩,Pv (i + 1),fun σ' H' p'=>⟨xs.length - (i + 1),by omega,rfl,c,p'⟩,fun v H' y=>?_⟩
  obtain ⟨T,x,y,rfl,hT,rfl,h⟩:=y
  obtain ⟨e1,e2⟩:=h xs ys q q'
  exact st i x y σ _ T e1 e2 p hT
 ·have e:i=xs.length:=by omega
  subst e
  exact .inl ⟨⟨xs,q,Nat.le_refl _⟩,fin σ H p⟩
end L2
namespace K50
open PySem L2
theorem scM {N P:List Str}{sc:Scope} (k:sc.kind=.function:=by rfl) (c:sc.isCoroutine=false:=by rfl) (g:sc.isGenerator=false:=by rfl) (n:N.Nodup:=by decide +kernel) (p:N.take P.length=P:=by rfl) (q:∀x ∈ P,sc.names.lookup x=some .local \/ sc.names.lookup x=some .cell:=by decide +kernel) (f:∀y ∈ sc.names,y.2 ≠ .free:=by decide +kernel):az N P sc:=⟨k,c,g,n,p,q,f⟩
theorem px {X:Cx}{a b:Expr}{ta tb:TE}{pos:Pos} (hu:X.A.units + 64 < cLine) (ha:PE X a ta) (hb:PE X b tb) (hs:xS b:=by exact fun _ _=>rfl):PE X (.Subscript a b pos) (tOp (EK X.K) ta tb):=Ei (Dl hu) ha hb hs
theorem pgn {X:Cx}{pos:Pos}{i:Nat}{x:Str} (hN:X.N.Nodup) (hi:X.N[i]?=some x) (hx:Loc X.env.scope x:=by first | exact Or.inl rfl | exact Or.inr rfl) (hf:X.fn x=true \/ X.env.scope.names.lookup x=some .local:=by first | exact .inl rfl | exact .inr rfl | assumption):PG X (.Name x pos) (kY i):=xg hN hi hx hf
theorem pst {X:Cx} (i:Nat) {x:Str}{e:Expr}{te:TE}{pos pos':Pos} (hN:X.N.Nodup) (he:PE X e te) (hi:X.N[i]?=some x:=by rfl) (hx:Loc X.env.scope x:=by first | exact Or.inl rfl | exact Or.inr rfl) (hs:swapsWith e (some (.Name x pos')) pos.line X.env=pure false:=by rfl) (hf:X.fn x=true \/ X.env.scope.names.lookup x=some .local:=by first | exact .inl rfl | exact .inr rfl | assumption):PS X (.Assign [.Name x pos'] e pos) (BN te (kY i)):=DJ hN hi hx he hs hf
theorem pcB {X:Cx}{id:String}{r:List V->Hp->VK->Prop}{x:Str}{e:Expr}{es:List Expr}{t:TA}{p pos:Pos} (hc:dg X (.builtin id) r) (hm:X.mg x=none) (ha:PA X (e :: es) t) (hg:Gl X x:=by rfl) (hv:bootBuiltins x=some (.builtin id):=by boot_by_name) (hn:x ≠ "__name__":=by decide) (hdb:(x == ("__debug__":Str))=false:=by decide) (he:starEach (e :: es) X.env=(false,eval e X.env) :: starEach es X.env:=by rfl) (hpl:(backTo pos (starEach es X.env)).any (·.1)=false:=by rfl):PE X (.Call (.Name x p) (e :: es) [] pos) (tCB r t):=zN hc hg hm hv ha hn hdb he hpl
theorem pcT {X:Cx}{T:String}{r:List V->Hp->VK->Prop}{x:Str}{e:Expr}{es:List Expr}{t:TA}{p pos:Pos} (hc:dg X (.type T) r) (hm:X.mg x=none) (ha:PA X (e :: es) t) (hg:Gl X x:=by rfl) (hv:bootBuiltins x=some (.type T):=by boot_by_name) (hn:x ≠ "__name__":=by decide) (hdb:(x == ("__debug__":Str))=false:=by decide) (he:starEach (e :: es) X.env=(false,eval e X.env) :: starEach es X.env:=by rfl) (hpl:(backTo pos (starEach es X.env)).any (·.1)=false:=by rfl):PE X (.Call (.Name x p) (e :: es) [] pos) (tCB r t):=yy hc hg hm hv ha hn hdb he hpl
theorem ptc {X:Cx}{a b:Expr}{ta tb:TE}{pos:Pos}{op:CmpOp}{r:R2} (ho:OpR X (compareOp op) r) (ha:PE X a ta) (hb:PE X b tb) (hm:behindInMarks op b=false:=by exact zC _):PT X (.Compare a [op] [b] pos) (Cf (tOp r ta tb)):=Bz ho ha hb hm
theorem pec {X:Cx}{a b:Expr}{ta tb:TE}{pos:Pos}{op:CmpOp}{r:R2} (ho:OpR X (compareOp op) r) (ha:PE X a ta) (hb:PE X b tb) (hm:behindInMarks op b=false:=by exact zC _):PE X (.Compare a [op] [b] pos) (tOp r ta tb):=A4 ho ha hb hm
abbrev vY:Stmt:=top 2
theorem Bj:az ["rank"] ["rank"] (ak vY):=scM
abbrev p7:Stmt:=top 3
theorem yb:az ["one","other"] ["one","other"] (ak p7):=scM
abbrev ze:Stmt:=top 4
theorem Dz:az ["bits"] ["bits"] (ak ze):=scM
abbrev vZ:Stmt:=top 5
theorem Bq:az ["bits","rank"] ["bits","rank"] (ak vZ):=scM
abbrev k9:Stmt:=top 7
theorem kh:az ["value","names","thing"] ["value"] (ak k9):=scM
abbrev mF:Stmt:=top 26
theorem ql:az ["rows","known"] ["rows","known"] (ak mF):=scM
abbrev gP:Stmt:=top 27
theorem f9:az ["row","known","one","other"] ["row","known"] (ak gP):=scM
abbrev lE:Stmt:=top 28
theorem cM:az ["rows","known","steps","row","more"] ["rows","known"] (ak lE):=scM
abbrev fO:Stmt:=top 29
theorem oh:az ["row","known"] ["row","known"] (ak fO):=scM
abbrev lJ:Stmt:=top 30
theorem uG:az ["steps"] ["steps"] (ak lJ):=scM
abbrev gQ:Stmt:=top 31
theorem fK:az ["row","known","one","other"] ["row","known"] (ak gQ):=scM
abbrev fh:Stmt:=top 32
theorem iu:az ["row","known","steps"] ["row","known"] (ak fh):=scM
abbrev k0:Stmt:=top 33
theorem va:az ["row","known"] ["row","known"] (ak k0):=scM
abbrev tL:Stmt:=top 34
theorem qe:az ["program","known","deed"] ["program"] (ak tL):=scM
abbrev pY:Stmt:=top 35
theorem mM:az ["program","known","deed"] ["program"] (ak pY):=scM
abbrev jT:Stmt:=top 38
theorem sv:az ["number"] ["number"] (ak jT):=scM
abbrev jM:Stmt:=top 39
theorem fC:az ["rows","place","loop","found","row"] ["rows","place","loop"] (ak jM):=scM
abbrev gU:Stmt:=top 40
theorem km:az ["row","loop","here"] ["row","loop"] (ak gU):=scM
abbrev gw:Stmt:=top 41
theorem fu:az ["program","found","deed"] ["program"] (ak gw):=scM
abbrev lG:Stmt:=top 42
theorem u9:az ["row"] ["row"] (ak lG):=scM
abbrev hZ:Stmt:=top 43
theorem fX:az ["heads","found","head"] ["heads"] (ak hZ):=scM
abbrev o5:Stmt:=top 44
theorem fI:az ["program","found","deed","row","place","loop"] ["program"] (ak o5):=scM
abbrev sT:Stmt:=top 46
theorem AM:az ["froms","into","kind","number"] ["froms","into","kind","number"] (ak sT):=scM
abbrev jY:Stmt:=top 47
theorem mf:az ["row","place","loop","parts_of","here"] ["row","place","loop","parts_of"] (ak jY):=scM
abbrev i5:Stmt:=top 48
theorem qF:az ["row","place","found"] ["row","place"] (ak i5):=scM
abbrev gk:Stmt:=top 49
theorem cR:az ["row","place","parts","found","thing","part","into"] ["row","place","parts"] (ak gk):=scM
abbrev i9:Stmt:=top 50
theorem qH:az ["row","known","here"] ["row","known"] (ak i9):=scM
abbrev rQ:Stmt:=top 51
theorem fP:az ["program","steps","parts_of","known","found","row","place","loop"] ["program","steps"] (ak rQ):=scM
abbrev mQ:Stmt:=top 53
theorem wH:az ["program"] ["program"] (ak mQ):=scM
abbrev i8:Stmt:=top 54
theorem qL:az ["program","rank"] ["program","rank"] (ak i8):=scM
abbrev mJ:Stmt:=top 55
theorem k6:az ["program","steps","ways","link"] ["program","steps"] (ak mJ):=scM
abbrev lF:Stmt:=top 56
theorem df:az ["ways","starts","came","waiting","at","here","link"] ["ways","starts"] (ak lF):=scM
abbrev sg:Stmt:=top 57
theorem ke:az ["program","steps","ways","bits","rank","place"] ["program","steps"] (ak sg):=scM
abbrev iR:Stmt:=top 59
theorem cX:az ["program","floor","bits","found","row","place","loop"] ["program","floor"] (ak iR):=scM
abbrev pQ:Stmt:=top 60
theorem rn:az ["program","floor","known"] ["program","floor"] (ak pQ):=scM
abbrev qa:Stmt:=top 61
theorem iq:az ["program","floor","above","known","heads","deeds"] ["program","floor"] (ak qa):=scM
abbrev kj:Stmt:=top 62
theorem sI:az ["head"] ["head"] (ak kj):=scM
abbrev jS:Stmt:=top 63
theorem tq:az ["deed","above","known"] ["deed","above","known"] (ak jS):=scM
abbrev ip:Stmt:=top 64
theorem gu:az ["rows","above","known"] ["rows","above","known"] (ak ip):=scM
abbrev iN:Stmt:=top 65
theorem qD:az ["row","above","known"] ["row","above","known"] (ak iN):=scM
abbrev i6:Stmt:=top 66
theorem qz:az ["row"] ["row"] (ak i6):=scM
abbrev kq:Stmt:=top 67
theorem bW:az ["row","above","known","left","right","one","other","greater","first"] ["row","above","known"] (ak kq):=scM
abbrev ic:Stmt:=top 68
theorem cB:az ["row","above","known","left","right","steps"] ["row","above","known"] (ak ic):=scM
abbrev hE:Stmt:=top 70
theorem pB:az ["_law_script","_law_k"] ["_law_script","_law_k"] (ak hE):=scM
abbrev j9:Stmt:=top 71
theorem so:az ["_law_at","_law_many"] ["_law_at","_law_many"] (ak j9):=scM
abbrev jA:Stmt:=top 72
theorem fE:az ["_law_script","_law_k","_law_one","_law_other","_law_cell","_law_left","_law_right"] ["_law_script","_law_k","_law_one","_law_other"] (ak jA):=scM
abbrev o8:Stmt:=top 73
theorem yn:az ["_law_at","_law_value_here","_law_many","_law_idles_here"] ["_law_at","_law_value_here","_law_many","_law_idles_here"] (ak o8):=scM
abbrev lh:Stmt:=top 74
theorem nM:az ["_law_idles_here","_law_one","_law_other","_law_high","_law_both"] ["_law_idles_here","_law_one","_law_other","_law_high"] (ak lh):=scM
abbrev ju:Stmt:=top 75
theorem rP:az ["_law_cell"] ["_law_cell"] (ak ju):=scM
abbrev eK:Stmt:=top 76
theorem dS:az ["_law_row","_law_due","_law_found","_law_one"] ["_law_row","_law_due"] (ak eK):=scM
abbrev eI:Stmt:=top 77
theorem dU:az ["_law_rows","_law_at","_law_many","_law_k","_law_row"] ["_law_rows","_law_at","_law_many"] (ak eI):=scM
abbrev eJ:Stmt:=top 78
theorem mh:az ["_law_row","_law_at","_law_value_here","_law_many","_law_idles_here"] ["_law_row","_law_at","_law_value_here","_law_many","_law_idles_here"] (ak eJ):=scM
abbrev jD:Stmt:=top 79
theorem tT:az ["_law_program","_law_floor","_law_default"] ["_law_program","_law_floor","_law_default"] (ak jD):=scM
abbrev jN:Stmt:=top 80
theorem cO:az ["_law_script","_law_heads","_law_many","_law_floor","_law_high","_law_value_here","_law_idles_here","_law_program","_law_rows","_law_made","_law_due"] ["_law_script","_law_heads","_law_many","_law_floor","_law_high"] (ak jN):=scM
abbrev gO:Stmt:=top 81
theorem b3:az ["_law_script","_law_heads","_law_many","_law_floor","_law_high","_law_rounds","_law_idles_here","_law_program","_law_rows","_law_made","_law_row"] ["_law_script","_law_heads","_law_many","_law_floor","_law_high"] (ak gO):=scM
abbrev h9:Stmt:=top 82
theorem aS:az ["_law_script","_law_heads","_law_many","_law_floor","_law_high","_law_idles_here","_law_inner","_law_long","_law_outer","_law_at","_law_deed","_law_program","_law_rows","_law_made","_law_uneven_inner","_law_due","_law_within","_law_row","_law_call"] ["_law_script","_law_heads","_law_many","_law_floor","_law_high"] (ak h9):=scM
abbrev pI:Stmt:=top 83
theorem nj:az ["_law_script","_law_rank","_law_floor","_law_many","_law_way","_law_heads"] ["_law_script"] (ak pI):=scM
abbrev eh:Stmt:=inClass (top 10) 0
theorem vc:az ["self","number"] ["self","number"] (ak eh):=scM
abbrev gc:Stmt:=inClass (top 11) 0
theorem nX:az ["self","number","name","rank"] ["self","number","name","rank"] (ak gc):=scM
abbrev fk:Stmt:=inClass (top 12) 0
theorem mN:az ["self","number","name","rank","size"] ["self","number","name","rank","size"] (ak fk):=scM
abbrev gT:Stmt:=inClass (top 13) 0
theorem pW:az ["self","number","name","size"] ["self","number","name","size"] (ak gT):=scM
abbrev ig:Stmt:=inClass (top 14) 0
theorem qm:az ["self","number","name","rank"] ["self","number","name","rank"] (ak ig):=scM
abbrev gX:Stmt:=inClass (top 15) 0
theorem o7:az ["self","number","name","value"] ["self","number","name","value"] (ak gX):=scM
abbrev g6:Stmt:=inClass (top 16) 0
theorem oX:az ["self","number","name","place","value"] ["self","number","name","place","value"] (ak g6):=scM
abbrev fN:Stmt:=inClass (top 17) 0
theorem nW:az ["self","number","name","value"] ["self","number","name","value"] (ak fN):=scM
abbrev ff:Stmt:=inClass (top 17) 2
theorem mZ:az ["self"] ["self"] (ak ff):=scM
abbrev hX:Stmt:=inClass (top 18) 0
theorem pG:az ["self","number","name","value","mark"] ["self","number","name","value","mark"] (ak hX):=scM
abbrev fQ:Stmt:=inClass (top 19) 0
theorem og:az ["self","number","name","things"] ["self","number","name","things"] (ak fQ):=scM
abbrev iY:Stmt:=inClass (top 21) 0
theorem qI:az ["self","number","value","first","other","left","right"] ["self","number","value","first","other","left","right"] (ak iY):=scM
abbrev g9:Stmt:=inClass (top 21) 2
theorem p8:az ["self"] ["self"] (ak g9):=scM
abbrev fZ:Stmt:=inClass (top 22) 0
theorem nP:az ["self","number","thing","most","body","left","right"] ["self","number","thing","most","body","left","right"] (ak fZ):=scM
abbrev fw:Stmt:=inClass (top 22) 2
theorem mS:az ["self"] ["self"] (ak fw):=scM
abbrev fS:Stmt:=inClass (top 23) 0
theorem nT:az ["self","number","name","parts","body"] ["self","number","name","parts","body"] (ak fS):=scM
abbrev gh:Stmt:=inClass (top 24) 0
theorem oa:az ["self","heads","deeds","main"] ["self","heads","deeds","main"] (ak gh):=scM
structure Adr where
 Row:Addr
 bX:Addr
 bq:Addr
 cZ:Addr
 c6:Addr
 c5:Addr
 cA:Addr
 bO:Addr
 cE:Addr
 b6:Addr
 dQ:Addr
 cC:Addr
 bg:Addr
 bF:Addr
 Program:Addr
structure Txt (K:W.Frag) (mg:Str->Option Value) (A:Adr):Prop where
 only:aT K mg "only" vY ["rank"]
 joined:aT K mg "joined" p7 ["one","other"]
 top:aT K mg "top" ze ["bits"]
 fits:aT K mg "fits" vZ ["bits","rank"]
 pU:aT K mg "names_in" k9 ["value"]
 kz:aT K mg "most_of" mF ["rows","known"]
 gH:aT K mg "most_of_row" gP ["row","known"]
 dB:aT K mg "exact_of" lE ["rows","known"]
 dW:aT K mg "exact_of_row" fO ["row","known"]
 pN:aT K mg "one_more" lJ ["steps"]
 gD:aT K mg "exact_of_if" gQ ["row","known"]
 eM:aT K mg "exact_of_loop" fh ["row","known"]
 balanced:aT K mg "balanced" k0 ["row","known"]
 zc:aT K mg "mosts" tL ["program"]
 wy:aT K mg "exacts" pY ["program"]
 nu:aT K mg "row_place" jT ["number"]
 fH:aT K mg "laid_rows" jM ["rows","place","loop"]
 gJ:aT K mg "laid_inside" gU ["row","loop"]
 iW:aT K mg "laid_program" gw ["program"]
 p9:aT K mg "is_place" lG ["row"]
 jW:aT K mg "head_places" hZ ["heads"]
 places:aT K mg "places" o5 ["program"]
 drawn:aT K mg "drawn" sT ["froms","into","kind","number"]
 nh:aT K mg "row_links" jY ["row","place","loop","parts_of"]
 lL:aT K mg "said_links" i5 ["row","place"]
 iM:aT K mg "called_links" gk ["row","place","parts"]
 lK:aT K mg "step_links" i9 ["row","known"]
 links:ja K mg "links" rQ ["program","steps"] [.bl false]
 sources:aT K mg "sources" mQ ["program"]
 lC:aT K mg "sources_of" i8 ["program","rank"]
 tO:aT K mg "ways_of" mJ ["program","steps"]
 qi:aT K mg "arrivals" lF ["ways","starts"]
 table:ja K mg "table" sg ["program","steps"] [.bl false]
 kZ:aT K mg "rows_above" iR ["program","floor"]
 wL:ja K mg "uneven" pQ ["program","floor"] [.int 0]
 vN:ja K mg "evened" qa ["program","floor"] [.int 0]
 ng:aT K mg "head_copy" kj ["head"]
 mE:aT K mg "deed_copy" jS ["deed","above","known"]
 cL:aT K mg "rows_evened" ip ["rows","above","known"]
 iS:aT K mg "row_evened" iN ["row","above","known"]
 lj:aT K mg "plain_copy" i6 ["row"]
 ku:aT K mg "if_evened" kq ["row","above","known"]
 gF:aT K mg "loop_evened" ic ["row","above","known"]
 j8:aT K mg "_law_cell_at" hE ["_law_script","_law_k"]
 mY:aT K mg "_law_sends" j9 ["_law_at","_law_many"]
 mK:aT K mg "_law_idles" jA ["_law_script","_law_k","_law_one","_law_other"]
 wM:aT K mg "_law_if" o8 ["_law_at","_law_value_here","_law_many","_law_idles_here"]
 pD:aT K mg "_law_even" lh ["_law_idles_here","_law_one","_law_other","_law_high"]
 mG:aT K mg "_law_value" ju ["_law_cell"]
 d4:aT K mg "_law_idles_told" eK ["_law_row","_law_due"]
 fJ:aT K mg "_law_sends_told" eI ["_law_rows","_law_at","_law_many"]
 dP:aT K mg "_law_sides_told" eJ ["_law_row","_law_at","_law_value_here","_law_many","_law_idles_here"]
 mU:aT K mg "_law_asked" jD ["_law_program","_law_floor","_law_default"]
 mL:aT K mg "_law_by_if" jN ["_law_script","_law_heads","_law_many","_law_floor","_law_high"]
 jI:aT K mg "_law_by_loop" gO ["_law_script","_law_heads","_law_many","_law_floor","_law_high"]
 jV:aT K mg "_law_by_deed" h9 ["_law_script","_law_heads","_law_many","_law_floor","_law_high"]
 tG:mg "bool"=none
 jX:mg "dict"=none
 nN:mg "int"=none
 av:mg "isinstance"=none
 jf:mg "len"=none
 d3:mg "list"=none
 jF:mg "max"=none
 lU:mg "range"=none
 xp:mg "set"=none
 jO:mg "sorted"=none
 uM:mg "str"=none
 w4:mg "sum"=none
 uc:mg "zip"=none
 xt:∃t,mg "CLOCK"=some (.str "the clock" t)
 iG:dX K mg A.Row "Row" [A.Row]
 p6:MFn K A.Row "__init__" "Row.__init__" eh ["self","number"]
 cI:dX K mg A.bX "HandRow" [A.bX,A.Row]
 gA:MFn K A.bX "__init__" "HandRow.__init__" gc ["self","number","name","rank"]
 fW:aK K A.bX "name"
 gB:aK K A.bX "rank"
 dh:aK K A.bX "number"
 bb:dX K mg A.bq "GivenRow" [A.bq,A.Row]
 eZ:MFn K A.bq "__init__" "GivenRow.__init__" fk ["self","number","name","rank","size"]
 cS:aK K A.bq "name"
 dE:aK K A.bq "rank"
 ft:aK K A.bq "size"
 c8:aK K A.bq "number"
 eX:dX K mg A.cZ "OwnRow" [A.cZ,A.Row]
 gZ:MFn K A.cZ "__init__" "OwnRow.__init__" gT ["self","number","name","size"]
 ik:aK K A.cZ "name"
 kO:aK K A.cZ "size"
 fj:aK K A.cZ "number"
 dC:dX K mg A.c6 "LetRow" [A.c6,A.Row]
 ij:MFn K A.c6 "__init__" "LetRow.__init__" ig ["self","number","name","rank"]
 eN:aK K A.c6 "name"
 gM:aK K A.c6 "rank"
 fo:aK K A.c6 "number"
 gj:dX K mg A.c5 "SetRow" [A.c5,A.Row]
 g8:MFn K A.c5 "__init__" "SetRow.__init__" gX ["self","number","name","value"]
 kN:aK K A.c5 "name"
 jq:aK K A.c5 "value"
 fq:aK K A.c5 "number"
 gg:dX K mg A.cA "PutRow" [A.cA,A.Row]
 gL:MFn K A.cA "__init__" "PutRow.__init__" g6 ["self","number","name","place","value"]
 kS:aK K A.cA "name"
 jz:aK K A.cA "place"
 jU:aK K A.cA "value"
 fe:aK K A.cA "number"
 bp:dX K mg A.bO "SendRow" [A.bO,A.Row]
 gq:MFn K A.bO "__init__" "SendRow.__init__" fN ["self","number","name","value"]
 fi:MFn K A.bO "reads" "SendRow.reads" ff ["self"]
 d5:aK K A.bO "name"
 cW:aK K A.bO "value"
 cH:aK K A.bO "number"
 eU:dX K mg A.cE "SayRow" [A.cE,A.Row]
 gN:MFn K A.cE "__init__" "SayRow.__init__" hX ["self","number","name","value","mark"]
 kT:aK K A.cE "name"
 kg:aK K A.cE "value"
 kU:aK K A.cE "mark"
 fb:aK K A.cE "number"
 aW:dX K mg A.b6 "CallRow" [A.b6,A.Row]
 fV:MFn K A.b6 "__init__" "CallRow.__init__" fQ ["self","number","name","things"]
 bM:aK K A.b6 "name"
 cz:aK K A.b6 "things"
 bE:aK K A.b6 "number"
 iF:dX K mg A.dQ "LastRow" [A.dQ,A.Row]
 jw:MFn K A.dQ "__init__" "Row.__init__" eh ["self","number"]
 iz:aK K A.dQ "number"
 aJ:dX K mg A.cC "IfRow" [A.cC,A.Row]
 iX:MFn K A.cC "__init__" "IfRow.__init__" iY ["self","number","value","first","other","left","right"]
 g7:MFn K A.cC "reads" "IfRow.reads" g9 ["self"]
 cv:aK K A.cC "value"
 bz:aK K A.cC "first"
 bG:aK K A.cC "other"
 cN:aK K A.cC "left"
 cY:aK K A.cC "right"
 b5:aK K A.cC "number"
 aA:dX K mg A.bg "LoopRow" [A.bg,A.Row]
 gi:MFn K A.bg "__init__" "LoopRow.__init__" fZ ["self","number","thing","most","body","left","right"]
 e7:MFn K A.bg "reads" "LoopRow.reads" fw ["self"]
 cV:aK K A.bg "thing"
 cy:aK K A.bg "most"
 bK:aK K A.bg "body"
 cx:aK K A.bg "left"
 bQ:aK K A.bg "right"
 bZ:aK K A.bg "number"
 aY:dX K mg A.bF "DeedRow" [A.bF,A.Row]
 gy:MFn K A.bF "__init__" "DeedRow.__init__" fS ["self","number","name","parts","body"]
 bJ:aK K A.bF "name"
 cU:aK K A.bF "parts"
 bI:aK K A.bF "body"
 dq:aK K A.bF "number"
 aP:dX K mg A.Program "Program" [A.Program]
 gp:MFn K A.Program "__init__" "Program.__init__" gh ["self","heads","deeds","main"]
 cQ:aK K A.Program "heads"
 a8:aK K A.Program "deeds"
 ba:aK K A.Program "main"
 bt:OfC K A.Row "__init__"
 nd:[A.Row,A.bX,A.bq,A.cZ,A.c6,A.c5,A.cA,A.bO,A.cE,A.b6,A.dQ,A.cC,A.bg,A.bF,A.Program].Nodup
section
variable {P:Program}{w:World}{K:W.Frag}{mg:Str->Option Value}{base:Heap}{A:Adr}
theorem alc {H:Hp}{p:Addr} (h:H p=none) (o:HO):aq H (upd H p o)/\upd H p o p=some o:=⟨aq.upd h o,aw⟩
theorem C1:W.kitOne K (.type "int") (.type "int")=some true:=by kernel_rfl!
theorem Cn:W.kitOne K (.type "int") (.type "bool")=some false:=by kernel_rfl!
theorem Ds:W.kitOne K (.type "list") (.type "list")=some true:=by kernel_rfl!
theorem sz {n:Nat} (h:n <= 1000):n <= sizeLine:=Nat.le_of_lt (aQ h)
theorem lA (x:Int) {m:Int} (hm:0 < m):0 <= x % m/\x % m < m:=⟨Int.emod_nonneg x (show m ≠ 0 by omega),Int.emod_lt_of_pos x hm⟩
theorem Bx (i j:Int):decide (V.int i=V.int j)=decide (i=j):=decide_eq_decide.mpr ⟨fun h=>V.int.inj h,fun h=>by rw [h]⟩
theorem Fs (i j:Str):decide (V.str i=V.str j)=decide (i=j):=decide_eq_decide.mpr ⟨fun h=>V.str.inj h,fun h=>by rw [h]⟩
theorem dI {α:Type} (xs:List α):xs.filter (fun _=>true)=xs:=List.filter_eq_self.mpr fun _ _=>rfl
theorem qN {a b:Int} (h0:-(2 ^ 64) < a) (h1:a < 2 ^ 64):xZ a b:=Or.inl ⟨h0,h1⟩
end
section
variable {P:Program}{w:World}{K:W.Frag}{mg:Str->Option Value}{base:Heap}{A:Adr}
theorem aq.out {H0 H:Hp} (s:aq H0 H) {x:Addr} (h:H0 x=none) (u:HO):aq H0 (upd H x u):=fun a o q=>by
 rw [aI (fun z=>by rw [z,h] at q;cases q)]
 exact s a o q
theorem aR {H:Hp}{x a:Addr}{u o:HO} (n:a ≠ x) (e:H a=some o):upd H x u a=some o:=by rw [aI n];exact e
theorem fresh_ne {H:Hp}{x y:Addr}{o:HO} (h:H x=none) (e:H y=some o):x ≠ y:=fun z=>by rw [z,e] at h;cases h
def Ks (H0:Hp) (x:Addr) (H:Hp):List (Addr × HO)->Prop
 | []=>True
 | p :: ks=>(H p.1=some p.2/\p.1 ≠ x/\H0 p.1=none)/\Ks H0 x H ks
theorem Ks.imp {H0 H H':Hp}{x:Addr} (f:∀a o,a ≠ x->H a=some o->H' a=some o):∀{ks:List (Addr × HO)},Ks H0 x H ks->Ks H0 x H' ks
 | [],_=>trivial
 | _ :: _,⟨⟨h1,h2,h3⟩,t⟩=>⟨⟨f _ _ h2 h1,h2,h3⟩,Ks.imp f t⟩
structure IA (K:W.Frag) (H0:Hp) (x C dx:Addr) (fs:List (Str × V)) (m:Nat) (ks:List (Addr × HO)) (H:Hp):Prop where
 s:aq H0 H
 i:H x=some (.ins C dx fs)
 k:Ks H0 x H ks
 x:H0 x=none
 c:Cls K C
 l:fs.length <= m
theorem IA.one {H:Hp}{x C dx:Addr} (hx:H x=none) (hd:H dx=none) (c:Cls K C):IA K H x C dx [] 0 [] (upd (upd H dx (.own x)) x (.ins C dx [])):=⟨aq.out (aq.upd hd _) hx _,aw,trivial,hx,c,Nat.le_refl _⟩
section
variable {H0 H:Hp}{x C dx:Addr}{fs:List (Str × V)}{m:Nat}{ks:List (Addr × HO)}
theorem xy (f:Str) (v:V):∀fs:List (Str × V),(fM f v fs).length <= fs.length + 1
 | []=>Nat.le_refl _
 | (g,x) :: r=>by
  unfold fM
  split
  ·exact Nat.le_succ _
  ·exact Nat.succ_le_succ (xy f v r)
theorem IA.put (a:IA K H0 x C dx fs m ks H) (f:Str) (v:V):IA K H0 x C dx (fM f v fs) (m + 1) ks (upd H x (.ins C dx (fM f v fs))):=⟨aq.out a.s a.x _,aw,a.k.imp fun _ _ h e=>aR h e,a.x,a.c,Nat.le_trans (xy f v fs) (Nat.succ_le_succ a.l)⟩
theorem IA.fld {f:Str}{v:V}{Q:Hp->Prop} (a:IA K H0 x C dx fs m ks H) (n:aK K C f) (k:∀H',IA K H0 x C dx (fM f v fs) (m + 1) ks H'->Q H') (l:m < 1000:=by decide):Ct K f v (.ref x) H Q:=⟨x,C,dx,fs,rfl,a.i,a.c,n,Nat.lt_of_le_of_lt a.l l,k _ (a.put _ _)⟩
theorem IA.nw {n:Addr} (a:IA K H0 x C dx fs m ks H) (hn:H n=none) (o:HO):IA K H0 x C dx fs m ((n,o) :: ks) (upd H n o) :=
 have e:n ≠ x:=fun z=>by rw [z,a.i] at hn;cases hn
 ⟨a.s.trans (aq.upd hn _),aR e.symm a.i,⟨⟨aw,e,aq.free a.s hn⟩,a.k.imp fun _ _ _ h=>aq.upd hn _ _ _ h⟩,a.x,a.c,a.l⟩
end
inductive gK (K:W.Frag) (A:Adr) (vs:List V) (H:Hp) (Q:VK) (E9:XK):Prop
 | mk (x C dx:Addr) (fs:List (Str × V)) (n:V) (z0:vs=[.ref x,n]) (z1:H x=some (.ins C dx fs)) (z2:Cls K C) (z3:aK K C "number") (z4:fs.length < 1000) (z5:Q .non (upd H x (.ins C dx (fM "number" n fs)))):gK K A vs H Q E9
theorem kX {C:Addr} (F:MFn K C "__init__" "Row.__init__" eh ["self","number"]):uI P w K mg base 2 C "__init__" ["self","number"] (gK K A):=by
 refine F.hs (k:=1) vc (fun f cdv A' outer s H vs Q E hr hu h=>?_)
 obtain ⟨x,C,dx,fs,n,rfl,hx,c,na,hl,q⟩:=h
 exact ⟨_,(ah (a9 (fv 0) (fv 1) rfl)),⟨x,C,dx,fs,rfl,hx,c,na,hl,q⟩⟩
theorem bT (T:Txt K mg A):uI P w K mg base 2 A.Row "__init__" ["self","number"] (gK K A):=kX T.p6
theorem IA.row {H0 H:Hp}{x C dx:Addr}{ks:List (Addr × HO)}{v:V}{Q:VK} (a:IA K H0 x C dx [] 0 ks H) (n:aK K C "number") (k:∀H',IA K H0 x C dx (fM "number" v []) 1 ks H'->Q .non H'):gK K A [.ref x,v] H Q E0:=⟨x,C,dx,[],v,rfl,a.i,a.c,n,by decide,k _ (a.put _ _)⟩
inductive jj (K:W.Frag) (A:Adr) (vs:List V) (G:Hp) (R:VK) (E9:XK):Prop
 | mk (x dx:Addr) (v0 v1 v2:V) (H:Hp) (z0:vs=[.ref x,v0,v1,v2]) (z1:G=upd (upd H dx (.own x)) x (.ins A.bX dx [])) (z2:H x=none) (z3:H dx=none) (z4:∀(H':Hp),aq H H'->H' x=some (.ins A.bX dx [("number",v0),("name",v1),("rank",v2)])->R .non H'):jj K A vs G R E9
theorem fU (T:Txt K mg A):T.gA.Hz P w mg base 3 (jj K A):=by
 refine T.gA.hs (k:=2) nX (fun f cdv A' outer s G vs R E hr hu h=>?_)
 obtain ⟨x,dx,v0,v1,v2,H,rfl,rfl,hx,hd,q⟩:=h
 refine ⟨_,(af (bo (cb T.iG T.bt (bT T) hr (aa (fv 0) (aa (fv 1) ae))))
 (af (a9 (fv 0) (fv 2) rfl)
 (ah (a9 (fv 0) (fv 3) rfl)))),?_⟩
 exact (IA.one (C:=A.bX) hx hd T.cI.cl).row T.dh fun H a=>a.fld T.fW fun H a=>a.fld T.gB fun H a=>q _ a.s a.i
inductive iI (K:W.Frag) (A:Adr) (vs:List V) (G:Hp) (R:VK) (E9:XK):Prop
 | mk (x dx:Addr) (v0 v1 v2 v3:V) (H:Hp) (z0:vs=[.ref x,v0,v1,v2,v3]) (z1:G=upd (upd H dx (.own x)) x (.ins A.bq dx [])) (z2:H x=none) (z3:H dx=none) (z4:∀(H':Hp),aq H H'->H' x=some (.ins A.bq dx [("number",v0),("name",v1),("rank",v2),("size",v3)])->R .non H'):iI K A vs G R E9
theorem fm (T:Txt K mg A):T.eZ.Hz P w mg base 3 (iI K A):=by
 refine T.eZ.hs (k:=2) mN (fun f cdv A' outer s G vs R E hr hu h=>?_)
 obtain ⟨x,dx,v0,v1,v2,v3,H,rfl,rfl,hx,hd,q⟩:=h
 refine ⟨_,(af (bo (cb T.iG T.bt (bT T) hr (aa (fv 0) (aa (fv 1) ae))))
 (af (a9 (fv 0) (fv 2) rfl)
 (af (a9 (fv 0) (fv 3) rfl)
 (ah (a9 (fv 0) (fv 4) rfl))))),?_⟩
 exact (IA.one (C:=A.bq) hx hd T.bb.cl).row T.c8 fun H a=>a.fld T.cS fun H a=>a.fld T.dE fun H a=>a.fld T.ft fun H a=>q _ a.s a.i
inductive ki (K:W.Frag) (A:Adr) (vs:List V) (G:Hp) (R:VK) (E9:XK):Prop
 | mk (x dx:Addr) (v0 v1 v2:V) (H:Hp) (z0:vs=[.ref x,v0,v1,v2]) (z1:G=upd (upd H dx (.own x)) x (.ins A.cZ dx [])) (z2:H x=none) (z3:H dx=none) (z4:∀(H':Hp),aq H H'->H' x=some (.ins A.cZ dx [("number",v0),("name",v1),("size",v2)])->R .non H'):ki K A vs G R E9
theorem qE (T:Txt K mg A):T.gZ.Hz P w mg base 3 (ki K A):=by
 refine T.gZ.hs (k:=2) pW (fun f cdv A' outer s G vs R E hr hu h=>?_)
 obtain ⟨x,dx,v0,v1,v2,H,rfl,rfl,hx,hd,q⟩:=h
 refine ⟨_,(af (bo (cb T.iG T.bt (bT T) hr (aa (fv 0) (aa (fv 1) ae))))
 (af (a9 (fv 0) (fv 2) rfl)
 (ah (a9 (fv 0) (fv 3) rfl)))),?_⟩
 exact (IA.one (C:=A.cZ) hx hd T.eX.cl).row T.fj fun H a=>a.fld T.ik fun H a=>a.fld T.kO fun H a=>q _ a.s a.i
inductive jv (K:W.Frag) (A:Adr) (vs:List V) (G:Hp) (R:VK) (E9:XK):Prop
 | mk (x dx:Addr) (v0 v1 v2:V) (H:Hp) (z0:vs=[.ref x,v0,v1,v2]) (z1:G=upd (upd H dx (.own x)) x (.ins A.c6 dx [])) (z2:H x=none) (z3:H dx=none) (z4:∀(H':Hp),aq H H'->H' x=some (.ins A.c6 dx [("number",v0),("name",v1),("rank",v2)])->R .non H'):jv K A vs G R E9
theorem qy (T:Txt K mg A):T.ij.Hz P w mg base 3 (jv K A):=by
 refine T.ij.hs (k:=2) qm (fun f cdv A' outer s G vs R E hr hu h=>?_)
 obtain ⟨x,dx,v0,v1,v2,H,rfl,rfl,hx,hd,q⟩:=h
 refine ⟨_,(af (bo (cb T.iG T.bt (bT T) hr (aa (fv 0) (aa (fv 1) ae))))
 (af (a9 (fv 0) (fv 2) rfl)
 (ah (a9 (fv 0) (fv 3) rfl)))),?_⟩
 exact (IA.one (C:=A.c6) hx hd T.dC.cl).row T.fo fun H a=>a.fld T.eN fun H a=>a.fld T.gM fun H a=>q _ a.s a.i
inductive jZ (K:W.Frag) (A:Adr) (vs:List V) (G:Hp) (R:VK) (E9:XK):Prop
 | mk (x dx:Addr) (v0 v1 v2:V) (H:Hp) (z0:vs=[.ref x,v0,v1,v2]) (z1:G=upd (upd H dx (.own x)) x (.ins A.c5 dx [])) (z2:H x=none) (z3:H dx=none) (z4:∀(H':Hp),aq H H'->H' x=some (.ins A.c5 dx [("number",v0),("name",v1),("value",v2)])->R .non H'):jZ K A vs G R E9
theorem qK (T:Txt K mg A):T.g8.Hz P w mg base 3 (jZ K A):=by
 refine T.g8.hs (k:=2) o7 (fun f cdv A' outer s G vs R E hr hu h=>?_)
 obtain ⟨x,dx,v0,v1,v2,H,rfl,rfl,hx,hd,q⟩:=h
 refine ⟨_,(af (bo (cb T.iG T.bt (bT T) hr (aa (fv 0) (aa (fv 1) ae))))
 (af (a9 (fv 0) (fv 2) rfl)
 (ah (a9 (fv 0) (fv 3) rfl)))),?_⟩
 exact (IA.one (C:=A.c5) hx hd T.gj.cl).row T.fq fun H a=>a.fld T.kN fun H a=>a.fld T.jq fun H a=>q _ a.s a.i
inductive jB (K:W.Frag) (A:Adr) (vs:List V) (G:Hp) (R:VK) (E9:XK):Prop
 | mk (x dx:Addr) (v0 v1 v2 v3:V) (H:Hp) (z0:vs=[.ref x,v0,v1,v2,v3]) (z1:G=upd (upd H dx (.own x)) x (.ins A.cA dx [])) (z2:H x=none) (z3:H dx=none) (z4:∀(H':Hp),aq H H'->H' x=some (.ins A.cA dx [("number",v0),("name",v1),("place",v2),("value",v3)])->R .non H'):jB K A vs G R E9
theorem qM (T:Txt K mg A):T.gL.Hz P w mg base 3 (jB K A):=by
 refine T.gL.hs (k:=2) oX (fun f cdv A' outer s G vs R E hr hu h=>?_)
 obtain ⟨x,dx,v0,v1,v2,v3,H,rfl,rfl,hx,hd,q⟩:=h
 refine ⟨_,(af (bo (cb T.iG T.bt (bT T) hr (aa (fv 0) (aa (fv 1) ae))))
 (af (a9 (fv 0) (fv 2) rfl)
 (af (a9 (fv 0) (fv 3) rfl)
 (ah (a9 (fv 0) (fv 4) rfl))))),?_⟩
 exact (IA.one (C:=A.cA) hx hd T.gg.cl).row T.fe fun H a=>a.fld T.kS fun H a=>a.fld T.jz fun H a=>a.fld T.jU fun H a=>q _ a.s a.i
inductive jg (K:W.Frag) (A:Adr) (vs:List V) (G:Hp) (R:VK) (E9:XK):Prop
 | mk (x dx:Addr) (v0 v1 v2:V) (H:Hp) (z0:vs=[.ref x,v0,v1,v2]) (z1:G=upd (upd H dx (.own x)) x (.ins A.bO dx [])) (z2:H x=none) (z3:H dx=none) (z4:∀(H':Hp),aq H H'->H' x=some (.ins A.bO dx [("number",v0),("name",v1),("value",v2)])->R .non H'):jg K A vs G R E9
theorem j7 (T:Txt K mg A):T.gq.Hz P w mg base 3 (jg K A):=by
 refine T.gq.hs (k:=2) nW (fun f cdv A' outer s G vs R E hr hu h=>?_)
 obtain ⟨x,dx,v0,v1,v2,H,rfl,rfl,hx,hd,q⟩:=h
 refine ⟨_,(af (bo (cb T.iG T.bt (bT T) hr (aa (fv 0) (aa (fv 1) ae))))
 (af (a9 (fv 0) (fv 2) rfl)
 (ah (a9 (fv 0) (fv 3) rfl)))),?_⟩
 exact (IA.one (C:=A.bO) hx hd T.bp.cl).row T.cH fun H a=>a.fld T.d5 fun H a=>a.fld T.cW fun H a=>q _ a.s a.i
inductive jP (K:W.Frag) (A:Adr) (vs:List V) (G:Hp) (R:VK) (E9:XK):Prop
 | mk (x dx:Addr) (v0 v1 v2 v3:V) (H:Hp) (z0:vs=[.ref x,v0,v1,v2,v3]) (z1:G=upd (upd H dx (.own x)) x (.ins A.cE dx [])) (z2:H x=none) (z3:H dx=none) (z4:∀(H':Hp),aq H H'->H' x=some (.ins A.cE dx [("number",v0),("name",v1),("value",v2),("mark",v3)])->R .non H'):jP K A vs G R E9
theorem qG (T:Txt K mg A):T.gN.Hz P w mg base 3 (jP K A):=by
 refine T.gN.hs (k:=2) pG (fun f cdv A' outer s G vs R E hr hu h=>?_)
 obtain ⟨x,dx,v0,v1,v2,v3,H,rfl,rfl,hx,hd,q⟩:=h
 refine ⟨_,(af (bo (cb T.iG T.bt (bT T) hr (aa (fv 0) (aa (fv 1) ae))))
 (af (a9 (fv 0) (fv 2) rfl)
 (af (a9 (fv 0) (fv 3) rfl)
 (ah (a9 (fv 0) (fv 4) rfl))))),?_⟩
 exact (IA.one (C:=A.cE) hx hd T.eU.cl).row T.fb fun H a=>a.fld T.kT fun H a=>a.fld T.kg fun H a=>a.fld T.kU fun H a=>q _ a.s a.i
inductive jh (K:W.Frag) (A:Adr) (vs:List V) (G:Hp) (R:VK) (E9:XK):Prop
 | mk (x dx:Addr) (v0 v1:V) (t0:Addr) (l0:List V) (H:Hp) (z0:vs=[.ref x,v0,v1,.ref t0]) (z1:G=upd (upd H dx (.own x)) x (.ins A.b6 dx [])) (z2:H x=none) (z3:H dx=none) (z4:SqL K H t0 l0) (z5:∀(n0:Addr) (H':Hp),H n0=none->aq H H'->H' n0=some (.lst l0)->H' x=some (.ins A.b6 dx [("number",v0),("name",v1),("things",.ref n0)])->R .non H'):jh K A vs G R E9
theorem jt (T:Txt K mg A):T.fV.Hz P w mg base 3 (jh K A):=by
 refine T.fV.hs (k:=2) og (fun f cdv A' outer s G vs R E hr hu h=>?_)
 obtain ⟨x,dx,v0,v1,t0,l0,H,rfl,rfl,hx,hd,s0,q⟩:=h
 refine ⟨_,(af (bo (cb T.iG T.bt (bT T) hr (aa (fv 0) (aa (fv 1) ae))))
 (af (a9 (fv 0) (fv 2) rfl)
 (ah (a9 (fv 0) (pcT gW T.d3 (aa (fv 3) ae)) rfl)))),?_⟩
 refine (IA.one (C:=A.b6) hx hd T.aW.cl).row T.bE fun H a=>a.fld T.bM fun H a=>⟨_,l0,rfl,.inl (a.s.seq s0),fun n0 f=>?_⟩
 replace a:=a.nw f (.lst l0)
 exact a.fld T.cz fun H a=>q n0 _ a.k.1.2.2 a.s a.k.1.1 a.i
inductive kR (K:W.Frag) (A:Adr) (vs:List V) (G:Hp) (R:VK) (E9:XK):Prop
 | mk (x dx:Addr) (v0 v1 v2 v3:V) (t0 t1:Addr) (l0 l1:List V) (H:Hp) (z0:vs=[.ref x,v0,v1,.ref t0,.ref t1,v2,v3]) (z1:G=upd (upd H dx (.own x)) x (.ins A.cC dx [])) (z2:H x=none) (z3:H dx=none) (z4:SqL K H t0 l0) (z5:SqL K H t1 l1) (z6:∀(n0 n1:Addr) (H':Hp),H n0=none->H n1=none->aq H H'->H' n0=some (.lst l0)->H' n1=some (.lst l1)->H' x=some (.ins A.cC dx [("number",v0),("value",v1),("first",.ref n0),("other",.ref n1),("left",v2),("right",v3)])->R .non H'):kR K A vs G R E9
theorem jb (T:Txt K mg A):T.iX.Hz P w mg base 3 (kR K A):=by
 refine T.iX.hs (k:=2) qI (fun f cdv A' outer s G vs R E hr hu h=>?_)
 obtain ⟨x,dx,v0,v1,v2,v3,t0,t1,l0,l1,H,rfl,rfl,hx,hd,s0,s1,q⟩:=h
 refine ⟨_,(af (bo (cb T.iG T.bt (bT T) hr (aa (fv 0) (aa (fv 1) ae))))
 (af (a9 (fv 0) (fv 2) rfl)
 (af (a9 (fv 0) (pcT gW T.d3 (aa (fv 3) ae)) rfl)
 (af (a9 (fv 0) (pcT gW T.d3 (aa (fv 4) ae)) rfl)
 (af (a9 (fv 0) (fv 5) rfl)
 (ah (a9 (fv 0) (fv 6) rfl))))))),?_⟩
 refine (IA.one (C:=A.cC) hx hd T.aJ.cl).row T.b5 fun H a=>a.fld T.cv fun H a=>⟨_,l0,rfl,.inl (a.s.seq s0),fun n0 f=>?_⟩
 replace a:=a.nw f (.lst l0)
 refine a.fld T.bz fun H a=>⟨_,l1,rfl,.inl (a.s.seq s1),fun n1 f=>?_⟩
 replace a:=a.nw f (.lst l1)
 exact a.fld T.bG fun H a=>a.fld T.cN fun H a=>a.fld T.cY fun H a=>q n0 n1 _ a.k.2.1.2.2 a.k.1.2.2 a.s a.k.2.1.1 a.k.1.1 a.i
inductive jc (K:W.Frag) (A:Adr) (vs:List V) (G:Hp) (R:VK) (E9:XK):Prop
 | mk (x dx:Addr) (v0 v1 v2 v3 v4:V) (t0:Addr) (l0:List V) (H:Hp) (z0:vs=[.ref x,v0,v1,v2,.ref t0,v3,v4]) (z1:G=upd (upd H dx (.own x)) x (.ins A.bg dx [])) (z2:H x=none) (z3:H dx=none) (z4:SqL K H t0 l0) (z5:∀(n0:Addr) (H':Hp),H n0=none->aq H H'->H' n0=some (.lst l0)->H' x=some (.ins A.bg dx [("number",v0),("thing",v1),("most",v2),("body",.ref n0),("left",v3),("right",v4)])->R .non H'):jc K A vs G R E9
theorem jy (T:Txt K mg A):T.gi.Hz P w mg base 3 (jc K A):=by
 refine T.gi.hs (k:=2) nP (fun f cdv A' outer s G vs R E hr hu h=>?_)
 obtain ⟨x,dx,v0,v1,v2,v3,v4,t0,l0,H,rfl,rfl,hx,hd,s0,q⟩:=h
 refine ⟨_,(af (bo (cb T.iG T.bt (bT T) hr (aa (fv 0) (aa (fv 1) ae))))
 (af (a9 (fv 0) (fv 2) rfl)
 (af (a9 (fv 0) (fv 3) rfl)
 (af (a9 (fv 0) (pcT gW T.d3 (aa (fv 4) ae)) rfl)
 (af (a9 (fv 0) (fv 5) rfl)
 (ah (a9 (fv 0) (fv 6) rfl))))))),?_⟩
 refine (IA.one (C:=A.bg) hx hd T.aA.cl).row T.bZ fun H a=>a.fld T.cV fun H a=>a.fld T.cy fun H a=>⟨_,l0,rfl,.inl (a.s.seq s0),fun n0 f=>?_⟩
 replace a:=a.nw f (.lst l0)
 exact a.fld T.bK fun H a=>a.fld T.cx fun H a=>a.fld T.bQ fun H a=>q n0 _ a.k.1.2.2 a.s a.k.1.1 a.i
inductive jd (K:W.Frag) (A:Adr) (vs:List V) (G:Hp) (R:VK) (E9:XK):Prop
 | mk (x dx:Addr) (v0 v1:V) (t0 t1:Addr) (l0 l1:List V) (H:Hp) (z0:vs=[.ref x,v0,v1,.ref t0,.ref t1]) (z1:G=upd (upd H dx (.own x)) x (.ins A.bF dx [])) (z2:H x=none) (z3:H dx=none) (z4:SqL K H t0 l0) (z5:SqL K H t1 l1) (z6:∀(n0 n1:Addr) (H':Hp),H n0=none->H n1=none->aq H H'->H' n0=some (.lst l0)->H' n1=some (.lst l1)->H' x=some (.ins A.bF dx [("number",v0),("name",v1),("parts",.ref n0),("body",.ref n1)])->R .non H'):jd K A vs G R E9
theorem jQ (T:Txt K mg A):T.gy.Hz P w mg base 3 (jd K A):=by
 refine T.gy.hs (k:=2) nT (fun f cdv A' outer s G vs R E hr hu h=>?_)
 obtain ⟨x,dx,v0,v1,t0,t1,l0,l1,H,rfl,rfl,hx,hd,s0,s1,q⟩:=h
 refine ⟨_,(af (bo (cb T.iG T.bt (bT T) hr (aa (fv 0) (aa (fv 1) ae))))
 (af (a9 (fv 0) (fv 2) rfl)
 (af (a9 (fv 0) (pcT gW T.d3 (aa (fv 3) ae)) rfl)
 (ah (a9 (fv 0) (pcT gW T.d3 (aa (fv 4) ae)) rfl))))),?_⟩
 refine (IA.one (C:=A.bF) hx hd T.aY.cl).row T.dq fun H a=>a.fld T.bJ fun H a=>⟨_,l0,rfl,.inl (a.s.seq s0),fun n0 f=>?_⟩
 replace a:=a.nw f (.lst l0)
 refine a.fld T.cU fun H a=>⟨_,l1,rfl,.inl (a.s.seq s1),fun n1 f=>?_⟩
 replace a:=a.nw f (.lst l1)
 exact a.fld T.bI fun H a=>q n0 n1 _ a.k.2.1.2.2 a.k.1.2.2 a.s a.k.2.1.1 a.k.1.1 a.i
inductive je (K:W.Frag) (A:Adr) (vs:List V) (G:Hp) (R:VK) (E9:XK):Prop
 | mk (x dx:Addr) (t0 t1 t2:Addr) (l0 l1 l2:List V) (H:Hp) (z0:vs=[.ref x,.ref t0,.ref t1,.ref t2]) (z1:G=upd (upd H dx (.own x)) x (.ins A.Program dx [])) (z2:H x=none) (z3:H dx=none) (z4:SqL K H t0 l0) (z5:SqL K H t1 l1) (z6:SqL K H t2 l2) (z7:∀(n0 n1 n2:Addr) (H':Hp),H n0=none->H n1=none->H n2=none->aq H H'->H' n0=some (.lst l0)->H' n1=some (.lst l1)->H' n2=some (.lst l2)->H' x=some (.ins A.Program dx [("heads",.ref n0),("deeds",.ref n1),("main",.ref n2)])->R .non H'):je K A vs G R E9
theorem d7 (T:Txt K mg A):T.gp.Hz P w mg base 3 (je K A):=by
 refine T.gp.hs (k:=2) oa (fun f cdv A' outer s G vs R E hr hu h=>?_)
 obtain ⟨x,dx,t0,t1,t2,l0,l1,l2,H,rfl,rfl,hx,hd,s0,s1,s2,q⟩:=h
 refine ⟨_,(af (a9 (fv 0) (pcT gW T.d3 (aa (fv 1) ae)) rfl)
 (af (a9 (fv 0) (pcT gW T.d3 (aa (fv 2) ae)) rfl)
 (ah (a9 (fv 0) (pcT gW T.d3 (aa (fv 3) ae)) rfl)))),?_⟩
 have a:=IA.one (C:=A.Program) hx hd T.aP.cl
 refine ⟨_,l0,rfl,.inl (a.s.seq s0),fun n0 f=>?_⟩
 replace a:=a.nw f (.lst l0)
 refine a.fld T.cQ fun H a=>⟨_,l1,rfl,.inl (a.s.seq s1),fun n1 f=>?_⟩
 replace a:=a.nw f (.lst l1)
 refine a.fld T.a8 fun H a=>⟨_,l2,rfl,.inl (a.s.seq s2),fun n2 f=>?_⟩
 replace a:=a.nw f (.lst l2)
 exact a.fld T.ba fun H a=>q n0 n1 n2 _ a.k.2.2.1.2.2 a.k.2.1.2.2 a.k.1.2.2 a.s a.k.2.2.1.1 a.k.2.1.1 a.k.1.1 a.i
end
section
variable {P:Program}{w:World}{K:W.Frag}{mg:Str->Option Value}{base:Heap}{A:Adr}{N:Nat->Str}
theorem ag {t u:TS}{D:Ends}{σ:St}{H:Hp} (h:∀N:St->Hp->Prop,(∀σ H,u D σ H->N σ H)->t { D with nx:=N } σ H):Eb t u D σ H:=h (u D) fun _ _ z=>z
theorem bY {α β:Type}{F:α->β->Prop}:∀{l₁:List α}{l₂:List β}{i:Nat}{b:β},Paired F l₁ l₂->l₂[i]?=some b->∃a,l₁[i]?=some a/\F a b
 | _,_,_,_,.nil,h=>by cases h
 | _,_,0,_,.cons h _,e=>by cases e;exact ⟨_,rfl,h⟩
 | _,_,i + 1,_,.cons _ r,e=>by
  have:∃a,_:=bY (i:=i) r e
  exact this
theorem iH {α β:Type} (f:β->α->β) (b:β) {xs:List α}{i:Nat}{x:α} (h:xs[i]?=some x):(xs.take (i + 1)).foldl f b=f ((xs.take i).foldl f b) x:=by
 rw [List.take_add_one,h,List.foldl_append]
 rfl
abbrev cls (A:Adr):List Addr:=[A.Row,A.bX,A.bq,A.cZ,A.c6,A.c5,A.cA,A.bO,A.cE,A.b6,A.dQ,A.cC,A.bg,A.bF,A.Program]
theorem Dk (T:Txt K mg A) (i j:Nat) (hi:i < 15:=by decide) (hj:j < 15:=by decide) (h:i ≠ j:=by decide):(cls A)[i]'hi ≠ (cls A)[j]'hj:=fun e=>h ((List.getElem_inj T.nd).mp e)
theorem FH {C:Addr}{x:Str}{up:List Addr} (O:dX K mg C x up) (hs:C ∈ up:=by exact List.mem_cons_self):W.kitOne K (.ref C) (.ref C)=some true:=by
 rw [O.kit O hs,decide_eq_true hs]
theorem FE {C D R:Addr}{x y:Str}{vp:List Addr} (O:dX K mg C x [C,R]) (U:dX K mg D y vp) (h1:D ≠ C) (h2:D ≠ R):W.kitOne K (.ref C) (.ref D)=some false:=by
 rw [O.kit U List.mem_cons_self,decide_eq_false]
 intro m
 rcases List.mem_cons.mp m with e | m
 ·exact h1 e
 ·rcases List.mem_cons.mp m with e | m
  ·exact h2 e
  ·cases m
def sk (ks:List Key) (f:Key->V):List (Key × V):=ks.map fun k=>(k,f k)
theorem tQ {f:Key->V}{k:Key}:∀{ks:List Key},k ∈ ks->L2.b8 (sk ks f) k=some (f k)
 | j :: r,m=>by
  by_cases e:j=k
  ·subst e
   exact cF rfl
  ·refine (cc (r:=sk r f) e).trans (tQ ?_)
   rcases List.mem_cons.mp m with z | z
   ·exact absurd z.symm e
   ·exact z
theorem BZ {f:Key->V}{k:Key}:∀{ks:List Key},k ∉ ks->L2.b8 (sk ks f) k=none
 | [],_=>rfl
 | j :: r,m=>by
  have e:¬ j=k:=fun e=>m (by rw [e];exact List.mem_cons_self)
  exact (cc (p:=(j,f j)) (r:=sk r f) e).trans (BZ fun z=>m (List.mem_cons_of_mem _ z))
instance memK (k:Key) (ks:List Key):Decidable (k ∈ ks):=decidable_of_iff ((ks.any fun j=>decide (j=k))=true) (by
 rw [List.any_eq_true]
 exact ⟨fun ⟨j,m,e⟩=>of_decide_eq_true e ▸ m,fun m=>⟨k,m,decide_eq_true rfl⟩⟩)
theorem Ca {f:Key->V} (k:Key) (ks:List Key):(L2.b8 (sk ks f) k).isSome=decide (k ∈ ks):=by
 by_cases m:k ∈ ks
 ·rw [tQ m,decide_eq_true m];rfl
 ·rw [BZ m,decide_eq_false m];rfl
def qA (f:Key->V) (k:Key) (v:V):Key->V:=fun j=>if j=k then v else f j
def qv (ks:List Key) (k:Key):List Key:=if k ∈ ks then ks else ks ++ [k]
theorem zh {f g:Key->V}{ks:List Key} (h:∀k ∈ ks,f k=g k):sk ks f=sk ks g:=List.map_congr_left fun k hk=>by rw [h k hk]
theorem za {f:Key->V}{k:Key}{v:V}{ks:List Key}:putK (sk ks f) k v=sk (qv ks k) (qA f k v):=by
 unfold putK qv
 rw [fR,Ca]
 by_cases m:k ∈ ks
 ·rw [if_pos (decide_eq_true m),if_pos m]
  unfold sk
  rw [List.map_map]
  refine List.map_congr_left fun j _=>?_
  show (if j=k then (j,v) else (j,f j))=(j,qA f k v j)
  unfold qA
  split <;> rfl
 ·rw [if_neg (by rw [decide_eq_false m];exact Bool.false_ne_true),if_neg m]
  unfold sk
  rw [List.map_append]
  show _=_ ++ [(k,qA f k v k)]
  rw [show qA f k v k=v from if_pos rfl]
  congr 1
  refine List.map_congr_left fun j hj=>?_
  show (j,f j)=(j,qA f k v j)
  rw [show qA f k v j=f j from if_neg fun (e:j=k)=>m (e ▸ hj)]
theorem A7 {f:Key->V}{k:Key}{ks:List Key}:putK (sk ks f) k (f k)=sk (qv ks k) f:=by
 rw [za]
 refine zh fun j _=>?_
 unfold qA
 split
 ·next e=>rw [e]
 ·rfl
def Af (ks:List Key):List Key:=ks.foldl qv []
theorem ub (f:Key->V):∀(ks acc:List Key),bC (sk acc f) (sk ks f)=sk (ks.foldl qv acc) f
 | [],acc=>rfl
 | k :: ks,acc=>by
  show bC (putK (sk acc f) k (f k)) (sk ks f)=_
  rw [A7]
  exact ub f ks (qv acc k)
theorem wt (f:Key->V) (ks:List Key):(sk ks f).length=ks.length:=List.length_map _
theorem A8 {ks:List Key}{k j:Key}:j ∈ qv ks k ↔ j=k \/ j ∈ ks:=by
 unfold qv
 split
 ·next m=>exact ⟨.inr,fun h=>h.elim (fun e=>e ▸ m) id⟩
 ·rw [List.mem_append,List.mem_singleton]
  exact or_comm
theorem uK {j:Key}:∀(ks acc:List Key),j ∈ ks.foldl qv acc ↔ j ∈ ks \/ j ∈ acc
 | [],acc=>by simp
 | k :: ks,acc=>by
  rw [List.foldl_cons,uK ks,A8,List.mem_cons]
  constructor
  ·rintro (h | h | h)
   ·exact .inl (.inr h)
   ·exact .inl (.inl h)
   ·exact .inr h
  ·rintro ((h | h) | h)
   ·exact .inr (.inl h)
   ·exact .inl h
   ·exact .inr (.inr h)
theorem AU {j:Key}{ks:List Key}:j ∈ Af ks ↔ j ∈ ks:=by
 unfold Af
 rw [uK]
 simp
theorem u7 (kvs:List (Key × V)) (k:Key) (v:V):(putK kvs k v).length <= kvs.length + 1:=by
 unfold putK
 split
 ·rw [List.length_map];omega
 ·simp
def clI (A:Adr) (i:Nat):Addr:=(cls A).getD i 0
theorem Aw (T:Txt K mg A) {i j:Nat} (hi:i < 15) (hj:j < 15) (h:i ≠ j):clI A i ≠ clI A j:=by
 unfold clI
 rw [List.getD_eq_getElem?_getD,List.getD_eq_getElem?_getD,List.getElem?_eq_getElem (show i < (cls A).length from hi),List.getElem?_eq_getElem (show j < (cls A).length from hj)]
 exact Dk T i j hi hj h
theorem rV (T:Txt K mg A) (i:Nat) (h:i < 14) (h0:0 < i):∃x,dX K mg (clI A i) x [clI A i,A.Row]:=by
 match i,h,h0 with
 | 1,_,_=>exact ⟨_,T.cI⟩
 | 2,_,_=>exact ⟨_,T.bb⟩
 | 3,_,_=>exact ⟨_,T.eX⟩
 | 4,_,_=>exact ⟨_,T.dC⟩
 | 5,_,_=>exact ⟨_,T.gj⟩
 | 6,_,_=>exact ⟨_,T.gg⟩
 | 7,_,_=>exact ⟨_,T.bp⟩
 | 8,_,_=>exact ⟨_,T.eU⟩
 | 9,_,_=>exact ⟨_,T.aW⟩
 | 10,_,_=>exact ⟨_,T.iF⟩
 | 11,_,_=>exact ⟨_,T.aJ⟩
 | 12,_,_=>exact ⟨_,T.aA⟩
 | 13,_,_=>exact ⟨_,T.aY⟩
theorem zQ (T:Txt K mg A) (i j:Nat) (hi:i < 14) (hj:j < 14) (i0:0 < i) (j0:0 < j):W.kitOne K (.ref (clI A i)) (.ref (clI A j))=some (decide (i=j)):=by
 obtain ⟨x,O⟩:=rV T i hi i0
 obtain ⟨y,U⟩:=rV T j hj j0
 by_cases e:i=j
 ·subst e
  rw [decide_eq_true rfl]
  exact FH O
 ·rw [decide_eq_false e]
  exact FE O U (Aw T (by omega) (by omega) (fun z=>e z.symm)) (Aw T (j:=0) (by omega) (by omega) (by omega))
end
section
variable {P:Program}{w:World}{K:W.Frag}{mg:Str->Option Value}{base:Heap}{A:Adr}{N:Nat->Str}
seal PE PA PS PSs PT PW
inductive Th where
 | i (n:Int) | x (a:Nat)
inductive Val where
 | one (a:Th) | op (a:Th) (w:Str) (b:Th)
def Th.v (N:Nat->Str):Th->V
 | .i n=>.int n
 | .x a=>.str (N a)
def vV (N:Nat->Str):Val->List V
 | .one a=>[a.v N]
 | .op a w b=>[a.v N,.str w,b.v N]
inductive Lr where
 | hand (i:Nat) (r:Int) | giv (i:Nat) (r z:Int) | own (i:Nat) (z:Int) | lt (i:Nat) (r:Int)
 | set (x:Nat) (v:Val) | put (x:Nat) (p:Th) (v:Val) | snd (h:Nat) (v:Val) | say (x:Nat) (v:Val) (m:Nat)
 | call (i:Nat) (ts:List Th) | last
def Lr.ci:Lr->Nat
 | .hand _ _=>1 | .giv _ _ _=>2 | .own _ _=>3 | .lt _ _=>4 | .set _ _=>5 | .put _ _ _=>6 | .snd _ _=>7 | .say _ _ _=>8
 | .call _ _=>9 | .last=>10
abbrev nV (N:Nat->Str) (ns:List Nat):List V:=ns.map fun i=>V.str (N i)
def Lr.fs (N:Nat->Str) (p:Addr):Lr->List (Str × V)
 | .hand i r=>[("name",.str (N i)),("rank",.int r)]
 | .giv i r z=>[("name",.str (N i)),("rank",.int r),("size",.int z)]
 | .own i z=>[("name",.str (N i)),("size",.int z)]
 | .lt i r=>[("name",.str (N i)),("rank",.int r)]
 | .set x _=>[("name",.str (N x)),("value",.ref p)]
 | .put x t _=>[("name",.str (N x)),("place",t.v N),("value",.ref p)]
 | .snd h _=>[("name",.str (N h)),("value",.ref p)]
 | .say x _ m=>[("name",.str (N x)),("value",.ref p),("mark",.str (N m))]
 | .call i _=>[("name",.str (N i)),("things",.ref p)]
 | .last=>[]
def Lr.ob (N:Nat->Str):Lr->Option HO
 | .set _ v=>some (.tup (vV N v))
 | .put _ _ v=>some (.tup (vV N v))
 | .snd _ v=>some (.tup (vV N v))
 | .say _ v _=>some (.tup (vV N v))
 | .call _ ts=>some (.lst (ts.map (Th.v N)))
 | _=>none
inductive Pt where
 | leaf (n:Int) (r:Lr)
 | iff (n:Int) (v:Val) (l r:Int) (f o:List Pt)
 | loop (n:Int) (t:Th) (m l r:Int) (b:List Pt)
 | bA (n:Int) (i:Nat) (ps:List Nat) (b:List Pt)
def Pt.no:Pt->Int
 | .leaf n _=>n
 | .iff n _ _ _ _ _=>n
 | .loop n _ _ _ _ _=>n
 | .bA n _ _ _=>n
def Pt.ci:Pt->Nat
 | .leaf _ r=>r.ci
 | .iff _ _ _ _ _ _=>11
 | .loop _ _ _ _ _ _=>12
 | .bA _ _ _ _=>13
def FF (A:Adr) (N:Nat->Str) (X:Hp) (v:V) (n:Int) (r:Lr):Prop:=∃a dx p,v=.ref a/\X a=some (.ins (clI A r.ci) dx (("number",.int n) :: r.fs N p))/\∀o,r.ob N=some o->X p=some o
mutual
def aF (A:Adr) (N:Nat->Str) (X:Hp):V->Pt->Prop
 | v,.leaf n r=>FF A N X v n r
 | v,.iff n val l r f o=>∃a dx p pf po xf xo,v=.ref a/\X a=some (.ins A.cC dx [("number",.int n),("value",.ref p),("first",.ref pf),("other",.ref po),("left",.int l),("right",.int r)])/\X p=some (.tup (vV N val))/\X pf=some (.lst xf)/\X po=some (.lst xo)/\aD A N X xf f/\aD A N X xo o
 | v,.loop n t m l r b=>∃a dx pb xb,v=.ref a/\X a=some (.ins A.bg dx [("number",.int n),("thing",t.v N),("most",.int m),("body",.ref pb),("left",.int l),("right",.int r)])/\X pb=some (.lst xb)/\aD A N X xb b
 | v,.bA n i ps b=>∃a dx pp pb xb,v=.ref a/\X a=some (.ins A.bF dx [("number",.int n),("name",.str (N i)),("parts",.ref pp),("body",.ref pb)])/\X pp=some (.lst (nV N ps))/\X pb=some (.lst xb)/\aD A N X xb b
def aD (A:Adr) (N:Nat->Str) (X:Hp):List V->List Pt->Prop
 | vs,[]=>vs=[]
 | vs,t :: ts=>∃x xs,vs=x :: xs/\aF A N X x t/\aD A N X xs ts
end
mutual
theorem aF.same {X X':Hp} (s:aq X X'):∀(t:Pt) (v:V),aF A N X v t->aF A N X' v t
 | .leaf n r,v,h=>by
  unfold aF at h ⊢
  obtain ⟨a,dx,p,e,h1,h2⟩:=h
  exact ⟨a,dx,p,e,s _ _ h1,fun o ho=>s _ _ (h2 o ho)⟩
 | .iff n val l r f o,v,h=>by
  unfold aF at h ⊢
  obtain ⟨a,dx,p,pf,po,xf,xo,e,h1,h2,h3,h4,h5,h6⟩:=h
  exact ⟨a,dx,p,pf,po,xf,xo,e,s _ _ h1,s _ _ h2,s _ _ h3,s _ _ h4,aD.same s f _ h5,aD.same s o _ h6⟩
 | .loop n t m l r b,v,h=>by
  unfold aF at h ⊢
  obtain ⟨a,dx,pb,xb,e,h1,h2,h3⟩:=h
  exact ⟨a,dx,pb,xb,e,s _ _ h1,s _ _ h2,aD.same s b _ h3⟩
 | .bA n i ps b,v,h=>by
  unfold aF at h ⊢
  obtain ⟨a,dx,pp,pb,xb,e,h1,h2,h3,h4⟩:=h
  exact ⟨a,dx,pp,pb,xb,e,s _ _ h1,s _ _ h2,s _ _ h3,aD.same s b _ h4⟩
theorem aD.same {X X':Hp} (s:aq X X'):∀(ts:List Pt) (vs:List V),aD A N X vs ts->aD A N X' vs ts
 | [],vs,h=>by
  unfold aD at h ⊢
  exact h
 | t :: ts,vs,h=>by
  unfold aD at h ⊢
  obtain ⟨x,xs,e,h1,h2⟩:=h
  exact ⟨x,xs,e,aF.same s t _ h1,aD.same s ts _ h2⟩
end
theorem aD.nil {X:Hp}:aD A N X [] []:=by
 unfold aD
 rfl
theorem aD.cons {X:Hp}{x:V}{t:Pt}{ts:List Pt}{vs:List V} (h:aF A N X x t) (h':aD A N X vs ts):aD A N X (x :: vs) (t :: ts):=by
 unfold aD
 exact ⟨x,vs,rfl,h,h'⟩
theorem aD.one {X:Hp}{x:V}{t:Pt} (h:aF A N X x t):aD A N X [x] [t]:=aD.cons h aD.nil
theorem aD.len {X:Hp}:∀{ts:List Pt}{vs:List V},aD A N X vs ts->vs.length=ts.length
 | [],vs,h=>by
  unfold aD at h
  rw [h]
  rfl
 | t :: ts,vs,h=>by
  unfold aD at h
  obtain ⟨y,ys,e,h1,h2⟩:=h
  subst e
  simp [aD.len h2]
theorem aD.get {X:Hp}:∀{ts:List Pt}{vs:List V}{i:Nat}{v:V},aD A N X vs ts->vs[i]?=some v->∃t,ts[i]?=some t/\aF A N X v t
 | [],vs,i,v,h,e=>by
  unfold aD at h
  rw [h] at e
  cases e
 | t :: ts,vs,i,v,h,e=>by
  unfold aD at h
  obtain ⟨y,ys,e',h1,h2⟩:=h
  subst e'
  cases i with
  | zero=>cases e;exact ⟨t,rfl,h1⟩
  | succ i=>exact aD.get (i:=i) h2 e
theorem aD.of {X:Hp}:∀{ts:List Pt}{vs:List V},Paired (fun t v=>aF A N X v t) ts vs->aD A N X vs ts
 | _,_,.nil=>aD.nil
 | _,_,.cons h r=>aD.cons h (aD.of r)
theorem kP (p:Pt):0 < p.ci/\p.ci < 14:=by
 cases p with
 | leaf n r=>cases r <;> simp [Pt.ci,Lr.ci]
 | _=>simp [Pt.ci]
theorem E1 (T:Txt K mg A) (p:Pt):Cls K (clI A p.ci)/\aK K (clI A p.ci) "number":=by
 cases p with
 | leaf n r =>
  cases r with
  | hand _ _=>exact ⟨T.cI.cl,T.dh⟩
  | giv _ _ _=>exact ⟨T.bb.cl,T.c8⟩
  | own _ _=>exact ⟨T.eX.cl,T.fj⟩
  | lt _ _=>exact ⟨T.dC.cl,T.fo⟩
  | set _ _=>exact ⟨T.gj.cl,T.fq⟩
  | put _ _ _=>exact ⟨T.gg.cl,T.fe⟩
  | snd _ _=>exact ⟨T.bp.cl,T.cH⟩
  | say _ _ _=>exact ⟨T.eU.cl,T.fb⟩
  | call _ _=>exact ⟨T.aW.cl,T.bE⟩
  | _=>exact ⟨T.iF.cl,T.iz⟩
 | iff _ _ _ _ _ _=>exact ⟨T.aJ.cl,T.b5⟩
 | loop _ _ _ _ _ _=>exact ⟨T.aA.cl,T.bZ⟩
 | bA _ _ _ _=>exact ⟨T.aY.cl,T.dq⟩
theorem zX {X:Hp}{v:V}{p:Pt} (h:aF A N X v p):∃a dx fs,v=.ref a/\X a=some (.ins (clI A p.ci) dx (("number",.int p.no) :: fs)):=by
 cases p with
 | leaf n r =>
  unfold aF at h
  obtain ⟨a,dx,p,e,h1,h2⟩:=h
  exact ⟨a,dx,_,e,h1⟩
 | iff n val l r f o =>
  unfold aF at h
  obtain ⟨a,dx,p,pf,po,xf,xo,e,h1,_⟩:=h
  exact ⟨a,dx,_,e,h1⟩
 | loop n t m l r b =>
  unfold aF at h
  obtain ⟨a,dx,pb,xb,e,h1,_⟩:=h
  exact ⟨a,dx,_,e,h1⟩
 | bA n i ps b =>
  unfold aF at h
  obtain ⟨a,dx,pp,pb,xb,e,h1,_⟩:=h
  exact ⟨a,dx,_,e,h1⟩
theorem rq (T:Txt K mg A) {X H:Hp} (s:aq X H) {v:V}{p:Pt} (h:aF A N X v p) (j:Nat) (j0:0 < j) (hj:j < 14) {R:Bool->Hp->Prop} (q:R (decide (p.ci=j)) H):wI K [v,.ref (clI A j)] H fun v H1=>uq K v H1 R:=by
 obtain ⟨a,dx,fs,rfl,ha⟩:=zX h
 obtain ⟨x,O⟩:=rV T p.ci (kP p).2 (kP p).1
 exact isB (O.EI (s _ _ ha)) (zQ T p.ci j (kP p).2 hj (kP p).1 j0) q
theorem dZ (T:Txt K mg A) {X H:Hp} (s:aq X H) {v:V}{p:Pt} (h:aF A N X v p) {j:Nat} (e:p.ci=j) {R:Bool->Hp->Prop} (q:R true H):wI K [v,.ref (clI A j)] H fun v H1=>uq K v H1 R:=rq T s h j (e ▸ (kP p).1) (e ▸ (kP p).2) (by rw [decide_eq_true e];exact q)
theorem b9 (T:Txt K mg A) {X H:Hp} (s:aq X H) {v:V}{p:Pt} (h:aF A N X v p) {j:Nat} (e:p.ci ≠ j) {R:Bool->Hp->Prop} (q:R false H) (j0:0 < j:=by decide) (hj:j < 14:=by decide):wI K [v,.ref (clI A j)] H fun v H1=>uq K v H1 R:=rq T s h j j0 hj (by rw [decide_eq_false e];exact q)
theorem tw (T:Txt K mg A) {X H:Hp} (s:aq X H) {v:V}{p:Pt} (h:aF A N X v p) (j:Nat) (j0:0 < j) (hj:j < 14) {Q:VK} (q:Q (.bl (decide (p.ci=j))) H):wI K [v,.ref (clI A j)] H Q:=by
 obtain ⟨a,dx,fs,rfl,ha⟩:=zX h
 obtain ⟨x,O⟩:=rV T p.ci (kP p).2 (kP p).1
 exact ⟨_,_,_,_,rfl,(fun z=>by cases z),O.EI (s _ _ ha),zQ T p.ci j (kP p).2 hj (kP p).1 j0,q⟩
theorem d8 (T:Txt K mg A) {X H:Hp} (s:aq X H) {v:V}{p:Pt} (h:aF A N X v p) {Q:VK} (q:Q (.int p.no) H):mi K "number" v H Q:=by
 obtain ⟨a,dx,fs,rfl,ha⟩:=zX h
 obtain ⟨c1,c2⟩:=E1 T p
 exact fdI (s _ _ ha) c1 c2 rfl q
def aL (n:Int):Str:=Str.empty ++ ("row ":Str) ++ Str.ofString (toString n)
def Dh (s:Str):Nat:=(s.cps.toList.drop 4).foldl (fun a c=>10 * a + (c - 48)) 0
theorem kH:∀n:Fin 1001,((n.val:Int).natAbs.log2 < 1920)/\(Str.ofString (toString (n.val:Int))).length <= 20/\Dh (aL (n.val:Int))=n.val/\(aL (n.val:Int)).cps[0]?=some 114:=by decide +kernel
theorem BK {a b:Int} (a0:0 <= a) (a1:a <= 1000) (b0:0 <= b) (b1:b <= 1000) (h:aL a=aL b):a=b:=by
 obtain ⟨a,rfl⟩:∃k:Nat,a=(k:Int):=⟨a.toNat,by omega⟩
 obtain ⟨b,rfl⟩:∃k:Nat,b=(k:Int):=⟨b.toNat,by omega⟩
 have h1:=(kH ⟨a,by omega⟩).2.2.1
 have h2:=(kH ⟨b,by omega⟩).2.2.1
 rw [show Dh (aL (a:Int))=Dh (aL (b:Int)) by rw [h]] at h1
 have:b=a:=h2.symm.trans h1
 rw [this]
theorem oo {a:Int} (a0:0 <= a) (a1:a <= 1000) {x:Str} (hx:x.cps[0]? ≠ some 114):aL a ≠ x:=by
 obtain ⟨a,rfl⟩:∃k:Nat,a=(k:Int):=⟨a.toNat,by omega⟩
 intro e
 exact hx (e ▸ (kH ⟨a,by omega⟩).2.2.2)
theorem uo (a b:Str):(a ++ b).length=a.length + b.length:=Array.size_append
inductive vb (vs:List V) (H:Hp) (Q:VK) (E9:XK):Prop
 | mk (n:Int) (z0:vs=[.int n]) (z1:0 <= n) (z2:n <= 1000) (z3:Q (.str (aL n)) H):vb vs H Q E9
theorem oK (T:Txt K mg A):T.nu.Hz P w base 1 vb:=by
 refine T.nu.hs sv (fun f cdv A' outer s H vs Q E' hr hu h=>?_)
 obtain ⟨n,rfl,h0,h1,q⟩:=h
 obtain ⟨n,rfl⟩:∃k:Nat,n=(k:Int):=⟨n.toNat,by omega⟩
 obtain ⟨k1,k2,_⟩:=kH ⟨n,by omega⟩
 refine ⟨_,(ah (ax (BH (xJ br (xJ (C9 (fv 0)) CH))))),⟨_,rfl,(by decide),Or.inl ⟨_,rfl,k1,_,rfl,?_⟩⟩⟩
 have l:(aL (n:Int)).length <= sizeLine:=by
  unfold aL
  rw [uo]
  exact Nat.le_trans (Nat.add_le_add_left k2 _) (by decide)
 exact ⟨l,l,q⟩
end
section
variable {P:Program}{w:World}{K:W.Frag}{mg:Str->Option Value}{base:Heap}{A:Adr}{N:Nat->Str}
seal PE PA PS PSs PT PW
theorem Paired.two {α β:Type}{F:α->β->Prop}:∀{xs zs:List α}{ys ws:List β},Paired F xs ys->Paired F zs ws->Paired F (xs ++ zs) (ys ++ ws)
 | _,_,_,_,.nil,h=>h
 | _,_,_,_,.cons g r,h=>.cons g (Paired.two r h)
abbrev Le:=Pt × Option Str × Option Str
def oS:Option Str->V
 | none=>.non
 | some x=>.str x
mutual
def fg (lp:Option Str):Pt->List Le
 | .leaf _ _=>[]
 | .iff n _ _ _ f o=>bh (some (aL n)) lp f ++ bh (some (aL n)) lp o
 | .loop n _ _ _ _ b=>bh (some (aL n)) (some (aL n)) b
 | .bA _ _ _ _=>[]
def bh (pl lp:Option Str):List Pt->List Le
 | []=>[]
 | t :: ts=>(t,pl,lp) :: (fg lp t ++ bh pl lp ts)
end
mutual
def dep:Pt->Nat
 | .leaf _ _=>0
 | .iff _ _ _ _ f o=>max (dy f) (dy o) + 1
 | .loop _ _ _ _ _ b=>dy b + 1
 | .bA _ _ _ b=>0
def dy:List Pt->Nat
 | []=>0
 | t :: ts=>max (dep t) (dy ts)
end
theorem jr {t:Pt}:∀{ts:List Pt},t ∈ ts->dep t <= dy ts
 | t' :: ts,m=>by
  unfold dy
  rcases List.mem_cons.mp m with rfl | m
  ·exact Nat.le_max_left _ _
  ·exact Nat.le_trans (jr m) (Nat.le_max_right _ _)
theorem qb {pl lp:Option Str}:∀(a b:List Pt),bh pl lp (a ++ b)=bh pl lp a ++ bh pl lp b
 | [],b=>by simp [bh]
 | t :: a,b=>by
  have h1:bh pl lp (t :: (a ++ b))=(t,pl,lp) :: (fg lp t ++ bh pl lp (a ++ b)):=by rw [bh]
  have h2:bh pl lp (t :: a)=(t,pl,lp) :: (fg lp t ++ bh pl lp a):=by rw [bh]
  show bh pl lp (t :: (a ++ b))=_
  rw [h1,h2,qb a b]
  simp
theorem rB {pl lp:Option Str}{ts:List Pt}{t:Pt}{i:Nat} (h:ts[i]?=some t):bh pl lp (ts.take (i + 1))=bh pl lp (ts.take i) ++ (t,pl,lp) :: fg lp t:=by
 rw [List.take_add_one,h,qb]
 show bh pl lp (ts.take i) ++ bh pl lp [t]=_
 rw [show bh pl lp [t]=(t,pl,lp) :: fg lp t by simp [bh]]
theorem Am {pl lp:Option Str}{ts:List Pt}{t:Pt}{i:Nat} (h:ts[i]?=some t):bh pl lp ts=bh pl lp (ts.take i) ++ ((t,pl,lp) :: fg lp t) ++ bh pl lp (ts.drop (i + 1)):=by
 rw [<- rB h,<- qb,List.take_append_drop]
def Nb (es:List Le):Prop:=∀e ∈ es,0 <= e.1.no/\e.1.no <= 1000
def LyE (A:Adr) (N:Nat->Str) (X:Hp) (e:Le) (y:V) (H:Hp):Prop:=∃tp v,y=V.ref tp/\H tp=some (.tup [v,oS e.2.1,oS e.2.2])/\aF A N X v e.1
def Ly (A:Adr) (N:Nat->Str) (X H:Hp) (es:List Le) (ys:List V):Prop:=Paired (fun e y=>LyE A N X e y H) es ys
theorem Ly.same {X H H':Hp} (s:∀x w,H x=some (.tup w)->H' x=some (.tup w)) {es:List Le}{ys:List V} (h:Ly A N X H es ys):Ly A N X H' es ys:=Paired.mR h fun _ _ ⟨tp,v,e,h1,h2⟩=>⟨tp,v,e,s _ _ h1,h2⟩
inductive oq (A:Adr) (d:Nat) (vs:List V) (H:Hp) (Q:VK) (E9:XK):Prop
 | mk (N:Nat->Str) (X:Hp) (L:Addr) (xs:List V) (pl lp:Option Str) (ts:List Pt) (z0:vs=[.ref L,oS pl,oS lp]) (z1:aq X H) (z2:X L=some (.lst xs)) (z3:aD A N X xs ts) (z4:dy ts <= d) (z5:Nb (bh pl lp ts)) (z6:(bh pl lp ts).length <= 900)
  (z7:∀(R:Addr) (ys:List V) (H':Hp),aq H H'->H R=none->H' R=some (.lst ys)->Ly A N X H' (bh pl lp ts) ys->Q (.ref R) H'):oq A d vs H Q E9
inductive mP (A:Adr) (d:Nat) (vs:List V) (H:Hp) (Q:VK) (E9:XK):Prop
 | mk (N:Nat->Str) (X:Hp) (v:V) (lp:Option Str) (t:Pt) (z0:vs=[v,oS lp]) (z1:aq X H) (z2:aF A N X v t) (z3:dep t <= d) (z4:0 <= t.no/\t.no <= 1000) (z5:Nb (fg lp t)) (z6:(fg lp t).length <= 900)
  (z7:∀(R:Addr) (ys:List V) (H':Hp),aq H H'->H R=none->H' R=some (.lst ys)->Ly A N X H' (fg lp t) ys->Q (.ref R) H'):mP A d vs H Q E9
def zu (A:Adr):Nat->Sp
 | 0=>fun _ _ _ _=>False
 | d + 1=>oq A d
theorem xD (T:Txt K mg A) (d j:Nat) (D_laid_inside:T.gJ.Hz P w base j (mP A d)):T.fH.Hz P w base (j + 1) (oq A d):=by
 refine T.fH.hs (k:=j) fC (fun f cdv A' outer s H vs Q E' hr hu h=>?_)
 obtain ⟨N,X,L,xs,pl,lp,ts,rfl,s0,hL,pt,dp,nb,ln,q⟩:=h
 refine ⟨_,(af (pst 3 fC.nd (aZ ae))
  (af (cP PassesOwn.never rfl (bB (fv 0)) (pgn (i:=4) fC.nd rfl)
   (af (bo (gb (fv 3) (aa (bR (aa (fv 4) (aa (fv 1) (aa (fv 2) ae)))) ae)))
   (ah (bo (fT (fv 3) (aa (aj (hj:=by omega) D_laid_inside hr (aa (fv 4) (aa (fv 2) ae))) ae))))))
  (ah (ax (fv 3))))),?_⟩
 refine ag fun M1 K1=>⟨Nat.zero_le _,fun R hR=>?_⟩
 obtain ⟨s1,e1⟩:=alc hR (HO.lst [])
 generalize upd H R _=H1 at s1 e1 ⊢
 refine K1 _ _ ?_
 clear K1 M1
 try dsimp only
 refine ag fun M1 K1=>Or.inl ⟨⟨_,SqL.of ((s0.trans s1) _ _ hL)⟩,cu (K:=K) (xs:=xs) (fun i σ Hc=>∃(ys:List V) (v4:Option V),σ=[some (.ref L),some (oS pl),some (oS lp),some (.ref R),v4]/\aq H Hc/\Hc R=some (.lst ys)/\Ly A N X Hc (bh pl lp (ts.take i)) ys) ⟨[],none,rfl,s1,e1,by rw [show bh pl lp (ts.take 0)=[] by show bh pl lp []=[];rw [bh]];exact .nil⟩ (fun i σ Hc _ ⟨_,_,_,z,_⟩=>SqL.of ((s0.trans z) _ _ hL)) ?_ ?_⟩
 ·rintro i v σ Hc hv ⟨ys,v4,rfl,sc,hRc,ly⟩
  obtain ⟨t,ht,pa⟩:=pt.get hv
  have mt:t ∈ ts:=List.mem_of_getElem? ht
  have e:=Am (pl:=pl) (lp:=lp) ht
  have le:(bh pl lp (ts.take i)).length + (1 + (fg lp t).length) <= 900:=by
   rw [e] at ln
   simp at ln
   omega
  have n1:∀z ∈ ((t,pl,lp) :: fg lp t),0 <= z.1.no/\z.1.no <= 1000:=fun z hz=>nb z (by rw [e];exact List.mem_append_left _ (List.mem_append_right _ hz))
  have lly:=Paired.length ly
  try dsimp only
  refine ag fun N1 J1=>⟨Or.inl ⟨rfl,_,SqL.of hRc⟩,by show 3 <= sizeLine;decide,fun tp htp=>?_⟩
  have tpR:tp ≠ R:=fresh_ne htp hRc
  refine ⟨_,_,_,rfl,rfl,aR tpR.symm hRc,aQ (by omega),?_⟩
  have s2:aq H (upd (upd Hc tp (.tup [v,oS pl,oS lp])) R (.lst (ys ++ [.ref tp]))):=aq.out (sc.trans (aq.upd htp _)) hR _
  have e2:upd (upd Hc tp (.tup [v,oS pl,oS lp])) R (.lst (ys ++ [.ref tp])) R=some (.lst (ys ++ [.ref tp])):=aw
  have l2:Ly A N X (upd (upd Hc tp (.tup [v,oS pl,oS lp])) R (.lst (ys ++ [.ref tp]))) (bh pl lp (ts.take i) ++ [(t,pl,lp)]) (ys ++ [.ref tp]):=by
   refine Paired.two (ly.same fun x w e=>?_) (.cons ⟨tp,v,rfl,aR tpR aw,pa⟩ .nil)
   exact aR (fun y=>by rw [y,hRc] at e;cases e) (aR (fun y=>by rw [y,htp] at e;cases e) e)
  generalize upd (upd Hc tp (.tup [v,oS pl,oS lp])) R (.lst (ys ++ [.ref tp]))=Hd at s2 e2 l2 ⊢
  refine J1 _ _ ?_
  clear J1 N1
  try dsimp only
  refine ⟨Or.inl ⟨rfl,_,SqL.of e2⟩,N,X,v,lp,t,rfl,s0.trans s2,pa,Nat.le_trans (jr mt) dp,n1 _ List.mem_cons_self,fun z hz=>n1 z (List.mem_cons_of_mem _ hz),by omega,fun R2 zs He s3 hR2 eR2 l3=>?_⟩
  have lz:=Paired.length l3
  refine ⟨_,_,_,_,rfl,rfl,s3 _ _ e2,eR2,sz (by rw [List.length_append,<- lz,<- lly];simp;omega),⟨_,_,rfl,aq.out (s2.trans s3) hR _,aw,?_⟩⟩
  rw [rB ht,show bh pl lp (ts.take i) ++ (t,pl,lp) :: fg lp t=bh pl lp (ts.take i) ++ [(t,pl,lp)] ++ fg lp t by simp]
  have dR:∀x w,He x=some (.tup w)->upd He R (.lst (ys ++ [.ref tp] ++ zs)) x=some (.tup w):=fun x w e=>aR (fun y=>by rw [y,s3 _ _ e2] at e;cases e) e
  exact Paired.two (l2.same fun x w e=>dR x w (s3 _ _ e)) (l3.same dR)
 rintro σ Hc ⟨ys,v4,rfl,sc,hRc,ly⟩
 rw [show ts.take xs.length=ts by rw [pt.len];exact List.take_length] at ly
 exact K1 _ _ (q R ys Hc sc hR hRc ly)
theorem rm (T:Txt K mg A) (d j:Nat) (D_laid_rows:T.fH.Hz P w base (j + 1) (zu A d)):T.gJ.Hz P w base (j + 2) (mP A d):=by
 refine T.gJ.hs (k:=j + 1) km (fun f cdv A' outer s H vs Q E' hr hu h=>?_)
 obtain ⟨N,X,v,lp,t,rfl,s0,pa,dp,nt,nb,ln,q⟩:=h
 refine ⟨_,(af (pst 2 km.nd (aj (hj:=by omega) (oK T) hr (aa (au (fv 0) rfl) ae)))
  (af (aV (aM (pcB aH T.av (aa (fv 0) (aa (aO T.aJ.mg) ae))) (fun _=>rfl))
   (ah (ax (aG aU (aj (hj:=by omega) D_laid_rows hr (aa (au (fv 0) rfl) (aa (fv 2) (aa (fv 1) ae)))) (aj (hj:=by omega) D_laid_rows hr (aa (au (fv 0) rfl) (aa (fv 2) (aa (fv 1) ae)))))))
   aE)
  (af (aV (aM (pcB aH T.av (aa (fv 0) (aa (aO T.aA.mg) ae))) (fun _=>rfl))
   (ah (ax (aj (hj:=by omega) D_laid_rows hr (aa (au (fv 0) rfl) (aa (fv 2) (aa (fv 2) ae))))))
   aE)
  (ah (ax (aZ ae)))))),?_⟩
 refine ag fun M1 K1=>d8 T s0 pa ⟨_,rfl,nt.1,nt.2,K1 _ _ ?_⟩
 clear K1 M1
 try dsimp only
 refine ag fun M1 K1=>rq T s0 pa 11 (by decide) (by decide) ?_
 cases t with
 | iff n val l r f o =>
  refine bU ?_
  unfold aF at pa
  obtain ⟨a,dx,p,pf,po,xf,xo,rfl,h1,h2,h3,h4,h5,h6⟩:=pa
  unfold dep at dp
  cases d with
  | zero=>omega
  | succ d =>
  unfold fg at nb ln q
  have nf:Nb (bh (some (aL n)) lp f):=fun y hy=>nb y (List.mem_append_left _ hy)
  have no:Nb (bh (some (aL n)) lp o):=fun y hy=>nb y (List.mem_append_right _ hy)
  rw [List.length_append] at ln
  refine fdI (s0 _ _ h1) T.aJ.cl T.bz rfl ⟨N,X,pf,xf,some (aL n),lp,f,rfl,s0,h3,h5,by omega,nf,by omega,fun R1 y1 H1 s1 n1 e1 l1=>fdI ((s0.trans s1) _ _ h1) T.aJ.cl T.bG rfl ⟨N,X,po,xo,some (aL n),lp,o,rfl,s0.trans s1,h4,h6,by omega,no,by omega,fun R2 y2 H2 s2 n2 e2 l2=>?_⟩⟩
  have z1:=Paired.length l1
  have z2:=Paired.length l2
  refine ⟨R1,R2,_,_,rfl,rfl,s2 _ _ e1,e2,sz (by omega),fun R hR=>?_⟩
  have s3:aq H2 (upd H2 R (.lst (y1 ++ y2))):=aq.upd hR _
  exact q R _ _ ((s1.trans s2).trans s3) (aq.free (s1.trans s2) hR) aw (Paired.two (l1.same fun x w e=>s3 _ _ (s2 _ _ e)) (l2.same fun x w e=>s3 _ _ e))
 | loop n t m l r b =>
  refine aN (K1 _ _ ?_)
  clear K1 M1
  try dsimp only
  refine ag fun M1 K1=>rq T s0 pa 12 (by decide) (by decide) (bU ?_)
  unfold aF at pa
  obtain ⟨a,dx,pb,xb,rfl,h1,h2,h3⟩:=pa
  unfold dep at dp
  cases d with
  | zero=>omega
  | succ d =>
  unfold fg at nb ln q
  exact fdI (s0 _ _ h1) T.aA.cl T.bK rfl ⟨N,X,pb,xb,some (aL n),some (aL n),b,rfl,s0,h2,h3,by omega,nb,ln,fun R1 y1 H1 s1 n1 e1 l1=>q R1 y1 H1 s1 n1 e1 l1⟩
 | leaf n r =>
  have e11:decide ((Pt.leaf n r).ci=11)=false:=by cases r <;> rfl
  have e12:decide ((Pt.leaf n r).ci=12)=false:=by cases r <;> rfl
  rw [e11]
  refine aN (K1 _ _ ?_)
  clear K1 M1
  try dsimp only
  refine ag fun M1 K1=>rq T s0 pa 12 (by decide) (by decide) ?_
  rw [e12]
  refine aN (K1 _ _ ?_)
  clear K1 M1
  refine ⟨Nat.zero_le _,fun R hR=>q R [] _ (aq.upd hR _) hR aw ?_⟩
  unfold fg
  exact .nil
 | bA n i ps b =>
  refine aN (K1 _ _ ?_)
  clear K1 M1
  try dsimp only
  refine ag fun M1 K1=>rq T s0 pa 12 (by decide) (by decide) (aN (K1 _ _ ?_))
  clear K1 M1
  refine ⟨Nat.zero_le _,fun R hR=>q R [] _ (aq.upd hR _) hR aw ?_⟩
  unfold fg
  exact .nil
theorem vT (T:Txt K mg A):∀d,T.fH.Hz P w base (2 * d + 3) (oq A d)
 | 0=>xD T 0 2 (rm T 0 0 (T.fH.hs (k:=0) fC (fun _ _ _ _ _ _ _ _ _ _ _ h=>h.elim) (fun _ _ _ _ h=>h.elim)))
 | d + 1=>xD T (d + 1) (2 * d + 4) (rm T (d + 1) (2 * d + 2) (vT T d))
end
section
variable {P:Program}{w:World}{K:W.Frag}{mg:Str->Option Value}{base:Heap}{A:Adr}{N:Nat->Str}
seal PE PA PS PSs PT PW
def fL:Pt->List Pt
 | .bA _ _ _ b=>b
 | _=>[]
def dNm (N:Nat->Str):Pt->Str
 | .bA _ i _ _=>N i
 | _=>Str.empty
def dPs (N:Nat->Str):Pt->List Str
 | .bA _ _ ps _=>ps.map N
 | _=>[]
def zK:Pt->Prop
 | .bA _ _ _ _=>True
 | _=>False
def gr (N:Nat->Str) (ds:List Pt):List Le:=ds.flatMap fun p=>bh (some (dNm N p)) none (fL p)
theorem pL {ts:List Pt}{t:Pt}{i:Nat} (h:ts[i]?=some t):gr N (ts.take (i + 1))=gr N (ts.take i) ++ bh (some (dNm N t)) none (fL t):=by
 unfold gr
 rw [List.take_add_one,h]
 simp
theorem yO {ts:List Pt}{t:Pt}{i:Nat} (h:ts[i]?=some t):gr N ts=gr N (ts.take i) ++ bh (some (dNm N t)) none (fL t) ++ gr N (ts.drop (i + 1)):=by
 rw [<- pL h]
 unfold gr
 rw [<- List.flatMap_append,List.take_append_drop]
def gf (A:Adr) (N:Nat->Str) (X:Hp) (v:V) (hs ds ms:List Pt):Prop:=∃a dx n0 n1 n2 x0 x1 x2,v=.ref a/\X a=some (.ins A.Program dx [("heads",.ref n0),("deeds",.ref n1),("main",.ref n2)])/\X n0=some (.lst x0)/\X n1=some (.lst x1)/\X n2=some (.lst x2)/\aD A N X x0 hs/\aD A N X x1 ds/\aD A N X x2 ms
theorem gf.same {X X':Hp} (s:aq X X') {v:V}{hs ds ms:List Pt} (h:gf A N X v hs ds ms):gf A N X' v hs ds ms:=by
 obtain ⟨a,dx,n0,n1,n2,x0,x1,x2,e,ha,e0,e1,e2,p0,p1,p2⟩:=h
 exact ⟨a,dx,n0,n1,n2,x0,x1,x2,e,s _ _ ha,s _ _ e0,s _ _ e1,s _ _ e2,aD.same s _ _ p0,aD.same s _ _ p1,aD.same s _ _ p2⟩
def dw (N:Nat->Str) (ds ms:List Pt):List Le:=gr N ds ++ bh none none ms
def hPl (N:Nat->Str):Pt->Option Str
 | .leaf _ (.giv i _ _)=>some (N i)
 | .leaf _ (.own i _)=>some (N i)
 | .leaf _ (.lt i _)=>some (N i)
 | _=>none
def uF (p:Pt):Bool:=decide (p.ci=11) || (decide (p.ci=12) || (decide (p.ci=7) || decide (p.ci=8)))
def dv (es:List Le):List Str:=(es.filter fun e=>uF e.1).map fun e=>aL e.1.no
def bf (N:Nat->Str) (hs ds ms:List Pt):List Str:=hs.filterMap (hPl N) ++ (ds.flatMap fun p=>dNm N p :: dPs N p) ++ dv (dw N ds ms) ++ [("the clock":Str)]
structure Ok (N:Nat->Str) (d:Nat) (hs ds ms:List Pt):Prop where
 bA:∀p ∈ ds,zK p/\dy (fL p) <= d
 main:dy ms <= d
 nb:Nb (dw N ds ms)
 ln:(dw N ds ms).length <= 300
 hl:hs.length <= 300
 pl:(bf N hs ds ms).length <= 900
 nd:(bf N hs ds ms).Nodup
abbrev sS (xs:List Str):List V:=xs.map V.str
inductive vz (A:Adr) (d:Nat) (vs:List V) (H:Hp) (Q:VK) (E9:XK):Prop
 | mk (N:Nat->Str) (X:Hp) (v:V) (hs ds ms:List Pt) (z0:vs=[v]) (z1:aq X H) (z2:gf A N X v hs ds ms) (z3:Ok N d hs ds ms)
  (z7:∀(R:Addr) (ys:List V) (H':Hp),aq H H'->H R=none->H' R=some (.lst ys)->Ly A N X H' (dw N ds ms) ys->Q (.ref R) H'):vz A d vs H Q E9
theorem rS (T:Txt K mg A) (d:Nat):T.iW.Hz P w base (2 * d + 4) (vz A d):=by
 refine T.iW.hs (k:=2 * d + 3) fu (fun f cdv A' outer s H vs Q E' hr hu h=>?_)
 obtain ⟨N,X,v,hs,ds,ms,rfl,s0,⟨a,dx,n0,n1,n2,x0,x1,x2,rfl,ha,e0,e1,e2,p0,p1,p2⟩,ok,q⟩:=h
 have ln:=ok.ln
 have nb:=ok.nb
 unfold dw at ln nb
 rw [List.length_append] at ln
 refine ⟨_,(af (pst 1 fu.nd (aZ ae))
  (af (cP PassesOwn.never rfl (bB (au (fv 0) rfl)) (pgn (i:=2) fu.nd rfl)
   (ah (bo (fT (fv 1) (aa (aj (hj:=by omega) (vT T d) hr (aa (au (fv 2) rfl) (aa (au (fv 2) rfl) (aa dH ae)))) ae)))))
  (ah (ax (aG aU (fv 1) (aj (hj:=by omega) (vT T d) hr (aa (au (fv 0) rfl) (aa dH (aa dH ae))))))))),?_⟩
 refine ag fun M1 K1=>⟨Nat.zero_le _,fun R hR=>?_⟩
 obtain ⟨s1,eR⟩:=alc hR (HO.lst [])
 generalize upd H R _=H1 at s1 eR ⊢
 refine K1 _ _ ?_
 clear K1 M1
 try dsimp only
 refine ag fun M1 K1=>fdI ((s0.trans s1) _ _ ha) T.aP.cl T.a8 rfl (Or.inl ⟨⟨_,SqL.of ((s0.trans s1) _ _ e1)⟩,cu (K:=K) (xs:=x1) (fun i σ Hc=>∃(ys:List V) (v2:Option V),σ=[some (.ref a),some (.ref R),v2]/\aq H Hc/\Hc R=some (.lst ys)/\Ly A N X Hc (gr N (ds.take i)) ys) ⟨[],none,rfl,s1,eR,.nil⟩ (fun i σ Hc _ ⟨_,_,_,z,_⟩=>SqL.of ((s0.trans z) _ _ e1)) ?_ ?_⟩)
 ·rintro i v σ Hc hv ⟨ys,v2,rfl,sc,hRc,ly⟩
  obtain ⟨t,ht,pa⟩:=p1.get hv
  have mt:t ∈ ds:=List.mem_of_getElem? ht
  obtain ⟨dt,dd⟩:=ok.bA t mt
  cases t with
  | bA n i' ps b =>
   unfold aF at pa
   obtain ⟨a',dx',pp,pb,xb,rfl,h1,h2,h3,h4⟩:=pa
   have e:=yO (N:=N) ht
   have le:(gr N (ds.take i)).length + (bh (some (N i')) none b).length <= 300:=by
    have:=congrArg List.length e
    simp only [List.length_append] at this
    have z:bh (some (dNm N (.bA n i' ps b))) none (fL (.bA n i' ps b))=bh (some (N i')) none b:=rfl
    rw [z] at this
    omega
   have nbb:Nb (bh (some (N i')) none b):=fun y hy=>nb y (List.mem_append_left _ (by rw [e];exact List.mem_append_left _ (List.mem_append_right _ hy)))
   have lly:=Paired.length ly
   refine ⟨Or.inl ⟨rfl,_,SqL.of hRc⟩,fdI ((s0.trans sc) _ _ h1) T.aY.cl T.bI rfl (fdI ((s0.trans sc) _ _ h1) T.aY.cl T.bJ rfl ⟨N,X,pb,xb,some (N i'),none,b,rfl,s0.trans sc,h3,h4,dd,nbb,by omega,fun R2 zs He s3 hR2 eR2 l3=>?_⟩)⟩
   have lz:=Paired.length l3
   refine ⟨_,_,_,_,rfl,rfl,s3 _ _ hRc,eR2,sz (by omega),⟨_,_,rfl,aq.out (sc.trans s3) hR _,aw,?_⟩⟩
   rw [pL ht]
   have dR:∀x w,He x=some (.tup w)->upd He R (.lst (ys ++ zs)) x=some (.tup w):=fun x w e=>aR (fun y=>by rw [y,s3 _ _ hRc] at e;cases e) e
   exact Paired.two (ly.same fun x w e=>dR x w (s3 _ _ e)) (l3.same dR)
  | _=>exact dt.elim
 rintro σ Hc ⟨ys,v2,rfl,sc,hRc,ly⟩
 rw [show ds.take x1.length=ds by rw [p1.len];exact List.take_length] at ly
 refine K1 _ _ ?_
 have lly:=Paired.length ly
 try dsimp only
 refine fdI ((s0.trans sc) _ _ ha) T.aP.cl T.ba rfl ⟨N,X,n2,x2,none,none,ms,rfl,s0.trans sc,e2,p2,ok.main,fun y hy=>nb y (List.mem_append_right _ hy),by omega,fun R2 zs He s3 hR2 eR2 l3=>?_⟩
 have lz:=Paired.length l3
 refine ⟨R,R2,_,_,rfl,rfl,s3 _ _ hRc,eR2,sz (by omega),fun R3 hR3=>?_⟩
 have s4:aq He (upd He R3 (.lst (ys ++ zs))):=aq.upd hR3 _
 exact q R3 _ _ ((sc.trans s3).trans s4) (aq.free (sc.trans s3) hR3) aw (Paired.two (ly.same fun x w e=>s4 _ _ (s3 _ _ e)) (l3.same fun x w e=>s4 _ _ e))
inductive oY (A:Adr) (vs:List V) (H:Hp) (Q:VK) (E9:XK):Prop
 | mk (N:Nat->Str) (X:Hp) (v:V) (t:Pt) (z0:vs=[v]) (z1:aq X H) (z2:aF A N X v t) (z3:Q (.bl (uF t)) H):oY A vs H Q E9
theorem x4 (T:Txt K mg A):T.p9.Hz P w base 1 (oY A):=by
 refine T.p9.hs u9 (fun f cdv A' outer s H vs Q E' hr hu h=>?_)
 obtain ⟨N,X,v,t,rfl,s0,pa,q⟩:=h
 refine ⟨_,(ah (ax (xq (pcB aH T.av (aa (fv 0) (aa (aO T.aJ.mg) ae))) (xq (pcB aH T.av (aa (fv 0) (aa (aO T.aA.mg) ae))) (xq (pcB aH T.av (aa (fv 0) (aa (aO T.bp.mg) ae))) (iT (pcB aH T.av (aa (fv 0) (aa (aO T.eU.mg) ae))))))))),?_⟩
 unfold uF at q
 refine tw T s0 pa 11 (by decide) (by decide) ⟨_,rfl,?_⟩
 cases e1:decide (t.ci=11) with
 | true=>rw [e1] at q;exact bU q
 | false =>
 rw [e1] at q
 refine aN (tw T s0 pa 12 (by decide) (by decide) ⟨_,rfl,?_⟩)
 cases e2:decide (t.ci=12) with
 | true=>rw [e2] at q;exact bU q
 | false =>
 rw [e2] at q
 refine aN (tw T s0 pa 7 (by decide) (by decide) ⟨_,rfl,?_⟩)
 cases e3:decide (t.ci=7) with
 | true=>rw [e3] at q;exact bU q
 | false =>
 rw [e3] at q
 exact aN (tw T s0 pa 8 (by decide) (by decide) q)
end
section
variable {P:Program}{w:World}{K:W.Frag}{mg:Str->Option Value}{base:Heap}{A:Adr}{N:Nat->Str}
seal PE PA PS PSs PT PW
def Sm (M:List Addr) (H H':Hp):Prop:=∀a o,a ∉ M->H a=some o->H' a=some o
theorem Sm.refl (M:List Addr) (H:Hp):Sm M H H:=fun _ _ _ h=>h
theorem Sm.trans {M:List Addr}{H H' H'':Hp} (h:Sm M H H') (h':Sm M H' H''):Sm M H H'':=fun a o m e=>h' a o m (h a o m e)
theorem Sm.new {M:List Addr}{H H':Hp} (s:aq H H'):Sm M H H':=fun a o _ e=>s a o e
theorem Sm.at {M:List Addr}{H:Hp}{a:Addr} (m:a ∈ M) (o:HO):Sm M H (upd H a o):=fun b u hb e=>aR (fun z=>hb (z ▸ m)) e
theorem Sm.same {M:List Addr}{X H H':Hp} (h:Sm M H H') (s:aq X H) (n:∀m ∈ M,X m=none):aq X H':=fun a o e=>h a o (fun m=>by rw [n a m] at e;cases e) (s a o e)
theorem C2 (N:Nat->Str) (t:Pt):(hPl N t).isSome=(decide (t.ci=2) || (decide (t.ci=3) || decide (t.ci=4))):=by
 cases t with
 | leaf n r=>cases r <;> rfl
 | _=>rfl
theorem vL (T:Txt K mg A) {X H:Hp} (s:aq X H) {v:V}{t:Pt} (h:aF A N X v t) {x:Str} (e:hPl N t=some x) {Q:VK} (q:Q (.str x) H):mi K "name" v H Q:=by
 cases t with
 | leaf n r =>
  unfold aF at h
  obtain ⟨a,dx,p,rfl,h1,h2⟩:=h
  cases r with
  | giv i _ _=>cases e;exact fdI (s _ _ h1) T.bb.cl T.cS rfl q
  | own i _=>cases e;exact fdI (s _ _ h1) T.eX.cl T.ik rfl q
  | lt i _=>cases e;exact fdI (s _ _ h1) T.dC.cl T.eN rfl q
  | _=>cases e
 | _=>cases e
theorem A1 {α β:Type} (f:α->Option β) {xs:List α}{i:Nat}{x:α} (h:xs[i]?=some x):(xs.take (i + 1)).filterMap f=(xs.take i).filterMap f ++ (f x).toList:=by
 rw [List.take_add_one,h,List.filterMap_append]
 show _ ++ List.filterMap f [x]=_
 rw [List.filterMap_cons]
 cases f x <;> rfl
inductive qW (A:Adr) (vs:List V) (H:Hp) (Q:VK) (E9:XK):Prop
 | mk (N:Nat->Str) (X:Hp) (L:Addr) (xs:List V) (hs:List Pt) (z0:vs=[.ref L]) (z1:aq X H) (z2:X L=some (.lst xs)) (z3:aD A N X xs hs) (z4:hs.length <= 900)
  (z5:∀(R:Addr) (H':Hp),aq H H'->H R=none->H' R=some (.lst (sS (hs.filterMap (hPl N))))->Q (.ref R) H'):qW A vs H Q E9
theorem zx (T:Txt K mg A):T.jW.Hz P w base 1 (qW A):=by
 refine T.jW.hs fX (fun f cdv A' outer s H vs Q E' hr hu h=>?_)
 obtain ⟨N,X,L,xs,hs,rfl,s0,hL,pt,ln,q⟩:=h
 refine ⟨_,(af (pst 1 fX.nd (aZ ae))
  (af (cP PassesOwn.never rfl (bB (fv 0)) (pgn (i:=2) fX.nd rfl)
   (ah (aV (PW.pt (pw_or (aM (pcB aH T.av (aa (fv 2) (aa (aO T.bb.mg) ae))) (fun _=>rfl)) (pw_or (aM (pcB aH T.av (aa (fv 2) (aa (aO T.eX.mg) ae))) (fun _=>rfl)) (pw_or1 (aM (pcB aH T.av (aa (fv 2) (aa (aO T.dC.mg) ae))) (fun _=>rfl))))))
    (ah (bo (gb (fv 1) (aa (au (fv 2) rfl) ae))))
    aE)))
  (ah (ax (fv 1))))),?_⟩
 refine ag fun M1 K1=>⟨Nat.zero_le _,fun R hR=>?_⟩
 obtain ⟨s1,e1⟩:=alc hR (HO.lst [])
 generalize upd H R _=H1 at s1 e1 ⊢
 refine K1 _ _ ?_
 clear K1 M1
 try dsimp only
 refine ag fun M1 K1=>Or.inl ⟨⟨_,SqL.of ((s0.trans s1) _ _ hL)⟩,cu (K:=K) (xs:=xs) (fun i σ Hc=>∃(v2:Option V),σ=[some (.ref L),some (.ref R),v2]/\aq H Hc/\Hc R=some (.lst (sS ((hs.take i).filterMap (hPl N))))) ⟨none,rfl,s1,e1⟩ (fun i σ Hc _ ⟨_,_,z,_⟩=>SqL.of ((s0.trans z) _ _ hL)) ?_ ?_⟩
 ·rintro i v σ Hc hv ⟨v2,rfl,sc,hRc⟩
  obtain ⟨t,ht,pa⟩:=pt.get hv
  have hi:=C2 N t
  have st:=A1 (hPl N) ht
  have il:i < hs.length:=(List.getElem?_eq_some_iff.mp ht).1
  have l1:=List.length_filterMap_le (hPl N) (hs.take i)
  rw [List.length_take] at l1
  have yes:∀x,hPl N t=some x->upd Hc R (.lst (sS ((hs.take i).filterMap (hPl N)) ++ [.str x])) R=some (.lst (sS ((hs.take (i + 1)).filterMap (hPl N)))):=fun x e=>by
   rw [aw,st,e]
   simp [sS]
  have no:hPl N t=none->Hc R=some (.lst (sS ((hs.take (i + 1)).filterMap (hPl N)))):=fun e=>by
   rw [st,e]
   simpa using hRc
  try dsimp only
  have s2:=s0.trans sc
  cases e:hPl N t with
  | none =>
   rw [e] at hi
   have c2:t.ci ≠ 2:=fun z=>by rw [z] at hi;cases hi
   have c3:t.ci ≠ 3:=fun z=>by rw [z] at hi;cases hi
   have c4:t.ci ≠ 4:=fun z=>by rw [z] at hi;cases hi
   exact b9 T s2 pa c2 (aN (b9 T s2 pa c3 (aN (b9 T s2 pa c4 (aN ⟨_,rfl,sc,no e⟩)))))
  | some x =>
   rw [e] at hi
   have lz:(sS ((hs.take i).filterMap (hPl N))).length < sizeLine:=aQ (by rw [List.length_map];omega)
   by_cases c2:t.ci=2
   ·exact dZ T s2 pa c2 (bU ⟨Or.inl ⟨rfl,_,SqL.of hRc⟩,vL T s2 pa e ⟨_,_,_,rfl,rfl,hRc,lz,_,rfl,aq.out sc hR _,yes x e⟩⟩)
   by_cases c3:t.ci=3
   ·exact b9 T s2 pa c2 (aN (dZ T s2 pa c3 (bU ⟨Or.inl ⟨rfl,_,SqL.of hRc⟩,vL T s2 pa e ⟨_,_,_,rfl,rfl,hRc,lz,_,rfl,aq.out sc hR _,yes x e⟩⟩)))
   by_cases c4:t.ci=4
   ·exact b9 T s2 pa c2 (aN (b9 T s2 pa c3 (aN (dZ T s2 pa c4 (bU ⟨Or.inl ⟨rfl,_,SqL.of hRc⟩,vL T s2 pa e ⟨_,_,_,rfl,rfl,hRc,lz,_,rfl,aq.out sc hR _,yes x e⟩⟩)))))
   ·rw [decide_eq_false c2,decide_eq_false c3,decide_eq_false c4] at hi
    cases hi
 rintro σ Hc ⟨v2,rfl,sc,hRc⟩
 rw [show hs.take xs.length=hs by rw [pt.len];exact List.take_length] at hRc
 exact K1 _ _ (q R Hc sc hR hRc)
end
section
variable {P:Program}{w:World}{K:W.Frag}{mg:Str->Option Value}{base:Heap}{A:Adr}{N:Nat->Str}
seal PE PA PS PSs PT PW
theorem lR {α β:Type} (f:α->List β) {xs:List α}{i:Nat}{x:α} (h:xs[i]?=some x):(xs.take (i + 1)).flatMap f=(xs.take i).flatMap f ++ f x:=by
 rw [List.take_add_one,h]
 simp
theorem zf {α β:Type} (f:α->List β) {xs:List α}{i:Nat}{x:α} (h:xs[i]?=some x):((xs.take i).flatMap f).length + (f x).length <= (xs.flatMap f).length:=by
 have e:xs.flatMap f=(xs.take (i + 1)).flatMap f ++ (xs.drop (i + 1)).flatMap f:=by rw [<- List.flatMap_append,List.take_append_drop]
 rw [e,lR f h]
 simp only [List.length_append]
 omega
theorem vR {es:List Le}{i:Nat}{e:Le} (h:es[i]?=some e):dv (es.take (i + 1))=dv (es.take i) ++ (if uF e.1=true then [aL e.1.no] else []):=by
 unfold dv
 rw [List.take_add_one,h,List.filter_append,List.map_append]
 congr 1
 show List.map _ (List.filter _ [e])=_
 rw [List.filter_cons,List.filter_nil]
 split <;> rfl
theorem yj (es:List Le):(dv es).length <= es.length:=by
 unfold dv
 rw [List.length_map]
 exact List.length_filter_le _ _
inductive qU (A:Adr) (d:Nat) (vs:List V) (H:Hp) (Q:VK) (E9:XK):Prop
 | mk (N:Nat->Str) (X:Hp) (v:V) (hs ds ms:List Pt) (z0:vs=[v]) (z1:aq X H) (z2:gf A N X v hs ds ms) (z3:Ok N d hs ds ms)
  (z7:∀(R:Addr) (H':Hp),aq H H'->H R=none->H' R=some (.lst (sS (bf N hs ds ms)))->Q (.ref R) H'):qU A d vs H Q E9
theorem uE (T:Txt K mg A) (d:Nat):T.places.Hz P w base (2 * d + 5) (qU A d):=by
 refine T.places.hs (k:=2 * d + 4) fI (fun f cdv A' outer s H vs Q E' hr hu h=>?_)
 obtain ⟨N,X,v,hs,ds,ms,rfl,s0,pg,ok,q⟩:=h
 obtain ⟨a,dx,n0,n1,n2,x0,x1,x2,rfl,ha,e0,e1,e2,p0,p1,p2⟩:=id pg
 refine ⟨_,(af (pst 1 fI.nd (aj (hj:=by omega) (zx T) hr (aa (au (fv 0) rfl) ae)))
  (af (cP PassesOwn.never rfl (bB (au (fv 0) rfl)) (pgn (i:=2) fI.nd rfl)
   (ah (bo (fT (fv 1) (aa (aG aU (aZ (aa (au (fv 2) rfl) ae)) (au (fv 2) rfl)) ae)))))
  (af (cP PassesOwn.never rfl (bB (aj (hj:=by omega) (rS T d) hr (aa (fv 0) ae))) (gS rfl (bc (pgn (i:=3) fI.nd rfl) (bc (pgn (i:=4) fI.nd rfl) (bc (pgn (i:=5) fI.nd rfl) eO))))
   (ah (aV (aM (aj (hj:=by omega) (x4 T) hr (aa (fv 3) ae)) (fun _=>rfl))
    (ah (bo (gb (fv 1) (aa (aj (hj:=by omega) (oK T) hr (aa (au (fv 3) rfl) ae)) ae))))
    aE)))
  (ah (ax (aG aU (fv 1) (aZ (aa (Be T.xt) ae)))))))),?_⟩
 have pl:=ok.pl
 unfold bf at pl q
 simp only [List.length_append,List.length_singleton] at pl
 have hl:=ok.hl
 refine ag fun M1 K1=>fdI (s0 _ _ ha) T.aP.cl T.cQ rfl ⟨N,X,n0,x0,hs,rfl,s0,e0,p0,by omega,fun R H1 s1 hR eR=>K1 _ _ ?_⟩
 clear K1 M1
 try dsimp only
 generalize hs.filterMap (hPl N)=B0 at eR pl q
 refine ag fun M1 K1=>fdI ((s0.trans s1) _ _ ha) T.aP.cl T.a8 rfl (Or.inl ⟨⟨_,SqL.of ((s0.trans s1) _ _ e1)⟩,cu (K:=K) (xs:=x1) (fun i σ Hc=>∃(v2:Option V),σ=[some (.ref a),some (.ref R),v2,none,none,none]/\aq H Hc/\Hc R=some (.lst (sS (B0 ++ (ds.take i).flatMap fun p=>dNm N p :: dPs N p)))) ⟨none,rfl,s1,by rw [List.take_zero,List.flatMap_nil,List.append_nil];exact eR⟩ (fun i σ Hc _ ⟨_,_,z,_⟩=>SqL.of ((s0.trans z) _ _ e1)) ?_ ?_⟩)
 ·rintro i v σ Hc hv ⟨v2,rfl,sc,hRc⟩
  obtain ⟨t,ht,pa⟩:=p1.get hv
  have mt:t ∈ ds:=List.mem_of_getElem? ht
  obtain ⟨dt,dd⟩:=ok.bA t mt
  have st:=lR (fun p=>dNm N p :: dPs N p) ht
  have sl:=zf (fun p=>dNm N p :: dPs N p) ht
  cases t with
  | bA n i' ps b =>
   unfold aF at pa
   obtain ⟨a',dx',pp,pb,xb,rfl,h1,h2,h3,h4⟩:=pa
   have sX:=s0.trans sc
   have lp:B0.length + ((ds.take i).flatMap fun p=>dNm N p :: dPs N p).length + (1 + ps.length) <= 900:=by
    have z:(dNm N (Pt.bA n i' ps b) :: dPs N (Pt.bA n i' ps b)).length=ps.length + 1:=by simp [dPs]
    rw [z] at sl
    omega
   refine ⟨Or.inl ⟨rfl,_,SqL.of hRc⟩,fdI (sX _ _ h1) T.aY.cl T.bJ rfl ⟨by show 1 <= sizeLine;decide,fun q1 hq1=>?_⟩⟩
   have n1:q1 ≠ R:=fresh_ne hq1 hRc
   have sq:aq Hc (upd Hc q1 (.lst [.str (N i')])):=aq.upd hq1 _
   refine fdI ((sX.trans sq) _ _ h1) T.aY.cl T.cU rfl ⟨q1,pp,_,_,rfl,rfl,aw,(sX.trans sq) _ _ h2,sz (by rw [List.length_map,List.length_singleton];omega),fun q2 hq2=>?_⟩
   have sq2:=aq.upd hq2 (.lst ([V.str (N i')] ++ nV N ps))
   have n2:q2 ≠ R:=fresh_ne hq2 (sq _ _ hRc)
   refine ⟨_,_,_,_,rfl,rfl,sq2 _ _ (sq _ _ hRc),aw,sz (by simp only [List.length_append,List.length_map,List.length_singleton];omega),⟨_,rfl,aq.out ((sc.trans sq).trans sq2) hR _,?_⟩⟩
   rw [aw,st]
   simp [sS,dNm,dPs,nV,Function.comp_def]
  | _=>exact dt.elim
 rintro σ Hc ⟨v2,rfl,sc,hRc⟩
 rw [show ds.take x1.length=ds by rw [p1.len];exact List.take_length] at hRc
 refine K1 _ _ ?_
 clear K1 M1
 try dsimp only
 rw [<- List.length_append] at pl
 generalize B0 ++ (ds.flatMap fun p=>dNm N p :: dPs N p)=B1 at hRc pl q
 refine ag fun M1 K1=>⟨N,X,.ref a,hs,ds,ms,rfl,s0.trans sc,pg,ok,fun L ys H2 s2 hL eL ly=>?_⟩
 have nL:L ≠ R:=fresh_ne hL hRc
 have nb:=ok.nb
 generalize dw N ds ms=es at ly nb pl q
 have lly:=Paired.length ly
 refine Or.inl ⟨⟨_,SqL.of eL⟩,cu (K:=K) (xs:=ys) (fun i σ Hd=>∃(v3 v4 v5:Option V),σ=[some (.ref a),some (.ref R),v2,v3,v4,v5]/\Sm [R] H2 Hd/\Hd R=some (.lst (sS (B1 ++ dv (es.take i))))) ⟨none,none,none,rfl,Sm.refl _ _,by rw [List.take_zero];show _=some (HO.lst (sS (B1 ++ [])));rw [List.append_nil];exact s2 _ _ hRc⟩ (fun i σ Hd _ ⟨_,_,_,_,z,_⟩=>SqL.of (z _ _ (fun m=>nL (List.mem_singleton.mp m)) eL)) ?_ ?_⟩
 ·rintro i y σ Hd hy ⟨v3,v4,v5,rfl,sd,hRd⟩
  obtain ⟨e,he,tp,v,rfl,etp,pa⟩:=bY ly hy
  have etp':=sd _ _ (fun m=>by rw [List.mem_singleton.mp m,s2 _ _ hRc] at etp;cases etp) etp
  have sX:aq X Hd:=sd.same ((s0.trans sc).trans s2) (fun m hm=>by
   rw [List.mem_singleton.mp hm]
   exact aq.free s0 hR)
  have ne:=nb e (List.mem_of_getElem? he)
  have st:=vR he
  have rl:=yj (es.take i)
  have rl2:(dv (es.take i)).length <= (dv es).length:=by
   have:dv es=dv (es.take i) ++ dv (es.drop i):=by
    unfold dv
    rw [<- List.map_append,<- List.filter_append,List.take_append_drop]
   rw [this]
   simp
  try dsimp only
  refine ⟨tp,_,rfl,SqT.of etp',rfl,_,_,rfl,_,_,rfl,_,_,rfl,rfl,⟨N,X,v,e.1,rfl,sX,pa,_,rfl,?_⟩⟩
  cases c:uF e.1 with
  | true =>
   rw [c,if_pos rfl] at st
   refine bU ⟨Or.inl ⟨rfl,_,SqL.of hRd⟩,d8 T sX pa ⟨_,rfl,ne.1,ne.2,⟨_,_,_,rfl,rfl,hRd,aQ (by simp only [sS,List.length_map,List.length_append];omega),⟨_,_,_,rfl,sd.trans (Sm.at (List.mem_singleton.mpr rfl) _),?_⟩⟩⟩⟩
   rw [aw,st]
   simp [sS]
  | false =>
   rw [c,if_neg Bool.false_ne_true,List.append_nil] at st
   exact aN ⟨_,_,_,rfl,sd,by rw [st];exact hRd⟩
 rintro σ Hd ⟨v3,v4,v5,rfl,sd,hRd⟩
 rw [show es.take ys.length=es by rw [<- lly];exact List.take_length] at hRd
 refine K1 _ _ ?_
 have s3:aq H Hd:=sd.same (sc.trans s2) (fun m hm=>by rw [List.mem_singleton.mp hm];exact hR)
 refine ⟨by show 1 <= sizeLine;decide,fun q1 hq1=>?_⟩
 have sq:aq Hd (upd Hd q1 (.lst [.str "the clock"])):=aq.upd hq1 _
 refine ⟨R,q1,_,_,rfl,rfl,sq _ _ hRd,aw,sz (by simp only [sS,List.length_map,List.length_append,List.length_singleton];omega),fun q2 hq2=>q q2 _ ((s3.trans sq).trans (aq.upd hq2 _)) (aq.free (s3.trans sq) hq2) ?_⟩
 rw [aw]
 simp [sS]
end
section
variable {P:Program}{w:World}{K:W.Frag}{mg:Str->Option Value}{base:Heap}{A:Adr}{N:Nat->Str}
seal PE PA PS PSs PT PW
theorem zD:W.kitOne K (.type "str") (.type "str")=some true:=by kernel_rfl!
theorem yQ:W.kitOne K (.type "int") (.type "str")=some false:=by kernel_rfl!
def rdS (N:Nat->Str) (acc:List Str):Th->List Str
 | .i _=>acc
 | .x a=>if N a ∈ acc then acc else acc ++ [N a]
def rds (N:Nat->Str) (ts:List Th):List Str:=ts.foldl (rdS N) []
theorem oJ (N:Nat->Str):∀(ts:List Th) (acc:List Str),(ts.foldl (rdS N) acc).length <= ts.length + acc.length
 | [],acc=>by simp
 | t :: ts,acc=>by
  have h:=oJ N ts (rdS N acc t)
  have h2:(rdS N acc t).length <= acc.length + 1:=by
   cases t with
   | i n=>exact Nat.le_succ _
   | x a=>unfold rdS;dsimp only;split <;> simp
  rw [List.foldl_cons,List.length_cons]
  omega
theorem w8 (x:Str) (acc:List Str):inV (.str x) (sS acc)=decide (x ∈ acc):=by
 unfold inV sS
 rw [List.any_map,Bool.eq_iff_iff,List.any_eq_true,decide_eq_true_iff]
 constructor
 ·rintro ⟨y,m,e⟩
  have e:decide (y=x)=true:=e
  exact of_decide_eq_true e ▸ m
 ·intro m
  exact ⟨x,m,decide_eq_true rfl⟩
theorem yw (acc:List Str):(sS acc).all jH=true:=by
 unfold sS
 rw [List.all_map,List.all_eq_true]
 exact fun _ _=>rfl
def vTh:Val->List Th
 | .one a=>[a]
 | .op a _ b=>[a,b]
theorem wA (N:Nat->Str) (v:Val):fz (vV N v)=(vTh v).map (Th.v N):=by
 cases v <;> kernel_rfl
inductive vi (K:W.Frag) (vs:List V) (H:Hp) (Q:VK) (E9:XK):Prop
 | mk (N:Nat->Str) (t:Addr) (xs:List V) (ts:List Th) (z0:vs=[.ref t]) (z1:SqT K H t xs) (z2:fz xs=ts.map (Th.v N)) (z3:ts.length <= 100)
  (z4:∀(p:Addr) (H':Hp),H p=none->aq H H'->H' p=some (.lst (sS (rds N ts)))->Q (.ref p) H'):vi K vs H Q E9
theorem si (T:Txt K mg A):T.pU.Hz P w base 1 (vi K):=by
 refine T.pU.hs kh (fun f cdv A' outer s H vs Q E' hr hu h=>?_)
 obtain ⟨N,t,xs,ts,rfl,hT,ev,hl,q⟩:=h
 refine ⟨_,(af (pst 1 kh.nd (aZ ae))
  (af (cP PassesOwn.never rfl (bB (zb (fv 0))) (pgn (i:=2) kh.nd rfl)
   (ah (aV (PW.pt (pw_and (aM (pcB aH T.av (aa (fv 2) (aa (mz (v:=.ty "str") rfl T.uM (by boot_by_name) rfl) ae))) (fun _=>rfl)) (pw_and1 (ptc (uy hu) (fv 2) (fv 1) ((by with_unfolding_all rfl))))))
    (ah (bo (gb (fv 1) (aa (fv 2) ae))))
    aE)))
  (ah (ax (fv 1))))),?_⟩
 refine ⟨(by decide:0 <= sizeLine),fun p hp=>⟨t,xs,rfl,(aq.upd hp _).tup hT,fun e he=>Or.inr ⟨⟨_,SqT.of aw⟩,?_⟩⟩⟩
 have hpe:p ≠ e:=fun z=>by
  rw [<- z,aw] at he
  cases he
 rw [ev]
 refine Bc (K:=K) (xs:=ts.map (Th.v N)) (fun i σ H3=>aq H H3/\H3 e=some (.tup (ts.map (Th.v N)))/\H3 p=some (.lst (sS (rds N (ts.take i))))/\∃v,σ=[some (.ref t),some (.ref p),v]) ⟨(aq.upd hp _).trans (aq.upd he _),aw,?_,none,rfl⟩ (fun i σ H3 _ h=>SqT.of h.2.1) ?_ ?_
 ·rw [aI hpe,aw]
  rfl
 ·rintro i x σ H3 hi ⟨s3,h3e,h3p,v,rfl⟩
  rw [List.getElem?_map] at hi
  cases ht:ts[i]? with
  | none=>rw [ht] at hi;cases hi
  | some th =>
  rw [ht] at hi
  cases hi
  have nx:rds N (ts.take (i + 1))=rdS N (rds N (ts.take i)) th:=iH (rdS N) [] ht
  have ll:=oJ N (ts.take i) []
  rw [List.length_take,List.length_nil] at ll
  cases th with
  | i n =>
   exact ⟨_,_,_,false,rfl,(fun z=>by cases z),.int n,yQ,false,rfl,aN (aN ⟨s3,h3e,by rw [h3p,nx];rfl,_,rfl⟩)⟩
  | x a =>
   refine ⟨_,_,_,true,rfl,(fun z=>by cases z),.str _,zD,true,rfl,bU (Or.inl ⟨_,Or.inl (SqL.of h3p),rfl,yw _,_,rfl,?_⟩)⟩
   have nx:rds N (ts.take (i + 1))=if N a ∈ rds N (ts.take i) then rds N (ts.take i) else rds N (ts.take i) ++ [N a]:=nx
   by_cases m:N a ∈ rds N (ts.take i)
   ·rw [if_pos m] at nx
    exact de (fun c=>absurd c (by show ¬ (!inV (V.str (N a)) (sS (rds N (ts.take i))))=true;rw [w8,decide_eq_true m];decide)) (fun _=>⟨s3,h3e,by rw [h3p,nx],_,rfl⟩)
   ·rw [if_neg m] at nx
    refine de (fun _=>?_) (fun c=>absurd (by show (!inV (V.str (N a)) (sS (rds N (ts.take i))))=true;rw [w8,decide_eq_false m];rfl) c)
    refine ⟨Or.inl ⟨rfl,_,SqL.of h3p⟩,_,_,_,rfl,rfl,h3p,aQ (by rw [List.length_map];unfold rds;omega),⟨aq.out s3 hp _,aR hpe.symm h3e,?_,_,rfl⟩⟩
    rw [aw,nx]
    simp [sS,Th.v]
 ·rintro σ H3 ⟨s3,h3e,h3p,v,rfl⟩
  rw [show ts.take (ts.map (Th.v N)).length=ts by rw [List.length_map];exact List.take_length] at h3p
  exact q p H3 hp s3 h3p
def tTh:Pt->List Th
 | .leaf _ (.set _ v)=>vTh v
 | .leaf _ (.snd _ v)=>vTh v
 | .iff _ v _ _ _ _=>vTh v
 | .loop _ t _ _ _ _=>[t]
 | _=>[]
theorem oQ (v:Val):(vTh v).length <= 2:=by cases v <;> simp [vTh]
theorem xj (t:Pt):(tTh t).length <= 2:=by
 cases t with
 | leaf n r=>cases r <;> simp [tTh,oQ]
 | iff n v _ _ _ _=>exact oQ v
 | _=>simp [tTh]
inductive jG (A:Adr) (i:Nat) (vs:List V) (H:Hp) (Q:VK) (E9:XK):Prop
 | mk (N:Nat->Str) (X:Hp) (v:V) (t:Pt) (z0:vs=[v]) (z1:aq X H) (z2:aF A N X v t) (z3:t.ci=i)
  (z4:∀(p:Addr) (H':Hp),H p=none->aq H H'->H' p=some (.lst (sS (rds N (tTh t))))->Q (.ref p) H'):jG A i vs H Q E9
theorem om (T:Txt K mg A):T.fi.Hz P w mg base 2 (jG A 7):=by
 refine T.fi.hs (k:=1) mZ (fun f cdv A' outer s H vs Q E' hr hu h=>?_)
 obtain ⟨N,X,v,t,rfl,s0,pa,ec,q⟩:=h
 refine ⟨_,(ah (ax (aj (si T) hr (aa (au (fv 0) rfl) ae)))),?_⟩
 cases t with
 | leaf n r =>
  unfold aF at pa
  obtain ⟨a,dx,p,rfl,h1,h2⟩:=pa
  cases r with
  | snd h val=>exact fdI (s0 _ _ h1) T.bp.cl T.cW rfl ⟨N,p,_,vTh val,rfl,SqT.of (s0 _ _ (h2 _ rfl)),wA N val,Nat.le_trans (oQ val) (by decide),q⟩
  | _=>cases ec
 | _=>cases ec
theorem qJ (T:Txt K mg A):T.g7.Hz P w mg base 2 (jG A 11):=by
 refine T.g7.hs (k:=1) p8 (fun f cdv A' outer s H vs Q E' hr hu h=>?_)
 obtain ⟨N,X,v,t,rfl,s0,pa,ec,q⟩:=h
 refine ⟨_,(ah (ax (aj (si T) hr (aa (au (fv 0) rfl) ae)))),?_⟩
 cases t with
 | iff n val l r f o =>
  unfold aF at pa
  obtain ⟨a,dx,p,pf,po,xf,xo,rfl,h1,h2,_⟩:=pa
  exact fdI (s0 _ _ h1) T.aJ.cl T.cv rfl ⟨N,p,_,vTh val,rfl,SqT.of (s0 _ _ h2),wA N val,Nat.le_trans (oQ val) (by decide),q⟩
 | leaf n r=>cases r <;> cases ec
 | _=>cases ec
theorem nZ (T:Txt K mg A):T.e7.Hz P w mg base 2 (jG A 12):=by
 refine T.e7.hs (k:=1) mS (fun f cdv A' outer s H vs Q E' hr hu h=>?_)
 obtain ⟨N,X,v,t,rfl,s0,pa,ec,q⟩:=h
 refine ⟨_,(ah (ax (aj (si T) hr (aa (bR (aa (au (fv 0) rfl) ae)) ae)))),?_⟩
 cases t with
 | loop n t m l r b =>
  unfold aF at pa
  obtain ⟨a,dx,pb,xb,rfl,h1,_⟩:=pa
  exact fdI (s0 _ _ h1) T.aA.cl T.cV rfl ⟨by show 1 <= sizeLine;decide,fun tp htp=>⟨N,tp,_,[t],rfl,SqT.of aw,wA N (.one t),by simp,fun p H' hp s1 e1=>q p H' (aq.free (aq.upd htp _) hp) ((aq.upd htp _).trans s1) e1⟩⟩
 | leaf n r=>cases r <;> cases ec
 | _=>cases ec
def CD (A:Adr) (C:Addr) (sp:Sp):Prop:=∃i,(i=7 \/ i=11 \/ i=12)/\C=clI A i/\sp=jG A i
theorem Bl (T:Txt K mg A):∀C sp,CD A C sp->Cls K C/\∃ps,uI P w K mg base 2 C "reads" ps sp:=by
 rintro C sp ⟨i,rfl | rfl | rfl,rfl,rfl⟩
 ·exact ⟨T.bp.cl,_,om T⟩
 ·exact ⟨T.aJ.cl,_,qJ T⟩
 ·exact ⟨T.aA.cl,_,nZ T⟩
end
section
variable {P:Program}{w:World}{K:W.Frag}{mg:Str->Option Value}{base:Heap}{A:Adr}{N:Nat->Str}
seal PE PA PS PSs PT PW
structure Lk where
 fr:Str
 to:Str
 kd:Str
 no:Int
def Lk.vs (l:Lk):List V:=[.str l.fr,.str l.to,.str l.kd,.int l.no]
def LkR (l:Lk) (y:V) (H:Hp):Prop:=∃t,y=V.ref t/\H t=some (.tup l.vs)
def Lks (H:Hp) (ls:List Lk) (ys:List V):Prop:=Paired (fun l y=>LkR l y H) ls ys
theorem Lks.same {H H':Hp} (s:∀x w,H x=some (.tup w)->H' x=some (.tup w)) {ls:List Lk}{ys:List V} (h:Lks H ls ys):Lks H' ls ys:=Paired.mR h fun _ _ ⟨t,e,h1⟩=>⟨t,e,s _ _ h1⟩
theorem eA {α β γ:Type}{F:α->β->Prop} (g:γ->α):∀{l:List γ}{m:List β},Paired (fun x y=>F (g x) y) l m->Paired F (l.map g) m
 | _,_,.nil=>.nil
 | _,_,.cons h r=>.cons h (eA g r)
def drP (into:Str):Option Str->Bool
 | none=>false
 | some x=>!decide (x=into)
def drw (fs:List (Option Str)) (into kd:Str) (n:Int):List Lk:=(fs.filter (drP into)).map fun f=>⟨f.getD Str.empty,into,kd,n⟩
theorem c7 (fs:List (Option Str)) (into kd:Str) (n:Int):(drw fs into kd n).length <= fs.length:=by
 unfold drw
 rw [List.length_map]
 exact List.length_filter_le _ _
inductive l8 (K:W.Frag) (vs:List V) (H:Hp) (Q:VK) (E9:XK):Prop
 | mk (L:Addr) (fs:List (Option Str)) (into kd:Str) (n:Int) (z0:vs=[.ref L,.str into,.str kd,.int n]) (z1:SqL K H L (fs.map oS)) (z2:fs.length <= 100)
  (z3:∀(R:Addr) (ys:List V) (H':Hp),aq H H'->H R=none->H' R=some (.lst ys)->Lks H' (drw fs into kd n) ys->Q (.ref R) H'):l8 K vs H Q E9
theorem sP (T:Txt K mg A):T.drawn.Hz P w base 1 (l8 K):=by
 refine T.drawn.hs AM (fun f cdv A' outer s H vs Q E' hr hu h=>?_)
 obtain ⟨L,fs,into,kd,n,rfl,hL,hl,q⟩:=h
 refine ⟨_,(ah (ax (dm (N:=["one","into","kind","number"]) (own:=1) (fr:=[1,2,3]) (bS.of (by kernel_rfl!)) rfl (bB (fv 0)) (fun b=>pgn (i:=0) (show List.Nodup (["one","into","kind","number"]:List PySem.Str) by decide +kernel) rfl) (fun b=>tI (PW.pt (pw_and (ptc xR (fv 0) dH) (pw_and1 (ptc (dz hu) (fv 0) (fv 1)))))) (fun b=>bR (aa (fv 0) (aa (fv 1) (aa (fv 2) (aa (fv 3) ae)))))))),Or.inl ⟨⟨_,hL⟩,dA (K:=K) (own:=1) fs (drP into) (fun f y H=>LkR ⟨f.getD Str.empty,into,kd,n⟩ y H) hL (List.length_map _) (by rw [List.length_map];exact aQ (by omega)) ?_ ?_ ?_ ?_⟩⟩
 ·intro b i x e v0 H1 Nn Y hx he hv s1 no yes
  obtain ⟨u0,rfl⟩:∃u0,v0=[u0]:=by
   match v0,hv with
   | [u],_=>exact ⟨u,rfl⟩
  rw [List.getElem?_map,he] at hx
  cases hx
  cases e with
  | none=>exact ⟨rfl,_,rfl,aN (aN (no rfl [some .non] _ rfl (aq.refl _)))⟩
  | some x =>
   refine ⟨rfl,_,rfl,bU ⟨rfl,_,rfl,?_⟩⟩
   by_cases c:x=into
   ·subst c
    exact de (fun z=>absurd z (by show ¬ (!decide (V.str x=V.str x))=true;rw [decide_eq_true rfl];decide)) (fun _=>no (by show (!decide (x=x))=false;rw [decide_eq_true rfl];rfl) [some (.str x)] _ rfl (aq.refl _))
   ·refine de (fun _=>?_) (fun z=>absurd (by show (!decide (V.str x=V.str into))=true;rw [Fs,decide_eq_false c];rfl) z)
    exact ⟨by show 4 <= sizeLine;decide,fun tp htp=>yes (by show (!decide (x=into))=true;rw [decide_eq_false c];rfl) [some (.str x)] _ _ rfl (aq.upd htp _) ⟨tp,rfl,aw⟩⟩
 ·rintro e y H1 H2 s1 ⟨t,e1,h1⟩
  exact ⟨t,e1,s1 _ _ h1⟩
 ·rintro e y H1 D ys zs hD ⟨t,e1,h1⟩
  exact ⟨t,e1,aR (fun z=>by rw [z,hD] at h1;cases h1) h1⟩
 ·intro D H1 ys hD s1 e1 pr
  exact q D ys H1 s1 hD e1 (eA _ pr)
end
section
variable {P:Program}{w:World}{K:W.Frag}{mg:Str->Option Value}{base:Heap}{A:Adr}{N:Nat->Str}
seal PE PA PS PSs PT PW
def vK (N:Nat->Str) (n:Int) (tp:Th × Str):List Lk:=match tp.1 with
 | .i _=>[]
 | .x a=>drw [some (N a)] tp.2 "value" n
def clA (N:Nat->Str) (n:Int) (l:List (Th × Str)):List Lk:=l.flatMap (vK N n)
def clB (pl:Option Str) (n:Int) (l:List Str):List Lk:=l.flatMap fun into=>drw [pl] into "under" n
theorem oW {α β:Type} (f:α->List β) (h:∀x,(f x).length <= 1):∀l:List α,(l.flatMap f).length <= l.length
 | []=>Nat.le_refl _
 | x :: l=>by
  have h1:=oW f h l
  have h2:=h x
  rw [List.flatMap_cons,List.length_append,List.length_cons]
  omega
theorem xw (n:Int) (tp:Th × Str):(vK N n tp).length <= 1:=by
 unfold vK
 split
 ·simp
 ·exact c7 _ _ _ _
theorem rL {H Hc He:Hp}{R R2:Addr}{ls ms:List Lk}{ys zs:List V} (s3:aq Hc He) (hRc:Hc R=some (.lst ys)) (ly:Lks Hc ls ys) (l3:Lks He ms zs):Lks (upd He R (.lst (ys ++ zs))) (ls ++ ms) (ys ++ zs):=by
 have dR:∀x w,He x=some (.tup w)->upd He R (.lst (ys ++ zs)) x=some (.tup w):=fun x w e=>aR (fun y=>by rw [y,s3 _ _ hRc] at e;cases e) e
 exact Paired.two (ly.same fun x w e=>dR x w (s3 _ _ e)) (l3.same dR)
inductive rF (A:Adr) (vs:List V) (H:Hp) (Q:VK) (E9:XK):Prop
 | mk (N:Nat->Str) (X:Hp) (v:V) (n:Int) (i:Nat) (ts:List Th) (pl:Option Str) (pp:Addr) (ps:List Str) (z0:vs=[v,oS pl,.ref pp]) (z1:aq X H) (z2:aF A N X v (.leaf n (.call i ts))) (z3:X pp=some (.lst (sS ps))) (z4:ts.length=ps.length) (z5:ps.length <= 100)
  (z6:∀(R:Addr) (ys:List V) (H':Hp),aq H H'->H R=none->H' R=some (.lst ys)->Lks H' (clA N n (ts.zip ps) ++ clB pl n (ps ++ [N i])) ys->Q (.ref R) H'):rF A vs H Q E9
theorem AF (T:Txt K mg A):T.iM.Hz P w base 2 (rF A):=by
 refine T.iM.hs (k:=1) cR (fun f cdv A' outer s H vs Q E' hr hu h=>?_)
 obtain ⟨N,X,v,n,i,ts,pl,pp,ps,rfl,s0,pa,hpp,tl,pl1,q⟩:=h
 unfold aF at pa
 obtain ⟨a,dx,p,rfl,h1,h2⟩:=pa
 have h2:=h2 _ rfl
 refine ⟨_,(af (pst 3 cR.nd (aZ ae))
  (af (cP PassesOwn.never rfl (Dc rfl T.uc (aa (au (fv 0) rfl) (aa (fv 2) ae))) (gS rfl (bc (pgn (i:=4) cR.nd rfl) (bc (pgn (i:=5) cR.nd rfl) eO)))
   (ah (aV (aM (pcB aH T.av (aa (fv 4) (aa (mz (v:=.ty "str") rfl T.uM (by boot_by_name) rfl) ae))) (fun _=>rfl))
    (ah (bo (fT (fv 3) (aa (aj (sP T) hr (aa (aZ (aa (fv 4) ae)) (aa (fv 5) (aa br (aa (au (fv 0) rfl) ae))))) ae))))
    aE)))
  (af (cP PassesOwn.never rfl (bB (aG aU (fv 2) (aZ (aa (au (fv 0) rfl) ae)))) (pgn (i:=6) cR.nd rfl)
   (ah (bo (fT (fv 3) (aa (aj (sP T) hr (aa (aZ (aa (fv 1) ae)) (aa (fv 6) (aa br (aa (au (fv 0) rfl) ae))))) ae)))))
  (ah (ax (fv 3)))))),?_⟩
 refine ag fun M1 K1=>⟨Nat.zero_le _,fun R hR=>?_⟩
 obtain ⟨s1,e1⟩:=alc hR (HO.lst [])
 generalize upd H R _=H1 at s1 e1 ⊢
 refine K1 _ _ ?_
 clear K1 M1
 try dsimp only
 refine ag fun M1 K1=>?_
 have sX1:=s0.trans s1
 refine fdI (sX1 _ _ h1) T.aW.cl T.cz rfl ⟨_,_,rfl,⟨_,SqL.of (sX1 _ _ h2)⟩,⟨_,SqL.of (sX1 _ _ hpp)⟩,Bt (K:=K) (xs:=ts.map (Th.v N)) (ys:=sS ps) (fun j σ Hc=>∃(ys:List V) (v4 v5:Option V),σ=[some (.ref a),some (oS pl),some (.ref pp),some (.ref R),v4,v5,none]/\aq H Hc/\Hc R=some (.lst ys)/\Lks Hc (clA N n ((ts.zip ps).take j)) ys) ⟨[],none,none,rfl,s1,e1,.nil⟩ (fun j σ Hc _ ⟨_,_,_,_,z,_⟩=>⟨SqL.of ((s0.trans z) _ _ h2),SqL.of ((s0.trans z) _ _ hpp)⟩) (by rw [List.length_map,List.length_map];exact tl) ?_ ?_⟩
 ·rintro j x y σ Hc tp hx hy ⟨ys,v4,v5,rfl,sc,hRc,ly⟩ htp
  rw [List.getElem?_map] at hx hy
  cases ht:ts[j]? with
  | none=>rw [ht] at hx;cases hx
  | some th =>
  cases hp:ps[j]? with
  | none=>rw [hp] at hy;cases hy
  | some pn =>
  rw [ht] at hx
  rw [hp] at hy
  cases hx
  cases hy
  have hz:(ts.zip ps)[j]?=some (th,pn):=List.getElem?_zip_eq_some.mpr ⟨ht,hp⟩
  have st:clA N n ((ts.zip ps).take (j + 1))=clA N n ((ts.zip ps).take j) ++ vK N n (th,pn):=lR (vK N n) hz
  have sl:=oW (vK N n) (xw n) ((ts.zip ps).take j)
  rw [List.length_take,List.length_zip] at sl
  have lly:=Paired.length ly
  unfold clA at lly
  have sp:=aq.upd htp (.tup [th.v N,.str pn])
  have tR:tp ≠ R:=fresh_ne htp hRc
  try dsimp only
  refine ⟨tp,_,rfl,SqT.of aw,rfl,_,_,rfl,_,_,rfl,rfl,?_⟩
  cases th with
  | i m =>
   refine ⟨_,_,_,false,rfl,(fun z=>by cases z),.int m,yQ,false,rfl,aN ⟨ys,_,_,rfl,sc.trans sp,sp _ _ hRc,?_⟩⟩
   rw [st]
   show Lks _ (_ ++ []) ys
   rw [List.append_nil]
   exact ly.same fun x w e=>sp _ _ e
  | x b =>
   refine ⟨_,_,_,true,rfl,(fun z=>by cases z),.str _,zD,true,rfl,bU ⟨Or.inl ⟨rfl,_,SqL.of (sp _ _ hRc)⟩,by show 1 <= sizeLine;decide,fun q1 hq1=>?_⟩⟩
   have sq:=aq.upd hq1 (.lst [Th.v N (.x b)])
   refine fdI ((((s0.trans sc).trans sp).trans sq) _ _ h1) T.aW.cl T.bE rfl ⟨q1,[some (N b)],pn,"value",n,rfl,SqL.of aw,by simp,fun R2 zs He s3 hR2 eR2 l3=>?_⟩
   have lz:=Paired.length l3
   have dl:=c7 [some (N b)] pn "value" n
   have s4:=(sp.trans sq).trans s3
   refine ⟨_,_,_,_,rfl,rfl,s4 _ _ hRc,eR2,sz (by simp only [List.length_singleton] at dl;omega),⟨_,_,_,rfl,aq.out (sc.trans s4) hR _,aw,?_⟩⟩
   rw [st]
   exact rL (H:=H) (R2:=R2) s4 hRc ly l3
 rintro σ Hc ⟨ys,v4,v5,rfl,sc,hRc,ly⟩
 rw [show (ts.zip ps).take (ts.map (Th.v N)).length=ts.zip ps by rw [List.length_map];exact List.take_of_length_le (by rw [List.length_zip];omega)] at ly
 have l1:(clA N n (ts.zip ps)).length <= 100:=Nat.le_trans (oW (vK N n) (xw n) _) (by rw [List.length_zip];omega)
 refine K1 _ _ ?_
 clear K1 M1
 generalize clA N n (ts.zip ps)=LA at ly l1 q
 try dsimp only
 refine ag fun M1 K1=>?_
 have sX:=s0.trans sc
 refine fdI (sX _ _ h1) T.aW.cl T.bM rfl ⟨by show 1 <= sizeLine;decide,fun q1 hq1=>?_⟩
 have sq:=aq.upd hq1 (.lst [.str (N i)])
 refine ⟨pp,q1,_,_,rfl,rfl,(sX.trans sq) _ _ hpp,aw,sz (by rw [List.length_map,List.length_singleton];omega),fun q2 hq2=>?_⟩
 have sq2:=aq.upd hq2 (.lst (sS ps ++ [.str (N i)]))
 have es:sS ps ++ [V.str (N i)]=sS (ps ++ [N i]):=by simp [sS]
 rw [es] at sq2 ⊢
 have eq2:upd (upd Hc q1 (.lst [.str (N i)])) q2 (.lst (sS (ps ++ [N i]))) q2=some (.lst (sS (ps ++ [N i]))):=aw
 have sc2:=sq.trans sq2
 have q2R:q2 ≠ R:=fresh_ne hq2 (sq _ _ hRc)
 generalize upd (upd Hc q1 (.lst [.str (N i)])) q2 (.lst (sS (ps ++ [N i])))=H2 at sc2 eq2 ⊢
 have is1:(ps ++ [N i]).length <= 101:=by simp;omega
 generalize ps ++ [N i]=is at eq2 is1 q
 refine Or.inl ⟨⟨_,SqL.of eq2⟩,cu (K:=K) (xs:=sS is) (fun j σ Hd=>∃(zs:List V) (v6:Option V),σ=[some (.ref a),some (oS pl),some (.ref pp),some (.ref R),v4,v5,v6]/\Sm [R] H2 Hd/\Hd R=some (.lst zs)/\Lks Hd (LA ++ clB pl n (is.take j)) zs) ⟨ys,none,rfl,Sm.refl _ _,sc2 _ _ hRc,by show Lks _ (_ ++ []) _;rw [List.append_nil];exact ly.same fun x w e=>sc2 _ _ e⟩ (fun j σ Hd _ ⟨_,_,_,z,_⟩=>SqL.of (z _ _ (fun m=>q2R (List.mem_singleton.mp m)) eq2)) ?_ ?_⟩
 ·rintro j x σ Hd hx ⟨zs,v6,rfl,sd,hRd,lz⟩
  rw [List.getElem?_map] at hx
  cases hi:is[j]? with
  | none=>rw [hi] at hx;cases hx
  | some into =>
  rw [hi] at hx
  cases hx
  have st:clB pl n (is.take (j + 1))=clB pl n (is.take j) ++ drw [pl] into "under" n:=lR _ hi
  have sl:=oW (fun into=>drw [pl] into "under" n) (fun x=>c7 _ _ _ _) (is.take j)
  rw [List.length_take] at sl
  have llz:=Paired.length lz
  unfold clB at llz
  rw [List.length_append] at llz
  have sX2:aq H Hd:=sd.same (sc.trans sc2) (fun m hm=>by rw [List.mem_singleton.mp hm];exact hR)
  try dsimp only
  refine ⟨Or.inl ⟨rfl,_,SqL.of hRd⟩,by show 1 <= sizeLine;decide,fun q3 hq3=>?_⟩
  have sq3:=aq.upd hq3 (.lst [oS pl])
  refine fdI (((s0.trans sX2).trans sq3) _ _ h1) T.aW.cl T.bE rfl ⟨q3,[pl],into,"under",n,rfl,SqL.of aw,by simp,fun R2 ws He s3 hR2 eR2 l3=>?_⟩
  have lw:=Paired.length l3
  have dl:=c7 [pl] into "under" n
  have s4:=sq3.trans s3
  refine ⟨_,_,_,_,rfl,rfl,s4 _ _ hRd,eR2,sz (by simp only [List.length_singleton] at dl;omega),⟨_,_,rfl,(sd.trans (Sm.new s4)).trans (Sm.at (List.mem_singleton.mpr rfl) _),aw,?_⟩⟩
  rw [st,<- List.append_assoc]
  exact rL (H:=H) (R2:=R2) s4 hRd lz l3
 rintro σ Hd ⟨zs,v6,rfl,sd,hRd,lz⟩
 rw [show is.take (sS is).length=is by rw [List.length_map];exact List.take_length] at lz
 exact K1 _ _ (q R zs Hd (sd.same (sc.trans sc2) (fun m hm=>by rw [List.mem_singleton.mp hm];exact hR)) hR hRd lz)
end
section
variable {P:Program}{w:World}{K:W.Frag}{mg:Str->Option Value}{base:Heap}{A:Adr}{N:Nat->Str}
seal PE PA PS PSs PT PW
def k5:Pt->Bool
 | .leaf _ (.snd _ _)=>true
 | .leaf _ (.call _ _)=>true
 | .iff _ _ _ _ _ _=>true
 | .loop _ _ _ _ _ _=>true
 | _=>false
def drs (N:Nat->Str) (t:Pt) (kd:Str) (pl:Option Str):List Lk:=drw ((rds N (tTh t)).map some) (aL t.no) kd t.no ++ drw [pl] (aL t.no) "under" t.no
def d0 (N:Nat->Str) (po:Str->List Str) (t:Pt) (pl:Option Str):List Lk:=match t with
 | .leaf n (.call i ts)=>clA N n (ts.zip (po (N i))) ++ clB pl n (po (N i) ++ [N i])
 | .leaf n (.snd h v)=>drs N (.leaf n (.snd h v)) "value" pl
 | .iff n v l r f o=>drs N (.iff n v l r f o) "test" pl
 | .loop n t m l r b=>drs N (.loop n t m l r b) "test" pl
 | _=>[]
theorem A0 (t:Pt) (kd:Str) (pl:Option Str):(drs N t kd pl).length <= 3:=by
 unfold drs
 have h1:=c7 ((rds N (tTh t)).map some) (aL t.no) kd t.no
 have h2:=c7 [pl] (aL t.no) "under" t.no
 have h3:=oJ N (tTh t) []
 have h4:=xj t
 rw [List.length_map] at h1
 rw [List.length_append]
 simp only [List.length_singleton,List.length_nil] at h2 h3
 unfold rds at h1 ⊢
 omega
def zp (X H:Hp) (D:Addr) (po:Str->List Str) (nm:List Str):Prop:=∃kvs,H D=some (.dK kvs)/\∀x ∈ nm,(po x).length <= 100/\∃pp,L2.b8 kvs (.inr x)=some (.ref pp)/\X pp=some (.lst (sS (po x)))
theorem zp.same {X H H':Hp}{D:Addr}{po:Str->List Str}{nm:List Str} (h:zp X H D po nm) (e:∀kvs,H D=some (.dK kvs)->H' D=some (.dK kvs)):zp X H' D po nm:=by
 obtain ⟨kvs,h1,h2⟩:=h
 exact ⟨kvs,e _ h1,h2⟩
def Cb (N:Nat->Str) (po:Str->List Str) (nm:List Str):Pt->Prop
 | .leaf _ (.call i ts)=>N i ∈ nm/\ts.length=(po (N i)).length
 | _=>True
inductive xE (A:Adr) (vs:List V) (H:Hp) (Q:VK) (E9:XK):Prop
 | mk (N:Nat->Str) (X:Hp) (v:V) (t:Pt) (pl lp:Option Str) (D:Addr) (po:Str->List Str) (nm:List Str) (z0:vs=[v,oS pl,oS lp,.ref D]) (z1:aq X H) (z2:aF A N X v t) (z3:k5 t=true) (z4:0 <= t.no/\t.no <= 1000) (z5:zp X H D po nm) (z6:Cb N po nm t)
  (z7:∀(R:Addr) (ys:List V) (H':Hp),aq H H'->H R=none->H' R=some (.lst ys)->Lks H' (d0 N po t pl) ys->Q (.ref R) H'):xE A vs H Q E9
theorem Cz (T:Txt K mg A):T.nh.Hz P w base 3 (xE A):=by
 have D_drawn:=sP (P:=P) (w:=w) (base:=base) T
 have M_reads:=Bl (P:=P) (w:=w) (mg:=mg) (base:=base) T
 have D_said_links:T.lL.Hz P w base 1 (fun _ _ _ _=>False):=T.lL.hs (k:=0) qF (fun _ _ _ _ _ _ _ _ _ _ _ h=>h.elim) (fun _ _ _ _ h=>h.elim)
 refine T.nh.hs (k:=2) mf (fun f cdv A' outer s H vs Q E' hr hu h=>?_)
 obtain ⟨N,X,v,t,pl,lp,D,po,nm,rfl,s0,pa,hk,nt,hD,hc,q⟩:=h
 refine ⟨_,(af (pst 4 mf.nd (aj (oK T) hr (aa (au (fv 0) rfl) ae)))
  (af (aV (PW.pt (pw_or (aM (pcB aH T.av (aa (fv 0) (aa (aO T.gj.mg) ae))) (fun _=>rfl)) (pw_or1 (aM (pcB aH T.av (aa (fv 0) (aa (aO T.gg.mg) ae))) (fun _=>rfl)))))
   (ah (ax (aG aU (aj D_drawn hr (aa (nC (fv 0) M_reads hr) (aa (au (fv 0) rfl) (aa br (aa (au (fv 0) rfl) ae))))) (aj D_drawn hr (aa (aZ (aa (fv 1) ae)) (aa (au (fv 0) rfl) (aa br (aa (au (fv 0) rfl) ae))))))))
   aE)
  (af (aV (aM (pcB aH T.av (aa (fv 0) (aa (aO T.bp.mg) ae))) (fun _=>rfl))
   (ah (ax (aG aU (aj D_drawn hr (aa (nC (fv 0) M_reads hr) (aa (fv 4) (aa br (aa (au (fv 0) rfl) ae))))) (aj D_drawn hr (aa (aZ (aa (fv 1) ae)) (aa (fv 4) (aa br (aa (au (fv 0) rfl) ae))))))))
   aE)
  (af (aV (aM (pcB aH T.av (aa (fv 0) (aa (aO T.eU.mg) ae))) (fun _=>rfl))
   (ah (ax (aj D_said_links hr (aa (fv 0) (aa (fv 1) ae)))))
   aE)
  (af (aV (PW.pt (pw_or (aM (pcB aH T.av (aa (fv 0) (aa (aO T.aJ.mg) ae))) (fun _=>rfl)) (pw_or1 (aM (pcB aH T.av (aa (fv 0) (aa (aO T.aA.mg) ae))) (fun _=>rfl)))))
   (ah (ax (aG aU (aj D_drawn hr (aa (nC (fv 0) M_reads hr) (aa (fv 4) (aa br (aa (au (fv 0) rfl) ae))))) (aj D_drawn hr (aa (aZ (aa (fv 1) ae)) (aa (fv 4) (aa br (aa (au (fv 0) rfl) ae))))))))
   aE)
  (af (aV (aM (pcB aH T.av (aa (fv 0) (aa (aO T.iF.mg) ae))) (fun _=>rfl))
   (ah (ax (aj D_drawn hr (aa (aZ (aa (fv 1) ae)) (aa (fv 2) (aa br (aa (au (fv 0) rfl) ae)))))))
   aE)
  (ah (ax (aj (AF T) hr (aa (fv 0) (aa (fv 1) (aa (px hu (fv 3) (au (fv 0) rfl)) ae)))))))))))),?_⟩
 refine ag fun M1 K1=>d8 T s0 pa ⟨_,rfl,nt.1,nt.2,K1 _ _ ?_⟩
 clear K1 M1
 try dsimp only
 have two:∀(kd:Str) (R:VK),(∀(R':Addr) (ys:List V) (H':Hp),aq H H'->H R'=none->H' R'=some (.lst ys)->Lks H' (drs N t kd pl) ys->R (.ref R') H')->∀(p:Addr) (H1:Hp),H p=none->aq H H1->H1 p=some (.lst (sS (rds N (tTh t)))) ->
   l8 K [.ref p,.str (aL t.no),.str kd,.int t.no] H1 (fun x H2=>1 <= sizeLine/\∀q3,H2 q3=none->mi K "number" v (upd H2 q3 (.lst [oS pl])) fun u H3=>l8 K [.ref q3,.str (aL t.no),.str "under",u] H3 (fun y H4=>EE x y H4 R) E0) E0:=by
  intro kd R qq p H1 hp s1 e1
  have h3:=oJ N (tTh t) []
  have h4:=xj t
  simp only [List.length_nil] at h3
  refine ⟨p,(rds N (tTh t)).map some,aL t.no,kd,t.no,rfl,SqL.of (by rw [e1,List.map_map];rfl),by rw [List.length_map];unfold rds;omega,fun R1 y1 H2 s2 n2 e2 l2=>⟨by decide,fun q3 hq3=>?_⟩⟩
  have sq3:=aq.upd hq3 (.lst [oS pl])
  refine d8 T (((s0.trans s1).trans s2).trans sq3) pa ⟨q3,[pl],aL t.no,"under",t.no,rfl,SqL.of aw,by simp,fun R2 y2 H3 s3 n3 e3 l3=>?_⟩
  have d:=A0 (N:=N) t kd pl
  have a1:=Paired.length l2
  have a2:=Paired.length l3
  unfold drs at d
  rw [List.length_append] at d
  have s4:=sq3.trans s3
  refine ⟨R1,R2,_,_,rfl,rfl,s4 _ _ e2,e3,sz (by omega),fun R hR=>?_⟩
  have s5:=aq.upd hR (.lst (y1 ++ y2))
  exact qq R _ _ (((s1.trans s2).trans s4).trans s5) (aq.free ((s1.trans s2).trans s4) hR) aw (Paired.two (l2.same fun x w e=>s5 _ _ (s4 _ _ e)) (l3.same fun x w e=>s5 _ _ e))
 cases t with
 | iff n val l r fs os =>
  refine ag fun M1 K1=>b9 T s0 pa (j:=5) (by simp [Pt.ci,Lr.ci]) (aN (b9 T s0 pa (j:=6) (by simp [Pt.ci,Lr.ci]) (aN (K1 _ _ ?_))))
  clear K1 M1
  refine ag fun M1 K1=>b9 T s0 pa (j:=7) (by simp [Pt.ci,Lr.ci]) (aN (K1 _ _ ?_))
  clear K1 M1
  refine ag fun M1 K1=>b9 T s0 pa (j:=8) (by simp [Pt.ci,Lr.ci]) (aN (K1 _ _ ?_))
  clear K1 M1
  refine ag fun M1 K1=>dZ T s0 pa (j:=11) rfl (bU ?_)
  have pa':=pa
  unfold aF at pa'
  obtain ⟨a,dx,p,pf,po,xf,xo,rfl,h1,_⟩:=pa'
  exact ⟨a,_,dx,_,_,rfl,s0 _ _ h1,rfl,⟨11,by decide,rfl,rfl⟩,N,X,_,_,rfl,s0,pa,rfl,fun p H1 hp s1 e1=>d8 T (s0.trans s1) pa (two "test" _ q p H1 hp s1 e1)⟩
 | loop n th m l r b =>
  refine ag fun M1 K1=>b9 T s0 pa (j:=5) (by simp [Pt.ci,Lr.ci]) (aN (b9 T s0 pa (j:=6) (by simp [Pt.ci,Lr.ci]) (aN (K1 _ _ ?_))))
  clear K1 M1
  refine ag fun M1 K1=>b9 T s0 pa (j:=7) (by simp [Pt.ci,Lr.ci]) (aN (K1 _ _ ?_))
  clear K1 M1
  refine ag fun M1 K1=>b9 T s0 pa (j:=8) (by simp [Pt.ci,Lr.ci]) (aN (K1 _ _ ?_))
  clear K1 M1
  refine ag fun M1 K1=>b9 T s0 pa (j:=11) (by simp [Pt.ci]) (aN (dZ T s0 pa (j:=12) rfl (bU ?_)))
  have pa':=pa
  unfold aF at pa'
  obtain ⟨a,dx,pb,xb,rfl,h1,_⟩:=pa'
  exact ⟨a,_,dx,_,_,rfl,s0 _ _ h1,rfl,⟨12,by decide,rfl,rfl⟩,N,X,_,_,rfl,s0,pa,rfl,fun p H1 hp s1 e1=>d8 T (s0.trans s1) pa (two "test" _ q p H1 hp s1 e1)⟩
 | leaf n r =>
  cases r with
  | snd h val =>
   refine ag fun M1 K1=>b9 T s0 pa (j:=5) (by simp [Pt.ci,Lr.ci]) (aN (b9 T s0 pa (j:=6) (by simp [Pt.ci,Lr.ci]) (aN (K1 _ _ ?_))))
   clear K1 M1
   refine ag fun M1 K1=>dZ T s0 pa (j:=7) rfl (bU ?_)
   have pa':=pa
   unfold aF at pa'
   obtain ⟨a,dx,p,rfl,h1,_⟩:=pa'
   exact ⟨a,_,dx,_,_,rfl,s0 _ _ h1,rfl,⟨7,by decide,rfl,rfl⟩,N,X,_,_,rfl,s0,pa,rfl,fun p H1 hp s1 e1=>d8 T (s0.trans s1) pa (two "value" _ q p H1 hp s1 e1)⟩
  | call i ts =>
   refine ag fun M1 K1=>b9 T s0 pa (j:=5) (by simp [Pt.ci,Lr.ci]) (aN (b9 T s0 pa (j:=6) (by simp [Pt.ci,Lr.ci]) (aN (K1 _ _ ?_))))
   clear K1 M1
   refine ag fun M1 K1=>b9 T s0 pa (j:=7) (by simp [Pt.ci,Lr.ci]) (aN (K1 _ _ ?_))
   clear K1 M1
   refine ag fun M1 K1=>b9 T s0 pa (j:=8) (by simp [Pt.ci,Lr.ci]) (aN (K1 _ _ ?_))
   clear K1 M1
   refine ag fun M1 K1=>b9 T s0 pa (j:=11) (by simp [Pt.ci,Lr.ci]) (aN (b9 T s0 pa (j:=12) (by simp [Pt.ci,Lr.ci]) (aN (K1 _ _ ?_))))
   clear K1 M1
   refine ag fun M1 K1=>b9 T s0 pa (j:=10) (by simp [Pt.ci,Lr.ci]) (aN (K1 _ _ ?_))
   clear K1 M1
   have pa':=pa
   unfold aF at pa'
   obtain ⟨a,dx,p,rfl,h1,_⟩:=pa'
   obtain ⟨kvs,eD,hd⟩:=hD
   obtain ⟨c1,c2⟩:=hc
   obtain ⟨l1,pp,e1,e2⟩:=hd _ c1
   exact fdI (s0 _ _ h1) T.aW.cl T.bM rfl (dgk eD e1 ⟨N,X,_,n,i,ts,pl,pp,po (N i),rfl,s0,pa,e2,c2,l1,q⟩)
  | _=>cases hk
 | bA n i ps b=>cases hk
end
section
variable {P:Program}{w:World}{K:W.Frag}{mg:Str->Option Value}{base:Heap}{A:Adr}{N:Nat->Str}
seal PE PA PS PSs PT PW
def oI:Option Int->V
 | none=>.non
 | some n=>.int n
def Fm (l r:Int):Option Int->Option Int->Option Int
 | some a,some b=>if l + a=r + b then some (1 + l + a) else none
 | _,_=>none
def FG (m l r:Int):Option Int->Option Int
 | some a=>if l + a=r then some (1 + m * r) else none
 | none=>none
def DH (a:Int):Option Int->Option Int
 | some b=>some (a + b)
 | none=>none
def lP:Option Int->Option Int->Option Int
 | some a,x=>DH a x
 | none,_=>none
mutual
def exP (kn:Nat->Option Int):Pt->Option Int
 | .leaf _ (.call i _)=>DH 1 (kn i)
 | .leaf _ _=>some 1
 | .iff _ _ l r f o=>Fm l r (b7 kn f) (b7 kn o)
 | .loop _ _ m l r b=>FG m l r (b7 kn b)
 | .bA _ _ _ _=>some 1
def b7 (kn:Nat->Option Int):List Pt->Option Int
 | []=>some 0
 | t :: ts=>lP (exP kn t) (b7 kn ts)
end
theorem um (a b c:Option Int):lP (lP a b) c=lP a (lP b c):=by
 cases a with
 | none=>rfl
 | some a=>cases b with
  | none=>rfl
  | some b=>cases c with
   | none=>rfl
   | some c=>show some (a + b + c)=some (a + (b + c));rw [Int.add_assoc]
theorem wN (a:Option Int):lP (some 0) a=a:=by
 cases a with
 | none=>rfl
 | some a=>show some (0 + a)=some a;rw [Int.zero_add]
theorem pO (kn:Nat->Option Int):∀(a b:List Pt),b7 kn (a ++ b)=lP (b7 kn a) (b7 kn b)
 | [],b=>by rw [List.nil_append,show b7 kn []=some 0 by rw [b7],wN]
 | t :: a,b=>by
  rw [List.cons_append,b7,b7,pO kn a b,um]
theorem pZ (kn:Nat->Option Int) (t:Pt):b7 kn [t]=exP kn t:=by
 rw [b7,b7]
 cases exP kn t with
 | none=>rfl
 | some a=>show some (a + 0)=some a;rw [Int.add_zero]
theorem qR (kn:Nat->Option Int) {ts:List Pt}{i:Nat}{t:Pt} (h:ts[i]?=some t):b7 kn (ts.take (i + 1))=lP (b7 kn (ts.take i)) (exP kn t):=by
 rw [List.take_add_one,h,pO]
 show lP _ (b7 kn [t])=_
 rw [pZ]
theorem zy (kn:Nat->Option Int) {ts:List Pt}{i:Nat}{t:Pt} (h:ts[i]?=some t) (e:exP kn t=none):b7 kn ts=none:=by
 have:=pO kn (ts.take (i + 1)) (ts.drop (i + 1))
 rw [List.take_append_drop,qR kn h,e] at this
 rw [this]
 cases b7 kn (ts.take i) <;> rfl
mutual
def cOk (idx:List Nat):Pt->Prop
 | .leaf _ (.call i _)=>i ∈ idx
 | .leaf _ _=>True
 | .iff _ _ _ _ f o=>dG idx f/\dG idx o
 | .loop _ _ m _ _ b=>0 <= m/\m <= 1000/\dG idx b
 | .bA _ _ _ _=>True
def dG (idx:List Nat):List Pt->Prop
 | []=>True
 | t :: ts=>cOk idx t/\dG idx ts
end
theorem j1 {idx:List Nat}{t:Pt}:∀{ts:List Pt},dG idx ts->t ∈ ts->cOk idx t
 | t' :: ts,h,m=>by
  unfold dG at h
  rcases List.mem_cons.mp m with rfl | m
  ·exact h.1
  ·exact j1 h.2 m
def lr (N:Nat->Str) (H:Hp) (D:Addr) (idx:List Nat) (kn:Nat->V):Prop:=∃kvs,H D=some (.dK kvs)/\∀i ∈ idx,L2.b8 kvs (.inr (N i))=some (kn i)
inductive w9 (vs:List V) (H:Hp) (Q:VK) (E9:XK):Prop
 | mk (x:Option Int) (z0:vs=[oI x]) (z1:Q (oI (DH 1 x)) H):w9 vs H Q E9
theorem DU (T:Txt K mg A):T.pN.Hz P w base 1 w9:=by
 refine T.pN.hs uG (fun f cdv A' outer s H vs Q E' hr hu h=>?_)
 obtain ⟨x,rfl,q⟩:=h
 refine ⟨_,(ah (ax (zV (ptc Ad (fv 0) dH) dH (aG aU ao (fv 0))))),?_⟩
 cases x with
 | none=>exact ⟨rfl,_,rfl,bU q⟩
 | some n=>exact ⟨rfl,_,rfl,aN q⟩
inductive ir (A:Adr) (d:Nat) (vs:List V) (H:Hp) (Q:VK) (E9:XK):Prop
 | mk (N:Nat->Str) (X:Hp) (L D:Addr) (xs:List V) (ts:List Pt) (idx:List Nat) (kn:Nat->Option Int) (z0:vs=[.ref L,.ref D]) (z1:aq X H) (z2:X L=some (.lst xs)) (z3:aD A N X xs ts) (z4:dy ts <= d) (z5:dG idx ts) (z6:lr N H D idx fun i=>oI (kn i)) (z7:Q (oI (b7 kn ts)) H):ir A d vs H Q E9
inductive kA (A:Adr) (d:Nat) (vs:List V) (H:Hp) (Q:VK) (E9:XK):Prop
 | mk (N:Nat->Str) (X:Hp) (v:V) (D:Addr) (t:Pt) (idx:List Nat) (kn:Nat->Option Int) (z0:vs=[v,.ref D]) (z1:aq X H) (z3:aF A N X v t) (z4:dep t <= d) (z5:cOk idx t) (z6:lr N H D idx fun i=>oI (kn i)) (z7:Q (oI (exP kn t)) H):kA A d vs H Q E9
def spN (sp:Nat->Sp):Nat->Sp
 | 0=>fun _ _ _ _=>False
 | d + 1=>sp d
inductive iw (A:Adr) (d c:Nat) (vs:List V) (H:Hp) (Q:VK) (E9:XK):Prop
 | mk (N:Nat->Str) (X:Hp) (v:V) (D:Addr) (t:Pt) (idx:List Nat) (kn:Nat->Option Int) (z0:vs=[v,.ref D]) (z1:aq X H) (z3:aF A N X v t) (z4:dep t <= d) (z5:cOk idx t) (z6:lr N H D idx fun i=>oI (kn i)) (z8:t.ci=c) (z7:Q (oI (exP kn t)) H):iw A d c vs H Q E9
theorem u4 (T:Txt K mg A) (d j:Nat) (D_exact_of_row:T.dW.Hz P w base j (kA A d)):T.dB.Hz P w base (j + 1) (ir A d):=by
 refine T.dB.hs (k:=j) cM (fun f cdv A' outer s H vs Q E' hr hu h=>?_)
 obtain ⟨N,X,L,D,xs,ts,idx,kn,rfl,s0,hL,pt,dp,ck,hD,q⟩:=h
 refine ⟨_,(af (pst 2 cM.nd ao)
  (af (cP PassesOwn.never rfl (bB (fv 0)) (pgn (i:=3) cM.nd rfl)
   (af (pst 4 cM.nd (aj (hj:=by omega) D_exact_of_row hr (aa (fv 3) (aa (fv 1) ae))))
   (af (aV (ptc Ad (fv 4) dH)
    (ah (ax dH))
    aE)
   (ah (AJ (i:=2) cM.nd rfl (by first | exact Or.inl rfl | exact Or.inr rfl) (fv 4) zP)))))
  (ah (ax (fv 2))))),?_⟩
 refine ag fun M1 K1=>K1 _ _ ?_
 clear K1 M1
 try dsimp only
 refine ag fun M1 K1=>Or.inl ⟨⟨_,SqL.of (s0 _ _ hL)⟩,cu (K:=K) (xs:=xs) (fun i σ Hc=>∃(a:Int) (v3 v4:Option V),σ=[some (.ref L),some (.ref D),some (.int a),v3,v4]/\Hc=H/\b7 kn (ts.take i)=some a) ⟨0,none,none,rfl,rfl,by rw [List.take_zero,b7]⟩ (fun i σ Hc _ ⟨_,_,_,_,z,_⟩=>z ▸ SqL.of (s0 _ _ hL)) ?_ ?_⟩
 ·rintro i v σ Hc hv ⟨a,v3,v4,rfl,rfl,ea⟩
  obtain ⟨t,ht,pa⟩:=pt.get hv
  have mt:t ∈ ts:=List.mem_of_getElem? ht
  try dsimp only
  refine ag fun N1 J1=>⟨N,X,v,D,t,idx,kn,rfl,s0,pa,Nat.le_trans (jr mt) dp,j1 ck mt,hD,?_⟩
  have st:=qR kn ht
  rw [ea] at st
  refine J1 _ _ ?_
  clear J1 N1
  try dsimp only
  refine ag fun N1 J1=>?_
  cases e:exP kn t with
  | none =>
   rw [zy kn ht e] at q
   exact ⟨rfl,_,rfl,bU q⟩
  | some b =>
   rw [e] at st
   exact ⟨rfl,_,rfl,aN (J1 _ _ ⟨_,rfl,a,b,rfl,rfl,a + b,_,_,rfl,rfl,st⟩)⟩
 rintro σ Hc ⟨a,v3,v4,rfl,rfl,ea⟩
 rw [show ts.take xs.length=ts by rw [pt.len];exact List.take_length] at ea
 rw [ea] at q
 exact K1 _ _ q
end
section
variable {P:Program}{w:World}{K:W.Frag}{mg:Str->Option Value}{base:Heap}{A:Adr}{N:Nat->Str}
seal PE PA PS PSs PT PW
theorem sQ (T:Txt K mg A) (d j:Nat) (D_exact_of:T.dB.Hz P w base j (spN (ir A) d)):T.gD.Hz P w base (j + 1) (iw A d 11):=by
 refine T.gD.hs (k:=j) fK (fun f cdv A' outer s H vs Q E' hr hu h=>?_)
 obtain ⟨N,X,v,D,t,idx,kn,rfl,s0,pa,dp,ck,hD,ec,q⟩:=h
 refine ⟨_,(af (pst 2 fK.nd (aj (hj:=by omega) D_exact_of hr (aa (au (fv 0) rfl) (aa (fv 1) ae))))
  (af (pst 3 fK.nd (aj (hj:=by omega) D_exact_of hr (aa (au (fv 0) rfl) (aa (fv 1) ae))))
  (af (aV (PW.pt (pw_or (ptc Ad (fv 2) dH) (pw_or (ptc Ad (fv 3) dH) (pw_or1 (ptc (dz hu) (aG aU (au (fv 0) rfl) (fv 2)) (aG aU (au (fv 0) rfl) (fv 3)))))))
   (ah (ax dH))
   aE)
  (ah (ax (aG aU (aG aU ao (au (fv 0) rfl)) (fv 2))))))),?_⟩
 cases t with
 | leaf n r=>cases r <;> cases ec
 | loop _ _ _ _ _ _=>cases ec
 | bA _ _ _ _=>cases ec
 | iff n val l r fs os =>
 unfold aF at pa
 obtain ⟨a,dx,p,pf,po,xf,xo,rfl,h1,h2,h3,h4,h5,h6⟩:=pa
 unfold dep at dp
 unfold cOk at ck
 unfold exP at q
 cases d with
 | zero=>omega
 | succ d =>
 refine ag fun M1 K1=>fdI (s0 _ _ h1) T.aJ.cl T.bz rfl ⟨N,X,pf,D,xf,fs,idx,kn,rfl,s0,h3,h5,by omega,ck.1,hD,K1 _ _ ?_⟩
 clear K1 M1
 try dsimp only
 refine ag fun M1 K1=>fdI (s0 _ _ h1) T.aJ.cl T.bG rfl ⟨N,X,po,D,xo,os,idx,kn,rfl,s0,h4,h6,by omega,ck.2,hD,?_⟩
 generalize b7 kn fs=ef at q
 generalize b7 kn os=eo at q
 refine K1 _ _ ?_
 clear K1 M1
 try dsimp only
 refine ag fun M1 K1=>?_
 cases ef with
 | none=>exact ⟨rfl,_,rfl,bU q⟩
 | some b =>
 refine ⟨rfl,_,rfl,aN ?_⟩
 cases eo with
 | none=>exact ⟨rfl,_,rfl,bU q⟩
 | some c =>
 refine ⟨rfl,_,rfl,aN (fdI (s0 _ _ h1) T.aJ.cl T.cN rfl (fdI (s0 _ _ h1) T.aJ.cl T.cY rfl ⟨rfl,_,rfl,?_⟩))⟩
 by_cases e:l + b=r + c
 ·refine de (fun z=>absurd z (by show ¬ (!decide (V.int (l + b)=V.int (r + c)))=true;rw [Bx,decide_eq_true e];decide)) (fun _=>K1 _ _ ?_)
  have q:Q (oI (if l + b=r + c then some (1 + l + b) else none)) H:=q
  rw [if_pos e] at q
  exact fdI (s0 _ _ h1) T.aJ.cl T.cN rfl q
 ·refine de (fun _=>?_) (fun z=>absurd (by show (!decide (V.int (l + b)=V.int (r + c)))=true;rw [Bx,decide_eq_false e];rfl) z)
  have q:Q (oI (if l + b=r + c then some (1 + l + b) else none)) H:=q
  rw [if_neg e] at q
  exact q
theorem tP (T:Txt K mg A) (d j:Nat) (D_exact_of:T.dB.Hz P w base j (spN (ir A) d)):T.eM.Hz P w base (j + 1) (iw A d 12):=by
 refine T.eM.hs (k:=j) iu (fun f cdv A' outer s H vs Q E' hr hu h=>?_)
 obtain ⟨N,X,v,D,t,idx,kn,rfl,s0,pa,dp,ck,hD,ec,q⟩:=h
 refine ⟨_,(af (pst 2 iu.nd (aj (hj:=by omega) D_exact_of hr (aa (au (fv 0) rfl) (aa (fv 1) ae))))
  (af (aV (PW.pt (pw_or (ptc Ad (fv 2) dH) (pw_or1 (ptc (dz hu) (aG aU (au (fv 0) rfl) (fv 2)) (au (fv 0) rfl)))))
   (ah (ax dH))
   aE)
  (ah (ax (aG aU ao (aG nA (au (fv 0) rfl) (au (fv 0) rfl))))))),?_⟩
 cases t with
 | leaf n r=>cases r <;> cases ec
 | iff _ _ _ _ _ _=>cases ec
 | bA _ _ _ _=>cases ec
 | loop n th m l r b =>
 unfold aF at pa
 obtain ⟨a,dx,pb,xb,rfl,h1,h2,h3⟩:=pa
 unfold dep at dp
 unfold cOk at ck
 unfold exP at q
 cases d with
 | zero=>omega
 | succ d =>
 refine ag fun M1 K1=>fdI (s0 _ _ h1) T.aA.cl T.bK rfl ⟨N,X,pb,D,xb,b,idx,kn,rfl,s0,h2,h3,by omega,ck.2.2,hD,?_⟩
 generalize b7 kn b=ef at q
 refine K1 _ _ ?_
 clear K1 M1
 try dsimp only
 refine ag fun M1 K1=>?_
 cases ef with
 | none=>exact ⟨rfl,_,rfl,bU q⟩
 | some b =>
 refine ⟨rfl,_,rfl,aN (fdI (s0 _ _ h1) T.aA.cl T.cx rfl (fdI (s0 _ _ h1) T.aA.cl T.bQ rfl ⟨rfl,_,rfl,?_⟩))⟩
 have q:Q (oI (if l + b=r then some (1 + m * r) else none)) H:=q
 by_cases e:l + b=r
 ·refine de (fun z=>absurd z (by show ¬ (!decide (V.int (l + b)=V.int r))=true;rw [Bx,decide_eq_true e];decide)) (fun _=>K1 _ _ ?_)
  rw [if_pos e] at q
  exact fdI (s0 _ _ h1) T.aA.cl T.cy rfl (fdI (s0 _ _ h1) T.aA.cl T.bQ rfl ⟨qN (by omega) (by omega),q⟩)
 ·refine de (fun _=>?_) (fun z=>absurd (by show (!decide (V.int (l + b)=V.int r))=true;rw [Bx,decide_eq_false e];rfl) z)
  rw [if_neg e] at q
  exact q
theorem wq (T:Txt K mg A) (d j:Nat) (D_exact_of_if:T.gD.Hz P w base (j + 1) (iw A d 11)) (D_exact_of_loop:T.eM.Hz P w base (j + 1) (iw A d 12)):T.dW.Hz P w base (j + 2) (kA A d):=by
 refine T.dW.hs (k:=j + 1) oh (fun f cdv A' outer s H vs Q E' hr hu h=>?_)
 obtain ⟨N,X,v,D,t,idx,kn,rfl,s0,pa,dp,ck,hD,q⟩:=h
 refine ⟨_,(af (aV (aM (pcB aH T.av (aa (fv 0) (aa (aO T.aW.mg) ae))) (fun _=>rfl))
   (ah (ax (aj (hj:=by omega) (DU T) hr (aa (px hu (fv 1) (au (fv 0) rfl)) ae))))
   aE)
  (af (aV (aM (pcB aH T.av (aa (fv 0) (aa (aO T.aJ.mg) ae))) (fun _=>rfl))
   (ah (ax (aj (hj:=by omega) D_exact_of_if hr (aa (fv 0) (aa (fv 1) ae)))))
   aE)
  (af (aV (aM (pcB aH T.av (aa (fv 0) (aa (aO T.aA.mg) ae))) (fun _=>rfl))
   (ah (ax (aj (hj:=by omega) D_exact_of_loop hr (aa (fv 0) (aa (fv 1) ae)))))
   aE)
  (ah (ax ao))))),?_⟩
 by_cases c9:t.ci=9
 ·refine ag fun M1 K1=>dZ T s0 pa c9 (bU ?_)
  cases t with
  | leaf n r =>
   cases r with
   | call i ts =>
    unfold aF at pa
    obtain ⟨a,dx,p,rfl,h1,_⟩:=pa
    unfold cOk at ck
    unfold exP at q
    obtain ⟨kvs,e1,e2⟩:=hD
    exact fdI (s0 _ _ h1) T.aW.cl T.bM rfl (dgk e1 (e2 i ck) ⟨kn i,rfl,q⟩)
   | _=>cases c9
  | _=>cases c9
 refine ag fun M1 K1=>b9 T s0 pa c9 (aN (K1 _ _ ?_))
 clear K1 M1
 by_cases c11:t.ci=11
 ·exact ag fun M1 K1=>dZ T s0 pa c11 (bU ⟨N,X,v,D,t,idx,kn,rfl,s0,pa,dp,ck,hD,c11,q⟩)
 refine ag fun M1 K1=>b9 T s0 pa c11 (aN (K1 _ _ ?_))
 clear K1 M1
 by_cases c12:t.ci=12
 ·exact ag fun M1 K1=>dZ T s0 pa c12 (bU ⟨N,X,v,D,t,idx,kn,rfl,s0,pa,dp,ck,hD,c12,q⟩)
 refine ag fun M1 K1=>b9 T s0 pa c12 (aN (?_))
 have e:exP kn t=some 1:=by
  cases t with
  | leaf n r =>
   cases r with
   | call i ts=>exact absurd rfl c9
   | _=>simp [exP]
  | iff _ _ _ _ _ _=>exact absurd rfl c11
  | loop _ _ _ _ _ _=>exact absurd rfl c12
  | bA _ _ _ _=>rw [exP]
 rw [e] at q
 exact K1 _ _ q
theorem oT (T:Txt K mg A):∀d,T.dB.Hz P w base (3 * d + 4) (ir A d)
 | 0=>u4 T 0 3 (wq T 0 1 (sQ T 0 1 (T.dB.hs (k:=0) cM (fun _ _ _ _ _ _ _ _ _ _ _ h=>h.elim) (fun _ _ _ _ h=>h.elim))) (tP T 0 1 (T.dB.hs (k:=0) cM (fun _ _ _ _ _ _ _ _ _ _ _ h=>h.elim) (fun _ _ _ _ h=>h.elim))))
 | d + 1=>u4 T (d + 1) (3 * d + 6) (wq T (d + 1) (3 * d + 4) (sQ T (d + 1) (3 * d + 4) (oT T d)) (tP T (d + 1) (3 * d + 4) (oT T d)))
theorem B3 (T:Txt K mg A):∀d,T.dB.Hz P w base (3 * d + 4) (spN (ir A) d)
 | 0=>T.dB.hs (k:=3) cM (fun _ _ _ _ _ _ _ _ _ _ _ h=>h.elim) (fun _ _ _ _ h=>h.elim)
 | d + 1=>(oT T d).mono (by omega)
theorem zm (T:Txt K mg A) (d:Nat):T.dW.Hz P w base (3 * d + 6) (kA A d) :=
 wq T d (3 * d + 4) (sQ T d (3 * d + 4) (B3 T d)) (tP T d (3 * d + 4) (B3 T d))
end
section
variable {P:Program}{w:World}{K:W.Frag}{mg:Str->Option Value}{base:Heap}{A:Adr}{N:Nat->Str}
seal PE PA PS PSs PT PW
inductive Ao (A:Adr) (d:Nat) (vs:List V) (H:Hp) (Q:VK) (E9:XK):Prop
 | mk (N:Nat->Str) (X:Hp) (v:V) (D:Addr) (t:Pt) (idx:List Nat) (kn:Nat->Option Int) (z0:vs=[v,.ref D]) (z1:aq X H) (z3:aF A N X v t) (z4:dep t <= d) (z5:cOk idx t) (z6:lr N H D idx fun i=>oI (kn i)) (z7:Q (.bl (exP kn t).isSome) H):Ao A d vs H Q E9
theorem DW (T:Txt K mg A) (d:Nat):T.balanced.Hz P w base (3 * d + 7) (Ao A d):=by
 refine T.balanced.hs (k:=3 * d + 6) va (fun f cdv A' outer s H vs Q E' hr hu h=>?_)
 obtain ⟨N,X,v,D,t,idx,kn,rfl,s0,pa,dp,ck,hD,q⟩:=h
 refine ⟨_,(ah (ax (pec xR (aj (hj:=by omega) (zm T d) hr (aa (fv 0) (aa (fv 1) ae))) dH))),⟨N,X,v,D,t,idx,kn,rfl,s0,pa,dp,ck,hD,rfl,?_⟩⟩
 cases e:exP kn t with
 | none=>rw [e] at q;exact q
 | some n=>rw [e] at q;exact q
def dIx:Pt->Nat
 | .bA _ i _ _=>i
 | _=>0
def knF {α:Type} (g:(Nat->α)->List Pt->α) (kn:Nat->α) (p:Pt):Nat->α:=fun j=>if j=dIx p then g kn (fL p) else kn j
def knA {α:Type} (g:(Nat->α)->List Pt->α) (z:α) (ds:List Pt):Nat->α:=ds.foldl (knF g) fun _=>z
structure Bk (N:Nat->Str) (d:Nat) (ds:List Pt):Prop where
 bA:∀p ∈ ds,zK p
 dp:∀p ∈ ds,dy (fL p) <= d
 ck:∀(i:Nat) (p:Pt),ds[i]?=some p->dG ((ds.take i).map dIx) (fL p)
 nm:∀(i j:Nat) (p q:Pt),ds[i]?=some p->ds[j]?=some q->N (dIx p)=N (dIx q)->i=j
 ln:ds.length <= 900
theorem xQ {α:Type} (g:(Nat->α)->List Pt->α) (z:α) (vl:α->V) {ds:List Pt}{d i:Nat}{p:Pt} (O:Bk N d ds) (hp:ds[i]?=some p) {kvs:List (Key × V)} (h:∀k ∈ (ds.take i).map dIx,L2.b8 kvs (.inr (N k))=some (vl (knA g z (ds.take i) k))) :
  ∀k ∈ (ds.take (i + 1)).map dIx,L2.b8 (putK kvs (.inr (N (dIx p))) (vl (g (knA g z (ds.take i)) (fL p)))) (.inr (N k))=some (vl (knA g z (ds.take (i + 1)) k)):=by
 intro k hk
 have st:knA g z (ds.take (i + 1))=knF g (knA g z (ds.take i)) p:=iH (knF g) (fun _=>z) hp
 rw [zW,st]
 rw [List.take_add_one,hp,List.map_append] at hk
 show (if (Sum.inr (N k):Key)=Sum.inr (N (dIx p)) then _ else _)=some (vl (if k=dIx p then _ else _))
 by_cases e:k=dIx p
 ·rw [if_pos (by rw [e]),if_pos e]
 ·have m:k ∈ (ds.take i).map dIx:=by
   rcases List.mem_append.mp hk with m | m
   ·exact m
   ·exact absurd (List.mem_singleton.mp m) e
  rw [if_neg e,if_neg,h k m]
  intro z
  obtain ⟨q,mq,rfl⟩:=List.mem_map.mp m
  obtain ⟨j,hj⟩:=List.getElem?_of_mem mq
  have jl:j < i:=by
   have:=(List.getElem?_eq_some_iff.mp hj).1
   rw [List.length_take] at this
   omega
  rw [List.getElem?_take_of_lt jl] at hj
  have:=O.nm j i q p hj hp (Sum.inr.inj z)
  omega
inductive rh (A:Adr) (d:Nat) (vs:List V) (H:Hp) (Q:VK) (E9:XK):Prop
 | mk (N:Nat->Str) (X:Hp) (v:V) (hs ds ms:List Pt) (z0:vs=[v]) (z1:aq X H) (z2:gf A N X v hs ds ms) (z3:Bk N d ds)
  (z4:∀(D:Addr) (H':Hp),aq H H'->H D=none->lr N H' D (ds.map dIx) (fun i=>oI (knA b7 none ds i))->Q (.ref D) H'):rh A d vs H Q E9
theorem uC (T:Txt K mg A) (d:Nat):T.wy.Hz P w base (3 * d + 5) (rh A d):=by
 refine T.wy.hs (k:=3 * d + 4) mM (fun f cdv A' outer s H vs Q E' hr hu h=>?_)
 obtain ⟨N,X,v,hs,ds,ms,rfl,s0,⟨a,dx,n0,n1,n2,x0,x1,x2,rfl,ha,e0,e1,e2,p0,p1,p2⟩,O,q⟩:=h
 refine ⟨_,(af (pst 1 mM.nd (uf))
  (af (cP PassesOwn.never rfl (bB (au (fv 0) rfl)) (pgn (i:=2) mM.nd rfl)
   (ah (lI (aj (hj:=by omega) (oT T d) hr (aa (au (fv 2) rfl) (aa (fv 1) ae))) (rU (fv 1) (au (fv 2) rfl) (sR hu set_list)))))
  (ah (ax (fv 1))))),?_⟩
 refine ag fun M1 K1 D hD=>?_
 obtain ⟨s1,eD⟩:=alc hD (HO.dK [])
 generalize upd H D _=H1 at s1 eD ⊢
 refine K1 _ _ ?_
 clear K1 M1
 try dsimp only
 refine ag fun M1 K1=>fdI ((s0.trans s1) _ _ ha) T.aP.cl T.a8 rfl (Or.inl ⟨⟨_,SqL.of ((s0.trans s1) _ _ e1)⟩,cu (K:=K) (xs:=x1) (fun i σ Hc=>∃(v2:Option V) (kvs:List (Key × V)),σ=[some (.ref a),some (.ref D),v2]/\aq H Hc/\Hc D=some (.dK kvs)/\kvs.length <= i/\∀k ∈ (ds.take i).map dIx,L2.b8 kvs (.inr (N k))=some (oI (knA b7 none (ds.take i) k))) ⟨none,[],rfl,s1,eD,Nat.le_refl _,by simp⟩ (fun i σ Hc _ ⟨_,_,_,z,_⟩=>SqL.of ((s0.trans z) _ _ e1)) ?_ ?_⟩)
 ·rintro i v σ Hc hv ⟨v2,kvs,rfl,sc,eDc,kl,hk⟩
  obtain ⟨t,ht,pa⟩:=p1.get hv
  have mt:t ∈ ds:=List.mem_of_getElem? ht
  have il:i < ds.length:=(List.getElem?_eq_some_iff.mp ht).1
  have dt:=O.bA t mt
  have st:=xQ b7 none oI O ht hk
  have ln:=O.ln
  cases t with
  | bA n i' ps b =>
   have pa':=pa
   unfold aF at pa'
   obtain ⟨a',dx',pp,pb,xb,rfl,h1,h2,h3,h4⟩:=pa'
   have sX:=s0.trans sc
   refine fdI (sX _ _ h1) T.aY.cl T.bI rfl ⟨N,X,pb,D,xb,b,(ds.take i).map dIx,knA b7 none (ds.take i),rfl,sX,h3,h4,O.dp _ mt,O.ck i _ ht,⟨kvs,eDc,hk⟩,fdI (sX _ _ h1) T.aY.cl T.bJ rfl ⟨_,sO.k (k:=.inr (N i')) eDc (aQ (by omega)),⟨_,_,rfl,aq.out sc hD _,aw,?_,st⟩⟩⟩
   have:(putK kvs (.inr (N i')) (oI (b7 (knA b7 none (ds.take i)) b))).length <= kvs.length + 1:=u7 _ _ _
   omega
  | _=>exact dt.elim
 rintro σ Hc ⟨v2,kvs,rfl,sc,eDc,kl,hk⟩
 rw [show ds.take x1.length=ds by rw [p1.len];exact List.take_length] at hk
 exact K1 _ _ (q D Hc sc hD ⟨kvs,eDc,hk⟩)
end
section
variable {P:Program}{w:World}{K:W.Frag}{mg:Str->Option Value}{base:Heap}{A:Adr}{N:Nat->Str}
seal PE PA PS PSs PT PW
def mx (i j:Int):Int:=if j > i then j else i
mutual
def moP (kn:Nat->Int):Pt->Int
 | .leaf _ (.call i _)=>1 + kn i
 | .leaf _ _=>1
 | .iff _ _ l r f o=>1 + mx (l + cf kn f) (r + cf kn o)
 | .loop _ _ m l r b=>1 + m * mx (l + cf kn b) r
 | .bA _ _ _ _=>1
def cf (kn:Nat->Int):List Pt->Int
 | []=>0
 | t :: ts=>moP kn t + cf kn ts
end
theorem vk (kn:Nat->Int):∀ts:List Pt,cf kn ts=(ts.map (moP kn)).sum
 | []=>by rw [cf];rfl
 | t :: ts=>by rw [cf,vk kn ts,List.map_cons,List.sum_cons]
mutual
def lnO:Pt->Prop
 | .leaf _ _=>True
 | .iff _ _ _ _ f o=>f.length <= 900/\o.length <= 900/\eT f/\eT o
 | .loop _ _ _ _ _ b=>b.length <= 900/\eT b
 | .bA _ _ _ _=>True
def eT:List Pt->Prop
 | []=>True
 | t :: ts=>lnO t/\eT ts
end
theorem pH {t:Pt}:∀{ts:List Pt},eT ts->t ∈ ts->lnO t
 | t' :: ts,h,m=>by
  unfold eT at h
  rcases List.mem_cons.mp m with rfl | m
  ·exact h.1
  ·exact pH h.2 m
inductive lO (A:Adr) (d:Nat) (vs:List V) (H:Hp) (Q:VK) (E9:XK):Prop
 | mk (N:Nat->Str) (X:Hp) (L D:Addr) (xs:List V) (ts:List Pt) (idx:List Nat) (kn:Nat->Int) (z0:vs=[.ref L,.ref D]) (z1:aq X H) (z2:X L=some (.lst xs)) (z3:aD A N X xs ts) (z4:dy ts <= d) (z5:dG idx ts) (z8:ts.length <= 900) (z9:eT ts) (z6:lr N H D idx fun i=>.int (kn i)) (z7:∀H',aq H H'->Q (.int (cf kn ts)) H'):lO A d vs H Q E9
inductive lM (A:Adr) (d:Nat) (vs:List V) (H:Hp) (Q:VK) (E9:XK):Prop
 | mk (N:Nat->Str) (X:Hp) (v:V) (D:Addr) (t:Pt) (idx:List Nat) (kn:Nat->Int) (z0:vs=[v,.ref D]) (z1:aq X H) (z3:aF A N X v t) (z4:dep t <= d) (z5:cOk idx t) (z9:lnO t) (z6:lr N H D idx fun i=>.int (kn i)) (z7:∀H',aq H H'->Q (.int (moP kn t)) H'):lM A d vs H Q E9
theorem lr.same {H H':Hp}{D:Addr}{idx:List Nat}{kn:Nat->V} (s:aq H H') (h:lr N H D idx kn):lr N H' D idx kn:=by
 obtain ⟨kvs,e,h⟩:=h
 exact ⟨kvs,s _ _ e,h⟩
theorem oR {α:Type}{f:α->Int}{src:List α}:∀{ys:List V},Paired (fun t y=>y=V.int (f t)) src ys->ys=(src.map f).map V.int
 | _,.nil=>rfl
 | _,.cons h r=>by rw [h,oR r];rfl
theorem xO (T:Txt K mg A) (d j:Nat) (D_most_of_row:T.gH.Hz P w base j (lM A d)):T.kz.Hz P w base (j + 1) (lO A d):=by
 refine T.kz.hs (k:=j) ql (fun f cdv A' outer s H vs Q E' hr hu h=>?_)
 obtain ⟨N,X,L,D,xs,ts,idx,kn,rfl,s0,hL,pt,dp,ck,ln,lo,hD,q⟩:=h
 refine ⟨_,(ah (ax (pcB Eo T.w4 (aa (dm (N:=["row","known"]) (own:=1) (fr:=[1]) (bS.of (by kernel_rfl!)) rfl (bB (fv 0)) (fun b=>pgn (i:=0) (show List.Nodup (["row","known"]:List PySem.Str) by decide +kernel) rfl) (fun b=>gz) (fun b=>aj (hj:=by omega) D_most_of_row hr (aa (fv 0) (aa (fv 1) ae)))) ae)))),Or.inl ⟨⟨_,SqL.of (s0 _ _ hL)⟩,dA (K:=K) (own:=1) ts (fun _=>true) (fun t y _=>y=.int (moP kn t)) (SqL.of (s0 _ _ hL)) pt.len (aQ (by rw [pt.len];omega)) ?_ (fun _ _ _ _ _ h=>h) (fun _ _ _ _ _ _ _ h=>h) ?_⟩⟩
 ·intro b i x e v0 H1 Nn Y hx he hv s1 no yes
  obtain ⟨u0,rfl⟩:∃u0,v0=[u0]:=by
   match v0,hv with
   | [u],_=>exact ⟨u,rfl⟩
  obtain ⟨t,ht,pa⟩:=pt.get hx
  rw [he] at ht
  cases ht
  have mt:e ∈ ts:=List.mem_of_getElem? he
  exact lM.mk N X x D e idx kn rfl (s0.trans s1) pa (Nat.le_trans (jr mt) dp) (j1 ck mt) (pH lo mt) (hD.same s1) (fun H' s2=>yes rfl [some x] _ _ rfl s2 rfl)
 ·intro R H1 ys hR s1 e1 pr
  rw [dI] at pr
  have:=oR pr
  refine ⟨R,ts.map (moP kn),rfl,SqL.of (by rw [e1,this]),?_⟩
  rw [<- vk]
  exact q _ s1
theorem vg (T:Txt K mg A) (d j:Nat) (D_most_of:T.kz.Hz P w base j (spN (lO A) d)):T.gH.Hz P w base (j + 1) (lM A d):=by
 refine T.gH.hs (k:=j) f9 (fun f cdv A' outer s H vs Q E' hr hu h=>?_)
 obtain ⟨N,X,v,D,t,idx,kn,rfl,s0,pa,dp,ck,lo,hD,q⟩:=h
 refine ⟨_,(af (aV (aM (pcB aH T.av (aa (fv 0) (aa (aO T.aW.mg) ae))) (fun _=>rfl))
   (ah (ax (aG aU ao (px hu (fv 1) (au (fv 0) rfl)))))
   aE)
  (af (aV (aM (pcB aH T.av (aa (fv 0) (aa (aO T.aJ.mg) ae))) (fun _=>rfl))
   (af (pst 2 f9.nd (aG aU (au (fv 0) rfl) (aj (hj:=by omega) D_most_of hr (aa (au (fv 0) rfl) (aa (fv 1) ae)))))
   (af (pst 3 f9.nd (aG aU (au (fv 0) rfl) (aj (hj:=by omega) D_most_of hr (aa (au (fv 0) rfl) (aa (fv 1) ae)))))
   (ah (ax (aG aU ao (pcB nK T.jF (aa (fv 2) (aa (fv 3) ae))))))))
   aE)
  (af (aV (aM (pcB aH T.av (aa (fv 0) (aa (aO T.aA.mg) ae))) (fun _=>rfl))
   (ah (ax (aG aU ao (aG nA (au (fv 0) rfl) (pcB nK T.jF (aa (aG aU (au (fv 0) rfl) (aj (hj:=by omega) D_most_of hr (aa (au (fv 0) rfl) (aa (fv 1) ae)))) (aa (au (fv 0) rfl) ae)))))))
   aE)
  (ah (ax ao))))),?_⟩
 by_cases c9:t.ci=9
 ·refine ag fun M1 K1=>dZ T s0 pa c9 (bU ?_)
  cases t with
  | leaf n r =>
   cases r with
   | call i ts =>
    unfold aF at pa
    obtain ⟨a,dx,p,rfl,h1,_⟩:=pa
    unfold cOk at ck
    unfold moP at q
    obtain ⟨kvs,e1,e2⟩:=hD
    exact fdI (s0 _ _ h1) T.aW.cl T.bM rfl (dgk e1 (e2 i ck) (q _ (aq.refl _)))
   | _=>cases c9
  | _=>cases c9
 refine ag fun M1 K1=>b9 T s0 pa c9 (aN (K1 _ _ ?_))
 clear K1 M1
 by_cases c11:t.ci=11
 ·refine ag fun M1 K1=>dZ T s0 pa c11 (bU ?_)
  cases t with
  | leaf n r=>cases r <;> cases c11
  | loop _ _ _ _ _ _=>cases c11
  | bA _ _ _ _=>cases c11
  | iff n val l r fs os =>
  unfold aF at pa
  obtain ⟨a,dx,p,pf,po,xf,xo,rfl,h1,h2,h3,h4,h5,h6⟩:=pa
  unfold dep at dp
  unfold cOk at ck
  unfold lnO at lo
  unfold moP at q
  cases d with
  | zero=>omega
  | succ d =>
  refine ag fun M2 K2=>fdI (s0 _ _ h1) T.aJ.cl T.cN rfl (fdI (s0 _ _ h1) T.aJ.cl T.bz rfl ⟨N,X,pf,D,xf,fs,idx,kn,rfl,s0,h3,h5,by omega,ck.1,lo.1,lo.2.2.1,hD,fun H1 s1=>K2 _ _ ?_⟩)
  clear K2 M2
  have sX:=s0.trans s1
  try dsimp only
  exact ag fun M2 K2=>fdI (sX _ _ h1) T.aJ.cl T.cY rfl (fdI (sX _ _ h1) T.aJ.cl T.bG rfl ⟨N,X,po,D,xo,os,idx,kn,rfl,sX,h4,h6,by omega,ck.2,lo.2.1,lo.2.2.2,hD.same s1,fun H2 s2=>K2 _ _ ⟨_,_,rfl,q _ (s1.trans s2)⟩⟩)
 refine ag fun M1 K1=>b9 T s0 pa c11 (aN (K1 _ _ ?_))
 clear K1 M1
 by_cases c12:t.ci=12
 ·refine ag fun M1 K1=>dZ T s0 pa c12 (bU ?_)
  cases t with
  | leaf n r=>cases r <;> cases c12
  | iff _ _ _ _ _ _=>cases c12
  | bA _ _ _ _=>cases c12
  | loop n th m l r b =>
  unfold aF at pa
  obtain ⟨a,dx,pb,xb,rfl,h1,h2,h3⟩:=pa
  unfold dep at dp
  unfold cOk at ck
  unfold lnO at lo
  unfold moP at q
  cases d with
  | zero=>omega
  | succ d =>
  exact fdI (s0 _ _ h1) T.aA.cl T.cy rfl (fdI (s0 _ _ h1) T.aA.cl T.cx rfl (fdI (s0 _ _ h1) T.aA.cl T.bK rfl ⟨N,X,pb,D,xb,b,idx,kn,rfl,s0,h2,h3,by omega,ck.2.2,lo.1,lo.2,hD,fun H1 s1=>fdI ((s0.trans s1) _ _ h1) T.aA.cl T.bQ rfl ⟨_,_,rfl,qN (by omega) (by omega),q _ s1⟩⟩))
 refine ag fun M1 K1=>b9 T s0 pa c12 (aN (?_))
 have e:moP kn t=1:=by
  cases t with
  | leaf n r =>
   cases r with
   | call i ts=>exact absurd rfl c9
   | _=>simp [moP]
  | iff _ _ _ _ _ _=>exact absurd rfl c11
  | loop _ _ _ _ _ _=>exact absurd rfl c12
  | bA _ _ _ _=>rw [moP]
 rw [e] at q
 exact K1 _ _ (q _ (aq.refl _))
theorem pJ (T:Txt K mg A):∀d,T.kz.Hz P w base (2 * d + 3) (lO A d)
 | 0=>xO T 0 2 (vg T 0 1 (T.kz.hs (k:=0) ql (fun _ _ _ _ _ _ _ _ _ _ _ h=>h.elim) (fun _ _ _ _ h=>h.elim)))
 | d + 1=>xO T (d + 1) (2 * d + 4) (vg T (d + 1) (2 * d + 3) (pJ T d))
inductive vn (A:Adr) (d:Nat) (vs:List V) (H:Hp) (Q:VK) (E9:XK):Prop
 | mk (N:Nat->Str) (X:Hp) (v:V) (hs ds ms:List Pt) (z0:vs=[v]) (z1:aq X H) (z2:gf A N X v hs ds ms) (z3:Bk N d ds) (z5:∀p ∈ ds,(fL p).length <= 900/\eT (fL p))
  (z4:∀(D:Addr) (H':Hp),aq H H'->H D=none->lr N H' D (ds.map dIx) (fun i=>.int (knA cf 0 ds i))->Q (.ref D) H'):vn A d vs H Q E9
theorem Bb (T:Txt K mg A) (d:Nat):T.zc.Hz P w base (2 * d + 4) (vn A d):=by
 refine T.zc.hs (k:=2 * d + 3) qe (fun f cdv A' outer s H vs Q E' hr hu h=>?_)
 obtain ⟨N,X,v,hs,ds,ms,rfl,s0,⟨a,dx,n0,n1,n2,x0,x1,x2,rfl,ha,e0,e1,e2,p0,p1,p2⟩,O,lo,q⟩:=h
 refine ⟨_,(af (pst 1 qe.nd (uf))
  (af (cP PassesOwn.never rfl (bB (au (fv 0) rfl)) (pgn (i:=2) qe.nd rfl)
   (ah (lI (aj (hj:=by omega) (pJ T d) hr (aa (au (fv 2) rfl) (aa (fv 1) ae))) (rU (fv 1) (au (fv 2) rfl) (sR hu set_list)))))
  (ah (ax (fv 1))))),?_⟩
 refine ag fun M1 K1 D hD=>?_
 obtain ⟨s1,eD⟩:=alc hD (HO.dK [])
 generalize upd H D _=H1 at s1 eD ⊢
 refine K1 _ _ ?_
 clear K1 M1
 try dsimp only
 refine ag fun M1 K1=>fdI ((s0.trans s1) _ _ ha) T.aP.cl T.a8 rfl (Or.inl ⟨⟨_,SqL.of ((s0.trans s1) _ _ e1)⟩,cu (K:=K) (xs:=x1) (fun i σ Hc=>∃(v2:Option V) (kvs:List (Key × V)),σ=[some (.ref a),some (.ref D),v2]/\aq H Hc/\Hc D=some (.dK kvs)/\kvs.length <= i/\∀k ∈ (ds.take i).map dIx,L2.b8 kvs (.inr (N k))=some (.int (knA cf 0 (ds.take i) k))) ⟨none,[],rfl,s1,eD,Nat.le_refl _,by simp⟩ (fun i σ Hc _ ⟨_,_,_,z,_⟩=>SqL.of ((s0.trans z) _ _ e1)) ?_ ?_⟩)
 ·rintro i v σ Hc hv ⟨v2,kvs,rfl,sc,eDc,kl,hk⟩
  obtain ⟨t,ht,pa⟩:=p1.get hv
  have mt:t ∈ ds:=List.mem_of_getElem? ht
  have il:i < ds.length:=(List.getElem?_eq_some_iff.mp ht).1
  have dt:=O.bA t mt
  have st:=xQ cf 0 V.int O ht hk
  have ln:=O.ln
  cases t with
  | bA n i' ps b =>
   have pa':=pa
   unfold aF at pa'
   obtain ⟨a',dx',pp,pb,xb,rfl,h1,h2,h3,h4⟩:=pa'
   have sX:=s0.trans sc
   refine fdI (sX _ _ h1) T.aY.cl T.bI rfl ⟨N,X,pb,D,xb,b,(ds.take i).map dIx,knA cf 0 (ds.take i),rfl,sX,h3,h4,O.dp _ mt,O.ck i _ ht,(lo _ mt).1,(lo _ mt).2,⟨kvs,eDc,hk⟩,fun He se=>fdI ((sX.trans se) _ _ h1) T.aY.cl T.bJ rfl ⟨_,sO.k (k:=.inr (N i')) (se _ _ eDc) (aQ (by omega)),⟨_,_,rfl,aq.out (sc.trans se) hD _,aw,?_,st⟩⟩⟩
   have:(putK kvs (.inr (N i')) (.int (cf (knA cf 0 (ds.take i)) b))).length <= kvs.length + 1:=u7 _ _ _
   omega
  | _=>exact dt.elim
 rintro σ Hc ⟨v2,kvs,rfl,sc,eDc,kl,hk⟩
 rw [show ds.take x1.length=ds by rw [p1.len];exact List.take_length] at hk
 exact K1 _ _ (q D Hc sc hD ⟨kvs,eDc,hk⟩)
end
section
variable {P:Program}{w:World}{K:W.Frag}{mg:Str->Option Value}{base:Heap}{A:Adr}{N:Nat->Str}
seal PE PA PS PSs PT PW
theorem An {kvs:List (Key × V)}{k:Key} (h:k ∉ kvs.map (·.1)):L2.b8 kvs k=none:=by
 unfold L2.b8
 rw [List.find?_eq_none.mpr fun kv m=>by
  rw [decide_eq_true_iff]
  exact fun e=>h (e ▸ List.mem_map_of_mem m)]
 rfl
theorem jJ:∀(kvs acc:List (Key × V)),((acc ++ kvs).map (·.1)).Nodup->bC acc kvs=acc ++ kvs
 | [],acc,_=>by rw [List.append_nil];rfl
 | (k,v) :: kvs,acc,h=>by
  have nk:k ∉ acc.map (·.1):=fun m=>by
   rw [List.map_append,List.map_cons] at h
   exact (List.nodup_append.mp h).2.2 k m k List.mem_cons_self rfl
  show bC (putK acc k v) kvs=_
  rw [uP v (An nk),jJ kvs (acc ++ [(k,v)]) (by simpa using h)]
  simp
def poM (N:Nat->Str) (ds:List Pt) (x:Str):List Str:=match ds.find? (fun p=>decide (dNm N p=x)) with
 | some p=>dPs N p
 | none=>[]
def bx (N:Nat->Str) (ds ms:List Pt):List Lk:=(dw N ds ms).flatMap fun e=>d0 N (poM N ds) e.1 e.2.1
structure OkL (N:Nat->Str) (d:Nat) (hs ds ms:List Pt):Prop where
 ok:Ok N d hs ds ms
 dk:Bk N d ds
 nn:(ds.map (dNm N)).Nodup
 pn:∀p ∈ ds,(dPs N p).length <= 100
 k5:∀e ∈ dw N ds ms,k5 e.1=true
 cal:∀e ∈ dw N ds ms,Cb N (poM N ds) (ds.map (dNm N)) e.1
 ll:(bx N ds ms).length <= 900
def PoE (N:Nat->Str) (X:Hp) (p:Pt) (y:V) (H:Hp):Prop:=∃t pp,y=V.ref t/\H t=some (.tup [.str (dNm N p),.ref pp])/\X pp=some (.lst (sS (dPs N p)))
theorem Az {X H:Hp}:∀{ds:List Pt}{ys:List V},Paired (fun p y=>PoE N X p y H) ds ys->∃(ps:List Addr) (kvs:List (Key × V)),ys=ps.map V.ref/\ps.length=kvs.length/\kvs.map (·.1)=ds.map (fun p=>Sum.inr (dNm N p))/\(∀(i:Nat) t k v,ps[i]?=some t->kvs[i]?=some (k,v)->H t=some (.tup [kV k,v]))/\∀p ∈ ds,∃pp,(Sum.inr (dNm N p),V.ref pp) ∈ kvs/\X pp=some (.lst (sS (dPs N p)))
 | _,_,.nil=>⟨[],[],rfl,rfl,rfl,(fun i t k v h=>by simp at h),(fun p m=>by cases m)⟩
 | _,_,.cons (b:=y) (a:=p) h r=>by
  obtain ⟨t,pp,rfl,h1,h2⟩:=h
  obtain ⟨ps,kvs,e1,e2,e3,e4,e5⟩:=Az r
  refine ⟨t :: ps,(Sum.inr (dNm N p),V.ref pp) :: kvs,by rw [e1];rfl,by simp [e2],by rw [List.map_cons,List.map_cons,e3],fun i t' k v ht hk=>?_,fun q hq=>?_⟩
  ·cases i with
   | zero=>cases ht;cases hk;exact h1
   | succ i=>exact e4 i t' k v ht hk
  ·rcases List.mem_cons.mp hq with rfl | hq
   ·exact ⟨pp,List.mem_cons_self,h2⟩
   ·obtain ⟨pp',m,z⟩:=e5 q hq
    exact ⟨pp',List.mem_cons_of_mem _ m,z⟩
theorem xi {kvs:List (Key × V)}{k:Key}{v:V} (nd:(kvs.map (·.1)).Nodup) (m:(k,v) ∈ kvs):L2.b8 kvs k=some v:=by
 obtain ⟨i,hi⟩:=List.getElem?_of_mem m
 exact rN nd hi
theorem BO {ds:List Pt} (nn:(ds.map (dNm N)).Nodup) {p:Pt} (m:p ∈ ds):poM N ds (dNm N p)=dPs N p:=by
 have:ds.find? (fun q=>decide (dNm N q=dNm N p))=some p:=by
  induction ds with
  | nil=>cases m
  | cons q r ih =>
   rw [List.map_cons,List.nodup_cons] at nn
   rw [List.find?_cons]
   by_cases e:dNm N q=dNm N p
   ·rw [decide_eq_true e]
    rcases List.mem_cons.mp m with z | z
    ·rw [z]
    ·exact absurd (e ▸ List.mem_map_of_mem z) nn.1
   ·rw [decide_eq_false e]
    rcases List.mem_cons.mp m with z | z
    ·exact absurd (by rw [z]) e
    ·exact ih nn.2 z
 unfold poM
 rw [this]
inductive vE (A:Adr) (d:Nat) (vs:List V) (H:Hp) (Q:VK) (E9:XK):Prop
 | mk (N:Nat->Str) (X:Hp) (v:V) (hs ds ms:List Pt) (z0:vs=[v,.bl false]) (z1:aq X H) (z2:gf A N X v hs ds ms) (z3:OkL N d hs ds ms)
  (z4:∀(R:Addr) (ys:List V) (H':Hp),aq H H'->H R=none->H' R=some (.lst ys)->Lks H' (bx N ds ms) ys->Q (.ref R) H'):vE A d vs H Q E9
theorem AZ (T:Txt K mg A) (d:Nat):T.links.Hz P w base (3 * d + 8) (vE A d):=by
 have D_step_links:T.lK.Hz P w base 1 (fun _ _ _ _=>False):=T.lK.hs (k:=0) qH (fun _ _ _ _ _ _ _ _ _ _ _ h=>h.elim) (fun _ _ _ _ h=>h.elim)
 refine T.links.hs (k:=3 * d + 7) fP (fun f cdv A' outer s H vs Q E' hr hu h=>?_)
 obtain ⟨N,X,v,hs,ds,ms,rfl,s0,pg,O,q⟩:=h
 obtain ⟨a,dx,n0,n1,n2,x0,x1,x2,rfl,ha,e0,e1,e2,p0,p1,p2⟩:=id pg
 have pn:∀i p,ds[i]?=some p->∀v,x1[i]?=some v->aF A N X v p:=fun i p hp v hv=>by
  obtain ⟨t,ht,pa⟩:=p1.get hv
  rw [hp] at ht
  cases ht
  exact pa
 refine ⟨_,(af (pst 2 fP.nd (pcT lZ T.jX (aa (dm (N:=["deed"]) (own:=1) (fr:=[]) (bS.of (by kernel_rfl!)) rfl (bB (au (fv 0) rfl)) (fun b=>pgn (i:=0) (show List.Nodup (["deed"]:List PySem.Str) by decide +kernel) rfl) (fun b=>gz) (fun b=>bR (aa (au (fv 0) rfl) (aa (au (fv 0) rfl) ae)))) ae)))
  (af (pst 3 fP.nd (aj (hj:=by omega) (uC T d) hr (aa (fv 0) ae)))
  (af (pst 4 fP.nd (aZ ae))
  (af (cP PassesOwn.never rfl (bB (aj (hj:=by omega) (rS T d) hr (aa (fv 0) ae))) (gS rfl (bc (pgn (i:=5) fP.nd rfl) (bc (pgn (i:=6) fP.nd rfl) (bc (pgn (i:=7) fP.nd rfl) eO))))
   (af (bo (fT (fv 4) (aa (aj (hj:=by omega) (Cz T) hr (aa (fv 5) (aa (fv 6) (aa (fv 7) (aa (fv 2) ae))))) ae)))
   (ah (aV (aM (fv 1) (fun _=>rfl))
    (ah (bo (fT (fv 4) (aa (aj (hj:=by omega) D_step_links hr (aa (fv 5) (aa (fv 3) ae))) ae))))
    aE))))
  (ah (ax (fv 4))))))),?_⟩
 have lx:=p1.len
 have dln:=O.dk.ln
 refine ag fun M1 K1=>fdI (s0 _ _ ha) T.aP.cl T.a8 rfl (Or.inl ⟨⟨_,SqL.of (s0 _ _ e1)⟩,dA (K:=K) (own:=1) ds (fun _=>true) (PoE N X) (SqL.of (s0 _ _ e1)) lx (aQ (by omega)) ?_ ?_ ?_ ?_⟩)
 ·intro b i x p v0 H1 Nn Y hx he hv s1 no yes
  obtain ⟨u0,rfl⟩:∃u0,v0=[u0]:=by
   match v0,hv with
   | [u],_=>exact ⟨u,rfl⟩
  have pa:=pn i p he x hx
  have dt:=O.dk.bA p (List.mem_of_getElem? he)
  cases p with
  | bA n i' ps b' =>
   unfold aF at pa
   obtain ⟨a',dx',pp,pb,xb,rfl,h1,h2,h3,h4⟩:=pa
   have sX:=s0.trans s1
   exact fdI (sX _ _ h1) T.aY.cl T.bJ rfl (fdI (sX _ _ h1) T.aY.cl T.cU rfl ⟨by show 2 <= sizeLine;decide,fun tp htp=>yes rfl [some (.ref a')] _ _ rfl (aq.upd htp _) ⟨tp,pp,rfl,aw,by rw [h2];simp [sS,dPs,nV,Function.comp_def]⟩⟩)
  | _=>exact dt.elim
 ·rintro e y H1 H2 s1 ⟨t,pp,e1,h1,h2⟩
  exact ⟨t,pp,e1,s1 _ _ h1,h2⟩
 ·rintro e y H1 D ys zs hD ⟨t,pp,e1,h1,h2⟩
  exact ⟨t,pp,e1,aR (fun z=>by rw [z,hD] at h1;cases h1) h1,h2⟩
 intro L1 H1 ys hL1 s1 eL1 pr
 rw [dI] at pr
 obtain ⟨ps,kvs,rfl,k2,k3,k4,k5'⟩:=Az pr
 have kl:kvs.length=ds.length:=by
  have:=congrArg List.length k3
  simpa using this
 have knd:(kvs.map (·.1)).Nodup:=by
  rw [k3]
  have h:=O.nn
  unfold List.Nodup at h ⊢
  rw [List.pairwise_map] at h ⊢
  exact h.imp fun n e=>n (Sum.inr.inj e)
 refine ⟨L1,ps,kvs,rfl,SqL.of eL1,k2,by omega,fun i t k v ht hk=>SqT.of (k4 i t k v ht hk),fun D hD=>?_⟩
 obtain ⟨s2,eD⟩:=alc hD (HO.dK (bC [] kvs))
 generalize upd H1 D _=H2 at s2 eD ⊢
 rw [jJ kvs [] (by simpa using knd),List.nil_append] at eD
 have PO:zp X H2 D (poM N ds) (ds.map (dNm N)):=by
  refine ⟨kvs,eD,fun x hx=>?_⟩
  obtain ⟨p,mp,rfl⟩:=List.mem_map.mp hx
  rw [BO O.nn mp]
  obtain ⟨pp,m,z⟩:=k5' p mp
  exact ⟨O.pn p mp,pp,xi knd m,z⟩
 have t2:=s1.trans s2
 refine K1 _ _ ?_
 clear K1 M1
 try dsimp only
 refine ag fun M1 K1=>⟨N,X,.ref a,hs,ds,ms,rfl,s0.trans t2,pg,O.dk,fun D2 H3 s3 hD2 _=>K1 _ _ ?_⟩
 clear K1 M1
 try dsimp only
 refine ag fun M1 K1=>⟨Nat.zero_le _,fun F hF=>?_⟩
 obtain ⟨s4,eF⟩:=alc hF (HO.lst [])
 generalize upd H3 F _=H4 at s4 eF ⊢
 have t4:=(t2.trans s3).trans s4
 have hF0:H F=none:=aq.free (t2.trans s3) hF
 have eD4:=s4 _ _ (s3 _ _ eD)
 have FD:F ≠ D:=fresh_ne hF (s3 _ _ eD)
 refine K1 _ _ ?_
 clear K1 M1
 try dsimp only
 refine ag fun M1 K1=>⟨N,X,.ref a,hs,ds,ms,rfl,s0.trans t4,pg,O.ok,fun L zs H5 s5 hL eL ly=>?_⟩
 have LF:L ≠ F:=fresh_ne hL eF
 have nb:=O.ok.nb
 have ok5:=O.k5
 have okc:=O.cal
 have oll:=O.ll
 unfold bx at oll q
 generalize dw N ds ms=es at ly nb ok5 okc oll q
 have lly:=Paired.length ly
 refine Or.inl ⟨⟨_,SqL.of eL⟩,cu (K:=K) (xs:=zs) (fun i σ Hd=>∃(ws:List V) (v5 v6 v7:Option V),σ=[some (.ref a),some (.bl false),some (.ref D),some (.ref D2),some (.ref F),v5,v6,v7]/\Sm [F] H5 Hd/\Hd F=some (.lst ws)/\Lks Hd ((es.take i).flatMap fun e=>d0 N (poM N ds) e.1 e.2.1) ws) ⟨[],none,none,none,rfl,Sm.refl _ _,s5 _ _ eF,.nil⟩ (fun i σ Hd _ ⟨_,_,_,_,_,z,_⟩=>SqL.of (z _ _ (fun m=>LF (List.mem_singleton.mp m)) eL)) ?_ ?_⟩
 ·rintro i y σ Hd hy ⟨ws,v5,v6,v7,rfl,sd,hFd,lw⟩
  obtain ⟨e,he,tp,v,rfl,etp,pa⟩:=bY ly hy
  have etp':=sd _ _ (fun m=>by rw [List.mem_singleton.mp m,s5 _ _ eF] at etp;cases etp) etp
  have sX:aq X Hd:=sd.same ((s0.trans t4).trans s5) (fun m hm=>by
   rw [List.mem_singleton.mp hm]
   exact aq.free s0 hF0)
  have me:=List.mem_of_getElem? he
  have ne:=nb e me
  have eDd:Hd D=some (.dK kvs):=sd _ _ (fun m=>FD (List.mem_singleton.mp m).symm) (s5 _ _ eD4)
  have st:=lR (fun e:Le=>d0 N (poM N ds) e.1 e.2.1) he
  have sl:=zf (fun e:Le=>d0 N (poM N ds) e.1 e.2.1) he
  have llw:=Paired.length lw
  try dsimp only
  refine ⟨tp,_,rfl,SqT.of etp',rfl,_,_,rfl,_,_,rfl,_,_,rfl,rfl,ag fun N1 J1=>⟨Or.inl ⟨rfl,_,SqL.of hFd⟩,N,X,v,e.1,e.2.1,e.2.2,D,poM N ds,ds.map (dNm N),rfl,sX,pa,ok5 e me,ne,PO.same (fun kvs' h=>by rw [eD] at h;cases h;exact eDd),okc e me,fun R2 us He s6 hR2 eR2 l6=>?_⟩⟩
  have lu:=Paired.length l6
  refine ⟨_,_,_,_,rfl,rfl,s6 _ _ hFd,eR2,sz (by omega),J1 _ _ ?_⟩
  clear J1 N1
  refine ⟨_,rfl,aN ⟨_,_,_,_,rfl,(sd.trans (Sm.new s6)).trans (Sm.at (List.mem_singleton.mpr rfl) _),aw,?_⟩⟩
  rw [st]
  exact rL (H:=H) (R2:=R2) s6 hFd lw l6
 rintro σ Hd ⟨ws,v5,v6,v7,rfl,sd,hFd,lw⟩
 rw [show es.take zs.length=es by rw [<- lly];exact List.take_length] at lw
 exact K1 _ _ (q F ws Hd (sd.same (t4.trans s5) (fun m hm=>by rw [List.mem_singleton.mp hm];exact hF0)) hF0 hFd lw)
end
section
variable {P:Program}{w:World}{K:W.Frag}{mg:Str->Option Value}{base:Heap}{A:Adr}{N:Nat->Str}
seal PE PA PS PSs PT PW
def qh (t:Pt):Bool:=decide (t.ci=2) || decide (t.ci=4)
def sOf (N:Nat->Str):Pt->Str × Int
 | .leaf _ (.giv i r _)=>(N i,r)
 | .leaf _ (.lt i r)=>(N i,r)
 | _=>(Str.empty,0)
def iV (N:Nat->Str) (hs:List Pt):List (Str × Int):=(hs.filter qh).map (sOf N)
def SrE (s:Str × Int) (y:V) (H:Hp):Prop:=∃t,y=V.ref t/\H t=some (.tup [.str s.1,.int s.2])
theorem CS (T:Txt K mg A) {X H:Hp} (s:aq X H) {v:V}{t:Pt} (h:aF A N X v t) (e:qh t=true) {Q Q2:VK} (q:(∀{R:VK},R (.int (sOf N t).2) H->mi K "rank" v H R)->Q (.str (sOf N t).1) H):mi K "name" v H Q:=by
 cases t with
 | leaf n r =>
  unfold aF at h
  obtain ⟨a,dx,p,rfl,h1,h2⟩:=h
  cases r with
  | giv i _ _=>exact fdI (s _ _ h1) T.bb.cl T.cS rfl (q fun r=>fdI (s _ _ h1) T.bb.cl T.dE rfl r)
  | lt i _=>exact fdI (s _ _ h1) T.dC.cl T.eN rfl (q fun r=>fdI (s _ _ h1) T.dC.cl T.gM rfl r)
  | _=>cases e
 | _=>cases e
inductive pP (A:Adr) (vs:List V) (H:Hp) (Q:VK) (E9:XK):Prop
 | mk (N:Nat->Str) (X:Hp) (v:V) (hs ds ms:List Pt) (z0:vs=[v]) (z1:aq X H) (z2:gf A N X v hs ds ms) (z3:hs.length <= 300)
  (z4:∀(R:Addr) (ys:List V) (H':Hp),aq H H'->H R=none->H' R=some (.lst ys)->Paired (fun s y=>SrE s y H') (iV N hs) ys->Q (.ref R) H'):pP A vs H Q E9
theorem rE (T:Txt K mg A):T.sources.Hz P w base 1 (pP A):=by
 refine T.sources.hs wH (fun f cdv A' outer s H vs Q E' hr hu h=>?_)
 obtain ⟨N,X,v,hs,ds,ms,rfl,s0,⟨a,dx,n0,n1,n2,x0,x1,x2,rfl,ha,e0,e1,e2,p0,p1,p2⟩,hl,q⟩:=h
 refine ⟨_,(ah (ax (dm (N:=["head"]) (own:=1) (fr:=[]) (bS.of (by kernel_rfl!)) rfl (bB (au (fv 0) rfl)) (fun b=>pgn (i:=0) (show List.Nodup (["head"]:List PySem.Str) by decide +kernel) rfl) (fun b=>tI (PW.pt (pw_or (aM (pcB aH T.av (aa (fv 0) (aa (aO T.bb.mg) ae))) (fun _=>rfl)) (pw_or1 (aM (pcB aH T.av (aa (fv 0) (aa (aO T.dC.mg) ae))) (fun _=>rfl)))))) (fun b=>bR (aa (au (fv 0) rfl) (aa (au (fv 0) rfl) ae)))))),fdI (s0 _ _ ha) T.aP.cl T.cQ rfl (Or.inl ⟨⟨_,SqL.of (s0 _ _ e0)⟩,dA (K:=K) (own:=1) hs qh (fun t y H=>SrE (sOf N t) y H) (SqL.of (s0 _ _ e0)) p0.len (aQ (by rw [p0.len];omega)) ?_ ?_ ?_ ?_⟩)⟩
 ·intro b i x t v0 H1 Nn Y hx he hv s1 no yes
  obtain ⟨u0,rfl⟩:∃u0,v0=[u0]:=by
   match v0,hv with
   | [u],_=>exact ⟨u,rfl⟩
  obtain ⟨t',ht,pa⟩:=p0.get hx
  rw [he] at ht
  cases ht
  have sX:=s0.trans s1
  have go:qh t=true->mi K "name" x H1 fun v1 H2=>mi K "rank" x H2 fun v2 H3=>2 <= sizeLine/\∀p,H3 p=none->Y [some x] (.ref p) (upd H3 p (.tup [v1,v2])):=fun e=>by
   exact CS T sX pa e (Q2:=Q) fun rk=>rk ⟨by decide,fun tp htp=>yes e [some x] _ _ rfl (aq.upd htp _) ⟨tp,rfl,aw⟩⟩
  by_cases c2:t.ci=2
  ·exact dZ T sX pa c2 (bU (bU (go (by unfold qh;rw [decide_eq_true c2];rfl))))
  by_cases c4:t.ci=4
  ·exact b9 T sX pa c2 (aN (dZ T sX pa c4 (bU (go (by unfold qh;rw [decide_eq_true c4,Bool.or_true])))))
  ·exact b9 T sX pa c2 (aN (b9 T sX pa c4 (aN (no (by unfold qh;rw [decide_eq_false c2,decide_eq_false c4];rfl) [some x] _ rfl (aq.refl _)))))
 ·rintro e y H1 H2 s1 ⟨t,e1,h1⟩
  exact ⟨t,e1,s1 _ _ h1⟩
 ·rintro e y H1 D ys zs hD ⟨t,e1,h1⟩
  exact ⟨t,e1,aR (fun z=>by rw [z,hD] at h1;cases h1) h1⟩
 ·intro R H1 ys hR s1 e1 pr
  exact q R ys H1 s1 hR e1 (eA _ pr)
def srcOf (N:Nat->Str) (hs:List Pt) (rk:Int):List Str:=((iV N hs).filter fun s=>decide (s.2=rk)).map (·.1)
theorem xP {α:Type}{f:α->Str}{src:List α}:∀{ys:List V},Paired (fun t y=>y=V.str (f t)) src ys->ys=sS (src.map f)
 | _,.nil=>rfl
 | _,.cons h r=>by rw [h,xP r];rfl
inductive fA (A:Adr) (vs:List V) (H:Hp) (Q:VK) (E9:XK):Prop
 | mk (N:Nat->Str) (X:Hp) (v:V) (rk:Int) (hs ds ms:List Pt) (z0:vs=[v,.int rk]) (z1:aq X H) (z2:gf A N X v hs ds ms) (z3:hs.length <= 300)
  (z4:∀(R:Addr) (H':Hp),aq H H'->H R=none->H' R=some (.lst (sS (srcOf N hs rk)))->Q (.ref R) H'):fA A vs H Q E9
theorem uj (T:Txt K mg A):T.lC.Hz P w base 2 (fA A):=by
 refine T.lC.hs (k:=1) qL (fun f cdv A' outer s H vs Q E' hr hu h=>?_)
 obtain ⟨N,X,v,rk,hs,ds,ms,rfl,s0,pg,hl,q⟩:=h
 refine ⟨_,(ah (ax (dm (N:=["place","its_rank","rank"]) (own:=2) (fr:=[1]) (bS.of (by kernel_rfl!)) rfl (bB (aj (rE T) hr (aa (fv 0) ae))) (fun b=>gS rfl (bc (pgn (i:=0) (show List.Nodup (["place","its_rank","rank"]:List PySem.Str) by decide +kernel) rfl) (bc (pgn (i:=1) (show List.Nodup (["place","its_rank","rank"]:List PySem.Str) by decide +kernel) rfl) eO))) (fun b=>tI (ptc (mw hu) (fv 1) (fv 2))) (fun b=>fv 0)))),⟨N,X,v,hs,ds,ms,rfl,s0,pg,hl,fun L ys H1 s1 hL eL pr=>?_⟩⟩
 have ln:=Paired.length pr
 have l2:(iV N hs).length <= hs.length:=by
  unfold iV
  rw [List.length_map]
  exact List.length_filter_le _ _
 refine Or.inl ⟨⟨_,SqL.of eL⟩,dA (K:=K) (own:=2) (iV N hs) (fun s=>decide (s.2=rk)) (fun s y _=>y=.str s.1) (SqL.of eL) ln.symm (aQ (by omega)) ?_ (fun _ _ _ _ _ h=>h) (fun _ _ _ _ _ _ _ h=>h) ?_⟩
 ·intro b i x t v0 H2 Nn Y hx he hv s2 no yes
  obtain ⟨u0,u1,rfl⟩:∃u0 u1,v0=[u0,u1]:=by
   match v0,hv with
   | [u,u'],_=>exact ⟨u,u',rfl⟩
  obtain ⟨t',ht,tp,rfl,etp⟩:=bY pr hx
  rw [he] at ht
  cases ht
  refine ⟨tp,_,rfl,SqT.of (s2 _ _ etp),rfl,_,_,rfl,_,_,rfl,rfl,⟨rfl,_,rfl,de (fun c=>?_) (fun c=>?_)⟩⟩
  ·have e:t.2=rk:=V.int.inj (of_decide_eq_true c)
   exact yes (decide_eq_true e) [some (.str t.1),some (.int t.2)] _ _ rfl (aq.refl _) rfl
  ·have e:¬ t.2=rk:=fun z=>c (decide_eq_true (by rw [z]))
   exact no (decide_eq_false e) [some (.str t.1),some (.int t.2)] _ rfl (aq.refl _)
 ·intro R H2 zs hR s2 e2 pz
  refine q R H2 (s1.trans s2) (aq.free s1 hR) ?_
  rw [e2,xP pz]
  rfl
end
section
variable {P:Program}{w:World}{K:W.Frag}{mg:Str->Option Value}{base:Heap}{A:Adr}{N:Nat->Str}
seal PE PA PS PSs PT PW
def fY (ls:List Lk) (x:Str):List Lk:=ls.filter fun l=>decide (l.fr=x)
structure d9 (H:Hp) (W:Addr) (kvs:List (Key × V)) (pls:List Str) (wa:Str->Addr) (ls:List Lk):Prop where
 d:H W=some (.dK kvs)
 v:∀x ∈ pls,L2.b8 kvs (.inr x)=some (.ref (wa x))
 i:∀x ∈ pls,∀y ∈ pls,wa x=wa y->x=y
 l:∀x ∈ pls,∃ys,H (wa x)=some (.lst ys)/\Lks H (fY ls x) ys
theorem d9.same {H H':Hp}{W:Addr}{kvs:List (Key × V)}{pls:List Str}{wa:Str->Addr}{ls:List Lk} (h:d9 H W kvs pls wa ls) (s:aq H H'):d9 H' W kvs pls wa ls :=
 ⟨s _ _ h.d,h.v,h.i,fun x hx=>by
  obtain ⟨ys,e,l⟩:=h.l x hx
  exact ⟨ys,s _ _ e,l.same fun _ _ z=>s _ _ z⟩⟩
theorem d9.push {H:Hp}{W:Addr}{kvs:List (Key × V)}{pls:List Str}{wa:Str->Addr}{ls:List Lk} (h:d9 H W kvs pls wa ls) {l:Lk}{t:Addr} (ht:H t=some (.tup l.vs)) (hl:l.fr ∈ pls) {ys:List V} (e:H (wa l.fr)=some (.lst ys)) (pr:Lks H (fY ls l.fr) ys) :
  d9 (upd H (wa l.fr) (.lst (ys ++ [.ref t]))) W kvs pls wa (ls ++ [l]):=by
 have kp:∀x w,H x=some (.tup w)->upd H (wa l.fr) (.lst (ys ++ [.ref t])) x=some (.tup w):=fun x w z=>aR (fun y=>by rw [y,e] at z;cases z) z
 refine ⟨aR (fun z=>by have:=h.d;rw [z,e] at this;cases this) h.d,h.v,h.i,fun x hx=>?_⟩
 by_cases c:x=l.fr
 ·subst c
  refine ⟨_,aw,?_⟩
  have:fY (ls ++ [l]) l.fr=fY ls l.fr ++ [l]:=by
   unfold fY
   rw [List.filter_append,List.filter_cons_of_pos (by exact decide_eq_true rfl),List.filter_nil]
  rw [this]
  exact Paired.two (pr.same kp) (.cons ⟨t,rfl,kp _ _ ht⟩ .nil)
 ·obtain ⟨zs,e2,p2⟩:=h.l x hx
  have:fY (ls ++ [l]) x=fY ls x:=by
   unfold fY
   rw [List.filter_append,List.filter_cons_of_neg (by simp;exact fun z=>c z.symm),List.filter_nil,List.append_nil]
  rw [this]
  exact ⟨zs,aR (fun z=>c (h.i x hx _ hl z)) e2,p2.same kp⟩
structure WyP (G:Hp) (pls:List Str) (D:Addr) (i:Nat) (ys:List V) (H:Hp) (ls:List Addr):Prop where
 n:ls.length=i
 m:ys.length=i
 nd:ls.Nodup
 nD:D ∉ ls
 e:∀l ∈ ls,H l=some (.lst [])
 f:∀l ∈ ls,G l=none
 t:∀(j:Nat) y x l,ys[j]?=some y->pls[j]?=some x->ls[j]?=some l->∃t,y=V.ref t/\H t=some (.tup [.str x,.ref l])
theorem AS {H:Hp}:∀{pls:List Str}{ls:List Addr}{ys:List V},ls.length=pls.length->ys.length=pls.length->(∀(j:Nat) y x l,ys[j]?=some y->pls[j]?=some x->ls[j]?=some l->∃t,y=V.ref t/\H t=some (.tup [.str x,.ref l])) ->
  ∃ps:List Addr,ys=ps.map V.ref/\ps.length=pls.length/\∀(i:Nat) t k v,ps[i]?=some t->((pls.zip ls).map fun xl=>((Sum.inr xl.1:Key),V.ref xl.2))[i]?=some (k,v)->H t=some (.tup [kV k,v])
 | [],ls,ys,h1,h2,h3=>by
  cases ys with
  | nil=>exact ⟨[],rfl,rfl,fun i t k v h=>by simp at h⟩
  | cons y r=>cases h2
 | x :: pls,l :: ls,y :: ys,h1,h2,h3=>by
  obtain ⟨t,e,ht⟩:=h3 0 y x l rfl rfl rfl
  obtain ⟨ps,e1,e2,e3⟩:=AS (pls:=pls) (ls:=ls) (ys:=ys) (by simpa using h1) (by simpa using h2) (fun j y' x' l' a b c=>h3 (j + 1) y' x' l' a b c)
  refine ⟨t :: ps,by rw [e,e1];rfl,by simp [e2],fun i t' k v a b=>?_⟩
  cases i with
  | zero=>cases a;cases b;exact ht
  | succ i=>exact e3 i t' k v a b
 | x :: pls,[],ys,h1,_,_=>by cases h1
 | x :: pls,l :: ls,[],_,h2,_=>by cases h2
theorem zip_inj {x y:Str}{l:Addr}:∀{pls:List Str}{ls:List Addr},ls.Nodup->(x,l) ∈ pls.zip ls->(y,l) ∈ pls.zip ls->x=y
 | p :: pls,q :: ls,nd,h1,h2=>by
  rw [List.nodup_cons] at nd
  rw [List.zip_cons_cons,List.mem_cons] at h1 h2
  rcases h1 with h1 | h1 <;> rcases h2 with h2 | h2
  ·cases h1;cases h2;rfl
  ·cases h1;exact absurd (List.of_mem_zip h2).2 nd.1
  ·cases h2;exact absurd (List.of_mem_zip h1).2 nd.1
  ·exact zip_inj nd.2 h1 h2
 | [],_,_,h1,_=>by simp at h1
 | _ :: _,[],_,h1,_=>by simp at h1
def waO (kvs:List (Key × V)) (x:Str):Addr:=match L2.b8 kvs (.inr x) with
 | some (.ref l)=>l
 | _=>0
inductive wZ (A:Adr) (d:Nat) (vs:List V) (H:Hp) (Q:VK) (E9:XK):Prop
 | mk (N:Nat->Str) (X:Hp) (v:V) (hs ds ms:List Pt) (z0:vs=[v,.bl false]) (z1:aq X H) (z2:gf A N X v hs ds ms) (z3:OkL N d hs ds ms) (z5:∀l ∈ bx N ds ms,l.fr ∈ bf N hs ds ms)
  (z4:∀(W:Addr) (kvs:List (Key × V)) (wa:Str->Addr) (H':Hp),aq H H'->d9 H' W kvs (bf N hs ds ms) wa (bx N ds ms)->Q (.ref W) H'):wZ A d vs H Q E9
theorem Dw (T:Txt K mg A) (d:Nat):T.tO.Hz P w base (3 * d + 9) (wZ A d):=by
 refine T.tO.hs (k:=3 * d + 8) k6 (fun f cdv A' outer s H vs Q E' hr hu h=>?_)
 obtain ⟨N,X,v,hs,ds,ms,rfl,s0,pg,O,frp,q⟩:=h
 refine ⟨_,(af (pst 2 k6.nd (pcT lZ T.jX (aa (dm (N:=["place"]) (own:=1) (fr:=[]) (bS.of (by kernel_rfl!)) rfl (bB (aj (hj:=by omega) (uE T d) hr (aa (fv 0) ae))) (fun b=>pgn (i:=0) (show List.Nodup (["place"]:List PySem.Str) by decide +kernel) rfl) (fun b=>gz) (fun b=>bR (aa (fv 0) (aa (aZ ae) ae)))) ae)))
  (af (cP PassesOwn.never rfl (bB (aj (hj:=by omega) (vu.has (AZ T d)) hr (aa (fv 0) (aa (fv 1) ae)))) (pgn (i:=3) k6.nd rfl)
   (ah (bo (gb (px hu (fv 2) (px hu (fv 3) ao)) (aa (fv 3) ae)))))
  (ah (ax (fv 2))))),?_⟩
 have pln:=O.ok.pl
 have pnd:=O.ok.nd
 refine ag fun M1 K1=>⟨N,X,v,hs,ds,ms,rfl,s0,pg,O.ok,fun L1 H1 s1 hL1 eL1=>?_⟩
 generalize bf N hs ds ms=pls at eL1 pln pnd frp q
 refine Or.inl ⟨⟨_,SqL.of eL1⟩,lN (K:=K) (own:=1) (fun D i ys H=>∃ls,WyP H1 pls D i ys H ls) (SqL.of eL1) (aQ (by rw [List.length_map];omega)) (fun D hD=>⟨[],rfl,rfl,List.nodup_nil,by simp,by simp,by simp,fun j y x l h=>by simp at h⟩) ?_ ?_⟩
 ·rintro b D i x v0 Hc ys Nn Y hx hv hD sc eD ⟨ls,w⟩ no yes
  obtain ⟨u0,rfl⟩:∃u0,v0=[u0]:=by
   match v0,hv with
   | [u],_=>exact ⟨u,rfl⟩
  refine show _/\∀p,Hc p=none->_ from ⟨by show 0 <= sizeLine;decide,fun l hl=>?_⟩
  obtain ⟨s2,el⟩:=alc hl (HO.lst [])
  refine ⟨by show 2 <= sizeLine;decide,fun tp htp=>?_⟩
  obtain ⟨s3,et⟩:=alc htp (HO.tup [x,.ref l])
  refine yes [some x] _ _ rfl (s2.trans s3) ⟨ls ++ [l],?_⟩
  have lD:l ≠ D:=fresh_ne hl eD
  have tD:tp ≠ D:=fresh_ne htp (s2 _ _ eD)
  have lls:l ∉ ls:=fun m=>by rw [w.e l m] at hl;cases hl
  rw [List.getElem?_map] at hx
  have tk:∀z u,Hc z=some u->z ≠ D->upd (upd (upd Hc l (.lst [])) tp (.tup [x,.ref l])) D (.lst (ys ++ [.ref tp])) z=some u:=fun z u h n=>aR n (s3 _ _ (s2 _ _ h))
  refine ⟨by simp [w.n],by simp [w.m],List.nodup_append.mpr ⟨w.nd,by simp,fun a ma b mb e=>by rw [List.mem_singleton] at mb;exact lls (mb ▸ e ▸ ma)⟩,fun m=>?_,fun a ma=>?_,fun a ma=>?_,fun j y x' l' hy hx' hl'=>?_⟩
  ·rcases List.mem_append.mp m with m | m
   ·exact w.nD m
   ·exact lD (List.mem_singleton.mp m).symm
  ·rcases List.mem_append.mp ma with m | m
   ·exact tk _ _ (w.e a m) (fun z=>w.nD (z ▸ m))
   ·rw [List.mem_singleton.mp m]
    exact aR lD (s3 _ _ el)
  ·rcases List.mem_append.mp ma with m | m
   ·exact w.f a m
   ·rw [List.mem_singleton.mp m]
    exact aq.free sc hl
  ·by_cases jl:j < i
   ·rw [List.getElem?_append_left (by rw [w.m];exact jl)] at hy
    rw [List.getElem?_append_left (by rw [w.n];exact jl)] at hl'
    obtain ⟨t,e,ht⟩:=w.t j y x' l' hy hx' hl'
    exact ⟨t,e,tk _ _ ht (fun z=>by rw [z,eD] at ht;cases ht)⟩
   ·have ji:j=i:=by
     have:=(List.getElem?_eq_some_iff.mp hy).1
     rw [List.length_append,w.m,List.length_singleton] at this
     omega
    subst ji
    rw [List.getElem?_append_right (by rw [w.m];exact Nat.le_refl _),w.m,Nat.sub_self] at hy
    rw [List.getElem?_append_right (by rw [w.n];exact Nat.le_refl _),w.n,Nat.sub_self] at hl'
    cases hy
    cases hl'
    rw [hx'] at hx
    cases hx
    exact ⟨tp,rfl,aR tD et⟩
 rintro D H2 ys hD s2 eD ⟨ls,w⟩
 have wn:=w.n
 have wm:=w.m
 rw [List.length_map] at wn wm
 obtain ⟨ps,rfl,k1,k2⟩:=AS wn wm w.t
 generalize hkv:((pls.zip ls).map fun xl=>((Sum.inr xl.1:Key),V.ref xl.2))=kvs at k2
 have kl:kvs.length=pls.length:=by rw [<- hkv,List.length_map,List.length_zip,wn,Nat.min_self]
 have kf:kvs.map (·.1)=pls.map Sum.inr:=by
  rw [<- hkv,List.map_map]
  show (pls.zip ls).map (fun xl=>(Sum.inr xl.1:Key))=_
  rw [show (fun xl:Str × Addr=>(Sum.inr xl.1:Key))=Sum.inr ∘ Prod.fst from rfl,<- List.map_map,List.map_fst_zip (by omega)]
 have knd:(kvs.map (·.1)).Nodup:=by
  rw [kf]
  unfold List.Nodup at pnd ⊢
  rw [List.pairwise_map]
  exact pnd.imp fun n e=>n (Sum.inr.inj e)
 refine ⟨D,ps,kvs,rfl,SqL.of eD,by omega,by omega,fun i t k v ht hk=>SqT.of (k2 i t k v ht hk),fun W hW=>?_⟩
 obtain ⟨s3,eW⟩:=alc hW (HO.dK (bC [] kvs))
 generalize upd H2 W _=H3 at s3 eW ⊢
 rw [jJ kvs [] (by simpa using knd),List.nil_append] at eW
 have inj:∀x ∈ pls,∃l ∈ ls,L2.b8 kvs (.inr x)=some (.ref l)/\(x,l) ∈ pls.zip ls:=fun x hx=>by
  obtain ⟨j,hj,e⟩:=List.getElem_of_mem hx
  have hl:j < ls.length:=by omega
  have m:(x,ls[j]) ∈ pls.zip ls:=List.mem_iff_getElem.mpr ⟨j,by rw [List.length_zip];omega,by rw [List.getElem_zip,e]⟩
  exact ⟨ls[j],List.getElem_mem hl,xi knd (by rw [<- hkv];exact List.mem_map.mpr ⟨(x,ls[j]),m,rfl⟩),m⟩
 have wv:∀x ∈ pls,L2.b8 kvs (.inr x)=some (.ref (waO kvs x))/\(x,waO kvs x) ∈ pls.zip ls:=fun x hx=>by
  obtain ⟨l,ml,e,m⟩:=inj x hx
  have:waO kvs x=l:=by unfold waO;rw [e]
  rw [this]
  exact ⟨e,m⟩
 have wl:∀x ∈ pls,waO kvs x ∈ ls:=fun x hx=>(List.of_mem_zip (wv x hx).2).2
 have t3:=(s1.trans s2).trans s3
 have W0:d9 H3 W kvs pls (waO kvs) []:=⟨eW,fun x hx=>(wv x hx).1,fun x hx y hy e=>zip_inj w.nd (wv x hx).2 (e ▸ (wv y hy).2),fun x hx=>⟨[],s3 _ _ (w.e _ (wl x hx)),.nil⟩⟩
 generalize waO kvs=wa at wl W0
 have wf:∀m ∈ pls.map wa,H m=none:=fun m hm=>by
  obtain ⟨x,hx,rfl⟩:=List.mem_map.mp hm
  exact aq.free s1 (w.f _ (wl x hx))
 refine K1 _ _ ?_
 clear K1 M1
 try dsimp only
 refine ag fun M1 K1=>⟨N,X,v,hs,ds,ms,rfl,s0.trans t3,pg,O,fun R zs H4 s4 hR eR lk=>?_⟩
 have W4:=W0.same s4
 have nR:R ∉ pls.map wa:=fun m=>by
  obtain ⟨x,hx,rfl⟩:=List.mem_map.mp m
  obtain ⟨ys,e,_⟩:=W0.l x hx
  rw [hR] at e
  cases e
 have nt:∀t u,H4 t=some (.tup u)->t ∉ pls.map wa:=fun t u e m=>by
  obtain ⟨x,hx,rfl⟩:=List.mem_map.mp m
  obtain ⟨ys,e2,_⟩:=W4.l x hx
  rw [e] at e2
  cases e2
 have ll:=O.ll
 generalize bx N ds ms=ks at lk frp ll q
 have lln:=Paired.length lk
 refine Or.inl ⟨⟨_,SqL.of eR⟩,cu (K:=K) (xs:=zs) (fun i σ Hd=>∃(v3:Option V),σ=[some v,some (.bl false),some (.ref W),v3]/\Sm (pls.map wa) H4 Hd/\d9 Hd W kvs pls wa (ks.take i)) ⟨none,rfl,Sm.refl _ _,W4⟩ (fun i σ Hd _ ⟨_,_,z,_⟩=>SqL.of (z _ _ nR eR)) ?_ ?_⟩
 ·rintro i y σ Hd hy ⟨v3,rfl,sd,Wd⟩
  obtain ⟨l,hl,t,rfl,et⟩:=bY lk hy
  have ml:=List.mem_of_getElem? hl
  have et':=sd _ _ (nt _ _ et) et
  obtain ⟨us,eu,pu⟩:=Wd.l _ (frp l ml)
  have lu:=Paired.length pu
  have lw:(fY (ks.take i) l.fr).length <= 900:=by
   have:=List.length_filter_le (fun m:Lk=>decide (m.fr=l.fr)) (ks.take i)
   rw [List.length_take] at this
   unfold fY
   omega
  try dsimp only
  refine tix (j:=0) (SqT.of et') rfl (dgk Wd.d (Wd.v _ (frp l ml)) ⟨Or.inl ⟨rfl,_,SqL.of eu⟩,⟨_,_,_,rfl,rfl,eu,aQ (by omega),⟨_,rfl,sd.trans (Sm.at (List.mem_map_of_mem (frp l ml)) _),?_⟩⟩⟩)
  rw [List.take_add_one,hl]
  exact Wd.push et' (frp l ml) eu pu
 rintro σ Hd ⟨v3,rfl,sd,Wd⟩
 rw [show ks.take zs.length=ks by rw [<- lln];exact List.take_length] at Wd
 exact K1 _ _ (q W kvs wa Hd (sd.same (t3.trans s4) wf) Wd)
end
section
variable {P:Program}{w:World}{K:W.Frag}{mg:Str->Option Value}{base:Heap}{A:Adr}{N:Nat->Str}
seal PE PA PS PSs PT PW
def stA (cs:List Str) (l:Lk):List Str:=if l.to ∈ cs then cs else cs ++ [l.to]
def fD (ls:List Lk):Nat->Nat->List Str->List Str
 | 0,_,cs=>cs
 | n + 1,i,cs=>match cs[i]? with
  | none=>cs
  | some x=>fD ls n (i + 1) ((fY ls x).foldl stA cs)
theorem Bg (ls:List Lk) (n i:Nat) (cs:List Str) (h:cs.length <= i):fD ls n i cs=cs:=by
 cases n with
 | zero=>rfl
 | succ n =>
  unfold fD
  rw [List.getElem?_eq_none h]
theorem lX:∀{cs pls:List Str},cs.Nodup->(∀x ∈ cs,x ∈ pls)->cs.length <= pls.length
 | [],_,_,_=>Nat.zero_le _
 | x :: r,pls,nd,h=>by
  rw [List.nodup_cons] at nd
  have m:=h x List.mem_cons_self
  have:=lX (cs:=r) (pls:=pls.erase x) nd.2 fun y hy=>by
   rw [List.mem_erase_of_ne fun (e:y=x)=>nd.1 (e ▸ hy)]
   exact h y (List.mem_cons_of_mem _ hy)
  rw [List.length_erase_of_mem m] at this
  have:=List.length_pos_of_mem m
  rw [List.length_cons]
  omega
theorem xv:∀(l:List Lk) (cs:List Str),cs.length <= (l.foldl stA cs).length
 | [],cs=>Nat.le_refl _
 | k :: l,cs=>by
  refine Nat.le_trans ?_ (xv l (stA cs k))
  unfold stA
  split
  ·exact Nat.le_refl _
  ·simp
structure o3 (H:Hp) (C Q:Addr) (pls cs:List Str) (kvs:List (Key × V)):Prop where
 c:H C=some (.dK kvs)
 k:kvs.map (·.1)=cs.map Sum.inr
 q:H Q=some (.lst (sS cs))
 nd:cs.Nodup
 s:∀x ∈ cs,x ∈ pls
theorem o3.has {H:Hp}{C Q:Addr}{pls cs:List Str}{kvs:List (Key × V)} (h:o3 H C Q pls cs kvs) (x:Str):(L2.b8 kvs (.inr x)).isSome=decide (x ∈ cs):=by
 rw [<- fR,Bool.eq_iff_iff,List.any_eq_true,decide_eq_true_iff]
 constructor
 ·rintro ⟨kv,m,e⟩
  have:kv.1 ∈ cs.map Sum.inr:=h.k ▸ List.mem_map_of_mem m
  rw [of_decide_eq_true e] at this
  obtain ⟨y,my,ey⟩:=List.mem_map.mp this
  exact Sum.inr.inj ey ▸ my
 ·intro m
  have:(Sum.inr x:Key) ∈ kvs.map (·.1):=by rw [h.k];exact List.mem_map_of_mem m
  obtain ⟨kv,mk,e⟩:=List.mem_map.mp this
  exact ⟨kv,mk,decide_eq_true e⟩
theorem o3.len {H:Hp}{C Q:Addr}{pls cs:List Str}{kvs:List (Key × V)} (h:o3 H C Q pls cs kvs):kvs.length=cs.length/\cs.length <= pls.length:=by
 have:=congrArg List.length h.k
 simp only [List.length_map] at this
 exact ⟨this,lX h.nd h.s⟩
theorem o3.put {H:Hp}{C Q:Addr}{pls cs:List Str}{kvs:List (Key × V)} (h:o3 H C Q pls cs kvs) {x:Str}{v:V} (n:x ∉ cs) (hp:x ∈ pls):o3 (upd (upd H C (.dK (putK kvs (.inr x) v))) Q (.lst (sS cs ++ [.str x]))) C Q pls (cs ++ [x]) (kvs ++ [((Sum.inr x:Key),v)]):=by
 have CQ:C ≠ Q:=fun e=>by have:=h.c;rw [e,h.q] at this;cases this
 have hv:L2.b8 kvs (.inr x)=none:=by
  have:=h.has x
  rw [decide_eq_false n] at this
  exact Option.isSome_eq_false_iff.mp this |> Option.isNone_iff_eq_none.mp
 refine ⟨?_,by rw [List.map_append,h.k,List.map_append];rfl,?_,?_,fun y hy=>?_⟩
 ·rw [aI CQ,aw,uP v hv]
 ·rw [aw];simp [sS]
 ·exact List.nodup_append.mpr ⟨h.nd,by simp,fun a ma b mb e=>by rw [List.mem_singleton] at mb;exact n (mb ▸ e ▸ ma)⟩
 ·rcases List.mem_append.mp hy with m | m
  ·exact h.s y m
  ·rw [List.mem_singleton.mp m];exact hp
inductive sZ (A:Adr) (vs:List V) (H:Hp) (Q:VK) (E9:XK):Prop
 | mk (W S:Addr) (kw:List (Key × V)) (pls:List Str) (wa:Str->Addr) (ls:List Lk) (st:List Str) (z0:vs=[.ref W,.ref S]) (z1:d9 H W kw pls wa ls) (z2:H S=some (.lst (sS st))) (z3:st.Nodup) (z4:∀x ∈ st,x ∈ pls) (z5:∀l ∈ ls,l.to ∈ pls) (z6:pls.length <= 900)
  (z7:∀(C:Addr) (kvs:List (Key × V)) (H':Hp),aq H H'->H C=none->H' C=some (.dK kvs)->kvs.map (·.1)=(fD ls pls.length 0 st).map Sum.inr->Q (.ref C) H'):sZ A vs H Q E9
theorem xc {H:Hp}:∀{st:List Str}{ys:List V},Paired (fun x y=>∃t,y=V.ref t/\H t=some (.tup [.str x,.non])) st ys->∃ps:List Addr,ys=ps.map V.ref/\ps.length=st.length/\∀(i:Nat) t k v,ps[i]?=some t->(st.map fun x=>((Sum.inr x:Key),V.non))[i]?=some (k,v)->H t=some (.tup [kV k,v])
 | _,_,.nil=>⟨[],rfl,rfl,(fun i t k v h=>by simp at h)⟩
 | _,_,.cons h r=>by
  obtain ⟨t,rfl,h1⟩:=h
  obtain ⟨ps,e1,e2,e3⟩:=xc r
  refine ⟨t :: ps,by rw [e1];rfl,by simp [e2],fun i t' k v ht hk=>?_⟩
  cases i with
  | zero=>cases ht;cases hk;exact h1
  | succ i=>exact e3 i t' k v ht hk
theorem Ep (T:Txt K mg A):T.qi.Hz P w base 1 (sZ A):=by
 refine T.qi.hs df (fun f cdv A' outer s H vs Q E' hr hu h=>?_)
 obtain ⟨W,S,kw,pls,wa,ls,st,rfl,hW,hS,snd,ssub,tos,pln,q⟩:=h
 have stl:=lX snd ssub
 refine ⟨_,(af (pst 2 df.nd (pcT lZ T.jX (aa (dm (N:=["place"]) (own:=1) (fr:=[]) (bS.of (by kernel_rfl!)) rfl (bB (fv 1)) (fun b=>pgn (i:=0) (show List.Nodup (["place"]:List PySem.Str) by decide +kernel) rfl) (fun b=>gz) (fun b=>bR (aa (fv 0) (aa dH ae)))) ae)))
  (af (pst 3 df.nd (pcT Bd T.d3 (aa (fv 1) ae)))
  (af (pst 4 df.nd ao)
  (af (yR PassesOwn.never (ptc Eu (fv 4) (pcB iP T.jf (aa (fv 3) ae)))
   (af (pst 5 df.nd (px hu (fv 3) (fv 4)))
   (af (cP PassesOwn.never rfl (bB (px hu (fv 0) (fv 5))) (pgn (i:=6) df.nd rfl)
    (ah (aV (ptc (uy hu) (px hu (fv 6) ao) (fv 2) ((by with_unfolding_all rfl)))
     (af (lI (fv 6) (rU (fv 2) (px hu (fv 6) ao) (sR hu set_list)))
     (ah (bo (gb (fv 3) (aa (px hu (fv 6) ao) ae)))))
     aE)))
   (ah (AJ (i:=4) df.nd rfl (by first | exact Or.inl rfl | exact Or.inr rfl) ao zP)))))
  (ah (ax (fv 2))))))),?_⟩
 refine ag fun M1 K1=>Or.inl ⟨⟨_,SqL.of hS⟩,dA (K:=K) (own:=1) st (fun _=>true) (fun x y H=>∃t,y=V.ref t/\H t=some (.tup [.str x,.non])) (SqL.of hS) (List.length_map _) (aQ (by rw [List.length_map];omega)) ?_ ?_ ?_ ?_⟩
 ·intro b i x e v0 H1 Nn Y hx he hv s1 no yes
  obtain ⟨u0,rfl⟩:∃u0,v0=[u0]:=by
   match v0,hv with
   | [u],_=>exact ⟨u,rfl⟩
  rw [List.getElem?_map,he] at hx
  cases hx
  refine show _/\∀p,H1 p=none->_ from ⟨by show 2 <= sizeLine;decide,fun tp htp=>?_⟩
  exact yes rfl [some (.str e)] _ _ rfl (aq.upd htp _) ⟨tp,rfl,aw⟩
 ·rintro e y H1 H2 s1 ⟨t,e1,h1⟩
  exact ⟨t,e1,s1 _ _ h1⟩
 ·rintro e y H1 D ys zs hD ⟨t,e1,h1⟩
  exact ⟨t,e1,aR (fun z=>by rw [z,hD] at h1;cases h1) h1⟩
 intro L1 H1 ys hL1 s1 eL1 pr
 rw [dI] at pr
 obtain ⟨ps,rfl,k1,k2⟩:=xc pr
 generalize hkv:(st.map fun x=>((Sum.inr x:Key),V.non))=kv0 at k2
 have kf:kv0.map (·.1)=st.map Sum.inr:=by rw [<- hkv,List.map_map];rfl
 have kl:kv0.length=st.length:=by rw [<- hkv,List.length_map]
 have knd:(kv0.map (·.1)).Nodup:=by
  rw [kf]
  have h:=snd
  unfold List.Nodup at h ⊢
  rw [List.pairwise_map]
  exact h.imp fun n e=>n (Sum.inr.inj e)
 refine ⟨L1,ps,kv0,rfl,SqL.of eL1,by omega,by omega,fun i t k v ht hk=>SqT.of (k2 i t k v ht hk),fun C hC=>?_⟩
 obtain ⟨s2,eC⟩:=alc hC (HO.dK (bC [] kv0))
 generalize upd H1 C _=H2 at s2 eC ⊢
 rw [jJ kv0 [] (by simpa using knd),List.nil_append] at eC
 have t2:=s1.trans s2
 have hC0:H C=none:=aq.free s1 hC
 refine K1 _ _ ?_
 clear K1 M1
 try dsimp only
 refine ag fun M1 K1=>Or.inl ⟨S,_,rfl,Or.inl (SqL.of (t2 _ _ hS)),fun Qa hQ=>?_⟩
 obtain ⟨s3,eQ⟩:=alc hQ (HO.lst (sS st))
 generalize upd H2 Qa _=H3 at s3 eQ ⊢
 have t3:=t2.trans s3
 have hQ0:H Qa=none:=aq.free t2 hQ
 have nf:∀m ∈ [C,Qa],H m=none:=fun m hm=>by
  rcases List.mem_cons.mp hm with e | hm
  ·rw [e];exact hC0
  ·rw [List.mem_singleton.mp hm];exact hQ0
 have hm:C ∈ [C,Qa]/\Qa ∈ [C,Qa]:=⟨List.mem_cons_self,List.mem_cons_of_mem _ List.mem_cons_self⟩
 have cm3:o3 H3 C Qa pls st kv0:=⟨s3 _ _ eC,kf,eQ,snd,ssub⟩
 refine K1 _ _ ?_
 clear K1 M1
 try dsimp only
 refine ag fun M1 K1=>K1 _ _ ?_
 clear K1 M1
 try dsimp only
 refine ag fun M1 K1=>⟨fun m σ Hd=>∃(i:Nat) (cs:List Str) (kvs:List (Key × V)) (v5 v6:Option V),m=pls.length - i/\σ=[some (.ref W),some (.ref S),some (.ref C),some (.ref Qa),some (.int i),v5,v6]/\Sm [C,Qa] H3 Hd/\o3 Hd C Qa pls cs kvs/\i <= cs.length/\fD ls (pls.length - i) i cs=fD ls pls.length 0 st,⟨_,0,st,kv0,none,none,rfl,rfl,Sm.refl _ _,cm3,Nat.zero_le _,rfl⟩,?_⟩
 rintro m σ Hd ⟨i,cs,kvs,v5,v6,rfl,rfl,sd,cm,il,ar⟩
 have cl:=cm.len
 refine lnl cm.q ?_
 rw [List.length_map]
 refine ⟨_,rfl,de (fun c=>?_) (fun c=>?_)⟩
 ·have il2:i < cs.length:=by have:=of_decide_eq_true c;omega
  obtain ⟨x,hx⟩:∃x,cs[i]?=some x:=⟨_,List.getElem?_eq_getElem il2⟩
  have mx:x ∈ pls:=cm.s x (List.mem_of_getElem? hx)
  refine ⟨fun σ' H'=>∃(cs':List Str) (kvs':List (Key × V)) (v5 v6:Option V),σ'=[some (.ref W),some (.ref S),some (.ref C),some (.ref Qa),some (.int ((i:Int) + 1)),v5,v6]/\Sm [C,Qa] H3 H'/\o3 H' C Qa pls cs' kvs'/\i + 1 <= cs'.length/\fD ls (pls.length - (i + 1)) (i + 1) cs'=fD ls pls.length 0 st,?_,?_⟩
  ·rintro σ' H' ⟨cs',kvs',v5,v6,rfl,a1,a2,a3,a4⟩
   exact ⟨pls.length - (i + 1),by omega,i + 1,cs',kvs',v5,v6,rfl,rfl,a1,a2,a3,a4⟩
  have ar2:fD ls (pls.length - (i + 1)) (i + 1) ((fY ls x).foldl stA cs)=fD ls pls.length 0 st:=by
   rw [<- ar,show pls.length - i=pls.length - (i + 1) + 1 by omega]
   conv=>rhs;unfold fD
   rw [hx]
  try dsimp only
  refine ag fun N1 J1=>lix (SqL.of cm.q) (oA (by rw [List.getElem?_map,hx];rfl)) (?_)
  have sH:aq H Hd:=sd.same t3 nf
  have hWd:=hW.same sH
  obtain ⟨us,eu,pu⟩:=hW.l x mx
  have lus:=Paired.length pu
  refine J1 _ _ ?_
  clear J1 N1
  try dsimp only
  refine ag fun N1 J1=>dgk hWd.d (hWd.v x mx) (Or.inl ⟨⟨_,SqL.of (sH _ _ eu)⟩,cu (K:=K) (xs:=us) (fun j σ He=>∃(cs':List Str) (kvs':List (Key × V)) (v6:Option V),σ=[some (.ref W),some (.ref S),some (.ref C),some (.ref Qa),some (.int (i:Int)),some (.str x),v6]/\Sm [C,Qa] H3 He/\o3 He C Qa pls cs' kvs'/\cs'=((fY ls x).take j).foldl stA cs) ⟨cs,kvs,v6,rfl,sd,cm,rfl⟩ (fun j σ He _ ⟨_,_,_,_,z,_⟩=>SqL.of ((z.same t3 nf) _ _ eu)) ?_ ?_⟩)
  ·rintro j y σ He hy ⟨cs',kvs',v6,rfl,se,ce,rfl⟩
   obtain ⟨l,hl,t,rfl,et⟩:=bY pu hy
   have ml:l ∈ ls:=(List.mem_filter.mp (List.mem_of_getElem? hl)).1
   have sHe:=se.same t3 nf
   have et':=SqT.of (K:=K) (sHe _ _ et)
   have stp:((fY ls x).take (j + 1)).foldl stA cs=stA (((fY ls x).take j).foldl stA cs) l:=iH stA cs hl
   generalize ((fY ls x).take j).foldl stA cs=cj at ce stp
   have cl2:=ce.len
   try dsimp only
   refine tix (j:=1) et' rfl (Or.inr ⟨C,_,rfl,kL.k (k:=.inr l.to) ce.c,_,rfl,?_⟩)
   rw [ce.has]
   unfold stA at stp
   by_cases m:l.to ∈ cj
   ·rw [if_pos m] at stp
    rw [decide_eq_true m]
    exact aN ⟨_,_,_,rfl,se,ce,stp.symm⟩
   ·rw [if_neg m] at stp
    rw [decide_eq_false m]
    refine bU (ag fun O1 I1=>tix (j:=1) et' rfl ⟨_,sO.k (k:=.inr l.to) ce.c (aQ (by omega)),I1 _ _ ?_⟩)
    clear I1 O1
    have tC:t ≠ C:=fun z=>by have:=sHe _ _ et;rw [z,ce.c] at this;cases this
    have QC:Qa ≠ C:=fun z=>by have:=ce.q;rw [z,ce.c] at this;cases this
    have eq2:upd He C (.dK (putK kvs' (.inr l.to) (.ref t))) Qa=some (.lst (sS cj)):=aR QC ce.q
    have et2:SqT K (upd He C (.dK (putK kvs' (.inr l.to) (.ref t)))) t l.vs:=SqT.of (aR tC (sHe _ _ et))
    try dsimp only
    exact ⟨Or.inl ⟨rfl,_,SqL.of eq2⟩,tix (j:=1) et2 rfl ⟨_,_,_,rfl,rfl,eq2,aQ (by rw [List.length_map];omega),⟨_,_,_,rfl,(se.trans (Sm.at hm.1 _)).trans (Sm.at hm.2 _),ce.put m (tos l ml),stp.symm⟩⟩⟩
  rintro σ He ⟨cs',kvs',v6,rfl,se,ce,ecs⟩
  rw [show (fY ls x).take us.length=fY ls x by rw [<- lus];exact List.take_length] at ecs
  refine J1 _ _ ?_
  have sl:=xv (fY ls x) cs
  rw [<- ecs] at sl ar2
  exact ⟨_,rfl,i,1,rfl,rfl,cs',kvs',_,_,rfl,se,ce,by omega,ar2⟩
 ·have ie:i=cs.length:=by
   have:¬ ((i:Int) < (cs.length:Int)):=fun z=>c (decide_eq_true z)
   omega
  rw [Bg ls _ i cs (by omega)] at ar
  exact K1 _ _ (q C kvs Hd (sd.same t3 nf) hC0 cm.c (by rw [cm.k,ar]))
end
section
variable {P:Program}{w:World}{K:W.Frag}{mg:Str->Option Value}{base:Heap}{A:Adr}{N:Nat->Str}
seal PE PA PS PSs PT PW
inductive w6 (vs:List V) (H:Hp) (Q:VK) (E9:XK):Prop
 | mk (r:Int) (z0:vs=[.int r]) (z1:0 <= r/\r <= 2) (z2:Q (.int (1 * 2 ^ r.toNat)) H):w6 vs H Q E9
theorem Dm (T:Txt K mg A):T.only.Hz P w base 1 w6:=by
 refine T.only.hs Bj (fun f cdv A' outer s H vs Q E' hr hu h=>?_)
 obtain ⟨r,rfl,hr',q⟩:=h
 exact ⟨_,(ah (ax (aG EH ao (fv 0)))),⟨by unfold zg;omega,q⟩⟩
inductive rC (vs:List V) (H:Hp) (Q:VK) (E9:XK):Prop
 | mk (a b:Int) (z0:vs=[.int a,.int b]) (z2:Q (.int (Builtin.bitOr a b)) H):rC vs H Q E9
theorem Ag (T:Txt K mg A):T.joined.Hz P w base 1 rC:=by
 refine T.joined.hs yb (fun f cdv A' outer s H vs Q E' hr hu h=>?_)
 obtain ⟨a,b,rfl,q⟩:=h
 exact ⟨_,(ah (ax (aG FO (fv 0) (fv 1)))),q⟩
theorem qY {sp:Sp}{dvs:List V}{E:XK}{t:TA} (hs:∀vs H (Q Q':VK),(∀v H,Q v H->Q' v H)->sp vs H Q E->sp vs H Q' E) (ht:∀σ H (R R':List V->Hp->Prop),(∀vs H,R vs H->R' vs H)->t σ H R->t σ H R'):∀σ H (Q Q':VK),(∀v H,Q v H->Q' v H)->qV sp dvs E t σ H Q->qV sp dvs E t σ H Q':=fun σ H Q Q' h hh=>ht σ H _ _ (fun vs H1 z=>hs _ _ _ _ h z) hh
theorem kx {te:TE}{t:TA} (he:∀σ H (Q Q':VK),(∀v H,Q v H->Q' v H)->te σ H Q->te σ H Q') (ht:∀σ H (R R':List V->Hp->Prop),(∀vs H,R vs H->R' vs H)->t σ H R->t σ H R'):∀σ H (R R':List V->Hp->Prop),(∀vs H,R vs H->R' vs H)->AD te t σ H R->AD te t σ H R':=fun σ H R R' h hh=>he σ H _ _ (fun v H1 z=>ht σ H1 _ _ (fun vs H2 y=>h _ _ y) z) hh
theorem ui:∀σ H (R R':List V->Hp->Prop),(∀vs H,R vs H->R' vs H)->Bp σ H R->Bp σ H R':=fun σ H R R' h hh=>h _ _ hh
theorem AO:∀vs H (Q Q':VK),(∀v H,Q v H->Q' v H)->sZ A vs H Q E0->sZ A vs H Q' E0:=by
 rintro vs H Q Q' h ⟨W,S,kw,pls,wa,ls,st,z0,z1,z2,z3,z4,z5,z6,z7⟩
 exact ⟨W,S,kw,pls,wa,ls,st,z0,z1,z2,z3,z4,z5,z6,fun C kvs H' a b c d=>h _ _ (z7 C kvs H' a b c d)⟩
theorem Ay:∀vs H (Q Q':VK),(∀v H,Q v H->Q' v H)->fA A vs H Q E0->fA A vs H Q' E0:=by
 rintro vs H Q Q' h ⟨N,X,v,rk,hs,ds,ms,z0,z1,z2,z3,z4⟩
 exact ⟨N,X,v,rk,hs,ds,ms,z0,z1,z2,z3,fun R H' a b c=>h _ _ (z4 R H' a b c)⟩
def bV (g:Str->Int):Key->V
 | .inr x=>.int (g x)
 | .inl _=>.non
def bOr (r:Int) (g:Str->Int) (x:Str):Str->Int:=fun y=>if y=x then Builtin.bitOr (g x) (1 * 2 ^ r.toNat) else g y
theorem Df (g:Str->Int) (x:Str) (v:Int):qA (bV g) (.inr x) (.int v)=bV fun y=>if y=x then v else g y:=by
 funext k
 unfold qA
 cases k with
 | inl i=>rw [if_neg (by intro e;cases e)];rfl
 | inr y =>
  by_cases e:y=x
  ·rw [if_pos (by rw [e])]
   show V.int v=V.int (if y=x then v else g y)
   rw [if_pos e]
  ·rw [if_neg fun z=>e (Sum.inr.inj z)]
   show V.int (g y)=V.int (if y=x then v else g y)
   rw [if_neg e]
theorem Di {pls:List Str}{g:Str->Int}{x:Str}{r:Int} (m:x ∈ pls):putK (sk (pls.map Sum.inr) (bV g)) (.inr x) (.int (Builtin.bitOr (g x) (1 * 2 ^ r.toNat)))=sk (pls.map Sum.inr) (bV (bOr r g x)):=by
 rw [za,Df,show qv (pls.map Sum.inr) (Sum.inr x)=pls.map Sum.inr from if_pos (List.mem_map_of_mem m)]
 rfl
def qu (N:Nat->Str) (hs ds ms:List Pt) (r:Int):List Str:=fD (bx N ds ms) (bf N hs ds ms).length 0 (srcOf N hs r)
def iL (N:Nat->Str) (hs ds ms:List Pt):Str->Int:=(rk3 ((iV N hs).map (·.2))).foldl (fun g r=>(qu N hs ds ms r).foldl (bOr r) g) fun _=>0
structure OkT (N:Nat->Str) (d:Nat) (hs ds ms:List Pt):Prop where
 l:OkL N d hs ds ms
 fr:∀l ∈ bx N ds ms,l.fr ∈ bf N hs ds ms
 to:∀l ∈ bx N ds ms,l.to ∈ bf N hs ds ms
 rk:∀s ∈ iV N hs,s.2=0 \/ s.2=1 \/ s.2=2
 sn:((iV N hs).map (·.1)).Nodup
 ss:∀s ∈ iV N hs,s.1 ∈ bf N hs ds ms
theorem d9.sm {H H':Hp}{W B:Addr}{kvs kb:List (Key × V)}{pls:List Str}{wa:Str->Addr}{ls:List Lk} (h:d9 H W kvs pls wa ls) (s:Sm [B] H H') (eB:H B=some (.dK kb)) (n:W ≠ B):d9 H' W kvs pls wa ls:=by
 have t:∀a o,a ≠ B->H a=some o->H' a=some o:=fun a o m e=>s a o (fun z=>m (List.mem_singleton.mp z)) e
 refine ⟨t _ _ n h.d,h.v,h.i,fun x hx=>?_⟩
 obtain ⟨ys,e,l⟩:=h.l x hx
 exact ⟨ys,t _ _ (fun z=>by rw [z,eB] at e;cases e) e,l.same fun a u z=>t _ _ (fun y=>by rw [y,eB] at z;cases z) z⟩
theorem ux {H:Hp}:∀{st:List Str}{ys:List V},Paired (fun x y=>∃t,y=V.ref t/\H t=some (.tup [.str x,.int 0])) st ys->∃ps:List Addr,ys=ps.map V.ref/\ps.length=st.length/\∀(i:Nat) t k v,ps[i]?=some t->(sk (st.map Sum.inr) (bV fun _=>0))[i]?=some (k,v)->H t=some (.tup [kV k,v])
 | _,_,.nil=>⟨[],rfl,rfl,(fun i t k v h=>by simp at h)⟩
 | _,_,.cons h r=>by
  obtain ⟨t,rfl,h1⟩:=h
  obtain ⟨ps,e1,e2,e3⟩:=ux r
  refine ⟨t :: ps,by rw [e1];rfl,by simp [e2],fun i t' k v ht hk=>?_⟩
  cases i with
  | zero=>cases ht;cases hk;exact h1
  | succ i=>exact e3 i t' k v ht hk
theorem xa {ls:List Lk}{pls:List Str} (to:∀l ∈ ls,l.to ∈ pls):∀(n i:Nat) (cs:List Str),(∀x ∈ cs,x ∈ pls)->∀x ∈ fD ls n i cs,x ∈ pls
 | 0,_,cs,h=>h
 | n + 1,i,cs,h=>by
  unfold fD
  split
  ·exact h
  ·next x hx =>
   refine xa to n (i + 1) _ ?_
   have:∀(l:List Lk),(∀k ∈ l,k ∈ ls)->∀cs:List Str,(∀x ∈ cs,x ∈ pls)->∀x ∈ l.foldl stA cs,x ∈ pls:=by
    intro l
    induction l with
    | nil=>exact fun _ cs h=>h
    | cons k l ih =>
     intro hl cs h
     refine ih (fun k' m=>hl k' (List.mem_cons_of_mem _ m)) _ fun x hx=>?_
     unfold stA at hx
     split at hx
     ·exact h x hx
     ·rcases List.mem_append.mp hx with m | m
      ·exact h x m
      ·rw [List.mem_singleton.mp m]
       exact to k (hl k List.mem_cons_self)
   exact this _ (fun k m=>(List.mem_filter.mp m).1) cs h
end
section
variable {P:Program}{w:World}{K:W.Frag}{mg:Str->Option Value}{base:Heap}{A:Adr}{N:Nat->Str}
seal PE PA PS PSs PT PW
inductive uu (A:Adr) (d:Nat) (vs:List V) (H:Hp) (Q:VK) (E9:XK):Prop
 | mk (N:Nat->Str) (X:Hp) (v:V) (hs ds ms:List Pt) (z0:vs=[v,.bl false]) (z1:aq X H) (z2:gf A N X v hs ds ms) (z3:OkT N d hs ds ms)
  (z4:∀(B:Addr) (H':Hp),aq H H'->H B=none->H' B=some (.dK (sk ((bf N hs ds ms).map Sum.inr) (bV (iL N hs ds ms))))->Q (.ref B) H'):uu A d vs H Q E9
theorem vQ (i:Nat):∀σ H (Q Q':VK),(∀v H,Q v H->Q' v H)->yT i σ H Q->yT i σ H Q':=fun σ H Q Q' h hh=>by
 unfold yT at hh ⊢
 split at hh
 ·exact h _ _ hh
 ·exact hh
theorem Bo (T:Txt K mg A) (d:Nat):T.table.Hz P w base (3 * d + 10) (uu A d):=by
 refine T.table.hs (k:=3 * d + 9) ke (fun f cdv A' outer s H vs Q E' hr hu h=>?_)
 obtain ⟨N,X,v,hs,ds,ms,rfl,s0,pg,O,q⟩:=h
 refine ⟨_,(af (pst 2 ke.nd (aj (hj:=by omega) (Dw T d) hr (aa (fv 0) (aa (fv 1) ae))))
  (af (pst 3 ke.nd (pcT lZ T.jX (aa (dm (N:=["place"]) (own:=1) (fr:=[]) (bS.of (by kernel_rfl!)) rfl (bB (aj (hj:=by omega) (uE T d) hr (aa (fv 0) ae))) (fun b=>pgn (i:=0) (show List.Nodup (["place"]:List PySem.Str) by decide +kernel) rfl) (fun b=>gz) (fun b=>bR (aa (fv 0) (aa ao ae)))) ae)))
  (af (cP PassesOwn.never rfl (bB (tB T.jO T.xp (aa (dm (N:=["place","rank"]) (own:=2) (fr:=[]) (bS.of (by kernel_rfl!)) rfl (bB (aj (hj:=by omega) (rE T) hr (aa (fv 0) ae))) (fun b=>gS rfl (bc (pgn (i:=0) (show List.Nodup (["place","rank"]:List PySem.Str) by decide +kernel) rfl) (bc (pgn (i:=1) (show List.Nodup (["place","rank"]:List PySem.Str) by decide +kernel) rfl) eO))) (fun b=>gz) (fun b=>fv 1)) ae))) (pgn (i:=4) ke.nd rfl)
   (ah (BG PassesOwn.never rfl (aj (hj:=by omega) (Ep T) hr (aa (fv 2) (aa (aj (hj:=by omega) (uj T) hr (aa (fv 0) (aa (fv 4) ae))) ae))) (qY AO (kx (vQ 2) (kx (qY Ay (kx (vQ 0) (kx (vQ 4) ui))) ui))) (pgn (i:=5) ke.nd rfl)
    (ah (lI (aj (hj:=by omega) (Ag T) hr (aa (px hu (fv 3) (fv 5)) (aa (aj (hj:=by omega) (Dm T) hr (aa (fv 4) ae)) ae))) (rU (fv 3) (fv 5) (sR hu set_list)))))))
  (ah (ax (fv 3)))))),?_⟩
 have pln:=O.l.ok.pl
 have pnd:=O.l.ok.nd
 refine ag fun M1 K1=>⟨N,X,v,hs,ds,ms,rfl,s0,pg,O.l,O.fr,fun W kw wa H1 s1 hW=>K1 _ _ ?_⟩
 clear K1 M1
 try dsimp only
 refine ag fun M1 K1=>⟨N,X,v,hs,ds,ms,rfl,s0.trans s1,pg,O.l.ok,fun L1 H2 s2 hL1 eL1=>?_⟩
 have Oto:=O.to
 have Oss:=O.ss
 unfold iL qu at q
 generalize bx N ds ms=ls at hW Oto q
 generalize hpl:bf N hs ds ms=pls at hW Oto eL1 pln pnd Oss q
 refine Or.inl ⟨⟨_,SqL.of eL1⟩,dA (K:=K) (own:=1) pls (fun _=>true) (fun x y H=>∃t,y=V.ref t/\H t=some (.tup [.str x,.int 0])) (SqL.of eL1) (List.length_map _) (aQ (by rw [List.length_map];omega)) ?_ ?_ ?_ ?_⟩
 ·intro b i x e v0 H1 Nn Y hx he hv s1 no yes
  obtain ⟨u0,rfl⟩:∃u0,v0=[u0]:=by
   match v0,hv with
   | [u],_=>exact ⟨u,rfl⟩
  rw [List.getElem?_map,he] at hx
  cases hx
  refine show _/\∀p,H1 p=none->_ from ⟨by show 2 <= sizeLine;decide,fun tp htp=>?_⟩
  exact yes rfl [some (.str e)] _ _ rfl (aq.upd htp _) ⟨tp,rfl,aw⟩
 ·rintro e y H1 H2 s1 ⟨t,e1,h1⟩
  exact ⟨t,e1,s1 _ _ h1⟩
 ·rintro e y H1 D ys zs hD ⟨t,e1,h1⟩
  exact ⟨t,e1,aR (fun z=>by rw [z,hD] at h1;cases h1) h1⟩
 intro L2' H3 ys hL2 s3 eL2 pr
 rw [dI] at pr
 obtain ⟨ps,rfl,k1,k2⟩:=ux pr
 have kl:(sk (pls.map Sum.inr) (bV fun _=>0)).length=pls.length:=by rw [wt,List.length_map]
 have knd:((sk (pls.map Sum.inr) (bV fun _=>0)).map (·.1)).Nodup:=by
  rw [show (sk (pls.map Sum.inr) (bV fun _=>0)).map (·.1)=pls.map Sum.inr by unfold sk;rw [List.map_map];exact List.map_id' _]
  have h:=pnd
  unfold List.Nodup at h ⊢
  rw [List.pairwise_map]
  exact h.imp fun n e=>n (Sum.inr.inj e)
 refine ⟨L2',ps,_,rfl,SqL.of eL2,by omega,by omega,fun i t k v ht hk=>SqT.of (k2 i t k v ht hk),fun B hB=>?_⟩
 obtain ⟨s4,eB⟩:=alc hB (HO.dK (bC [] (sk (pls.map Sum.inr) (bV fun _=>0))))
 generalize upd H3 B _=H4 at s4 eB ⊢
 rw [jJ _ [] (by simpa using knd),List.nil_append] at eB
 have t3:=(s1.trans s2).trans s3
 have t4:=t3.trans s4
 have hB0:H B=none:=aq.free t3 hB
 have WB:W ≠ B:=(fresh_ne hB ((s2.trans s3) _ _ hW.d)).symm
 have hW4:=hW.same ((s2.trans s3).trans s4)
 refine K1 _ _ ?_
 clear K1 M1
 try dsimp only
 refine ag fun M1 K1=>⟨N,X,v,hs,ds,ms,rfl,s0.trans t4,pg,O.l.ok.hl,fun L3 ss H5 s5 hL3 eL3 pr3=>?_⟩
 have hl3:=O.l.ok.hl
 have ln3:=Paired.length pr3
 have l3:(iV N hs).length <= hs.length:=by
  unfold iV
  rw [List.length_map]
  exact List.length_filter_le _ _
 refine Or.inl ⟨⟨_,SqL.of eL3⟩,dA (K:=K) (own:=2) (iV N hs) (fun _=>true) (fun s y _=>y=.int s.2) (SqL.of eL3) ln3.symm (aQ (by omega)) ?_ (fun _ _ _ _ _ h=>h) (fun _ _ _ _ _ _ _ h=>h) ?_⟩
 ·intro b i x t v0 H2 Nn Y hx he hv s2 no yes
  obtain ⟨u0,u1,rfl⟩:∃u0 u1,v0=[u0,u1]:=by
   match v0,hv with
   | [u,u'],_=>exact ⟨u,u',rfl⟩
  obtain ⟨t',ht,tp,rfl,etp⟩:=bY pr3 hx
  rw [he] at ht
  cases ht
  exact ⟨tp,_,rfl,SqT.of (s2 _ _ etp),rfl,_,_,rfl,_,_,rfl,rfl,yes rfl [some (.str t.1),some (.int t.2)] _ _ rfl (aq.refl _) rfl⟩
 intro L4 H6 zs hL4 s6 eL4 pz
 rw [dI] at pz
 have ez:=oR pz
 refine ⟨L4,(iV N hs).map (·.2),rfl,SqL.of (by rw [eL4,ez]),fun n hn=>?_,fun Lr hLr=>?_⟩
 ·obtain ⟨s,m,rfl⟩:=List.mem_map.mp hn
  exact O.rk s m
 obtain ⟨s7,eLr⟩:=alc hLr (HO.lst ((rk3 ((iV N hs).map (·.2))).map V.int))
 generalize upd H6 Lr _=H7 at s7 eLr ⊢
 have t57:=(s5.trans s6).trans s7
 have t7:=t4.trans t57
 have eB7:=t57 _ _ eB
 have LrB:Lr ≠ B:=fresh_ne hLr ((s5.trans s6) _ _ eB)
 have hW7:=hW4.same t57
 have rk3m:∀r ∈ rk3 ((iV N hs).map (·.2)),0 <= r/\r <= 2:=fun r hr=>by
  have:=(List.mem_filter.mp hr).1
  simp only [List.mem_cons,List.not_mem_nil,or_false] at this
  rcases this with h | h | h <;> rw [h] <;> decide
 generalize rk3 ((iV N hs).map (·.2))=rks at eLr rk3m q
 refine Or.inl ⟨⟨_,SqL.of eLr⟩,cu (K:=K) (xs:=rks.map V.int) (fun j σ Hd=>∃(v4 v5:Option V),σ=[some v,some (.bl false),some (.ref W),some (.ref B),v4,v5]/\Sm [B] H7 Hd/\Hd B=some (.dK (sk (pls.map Sum.inr) (bV ((rks.take j).foldl (fun g r=>(fD ls pls.length 0 (srcOf N hs r)).foldl (bOr r) g) fun _=>0))))) ⟨none,none,rfl,Sm.refl _ _,eB7⟩ (fun j σ Hd _ ⟨_,_,_,z,_⟩=>SqL.of (z _ _ (fun m=>LrB (List.mem_singleton.mp m)) eLr)) ?_ ?_⟩
 ·rintro j y σ Hd hy ⟨v4,v5,rfl,sd,eBd⟩
  rw [List.getElem?_map] at hy
  cases hr':rks[j]? with
  | none=>rw [hr'] at hy;cases hy
  | some r =>
  rw [hr'] at hy
  cases hy
  have r02:=rk3m r (List.mem_of_getElem? hr')
  have stp:=iH (fun g r=>(fD ls pls.length 0 (srcOf N hs r)).foldl (bOr r) g) (fun _:Str=>(0:Int)) hr'
  generalize (rks.take j).foldl (fun g r=>(fD ls pls.length 0 (srcOf N hs r)).foldl (bOr r) g) (fun _=>0)=g0 at eBd stp
  have sX:aq H Hd:=sd.same t7 (fun m hm=>by rw [List.mem_singleton.mp hm];exact hB0)
  have hWd:=hW7.sm sd eB7 WB
  try dsimp only
  refine ⟨N,X,v,r,hs,ds,ms,rfl,s0.trans sX,pg,O.l.ok.hl,fun S H8 s8 hS eS=>?_⟩
  have snd:(srcOf N hs r).Nodup:=by
   unfold srcOf
   exact List.Sublist.nodup (List.Sublist.map _ List.filter_sublist) O.sn
  have ssub:∀x ∈ srcOf N hs r,x ∈ pls:=fun x hx=>by
   obtain ⟨s,m,rfl⟩:=List.mem_map.mp hx
   exact Oss s (List.mem_filter.mp m).1
  refine ⟨W,S,kw,pls,wa,ls,srcOf N hs r,rfl,hWd.same s8,eS,snd,ssub,Oto,by omega,fun C kc H9 s9 hC eC kk=>?_⟩
  have asub:=xa Oto pls.length 0 _ ssub
  generalize fD ls pls.length 0 (srcOf N hs r)=ar at kk stp asub
  have t9:=s8.trans s9
  have eB9:=t9 _ _ eBd
  have CB:C ≠ B:=fresh_ne hC (s8 _ _ eBd)
  have hC0:Hd C=none:=aq.free s8 hC
  have kcl:kc.length=ar.length:=by
   have:=congrArg List.length kk
   simpa using this
  refine ⟨C,kc,rfl,eC,fun o nfz knd=>⟨fun i σ Hf=>∃v5,σ=[some v,some (.bl false),some (.ref W),some (.ref B),some (.int r),v5]/\Sm [B,C] H9 Hf/\Hf C=some (.frz o (.dK kc))/\Hf B=some (.dK (sk (pls.map Sum.inr) (bV ((ar.take i).foldl (bOr r) g0)))),⟨v5,rfl,Sm.at (List.mem_cons_of_mem _ List.mem_cons_self) _,aw,aR CB.symm eB9⟩,fun i σ Hf _ ⟨_,_,_,z,_⟩=>z,?_,?_⟩⟩
  ·rintro i k u σ Hf hk ⟨v5,rfl,sf,eCf,eBf⟩
   have hx:(ar.map (Sum.inr:Str->Key))[i]?=some k:=by rw [<- kk,List.getElem?_map,hk];rfl
   rw [List.getElem?_map] at hx
   cases ha:ar[i]? with
   | none=>rw [ha] at hx;cases hx
   | some x =>
   rw [ha] at hx
   cases hx
   have mx:x ∈ pls:=asub x (List.mem_of_getElem? ha)
   have st2:=iH (bOr r) g0 ha
   try dsimp only
   refine dgk eBf (tQ (List.mem_map_of_mem mx)) ⟨r,rfl,r02,_,_,rfl,⟨_,sO.k (k:=.inr x) eBf (aQ (by rw [wt,List.length_map];omega)),⟨_,rfl,sf.trans (Sm.at List.mem_cons_self _),aR CB eCf,?_⟩⟩⟩
   rw [aw,st2]
   exact congrArg (fun z=>some (HO.dK z)) (Di mx)
  ·rintro σ Hf ⟨v5,rfl,sf,eCf,eBf⟩
   rw [kcl,List.take_length] at eBf
   refine ⟨_,_,rfl,fun a u na e=>?_,aR CB.symm (by rw [stp];exact eBf)⟩
   have ed:=sd a u na e
   have aC:a ≠ C:=fun z=>by rw [z,hC0] at ed;cases ed
   have aB:a ≠ B:=fun z=>na (List.mem_singleton.mpr z)
   refine aR aC (sf a u (fun m=>?_) (t9 _ _ ed))
   rcases List.mem_cons.mp m with z | m
   ·exact aB z
   ·exact aC (List.mem_singleton.mp m)
 rintro σ Hd ⟨v4,v5,rfl,sd,eBd⟩
 rw [List.length_map,List.take_length] at eBd
 exact K1 _ _ (q B Hd (sd.same t7 (fun m hm=>by rw [List.mem_singleton.mp hm];exact hB0)) hB0 eBd)
end
section
variable {P:Program}{w:World}{K:W.Frag}{mg:Str->Option Value}{base:Heap}{A:Adr}{N:Nat->Str}
seal PE PA PS PSs PT PW
inductive zI (vs:List V) (H:Hp) (Q:VK) (E9:XK):Prop
 | mk (a:Int) (z0:vs=[.int a]) (z2:Q (.int ((Builtin.Int.intBits a:Int) - 1)) H):zI vs H Q E9
theorem Ec (T:Txt K mg A):T.top.Hz P w base 1 zI:=by
 refine T.top.hs Dz (fun f cdv A' outer s H vs Q E' hr hu h=>?_)
 obtain ⟨a,rfl,q⟩:=h
 exact ⟨_,(ah (ax (aG nH (rW (fv 0)) ao))),⟨rfl,a,rfl,rfl,q⟩⟩
def tj (b r:Int):Bool:=decide ((Builtin.Int.intBits b:Int) - 1 <= r)
inductive xU (vs:List V) (H:Hp) (Q:VK) (E9:XK):Prop
 | mk (a b:Int) (z0:vs=[.int a,.int b]) (z2:Q (.bl (tj a b)) H):xU vs H Q E9
theorem DG (T:Txt K mg A):T.fits.Hz P w base 2 xU:=by
 refine T.fits.hs (k:=1) Bq (fun f cdv A' outer s H vs Q E' hr hu h=>?_)
 obtain ⟨a,b,rfl,q⟩:=h
 exact ⟨_,(ah (ax (pec F1 (aj (Ec T) hr (aa (fv 0) ae)) (fv 1)))),⟨a,rfl,q⟩⟩
def cJ (t:Pt):Bool:=decide (t.ci=11) || decide (t.ci=12)
def dY (N:Nat->Str) (hs ds ms:List Pt) (fl:Int) (e:Le):Bool:=cJ e.1 && !tj (iL N hs ds ms (aL e.1.no)) fl
def iU (N:Nat->Str) (hs ds ms:List Pt) (fl:Int):List Le:=(dw N ds ms).filter (dY N hs ds ms fl)
theorem Bm {hs ds ms:List Pt}{e:Le} (m:e ∈ dw N ds ms) (h:cJ e.1=true):aL e.1.no ∈ bf N hs ds ms:=by
 unfold bf
 refine List.mem_append_left _ (List.mem_append_right _ ?_)
 unfold dv
 refine List.mem_map.mpr ⟨e,List.mem_filter.mpr ⟨m,?_⟩,rfl⟩
 unfold uF
 unfold cJ at h
 rcases Bool.or_eq_true_iff.mp h with h | h <;> rw [h] <;> simp
inductive uB (A:Adr) (d:Nat) (vs:List V) (H:Hp) (Q:VK) (E9:XK):Prop
 | mk (N:Nat->Str) (X:Hp) (v:V) (fl:Int) (hs ds ms:List Pt) (z0:vs=[v,.int fl]) (z1:aq X H) (z2:gf A N X v hs ds ms) (z3:OkT N d hs ds ms)
  (z4:∀(R:Addr) (ys:List V) (H':Hp),aq H H'->H R=none->H' R=some (.lst ys)->Paired (fun e y=>aF A N X y e.1) (iU N hs ds ms fl) ys->Q (.ref R) H'):uB A d vs H Q E9
theorem wW (T:Txt K mg A) (d:Nat):T.kZ.Hz P w base (3 * d + 11) (uB A d):=by
 refine T.kZ.hs (k:=3 * d + 10) cX (fun f cdv A' outer s H vs Q E' hr hu h=>?_)
 obtain ⟨N,X,v,fl,hs,ds,ms,rfl,s0,pg,O,q⟩:=h
 refine ⟨_,(af (pst 2 cX.nd (pR (hj:=by omega) (Bo T d) hr (aa (fv 0) ae)))
  (af (pst 3 cX.nd (aZ ae))
  (af (cP PassesOwn.never rfl (bB (aj (hj:=by omega) (rS T d) hr (aa (fv 0) ae))) (gS rfl (bc (pgn (i:=4) cX.nd rfl) (bc (pgn (i:=5) cX.nd rfl) (bc (pgn (i:=6) cX.nd rfl) eO))))
   (ah (aV (PW.pt (pw_or (aM (pcB aH T.av (aa (fv 4) (aa (aO T.aJ.mg) ae))) (fun _=>rfl)) (pw_or1 (aM (pcB aH T.av (aa (fv 4) (aa (aO T.aA.mg) ae))) (fun _=>rfl)))))
    (ah (aV (dO (aM (aj (hj:=by omega) (DG T) hr (aa (px hu (fv 2) (aj (hj:=by omega) (oK T) hr (aa (au (fv 4) rfl) ae))) (aa (fv 1) ae))) (fun _=>rfl)))
     (ah (bo (gb (fv 3) (aa (fv 4) ae))))
     aE))
    aE)))
  (ah (ax (fv 3)))))),?_⟩
 refine ag fun M1 K1=>⟨N,X,v,hs,ds,ms,rfl,s0,pg,O,fun B H1 s1 hB eB=>K1 _ _ ?_⟩
 clear K1 M1
 try dsimp only
 refine ag fun M1 K1=>⟨Nat.zero_le _,fun R hR=>?_⟩
 obtain ⟨s2,eR⟩:=alc hR (HO.lst [])
 generalize upd H1 R _=H2 at s2 eR ⊢
 have t2:=s1.trans s2
 have hR0:H R=none:=aq.free s1 hR
 have BR:B ≠ R:=(fresh_ne hR eB).symm
 refine K1 _ _ ?_
 clear K1 M1
 try dsimp only
 refine ag fun M1 K1=>⟨N,X,v,hs,ds,ms,rfl,s0.trans t2,pg,O.l.ok,fun L zs H3 s3 hL eL ly=>?_⟩
 have LR:L ≠ R:=fresh_ne hL eR
 have nb:=O.l.ok.nb
 have oln:=O.l.ok.ln
 have npl:∀e ∈ dw N ds ms,cJ e.1=true->aL e.1.no ∈ bf N hs ds ms:=fun e m h=>Bm m h
 unfold iU at q
 generalize dw N ds ms=es at ly nb oln npl q
 have lly:=Paired.length ly
 refine Or.inl ⟨⟨_,SqL.of eL⟩,cu (K:=K) (xs:=zs) (fun i σ Hd=>∃(ws:List V) (v4 v5 v6:Option V),σ=[some v,some (.int fl),some (.ref B),some (.ref R),v4,v5,v6]/\Sm [R] H3 Hd/\Hd R=some (.lst ws)/\Paired (fun (e:Le) y=>aF A N X y e.1) ((es.take i).filter (dY N hs ds ms fl)) ws) ⟨[],none,none,none,rfl,Sm.refl _ _,s3 _ _ eR,.nil⟩ (fun i σ Hd _ ⟨_,_,_,_,_,z,_⟩=>SqL.of (z _ _ (fun m=>LR (List.mem_singleton.mp m)) eL)) ?_ ?_⟩
 ·rintro i y σ Hd hy ⟨ws,v4,v5,v6,rfl,sd,hRd,lw⟩
  obtain ⟨e,he,tp,u,rfl,etp,pa⟩:=bY ly hy
  have etp':=sd _ _ (fun m=>by rw [List.mem_singleton.mp m,s3 _ _ eR] at etp;cases etp) etp
  have sX:aq X Hd:=sd.same ((s0.trans t2).trans s3) (fun m hm=>by
   rw [List.mem_singleton.mp hm]
   exact aq.free s0 hR0)
  have me:=List.mem_of_getElem? he
  have ne:=nb e me
  have il:i < es.length:=(List.getElem?_eq_some_iff.mp he).1
  have eBd:Hd B=some (.dK (sk ((bf N hs ds ms).map Sum.inr) (bV (iL N hs ds ms)))):=sd _ _ (fun m=>BR (List.mem_singleton.mp m)) (s3 _ _ (s2 _ _ eB))
  have tk:es.take (i + 1)=es.take i ++ [e]:=by rw [List.take_add_one,he];rfl
  have llw:=Paired.length lw
  have fl1:=List.length_filter_le (dY N hs ds ms fl) (es.take i)
  rw [List.length_take] at fl1
  have no:dY N hs ds ms fl e=false->Paired (fun (e:Le) y=>aF A N X y e.1) ((es.take (i + 1)).filter (dY N hs ds ms fl)) ws:=fun h=>by
   rw [tk,List.filter_append,List.filter_cons_of_neg (by rw [h];exact Bool.false_ne_true),List.filter_nil,List.append_nil]
   exact lw
  have yes:dY N hs ds ms fl e=true->Paired (fun (e:Le) y=>aF A N X y e.1) ((es.take (i + 1)).filter (dY N hs ds ms fl)) (ws ++ [u]):=fun h=>by
   rw [tk,List.filter_append,List.filter_cons_of_pos h,List.filter_nil]
   exact Paired.two lw (.cons pa .nil)
  try dsimp only
  refine ⟨tp,_,rfl,SqT.of etp',rfl,_,_,rfl,_,_,rfl,_,_,rfl,rfl,?_⟩
  by_cases n:cJ e.1=true
  ·have gv:=tQ (f:=bV (iL N hs ds ms)) (List.mem_map_of_mem (f:=Sum.inr) (npl e me n))
   cases c:tj (iL N hs ds ms (aL e.1.no)) fl with
   | true =>
    have na:dY N hs ds ms fl e=false:=by unfold dY;rw [n,c];rfl
    by_cases c11:e.1.ci=11
    ·exact dZ T sX pa c11 (bU (d8 T sX pa ⟨_,rfl,ne.1,ne.2,dgk eBd gv ⟨iL N hs ds ms (aL e.1.no),fl,rfl,_,rfl,de (fun z=>absurd z (by rw [c];decide)) (fun _=>⟨_,_,_,_,rfl,sd,hRd,no na⟩)⟩⟩))
    ·have c12:e.1.ci=12:=by
      unfold cJ at n
      rw [decide_eq_false c11] at n
      exact of_decide_eq_true n
     exact b9 T sX pa c11 (aN (dZ T sX pa c12 (bU (d8 T sX pa ⟨_,rfl,ne.1,ne.2,dgk eBd gv ⟨iL N hs ds ms (aL e.1.no),fl,rfl,_,rfl,de (fun z=>absurd z (by rw [c];decide)) (fun _=>⟨_,_,_,_,rfl,sd,hRd,no na⟩)⟩⟩))))
   | false =>
    have ya:dY N hs ds ms fl e=true:=by unfold dY;rw [n,c];rfl
    have sm:=sd.trans (Sm.at (List.mem_singleton.mpr rfl) (.lst (ws ++ [u])))
    have sz1:ws.length < sizeLine:=aQ (by omega)
    by_cases c11:e.1.ci=11
    ·exact dZ T sX pa c11 (bU (d8 T sX pa ⟨_,rfl,ne.1,ne.2,dgk eBd gv ⟨iL N hs ds ms (aL e.1.no),fl,rfl,_,rfl,de (fun _=>⟨Or.inl ⟨rfl,_,SqL.of hRd⟩,_,_,_,rfl,rfl,hRd,sz1,_,_,_,_,rfl,sm,aw,yes ya⟩) (fun z=>absurd (by rw [c];rfl) z)⟩⟩))
    ·have c12:e.1.ci=12:=by
      unfold cJ at n
      rw [decide_eq_false c11] at n
      exact of_decide_eq_true n
     exact b9 T sX pa c11 (aN (dZ T sX pa c12 (bU (d8 T sX pa ⟨_,rfl,ne.1,ne.2,dgk eBd gv ⟨iL N hs ds ms (aL e.1.no),fl,rfl,_,rfl,de (fun _=>⟨Or.inl ⟨rfl,_,SqL.of hRd⟩,_,_,_,rfl,rfl,hRd,sz1,_,_,_,_,rfl,sm,aw,yes ya⟩) (fun z=>absurd (by rw [c];rfl) z)⟩⟩))))
  ·have na:dY N hs ds ms fl e=false:=by unfold dY;rw [Bool.eq_false_iff.mpr n];rfl
   unfold cJ at n
   have c11:e.1.ci ≠ 11:=fun z=>n (by rw [decide_eq_true z];rfl)
   have c12:e.1.ci ≠ 12:=fun z=>n (by rw [decide_eq_true z,Bool.or_true])
   exact b9 T sX pa c11 (aN (b9 T sX pa c12 (aN ⟨_,_,_,_,rfl,sd,hRd,no na⟩)))
 rintro σ Hd ⟨ws,v4,v5,v6,rfl,sd,hRd,lw⟩
 rw [show es.take zs.length=es by rw [<- lly];exact List.take_length] at lw
 exact K1 _ _ (q R ws Hd (sd.same (t2.trans s3) (fun m hm=>by rw [List.mem_singleton.mp hm];exact hR0)) hR0 hRd lw)
end
section
variable {P:Program}{w:World}{K:W.Frag}{mg:Str->Option Value}{base:Heap}{A:Adr}{N:Nat->Str}
seal PE PA PS PSs PT PW
def unP (ds:List Pt) (e:Le):Bool:=!(exP (knA b7 none ds) e.1).isSome
def unM (N:Nat->Str) (hs ds ms:List Pt) (fl:Int):List Int:=((iU N hs ds ms fl).filter (unP ds)).map fun e=>e.1.no
structure OkU (N:Nat->Str) (d:Nat) (hs ds ms:List Pt):Prop where
 t:OkT N d hs ds ms
 ck:∀e ∈ dw N ds ms,cOk (ds.map dIx) e.1/\dep e.1 <= d
 ab:∀fl,(iU N hs ds ms fl).length < 64
inductive q5 (A:Adr) (d:Nat) (vs:List V) (H:Hp) (Q:VK) (E9:XK):Prop
 | mk (N:Nat->Str) (X:Hp) (v:V) (fl:Int) (hs ds ms:List Pt) (z0:vs=[v,.int fl]) (z1:aq X H) (z2:gf A N X v hs ds ms) (z3:OkU N d hs ds ms)
  (z4:∀(R:Addr) (ns:List Int) (H':Hp),aq H H'->H R=none->H' R=some (.lst (ns.map V.int))->ns.Perm (unM N hs ds ms fl)->ns.Pairwise (· <= ·)->Q (.ref R) H'):q5 A d vs H Q E9
theorem vv (T:Txt K mg A) (d:Nat):T.wL.Hz P w base (3 * d + 12) (q5 A d):=by
 refine T.wL.hs (k:=3 * d + 11) rn (fun f cdv A' outer s H vs Q E' hr hu h=>?_)
 obtain ⟨N,X,v,fl,hs,ds,ms,rfl,s0,pg,O,q⟩:=h
 refine ⟨_,(af (pst 2 rn.nd (aj (hj:=by omega) (uC T d) hr (aa (fv 0) ae)))
  (ah (ax (pcB yr T.jO (aa (dm (N:=["row","known"]) (own:=1) (fr:=[2]) (bS.of (by kernel_rfl!)) rfl (bB (aj (hj:=by omega) (wW T d) hr (aa (fv 0) (aa (fv 1) ae)))) (fun b=>pgn (i:=0) (show List.Nodup (["row","known"]:List PySem.Str) by decide +kernel) rfl) (fun b=>tI (dO (aM (aj (hj:=by omega) (DW T d) hr (aa (fv 0) (aa (fv 1) ae))) (fun _=>rfl)))) (fun b=>au (fv 0) rfl)) ae))))),?_⟩
 refine ag fun M1 K1=>⟨N,X,v,hs,ds,ms,rfl,s0,pg,O.t.l.dk,fun D H1 s1 hD kD=>K1 _ _ ?_⟩
 clear K1 M1
 try dsimp only
 refine ⟨N,X,v,fl,hs,ds,ms,rfl,s0.trans s1,pg,O.t,fun L ys H2 s2 hL eL pr=>?_⟩
 have ab:=O.ab fl
 have ln:=Paired.length pr
 have t2:=s1.trans s2
 refine Or.inl ⟨⟨_,SqL.of eL⟩,dA (K:=K) (own:=1) (iU N hs ds ms fl) (unP ds) (fun e y _=>y=.int e.1.no) (SqL.of eL) ln.symm (aQ (by omega)) ?_ (fun _ _ _ _ _ h=>h) (fun _ _ _ _ _ _ _ h=>h) ?_⟩
 ·intro b i x e v0 H3 Nn Y hx he hv s3 no yes
  obtain ⟨u0,rfl⟩:∃u0,v0=[u0]:=by
   match v0,hv with
   | [u],_=>exact ⟨u,rfl⟩
  obtain ⟨e',he',pa⟩:=bY pr hx
  rw [he] at he'
  cases he'
  have sX:=(s0.trans t2).trans s3
  have ck:=O.ck e (List.mem_filter.mp (List.mem_of_getElem? he)).1
  refine ⟨N,X,x,D,e.1,ds.map dIx,knA b7 none ds,rfl,sX,pa,ck.2,ck.1,kD.same (s2.trans s3),_,rfl,?_⟩
  cases c:unP ds e with
  | true=>exact de (fun _=>d8 T sX pa (yes c [some x] _ _ rfl (aq.refl _) rfl)) (fun z=>absurd c z)
  | false=>exact de (fun z=>absurd (show unP ds e=true from z) (by rw [c];decide)) (fun _=>no c [some x] _ rfl (aq.refl _))
 ·intro R H3 zs hR s3 e3 pz
  have ez:=oR (f:=fun e:Le=>e.1.no) pz
  have fl2:=List.length_filter_le (unP ds) (iU N hs ds ms fl)
  exact ⟨R,unM N hs ds ms fl,rfl,SqL.of (by rw [e3,ez];rfl),by unfold unM;rw [List.length_map];omega,fun l ns a1 a2 hl=>q l ns _ ((t2.trans s3).trans (aq.upd hl _)) (aq.free (t2.trans s3) hl) aw a1 a2⟩
end
section
variable {P:Program}{w:World}{K:W.Frag}{mg:Str->Option Value}{base:Heap}{A:Adr}{N:Nat->Str}
seal PE PA PS PSs PT PW
def rsH (X H H':Hp):Hp:=fun b=>if ((X b).isSome || (H b).isNone)=true then H' b else none
theorem oZ {X H H':Hp}{b:Addr}{o:HO} (h:rsH X H H' b=some o):((X b).isSome || (H b).isNone)=true/\H' b=some o:=by
 unfold rsH at h
 split at h
 ·next c=>exact ⟨c,h⟩
 ·cases h
theorem uO {X H H':Hp}{b:Addr}{o:HO} (c:((X b).isSome || (H b).isNone)=true) (h:H' b=some o):rsH X H H' b=some o:=by
 unfold rsH
 rw [if_pos c]
 exact h
theorem sx {X H H':Hp}:aq (rsH X H H') H':=fun b o h=>(oZ h).2
theorem iZ {X H H' H'':Hp} (s:aq H' H''):aq (rsH X H H') (rsH X H H''):=fun b o h=>uO (oZ h).1 (s _ _ (oZ h).2)
theorem i4 {X H H1 H':Hp} (d:∀b,H1 b=none->H b=none):aq (rsH X H1 H') (rsH X H H'):=fun b o h=>by
 obtain ⟨c,e⟩:=oZ h
 refine uO ?_ e
 rcases Bool.or_eq_true_iff.mp c with c | c
 ·rw [c];rfl
 ·rw [d b (Option.isNone_iff_eq_none.mp c)];simp
theorem AE {X H H':Hp} (s:aq X H'):aq X (rsH X H H'):=fun b o h=>uO (by rw [h];rfl) (s _ _ h)
theorem eG {X H H':Hp}{b:Addr}{o:HO} (n:H b=none) (h:H' b=some o):rsH X H H' b=some o:=uO (by rw [n];simp) h
theorem v9 {X H H':Hp}{D:Addr}{o:HO} (n:X D=none) (e:H D ≠ none):aq (rsH X H H') (rsH X H (upd H' D o)):=fun b u h=>by
 obtain ⟨c,z⟩:=oZ h
 refine uO c (aR (fun y=>?_) z)
 rw [y,n] at c
 rcases Bool.or_eq_true_iff.mp c with c | c
 ·cases c
 ·exact e (Option.isNone_iff_eq_none.mp c)
theorem same_none {H H':Hp} (s:aq H H'):∀b,H' b=none->H b=none:=fun b h=>aq.free s h
def evI (ab:Int->Bool) (n l r one other:Int):Int × Int:=if ab n=true then (mx (l + one) (r + other) - one,mx (l + one) (r + other) - other) else (l,r)
def evL (ab:Int->Bool) (n l r st:Int):Int × Int:=if ab n=true then (mx (l + st) r - st,mx (l + st) r) else (l,r)
mutual
def evP (ab:Int->Bool) (kn:Nat->Int):Pt->Pt
 | .leaf n r=>.leaf n r
 | .iff n v l r f o=>.iff n v (evI ab n l r (cf kn f) (cf kn o)).1 (evI ab n l r (cf kn f) (cf kn o)).2 (dM ab kn f) (dM ab kn o)
 | .loop n t m l r b=>.loop n t m (evL ab n l r (cf kn b)).1 (evL ab n l r (cf kn b)).2 (dM ab kn b)
 | .bA n i ps b=>.bA n i ps (dM ab kn b)
def dM (ab:Int->Bool) (kn:Nat->Int):List Pt->List Pt
 | []=>[]
 | t :: ts=>evP ab kn t :: dM ab kn ts
end
theorem ur (ab:Int->Bool) (kn:Nat->Int):∀ts:List Pt,dM ab kn ts=ts.map (evP ab kn)
 | []=>by rw [dM];rfl
 | t :: ts=>by rw [dM,ur ab kn ts];rfl
mutual
def k5r:Pt->Prop
 | .leaf n r=>k5 (.leaf n r)=true
 | .iff _ _ _ _ f o=>fF f/\fF o
 | .loop _ _ _ _ _ b=>fF b
 | .bA _ _ _ _=>False
def fF:List Pt->Prop
 | []=>True
 | t :: ts=>k5r t/\fF ts
end
theorem vw {t:Pt}:∀{ts:List Pt},fF ts->t ∈ ts->k5r t
 | t' :: ts,h,m=>by
  unfold fF at h
  rcases List.mem_cons.mp m with rfl | m
  ·exact h.1
  ·exact vw h.2 m
def r8 (H:Hp) (D:Addr) (ab:Int->Bool):Prop:=∃kvs,H D=some (.dK kvs)/\∀n,(L2.b8 kvs (.inl n)).isSome=ab n
theorem r8.same {H H':Hp}{D:Addr}{ab:Int->Bool} (s:aq H H') (h:r8 H D ab):r8 H' D ab:=by
 obtain ⟨kvs,e,h⟩:=h
 exact ⟨kvs,s _ _ e,h⟩
inductive uA (A:Adr) (vs:List V) (H:Hp) (Q:VK) (E9:XK):Prop
 | mk (N:Nat->Str) (X:Hp) (v:V) (n:Int) (r:Lr) (z0:vs=[v]) (z1:aq X H) (z2:aF A N X v (.leaf n r)) (z3:k5 (.leaf n r)=true)
  (z4:∀(a:Addr) (H':Hp),aq H H'->H a=none->aF A N (rsH X H H') (.ref a) (.leaf n r)->Q (.ref a) H'):uA A vs H Q E9
theorem Bf (T:Txt K mg A):T.lj.Hz P w base 5 (uA A):=by
 have D_LastRow_init:=kX (P:=P) (w:=w) (mg:=mg) (base:=base) (A:=A) T.jw
 refine T.lj.hs (k:=4) qz (fun f cdv A' outer s H vs Q E' hr hu h=>?_)
 obtain ⟨N,X,v,n,r,rfl,s0,pa,hk,q⟩:=h
 refine ⟨_,(af (aV (aM (pcB aH T.av (aa (fv 0) (aa (aO T.gj.mg) ae))) (fun _=>rfl))
   (ah (ax (aX T.gj (qK T) hr (aa (au (fv 0) rfl) (aa (au (fv 0) rfl) (aa (au (fv 0) rfl) ae))))))
   aE)
  (af (aV (aM (pcB aH T.av (aa (fv 0) (aa (aO T.gg.mg) ae))) (fun _=>rfl))
   (ah (ax (aX T.gg (qM T) hr (aa (au (fv 0) rfl) (aa (au (fv 0) rfl) (aa (au (fv 0) rfl) (aa (au (fv 0) rfl) ae)))))))
   aE)
  (af (aV (aM (pcB aH T.av (aa (fv 0) (aa (aO T.bp.mg) ae))) (fun _=>rfl))
   (ah (ax (aX T.bp (j7 T) hr (aa (au (fv 0) rfl) (aa (au (fv 0) rfl) (aa (au (fv 0) rfl) ae))))))
   aE)
  (af (aV (aM (pcB aH T.av (aa (fv 0) (aa (aO T.eU.mg) ae))) (fun _=>rfl))
   (ah (ax (aX T.eU (qG T) hr (aa (au (fv 0) rfl) (aa (au (fv 0) rfl) (aa (au (fv 0) rfl) (aa (au (fv 0) rfl) ae)))))))
   aE)
  (af (aV (aM (pcB aH T.av (aa (fv 0) (aa (aO T.aW.mg) ae))) (fun _=>rfl))
   (ah (ax (aX T.aW (jt T) hr (aa (au (fv 0) rfl) (aa (au (fv 0) rfl) (aa (au (fv 0) rfl) ae))))))
   aE)
  (ah (ax (aX T.iF D_LastRow_init hr (aa (au (fv 0) rfl) ae))))))))),?_⟩
 have pa':=pa
 unfold aF at pa'
 obtain ⟨a,dx,p,rfl,h1,h2⟩:=pa'
 cases r with
 | snd h val =>
  refine ag fun M1 K1=>b9 T s0 pa (j:=5) (by simp [Pt.ci,Lr.ci]) (aN (K1 _ _ ?_))
  clear K1 M1
  refine ag fun M1 K1=>b9 T s0 pa (j:=6) (by simp [Pt.ci,Lr.ci]) (aN (K1 _ _ ?_))
  clear K1 M1
  refine ag fun M1 K1=>dZ T s0 pa (j:=7) rfl (bU (fdI (s0 _ _ h1) T.bp.cl T.cH rfl (fdI (s0 _ _ h1) T.bp.cl T.d5 rfl (fdI (s0 _ _ h1) T.bp.cl T.cW rfl (fun r6 dx6 hr6 hd_ hne_=>⟨_,_,_,_,_,_,rfl,rfl,hr6,hd_,fun H6 s6 hx=>⟨rfl,q r6 H6 s6 hr6 ?_⟩⟩)))))
  unfold aF
  exact ⟨r6,dx6,p,rfl,eG hr6 hx,fun o ho=>AE (s0.trans s6) _ _ (h2 o ho)⟩
 | call i ts =>
  refine ag fun M1 K1=>b9 T s0 pa (j:=5) (by simp [Pt.ci,Lr.ci]) (aN (K1 _ _ ?_))
  clear K1 M1
  refine ag fun M1 K1=>b9 T s0 pa (j:=6) (by simp [Pt.ci,Lr.ci]) (aN (K1 _ _ ?_))
  clear K1 M1
  refine ag fun M1 K1=>b9 T s0 pa (j:=7) (by simp [Pt.ci,Lr.ci]) (aN (K1 _ _ ?_))
  clear K1 M1
  refine ag fun M1 K1=>b9 T s0 pa (j:=8) (by simp [Pt.ci,Lr.ci]) (aN (K1 _ _ ?_))
  clear K1 M1
  refine ag fun M1 K1=>dZ T s0 pa (j:=9) rfl (bU (fdI (s0 _ _ h1) T.aW.cl T.bE rfl (fdI (s0 _ _ h1) T.aW.cl T.bM rfl (fdI (s0 _ _ h1) T.aW.cl T.cz rfl (fun r6 dx6 hr6 hd_ hne_=>⟨_,_,_,_,_,_,_,rfl,rfl,hr6,hd_,SqL.of (s0 _ _ (h2 _ rfl)),fun n6 H6 f6 s6 h6 hx=>⟨rfl,q r6 H6 s6 hr6 ?_⟩⟩)))))
  unfold aF
  exact ⟨r6,dx6,n6,rfl,eG hr6 hx,fun o ho=>by cases ho;exact eG f6 h6⟩
 | _=>cases hk
inductive oz (A:Adr) (d:Nat) (vs:List V) (H:Hp) (Q:VK) (E9:XK):Prop
 | mk (N:Nat->Str) (X:Hp) (v:V) (DA DK:Addr) (t:Pt) (idx:List Nat) (kn:Nat->Int) (ab:Int->Bool) (z0:vs=[v,.ref DA,.ref DK]) (z1:aq X H) (z3:aF A N X v t) (z4:dep t <= d) (z5:cOk idx t) (z9:lnO t) (z10:k5r t) (z6:lr N H DK idx fun i=>.int (kn i)) (z7:r8 H DA ab)
  (z8:∀(a:Addr) (H':Hp),aq H H'->H a=none->aF A N (rsH X H H') (.ref a) (evP ab kn t)->Q (.ref a) H'):oz A d vs H Q E9
inductive lV (A:Adr) (d c:Nat) (vs:List V) (H:Hp) (Q:VK) (E9:XK):Prop
 | mk (N:Nat->Str) (X:Hp) (v:V) (DA DK:Addr) (t:Pt) (idx:List Nat) (kn:Nat->Int) (ab:Int->Bool) (z0:vs=[v,.ref DA,.ref DK]) (z1:aq X H) (z3:aF A N X v t) (z4:dep t <= d) (z5:cOk idx t) (z9:lnO t) (z10:k5r t) (z6:lr N H DK idx fun i=>.int (kn i)) (z7:r8 H DA ab) (z11:t.ci=c)
  (z8:∀(a:Addr) (H':Hp),aq H H'->H a=none->aF A N (rsH X H H') (.ref a) (evP ab kn t)->Q (.ref a) H'):lV A d c vs H Q E9
inductive jL (A:Adr) (d:Nat) (vs:List V) (H:Hp) (Q:VK) (E9:XK):Prop
 | mk (N:Nat->Str) (X:Hp) (L DA DK:Addr) (xs:List V) (ts:List Pt) (idx:List Nat) (kn:Nat->Int) (ab:Int->Bool) (z0:vs=[.ref L,.ref DA,.ref DK]) (z1:aq X H) (z2:X L=some (.lst xs)) (z3:aD A N X xs ts) (z4:dy ts <= d) (z5:dG idx ts) (z12:ts.length <= 900) (z9:eT ts) (z10:fF ts) (z6:lr N H DK idx fun i=>.int (kn i)) (z7:r8 H DA ab)
  (z8:∀(R:Addr) (ys:List V) (H':Hp),aq H H'->H R=none->H' R=some (.lst ys)->aD A N (rsH X H H') ys (dM ab kn ts)->Q (.ref R) H'):jL A d vs H Q E9
theorem uX (T:Txt K mg A) (d j:Nat) (D_row_evened:T.iS.Hz P w base j (oz A d)):T.cL.Hz P w base (j + 1) (jL A d):=by
 refine T.cL.hs (k:=j) gu (fun f cdv A' outer s H vs Q E' hr hu h=>?_)
 obtain ⟨N,X,L,DA,DK,xs,ts,idx,kn,ab,rfl,s0,hL,pt,dp,ck,ln,lo,kr,hK,hA,q⟩:=h
 refine ⟨_,(ah (ax (dm (N:=["row","above","known"]) (own:=1) (fr:=[1,2]) (bS.of (by kernel_rfl!)) rfl (bB (fv 0)) (fun b=>pgn (i:=0) (show List.Nodup (["row","above","known"]:List PySem.Str) by decide +kernel) rfl) (fun b=>gz) (fun b=>aj (hj:=by omega) D_row_evened hr (aa (fv 0) (aa (fv 1) (aa (fv 2) ae))))))),?_⟩
 have lx:=pt.len
 refine Or.inl ⟨⟨_,SqL.of (s0 _ _ hL)⟩,lN (K:=K) (own:=1) (fun D i ys H'=>Paired (fun t y=>aF A N (rsH X (upd H D (.lst [])) H') y (evP ab kn t)) (ts.take i) ys) (SqL.of (s0 _ _ hL)) (aQ (by omega)) (fun D hD=>.nil) ?_ ?_⟩
 ·rintro b D i x v0 Hc ys Nn Y hx hv hD sc eD pr no yes
  obtain ⟨u0,rfl⟩:∃u0,v0=[u0]:=by
   match v0,hv with
   | [u],_=>exact ⟨u,rfl⟩
  obtain ⟨t,ht,pa⟩:=pt.get hx
  have mt:t ∈ ts:=List.mem_of_getElem? ht
  refine oz.mk N X x DA DK t idx kn ab rfl (s0.trans sc) pa (Nat.le_trans (jr mt) dp) (j1 ck mt) (pH lo mt) (vw kr mt) (hK.same sc) (hA.same sc) (fun a H' s1 ha p1=>yes [some x] _ _ rfl s1 ?_)
  rw [List.take_add_one,ht]
  have XD:X D=none:=aq.free s0 hD
  have up:∀o,aq (rsH X (upd H D (.lst [])) H') (rsH X (upd H D (.lst [])) (upd H' D o)):=fun o=>v9 XD (by rw [aw];simp)
  have dn:∀z,Hc z=none->upd H D (.lst []) z=none:=fun z h=>by
   by_cases e:z=D
   ·rw [e,eD] at h;cases h
   ·rw [aI e];exact aq.free sc h
  refine Paired.two (Paired.mR pr fun t y h=>aF.same (up _) _ _ (aF.same (iZ s1) _ _ h)) (.cons ?_ .nil)
  exact aF.same (up _) _ _ (aF.same (i4 dn) _ _ p1)
 ·intro D H' ys hD s1 e1 pr
  rw [show ts.take xs.length=ts by rw [lx];exact List.take_length] at pr
  refine q D ys H' s1 hD e1 ?_
  rw [ur]
  refine aD.of (eA _ (Paired.mR pr fun t y h=>aF.same (i4 fun z hz=>?_) _ _ h))
  by_cases e:z=D
  ·rw [e];exact hD
  ·rw [aI e] at hz;exact hz
end
section
variable {P:Program}{w:World}{K:W.Frag}{mg:Str->Option Value}{base:Heap}{A:Adr}{N:Nat->Str}
seal PE PA PS PSs PT PW
theorem Ci {H:Hp}{D:Addr}{ab:Int->Bool}{n:Int}{R:Bool->Hp->Prop} (h:r8 H D ab) (q:R (ab n) H):fIn K false (.int n) (.ref D) H (fun x H'=>blI x H' R) \/ ∃a o,V.ref D=.ref a/\kL H a (.int n) o/\blI (.bl o.isSome) H R:=by
 obtain ⟨kvs,e,k⟩:=h
 refine Or.inr ⟨D,_,rfl,kL.k (k:=.inl n) e,_,rfl,?_⟩
 rw [k n]
 exact q
theorem AL (T:Txt K mg A) (d j:Nat) (hj4:2 * d + 3 <= j) (h5:5 <= j) (D_rows_evened:T.cL.Hz P w base j (spN (jL A) d)):T.ku.Hz P w base (j + 1) (lV A d 11):=by
 refine T.ku.hs (k:=j) bW (fun f cdv A' outer s H vs Q E' hr hu h=>?_)
 obtain ⟨N,X,v,DA,DK,t,idx,kn,ab,rfl,s0,pa,dp,ck,lo,kr,hK,hA,ec,q⟩:=h
 refine ⟨_,(af (pst 3 bW.nd (au (fv 0) rfl))
  (af (pst 4 bW.nd (au (fv 0) rfl))
  (af (aV (ptc (B2 hu) (au (fv 0) rfl) (fv 1) ((by with_unfolding_all rfl)))
   (af (pst 5 bW.nd (aj (hj:=by omega) (pJ T d) hr (aa (au (fv 0) rfl) (aa (fv 2) ae))))
   (af (pst 6 bW.nd (aj (hj:=by omega) (pJ T d) hr (aa (au (fv 0) rfl) (aa (fv 2) ae))))
   (af (pst 7 bW.nd (pcB nK T.jF (aa (aG aU (fv 3) (fv 5)) (aa (aG aU (fv 4) (fv 6)) ae))))
   (af (pst 3 bW.nd (aG nH (fv 7) (fv 5)))
   (ah (pst 4 bW.nd (aG nH (fv 7) (fv 6))))))))
   aE)
  (af (pst 8 bW.nd (aj (hj:=by omega) D_rows_evened hr (aa (au (fv 0) rfl) (aa (fv 1) (aa (fv 2) ae)))))
  (ah (ax (aX (hj:=by omega) T.aJ (jb T) hr (aa (au (fv 0) rfl) (aa (au (fv 0) rfl) (aa (fv 8) (aa (aj (hj:=by omega) D_rows_evened hr (aa (au (fv 0) rfl) (aa (fv 1) (aa (fv 2) ae)))) (aa (fv 3) (aa (fv 4) ae))))))))))))),?_⟩
 cases t with
 | leaf n r=>cases r <;> cases ec
 | loop _ _ _ _ _ _=>cases ec
 | bA _ _ _ _=>cases ec
 | iff n val l r fs os =>
 unfold aF at pa
 obtain ⟨a,dx,p,pf,po,xf,xo,rfl,h1,h2,h3,h4,h5',h6⟩:=pa
 unfold dep at dp
 unfold cOk at ck
 unfold lnO at lo
 unfold k5r at kr
 unfold evP at q
 cases d with
 | zero=>omega
 | succ d =>
 refine ag fun M1 K1=>fdI (s0 _ _ h1) T.aJ.cl T.cN rfl (K1 _ _ ?_)
 clear K1 M1
 try dsimp only
 refine ag fun M1 K1=>fdI (s0 _ _ h1) T.aJ.cl T.cY rfl (K1 _ _ ?_)
 clear K1 M1
 try dsimp only
 refine ag fun M1 K1=>?_
 have tail:∀(H1:Hp) (l' r':Int) (v5 v6 v7:Option V),aq H H1->evI ab n l r (cf kn fs) (cf kn os)=(l',r')->M1 [some (.ref a),some (.ref DA),some (.ref DK),some (.int l'),some (.int r'),v5,v6,v7,none] H1:=by
  intro H1 l' r' v5 v6 v7 s1 ee
  refine K1 _ _ ?_
  have sX:=s0.trans s1
  rw [ee] at q
  try dsimp only
  refine ag fun M2 K2=>fdI (sX _ _ h1) T.aJ.cl T.bz rfl ⟨N,X,pf,DA,DK,xf,fs,idx,kn,ab,rfl,sX,h3,h5',by omega,ck.1,lo.1,lo.2.2.1,kr.1,hK.same s1,hA.same s1,fun R1 y1 H2 s2 n2 e2 p2=>K2 _ _ ?_⟩
  clear K2 M2
  have sX2:=sX.trans s2
  try dsimp only
  refine fdI (sX2 _ _ h1) T.aJ.cl T.b5 rfl (fdI (sX2 _ _ h1) T.aJ.cl T.cv rfl (fdI (sX2 _ _ h1) T.aJ.cl T.bG rfl ⟨N,X,po,DA,DK,xo,os,idx,kn,ab,rfl,sX2,h4,h6,by omega,ck.2,lo.2.1,lo.2.2.2,kr.2,hK.same (s1.trans s2),hA.same (s1.trans s2),fun R2 y2 H3 s3 n3 e3 p3 r6 dx6 hr6 hd_ hne_=>⟨_,_,_,_,_,_,_,_,_,_,_,rfl,rfl,hr6,hd_,SqL.of (s3 _ _ e2),SqL.of e3,fun n6 n7 H6 f6 f7 s6 h6' h7' hx=>⟨rfl,q r6 H6 (((s1.trans s2).trans s3).trans s6) (aq.free ((s1.trans s2).trans s3) hr6) ?_⟩⟩⟩))
  have t3:=(s1.trans s2).trans s3
  unfold aF
  refine ⟨r6,dx6,p,n6,n7,y1,y2,rfl,eG (aq.free t3 hr6) hx,AE ((s0.trans t3).trans s6) _ _ h2,eG (aq.free t3 f6) h6',eG (aq.free t3 f7) h7',aD.same ((i4 (same_none s1)).trans (iZ (s3.trans s6))) _ _ p2,?_⟩
  ·exact aD.same ((i4 (same_none (s1.trans s2))).trans (iZ s6)) _ _ p3
 refine fdI (s0 _ _ h1) T.aJ.cl T.b5 rfl (Ci hA ?_)
 cases c:ab n with
 | false =>
  refine aN (tail H l r _ _ _ (aq.refl _) ?_)
  unfold evI
  rw [c]
  rfl
 | true =>
  refine bU (ag fun M2 K2=>fdI (s0 _ _ h1) T.aJ.cl T.bz rfl ⟨N,X,pf,DK,xf,fs,idx,kn,rfl,s0,h3,h5',by omega,ck.1,lo.1,lo.2.2.1,hK,fun H1 s1=>K2 _ _ ?_⟩)
  clear K2 M2
  try dsimp only
  refine ag fun M2 K2=>fdI ((s0.trans s1) _ _ h1) T.aJ.cl T.bG rfl ⟨N,X,po,DK,xo,os,idx,kn,rfl,s0.trans s1,h4,h6,by omega,ck.2,lo.2.1,lo.2.2.2,hK.same s1,fun H2 s2=>K2 _ _ ?_⟩
  clear K2 M2
  try dsimp only
  refine ag fun M2 K2=>⟨_,_,rfl,K2 _ _ ?_⟩
  clear K2 M2
  try dsimp only
  refine ag fun M2 K2=>K2 _ _ ?_
  clear K2 M2
  try dsimp only
  refine tail H2 _ _ _ _ _ (s1.trans s2) ?_
  unfold evI mx
  rw [c]
  rfl
theorem uU (T:Txt K mg A) (d j:Nat) (hj4:2 * d + 3 <= j) (h5:5 <= j) (D_rows_evened:T.cL.Hz P w base j (spN (jL A) d)):T.gF.Hz P w base (j + 1) (lV A d 12):=by
 refine T.gF.hs (k:=j) cB (fun f cdv A' outer s H vs Q E' hr hu h=>?_)
 obtain ⟨N,X,v,DA,DK,t,idx,kn,ab,rfl,s0,pa,dp,ck,lo,kr,hK,hA,ec,q⟩:=h
 refine ⟨_,(af (pst 3 cB.nd (au (fv 0) rfl))
  (af (pst 4 cB.nd (au (fv 0) rfl))
  (af (aV (ptc (B2 hu) (au (fv 0) rfl) (fv 1) ((by with_unfolding_all rfl)))
   (af (pst 5 cB.nd (aj (hj:=by omega) (pJ T d) hr (aa (au (fv 0) rfl) (aa (fv 2) ae))))
   (af (pst 4 cB.nd (pcB nK T.jF (aa (aG aU (fv 3) (fv 5)) (aa (fv 4) ae))))
   (ah (pst 3 cB.nd (aG nH (fv 4) (fv 5))))))
   aE)
  (ah (ax (aX (hj:=by omega) T.aA (jy T) hr (aa (au (fv 0) rfl) (aa (au (fv 0) rfl) (aa (au (fv 0) rfl) (aa (aj (hj:=by omega) D_rows_evened hr (aa (au (fv 0) rfl) (aa (fv 1) (aa (fv 2) ae)))) (aa (fv 3) (aa (fv 4) ae)))))))))))),?_⟩
 cases t with
 | leaf n r=>cases r <;> cases ec
 | iff _ _ _ _ _ _=>cases ec
 | bA _ _ _ _=>cases ec
 | loop n th m l r b =>
 unfold aF at pa
 obtain ⟨a,dx,pb,xb,rfl,h1,h2,h3⟩:=pa
 unfold dep at dp
 unfold cOk at ck
 unfold lnO at lo
 unfold k5r at kr
 unfold evP at q
 cases d with
 | zero=>omega
 | succ d =>
 refine ag fun M1 K1=>fdI (s0 _ _ h1) T.aA.cl T.cx rfl (K1 _ _ ?_)
 clear K1 M1
 try dsimp only
 refine ag fun M1 K1=>fdI (s0 _ _ h1) T.aA.cl T.bQ rfl (K1 _ _ ?_)
 clear K1 M1
 try dsimp only
 refine ag fun M1 K1=>?_
 have tail:∀(H1:Hp) (l' r':Int) (v5:Option V),aq H H1->evL ab n l r (cf kn b)=(l',r')->M1 [some (.ref a),some (.ref DA),some (.ref DK),some (.int l'),some (.int r'),v5] H1:=by
  intro H1 l' r' v5 s1 ee
  refine K1 _ _ ?_
  have sX:=s0.trans s1
  rw [ee] at q
  try dsimp only
  refine fdI (sX _ _ h1) T.aA.cl T.bZ rfl (fdI (sX _ _ h1) T.aA.cl T.cV rfl (fdI (sX _ _ h1) T.aA.cl T.cy rfl (fdI (sX _ _ h1) T.aA.cl T.bK rfl ⟨N,X,pb,DA,DK,xb,b,idx,kn,ab,rfl,sX,h2,h3,by omega,ck.2.2,lo.1,lo.2,kr,hK.same s1,hA.same s1,fun R2 y2 H3 s3 n3 e3 p3 r6 dx6 hr6 hd_ hne_=>⟨_,_,_,_,_,_,_,_,_,_,rfl,rfl,hr6,hd_,SqL.of e3,fun n6 H6 f6 s6 h6' hx=>⟨rfl,q r6 H6 ((s1.trans s3).trans s6) (aq.free (s1.trans s3) hr6) ?_⟩⟩⟩)))
  unfold aF
  exact ⟨r6,dx6,n6,y2,rfl,eG (aq.free (s1.trans s3) hr6) hx,eG (aq.free (s1.trans s3) f6) h6',aD.same ((i4 (same_none s1)).trans (iZ s6)) _ _ p3⟩
 refine fdI (s0 _ _ h1) T.aA.cl T.bZ rfl (Ci hA ?_)
 cases c:ab n with
 | false =>
  refine aN (tail H l r _ (aq.refl _) ?_)
  unfold evL
  rw [c]
  rfl
 | true =>
  refine bU (ag fun M2 K2=>fdI (s0 _ _ h1) T.aA.cl T.bK rfl ⟨N,X,pb,DK,xb,b,idx,kn,rfl,s0,h2,h3,by omega,ck.2.2,lo.1,lo.2,hK,fun H1 s1=>K2 _ _ ?_⟩)
  clear K2 M2
  try dsimp only
  refine ag fun M2 K2=>⟨_,_,rfl,K2 _ _ ?_⟩
  clear K2 M2
  try dsimp only
  refine tail H1 _ _ _ s1 ?_
  unfold evL mx
  rw [c]
  rfl
theorem wV (T:Txt K mg A) (d j:Nat) (h5:5 <= j) (D_if_evened:T.ku.Hz P w base j (lV A d 11)) (D_loop_evened:T.gF.Hz P w base j (lV A d 12)):T.iS.Hz P w base (j + 1) (oz A d):=by
 refine T.iS.hs (k:=j) qD (fun f cdv A' outer s H vs Q E' hr hu h=>?_)
 obtain ⟨N,X,v,DA,DK,t,idx,kn,ab,rfl,s0,pa,dp,ck,lo,kr,hK,hA,q⟩:=h
 refine ⟨_,(af (aV (aM (pcB aH T.av (aa (fv 0) (aa (aO T.aJ.mg) ae))) (fun _=>rfl))
   (ah (ax (aj (hj:=by omega) D_if_evened hr (aa (fv 0) (aa (fv 1) (aa (fv 2) ae))))))
   aE)
  (af (aV (aM (pcB aH T.av (aa (fv 0) (aa (aO T.aA.mg) ae))) (fun _=>rfl))
   (ah (ax (aj (hj:=by omega) D_loop_evened hr (aa (fv 0) (aa (fv 1) (aa (fv 2) ae))))))
   aE)
  (ah (ax (aj (hj:=by omega) (Bf T) hr (aa (fv 0) ae)))))),?_⟩
 by_cases c11:t.ci=11
 ·exact ag fun M1 K1=>dZ T s0 pa c11 (bU ⟨N,X,v,DA,DK,t,idx,kn,ab,rfl,s0,pa,dp,ck,lo,kr,hK,hA,c11,q⟩)
 refine ag fun M1 K1=>b9 T s0 pa c11 (aN (K1 _ _ ?_))
 clear K1 M1
 by_cases c12:t.ci=12
 ·exact ag fun M1 K1=>dZ T s0 pa c12 (bU ⟨N,X,v,DA,DK,t,idx,kn,ab,rfl,s0,pa,dp,ck,lo,kr,hK,hA,c12,q⟩)
 refine ag fun M1 K1=>b9 T s0 pa c12 (aN (K1 _ _ ?_))
 cases t with
 | leaf n r =>
  unfold k5r at kr
  unfold evP at q
  exact ⟨N,X,v,n,r,rfl,s0,pa,kr,q⟩
 | iff _ _ _ _ _ _=>exact absurd rfl c11
 | loop _ _ _ _ _ _=>exact absurd rfl c12
 | bA _ _ _ _=>unfold k5r at kr;exact kr.elim
theorem oM (T:Txt K mg A):∀d,T.cL.Hz P w base (3 * d + 8) (jL A d)
 | 0=>uX T 0 7 (wV T 0 6 (by omega) (AL T 0 5 (by omega) (by omega) (T.cL.hs (k:=4) gu (fun _ _ _ _ _ _ _ _ _ _ _ h=>h.elim) (fun _ _ _ _ h=>h.elim))) (uU T 0 5 (by omega) (by omega) (T.cL.hs (k:=4) gu (fun _ _ _ _ _ _ _ _ _ _ _ h=>h.elim) (fun _ _ _ _ h=>h.elim))))
 | d + 1=>uX T (d + 1) (3 * d + 10) (wV T (d + 1) (3 * d + 9) (by omega) (AL T (d + 1) (3 * d + 8) (by omega) (by omega) (oM T d)) (uU T (d + 1) (3 * d + 8) (by omega) (by omega) (oM T d)))
end
section
variable {P:Program}{w:World}{K:W.Frag}{mg:Str->Option Value}{base:Heap}{A:Adr}{N:Nat->Str}
seal PE PA PS PSs PT PW
def EA:Pt->Bool
 | .leaf _ (.hand _ _)=>true
 | .leaf _ (.giv _ _ _)=>true
 | _=>false
inductive qj (A:Adr) (vs:List V) (H:Hp) (Q:VK) (E9:XK):Prop
 | mk (N:Nat->Str) (X:Hp) (v:V) (t:Pt) (z0:vs=[v]) (z1:aq X H) (z2:aF A N X v t) (z3:EA t=true)
  (z4:∀(a:Addr) (H':Hp),aq H H'->H a=none->aF A N (rsH X H H') (.ref a) t->Q (.ref a) H'):qj A vs H Q E9
theorem Bv (T:Txt K mg A):T.ng.Hz P w base 5 (qj A):=by
 refine T.ng.hs (k:=4) sI (fun f cdv A' outer s H vs Q E' hr hu h=>?_)
 obtain ⟨N,X,v,t,rfl,s0,pa,hk,q⟩:=h
 refine ⟨_,(af (aV (aM (pcB aH T.av (aa (fv 0) (aa (aO T.cI.mg) ae))) (fun _=>rfl))
   (ah (ax (aX T.cI (fU T) hr (aa (au (fv 0) rfl) (aa (au (fv 0) rfl) (aa (au (fv 0) rfl) ae))))))
   aE)
  (af (aV (aM (pcB aH T.av (aa (fv 0) (aa (aO T.bb.mg) ae))) (fun _=>rfl))
   (ah (ax (aX T.bb (fm T) hr (aa (au (fv 0) rfl) (aa (au (fv 0) rfl) (aa (au (fv 0) rfl) (aa (au (fv 0) rfl) ae)))))))
   aE)
  (af (aV (aM (pcB aH T.av (aa (fv 0) (aa (aO T.eX.mg) ae))) (fun _=>rfl))
   (ah (ax (aX T.eX (qE T) hr (aa (au (fv 0) rfl) (aa (au (fv 0) rfl) (aa (au (fv 0) rfl) ae))))))
   aE)
  (ah (ax (aX T.dC (qy T) hr (aa (au (fv 0) rfl) (aa (au (fv 0) rfl) (aa (au (fv 0) rfl) ae))))))))),?_⟩
 cases t with
 | leaf n r =>
  have pa':=pa
  unfold aF at pa'
  obtain ⟨a,dx,p,rfl,h1,h2⟩:=pa'
  cases r with
  | hand i rk =>
   refine ag fun M1 K1=>dZ T s0 pa (j:=1) rfl (bU (fdI (s0 _ _ h1) T.cI.cl T.dh rfl (fdI (s0 _ _ h1) T.cI.cl T.fW rfl (fdI (s0 _ _ h1) T.cI.cl T.gB rfl (fun r6 dx6 hr6 hd_ hne_=>⟨_,_,_,_,_,_,rfl,rfl,hr6,hd_,fun H6 s6 hx=>⟨rfl,q r6 H6 s6 hr6 ?_⟩⟩)))))
   unfold aF
   exact ⟨r6,dx6,p,rfl,eG hr6 hx,fun o ho=>by cases ho⟩
  | giv i rk z =>
   refine ag fun M1 K1=>b9 T s0 pa (j:=1) (by simp [Pt.ci,Lr.ci]) (aN (K1 _ _ ?_))
   clear K1 M1
   refine ag fun M1 K1=>dZ T s0 pa (j:=2) rfl (bU (fdI (s0 _ _ h1) T.bb.cl T.c8 rfl (fdI (s0 _ _ h1) T.bb.cl T.cS rfl (fdI (s0 _ _ h1) T.bb.cl T.dE rfl (fdI (s0 _ _ h1) T.bb.cl T.ft rfl (fun r6 dx6 hr6 hd_ hne_=>⟨_,_,_,_,_,_,_,rfl,rfl,hr6,hd_,fun H6 s6 hx=>⟨rfl,q r6 H6 s6 hr6 ?_⟩⟩))))))
   unfold aF
   exact ⟨r6,dx6,p,rfl,eG hr6 hx,fun o ho=>by cases ho⟩
  | _=>cases hk
 | _=>cases hk
inductive p5 (A:Adr) (d:Nat) (vs:List V) (H:Hp) (Q:VK) (E9:XK):Prop
 | mk (N:Nat->Str) (X:Hp) (v:V) (DA DK:Addr) (n:Int) (i:Nat) (ps:List Nat) (b:List Pt) (idx:List Nat) (kn:Nat->Int) (ab:Int->Bool) (z0:vs=[v,.ref DA,.ref DK]) (z1:aq X H) (z3:aF A N X v (.bA n i ps b)) (z4:dy b <= d) (z5:dG idx b) (z12:b.length <= 900) (z9:eT b) (z10:fF b) (z6:lr N H DK idx fun i=>.int (kn i)) (z7:r8 H DA ab)
  (z8:∀(a:Addr) (H':Hp),aq H H'->H a=none->aF A N (rsH X H H') (.ref a) (.bA n i ps (dM ab kn b))->Q (.ref a) H'):p5 A d vs H Q E9
theorem BL (T:Txt K mg A) (d:Nat):T.mE.Hz P w base (3 * d + 9) (p5 A d):=by
 refine T.mE.hs (k:=3 * d + 8) tq (fun f cdv A' outer s H vs Q E' hr hu h=>?_)
 obtain ⟨N,X,v,DA,DK,n,i,ps,b,idx,kn,ab,rfl,s0,pa,dp,ck,ln,lo,kr,hK,hA,q⟩:=h
 refine ⟨_,(ah (ax (aX (hj:=by omega) T.aY (jQ T) hr (aa (au (fv 0) rfl) (aa (au (fv 0) rfl) (aa (au (fv 0) rfl) (aa (aj (hj:=by omega) (oM T d) hr (aa (au (fv 0) rfl) (aa (fv 1) (aa (fv 2) ae)))) ae))))))),?_⟩
 unfold aF at pa
 obtain ⟨a,dx,pp,pb,xb,rfl,h1,h2,h3,h4⟩:=pa
 refine fdI (s0 _ _ h1) T.aY.cl T.dq rfl (fdI (s0 _ _ h1) T.aY.cl T.bJ rfl (fdI (s0 _ _ h1) T.aY.cl T.cU rfl (fdI (s0 _ _ h1) T.aY.cl T.bI rfl ⟨N,X,pb,DA,DK,xb,b,idx,kn,ab,rfl,s0,h3,h4,dp,ck,ln,lo,kr,hK,hA,fun R2 y2 H3 s3 n3 e3 p3 r6 dx6 hr6 hd_ hne_=>⟨_,_,_,_,_,_,_,_,_,rfl,rfl,hr6,hd_,SqL.of ((s0.trans s3) _ _ h2),SqL.of e3,fun n6 n7 H6 f6 f7 s6 h6 h7 hx=>⟨rfl,q r6 H6 (s3.trans s6) (aq.free s3 hr6) ?_⟩⟩⟩)))
 unfold aF
 exact ⟨r6,dx6,n6,n7,y2,rfl,eG (aq.free s3 hr6) hx,eG (aq.free s3 f6) h6,eG (aq.free s3 f7) h7,aD.same (iZ s6) _ _ p3⟩
structure OkE (N:Nat->Str) (d:Nat) (hs ds ms:List Pt):Prop where
 u:OkU N d hs ds ms
 hd:∀p ∈ hs,EA p=true
 db:∀p ∈ ds,(fL p).length <= 900/\eT (fL p)/\fF (fL p)/\dG (ds.map dIx) (fL p)
 ml:ms.length <= 900
 mlo:eT ms
 mk5:fF ms
 mck:dG (ds.map dIx) ms
def abF (N:Nat->Str) (hs ds ms:List Pt) (fl:Int) (n:Int):Bool:=decide (n ∈ (iU N hs ds ms fl).map fun e=>e.1.no)
theorem zO {H:Hp}:∀{es:List Le}{ys:List V},Paired (fun (e:Le) y=>∃t,y=V.ref t/\H t=some (.tup [.int e.1.no,.bl true])) es ys->∃ps:List Addr,ys=ps.map V.ref/\ps.length=es.length/\∀(i:Nat) t k v,ps[i]?=some t->(sk ((es.map fun e=>e.1.no).map Sum.inl) fun _=>.bl true)[i]?=some (k,v)->H t=some (.tup [kV k,v])
 | _,_,.nil=>⟨[],rfl,rfl,(fun i t k v h=>by simp at h)⟩
 | _,_,.cons h r=>by
  obtain ⟨t,rfl,h1⟩:=h
  obtain ⟨ps,e1,e2,e3⟩:=zO r
  refine ⟨t :: ps,by rw [e1];rfl,by simp [e2],fun i t' k v ht hk=>?_⟩
  cases i with
  | zero=>cases ht;cases hk;exact h1
  | succ i=>exact e3 i t' k v ht hk
theorem A3 {n:Int}{ns:List Int}:(Sum.inl n:Key) ∈ ns.map Sum.inl ↔ n ∈ ns:=by
 constructor
 ·intro h
  obtain ⟨m,a,e⟩:=List.mem_map.mp h
  exact Sum.inl.inj e ▸ a
 ·exact fun h=>List.mem_map_of_mem h
inductive nr (A:Adr) (d:Nat) (vs:List V) (H:Hp) (Q:VK) (E9:XK):Prop
 | mk (N:Nat->Str) (X:Hp) (v:V) (fl:Int) (hs ds ms:List Pt) (z0:vs=[v,.int fl]) (z1:aq X H) (z2:gf A N X v hs ds ms) (z3:OkE N d hs ds ms)
  (z4:∀(a:Addr) (H':Hp),aq H H'->gf A N H' (.ref a) hs (ds.map (evP (abF N hs ds ms fl) (knA cf 0 ds))) (dM (abF N hs ds ms fl) (knA cf 0 ds) ms)->Q (.ref a) H'):nr A d vs H Q E9
theorem u6 (T:Txt K mg A) (d:Nat):T.vN.Hz P w base (3 * d + 12) (nr A d):=by
 refine T.vN.hs (k:=3 * d + 11) iq (fun f cdv A' outer s H vs Q E' hr hu h=>?_)
 obtain ⟨N,X,v,fl,hs,ds,ms,rfl,s0,pg,O,q⟩:=h
 obtain ⟨a,dx,n0,n1,n2,x0,x1,x2,rfl,ha,e0,e1,e2,p0,p1,p2⟩:=id pg
 refine ⟨_,(af (pst 2 iq.nd (pcT lZ T.jX (aa (dm (N:=["row"]) (own:=1) (fr:=[]) (bS.of (by kernel_rfl!)) rfl (bB (aj (hj:=by omega) (wW T d) hr (aa (fv 0) (aa (fv 1) ae)))) (fun b=>pgn (i:=0) (show List.Nodup (["row"]:List PySem.Str) by decide +kernel) rfl) (fun b=>gz) (fun b=>bR (aa (au (fv 0) rfl) (aa eV ae)))) ae)))
  (af (pst 3 iq.nd (aj (hj:=by omega) (Bb T d) hr (aa (fv 0) ae)))
  (af (pE (j:=4) (N:=["head"]) (own:=1) (fr:=[]) (bS.of (by kernel_rfl!)) rfl iq.nd rfl (Or.inl rfl) (bB (au (fv 0) rfl)) (fun b=>pgn (i:=0) (show List.Nodup (["head"]:List PySem.Str) by decide +kernel) rfl) (fun b=>gz) (fun b=>aj (hj:=by omega) (Bv T) hr (aa (fv 0) ae)))
  (af (pE (j:=5) (N:=["deed","above","known"]) (own:=1) (fr:=[2,3]) (bS.of (by kernel_rfl!)) rfl iq.nd rfl (Or.inl rfl) (bB (au (fv 0) rfl)) (fun b=>pgn (i:=0) (show List.Nodup (["deed","above","known"]:List PySem.Str) by decide +kernel) rfl) (fun b=>gz) (fun b=>aj (hj:=by omega) (BL T d) hr (aa (fv 0) (aa (fv 1) (aa (fv 2) ae)))))
  (ah (ax (aX (hj:=by omega) T.aP (d7 T) hr (aa (fv 4) (aa (fv 5) (aa (aj (hj:=by omega) (oM T d) hr (aa (au (fv 0) rfl) (aa (fv 2) (aa (fv 3) ae)))) ae)))))))))),?_⟩
 have ab:=O.u.ab fl
 refine ag fun M1 K1=>⟨N,X,.ref a,fl,hs,ds,ms,rfl,s0,pg,O.u.t,fun L ys H1 s1 hL eL pr=>?_⟩
 have ln:=Paired.length pr
 refine Or.inl ⟨⟨_,SqL.of eL⟩,dA (K:=K) (own:=1) (iU N hs ds ms fl) (fun _=>true) (fun e y H=>∃t,y=V.ref t/\H t=some (.tup [.int e.1.no,.bl true])) (SqL.of eL) ln.symm (aQ (by omega)) ?_ ?_ ?_ ?_⟩
 ·intro b i x e v0 H3 Nn Y hx he hv s3 no yes
  obtain ⟨u0,rfl⟩:∃u0,v0=[u0]:=by
   match v0,hv with
   | [u],_=>exact ⟨u,rfl⟩
  obtain ⟨e',he',pa⟩:=bY pr hx
  rw [he] at he'
  cases he'
  exact d8 T ((s0.trans s1).trans s3) pa (show _/\∀p,H3 p=none->_ from ⟨by show 2 <= sizeLine;decide,fun tp htp=>yes rfl [some x] _ _ rfl (aq.upd htp _) ⟨tp,rfl,aw⟩⟩)
 ·rintro e y H1 H2 s1 ⟨t,e1,h1⟩
  exact ⟨t,e1,s1 _ _ h1⟩
 ·rintro e y H1 D ys zs hD ⟨t,e1,h1⟩
  exact ⟨t,e1,aR (fun z=>by rw [z,hD] at h1;cases h1) h1⟩
 intro L2' H2 zs hL2 s2 eL2 pz
 rw [dI] at pz
 obtain ⟨ps,rfl,k1,k2⟩:=zO pz
 have kl:(sk (((iU N hs ds ms fl).map fun e=>e.1.no).map Sum.inl) fun _=>.bl true).length=(iU N hs ds ms fl).length:=by rw [wt,List.length_map,List.length_map]
 refine ⟨L2',ps,_,rfl,SqL.of eL2,by omega,by omega,fun i t k v ht hk=>SqT.of (k2 i t k v ht hk),fun DA hDA=>?_⟩
 obtain ⟨s3,eDA⟩:=alc hDA (HO.dK (bC [] (sk (((iU N hs ds ms fl).map fun e=>e.1.no).map Sum.inl) fun _=>.bl true)))
 generalize upd H2 DA _=H3 at s3 eDA ⊢
 rw [show bC [] (sk (((iU N hs ds ms fl).map fun e=>e.1.no).map Sum.inl) fun _=>.bl true)=sk (Af (((iU N hs ds ms fl).map fun e=>e.1.no).map Sum.inl)) fun _=>.bl true from ub _ _ []] at eDA
 have hA3:r8 H3 DA (abF N hs ds ms fl):=⟨_,eDA,fun n=>by
  rw [Ca]
  unfold abF
  exact decide_eq_decide.mpr (AU.trans A3)⟩
 generalize abF N hs ds ms fl=abf at hA3 q
 have t3:=(s1.trans s2).trans s3
 refine K1 _ _ ?_
 clear K1 M1
 try dsimp only
 refine ag fun M1 K1=>⟨N,X,.ref a,hs,ds,ms,rfl,s0.trans t3,pg,O.u.t.l.dk,fun p m=>⟨(O.db p m).1,(O.db p m).2.1⟩,fun DK H4 s4 hDK hK=>?_⟩
 generalize knA cf 0 ds=kn at hK q
 have t4:=t3.trans s4
 have sX4:=s0.trans t4
 have hA4:=hA3.same s4
 have hl:=O.u.t.l.ok.hl
 have dln:=O.u.t.l.dk.ln
 have l0:=p0.len
 have l1:=p1.len
 refine K1 _ _ ?_
 clear K1 M1
 try dsimp only
 refine ag fun M1 K1=>fdI (sX4 _ _ ha) T.aP.cl T.cQ rfl (Or.inl ⟨⟨_,SqL.of (sX4 _ _ e0)⟩,lN (K:=K) (own:=1) (fun D i ys H'=>Paired (fun t y=>aF A N (rsH X (upd H4 D (.lst [])) H') y t) (hs.take i) ys) (SqL.of (sX4 _ _ e0)) (aQ (by omega)) (fun D hD=>.nil) ?_ ?_⟩)
 ·rintro b D i x v0 Hc ys Nn Y hx hv hD sc eD pr no yes
  obtain ⟨u0,rfl⟩:∃u0,v0=[u0]:=by
   match v0,hv with
   | [u],_=>exact ⟨u,rfl⟩
  obtain ⟨t,ht,pa⟩:=p0.get hx
  refine qj.mk N X x t rfl (sX4.trans sc) pa (O.hd t (List.mem_of_getElem? ht)) (fun a H' s1 ha p1=>yes [some x] _ _ rfl s1 ?_)
  rw [List.take_add_one,ht]
  have XD:X D=none:=aq.free sX4 hD
  have up:∀o,aq (rsH X (upd H4 D (.lst [])) H') (rsH X (upd H4 D (.lst [])) (upd H' D o)):=fun o=>v9 XD (by rw [aw];simp)
  have dn:∀z,Hc z=none->upd H4 D (.lst []) z=none:=fun z h=>by
   by_cases e:z=D
   ·rw [e,eD] at h;cases h
   ·rw [aI e];exact aq.free sc h
  refine Paired.two (Paired.mR pr fun t y h=>aF.same (up _) _ _ (aF.same (iZ s1) _ _ h)) (.cons ?_ .nil)
  exact aF.same (up _) _ _ (aF.same (i4 dn) _ _ p1)
 intro LH H5 yh hLH s5 eLH ph
 rw [show hs.take x0.length=hs by rw [l0];exact List.take_length] at ph
 refine K1 _ _ ?_
 clear K1 M1
 have ph':aD A N H5 yh hs:=aD.of (by simpa using eA (F:=fun t y=>aF A N H5 y t) id (Paired.mR ph fun t y h=>aF.same sx _ _ h))
 have t5:=t4.trans s5
 have sX5:=s0.trans t5
 try dsimp only
 refine ag fun M1 K1=>fdI (sX5 _ _ ha) T.aP.cl T.a8 rfl (Or.inl ⟨⟨_,SqL.of (sX5 _ _ e1)⟩,lN (K:=K) (own:=1) (fun D i ys H'=>Paired (fun t y=>aF A N (rsH X (upd H5 D (.lst [])) H') y (evP abf kn t)) (ds.take i) ys) (SqL.of (sX5 _ _ e1)) (aQ (by omega)) (fun D hD=>.nil) ?_ ?_⟩)
 ·rintro b D i x v0 Hc ys Nn Y hx hv hD sc eD pr no yes
  obtain ⟨u0,rfl⟩:∃u0,v0=[u0]:=by
   match v0,hv with
   | [u],_=>exact ⟨u,rfl⟩
  obtain ⟨t,ht,pa⟩:=p1.get hx
  have mt:=List.mem_of_getElem? ht
  have dt:=O.u.t.l.dk.bA t mt
  have db:=O.db t mt
  have ddp:=O.u.t.l.dk.dp t mt
  cases t with
  | bA n i' ps' b' =>
   refine p5.mk N X x DA DK n i' ps' b' (ds.map dIx) kn abf rfl (sX5.trans sc) pa ddp db.2.2.2 db.1 db.2.1 db.2.2.1 (hK.same (s5.trans sc)) (hA4.same (s5.trans sc)) (fun a H' s1 ha p1=>yes [some x] _ _ rfl s1 ?_)
   rw [List.take_add_one,ht]
   have XD:X D=none:=aq.free sX5 hD
   have up:∀o,aq (rsH X (upd H5 D (.lst [])) H') (rsH X (upd H5 D (.lst [])) (upd H' D o)):=fun o=>v9 XD (by rw [aw];simp)
   have dn:∀z,Hc z=none->upd H5 D (.lst []) z=none:=fun z h=>by
    by_cases e:z=D
    ·rw [e,eD] at h;cases h
    ·rw [aI e];exact aq.free sc h
   refine Paired.two (Paired.mR pr fun t y h=>aF.same (up _) _ _ (aF.same (iZ s1) _ _ h)) (.cons ?_ .nil)
   rw [show evP abf kn (.bA n i' ps' b')=.bA n i' ps' (dM abf kn b') by rw [evP]]
   exact aF.same (up _) _ _ (aF.same (i4 dn) _ _ p1)
  | _=>exact dt.elim
 intro LD H6 yd hLD s6 eLD pd
 rw [show ds.take x1.length=ds by rw [l1];exact List.take_length] at pd
 refine K1 _ _ ?_
 clear K1 M1
 have pd':aD A N H6 yd (ds.map (evP abf kn)):=aD.of (eA (F:=fun t y=>aF A N H6 y t) (evP abf kn) (Paired.mR pd fun t y h=>aF.same sx _ _ h))
 have t6:=t5.trans s6
 have sX6:=s0.trans t6
 try dsimp only
 exact fdI (sX6 _ _ ha) T.aP.cl T.ba rfl ⟨N,X,n2,DA,DK,x2,ms,ds.map dIx,kn,abf,rfl,sX6,e2,p2,O.u.t.l.ok.main,O.mck,O.ml,O.mlo,O.mk5,hK.same (s5.trans s6),hA4.same (s5.trans s6),fun LM ym H7 s7 hLM eLM pm r6 dx6 hr6 hd_ hne_=>⟨_,_,_,_,_,_,_,_,_,rfl,rfl,hr6,hd_,SqL.of ((s6.trans s7) _ _ eLH),SqL.of (s7 _ _ eLD),SqL.of eLM,fun n6 n7 n8 H8 f6 f7 f8 s8 h6 h7 h8 hx=>⟨rfl,q r6 H8 (t6.trans (s7.trans s8)) ⟨r6,dx6,n6,n7,n8,yh,yd,ym,rfl,hx,h6,h7,h8,aD.same ((s6.trans s7).trans s8) _ _ ph',aD.same (s7.trans s8) _ _ pd',aD.same (sx.trans s8) _ _ pm⟩⟩⟩⟩
end
section
variable {N:Nat->Str}
theorem tF:∀(l:List Lk) (cs:List Str),∃r,l.foldl stA cs=cs ++ r
 | [],cs=>⟨[],by simp⟩
 | k :: l,cs=>by
  obtain ⟨r,e⟩:=tF l (stA cs k)
  rw [List.foldl_cons,e]
  unfold stA
  split
  ·exact ⟨r,rfl⟩
  ·exact ⟨k.to :: r,by simp⟩
theorem B4:∀(l:List Lk) (cs:List Str) (k:Lk),k ∈ l->k.to ∈ l.foldl stA cs
 | j :: l,cs,k,m=>by
  rw [List.foldl_cons]
  rcases List.mem_cons.mp m with e | m
  ·subst e
   obtain ⟨r,e⟩:=tF l (stA cs k)
   rw [e]
   refine List.mem_append_left _ ?_
   unfold stA
   split
   ·next h=>exact h
   ·simp
  ·exact B4 l _ k m
theorem BY:∀(l:List Lk) (cs:List Str),cs.Nodup->(l.foldl stA cs).Nodup
 | [],cs,h=>h
 | k :: l,cs,h=>by
  rw [List.foldl_cons]
  refine BY l _ ?_
  unfold stA
  split
  ·exact h
  ·next n=>exact List.nodup_append.mpr ⟨h,by simp,fun a ma b mb e=>by rw [List.mem_singleton] at mb;exact n (mb ▸ e ▸ ma)⟩
theorem AA {ls:List Lk}{pls:List Str} (to:∀l ∈ ls,l.to ∈ pls):∀(l:List Lk),(∀k ∈ l,k ∈ ls)->∀cs:List Str,(∀x ∈ cs,x ∈ pls)->∀x ∈ l.foldl stA cs,x ∈ pls
 | [],_,cs,h=>h
 | k :: l,hl,cs,h=>by
  rw [List.foldl_cons]
  refine AA to l (fun k' m=>hl k' (List.mem_cons_of_mem _ m)) _ fun x hx=>?_
  unfold stA at hx
  split at hx
  ·exact h x hx
  ·rcases List.mem_append.mp hx with m | m
   ·exact h x m
   ·rw [List.mem_singleton.mp m]
    exact to k (hl k List.mem_cons_self)
theorem vF {ls:List Lk}:∀(n i:Nat) (cs:List Str),∀x ∈ cs,x ∈ fD ls n i cs
 | 0,_,_,x,h=>h
 | n + 1,i,cs,x,h=>by
  unfold fD
  split
  ·exact h
  ·next y _ =>
   obtain ⟨r,e⟩:=tF (fY ls y) cs
   refine vF n (i + 1) _ x ?_
   rw [e]
   exact List.mem_append_left _ h
theorem oV {ls:List Lk}{pls:List Str} (to:∀l ∈ ls,l.to ∈ pls):∀(n i:Nat) (cs:List Str),cs.Nodup->(∀x ∈ cs,x ∈ pls)->pls.length <= n + i->(∀(j:Nat) x,j < i->cs[j]?=some x->∀l ∈ ls,l.fr=x->l.to ∈ cs)->∀l ∈ ls,l.fr ∈ fD ls n i cs->l.to ∈ fD ls n i cs
 | 0,i,cs,nd,sb,le,h,l,ml,m=>by
  obtain ⟨j,hj⟩:=List.getElem?_of_mem m
  have jl:=(List.getElem?_eq_some_iff.mp hj).1
  have:=lX nd sb
  exact h j _ (by have:fD ls 0 i cs=cs:=rfl;rw [this] at jl;omega) hj l ml rfl
 | n + 1,i,cs,nd,sb,le,h,l,ml,m=>by
  unfold fD at m ⊢
  split at m
  ·next hn =>
   obtain ⟨j,hj⟩:=List.getElem?_of_mem m
   have jl:=(List.getElem?_eq_some_iff.mp hj).1
   have:=List.getElem?_eq_none_iff.mp hn
   exact h j _ (by omega) hj l ml rfl
  ·next y hy =>
   obtain ⟨r,er⟩:=tF (fY ls y) cs
   have il:=(List.getElem?_eq_some_iff.mp hy).1
   refine oV to n (i + 1) ((fY ls y).foldl stA cs) (BY _ _ nd) (AA to (fY ls y) (fun k hk=>(List.mem_filter.mp hk).1) _ sb) (by omega) (fun j x hj hx k mk ek=>?_) l ml m
   by_cases ji:j < i
   ·rw [er,List.getElem?_append_left (by omega)] at hx
    rw [er]
    exact List.mem_append_left _ (h j x ji hx k mk ek)
   ·have:j=i:=by omega
    subst this
    rw [er,List.getElem?_append_left il,hy] at hx
    cases hx
    exact B4 _ _ k (List.mem_filter.mpr ⟨mk,decide_eq_true ek⟩)
theorem oO {r p:Int} (hp:1 * 2 ^ r.toNat=p) (h0:Builtin.bitOr 0 p=p) (h1:Builtin.bitOr p p=p):∀(cs:List Str) (g:Str->Int),(∀x,g x=0 \/ g x=p)->∀x,(cs.foldl (bOr r) g) x=(if x ∈ cs then p else g x)
 | [],g,_,x=>by simp
 | c :: cs,g,hg,x=>by
  have e:∀y,bOr r g c y=if y=c then p else g y:=fun y=>by
   unfold bOr
   rw [hp]
   split
   ·rcases hg c with h | h <;> rw [h]
    ·exact h0
    ·exact h1
   ·rfl
  rw [List.foldl_cons,oO hp h0 h1 cs (bOr r g c) (fun y=>by rw [e y];split;exact .inr rfl;exact hg y) x,e x]
  by_cases a:x ∈ cs
  ·rw [if_pos a,if_pos (List.mem_cons_of_mem _ a)]
  ·rw [if_neg a]
   by_cases b:x=c
   ·rw [if_pos b,if_pos (by rw [b];exact List.mem_cons_self)]
   ·rw [if_neg b,if_neg fun m=>by rcases List.mem_cons.mp m with z | z;exact b z;exact a z]
theorem ow {hs ds ms:List Pt}{x:Str}{r:Int} (hr:r=0 \/ r=1 \/ r=2) (es:iV N hs=[(x,r)]) (y:Str):iL N hs ds ms y=if y ∈ qu N hs ds ms r then 2 ^ r.toNat else 0:=by
 unfold iL
 rw [es]
 rcases hr with rfl | rfl | rfl
 ·show ((qu N hs ds ms 0).foldl (bOr 0) fun _=>0) y=_
  rw [oO (p:=1) (by decide) (by decide) (by decide) _ _ fun _=>.inl rfl]
  rfl
 ·show ((qu N hs ds ms 1).foldl (bOr 1) fun _=>0) y=_
  rw [oO (p:=2) (by decide) (by decide) (by decide) _ _ fun _=>.inl rfl]
  rfl
 ·show ((qu N hs ds ms 2).foldl (bOr 2) fun _=>0) y=_
  rw [oO (p:=4) (by decide) (by decide) (by decide) _ _ fun _=>.inl rfl]
  rfl
theorem ox {r fl:Int} (hr:r=0 \/ r=1 \/ r=2):tj (2 ^ r.toNat) fl=decide (r <= fl):=by
 unfold tj
 rcases hr with rfl | rfl | rfl <;> rfl
theorem o6 {d:Nat}{hs ds ms:List Pt}{x:Str}{r:Int} (O:OkT N d hs ds ms) (es:iV N hs=[(x,r)]):x ∈ qu N hs ds ms r/\∀l ∈ bx N ds ms,l.fr ∈ qu N hs ds ms r->l.to ∈ qu N hs ds ms r:=by
 have e1:srcOf N hs r=[x]:=by
  unfold srcOf
  rw [es]
  simp
 have mx:x ∈ bf N hs ds ms:=O.ss (x,r) (by rw [es];exact List.mem_cons_self)
 unfold qu
 rw [e1]
 exact ⟨vF _ _ _ x List.mem_cons_self,fun l ml h=>oV O.to _ 0 [x] (by simp) (fun y hy=>by rw [List.mem_singleton.mp hy];exact mx) (by omega) (fun j y hj=>absurd hj (Nat.not_lt_zero _)) l ml h⟩
end
section
variable {P:Program}{w:World}{K:W.Frag}{mg:Str->Option Value}{base:Heap}{A:Adr}{N:Nat->Str}
seal PE PA PS PSs PT PW
def cellAt (ns:List Int) (k:Int):Int:=if k < (ns.length:Int) then ns.getD k.toNat 0 else 0
theorem Dd {ns:List Int}{k:Int} (h0:0 <= k) (h1:k < (ns.length:Int)):atI (ns.map V.int) k=some (.int (ns.getD k.toNat 0)):=by
 have hk:k.toNat < ns.length:=by omega
 have e:=oA (xs:=ns.map V.int) (j:=k.toNat) (v:=.int (ns.getD k.toNat 0)) (by rw [List.getElem?_map,List.getElem?_eq_getElem hk,List.getD_eq_getElem?_getD,List.getElem?_eq_getElem hk];rfl)
 rw [show ((k.toNat:Nat):Int)=k by omega] at e
 exact e
inductive xI (K:W.Frag) (vs:List V) (H:Hp) (Q:VK) (E9:XK):Prop
 | mk (a:Addr) (ns:List Int) (k:Int) (z0:vs=[.ref a,.int k]) (z1:SqL K H a (ns.map V.int)) (z2:0 <= k) (z3:Q (.int (cellAt ns k)) H):xI K vs H Q E9
theorem jK (T:Txt K mg A):T.j8.Hz P w base 1 (xI K):=by
 refine T.j8.hs pB (fun f cdv A' outer s H vs Q E hr hu h=>?_)
 obtain ⟨a,ns,k,rfl,hS,h0,q⟩:=h
 unfold cellAt at q
 have el:(((ns.map V.int).length:Nat):Int)=(ns.length:Int):=by rw [List.length_map]
 refine ⟨_,(af (aV (ptc Eu (fv 1) (pcB iP T.jf (aa (fv 0) ae)))
   (ah (ax (px hu (fv 0) (fv 1))))
   aE)
  (ah (ax ao))),?_⟩
 refine Or.inl ⟨_,_,rfl,Or.inl ⟨_,hS,rfl⟩,_,rfl,de (fun c=>?_) (fun c=>?_)⟩
 ·have c':k < (((ns.map V.int).length:Nat):Int):=of_decide_eq_true c
  rw [el] at c'
  rw [if_pos c'] at q
  exact lix hS (Dd h0 c') q
 ·have c':¬ k < (((ns.map V.int).length:Nat):Int):=of_decide_eq_false (Bool.eq_false_iff.mpr c)
  rw [el] at c'
  rw [if_neg c'] at q
  exact q
def N5 (i:Nat):Str:=if i=0 then "ann" else if i=1 then "x" else "f"
def bD (at':Int) (j:Nat):Pt:=.leaf (at' + (j:Int)) (.snd 0 (.one (.i (at' + (j:Int)))))
def cG (at':Int) (k:Nat):List Pt:=(List.range k).map (bD at')
inductive uJ (A:Adr) (vs:List V) (H:Hp) (Q:VK) (E9:XK):Prop
 | mk (at':Int) (k:Nat) (z0:vs=[.int at',.int k]) (z1:k <= 6)
  (z2:∀(R:Addr) (ys:List V) (H':Hp),aq H H'->H R=none->H' R=some (.lst ys)->aD A N5 H' ys (cG at' k)->Q (.ref R) H'):uJ A vs H Q E9
theorem BP {H:Hp}{y:V}{at':Int}{j:Nat}{D:Addr}{ys zs:List V} (hD:H D=some (.lst ys)) (h:aF A N5 H y (bD at' j)):aF A N5 (upd H D (.lst zs)) y (bD at' j):=by
 unfold bD aF at h ⊢
 obtain ⟨a,dx,p,e,h1,h2⟩:=h
 refine ⟨a,dx,p,e,aR (fun z=>by rw [z,hD] at h1;cases h1) h1,fun o ho=>?_⟩
 have:=h2 o ho
 refine aR (fun z=>?_) this
 rw [z,hD] at this
 cases ho
 cases this
theorem rK (T:Txt K mg A):T.mY.Hz P w base 5 (uJ A):=by
 refine T.mY.hs (k:=4) so (fun f cdv A' outer s H vs Q E' hr hu h=>?_)
 obtain ⟨at',k,rfl,hk,q⟩:=h
 refine ⟨_,(ah (ax (dm (N:=["_law_k","_law_at"]) (own:=1) (fr:=[0]) (bS.of (by kernel_rfl!)) rfl (rG rfl T.lU (aa (fv 1) ae)) (fun b=>pgn (i:=0) (show List.Nodup (["_law_k","_law_at"]:List PySem.Str) by decide +kernel) rfl) (fun b=>gz) (fun b=>aX T.bp (j7 T) hr (aa (aG aU (fv 1) (fv 0)) (aa br (aa (bR (aa (aG aU (fv 1) (fv 0)) ae)) ae))))))),⟨_,rfl,by omega,by omega,?_⟩⟩
 rw [Int.toNat_natCast]
 refine zZ (n:=k) (x:=fun i=>.int (0 + (i:Int))) (fun j y H=>aF A N5 H y (bD at' j)) (aQ (by omega)) (fun _ _=>Nat.le_refl _) (fun _ _ h _=>h) (fun _ _ _ _ _ _ y=>y) (fun b j H1 G hj s1 kk=>?_) (fun j y H1 H2 s1 h=>aF.same s1 _ _ h) (fun j y H1 D ys zs hD h=>BP hD h) (fun D H1 ys hD s1 e1 ly hy=>?_)
 ·refine ⟨by show 1 <= sizeLine;decide,fun tp htp=>?_⟩
  have st:=aq.upd htp (.tup [V.int (at' + (0 + (j:Int)))])
  refine fun r6 dx6 hr6 hd_ hne_=>⟨_,_,_,_,_,_,rfl,rfl,hr6,hd_,fun H6 s6 hx=>⟨rfl,kk _ H6 (st.trans s6) ?_⟩⟩
  unfold bD aF
  have ej:at' + (0 + (j:Int))=at' + (j:Int):=by omega
  refine ⟨r6,dx6,tp,rfl,?_,fun o ho=>?_⟩
  ·rw [<- ej];exact hx
  ·cases ho
   rw [s6 _ _ aw,ej]
   rfl
 ·refine q D ys H1 s1 hD e1 (aD.of (ib (by unfold cG;rw [List.length_map,List.length_range,ly]) fun j t y ht hy'=>?_))
  unfold cG at ht
  rw [List.getElem?_map] at ht
  cases hr':(List.range k)[j]? with
  | none=>rw [hr'] at ht;cases ht
  | some i =>
   rw [hr'] at ht
   cases ht
   have:=List.getElem?_eq_some_iff.mp hr'
   obtain ⟨h1,h2⟩:=this
   rw [List.getElem_range] at h2
   subst h2
   exact hy j y hy'
inductive xK (K:W.Frag) (vs:List V) (H:Hp) (Q:VK) (E9:XK):Prop
 | mk (a:Addr) (l r one other:Int) (b:Bool) (z0:vs=[.ref a,.int one,.int other,.bl b]) (z1:SqT K H a [.int l,.int r])
  (z2:∀(p:Addr) (H':Hp),aq H H'->SqT K H' p (if b=true then [.int (mx (l + one) (r + other) - one),.int (mx (l + one) (r + other) - other)] else [.int l,.int r])->Q (.ref p) H'):xK K vs H Q E9
theorem tX (T:Txt K mg A):T.pD.Hz P w base 1 (xK K):=by
 refine T.pD.hs nM (fun f cdv A' outer s H vs Q E' hr hu h=>?_)
 obtain ⟨a,l,r,one,other,b,rfl,hT,q⟩:=h
 refine ⟨_,(af (pst 4 nM.nd (pcB nK T.jF (aa (aG aU (px hu (fv 0) ao) (fv 1)) (aa (aG aU (px hu (fv 0) ao) (fv 2)) ae))))
  (af (aV (aM (fv 3) (fun _=>rfl))
   (ah (ax (bR (aa (aG nH (fv 4) (fv 1)) (aa (aG nH (fv 4) (fv 2)) ae)))))
   aE)
  (ah (ax (fv 0))))),?_⟩
 refine ag fun M1 K1=>tix (j:=0) hT rfl (tix (j:=1) hT rfl ⟨_,_,rfl,K1 _ _ ?_⟩)
 clear K1 M1
 try dsimp only
 refine ag fun M1 K1=>?_
 cases b with
 | true =>
  exact ⟨_,rfl,bU ⟨by show 2 <= sizeLine;decide,fun p hp=>q p _ (aq.upd hp _) (by rw [if_pos rfl];exact SqT.of aw)⟩⟩
 | false =>
  exact ⟨_,rfl,aN (K1 _ _ (q a _ (aq.refl _) (by rw [if_neg Bool.false_ne_true];exact hT)))⟩
end
section
variable {P:Program}{w:World}{K:W.Frag}{mg:Str->Option Value}{base:Heap}{A:Adr}{N:Nat->Str}
seal PE PA PS PSs PT PW
def idl (ns:List Int) (k one other:Int):Int × Int :=
 if cellAt ns k / 501 % 3=0 then (0,0) else if cellAt ns k / 501 % 3=1 then (mx one other + cellAt ns k % 501 - one,mx one other + cellAt ns k % 501 - other) else (cellAt ns k % 501,cellAt ns (k + 1) % 501)
inductive vm (K:W.Frag) (vs:List V) (H:Hp) (Q:VK) (E9:XK):Prop
 | mk (a:Addr) (ns:List Int) (k one other:Int) (z0:vs=[.ref a,.int k,.int one,.int other]) (z1:SqL K H a (ns.map V.int)) (z2:0 <= k)
  (z3:∀(p:Addr) (H':Hp),aq H H'->H p=none->H' p=some (.tup [.int (idl ns k one other).1,.int (idl ns k one other).2])->Q (.ref p) H'):vm K vs H Q E9
theorem oG (T:Txt K mg A):T.mK.Hz P w base 2 (vm K):=by
 refine T.mK.hs (k:=1) fE (fun f cdv A' outer s H vs Q E' hr hu h=>?_)
 obtain ⟨a,ns,k,one,other,rfl,hS,h0,q⟩:=h
 refine ⟨_,(af (pst 4 fE.nd (aj (jK T) hr (aa (fv 0) (aa (fv 1) ae))))
  (af (pst 5 fE.nd (aG gm (fv 4) ao))
  (af (pst 6 fE.nd (aG gm (aj (jK T) hr (aa (fv 0) (aa (aG aU (fv 1) ao) ae))) ao))
  (af (aV (ptc (mw hu) (aG gm (aG rM (fv 4) ao) ao) ao)
   (ah (ax (bR (aa ao (aa ao ae)))))
   aE)
  (af (aV (ptc (mw hu) (aG gm (aG rM (fv 4) ao) ao) ao)
   (ah (ax (bR (aa (aG nH (aG aU (pcB nK T.jF (aa (fv 2) (aa (fv 3) ae))) (fv 5)) (fv 2)) (aa (aG nH (aG aU (pcB nK T.jF (aa (fv 2) (aa (fv 3) ae))) (fv 5)) (fv 3)) ae)))))
   aE)
  (ah (ax (bR (aa (fv 5) (aa (fv 6) ae)))))))))),?_⟩
 refine ag fun M1 K1=>⟨a,ns,k,rfl,hS,h0,K1 _ _ ?_⟩
 clear K1 M1
 try dsimp only
 refine ag fun M1 K1=>⟨by show (0:Int) < 501;decide,K1 _ _ ?_⟩
 clear K1 M1
 try dsimp only
 refine ag fun M1 K1=>⟨a,ns,k + 1,rfl,hS,by omega,by show (0:Int) < 501;decide,K1 _ _ ?_⟩
 clear K1 M1
 unfold idl at q
 try dsimp only
 refine ag fun M1 K1=>⟨⟨by decide,by decide⟩,by show (0:Int) < 3;decide,rfl,_,rfl,de (fun c=>?_) (fun c=>K1 _ _ ?_)⟩
 ·have e:cellAt ns k / 501 % 3=0:=V.int.inj (of_decide_eq_true c)
  rw [if_pos e] at q
  exact ⟨by show 2 <= sizeLine;decide,fun p hp=>q p _ (aq.upd hp _) hp aw⟩
 clear K1 M1
 have e:¬ cellAt ns k / 501 % 3=0:=fun z=>c (decide_eq_true (congrArg V.int z))
 rw [if_neg e] at q
 try dsimp only
 refine ag fun M1 K1=>⟨⟨by decide,by decide⟩,by show (0:Int) < 3;decide,rfl,_,rfl,de (fun c=>?_) (fun c=>K1 _ _ ?_)⟩
 ·have e:cellAt ns k / 501 % 3=1:=V.int.inj (of_decide_eq_true c)
  rw [if_pos e] at q
  exact ⟨_,_,rfl,_,_,rfl,by show 2 <= sizeLine;decide,fun p hp=>q p _ (aq.upd hp _) hp aw⟩
 have e:¬ cellAt ns k / 501 % 3=1:=fun z=>c (decide_eq_true (congrArg V.int z))
 rw [if_neg e] at q
 exact ⟨by show 2 <= sizeLine;decide,fun p hp=>q p _ (aq.upd hp _) hp aw⟩
def cK (c:Int):Val:=if c % 4=0 then .one (.x 1) else if c % 4=1 then .op (.x 1) "<" (.i (c / 4 % 1000000000000)) else if c % 4=2 then .op (.i 3) "+" (.x 1) else .op (.x 1) "*" (.x 1)
inductive ve (vs:List V) (H:Hp) (Q:VK) (E9:XK):Prop
 | mk (c:Int) (z0:vs=[.int c]) (z1:∀(p:Addr) (H':Hp),aq H H'->H p=none->H' p=some (.tup (vV N5 (cK c)))->Q (.ref p) H'):ve vs H Q E9
theorem Ba (T:Txt K mg A):T.mG.Hz P w base 1 ve:=by
 refine T.mG.hs rP (fun f cdv A' outer s H vs Q E' hr hu h=>?_)
 obtain ⟨c,rfl,q⟩:=h
 refine ⟨_,(ah (ax (px hu (aZ (aa (bR (aa br ae)) (aa (bR (aa br (aa br (aa (aG gm (aG rM (fv 0) ao) (aG EB ao ao)) ae)))) (aa (bR (aa ao (aa br (aa br ae)))) (aa (bR (aa br (aa br (aa br ae)))) ae))))) (aG gm (fv 0) ao)))),⟨by show 1 <= sizeLine;decide,fun p0 h0=>?_⟩⟩
 obtain ⟨s0,e0⟩:=alc h0 (HO.tup [.str "x"])
 generalize upd H p0 _=H0 at s0 e0 ⊢
 refine ⟨⟨by decide,by decide⟩,⟨by decide,by decide,by decide⟩,by show (0:Int) < 10 ^ 12;decide,by show 3 <= sizeLine;decide,fun p1 h1=>?_⟩
 obtain ⟨s1,e1⟩:=alc h1 (HO.tup [.str "x",.str "<",.int (c / 4 % 10 ^ (12:Int).toNat)])
 generalize upd H0 p1 _=H1 at s1 e1 ⊢
 refine ⟨by show 3 <= sizeLine;decide,fun p2 h2=>?_⟩
 obtain ⟨s2,e2⟩:=alc h2 (HO.tup [.int 3,.str "+",.str "x"])
 generalize upd H1 p2 _=H2 at s2 e2 ⊢
 refine ⟨by show 3 <= sizeLine;decide,fun p3 h3=>?_⟩
 obtain ⟨s3,e3⟩:=alc h3 (HO.tup [.str "x",.str "*",.str "x"])
 generalize upd H2 p3 _=H3 at s3 e3 ⊢
 refine ⟨by show 4 <= sizeLine;decide,fun L hL=>?_⟩
 obtain ⟨s4,e4⟩:=alc hL (HO.lst [.ref p0,.ref p1,.ref p2,.ref p3])
 generalize upd H3 L _=H4 at s4 e4 ⊢
 obtain ⟨m0,m1⟩:=lA c (show (0:Int) < 4 by decide)
 have t34:=s3.trans s4
 have t24:=s2.trans t34
 have t14:=s1.trans t24
 have t04:=s0.trans t14
 have cs:c % 4=0 \/ c % 4=1 \/ c % 4=2 \/ c % 4=3:=by omega
 refine ⟨by show (0:Int) < 4;decide,?_⟩
 unfold cK at q
 rcases cs with z | z | z | z
 ·rw [if_pos z] at q
  show ixS K L (c % 4) H4 Q \/ dgI L (.int (c % 4)) H4 Q
  rw [z]
  exact lix (SqL.of e4) rfl (q p0 H4 t04 h0 ((t14) _ _ e0))
 ·rw [if_neg (by omega),if_pos z] at q
  show ixS K L (c % 4) H4 Q \/ dgI L (.int (c % 4)) H4 Q
  rw [z]
  exact lix (SqL.of e4) rfl (q p1 H4 t04 (aq.free s0 h1) (t24 _ _ e1))
 ·rw [if_neg (by omega),if_neg (by omega),if_pos z] at q
  show ixS K L (c % 4) H4 Q \/ dgI L (.int (c % 4)) H4 Q
  rw [z]
  exact lix (SqL.of e4) rfl (q p2 H4 t04 (aq.free (s0.trans s1) h2) (t34 _ _ e2))
 ·rw [if_neg (by omega),if_neg (by omega),if_neg (by omega)] at q
  show ixS K L (c % 4) H4 Q \/ dgI L (.int (c % 4)) H4 Q
  rw [z]
  exact lix (SqL.of e4) rfl (q p3 H4 t04 (aq.free ((s0.trans s1).trans s2) h3) (s4 _ _ e3))
inductive vy (K:W.Frag) (A:Adr) (vs:List V) (H:Hp) (Q:VK) (E9:XK):Prop
 | mk (n:Int) (pv pm pi:Addr) (val:Val) (a b:Nat) (l r:Int) (z0:vs=[.int n,.ref pv,.ref pm,.ref pi]) (z1:H pv=some (.tup (vV N5 val))) (z2:SqT K H pm [.int a,.int b]) (z3:SqT K H pi [.int l,.int r]) (z4:a <= 6) (z5:b <= 6)
  (z6:∀(q:Addr) (H':Hp),aq H H'->H q=none->aF A N5 H' (.ref q) (.iff n val l r (cG (n + 1) a) (cG (n + 2 + a) b))->Q (.ref q) H'):vy K A vs H Q E9
theorem wY (T:Txt K mg A):T.wM.Hz P w base 6 (vy K A):=by
 refine T.wM.hs (k:=5) yn (fun f cdv A' outer s H vs Q E' hr hu h=>?_)
 obtain ⟨n,pv,pm,pi,val,a,b,l,r,rfl,hv,hm,hi,la,lb,q⟩:=h
 refine ⟨_,(ah (ax (aX T.aJ (jb T) hr (aa (fv 0) (aa (fv 1) (aa (aj (rK T) hr (aa (aG aU (fv 0) ao) (aa (px hu (fv 2) ao) ae))) (aa (aj (rK T) hr (aa (aG aU (aG aU (fv 0) ao) (px hu (fv 2) ao)) (aa (px hu (fv 2) ao) ae))) (aa (px hu (fv 3) ao) (aa (px hu (fv 3) ao) ae))))))))),tix (j:=0) hm rfl ⟨_,_,rfl,la,fun R1 y1 H1 s1 n1 e1 p1=>tix (j:=0) (s1.tup hm) rfl (tix (j:=1) (s1.tup hm) rfl ⟨_,_,rfl,lb,fun R2 y2 H2 s2 n2 e2 p2=>?_⟩)⟩⟩
 have t2:=s1.trans s2
 refine tix (j:=0) (t2.tup hi) rfl (tix (j:=1) (t2.tup hi) rfl (fun r6 dx6 hr6 hd_ hne_=>⟨_,_,_,_,_,_,_,_,_,_,_,rfl,rfl,hr6,hd_,SqL.of (s2 _ _ e1),SqL.of e2,fun n6 n7 H6 f6 f7 s6 h6 h7 hx=>⟨rfl,q r6 H6 (t2.trans s6) (aq.free t2 hr6) ?_⟩⟩))
 unfold aF
 exact ⟨r6,dx6,pv,n6,n7,y1,y2,rfl,hx,(t2.trans s6) _ _ hv,h6,h7,aD.same (s2.trans s6) _ _ p1,aD.same s6 _ _ p2⟩
end
section
variable {P:Program}{w:World}{K:W.Frag}{mg:Str->Option Value}{base:Heap}{A:Adr}{N:Nat->Str}
seal PE PA PS PSs PT PW
def okF (x:V):Prop:=(∃i:Int,x=.int i) \/ ∃y:Str,x=.str y/\PyData.strOk y=true
theorem mD {H:Hp}:∀{xs:List V},(∀x ∈ xs,okF x)->∃ds,i7 K H xs ds/\PyData.canLayAll0 ds=true/\PyData.depthAll ds=0
 | [],_=>⟨[],.nil,rfl,rfl⟩
 | x :: r,ok=>by
  obtain ⟨ds,h1,h2,h3⟩:=mD (H:=H) fun y hy=>ok y (List.mem_cons_of_mem _ hy)
  rcases ok x List.mem_cons_self with ⟨i,rfl⟩ | ⟨y,rfl,hy⟩
  ·exact ⟨.int i :: ds,.cons (.int i) h1,by simp [PyData.canLayAll0,PyData.canLay0,h2],by simp [PyData.depthAll,PyData.depth,h3]⟩
  ·exact ⟨.str y :: ds,.cons (.str y) h1,by simp [PyData.canLayAll0,PyData.canLay0,h2,hy],by simp [PyData.depthAll,PyData.depth,h3]⟩
theorem AH {H:Hp}{p q:Addr}{xs:List V} (ok:∀x ∈ xs,okF x) (hp:SqT K H p xs) (hq:SqT K H q xs) {Q:VK} (k:Q (.bl false) H):fNe K (.ref p) (.ref q) H Q:=by
 obtain ⟨ds,h1,h2,h3⟩:=mD (K:=K) (H:=H) ok
 refine ⟨.tuple ds,.tuple ds,.tup hp h1,.tup hq h1,by simp [SeqAt.shaped,PyData.canLay0,PyData.depth,h2,h3],by simp [SeqAt.shaped,PyData.canLay0,PyData.depth,h2,h3],?_⟩
 rw [SeqAt.eqv_refl _ (by simp [PyData.canLay0,h2])]
 exact k
theorem j6 (x:V):¬ (!decide (x=x))=true:=by
 rw [decide_eq_true rfl]
 decide
inductive ua (A:Adr) (vs:List V) (H:Hp) (Q:VK) (E9:XK):Prop
 | mk (X:Hp) (L:Addr) (ys:List V) (at':Int) (k:Nat) (z0:vs=[.ref L,.int at',.int k]) (z1:aq X H) (z2:X L=some (.lst ys)) (z3:aD A N5 X ys (cG at' k)) (z4:k <= 6) (z5:∀H',aq H H'->Q (.bl true) H'):ua A vs H Q E9
theorem yX {at':Int}{k j:Nat}{t:Pt} (h:(cG at' k)[j]?=some t):t=bD at' j:=by
 unfold cG at h
 rw [List.getElem?_map] at h
 cases hr:(List.range k)[j]? with
 | none=>rw [hr] at h;cases h
 | some i =>
  rw [hr] at h
  cases h
  obtain ⟨h1,h2⟩:=List.getElem?_eq_some_iff.mp hr
  rw [List.getElem_range] at h2
  rw [h2]
theorem rR (T:Txt K mg A):T.fJ.Hz P w base 1 (ua A):=by
 refine T.fJ.hs dU (fun f cdv A' outer s H vs Q E' hr hu h=>?_)
 obtain ⟨X,L,ys,at',k,rfl,s0,hL,pt,hk,q⟩:=h
 have ly:ys.length=k:=by rw [pt.len];unfold cG;rw [List.length_map,List.length_range]
 refine ⟨_,(af (aV (PW.pt (pw_or (dO (aM (pcB aH T.av (aa (fv 0) (aa (mz (v:=.ty "list") rfl T.d3 (by boot_by_name) rfl) ae))) (fun _=>rfl))) (pw_or1 (ptc (dz hu) (pcB iP T.jf (aa (fv 0) ae)) (fv 2)))))
   (ah (ax eV))
   aE)
  (af (cP PassesOwn.never rfl (rG rfl T.lU (aa (fv 2) ae)) (pgn (i:=3) dU.nd rfl)
   (af (pst 4 dU.nd (px hu (fv 0) (fv 3)))
   (ah (aV (PW.pt (pw_or (dO (aM (pcB aH T.av (aa (fv 4) (aa (aO T.bp.mg) ae))) (fun _=>rfl))) (pw_or (ptc (dz hu) (au (fv 4) rfl) (aG aU (fv 1) (fv 3))) (pw_or (ptc (dz hu) (au (fv 4) rfl) br) (pw_or1 (ptc (dz hu) (au (fv 4) rfl) (bR (aa (aG aU (fv 1) (fv 3)) ae))))))))
    (ah (ax eV))
    aE))))
  (ah (ax eV)))),?_⟩
 refine ag fun M1 K1=>⟨_,_,_,true,rfl,(fun z=>by cases z),.lst (s0 _ _ hL),Ds,_,rfl,aN (lnl (s0 _ _ hL) ⟨rfl,_,rfl,de (fun z=>absurd z (by rw [ly];exact j6 (.int (k:Int)))) (fun _=>K1 _ _ ?_)⟩)⟩
 clear K1 M1
 try dsimp only
 refine ag fun M1 K1=>⟨_,rfl,by omega,by omega,?_⟩
 rw [Int.toNat_natCast]
 refine yt (fun i σ Hc=>∃(v3 v4:Option V),σ=[some (.ref L),some (.int at'),some (.int k),v3,v4]/\aq H Hc) ⟨none,none,rfl,aq.refl _⟩ ?_ ?_
 ·rintro i σ Hc hi ⟨v3,v4,rfl,sc⟩
  have sX:=s0.trans sc
  obtain ⟨y,hy⟩:∃y,ys[i]?=some y:=⟨_,List.getElem?_eq_getElem (by omega)⟩
  obtain ⟨t,ht,pa⟩:=pt.get hy
  have et:=yX ht
  subst et
  have pa':=pa
  unfold bD aF at pa'
  obtain ⟨a,dx,p,rfl,h1,h2⟩:=pa'
  have ei:(0:Int) + (i:Int)=(i:Int):=by omega
  rw [ei]
  try dsimp only
  refine ag fun N1 J1=>lix (SqL.of (sX _ _ hL)) (oA hy) (J1 _ _ ?_)
  clear J1 N1
  try dsimp only
  refine dZ T sX pa (j:=7) rfl (aN (fdI (sX _ _ h1) T.bp.cl T.cH rfl ⟨rfl,_,rfl,de (fun z=>absurd z (j6 (.int (at' + (i:Int))))) (fun _=>fdI (sX _ _ h1) T.bp.cl T.d5 rfl ⟨rfl,_,rfl,de (fun z=>absurd z (j6 (.str "ann"))) (fun _=>fdI (sX _ _ h1) T.bp.cl T.cW rfl ⟨by show 1 <= sizeLine;decide,fun tp htp=>?_⟩)⟩)⟩))
  have st:=aq.upd htp (.tup [V.int (at' + (i:Int))])
  exact AH (xs:=[.int (at' + (i:Int))]) (fun x hx=>.inl ⟨_,List.mem_singleton.mp hx⟩) (SqT.of ((sX.trans st) _ _ (h2 _ rfl))) (SqT.of aw) ⟨_,rfl,aN ⟨_,_,rfl,sc.trans st⟩⟩
 rintro σ Hc ⟨v3,v4,rfl,sc⟩
 exact K1 _ _ (q Hc sc)
end
section
theorem iC (pl lp:Option Str) (at':Int):∀js:List Nat,bh pl lp (js.map (bD at'))=js.map fun j=>(bD at' j,pl,lp)
 | []=>by rw [List.map_nil,bh];rfl
 | j :: js=>by
  rw [List.map_cons,bh,iC pl lp at' js,List.map_cons]
  rw [show fg lp (bD at' j)=[] by unfold bD;rw [fg]]
  rfl
theorem cD (at':Int):∀js:List Nat,dy (js.map (bD at'))=0
 | []=>by rw [List.map_nil,dy]
 | j :: js=>by
  rw [List.map_cons,dy,cD at' js,show dep (bD at' j)=0 by unfold bD;rw [dep]]
  rfl
theorem dj (idx:List Nat) (at':Int):∀js:List Nat,dG idx (js.map (bD at'))
 | []=>by rw [List.map_nil,dG];trivial
 | j :: js=>by
  rw [List.map_cons,dG]
  exact ⟨by unfold bD;simp [cOk],dj idx at' js⟩
theorem kG (at':Int):∀js:List Nat,eT (js.map (bD at'))
 | []=>by rw [List.map_nil,eT];trivial
 | j :: js=>by
  rw [List.map_cons,eT]
  exact ⟨by unfold bD;simp [lnO],kG at' js⟩
theorem ny (at':Int):∀js:List Nat,fF (js.map (bD at'))
 | []=>by rw [List.map_nil,fF];trivial
 | j :: js=>by
  rw [List.map_cons,fF]
  exact ⟨by unfold bD;simp [k5r,k5],ny at' js⟩
theorem ka (kn:Nat->Int) (at':Int):∀js:List Nat,cf kn (js.map (bD at'))=js.length
 | []=>by rw [List.map_nil,cf];rfl
 | j :: js=>by
  rw [List.map_cons,cf,ka kn at' js,show moP kn (bD at' j)=1 by unfold bD;simp [moP],List.length_cons]
  omega
theorem mH (kn:Nat->Option Int) (at':Int):∀js:List Nat,b7 kn (js.map (bD at'))=some (js.length:Int)
 | []=>by rw [List.map_nil,b7];rfl
 | j :: js=>by
  rw [List.map_cons,b7,mH kn at' js,show exP kn (bD at' j)=some 1 by unfold bD;simp [exP],List.length_cons]
  show some (1 + (js.length:Int))=some ((js.length + 1:Nat):Int)
  congr 1
  omega
theorem mX (ab:Int->Bool) (kn:Nat->Int) (at':Int):∀js:List Nat,dM ab kn (js.map (bD at'))=js.map (bD at')
 | []=>by rw [List.map_nil,dM]
 | j :: js=>by
  rw [List.map_cons,dM,mX ab kn at' js,show evP ab kn (bD at' j)=bD at' j by unfold bD;rw [evP]]
theorem kC (po:Str->List Str) (at':Int) (j:Nat) (pl:Option Str):d0 N5 po (bD at' j) pl=drw [pl] (aL (at' + j)) "under" (at' + j):=by
 show drs N5 (bD at' j) "value" pl=_
 unfold drs
 rfl
end
section
theorem vU {α β:Type}{f:α->β}{l:List α} (h:l.Nodup) (i:∀x ∈ l,∀y ∈ l,f x=f y->x=y):(l.map f).Nodup:=by
 induction l with
 | nil=>exact List.nodup_nil
 | cons x r ih =>
  rw [List.nodup_cons] at h
  rw [List.map_cons,List.nodup_cons]
  refine ⟨fun m=>?_,ih h.2 fun a ha b hb=>i a (List.mem_cons_of_mem _ ha) b (List.mem_cons_of_mem _ hb)⟩
  obtain ⟨y,my,e⟩:=List.mem_map.mp m
  have:=i y (List.mem_cons_of_mem _ my) x List.mem_cons_self e
  exact h.1 (this ▸ my)
theorem zi {pre:List Str}{ns:List Int} (hp:pre=[("x":Str)] \/ pre=[("x":Str),("f":Str)]) (nd:ns.Nodup) (hb:∀n ∈ ns,0 <= n/\n <= 1000):(pre ++ ns.map aL ++ [("the clock":Str)]).Nodup:=by
 have r0:∀n ∈ ns,∀x:Str,x.cps[0]? ≠ some 114->aL n ≠ x:=fun n hn x hx=>oo (hb n hn).1 (hb n hn).2 hx
 have hpre:∀x ∈ pre,x.cps[0]? ≠ some 114/\x ≠ "the clock":=fun x hx=>by
  have:x="x" \/ x="f":=by
   rcases hp with e | e <;> rw [e] at hx <;> simp at hx
   ·exact .inl hx
   ·exact hx
  rcases this with e | e <;> rw [e] <;> exact ⟨by decide,by decide⟩
 rw [List.append_assoc]
 refine List.nodup_append.mpr ⟨by rcases hp with e | e <;> rw [e] <;> decide,List.nodup_append.mpr ⟨vU nd fun x hx y hy e=>BK (hb x hx).1 (hb x hx).2 (hb y hy).1 (hb y hy).2 e,by simp,fun a ha b hb' e=>?_⟩,fun a ha b hb' e=>?_⟩
 ·obtain ⟨n,hn,rfl⟩:=List.mem_map.mp ha
  rw [List.mem_singleton.mp hb'] at e
  exact r0 n hn _ (by decide) e
 ·subst e
  rcases List.mem_append.mp hb' with m | m
  ·obtain ⟨n,hn,en⟩:=List.mem_map.mp m
   exact r0 n hn a (hpre a ha).1 en
  ·exact (hpre a ha).2 (List.mem_singleton.mp m)
def du (p q:Int) (a b:Nat):List Int:=((List.range a).map fun j:Nat=>p + (j:Int)) ++ (List.range b).map fun j:Nat=>q + (j:Int)
theorem dD {p q:Int}{a b:Nat}{n:Int} (h:n ∈ du p q a b):(p <= n/\n < p + a) \/ (q <= n/\n < q + b):=by
 unfold du at h
 rcases List.mem_append.mp h with m | m
 ·obtain ⟨j,hj,rfl⟩:=List.mem_map.mp m
  have:=List.mem_range.mp hj
  left;omega
 ·obtain ⟨j,hj,rfl⟩:=List.mem_map.mp m
  have:=List.mem_range.mp hj
  right;omega
theorem pV {p q:Int}{a b:Nat} (h:p + a <= q):(du p q a b).Nodup:=by
 unfold du
 refine List.nodup_append.mpr ⟨vU List.nodup_range fun x _ y _ e=>by omega,vU List.nodup_range fun x _ y _ e=>by omega,fun x hx y hy e=>?_⟩
 obtain ⟨j,hj,rfl⟩:=List.mem_map.mp hx
 obtain ⟨i,hi,rfl⟩:=List.mem_map.mp hy
 have:=List.mem_range.mp hj
 omega
def hs5 (rk:Int):List Pt:=[.leaf 1 (.hand 0 2),.leaf 2 (.giv 1 rk 0)]
def rIf (val:Val) (l r:Int) (a b:Nat):Pt:=.iff 4 val l r (cG 5 a) (cG (6 + a) b)
def lds (pl:Option Str) (at':Int) (k:Nat):List Le:=(List.range k).map fun j=>(bD at' j,pl,none)
theorem kB (val:Val) (l r:Int) (a b:Nat):dw N5 [] [rIf val l r a b]=(rIf val l r a b,none,none) :: (lds (some (aL 4)) 5 a ++ lds (some (aL 4)) (6 + a) b):=by
 show gr N5 [] ++ bh none none [rIf val l r a b]=_
 rw [show gr N5 []=[] from rfl,List.nil_append,bh,show bh none none []=[] by rw [bh],List.append_nil]
 unfold rIf cG lds
 rw [fg,iC,iC]
theorem kF (pl:Option Str) (at':Int) (k:Nat):dv (lds pl at' k)=((List.range k).map fun j:Nat=>at' + (j:Int)).map aL:=by
 unfold dv lds
 rw [List.filter_map,List.map_map,List.map_map]
 have e:(List.range k).filter ((fun e:Le=>uF e.1) ∘ fun j=>(bD at' j,pl,(none:Option Str)))=List.range k:=List.filter_eq_self.mpr fun j _=>rfl
 rw [e]
 rfl
theorem fG (a b:List Le):dv (a ++ b)=dv a ++ dv b:=by
 unfold dv
 rw [List.filter_append,List.map_append]
theorem vq (rk:Int) (val:Val) (l r:Int) (a b:Nat):bf N5 (hs5 rk) [] [rIf val l r a b]=[("x":Str)] ++ (4 :: du 5 (6 + a) a b).map aL ++ [("the clock":Str)]:=by
 unfold bf
 rw [kB,show ∀(e:Le) (es:List Le),e :: es=[e] ++ es from fun _ _=>rfl,fG,fG,kF,kF]
 unfold du
 rw [List.map_cons,List.map_append]
 rfl
theorem mT {pl:Option Str}{at':Int}{k:Nat}{e:Le} (h:e ∈ lds pl at' k):∃j,j < k/\e=(bD at' j,pl,none):=by
 unfold lds at h
 obtain ⟨j,hj,rfl⟩:=List.mem_map.mp h
 exact ⟨j,List.mem_range.mp hj,rfl⟩
theorem sj (pl:Option Str) (at':Int) (k:Nat):(lds pl at' k).length=k:=by
 unfold lds
 rw [List.length_map,List.length_range]
theorem pF {val:Val}{l r:Int}{a b:Nat}{e:Le} (h:e ∈ dw N5 [] [rIf val l r a b]):e=(rIf val l r a b,none,none) \/ ∃(at':Int) (j:Nat),e=(bD at' j,some (aL 4),none)/\at' + (j:Int) ∈ du 5 (6 + a) a b:=by
 rw [kB] at h
 rcases List.mem_cons.mp h with h | h
 ·exact .inl h
 right
 rcases List.mem_append.mp h with h | h
 ·obtain ⟨j,hj,rfl⟩:=mT h
  exact ⟨5,j,rfl,List.mem_append_left _ (List.mem_map.mpr ⟨j,List.mem_range.mpr hj,rfl⟩)⟩
 ·obtain ⟨j,hj,rfl⟩:=mT h
  exact ⟨6 + a,j,rfl,List.mem_append_right _ (List.mem_map.mpr ⟨j,List.mem_range.mpr hj,rfl⟩)⟩
theorem D4 (rk:Int) (val:Val) (l r:Int) {a b:Nat} (ha:a <= 6) (hb:b <= 6):Ok N5 1 (hs5 rk) [] [rIf val l r a b] where
 bA:=fun p h=>by cases h
 main:=by
  rw [dy,dy]
  unfold rIf cG
  rw [dep,cD,cD]
  decide
 nb:=fun e he=>by
  rcases pF he with rfl | ⟨at',j,rfl,m⟩
  ·show (0:Int) <= 4/\(4:Int) <= 1000
   decide
  ·have:=dD m
   show 0 <= at' + (j:Int)/\at' + (j:Int) <= 1000
   omega
 ln:=by
  rw [kB,List.length_cons,List.length_append,sj,sj]
  omega
 hl:=by unfold hs5;simp
 pl:=by
  rw [vq]
  unfold du
  simp only [List.length_append,List.length_map,List.length_cons,List.length_range,List.length_nil]
  omega
 nd:=by
  rw [vq]
  refine zi (.inl rfl) (List.nodup_cons.mpr ⟨fun m=>?_,pV (by omega)⟩) fun n hn=>?_
  ·have:=dD m
   omega
  ·rcases List.mem_cons.mp hn with e | m
   ·omega
   ·have:=dD m
    omega
theorem kJ (rk:Int):iV N5 (hs5 rk)=[(("x":Str),rk)]:=rfl
theorem sr (po:Str->List Str) (val:Val) (l r:Int) (a b:Nat):d0 N5 po (rIf val l r a b) none=drw ((rds N5 (vTh val)).map some) (aL 4) "test" 4:=by
 show drs N5 (rIf val l r a b) "test" none=_
 unfold drs
 show drw _ _ _ _ ++ []=_
 rw [List.append_nil]
 rfl
theorem jR {x into kd:Str}{n:Int} (h:x ≠ into):drw [some x] into kd n=[⟨x,into,kd,n⟩]:=by
 unfold drw
 rw [List.filter_cons_of_pos (by show (!decide (x=into))=true;rw [decide_eq_false h];rfl)]
 rfl
theorem l7 {val:Val}{l r:Int}{a b:Nat}{k:Lk} (h:k ∈ bx N5 [] [rIf val l r a b]):(k ∈ drw ((rds N5 (vTh val)).map some) (aL 4) "test" 4) \/ ∃n ∈ du 5 (6 + a) a b,k ∈ drw [some (aL 4)] (aL n) "under" n:=by
 unfold bx at h
 obtain ⟨e,he,hk⟩:=List.mem_flatMap.mp h
 rcases pF he with rfl | ⟨at',j,rfl,m⟩
 ·left
  rw [<- sr (poM N5 []) val l r a b]
  exact hk
 ·right
  refine ⟨_,m,?_⟩
  rw [<- kC (poM N5 []) at' j (some (aL 4))]
  exact hk
theorem cw {fs:List (Option Str)}{into kd:Str}{n:Int}{k:Lk} (h:k ∈ drw fs into kd n):some k.fr ∈ fs/\k.to=into:=by
 unfold drw at h
 obtain ⟨f,hf,rfl⟩:=List.mem_map.mp h
 obtain ⟨m,p⟩:=List.mem_filter.mp hf
 cases f with
 | none=>cases p
 | some x=>exact ⟨m,rfl⟩
theorem Cm (c:Int):rds N5 (vTh (cK c))=[("x":Str)]:=by
 unfold cK
 split
 ·rfl
 ·split
  ·rfl
  ·split
   ·rfl
   ·rfl
theorem CF {n:Int} (h:0 <= n/\n <= 1000):("x":Str) ≠ aL n:=fun e=>oo h.1 h.2 (by decide) e.symm
theorem oF (a b:Nat):aL 4 ∈ (4 :: du 5 (6 + a) a b).map aL:=List.mem_map.mpr ⟨4,List.mem_cons_self,rfl⟩
theorem zR {rk:Int} (hr:rk=0 \/ rk=1 \/ rk=2) (c:Int) (l r:Int) {a b:Nat} (ha:a <= 6) (hb:b <= 6):OkT N5 1 (hs5 rk) [] [rIf (cK c) l r a b] where
 l:={
  ok:=D4 rk (cK c) l r ha hb
  dk:=⟨fun p h=>(by cases h),fun p h=>(by cases h),fun i p h=>(by simp at h),fun i j p q h=>(by simp at h),(by decide)⟩
  nn:=List.nodup_nil
  pn:=fun p h=>(by cases h)
  k5:=fun e he=>by
   rcases pF he with rfl | ⟨at',j,rfl,m⟩ <;> rfl
  cal:=fun e he=>by
   rcases pF he with rfl | ⟨at',j,rfl,m⟩ <;> trivial
  ll:=by
   unfold bx
   rw [kB]
   have h1:∀(pl:Option Str) (at':Int) (k:Nat),((lds pl at' k).flatMap fun e=>d0 N5 (poM N5 []) e.1 e.2.1).length <= k:=fun pl at' k=>by
    unfold lds
    rw [List.flatMap_map]
    refine Nat.le_trans (oW _ (fun j=>?_) (List.range k)) (by rw [List.length_range];exact Nat.le_refl _)
    show (d0 N5 (poM N5 []) (bD at' j) pl).length <= 1
    rw [kC]
    exact c7 _ _ _ _
   rw [List.flatMap_cons,List.flatMap_append,List.length_append,List.length_append]
   have h2:=h1 (some (aL 4)) 5 a
   have h3:=h1 (some (aL 4)) (6 + a) b
   have h4:(d0 N5 (poM N5 []) (rIf (cK c) l r a b) none).length <= 1:=by
    rw [sr,Cm]
    exact c7 _ _ _ _
   show (d0 N5 (poM N5 []) (rIf (cK c) l r a b) none).length + _ <= 900
   omega }
 fr:=fun k hk=>by
  rw [vq]
  rcases l7 hk with h | ⟨n,hn,h⟩
  ·rw [Cm] at h
   have:=(cw h).1
   simp at this
   rw [this]
   simp
  ·have:=(cw h).1
   simp at this
   rw [this]
   exact List.mem_append_left _ (List.mem_append_right _ (oF a b))
 to:=fun k hk=>by
  rw [vq]
  rcases l7 hk with h | ⟨n,hn,h⟩
  ·rw [(cw h).2]
   exact List.mem_append_left _ (List.mem_append_right _ (oF a b))
  ·rw [(cw h).2]
   exact List.mem_append_left _ (List.mem_append_right _ (List.mem_map.mpr ⟨n,List.mem_cons_of_mem _ hn,rfl⟩))
 rk:=fun s hs=>by
  rw [kJ] at hs
  rw [List.mem_singleton.mp hs]
  exact hr
 sn:=by rw [kJ];simp
 ss:=fun s hs=>by
  rw [kJ] at hs
  rw [List.mem_singleton.mp hs,vq]
  simp
end
section
theorem Cq {rk:Int} (hr:rk=0 \/ rk=1 \/ rk=2) (c l r:Int) {a b:Nat} (ha:a <= 6) (hb:b <= 6):iL N5 (hs5 rk) [] [rIf (cK c) l r a b] (aL 4)=2 ^ rk.toNat:=by
 have O:=zR hr c l r ha hb
 obtain ⟨h1,h2⟩:=o6 O (kJ rk)
 have m:(⟨"x",aL 4,"test",4⟩:Lk) ∈ bx N5 [] [rIf (cK c) l r a b]:=by
  unfold bx
  refine List.mem_flatMap.mpr ⟨(rIf (cK c) l r a b,none,none),by rw [kB];exact List.mem_cons_self,?_⟩
  show _ ∈ d0 N5 (poM N5 []) (rIf (cK c) l r a b) none
  rw [sr,Cm]
  show _ ∈ drw [some ("x":Str)] (aL 4) "test" 4
  rw [jR (CF ⟨by decide,by decide⟩)]
  exact List.mem_cons_self
 rw [ow hr (kJ rk),if_pos (h2 _ m h1)]
theorem wg {rk:Int} (hr:rk=0 \/ rk=1 \/ rk=2) (c l r fl:Int) {a b:Nat} (ha:a <= 6) (hb:b <= 6):iU N5 (hs5 rk) [] [rIf (cK c) l r a b] fl=if fl < rk then [(rIf (cK c) l r a b,none,none)] else []:=by
 unfold iU
 have no:∀(pl:Option Str) (at':Int) (k:Nat),(lds pl at' k).filter (dY N5 (hs5 rk) [] [rIf (cK c) l r a b] fl)=[]:=fun pl at' k=>List.filter_eq_nil_iff.mpr fun e he=>by
  obtain ⟨j,_,rfl⟩:=mT he
  simp [dY,cJ,bD,Pt.ci,Lr.ci]
 rw [kB,List.filter_cons,List.filter_append,no,no]
 have e:dY N5 (hs5 rk) [] [rIf (cK c) l r a b] fl (rIf (cK c) l r a b,none,none)=decide (fl < rk):=by
  unfold dY
  show (cJ (rIf (cK c) l r a b) && !tj (iL N5 (hs5 rk) [] [rIf (cK c) l r a b] (aL 4)) fl)=_
  rw [Cq hr c l r ha hb,ox hr,show cJ (rIf (cK c) l r a b)=true from rfl,Bool.true_and,<- decide_not]
  exact decide_eq_decide.mpr Int.not_le
 rw [e]
 by_cases h:fl < rk
 ·rw [if_pos (decide_eq_true h),if_pos h]
  rfl
 ·rw [if_neg (by rw [decide_eq_false h];exact Bool.false_ne_true),if_neg h]
  rfl
theorem CY {rk:Int} (hr:rk=0 \/ rk=1 \/ rk=2) (c l r:Int) {a b:Nat} (ha:a <= 6) (hb:b <= 6):OkE N5 1 (hs5 rk) [] [rIf (cK c) l r a b] where
 u:={
  t:=zR hr c l r ha hb
  ck:=fun e he=>by
   rcases pF he with rfl | ⟨at',j,rfl,m⟩
   ·show cOk [] (rIf (cK c) l r a b)/\dep (rIf (cK c) l r a b) <= 1
    unfold rIf cG
    rw [cOk,dep,cD,cD]
    exact ⟨⟨dj _ _ _,dj _ _ _⟩,by decide⟩
   ·show cOk [] (bD at' j)/\dep (bD at' j) <= 1
    unfold bD
    rw [dep]
    exact ⟨by simp [cOk],by decide⟩
  ab:=fun fl=>by
   rw [wg hr c l r fl ha hb]
   split
   ·show 1 < 64;decide
   ·show 0 < 64;decide }
 hd:=fun p hp=>by
  unfold hs5 at hp
  simp only [List.mem_cons,List.not_mem_nil,or_false] at hp
  rcases hp with rfl | rfl <;> rfl
 db:=fun p h=>(by cases h)
 ml:=by show 1 <= 900;decide
 mlo:=by
  rw [eT,eT]
  refine ⟨?_,trivial⟩
  unfold rIf cG
  rw [lnO]
  simp only [List.length_map,List.length_range]
  exact ⟨by omega,by omega,kG _ _,kG _ _⟩
 mk5:=by
  rw [fF,fF]
  refine ⟨?_,trivial⟩
  unfold rIf cG
  rw [k5r]
  exact ⟨ny _ _,ny _ _⟩
 mck:=by
  rw [dG,dG]
  refine ⟨?_,trivial⟩
  unfold rIf cG
  rw [cOk]
  exact ⟨dj _ _ _,dj _ _ _⟩
theorem DZ (c l r:Int) (a b:Nat):(exP (knA b7 none []) (rIf (cK c) l r a b)).isSome=decide (l + a=r + b):=by
 unfold rIf cG
 rw [exP,mH,mH,List.length_range,List.length_range]
 show (if l + (a:Int)=r + (b:Int) then some _ else none:Option Int).isSome=_
 by_cases h:l + (a:Int)=r + (b:Int)
 ·rw [if_pos h,decide_eq_true h];rfl
 ·rw [if_neg h,decide_eq_false h];rfl
theorem E3 {rk:Int} (hr:rk=0 \/ rk=1 \/ rk=2) (c l r fl:Int) {a b:Nat} (ha:a <= 6) (hb:b <= 6):unM N5 (hs5 rk) [] [rIf (cK c) l r a b] fl=if fl < rk/\l + a ≠ r + b then [4] else []:=by
 unfold unM
 rw [wg hr c l r fl ha hb]
 by_cases h:fl < rk
 ·rw [if_pos h,List.filter_cons,List.filter_nil]
  show List.map _ (if (!(exP (knA b7 none []) (rIf (cK c) l r a b)).isSome)=true then _ else _)=_
  rw [DZ]
  by_cases e:l + (a:Int)=r + (b:Int)
  ·rw [decide_eq_true e,if_neg (by decide),if_neg fun z=>z.2 e]
   rfl
  ·rw [decide_eq_false e,if_pos (by decide),if_pos ⟨h,e⟩]
   rfl
 ·rw [if_neg h,if_neg fun z=>h z.1]
  rfl
theorem EC {rk:Int} (hr:rk=0 \/ rk=1 \/ rk=2) (c l r fl:Int) {a b:Nat} (ha:a <= 6) (hb:b <= 6):dM (abF N5 (hs5 rk) [] [rIf (cK c) l r a b] fl) (knA cf 0 []) [rIf (cK c) l r a b] =
  [rIf (cK c) (if fl < rk then mx (l + a) (r + b) - a else l) (if fl < rk then mx (l + a) (r + b) - b else r) a b]:=by
 have e:abF N5 (hs5 rk) [] [rIf (cK c) l r a b] fl 4=decide (fl < rk):=by
  unfold abF
  rw [wg hr c l r fl ha hb]
  by_cases h:fl < rk
  ·rw [if_pos h,decide_eq_true h];rfl
  ·rw [if_neg h,decide_eq_false h];rfl
 generalize abF N5 (hs5 rk) [] [rIf (cK c) l r a b] fl=ab at e
 rw [dM,dM]
 unfold rIf cG
 rw [evP,mX,mX,ka,ka,List.length_range,List.length_range]
 unfold evI
 rw [e]
 by_cases h:fl < rk
 ·rw [if_pos (decide_eq_true h),if_pos h,if_pos h]
 ·rw [if_neg (by rw [decide_eq_false h];exact Bool.false_ne_true),if_neg h,if_neg h]
end
section
def rLp (m l r:Int) (a:Nat):Pt:=.loop 4 (.x 1) m l r (cG 5 a)
def ldl (k:Nat):List Le:=(List.range k).map fun j=>(bD 5 j,some (aL 4),some (aL 4))
theorem kI (m l r:Int) (a:Nat):dw N5 [] [rLp m l r a]=(rLp m l r a,none,none) :: ldl a:=by
 show gr N5 [] ++ bh none none [rLp m l r a]=_
 rw [show gr N5 []=[] from rfl,List.nil_append,bh,show bh none none []=[] by rw [bh],List.append_nil]
 unfold rLp cG ldl
 rw [fg,iC]
theorem AG {k:Nat}{e:Le} (h:e ∈ ldl k):∃j,j < k/\e=(bD 5 j,some (aL 4),some (aL 4)):=by
 unfold ldl at h
 obtain ⟨j,hj,rfl⟩:=List.mem_map.mp h
 exact ⟨j,List.mem_range.mp hj,rfl⟩
theorem x6 (k:Nat):dv (ldl k)=((List.range k).map fun j:Nat=>5 + (j:Int)).map aL:=by
 unfold dv ldl
 rw [List.filter_map,List.map_map,List.map_map]
 have e:(List.range k).filter ((fun e:Le=>uF e.1) ∘ fun j=>(bD 5 j,some (aL 4),some (aL 4)))=List.range k:=List.filter_eq_self.mpr fun j _=>rfl
 rw [e]
 rfl
theorem uh (rk m l r:Int) (a:Nat):bf N5 (hs5 rk) [] [rLp m l r a]=[("x":Str)] ++ (4 :: du 5 (6 + a) a 0).map aL ++ [("the clock":Str)]:=by
 unfold bf
 rw [kI,show ∀(e:Le) (es:List Le),e :: es=[e] ++ es from fun _ _=>rfl,fG,x6]
 unfold du
 rw [List.range_zero,List.map_nil,List.append_nil]
 rfl
theorem pT {m l r:Int}{a:Nat}{e:Le} (h:e ∈ dw N5 [] [rLp m l r a]):e=(rLp m l r a,none,none) \/ ∃j:Nat,e=(bD 5 j,some (aL 4),some (aL 4))/\5 + (j:Int) ∈ du 5 (6 + a) a 0:=by
 rw [kI] at h
 rcases List.mem_cons.mp h with h | h
 ·exact .inl h
 right
 obtain ⟨j,hj,rfl⟩:=AG h
 exact ⟨j,rfl,List.mem_append_left _ (List.mem_map.mpr ⟨j,List.mem_range.mpr hj,rfl⟩)⟩
theorem sU (po:Str->List Str) (m l r:Int) (a:Nat):d0 N5 po (rLp m l r a) none=drw [some ("x":Str)] (aL 4) "test" 4:=by
 show drs N5 (rLp m l r a) "test" none=_
 unfold drs
 show drw _ _ _ _ ++ []=_
 rw [List.append_nil]
 rfl
theorem mC {m l r:Int}{a:Nat}{k:Lk} (h:k ∈ bx N5 [] [rLp m l r a]):(k ∈ drw [some ("x":Str)] (aL 4) "test" 4) \/ ∃n ∈ du 5 (6 + a) a 0,k ∈ drw [some (aL 4)] (aL n) "under" n:=by
 unfold bx at h
 obtain ⟨e,he,hk⟩:=List.mem_flatMap.mp h
 rcases pT he with rfl | ⟨j,rfl,mj⟩
 ·left
  rw [<- sU (poM N5 []) m l r a]
  exact hk
 ·right
  refine ⟨_,mj,?_⟩
  rw [<- kC (poM N5 []) 5 j (some (aL 4))]
  exact hk
theorem y6 {rk:Int} (hr:rk=0 \/ rk=1 \/ rk=2) (m l r:Int) {a:Nat} (ha:a <= 6):OkT N5 1 (hs5 rk) [] [rLp m l r a] where
 l:={
  ok:={
   bA:=fun p h=>(by cases h)
   main:=by
    rw [dy,dy]
    unfold rLp cG
    rw [dep,cD]
    decide
   nb:=fun e he=>by
    rcases pT he with rfl | ⟨j,rfl,mj⟩
    ·show (0:Int) <= 4/\(4:Int) <= 1000
     decide
    ·have:=dD mj
     show 0 <= 5 + (j:Int)/\5 + (j:Int) <= 1000
     omega
   ln:=by
    rw [kI,List.length_cons]
    unfold ldl
    rw [List.length_map,List.length_range]
    omega
   hl:=by unfold hs5;simp
   pl:=by
    rw [uh]
    unfold du
    simp only [List.length_append,List.length_map,List.length_cons,List.length_range,List.length_nil]
    omega
   nd:=by
    rw [uh]
    refine zi (.inl rfl) (List.nodup_cons.mpr ⟨fun h=>?_,pV (by omega)⟩) fun n hn=>?_
    ·have:=dD h
     omega
    ·rcases List.mem_cons.mp hn with e | h
     ·omega
     ·have:=dD h
      omega }
  dk:=⟨fun p h=>(by cases h),fun p h=>(by cases h),fun i p h=>(by simp at h),fun i j p q h=>(by simp at h),(by decide)⟩
  nn:=List.nodup_nil
  pn:=fun p h=>(by cases h)
  k5:=fun e he=>by
   rcases pT he with rfl | ⟨j,rfl,mj⟩ <;> rfl
  cal:=fun e he=>by
   rcases pT he with rfl | ⟨j,rfl,mj⟩ <;> trivial
  ll:=by
   unfold bx
   rw [kI,List.flatMap_cons,List.length_append]
   have h2:((ldl a).flatMap fun e=>d0 N5 (poM N5 []) e.1 e.2.1).length <= a:=by
    unfold ldl
    rw [List.flatMap_map]
    refine Nat.le_trans (oW _ (fun j=>?_) (List.range a)) (by rw [List.length_range];exact Nat.le_refl _)
    show (d0 N5 (poM N5 []) (bD 5 j) (some (aL 4))).length <= 1
    rw [kC]
    exact c7 _ _ _ _
   have h4:(d0 N5 (poM N5 []) (rLp m l r a) none).length <= 1:=by
    rw [sU]
    exact c7 _ _ _ _
   show (d0 N5 (poM N5 []) (rLp m l r a) none).length + _ <= 900
   omega }
 fr:=fun k hk=>by
  rw [uh]
  rcases mC hk with h | ⟨n,hn,h⟩
  ·have:=(cw h).1
   simp at this
   rw [this]
   simp
  ·have:=(cw h).1
   simp at this
   rw [this]
   exact List.mem_append_left _ (List.mem_append_right _ (oF a 0))
 to:=fun k hk=>by
  rw [uh]
  rcases mC hk with h | ⟨n,hn,h⟩
  ·rw [(cw h).2]
   exact List.mem_append_left _ (List.mem_append_right _ (oF a 0))
  ·rw [(cw h).2]
   exact List.mem_append_left _ (List.mem_append_right _ (List.mem_map.mpr ⟨n,List.mem_cons_of_mem _ hn,rfl⟩))
 rk:=fun s hs=>by
  rw [kJ] at hs
  rw [List.mem_singleton.mp hs]
  exact hr
 sn:=by rw [kJ];simp
 ss:=fun s hs=>by
  rw [kJ] at hs
  rw [List.mem_singleton.mp hs,uh]
  simp
theorem Dr {rk:Int} (hr:rk=0 \/ rk=1 \/ rk=2) (m l r:Int) {a:Nat} (ha:a <= 6):iL N5 (hs5 rk) [] [rLp m l r a] (aL 4)=2 ^ rk.toNat:=by
 have O:=y6 hr m l r ha
 obtain ⟨h1,h2⟩:=o6 O (kJ rk)
 have mm:(⟨"x",aL 4,"test",4⟩:Lk) ∈ bx N5 [] [rLp m l r a]:=by
  unfold bx
  refine List.mem_flatMap.mpr ⟨(rLp m l r a,none,none),by rw [kI];exact List.mem_cons_self,?_⟩
  show _ ∈ d0 N5 (poM N5 []) (rLp m l r a) none
  rw [sU,jR (CF ⟨by decide,by decide⟩)]
  exact List.mem_cons_self
 rw [ow hr (kJ rk),if_pos (h2 _ mm h1)]
theorem wO {rk:Int} (hr:rk=0 \/ rk=1 \/ rk=2) (m l r fl:Int) {a:Nat} (ha:a <= 6):iU N5 (hs5 rk) [] [rLp m l r a] fl=if fl < rk then [(rLp m l r a,none,none)] else []:=by
 unfold iU
 have no:(ldl a).filter (dY N5 (hs5 rk) [] [rLp m l r a] fl)=[]:=List.filter_eq_nil_iff.mpr fun e he=>by
  obtain ⟨j,_,rfl⟩:=AG he
  simp [dY,cJ,bD,Pt.ci,Lr.ci]
 rw [kI,List.filter_cons,no]
 have e:dY N5 (hs5 rk) [] [rLp m l r a] fl (rLp m l r a,none,none)=decide (fl < rk):=by
  unfold dY
  show (cJ (rLp m l r a) && !tj (iL N5 (hs5 rk) [] [rLp m l r a] (aL 4)) fl)=_
  rw [Dr hr m l r ha,ox hr,show cJ (rLp m l r a)=true from rfl,Bool.true_and,<- decide_not]
  exact decide_eq_decide.mpr Int.not_le
 rw [e]
 by_cases h:fl < rk
 ·rw [if_pos (decide_eq_true h),if_pos h]
 ·rw [if_neg (by rw [decide_eq_false h];exact Bool.false_ne_true),if_neg h]
end
section
theorem Dq {rk:Int} (hr:rk=0 \/ rk=1 \/ rk=2) {m:Int} (hm:0 <= m/\m <= 1000) (l r:Int) {a:Nat} (ha:a <= 6):OkE N5 1 (hs5 rk) [] [rLp m l r a] where
 u:={
  t:=y6 hr m l r ha
  ck:=fun e he=>by
   rcases pT he with rfl | ⟨j,rfl,mj⟩
   ·show cOk [] (rLp m l r a)/\dep (rLp m l r a) <= 1
    unfold rLp cG
    rw [cOk,dep,cD]
    exact ⟨⟨hm.1,hm.2,dj _ _ _⟩,by decide⟩
   ·show cOk [] (bD 5 j)/\dep (bD 5 j) <= 1
    unfold bD
    rw [dep]
    exact ⟨by simp [cOk],by decide⟩
  ab:=fun fl=>by
   rw [wO hr m l r fl ha]
   split
   ·show 1 < 64;decide
   ·show 0 < 64;decide }
 hd:=fun p hp=>by
  unfold hs5 at hp
  simp only [List.mem_cons,List.not_mem_nil,or_false] at hp
  rcases hp with rfl | rfl <;> rfl
 db:=fun p h=>(by cases h)
 ml:=by show 1 <= 900;decide
 mlo:=by
  rw [eT,eT]
  refine ⟨?_,trivial⟩
  unfold rLp cG
  rw [lnO]
  simp only [List.length_map,List.length_range]
  exact ⟨by omega,kG _ _⟩
 mk5:=by
  rw [fF,fF]
  refine ⟨?_,trivial⟩
  unfold rLp cG
  rw [k5r]
  exact ny _ _
 mck:=by
  rw [dG,dG]
  refine ⟨?_,trivial⟩
  unfold rLp cG
  rw [cOk]
  exact ⟨hm.1,hm.2,dj _ _ _⟩
theorem Ek (m l r:Int) (a:Nat):(exP (knA b7 none []) (rLp m l r a)).isSome=decide (l + a=r):=by
 unfold rLp cG
 rw [exP,mH,List.length_range]
 show (if l + (a:Int)=r then some _ else none:Option Int).isSome=_
 by_cases h:l + (a:Int)=r
 ·rw [if_pos h,decide_eq_true h];rfl
 ·rw [if_neg h,decide_eq_false h];rfl
theorem Ea {rk:Int} (hr:rk=0 \/ rk=1 \/ rk=2) (m l r fl:Int) {a:Nat} (ha:a <= 6):unM N5 (hs5 rk) [] [rLp m l r a] fl=if fl < rk/\l + a ≠ r then [4] else []:=by
 unfold unM
 rw [wO hr m l r fl ha]
 by_cases h:fl < rk
 ·rw [if_pos h,List.filter_cons,List.filter_nil]
  show List.map _ (if (!(exP (knA b7 none []) (rLp m l r a)).isSome)=true then _ else _)=_
  rw [Ek]
  by_cases e:l + (a:Int)=r
  ·rw [decide_eq_true e,if_neg (by decide),if_neg fun z=>z.2 e]
   rfl
  ·rw [decide_eq_false e,if_pos (by decide),if_pos ⟨h,e⟩]
   rfl
 ·rw [if_neg h,if_neg fun z=>h z.1]
  rfl
theorem E7 {rk:Int} (hr:rk=0 \/ rk=1 \/ rk=2) (m l r fl:Int) {a:Nat} (ha:a <= 6):dM (abF N5 (hs5 rk) [] [rLp m l r a] fl) (knA cf 0 []) [rLp m l r a] =
  [rLp m (if fl < rk then mx (l + a) r - a else l) (if fl < rk then mx (l + a) r else r) a]:=by
 have e:abF N5 (hs5 rk) [] [rLp m l r a] fl 4=decide (fl < rk):=by
  unfold abF
  rw [wO hr m l r fl ha]
  by_cases h:fl < rk
  ·rw [if_pos h,decide_eq_true h];rfl
  ·rw [if_neg h,decide_eq_false h];rfl
 generalize abF N5 (hs5 rk) [] [rLp m l r a] fl=ab at e
 rw [dM,dM]
 unfold rLp cG
 rw [evP,mX,ka,List.length_range]
 unfold evL
 rw [e]
 by_cases h:fl < rk
 ·rw [if_pos (decide_eq_true h),if_pos h,if_pos h]
 ·rw [if_neg (by rw [decide_eq_false h];exact Bool.false_ne_true),if_neg h,if_neg h]
end
section
def rIn (c l r:Int) (a b:Nat):Pt:=rIf (.one (.i c)) l r a b
def rCl (n:Int):Pt:=.leaf (n + 1) (.call 2 [])
def bw (n l r:Int):Pt:=.iff n (.one (.x 1)) l r [rCl n] []
def dF (c l r:Int) (a b:Nat):Pt:=.bA 3 2 [] [rIn c l r a b]
theorem gG (c l r n p q:Int) (a b:Nat):dw N5 [dF c l r a b] [bw n p q]=((rIn c l r a b,some ("f":Str),none) :: (lds (some (aL 4)) 5 a ++ lds (some (aL 4)) (6 + a) b)) ++ [(bw n p q,none,none),(rCl n,some (aL n),none)]:=by
 have h1:gr N5 [dF c l r a b]=(rIn c l r a b,some ("f":Str),none) :: (lds (some (aL 4)) 5 a ++ lds (some (aL 4)) (6 + a) b):=by
  show bh (some ("f":Str)) none [rIn c l r a b] ++ []=_
  rw [List.append_nil,bh,show bh (some ("f":Str)) none []=[] by rw [bh],List.append_nil]
  unfold rIn rIf cG lds
  rw [fg,iC,iC]
 have h2:bh none none [bw n p q]=[(bw n p q,none,none),(rCl n,some (aL n),none)]:=by
  rw [bh,show bh none none []=[] by rw [bh],List.append_nil]
  unfold bw
  have e0:bh (some (aL n)) none []=[]:=by rw [bh]
  have e1:bh (some (aL n)) none [rCl n]=[(rCl n,some (aL n),none)]:=by
   rw [bh,e0,show fg none (rCl n)=[] by unfold rCl;rw [fg]]
   rfl
  rw [fg,e0,e1]
  rfl
 unfold dw
 rw [h1,h2]
theorem xr (rk c l r n p q:Int) (a b:Nat):bf N5 (hs5 rk) [dF c l r a b] [bw n p q]=[("x":Str),("f":Str)] ++ (4 :: du 5 (6 + a) a b ++ [n]).map aL ++ [("the clock":Str)]:=by
 unfold bf
 rw [gG,fG,show ∀(e:Le) (es:List Le),e :: es=[e] ++ es from fun _ _=>rfl,fG,fG,kF,kF]
 unfold du
 rw [List.map_append,List.map_cons,List.map_append]
 simp only [List.append_assoc,List.cons_append]
 rfl
theorem o9 {c l r n p q:Int}{a b:Nat}{e:Le} (h:e ∈ dw N5 [dF c l r a b] [bw n p q]):e=(rIn c l r a b,some ("f":Str),none) \/ (∃(at':Int) (j:Nat),e=(bD at' j,some (aL 4),none)/\at' + (j:Int) ∈ du 5 (6 + a) a b) \/ e=(bw n p q,none,none) \/ e=(rCl n,some (aL n),none):=by
 rw [gG] at h
 rcases List.mem_append.mp h with h | h
 ·rcases List.mem_cons.mp h with h | h
  ·exact .inl h
  refine .inr (.inl ?_)
  rcases List.mem_append.mp h with h | h
  ·obtain ⟨j,hj,rfl⟩:=mT h
   exact ⟨5,j,rfl,List.mem_append_left _ (List.mem_map.mpr ⟨j,List.mem_range.mpr hj,rfl⟩)⟩
  ·obtain ⟨j,hj,rfl⟩:=mT h
   exact ⟨6 + a,j,rfl,List.mem_append_right _ (List.mem_map.mpr ⟨j,List.mem_range.mpr hj,rfl⟩)⟩
 ·simp only [List.mem_cons,List.not_mem_nil,or_false] at h
  exact .inr (.inr h)
theorem xn (c l r:Int) (a b:Nat):poM N5 [dF c l r a b] "f"=[]:=by
 unfold poM
 rw [List.find?_cons,show decide (dNm N5 (dF c l r a b)=("f":Str))=true from rfl]
 rfl
theorem sV (po:Str->List Str) (c l r:Int) (a b:Nat):d0 N5 po (rIn c l r a b) (some ("f":Str))=drw [some ("f":Str)] (aL 4) "under" 4:=by
 show drs N5 (rIn c l r a b) "test" (some ("f":Str))=_
 unfold drs
 rfl
theorem qd (po:Str->List Str) (n p q:Int):d0 N5 po (bw n p q) none=drw [some ("x":Str)] (aL n) "test" n:=by
 show drs N5 (bw n p q) "test" none=_
 unfold drs
 show drw _ _ _ _ ++ []=_
 rw [List.append_nil]
 rfl
theorem sM (po:Str->List Str) (h:po "f"=[]) (n:Int):d0 N5 po (rCl n) (some (aL n))=drw [some (aL n)] "f" "under" (n + 1):=by
 show clA N5 (n + 1) (([]:List Th).zip (po (N5 2))) ++ clB (some (aL n)) (n + 1) (po (N5 2) ++ [N5 2])=_
 rw [show N5 2="f" from rfl,h]
 show [] ++ (drw [some (aL n)] "f" "under" (n + 1) ++ [])=_
 rw [List.append_nil,List.nil_append]
theorem mn {c l r n p q:Int}{a b:Nat}{k:Lk} (h:k ∈ bx N5 [dF c l r a b] [bw n p q]):k ∈ drw [some ("f":Str)] (aL 4) "under" 4 \/ (∃m ∈ du 5 (6 + a) a b,k ∈ drw [some (aL 4)] (aL m) "under" m) \/ k ∈ drw [some ("x":Str)] (aL n) "test" n \/ k ∈ drw [some (aL n)] "f" "under" (n + 1):=by
 unfold bx at h
 obtain ⟨e,he,hk⟩:=List.mem_flatMap.mp h
 rcases o9 he with rfl | ⟨at',j,rfl,m⟩ | rfl | rfl
 ·left
  rw [<- sV (poM N5 [dF c l r a b]) c l r a b]
  exact hk
 ·refine .inr (.inl ⟨_,m,?_⟩)
  rw [<- kC (poM N5 [dF c l r a b]) at' j (some (aL 4))]
  exact hk
 ·refine .inr (.inr (.inl ?_))
  rw [<- qd (poM N5 [dF c l r a b]) n p q]
  exact hk
 ·refine .inr (.inr (.inr ?_))
  rw [<- sM _ (xn c l r a b) n]
  exact hk
theorem By {a b:Nat}{n:Int} (hn:n=9 + a + b):(4 :: du 5 (6 + a) a b ++ [n]).Nodup:=by
 refine List.nodup_append.mpr ⟨List.nodup_cons.mpr ⟨fun m=>?_,pV (by omega)⟩,by simp,fun x hx y hy e=>?_⟩
 ·have:=dD m
  omega
 ·rw [List.mem_singleton.mp hy] at e
  rcases List.mem_cons.mp hx with z | m
  ·omega
  ·have:=dD m
   omega
end
section
theorem uQ {rk c l r n p q:Int}{a b:Nat}{m:Int} (h:m ∈ 4 :: du 5 (6 + a) a b ++ [n]):aL m ∈ bf N5 (hs5 rk) [dF c l r a b] [bw n p q]:=by
 rw [xr]
 exact List.mem_append_left _ (List.mem_append_right _ (List.mem_map.mpr ⟨m,h,rfl⟩))
theorem xN {rk c l r n p q:Int}{a b:Nat}:("x":Str) ∈ bf N5 (hs5 rk) [dF c l r a b] [bw n p q]/\("f":Str) ∈ bf N5 (hs5 rk) [dF c l r a b] [bw n p q]:=by
 rw [xr]
 simp
theorem zk {rk:Int} (hr:rk=0 \/ rk=1 \/ rk=2) (c l r p q:Int) {n:Int}{a b:Nat} (ha:a <= 6) (hb:b <= 6) (hn:n=9 + a + b):OkT N5 1 (hs5 rk) [dF c l r a b] [bw n p q] where
 l:={
  ok:={
   bA:=fun e h=>by
    rw [List.mem_singleton.mp h]
    refine ⟨trivial,?_⟩
    show dy [rIn c l r a b] <= 1
    rw [dy,dy]
    unfold rIn rIf cG
    rw [dep,cD,cD]
    decide
   main:=by
    rw [dy,dy]
    unfold bw
    rw [dep,dy,dy]
    unfold rCl
    rw [dep]
    decide
   nb:=fun e he=>by
    rcases o9 he with rfl | ⟨at',j,rfl,m⟩ | rfl | rfl
    ·show (0:Int) <= 4/\(4:Int) <= 1000
     decide
    ·have:=dD m
     show 0 <= at' + (j:Int)/\at' + (j:Int) <= 1000
     omega
    ·show 0 <= n/\n <= 1000
     omega
    ·show 0 <= n + 1/\n + 1 <= 1000
     omega
   ln:=by
    rw [gG]
    simp only [List.length_append,List.length_cons,sj,List.length_nil]
    omega
   hl:=by unfold hs5;simp
   pl:=by
    rw [xr]
    unfold du
    simp only [List.length_append,List.length_map,List.length_cons,List.length_range,List.length_nil]
    omega
   nd:=by
    rw [xr]
    refine zi (.inr rfl) (By hn) fun m hm=>?_
    rcases List.mem_append.mp hm with z | z
    ·rcases List.mem_cons.mp z with z | z
     ·omega
     ·have:=dD z
      omega
    ·rw [List.mem_singleton.mp z]
     omega }
  dk:={
   bA:=fun e h=>by rw [List.mem_singleton.mp h];trivial
   dp:=fun e h=>by
    rw [List.mem_singleton.mp h]
    show dy [rIn c l r a b] <= 1
    rw [dy,dy]
    unfold rIn rIf cG
    rw [dep,cD,cD]
    decide
   ck:=fun i e h=>by
    cases i with
    | zero =>
     cases h
     show dG [] [rIn c l r a b]
     rw [dG,dG]
     refine ⟨?_,trivial⟩
     unfold rIn rIf cG
     rw [cOk]
     exact ⟨dj _ _ _,dj _ _ _⟩
    | succ i=>simp at h
   nm:=fun i j e e' h h' _=>by
    have:=(List.getElem?_eq_some_iff.mp h).1
    have:=(List.getElem?_eq_some_iff.mp h').1
    simp only [List.length_singleton] at *
    omega
   ln:=by simp }
  nn:=by simp
  pn:=fun e h=>by rw [List.mem_singleton.mp h];show 0 <= 100;decide
  k5:=fun e he=>by
   rcases o9 he with rfl | ⟨at',j,rfl,m⟩ | rfl | rfl <;> rfl
  cal:=fun e he=>by
   rcases o9 he with rfl | ⟨at',j,rfl,m⟩ | rfl | rfl
   ·trivial
   ·trivial
   ·trivial
   ·show N5 2 ∈ _/\([]:List Th).length=(poM N5 [dF c l r a b] (N5 2)).length
    rw [show N5 2="f" from rfl,xn]
    exact ⟨by simp [dNm,dF,N5],rfl⟩
  ll:=by
   unfold bx
   rw [gG,List.flatMap_append,List.flatMap_cons,List.flatMap_append]
   have h1:∀(pl:Option Str) (at':Int) (k:Nat),((lds pl at' k).flatMap fun e=>d0 N5 (poM N5 [dF c l r a b]) e.1 e.2.1).length <= k:=fun pl at' k=>by
    unfold lds
    rw [List.flatMap_map]
    refine Nat.le_trans (oW _ (fun j=>?_) (List.range k)) (by rw [List.length_range];exact Nat.le_refl _)
    show (d0 N5 _ (bD at' j) pl).length <= 1
    rw [kC]
    exact c7 _ _ _ _
   have h2:=h1 (some (aL 4)) 5 a
   have h3:=h1 (some (aL 4)) (6 + a) b
   have h4:(d0 N5 (poM N5 [dF c l r a b]) (rIn c l r a b) (some ("f":Str))).length <= 1:=by
    rw [sV]
    exact c7 _ _ _ _
   have h5:(d0 N5 (poM N5 [dF c l r a b]) (bw n p q) none).length <= 1:=by
    rw [qd]
    exact c7 _ _ _ _
   have h6:(d0 N5 (poM N5 [dF c l r a b]) (rCl n) (some (aL n))).length <= 1:=by
    rw [sM _ (xn c l r a b)]
    exact c7 _ _ _ _
   simp only [List.flatMap_cons,List.flatMap_nil,List.length_append,List.length_nil]
   omega }
 fr:=fun k hk=>by
  rcases mn hk with h | ⟨m,hm,h⟩ | h | h
  ·have:=(cw h).1
   simp at this
   rw [this]
   exact xN.2
  ·have:=(cw h).1
   simp at this
   rw [this]
   exact uQ (by simp)
  ·have:=(cw h).1
   simp at this
   rw [this]
   exact xN.1
  ·have:=(cw h).1
   simp at this
   rw [this]
   exact uQ (by simp)
 to:=fun k hk=>by
  rcases mn hk with h | ⟨m,hm,h⟩ | h | h
  ·rw [(cw h).2];exact uQ (by simp)
  ·rw [(cw h).2];exact uQ (by simp [hm])
  ·rw [(cw h).2];exact uQ (by simp)
  ·rw [(cw h).2];exact xN.2
 rk:=fun s hs=>by
  rw [kJ] at hs
  rw [List.mem_singleton.mp hs]
  exact hr
 sn:=by rw [kJ];simp
 ss:=fun s hs=>by
  rw [kJ] at hs
  rw [List.mem_singleton.mp hs]
  exact xN.1
theorem Cu {rk:Int} (hr:rk=0 \/ rk=1 \/ rk=2) (c l r p q:Int) {n:Int}{a b:Nat} (ha:a <= 6) (hb:b <= 6) (hn:n=9 + a + b):iL N5 (hs5 rk) [dF c l r a b] [bw n p q] (aL 4)=2 ^ rk.toNat/\iL N5 (hs5 rk) [dF c l r a b] [bw n p q] (aL n)=2 ^ rk.toNat:=by
 have O:=zk hr c l r p q ha hb hn
 obtain ⟨h1,h2⟩:=o6 O (kJ rk)
 have n0:0 <= n/\n <= 1000:=by omega
 have m1:(⟨"x",aL n,"test",n⟩:Lk) ∈ bx N5 [dF c l r a b] [bw n p q]:=by
  unfold bx
  refine List.mem_flatMap.mpr ⟨(bw n p q,none,none),by rw [gG];simp,?_⟩
  show _ ∈ d0 N5 _ (bw n p q) none
  rw [qd,jR (CF n0)]
  exact List.mem_cons_self
 have m2:(⟨aL n,"f","under",n + 1⟩:Lk) ∈ bx N5 [dF c l r a b] [bw n p q]:=by
  unfold bx
  refine List.mem_flatMap.mpr ⟨(rCl n,some (aL n),none),by rw [gG];simp,?_⟩
  show _ ∈ d0 N5 _ (rCl n) (some (aL n))
  rw [sM _ (xn c l r a b),jR (oo n0.1 n0.2 (by decide))]
  exact List.mem_cons_self
 have m3:(⟨"f",aL 4,"under",4⟩:Lk) ∈ bx N5 [dF c l r a b] [bw n p q]:=by
  unfold bx
  refine List.mem_flatMap.mpr ⟨(rIn c l r a b,some ("f":Str),none),by rw [gG];simp,?_⟩
  show _ ∈ d0 N5 _ (rIn c l r a b) (some ("f":Str))
  rw [sV,jR (fun e=>oo (a:=4) (by decide) (by decide) (by decide) e.symm)]
  exact List.mem_cons_self
 have a1:=h2 _ m1 h1
 have a2:=h2 _ m2 a1
 have a3:=h2 _ m3 a2
 rw [ow hr (kJ rk),ow hr (kJ rk),if_pos a3,if_pos a1]
 exact ⟨rfl,rfl⟩
end
section
theorem wj {rk:Int} (hr:rk=0 \/ rk=1 \/ rk=2) (c l r p q fl:Int) {n:Int}{a b:Nat} (ha:a <= 6) (hb:b <= 6) (hn:n=9 + a + b):iU N5 (hs5 rk) [dF c l r a b] [bw n p q] fl=if fl < rk then [(rIn c l r a b,some ("f":Str),none),(bw n p q,none,none)] else []:=by
 obtain ⟨t1,t2⟩:=Cu hr c l r p q ha hb hn
 unfold iU
 have no:∀(pl:Option Str) (at':Int) (k:Nat),(lds pl at' k).filter (dY N5 (hs5 rk) [dF c l r a b] [bw n p q] fl)=[]:=fun pl at' k=>List.filter_eq_nil_iff.mpr fun e he=>by
  obtain ⟨j,_,rfl⟩:=mT he
  simp [dY,cJ,bD,Pt.ci,Lr.ci]
 have e1:dY N5 (hs5 rk) [dF c l r a b] [bw n p q] fl (rIn c l r a b,some ("f":Str),none)=decide (fl < rk):=by
  unfold dY
  show (cJ (rIn c l r a b) && !tj (iL N5 (hs5 rk) [dF c l r a b] [bw n p q] (aL 4)) fl)=_
  rw [t1,ox hr,show cJ (rIn c l r a b)=true from rfl,Bool.true_and,<- decide_not]
  exact decide_eq_decide.mpr Int.not_le
 have e2:dY N5 (hs5 rk) [dF c l r a b] [bw n p q] fl (bw n p q,none,none)=decide (fl < rk):=by
  unfold dY
  show (cJ (bw n p q) && !tj (iL N5 (hs5 rk) [dF c l r a b] [bw n p q] (aL n)) fl)=_
  rw [t2,ox hr,show cJ (bw n p q)=true from rfl,Bool.true_and,<- decide_not]
  exact decide_eq_decide.mpr Int.not_le
 have e3:dY N5 (hs5 rk) [dF c l r a b] [bw n p q] fl (rCl n,some (aL n),none)=false:=by
  simp [dY,cJ,rCl,Pt.ci,Lr.ci]
 rw [gG,List.filter_append,List.filter_cons,List.filter_append,no,no,List.filter_cons,List.filter_cons,List.filter_nil,e1,e2,e3]
 by_cases h:fl < rk
 ·rw [if_pos (decide_eq_true h),if_pos (decide_eq_true h),if_pos h,if_neg Bool.false_ne_true]
  rfl
 ·rw [if_neg (by rw [decide_eq_false h];exact Bool.false_ne_true),if_neg (by rw [decide_eq_false h];exact Bool.false_ne_true),if_neg h,if_neg Bool.false_ne_true]
  rfl
theorem CC (idx:List Nat) (c l r:Int) (a b:Nat):dG idx [rIn c l r a b]:=by
 rw [dG,dG]
 refine ⟨?_,trivial⟩
 unfold rIn rIf cG
 rw [cOk]
 exact ⟨dj _ _ _,dj _ _ _⟩
theorem xx (n p q:Int):dG [2] [bw n p q]:=by
 rw [dG,dG]
 refine ⟨?_,trivial⟩
 unfold bw
 rw [cOk,dG,dG]
 unfold rCl
 rw [cOk]
 exact ⟨⟨List.mem_cons_self,trivial⟩,trivial⟩
theorem CG {rk:Int} (hr:rk=0 \/ rk=1 \/ rk=2) (c l r p q:Int) {n:Int}{a b:Nat} (ha:a <= 6) (hb:b <= 6) (hn:n=9 + a + b):OkE N5 1 (hs5 rk) [dF c l r a b] [bw n p q] where
 u:={
  t:=zk hr c l r p q ha hb hn
  ck:=fun e he=>by
   rcases o9 he with rfl | ⟨at',j,rfl,m⟩ | rfl | rfl
   ·show cOk [2] (rIn c l r a b)/\dep (rIn c l r a b) <= 1
    unfold rIn rIf cG
    rw [cOk,dep,cD,cD]
    exact ⟨⟨dj _ _ _,dj _ _ _⟩,by decide⟩
   ·show cOk [2] (bD at' j)/\dep (bD at' j) <= 1
    unfold bD
    rw [dep]
    exact ⟨by simp [cOk],by decide⟩
   ·refine ⟨j1 (xx n p q) List.mem_cons_self,?_⟩
    show dep (bw n p q) <= 1
    unfold bw
    rw [dep,dy,dy]
    unfold rCl
    rw [dep]
    decide
   ·show cOk [2] (rCl n)/\dep (rCl n) <= 1
    unfold rCl
    rw [dep,cOk]
    exact ⟨List.mem_cons_self,by decide⟩
  ab:=fun fl=>by
   rw [wj hr c l r p q fl ha hb hn]
   split
   ·show 2 < 64;decide
   ·show 0 < 64;decide }
 hd:=fun e he=>by
  unfold hs5 at he
  simp only [List.mem_cons,List.not_mem_nil,or_false] at he
  rcases he with rfl | rfl <;> rfl
 db:=fun e h=>by
  rw [List.mem_singleton.mp h]
  refine ⟨by show 1 <= 900;decide,?_,?_,CC _ c l r a b⟩
  ·show eT [rIn c l r a b]
   rw [eT,eT]
   refine ⟨?_,trivial⟩
   unfold rIn rIf cG
   rw [lnO]
   simp only [List.length_map,List.length_range]
   exact ⟨by omega,by omega,kG _ _,kG _ _⟩
  ·show fF [rIn c l r a b]
   rw [fF,fF]
   refine ⟨?_,trivial⟩
   unfold rIn rIf cG
   rw [k5r]
   exact ⟨ny _ _,ny _ _⟩
 ml:=by show 1 <= 900;decide
 mlo:=by
  rw [eT,eT]
  refine ⟨?_,trivial⟩
  unfold bw
  rw [lnO,eT,eT]
  unfold rCl
  rw [lnO]
  exact ⟨by show 1 <= 900;decide,by show 0 <= 900;decide,⟨trivial,trivial⟩,trivial⟩
 mk5:=by
  rw [fF,fF]
  refine ⟨?_,trivial⟩
  unfold bw
  rw [k5r,fF,fF]
  unfold rCl
  rw [k5r]
  exact ⟨⟨rfl,trivial⟩,trivial⟩
 mck:=xx n p q
end
section
theorem Cg (kn:Nat->Option Int) (c l r:Int) (a b:Nat):exP kn (rIn c l r a b)=if l + a=r + b then some (1 + l + a) else none:=by
 unfold rIn rIf cG
 rw [exP,mH,mH,List.length_range,List.length_range]
 rfl
theorem EL (c l r:Int) (a b:Nat):knA b7 none [dF c l r a b] 2=if l + a=r + b then some (1 + l + a) else none:=by
 show b7 (fun _=>none) [rIn c l r a b]=_
 rw [pZ,Cg]
theorem Dt (c l r n p q:Int) (a b:Nat):(exP (knA b7 none [dF c l r a b]) (bw n p q)).isSome=decide (l + a=r + b/\p + (1 + (1 + l + a))=q):=by
 unfold bw
 rw [exP,pZ,show b7 (knA b7 none [dF c l r a b]) []=some 0 by rw [b7]]
 unfold rCl
 rw [exP,EL]
 by_cases h:l + (a:Int)=r + (b:Int)
 ·rw [if_pos h]
  show (if p + (1 + (1 + l + (a:Int)))=q + 0 then some _ else none:Option Int).isSome=_
  rw [Int.add_zero]
  by_cases e:p + (1 + (1 + l + (a:Int)))=q
  ·rw [if_pos e,decide_eq_true ⟨h,e⟩];rfl
  ·rw [if_neg e,decide_eq_false fun z=>e z.2];rfl
 ·rw [if_neg h,decide_eq_false fun z=>h z.1]
  rfl
theorem El {rk:Int} (hr:rk=0 \/ rk=1 \/ rk=2) (c l r p q fl:Int) {n:Int}{a b:Nat} (ha:a <= 6) (hb:b <= 6) (hn:n=9 + a + b):unM N5 (hs5 rk) [dF c l r a b] [bw n p q] fl =
  (if fl < rk/\l + a ≠ r + b then [4] else []) ++ (if fl < rk/\¬ (l + a=r + b/\p + (1 + (1 + l + a))=q) then [n] else []):=by
 unfold unM
 rw [wj hr c l r p q fl ha hb hn]
 by_cases h:fl < rk
 ·rw [if_pos h]
  have u1:unP [dF c l r a b] (rIn c l r a b,some ("f":Str),none)=decide (l + a ≠ r + b):=by
   unfold unP
   show (!(exP _ (rIn c l r a b)).isSome)=_
   rw [Cg]
   by_cases e:l + (a:Int)=r + (b:Int)
   ·rw [if_pos e,decide_eq_false fun z=>z e];rfl
   ·rw [if_neg e,decide_eq_true e];rfl
  have u2:unP [dF c l r a b] (bw n p q,none,none)=decide (¬ (l + a=r + b/\p + (1 + (1 + l + a))=q)):=by
   unfold unP
   show (!(exP _ (bw n p q)).isSome)=_
   rw [Dt,decide_not]
  rw [List.filter_cons,List.filter_cons,List.filter_nil,u1,u2]
  by_cases e:l + (a:Int)=r + (b:Int)
  ·rw [show decide (l + (a:Int) ≠ r + (b:Int))=false from decide_eq_false fun z=>z e,show (if fl < rk/\l + (a:Int) ≠ r + (b:Int) then [(4:Int)] else [])=[] from if_neg fun z=>z.2 e]
   by_cases e2:l + (a:Int)=r + (b:Int)/\p + (1 + (1 + l + (a:Int)))=q
   ·rw [show decide (¬ (l + (a:Int)=r + (b:Int)/\p + (1 + (1 + l + (a:Int)))=q))=false from decide_eq_false fun z=>z e2,show (if fl < rk/\¬ (l + (a:Int)=r + (b:Int)/\p + (1 + (1 + l + (a:Int)))=q) then [n] else [])=[] from if_neg fun z=>z.2 e2]
    rfl
   ·rw [show decide (¬ (l + (a:Int)=r + (b:Int)/\p + (1 + (1 + l + (a:Int)))=q))=true from decide_eq_true e2,show (if fl < rk/\¬ (l + (a:Int)=r + (b:Int)/\p + (1 + (1 + l + (a:Int)))=q) then [n] else [])=[n] from if_pos ⟨h,e2⟩]
    rfl
  ·have e2:¬ (l + (a:Int)=r + (b:Int)/\p + (1 + (1 + l + (a:Int)))=q):=fun z=>e z.1
   rw [show decide (l + (a:Int) ≠ r + (b:Int))=true from decide_eq_true e,show (if fl < rk/\l + (a:Int) ≠ r + (b:Int) then [(4:Int)] else [])=[4] from if_pos ⟨h,e⟩,show decide (¬ (l + (a:Int)=r + (b:Int)/\p + (1 + (1 + l + (a:Int)))=q))=true from decide_eq_true e2,show (if fl < rk/\¬ (l + (a:Int)=r + (b:Int)/\p + (1 + (1 + l + (a:Int)))=q) then [n] else [])=[n] from if_pos ⟨h,e2⟩]
   rfl
 ·rw [if_neg h,if_neg fun z=>h z.1,if_neg fun z=>h z.1]
  rfl
theorem Er (kn:Nat->Int) (c l r:Int) (a b:Nat):moP kn (rIn c l r a b)=1 + mx (l + a) (r + b):=by
 unfold rIn rIf cG
 rw [moP,ka,ka,List.length_range,List.length_range]
theorem EG (c l r:Int) (a b:Nat):knA cf 0 [dF c l r a b] 2=1 + mx (l + a) (r + b):=by
 show cf (fun _=>0) [rIn c l r a b]=_
 rw [cf,cf,Er,Int.add_zero]
theorem Fb {rk:Int} (hr:rk=0 \/ rk=1 \/ rk=2) (c l r p q fl:Int) {n:Int}{a b:Nat} (ha:a <= 6) (hb:b <= 6) (hn:n=9 + a + b):abF N5 (hs5 rk) [dF c l r a b] [bw n p q] fl 4=decide (fl < rk)/\abF N5 (hs5 rk) [dF c l r a b] [bw n p q] fl n=decide (fl < rk):=by
 unfold abF
 rw [wj hr c l r p q fl ha hb hn]
 by_cases h:fl < rk
 ·rw [if_pos h,decide_eq_true h]
  exact ⟨decide_eq_true (by simp [rIn,rIf,Pt.no]),decide_eq_true (by simp [bw,Pt.no])⟩
 ·rw [if_neg h,decide_eq_false h]
  exact ⟨rfl,rfl⟩
theorem BX {rk:Int} (hr:rk=0 \/ rk=1 \/ rk=2) (c l r p q fl:Int) {n:Int}{a b:Nat} (ha:a <= 6) (hb:b <= 6) (hn:n=9 + a + b) :
  [dF c l r a b].map (evP (abF N5 (hs5 rk) [dF c l r a b] [bw n p q] fl) (knA cf 0 [dF c l r a b]))=[dF c (if fl < rk then mx (l + a) (r + b) - a else l) (if fl < rk then mx (l + a) (r + b) - b else r) a b] /\
  dM (abF N5 (hs5 rk) [dF c l r a b] [bw n p q] fl) (knA cf 0 [dF c l r a b]) [bw n p q]=[bw n (if fl < rk then mx (p + (1 + (1 + mx (l + a) (r + b)))) (q + 0) - (1 + (1 + mx (l + a) (r + b))) else p) (if fl < rk then mx (p + (1 + (1 + mx (l + a) (r + b)))) (q + 0) - 0 else q)]:=by
 obtain ⟨e1,e2⟩:=Fb hr c l r p q fl ha hb hn
 have kk:=EG c l r a b
 generalize abF N5 (hs5 rk) [dF c l r a b] [bw n p q] fl=ab at e1 e2
 generalize knA cf 0 [dF c l r a b]=kn at kk
 constructor
 ·unfold dF
  rw [List.map_cons,List.map_nil,evP,dM,dM]
  unfold rIn rIf cG
  rw [evP,mX,mX,ka,ka,List.length_range,List.length_range]
  unfold evI
  rw [e1]
  by_cases h:fl < rk
  ·rw [if_pos (decide_eq_true h),if_pos h,if_pos h]
  ·rw [if_neg (by rw [decide_eq_false h];exact Bool.false_ne_true),if_neg h,if_neg h]
 ·have v0:dM ab kn []=[]:=by rw [dM]
  have m0:cf kn []=0:=by rw [cf]
  have v1:dM ab kn [rCl n]=[rCl n]:=by
   rw [dM,v0]
   unfold rCl
   rw [evP]
  have m1:cf kn [rCl n]=1 + (1 + mx (l + a) (r + b)):=by
   rw [cf,m0,Int.add_zero]
   unfold rCl
   rw [moP,kk]
  rw [dM,v0]
  unfold bw
  rw [evP,v0,v1,m0,m1]
  unfold evI
  rw [e2]
  by_cases h:fl < rk
  ·rw [if_pos (decide_eq_true h),if_pos h,if_pos h]
  ·rw [if_neg (by rw [decide_eq_false h];exact Bool.false_ne_true),if_neg h,if_neg h]
end
section
variable {P:Program}{w:World}{K:W.Frag}{mg:Str->Option Value}{base:Heap}{A:Adr}{N:Nat->Str}
seal PE PA PS PSs PT PW
inductive lY (A:Adr) (vs:List V) (H:Hp) (Q:VK) (E9:XK):Prop
 | mk (N:Nat->Str) (X:Hp) (v:V) (fl:Int) (b:Bool) (hs ds ms:List Pt) (z0:vs=[v,.int fl,.bl b]) (z1:aq X H) (z2:gf A N X v hs ds ms) (z3:OkE N 1 hs ds ms) (z4:b=true->fl=0)
  (z5:∀(p R a:Addr) (ns:List Int) (H':Hp),aq H H'->H' p=some (.tup [.ref R,.ref a])->H' R=some (.lst (ns.map V.int))->ns.Perm (unM N hs ds ms fl)->ns.Pairwise (· <= ·)->gf A N H' (.ref a) hs (ds.map (evP (abF N hs ds ms fl) (knA cf 0 ds))) (dM (abF N hs ds ms fl) (knA cf 0 ds) ms)->Q (.ref p) H'):lY A vs H Q E9
theorem rX (T:Txt K mg A):T.mU.Hz P w base 16 (lY A):=by
 refine T.mU.hs (k:=15) tT (fun f cdv A' outer s H vs Q E' hr hu h=>?_)
 obtain ⟨N,X,v,fl,b,hs,ds,ms,rfl,s0,pg,O,hb,q⟩:=h
 refine ⟨_,(af (aV (aM (fv 2) (fun _=>rfl))
   (ah (ax (bR (aa (pR (vv T 1) hr (aa (fv 0) ae)) (aa (pR (u6 T 1) hr (aa (fv 0) ae)) ae)))))
   aE)
  (ah (ax (bR (aa (aj (vu.has (vv T 1)) hr (aa (fv 0) (aa (fv 1) ae))) (aa (aj (vu.has (u6 T 1)) hr (aa (fv 0) (aa (fv 1) ae))) ae)))))),?_⟩
 refine ag fun M1 K1=>?_
 have fin:∀(R:Addr) (ns:List Int) (H1:Hp),aq H H1->H1 R=some (.lst (ns.map V.int))->ns.Perm (unM N hs ds ms fl)->ns.Pairwise (· <= ·)->nr A 1 [v,.int fl] H1 (fun x H2=>2 <= sizeLine/\∀p,H2 p=none->Q (.ref p) (upd H2 p (.tup [.ref R,x]))) E0:=by
  intro R ns H1 s1 e1 a1 a2
  refine ⟨N,X,v,fl,hs,ds,ms,rfl,s0.trans s1,pg,O,fun a H2 s2 p2=>⟨by decide,fun p hp=>?_⟩⟩
  have s3:=aq.upd hp (.tup [V.ref R,.ref a])
  exact q p R a ns _ ((s1.trans s2).trans s3) aw (s3 _ _ (s2 _ _ e1)) a1 a2 (p2.same s3)
 cases b with
 | true =>
  have e:=hb rfl
  subst e
  exact ⟨_,rfl,bU ⟨N,X,v,0,hs,ds,ms,rfl,s0,pg,O.u,fun R ns H1 s1 hR e1 a1 a2=>fin R ns H1 s1 e1 a1 a2⟩⟩
 | false =>
  exact ⟨_,rfl,aN (K1 _ _ ⟨N,X,v,fl,hs,ds,ms,rfl,s0,pg,O.u,fun R ns H1 s1 hR e1 a1 a2=>fin R ns H1 s1 e1 a1 a2⟩)⟩
end
section
variable {P:Program}{w:World}{K:W.Frag}{mg:Str->Option Value}{base:Heap}{A:Adr}{N:Nat->Str}
seal PE PA PS PSs PT PW
def lrP:Pt->Option (Int × Int)
 | .iff _ _ l r _ _=>some (l,r)
 | .loop _ _ _ l r _=>some (l,r)
 | _=>none
inductive pK (K:W.Frag) (A:Adr) (vs:List V) (H:Hp) (Q:VK) (E9:XK):Prop
 | mk (X:Hp) (v:V) (t:Pt) (l r:Int) (p:Addr) (z0:vs=[v,.ref p]) (z1:aq X H) (z2:aF A N5 X v t) (z3:lrP t=some (l,r)) (z4:SqT K H p [.int l,.int r]) (z5:∀H',aq H H'->Q (.bl true) H'):pK K A vs H Q E9
inductive pk (K:W.Frag) (A:Adr) (vs:List V) (H:Hp) (Q:VK) (E9:XK):Prop
 | mk (X:Hp) (v:V) (n:Int) (pv pm pi:Addr) (val:Val) (l r:Int) (a b:Nat) (z0:vs=[v,.int n,.ref pv,.ref pm,.ref pi]) (z1:aq X H) (z2:aF A N5 X v (.iff n val l r (cG (n + 1) a) (cG (n + 2 + a) b))) (z3:SqT K H pv (vV N5 val)) (z4:∀x ∈ vV N5 val,okF x) (z5:SqT K H pm [.int a,.int b]) (z6:SqT K H pi [.int l,.int r]) (z7:a <= 6) (z8:b <= 6) (z9:∀H',aq H H'->Q (.bl true) H'):pk K A vs H Q E9
theorem DM {H:Hp}{xs:List V} (ok:∀x ∈ xs,okF x):∃d,(∀p,SqT K H p xs->iK K H (.ref p) d)/\SeqAt.shaped d=true/\¬ (!PyData.eqv d d)=true:=by
 obtain ⟨ds,h1,h2,h3⟩:=mD (K:=K) (H:=H) ok
 refine ⟨.tuple ds,fun p hp=>.tup hp h1,by simp [SeqAt.shaped,PyData.canLay0,PyData.depth,h2,h3],?_⟩
 rw [SeqAt.eqv_refl _ (by simp [PyData.canLay0,h2])]
 decide
theorem AK (T:Txt K mg A) {j:Nat} (hj:1 <= j) (D_law_idles_told:T.d4.Hz P w base j (pK K A)):T.dP.Hz P w base (j + 1) (pk K A):=by
 refine T.dP.hs (k:=j) mh (fun f cdv A' outer s H vs Q E' hr hu h=>?_)
 obtain ⟨X,v,n,pv,pm,pi,val,l,r,a,b,rfl,s0,pa,hv,ok,hm,hi,la,lb,q⟩:=h
 refine ⟨_,(af (aV (PW.pt (pw_or (dO (aM (pcB aH T.av (aa (fv 0) (aa (aO T.aJ.mg) ae))) (fun _=>rfl))) (pw_or (ptc (dz hu) (au (fv 0) rfl) (fv 1)) (pw_or (ptc (dz hu) (au (fv 0) rfl) (fv 2)) (pw_or1 (dO (aM (aj (hj:=by omega) D_law_idles_told hr (aa (fv 0) (aa (fv 4) ae))) (fun _=>rfl))))))))
   (ah (ax eV))
   aE)
  (ah (ax (k8 (aj (hj:=by omega) (rR T) hr (aa (au (fv 0) rfl) (aa (aG aU (fv 1) ao) (aa (px hu (fv 3) ao) ae)))) (iT (aj (hj:=by omega) (rR T) hr (aa (au (fv 0) rfl) (aa (aG aU (aG aU (fv 1) ao) (px hu (fv 3) ao)) (aa (px hu (fv 3) ao) ae))))))))),?_⟩
 have pa':=pa
 unfold aF at pa'
 obtain ⟨ad,dx,p,pf,po,xf,xo,rfl,h1,h2,h3,h4,h5,h6⟩:=pa'
 obtain ⟨d,hd,sh,ev⟩:=DM (K:=K) (H:=H) ok
 refine ag fun M1 K1=>dZ T s0 pa (j:=11) rfl (aN (fdI (s0 _ _ h1) T.aJ.cl T.b5 rfl ⟨rfl,_,rfl,de (fun z=>absurd z (j6 (.int n))) (fun _=>fdI (s0 _ _ h1) T.aJ.cl T.cv rfl ⟨d,d,hd _ (SqT.of (s0 _ _ h2)),hd _ hv,sh,sh,_,rfl,de (fun z=>absurd z ev) (fun _=>⟨X,_,_,l,r,pi,rfl,s0,pa,rfl,hi,fun H1 s1=>⟨_,rfl,aN (K1 _ _ ?_)⟩⟩)⟩)⟩))
 clear K1 M1
 have sX:=s0.trans s1
 try dsimp only
 refine fdI (sX _ _ h1) T.aJ.cl T.bz rfl (tix (j:=0) (s1.tup hm) rfl ⟨X,pf,xf,n + 1,a,rfl,sX,h3,h5,la,fun H2 s2=>⟨_,rfl,bU ?_⟩⟩)
 have s12:=s1.trans s2
 exact fdI ((s0.trans s12) _ _ h1) T.aJ.cl T.bG rfl (tix (j:=0) (s12.tup hm) rfl (tix (j:=1) (s12.tup hm) rfl ⟨X,po,xo,n + 2 + a,b,rfl,s0.trans s12,h4,h6,lb,fun H3 s3=>q H3 (s12.trans s3)⟩))
end
section
variable {P:Program}{w:World}{K:W.Frag}{mg:Str->Option Value}{base:Heap}{A:Adr}{N:Nat->Str}
seal PE PA PS PSs PT PW
theorem E2 (T:Txt K mg A) {X H:Hp} (s:aq X H) {v:V}{t:Pt}{l r:Int} (h:aF A N5 X v t) (e:lrP t=some (l,r)) {Q:VK} (q:(∀{R:VK},R (.int r) H->mi K "right" v H R)->Q (.int l) H):mi K "left" v H Q:=by
 cases t with
 | iff n val l' r' f o =>
  cases e
  unfold aF at h
  obtain ⟨a,dx,p,pf,po,xf,xo,rfl,h1,_⟩:=h
  exact fdI (s _ _ h1) T.aJ.cl T.cN rfl (q fun k=>fdI (s _ _ h1) T.aJ.cl T.cY rfl k)
 | loop n th m l' r' b =>
  cases e
  unfold aF at h
  obtain ⟨a,dx,pb,xb,rfl,h1,_⟩:=h
  exact fdI (s _ _ h1) T.aA.cl T.cx rfl (q fun k=>fdI (s _ _ h1) T.aA.cl T.bQ rfl k)
 | leaf _ _=>cases e
 | bA _ _ _ _=>cases e
theorem oH (T:Txt K mg A):T.d4.Hz P w base 1 (pK K A):=by
 refine T.d4.hs dS (fun f cdv A' outer s H vs Q E' hr hu h=>?_)
 obtain ⟨X,v,t,l,r,p,rfl,s0,pa,el,hT,q⟩:=h
 refine ⟨_,(af (cP PassesOwn.never rfl (BM rfl T.uc (aa (aZ (aa (au (fv 0) rfl) (aa (au (fv 0) rfl) ae))) (aa (fv 1) ae))) (gS rfl (bc (pgn (i:=2) dS.nd rfl) (bc (pgn (i:=3) dS.nd rfl) eO)))
   (ah (aV (PW.pt (pw_or (dO (aM (pcB aH T.av (aa (fv 2) (aa (mz (v:=.ty "int") rfl T.nN (by boot_by_name) rfl) ae))) (fun _=>rfl))) (pw_or (aM (pcB aH T.av (aa (fv 2) (aa (mz (v:=.ty "bool") rfl T.tG (by boot_by_name) rfl) ae))) (fun _=>rfl)) (pw_or1 (ptc (dz hu) (fv 2) (fv 3))))))
    (ah (ax eV))
    aE)))
  (ah (ax eV))),?_⟩
 refine ag fun M1 K1=>E2 T s0 pa el fun rt=>rt ⟨by show 2 <= sizeLine;decide,fun L hL=>?_⟩
 have sL:=aq.upd hL (.lst [V.int l,.int r])
 refine ⟨L,p,rfl,⟨_,SqL.of aw⟩,⟨_,sL.tup hT⟩,zj (K:=K) (xs:=[.int l,.int r]) (ys:=[.int l,.int r]) (fun i σ Hc=>∃(v2 v3:Option V),σ=[some v,some (.ref p),v2,v3]/\aq (upd H L (.lst [V.int l,.int r])) Hc) ⟨none,none,rfl,aq.refl _⟩ (fun i σ Hc _ ⟨_,_,_,z⟩=>⟨SqL.of (z _ _ aw),(sL.trans z).tup hT⟩) rfl ?_ ?_⟩
 ·rintro i x y σ Hc tp hx hy ⟨v2,v3,rfl,sc⟩ htp
  have e:x=y:=Option.some.inj (hx.symm.trans hy)
  subst e
  obtain ⟨n,rfl⟩:∃n,x=.int n:=by
   match i,hx with
   | 0,h=>cases h;exact ⟨_,rfl⟩
   | 1,h=>cases h;exact ⟨_,rfl⟩
  try dsimp only
  exact ⟨tp,_,rfl,SqT.of aw,rfl,_,_,rfl,_,_,rfl,rfl,⟨_,_,_,true,rfl,(fun z=>by cases z),.int n,C1,_,rfl,aN ⟨_,_,_,false,rfl,(fun z=>by cases z),.int n,Cn,_,rfl,aN ⟨rfl,_,rfl,de (fun z=>absurd z (j6 (.int n))) (fun _=>⟨_,_,rfl,sc.trans (aq.upd htp _)⟩)⟩⟩⟩⟩
 rintro σ Hc ⟨v2,v3,rfl,sc⟩
 exact K1 _ _ (q Hc (sL.trans sc))
theorem tu (T:Txt K mg A):T.dP.Hz P w base 2 (pk K A):=AK T (Nat.le_refl 1) (oH T)
end
section
variable {P:Program}{w:World}{K:W.Frag}{mg:Str->Option Value}{base:Heap}{A:Adr}{N:Nat->Str}
seal PE PA PS PSs PT PW
theorem ky {H:Hp}{p q:Addr}{ns:List Int} (hp:SqL K H p (ns.map V.int)) (hq:SqL K H q (ns.map V.int)) {Q:VK} (k:Q (.bl false) H):fNe K (.ref p) (.ref q) H Q:=by
 obtain ⟨ds,h1,h2,h3⟩:=mD (K:=K) (H:=H) (xs:=ns.map V.int) fun x hx=>by
  obtain ⟨i,_,rfl⟩:=List.mem_map.mp hx
  exact .inl ⟨i,rfl⟩
 refine ⟨.list ds,.list ds,.lst hp h1,.lst hq h1,by simp [SeqAt.shaped,PyData.canLay0,PyData.depth,h2,h3],by simp [SeqAt.shaped,PyData.canLay0,PyData.depth,h2,h3],?_⟩
 rw [SeqAt.eqv_refl _ (by simp [PyData.canLay0,h2])]
 exact k
def da (d:Bool) (n:Int):List Int:=if d=true then [n] else []
theorem l5 {H:Hp}{D:Addr}{n:Int}{d:Bool}{Q:VK} (hD:H D=some (.lst [.int n])) (q:∀l,H l=none->Q (.ref l) (upd H l (.lst ((da d n).map V.int)))):∃b,[V.bl d]=[.bl b]/\B9 (.ref D) (.int (if b=true then 1 else 0)) H Q:=by
 refine ⟨d,rfl,?_⟩
 cases d with
 | true=>exact ⟨_,hD,by decide,by decide,by show 1 <= sizeLine;decide,q⟩
 | false=>exact ⟨_,hD,by decide,by decide,Nat.zero_le _,q⟩
theorem vG (c:Int):∀x ∈ vV N5 (cK c),okF x:=by
 have hx:okF (.str "x"):=.inr ⟨_,rfl,by decide +kernel⟩
 unfold cK
 intro x m
 split at m
 ·rw [List.mem_singleton.mp m];exact hx
 ·split at m
  ·simp only [vV,Th.v,List.mem_cons,List.not_mem_nil,or_false] at m
   rcases m with rfl | rfl | rfl
   ·exact hx
   ·exact .inr ⟨_,rfl,by decide +kernel⟩
   ·exact .inl ⟨_,rfl⟩
  ·split at m
   ·simp only [vV,Th.v,List.mem_cons,List.not_mem_nil,or_false] at m
    rcases m with rfl | rfl | rfl
    ·exact .inl ⟨_,rfl⟩
    ·exact .inr ⟨_,rfl,by decide +kernel⟩
    ·exact hx
   ·simp only [vV,Th.v,List.mem_cons,List.not_mem_nil,or_false] at m
    rcases m with rfl | rfl | rfl
    ·exact hx
    ·exact .inr ⟨_,rfl,by decide +kernel⟩
    ·exact hx
theorem rY (d:Bool) (n:Int):(da d n).Pairwise (· <= ·):=by
 cases d <;> simp [da]
theorem aD.yE {X:Hp}{vs:List V}{t:Pt} (h:aD A N X vs [t]):∃x,vs=[x]/\aF A N X x t:=by
 unfold aD at h
 obtain ⟨x,xs,rfl,h1,h2⟩:=h
 unfold aD at h2
 exact ⟨x,by rw [h2],h1⟩
theorem oU {H:Hp}{p:Addr}{fl rk l r one other:Int}{b:Bool} (hb:b=decide (fl < rk)) (h:SqT K H p (if b=true then [.int (mx (l + one) (r + other) - one),.int (mx (l + one) (r + other) - other)] else [.int l,.int r])):SqT K H p [.int (if fl < rk then mx (l + one) (r + other) - one else l),.int (if fl < rk then mx (l + one) (r + other) - other else r)]:=by
 subst hb
 by_cases e:fl < rk
 ·rw [if_pos (decide_eq_true e)] at h
  rw [if_pos e,if_pos e]
  exact h
 ·rw [if_neg (by rw [decide_eq_false e];exact Bool.false_ne_true)] at h
  rw [if_neg e,if_neg e]
  exact h
inductive xk (K:W.Frag) (A:Adr) (vs:List V) (H:Hp) (Q:VK) (E9:XK):Prop
 | mk (s L pm:Addr) (ns:List Int) (xh:List V) (rk fl:Int) (a b:Nat) (z0:vs=[.ref s,.ref L,.ref pm,.int fl,.bl (decide (fl < rk))]) (z1:SqL K H s (ns.map V.int)) (z2:H L=some (.lst xh)) (z3:aD A N5 H xh (hs5 rk)) (z4:rk=0 \/ rk=1 \/ rk=2) (z5:SqT K H pm [.int a,.int b]) (z6:a <= 6) (z7:b <= 6) (z8:∀H',aq H H'->Q (.bl true) H'):xk K A vs H Q E9
theorem Cr (T:Txt K mg A):T.mL.Hz P w base 17 (xk K A):=by
 refine T.mL.hs (k:=16) cO (fun f cdv A' outer s H vs Q E' hr hu h=>?_)
 obtain ⟨sc,L,pm,ns,xh,rk,fl,a,b,rfl,hS,hL,ph,hrk,hm,la,lb,q⟩:=h
 refine ⟨_,(af (pst 5 cO.nd (aj (hj:=by omega) (Ba T) hr (aa (aj (hj:=by omega) (jK T) hr (aa (fv 0) (aa ao ae))) ae)))
  (af (pst 6 cO.nd (aj (hj:=by omega) (oG T) hr (aa (fv 0) (aa ao (aa (px hu (fv 2) ao) (aa (px hu (fv 2) ao) ae))))))
  (af (pst 7 cO.nd (aX (hj:=by omega) T.aP (d7 T) hr (aa (fv 1) (aa (aZ ae) (aa (aZ (aa (aj (hj:=by omega) (wY T) hr (aa ao (aa (fv 5) (aa (fv 2) (aa (fv 6) ae))))) ae)) ae)))))
  (af (lI (aj (hj:=by omega) (rX T) hr (aa (fv 7) (aa (fv 3) (aa (k8 (pec (mw hu) (fv 3) ao) (iT (pec (mw hu) (aG gm (aj (hj:=by omega) (jK T) hr (aa (fv 0) (aa ao ae))) ao) ao))) ae)))) (gS rfl (bc (pgn (i:=8) cO.nd rfl) (bc (pgn (i:=9) cO.nd rfl) eO))))
  (af (aV (PW.pt (pw_or (ptc (dz hu) (fv 8) (aG nA (aZ (aa ao ae)) (pcT rJ T.nN (aa (k8 (fv 4) (iT (pec (dz hu) (aG aU (px hu (fv 6) ao) (px hu (fv 2) ao)) (aG aU (px hu (fv 6) ao) (px hu (fv 2) ao))))) ae)))) (pw_or1 (ptc (dz hu) (pcB iP T.jf (aa (au (fv 9) rfl) ae)) ao))))
   (ah (ax eV))
   aE)
  (af (pst 10 cO.nd (aj (hj:=by omega) (tX T) hr (aa (fv 6) (aa (px hu (fv 2) ao) (aa (px hu (fv 2) ao) (aa (fv 4) ae))))))
  (af (aV (dO (aM (aj (hj:=by omega) (tu T) hr (aa (px hu (au (fv 7) rfl) ao) (aa ao (aa (fv 5) (aa (fv 2) (aa (fv 6) ae)))))) (fun _=>rfl)))
   (ah (ax eV))
   aE)
  (ah (ax (aj (hj:=by omega) (tu T) hr (aa (px hu (au (fv 9) rfl) ao) (aa ao (aa (fv 5) (aa (fv 2) (aa (fv 10) ae))))))))))))))),?_⟩
 refine ag fun M1 K1=>⟨sc,ns,4,rfl,hS,by decide,⟨_,rfl,fun pv H1 s1 nv ev=>?_⟩⟩
 generalize cellAt ns 4=c at ev
 refine K1 _ _ ?_
 clear K1 M1
 try dsimp only
 refine ag fun M1 K1=>tix (j:=0) (s1.tup hm) rfl (tix (j:=1) (s1.tup hm) rfl ⟨_,ns,_,_,_,rfl,s1.seq hS,by decide,fun pi H2 s2 ni ei=>?_⟩)
 generalize (idl ns 5 a b).1=l at ei
 generalize (idl ns 5 a b).2=r at ei
 have t2:=s1.trans s2
 refine K1 _ _ ?_
 clear K1 M1
 try dsimp only
 refine ag fun M1 K1=>⟨Nat.zero_le _,fun R0 hR0=>?_⟩
 obtain ⟨s3,e3⟩:=alc hR0 (HO.lst [])
 generalize upd H2 R0 _=H3 at s3 e3 ⊢
 refine ⟨4,pv,pm,pi,cK c,a,b,l,r,rfl,(s2.trans s3) _ _ ev,(t2.trans s3).tup hm,SqT.of (s3 _ _ ei),la,lb,fun pq H4 s4 nq pq4=>⟨by show 1 <= sizeLine;decide,fun R1 hR1=>?_⟩⟩
 obtain ⟨s5,e5⟩:=alc hR1 (HO.lst [.ref pq])
 generalize upd H4 R1 _=H5 at s5 e5 ⊢
 have t5:=(t2.trans s3).trans (s4.trans s5)
 refine fun r6 dx6 hr6 hd_ hne_=>⟨_,_,_,_,_,_,_,_,_,rfl,rfl,hr6,hd_,SqL.of (t5 _ _ hL),SqL.of ((s4.trans s5) _ _ e3),SqL.of e5,fun n6 n7 n8 H6 f6 f7 f8 s6 h6 h7 h8 hx=>⟨rfl,K1 _ _ ?_⟩⟩
 clear K1 M1
 have t6:=t5.trans s6
 have pq6:aF A N5 H6 (.ref pq) (rIf (cK c) l r a b):=aF.same (s5.trans s6) _ _ pq4
 have pg:gf A N5 H6 (.ref r6) (hs5 rk) [] [rIf (cK c) l r a b]:=⟨r6,dx6,n6,n7,n8,_,_,_,rfl,hx,h6,h7,h8,aD.same t6 _ _ ph,aD.nil,aD.one pq6⟩
 have ev6:=((s2.trans s3).trans ((s4.trans s5).trans s6)) _ _ ev
 have ei6:=(s3.trans ((s4.trans s5).trans s6)) _ _ ei
 have O:=CY hrk c l r la lb
 try dsimp only
 refine ag fun M1 K1=>?_
 have fin:∀(R e:Addr) (H':Hp),aq H6 H'->H' R=some (.lst ((da (decide (fl < rk) && decide (l + (a:Int) ≠ r + (b:Int))) 4).map V.int))->gf A N5 H' (.ref e) (hs5 rk) [] [rIf (cK c) (if fl < rk then mx (l + a) (r + b) - a else l) (if fl < rk then mx (l + a) (r + b) - b else r) a b]->M1 [some (.ref sc),some (.ref L),some (.ref pm),some (.int fl),some (.bl (decide (fl < rk))),some (.ref pv),some (.ref pi),some (.ref r6),some (.ref R),some (.ref e),none] H':=by
  rintro R e H7 s7 eR ⟨_,dx7,m0,m1,m2,y0,y1,y2,ee,he,g0,g1,g2,b0,b1,b2⟩
  cases ee
  obtain ⟨y,rfl,py⟩:=b2.yE
  refine K1 _ _ ?_
  clear K1 M1
  have t7:=t6.trans s7
  try dsimp only
  refine ag fun M2 K2=>?_
  have fin2:∀H',aq H7 H'->M2 [some (.ref sc),some (.ref L),some (.ref pm),some (.int fl),some (.bl (decide (fl < rk))),some (.ref pv),some (.ref pi),some (.ref r6),some (.ref R),some (.ref e),none] H':=by
   intro H8 s8
   refine K2 _ _ ?_
   clear K2 M2
   have t8:=t7.trans s8
   try dsimp only
   refine ag fun M2 K2=>tix (j:=0) (t8.tup hm) rfl (tix (j:=1) (t8.tup hm) rfl ⟨pi,l,r,a,b,_,rfl,SqT.of ((s7.trans s8) _ _ ei6),fun pd H9 s9 hd=>K2 _ _ ?_⟩)
   clear K2 M2
   have s79:=s7.trans (s8.trans s9)
   have t9:=t6.trans s79
   have hd':=oU rfl hd
   try dsimp only
   refine ag fun M2 K2=>fdI (s79 _ _ hx) T.aP.cl T.ba rfl (lix (SqL.of (s79 _ _ h8)) rfl ⟨H6,_,4,pv,pm,pi,cK c,l,r,a,b,rfl,s79,pq6,SqT.of (s79 _ _ ev6),vG c,t9.tup hm,SqT.of (s79 _ _ ei6),la,lb,fun H10 s10=>⟨_,rfl,aN (K2 _ _ ?_)⟩⟩)
   clear K2 M2
   have s810:=(s8.trans s9).trans s10
   have s710:=s7.trans s810
   try dsimp only
   exact fdI (s810 _ _ he) T.aP.cl T.ba rfl (lix (SqL.of (s810 _ _ g2)) rfl ⟨H7,_,4,pv,pm,pd,cK c,_,_,a,b,rfl,s810,py,SqT.of (s710 _ _ ev6),vG c,(t6.trans s710).tup hm,s10.tup hd',la,lb,fun H11 s11=>q H11 ((t6.trans s710).trans s11)⟩)
  have lnq:∀H',aq H7 H'->∀{R:Bool->Hp->Prop},R false H'->mi K "main" (.ref e) H' fun v H2=>x3 K [v] H2 (fun x H3=>fNe K x (.int 1) H3 fun z H4=>blI z H4 R) \/ AR [v] H2 (fun x H3=>fNe K x (.int 1) H3 fun z H4=>blI z H4 R):=fun H' s8 R k=>fdI (s8 _ _ he) T.aP.cl T.ba rfl (lnl (s8 _ _ g2) ⟨rfl,_,rfl,k⟩)
  refine ⟨by show 1 <= sizeLine;decide,fun D hD=>⟨_,rfl,?_⟩⟩
  obtain ⟨s8,e8⟩:=alc hD (HO.lst [.int 4])
  generalize upd H7 D _=H8 at s8 e8 ⊢
  cases ec:decide (fl < rk) with
  | false =>
   rw [ec] at eR
   refine aN (l5 e8 fun lq hlq=>?_)
   obtain ⟨s9,e9⟩:=alc hlq (HO.lst ((da false 4).map V.int))
   generalize upd H8 lq _=H9 at s9 e9 ⊢
   have s79:=s8.trans s9
   exact ky (SqL.of (s79 _ _ eR)) (SqL.of e9) ⟨_,rfl,aN (lnq _ s79 (aN (ec ▸ fin2 _ s79)))⟩
  | true =>
   rw [ec] at eR
   have hi8:=(s7.trans s8) _ _ ei6
   have hm8:=(t7.trans s8).tup hm
   refine bU (tix (j:=0) (SqT.of hi8) rfl (tix (j:=0) hm8 rfl (tix (j:=1) (SqT.of hi8) rfl (tix (j:=1) hm8 rfl ⟨rfl,l5 e8 fun lq hlq=>?_⟩))))
   have eb:(!decide (V.int (l + (a:Int))=.int (r + (b:Int))))=(true && decide (l + (a:Int) ≠ r + (b:Int))):=by
    rw [Bool.true_and,<- decide_not]
    exact decide_eq_decide.mpr ⟨fun z e=>z (congrArg V.int e),fun z e=>z (V.int.inj e)⟩
   rw [eb]
   obtain ⟨s9,e9⟩:=alc hlq (HO.lst ((da (true && decide (l + (a:Int) ≠ r + (b:Int))) 4).map V.int))
   generalize upd H8 lq _=H9 at s9 e9 ⊢
   have s79:=s8.trans s9
   exact ky (SqL.of (s79 _ _ eR)) (SqL.of e9) ⟨_,rfl,aN (lnq _ s79 (aN (ec ▸ fin2 _ s79)))⟩
 have asked:∀d:Bool,(d=true->fl=0)->lY A [.ref r6,.int fl,.bl d] H6 (fun v H'=>DD K 2 (uw (kY 8) (uw (kY 9) DP)) v [some (.ref sc),some (.ref L),some (.ref pm),some (.int fl),some (.bl (decide (fl < rk))),some (.ref pv),some (.ref pi),some (.ref r6),none,none,none] H' M1) E0:=fun d hd=>by
  refine ⟨N5,H6,_,fl,d,hs5 rk,[],[rIf (cK c) l r a b],rfl,aq.refl _,pg,O,hd,fun p R e ns' H' s' hp hR pm' pw' pe=>?_⟩
  rw [List.map_nil,EC hrk c l r fl la lb] at pe
  rw [E3 hrk c l r fl la lb] at pm'
  have eu:(if fl < rk/\l + (a:Int) ≠ r + (b:Int) then [(4:Int)] else [])=da (decide (fl < rk) && decide (l + (a:Int) ≠ r + (b:Int))) 4:=by
   unfold da
   by_cases h1:fl < rk
   ·by_cases h2:l + (a:Int)=r + (b:Int)
    ·simp [h1,h2]
    ·simp [h1,h2]
   ·simp [h1]
  rw [eu] at pm'
  rw [ou pm' pw' (rY _ _)] at hR
  exact ⟨p,_,rfl,SqT.of hp,rfl,_,_,rfl,_,_,rfl,rfl,fin R e H' s' hR pe⟩
 refine ⟨rfl,_,rfl,de (fun z=>?_) (fun z=>asked false fun z=>by cases z)⟩
 exact ⟨sc,ns,7,rfl,t6.seq hS,by decide,by show (0:Int) < 2;decide,rfl,asked _ fun _=>V.int.inj (of_decide_eq_true z)⟩
end
section
variable {P:Program}{w:World}{K:W.Frag}{mg:Str->Option Value}{base:Heap}{A:Adr}{N:Nat->Str}
seal PE PA PS PSs PT PW
def zq (ns:List Int):Int:=1 + cellAt ns 4 % 15
theorem CK (ns:List Int):0 <= zq ns/\zq ns <= 1000:=by
 obtain ⟨c0,c1⟩:=lA (cellAt ns 4) (show (0:Int) < 15 by decide)
 unfold zq
 omega
theorem CP (T:Txt K mg A):T.jI.Hz P w base 17 (xk K A):=by
 refine T.jI.hs (k:=16) b3 (fun f cdv A' outer s H vs Q E' hr hu h=>?_)
 obtain ⟨sc,L,pm,ns,xh,rk,fl,a,b,rfl,hS,hL,ph,hrk,hm,la,lb,q⟩:=h
 refine ⟨_,(af (pst 5 b3.nd (aG aU ao (aG gm (aj (hj:=by omega) (jK T) hr (aa (fv 0) (aa ao ae))) ao)))
  (af (pst 6 b3.nd (aj (hj:=by omega) (oG T) hr (aa (fv 0) (aa ao (aa (px hu (fv 2) ao) (aa ao ae))))))
  (af (pst 7 b3.nd (aX (hj:=by omega) T.aP (d7 T) hr (aa (fv 1) (aa (aZ ae) (aa (aZ (aa (aX (hj:=by omega) T.aA (jy T) hr (aa ao (aa br (aa (fv 5) (aa (aj (hj:=by omega) (rK T) hr (aa ao (aa (px hu (fv 2) ao) ae))) (aa (px hu (fv 6) ao) (aa (px hu (fv 6) ao) ae))))))) ae)) ae)))))
  (af (lI (aj (hj:=by omega) (rX T) hr (aa (fv 7) (aa (fv 3) (aa (k8 (pec (mw hu) (fv 3) ao) (iT (pec (mw hu) (aG gm (aj (hj:=by omega) (jK T) hr (aa (fv 0) (aa ao ae))) ao) ao))) ae)))) (gS rfl (bc (pgn (i:=8) b3.nd rfl) (bc (pgn (i:=9) b3.nd rfl) eO))))
  (af (aV (PW.pt (pw_or (ptc (dz hu) (fv 8) (aG nA (aZ (aa ao ae)) (pcT rJ T.nN (aa (k8 (fv 4) (iT (pec (dz hu) (aG aU (px hu (fv 6) ao) (px hu (fv 2) ao)) (px hu (fv 6) ao)))) ae)))) (pw_or1 (ptc (dz hu) (pcB iP T.jf (aa (au (fv 9) rfl) ae)) ao))))
   (ah (ax eV))
   aE)
  (af (pst 10 b3.nd (px hu (au (fv 9) rfl) ao))
  (af (aV (PW.pt (pw_or (dO (aM (pcB aH T.av (aa (fv 10) (aa (aO T.aA.mg) ae))) (fun _=>rfl))) (pw_or (ptc (dz hu) (au (fv 10) rfl) ao) (pw_or (ptc (dz hu) (au (fv 10) rfl) br) (pw_or1 (ptc (dz hu) (au (fv 10) rfl) (fv 5)))))))
   (ah (ax eV))
   aE)
  (af (aV (PW.pt (pw_or (dO (aM (aj (hj:=by omega) (oH T) hr (aa (px hu (au (fv 7) rfl) ao) (aa (fv 6) ae))) (fun _=>rfl))) (pw_or1 (dO (aM (aj (hj:=by omega) (rR T) hr (aa (au (fv 10) rfl) (aa ao (aa (px hu (fv 2) ao) ae)))) (fun _=>rfl))))))
   (ah (ax eV))
   aE)
  (ah (ax (aj (hj:=by omega) (oH T) hr (aa (fv 10) (aa (aj (hj:=by omega) (tX T) hr (aa (fv 6) (aa (px hu (fv 2) ao) (aa ao (aa (fv 4) ae))))) ae))))))))))))),?_⟩
 refine ag fun M1 K1=>⟨sc,ns,4,rfl,hS,by decide,by show (0:Int) < 15;decide,K1 [some (.ref sc),some (.ref L),some (.ref pm),some (.int fl),some (.bl (decide (fl < rk))),some (.int (zq ns)),none,none,none,none,none] H ?_⟩
 clear K1 M1
 have hm0:=CK ns
 generalize zq ns=m at hm0 ⊢
 try dsimp only
 refine ag fun M1 K1=>tix (j:=0) hm rfl ⟨_,ns,_,_,_,rfl,hS,by decide,fun pi H2 s2 ni ei=>?_⟩
 generalize (idl ns 5 a 0).1=l at ei
 generalize (idl ns 5 a 0).2=r at ei
 refine K1 _ _ ?_
 clear K1 M1
 try dsimp only
 refine ag fun M1 K1=>⟨Nat.zero_le _,fun R0 hR0=>?_⟩
 obtain ⟨s3,e3⟩:=alc hR0 (HO.lst [])
 generalize upd H2 R0 _=H3 at s3 e3 ⊢
 refine tix (j:=0) ((s2.trans s3).tup hm) rfl ⟨5,a,rfl,la,fun RS ys H4 s4 nS eS pS=>?_⟩
 have hi4:=SqT.of (K:=K) ((s3.trans s4) _ _ ei)
 refine tix (j:=0) hi4 rfl (tix (j:=1) hi4 rfl (fun r5 dx5 hr5 hd5_ hne5_=>⟨_,_,_,_,_,_,_,_,_,_,rfl,rfl,hr5,hd5_,SqL.of eS,fun n5 H5 f5 s5 h5 hx5=>⟨rfl,⟨by show 1 <= sizeLine;decide,fun R1 hR1=>?_⟩⟩⟩))
 obtain ⟨s5',e5⟩:=alc hR1 (HO.lst [.ref r5])
 generalize upd H5 R1 _=H5' at s5' e5 ⊢
 have t5:=((s2.trans s3).trans s4).trans (s5.trans s5')
 refine fun r6 dx6 hr6 hd_ hne_=>⟨_,_,_,_,_,_,_,_,_,rfl,rfl,hr6,hd_,SqL.of (t5 _ _ hL),SqL.of ((s4.trans (s5.trans s5')) _ _ e3),SqL.of e5,fun n6 n7 n8 H6 f6 f7 f8 s6 h6 h7 h8 hx=>⟨rfl,K1 _ _ ?_⟩⟩
 clear K1 M1
 have t6:=t5.trans s6
 have pq6:aF A N5 H6 (.ref r5) (rLp m l r a):=by
  unfold rLp aF
  exact ⟨r5,dx5,n5,ys,rfl,(s5'.trans s6) _ _ hx5,(s5'.trans s6) _ _ h5,aD.same (s5.trans (s5'.trans s6)) _ _ pS⟩
 have pg:gf A N5 H6 (.ref r6) (hs5 rk) [] [rLp m l r a]:=⟨r6,dx6,n6,n7,n8,_,_,_,rfl,hx,h6,h7,h8,aD.same t6 _ _ ph,aD.nil,aD.one pq6⟩
 have ei6:=(s3.trans (s4.trans ((s5.trans s5').trans s6))) _ _ ei
 have O:=Dq hrk hm0 l r la
 try dsimp only
 refine ag fun M1 K1=>?_
 have fin:∀(R e:Addr) (H':Hp),aq H6 H'->H' R=some (.lst ((da (decide (fl < rk) && decide (l + (a:Int) ≠ r)) 4).map V.int))->gf A N5 H' (.ref e) (hs5 rk) [] [rLp m (if fl < rk then mx (l + a) r - a else l) (if fl < rk then mx (l + a) r else r) a]->M1 [some (.ref sc),some (.ref L),some (.ref pm),some (.int fl),some (.bl (decide (fl < rk))),some (.int m),some (.ref pi),some (.ref r6),some (.ref R),some (.ref e),none] H':=by
  rintro R e H7 s7 eR ⟨_,dx7,m0,m1,m2,y0,y1,y2,ee,he,g0,g1,g2,b0,b1,b2⟩
  cases ee
  obtain ⟨y,rfl,py⟩:=b2.yE
  refine K1 _ _ ?_
  clear K1 M1
  have t7:=t6.trans s7
  try dsimp only
  refine ag fun M2 K2=>?_
  have fin2:∀H',aq H7 H'->M2 [some (.ref sc),some (.ref L),some (.ref pm),some (.int fl),some (.bl (decide (fl < rk))),some (.int m),some (.ref pi),some (.ref r6),some (.ref R),some (.ref e),none] H':=by
   intro H8 s8
   refine K2 _ _ ?_
   clear K2 M2
   have t8:=t7.trans s8
   try dsimp only
   refine ag fun M2 K2=>fdI (s8 _ _ he) T.aP.cl T.ba rfl (lix (SqL.of (s8 _ _ g2)) rfl (K2 _ _ ?_))
   clear K2 M2
   have py':=py
   unfold rLp aF at py'
   obtain ⟨ay,dxy,pb,xb,rfl,q1,q2,q3⟩:=py'
   try dsimp only
   refine ag fun M2 K2=>dZ T s8 py (j:=12) rfl (aN (fdI (s8 _ _ q1) T.aA.cl T.bZ rfl ⟨rfl,_,rfl,de (fun z=>absurd z (j6 (.int 4))) (fun _=>fdI (s8 _ _ q1) T.aA.cl T.cV rfl ⟨rfl,_,rfl,de (fun z=>absurd z (j6 (.str "x"))) (fun _=>fdI (s8 _ _ q1) T.aA.cl T.cy rfl ⟨rfl,_,rfl,de (fun z=>absurd z (j6 (.int m))) (fun _=>K2 _ _ ?_)⟩)⟩)⟩))
   clear K2 M2
   have s78:=s7.trans s8
   try dsimp only
   refine ag fun M2 K2=>fdI (s78 _ _ hx) T.aP.cl T.ba rfl (lix (SqL.of (s78 _ _ h8)) rfl ⟨H6,_,rLp m l r a,l,r,pi,rfl,s78,pq6,rfl,SqT.of (s78 _ _ ei6),fun H9 s9=>⟨_,rfl,aN ?_⟩⟩)
   have s89:=s8.trans s9
   refine fdI (s89 _ _ q1) T.aA.cl T.bK rfl (tix (j:=0) ((t8.trans s9).tup hm) rfl ⟨H7,pb,xb,5,a,rfl,s89,q2,q3,la,fun H10 s10=>⟨_,rfl,aN (K2 _ _ ?_)⟩⟩)
   clear K2 M2
   have s710:=s89.trans s10
   have t10:=t7.trans s710
   try dsimp only
   refine tix (j:=0) (t10.tup hm) rfl ⟨pi,l,r,a,0,_,rfl,SqT.of ((s7.trans s710) _ _ ei6),fun pd H11 s11 hd=>?_⟩
   have hd':=oU rfl hd
   refine ⟨H7,_,_,_,_,pd,rfl,s710.trans s11,py,rfl,?_,fun H12 s12=>q H12 ((t10.trans s11).trans s12)⟩
   rw [Int.add_zero,Int.sub_zero] at hd'
   exact hd'
  have lnq:∀H',aq H7 H'->∀{R:Bool->Hp->Prop},R false H'->mi K "main" (.ref e) H' fun v H2=>x3 K [v] H2 (fun x H3=>fNe K x (.int 1) H3 fun z H4=>blI z H4 R) \/ AR [v] H2 (fun x H3=>fNe K x (.int 1) H3 fun z H4=>blI z H4 R):=fun H' s8 R k=>fdI (s8 _ _ he) T.aP.cl T.ba rfl (lnl (s8 _ _ g2) ⟨rfl,_,rfl,k⟩)
  refine ⟨by show 1 <= sizeLine;decide,fun D hD=>⟨_,rfl,?_⟩⟩
  obtain ⟨s8,e8⟩:=alc hD (HO.lst [.int 4])
  generalize upd H7 D _=H8 at s8 e8 ⊢
  cases ec:decide (fl < rk) with
  | false =>
   rw [ec] at eR
   refine aN (l5 e8 fun lq hlq=>?_)
   obtain ⟨s9,e9⟩:=alc hlq (HO.lst ((da false 4).map V.int))
   generalize upd H8 lq _=H9 at s9 e9 ⊢
   have s79:=s8.trans s9
   exact ky (SqL.of (s79 _ _ eR)) (SqL.of e9) ⟨_,rfl,aN (lnq _ s79 (aN (ec ▸ fin2 _ s79)))⟩
  | true =>
   rw [ec] at eR
   have hi8:=(s7.trans s8) _ _ ei6
   have hm8:=(t7.trans s8).tup hm
   refine bU (tix (j:=0) (SqT.of hi8) rfl (tix (j:=0) hm8 rfl (tix (j:=1) (SqT.of hi8) rfl ⟨rfl,l5 e8 fun lq hlq=>?_⟩)))
   have eb:(!decide (V.int (l + (a:Int))=.int r))=(true && decide (l + (a:Int) ≠ r)):=by
    rw [Bool.true_and,<- decide_not]
    exact decide_eq_decide.mpr ⟨fun z e=>z (congrArg V.int e),fun z e=>z (V.int.inj e)⟩
   rw [eb]
   obtain ⟨s9,e9⟩:=alc hlq (HO.lst ((da (true && decide (l + (a:Int) ≠ r)) 4).map V.int))
   generalize upd H8 lq _=H9 at s9 e9 ⊢
   have s79:=s8.trans s9
   exact ky (SqL.of (s79 _ _ eR)) (SqL.of e9) ⟨_,rfl,aN (lnq _ s79 (aN (ec ▸ fin2 _ s79)))⟩
 have asked:∀d:Bool,(d=true->fl=0)->lY A [.ref r6,.int fl,.bl d] H6 (fun v H'=>DD K 2 (uw (kY 8) (uw (kY 9) DP)) v [some (.ref sc),some (.ref L),some (.ref pm),some (.int fl),some (.bl (decide (fl < rk))),some (.int m),some (.ref pi),some (.ref r6),none,none,none] H' M1) E0:=fun d hd=>by
  refine ⟨N5,H6,_,fl,d,hs5 rk,[],[rLp m l r a],rfl,aq.refl _,pg,O,hd,fun p R e ns' H' s' hp hR pm' pw' pe=>?_⟩
  rw [List.map_nil,E7 hrk m l r fl la] at pe
  rw [Ea hrk m l r fl la] at pm'
  have eu:(if fl < rk/\l + (a:Int) ≠ r then [(4:Int)] else [])=da (decide (fl < rk) && decide (l + (a:Int) ≠ r)) 4:=by
   unfold da
   by_cases h1:fl < rk
   ·by_cases h2:l + (a:Int)=r
    ·simp [h1,h2]
    ·simp [h1,h2]
   ·simp [h1]
  rw [eu] at pm'
  rw [ou pm' pw' (rY _ _)] at hR
  exact ⟨p,_,rfl,SqT.of hp,rfl,_,_,rfl,_,_,rfl,rfl,fin R e H' s' hR pe⟩
 refine ⟨rfl,_,rfl,de (fun z=>?_) (fun z=>asked false fun z=>by cases z)⟩
 exact ⟨sc,ns,7,rfl,t6.seq hS,by decide,by show (0:Int) < 2;decide,rfl,asked _ fun _=>V.int.inj (of_decide_eq_true z)⟩
end
section
variable {P:Program}{w:World}{K:W.Frag}{mg:Str->Option Value}{base:Heap}{A:Adr}{N:Nat->Str}
seal PE PA PS PSs PT PW
theorem y4 {H:Hp} (ns:List Int):∃d,(∀p,SqL K H p (ns.map V.int)->iK K H (.ref p) d)/\SeqAt.shaped d=true/\¬ (!PyData.eqv d d)=true:=by
 obtain ⟨ds,h1,h2,h3⟩:=mD (K:=K) (H:=H) (xs:=ns.map V.int) fun x hx=>by
  obtain ⟨i,_,rfl⟩:=List.mem_map.mp hx
  exact .inl ⟨i,rfl⟩
 refine ⟨.list ds,fun p hp=>.lst hp h1,by simp [SeqAt.shaped,PyData.canLay0,PyData.depth,h2,h3],?_⟩
 rw [SeqAt.eqv_refl _ (by simp [PyData.canLay0,h2])]
 decide
def neI (x y:Int):Bool:=!decide (V.int x=V.int y)
theorem Ak (x y:Int):neI x y=decide (x ≠ y):=by
 unfold neI
 rw [<- decide_not]
 exact decide_eq_decide.mpr ⟨fun z e=>z (congrArg V.int e),fun z e=>z (V.int.inj e)⟩
theorem one_le (d:Bool) (n:Int):((da d n).map V.int).length <= 1:=by
 cases d <;> simp [da]
def vS (hi u v:Bool) (n:Int):List Int:=da (hi && u) 4 ++ da (hi && (u || v)) n
theorem Dp {fl rk l r p q n:Int}{a b:Nat}:(if fl < rk/\l + (a:Int) ≠ r + b then [(4:Int)] else []) ++ (if fl < rk/\¬ (l + (a:Int)=r + b/\p + (1 + (1 + l + a))=q) then [n] else [])=vS (decide (fl < rk)) (neI (l + a) (r + b)) (neI (p + 1 + (1 + mx (l + a) (r + b))) q) n:=by
 unfold vS
 rw [Ak,Ak]
 by_cases h:fl < rk
 ·by_cases e:l + (a:Int)=r + b
  ·have em:mx (l + (a:Int)) (r + b)=l + a:=by
    unfold mx
    split <;> omega
   rw [em]
   by_cases g:p + (1 + (1 + l + (a:Int)))=q
   ·have g':p + 1 + (1 + (l + (a:Int)))=q:=by omega
    rw [if_neg fun z=>z.2 e,if_neg fun z=>z.2 ⟨e,g⟩,decide_eq_true h,decide_eq_false (p:=l + (a:Int) ≠ r + b) (fun z=>z e),decide_eq_false (p:=p + 1 + (1 + (l + (a:Int))) ≠ q) (fun z=>z g')]
    rfl
   ·have g':¬ p + 1 + (1 + (l + (a:Int)))=q:=by omega
    rw [if_neg fun z=>z.2 e,if_pos ⟨h,fun z=>g z.2⟩,decide_eq_true h,decide_eq_false (p:=l + (a:Int) ≠ r + b) (fun z=>z e),decide_eq_true (p:=p + 1 + (1 + (l + (a:Int))) ≠ q) g']
    rfl
  ·rw [if_pos ⟨h,e⟩,if_pos ⟨h,fun z=>e z.1⟩,decide_eq_true h,decide_eq_true (p:=l + (a:Int) ≠ r + b) e]
   rfl
 ·rw [if_neg fun z=>h z.1,if_neg fun z=>h z.1,decide_eq_false h]
  rfl
theorem Cw {hi u v:Bool}{n:Int} (hn:4 <= n):(vS hi u v n).Pairwise (· <= ·):=by
 unfold vS
 refine List.pairwise_append.mpr ⟨rY _ _,rY _ _,fun x hx y hy=>?_⟩
 have e1:x=4:=by
  unfold da at hx
  split at hx
  ·exact List.mem_singleton.mp hx
  ·cases hx
 have e2:y=n:=by
  unfold da at hy
  split at hy
  ·exact List.mem_singleton.mp hy
  ·cases hy
 omega
theorem CV (T:Txt K mg A):T.jV.Hz P w base 17 (xk K A):=by
 refine T.jV.hs (k:=16) aS (fun f cdv A' outer s H vs Q E' hr hu h=>?_)
 obtain ⟨sc,L,pm,ns,xh,rk,fl,a,b,rfl,hS,hL,ph,hrk,hm,la,lb,q⟩:=h
 refine ⟨_,(af (pst 5 aS.nd (aj (hj:=by omega) (oG T) hr (aa (fv 0) (aa ao (aa (px hu (fv 2) ao) (aa (px hu (fv 2) ao) ae))))))
  (af (pst 6 aS.nd (aj (hj:=by omega) (wY T) hr (aa ao (aa (bR (aa (aG gm (aj (hj:=by omega) (jK T) hr (aa (fv 0) (aa ao ae))) ao) ae)) (aa (fv 2) (aa (fv 5) ae))))))
  (af (pst 7 aS.nd (aG aU ao (pcB nK T.jF (aa (aG aU (px hu (fv 5) ao) (px hu (fv 2) ao)) (aa (aG aU (px hu (fv 5) ao) (px hu (fv 2) ao)) ae)))))
  (af (pst 8 aS.nd (aj (hj:=by omega) (oG T) hr (aa (fv 0) (aa ao (aa (aG aU ao (fv 7)) (aa ao ae))))))
  (af (pst 9 aS.nd (aG aU (aG aU ao (px hu (fv 2) ao)) (px hu (fv 2) ao)))
  (af (pst 10 aS.nd (aX (hj:=by omega) T.aY (jQ T) hr (aa ao (aa br (aa (aZ ae) (aa (aZ (aa (fv 6) ae)) ae))))))
  (af (pst 11 aS.nd (aX (hj:=by omega) T.aP (d7 T) hr (aa (fv 1) (aa (aZ (aa (fv 10) ae)) (aa (aZ (aa (aX (hj:=by omega) T.aJ (jb T) hr (aa (fv 9) (aa (bR (aa br ae)) (aa (aZ (aa (aX (hj:=by omega) T.aW (jt T) hr (aa (aG aU (fv 9) ao) (aa br (aa (aZ ae) ae)))) ae)) (aa (aZ ae) (aa (px hu (fv 8) ao) (aa (px hu (fv 8) ao) ae))))))) ae)) ae)))))
  (af (lI (aj (hj:=by omega) (rX T) hr (aa (fv 11) (aa (fv 3) (aa eV ae)))) (gS rfl (bc (pgn (i:=12) aS.nd rfl) (bc (pgn (i:=13) aS.nd rfl) eO))))
  (af (pst 14 aS.nd (pec (dz hu) (aG aU (px hu (fv 5) ao) (px hu (fv 2) ao)) (aG aU (px hu (fv 5) ao) (px hu (fv 2) ao))))
  (af (pst 15 aS.nd (aG aU (aG nA (aZ (aa ao ae)) (pcT rJ T.nN (aa (k8 (fv 4) (iT (fv 14))) ae))) (aG nA (aZ (aa (fv 9) ae)) (pcT rJ T.nN (aa (k8 (fv 4) (iT (xq (fv 14) (iT (pec (dz hu) (aG aU (aG aU (px hu (fv 8) ao) ao) (fv 7)) (px hu (fv 8) ao)))))) ae)))))
  (af (aV (PW.pt (pw_or (ptc (dz hu) (fv 12) (fv 15)) (pw_or (ptc (dz hu) (pcB iP T.jf (aa (au (fv 13) rfl) ae)) ao) (pw_or (ptc (dz hu) (pcB iP T.jf (aa (au (fv 13) rfl) ae)) ao) (pw_or1 (ptc (dz hu) (pcB iP T.jf (aa (au (px hu (au (fv 13) rfl) ao) rfl) ae)) ao))))))
   (ah (ax eV))
   aE)
  (af (pst 16 aS.nd (px hu (au (px hu (au (fv 13) rfl) ao) rfl) ao))
  (af (aV (dO (aM (aj (hj:=by omega) (tu T) hr (aa (fv 16) (aa ao (aa (au (fv 6) rfl) (aa (fv 2) (aa (aj (hj:=by omega) (tX T) hr (aa (fv 5) (aa (px hu (fv 2) ao) (aa (px hu (fv 2) ao) (aa (fv 4) ae))))) ae)))))) (fun _=>rfl)))
   (ah (ax eV))
   aE)
  (af (pst 17 aS.nd (px hu (au (fv 13) rfl) ao))
  (af (aV (PW.pt (pw_or (dO (aM (pcB aH T.av (aa (fv 17) (aa (aO T.aJ.mg) ae))) (fun _=>rfl))) (pw_or (ptc (dz hu) (au (fv 17) rfl) (fv 9)) (pw_or (ptc (dz hu) (au (fv 17) rfl) (bR (aa br ae))) (pw_or (ptc (dz hu) (au (fv 17) rfl) (aZ ae)) (pw_or1 (ptc (dz hu) (pcB iP T.jf (aa (au (fv 17) rfl) ae)) ao)))))))
   (ah (ax eV))
   aE)
  (af (pst 18 aS.nd (px hu (au (fv 17) rfl) ao))
  (af (aV (PW.pt (pw_or (dO (aM (pcB aH T.av (aa (fv 18) (aa (aO T.aW.mg) ae))) (fun _=>rfl))) (pw_or (ptc (dz hu) (au (fv 18) rfl) (aG aU (fv 9) ao)) (pw_or (ptc (dz hu) (au (fv 18) rfl) br) (pw_or1 (ptc (dz hu) (au (fv 18) rfl) (aZ ae)))))))
   (ah (ax eV))
   aE)
  (ah (ax (aj (hj:=by omega) (oH T) hr (aa (fv 17) (aa (aj (hj:=by omega) (tX T) hr (aa (fv 8) (aa (aG aU ao (fv 7)) (aa ao (aa (fv 4) ae))))) ae)))))))))))))))))))))),?_⟩
 refine ag fun M1 K1=>tix (j:=0) hm rfl (tix (j:=1) hm rfl ⟨_,ns,_,_,_,rfl,hS,by decide,fun pi H1 s1 ni ei=>?_⟩)
 generalize (idl ns 5 a b).1=l at ei
 generalize (idl ns 5 a b).2=r at ei
 refine K1 _ _ ?_
 clear K1 M1
 try dsimp only
 refine ag fun M1 K1=>⟨sc,ns,4,rfl,s1.seq hS,by decide,by show (0:Int) < 2;decide,by show 1 <= sizeLine;decide,fun tp htp=>?_⟩
 obtain ⟨s2,e2⟩:=alc htp (HO.tup [.int (cellAt ns 4 % 2)])
 generalize upd H1 tp _=H2 at s2 e2 ⊢
 generalize cellAt ns 4 % 2=c at e2
 refine ⟨4,tp,pm,pi,.one (.i c),a,b,l,r,rfl,e2,(s1.trans s2).tup hm,SqT.of (s2 _ _ ei),la,lb,fun pq H3 s3 nq pq3=>K1 _ _ ?_⟩
 clear K1 M1
 have t3:=(s1.trans s2).trans s3
 have ei3:=(s2.trans s3) _ _ ei
 try dsimp only
 refine ag fun M1 K1=>tix (j:=0) (SqT.of ei3) rfl (tix (j:=0) (t3.tup hm) rfl (tix (j:=1) (SqT.of ei3) rfl (tix (j:=1) (t3.tup hm) rfl ⟨_,_,rfl,K1 [some (.ref sc),some (.ref L),some (.ref pm),some (.int fl),some (.bl (decide (fl < rk))),some (.ref pi),some (.ref pq),some (.int (1 + mx (l + (a:Int)) (r + (b:Int)))),none,none,none,none,none,none,none,none,none,none,none] H3 ?_⟩)))
 clear K1 M1
 try dsimp only
 refine ag fun M1 K1=>⟨sc,ns,8,_,_,rfl,t3.seq hS,by decide,fun po H4 s4 no eo=>?_⟩
 generalize (idl ns 8 (1 + (1 + mx (l + (a:Int)) (r + (b:Int)))) 0).1=p at eo
 generalize (idl ns 8 (1 + (1 + mx (l + (a:Int)) (r + (b:Int)))) 0).2=q' at eo
 have t4:=t3.trans s4
 refine K1 _ _ ?_
 clear K1 M1
 try dsimp only
 refine ag fun M1 K1=>tix (j:=0) (t4.tup hm) rfl (tix (j:=1) (t4.tup hm) rfl (?_))
 obtain ⟨n,hn⟩:∃n:Int,n=9 + a + b:=⟨_,rfl⟩
 refine K1 _ _ ?_
 clear K1 M1
 try dsimp only
 refine ag fun M1 K1=>⟨Nat.zero_le _,fun R0 hR0=>⟨by show 1 <= sizeLine;decide,fun R1 hR1=>?_⟩⟩
 obtain ⟨s5,e5⟩:=alc hR0 (HO.lst [])
 generalize upd H4 R0 _=H5 at s5 e5 hR1 ⊢
 obtain ⟨s6,e6⟩:=alc hR1 (HO.lst [.ref pq])
 generalize upd H5 R1 _=H6 at s6 e6 ⊢
 refine fun rd dxd hrd hd_ hne_=>⟨_,_,_,_,_,_,_,_,_,rfl,rfl,hrd,hd_,SqL.of (s6 _ _ e5),SqL.of e6,fun nd0 nd1 H7 fd0 fd1 s7 hd0 hd1 hxd=>⟨rfl,K1 _ _ ?_⟩⟩
 clear K1 M1
 have s47:=(s5.trans s6).trans s7
 have t7:=t4.trans s47
 have pd7:aF A N5 H7 (.ref rd) (dF c l r a b):=by
  unfold dF aF
  exact ⟨rd,dxd,nd0,nd1,_,rfl,hxd,hd0,hd1,aD.one (aF.same (s4.trans s47) _ _ pq3)⟩
 try dsimp only
 refine ag fun M1 K1=>⟨by show 1 <= sizeLine;decide,fun R2 hR2=>?_⟩
 obtain ⟨s8,e8⟩:=alc hR2 (HO.lst [.ref rd])
 generalize upd H7 R2 _=H8 at s8 e8 ⊢
 refine ⟨by show 1 <= sizeLine;decide,fun tx htx=>?_⟩
 obtain ⟨s9,e9⟩:=alc htx (HO.tup [.str "x"])
 generalize upd H8 tx _=H9 at s9 e9 ⊢
 refine ⟨Nat.zero_le _,fun R3 hR3=>?_⟩
 obtain ⟨s10,e10⟩:=alc hR3 (HO.lst [])
 generalize upd H9 R3 _=H10 at s10 e10 ⊢
 refine fun rc dxc hrc hdc_ hnec_=>⟨_,_,_,_,_,_,_,rfl,rfl,hrc,hdc_,SqL.of e10,fun nc H11 fc s11 hc hxc=>⟨rfl,⟨by show 1 <= sizeLine;decide,fun R4 hR4=>⟨Nat.zero_le _,fun R5 hR5=>?_⟩⟩⟩⟩
 obtain ⟨s12,e12⟩:=alc hR4 (HO.lst [.ref rc])
 generalize upd H11 R4 _=H12 at s12 e12 hR5 ⊢
 obtain ⟨s13,e13⟩:=alc hR5 (HO.lst [])
 generalize upd H12 R5 _=H13 at s13 e13 ⊢
 have s713:=(s8.trans (s9.trans s10)).trans (s11.trans (s12.trans s13))
 have eo13:=SqT.of (K:=K) ((s47.trans s713) _ _ eo)
 refine tix (j:=0) eo13 rfl (tix (j:=1) eo13 rfl (fun ro dxo hro hdo_ hneo_=>⟨_,_,_,_,_,_,_,_,_,_,_,rfl,rfl,hro,hdo_,SqL.of (s13 _ _ e12),SqL.of e13,fun no0 no1 H14 fo0 fo1 s14 ho0 ho1 hxo=>⟨rfl,⟨by show 1 <= sizeLine;decide,fun R6 hR6=>?_⟩⟩⟩))
 obtain ⟨s15,e15⟩:=alc hR6 (HO.lst [.ref ro])
 generalize upd H14 R6 _=H15 at s15 e15 ⊢
 have s715:=s713.trans (s14.trans s15)
 refine fun r6 dx6 hr6 hd6_ hne6_=>⟨_,_,_,_,_,_,_,_,_,rfl,rfl,hr6,hd6_,SqL.of ((t7.trans s715) _ _ hL),SqL.of (((s9.trans s10).trans ((s11.trans (s12.trans s13)).trans (s14.trans s15))) _ _ e8),SqL.of e15,fun n6 n7 n8 H16 f6 f7 f8 s16 h6 h7 h8 hx=>⟨rfl,?_⟩⟩
 have s716:=s715.trans s16
 have t16:=t7.trans s716
 have po16:aF A N5 H16 (.ref ro) (bw n p q'):=by
  rw [hn]
  unfold bw aF
  refine ⟨ro,dxo,tx,no0,no1,_,_,rfl,(s15.trans s16) _ _ hxo,((s10.trans (s11.trans (s12.trans s13))).trans (s14.trans (s15.trans s16))) _ _ e9,(s15.trans s16) _ _ ho0,(s15.trans s16) _ _ ho1,aD.one ?_,aD.nil⟩
  unfold rCl aF
  have sc':=(s12.trans s13).trans (s14.trans (s15.trans s16))
  exact ⟨rc,dxc,nc,rfl,sc' _ _ hxc,fun o ho=>by cases ho;exact sc' _ _ hc⟩
 have pg:gf A N5 H16 (.ref r6) (hs5 rk) [dF c l r a b] [bw n p q']:=⟨r6,dx6,n6,n7,n8,_,_,_,rfl,hx,h6,h7,h8,aD.same t16 _ _ ph,aD.one (aF.same s716 _ _ pd7),aD.one po16⟩
 have ei16:=(s4.trans (s47.trans s716)) _ _ ei3
 have eo16:=(s47.trans s716) _ _ eo
 have pq16:=aF.same (s4.trans (s47.trans s716)) _ _ pq3
 have O:=CG hrk c l r p q' la lb hn
 refine K1 _ _ ?_
 clear K1 M1
 try dsimp only
 refine ag fun M1 K1=>⟨N5,H16,_,fl,false,hs5 rk,[dF c l r a b],[bw n p q'],rfl,aq.refl _,pg,O,fun z=>(by cases z),fun pt R e ns' H17 s17 hp hR pm' pw' pe=>?_⟩
 rw [(BX hrk c l r p q' fl la lb hn).1,(BX hrk c l r p q' fl la lb hn).2] at pe
 rw [El hrk c l r p q' fl la lb hn,Dp] at pm'
 rw [ou pm' pw' (Cw (by omega))] at hR
 subst hn
 refine ⟨pt,_,rfl,SqT.of hp,rfl,_,_,rfl,_,_,rfl,rfl,K1 _ _ ?_⟩
 clear K1 M1 pm' pw' hp
 obtain ⟨_,dx17,m0,m1,m2,y0,y1,y2,ee,he,g0,g1,g2,b0,b1,b2⟩:=pe
 cases ee
 obtain ⟨yd,rfl,pyd⟩:=b1.yE
 obtain ⟨ym,rfl,pym⟩:=b2.yE
 have t17:=t16.trans s17
 have ei17:=SqT.of (K:=K) (s17 _ _ ei16)
 have eo17:=SqT.of (K:=K) (s17 _ _ eo16)
 try dsimp only
 refine ag fun M1 K1=>tix (j:=0) ei17 rfl (tix (j:=0) (t17.tup hm) rfl (tix (j:=1) ei17 rfl (tix (j:=1) (t17.tup hm) rfl ⟨rfl,K1 [some (.ref sc),some (.ref L),some (.ref pm),some (.int fl),some (.bl (decide (fl < rk))),some (.ref pi),some (.ref pq),some (.int (1 + mx (l + (a:Int)) (r + (b:Int)))),some (.ref po),some (.int (9 + (a:Int) + b)),some (.ref rd),some (.ref r6),some (.ref R),some (.ref e),some (.bl (neI (l + a) (r + b))),none,none,none,none] H17 ?_⟩)))
 clear K1 M1
 try dsimp only
 refine ag fun M1 K1=>?_
 have fin:∀(D:Addr) (H':Hp),aq H17 H'->H' D=some (.lst ((vS (decide (fl < rk)) (neI (l + a) (r + b)) (neI (p + 1 + (1 + mx (l + a) (r + b))) q') (9 + (a:Int) + b)).map V.int))->M1 [some (.ref sc),some (.ref L),some (.ref pm),some (.int fl),some (.bl (decide (fl < rk))),some (.ref pi),some (.ref pq),some (.int (1 + mx (l + (a:Int)) (r + (b:Int)))),some (.ref po),some (.int (9 + (a:Int) + b)),some (.ref rd),some (.ref r6),some (.ref R),some (.ref e),some (.bl (neI (l + a) (r + b))),some (.ref D),none,none,none] H':=by
  intro D H18 s18 eD
  refine K1 _ _ ?_
  clear K1 M1
  have t18:=t17.trans s18
  have pyd':=pyd
  unfold dF aF at pyd'
  obtain ⟨ad,dxa,pp,pb,xb,rfl,k1,k2,k3,k4⟩:=pyd'
  obtain ⟨yi,rfl,pyi⟩:=k4.yE
  try dsimp only
  refine ag fun M1 K1=>?_
  obtain ⟨dd,hdd,shd,evd⟩:=y4 (K:=K) (H:=H18) (vS (decide (fl < rk)) (neI (l + a) (r + b)) (neI (p + 1 + (1 + mx (l + a) (r + b))) q') (9 + (a:Int) + b))
  refine ⟨dd,dd,hdd _ (SqL.of (s18 _ _ hR)),hdd _ (SqL.of eD),shd,shd,_,rfl,de (fun z=>absurd z evd) (fun _=>fdI (s18 _ _ he) T.aP.cl T.ba rfl (lnl (s18 _ _ g2) ⟨rfl,_,rfl,aN (fdI (s18 _ _ he) T.aP.cl T.a8 rfl (lnl (s18 _ _ g1) ⟨rfl,_,rfl,aN (fdI (s18 _ _ he) T.aP.cl T.a8 rfl (lix (SqL.of (s18 _ _ g1)) rfl (fdI (s18 _ _ k1) T.aY.cl T.bI rfl (lnl (s18 _ _ k3) ⟨rfl,_,rfl,aN (K1 _ _ ?_)⟩))))⟩))⟩))⟩
  clear K1 M1
  try dsimp only
  refine ag fun M1 K1=>fdI (s18 _ _ he) T.aP.cl T.a8 rfl (lix (SqL.of (s18 _ _ g1)) rfl (fdI (s18 _ _ k1) T.aY.cl T.bI rfl (lix (SqL.of (s18 _ _ k3)) rfl (K1 _ _ ?_))))
  clear K1 M1
  have s618:=s17.trans s18
  have pq':=pq16
  unfold aF at pq'
  obtain ⟨ai,dxi,pvi,pfi,poi,xfi,xoi,ei',w1,w2,_⟩:=pq'
  cases ei'
  try dsimp only
  refine ag fun M1 K1=>fdI (s618 _ _ w1) T.aJ.cl T.cv rfl (tix (j:=0) (t18.tup hm) rfl (tix (j:=1) (t18.tup hm) rfl ⟨pi,l,r,a,b,_,rfl,SqT.of (s618 _ _ ei16),fun pe H19 s19 hd=>?_⟩))
  have hd':=oU rfl hd
  have s719:=s18.trans s19
  have s619:=s17.trans s719
  refine ⟨H17,_,4,pvi,pm,pe,.one (.i c),_,_,a,b,rfl,s719,pyi,SqT.of (s619 _ _ w2),(fun x hx=>.inl ⟨_,List.mem_singleton.mp hx⟩),(t16.trans s619).tup hm,hd',la,lb,fun H20 s20=>⟨_,rfl,aN (K1 _ _ ?_)⟩⟩
  clear K1 M1
  have s720:=s719.trans s20
  have s620:=s17.trans s720
  try dsimp only
  refine ag fun M1 K1=>fdI (s720 _ _ he) T.aP.cl T.ba rfl (lix (SqL.of (s720 _ _ g2)) rfl (K1 _ _ ?_))
  clear K1 M1
  have pym':=pym
  unfold bw aF at pym'
  obtain ⟨am,dxm,pvm,pfm,pom,xfm,xom,rfl,v1,v2,v3,v4,v5,v6⟩:=pym'
  obtain ⟨yc,rfl,pyc⟩:=v5.yE
  have exo:xom=[]:=by
   unfold aD at v6
   exact v6
  subst exo
  try dsimp only
  refine ag fun M1 K1=>dZ T s720 pym (j:=11) rfl (aN (fdI (s720 _ _ v1) T.aJ.cl T.b5 rfl ⟨rfl,_,rfl,de (fun z=>absurd z (j6 (.int (9 + (a:Int) + b)))) (fun _=>fdI (s720 _ _ v1) T.aJ.cl T.cv rfl ⟨by show 1 <= sizeLine;decide,fun tz htz=>?_⟩)⟩))
  obtain ⟨s21,e21⟩:=alc htz (HO.tup [.str "x"])
  generalize upd H20 tz _=H21 at s21 e21 ⊢
  have s721:=s720.trans s21
  refine AH (xs:=[.str "x"]) (fun x hx=>.inr ⟨_,List.mem_singleton.mp hx,by decide +kernel⟩) (SqT.of (s721 _ _ v2)) (SqT.of e21) ⟨_,rfl,aN (fdI (s721 _ _ v1) T.aJ.cl T.bG rfl ⟨Nat.zero_le _,fun tz2 htz2=>?_⟩)⟩
  obtain ⟨s22,e22⟩:=alc htz2 (HO.lst [])
  generalize upd H21 tz2 _=H22 at s22 e22 ⊢
  have s722:=s721.trans s22
  refine ky (ns:=[]) (SqL.of (s722 _ _ v4)) (SqL.of e22) ⟨_,rfl,aN (fdI (s722 _ _ v1) T.aJ.cl T.bz rfl (lnl (s722 _ _ v3) ⟨rfl,_,rfl,aN (K1 _ _ ?_)⟩))⟩
  clear K1 M1
  try dsimp only
  refine ag fun M1 K1=>fdI (s722 _ _ v1) T.aJ.cl T.bz rfl (lix (SqL.of (s722 _ _ v3)) rfl (K1 _ _ ?_))
  clear K1 M1
  have pyc':=pyc
  unfold rCl aF at pyc'
  obtain ⟨ac,dxc',pc,rfl,u1,u2⟩:=pyc'
  have u2':=u2 _ rfl
  try dsimp only
  refine ag fun M1 K1=>dZ T s722 pyc (j:=9) rfl (aN (fdI (s722 _ _ u1) T.aW.cl T.bE rfl ⟨rfl,_,rfl,de (fun z=>absurd z (j6 (.int (9 + (a:Int) + b + 1)))) (fun _=>fdI (s722 _ _ u1) T.aW.cl T.bM rfl ⟨rfl,_,rfl,de (fun z=>absurd z (j6 (.str "f"))) (fun _=>fdI (s722 _ _ u1) T.aW.cl T.cz rfl ⟨Nat.zero_le _,fun tz3 htz3=>?_⟩)⟩)⟩))
  obtain ⟨s23,e23⟩:=alc htz3 (HO.lst [])
  generalize upd H22 tz3 _=H23 at s23 e23 ⊢
  have s723:=s722.trans s23
  refine ky (ns:=[]) (SqL.of (s723 _ _ u2')) (SqL.of e23) ⟨_,rfl,aN (K1 _ _ ?_)⟩
  clear K1 M1
  have s623:=s17.trans s723
  try dsimp only
  refine ⟨po,p,q',_,0,_,rfl,SqT.of (s623 _ _ eo16),fun pe2 H24 s24 hd2=>?_⟩
  have hd2':=oU rfl hd2
  exact ⟨H17,_,_,_,_,pe2,rfl,s723.trans s24,pym,rfl,hd2',fun H25 s25=>q H25 ((t16.trans s623).trans (s24.trans s25))⟩
 clear K1 pyd pym he g0 g1 g2 b0 b1 b2 hR pg O po16 pq16 pd7 pq3
 refine ⟨by show 1 <= sizeLine;decide,fun D1 hD1=>⟨_,rfl,?_⟩⟩
 obtain ⟨s18,e18⟩:=alc hD1 (HO.lst [.int 4])
 generalize upd H17 D1 _=H18 at s18 e18 ⊢
 have end':∀(x y:List Int) (l1 l2:Addr) (H':Hp),aq H17 H'->H' l1=some (.lst (x.map V.int))->H' l2=some (.lst (y.map V.int))->(x.map V.int).length <= 1->(y.map V.int).length <= 1->x ++ y=vS (decide (fl < rk)) (neI (l + a) (r + b)) (neI (p + 1 + (1 + mx (l + a) (r + b))) q') (9 + (a:Int) + b)->C8 (.ref l1) (.ref l2) H' fun v H2=>M1 [some (.ref sc),some (.ref L),some (.ref pm),some (.int fl),some (.bl (decide (fl < rk))),some (.ref pi),some (.ref pq),some (.int (1 + mx (l + (a:Int)) (r + (b:Int)))),some (.ref po),some (.int (9 + (a:Int) + b)),some (.ref rd),some (.ref r6),some (.ref R),some (.ref e),some (.bl (neI (l + a) (r + b))),some v,none,none,none] H2:=by
  intro x y l1 l2 H' s' h1 h2 z1 z2 exy
  exact ⟨l1,l2,_,_,rfl,rfl,h1,h2,sz (by omega),fun R3 hR3=>fin R3 _ (s'.trans (aq.upd hR3 _)) (by rw [aw,<- List.map_append,exy])⟩
 cases ec:decide (fl < rk) with
 | false =>
  rw [ec] at end'
  refine aN (l5 e18 fun l1 hl1=>?_)
  obtain ⟨s19,e19⟩:=alc hl1 (HO.lst ((da false 4).map V.int))
  generalize upd H18 l1 _=H19 at s19 e19 ⊢
  refine ⟨by show 1 <= sizeLine;decide,fun D2 hD2=>⟨_,rfl,?_⟩⟩
  obtain ⟨s20,e20⟩:=alc hD2 (HO.lst [.int (9 + (a:Int) + b)])
  generalize upd H19 D2 _=H20 at s20 e20 ⊢
  refine aN (l5 e20 fun l2 hl2=>?_)
  obtain ⟨s21,e21⟩:=alc hl2 (HO.lst ((da false (9 + (a:Int) + b)).map V.int))
  generalize upd H20 l2 _=H21 at s21 e21 ⊢
  exact end' _ _ l1 l2 H21 (s18.trans (s19.trans (s20.trans s21))) ((s20.trans s21) _ _ e19) e21 (one_le _ _) (one_le _ _) rfl
 | true =>
  rw [ec] at end'
  refine bU (l5 e18 fun l1 hl1=>?_)
  obtain ⟨s19,e19⟩:=alc hl1 (HO.lst ((da (neI (l + a) (r + b)) 4).map V.int))
  generalize upd H18 l1 _=H19 at s19 e19 ⊢
  refine ⟨by show 1 <= sizeLine;decide,fun D2 hD2=>⟨_,rfl,?_⟩⟩
  obtain ⟨s20,e20⟩:=alc hD2 (HO.lst [.int (9 + (a:Int) + b)])
  generalize upd H19 D2 _=H20 at s20 e20 ⊢
  refine bU ⟨_,rfl,?_⟩
  cases eu:neI (l + a) (r + b) with
  | true =>
   rw [eu] at end' e19
   refine bU (l5 e20 fun l2 hl2=>?_)
   obtain ⟨s21,e21⟩:=alc hl2 (HO.lst ((da true (9 + (a:Int) + b)).map V.int))
   generalize upd H20 l2 _=H21 at s21 e21 ⊢
   exact end' _ _ l1 l2 H21 (s18.trans (s19.trans (s20.trans s21))) ((s20.trans s21) _ _ e19) e21 (one_le _ _) (one_le _ _) rfl
  | false =>
   rw [eu] at end' e19
   have s720:=s18.trans (s19.trans s20)
   refine aN (tix (j:=0) (s720.tup eo17) rfl (tix (j:=1) (s720.tup eo17) rfl ⟨rfl,l5 e20 fun l2 hl2=>?_⟩))
   obtain ⟨s21,e21⟩:=alc hl2 (HO.lst ((da (neI (p + 1 + (1 + mx (l + a) (r + b))) q') (9 + (a:Int) + b)).map V.int))
   exact end' _ _ l1 l2 _ (s18.trans (s19.trans (s20.trans s21))) ((s20.trans s21) _ _ e19) e21 (one_le _ _) (one_le _ _) rfl
end
section
variable {P:Program}{w:World}{K:W.Frag}{mg:Str->Option Value}{base:Heap}{A:Adr}{N:Nat->Str}
seal PE PA PS PSs PT PW
theorem Aa {H1 H2:Hp}{r1 d1 r2 d2:Addr}{rk:Int} (h1:H1 r1=some (.ins A.bX d1 [("number",.int 1),("name",.str "ann"),("rank",.int 2)])) (s2:aq H1 H2) (h2:H2 r2=some (.ins A.bq d2 [("number",.int 2),("name",.str "x"),("rank",.int rk),("size",.int 0)])):aD A N5 H2 [.ref r1,.ref r2] (hs5 rk):=by
 unfold hs5
 refine aD.cons ?_ (aD.one ?_)
 ·unfold aF
  exact ⟨r1,d1,r1,rfl,s2 _ _ h1,fun o ho=>by cases ho⟩
 ·unfold aF
  exact ⟨r2,d2,r2,rfl,h2,fun o ho=>by cases ho⟩
def tW (K:W.Frag):Sp:=fun vs H Q _=>∃(a:Addr) (ns:List Int),vs=[.ref a]/\SqL K H a (ns.map V.int)/\ns.length <= 63/\∀H',Q (.bl true) H'
theorem DV (T:Txt K mg A) (F:aT K mg "law" pI ["_law_script"]):Has P w K mg base 18 "law" ["_law_script"] (tW K):=by
 have D_law_cell_at:=jK (P:=P) (w:=w) (base:=base) T
 refine F.hs (k:=17) nj (fun f cdv A' outer s0 H vs Q E hr hu h=>?_) (fun vs H Q E h=>by obtain ⟨a,ns,rfl,_⟩:=h;rfl)
 obtain ⟨sc,ns,rfl,hS,_,q⟩:=h
 refine ⟨_,(af (pst 1 nj.nd (aG gm (aj (hj:=by omega) D_law_cell_at hr (aa (fv 0) (aa ao ae))) ao))
  (af (pst 2 nj.nd (aG gm (aG rM (aj (hj:=by omega) D_law_cell_at hr (aa (fv 0) (aa ao ae))) ao) ao))
  (af (pst 3 nj.nd (bR (aa (aG gm (aj (hj:=by omega) D_law_cell_at hr (aa (fv 0) (aa ao ae))) ao) (aa (aG gm (aj (hj:=by omega) D_law_cell_at hr (aa (fv 0) (aa ao ae))) ao) ae))))
  (af (pst 4 nj.nd (aG gm (aj (hj:=by omega) D_law_cell_at hr (aa (fv 0) (aa ao ae))) ao))
  (af (aV (ptc (mw hu) (fv 4) ao)
   (ah (ax (aj (hj:=by omega) (CV T) hr (aa (fv 0) (aa (aZ (aa (aX (hj:=by omega) T.cI (fU T) hr (aa ao (aa br (aa ao ae)))) (aa (aX (hj:=by omega) T.bb (fm T) hr (aa ao (aa br (aa (fv 1) (aa ao ae))))) ae))) (aa (fv 3) (aa (fv 2) (aa (pec DL (fv 1) (fv 2)) ae))))))))
   aE)
  (af (pst 5 nj.nd (aZ (aa (aX (hj:=by omega) T.cI (fU T) hr (aa ao (aa br (aa ao ae)))) (aa (aX (hj:=by omega) T.bb (fm T) hr (aa ao (aa br (aa (fv 1) (aa ao ae))))) ae))))
  (af (aV (ptc (mw hu) (fv 4) ao)
   (ah (ax (aj (hj:=by omega) (CP T) hr (aa (fv 0) (aa (fv 5) (aa (fv 3) (aa (fv 2) (aa (pec DL (fv 1) (fv 2)) ae))))))))
   aE)
  (ah (ax (aj (hj:=by omega) (Cr T) hr (aa (fv 0) (aa (fv 5) (aa (fv 3) (aa (fv 2) (aa (pec DL (fv 1) (fv 2)) ae))))))))))))))),?_⟩
 obtain ⟨r0,r1⟩:=lA (cellAt ns 0) (show (0:Int) < 3 by decide)
 have hrk:cellAt ns 0 % 3=0 \/ cellAt ns 0 % 3=1 \/ cellAt ns 0 % 3=2:=by omega
 obtain ⟨a,ha⟩:∃a:Nat,cellAt ns 1 % 7=a:=⟨(cellAt ns 1 % 7).toNat,by have:=lA (cellAt ns 1) (show (0:Int) < 7 by decide);omega⟩
 obtain ⟨b,hb⟩:∃b:Nat,cellAt ns 2 % 7=b:=⟨(cellAt ns 2 % 7).toNat,by have:=lA (cellAt ns 2) (show (0:Int) < 7 by decide);omega⟩
 have la:a <= 6:=by have:=lA (cellAt ns 1) (show (0:Int) < 7 by decide);omega
 have lb:b <= 6:=by have:=lA (cellAt ns 2) (show (0:Int) < 7 by decide);omega
 refine ag fun M1 K1=>⟨sc,ns,0,rfl,hS,by decide,by show (0:Int) < 3;decide,K1 _ _ ?_⟩
 clear K1 M1
 try dsimp only
 refine ag fun M1 K1=>⟨sc,ns,0,rfl,hS,by decide,⟨by decide,by decide⟩,by show (0:Int) < 3;decide,K1 _ _ ?_⟩
 clear K1 M1
 try dsimp only
 refine ag fun M1 K1=>⟨sc,ns,1,rfl,hS,by decide,by show (0:Int) < 7;decide,⟨sc,ns,2,rfl,hS,by decide,by show (0:Int) < 7;decide,by show 2 <= sizeLine;decide,fun pm hpm=>?_⟩⟩
 obtain ⟨s1,e1⟩:=alc hpm (HO.tup [.int (cellAt ns 1 % 7),.int (cellAt ns 2 % 7)])
 generalize upd H pm _=H1 at s1 e1 ⊢
 rw [ha,hb] at e1
 refine K1 _ _ ?_
 clear K1 M1
 try dsimp only
 refine ag fun M1 K1=>⟨sc,ns,3,rfl,s1.seq hS,by decide,by show (0:Int) < 3;decide,K1 _ _ ?_⟩
 clear K1 M1
 try dsimp only
 refine ag fun M1 K1=>⟨rfl,_,rfl,de (fun _=>?_) (fun _=>K1 _ _ ?_)⟩
 ·refine fun r6 dx6 hr6 hd_ hne_=>⟨_,_,_,_,_,_,rfl,rfl,hr6,hd_,fun H2 s2 hx=>⟨rfl,fun r7 dx7 hr7 hd7_ hne7_=>⟨_,_,_,_,_,_,_,rfl,rfl,hr7,hd7_,fun H3 s3 hx7=>⟨rfl,⟨by show 2 <= sizeLine;decide,fun L hL=>?_⟩⟩⟩⟩⟩
  have s4:=aq.upd hL (.lst [V.ref r6,.ref r7])
  have t4:=s1.trans (s2.trans (s3.trans s4))
  exact ⟨sc,L,pm,ns,_,_,_,a,b,rfl,t4.seq hS,aw,aD.same s4 _ _ (Aa hx s3 hx7),hrk,SqT.of ((s2.trans (s3.trans s4)) _ _ e1),la,lb,fun H' _=>q H'⟩
 clear K1 M1
 try dsimp only
 refine ag fun M1 K1 r6 dx6 hr6 hd_ hne_=>⟨_,_,_,_,_,_,rfl,rfl,hr6,hd_,fun H2 s2 hx=>⟨rfl,fun r7 dx7 hr7 hd7_ hne7_=>⟨_,_,_,_,_,_,_,rfl,rfl,hr7,hd7_,fun H3 s3 hx7=>⟨rfl,⟨by show 2 <= sizeLine;decide,fun L hL=>?_⟩⟩⟩⟩⟩
 obtain ⟨s4,e4⟩:=alc hL (HO.lst [V.ref r6,.ref r7])
 generalize upd H3 L _=H4 at s4 e4 ⊢
 have t4:=s1.trans (s2.trans (s3.trans s4))
 have p4:=aD.same s4 _ _ (Aa hx s3 hx7)
 have m4:=SqT.of (K:=K) ((s2.trans (s3.trans s4)) _ _ e1)
 refine K1 _ _ ?_
 clear K1 M1
 try dsimp only
 refine ag fun M1 K1=>⟨rfl,_,rfl,de (fun _=>⟨sc,L,pm,ns,_,_,_,a,b,rfl,t4.seq hS,e4,p4,hrk,m4,la,lb,fun H' _=>q H'⟩) (fun _=>K1 _ _ ?_)⟩
 ·exact ⟨sc,L,pm,ns,_,_,_,a,b,rfl,t4.seq hS,e4,p4,hrk,m4,la,lb,fun H' _=>q H'⟩
end
abbrev FnI (K:W.Frag) (f:Addr) (x y:Str) (s:Stmt):Prop:=∃(oc:Value) (od:Option Addr) (kV dc pm:Value) (an:Option Addr) (cd ct:Value) (sl:Array (Option Value)),K.lookup f=some ⟨oc,od,.func (W.fnOf x y (bP s) (bu s) (ak s) .none kV dc pm an cd ct),sl⟩/\W.codeIn K cd y=true/\W.keepIn K (.ref f)=true
abbrev bH (K:W.Frag) (x:Str) (s:Stmt):Prop:=∃f,W.nsIn K mainGlobals x=some (some (.ref f))/\FnI K f x x s
abbrev iO (K:W.Frag) (C:Addr) (m q:Str) (s:Stmt):Prop:=∃f,W.findIn K (.ref C) m=some (some (.ref f))/\W.isFn K (.ref f)=true/\FnI K f m q s
abbrev kK (K:W.Frag) (C:Addr) (x:Str) (up:List Addr):Prop:=W.nsIn K mainGlobals x=some (some (.ref C))/\(∃cd,W.clsIn K C=some cd/\cd.mro=up.map Value.ref ++ [Value.type "object"])/\W.plainGet K C Str.empty=true/\W.hasDictIn K C=true/\W.plainOver K C=true/\W.findIn K (.ref C) "__setattr__"=some (some (.builtin "object.__setattr__"))/\W.typeIn K (.ref C)=some (.type "type")/\W.findIn K (.ref C) "__class__"=some (some (.builtin "object.__class__"))/\W.makesIn K C=true/\W.keepIn K (.ref C)=true
abbrev NsI (K:W.Frag) (x:Str):Prop:=W.nsIn K mainGlobals x=some none
abbrev NoI (K:W.Frag) (C:Addr) (x:Str):Prop:=W.findIn K (.ref C) x=some none
section
variable {K:W.Frag}{mg:Str->Option Value}{h:Heap}{x m q:Str}{s:Stmt}{ps:List Str}{C:Addr}{up:List Addr}
theorem bL (X:K.In h) (G:h.Ns mainGlobals mg) (t:bH K x s) (b:∀(kV doc pm:Value) (an:Option Addr) (cdv ct:Value) (us:List Value),us.length=ps.length->bindArgs (W.fnOf x x (bP s) (bu s) (ak s) .none kV doc pm an cdv ct) ⟨us,[]⟩=pure (ps.zip us)):aT K mg x s ps:=by
 obtain ⟨f,a,_,_,_,_,_,_,_,_,_,l,c,k⟩:=t
 exact zd X G a l c k b
theorem jn (t:iO K C m q s) (b:∀(kV doc pm:Value) (an:Option Addr) (cdv ct:Value) (us:List Value),us.length=ps.length->bindArgs (W.fnOf m q (bP s) (bu s) (ak s) .none kV doc pm an cdv ct) ⟨us,[]⟩=pure (ps.zip us)):MFn K C m q s ps:=by
 obtain ⟨f,a,i,_,_,_,_,_,_,_,_,_,l,c,k⟩:=t
 exact DT a i l c k b
theorem lg (X:K.In h) (G:h.Ns mainGlobals mg) (cg:W.specialIn K (.builtin "object.__class__") "__get__"=some (some (.builtin "getset_descriptor.__get__"))) (ct:W.takesIn K (.builtin "object.__class__")=some true) (t:kK K C x up):dX K mg C x up:=by
 obtain ⟨a,b,c,d,e,f,g,i,j,k⟩:=t
 exact ⟨W.mg_of X G a,⟨c,d,e,f⟩,b,g,i,cg,ct,j,k⟩
end
theorem ar0 {p:List Value->Prop} (h:p []):∀us:List Value,us.length=0->p us:=fun us e=>by
 cases us with
 | nil=>exact h
 | cons b t=>cases e
theorem arS {p:List Value->Prop}{n:Nat} (h:∀a,∀us:List Value,us.length=n->p (a :: us)):∀us:List Value,us.length=n + 1->p us:=fun us e=>by
 cases us with
 | nil=>cases e
 | cons b t=>exact h b t (Nat.succ.inj e)
abbrev ud (K:W.Frag) (x:Str) (s:Stmt) (d:V):Prop:=∃(f T:Addr) (v oc:Value) (od:Option Addr) (kV dc pm:Value) (an:Option Addr) (cd ct:Value) (sl tl:Array (Option Value)) (n:Nat),W.nsIn K mainGlobals x=some (some (.ref f))/\K.lookup f=some ⟨oc,od,.func (W.fnOf x x (bP s) (bu s) (ak s) (.ref T) kV dc pm an cd ct),sl⟩/\W.codeIn K cd x=true/\W.keepIn K (.ref f)=true/\K.lookup T=some ⟨.type "tuple",none,.seq #[v] n,tl⟩/\RelV d v
theorem xC {K:W.Frag}{mg:Str->Option Value}{h:Heap}{x a b:Str}{s:Stmt}{d:V} (X:K.In h) (G:h.Ns mainGlobals mg) (t:ud K x s d)
  (b1:∀(T:Addr) (v kV dc pm:Value) (an:Option Addr) (cd ct u u':Value),∃k,bindArgs (W.fnOf x x (bP s) (bu s) (ak s) (.ref T) kV dc pm an cd ct) ⟨[u,u'],[]⟩=seqItems? (.ref T) >>= k/\k (some #[v])=pure [(a,u),(b,u')])
  (b2:∀(T:Addr) (v kV dc pm:Value) (an:Option Addr) (cd ct u:Value),∃k,bindArgs (W.fnOf x x (bP s) (bu s) (ak s) (.ref T) kV dc pm an cd ct) ⟨[u],[]⟩=seqItems? (.ref T) >>= k/\k (some #[v])=pure [(a,u),(b,v)]):ja K mg x s [a,b] [d]:=by
 obtain ⟨f,T,v,oc,od,kV,dc,pm,an,cd,ct,sl,tl,n,q,l,c,k,lt,r⟩:=t
 refine ⟨f,oc,od,.ref T,kV,dc,pm,an,cd,ct,sl,[v],l,c,k,W.mg_of X G q,.cons r .nil,fun s' us hi hl=>?_,fun s' us hi hl=>?_⟩
 ·rcases us with _ | ⟨u,_ | ⟨u',_ | ⟨_,_⟩⟩⟩
  ·cases hl
  ·cases hl
  ·obtain ⟨g,e1,e2⟩:=b1 T v kV dc pm an cd ct u u'
   exact BindsTo.of_defaults rfl (hi T _ lt) rfl e1 e2
  ·simp at hl
 ·rcases us with _ | ⟨u,_ | ⟨_,_⟩⟩
  ·cases hl
  ·obtain ⟨g,e1,e2⟩:=b2 T v kV dc pm an cd ct u
   exact BindsTo.of_defaults rfl (hi T _ lt) rfl e1 e2
  ·simp at hl
theorem ar1 {p:List Value->Prop} (h:∀a0,p [a0]):∀us:List Value,us.length=1->p us:=arS fun a0=>ar0 (h a0)
theorem ar2 {p:List Value->Prop} (h:∀a0 a1,p [a0,a1]):∀us:List Value,us.length=2->p us:=arS fun a0=>arS fun a1=>ar0 (h a0 a1)
theorem ar3 {p:List Value->Prop} (h:∀a0 a1 a2,p [a0,a1,a2]):∀us:List Value,us.length=3->p us:=arS fun a0=>arS fun a1=>arS fun a2=>ar0 (h a0 a1 a2)
theorem ar4 {p:List Value->Prop} (h:∀a0 a1 a2 a3,p [a0,a1,a2,a3]):∀us:List Value,us.length=4->p us:=arS fun a0=>arS fun a1=>arS fun a2=>arS fun a3=>ar0 (h a0 a1 a2 a3)
theorem ar5 {p:List Value->Prop} (h:∀a0 a1 a2 a3 a4,p [a0,a1,a2,a3,a4]):∀us:List Value,us.length=5->p us:=arS fun a0=>arS fun a1=>arS fun a2=>arS fun a3=>arS fun a4=>ar0 (h a0 a1 a2 a3 a4)
theorem ar7 {p:List Value->Prop} (h:∀a0 a1 a2 a3 a4 a5 a6,p [a0,a1,a2,a3,a4,a5,a6]):∀us:List Value,us.length=7->p us:=arS fun a0=>arS fun a1=>arS fun a2=>arS fun a3=>arS fun a4=>arS fun a5=>arS fun a6=>ar0 (h a0 a1 a2 a3 a4 a5 a6)
theorem all_mk {l:W.OpenLaw}{w:World}{K:W.Frag}{h:Heap}{mg:Str->Option Value}{fa:Addr} (A:Adr) (X:K.In h) (G:h.Ns mainGlobals mg) (hfa:mg "law"=some (.ref fa))
 (t1:bH K "only" vY) (t2:bH K "joined" p7) (t3:bH K "top" ze) (t4:bH K "fits" vZ)
 (t5:bH K "names_in" k9) (t7:bH K "most_of" mF) (t8:bH K "most_of_row" gP) (t9:bH K "exact_of" lE)
 (t10:bH K "exact_of_row" fO) (t11:bH K "one_more" lJ) (t12:bH K "exact_of_if" gQ) (t13:bH K "exact_of_loop" fh)
 (t14:bH K "balanced" k0) (t15:bH K "mosts" tL) (t16:bH K "exacts" pY) (t17:bH K "row_place" jT)
 (t18:bH K "laid_rows" jM) (t19:bH K "laid_inside" gU) (t20:bH K "laid_program" gw) (t21:bH K "is_place" lG)
 (t22:bH K "head_places" hZ) (t23:bH K "places" o5) (t24:bH K "drawn" sT) (t25:bH K "row_links" jY)
 (t26:bH K "said_links" i5) (t27:bH K "called_links" gk) (t28:bH K "step_links" i9) (t29:ud K "links" rQ (.bl false))
 (t30:bH K "sources" mQ) (t31:bH K "sources_of" i8) (t32:bH K "ways_of" mJ) (t33:bH K "arrivals" lF)
 (t34:ud K "table" sg (.bl false)) (t35:bH K "rows_above" iR) (t36:ud K "uneven" pQ (.int 0)) (t37:ud K "evened" qa (.int 0))
 (t38:bH K "head_copy" kj) (t39:bH K "deed_copy" jS) (t40:bH K "rows_evened" ip) (t41:bH K "row_evened" iN)
 (t42:bH K "plain_copy" i6) (t43:bH K "if_evened" kq) (t44:bH K "loop_evened" ic) (t45:bH K "_law_cell_at" hE)
 (t46:bH K "_law_sends" j9) (t47:bH K "_law_idles" jA) (t48:bH K "_law_if" o8) (t49:bH K "_law_even" lh)
 (t50:bH K "_law_value" ju) (t51:bH K "_law_idles_told" eK) (t52:bH K "_law_sends_told" eI) (t53:bH K "_law_sides_told" eJ)
 (t54:bH K "_law_asked" jD) (t55:bH K "_law_by_if" jN) (t56:bH K "_law_by_loop" gO) (t57:bH K "_law_by_deed" h9)
 (t58:bH K "law" pI) (tG:NsI K "bool") (jX:NsI K "dict") (nN:NsI K "int")
 (av:NsI K "isinstance") (jf:NsI K "len") (d3:NsI K "list") (jF:NsI K "max")
 (lU:NsI K "range") (xp:NsI K "set") (jO:NsI K "sorted") (uM:NsI K "str")
 (w4:NsI K "sum") (uc:NsI K "zip") (g_CLOCK:∃k:Tok,W.nsIn K mainGlobals "CLOCK"=some (some (.str "the clock" k))) (cg:W.specialIn K (.builtin "object.__class__") "__get__"=some (some (.builtin "getset_descriptor.__get__")))
 (ct:W.takesIn K (.builtin "object.__class__")=some true) (x_Row:kK K A.Row "Row" [A.Row]) (x_HandRow:kK K A.bX "HandRow" [A.bX,A.Row]) (x_GivenRow:kK K A.bq "GivenRow" [A.bq,A.Row])
 (x_OwnRow:kK K A.cZ "OwnRow" [A.cZ,A.Row]) (x_LetRow:kK K A.c6 "LetRow" [A.c6,A.Row]) (x_SetRow:kK K A.c5 "SetRow" [A.c5,A.Row]) (x_PutRow:kK K A.cA "PutRow" [A.cA,A.Row])
 (x_SendRow:kK K A.bO "SendRow" [A.bO,A.Row]) (x_SayRow:kK K A.cE "SayRow" [A.cE,A.Row]) (x_CallRow:kK K A.b6 "CallRow" [A.b6,A.Row]) (x_LastRow:kK K A.dQ "LastRow" [A.dQ,A.Row])
 (x_IfRow:kK K A.cC "IfRow" [A.cC,A.Row]) (x_LoopRow:kK K A.bg "LoopRow" [A.bg,A.Row]) (x_DeedRow:kK K A.bF "DeedRow" [A.bF,A.Row]) (x_Program:kK K A.Program "Program" [A.Program])
 (m1:iO K A.Row "__init__" "Row.__init__" eh) (m2:iO K A.bX "__init__" "HandRow.__init__" gc) (m3:iO K A.bq "__init__" "GivenRow.__init__" fk) (m4:iO K A.cZ "__init__" "OwnRow.__init__" gT)
 (m5:iO K A.c6 "__init__" "LetRow.__init__" ig) (m6:iO K A.c5 "__init__" "SetRow.__init__" gX) (m7:iO K A.cA "__init__" "PutRow.__init__" g6) (m8:iO K A.bO "__init__" "SendRow.__init__" fN)
 (m9:iO K A.bO "reads" "SendRow.reads" ff) (m10:iO K A.cE "__init__" "SayRow.__init__" hX) (m11:iO K A.b6 "__init__" "CallRow.__init__" fQ) (m12:iO K A.dQ "__init__" "Row.__init__" eh)
 (m13:iO K A.cC "__init__" "IfRow.__init__" iY) (m14:iO K A.cC "reads" "IfRow.reads" g9) (m15:iO K A.bg "__init__" "LoopRow.__init__" fZ) (m16:iO K A.bg "reads" "LoopRow.reads" fw)
 (m17:iO K A.bF "__init__" "DeedRow.__init__" fS) (m18:iO K A.Program "__init__" "Program.__init__" gh) (n1:NoI K A.bX "name") (n2:NoI K A.bX "rank")
 (n3:NoI K A.bX "number") (n4:NoI K A.bq "name") (n5:NoI K A.bq "rank") (n6:NoI K A.bq "size")
 (n7:NoI K A.bq "number") (n8:NoI K A.cZ "name") (n9:NoI K A.cZ "size") (n10:NoI K A.cZ "number")
 (n11:NoI K A.c6 "name") (n12:NoI K A.c6 "rank") (n13:NoI K A.c6 "number") (n14:NoI K A.c5 "name")
 (n15:NoI K A.c5 "value") (n16:NoI K A.c5 "number") (n17:NoI K A.cA "name") (n18:NoI K A.cA "place")
 (n19:NoI K A.cA "value") (n20:NoI K A.cA "number") (n21:NoI K A.bO "name") (n22:NoI K A.bO "value")
 (n23:NoI K A.bO "number") (n24:NoI K A.cE "name") (n25:NoI K A.cE "value") (n26:NoI K A.cE "mark")
 (n27:NoI K A.cE "number") (n28:NoI K A.b6 "name") (n29:NoI K A.b6 "things") (n30:NoI K A.b6 "number")
 (n31:NoI K A.dQ "number") (n32:NoI K A.cC "value") (n33:NoI K A.cC "first") (n34:NoI K A.cC "other")
 (n35:NoI K A.cC "left") (n36:NoI K A.cC "right") (n37:NoI K A.cC "number") (n38:NoI K A.bg "thing")
 (n39:NoI K A.bg "most") (n40:NoI K A.bg "body") (n41:NoI K A.bg "left") (n42:NoI K A.bg "right")
 (n43:NoI K A.bg "number") (n44:NoI K A.bF "name") (n45:NoI K A.bF "parts") (n46:NoI K A.bF "body")
 (n47:NoI K A.bF "number") (n48:NoI K A.Program "heads") (n49:NoI K A.Program "deeds") (n50:NoI K A.Program "main")
 (y_Row_init:W.specialIn K (.ref A.Row) "__getattribute__"=some (some (.builtin "type.__getattribute__"))/\W.readsIn K A.Row (.type "type")=true/\∃f,W.findIn K (.ref A.Row) "__init__"=some (some (.ref f))/\W.findCls K (.ref A.Row) (.type "type") "__init__"=some (.val (.ref f))) (nod:[A.Row,A.bX,A.bq,A.cZ,A.c6,A.c5,A.cA,A.bO,A.cE,A.b6,A.dQ,A.cC,A.bg,A.bF,A.Program].Nodup)
:∃fd:FuncData,(∀(s:Shared) (v:Value),BindsTo s fd ⟨[v],[]⟩ [("_law_script",v)])/\∀base:Heap,K.In base->base.Ns mainGlobals mg->jx l.prog w K mg base CX0 18 fa fd ["_law_script"] (tW K):=by
 have T:Txt K mg A:={
  only:=bL X G t1 fun _ _ _ _ _ _=>ar1 fun _=>rfl,joined:=bL X G t2 fun _ _ _ _ _ _=>ar2 fun _ _=>rfl,top:=bL X G t3 fun _ _ _ _ _ _=>ar1 fun _=>rfl,
  fits:=bL X G t4 fun _ _ _ _ _ _=>ar2 fun _ _=>rfl,pU:=bL X G t5 fun _ _ _ _ _ _=>ar1 fun _=>rfl,kz:=bL X G t7 fun _ _ _ _ _ _=>ar2 fun _ _=>rfl,
  gH:=bL X G t8 fun _ _ _ _ _ _=>ar2 fun _ _=>rfl,dB:=bL X G t9 fun _ _ _ _ _ _=>ar2 fun _ _=>rfl,dW:=bL X G t10 fun _ _ _ _ _ _=>ar2 fun _ _=>rfl,
  pN:=bL X G t11 fun _ _ _ _ _ _=>ar1 fun _=>rfl,gD:=bL X G t12 fun _ _ _ _ _ _=>ar2 fun _ _=>rfl,eM:=bL X G t13 fun _ _ _ _ _ _=>ar2 fun _ _=>rfl,
  balanced:=bL X G t14 fun _ _ _ _ _ _=>ar2 fun _ _=>rfl,zc:=bL X G t15 fun _ _ _ _ _ _=>ar1 fun _=>rfl,wy:=bL X G t16 fun _ _ _ _ _ _=>ar1 fun _=>rfl,
  nu:=bL X G t17 fun _ _ _ _ _ _=>ar1 fun _=>rfl,fH:=bL X G t18 fun _ _ _ _ _ _=>ar3 fun _ _ _=>rfl,gJ:=bL X G t19 fun _ _ _ _ _ _=>ar2 fun _ _=>rfl,
  iW:=bL X G t20 fun _ _ _ _ _ _=>ar1 fun _=>rfl,p9:=bL X G t21 fun _ _ _ _ _ _=>ar1 fun _=>rfl,jW:=bL X G t22 fun _ _ _ _ _ _=>ar1 fun _=>rfl,
  places:=bL X G t23 fun _ _ _ _ _ _=>ar1 fun _=>rfl,drawn:=bL X G t24 fun _ _ _ _ _ _=>ar4 fun _ _ _ _=>rfl,nh:=bL X G t25 fun _ _ _ _ _ _=>ar4 fun _ _ _ _=>rfl,
  lL:=bL X G t26 fun _ _ _ _ _ _=>ar2 fun _ _=>rfl,iM:=bL X G t27 fun _ _ _ _ _ _=>ar3 fun _ _ _=>rfl,lK:=bL X G t28 fun _ _ _ _ _ _=>ar2 fun _ _=>rfl,
  links:=xC X G t29 (fun _ _ _ _ _ _ _ _ _ _=>⟨_,rfl,rfl⟩) (fun _ _ _ _ _ _ _ _ _=>⟨_,rfl,rfl⟩),sources:=bL X G t30 fun _ _ _ _ _ _=>ar1 fun _=>rfl,lC:=bL X G t31 fun _ _ _ _ _ _=>ar2 fun _ _=>rfl,
  tO:=bL X G t32 fun _ _ _ _ _ _=>ar2 fun _ _=>rfl,qi:=bL X G t33 fun _ _ _ _ _ _=>ar2 fun _ _=>rfl,table:=xC X G t34 (fun _ _ _ _ _ _ _ _ _ _=>⟨_,rfl,rfl⟩) (fun _ _ _ _ _ _ _ _ _=>⟨_,rfl,rfl⟩),
  kZ:=bL X G t35 fun _ _ _ _ _ _=>ar2 fun _ _=>rfl,wL:=xC X G t36 (fun _ _ _ _ _ _ _ _ _ _=>⟨_,rfl,rfl⟩) (fun _ _ _ _ _ _ _ _ _=>⟨_,rfl,rfl⟩),vN:=xC X G t37 (fun _ _ _ _ _ _ _ _ _ _=>⟨_,rfl,rfl⟩) (fun _ _ _ _ _ _ _ _ _=>⟨_,rfl,rfl⟩),
  ng:=bL X G t38 fun _ _ _ _ _ _=>ar1 fun _=>rfl,mE:=bL X G t39 fun _ _ _ _ _ _=>ar3 fun _ _ _=>rfl,cL:=bL X G t40 fun _ _ _ _ _ _=>ar3 fun _ _ _=>rfl,
  iS:=bL X G t41 fun _ _ _ _ _ _=>ar3 fun _ _ _=>rfl,lj:=bL X G t42 fun _ _ _ _ _ _=>ar1 fun _=>rfl,ku:=bL X G t43 fun _ _ _ _ _ _=>ar3 fun _ _ _=>rfl,
  gF:=bL X G t44 fun _ _ _ _ _ _=>ar3 fun _ _ _=>rfl,j8:=bL X G t45 fun _ _ _ _ _ _=>ar2 fun _ _=>rfl,mY:=bL X G t46 fun _ _ _ _ _ _=>ar2 fun _ _=>rfl,
  mK:=bL X G t47 fun _ _ _ _ _ _=>ar4 fun _ _ _ _=>rfl,wM:=bL X G t48 fun _ _ _ _ _ _=>ar4 fun _ _ _ _=>rfl,pD:=bL X G t49 fun _ _ _ _ _ _=>ar4 fun _ _ _ _=>rfl,
  mG:=bL X G t50 fun _ _ _ _ _ _=>ar1 fun _=>rfl,d4:=bL X G t51 fun _ _ _ _ _ _=>ar2 fun _ _=>rfl,fJ:=bL X G t52 fun _ _ _ _ _ _=>ar3 fun _ _ _=>rfl,
  dP:=bL X G t53 fun _ _ _ _ _ _=>ar5 fun _ _ _ _ _=>rfl,mU:=bL X G t54 fun _ _ _ _ _ _=>ar3 fun _ _ _=>rfl,mL:=bL X G t55 fun _ _ _ _ _ _=>ar5 fun _ _ _ _ _=>rfl,
  jI:=bL X G t56 fun _ _ _ _ _ _=>ar5 fun _ _ _ _ _=>rfl,jV:=bL X G t57 fun _ _ _ _ _ _=>ar5 fun _ _ _ _ _=>rfl,tG:=W.mg_none_of X G tG,
  jX:=W.mg_none_of X G jX,nN:=W.mg_none_of X G nN,av:=W.mg_none_of X G av,
  jf:=W.mg_none_of X G jf,d3:=W.mg_none_of X G d3,jF:=W.mg_none_of X G jF,
  lU:=W.mg_none_of X G lU,xp:=W.mg_none_of X G xp,jO:=W.mg_none_of X G jO,
  uM:=W.mg_none_of X G uM,w4:=W.mg_none_of X G w4,uc:=W.mg_none_of X G uc,
  xt:=g_CLOCK.imp fun _ e=>W.mg_of X G e,iG:=lg X G cg ct x_Row,p6:=jn m1 fun _ _ _ _ _ _=>ar2 fun _ _=>rfl,
  cI:=lg X G cg ct x_HandRow,gA:=jn m2 fun _ _ _ _ _ _=>ar4 fun _ _ _ _=>rfl,fW:=n1,
  gB:=n2,dh:=n3,bb:=lg X G cg ct x_GivenRow,
  eZ:=jn m3 fun _ _ _ _ _ _=>ar5 fun _ _ _ _ _=>rfl,cS:=n4,dE:=n5,
  ft:=n6,c8:=n7,eX:=lg X G cg ct x_OwnRow,
  gZ:=jn m4 fun _ _ _ _ _ _=>ar4 fun _ _ _ _=>rfl,ik:=n8,kO:=n9,
  fj:=n10,dC:=lg X G cg ct x_LetRow,ij:=jn m5 fun _ _ _ _ _ _=>ar4 fun _ _ _ _=>rfl,
  eN:=n11,gM:=n12,fo:=n13,
  gj:=lg X G cg ct x_SetRow,g8:=jn m6 fun _ _ _ _ _ _=>ar4 fun _ _ _ _=>rfl,kN:=n14,
  jq:=n15,fq:=n16,gg:=lg X G cg ct x_PutRow,
  gL:=jn m7 fun _ _ _ _ _ _=>ar5 fun _ _ _ _ _=>rfl,kS:=n17,jz:=n18,
  jU:=n19,fe:=n20,bp:=lg X G cg ct x_SendRow,
  gq:=jn m8 fun _ _ _ _ _ _=>ar4 fun _ _ _ _=>rfl,fi:=jn m9 fun _ _ _ _ _ _=>ar1 fun _=>rfl,d5:=n21,
  cW:=n22,cH:=n23,eU:=lg X G cg ct x_SayRow,
  gN:=jn m10 fun _ _ _ _ _ _=>ar5 fun _ _ _ _ _=>rfl,kT:=n24,kg:=n25,
  kU:=n26,fb:=n27,aW:=lg X G cg ct x_CallRow,
  fV:=jn m11 fun _ _ _ _ _ _=>ar4 fun _ _ _ _=>rfl,bM:=n28,cz:=n29,
  bE:=n30,iF:=lg X G cg ct x_LastRow,jw:=jn m12 fun _ _ _ _ _ _=>ar2 fun _ _=>rfl,
  iz:=n31,aJ:=lg X G cg ct x_IfRow,iX:=jn m13 fun _ _ _ _ _ _=>ar7 fun _ _ _ _ _ _ _=>rfl,
  g7:=jn m14 fun _ _ _ _ _ _=>ar1 fun _=>rfl,cv:=n32,bz:=n33,
  bG:=n34,cN:=n35,cY:=n36,
  b5:=n37,aA:=lg X G cg ct x_LoopRow,gi:=jn m15 fun _ _ _ _ _ _=>ar7 fun _ _ _ _ _ _ _=>rfl,
  e7:=jn m16 fun _ _ _ _ _ _=>ar1 fun _=>rfl,cV:=n38,cy:=n39,
  bK:=n40,cx:=n41,bQ:=n42,
  bZ:=n43,aY:=lg X G cg ct x_DeedRow,gy:=jn m17 fun _ _ _ _ _ _=>ar5 fun _ _ _ _ _=>rfl,
  bJ:=n44,cU:=n45,bI:=n46,
  dq:=n47,aP:=lg X G cg ct x_Program,gp:=jn m18 fun _ _ _ _ _ _=>ar4 fun _ _ _ _=>rfl,
  cQ:=n48,a8:=n49,ba:=n50,
  bt:=⟨y_Row_init.1,y_Row_init.2.1,y_Row_init.2.2⟩,nd:=nod }
 have F:aT K mg "law" pI ["_law_script"]:=bL X G t58 fun _ _ _ _ _ _=>ar1 fun _=>rfl
 obtain ⟨f,a,oc,od,kV,dc,pm,an,cd,ct,sl,lk,_,_⟩:=t58
 refine ⟨W.fnOf "law" "law" (bP pI) (bu pI) (ak pI) .none kV dc pm an cd ct,fun s v=>.of_eq rfl,fun base _ _=>?_⟩
 have e:=hfa.symm.trans (W.mg_of X G a)
 cases e
 exact CA (DV (P:=l.prog) (w:=w) (base:=base) T F) (W.mg_of X G a) lk
theorem walk {l:W.OpenLaw}{q:Program}{loose:List Str}{XP:(Str->Option Value)->Heap->Prop}{YP:World->Heap->Prop}{d:DefRec}{K:Params->W.Frag} (hn:l.most=some 63) (hdf:d.params.defaults=[]) (hY:∀(w:World) (h:Heap),YP w h->(K w.params).In h)
  (F:∀(w:World) (mg:Str->Option Value) (fa:Addr) (h:Heap),(K w.params).In h->h.Ns mainGlobals mg->mg d.name=some (.ref fa)->∃fd:FuncData,(∀(s:Shared) (u:Value),BindsTo s fd ⟨[u],[]⟩ [("_law_script",u)])/\∀base:Heap,(K w.params).In base->base.Ns mainGlobals mg->jx l.prog w (K w.params) mg base CX0 18 fa fd ["_law_script"] (tW (K w.params))) :
  W.WalkO q loose XP YP l.row.toRowW d [] (fun f vs=>PySem.call f vs) :=
 L2.BC (n:=63) (k:=18) (x:="_law_script") (CX:=fun _=>CX0) (sp:=fun w=>tW (K w.params)) hn (by decide) hdf ⟨rfl,by decide,by decide⟩ hY F (fun _ _ a ns hl _ hS=>⟨a,ns,rfl,hS,hl,fun _=>rfl⟩) fun _ _ _ _ _ z=>z
end K50
open PySem PySem.W PyProof.Rows
set_option maxRecDepth 100000 in
set_option maxHeartbeats 0 in
theorem PySem.Challenge.cw_hushrow_k50_one_row_evened_holds : PySem.Challenge.rw_hushrow_k50_one_row_evened.Holds := by
 w_on;o_law
 refine W.holds_open (q:=K50.eY) (loose:=["links","table","uneven","evened"]) (Xt:=K50.test) (XP:=W.XL K50.eY []) (Yf:=(W.kHook K50.heapK K50.nG K50.ix).obs) (Ya:=(W.kHook K50.heapK K50.nG K50.ix).val) (YP:=(W.kHook K50.heapK K50.nG K50.ix).says) (N:=12816) K50.left (W.kHook K50.heapK K50.nG K50.ix).of (W.kHook K50.heapK K50.nG K50.ix).keeps
  (fun s e=>W.xl_of s (Bool.and_eq_true_iff.mp e).1) W.XL.keeps (by rfl) (by rfl) (by rfl) (fun s e=>W.recFacts_of (Bool.and_eq_true_iff.mp e).2) ?h4 ?h5 ?h6 ⟨rfl,rfl,rfl,rfl,rfl,by decide +kernel⟩ ?hw ?hc
 (case h4=>rfl);(case h5=>first | assumption | decide +kernel);(case h6=>decide +kernel);(case hw=>w_witness2)
 k_fill
 refine K50.walk (l:=PySem.Challenge.rw_hushrow_k50_one_row_evened) rfl rfl (fun w h Y=>W.kIn_of Y) ?F
 case F =>
  intro w mg fa h KX G hmg
  refine K50.all_mk ⟨94,122,148,174,200,240,280,313,353,384,403,436,469,495,514⟩ KX G hmg ?_ ?_ ?_ ?_ ?_ ?_ ?_ ?_ ?_ ?_ ?_ ?_ ?_ ?_ ?_ ?_ ?_ ?_ ?_ ?_ ?_ ?_ ?_ ?_ ?_ ?_ ?_ ?_ ?_ ?_ ?_ ?_ ?_ ?_ ?_ ?_ ?_ ?_ ?_ ?_ ?_ ?_ ?_ ?_ ?_ ?_ ?_ ?_ ?_ ?_ ?_ ?_ ?_ ?_ ?_ ?_ ?_ ?_ ?_ ?_ ?_ ?_ ?_ ?_ ?_ ?_ ?_ ?_ ?_ ?_ ?_ ?_ ?_ ?_ ?_ ?_ ?_ ?_ ?_ ?_ ?_ ?_ ?_ ?_ ?_ ?_ ?_ ?_ ?_ ?_ ?_ ?_ ?_ ?_ ?_ ?_ ?_ ?_ ?_ ?_ ?_ ?_ ?_ ?_ ?_ ?_ ?_ ?_ ?_ ?_ ?_ ?_ ?_ ?_ ?_ ?_ ?_ ?_ ?_ ?_ ?_ ?_ ?_ ?_ ?_ ?_ ?_ ?_ ?_ ?_ ?_ ?_ ?_ ?_ ?_ ?_ ?_ ?_ ?_ ?_ ?_ ?_ ?_ ?_ ?_ ?_ ?_ ?_ ?_ ?_ ?_ ?_ ?_ ?_ ?_ ?_ ?_ ?_
  iterate 27 exact ⟨_,by k_is,_,_,_,_,_,_,_,_,_,by k_is,by k_is,by k_is⟩
  iterate 1 exact ⟨_,_,_,_,_,_,_,_,_,_,_,_,_,_,by k_is,by k_is,by k_is,by k_is,by k_is,by first | rfl | exact ⟨_,rfl⟩⟩
  iterate 4 exact ⟨_,by k_is,_,_,_,_,_,_,_,_,_,by k_is,by k_is,by k_is⟩
  iterate 1 exact ⟨_,_,_,_,_,_,_,_,_,_,_,_,_,_,by k_is,by k_is,by k_is,by k_is,by k_is,by first | rfl | exact ⟨_,rfl⟩⟩
  iterate 1 exact ⟨_,by k_is,_,_,_,_,_,_,_,_,_,by k_is,by k_is,by k_is⟩
  iterate 2 exact ⟨_,_,_,_,_,_,_,_,_,_,_,_,_,_,by k_is,by k_is,by k_is,by k_is,by k_is,by first | rfl | exact ⟨_,rfl⟩⟩
  iterate 21 exact ⟨_,by k_is,_,_,_,_,_,_,_,_,_,by k_is,by k_is,by k_is⟩
  iterate 13 (show _=_;k_is)
  iterate 1 exact ⟨_,by k_is⟩
  iterate 2 (show _=_;k_is)
  iterate 15 exact ⟨by k_is,⟨_,by k_is,rfl⟩,by k_is,by k_is,by k_is,by k_is,by k_is,by k_is,by k_is,by k_is⟩
  iterate 18 exact ⟨_,by k_is,by k_is,_,_,_,_,_,_,_,_,_,by k_is,by k_is,by k_is⟩
  iterate 50 (show _=_;k_is)
  iterate 1 exact ⟨by k_is,by k_is,_,by k_is,by k_is⟩
  iterate 1 decide
