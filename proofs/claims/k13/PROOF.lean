import PyProof.Rows.All
import Wide.All
import OpenK.AllK
import Wide.FinOn
import Lean
import PyProof.EqAt
import PyProof.EqKinds
import PyProof.TupleCall
import PyProof.ExcInit
import PyProof.ExcClass3
import PyProof.StationsW
import PyProof.RulesAs
import PyProof.AttrMissSeq
import KE.KDictList
import PyProof.WalksEnum
import PyProof.EnumMake
import PyProof.ZipIter
import PyProof.Rows.ZipGen
import PyProof.Rows.SumAny
import PyProof.DictUpdate
import PySem.Challenge.RW_hushrow_k13_costs
set_option Elab.async false
set_option linter.all false
set_option maxRecDepth 100000
namespace Hd
open PySem PySem.W PySem.Calls PyProof.Rows
def runT (tb : String → Option Builtin) (p : Program) (w : World) (n₀ : Nat) (ann : Option Value) : Nat → SharedT → Thread → Option SharedT
  | 0, _, _ => none
  | n + 1, s, t => match through t with
    | true => some s
    | false => match stepOk n₀ ann t with
      | false => none
      | true => match stepT (denote tb) p w s t with
        | some (s', t') => runT tb p w n₀ ann n s' t'
        | none => none
theorem run_of {tb : String → Option Builtin} {p : Program} {w : World} {n₀ : Nat} {ann : Option Value} : ∀ {n : Nat} {s s' : SharedT} {t : Thread},
    runT tb p w n₀ ann n s t = some s' → topRun tb p w n₀ ann n s.abs t = some s'.abs
  | 0, _, _, _, h => by cases h
  | n + 1, s, s', t, h => by
    unfold runT at h
    unfold topRun
    cases he : through t with
    | true => rw [he] at h; cases h; rfl
    | false =>
      rw [he] at h
      cases hk : stepOk n₀ ann t with
      | false => rw [hk] at h; cases h
      | true =>
        rw [hk] at h
        cases hs : stepT (denote tb) p w s t with
        | none => rw [hs] at h; cases h
        | some r => obtain ⟨s₂, t₂⟩ := r; rw [hs] at h; rw [stepT_spec hs]; exact run_of h
def looks (p q : Program) (loose : List Str) (Xt : Shared → Bool) {α : Type} (Yf : Shared → α) (g0 : Bool) (H : Heap) (s : Shared) :=
  (staticsOk (importedModules p.main.body) H s.heap && namesBound p s.heap && gensDone s && laidKept H s.heap, openSeen q loose (importedModules p.main.body) Xt g0 s, Yf s)
def looks1 (p q : Program) (loose : List Str) (Xt : Shared → Bool) (g0 : Bool) (H : Heap) (s : Shared) :=
  (staticsOk (importedModules p.main.body) H s.heap && namesBound p s.heap && gensDone s && laidKept H s.heap, openSeen q loose (importedModules p.main.body) Xt g0 s)
def treeOf : List Obj → Nat → BT → BT
  | [], _, t => t
  | o :: r, i, t => treeOf r (i + 1) (t.ins i o)
theorem left_of {p q : Program} {loose : List Str} {Xt : Shared → Bool} {α : Type} {Yf : Shared → α} {Ya : World → α} {N : Nat} {g0 : Bool} {H₀ : Params → Heap} {gs₀ : Array GenState} {d₀ : Drawn} {k₀ m₀ n₀ : Nat} {ann : Option Value} {T₀ : Params → BT} {life : Life}
    (opn : ∀ w : World, (fencedOpening treeTable p w N).map (fun s => (s.heap, s.gens, s.drawn, s.toks)) = some (H₀ w.params, gs₀, d₀, k₀))
    (size : ∀ w : World, ((H₀ w.params).isNs mainGlobals && gs₀.size == 0, (H₀ w.params).objs.size, (H₀ w.params).nsMap mainGlobals "__annotations__") = (true, m₀, ann))
    (tree : ∀ P : Params, absHeap (T₀ P) n₀ life = H₀ P)
    (look : ∀ (w : World) (os : OsState), (runT treeTable p w m₀ ann N ⟨T₀ w.params, n₀, life, gs₀, d₀, k₀, os⟩ (topStub p)).map (fun s => looks p q loose Xt Yf g0 (H₀ w.params) s.abs) = some (true, openGood q loose, Ya w)) :
    LeftO p q loose Xt Yf Ya N g0 := fun w => by
  obtain ⟨⟨h, gs, d, k, os⟩, e, e'⟩ := Option.map_eq_some_iff.mp (opn w)
  obtain ⟨rfl, rfl, rfl, rfl⟩ : h = H₀ w.params ∧ gs = gs₀ ∧ d = d₀ ∧ k = k₀ := by simpa using e'
  obtain ⟨z1, z2, z3⟩ : _ ∧ _ ∧ _ := by simpa only [Prod.mk.injEq] using size w
  obtain ⟨s, hs, hl⟩ := Option.map_eq_some_iff.mp (look w os)
  obtain ⟨l1, l23⟩ := Prod.mk.inj hl
  obtain ⟨l2, l3⟩ := Prod.mk.inj l23
  have r := run_of hs
  have t : topFrom treeTable p w N ⟨H₀ w.params, gs, d, k, os⟩ = some s.abs := by
    unfold topFrom
    dsimp only
    rw [z1, z2, z3]
    unfold SharedT.abs at r
    dsimp only at r
    rw [tree w.params] at r
    show (topRun treeTable p w m₀ ann N ⟨H₀ w.params, gs, d, k, os⟩ (topStub p)).bind _ = _
    rw [r]
    show (match staticsOk (importedModules p.main.body) (H₀ w.params) s.abs.heap && namesBound p s.abs.heap && gensDone s.abs && laidKept (H₀ w.params) s.abs.heap with | true => _ | false => _) = _
    rw [l1]
    rfl
  unfold openEnds
  rw [e]
  show (topFrom treeTable p w N _).map _ = _
  rw [t]
  exact congrArg some (Prod.ext l2 l3)
theorem left_of2 {p q : Program} {loose : List Str} {Xt : Shared → Bool} {α : Type} {Yf : Shared → α} {Ya : World → α} {N : Nat} {g0 : Bool} {H₀ : Params → Heap} {gs₀ : Array GenState} {d₀ : Drawn} {k₀ m₀ n₀ : Nat} {ann : Option Value} {T₀ : Params → BT} {life : Life}
    (opn : ∀ w : World, (fencedOpening treeTable p w N).map (fun s => (s.heap, s.gens, s.drawn, s.toks)) = some (H₀ w.params, gs₀, d₀, k₀))
    (size : ∀ w : World, ((H₀ w.params).isNs mainGlobals && gs₀.size == 0, (H₀ w.params).objs.size, (H₀ w.params).nsMap mainGlobals "__annotations__") = (true, m₀, ann))
    (tree : ∀ P : Params, absHeap (T₀ P) n₀ life = H₀ P)
    (look1 : ∀ (w : World) (os : OsState), (runT treeTable p w m₀ ann N ⟨T₀ w.params, n₀, life, gs₀, d₀, k₀, os⟩ (topStub p)).map (fun s => looks1 p q loose Xt g0 (H₀ w.params) s.abs) = some (true, openGood q loose))
    (look2 : ∀ (w : World) (os : OsState), (runT treeTable p w m₀ ann N ⟨T₀ w.params, n₀, life, gs₀, d₀, k₀, os⟩ (topStub p)).map (fun s => Yf s.abs) = some (Ya w)) :
    LeftO p q loose Xt Yf Ya N g0 := left_of opn size tree fun w os => by
  obtain ⟨s, hs, h1⟩ := Option.map_eq_some_iff.mp (look1 w os)
  have h2 := look2 w os
  rw [hs] at h2 ⊢
  exact congrArg some (Prod.ext (Prod.mk.inj h1).1 (Prod.ext (Prod.mk.inj h1).2 (Option.some.inj h2)))
end Hd

set_option Elab.async false
set_option linter.all false
set_option maxRecDepth 100000
namespace L2
open PySem PySem.Spec PyProof.Rows
def inClass (s : Stmt) (j : Nat) : Stmt := match s with
  | .ClassDef _ _ _ body _ _ _ _ _ _ _ => body.getD j (.Pass ⟨0, 0, 0, 0⟩)
  | _ => .Pass ⟨0, 0, 0, 0⟩
def defArgs (s : Stmt) : Arguments := match s with
  | .FunctionDef _ a _ _ _ _ _ _ _ _ => a
  | _ => { posonlyargs := [], args := [], vararg := none, kwonlyargs := [], kw_defaults := [], kwarg := none, defaults := [] }
def defBody (s : Stmt) : List Stmt := match s with
  | .FunctionDef _ _ b _ _ _ _ _ _ _ => b
  | _ => []
def defScope (s : Stmt) : Scope := match s with
  | .FunctionDef _ _ _ _ _ _ sc _ _ _ => sc
  | _ => { kind := .function, names := [], isGenerator := false, isCoroutine := false }

end L2
namespace K13
open PySem
def top (i : Nat) : Stmt := PySem.Challenge.pw_hushrow_k13_costs.main.body.getD i (.Pass ⟨0, 0, 0, 0⟩)
end K13

set_option Elab.async false
set_option linter.all false
set_option maxRecDepth 100000
set_option maxHeartbeats 0
namespace K13
open PySem L2 PySem.W
noncomputable abbrev E (P : Params) (x : Str) (t : Nat) (v : Value) : DictEntry := ⟨PyData.keyHash P x, .str x t, v⟩
noncomputable def heapK (P : Params) : PySem.W.Frag :=
  (nat_lit 2, ⟨.none, none, .dict #[] 0, #[]⟩) ::
  (nat_lit 3, ⟨(.type "dict"), none, .dict #[E P "__name__" 165 (.str "law_hushrow_k13_costs" 657), E P "__doc__" 166 .none, E P "__package__" 167 .none, E P "__loader__" 168 (.builtin "__main__.__loader__#opaque"), E P "__spec__" 169 .none, E P "__annotations__" 170 (.ref 6), E P "__builtins__" 171 (.ref 4), E P "__file__" 173 (.str "/claim/cut.py" 172), E P "__cached__" 174 .none, E P "_wall" 193 (.ref 21), E P "Row" 238 (.ref 52), E P "OwnRow" 273 (.ref 80), E P "SetRow" 322 (.ref 120), E P "CallRow" 364 (.ref 153), E P "LastRow" 387 (.ref 172), E P "IfRow" 435 (.ref 205), E P "LoopRow" 483 (.ref 238), E P "DeedRow" 520 (.ref 264), E P "Program" 553 (.ref 283), E P "most_of" 561 (.ref 292), E P "most_of_row" 571 (.ref 299), E P "exact_of" 582 (.ref 306), E P "exact_of_row" 590 (.ref 313), E P "one_more" 597 (.ref 320), E P "exact_of_if" 607 (.ref 327), E P "exact_of_loop" 616 (.ref 334), E P "balanced" 624 (.ref 341), E P "mosts" 633 (.ref 348), E P "exacts" 642 (.ref 355), E P "most" 649 (.ref 362), E P "exact" 656 (.ref 369), E P "_law_cell_at" 667 (.ref 376), E P "_law_more" 673 (.ref 381), E P "_law_mix" 684 (.ref 388), E P "_law_names" 690 (.ref 393), E P "_law_whole" 698 (.ref 400), E P "_law_frame" 709 (.ref 407), E P "_law_add" 719 (.ref 414), E P "_law_idles" 731 (.ref 421), E P "_law_close" 747 (.ref 428), E P "_law_plain" 753 (.ref 433), E P "_law_step" 765 (.ref 440), E P "_law_body" 775 (.ref 447), E P "_law_asked" 794 (.ref 454), E P "law" 809 (.ref 461)] 45, #[]⟩) ::
  (nat_lit 15, ⟨(.type "tuple"), none, .seq #[] 0, #[]⟩) ::
  (nat_lit 17, ⟨(.type "tuple"), none, .seq #[(.str "k" 190)] 0, #[]⟩) ::
  (nat_lit 18, ⟨(.type "tuple"), none, .seq #[] 0, #[]⟩) ::
  (nat_lit 20, ⟨(.type "code"), none, .fields #[(.str "_wall" 187), (.str "_wall" 188), (.str "/claim/cut.py" 189), (.int (1) 0), (.int (1) 0), (.int (0) 0), (.int (0) 0), (.int (3) 0), (.ref 15), (.bool true), (.int (181) 0), (.ref 16), .none, (.ref 17), (.ref 18), (.ref 19), (.int (191) 0), (.int (1) 0), (.str "/claim/cut.py" 192)], #[]⟩) ::
  (nat_lit 21, ⟨(.type "function"), none, .func (PySem.W.fnOf "_wall" "_wall" (defArgs (top 0)) (defBody (top 0)) (defScope (top 0)) .none .none .none (.str "__main__" 164) none (.ref 20) .none), #[]⟩) ::
  (nat_lit 29, ⟨(.type "tuple"), none, .seq #[] 0, #[]⟩) ::
  (nat_lit 31, ⟨(.type "tuple"), none, .seq #[(.str "self" 211), (.str "number" 212)] 0, #[]⟩) ::
  (nat_lit 32, ⟨(.type "tuple"), none, .seq #[] 0, #[]⟩) ::
  (nat_lit 34, ⟨(.type "code"), none, .fields #[(.str "__init__" 208), (.str "Row.__init__" 209), (.str "/claim/cut.py" 210), (.int (7) 0), (.int (2) 0), (.int (0) 0), (.int (0) 0), (.int (3) 0), (.ref 29), (.bool true), (.int (181) 0), (.ref 30), .none, (.ref 31), (.ref 32), (.ref 33), (.int (213) 0), (.int (7) 0), (.str "/claim/cut.py" 214)], #[]⟩) ::
  (nat_lit 35, ⟨(.type "function"), none, .func (PySem.W.fnOf "__init__" "Row.__init__" (defArgs (inClass (top 2) 0)) (defBody (inClass (top 2) 0)) (defScope (inClass (top 2) 0)) .none .none .none (.str "hushrow.rows" 194) none (.ref 34) .none), #[]⟩) ::
  (nat_lit 36, ⟨(.type "tuple"), none, .seq #[] 0, #[]⟩) ::
  (nat_lit 38, ⟨(.type "tuple"), none, .seq #[(.str "self" 219)] 0, #[]⟩) ::
  (nat_lit 39, ⟨(.type "tuple"), none, .seq #[] 0, #[]⟩) ::
  (nat_lit 41, ⟨(.type "code"), none, .fields #[(.str "reads" 216), (.str "Row.reads" 217), (.str "/claim/cut.py" 218), (.int (10) 0), (.int (1) 0), (.int (0) 0), (.int (0) 0), (.int (3) 0), (.ref 36), (.bool true), (.int (181) 0), (.ref 37), .none, (.ref 38), (.ref 39), (.ref 40), (.int (220) 0), (.int (10) 0), (.str "/claim/cut.py" 221)], #[]⟩) ::
  (nat_lit 42, ⟨(.type "function"), none, .func (PySem.W.fnOf "reads" "Row.reads" (defArgs (inClass (top 2) 1)) (defBody (inClass (top 2) 1)) (defScope (inClass (top 2) 1)) .none .none .none (.str "hushrow.rows" 194) none (.ref 41) .none), #[]⟩) ::
  (nat_lit 43, ⟨(.type "tuple"), none, .seq #[] 0, #[]⟩) ::
  (nat_lit 45, ⟨(.type "tuple"), none, .seq #[(.str "self" 226)] 0, #[]⟩) ::
  (nat_lit 46, ⟨(.type "tuple"), none, .seq #[] 0, #[]⟩) ::
  (nat_lit 48, ⟨(.type "code"), none, .fields #[(.str "target" 223), (.str "Row.target" 224), (.str "/claim/cut.py" 225), (.int (13) 0), (.int (1) 0), (.int (0) 0), (.int (0) 0), (.int (3) 0), (.ref 43), (.bool true), (.int (181) 0), (.ref 44), .none, (.ref 45), (.ref 46), (.ref 47), (.int (227) 0), (.int (13) 0), (.str "/claim/cut.py" 228)], #[]⟩) ::
  (nat_lit 49, ⟨(.type "function"), none, .func (PySem.W.fnOf "target" "Row.target" (defArgs (inClass (top 2) 2)) (defBody (inClass (top 2) 2)) (defScope (inClass (top 2) 2)) .none .none .none (.str "hushrow.rows" 194) none (.ref 48) .none), #[]⟩) ::
  (nat_lit 50, ⟨(.type "tuple"), none, .seq #[(.str "number" 230)] 0, #[]⟩) ::
  (nat_lit 51, ⟨(.type "dict"), none, .dict #[E P "__module__" 203 (.str "hushrow.rows" 194), E P "__firstlineno__" 207 (.int (5) 206), E P "__init__" 215 (.ref 35), E P "reads" 222 (.ref 42), E P "target" 229 (.ref 49), E P "__static_attributes__" 231 (.ref 50), E P "__dict__" 233 (.ref 53), E P "__weakref__" 235 (.ref 54), E P "__doc__" 236 .none] 4, #[]⟩) ::
  (nat_lit 52, ⟨(.type "type"), none, .cls { name := "Row", bases := [(.type "object")], mro := [(.ref 52), (.type "object")], ns := 51, qualname := "Row", hasDict := true, slotNames := [], subclasses := [(.ref 80), (.ref 120), (.ref 153), (.ref 172), (.ref 205), (.ref 238), (.ref 264)], abstract := false, collection := none, hasDel := false }, #[none, none, (some (.str "Row" 196)), (some (.str "Row" 204)), (some (.builtin "object.__new__")), (some (.bool true))]⟩) ::
  (nat_lit 53, ⟨(.type "getset_descriptor"), none, .fields #[(.str "__dict__" 232), (.ref 52), (.builtin "function.__dict__"), (.builtin "function.__dict__#set")], #[]⟩) ::
  (nat_lit 54, ⟨(.type "getset_descriptor"), none, .fields #[(.str "__weakref__" 234), (.ref 52), (.builtin "ExceptionGroup.__weakref__"), .none], #[]⟩) ::
  (nat_lit 57, ⟨(.type "tuple"), none, .seq #[(.ref 52)] 0, #[]⟩) ::
  (nat_lit 64, ⟨(.type "tuple"), none, .seq #[] 0, #[]⟩) ::
  (nat_lit 66, ⟨(.type "tuple"), none, .seq #[(.str "self" 254), (.str "number" 255), (.str "name" 256), (.str "size" 257)] 0, #[]⟩) ::
  (nat_lit 67, ⟨(.type "tuple"), none, .seq #[] 0, #[]⟩) ::
  (nat_lit 69, ⟨(.type "code"), none, .fields #[(.str "__init__" 251), (.str "OwnRow.__init__" 252), (.str "/claim/cut.py" 253), (.int (17) 0), (.int (4) 0), (.int (0) 0), (.int (0) 0), (.int (3) 0), (.ref 64), (.bool true), (.int (181) 0), (.ref 65), .none, (.ref 66), (.ref 67), (.ref 68), (.int (258) 0), (.int (17) 0), (.str "/claim/cut.py" 259)], #[]⟩) ::
  (nat_lit 70, ⟨(.type "function"), none, .func (PySem.W.fnOf "__init__" "OwnRow.__init__" (defArgs (inClass (top 3) 0)) (defBody (inClass (top 3) 0)) (defScope (inClass (top 3) 0)) .none .none .none (.str "hushrow.rows" 194) none (.ref 69) .none), #[]⟩) ::
  (nat_lit 71, ⟨(.type "tuple"), none, .seq #[] 0, #[]⟩) ::
  (nat_lit 73, ⟨(.type "tuple"), none, .seq #[(.str "self" 264)] 0, #[]⟩) ::
  (nat_lit 74, ⟨(.type "tuple"), none, .seq #[] 0, #[]⟩) ::
  (nat_lit 76, ⟨(.type "code"), none, .fields #[(.str "shown" 261), (.str "OwnRow.shown" 262), (.str "/claim/cut.py" 263), (.int (22) 0), (.int (1) 0), (.int (0) 0), (.int (0) 0), (.int (3) 0), (.ref 71), (.bool true), (.int (181) 0), (.ref 72), .none, (.ref 73), (.ref 74), (.ref 75), (.int (265) 0), (.int (22) 0), (.str "/claim/cut.py" 266)], #[]⟩) ::
  (nat_lit 77, ⟨(.type "function"), none, .func (PySem.W.fnOf "shown" "OwnRow.shown" (defArgs (inClass (top 3) 1)) (defBody (inClass (top 3) 1)) (defScope (inClass (top 3) 1)) .none .none .none (.str "hushrow.rows" 194) none (.ref 76) .none), #[]⟩) ::
  (nat_lit 78, ⟨(.type "tuple"), none, .seq #[(.str "name" 268), (.str "size" 269)] 0, #[]⟩) ::
  (nat_lit 79, ⟨(.type "dict"), none, .dict #[E P "__module__" 246 (.str "hushrow.rows" 194), E P "__firstlineno__" 250 (.int (15) 249), E P "__init__" 260 (.ref 70), E P "shown" 267 (.ref 77), E P "__static_attributes__" 270 (.ref 78), E P "__doc__" 271 .none] 2, #[]⟩) ::
  (nat_lit 80, ⟨(.type "type"), none, .cls { name := "OwnRow", bases := [(.ref 52)], mro := [(.ref 80), (.ref 52), (.type "object")], ns := 79, qualname := "OwnRow", hasDict := true, slotNames := [], subclasses := [], abstract := false, collection := none, hasDel := false }, #[(some (.ref 57)), none, (some (.str "OwnRow" 239)), (some (.str "OwnRow" 247)), (some (.builtin "object.__new__")), (some (.bool true))]⟩) ::
  (nat_lit 83, ⟨(.type "tuple"), none, .seq #[(.ref 52)] 0, #[]⟩) ::
  (nat_lit 90, ⟨(.type "tuple"), none, .seq #[] 0, #[]⟩) ::
  (nat_lit 92, ⟨(.type "tuple"), none, .seq #[(.str "self" 289), (.str "number" 290), (.str "name" 291), (.str "value" 292)] 0, #[]⟩) ::
  (nat_lit 93, ⟨(.type "tuple"), none, .seq #[] 0, #[]⟩) ::
  (nat_lit 95, ⟨(.type "code"), none, .fields #[(.str "__init__" 286), (.str "SetRow.__init__" 287), (.str "/claim/cut.py" 288), (.int (26) 0), (.int (4) 0), (.int (0) 0), (.int (0) 0), (.int (3) 0), (.ref 90), (.bool true), (.int (181) 0), (.ref 91), .none, (.ref 92), (.ref 93), (.ref 94), (.int (293) 0), (.int (26) 0), (.str "/claim/cut.py" 294)], #[]⟩) ::
  (nat_lit 96, ⟨(.type "function"), none, .func (PySem.W.fnOf "__init__" "SetRow.__init__" (defArgs (inClass (top 4) 0)) (defBody (inClass (top 4) 0)) (defScope (inClass (top 4) 0)) .none .none .none (.str "hushrow.rows" 194) none (.ref 95) .none), #[]⟩) ::
  (nat_lit 97, ⟨(.type "tuple"), none, .seq #[] 0, #[]⟩) ::
  (nat_lit 99, ⟨(.type "tuple"), none, .seq #[(.str "self" 299)] 0, #[]⟩) ::
  (nat_lit 100, ⟨(.type "tuple"), none, .seq #[] 0, #[]⟩) ::
  (nat_lit 102, ⟨(.type "code"), none, .fields #[(.str "shown" 296), (.str "SetRow.shown" 297), (.str "/claim/cut.py" 298), (.int (31) 0), (.int (1) 0), (.int (0) 0), (.int (0) 0), (.int (3) 0), (.ref 97), (.bool true), (.int (181) 0), (.ref 98), .none, (.ref 99), (.ref 100), (.ref 101), (.int (300) 0), (.int (31) 0), (.str "/claim/cut.py" 301)], #[]⟩) ::
  (nat_lit 103, ⟨(.type "function"), none, .func (PySem.W.fnOf "shown" "SetRow.shown" (defArgs (inClass (top 4) 1)) (defBody (inClass (top 4) 1)) (defScope (inClass (top 4) 1)) .none .none .none (.str "hushrow.rows" 194) none (.ref 102) .none), #[]⟩) ::
  (nat_lit 104, ⟨(.type "tuple"), none, .seq #[] 0, #[]⟩) ::
  (nat_lit 106, ⟨(.type "tuple"), none, .seq #[(.str "self" 306)] 0, #[]⟩) ::
  (nat_lit 107, ⟨(.type "tuple"), none, .seq #[] 0, #[]⟩) ::
  (nat_lit 109, ⟨(.type "code"), none, .fields #[(.str "reads" 303), (.str "SetRow.reads" 304), (.str "/claim/cut.py" 305), (.int (34) 0), (.int (1) 0), (.int (0) 0), (.int (0) 0), (.int (3) 0), (.ref 104), (.bool true), (.int (181) 0), (.ref 105), .none, (.ref 106), (.ref 107), (.ref 108), (.int (307) 0), (.int (34) 0), (.str "/claim/cut.py" 308)], #[]⟩) ::
  (nat_lit 110, ⟨(.type "function"), none, .func (PySem.W.fnOf "reads" "SetRow.reads" (defArgs (inClass (top 4) 2)) (defBody (inClass (top 4) 2)) (defScope (inClass (top 4) 2)) .none .none .none (.str "hushrow.rows" 194) none (.ref 109) .none), #[]⟩) ::
  (nat_lit 111, ⟨(.type "tuple"), none, .seq #[] 0, #[]⟩) ::
  (nat_lit 113, ⟨(.type "tuple"), none, .seq #[(.str "self" 313)] 0, #[]⟩) ::
  (nat_lit 114, ⟨(.type "tuple"), none, .seq #[] 0, #[]⟩) ::
  (nat_lit 116, ⟨(.type "code"), none, .fields #[(.str "target" 310), (.str "SetRow.target" 311), (.str "/claim/cut.py" 312), (.int (37) 0), (.int (1) 0), (.int (0) 0), (.int (0) 0), (.int (3) 0), (.ref 111), (.bool true), (.int (181) 0), (.ref 112), .none, (.ref 113), (.ref 114), (.ref 115), (.int (314) 0), (.int (37) 0), (.str "/claim/cut.py" 315)], #[]⟩) ::
  (nat_lit 117, ⟨(.type "function"), none, .func (PySem.W.fnOf "target" "SetRow.target" (defArgs (inClass (top 4) 3)) (defBody (inClass (top 4) 3)) (defScope (inClass (top 4) 3)) .none .none .none (.str "hushrow.rows" 194) none (.ref 116) .none), #[]⟩) ::
  (nat_lit 118, ⟨(.type "tuple"), none, .seq #[(.str "name" 317), (.str "value" 318)] 0, #[]⟩) ::
  (nat_lit 119, ⟨(.type "dict"), none, .dict #[E P "__module__" 281 (.str "hushrow.rows" 194), E P "__firstlineno__" 285 (.int (24) 284), E P "__init__" 295 (.ref 96), E P "shown" 302 (.ref 103), E P "reads" 309 (.ref 110), E P "target" 316 (.ref 117), E P "__static_attributes__" 319 (.ref 118), E P "__doc__" 320 .none] 2, #[]⟩) ::
  (nat_lit 120, ⟨(.type "type"), none, .cls { name := "SetRow", bases := [(.ref 52)], mro := [(.ref 120), (.ref 52), (.type "object")], ns := 119, qualname := "SetRow", hasDict := true, slotNames := [], subclasses := [], abstract := false, collection := none, hasDel := false }, #[(some (.ref 83)), none, (some (.str "SetRow" 274)), (some (.str "SetRow" 282)), (some (.builtin "object.__new__")), (some (.bool true))]⟩) ::
  (nat_lit 123, ⟨(.type "tuple"), none, .seq #[(.ref 52)] 0, #[]⟩) ::
  (nat_lit 130, ⟨(.type "tuple"), none, .seq #[] 0, #[]⟩) ::
  (nat_lit 132, ⟨(.type "tuple"), none, .seq #[(.str "self" 338), (.str "number" 339), (.str "name" 340), (.str "things" 341)] 0, #[]⟩) ::
  (nat_lit 133, ⟨(.type "tuple"), none, .seq #[] 0, #[]⟩) ::
  (nat_lit 135, ⟨(.type "code"), none, .fields #[(.str "__init__" 335), (.str "CallRow.__init__" 336), (.str "/claim/cut.py" 337), (.int (41) 0), (.int (4) 0), (.int (0) 0), (.int (0) 0), (.int (3) 0), (.ref 130), (.bool true), (.int (181) 0), (.ref 131), .none, (.ref 132), (.ref 133), (.ref 134), (.int (342) 0), (.int (41) 0), (.str "/claim/cut.py" 343)], #[]⟩) ::
  (nat_lit 136, ⟨(.type "function"), none, .func (PySem.W.fnOf "__init__" "CallRow.__init__" (defArgs (inClass (top 5) 0)) (defBody (inClass (top 5) 0)) (defScope (inClass (top 5) 0)) .none .none .none (.str "hushrow.rows" 194) none (.ref 135) .none), #[]⟩) ::
  (nat_lit 137, ⟨(.type "tuple"), none, .seq #[] 0, #[]⟩) ::
  (nat_lit 139, ⟨(.type "tuple"), none, .seq #[(.str "self" 348)] 0, #[]⟩) ::
  (nat_lit 140, ⟨(.type "tuple"), none, .seq #[] 0, #[]⟩) ::
  (nat_lit 142, ⟨(.type "code"), none, .fields #[(.str "shown" 345), (.str "CallRow.shown" 346), (.str "/claim/cut.py" 347), (.int (46) 0), (.int (1) 0), (.int (0) 0), (.int (0) 0), (.int (3) 0), (.ref 137), (.bool true), (.int (181) 0), (.ref 138), .none, (.ref 139), (.ref 140), (.ref 141), (.int (349) 0), (.int (46) 0), (.str "/claim/cut.py" 350)], #[]⟩) ::
  (nat_lit 143, ⟨(.type "function"), none, .func (PySem.W.fnOf "shown" "CallRow.shown" (defArgs (inClass (top 5) 1)) (defBody (inClass (top 5) 1)) (defScope (inClass (top 5) 1)) .none .none .none (.str "hushrow.rows" 194) none (.ref 142) .none), #[]⟩) ::
  (nat_lit 144, ⟨(.type "tuple"), none, .seq #[] 0, #[]⟩) ::
  (nat_lit 146, ⟨(.type "tuple"), none, .seq #[(.str "self" 355)] 0, #[]⟩) ::
  (nat_lit 147, ⟨(.type "tuple"), none, .seq #[] 0, #[]⟩) ::
  (nat_lit 149, ⟨(.type "code"), none, .fields #[(.str "reads" 352), (.str "CallRow.reads" 353), (.str "/claim/cut.py" 354), (.int (49) 0), (.int (1) 0), (.int (0) 0), (.int (0) 0), (.int (3) 0), (.ref 144), (.bool true), (.int (181) 0), (.ref 145), .none, (.ref 146), (.ref 147), (.ref 148), (.int (356) 0), (.int (49) 0), (.str "/claim/cut.py" 357)], #[]⟩) ::
  (nat_lit 150, ⟨(.type "function"), none, .func (PySem.W.fnOf "reads" "CallRow.reads" (defArgs (inClass (top 5) 2)) (defBody (inClass (top 5) 2)) (defScope (inClass (top 5) 2)) .none .none .none (.str "hushrow.rows" 194) none (.ref 149) .none), #[]⟩) ::
  (nat_lit 151, ⟨(.type "tuple"), none, .seq #[(.str "name" 359), (.str "things" 360)] 0, #[]⟩) ::
  (nat_lit 152, ⟨(.type "dict"), none, .dict #[E P "__module__" 330 (.str "hushrow.rows" 194), E P "__firstlineno__" 334 (.int (39) 333), E P "__init__" 344 (.ref 136), E P "shown" 351 (.ref 143), E P "reads" 358 (.ref 150), E P "__static_attributes__" 361 (.ref 151), E P "__doc__" 362 .none] 2, #[]⟩) ::
  (nat_lit 153, ⟨(.type "type"), none, .cls { name := "CallRow", bases := [(.ref 52)], mro := [(.ref 153), (.ref 52), (.type "object")], ns := 152, qualname := "CallRow", hasDict := true, slotNames := [], subclasses := [], abstract := false, collection := none, hasDel := false }, #[(some (.ref 123)), none, (some (.str "CallRow" 323)), (some (.str "CallRow" 331)), (some (.builtin "object.__new__")), (some (.bool true))]⟩) ::
  (nat_lit 156, ⟨(.type "tuple"), none, .seq #[(.ref 52)] 0, #[]⟩) ::
  (nat_lit 163, ⟨(.type "tuple"), none, .seq #[] 0, #[]⟩) ::
  (nat_lit 165, ⟨(.type "tuple"), none, .seq #[(.str "self" 380)] 0, #[]⟩) ::
  (nat_lit 166, ⟨(.type "tuple"), none, .seq #[] 0, #[]⟩) ::
  (nat_lit 168, ⟨(.type "code"), none, .fields #[(.str "shown" 377), (.str "LastRow.shown" 378), (.str "/claim/cut.py" 379), (.int (53) 0), (.int (1) 0), (.int (0) 0), (.int (0) 0), (.int (3) 0), (.ref 163), (.bool true), (.int (181) 0), (.ref 164), .none, (.ref 165), (.ref 166), (.ref 167), (.int (381) 0), (.int (53) 0), (.str "/claim/cut.py" 382)], #[]⟩) ::
  (nat_lit 169, ⟨(.type "function"), none, .func (PySem.W.fnOf "shown" "LastRow.shown" (defArgs (inClass (top 6) 0)) (defBody (inClass (top 6) 0)) (defScope (inClass (top 6) 0)) .none .none .none (.str "hushrow.rows" 194) none (.ref 168) .none), #[]⟩) ::
  (nat_lit 170, ⟨(.type "tuple"), none, .seq #[] 0, #[]⟩) ::
  (nat_lit 171, ⟨(.type "dict"), none, .dict #[E P "__module__" 372 (.str "hushrow.rows" 194), E P "__firstlineno__" 376 (.int (51) 375), E P "shown" 383 (.ref 169), E P "__static_attributes__" 384 (.ref 170), E P "__doc__" 385 .none] 2, #[]⟩) ::
  (nat_lit 172, ⟨(.type "type"), none, .cls { name := "LastRow", bases := [(.ref 52)], mro := [(.ref 172), (.ref 52), (.type "object")], ns := 171, qualname := "LastRow", hasDict := true, slotNames := [], subclasses := [], abstract := false, collection := none, hasDel := false }, #[(some (.ref 156)), none, (some (.str "LastRow" 365)), (some (.str "LastRow" 373)), (some (.builtin "object.__new__")), (some (.bool true))]⟩) ::
  (nat_lit 175, ⟨(.type "tuple"), none, .seq #[(.ref 52)] 0, #[]⟩) ::
  (nat_lit 182, ⟨(.type "tuple"), none, .seq #[] 0, #[]⟩) ::
  (nat_lit 184, ⟨(.type "tuple"), none, .seq #[(.str "self" 403), (.str "number" 404), (.str "value" 405), (.str "first" 406), (.str "other" 407), (.str "left" 408), (.str "right" 409)] 0, #[]⟩) ::
  (nat_lit 185, ⟨(.type "tuple"), none, .seq #[] 0, #[]⟩) ::
  (nat_lit 187, ⟨(.type "code"), none, .fields #[(.str "__init__" 400), (.str "IfRow.__init__" 401), (.str "/claim/cut.py" 402), (.int (57) 0), (.int (7) 0), (.int (0) 0), (.int (0) 0), (.int (3) 0), (.ref 182), (.bool true), (.int (181) 0), (.ref 183), .none, (.ref 184), (.ref 185), (.ref 186), (.int (410) 0), (.int (57) 0), (.str "/claim/cut.py" 411)], #[]⟩) ::
  (nat_lit 188, ⟨(.type "function"), none, .func (PySem.W.fnOf "__init__" "IfRow.__init__" (defArgs (inClass (top 7) 0)) (defBody (inClass (top 7) 0)) (defScope (inClass (top 7) 0)) .none .none .none (.str "hushrow.rows" 194) none (.ref 187) .none), #[]⟩) ::
  (nat_lit 189, ⟨(.type "tuple"), none, .seq #[] 0, #[]⟩) ::
  (nat_lit 191, ⟨(.type "tuple"), none, .seq #[(.str "self" 416)] 0, #[]⟩) ::
  (nat_lit 192, ⟨(.type "tuple"), none, .seq #[] 0, #[]⟩) ::
  (nat_lit 194, ⟨(.type "code"), none, .fields #[(.str "shown" 413), (.str "IfRow.shown" 414), (.str "/claim/cut.py" 415), (.int (65) 0), (.int (1) 0), (.int (0) 0), (.int (0) 0), (.int (3) 0), (.ref 189), (.bool true), (.int (181) 0), (.ref 190), .none, (.ref 191), (.ref 192), (.ref 193), (.int (417) 0), (.int (65) 0), (.str "/claim/cut.py" 418)], #[]⟩) ::
  (nat_lit 195, ⟨(.type "function"), none, .func (PySem.W.fnOf "shown" "IfRow.shown" (defArgs (inClass (top 7) 1)) (defBody (inClass (top 7) 1)) (defScope (inClass (top 7) 1)) .none .none .none (.str "hushrow.rows" 194) none (.ref 194) .none), #[]⟩) ::
  (nat_lit 196, ⟨(.type "tuple"), none, .seq #[] 0, #[]⟩) ::
  (nat_lit 198, ⟨(.type "tuple"), none, .seq #[(.str "self" 423)] 0, #[]⟩) ::
  (nat_lit 199, ⟨(.type "tuple"), none, .seq #[] 0, #[]⟩) ::
  (nat_lit 201, ⟨(.type "code"), none, .fields #[(.str "reads" 420), (.str "IfRow.reads" 421), (.str "/claim/cut.py" 422), (.int (68) 0), (.int (1) 0), (.int (0) 0), (.int (0) 0), (.int (3) 0), (.ref 196), (.bool true), (.int (181) 0), (.ref 197), .none, (.ref 198), (.ref 199), (.ref 200), (.int (424) 0), (.int (68) 0), (.str "/claim/cut.py" 425)], #[]⟩) ::
  (nat_lit 202, ⟨(.type "function"), none, .func (PySem.W.fnOf "reads" "IfRow.reads" (defArgs (inClass (top 7) 2)) (defBody (inClass (top 7) 2)) (defScope (inClass (top 7) 2)) .none .none .none (.str "hushrow.rows" 194) none (.ref 201) .none), #[]⟩) ::
  (nat_lit 203, ⟨(.type "tuple"), none, .seq #[(.str "first" 427), (.str "left" 428), (.str "other" 429), (.str "right" 430), (.str "value" 431)] 0, #[]⟩) ::
  (nat_lit 204, ⟨(.type "dict"), none, .dict #[E P "__module__" 395 (.str "hushrow.rows" 194), E P "__firstlineno__" 399 (.int (55) 398), E P "__init__" 412 (.ref 188), E P "shown" 419 (.ref 195), E P "reads" 426 (.ref 202), E P "__static_attributes__" 432 (.ref 203), E P "__doc__" 433 .none] 2, #[]⟩) ::
  (nat_lit 205, ⟨(.type "type"), none, .cls { name := "IfRow", bases := [(.ref 52)], mro := [(.ref 205), (.ref 52), (.type "object")], ns := 204, qualname := "IfRow", hasDict := true, slotNames := [], subclasses := [], abstract := false, collection := none, hasDel := false }, #[(some (.ref 175)), none, (some (.str "IfRow" 388)), (some (.str "IfRow" 396)), (some (.builtin "object.__new__")), (some (.bool true))]⟩) ::
  (nat_lit 208, ⟨(.type "tuple"), none, .seq #[(.ref 52)] 0, #[]⟩) ::
  (nat_lit 215, ⟨(.type "tuple"), none, .seq #[] 0, #[]⟩) ::
  (nat_lit 217, ⟨(.type "tuple"), none, .seq #[(.str "self" 451), (.str "number" 452), (.str "thing" 453), (.str "most" 454), (.str "body" 455), (.str "left" 456), (.str "right" 457)] 0, #[]⟩) ::
  (nat_lit 218, ⟨(.type "tuple"), none, .seq #[] 0, #[]⟩) ::
  (nat_lit 220, ⟨(.type "code"), none, .fields #[(.str "__init__" 448), (.str "LoopRow.__init__" 449), (.str "/claim/cut.py" 450), (.int (72) 0), (.int (7) 0), (.int (0) 0), (.int (0) 0), (.int (3) 0), (.ref 215), (.bool true), (.int (181) 0), (.ref 216), .none, (.ref 217), (.ref 218), (.ref 219), (.int (458) 0), (.int (72) 0), (.str "/claim/cut.py" 459)], #[]⟩) ::
  (nat_lit 221, ⟨(.type "function"), none, .func (PySem.W.fnOf "__init__" "LoopRow.__init__" (defArgs (inClass (top 8) 0)) (defBody (inClass (top 8) 0)) (defScope (inClass (top 8) 0)) .none .none .none (.str "hushrow.rows" 194) none (.ref 220) .none), #[]⟩) ::
  (nat_lit 222, ⟨(.type "tuple"), none, .seq #[] 0, #[]⟩) ::
  (nat_lit 224, ⟨(.type "tuple"), none, .seq #[(.str "self" 464)] 0, #[]⟩) ::
  (nat_lit 225, ⟨(.type "tuple"), none, .seq #[] 0, #[]⟩) ::
  (nat_lit 227, ⟨(.type "code"), none, .fields #[(.str "shown" 461), (.str "LoopRow.shown" 462), (.str "/claim/cut.py" 463), (.int (80) 0), (.int (1) 0), (.int (0) 0), (.int (0) 0), (.int (3) 0), (.ref 222), (.bool true), (.int (181) 0), (.ref 223), .none, (.ref 224), (.ref 225), (.ref 226), (.int (465) 0), (.int (80) 0), (.str "/claim/cut.py" 466)], #[]⟩) ::
  (nat_lit 228, ⟨(.type "function"), none, .func (PySem.W.fnOf "shown" "LoopRow.shown" (defArgs (inClass (top 8) 1)) (defBody (inClass (top 8) 1)) (defScope (inClass (top 8) 1)) .none .none .none (.str "hushrow.rows" 194) none (.ref 227) .none), #[]⟩) ::
  (nat_lit 229, ⟨(.type "tuple"), none, .seq #[] 0, #[]⟩) ::
  (nat_lit 231, ⟨(.type "tuple"), none, .seq #[(.str "self" 471)] 0, #[]⟩) ::
  (nat_lit 232, ⟨(.type "tuple"), none, .seq #[] 0, #[]⟩) ::
  (nat_lit 234, ⟨(.type "code"), none, .fields #[(.str "reads" 468), (.str "LoopRow.reads" 469), (.str "/claim/cut.py" 470), (.int (83) 0), (.int (1) 0), (.int (0) 0), (.int (0) 0), (.int (3) 0), (.ref 229), (.bool true), (.int (181) 0), (.ref 230), .none, (.ref 231), (.ref 232), (.ref 233), (.int (472) 0), (.int (83) 0), (.str "/claim/cut.py" 473)], #[]⟩) ::
  (nat_lit 235, ⟨(.type "function"), none, .func (PySem.W.fnOf "reads" "LoopRow.reads" (defArgs (inClass (top 8) 2)) (defBody (inClass (top 8) 2)) (defScope (inClass (top 8) 2)) .none .none .none (.str "hushrow.rows" 194) none (.ref 234) .none), #[]⟩) ::
  (nat_lit 236, ⟨(.type "tuple"), none, .seq #[(.str "body" 475), (.str "left" 476), (.str "most" 477), (.str "right" 478), (.str "thing" 479)] 0, #[]⟩) ::
  (nat_lit 237, ⟨(.type "dict"), none, .dict #[E P "__module__" 443 (.str "hushrow.rows" 194), E P "__firstlineno__" 447 (.int (70) 446), E P "__init__" 460 (.ref 221), E P "shown" 467 (.ref 228), E P "reads" 474 (.ref 235), E P "__static_attributes__" 480 (.ref 236), E P "__doc__" 481 .none] 2, #[]⟩) ::
  (nat_lit 238, ⟨(.type "type"), none, .cls { name := "LoopRow", bases := [(.ref 52)], mro := [(.ref 238), (.ref 52), (.type "object")], ns := 237, qualname := "LoopRow", hasDict := true, slotNames := [], subclasses := [], abstract := false, collection := none, hasDel := false }, #[(some (.ref 208)), none, (some (.str "LoopRow" 436)), (some (.str "LoopRow" 444)), (some (.builtin "object.__new__")), (some (.bool true))]⟩) ::
  (nat_lit 241, ⟨(.type "tuple"), none, .seq #[(.ref 52)] 0, #[]⟩) ::
  (nat_lit 248, ⟨(.type "tuple"), none, .seq #[] 0, #[]⟩) ::
  (nat_lit 250, ⟨(.type "tuple"), none, .seq #[(.str "self" 499), (.str "number" 500), (.str "name" 501), (.str "parts" 502), (.str "body" 503)] 0, #[]⟩) ::
  (nat_lit 251, ⟨(.type "tuple"), none, .seq #[] 0, #[]⟩) ::
  (nat_lit 253, ⟨(.type "code"), none, .fields #[(.str "__init__" 496), (.str "DeedRow.__init__" 497), (.str "/claim/cut.py" 498), (.int (87) 0), (.int (5) 0), (.int (0) 0), (.int (0) 0), (.int (3) 0), (.ref 248), (.bool true), (.int (181) 0), (.ref 249), .none, (.ref 250), (.ref 251), (.ref 252), (.int (504) 0), (.int (87) 0), (.str "/claim/cut.py" 505)], #[]⟩) ::
  (nat_lit 254, ⟨(.type "function"), none, .func (PySem.W.fnOf "__init__" "DeedRow.__init__" (defArgs (inClass (top 9) 0)) (defBody (inClass (top 9) 0)) (defScope (inClass (top 9) 0)) .none .none .none (.str "hushrow.rows" 194) none (.ref 253) .none), #[]⟩) ::
  (nat_lit 255, ⟨(.type "tuple"), none, .seq #[] 0, #[]⟩) ::
  (nat_lit 257, ⟨(.type "tuple"), none, .seq #[(.str "self" 510)] 0, #[]⟩) ::
  (nat_lit 258, ⟨(.type "tuple"), none, .seq #[] 0, #[]⟩) ::
  (nat_lit 260, ⟨(.type "code"), none, .fields #[(.str "shown" 507), (.str "DeedRow.shown" 508), (.str "/claim/cut.py" 509), (.int (93) 0), (.int (1) 0), (.int (0) 0), (.int (0) 0), (.int (3) 0), (.ref 255), (.bool true), (.int (181) 0), (.ref 256), .none, (.ref 257), (.ref 258), (.ref 259), (.int (511) 0), (.int (93) 0), (.str "/claim/cut.py" 512)], #[]⟩) ::
  (nat_lit 261, ⟨(.type "function"), none, .func (PySem.W.fnOf "shown" "DeedRow.shown" (defArgs (inClass (top 9) 1)) (defBody (inClass (top 9) 1)) (defScope (inClass (top 9) 1)) .none .none .none (.str "hushrow.rows" 194) none (.ref 260) .none), #[]⟩) ::
  (nat_lit 262, ⟨(.type "tuple"), none, .seq #[(.str "body" 514), (.str "name" 515), (.str "parts" 516)] 0, #[]⟩) ::
  (nat_lit 263, ⟨(.type "dict"), none, .dict #[E P "__module__" 491 (.str "hushrow.rows" 194), E P "__firstlineno__" 495 (.int (85) 494), E P "__init__" 506 (.ref 254), E P "shown" 513 (.ref 261), E P "__static_attributes__" 517 (.ref 262), E P "__doc__" 518 .none] 2, #[]⟩) ::
  (nat_lit 264, ⟨(.type "type"), none, .cls { name := "DeedRow", bases := [(.ref 52)], mro := [(.ref 264), (.ref 52), (.type "object")], ns := 263, qualname := "DeedRow", hasDict := true, slotNames := [], subclasses := [], abstract := false, collection := none, hasDel := false }, #[(some (.ref 241)), none, (some (.str "DeedRow" 484)), (some (.str "DeedRow" 492)), (some (.builtin "object.__new__")), (some (.bool true))]⟩) ::
  (nat_lit 274, ⟨(.type "tuple"), none, .seq #[] 0, #[]⟩) ::
  (nat_lit 276, ⟨(.type "tuple"), none, .seq #[(.str "self" 536), (.str "heads" 537), (.str "deeds" 538), (.str "main" 539)] 0, #[]⟩) ::
  (nat_lit 277, ⟨(.type "tuple"), none, .seq #[] 0, #[]⟩) ::
  (nat_lit 279, ⟨(.type "code"), none, .fields #[(.str "__init__" 533), (.str "Program.__init__" 534), (.str "/claim/cut.py" 535), (.int (97) 0), (.int (4) 0), (.int (0) 0), (.int (0) 0), (.int (3) 0), (.ref 274), (.bool true), (.int (181) 0), (.ref 275), .none, (.ref 276), (.ref 277), (.ref 278), (.int (540) 0), (.int (97) 0), (.str "/claim/cut.py" 541)], #[]⟩) ::
  (nat_lit 280, ⟨(.type "function"), none, .func (PySem.W.fnOf "__init__" "Program.__init__" (defArgs (inClass (top 10) 0)) (defBody (inClass (top 10) 0)) (defScope (inClass (top 10) 0)) .none .none .none (.str "hushrow.rows" 194) none (.ref 279) .none), #[]⟩) ::
  (nat_lit 281, ⟨(.type "tuple"), none, .seq #[(.str "deeds" 543), (.str "heads" 544), (.str "main" 545)] 0, #[]⟩) ::
  (nat_lit 282, ⟨(.type "dict"), none, .dict #[E P "__module__" 528 (.str "hushrow.rows" 194), E P "__firstlineno__" 532 (.int (95) 531), E P "__init__" 542 (.ref 280), E P "__static_attributes__" 546 (.ref 281), E P "__dict__" 548 (.ref 284), E P "__weakref__" 550 (.ref 285), E P "__doc__" 551 .none] 4, #[]⟩) ::
  (nat_lit 283, ⟨(.type "type"), none, .cls { name := "Program", bases := [(.type "object")], mro := [(.ref 283), (.type "object")], ns := 282, qualname := "Program", hasDict := true, slotNames := [], subclasses := [], abstract := false, collection := none, hasDel := false }, #[none, none, (some (.str "Program" 521)), (some (.str "Program" 529)), (some (.builtin "object.__new__")), (some (.bool true))]⟩) ::
  (nat_lit 284, ⟨(.type "getset_descriptor"), none, .fields #[(.str "__dict__" 547), (.ref 283), (.builtin "function.__dict__"), (.builtin "function.__dict__#set")], #[]⟩) ::
  (nat_lit 285, ⟨(.type "getset_descriptor"), none, .fields #[(.str "__weakref__" 549), (.ref 283), (.builtin "ExceptionGroup.__weakref__"), .none], #[]⟩) ::
  (nat_lit 288, ⟨(.type "tuple"), none, .seq #[] 0, #[]⟩) ::
  (nat_lit 291, ⟨(.type "code"), none, .fields #[(.str "most_of" 556), (.str "most_of" 557), (.str "/claim/cut.py" 558), (.int (102) 0), (.int (2) 0), (.int (0) 0), (.int (0) 0), (.int (3) 0), (.ref 288), (.bool true), (.int (181) 0), (.ref 289), .none, .none, .none, (.ref 290), (.int (559) 0), (.int (102) 0), (.str "/claim/cut.py" 560)], #[]⟩) ::
  (nat_lit 292, ⟨(.type "function"), none, .func (PySem.W.fnOf "most_of" "most_of" (defArgs (top 12)) (defBody (top 12)) (defScope (top 12)) .none .none .none (.str "hushrow.costs" 554) none (.ref 291) .none), #[]⟩) ::
  (nat_lit 293, ⟨(.type "tuple"), none, .seq #[] 0, #[]⟩) ::
  (nat_lit 295, ⟨(.type "tuple"), none, .seq #[(.str "row" 565), (.str "known" 566), (.str "one" 567), (.str "other" 568)] 0, #[]⟩) ::
  (nat_lit 296, ⟨(.type "tuple"), none, .seq #[] 0, #[]⟩) ::
  (nat_lit 298, ⟨(.type "code"), none, .fields #[(.str "most_of_row" 562), (.str "most_of_row" 563), (.str "/claim/cut.py" 564), (.int (104) 0), (.int (2) 0), (.int (0) 0), (.int (0) 0), (.int (3) 0), (.ref 293), (.bool true), (.int (181) 0), (.ref 294), .none, (.ref 295), (.ref 296), (.ref 297), (.int (569) 0), (.int (104) 0), (.str "/claim/cut.py" 570)], #[]⟩) ::
  (nat_lit 299, ⟨(.type "function"), none, .func (PySem.W.fnOf "most_of_row" "most_of_row" (defArgs (top 13)) (defBody (top 13)) (defScope (top 13)) .none .none .none (.str "hushrow.costs" 554) none (.ref 298) .none), #[]⟩) ::
  (nat_lit 300, ⟨(.type "tuple"), none, .seq #[] 0, #[]⟩) ::
  (nat_lit 302, ⟨(.type "tuple"), none, .seq #[(.str "rows" 575), (.str "known" 576), (.str "steps" 577), (.str "row" 578), (.str "more" 579)] 0, #[]⟩) ::
  (nat_lit 303, ⟨(.type "tuple"), none, .seq #[] 0, #[]⟩) ::
  (nat_lit 305, ⟨(.type "code"), none, .fields #[(.str "exact_of" 572), (.str "exact_of" 573), (.str "/claim/cut.py" 574), (.int (114) 0), (.int (2) 0), (.int (0) 0), (.int (0) 0), (.int (3) 0), (.ref 300), (.bool true), (.int (181) 0), (.ref 301), .none, (.ref 302), (.ref 303), (.ref 304), (.int (580) 0), (.int (114) 0), (.str "/claim/cut.py" 581)], #[]⟩) ::
  (nat_lit 306, ⟨(.type "function"), none, .func (PySem.W.fnOf "exact_of" "exact_of" (defArgs (top 14)) (defBody (top 14)) (defScope (top 14)) .none .none .none (.str "hushrow.costs" 554) none (.ref 305) .none), #[]⟩) ::
  (nat_lit 307, ⟨(.type "tuple"), none, .seq #[] 0, #[]⟩) ::
  (nat_lit 309, ⟨(.type "tuple"), none, .seq #[(.str "row" 586), (.str "known" 587)] 0, #[]⟩) ::
  (nat_lit 310, ⟨(.type "tuple"), none, .seq #[] 0, #[]⟩) ::
  (nat_lit 312, ⟨(.type "code"), none, .fields #[(.str "exact_of_row" 583), (.str "exact_of_row" 584), (.str "/claim/cut.py" 585), (.int (122) 0), (.int (2) 0), (.int (0) 0), (.int (0) 0), (.int (3) 0), (.ref 307), (.bool true), (.int (181) 0), (.ref 308), .none, (.ref 309), (.ref 310), (.ref 311), (.int (588) 0), (.int (122) 0), (.str "/claim/cut.py" 589)], #[]⟩) ::
  (nat_lit 313, ⟨(.type "function"), none, .func (PySem.W.fnOf "exact_of_row" "exact_of_row" (defArgs (top 15)) (defBody (top 15)) (defScope (top 15)) .none .none .none (.str "hushrow.costs" 554) none (.ref 312) .none), #[]⟩) ::
  (nat_lit 314, ⟨(.type "tuple"), none, .seq #[] 0, #[]⟩) ::
  (nat_lit 316, ⟨(.type "tuple"), none, .seq #[(.str "steps" 594)] 0, #[]⟩) ::
  (nat_lit 317, ⟨(.type "tuple"), none, .seq #[] 0, #[]⟩) ::
  (nat_lit 319, ⟨(.type "code"), none, .fields #[(.str "one_more" 591), (.str "one_more" 592), (.str "/claim/cut.py" 593), (.int (130) 0), (.int (1) 0), (.int (0) 0), (.int (0) 0), (.int (3) 0), (.ref 314), (.bool true), (.int (181) 0), (.ref 315), .none, (.ref 316), (.ref 317), (.ref 318), (.int (595) 0), (.int (130) 0), (.str "/claim/cut.py" 596)], #[]⟩) ::
  (nat_lit 320, ⟨(.type "function"), none, .func (PySem.W.fnOf "one_more" "one_more" (defArgs (top 16)) (defBody (top 16)) (defScope (top 16)) .none .none .none (.str "hushrow.costs" 554) none (.ref 319) .none), #[]⟩) ::
  (nat_lit 321, ⟨(.type "tuple"), none, .seq #[] 0, #[]⟩) ::
  (nat_lit 323, ⟨(.type "tuple"), none, .seq #[(.str "row" 601), (.str "known" 602), (.str "one" 603), (.str "other" 604)] 0, #[]⟩) ::
  (nat_lit 324, ⟨(.type "tuple"), none, .seq #[] 0, #[]⟩) ::
  (nat_lit 326, ⟨(.type "code"), none, .fields #[(.str "exact_of_if" 598), (.str "exact_of_if" 599), (.str "/claim/cut.py" 600), (.int (132) 0), (.int (2) 0), (.int (0) 0), (.int (0) 0), (.int (3) 0), (.ref 321), (.bool true), (.int (181) 0), (.ref 322), .none, (.ref 323), (.ref 324), (.ref 325), (.int (605) 0), (.int (132) 0), (.str "/claim/cut.py" 606)], #[]⟩) ::
  (nat_lit 327, ⟨(.type "function"), none, .func (PySem.W.fnOf "exact_of_if" "exact_of_if" (defArgs (top 17)) (defBody (top 17)) (defScope (top 17)) .none .none .none (.str "hushrow.costs" 554) none (.ref 326) .none), #[]⟩) ::
  (nat_lit 328, ⟨(.type "tuple"), none, .seq #[] 0, #[]⟩) ::
  (nat_lit 330, ⟨(.type "tuple"), none, .seq #[(.str "row" 611), (.str "known" 612), (.str "steps" 613)] 0, #[]⟩) ::
  (nat_lit 331, ⟨(.type "tuple"), none, .seq #[] 0, #[]⟩) ::
  (nat_lit 333, ⟨(.type "code"), none, .fields #[(.str "exact_of_loop" 608), (.str "exact_of_loop" 609), (.str "/claim/cut.py" 610), (.int (138) 0), (.int (2) 0), (.int (0) 0), (.int (0) 0), (.int (3) 0), (.ref 328), (.bool true), (.int (181) 0), (.ref 329), .none, (.ref 330), (.ref 331), (.ref 332), (.int (614) 0), (.int (138) 0), (.str "/claim/cut.py" 615)], #[]⟩) ::
  (nat_lit 334, ⟨(.type "function"), none, .func (PySem.W.fnOf "exact_of_loop" "exact_of_loop" (defArgs (top 18)) (defBody (top 18)) (defScope (top 18)) .none .none .none (.str "hushrow.costs" 554) none (.ref 333) .none), #[]⟩) ::
  (nat_lit 335, ⟨(.type "tuple"), none, .seq #[] 0, #[]⟩) ::
  (nat_lit 337, ⟨(.type "tuple"), none, .seq #[(.str "row" 620), (.str "known" 621)] 0, #[]⟩) ::
  (nat_lit 338, ⟨(.type "tuple"), none, .seq #[] 0, #[]⟩) ::
  (nat_lit 340, ⟨(.type "code"), none, .fields #[(.str "balanced" 617), (.str "balanced" 618), (.str "/claim/cut.py" 619), (.int (143) 0), (.int (2) 0), (.int (0) 0), (.int (0) 0), (.int (3) 0), (.ref 335), (.bool true), (.int (181) 0), (.ref 336), .none, (.ref 337), (.ref 338), (.ref 339), (.int (622) 0), (.int (143) 0), (.str "/claim/cut.py" 623)], #[]⟩) ::
  (nat_lit 341, ⟨(.type "function"), none, .func (PySem.W.fnOf "balanced" "balanced" (defArgs (top 19)) (defBody (top 19)) (defScope (top 19)) .none .none .none (.str "hushrow.costs" 554) none (.ref 340) .none), #[]⟩) ::
  (nat_lit 342, ⟨(.type "tuple"), none, .seq #[] 0, #[]⟩) ::
  (nat_lit 344, ⟨(.type "tuple"), none, .seq #[(.str "program" 628), (.str "known" 629), (.str "deed" 630)] 0, #[]⟩) ::
  (nat_lit 345, ⟨(.type "tuple"), none, .seq #[] 0, #[]⟩) ::
  (nat_lit 347, ⟨(.type "code"), none, .fields #[(.str "mosts" 625), (.str "mosts" 626), (.str "/claim/cut.py" 627), (.int (145) 0), (.int (1) 0), (.int (0) 0), (.int (0) 0), (.int (3) 0), (.ref 342), (.bool true), (.int (181) 0), (.ref 343), .none, (.ref 344), (.ref 345), (.ref 346), (.int (631) 0), (.int (145) 0), (.str "/claim/cut.py" 632)], #[]⟩) ::
  (nat_lit 348, ⟨(.type "function"), none, .func (PySem.W.fnOf "mosts" "mosts" (defArgs (top 20)) (defBody (top 20)) (defScope (top 20)) .none .none .none (.str "hushrow.costs" 554) none (.ref 347) .none), #[]⟩) ::
  (nat_lit 349, ⟨(.type "tuple"), none, .seq #[] 0, #[]⟩) ::
  (nat_lit 351, ⟨(.type "tuple"), none, .seq #[(.str "program" 637), (.str "known" 638), (.str "deed" 639)] 0, #[]⟩) ::
  (nat_lit 352, ⟨(.type "tuple"), none, .seq #[] 0, #[]⟩) ::
  (nat_lit 354, ⟨(.type "code"), none, .fields #[(.str "exacts" 634), (.str "exacts" 635), (.str "/claim/cut.py" 636), (.int (150) 0), (.int (1) 0), (.int (0) 0), (.int (0) 0), (.int (3) 0), (.ref 349), (.bool true), (.int (181) 0), (.ref 350), .none, (.ref 351), (.ref 352), (.ref 353), (.int (640) 0), (.int (150) 0), (.str "/claim/cut.py" 641)], #[]⟩) ::
  (nat_lit 355, ⟨(.type "function"), none, .func (PySem.W.fnOf "exacts" "exacts" (defArgs (top 21)) (defBody (top 21)) (defScope (top 21)) .none .none .none (.str "hushrow.costs" 554) none (.ref 354) .none), #[]⟩) ::
  (nat_lit 356, ⟨(.type "tuple"), none, .seq #[] 0, #[]⟩) ::
  (nat_lit 358, ⟨(.type "tuple"), none, .seq #[(.str "program" 646)] 0, #[]⟩) ::
  (nat_lit 359, ⟨(.type "tuple"), none, .seq #[] 0, #[]⟩) ::
  (nat_lit 361, ⟨(.type "code"), none, .fields #[(.str "most" 643), (.str "most" 644), (.str "/claim/cut.py" 645), (.int (155) 0), (.int (1) 0), (.int (0) 0), (.int (0) 0), (.int (3) 0), (.ref 356), (.bool true), (.int (181) 0), (.ref 357), .none, (.ref 358), (.ref 359), (.ref 360), (.int (647) 0), (.int (155) 0), (.str "/claim/cut.py" 648)], #[]⟩) ::
  (nat_lit 362, ⟨(.type "function"), none, .func (PySem.W.fnOf "most" "most" (defArgs (top 22)) (defBody (top 22)) (defScope (top 22)) .none .none .none (.str "hushrow.costs" 554) none (.ref 361) .none), #[]⟩) ::
  (nat_lit 363, ⟨(.type "tuple"), none, .seq #[] 0, #[]⟩) ::
  (nat_lit 365, ⟨(.type "tuple"), none, .seq #[(.str "program" 653)] 0, #[]⟩) ::
  (nat_lit 366, ⟨(.type "tuple"), none, .seq #[] 0, #[]⟩) ::
  (nat_lit 368, ⟨(.type "code"), none, .fields #[(.str "exact" 650), (.str "exact" 651), (.str "/claim/cut.py" 652), (.int (157) 0), (.int (1) 0), (.int (0) 0), (.int (0) 0), (.int (3) 0), (.ref 363), (.bool true), (.int (181) 0), (.ref 364), .none, (.ref 365), (.ref 366), (.ref 367), (.int (654) 0), (.int (157) 0), (.str "/claim/cut.py" 655)], #[]⟩) ::
  (nat_lit 369, ⟨(.type "function"), none, .func (PySem.W.fnOf "exact" "exact" (defArgs (top 23)) (defBody (top 23)) (defScope (top 23)) .none .none .none (.str "hushrow.costs" 554) none (.ref 368) .none), #[]⟩) ::
  (nat_lit 370, ⟨(.type "tuple"), none, .seq #[] 0, #[]⟩) ::
  (nat_lit 372, ⟨(.type "tuple"), none, .seq #[(.str "_law_script" 662), (.str "_law_k" 663), (.str "_law_cell" 664)] 0, #[]⟩) ::
  (nat_lit 373, ⟨(.type "tuple"), none, .seq #[] 0, #[]⟩) ::
  (nat_lit 375, ⟨(.type "code"), none, .fields #[(.str "_law_cell_at" 659), (.str "_law_cell_at" 660), (.str "/claim/cut.py" 661), (.int (160) 0), (.int (2) 0), (.int (0) 0), (.int (0) 0), (.int (3) 0), (.ref 370), (.bool true), (.int (181) 0), (.ref 371), .none, (.ref 372), (.ref 373), (.ref 374), (.int (665) 0), (.int (160) 0), (.str "/claim/cut.py" 666)], #[]⟩) ::
  (nat_lit 376, ⟨(.type "function"), none, .func (PySem.W.fnOf "_law_cell_at" "_law_cell_at" (defArgs (top 25)) (defBody (top 25)) (defScope (top 25)) .none .none .none (.str "law_hushrow_k13_costs" 657) none (.ref 375) .none), #[]⟩) ::
  (nat_lit 377, ⟨(.type "tuple"), none, .seq #[] 0, #[]⟩) ::
  (nat_lit 380, ⟨(.type "code"), none, .fields #[(.str "_law_more" 668), (.str "_law_more" 669), (.str "/claim/cut.py" 670), (.int (167) 0), (.int (3) 0), (.int (0) 0), (.int (0) 0), (.int (3) 0), (.ref 377), (.bool true), (.int (181) 0), (.ref 378), .none, .none, .none, (.ref 379), (.int (671) 0), (.int (167) 0), (.str "/claim/cut.py" 672)], #[]⟩) ::
  (nat_lit 381, ⟨(.type "function"), none, .func (PySem.W.fnOf "_law_more" "_law_more" (defArgs (top 26)) (defBody (top 26)) (defScope (top 26)) .none .none .none (.str "law_hushrow_k13_costs" 657) none (.ref 380) .none), #[]⟩) ::
  (nat_lit 382, ⟨(.type "tuple"), none, .seq #[] 0, #[]⟩) ::
  (nat_lit 384, ⟨(.type "tuple"), none, .seq #[(.str "_law_cell" 677), (.str "_law_k" 678), (.str "_law_digits" 679), (.str "_law_ahead" 680), (.str "_law_number" 681)] 0, #[]⟩) ::
  (nat_lit 385, ⟨(.type "tuple"), none, .seq #[] 0, #[]⟩) ::
  (nat_lit 387, ⟨(.type "code"), none, .fields #[(.str "_law_mix" 674), (.str "_law_mix" 675), (.str "/claim/cut.py" 676), (.int (169) 0), (.int (2) 0), (.int (0) 0), (.int (0) 0), (.int (3) 0), (.ref 382), (.bool true), (.int (181) 0), (.ref 383), .none, (.ref 384), (.ref 385), (.ref 386), (.int (682) 0), (.int (169) 0), (.str "/claim/cut.py" 683)], #[]⟩) ::
  (nat_lit 388, ⟨(.type "function"), none, .func (PySem.W.fnOf "_law_mix" "_law_mix" (defArgs (top 27)) (defBody (top 27)) (defScope (top 27)) .none .none .none (.str "law_hushrow_k13_costs" 657) none (.ref 387) .none), #[]⟩) ::
  (nat_lit 389, ⟨(.type "tuple"), none, .seq #[] 0, #[]⟩) ::
  (nat_lit 392, ⟨(.type "code"), none, .fields #[(.str "_law_names" 685), (.str "_law_names" 686), (.str "/claim/cut.py" 687), (.int (178) 0), (.int (3) 0), (.int (0) 0), (.int (0) 0), (.int (3) 0), (.ref 389), (.bool true), (.int (181) 0), (.ref 390), .none, .none, .none, (.ref 391), (.int (688) 0), (.int (178) 0), (.str "/claim/cut.py" 689)], #[]⟩) ::
  (nat_lit 393, ⟨(.type "function"), none, .func (PySem.W.fnOf "_law_names" "_law_names" (defArgs (top 28)) (defBody (top 28)) (defScope (top 28)) .none .none .none (.str "law_hushrow_k13_costs" 657) none (.ref 392) .none), #[]⟩) ::
  (nat_lit 394, ⟨(.type "tuple"), none, .seq #[] 0, #[]⟩) ::
  (nat_lit 396, ⟨(.type "tuple"), none, .seq #[(.str "_law_found" 694), (.str "_law_due" 695)] 0, #[]⟩) ::
  (nat_lit 397, ⟨(.type "tuple"), none, .seq #[] 0, #[]⟩) ::
  (nat_lit 399, ⟨(.type "code"), none, .fields #[(.str "_law_whole" 691), (.str "_law_whole" 692), (.str "/claim/cut.py" 693), (.int (194) 0), (.int (2) 0), (.int (0) 0), (.int (0) 0), (.int (3) 0), (.ref 394), (.bool true), (.int (181) 0), (.ref 395), .none, (.ref 396), (.ref 397), (.ref 398), (.int (696) 0), (.int (194) 0), (.str "/claim/cut.py" 697)], #[]⟩) ::
  (nat_lit 400, ⟨(.type "function"), none, .func (PySem.W.fnOf "_law_whole" "_law_whole" (defArgs (top 29)) (defBody (top 29)) (defScope (top 29)) .none .none .none (.str "law_hushrow_k13_costs" 657) none (.ref 399) .none), #[]⟩) ::
  (nat_lit 401, ⟨(.type "tuple"), none, .seq #[] 0, #[]⟩) ::
  (nat_lit 403, ⟨(.type "tuple"), none, .seq #[(.str "_law_kind" 702), (.str "_law_number" 703), (.str "_law_room" 704), (.str "_law_many" 705), (.str "_law_found" 706)] 0, #[]⟩) ::
  (nat_lit 404, ⟨(.type "tuple"), none, .seq #[] 0, #[]⟩) ::
  (nat_lit 406, ⟨(.type "code"), none, .fields #[(.str "_law_frame" 699), (.str "_law_frame" 700), (.str "/claim/cut.py" 701), (.int (198) 0), (.int (4) 0), (.int (0) 0), (.int (0) 0), (.int (3) 0), (.ref 401), (.bool true), (.int (181) 0), (.ref 402), .none, (.ref 403), (.ref 404), (.ref 405), (.int (707) 0), (.int (198) 0), (.str "/claim/cut.py" 708)], #[]⟩) ::
  (nat_lit 407, ⟨(.type "function"), none, .func (PySem.W.fnOf "_law_frame" "_law_frame" (defArgs (top 30)) (defBody (top 30)) (defScope (top 30)) .none .none .none (.str "law_hushrow_k13_costs" 657) none (.ref 406) .none), #[]⟩) ::
  (nat_lit 408, ⟨(.type "tuple"), none, .seq #[] 0, #[]⟩) ::
  (nat_lit 410, ⟨(.type "tuple"), none, .seq #[(.str "_law_frame_here" 713), (.str "_law_row" 714), (.str "_law_steps" 715), (.str "_law_sure" 716)] 0, #[]⟩) ::
  (nat_lit 411, ⟨(.type "tuple"), none, .seq #[] 0, #[]⟩) ::
  (nat_lit 413, ⟨(.type "code"), none, .fields #[(.str "_law_add" 710), (.str "_law_add" 711), (.str "/claim/cut.py" 712), (.int (202) 0), (.int (4) 0), (.int (0) 0), (.int (0) 0), (.int (3) 0), (.ref 408), (.bool true), (.int (181) 0), (.ref 409), .none, (.ref 410), (.ref 411), (.ref 412), (.int (717) 0), (.int (202) 0), (.str "/claim/cut.py" 718)], #[]⟩) ::
  (nat_lit 414, ⟨(.type "function"), none, .func (PySem.W.fnOf "_law_add" "_law_add" (defArgs (top 31)) (defBody (top 31)) (defScope (top 31)) .none .none .none (.str "law_hushrow_k13_costs" 657) none (.ref 413) .none), #[]⟩) ::
  (nat_lit 415, ⟨(.type "tuple"), none, .seq #[] 0, #[]⟩) ::
  (nat_lit 417, ⟨(.type "tuple"), none, .seq #[(.str "_law_cell" 723), (.str "_law_one" 724), (.str "_law_other" 725), (.str "_law_way" 726), (.str "_law_more_here" 727), (.str "_law_high" 728)] 0, #[]⟩) ::
  (nat_lit 418, ⟨(.type "tuple"), none, .seq #[] 0, #[]⟩) ::
  (nat_lit 420, ⟨(.type "code"), none, .fields #[(.str "_law_idles" 720), (.str "_law_idles" 721), (.str "/claim/cut.py" 722), (.int (209) 0), (.int (3) 0), (.int (0) 0), (.int (0) 0), (.int (3) 0), (.ref 415), (.bool true), (.int (181) 0), (.ref 416), .none, (.ref 417), (.ref 418), (.ref 419), (.int (729) 0), (.int (209) 0), (.str "/claim/cut.py" 730)], #[]⟩) ::
  (nat_lit 421, ⟨(.type "function"), none, .func (PySem.W.fnOf "_law_idles" "_law_idles" (defArgs (top 32)) (defBody (top 32)) (defScope (top 32)) .none .none .none (.str "law_hushrow_k13_costs" 657) none (.ref 420) .none), #[]⟩) ::
  (nat_lit 422, ⟨(.type "tuple"), none, .seq #[] 0, #[]⟩) ::
  (nat_lit 424, ⟨(.type "tuple"), none, .seq #[(.str "_law_state" 735), (.str "_law_cell" 736), (.str "_law_frame_here" 737), (.str "_law_after" 738), (.str "_law_one" 739), (.str "_law_left" 740), (.str "_law_right" 741), (.str "_law_steps" 742), (.str "_law_sure" 743), (.str "_law_row" 744)] 0, #[]⟩) ::
  (nat_lit 425, ⟨(.type "tuple"), none, .seq #[] 0, #[]⟩) ::
  (nat_lit 427, ⟨(.type "code"), none, .fields #[(.str "_law_close" 732), (.str "_law_close" 733), (.str "/claim/cut.py" 734), (.int (218) 0), (.int (2) 0), (.int (0) 0), (.int (0) 0), (.int (3) 0), (.ref 422), (.bool true), (.int (181) 0), (.ref 423), .none, (.ref 424), (.ref 425), (.ref 426), (.int (745) 0), (.int (218) 0), (.str "/claim/cut.py" 746)], #[]⟩) ::
  (nat_lit 428, ⟨(.type "function"), none, .func (PySem.W.fnOf "_law_close" "_law_close" (defArgs (top 33)) (defBody (top 33)) (defScope (top 33)) .none .none .none (.str "law_hushrow_k13_costs" 657) none (.ref 427) .none), #[]⟩) ::
  (nat_lit 429, ⟨(.type "tuple"), none, .seq #[] 0, #[]⟩) ::
  (nat_lit 432, ⟨(.type "code"), none, .fields #[(.str "_law_plain" 748), (.str "_law_plain" 749), (.str "/claim/cut.py" 750), (.int (244) 0), (.int (3) 0), (.int (0) 0), (.int (0) 0), (.int (3) 0), (.ref 429), (.bool true), (.int (181) 0), (.ref 430), .none, .none, .none, (.ref 431), (.int (751) 0), (.int (244) 0), (.str "/claim/cut.py" 752)], #[]⟩) ::
  (nat_lit 433, ⟨(.type "function"), none, .func (PySem.W.fnOf "_law_plain" "_law_plain" (defArgs (top 34)) (defBody (top 34)) (defScope (top 34)) .none .none .none (.str "law_hushrow_k13_costs" 657) none (.ref 432) .none), #[]⟩) ::
  (nat_lit 434, ⟨(.type "tuple"), none, .seq #[] 0, #[]⟩) ::
  (nat_lit 436, ⟨(.type "tuple"), none, .seq #[(.str "_law_state" 757), (.str "_law_cell" 758), (.str "_law_frame_here" 759), (.str "_law_way" 760), (.str "_law_rest" 761), (.str "_law_many" 762)] 0, #[]⟩) ::
  (nat_lit 437, ⟨(.type "tuple"), none, .seq #[] 0, #[]⟩) ::
  (nat_lit 439, ⟨(.type "code"), none, .fields #[(.str "_law_step" 754), (.str "_law_step" 755), (.str "/claim/cut.py" 756), (.int (257) 0), (.int (2) 0), (.int (0) 0), (.int (0) 0), (.int (3) 0), (.ref 434), (.bool true), (.int (181) 0), (.ref 435), .none, (.ref 436), (.ref 437), (.ref 438), (.int (763) 0), (.int (257) 0), (.str "/claim/cut.py" 764)], #[]⟩) ::
  (nat_lit 440, ⟨(.type "function"), none, .func (PySem.W.fnOf "_law_step" "_law_step" (defArgs (top 35)) (defBody (top 35)) (defScope (top 35)) .none .none .none (.str "law_hushrow_k13_costs" 657) none (.ref 439) .none), #[]⟩) ::
  (nat_lit 441, ⟨(.type "tuple"), none, .seq #[] 0, #[]⟩) ::
  (nat_lit 443, ⟨(.type "tuple"), none, .seq #[(.str "_law_state" 769), (.str "_law_cells" 770), (.str "_law_room" 771), (.str "_law_cell" 772)] 0, #[]⟩) ::
  (nat_lit 444, ⟨(.type "tuple"), none, .seq #[] 0, #[]⟩) ::
  (nat_lit 446, ⟨(.type "code"), none, .fields #[(.str "_law_body" 766), (.str "_law_body" 767), (.str "/claim/cut.py" 768), (.int (276) 0), (.int (3) 0), (.int (0) 0), (.int (0) 0), (.int (3) 0), (.ref 441), (.bool true), (.int (181) 0), (.ref 442), .none, (.ref 443), (.ref 444), (.ref 445), (.int (773) 0), (.int (276) 0), (.str "/claim/cut.py" 774)], #[]⟩) ::
  (nat_lit 447, ⟨(.type "function"), none, .func (PySem.W.fnOf "_law_body" "_law_body" (defArgs (top 36)) (defBody (top 36)) (defScope (top 36)) .none .none .none (.str "law_hushrow_k13_costs" 657) none (.ref 446) .none), #[]⟩) ::
  (nat_lit 448, ⟨(.type "tuple"), none, .seq #[] 0, #[]⟩) ::
  (nat_lit 450, ⟨(.type "tuple"), none, .seq #[(.str "_law_program" 779), (.str "_law_outer" 780), (.str "_law_state" 781), (.str "_law_found" 782), (.str "_law_sure" 783), (.str "_law_known" 784), (.str "_law_name" 785), (.str "_law_steps" 786), (.str "_law_own" 787), (.str "_law_handed" 788), (.str "_law_row" 789), (.str "_law_even" 790), (.str "_law_told" 791)] 0, #[]⟩) ::
  (nat_lit 451, ⟨(.type "tuple"), none, .seq #[] 0, #[]⟩) ::
  (nat_lit 453, ⟨(.type "code"), none, .fields #[(.str "_law_asked" 776), (.str "_law_asked" 777), (.str "/claim/cut.py" 778), (.int (283) 0), (.int (3) 0), (.int (0) 0), (.int (0) 0), (.int (3) 0), (.ref 448), (.bool true), (.int (181) 0), (.ref 449), .none, (.ref 450), (.ref 451), (.ref 452), (.int (792) 0), (.int (283) 0), (.str "/claim/cut.py" 793)], #[]⟩) ::
  (nat_lit 454, ⟨(.type "function"), none, .func (PySem.W.fnOf "_law_asked" "_law_asked" (defArgs (top 37)) (defBody (top 37)) (defScope (top 37)) .none .none .none (.str "law_hushrow_k13_costs" 657) none (.ref 453) .none), #[]⟩) ::
  (nat_lit 455, ⟨(.type "tuple"), none, .seq #[] 0, #[]⟩) ::
  (nat_lit 457, ⟨(.type "tuple"), none, .seq #[(.str "_law_script" 798), (.str "_law_names_here" 799), (.str "_law_state" 800), (.str "_law_deeds" 801), (.str "_law_k" 802), (.str "_law_number" 803), (.str "_law_outer" 804), (.str "_law_program" 805), (.str "_law_kept" 806)] 0, #[]⟩) ::
  (nat_lit 458, ⟨(.type "tuple"), none, .seq #[] 0, #[]⟩) ::
  (nat_lit 460, ⟨(.type "code"), none, .fields #[(.str "law" 795), (.str "law" 796), (.str "/claim/cut.py" 797), (.int (308) 0), (.int (1) 0), (.int (0) 0), (.int (0) 0), (.int (3) 0), (.ref 455), (.bool true), (.int (181) 0), (.ref 456), .none, (.ref 457), (.ref 458), (.ref 459), (.int (807) 0), (.int (308) 0), (.str "/claim/cut.py" 808)], #[]⟩) ::
  (nat_lit 461, ⟨(.type "function"), none, .func (PySem.W.fnOf "law" "law" (defArgs (top 38)) (defBody (top 38)) (defScope (top 38)) .none .none .none (.str "law_hushrow_k13_costs" 657) none (.ref 460) .none), #[]⟩) :: []
noncomputable def keysK : List Addr := [2, 3, 15, 17, 18, 20, 21, 29, 31, 32, 34, 35, 36, 38, 39, 41, 42, 43, 45, 46, 48, 49, 50, 51, 52, 53, 54, 57, 64, 66, 67, 69, 70, 71, 73, 74, 76, 77, 78, 79, 80, 83, 90, 92, 93, 95, 96, 97, 99, 100, 102, 103, 104, 106, 107, 109, 110, 111, 113, 114, 116, 117, 118, 119, 120, 123, 130, 132, 133, 135, 136, 137, 139, 140, 142, 143, 144, 146, 147, 149, 150, 151, 152, 153, 156, 163, 165, 166, 168, 169, 170, 171, 172, 175, 182, 184, 185, 187, 188, 189, 191, 192, 194, 195, 196, 198, 199, 201, 202, 203, 204, 205, 208, 215, 217, 218, 220, 221, 222, 224, 225, 227, 228, 229, 231, 232, 234, 235, 236, 237, 238, 241, 248, 250, 251, 253, 254, 255, 257, 258, 260, 261, 262, 263, 264, 274, 276, 277, 279, 280, 281, 282, 283, 284, 285, 288, 291, 292, 293, 295, 296, 298, 299, 300, 302, 303, 305, 306, 307, 309, 310, 312, 313, 314, 316, 317, 319, 320, 321, 323, 324, 326, 327, 328, 330, 331, 333, 334, 335, 337, 338, 340, 341, 342, 344, 345, 347, 348, 349, 351, 352, 354, 355, 356, 358, 359, 361, 362, 363, 365, 366, 368, 369, 370, 372, 373, 375, 376, 377, 380, 381, 382, 384, 385, 387, 388, 389, 392, 393, 394, 396, 397, 399, 400, 401, 403, 404, 406, 407, 408, 410, 411, 413, 414, 415, 417, 418, 420, 421, 422, 424, 425, 427, 428, 429, 432, 433, 434, 436, 437, 439, 440, 441, 443, 444, 446, 447, 448, 450, 451, 453, 454, 455, 457, 458, 460, 461]
theorem keysK_eq (P : Params) : keysK = (heapK P).map (·.1) := by kernel_rfl
noncomputable abbrev prog : Program := PySem.Challenge.pw_hushrow_k13_costs
noncomputable abbrev law : PySem.W.OpenLaw := PySem.Challenge.rw_hushrow_k13_costs
noncomputable def seenAt : Program := { prog with main := { prog.main with body := [top 0, top 2, top 3, top 4, top 5, top 6, top 7, top 8, top 9, top 10, top 12, top 13, top 14, top 15, top 16, top 17, top 18, top 19, top 20, top 21, top 22, top 23, top 25, top 26, top 27, top 28, top 29, top 30, top 31, top 32, top 33, top 34, top 35, top 36, top 37, top 38] } }
noncomputable abbrev hook : PySem.W.Hook := PySem.W.kHook heapK keysK keysK_eq
noncomputable abbrev test : Shared → Bool := fun s => xlAt seenAt [] s && recOk (RowW.records law.row.toRowW) s
noncomputable abbrev seenK : Shared → List (Option Obj) := fun s => keysK.map s.heap.get?
noncomputable abbrev dueK : World → List (Option Obj) := fun w => (heapK w.params).map fun p => some p.2
noncomputable def T₀ (P : Params) : BT := Hd.treeOf (boot_heap P).objs.toList 0 .nil
noncomputable def lookL (w : World) (os : OsState) := (Hd.runT treeTable prog w 11 (some (.ref 6)) 7062 ⟨T₀ w.params, 11, {}, Array.mk [], boot_drawn, boot_toks, os⟩ (topStub prog)).map fun s => Hd.looks1 prog seenAt [] test true (boot_heap w.params) s.abs
noncomputable def lookR (w : World) (os : OsState) := some (true, openGood seenAt [])
noncomputable def lookM (w : World) (os : OsState) := (Hd.runT treeTable prog w 11 (some (.ref 6)) 7062 ⟨T₀ w.params, 11, {}, Array.mk [], boot_drawn, boot_toks, os⟩ (topStub prog)).map fun s => seenK s.abs
noncomputable def lookS (w : World) (os : OsState) := some (dueK w)
theorem lookL_self : lookL = lookL := rfl
theorem lookR_self : lookR = lookR := rfl
theorem lookM_self : lookM = lookM := rfl
theorem lookS_self : lookS = lookS := rfl
end K13
lay_quick K13.lookL K13.lookR K13.lookM K13.lookS
name_quick K13lookL for K13.lookL by K13.lookL_self
name_quick K13lookR for K13.lookR by K13.lookR_self
name_quick K13lookM for K13.lookM by K13.lookM_self
name_quick K13lookS for K13.lookS by K13.lookS_self
namespace K13
open PySem L2 PySem.W
theorem looks_quick : PySem.W.Fast.K13lookL = PySem.W.Fast.K13lookR := by kernel_rfl
theorem looks_quick2 : PySem.W.Fast.K13lookM = PySem.W.Fast.K13lookS := by kernel_rfl
theorem looks_same : lookL = lookR := PySem.W.Fast.K13lookL_eq.trans (looks_quick.trans PySem.W.Fast.K13lookR_eq.symm)
theorem looks_same2 : lookM = lookS := PySem.W.Fast.K13lookM_eq.trans (looks_quick2.trans PySem.W.Fast.K13lookS_eq.symm)
theorem tree_is (P : Params) : absHeap (T₀ P) 11 {} = boot_heap P := by kernel_rfl
theorem size_is (w : World) : ((boot_heap w.params).isNs mainGlobals && (Array.mk [] : Array GenState).size == 0, (boot_heap w.params).objs.size, (boot_heap w.params).nsMap mainGlobals "__annotations__") = (true, 11, some (.ref 6)) := by kernel_rfl
theorem left : LeftO prog seenAt [] test hook.obs hook.val 7062 := Hd.left_of2 (boot_open (p := prog) (N := 7062) (by kernel_rfl) rfl (fun _ => rfl)) size_is tree_is (fun w os => congrFun (congrFun looks_same w) os) (fun w os => congrFun (congrFun looks_same2 w) os)
end K13

set_option Elab.async false
set_option linter.all false
set_option maxRecDepth 100000
namespace L2
open PySem PySem.Spec PyProof.Rows
abbrev Key := Sum Int Str
def keyIs : Key → Value → Bool
  | .inl k, v => Value.isInt k v
  | .inr x, v => Value.isStrOf x v
def keyH (w : World) : Key → Int
  | .inl k => hashInt k
  | .inr x => hashStr w x
theorem keyIs_shape : ∀ {k : Key} {v : Value}, keyIs k v = true → (∃ i t, k = Sum.inl i ∧ v = Value.int i t) ∨ (∃ x t, k = Sum.inr x ∧ v = Value.str x t)
  | .inl i, v, h => by
    obtain ⟨t, e⟩ := Value.isInt_shape (k := i) (v := v) h
    exact .inl ⟨i, t, rfl, e⟩
  | .inr x, v, h => by
    obtain ⟨t, e⟩ := Value.isStrOf_shape (x := x) (v := v) h
    exact .inr ⟨x, t, rfl, e⟩
theorem keyIs_int (i : Int) (t : Tok) : keyIs (.inl i) (.int i t) = true := by simp [keyIs, Value.isInt]
theorem keyIs_str (x : Str) (t : Tok) : keyIs (.inr x) (.str x t) = true := by simp [keyIs, Value.isStrOf]
theorem key_ll (a b : Int) : decide ((Sum.inl a : Key) = Sum.inl b) = (a == b) := by
  by_cases e : a = b
  · subst e; simp
  · have h : ¬ (Sum.inl a : Key) = Sum.inl b := fun q => e (Sum.inl.inj q)
    rw [decide_eq_false h]
    exact (beq_eq_false_iff_ne.mpr e).symm
theorem key_rr (a b : Str) : decide ((Sum.inr a : Key) = Sum.inr b) = decide (a = b) := by
  by_cases e : a = b
  · subst e; simp
  · have h : ¬ (Sum.inr a : Key) = Sum.inr b := fun q => e (Sum.inr.inj q)
    rw [decide_eq_false h, decide_eq_false e]
theorem key_lr (a : Int) (b : Str) : decide ((Sum.inl a : Key) = Sum.inr b) = false := decide_eq_false (fun q => nomatch q)
theorem key_rl (a : Str) (b : Int) : decide ((Sum.inr a : Key) = Sum.inl b) = false := decide_eq_false (fun q => nomatch q)
def mixKind (prog : Program) (w : World) : PySem.KeyKind prog w Key where
  is := keyIs
  hash := keyH w
  inj := fun v a b ha hb => by
    rcases keyIs_shape ha with ⟨i, t, rfl, rfl⟩ | ⟨x, t, rfl, rfl⟩
    · rcases keyIs_shape hb with ⟨j, u, rfl, e⟩ | ⟨y, u, rfl, e⟩
      · injection e with e1 _; rw [e1]
      · exact nomatch e
    · rcases keyIs_shape hb with ⟨j, u, rfl, e⟩ | ⟨y, u, rfl, e⟩
      · exact nomatch e
      · injection e with e1 _; rw [e1]
  byValue := fun k v h => by
    rcases keyIs_shape h with ⟨i, t, rfl, rfl⟩ | ⟨x, t, rfl, rfl⟩ <;> rfl
  pyHash := fun hv h => by
    rcases keyIs_shape hv with ⟨i, t, rfl, rfl⟩ | ⟨x, t, rfl, rfl⟩
    · exact wpAny_pyHash_int h
    · exact wpAny_pyHash_str h
  eqBool := fun hu hv h => by
    rcases keyIs_shape hu with ⟨i, t, rfl, rfl⟩ | ⟨x, t, rfl, rfl⟩
    · rcases keyIs_shape hv with ⟨j, u, rfl, rfl⟩ | ⟨y, u, rfl, rfl⟩
      · rw [key_ll] at h; exact wpAny_eqBool_int h
      · rw [key_lr] at h; exact SeqAt.EqAt.int_str i t y u _ _ _ _ h
    · rcases keyIs_shape hv with ⟨j, u, rfl, rfl⟩ | ⟨y, u, rfl, rfl⟩
      · rw [key_rl] at h; exact SeqAt.EqAt.str_int x t j u _ _ _ _ h
      · rw [key_rr] at h; exact wpAny_eqBool_str h
  «strs» := fun k x t v h => by
    rcases keyIs_shape h with ⟨i, u, rfl, e⟩ | ⟨y, u, rfl, e⟩
    · exact nomatch e
    · injection e with e1 _
      subst e1
      cases v <;> rfl
theorem mixKind_int (prog : Program) (w : World) (i : Int) (t : Tok) : (mixKind prog w).is (.inl i) (.int i t) = true := keyIs_int i t
theorem mixKind_str (prog : Program) (w : World) (x : Str) (t : Tok) : (mixKind prog w).is (.inr x) (.str x t) = true := keyIs_str x t
end L2
namespace L2
open PySem PySem.Spec PyProof.Rows
inductive V where
  | non | bl (b : Bool) | int (i : Int) | str (x : Str) | byt (b : Array UInt8) | flt (b : UInt64) | ref (a : Addr) | ty (n : String)
  deriving DecidableEq
def RelV : V → Value → Prop
  | .non, u => u = Value.none
  | .bl b, u => u = Value.bool b
  | .int i, u => ∃ t, u = Value.int i t
  | .str x, u => ∃ t, u = Value.str x t
  | .byt b, u => ∃ t, u = Value.bytes b t
  | .flt b, u => ∃ t, u = Value.float b t
  | .ref a, u => u = Value.ref a
  | .ty n, u => u = Value.type n
abbrev Vals : List V → List Value → Prop := Paired RelV
theorem Vals.length {xs : List V} {us : List Value} (r : Vals xs us) : xs.length = us.length := Paired.length r
theorem Vals.get : ∀ {xs : List V} {us : List Value} {i : Nat} {x : V}, Vals xs us → xs[i]? = some x → ∃ u, us[i]? = some u ∧ RelV x u
  | _, _, _, _, .nil, e => by simp at e
  | _, _, 0, _, .cons r _, e => by simp at e; subst e; exact ⟨_, rfl, r⟩
  | _, _, i + 1, x, .cons _ t, e => by
    obtain ⟨u, h1, h2⟩ := Vals.get (i := i) (x := x) t (by simpa using e)
    exact ⟨u, by simpa using h1, h2⟩
theorem Vals.set {x : V} {u : Value} (r : RelV x u) : ∀ {xs : List V} {us : List Value} (i : Nat), Vals xs us → Vals (xs.set i x) (us.set i u)
  | _, _, _, .nil => .nil
  | _, _, 0, .cons _ t => .cons r t
  | _, _, i + 1, .cons q t => .cons q (Vals.set r i t)
theorem Vals.append : ∀ {xs ys : List V} {us ws : List Value}, Vals xs us → Vals ys ws → Vals (xs ++ ys) (us ++ ws)
  | _, _, _, _, .nil, s => s
  | _, _, _, _, .cons r t, s => .cons r (Vals.append t s)
def RelO : Option V → Option Value → Prop
  | some v, some u => RelV v u
  | none, none => True
  | _, _ => False
def KV {κ : Type} : List (κ × V) → List (κ × Value) → Prop := Paired fun (p : κ × V) (q : κ × Value) => p.1 = q.1 ∧ RelV p.2 q.2
def kV : Key → V
  | .inl i => .int i
  | .inr x => .str x
inductive HO where
  | lst (xs : List V)
  | tup (xs : List V)
  | dK (kvs : List (Key × V)) | dT (kvs : List (List Key × V))
  | set (S : Int → Bool) (n : Nat)
  | ins (C dx : Addr) (fs : List (Str × V))
  | own (x : Addr)
  | xd (fs : List (Str × V))
  | met (f x : Addr)
  | rng (lo hi : Int)
  | frz (o : Obj) (u : HO)
  | tbl (ps : Array Value)
  | ext (φ : Heap → Prop)
abbrev Hp := Addr → Option HO
def upd (H : Hp) (a : Addr) (o : HO) : Hp := fun b => if b = a then some o else H b
theorem upd_same {H : Hp} {a : Addr} {o : HO} : upd H a o a = some o := by unfold upd; rw [if_pos rfl]
theorem upd_ne {H : Hp} {a b : Addr} {o : HO} (h : b ≠ a) : upd H a o b = H b := by unfold upd; rw [if_neg h]
theorem ne_of {H : Hp} {a b : Addr} {o u : HO} (h : H a = some o) (h' : H b = some u) (d : o ≠ u) : a ≠ b := by
  intro e; subst e; rw [h] at h'; exact d (Option.some.inj h')
theorem ne_of_none {H : Hp} {a b : Addr} {o : HO} (h : H a = some o) (h' : H b = none) : a ≠ b := by
  intro e; subst e; rw [h] at h'; cases h'
section
variable (P : Program) (w : World)
def ObjOk (H : Hp) (h : Heap) (a : Addr) : HO → Prop
  | .lst xs => xs.length ≤ sizeLine ∧ ∃ (its : List Value) (n : Nat), Vals xs its ∧ h.get? a = some { cls := .type "list", data := .seq its.toArray n }
  | .tup xs => xs.length ≤ sizeLine ∧ ∃ its : List Value, Vals xs its ∧ IsTup h a its.toArray
  | .dK kvs => kvs.length ≤ sizeLine ∧ (a == sysModules) = false ∧ ∃ vs, KV kvs vs ∧ h.DictOf (mixKind P w) a vs
  | .dT kvs => kvs.length ≤ sizeLine ∧ (a == sysModules) = false ∧ ∃ xs : List (List Key × Addr × Value),
      Paired (fun (p : List Key × V) (q : List Key × Addr × Value) => p.1 = q.1 ∧ H q.2.1 = some (.tup (p.1.map kV)) ∧ RelV p.2 q.2.2) kvs xs ∧
      ∃ o es ep, h.get? a = some o ∧ o.ExactDict ∧ o.data = .dict es ep ∧ es.toList = xs.map (entryOfKey (tupleKind (mixKind P w))) ∧ (xs.map (·.1)).Nodup
  | .set S n => h.SetOf (intKind P w) a S n
  | .ins C dx fs => H dx = some (.own a) ∧ fs.length ≤ 1000 ∧ dx ≠ a ∧ h.get? a = some (PySem.W.instObj C dx) ∧
      ∃ mA, h.Ns1 dx mA ∧ (∀ f, RelO (fs.lookup f) (mA f)) ∧ PySem.Within mA (fs.map (·.1))
  | .own _ => ∃ o, h.get? a = some o
  | .xd fs => ∃ mA, h.Ns1 a mA ∧ ∀ f, RelO (fs.lookup f) (mA f)
  | .rng lo hi => ∃ t u v, h.get? a = some { cls := .type "range", data := .fields #[.int lo t, .int hi u, .int 1 v] }
  | .frz o u => h.get? a = some o ∧ ObjOk H h a u
  | .tbl ps => h.get? a = some { cls := .none, data := .fields ps }
  | .met f x => h.get? a = some (PySem.W.methodObj (.ref f) (.ref x))
  | .ext φ => φ h ∧ (∃ o, h.get? a = some o) ∧ ∀ h1 h2 : Heap, φ h1 → (∀ o, h1.get? a = some o → h2.get? a = some o) → φ h2
def HOk (H : Hp) (h : Heap) : Prop := ∀ a o, H a = some o → ObjOk P w H h a o
end
section
variable {P : Program} {w : World} {H H' : Hp} {h h' : Heap} {a : Addr} {o : HO}
theorem ObjOk.lt (x : ObjOk P w H h a o) : a < h.objs.size := by
  cases o with
  | lst xs => obtain ⟨_, _, _, _, e⟩ := x; exact Heap.lt_size e
  | tup xs => obtain ⟨_, _, _, p⟩ := x; exact p.lt
  | dK kvs => obtain ⟨_, _, _, _, o, _, _, e, _⟩ := x; exact Heap.lt_size e
  | dT kvs => obtain ⟨_, _, _, _, o, _, _, e, _⟩ := x; exact Heap.lt_size e
  | set S n => obtain ⟨o, _, _, _, e, _⟩ := x; exact Heap.lt_size e
  | ins C dx fs => obtain ⟨_, _, _, e, _⟩ := x; exact Heap.lt_size e
  | own y => obtain ⟨_, e⟩ := x; exact Heap.lt_size e
  | xd fs => obtain ⟨_, ⟨_, _, _, e, _⟩, _⟩ := x; exact Heap.lt_size e
  | rng lo hi => obtain ⟨_, _, _, e⟩ := x; exact Heap.lt_size e
  | frz ob u => obtain ⟨e, _⟩ := x; exact Heap.lt_size e
  | tbl ps => exact Heap.lt_size (show h.get? a = some _ from x)
  | met f y => exact Heap.lt_size (show h.get? a = some _ from x)
  | ext φ => obtain ⟨_, ⟨_, e⟩, _⟩ := x; exact Heap.lt_size e
theorem Paired.mapP {α β : Type} {F G : α → β → Prop} : ∀ {l₁ : List α} {l₂ : List β}, Paired F l₁ l₂ → (∀ a b, F a b → G a b) → Paired G l₁ l₂
  | _, _, .nil, _ => .nil
  | _, _, .cons r t, f => .cons (f _ _ r) (Paired.mapP t f)
theorem ObjOk.stay (x : ObjOk P w H h a o) (k : ∀ b u, (b = a ∨ H b = some (.own a)) → h.get? b = some u → h'.get? b = some u)
    (ho : ∀ b, H b = some (.own a) → H' b = some (.own a)) (ht : ∀ b xs, H b = some (.tup xs) → H' b = some (.tup xs)) : ObjOk P w H' h' a o := by
  induction o with
  | lst xs => obtain ⟨z, its, n, r, e⟩ := x; exact ⟨z, its, n, r, k _ _ (.inl rfl) e⟩
  | tup xs => obtain ⟨z, its, r, ob, e, c⟩ := x; exact ⟨z, its, r, ob, k _ _ (.inl rfl) e, c⟩
  | dK kvs => obtain ⟨z, y, vs, r, ob, es, ep, e, c⟩ := x; exact ⟨z, y, vs, r, ob, es, ep, k _ _ (.inl rfl) e, c⟩
  | dT kvs =>
    obtain ⟨z, y, xs, r, ob, es, ep, e, c⟩ := x
    exact ⟨z, y, xs, Paired.mapP r fun p q z => ⟨z.1, ht _ _ z.2.1, z.2.2⟩, ob, es, ep, k _ _ (.inl rfl) e, c⟩
  | set S n => obtain ⟨ob, es, ep, t, e, c⟩ := x; exact ⟨ob, es, ep, t, k _ _ (.inl rfl) e, c⟩
  | ins C dx fs =>
    obtain ⟨d, z, ne, e, mA, ⟨od, es, ep, e2, c⟩, r⟩ := x
    exact ⟨ho _ d, z, ne, k _ _ (.inl rfl) e, mA, ⟨od, es, ep, k _ _ (.inr d) e2, c⟩, r⟩
  | own y => obtain ⟨ob, e⟩ := x; exact ⟨ob, k _ _ (.inl rfl) e⟩
  | xd fs => obtain ⟨mA, ⟨od, es, ep, e, c⟩, r⟩ := x; exact ⟨mA, ⟨od, es, ep, k _ _ (.inl rfl) e, c⟩, r⟩
  | rng lo hi => obtain ⟨t, u, v, e⟩ := x; exact ⟨t, u, v, k _ _ (.inl rfl) e⟩
  | frz ob u ih => obtain ⟨e, q⟩ := x; exact ⟨k _ _ (.inl rfl) e, ih q⟩
  | tbl ps =>
    have e : h.get? a = some { cls := .none, data := .fields ps } := x
    show h'.get? a = some { cls := .none, data := .fields ps }
    exact k a _ (.inl rfl) e
  | met f y =>
    have e : h.get? a = some (PySem.W.methodObj (.ref f) (.ref y)) := x
    show h'.get? a = some (PySem.W.methodObj (.ref f) (.ref y))
    exact k a _ (.inl rfl) e
  | ext φ => obtain ⟨p, ⟨o, e⟩, st⟩ := x; exact ⟨st _ _ p fun o q => k _ _ (.inl rfl) q, ⟨o, k _ _ (.inl rfl) e⟩, st⟩
theorem HOk.lt (x : HOk P w H h) (e : H a = some o) : a < h.objs.size := (x a o e).lt
theorem HOk.fresh (x : HOk P w H h) (e : h.objs.size ≤ a) : H a = none := by
  cases q : H a with
  | none => rfl
  | some u => exact absurd (Nat.lt_of_lt_of_le (x.lt q) e) (Nat.lt_irrefl _)
theorem HOk.kept (x : HOk P w H h) (k : ∀ b u, h.get? b = some u → h'.get? b = some u) : HOk P w H h' := fun a o e =>
  (x a o e).stay (fun b u _ q => k b u q) (fun _ q => q) fun _ _ q => q
theorem HOk.laid (x : HOk P w H h) (k : ∀ b u, h.get? b = some u → h'.get? b = some u) (hp : h.objs.size ≤ a) (new : ObjOk P w (upd H a o) h' a o) : HOk P w (upd H a o) h' := fun b u e => by
  have hn := x.fresh hp
  by_cases hb : b = a
  · subst hb; rw [upd_same] at e; cases e; exact new
  · rw [upd_ne hb] at e
    exact (x b u e).stay (fun c v _ q => k c v q) (fun c q => by rw [upd_ne (ne_of_none q hn)]; exact q) fun c xs q => by rw [upd_ne (ne_of_none q hn)]; exact q
end
def Rd (H : Hp) (a : Addr) (u : HO) : Prop := H a = some u ∨ ∃ o, H a = some (.frz o u)
theorem Rd.ok {P : Program} {w : World} {H : Hp} {h : Heap} {a : Addr} {u : HO} (r : Rd H a u) (x : HOk P w H h) : ObjOk P w H h a u := by
  rcases r with r | ⟨o, r⟩
  · exact x a u r
  · obtain ⟨_, q⟩ := x a _ r
    exact q
def Mut : Option HO → Prop
  | some (.lst _) => True
  | some (.dK _) => True
  | some (.dT _) => True
  | some (.set _ _) => True
  | some (.ins _ _ _) => True
  | some (.ext _) => True
  | _ => False
section
variable {P : Program} {w : World} {H : Hp} {h h' : Heap} {x e : Addr} {o' : HO}
theorem HOk.write (ok : HOk P w H h) (mu : Mut (H x)) (he : e = x ∨ H e = some (.own x)) (k : ∀ b u, b ≠ e → h.get? b = some u → h'.get? b = some u) (heo : ∃ u, h'.get? e = some u)
    (new : ObjOk P w (upd H x o') h' x o') : HOk P w (upd H x o') h' := fun b u q => by
  have nown : ∀ c y, H c = some (.own y) → c ≠ x := fun c y r z => by subst z; rw [r] at mu; exact mu
  have ntup : ∀ c xs, H c = some (.tup xs) → c ≠ x := fun c xs r z => by subst z; rw [r] at mu; exact mu
  by_cases hb : b = x
  · subst hb; rw [upd_same] at q; cases q; exact new
  · rw [upd_ne hb] at q
    by_cases hbe : b = e
    · have q' : H b = some (.own x) := by
        rcases he with z | z
        · exact absurd (hbe.trans z) hb
        · rw [hbe]; exact z
      rw [q] at q'; cases q'
      obtain ⟨v, hv⟩ := heo
      exact ⟨v, by rw [hbe]; exact hv⟩
    · refine (ok b u q).stay (fun c v hc r => k c v ?_ r) (fun c r => by rw [upd_ne (nown c b r)]; exact r) fun c xs r => by rw [upd_ne (ntup c xs r)]; exact r
      rcases hc with rfl | hc
      · exact hbe
      · rintro rfl
        rcases he with z | z
        · exact nown c b hc z
        · rw [hc] at z; cases z; exact hb rfl
end
structure Un (fs ex : List Addr) (H H' : Hp) (h h' : Heap) : Prop where
  keep : ∀ b o, h.get? b = some o → H b = none → b ∉ fs → b ∉ ex → h'.get? b = some o
  slot : ∀ b o, h.get? b = some o → H b = none → b ∈ fs → b ∉ ex → ∃ sl, h'.get? b = some { o with slots := sl }
  free : ∀ b o, h.get? b = some o → H b = none → b ∉ ex → H' b = none
  there : ∀ b o, h.get? b = some o → b ∉ ex → ∃ o', h'.get? b = some o'
  tups : ∀ b xs, H b = some (.tup xs) → H' b = some (.tup xs)
  frzs : ∀ b o u, H b = some (.frz o u) → H' b = some (.frz o u)
  tbls : ∀ b ps, H b = some (.tbl ps) → ∃ more, H' b = some (.tbl (ps ++ more))
section
variable {fs fs' ex ex' : List Addr} {H H1 H2 : Hp} {h h1 h2 h' : Heap} {a x e : Addr} {o : HO}
theorem Un.any (u : Un fs ex H H1 h h1) {b : Addr} {ob : Obj} (q : h.get? b = some ob) (n : H b = none) (hx : b ∉ ex) : ∃ sl, h1.get? b = some { ob with slots := sl } := by
  by_cases hb : b ∈ fs
  · exact u.slot b ob q n hb hx
  · exact ⟨ob.slots, u.keep b ob q n hb hx⟩
theorem Un.kept (k : ∀ b u, h.get? b = some u → h'.get? b = some u) : Un fs ex H H h h' :=
  ⟨fun b ob q _ _ _ => k b ob q, fun b ob q _ _ _ => ⟨ob.slots, k b ob q⟩, fun _ _ _ n _ => n, fun b ob q _ => ⟨ob, k b ob q⟩, fun _ _ q => q, fun _ _ _ q => q, fun _ ps q => ⟨#[], by rw [q]; simp⟩⟩
theorem Un.refl : Un fs ex H H h h := Un.kept fun _ _ q => q
theorem Un.laid (k : ∀ b u, h.get? b = some u → h'.get? b = some u) (hp : h.objs.size ≤ a) (hn : H a = none) : Un fs ex H (upd H a o) h h' where
  keep := fun b u q _ _ _ => k b u q
  slot := fun b u q _ _ _ => ⟨u.slots, k b u q⟩
  free := fun b u q n _ => by rw [upd_ne (Nat.ne_of_lt (Nat.lt_of_lt_of_le (Heap.lt_size q) hp))]; exact n
  there := fun b u q _ => ⟨u, k b u q⟩
  tups := fun b xs q => by rw [upd_ne (ne_of_none q hn)]; exact q
  frzs := fun b u xs q => by rw [upd_ne (ne_of_none q hn)]; exact q
  tbls := fun b ps q => ⟨#[], by rw [upd_ne (ne_of_none q hn), q]; simp⟩
theorem Un.write (mu : Mut (H x)) (he : e = x ∨ H e = some (.own x)) (k : ∀ b u, b ≠ e → h.get? b = some u → h'.get? b = some u) (heo : ∃ u, h'.get? e = some u) : Un fs ex H (upd H x o) h h' := by
  have hx : ∀ b, H b = none → b ≠ x := fun b n z => by subst z; rw [n] at mu; exact mu
  have hb : ∀ b, H b = none → b ≠ e := fun b n z => by
    subst z
    rcases he with r | r
    · exact hx b n r
    · rw [n] at r; cases r
  have hm : ∀ b u, H b = some u → ¬ Mut (some u) → b ≠ x := fun b u q nm z => by subst z; rw [q] at mu; exact nm mu
  refine ⟨fun b u q n _ _ => k b u (hb b n) q, fun b u q n _ _ => ⟨u.slots, k b u (hb b n) q⟩, fun b u q n _ => by rw [upd_ne (hx b n)]; exact n, fun b u q _ => ?_,
    fun b xs q => by rw [upd_ne (hm b _ q fun z => z)]; exact q, fun b u xs q => by rw [upd_ne (hm b _ q fun z => z)]; exact q, fun b ps q => ⟨#[], by rw [upd_ne (hm b _ q fun z => z), q]; simp⟩⟩
  by_cases hbe : b = e
  · subst hbe; exact heo
  · exact ⟨u, k b u hbe q⟩
end
def trk (h : Heap) (H : Hp) : List Addr := (List.range h.objs.size).filter fun a => (H a).isSome
def hidT (h : Heap) (H : Hp) : Heap := PySem.W.hideAll h (trk h H)
theorem hidT_size (h : Heap) (H : Hp) : (hidT h H).objs.size = h.objs.size := PySem.W.hideAll_size _ _
theorem hidT_get {h : Heap} {H : Hp} {b : Addr} {o : Obj} (e : h.get? b = some o) (n : H b = none) : (hidT h H).get? b = some o :=
  PySem.W.hideAll_get _ e fun hm => by
    have q : (H b).isSome = true := (List.mem_filter.mp hm).2
    rw [n] at q; simp at q
theorem of_hidT {h : Heap} {H : Hp} {b : Addr} {o : Obj} (e : (hidT h H).get? b = some o) : h.get? b = some o ∧ H b = none := by
  have e' : h.get? b = some o := PySem.W.of_hideAll (trk h H) e
  refine ⟨e', ?_⟩
  cases q : H b with
  | none => rfl
  | some x =>
    have hm : b ∈ trk h H := List.mem_filter.mpr ⟨List.mem_range.mpr (Heap.lt_size e'), by simp [q]⟩
    have z : (hidT h H).get? b = none := PySem.W.hideAll_none (trk h H) hm
    rw [z] at e; cases e
def allNews (g h : Heap) (L : Addr) : List (Addr × Obj) := (List.range h.objs.size).filterMap fun a => if a = L ∨ (g.get? a).isSome = true then none else (h.get? a).map fun o => (a, o)
def rest (g h : Heap) (L d : Addr) : List (Addr × Obj) := (allNews g h L).filter fun p => decide (p.1 ≠ d)
end L2
namespace L2
open PySem PySem.Spec PyProof.Rows
structure Mod (K : PySem.W.Frag) (mg : Str → Option Value) (base : Heap) : Prop where
  kin : K.In base
  glob : base.Ns mainGlobals mg
  blt : ∃ mb, base.Ns builtinsNs mb ∧ ∀ x : Str, x ≠ "__name__" → mb x = bootBuiltins x
  nolimit : base.NoLimit
structure Cx where
  prog : Program
  w : World
  K : PySem.W.Frag
  mg : Str → Option Value
  base : Heap
  A : Around
  N : List Str
  s₀ : Shared
  H₀ : Hp
  env : Env
  outer : List Env
  stack : List Env
  ex : List Addr
  fn : Str → Bool
  calm : Bool
  pn : List (Addr × Obj)
  xe : Value → Shared → Prop
def frs (l : List Env) : List Addr := l.filterMap (·.frame)
abbrev Cx.fs (X : Cx) : List Addr := frs X.outer
def Vis (sc : Scope) (x : Str) : Prop := sc.names.lookup x = some .local ∨ sc.names.lookup x = some .cell ∨ sc.names.lookup x = some .free
def Loc (sc : Scope) (x : Str) : Prop := sc.names.lookup x = some .local ∨ sc.names.lookup x = some .cell
def Look (env : Env) (h : Heap) (m : Str → Option Value) (x : Str) (u : Value) : Prop :=
  (env.kindOf x = some .local ∧ m x = some u) ∨ ((env.kindOf x = some .cell ∨ env.kindOf x = some .free) ∧ ∃ c, env.cells.lookup x = some c ∧ h.IsCell c (some u))
structure Cx.Ok (X : Cx) : Prop where
  mod : Mod X.K X.mg X.base
  kind : X.env.scope.kind = .function
  glob : X.env.globals = mainGlobals
  blt : X.env.builtins = builtinsNs
  above : X.s₀.heap.objs.size ≤ X.env.locals
  inj : ∀ x y c, X.env.cells.lookup x = some c → X.env.cells.lookup y = some c → x = y
  has : ∀ x, (X.env.kindOf x = some .cell ∨ X.env.kindOf x = some .free) → ∃ c, X.env.cells.lookup x = some c
  cab : ∀ x c, X.fn x = true → X.env.cells.lookup x = some c → X.s₀.heap.objs.size ≤ c
  hd : X.calm = true → X.A.handled = none
  frames : X.A.frames = some X.stack
  stk : X.stack = X.outer ∨ (X.stack = X.env :: X.outer ∧ X.env.frame = some X.env.locals)
  exf : ∀ b ∈ X.ex, b ≠ X.env.locals ∧ ∀ x c, X.env.cells.lookup x = some c → c ≠ b
  bs : ∀ b o, X.base.get? b = some o → X.s₀.heap.get? b = some o ∧ X.H₀ b = none
  bsz : X.base.objs.size ≤ X.s₀.heap.objs.size
  noex : ∀ b o, X.base.get? b = some o → b ∉ X.ex
  exfs : ∀ b ∈ X.ex, b ∉ X.fs
  funs : X.s₀.heap.FunFrames X.base X.outer
  frf : ∀ b ∈ X.fs, X.H₀ b = none
structure Inv (X : Cx) (pins : List (Addr × Obj)) (σ : List (Option V)) (H : Hp) (s : Shared) : Prop where
  ok : X.Ok
  os : s.os = X.s₀.os
  bare : AllBare s.gens
  base : Un X.fs X.ex X.H₀ H X.s₀.heap s.heap
  loc : ∃ m, s.heap.Ns X.env.locals m ∧ ∀ (i : Nat) (x : Str) (v : V), X.N[i]? = some x → σ[i]? = some (some v) → Vis X.env.scope x → ∃ u, RelV v u ∧ Look X.env s.heap m x u
  cell : ∀ x c, X.env.cells.lookup x = some c → ∃ v, s.heap.IsCell c v
  free : H X.env.locals = none
  freeC : ∀ x c, X.env.cells.lookup x = some c → H c = none
  pin : ∀ p ∈ X.pn ++ pins, s.heap.get? p.1 = some p.2 ∧ H p.1 = none ∧ p.1 ≠ X.env.locals ∧ p.1 ∉ X.fs ∧ ∀ v, p.2.data ≠ .cell v
  hok : HOk X.prog X.w H s.heap
  len : σ.length = X.N.length
section
variable {X : Cx} {pins : List (Addr × Obj)} {σ : List (Option V)} {H H' : Hp} {s : Shared} {h' : Heap}
theorem Cx.Ok.nofr (ok : X.Ok) {b : Addr} {o : Obj} (e : X.base.get? b = some o) : b ∉ X.fs := fun hb => by
  have := (ok.funs.mem hb).1
  rw [e] at this; cases this
theorem Inv.bs (I : Inv X pins σ H s) : ∀ b o, X.base.get? b = some o → s.heap.get? b = some o ∧ H b = none := fun b o e =>
  ⟨I.base.keep b o (I.ok.bs b o e).1 (I.ok.bs b o e).2 (I.ok.nofr e) (I.ok.noex b o e), I.base.free b o (I.ok.bs b o e).1 (I.ok.bs b o e).2 (I.ok.noex b o e)⟩
theorem Inv.bk (I : Inv X pins σ H s) : ∀ b o, X.base.get? b = some o → s.heap.get? b = some o := fun b o e => (I.bs b o e).1
theorem Inv.mod (I : Inv X pins σ H s) : Mod X.K X.mg X.base := I.ok.mod
theorem Inv.kIn (I : Inv X pins σ H s) : X.K.In s.heap := I.ok.mod.kin.keeps I.bk
theorem Inv.lt (I : Inv X pins σ H s) : X.env.locals < s.heap.objs.size := let ⟨_, hn, _⟩ := I.loc; hn.lt
theorem Inv.sz (I : Inv X pins σ H s) : X.s₀.heap.objs.size ≤ s.heap.objs.size := Nat.le_trans I.ok.above (Nat.le_of_lt I.lt)
theorem Inv.nofs (I : Inv X pins σ H s) {a : Addr} (h : s.heap.objs.size ≤ a) : a ∉ X.fs := fun hb => by
  obtain ⟨_, o, ho, _⟩ := I.ok.funs.mem hb
  exact absurd (Nat.lt_of_lt_of_le (Heap.lt_size ho) (Nat.le_trans I.sz h)) (Nat.lt_irrefl _)
theorem Inv.cne (I : Inv X pins σ H s) : ∀ x c, X.env.cells.lookup x = some c → c ≠ X.env.locals := fun x c e z => by
  obtain ⟨v, o, ho, hd⟩ := I.cell x c e
  obtain ⟨m, ⟨o', es, ep, ho', hd', _⟩, _⟩ := I.loc
  rw [z, ho'] at ho; cases ho; rw [hd'] at hd; cases hd
theorem Inv.funs (I : Inv X pins σ H s) : s.heap.FunFrames X.base X.outer := by
  have all : ∀ (l : List Env), (∀ b ∈ frs l, b ∈ X.fs) → X.s₀.heap.FunFrames X.base l → s.heap.FunFrames X.base l := by
    intro l
    induction l with
    | nil => intro _ _; trivial
    | cons env r ih =>
      intro hs hl
      obtain ⟨hk, ⟨L, o, hf, hn, ho, hd⟩, hr⟩ := hl
      have hL : L ∈ X.fs := hs L (by unfold frs; rw [List.filterMap_cons, hf]; exact List.mem_cons_self)
      obtain ⟨sl, e⟩ := I.base.slot L o ho (I.ok.frf L hL) hL fun z => I.ok.exfs L z hL
      exact ⟨hk, ⟨L, _, hf, hn, e, hd⟩, ih (fun b hb => hs b (by unfold frs; rw [List.filterMap_cons, hf]; exact List.mem_cons_of_mem _ hb)) hr⟩
  exact all X.outer (fun _ hb => hb) I.ok.funs
theorem Inv.stack (I : Inv X pins σ H s) : s.heap.FunFrames X.base X.stack := by
  rcases I.ok.stk with e | ⟨e, hf⟩
  · rw [e]; exact I.funs
  · rw [e]
    obtain ⟨m, hn, _⟩ := I.loc
    refine .cons (by rw [I.ok.kind]; decide) hf hn ?_ I.funs
    exact Heap.get?_none_of_le (Nat.le_trans I.ok.bsz I.ok.above)
theorem Inv.stkSub (I : Inv X pins σ H s) : ∀ b ∈ frs X.stack, b ∈ X.env.locals :: X.fs := fun b hb => by
  rcases I.ok.stk with e | ⟨e, hf⟩
  · rw [e] at hb; exact List.mem_cons_of_mem _ hb
  · rw [e] at hb
    unfold frs at hb
    rw [List.filterMap_cons, hf] at hb
    exact hb
theorem Inv.stkFree (I : Inv X pins σ H s) : ∀ b ∈ frs X.stack, H b = none := fun b hb => by
  rcases List.mem_cons.mp (I.stkSub b hb) with e | hb
  · rw [e]; exact I.free
  · obtain ⟨_, o, ho, _⟩ := I.ok.funs.mem hb
    exact I.base.free b o ho (I.ok.frf b hb) fun z => I.ok.exfs b z hb
theorem Inv.step {g' : Array GenState} {t' : Nat} {d' : Drawn} {ch : List Addr} (I : Inv X pins σ H s)
    (hch : ∀ b ∈ ch, (b ∈ X.ex ∨ X.s₀.heap.objs.size ≤ b) ∧ b ≠ X.env.locals ∧ (∀ x c, X.env.cells.lookup x = some c → c ≠ b) ∧ ∀ p ∈ X.pn ++ pins, p.1 ≠ b)
    (keep : ∀ b o, b ≠ X.env.locals → b ∉ X.fs → b ∉ ch → s.heap.get? b = some o → H b = none → h'.get? b = some o)
    (slot : ∀ b o, b ≠ X.env.locals → b ∈ X.fs → b ∉ ch → s.heap.get? b = some o → H b = none → ∃ sl, h'.get? b = some { o with slots := sl }) (free : ∀ b o, b ∉ ch → s.heap.get? b = some o → H b = none → H' b = none)
    (there : ∀ b o, b ∉ ch → s.heap.get? b = some o → ∃ o', h'.get? b = some o')
    (tups : ∀ b xs, H b = some (.tup xs) → H' b = some (.tup xs)) (frzs : ∀ b o u, H b = some (.frz o u) → H' b = some (.frz o u)) (tbls : ∀ b ps, H b = some (.tbl ps) → ∃ more, H' b = some (.tbl (ps ++ more)))
    (ns : ∀ m, s.heap.Ns X.env.locals m → h'.Ns X.env.locals m) (hok : HOk X.prog X.w H' h') (hg : AllBare g') :
    Inv X pins σ H' { s with heap := h', gens := g', drawn := d', toks := t' } := by
  have neL : ∀ b o, X.s₀.heap.get? b = some o → b ≠ X.env.locals := fun b o e => Nat.ne_of_lt (Nat.lt_of_lt_of_le (Heap.lt_size e) I.ok.above)
  have neC : ∀ b o, X.s₀.heap.get? b = some o → b ∉ X.ex → b ∉ ch := fun b o e hx hb => by
    rcases (hch b hb).1 with z | z
    · exact hx z
    · exact absurd (Nat.lt_of_lt_of_le (Heap.lt_size e) z) (Nat.lt_irrefl _)
  have cellK : ∀ x c, X.env.cells.lookup x = some c → ∀ v, s.heap.IsCell c v → h'.IsCell c v := fun x c e v ⟨o, ho, hd⟩ => by
    have nch : c ∉ ch := fun z => (hch c z).2.2.1 x c e rfl
    by_cases hc : c ∈ X.fs
    · obtain ⟨sl, q⟩ := slot c o (I.cne x c e) hc nch ho (I.freeC x c e)
      exact ⟨_, q, hd⟩
    · exact ⟨o, keep c o (I.cne x c e) hc nch ho (I.freeC x c e), hd⟩
  refine ⟨I.ok, I.os, hg, ⟨fun b o e n hb hx => ?_, fun b o e n hb hx => ?_, fun b o e n hx => ?_, fun b o e hx => ?_, fun b xs e => tups b xs (I.base.tups b xs e), fun b o xs e => frzs b o xs (I.base.frzs b o xs e), fun b ps e => ?_⟩, ?_, fun x c e => ?_, ?_, fun x c e => ?_, fun p hp => ?_, hok, I.len⟩
  · exact keep b o (neL b o e) hb (neC b o e hx) (I.base.keep b o e n hb hx) (I.base.free b o e n hx)
  · obtain ⟨sl, e1⟩ := I.base.slot b o e n hb hx
    obtain ⟨sl', e2⟩ := slot b _ (neL b o e) hb (neC b o e hx) e1 (I.base.free b o e n hx)
    exact ⟨sl', e2⟩
  · obtain ⟨o', e1⟩ := I.base.there b o e hx
    exact free b o' (neC b o e hx) e1 (I.base.free b o e n hx)
  · obtain ⟨o', e1⟩ := I.base.there b o e hx
    exact there b o' (neC b o e hx) e1
  · obtain ⟨m1, e1⟩ := I.base.tbls b ps e
    obtain ⟨m2, e2⟩ := tbls b _ e1
    exact ⟨m1 ++ m2, by rw [e2, Array.append_assoc]⟩
  · obtain ⟨m, hn, hl⟩ := I.loc
    refine ⟨m, ns m hn, fun i x v e1 e2 e3 => ?_⟩
    obtain ⟨u, r, l⟩ := hl i x v e1 e2 e3
    refine ⟨u, r, ?_⟩
    rcases l with l | ⟨k, c, e, z⟩
    · exact .inl l
    · exact .inr ⟨k, c, e, cellK x c e _ z⟩
  · obtain ⟨v, z⟩ := I.cell x c e
    exact ⟨v, cellK x c e v z⟩
  · obtain ⟨m, ⟨o, _, _, ho, _⟩, _⟩ := I.loc
    exact free _ o (fun z => (hch _ z).2.1 rfl) ho I.free
  · obtain ⟨v, o, ho, hd⟩ := I.cell x c e
    exact free c o (fun z => (hch c z).2.2.1 x c e rfl) ho (I.freeC x c e)
  · obtain ⟨e, n, ne, nf, d⟩ := I.pin p hp
    have nch : p.1 ∉ ch := fun z => (hch p.1 z).2.2.2 p hp rfl
    exact ⟨keep p.1 p.2 ne nf nch e n, free p.1 p.2 nch e n, ne, nf, d⟩
theorem Inv.un {t' : Nat} (I : Inv X pins σ H s) (u : Un X.fs [] H H' s.heap h') (hok : HOk X.prog X.w H' h') : Inv X pins σ H' { s with heap := h', toks := t' } := by
  obtain ⟨m, ⟨o, es, ep, ho, r⟩, _⟩ := id I.loc
  obtain ⟨sl, hL⟩ := u.any ho I.free (by simp)
  exact I.step (g' := s.gens) (d' := s.drawn) (ch := []) (fun _ z => nomatch z) (fun b o _ hb _ e n => u.keep b o e n hb (by simp)) (fun b o _ hb _ e n => u.slot b o e n hb (by simp)) (fun b o _ e n => u.free b o e n (by simp)) (fun b o _ e => u.there b o e (by simp)) u.tups u.frzs u.tbls (fun m' hm => by
    obtain ⟨o', es', ep', ho', r'⟩ := hm
    rw [ho] at ho'; cases ho'
    exact ⟨_, es', ep', hL, r'⟩) hok I.bare
theorem Inv.call {g' : Array GenState} {t' : Nat} {d' : Drawn} {ch : List Addr} (I : Inv X pins σ H s) (u : Un (frs X.stack) ch H H' s.heap h') (hok : HOk X.prog X.w H' h') (hg : AllBare g')
    (hch : ∀ b ∈ ch, (b ∈ X.ex ∨ X.s₀.heap.objs.size ≤ b) ∧ b ≠ X.env.locals ∧ (∀ x c, X.env.cells.lookup x = some c → c ≠ b) ∧ ∀ p ∈ X.pn ++ pins, p.1 ≠ b) :
    Inv X pins σ H' { s with heap := h', gens := g', drawn := d', toks := t' } := by
  obtain ⟨m, ⟨o, es, ep, ho, r⟩, _⟩ := id I.loc
  obtain ⟨sl, hL⟩ := u.any ho I.free fun z => (hch _ z).2.1 rfl
  exact I.step (ch := ch) hch (fun b o hL hb hc e n => u.keep b o e n (fun z => (List.mem_cons.mp (I.stkSub b z)).elim hL hb) hc) (fun b o _ _ hc e n => u.any e n hc) (fun b o hc e n => u.free b o e n hc) (fun b o hc e => u.there b o e hc) u.tups u.frzs u.tbls (fun m' hm => by
    obtain ⟨o', es', ep', ho', r'⟩ := hm
    rw [ho] at ho'; cases ho'
    exact ⟨_, es', ep', hL, r'⟩) hok hg
theorem Inv.turned {t' : Nat} {it : Addr} (I : Inv X pins σ H s) (k : ∀ b o, b ≠ it → s.heap.get? b = some o → h'.get? b = some o) (hn : H it = none) (hL : it ≠ X.env.locals)
    (h1 : it ∈ X.ex ∨ X.s₀.heap.objs.size ≤ it) (h2 : ∀ x c, X.env.cells.lookup x = some c → c ≠ it) (h3 : ∀ p ∈ X.pn ++ pins, p.1 ≠ it) : Inv X pins σ H { s with heap := h', toks := t' } := by
  have nit : ∀ b u, H b = some u → b ≠ it := fun b u e z => by rw [z, hn] at e; cases e
  refine I.step (g' := s.gens) (d' := s.drawn) (ch := [it]) (fun b hb => ?_) (fun b o _ _ hc e _ => k b o (fun z => hc (by simp [z])) e) (fun b o _ _ hc e _ => ⟨o.slots, k b o (fun z => hc (by simp [z])) e⟩) (fun _ _ _ _ n => n)
    (fun b o hc e => ⟨o, k b o (fun z => hc (by simp [z])) e⟩) (fun _ _ e => e) (fun _ _ _ e => e) (fun b ps e => ⟨#[], by rw [e]; simp⟩) (fun m hm => ?_) (fun b u e => ?_) I.bare
  · have e : b = it := by simpa using hb
    subst e
    exact ⟨h1, hL, h2, h3⟩
  · obtain ⟨o, es, ep, ho, r⟩ := hm
    exact ⟨o, es, ep, k _ o (Ne.symm hL) ho, r⟩
  · refine (I.hok b u e).stay (fun c v hc q => k c v ?_ q) (fun _ q => q) fun _ _ q => q
    rcases hc with z | z
    · rw [z]; exact nit b u e
    · exact nit c _ z
theorem Inv.tok (I : Inv X pins σ H s) (t : Nat) : Inv X pins σ H { s with toks := t } := I.un (h' := s.heap) (t' := t) Un.refl I.hok
theorem Inv.kept {t' : Nat} (I : Inv X pins σ H s) (k : ∀ b u, s.heap.get? b = some u → h'.get? b = some u) : Inv X pins σ H { s with heap := h', toks := t' } := I.un (Un.kept k) (I.hok.kept k)
theorem Inv.laid {a : Addr} {o : HO} {t' : Nat} (I : Inv X pins σ H s) (k : ∀ b u, s.heap.get? b = some u → h'.get? b = some u) (hp : s.heap.objs.size ≤ a) (new : ObjOk X.prog X.w (upd H a o) h' a o) :
    Inv X pins σ (upd H a o) { s with heap := h', toks := t' } := I.un (Un.laid k hp (I.hok.fresh hp)) (I.hok.laid k hp new)
theorem Inv.write {x e : Addr} {o : HO} {t' : Nat} (I : Inv X pins σ H s) (mu : Mut (H x)) (he : e = x ∨ H e = some (.own x)) (k : ∀ b u, b ≠ e → s.heap.get? b = some u → h'.get? b = some u) (heo : ∃ u, h'.get? e = some u)
    (new : ObjOk X.prog X.w (upd H x o) h' x o) : Inv X pins σ (upd H x o) { s with heap := h', toks := t' } := I.un (Un.write mu he k heo) (I.hok.write mu he k heo new)
theorem Inv.pins_of {pins' : List (Addr × Obj)} (I : Inv X pins σ H s) (h : ∀ p ∈ pins', s.heap.get? p.1 = some p.2 ∧ H p.1 = none ∧ p.1 ≠ X.env.locals ∧ p.1 ∉ X.fs ∧ ∀ v, p.2.data ≠ .cell v) : Inv X pins' σ H s :=
  ⟨I.ok, I.os, I.bare, I.base, I.loc, I.cell, I.free, I.freeC, fun p hp => (List.mem_append.mp hp).elim (fun z => I.pin p (List.mem_append_left _ z)) (h p), I.hok, I.len⟩
theorem nodup_ix {N : List Str} (hN : N.Nodup) {i j : Nat} {x : Str} (a : N[i]? = some x) (b : N[j]? = some x) : i = j := by
  obtain ⟨h1, e1⟩ := List.getElem?_eq_some_iff.mp a
  obtain ⟨h2, e2⟩ := List.getElem?_eq_some_iff.mp b
  exact (List.getElem_inj hN).mp (e1.trans e2.symm)
theorem store_ok2 {M : Model} {A : Around} {E : Value → Shared → Prop} {i : Nat} {x : Str} {v : V} {u : Value} {Q : Unit → Shared → Prop} (I : Inv X pins σ H s) (hN : X.N.Nodup) (hi : X.N[i]? = some x) (hx : Loc X.env.scope x) (r : RelV v u)
    (h : ∀ s', Inv X pins (σ.set i (some v)) H s' → (∃ a, Heap.SameBut a s.heap s'.heap ∧ (a = X.env.locals ∨ X.env.cells.lookup x = some a)) → Q () s') (hf : X.fn x = true ∨ X.env.scope.names.lookup x = some .local := by first | exact .inl rfl | exact .inr rfl | assumption) : wpAny M A (storeName X.env x u) Q E s := by
  obtain ⟨m, hn, hl⟩ := id I.loc
  have hcls : (X.env.scope.kind == .class || (X.env.scope.kind == .module && X.env.locals != X.env.globals)) = false := by rw [I.ok.kind]; rfl
  have hiσ : i < σ.length := by rw [I.len]; exact (List.getElem?_eq_some_iff.mp hi).1
  have cne := I.cne
  have tracked : ∀ {a : Addr} {h' : Heap}, (∃ o, s.heap.get? a = some o ∧ H a = none) → Heap.SameBut a s.heap h' → HOk X.prog X.w H h' := fun {a h'} ha hs b ob e => by
    obtain ⟨_, _, hfree⟩ := ha
    refine (I.hok b ob e).stay (fun c w' hc q => (hs.2 c ?_).trans q) (fun _ q => q) fun _ _ q => q
    rintro rfl
    rcases hc with rfl | hc
    · rw [hfree] at e; cases e
    · rw [hfree] at hc; cases hc
  rcases hx with hk | hk
  · refine wpAny_storeName_local hk hn (fun h' hn' hs => ?_) hcls
    obtain ⟨oL, _, _, hoL, _⟩ := id hn
    refine h _ ⟨I.ok, I.os, I.bare, ⟨fun b o e n hb hx => ?_, fun b o e n hb hx => ?_, I.base.free, fun b o e hx => ?_, I.base.tups, I.base.frzs, I.base.tbls⟩, ⟨_, hn', fun j y v' e1 e2 e3 => ?_⟩, fun y c e => ?_, I.free, I.freeC, fun p hp => ?_, tracked ⟨oL, hoL, I.free⟩ hs, by simpa using I.len⟩ ⟨_, hs, .inl rfl⟩
    · exact (hs.2 b (Nat.ne_of_lt (Nat.lt_of_lt_of_le (Heap.lt_size e) I.ok.above))).trans (I.base.keep b o e n hb hx)
    · obtain ⟨sl, e1⟩ := I.base.slot b o e n hb hx
      exact ⟨sl, (hs.2 b (Nat.ne_of_lt (Nat.lt_of_lt_of_le (Heap.lt_size e) I.ok.above))).trans e1⟩
    · obtain ⟨o', e1⟩ := I.base.there b o e hx
      exact ⟨o', (hs.2 b (Nat.ne_of_lt (Nat.lt_of_lt_of_le (Heap.lt_size e) I.ok.above))).trans e1⟩
    · by_cases hj : j = i
      · subst hj
        rw [hi] at e1; cases e1
        rw [List.getElem?_set_self hiσ] at e2
        cases e2
        exact ⟨u, r, .inl ⟨hk, by simp⟩⟩
      · rw [List.getElem?_set_ne (Ne.symm hj)] at e2
        obtain ⟨u', r', q⟩ := hl j y v' e1 e2 e3
        refine ⟨u', r', ?_⟩
        rcases q with ⟨k, e⟩ | ⟨k, c, e, z⟩
        · refine .inl ⟨k, ?_⟩
          have : y ≠ x := fun e => hj (nodup_ix hN e1 (e ▸ hi))
          simp [this, e]
        · exact .inr ⟨k, c, e, z.sameBut hs (cne y c e)⟩
    · obtain ⟨w', z⟩ := I.cell y c e
      exact ⟨w', z.sameBut hs (cne y c e)⟩
    · obtain ⟨e, n, ne, nf, d⟩ := I.pin p hp
      exact ⟨(hs.2 p.1 ne).trans e, n, ne, nf, d⟩
  · have hfn : X.fn x = true := by
      rcases hf with z | z
      · exact z
      · rw [z] at hk; cases hk
    obtain ⟨c, hc⟩ := I.ok.has x (.inl hk)
    obtain ⟨w', z⟩ := I.cell x c hc
    refine wpAny_storeName_cell I.ok.kind hk hc z (fun h' hc' hs => ?_)
    obtain ⟨oc, hoc, hocd⟩ := id z
    refine h { s with heap := h' } ⟨I.ok, I.os, I.bare, ⟨fun b o e n hb hx => ?_, fun b o e n hb hx => ?_, I.base.free, fun b o e hx => ?_, I.base.tups, I.base.frzs, I.base.tbls⟩, ⟨m, hn.sameBut hs (Ne.symm (cne x c hc)), fun j y v' e1 e2 e3 => ?_⟩, fun y c' e => ?_, I.free, I.freeC, fun p hp => ?_, tracked ⟨oc, hoc, I.freeC x c hc⟩ hs, by simpa using I.len⟩ ⟨c, hs, .inr hc⟩
    · exact (hs.2 b (Nat.ne_of_lt (Nat.lt_of_lt_of_le (Heap.lt_size e) (I.ok.cab x c hfn hc)))).trans (I.base.keep b o e n hb hx)
    · obtain ⟨sl, e1⟩ := I.base.slot b o e n hb hx
      exact ⟨sl, (hs.2 b (Nat.ne_of_lt (Nat.lt_of_lt_of_le (Heap.lt_size e) (I.ok.cab x c hfn hc)))).trans e1⟩
    · obtain ⟨o', e1⟩ := I.base.there b o e hx
      exact ⟨o', (hs.2 b (Nat.ne_of_lt (Nat.lt_of_lt_of_le (Heap.lt_size e) (I.ok.cab x c hfn hc)))).trans e1⟩
    · by_cases hj : j = i
      · subst hj
        rw [hi] at e1; cases e1
        rw [List.getElem?_set_self hiσ] at e2
        cases e2
        exact ⟨u, r, .inr ⟨.inl hk, c, hc, hc'⟩⟩
      · rw [List.getElem?_set_ne (Ne.symm hj)] at e2
        obtain ⟨u', r', q⟩ := hl j y v' e1 e2 e3
        refine ⟨u', r', ?_⟩
        rcases q with q | ⟨k, c', e, z'⟩
        · exact .inl q
        · refine .inr ⟨k, c', e, z'.sameBut hs ?_⟩
          rintro rfl
          exact hj (nodup_ix hN e1 (I.ok.inj _ _ _ e hc ▸ hi))
    · by_cases hcc : c' = c
      · subst hcc; exact ⟨_, hc'⟩
      · obtain ⟨w2, z2⟩ := I.cell y c' e
        exact ⟨w2, z2.sameBut hs hcc⟩
    · obtain ⟨e, n, ne, nf, d⟩ := I.pin p hp
      refine ⟨(hs.2 p.1 ?_).trans e, n, ne, nf, d⟩
      intro q
      rw [q, hoc] at e
      have q' : oc = p.2 := Option.some.inj e
      exact d w' (by rw [← q']; exact hocd)
theorem store_ok {M : Model} {A : Around} {E : Value → Shared → Prop} {i : Nat} {x : Str} {v : V} {u : Value} {Q : Unit → Shared → Prop} (I : Inv X pins σ H s) (hN : X.N.Nodup) (hi : X.N[i]? = some x) (hx : Loc X.env.scope x) (r : RelV v u)
    (h : ∀ s', Inv X pins (σ.set i (some v)) H s' → Q () s') (hf : X.fn x = true ∨ X.env.scope.names.lookup x = some .local := by first | exact .inl rfl | exact .inr rfl | assumption) : wpAny M A (storeName X.env x u) Q E s :=
  store_ok2 I hN hi hx r (fun s' I' _ => h s' I') hf
theorem Inv.call' {s' : Shared} {ch : List Addr} (I : Inv X pins σ H s) (ho : s'.os = s.os) (u : Un (frs X.stack) ch H H' s.heap s'.heap) (hok : HOk X.prog X.w H' s'.heap) (hg : AllBare s'.gens)
    (hch : ∀ b ∈ ch, (b ∈ X.ex ∨ X.s₀.heap.objs.size ≤ b) ∧ b ≠ X.env.locals ∧ (∀ x c, X.env.cells.lookup x = some c → c ≠ b) ∧ ∀ p ∈ X.pn ++ pins, p.1 ≠ b) : Inv X pins σ H' s' := by
  obtain ⟨h', g', d', t', o'⟩ := s'
  have e : o' = s.os := ho
  subst e
  exact I.call (g' := g') (t' := t') (d' := d') u hok hg hch
end
abbrev XK := Value → Option Addr → Hp → Prop
abbrev St := List (Option V)
abbrev VK := V → Hp → Prop
abbrev TE := St → Hp → VK → Prop
abbrev TT := St → Hp → (Bool → Hp → Prop) → Prop
abbrev TA := St → Hp → (List V → Hp → Prop) → Prop
structure Ends where
  nx : St → Hp → Prop
  rt : VK
  bk : St → Hp → Prop := fun _ _ => False
  ct : St → Hp → Prop := fun _ _ => False
abbrev TS := Ends → St → Hp → Prop
def EP (X : Cx) (pins : List (Addr × Obj)) (σ : St) (Q : VK) (u : Value) (s' : Shared) : Prop := ∃ v H', Inv X pins σ H' s' ∧ RelV v u ∧ Q v H'
def TP (X : Cx) (pins : List (Addr × Obj)) (σ : St) (Q : Bool → Hp → Prop) (b : Bool) (s' : Shared) : Prop := ∃ H', Inv X pins σ H' s' ∧ Q b H'
def AP (X : Cx) (pins : List (Addr × Obj)) (σ : St) (Q : List V → Hp → Prop) (us : List Value) (s' : Shared) : Prop := ∃ vs H', Inv X pins σ H' s' ∧ Vals vs us ∧ Q vs H'
def SP (X : Cx) (pins : List (Addr × Obj)) (D : Ends) (f : Flow) (s' : Shared) : Prop :=
  match f with
  | .next => ∃ σ' H', Inv X pins σ' H' s' ∧ D.nx σ' H'
  | .brk => ∃ σ' H', Inv X pins σ' H' s' ∧ D.bk σ' H'
  | .cont => ∃ σ' H', Inv X pins σ' H' s' ∧ D.ct σ' H'
  | .ret u => ∃ v σ' H', Inv X pins σ' H' s' ∧ RelV v u ∧ D.rt v H'
def PE (X : Cx) (e : Expr) (t : TE) : Prop :=
  ∀ (pins : List (Addr × Obj)) (s : Shared) (σ : St) (H : Hp) (Q : VK), Inv X pins σ H s → t σ H Q → wpAny (model X.prog X.w) X.A (eval e X.env) (EP X pins σ Q) X.xe s
def PT (X : Cx) (e : Expr) (t : TT) : Prop :=
  ∀ (pins : List (Addr × Obj)) (s : Shared) (σ : St) (H : Hp) (Q : Bool → Hp → Prop), Inv X pins σ H s → t σ H Q → wpAny (model X.prog X.w) X.A (isTrue e X.env (eval e X.env)) (TP X pins σ Q) X.xe s
def PW (X : Cx) (e : Expr) (t : TT) : Prop :=
  ∀ (whole : Sem Value) (pins : List (Addr × Obj)) (s : Shared) (σ : St) (H : Hp) (Q : Bool → Hp → Prop), Inv X pins σ H s → t σ H Q → wpAny (model X.prog X.w) X.A (isTrue e X.env whole) (TP X pins σ Q) X.xe s
theorem PW.pt {X : Cx} {e : Expr} {t : TT} (h : PW X e t) : PT X e t := h _
def PA (X : Cx) (es : List Expr) (t : TA) : Prop :=
  ∀ (pos : Pos) (pins : List (Addr × Obj)) (s : Shared) (σ : St) (H : Hp) (Q : List V → Hp → Prop), Inv X pins σ H s → t σ H Q → wpAny (model X.prog X.w) X.A (spliced (backTo pos (starEach es X.env))) (AP X pins σ Q) X.xe s
def PS (X : Cx) (st : Stmt) (t : TS) : Prop :=
  ∀ (pins : List (Addr × Obj)) (s : Shared) (σ : St) (H : Hp) (D : Ends), Inv X pins σ H s → t D σ H → wpAny (model X.prog X.w) X.A (exec st X.env) (SP X pins D) X.xe s
def PSs (X : Cx) (st : List Stmt) (t : TS) : Prop :=
  ∀ (pins : List (Addr × Obj)) (s : Shared) (σ : St) (H : Hp) (D : Ends), Inv X pins σ H s → t D σ H → wpAny (model X.prog X.w) X.A (execs st X.env) (SP X pins D) X.xe s
theorem thn {α : Type} {t : Sem α} {Q Q' : α → Shared → Prop} {M : Model} {A : Around} {E : Value → Shared → Prop} {s : Shared} (h : wpAny M A t Q E s) (hQ : ∀ a s, Q a s → Q' a s) : wpAny M A t Q' E s := wpAny_mono h hQ fun _ _ x => x
end L2
namespace L2
open PySem PySem.Spec PyProof.Rows
section
variable {X : Cx}
def tVar (i : Nat) : TE := fun σ H Q => ∃ v, σ[i]? = some (some v) ∧ Q v H
def tC (v : V) : TE := fun _ H Q => Q v H
theorem pe_var {i : Nat} {x : Str} {pos : Pos} (hN : X.N[i]? = some x) (hv : Vis X.env.scope x) (hd : (x == ("__debug__" : Str)) = false := by decide) (hcd : (x == ("__classdict__" : Str)) = false := by decide) : PE X (.Name x pos) (tVar i) := by
  intro pins s σ H Q I h
  obtain ⟨v, e, h⟩ := h
  obtain ⟨m, hn, hl⟩ := I.loc
  obtain ⟨u, r, l⟩ := hl i x v hN e hv
  have fin : EP X pins σ Q u s := ⟨v, H, I, r, h⟩
  rcases l with ⟨hk, hm⟩ | ⟨hk, c, hc, hcell⟩
  · exact wpAny_Name (wpAny_loadName_local I.ok.kind hk hn hm fin) hd
  · rcases hk with hk | hk
    · exact wpAny_Name (wpAny_loadName_cell I.ok.kind hk hc hcell fin) hd
    · exact wpAny_Name (wpAny_loadName_free I.ok.kind hk hc hcell fin hcd) hd
theorem pe_int {i j pos} : PE X (.Constant (.int i) j pos) (tC (.int i)) := fun _ _ _ H _ I h => wpAny_Constant_int ⟨.int i, H, I.tok _, ⟨_, rfl⟩, h⟩
theorem pe_bl {b j pos} : PE X (.Constant (.bool b) j pos) (tC (.bl b)) := fun _ _ _ H _ I h => Constant_bool ⟨.bl b, H, I, rfl, h⟩
theorem pe_non {j pos} : PE X (.Constant .none j pos) (tC .non) := fun _ _ _ H _ I h => Constant_none ⟨.non, H, I, rfl, h⟩
theorem pe_str {x j pos} : PE X (.Constant (.str x) j pos) (tC (.str x)) := fun _ _ _ H _ I h => Calls.Constant_str ⟨.str x, H, I.tok _, ⟨_, rfl⟩, h⟩
def Gl (X : Cx) (x : Str) : Prop := X.env.kindOf x = some .globalImplicit
theorem ld_glob {E : Value → Shared → Prop} {pins : List (Addr × Obj)} {s : Shared} {σ : St} {H : Hp} {x : Str} {u : Value} {pos : Pos} {Q : Value → Shared → Prop} (I : Inv X pins σ H s) (hg : Gl X x) (hm : X.mg x = some u) (h : Q u s)
    (hd : (x == ("__debug__" : Str)) = false := by decide) : wpAny (model X.prog X.w) X.A (eval (.Name x pos) X.env) Q E s :=
  Calls.Name_function_global I.ok.kind hg (Calls.loadGlobal_global (by rw [I.ok.glob]; exact I.mod.glob.keeps I.bk) hm h) hd
theorem ld_blt {E : Value → Shared → Prop} {pins : List (Addr × Obj)} {s : Shared} {σ : St} {H : Hp} {x : Str} {u : Value} {pos : Pos} {Q : Value → Shared → Prop} (I : Inv X pins σ H s) (hg : Gl X x) (hm : X.mg x = none) (hv : bootBuiltins x = some u) (h : Q u s)
    (hn : x ≠ "__name__" := by decide) (hd : (x == ("__debug__" : Str)) = false := by decide) : wpAny (model X.prog X.w) X.A (eval (.Name x pos) X.env) Q E s := by
  obtain ⟨mb, h1, h2⟩ := I.mod.blt
  exact Calls.Name_function_global I.ok.kind hg (Calls.loadGlobal_builtin (by rw [I.ok.glob]; exact I.mod.glob.keeps I.bk) hm (by rw [I.ok.blt]; exact h1.keeps I.bk) ((h2 x hn).trans hv) h) hd
theorem pe_glob {x : Str} {v : V} {u : Value} {pos : Pos} (hg : Gl X x) (hm : X.mg x = some u) (r : RelV v u) (hd : (x == ("__debug__" : Str)) = false := by decide) : PE X (.Name x pos) (tC v) :=
  fun _ _ _ H _ I h => ld_glob I hg hm ⟨v, H, I, r, h⟩ hd
theorem pe_bltn {x : Str} {v : V} {u : Value} {pos : Pos} (hg : Gl X x) (hm : X.mg x = none) (hv : bootBuiltins x = some u) (r : RelV v u) (hn : x ≠ "__name__" := by decide) (hd : (x == ("__debug__" : Str)) = false := by decide) : PE X (.Name x pos) (tC v) :=
  fun _ _ _ H _ I h => ld_blt I hg hm hv ⟨v, H, I, r, h⟩ hn hd
def t2I (ta tb : TE) (k : Int → Int → Hp → Prop) : St → Hp → Prop := fun σ H => ta σ H fun x H1 => tb σ H1 fun y H2 => ∃ i j, x = .int i ∧ y = .int j ∧ k i j H2
def tAdd (ta tb : TE) : TE := fun σ H Q => t2I ta tb (fun i j H2 => Q (.int (i + j)) H2) σ H
def tSub (ta tb : TE) : TE := fun σ H Q => t2I ta tb (fun i j H2 => Q (.int (i - j)) H2) σ H
def tMul (ta tb : TE) : TE := fun σ H Q => t2I ta tb (fun i j H2 => (-(2 ^ 64) < i ∧ i < 2 ^ 64) ∧ Q (.int (i * j)) H2) σ H
variable {a b : Expr} {ta tb : TE} {pos : Pos}
def PC (X : Cx) (op : CmpOp) (a b : Expr) (t : TE) : Prop :=
  ∀ (pins : List (Addr × Obj)) (s : Shared) (σ : St) (H : Hp) (Q : VK), Inv X pins σ H s → t σ H Q →
    wpAny (model X.prog X.w) X.A (eval a X.env) (fun v s₁ => wpAny (model X.prog X.w) X.A (eval b X.env) (fun u s₂ => wpAny (model X.prog X.w) X.A (compareOp op v u) (EP X pins σ Q) X.xe s₂) X.xe s₁) X.xe s
def tCmp (p : Int → Int → Bool) (ta tb : TE) : TE := fun σ H Q => t2I ta tb (fun i j H2 => Q (.bl (p i j)) H2) σ H
abbrev tLt : TE → TE → TE := tCmp fun i j => decide (i < j)
abbrev tLe : TE → TE → TE := tCmp fun i j => decide (i ≤ j)
abbrev tGt : TE → TE → TE := tCmp fun i j => decide (j < i)
abbrev tGe : TE → TE → TE := tCmp fun i j => decide (j ≤ i)
abbrev tEqI : TE → TE → TE := tCmp fun i j => decide (i = j)
abbrev tNeI : TE → TE → TE := tCmp fun i j => !decide (i = j)
def tIsN (ta : TE) : TE := fun σ H Q => ta σ H fun x H1 => Q (.bl (decide (x = .non))) H1
def tNotN (ta : TE) : TE := fun σ H Q => ta σ H fun x H1 => Q (.bl (!decide (x = .non))) H1
def tB (t : TE) : TT := fun σ H Q => t σ H fun x H1 => ∃ c, x = .bl c ∧ Q c H1
variable {tA tB' : TT} {rest : List Expr}
def tAnd (t u : TT) : TT := fun σ H Q => t σ H fun c H1 => if c = true then u σ H1 Q else Q false H1
def tOr (t u : TT) : TT := fun σ H Q => t σ H fun c H1 => if c = true then Q true H1 else u σ H1 Q
def tNot (t : TT) : TT := fun σ H Q => t σ H fun c H1 => Q (!c) H1
theorem pw_and1 (ha : PT X a tA) : PW X (.BoolOp .And [a] pos) tA := by
  intro wh pins s σ H Q I h
  refine isTrue_and (thn (ha pins s σ H Q I h) fun c s1 e => ?_)
  cases c with
  | true => exact isTrue_and_nil e
  | false => exact e
theorem pw_or1 (ha : PT X a tA) : PW X (.BoolOp .Or [a] pos) tA := by
  intro wh pins s σ H Q I h
  refine isTrue_or (thn (ha pins s σ H Q I h) fun c s1 e => ?_)
  cases c with
  | false => exact isTrue_or_nil e
  | true => exact e
theorem pw_and (ha : PT X a tA) (hb : PW X (.BoolOp .And (b :: rest) pos) tB') : PW X (.BoolOp .And (a :: b :: rest) pos) (tAnd tA tB') := by
  intro wh pins s σ H Q I h
  refine isTrue_and (thn (ha pins s σ H _ I h) fun c s1 ⟨H1, I1, q1⟩ => ?_)
  cases c with
  | true => exact hb wh pins s1 σ H1 Q I1 q1
  | false => exact ⟨H1, I1, q1⟩
theorem pw_or (ha : PT X a tA) (hb : PW X (.BoolOp .Or (b :: rest) pos) tB') : PW X (.BoolOp .Or (a :: b :: rest) pos) (tOr tA tB') := by
  intro wh pins s σ H Q I h
  refine isTrue_or (thn (ha pins s σ H _ I h) fun c s1 ⟨H1, I1, q1⟩ => ?_)
  cases c with
  | true => exact ⟨H1, I1, q1⟩
  | false => exact hb wh pins s1 σ H1 Q I1 q1
theorem pt_not (ha : PT X a tA) : PT X (.UnaryOp .Not a pos) (tNot tA) := by
  intro pins s σ H Q I h
  exact isTrue_not (ha pins s σ H (fun c H1 => Q (!c) H1) I h)
def tAndV (ta tb : TE) : TE := fun σ H Q => ta σ H fun x H1 => ∃ c, x = .bl c ∧ if c = true then tb σ H1 Q else Q (.bl false) H1
def tOrV (ta tb : TE) : TE := fun σ H Q => ta σ H fun x H1 => ∃ c, x = .bl c ∧ if c = true then Q (.bl true) H1 else tb σ H1 Q
def tNotV (ta : TE) : TE := fun σ H Q => ta σ H fun x H1 => ∃ c, x = .bl c ∧ Q (.bl (!c)) H1
theorem pe_one {op} {t : TE} (h : PE X a t) : PE X (.BoolOp op [a] pos) t := fun pins s σ H Q I hw => BoolOp_one (h pins s σ H Q I hw)
theorem pe_and (ha : PE X a ta) (hb : PE X (.BoolOp .And (b :: rest) pos) tb) : PE X (.BoolOp .And (a :: b :: rest) pos) (tAndV ta tb) := by
  intro pins s σ H Q I h
  refine BoolOp_and (thn (ha pins s σ H _ I h) fun v s1 ⟨x, H1, I1, r1, q1⟩ => ?_)
  obtain ⟨c, rfl, q1⟩ := q1
  cases r1
  refine wpAny_truthy_bool ?_
  cases c with
  | true => exact hb pins s1 σ H1 Q I1 q1
  | false => exact ⟨.bl false, H1, I1, rfl, q1⟩
def tIf (t : TT) (ta tb : TE) : TE := fun σ H Q => t σ H fun c H1 => if c = true then ta σ H1 Q else tb σ H1 Q
theorem pe_ifExp {c : Expr} (hc : PT X c tA) (ha : PE X a ta) (hb : PE X b tb) : PE X (.IfExp c a b pos) (tIf tA ta tb) := by
  intro pins s σ H Q I h
  refine wpAny_IfExp (thn (hc pins s σ H _ I h) fun d s1 ⟨H1, I1, q1⟩ => ?_)
  cases d with
  | true => exact ha pins s1 σ H1 Q I1 q1
  | false => exact hb pins s1 σ H1 Q I1 q1
end
end L2
namespace L2
open PySem PySem.Spec PyProof.Rows
def SqL (K : PySem.W.Frag) (H : Hp) (a : Addr) (xs : List V) : Prop :=
  Rd H a (.lst xs) ∨
    ∃ (o : Obj) (its : Array Value) (n : Nat), K.lookup a = some o ∧ o.cls = .type "list" ∧ o.dict = none ∧ o.data = .seq its n ∧ its.size ≤ sizeLine ∧ Vals xs its.toList
def SqT (K : PySem.W.Frag) (H : Hp) (a : Addr) (xs : List V) : Prop :=
  Rd H a (.tup xs) ∨
    ∃ (o : Obj) (its : Array Value) (n : Nat), K.lookup a = some o ∧ o.cls = .type "tuple" ∧ o.data = .seq its n ∧ its.size ≤ sizeLine ∧ Vals xs its.toList
def absV : Value → Option V
  | .none => some .non
  | .bool b => some (.bl b)
  | .int i _ => some (.int i)
  | .str x _ => some (.str x)
  | .bytes b _ => some (.byt b)
  | .float b _ => some (.flt b)
  | .ref a => some (.ref a)
  | .type n => some (.ty n)
  | _ => none
theorem RelV.abs {x : V} {u : Value} (r : RelV x u) : absV u = some x := by
  cases x with
  | non => cases r; rfl
  | bl _ => cases r; rfl
  | int _ => obtain ⟨t, rfl⟩ := r; rfl
  | str _ => obtain ⟨t, rfl⟩ := r; rfl
  | byt _ => obtain ⟨t, rfl⟩ := r; rfl
  | flt _ => obtain ⟨t, rfl⟩ := r; rfl
  | ref _ => cases r; rfl
  | ty _ => cases r; rfl
theorem RelV.inj {x y : V} {u : Value} (r : RelV x u) (q : RelV y u) : x = y := Option.some.inj (r.abs.symm.trans q.abs)
theorem Vals.inj : ∀ {xs ys : List V} {us : List Value}, Vals xs us → Vals ys us → xs = ys
  | _, _, _, .nil, .nil => rfl
  | _, _, _, .cons r t, .cons r' t' => by rw [r.inj r', Vals.inj t t']
section
variable {X : Cx} {pins : List (Addr × Obj)} {σ : St} {H : Hp} {s : Shared} {a : Addr} {xs ys : List V}
theorem SqL.of {K : PySem.W.Frag} (h : H a = some (.lst xs)) : SqL K H a xs := .inl (.inl h)
theorem SqT.of {K : PySem.W.Frag} (h : H a = some (.tup xs)) : SqT K H a xs := .inl (.inl h)
theorem Inv.list (I : Inv X pins σ H s) (h : SqL X.K H a xs) : ∃ its : List Value, Vals xs its ∧ PlainL s.heap a its.toArray ∧ xs.length ≤ sizeLine := by
  rcases h with h | ⟨o, its, n, hk, hc, hd, hs, hz, r⟩
  · obtain ⟨z, its, n, r, e⟩ := h.ok I.hok
    exact ⟨its, r, ⟨_, n, e, rfl, rfl, rfl⟩, z⟩
  · refine ⟨its.toList, r, ⟨o, n, I.kIn a o hk, hc, hd, by simpa using hs⟩, ?_⟩
    have e := r.length
    simp only [Array.length_toList] at e
    omega
theorem Inv.tuple (I : Inv X pins σ H s) (h : SqT X.K H a xs) : ∃ its : List Value, Vals xs its ∧ IsTup s.heap a its.toArray ∧ xs.length ≤ sizeLine := by
  rcases h with h | ⟨o, its, n, hk, hc, hs, hz, r⟩
  · obtain ⟨z, its, r, p⟩ := h.ok I.hok
    exact ⟨its, r, p, z⟩
  · refine ⟨its.toList, r, ⟨o, I.kIn a o hk, hc, n, by simpa using hs⟩, ?_⟩
    have e := r.length
    simp only [Array.length_toList] at e
    omega
theorem Inv.list_inj (I : Inv X pins σ H s) (h : SqL X.K H a xs) (h' : SqL X.K H a ys) : xs = ys := by
  obtain ⟨its, r, ⟨o, n, e, _, _, d⟩, _⟩ := I.list h
  obtain ⟨its', r', ⟨o', n', e', _, _, d'⟩, _⟩ := I.list h'
  rw [e] at e'; cases e'
  rw [d] at d'
  injection d' with d1 _
  have : its = its' := by simpa using congrArg Array.toList d1
  subst this
  exact r.inj r'
theorem Inv.tuple_inj (I : Inv X pins σ H s) (h : SqT X.K H a xs) (h' : SqT X.K H a ys) : xs = ys := by
  obtain ⟨its, r, ⟨o, e, _, n, d⟩, _⟩ := I.tuple h
  obtain ⟨its', r', ⟨o', e', _, n', d'⟩, _⟩ := I.tuple h'
  rw [e] at e'; cases e'
  rw [d] at d'
  injection d' with d1 _
  have : its = its' := by simpa using congrArg Array.toList d1
  subst this
  exact r.inj r'
end
abbrev Cx.wish (X : Cx) (E : Value → Shared → Prop) : Cx := { X with xe := E }
abbrev Cx.nox (X : Cx) : Cx := X.wish fun _ _ => False
theorem Cx.Ok.wish {X : Cx} (ok : X.Ok) (E : Value → Shared → Prop) : (X.wish E).Ok :=
  ⟨ok.mod, ok.kind, ok.glob, ok.blt, ok.above, ok.inj, ok.has, ok.cab, ok.hd, ok.frames, ok.stk, ok.exf, ok.bs, ok.bsz, ok.noex, ok.exfs, ok.funs, ok.frf⟩
theorem Cx.Ok.unwish {X : Cx} {E : Value → Shared → Prop} (ok : (X.wish E).Ok) : X.Ok :=
  ⟨ok.mod, ok.kind, ok.glob, ok.blt, ok.above, ok.inj, ok.has, ok.cab, ok.hd, ok.frames, ok.stk, ok.exf, ok.bs, ok.bsz, ok.noex, ok.exfs, ok.funs, ok.frf⟩
section
variable {X : Cx} {pins : List (Addr × Obj)} {σ : St} {H : Hp} {s : Shared} {E : Value → Shared → Prop}
theorem Inv.wish (I : Inv X pins σ H s) (E : Value → Shared → Prop) : Inv (X.wish E) pins σ H s := ⟨I.ok.wish E, I.os, I.bare, I.base, I.loc, I.cell, I.free, I.freeC, I.pin, I.hok, I.len⟩
theorem Inv.unwish (I : Inv (X.wish E) pins σ H s) : Inv X pins σ H s := ⟨I.ok.unwish, I.os, I.bare, I.base, I.loc, I.cell, I.free, I.freeC, I.pin, I.hok, I.len⟩
theorem SP.unwish {D : Ends} {f : Flow} {s' : Shared} (h : SP (X.wish E) pins D f s') : SP X pins D f s' := by
  cases f with
  | next => obtain ⟨σ', H', I, q⟩ := h; exact ⟨σ', H', I.unwish, q⟩
  | brk => obtain ⟨σ', H', I, q⟩ := h; exact ⟨σ', H', I.unwish, q⟩
  | cont => obtain ⟨σ', H', I, q⟩ := h; exact ⟨σ', H', I.unwish, q⟩
  | ret u => obtain ⟨v, σ', H', I, r, q⟩ := h; exact ⟨v, σ', H', I.unwish, r, q⟩
theorem PSs.nox {st : List Stmt} {t : TS} (h : PSs X.nox st t) : PSs X st t := fun pins s σ H D I hw =>
  wpAny_mono (h pins s σ H D (I.wish _) hw) (fun _ _ q => q.unwish) fun _ _ z => False.elim z
end
section
variable {X : Cx} {st : Stmt} {rest : List Stmt} {t u : TS} {e : Expr} {te : TE} {pos : Pos}
def tNext : TS := fun D σ H => D.nx σ H
def tSeq (t u : TS) : TS := fun D σ H => t { D with nx := u D } σ H
theorem pss_nil : PSs X [] tNext := fun _ _ σ H _ I h => wpAny_execs_nil ⟨σ, H, I, h⟩
theorem pss_cons (h1 : PS X st t) (h2 : PSs X rest u) : PSs X (st :: rest) (tSeq t u) := by
  intro pins s σ H D I h
  refine wpAny_execs_cons (thn (h1 pins s σ H { D with nx := u D } I h) fun f s1 q => ?_)
  cases f with
  | next =>
    obtain ⟨σ', H', I', q⟩ := q
    exact h2 pins s1 σ' H' D I' q
  | ret v => exact q
  | brk => exact q
  | cont => exact q
theorem pss_one (h1 : PS X st t) : PSs X [st] t := by
  intro pins s σ H D I h
  refine wpAny_execs_cons (thn (h1 pins s σ H D I h) fun f s1 q => ?_)
  cases f with
  | next => exact wpAny_execs_nil q
  | ret v => exact q
  | brk => exact q
  | cont => exact q
def tBreak : TS := fun D σ H => D.bk σ H
def tCont : TS := fun D σ H => D.ct σ H
theorem Inv.quiet {pins : List (Addr × Obj)} {σ : St} {H : Hp} {s : Shared} (I : Inv X pins σ H s) : interactive X.env = false := by simp [interactive, I.ok.kind]
def tDrop (te : TE) : TS := fun D σ H => te σ H fun _ H1 => D.nx σ H1
theorem ps_expr (he : PE X e te) (hs : swapsWith e none pos.line X.env = pure false := by rfl) : PS X (.Expr e pos) (tDrop te) := by
  intro pins s σ H D I h
  exact wpAny_Expr_any (thn (he pins s σ H _ I h) fun v s1 ⟨x, H1, I1, r1, q1⟩ => ⟨σ, H1, I1, q1⟩) I.quiet hs
def tRet (te : TE) : TS := fun D σ H => te σ H D.rt
theorem ps_ret (he : PE X e te) : PS X (.Return (some e) pos) (tRet te) := by
  intro pins s σ H D I h
  exact wpAny_Return_some (thn (he pins s σ H _ I h) fun v s1 ⟨x, H1, I1, r1, q1⟩ => ⟨x, σ, H1, I1, r1, q1⟩)
def tRetN : TS := fun D _ H => D.rt .non H
theorem ps_retN : PS X (.Return none pos) tRetN := fun _ _ σ H _ I h => wpAny_Return_none ⟨.non, σ, H, I, rfl, h⟩
def tIfS (c : TT) (t u : TS) : TS := fun D σ H => c σ H fun b H1 => if b = true then t D σ H1 else u D σ H1
theorem ps_if {c : Expr} {a b : List Stmt} {tc : TT} (hc : PT X c tc) (ha : PSs X a t) (hb : PSs X b u) : PS X (.If c a b pos) (tIfS tc t u) := by
  intro pins s σ H D I h
  refine wpAny_If (thn (hc pins s σ H _ I h) fun d s1 ⟨H1, I1, q1⟩ => ?_)
  cases d with
  | true => exact ha pins s1 σ H1 D I1 q1
  | false => exact hb pins s1 σ H1 D I1 q1
def tNever : TS := fun _ _ _ => False
end
abbrev TG := V → St → Hp → (St → Hp → Prop) → Prop
abbrev TGs := List V → St → Hp → (St → Hp → Prop) → Prop
def PG (X : Cx) (target : Expr) (t : TG) : Prop :=
  ∀ (pins : List (Addr × Obj)) (s : Shared) (σ : St) (H : Hp) (v : V) (u : Value) (Q : St → Hp → Prop), Inv X pins σ H s → RelV v u → t v σ H Q →
    wpAny (model X.prog X.w) X.A (assign target X.env u) (fun _ s' => ∃ σ' H', Inv X pins σ' H' s' ∧ Q σ' H') X.xe s
def PGs (X : Cx) (ts : List Expr) (t : TGs) : Prop :=
  ∀ (pins : List (Addr × Obj)) (s : Shared) (σ : St) (H : Hp) (vs : List V) (us : List Value) (Q : St → Hp → Prop), Inv X pins σ H s → Vals vs us → t vs σ H Q →
    wpAny (model X.prog X.w) X.A (assignInOrder ((assignEach ts X.env).map (·.2)) us) (fun _ s' => ∃ σ' H', Inv X pins σ' H' s' ∧ Q σ' H') X.xe s
abbrev TSet := V → V → V → Hp → (Hp → Prop) → Prop
def PSet (X : Cx) (t : TSet) : Prop :=
  ∀ (pins : List (Addr × Obj)) (s : Shared) (σ : St) (H : Hp) (o i v : V) (ov iv u : Value) (Q : Hp → Prop), Inv X pins σ H s → RelV o ov → RelV i iv → RelV v u → t o i v H Q →
    wpAny (model X.prog X.w) X.A (setItem ov iv u) (fun _ s' => ∃ H', Inv X pins σ H' s' ∧ Q H') X.xe s
abbrev TIp := V → V → Hp → VK → Prop
def PIp (X : Cx) (op : Operator) (t : TIp) : Prop :=
  ∀ (pins : List (Addr × Obj)) (s : Shared) (σ : St) (H : Hp) (x y : V) (v u : Value) (Q : VK), Inv X pins σ H s → RelV x v → RelV y u → t x y H Q →
    wpAny (model X.prog X.w) X.A (inplaceOp op v u) (EP X pins σ Q) X.xe s
section
variable {X : Cx} {pos : Pos}
def gName (i : Nat) : TG := fun v σ H Q => Q (σ.set i (some v)) H
theorem pg_name {i : Nat} {x : Str} (hN : X.N.Nodup) (hi : X.N[i]? = some x) (hx : Loc X.env.scope x) (hf : X.fn x = true ∨ X.env.scope.names.lookup x = some .local := by first | exact .inl rfl | exact .inr rfl | assumption) : PG X (.Name x pos) (gName i) := by
  intro pins s σ H v u Q I r h
  exact wpAny_assign_Name (store_ok I hN hi hx r (fun s' I' => ⟨_, H, I', h⟩) hf)
def gNil : TGs := fun vs σ H Q => vs = [] ∧ Q σ H
def gCons (t : TG) (u : TGs) : TGs := fun vs σ H Q => ∃ v r, vs = v :: r ∧ t v σ H fun σ' H' => u r σ' H' Q
theorem pgs_nil : PGs X [] gNil := by
  intro pins s σ H vs us Q I r h
  obtain ⟨e, h⟩ := h
  subst e
  cases r
  exact assignInOrder_nil ⟨σ, H, I, h⟩
theorem pgs_cons {e : Expr} {es : List Expr} {t : TG} {u : TGs} (h1 : PG X e t) (h2 : PGs X es u)
    (hs : (assignEach (e :: es) X.env).map (·.2) = assign e X.env :: (assignEach es X.env).map (·.2) := by rfl) : PGs X (e :: es) (gCons t u) := by
  intro pins s σ H vs us Q I r h
  obtain ⟨v, vr, e1, h⟩ := h
  subst e1
  cases r with
  | cons r rr =>
    rw [hs]
    refine assignInOrder_cons (thn (h1 pins s σ H _ _ _ I r h) fun _ s1 ⟨σ1, H1, I1, q1⟩ => ?_)
    exact h2 pins s1 σ1 H1 _ _ Q I1 rr q1
def gTup (K : PySem.W.Frag) (n : Nat) (t : TGs) : TG := fun v σ H Q => ∃ a xs, v = .ref a ∧ SqT K H a xs ∧ xs.length = n ∧ t xs σ H Q
theorem pg_tup {es : List Expr} {k : Nat} {t : TGs} {n : Nat} (hc : X.calm = true) (h : PGs X es t)
    (hn : (assignEach es X.env).length = n := by rfl) (hst : (assignEach es X.env).findIdx? (·.1) = none := by rfl) : PG X (.Tuple es k pos) (gTup X.K n t) := by
  intro pins s σ H v u Q I r hw
  obtain ⟨a, xs, e1, hq, hl, hw⟩ := hw
  subst e1
  cases r
  obtain ⟨its, rv, ht, hz⟩ := I.tuple hq
  refine assign_Tuple_tuple (I.ok.hd hc) ht (by simp [hn, ← hl, rv.length]) hst fun h' hx => ?_
  have I1 : Inv X pins σ H { s with heap := h' } := I.kept (t' := s.toks) fun b o e => hx b o (Nat.ne_of_lt (Heap.lt_size e)) e
  exact h pins _ σ H xs _ Q I1 (by simpa using rv) hw
def gSub (to ti : TE) (t : TSet) : TG := fun v σ H Q => to σ H fun o H1 => ti σ H1 fun i H2 => t o i v H2 fun H3 => Q σ H3
theorem pg_sub {o i : Expr} {to ti : TE} {t : TSet} (ho : PE X o to) (hi : PE X i ti) (hs : PSet X t)
    (ha : ∀ v, assign (.Subscript o i pos) X.env v = (do
      let ov ← holding [v] (eval o X.env)
      let iv ← holding [v, ov] (eval i X.env)
      standAt pos
      holding [v, ov, iv] (setItem ov iv v)
      release [v, ov, iv] []) := by intro _; rfl) : PG X (.Subscript o i pos) (gSub to ti t) := by
  intro pins s σ H v u Q I r h
  rw [ha]
  refine wpAny_bind (wpAny_holding (thn (ho pins s σ H _ I h) fun ov s1 ⟨x, H1, I1, r1, q1⟩ => ?_))
  refine wpAny_bind (wpAny_holding (thn (hi pins s1 σ H1 _ I1 q1) fun iv s2 ⟨y, H2, I2, r2, q2⟩ => ?_))
  refine wpAny_bind (wpAny_standAt (wpAny_bind (wpAny_holding (thn (hs pins s2 σ H2 x y v ov iv u _ I2 r1 r2 r q2) fun _ s3 ⟨H3, I3, q3⟩ => ?_))))
  exact wpAny_release ⟨σ, H3, I3, q3⟩
def tAsg (te : TE) (g : TG) : TS := fun D σ H => te σ H fun x H1 => g x σ H1 D.nx
theorem ps_asg {tg e : Expr} {te : TE} {g : TG} (he : PE X e te) (hg : PG X tg g) (hs : swapsWithSole [tg] e pos.line X.env = pure false := by rfl) (hw : swappedStores [tg] e X.env = pure none := by rfl)
    (h1 : (assignEach [tg] X.env).map (·.2) = [assign tg X.env] := by rfl) : PS X (.Assign [tg] e pos) (tAsg te g) := by
  intro pins s σ H D I h
  refine wpAny_Assign_stores (thn (he pins s σ H _ I h) fun v s1 ⟨x, H1, I1, r1, q1⟩ => ?_) hs hw
  rw [h1]
  exact thn (hg pins s1 σ H1 x v _ I1 r1 q1) fun _ s2 q => q
theorem ps_set {i : Nat} {x : Str} {e : Expr} {te : TE} {pos' : Pos} (hN : X.N.Nodup) (hi : X.N[i]? = some x) (hx : Loc X.env.scope x) (he : PE X e te) (hs : swapsWith e (some (.Name x pos')) pos.line X.env = pure false := by rfl) (hf : X.fn x = true ∨ X.env.scope.names.lookup x = some .local := by first | exact .inl rfl | exact .inr rfl | assumption) :
    PS X (.Assign [.Name x pos'] e pos) (tAsg te (gName i)) := by
  intro pins s σ H D I h
  refine wpAny_Assign_Name (thn (he pins s σ H _ I h) fun v s1 ⟨y, H1, I1, r1, q1⟩ => ?_) hs
  exact store_ok I1 hN hi hx r1 (fun s2 I2 => ⟨_, H1, I2, q1⟩) hf
def tPar (i j : Nat) (ta : TA) : TS := fun D σ H => ta σ H fun vs H1 => ∃ v w, vs = [v, w] ∧ D.nx ((σ.set i (some v)).set j (some w)) H1
def tAug (i : Nat) (te : TE) (ti : TIp) : TS := fun D σ H => ∃ x, σ[i]? = some (some x) ∧ te σ H fun y H1 => ti x y H1 fun z H2 => D.nx (σ.set i (some z)) H2
theorem ps_aug {i : Nat} {x : Str} {e : Expr} {te : TE} {op : Operator} {ti : TIp} {pos' : Pos} (hN : X.N.Nodup) (hi : X.N[i]? = some x) (hx : Loc X.env.scope x) (he : PE X e te) (ho : PIp X op ti) (hf : X.fn x = true ∨ X.env.scope.names.lookup x = some .local := by first | exact .inl rfl | exact .inr rfl | assumption) :
    PS X (.AugAssign (.Name x pos') op e pos) (tAug i te ti) := by
  intro pins s σ H D I h
  obtain ⟨v, e1, h⟩ := h
  obtain ⟨m, hn, hl⟩ := I.loc
  have vis : Vis X.env.scope x := by rcases hx with k | k; exact .inl k; exact .inr (.inl k)
  obtain ⟨u, r, l⟩ := hl i x v hi e1 vis
  refine wpAny_AugAssign_Name ?_
  have go : wpAny (model X.prog X.w) X.A (eval e X.env) (fun w s₂ => wpAny (model X.prog X.w) X.A (inplaceOp op u w) (fun r s₃ => wpAny (model X.prog X.w) X.A (storeName X.env x r) (fun _ => SP X pins D .next) X.xe s₃) X.xe s₂) X.xe s := by
    refine thn (he pins s σ H _ I h) fun w s1 ⟨y, H1, I1, r1, q1⟩ => ?_
    refine thn (ho pins s1 σ H1 v y u w _ I1 r r1 q1) fun z s2 ⟨zv, H2, I2, r2, q2⟩ => ?_
    exact store_ok I2 hN hi hx r2 (fun s3 I3 => ⟨_, H2, I3, q2⟩) hf
  rcases l with ⟨hk, hm⟩ | ⟨hk, c, hc, hcell⟩
  · exact wpAny_loadName_local I.ok.kind hk hn hm go
  · rcases hk with hk | hk
    · exact wpAny_loadName_cell I.ok.kind hk hc hcell go
    · rcases hx with k | k
      · have : X.env.scope.names.lookup x = some .free := hk
        rw [k] at this; cases this
      · have : X.env.scope.names.lookup x = some .free := hk
        rw [k] at this; cases this
def tAugS (to ti te : TE) (tget : V → V → Hp → VK → Prop) (tip : TIp) (tset : TSet) : TS := fun D σ H => to σ H fun o H1 => ti σ H1 fun i H2 => tget o i H2 fun x H3 => te σ H3 fun y H4 => tip x y H4 fun z H5 => tset o i z H5 fun H6 => D.nx σ H6
def PGet (X : Cx) (t : V → V → Hp → VK → Prop) : Prop :=
  ∀ (pins : List (Addr × Obj)) (s : Shared) (σ : St) (H : Hp) (o i : V) (ov iv : Value) (Q : VK), Inv X pins σ H s → RelV o ov → RelV i iv → t o i H Q →
    wpAny (model X.prog X.w) X.A (getItem ov iv) (EP X pins σ Q) X.xe s
def ipI (f : Int → Int → Int) : TIp := fun x y H Q => ∃ i j, x = .int i ∧ y = .int j ∧ Q (.int (f i j)) H
theorem ip_add : PIp X .Add (ipI fun i j => i + j) := by
  intro pins s σ H x y v u Q I r1 r2 h
  obtain ⟨i, j, e1, e2, q⟩ := h
  subst e1; subst e2
  obtain ⟨t, rfl⟩ := r1
  obtain ⟨t', rfl⟩ := r2
  exact iadd_int ⟨.int _, H, I.tok _, ⟨_, rfl⟩, q⟩
end
section
variable {X : Cx} {pos : Pos}
def tWhile (c : TT) (tb : TS) : TS := fun D σ H => ∃ W : Nat → St → Hp → Prop, (∃ m, W m σ H) ∧ ∀ m σ H, W m σ H →
  c σ H fun b H1 => if b = true then ∃ N : St → Hp → Prop, (∀ σ' H', N σ' H' → ∃ m', m' < m ∧ W m' σ' H') ∧ tb { D with nx := N, ct := N, bk := D.nx } σ H1 else D.nx σ H1
theorem ps_while {c : Expr} {body : List Stmt} {tc : TT} {tb : TS} (hp : PassesOwn (model X.prog X.w) X.A X.env X.xe) (hc : PT X c tc) (hb : PSs X body tb) : PS X (.While c body [] pos) (tWhile tc tb) := by
  intro pins s σ H D I h
  obtain ⟨W, ⟨m0, w0⟩, turn⟩ := h
  refine wpAny_While (codeAny_whileLoop (fun n s' => ∃ σ' H', Inv X pins σ' H' s' ∧ W n σ' H') ?_ m0 ⟨σ, H, I, w0⟩)
  rintro n s1 ⟨σ1, H1, I1, w1⟩
  refine wpAny_passesOwn hp (thn (hc pins s1 σ1 H1 _ I1 (turn n σ1 H1 w1)) fun b s2 ⟨H2, I2, q2⟩ => ?_)
  cases b with
  | true =>
    obtain ⟨N, hN, q2⟩ := q2
    rw [if_pos rfl]
    refine wpAny_passesOwn hp (thn (hb pins s2 σ1 H2 _ I2 q2) fun f s3 q3 => ?_)
    cases f with
    | next =>
      obtain ⟨σ3, H3, I3, n3⟩ := q3
      obtain ⟨m', hm, w3⟩ := hN σ3 H3 n3
      exact ⟨m', hm, σ3, H3, I3, w3⟩
    | cont =>
      obtain ⟨σ3, H3, I3, n3⟩ := q3
      obtain ⟨m', hm, w3⟩ := hN σ3 H3 n3
      exact ⟨m', hm, σ3, H3, I3, w3⟩
    | brk => exact q3
    | ret v => exact q3
  | false =>
    rw [if_neg Bool.false_ne_true]
    exact wpAny_execs_nil ⟨σ1, H2, I2, q2⟩
end
structure It where
  go : Nat → Hp → Prop
  yld : Nat → Hp → V → Hp → Prop
  stop : Nat → Hp → Prop
def FpOk (X : Cx) (pins : List (Addr × Obj)) (H : Hp) (b : Addr) : Prop :=
  H b = none ∧ b ≠ X.env.locals ∧ b ∉ X.fs ∧ (b ∈ X.ex ∨ X.s₀.heap.objs.size ≤ b) ∧ (∀ x c, X.env.cells.lookup x = some c → c ≠ b) ∧ ∀ p ∈ X.pn ++ pins, p.1 ≠ b
theorem Inv.fpOk {X : Cx} {pins : List (Addr × Obj)} {σ : St} {H H' : Hp} {s : Shared} {b : Addr} (I : Inv X pins σ H s) (hb : s.heap.objs.size ≤ b) (hn : H' b = none) : FpOk X pins H' b := by
  refine ⟨hn, Nat.ne_of_gt (Nat.lt_of_lt_of_le I.lt hb), I.nofs hb, .inr (Nat.le_trans I.sz hb), fun x c e z => ?_, fun p hp z => ?_⟩
  · obtain ⟨v, q⟩ := I.cell x c e
    exact absurd (Nat.lt_of_lt_of_le q.lt (by rw [z]; exact hb)) (Nat.lt_irrefl _)
  · exact absurd (Nat.lt_of_lt_of_le (Heap.lt_size (I.pin p hp).1) (by rw [z]; exact hb)) (Nat.lt_irrefl _)
structure Turn (P : Program) (w : World) (K : PySem.W.Frag) (tg : Expr) (J : It) (fp : List Addr) (it : Addr) (tn : Nat → Heap → Prop) : Prop where
  mem : it ∈ fp
  obj : ∀ i h, tn i h → ∀ b ∈ fp, ∃ o, h.get? b = some o ∧ ∀ v, o.data ≠ .cell v
  keep : ∀ i h h', tn i h → (∀ b ∈ fp, ∀ o, h.get? b = some o → h'.get? b = some o) → tn i h'
  item : ∀ (X : Cx), X.prog = P → X.w = w → X.K = K → X.calm = true → ∀ (i : Nat) (pins : List (Addr × Obj)) (s : Shared) (σ : St) (H : Hp) (E : Value → Shared → Prop), Inv X pins σ H s → (∀ b ∈ fp, FpOk X pins H b) → tn i s.heap → J.go i H →
    wpAny (model P w) X.A (pyNext (.ref it)) (fun r s1 => ∃ u, r = some u ∧
      wpAny (model P w) X.A (letOwnedTupleGo tg (.ref it) u) (fun _ s2 => ∃ x H', Inv X pins σ H' s2 ∧ RelV x u ∧ J.yld i H x H' ∧ tn (i + 1) s2.heap ∧ ∀ b ∈ fp, H' b = none) E s1) E s
  done : ∀ (X : Cx), X.prog = P → X.w = w → X.K = K → X.calm = true → ∀ (i : Nat) (pins : List (Addr × Obj)) (s : Shared) (σ : St) (H : Hp) (E : Value → Shared → Prop), Inv X pins σ H s → (∀ b ∈ fp, FpOk X pins H b) → tn i s.heap → J.stop i H →
    wpAny (model P w) X.A (pyNext (.ref it)) (fun r s1 => r = none ∧ Inv X pins σ H s1) E s
  self : ∀ (A : Around) (i : Nat) (s : Shared) (Q : Value → Shared → Prop) (E : Value → Shared → Prop), tn i s.heap → Q (.ref it) s → wpAny (model P w) A (pyIter (.ref it)) Q E s
abbrev TI := St → Hp → (It → Hp → Prop) → Prop
def PIE (X : Cx) (pins : List (Addr × Obj)) (σ : St) (tg : Expr) (R : It → Hp → Prop) (itv : Value) (s2 : Shared) : Prop :=
  ∃ (it : Addr) (fp : List Addr) (tn : Nat → Heap → Prop) (J : It) (H' : Hp), itv = .ref it ∧ Inv X pins σ H' s2 ∧ Turn X.prog X.w X.K tg J fp it tn ∧ tn 0 s2.heap ∧ (∀ b ∈ fp, FpOk X pins H' b) ∧ R J H'
def PI (X : Cx) (tg iter : Expr) (wi : TI) : Prop :=
  ∀ (pins : List (Addr × Obj)) (s : Shared) (σ : St) (H : Hp) (R : It → Hp → Prop), Inv X pins σ H s → wi σ H R →
    wpAny (model X.prog X.w) X.A (eval iter X.env) (fun v s1 => wpAny (model X.prog X.w) X.A (pyIter v) (PIE X pins σ tg R) X.xe s1) X.xe s
theorem go_of {M : Model} {A : Around} {E : Value → Shared → Prop} {s : Shared} {tg : Expr} {it : Addr} {u : Value} {o : Obj} {n : String} {vs : Array Value} {Q : Unit → Shared → Prop} (ho : s.heap.get? it = some o) (hc : o.cls = .type n) (hd : o.data = .fields vs)
    (hn : ["enumerate", "zip", "dict_itemiterator", "dict_reverseitemiterator", "odict_iterator", "itertools.zip_longest", "itertools.pairwise"].contains n = false) (hQ : Q () s) : wpAny M A (letOwnedTupleGo tg (.ref it) u) Q E s := by
  unfold letOwnedTupleGo
  cases tg <;> first
    | exact wpAny_pure hQ
    | (cases u <;> first
        | exact wpAny_pure hQ
        | (refine wpAny_bind (wpAny_load ho ?_)
           rw [hc, hd]
           show wpAny M A (if (["enumerate", "zip", "dict_itemiterator", "dict_reverseitemiterator", "odict_iterator", "itertools.zip_longest", "itertools.pairwise"].contains n && vs[0]? == some (rawInt _)) = true then _ else _) Q E s
           rw [if_neg (by intro h; rw [hn, Bool.false_and] at h; cases h)]
           exact wpAny_pure hQ))
def Itl (K : PySem.W.Frag) (a : Addr) : It :=
  ⟨fun i H => ∃ xs x, SqL K H a xs ∧ xs[i]? = some x, fun i H x H' => H' = H ∧ ∀ xs, SqL K H a xs → xs[i]? = some x, fun i H => ∃ xs, SqL K H a xs ∧ xs.length ≤ i⟩
def Itt (K : PySem.W.Frag) (a : Addr) : It :=
  ⟨fun i H => ∃ xs x, SqT K H a xs ∧ xs[i]? = some x, fun i H x H' => H' = H ∧ ∀ xs, SqT K H a xs → xs[i]? = some x, fun i H => ∃ xs, SqT K H a xs ∧ xs.length ≤ i⟩
def Itr (lo : Int) (n : Nat) : It := ⟨fun i _ => i < n, fun i H x H' => H' = H ∧ x = .int (lo + i), fun i _ => n ≤ i⟩
theorem turn_list {P : Program} {w : World} {K : PySem.W.Frag} {tg : Expr} (a it : Addr) : Turn P w K tg (Itl K a) [it] it (fun i h => h.IsListIter it a i) where
  mem := by simp
  obj := fun i h st b hb => by
    have e : b = it := by simpa using hb
    subst e
    obtain ⟨o, e, c, d⟩ := st
    exact ⟨o, e, fun v z => by rw [d] at z; cases z⟩
  keep := fun i h h' st k => st.at fun o e => k it (by simp) o e
  item := by
    intro X hP hw hK hc i pins s σ H E I hf st hg
    subst hP hw hK
    obtain ⟨xs, x, hq, hx⟩ := hg
    obtain ⟨its, rv, p, hz⟩ := I.list hq
    obtain ⟨u, hu, ru⟩ := rv.get hx
    obtain ⟨f0, f1, f2, f3, f4, f5⟩ := hf it (by simp)
    refine wpAny_pyNext_list_item st p.isList (x := u) (by simpa using hu) fun h' st' sb => ?_
    have I1 : Inv X pins σ H { s with heap := h' } := I.turned (t' := s.toks) (fun b o hb e => (sb.2 b hb).trans e) f0 f1 f3 f4 f5
    obtain ⟨o, e, c, d⟩ := id st'
    exact ⟨u, rfl, go_of (s := { s with heap := h' }) e c d (by decide) ⟨x, H, I1, ru, ⟨rfl, fun ys hy => by rw [I.list_inj hy hq]; exact hx⟩, st', fun b hb => (hf b hb).1⟩⟩
  done := by
    intro X hP hw hK hc i pins s σ H E I hf st hg
    subst hP hw hK
    obtain ⟨xs, hq, hx⟩ := hg
    obtain ⟨its, rv, p, hz⟩ := I.list hq
    obtain ⟨f0, f1, f2, f3, f4, f5⟩ := hf it (by simp)
    have hl := rv.length
    exact wpAny_pyNext_list_end (I.ok.hd hc) st p.isList (by simp; omega) fun h' eb => ⟨rfl, I.turned (t' := s.toks) (fun b o hb e => eb b o hb e) f0 f1 f3 f4 f5⟩
  self := fun _ _ _ _ _ st h => wpAny_pyIter_listiter st h
theorem turn_tuple {P : Program} {w : World} {K : PySem.W.Frag} {tg : Expr} (a it : Addr) : Turn P w K tg (Itt K a) [it] it (fun i h => h.IsTupleIter it a i) where
  mem := by simp
  obj := fun i h st b hb => by
    have e : b = it := by simpa using hb
    subst e
    obtain ⟨o, e, c, d⟩ := st
    exact ⟨o, e, fun v z => by rw [d] at z; cases z⟩
  keep := fun i h h' st k => st.at fun o e => k it (by simp) o e
  item := by
    intro X hP hw hK hc i pins s σ H E I hf st hg
    subst hP hw hK
    obtain ⟨xs, x, hq, hx⟩ := hg
    obtain ⟨its, rv, p, hz⟩ := I.tuple hq
    obtain ⟨u, hu, ru⟩ := rv.get hx
    obtain ⟨f0, f1, f2, f3, f4, f5⟩ := hf it (by simp)
    refine wpAny_pyNext_tuple_item st (show s.heap.IsTuple a its.toArray from p) (x := u) (by simpa using hu) fun h' st' sb => ?_
    have I1 : Inv X pins σ H { s with heap := h' } := I.turned (t' := s.toks) (fun b o hb e => (sb.2 b hb).trans e) f0 f1 f3 f4 f5
    obtain ⟨o, e, c, d⟩ := id st'
    exact ⟨u, rfl, go_of (s := { s with heap := h' }) e c d (by decide) ⟨x, H, I1, ru, ⟨rfl, fun ys hy => by rw [I.tuple_inj hy hq]; exact hx⟩, st', fun b hb => (hf b hb).1⟩⟩
  done := by
    intro X hP hw hK hc i pins s σ H E I hf st hg
    subst hP hw hK
    obtain ⟨xs, hq, hx⟩ := hg
    obtain ⟨its, rv, p, hz⟩ := I.tuple hq
    obtain ⟨f0, f1, f2, f3, f4, f5⟩ := hf it (by simp)
    have hl := rv.length
    exact wpAny_pyNext_tuple_end (I.ok.hd hc) st (show s.heap.IsTuple a its.toArray from p) (by simp; omega) fun h' eb => ⟨rfl, I.turned (t' := s.toks) (fun b o hb e => eb b o hb e) f0 f1 f3 f4 f5⟩
  self := fun _ _ _ _ _ st h => wpAny_pyIter_tupleiter st h
theorem turn_range {P : Program} {w : World} {K : PySem.W.Frag} {tg : Expr} (it : Addr) (lo : Int) (n : Nat) : Turn P w K tg (Itr lo n) [it] it (fun i h => IsRangeIter h it (lo + (i : Nat) * 1) ((n : Int) - (i : Nat)) 1) where
  mem := by simp
  obj := fun i h st b hb => by
    have e : b = it := by simpa using hb
    subst e
    exact ⟨_, st, fun v z => by
      have z' : Data.fields _ = Data.cell v := z
      cases z'⟩
  keep := fun i h h' st k => k it (by simp) _ st
  item := by
    intro X hP hw hK hc i pins s σ H E I hf st hg
    subst hP hw hK
    obtain ⟨f0, f1, f2, f3, f4, f5⟩ := hf it (by simp)
    have W := Walks.range (prog := X.prog) (w := X.w) (I.ok.hd hc) it lo 1 n
    refine W.item i s _ _ hg st fun v h' tk hv st' kk => ?_
    obtain ⟨t, rfl⟩ := hv
    have I1 : Inv X pins σ H { s with heap := h', toks := tk } := I.turned (fun b o hb e => kk b o (by simpa using hb) e) f0 f1 f3 f4 f5
    refine ⟨_, rfl, go_of (s := { s with heap := h', toks := tk }) (n := "range_iterator") st' rfl rfl (by decide) ⟨.int (lo + i), H, I1, ⟨t, ?_⟩, ⟨rfl, rfl⟩, st', fun b hb => (hf b hb).1⟩⟩
    rw [Int.mul_one]
  done := by
    intro X hP hw hK hc i pins s σ H E I hf st hg
    subst hP hw hK
    obtain ⟨f0, f1, f2, f3, f4, f5⟩ := hf it (by simp)
    exact wpAny_pyNext_range_end (I.ok.hd hc) st (by have : n ≤ i := hg; omega) fun h' eb => ⟨rfl, I.turned (t' := s.toks) (fun b o hb e => eb b o hb e) f0 f1 f3 f4 f5⟩
  self := fun _ _ _ _ _ st h => wpAny_pyIter_rangeiter st h
end L2
namespace L2
open PySem PySem.Spec PyProof.Rows
section
variable {X : Cx} {tg : Expr}
def iList (K : PySem.W.Frag) (tl : TE) : TI := fun σ H R => tl σ H fun x H1 => ∃ a, x = .ref a ∧ (∃ xs, SqL K H1 a xs) ∧ R (Itl K a) H1
def iTup (K : PySem.W.Frag) (tl : TE) : TI := fun σ H R => tl σ H fun x H1 => ∃ a, x = .ref a ∧ (∃ xs, SqT K H1 a xs) ∧ R (Itt K a) H1
theorem range_it {pins : List (Addr × Obj)} {σ : St} {H : Hp} {s : Shared} {R : It → Hp → Prop} {E : Value → Shared → Prop} {lo hi : Int} {t u v : Tok} {tk : Nat} (I : Inv X pins σ H s) (h1 : -(2 ^ 62) ≤ lo) (h2 : lo < 2 ^ 62) (h3 : -(2 ^ 62) ≤ hi) (h4 : hi < 2 ^ 62)
    (q : R (Itr lo (hi - lo).toNat) H) : wpAny (model X.prog X.w) X.A (pyIter (.ref s.heap.objs.size)) (PIE X pins σ tg R) E { s with heap := s.heap.push { cls := .type "range", data := .fields #[.int lo t, .int hi u, .int 1 v] }, toks := tk } := by
  refine wpAny_pyIter_range (IsRange.new ..) (small_one h1 h2 h3 h4) ?_
  have I1 : Inv X pins σ H { s with heap := s.heap.push { cls := .type "range", data := .fields #[.int lo t, .int hi u, .int 1 v] }, toks := tk } := I.kept fun b o e => Heap.get?_push_of_some _ e
  refine ⟨(s.heap.push { cls := .type "range", data := .fields #[.int lo t, .int hi u, .int 1 v] }).objs.size, [(s.heap.push { cls := .type "range", data := .fields #[.int lo t, .int hi u, .int 1 v] }).objs.size], _, _, H, rfl,
    I1.kept (t' := tk) fun b o e => Heap.get?_push_of_some _ e, turn_range _ lo (hi - lo).toNat, ?_, fun b hb => ?_, q⟩
  · have e1 : lo + ((0 : Nat) : Int) * 1 = lo := by simp
    have e2 : (((hi - lo).toNat : Nat) : Int) - ((0 : Nat) : Int) = Builtin.Range.rangeSize lo hi 1 := by rw [rangeSize_one]; split <;> omega
    show IsRangeIter _ _ (lo + ((0 : Nat) : Int) * 1) ((((hi - lo).toNat : Nat) : Int) - ((0 : Nat) : Int)) 1
    rw [e1, e2]
    exact Heap.get?_push_size _ rfl
  · have e : b = (s.heap.push { cls := .type "range", data := .fields #[.int lo t, .int hi u, .int 1 v] }).objs.size := by simpa using hb
    subst e
    exact I1.fpOk (Nat.le_refl _) (I1.hok.fresh (Nat.le_refl _))
def iRng1 (ta : TA) : TI := fun σ H R => ta σ H fun vs H1 => ∃ j : Int, vs = [.int j] ∧ -(2 ^ 62) ≤ j ∧ j < 2 ^ 62 ∧ R (Itr 0 j.toNat) H1
def iRng2 (ta : TA) : TI := fun σ H R => ta σ H fun vs H1 => ∃ i j : Int, vs = [.int i, .int j] ∧ (-(2 ^ 62) ≤ i ∧ i < 2 ^ 62 ∧ -(2 ^ 62) ≤ j ∧ j < 2 ^ 62) ∧ R (Itr i (j - i).toNat) H1
theorem pi_range1 {a : Expr} {ta : TA} {p pos : Pos} (hg : Gl X "range") (hm : X.mg "range" = none) (ha : PA X [a] ta) (hs : starEach [a] X.env = [(false, eval a X.env)] := by rfl) : PI X tg (.Call (.Name "range" p) [a] [] pos) (iRng1 ta) := by
  intro pins s σ H R I h
  refine Call_ (ld_blt I hg hm boot_range (PyProof.Rows.callWith_type1 (thn (ha pos pins s σ H _ I h) fun us s1 ⟨vs, H1, I1, r1, q1⟩ => ?_) hs rfl))
  obtain ⟨j, e, q1, q2, q⟩ := q1
  subst e
  cases r1 with
  | cons r rr =>
    cases rr
    obtain ⟨t, rfl⟩ := r
    exact call_range_1 (range_it I1 (by omega) (by omega) q1 q2 (by simpa using q))
def tFor (wi : TI) (g : TG) (tb : TS) : TS := fun D σ H => wi σ H fun J H1 => ∃ W : Nat → Nat → St → Hp → Prop, (∃ m, W 0 m σ H1) ∧ ∀ i m σ H, W i m σ H →
  (J.stop i H ∧ D.nx σ H) ∨ (J.go i H ∧ ∃ N : St → Hp → Prop, (∀ σ' H', N σ' H' → ∃ m', m' < m ∧ W (i + 1) m' σ' H') ∧ ∀ x H', J.yld i H x H' → g x σ H' fun σ2 H2 => tb { D with nx := N, ct := N, bk := D.nx } σ2 H2)
def pinsAt (fp : List Addr) (h : Heap) : List (Addr × Obj) := fp.filterMap fun b => (h.get? b).map fun o => (b, o)
theorem mem_pinsAt {fp : List Addr} {h : Heap} {b : Addr} {o : Obj} (hb : b ∈ fp) (e : h.get? b = some o) : (b, o) ∈ pinsAt fp h := List.mem_filterMap.mpr ⟨b, hb, by rw [e]; rfl⟩
theorem of_pinsAt {fp : List Addr} {h : Heap} {p : Addr × Obj} (hp : p ∈ pinsAt fp h) : p.1 ∈ fp ∧ h.get? p.1 = some p.2 := by
  obtain ⟨b, hb, e⟩ := List.mem_filterMap.mp hp
  cases q : h.get? b with
  | none => rw [q] at e; cases e
  | some o =>
    rw [q] at e
    have e' : (b, o) = p := Option.some.inj e
    subst e'
    exact ⟨hb, q⟩
theorem Inv.pinned {pins : List (Addr × Obj)} {σ : St} {H : Hp} {s : Shared} {fp : List Addr} (I : Inv X pins σ H s) (hf : ∀ b ∈ fp, FpOk X pins H b) (ho : ∀ b ∈ fp, ∃ o, s.heap.get? b = some o ∧ ∀ v, o.data ≠ .cell v) : Inv X (pins ++ pinsAt fp s.heap) σ H s :=
  I.pins_of fun p hp => (List.mem_append.mp hp).elim (fun z => I.pin p (List.mem_append_right _ z)) fun z => by
    obtain ⟨hb, e⟩ := of_pinsAt z
    obtain ⟨f0, f1, f2, _⟩ := hf p.1 hb
    obtain ⟨o, e', d⟩ := ho p.1 hb
    rw [e] at e'; cases e'
    exact ⟨e, f0, f1, f2, d⟩
theorem Inv.unpinned {pins pl : List (Addr × Obj)} {σ : St} {H : Hp} {s : Shared} (I : Inv X (pins ++ pl) σ H s) : Inv X pins σ H s := I.pins_of fun p hp => I.pin p (List.mem_append_right _ (List.mem_append_left _ hp))
theorem ps_for {iter : Expr} {body : List Stmt} {wi : TI} {g : TG} {tb : TS} {pos : Pos} (hp : PassesOwn (model X.prog X.w) X.A X.env X.xe) (hc : X.calm = true) (hi : PI X tg iter wi) (hg : PG X tg g) (hb : PSs X body tb)
    (hs : ∀ x, foldedSetIterable iter X.env x = pure x := by intro _; rfl) : PS X (.For tg iter body [] pos) (tFor wi g tb) := by
  intro pins s σ H D I h
  refine wpAny_For (thn (hi pins s σ H _ I h) fun v s1 h1 => thn h1 fun itv s2 h2 => ?_) hs
  obtain ⟨it, fp, tn, J, H2, e, I2, T, st2, f2, W, ⟨m0, w0⟩, turn⟩ := h2
  subst e
  have stat : ∀ {H' : Hp}, (∀ b ∈ fp, H' b = none) → ∀ b ∈ fp, FpOk X pins H' b := fun hn b hb => ⟨hn b hb, (f2 b hb).2⟩
  refine codeAny_forLoop_any (fun n s' => ∃ i σ' H', Inv X pins σ' H' s' ∧ tn i s'.heap ∧ (∀ b ∈ fp, H' b = none) ∧ W i n σ' H') ?_ m0 ⟨0, σ, H2, I2, st2, fun b hb => (f2 b hb).1, w0⟩
  rintro n s3 ⟨i, σ3, H3, I3, st3, fr3, w3⟩
  rcases turn i n σ3 H3 w3 with ⟨stop, qn⟩ | ⟨go, N, hN, step⟩
  · refine wpAny_passesOwn hp (thn (T.done X rfl rfl rfl hc i pins s3 σ3 H3 X.xe I3 (stat fr3) st3 stop) fun r s4 ⟨hr, I4⟩ => ?_)
    subst hr
    exact wpAny_execs_nil ⟨σ3, H3, I4, qn⟩
  · refine wpAny_passesOwn hp (thn (T.item X rfl rfl rfl hc i pins s3 σ3 H3 X.xe I3 (stat fr3) st3 go) fun r s4 ⟨u, hr, h4⟩ => ?_)
    subst hr
    refine wpAny_passesOwn hp (thn h4 fun _ s5 ⟨x, H5, I5, r5, y5, st5, fr5⟩ => ?_)
    have I5' := I5.pinned (stat fr5) (T.obj _ _ st5)
    refine wpAny_passesOwn hp (thn (hg _ s5 σ3 H5 x u _ I5' r5 (step x H5 y5)) fun _ s6 ⟨σ6, H6, I6, q6⟩ => ?_)
    refine wpAny_passesOwn hp (thn (hb _ s6 σ6 H6 _ I6 q6) fun f s7 q7 => ?_)
    have again : ∀ {σ7 : St} {H7 : Hp}, Inv X (pins ++ pinsAt fp s5.heap) σ7 H7 s7 → N σ7 H7 → ∃ m, m < n ∧ ∃ i σ' H', Inv X pins σ' H' s7 ∧ tn i s7.heap ∧ (∀ b ∈ fp, H' b = none) ∧ W i m σ' H' := fun {σ7 H7} I7 n7 => by
      obtain ⟨m', hm, w7⟩ := hN σ7 H7 n7
      refine ⟨m', hm, i + 1, σ7, H7, I7.unpinned, T.keep _ _ _ st5 fun b hb o e => (I7.pin (b, o) (List.mem_append_right _ (List.mem_append_right _ (mem_pinsAt hb e)))).1, fun b hb => ?_, w7⟩
      obtain ⟨o, e, d⟩ := T.obj _ _ st5 b hb
      exact (I7.pin (b, o) (List.mem_append_right _ (List.mem_append_right _ (mem_pinsAt hb e)))).2.1
    cases f with
    | next => obtain ⟨σ7, H7, I7, n7⟩ := q7; exact again I7 n7
    | cont => obtain ⟨σ7, H7, I7, n7⟩ := q7; exact again I7 n7
    | brk => obtain ⟨σ7, H7, I7, q7⟩ := q7; exact ⟨σ7, H7, I7.unpinned, q7⟩
    | ret v => obtain ⟨x7, σ7, H7, I7, r7, q7⟩ := q7; exact ⟨x7, σ7, H7, I7.unpinned, r7, q7⟩
end
theorem for_list {K : PySem.W.Frag} {a : Addr} {xs : List V} {g : TG} {tb : TS} {D : Ends} {σ : St} {H : Hp} (Pv : Nat → St → Hp → Prop) (h0 : Pv 0 σ H) (hl : ∀ i σ H, i ≤ xs.length → Pv i σ H → SqL K H a xs)
    (hs : ∀ i x σ H, xs[i]? = some x → Pv i σ H → g x σ H fun σ2 H2 => tb { D with nx := Pv (i + 1), ct := Pv (i + 1), bk := D.nx } σ2 H2) (hd : ∀ σ H, Pv xs.length σ H → D.nx σ H) :
    ∃ W : Nat → Nat → St → Hp → Prop, (∃ m, W 0 m σ H) ∧ ∀ i m σ H, W i m σ H →
      ((Itl K a).stop i H ∧ D.nx σ H) ∨ ((Itl K a).go i H ∧ ∃ N : St → Hp → Prop, (∀ σ' H', N σ' H' → ∃ m', m' < m ∧ W (i + 1) m' σ' H') ∧ ∀ x H', (Itl K a).yld i H x H' → g x σ H' fun σ2 H2 => tb { D with nx := N, ct := N, bk := D.nx } σ2 H2) := by
  refine ⟨fun i m σ H => m = xs.length - i ∧ i ≤ xs.length ∧ Pv i σ H, ⟨xs.length, by simp, Nat.zero_le _, h0⟩, ?_⟩
  rintro i m σ H ⟨rfl, hi, p⟩
  have q := hl i σ H hi p
  by_cases hlt : i < xs.length
  · refine .inr ⟨⟨xs, xs[i], q, by simp [hlt]⟩, Pv (i + 1), fun σ' H' p' => ⟨xs.length - (i + 1), by omega, rfl, hlt, p'⟩, fun x H' y => ?_⟩
    obtain ⟨e, y⟩ := y
    subst e
    exact hs i x σ _ (y xs q) p
  · have e : i = xs.length := by omega
    subst e
    exact .inl ⟨⟨xs, q, Nat.le_refl _⟩, hd σ H p⟩
theorem for_range {lo : Int} {n : Nat} {g : TG} {tb : TS} {D : Ends} {σ : St} {H : Hp} (Pv : Nat → St → Hp → Prop) (h0 : Pv 0 σ H)
    (hs : ∀ i σ H, i < n → Pv i σ H → g (.int (lo + i)) σ H fun σ2 H2 => tb { D with nx := Pv (i + 1), ct := Pv (i + 1), bk := D.nx } σ2 H2) (hd : ∀ σ H, Pv n σ H → D.nx σ H) :
    ∃ W : Nat → Nat → St → Hp → Prop, (∃ m, W 0 m σ H) ∧ ∀ i m σ H, W i m σ H →
      ((Itr lo n).stop i H ∧ D.nx σ H) ∨ ((Itr lo n).go i H ∧ ∃ N : St → Hp → Prop, (∀ σ' H', N σ' H' → ∃ m', m' < m ∧ W (i + 1) m' σ' H') ∧ ∀ x H', (Itr lo n).yld i H x H' → g x σ H' fun σ2 H2 => tb { D with nx := N, ct := N, bk := D.nx } σ2 H2) := by
  refine ⟨fun i m σ H => m = n - i ∧ i ≤ n ∧ Pv i σ H, ⟨n, by simp, Nat.zero_le _, h0⟩, ?_⟩
  rintro i m σ H ⟨rfl, hi, p⟩
  by_cases hlt : i < n
  · refine .inr ⟨hlt, Pv (i + 1), fun σ' H' p' => ⟨n - (i + 1), by omega, rfl, hlt, p'⟩, fun x H' y => ?_⟩
    obtain ⟨e, y⟩ := y
    subst e y
    exact hs i σ _ hlt p
  · have e : i = n := by omega
    subst e
    exact .inl ⟨Nat.le_refl _, hd σ H p⟩
end L2
namespace L2
open PySem PySem.Spec PyProof.Rows
abbrev R2 := V → V → Hp → VK → Prop
def OpR (X : Cx) (f : Value → Value → Sem Value) (r : R2) : Prop :=
  ∀ (pins : List (Addr × Obj)) (s : Shared) (σ : St) (H : Hp) (x y : V) (v u : Value) (Q : VK), Inv X pins σ H s → RelV x v → RelV y u → r x y H Q →
    wpAny (model X.prog X.w) X.A (f v u) (EP X pins σ Q) X.xe s
def UnR (X : Cx) (f : Value → Sem Value) (r : V → Hp → VK → Prop) : Prop :=
  ∀ (pins : List (Addr × Obj)) (s : Shared) (σ : St) (H : Hp) (x : V) (v : Value) (Q : VK), Inv X pins σ H s → RelV x v → r x H Q →
    wpAny (model X.prog X.w) X.A (f v) (EP X pins σ Q) X.xe s
def CallR (X : Cx) (f : Value) (r : List V → Hp → VK → Prop) : Prop :=
  ∀ (pins : List (Addr × Obj)) (s : Shared) (σ : St) (H : Hp) (xs : List V) (us : List Value) (Q : VK), Inv X pins σ H s → Vals xs us → r xs H Q →
    wpAny (model X.prog X.w) X.A (call f us) (EP X pins σ Q) X.xe s
def TruR (X : Cx) (r : V → Hp → (Bool → Hp → Prop) → Prop) : Prop :=
  ∀ (pins : List (Addr × Obj)) (s : Shared) (σ : St) (H : Hp) (x : V) (v : Value) (Q : Bool → Hp → Prop), Inv X pins σ H s → RelV x v → r x H Q →
    wpAny (model X.prog X.w) X.A (truthy v) (TP X pins σ Q) X.xe s
def tOp (r : R2) (ta tb : TE) : TE := fun σ H Q => ta σ H fun x H1 => tb σ H1 fun y H2 => r x y H2 Q
def tUn (r : V → Hp → VK → Prop) (ta : TE) : TE := fun σ H Q => ta σ H fun x H1 => r x H1 Q
def rI (C : Int → Int → Prop) (g : Int → Int → V) : R2 := fun x y H Q => ∃ i j, x = .int i ∧ y = .int j ∧ C i j ∧ Q (g i j) H
def rI0 (g : Int → Int → V) : R2 := fun x y H Q => ∃ i j, x = .int i ∧ y = .int j ∧ Q (g i j) H
def rU (g : Int → V) : V → Hp → VK → Prop := fun x H Q => ∃ i, x = .int i ∧ Q (g i) H
section
variable {X : Cx} {a b c : Expr} {ta tb tc : TE} {pos : Pos}
theorem binT (ha : PE X a ta) (hb : PE X b tb) {pins : List (Addr × Obj)} {s : Shared} {σ : St} {H : Hp} {R : V → V → Hp → Prop} (I : Inv X pins σ H s)
    (h : ta σ H fun x H1 => tb σ H1 fun y H2 => R x y H2) {Q : Value → Shared → Prop} {f : Value → Value → Sem Value}
    (hf : ∀ v u s2 x y H2, Inv X pins σ H2 s2 → RelV x v → RelV y u → R x y H2 → wpAny (model X.prog X.w) X.A (f v u) Q X.xe s2) :
    wpAny (model X.prog X.w) X.A (eval a X.env) (fun v s₁ => wpAny (model X.prog X.w) X.A (eval b X.env) (fun u s₂ => wpAny (model X.prog X.w) X.A (f v u) Q X.xe s₂) X.xe s₁) X.xe s := by
  refine thn (ha pins s σ H _ I h) fun v s1 ⟨x, H1, I1, r1, q1⟩ => ?_
  refine thn (hb pins s1 σ H1 _ I1 q1) fun u s2 ⟨y, H2, I2, r2, q2⟩ => ?_
  exact hf v u s2 x y H2 I2 r1 r2 q2
theorem pe_op {op : Operator} {r : R2} (ho : OpR X (binaryOp op) r) (ha : PE X a ta) (hb : PE X b tb) : PE X (.BinOp a op b pos) (tOp r ta tb) := by
  intro pins s σ H Q I h
  exact wpAny_BinOp (binT ha hb I h fun v u s2 x y H2 I2 rx ry q => ho pins s2 σ H2 x y v u Q I2 rx ry q)
theorem pe_un {op : UnaryOp} {r : V → Hp → VK → Prop} (ho : UnR X (unaryOp op) r) (ha : PE X a ta) : PE X (.UnaryOp op a pos) (tUn r ta) := by
  intro pins s σ H Q I h
  exact UnaryOp_ (thn (ha pins s σ H _ I h) fun v s1 ⟨x, H1, I1, r1, q1⟩ => ho pins s1 σ H1 x v Q I1 r1 q1)
theorem opI {f : Value → Value → Sem Value} {C : Int → Int → Prop} {g : Int → Int → Int}
    (rule : ∀ (i j : Int) (t u : Tok) (s : Shared) (Q : Value → Shared → Prop) (E : Value → Shared → Prop), C i j → Q (.int (g i j) s.toks) { s with toks := s.toks + 1 } → wpAny (model X.prog X.w) X.A (f (.int i t) (.int j u)) Q E s) :
    OpR X f (rI C fun i j => .int (g i j)) := by
  intro pins s σ H x y v u Q I rx ry h
  obtain ⟨i, j, rfl, rfl, hc, q⟩ := h
  obtain ⟨t, rfl⟩ := rx
  obtain ⟨t', rfl⟩ := ry
  exact rule i j t t' s _ _ hc ⟨.int (g i j), H, I.tok _, ⟨_, rfl⟩, q⟩
theorem opI0 {f : Value → Value → Sem Value} {g : Int → Int → Int}
    (rule : ∀ (i j : Int) (t u : Tok) (s : Shared) (Q : Value → Shared → Prop) (E : Value → Shared → Prop), Q (.int (g i j) s.toks) { s with toks := s.toks + 1 } → wpAny (model X.prog X.w) X.A (f (.int i t) (.int j u)) Q E s) :
    OpR X f (rI0 fun i j => .int (g i j)) := by
  intro pins s σ H x y v u Q I rx ry h
  obtain ⟨i, j, rfl, rfl, q⟩ := h
  obtain ⟨t, rfl⟩ := rx
  obtain ⟨t', rfl⟩ := ry
  exact rule i j t t' s _ _ ⟨.int (g i j), H, I.tok _, ⟨_, rfl⟩, q⟩
theorem opB0 {f : Value → Value → Sem Value} {g : Int → Int → Bool}
    (rule : ∀ (i j : Int) (t u : Tok) (s : Shared) (Q : Value → Shared → Prop) (E : Value → Shared → Prop), Q (.bool (g i j)) s → wpAny (model X.prog X.w) X.A (f (.int i t) (.int j u)) Q E s) :
    OpR X f (rI0 fun i j => .bl (g i j)) := by
  intro pins s σ H x y v u Q I rx ry h
  obtain ⟨i, j, rfl, rfl, q⟩ := h
  obtain ⟨t, rfl⟩ := rx
  obtain ⟨t', rfl⟩ := ry
  exact rule i j t t' s _ _ ⟨.bl (g i j), H, I, rfl, q⟩
def CDiv (i j : Int) : Prop := 0 < j ∧ j < 1073741824
def CDivN (i j : Int) : Prop := j ≠ 0 ∧ j.natAbs < 1073741824
def CPow (i j : Int) : Prop := 0 ≤ j ∧ j ≤ 1000000 ∧ i.natAbs < 2 ^ 64
def CMul (i j : Int) : Prop := (-(2 ^ 64) < i ∧ i < 2 ^ 64) ∨ (-(2 ^ 64) < j ∧ j < 2 ^ 64)
theorem CMul.ok {i j : Int} (h : CMul i j) : IntMulOk i j := by
  rcases h with ⟨h1, h2⟩ | ⟨h1, h2⟩
  · exact .of_left (intBits_le_64 h1 h2)
  · exact .of_right (intBits_le_64 h1 h2)
theorem op_add : OpR X (binaryOp .Add) (rI0 fun i j => .int (i + j)) := opI0 fun _ _ _ _ _ _ _ q => add_int q
theorem op_sub : OpR X (binaryOp .Sub) (rI0 fun i j => .int (i - j)) := opI0 fun _ _ _ _ _ _ _ q => sub_int q
theorem op_mul : OpR X (binaryOp .Mult) (rI CMul fun i j => .int (i * j)) := opI fun _ _ _ _ _ _ _ hc q => mul_int q hc.ok
theorem op_mod : OpR X (binaryOp .Mod) (rI (fun _ j => 0 < j) fun i j => .int (i % j)) := opI fun i j _ _ _ _ _ hc q => by
  have h1 : (0 : Int) < j := hc
  exact mod_int' (by omega) (by rw [Int.fmod_eq_emod_of_nonneg i (by omega)]; exact q)
theorem op_pow : OpR X (binaryOp .Pow) (rI CPow fun i j => .int (i ^ j.toNat)) := opI fun _ _ _ _ _ _ _ hc q => pow_int_small hc.1 hc.2.1 hc.2.2 q
theorem unI {f : Value → Sem Value} {g : Int → Int}
    (rule : ∀ (i : Int) (t : Tok) (s : Shared) (Q : Value → Shared → Prop) (E : Value → Shared → Prop), Q (.int (g i) s.toks) { s with toks := s.toks + 1 } → wpAny (model X.prog X.w) X.A (f (.int i t)) Q E s) :
    UnR X f (rU fun i => .int (g i)) := by
  intro pins s σ H x v Q I rx h
  obtain ⟨i, rfl, q⟩ := h
  obtain ⟨t, rfl⟩ := rx
  exact rule i t s _ _ ⟨.int (g i), H, I.tok _, ⟨_, rfl⟩, q⟩
theorem un_neg : UnR X (unaryOp .USub) (rU fun i => .int (-i)) := unI fun _ _ _ _ _ q => neg_int q
end
def scal : V → V → Bool
  | .non, .non => true | .non, .int _ => true | .int _, .non => true | .non, .bl _ => true | .bl _, .non => true | .non, .str _ => true | .str _, .non => true
  | .int _, .int _ => true | .bl _, .bl _ => true | .str _, .str _ => true | .byt _, .byt _ => true
  | .int _, .str _ => true | .str _, .int _ => true | .bl _, .str _ => true | .str _, .bl _ => true
  | _, _ => false
def rEq : R2 := fun x y H Q => scal x y = true ∧ Q (.bl (decide (x = y))) H
def rNe : R2 := fun x y H Q => scal x y = true ∧ Q (.bl (!decide (x = y))) H
theorem dec_int {i j : Int} : decide (V.int i = V.int j) = (i == j) := by
  rw [Bool.eq_iff_iff]
  simp
theorem dec_bl {i j : Bool} : decide (V.bl i = V.bl j) = (i == j) := by
  rw [Bool.eq_iff_iff]
  simp
theorem dec_str {i j : Str} : decide (V.str i = V.str j) = (i == j) := by
  rw [Bool.eq_iff_iff]
  simp
theorem dec_byt {i j : Array UInt8} : decide (V.byt i = V.byt j) = (i.toList == j.toList) := by
  rw [Bool.eq_iff_iff]
  cases i
  cases j
  simp
section
variable {X : Cx} {a b c : Expr} {ta tb tc : TE} {pos : Pos}
theorem fin_bl {pins : List (Addr × Obj)} {σ : St} {H : Hp} {s : Shared} {Q : VK} {k k' : Bool} (I : Inv X pins σ H s) (q : Q (.bl k) H) (e : k = k') : EP X pins σ Q (.bool k') s := by
  subst e
  exact ⟨.bl k, H, I, rfl, q⟩
theorem op_eq : OpR X (compareOp .Eq) rEq := by
  intro pins s σ H x y v u Q I rx ry h
  obtain ⟨hs, q⟩ := h
  cases x with
  | non =>
    cases rx
    cases y with
    | non => cases ry; exact PySem.EqNone.eq_none_none (fin_bl I q (by simp))
    | bl j => cases ry; exact PySem.EqNone.eq_none_bool (fin_bl I q (by simp))
    | int j => obtain ⟨t', rfl⟩ := ry; exact PySem.EqNone.eq_none_int (fin_bl I q (by simp))
    | str j => obtain ⟨t', rfl⟩ := ry; exact PySem.EqNone.eq_none_str (fin_bl I q (by simp))
    | _ => exact absurd (show false = true from hs) Bool.false_ne_true
  | bl i =>
    cases rx
    cases y with
    | non => cases ry; exact PySem.EqNone.eq_bool_none (fin_bl I q (by simp))
    | bl j => cases ry; exact eq_bool (fin_bl I q dec_bl)
    | str j => obtain ⟨t', rfl⟩ := ry; exact PySem.EqMixed.eq_bool_str (fin_bl I q (by simp))
    | _ => exact absurd (show false = true from hs) Bool.false_ne_true
  | int i =>
    obtain ⟨t, rfl⟩ := rx
    cases y with
    | non => cases ry; exact PySem.EqNone.eq_int_none (fin_bl I q (by simp))
    | int j => obtain ⟨t', rfl⟩ := ry; exact eq_int (fin_bl I q dec_int)
    | str j => obtain ⟨t', rfl⟩ := ry; exact PySem.EqMixed.eq_int_str (fin_bl I q (by simp))
    | _ => exact absurd (show false = true from hs) Bool.false_ne_true
  | str i =>
    obtain ⟨t, rfl⟩ := rx
    cases y with
    | non => cases ry; exact PySem.EqNone.eq_str_none (fin_bl I q (by simp))
    | bl j => cases ry; exact PySem.EqMixed.eq_str_bool (fin_bl I q (by simp))
    | int j => obtain ⟨t', rfl⟩ := ry; exact PySem.EqMixed.eq_str_int (fin_bl I q (by simp))
    | str j => obtain ⟨t', rfl⟩ := ry; exact eq_str (fin_bl I q dec_str)
    | _ => exact absurd (show false = true from hs) Bool.false_ne_true
  | byt i =>
    obtain ⟨t, rfl⟩ := rx
    cases y with
    | byt j => obtain ⟨t', rfl⟩ := ry; exact PySem.W.eq_bytes (fin_bl I q dec_byt)
    | _ => exact absurd (show false = true from hs) Bool.false_ne_true
  | _ => cases y <;> exact absurd (show false = true from hs) Bool.false_ne_true
theorem op_ne : OpR X (compareOp .NotEq) rNe := by
  intro pins s σ H x y v u Q I rx ry h
  obtain ⟨hs, q⟩ := h
  cases x with
  | non =>
    cases rx
    cases y with
    | non => cases ry; exact PySem.EqNone.ne_none_none (fin_bl I q (by simp))
    | bl j => cases ry; exact PySem.EqNone.ne_none_bool (fin_bl I q (by simp))
    | int j => obtain ⟨t', rfl⟩ := ry; exact PySem.EqNone.ne_none_int (fin_bl I q (by simp))
    | str j => obtain ⟨t', rfl⟩ := ry; exact PySem.EqNone.ne_none_str (fin_bl I q (by simp))
    | _ => exact absurd (show false = true from hs) Bool.false_ne_true
  | bl i =>
    cases rx
    cases y with
    | non => cases ry; exact PySem.EqNone.ne_bool_none (fin_bl I q (by simp))
    | bl j => cases ry; exact ne_bool (fin_bl I q (congrArg not dec_bl))
    | str j => obtain ⟨t', rfl⟩ := ry; exact PySem.EqMixed.ne_bool_str (fin_bl I q (by simp))
    | _ => exact absurd (show false = true from hs) Bool.false_ne_true
  | int i =>
    obtain ⟨t, rfl⟩ := rx
    cases y with
    | non => cases ry; exact PySem.EqNone.ne_int_none (fin_bl I q (by simp))
    | int j => obtain ⟨t', rfl⟩ := ry; exact ne_int (fin_bl I q (congrArg not dec_int))
    | str j => obtain ⟨t', rfl⟩ := ry; exact PySem.EqMixed.ne_int_str (fin_bl I q (by simp))
    | _ => exact absurd (show false = true from hs) Bool.false_ne_true
  | str i =>
    obtain ⟨t, rfl⟩ := rx
    cases y with
    | non => cases ry; exact PySem.EqNone.ne_str_none (fin_bl I q (by simp))
    | bl j => cases ry; exact PySem.EqMixed.ne_str_bool (fin_bl I q (by simp))
    | int j => obtain ⟨t', rfl⟩ := ry; exact PySem.EqMixed.ne_str_int (fin_bl I q (by simp))
    | str j => obtain ⟨t', rfl⟩ := ry; exact ne_str (fin_bl I q (congrArg not dec_str))
    | _ => exact absurd (show false = true from hs) Bool.false_ne_true
  | byt i =>
    obtain ⟨t, rfl⟩ := rx
    cases y with
    | byt j => obtain ⟨t', rfl⟩ := ry; exact PySem.W.ne_bytes (fin_bl I q (congrArg not dec_byt))
    | _ => exact absurd (show false = true from hs) Bool.false_ne_true
  | _ => cases y <;> exact absurd (show false = true from hs) Bool.false_ne_true
theorem op_lt : OpR X (compareOp .Lt) (rI0 fun i j => .bl (decide (i < j))) := opB0 fun _ _ _ _ _ _ _ q => lt_int q
theorem op_le : OpR X (compareOp .LtE) (rI0 fun i j => .bl (decide (i ≤ j))) := opB0 fun _ _ _ _ _ _ _ q => le_int q
theorem op_gt : OpR X (compareOp .Gt) (rI0 fun i j => .bl (decide (j < i))) := opB0 fun _ _ _ _ _ _ _ q => gt_int q
theorem op_ge : OpR X (compareOp .GtE) (rI0 fun i j => .bl (decide (j ≤ i))) := opB0 fun _ _ _ _ _ _ _ q => ge_int q
theorem op_isN : OpR X (compareOp .Is) (fun x y H Q => y = .non ∧ Q (.bl (decide (x = .non))) H) := by
  intro pins s σ H x y v u Q I rx ry h
  obtain ⟨rfl, q⟩ := h
  cases ry
  refine is_none_gen (fin_bl I q ?_)
  cases x <;> first
    | (cases rx; rfl)
    | (obtain ⟨t, rfl⟩ := rx; rfl)
theorem op_notN : OpR X (compareOp .IsNot) (fun x y H Q => y = .non ∧ Q (.bl (!decide (x = .non))) H) := by
  intro pins s σ H x y v u Q I rx ry h
  obtain ⟨rfl, q⟩ := h
  cases ry
  refine isnot_none_gen (fin_bl I q ?_)
  cases x <;> first
    | (cases rx; rfl)
    | (obtain ⟨t, rfl⟩ := rx; rfl)
def isObj : HO → Bool
  | .lst _ => true
  | .ins _ _ _ => true
  | _ => false
theorem OpR.or {f : Value → Value → Sem Value} {r r' : R2} (h : OpR X f r) (h' : OpR X f r') : OpR X f (fun x y H Q => r x y H Q ∨ r' x y H Q) := by
  intro pins s σ H x y v u Q I rx ry q
  rcases q with q | q
  · exact h pins s σ H x y v u Q I rx ry q
  · exact h' pins s σ H x y v u Q I rx ry q
theorem nomark (b : Expr) {op : CmpOp} (h : op ≠ .In := by decide) (h2 : op ≠ .NotIn := by decide) : behindInMarks op b = false := by
  have e1 : (op == CmpOp.In) = false := by cases op <;> first | rfl | exact absurd rfl h
  have e2 : (op == CmpOp.NotIn) = false := by cases op <;> first | rfl | exact absurd rfl h2
  cases b <;> simp [behindInMarks, e1, e2]
theorem pe_cmpR {op : CmpOp} {r : R2} (ho : OpR X (compareOp op) r) (ha : PE X a ta) (hb : PE X b tb) (hm : behindInMarks op b = false) : PE X (.Compare a [op] [b] pos) (tOp r ta tb) := by
  intro pins s σ H Q I h
  exact wpAny_Compare1 (binT ha hb I h fun v u s2 x y H2 I2 rx ry q => ho pins s2 σ H2 x y v u Q I2 rx ry q) hm
def tTest (t : TE) : TT := fun σ H Q => t σ H fun x H' => ∃ k, x = .bl k ∧ Q k H'
theorem pt_cmpR {op : CmpOp} {r : R2} (ho : OpR X (compareOp op) r) (ha : PE X a ta) (hb : PE X b tb) (hm : behindInMarks op b = false) : PT X (.Compare a [op] [b] pos) (tTest (tOp r ta tb)) := by
  intro pins s σ H Q I h
  refine wpAny_isTrue_Compare1 (thn (ha pins s σ H _ I h) fun v s1 ⟨x, H1, I1, r1, q1⟩ => thn (hb pins s1 σ H1 _ I1 q1) fun u s2 ⟨y, H2, I2, r2, q2⟩ =>
    thn (ho pins s2 σ H2 x y v u _ I2 r1 r2 q2) fun c s3 ⟨z, H3, I3, r3, k, e, q3⟩ => ?_) hm
  subst e
  cases r3
  exact wpAny_truthy_bool ⟨H3, I3, q3⟩
def tChain (r r' : R2) (ta tb tc : TE) : TE := fun σ H Q => ta σ H fun x H1 => tb σ H1 fun y H2 => r x y H2 fun z H3 => ∃ k, z = .bl k ∧
  (if k = true then tc σ H3 fun w' H4 => r' y w' H4 Q else Q (.bl false) H3)
def TruV (K : PySem.W.Frag) (x : V) (H : Hp) (k : Bool) : Prop :=
  match x with
  | .non => k = false
  | .bl b => k = b
  | .int i => k = (i != 0)
  | .str y => y.length ≤ sizeLine ∧ k = ((y.length : Int) != 0)
  | .byt y => y.size ≤ sizeLine ∧ k = ((y.size : Int) != 0)
  | .ref p => (∃ xs, SqL K H p xs ∧ k = !xs.isEmpty) ∨ (∃ xs, SqT K H p xs ∧ k = !xs.isEmpty) ∨ ∃ kvs, H p = some (.dK kvs) ∧ k = !kvs.isEmpty
  | _ => False
theorem isEmpty_kv {κ : Type} {kvs : List (κ × V)} {vs : List (κ × Value)} (r : KV kvs vs) : (!vs.isEmpty) = !kvs.isEmpty := by
  cases r <;> rfl
theorem isEmpty_of {xs : List V} {its : List Value} (r : Vals xs its) : (!its.toArray.isEmpty) = !xs.isEmpty := by
  cases r <;> simp
theorem line63 : (sizeLine : Nat) < 2 ^ 63 := by rw [sizeLine_eq]; decide
theorem tru_ok : TruR X (fun x H Q => ∃ k, TruV X.K x H k ∧ Q k H) := by
  intro pins s σ H x v Q I rx h
  obtain ⟨k, e, q⟩ := h
  have hl := line63
  have hs : sizeLine = 16777216 := sizeLine_eq
  cases x with
  | non =>
    cases rx
    have e' : k = false := e
    subst e'
    exact truthy_none ⟨H, I, q⟩
  | bl b =>
    cases rx
    have e' : k = b := e
    subst e'
    exact wpAny_truthy_bool ⟨H, I, q⟩
  | int i =>
    obtain ⟨t, rfl⟩ := rx
    have e' : k = (i != 0) := e
    subst e'
    exact PySem.P.truthy_int ⟨H, I, q⟩
  | str y =>
    obtain ⟨t, rfl⟩ := rx
    obtain ⟨hy, e'⟩ : y.length ≤ sizeLine ∧ k = ((y.length : Int) != 0) := e
    subst e'
    exact PySem.P.truthy_str (by omega) ⟨H, I.tok _, q⟩
  | byt y =>
    obtain ⟨t, rfl⟩ := rx
    obtain ⟨hy, e'⟩ : y.size ≤ sizeLine ∧ k = ((y.size : Int) != 0) := e
    subst e'
    exact PySem.W.truthy_bytes (by omega) ⟨H, I.tok _, q⟩
  | ref p =>
    cases rx
    have e' : (∃ xs, SqL X.K H p xs ∧ k = !xs.isEmpty) ∨ (∃ xs, SqT X.K H p xs ∧ k = !xs.isEmpty) ∨ ∃ kvs, H p = some (.dK kvs) ∧ k = !kvs.isEmpty := e
    rcases e' with ⟨xs, hx, e'⟩ | ⟨xs, hx, e'⟩ | ⟨kvs, hx, e'⟩
    · subst e'
      obtain ⟨its, r, pl, hz⟩ := I.list hx
      have hlen := r.length
      exact wpAny_truthy_list pl.isList (by simp only [List.size_toArray]; omega) ⟨H, I.tok _, by rw [isEmpty_of r]; exact q⟩
    · subst e'
      obtain ⟨its, r, pl, hz⟩ := I.tuple hx
      have hlen := r.length
      exact truthy_tuple pl (by simp only [List.size_toArray]; omega) ⟨H, I.tok _, by rw [isEmpty_of r]; exact q⟩
    · subst e'
      obtain ⟨hz, hS, vs, r, m⟩ : kvs.length ≤ sizeLine ∧ (p == sysModules) = false ∧ ∃ vs, KV kvs vs ∧ s.heap.DictOf (mixKind X.prog X.w) p vs := I.hok p _ hx
      have hlen : kvs.length = vs.length := Paired.length r
      exact wpAny_truthy_dict hS m (by omega) ⟨H, I.tok _, by rw [isEmpty_kv r]; exact q⟩
  | _ => exact (show False from e).elim
theorem pt_truth (ha : PE X a ta) (he : ∀ whole, isTrue a X.env whole = (do let v ← whole; standAt a.pos; holding [v] (truthy v))) :
    PT X a (fun σ H Q => ta σ H fun x H' => ∃ k, TruV X.K x H' k ∧ Q k H') := by
  intro pins s σ H Q I h
  exact isTrue_plain (thn (ha pins s σ H _ I h) fun v s1 ⟨x, H1, I1, r1, q1⟩ => tru_ok pins s1 σ H1 x v Q I1 r1 q1) (he _)
theorem op_add_str : OpR X (binaryOp .Add) (fun x y H Q => ∃ i j, x = .str i ∧ y = .str j ∧ i.length + j.length ≤ sizeLine ∧ Q (.str (i ++ j)) H) := by
  intro pins s σ H x y v u Q I rx ry h
  obtain ⟨i, j, rfl, rfl, hz, q⟩ := h
  obtain ⟨t, rfl⟩ := rx
  obtain ⟨t', rfl⟩ := ry
  exact add_str (fun t' tk => ⟨.str (i ++ j), H, I.tok _, ⟨_, rfl⟩, q⟩) hz
def PlainIxT (b : Expr) : Prop := ∀ o i, subscripted b false o i = operate [o, i] (getItem o i)
theorem vals1 {x : V} {us : List Value} (r : Vals [x] us) : ∃ u, us = [u] ∧ RelV x u := by
  cases r with
  | cons r1 r2 => cases r2; exact ⟨_, rfl, r1⟩
theorem vals2 {x y : V} {us : List Value} (r : Vals [x, y] us) : ∃ u w', us = [u, w'] ∧ RelV x u ∧ RelV y w' := by
  cases r with
  | cons r1 r2 =>
    cases r2 with
    | cons r3 r4 => cases r4; exact ⟨_, _, rfl, r1, r3⟩
theorem call_max2 (hc : X.calm = true) : CallR X (.builtin "max") (fun xs H Q => ∃ i j, xs = [.int i, .int j] ∧ Q (.int (if j > i then j else i)) H) := by
  intro pins s σ H xs us Q I r h
  obtain ⟨i, j, rfl, q⟩ := h
  obtain ⟨u, w', rfl, ⟨t, rfl⟩, ⟨t', rfl⟩⟩ := vals2 r
  refine max_two_ints (I.ok.hd hc) fun h' tk k => ⟨_, H, I.kept k, ?_, q⟩
  by_cases hj : j > i
  · rw [if_pos hj, if_pos hj]; exact ⟨_, rfl⟩
  · rw [if_neg hj, if_neg hj]; exact ⟨_, rfl⟩
def LenV (K : PySem.W.Frag) (x : V) (H : Hp) (n : Nat) : Prop :=
  match x with
  | .str y => y.length ≤ sizeLine ∧ n = y.length
  | .byt y => y.size ≤ sizeLine ∧ n = y.size
  | .ref p => (∃ xs, SqL K H p xs ∧ n = xs.length) ∨ ∃ xs, SqT K H p xs ∧ n = xs.length
  | _ => False
theorem call_len : CallR X (.builtin "len") (fun xs H Q => ∃ x n, xs = [x] ∧ LenV X.K x H n ∧ Q (.int n) H) := by
  intro pins s σ H xs us Q I r h
  obtain ⟨x, n, rfl, e, q⟩ := h
  obtain ⟨u, rfl, rx⟩ := vals1 r
  have hl := line63
  have hs : sizeLine = 16777216 := sizeLine_eq
  cases x with
  | str y =>
    obtain ⟨t, rfl⟩ := rx
    obtain ⟨hy, e'⟩ : y.length ≤ sizeLine ∧ n = y.length := e
    subst e'
    exact len_str (by omega) ⟨.int _, H, I.tok _, ⟨_, rfl⟩, q⟩
  | byt y =>
    obtain ⟨t, rfl⟩ := rx
    obtain ⟨hy, e'⟩ : y.size ≤ sizeLine ∧ n = y.size := e
    subst e'
    exact PySem.W.len_bytes (by omega) ⟨.int _, H, I.tok _, ⟨_, rfl⟩, q⟩
  | ref p =>
    cases rx
    have e' : (∃ xs, SqL X.K H p xs ∧ n = xs.length) ∨ ∃ xs, SqT X.K H p xs ∧ n = xs.length := e
    rcases e' with ⟨xs, hx, e'⟩ | ⟨xs, hx, e'⟩
    · subst e'
      obtain ⟨its, r', pl, hz⟩ := I.list hx
      have hlen := r'.length
      exact Calls.call_len_list pl.isList (by simp only [List.size_toArray]; omega) ⟨.int xs.length, H, I.tok _, ⟨_, by simp only [List.size_toArray]; rw [hlen]⟩, q⟩
    · subst e'
      obtain ⟨its, r', pl, hz⟩ := I.tuple hx
      have hlen := r'.length
      exact len_tuple pl (by simp only [List.size_toArray]; omega) ⟨.int xs.length, H, I.tok _, ⟨_, by simp only [List.size_toArray]; rw [hlen]⟩, q⟩
  | _ => exact (show False from e).elim
end
end L2
namespace L2
open PySem PySem.Spec PyProof.Rows
structure ObjM (h : Heap) (x dx C : Addr) (mA : Str → Option Value) : Prop where
  obj : h.get? x = some (PySem.W.instObj C dx)
  ns : h.Ns1 dx mA
  ne : dx ≠ x
theorem lookIn_ns {h : Heap} {dx : Addr} {mA : Str → Option Value} (n : h.Ns1 dx mA) : ∃ od, h.get? dx = some od ∧ ∀ name, PySem.W.lookIn name od = some (mA name) := by
  obtain ⟨o, es, ep, ho, hd, hk, _, hm⟩ := n
  refine ⟨o, ho, fun name => ?_⟩
  have e := hm name
  unfold nsFind findBy at e
  rw [← Array.find?_toList] at e
  unfold PySem.W.lookIn
  rw [hd]
  dsimp only
  split
  · rename_i y q
    rw [q] at e
    exact congrArg some e
  · rename_i q
    rw [q] at e
    have a : es.toList.any (·.refKey) = false := by
      rw [List.any_eq_false]
      intro y hy
      obtain ⟨z, t, hkey⟩ := hk y (Array.mem_toList_iff.mp hy)
      simp [DictEntry.refKey, hkey]
    have a' : ¬ es.toList.any (·.refKey) = true := by rw [a]; exact Bool.false_ne_true
    rw [if_neg a']
    exact congrArg some e
theorem ObjM.look {h : Heap} {x dx C : Addr} {mA : Str → Option Value} (I : ObjM h x dx C mA) : ∃ od, PySem.W.InstAt h x (PySem.W.instObj C dx) C (some od) ∧ ∀ name, PySem.W.lookIn name od = some (mA name) :=
  let ⟨od, ho, hl⟩ := lookIn_ns I.ns
  ⟨od, ⟨I.obj, rfl, rfl, ho⟩, hl⟩
section
variable {prog : Program} {w : World} {A : Around} {E : Value → Shared → Prop} {s : Shared} {K : PySem.W.Frag} {x dx C f : Addr} {mA : Str → Option Value} {name : Str} {v : Value}
theorem get_map {expr : Bool} {Q : Value → Shared → Prop} (X : K.In s.heap) (I : ObjM s.heap x dx C mA) (hg : PySem.W.plainGet K C name = true) (hh : PySem.W.hasDictIn K C = true)
    (ha : PySem.W.findIn K (.ref C) name = some none) (hv : mA name = some v) (hv' : PySem.W.handedIn v = true) (h : Q v { s with toks := s.toks + 1 }) :
    wpAny (model prog w) A (getAttr (.ref x) name expr) Q E s := by
  obtain ⟨od, J, hl⟩ := I.look
  exact PySem.W.get_value X J (PySem.W.plainGet_of hg).1 (PySem.W.findObj_own hh ha rfl (by rw [hl, hv])) hv' h
theorem set_map {ns : List Str} {Q : Unit → Shared → Prop} (X : K.In s.heap) (I : ObjM s.heap x dx C mA)
    (hs : PySem.W.findIn K (.ref C) "__setattr__" = some (some (.builtin "object.__setattr__"))) (hp : PySem.W.plainOver K C = true) (ht : PySem.W.takerIn K C name = some none) (hh : PySem.W.hasDictIn K C = true)
    (hw : PySem.Within mA ns) (hsz : ns.length ≤ sizeLine)
    (h : ∀ h', ObjM h' x dx C (fun y => if y = name then some v else mA y) → Heap.SameBut dx s.heap h' → Q () { s with heap := h', toks := s.toks + 2 }) :
    wpAny (model prog w) A (setAttr (.ref x) name v) Q E s := by
  obtain ⟨od, J, hl⟩ := I.look
  refine PySem.W.set_plain X J hs (PySem.W.osa_open (s := { s with toks := s.toks + 1 }) (r := none) X J hp ht fun b => ?_)
  obtain ⟨cd, hc, hd'⟩ := PySem.W.any_some hh
  have hx : s.heap.get? x = some ⟨.ref C, some dx, .plain, #[]⟩ := I.obj
  refine wpAny_bind (wpAny_pure (wpAny_bind (wpAny_bind (wpAny_loadPart hx (wpAny_bind (PySem.W.Looks.here (s := { s with toks := s.toks + 1 }) (PySem.W.looks_clsIn X hc) ?_))))))
  rw [hd']
  refine wpAny_pure (a := some dx) (wpAny_bind (wpAny_pure (wpAny_bind ?_)))
  refine wpAny_nsSet1 (s := { s with toks := s.toks + 1 }) I.ns fun h' hn2 hs2 => ?_
  obtain ⟨oD, esD, epD, hoD, hdD, hcD⟩ := hn2.count (PySem.Within.cons name v hw)
  refine wpAny_bind (wpAny_lookBehind hoD (by rw [hdD]; exact pastItsLine_dict (Nat.le_trans hcD (by rw [List.length_cons]; omega))) ?_)
  exact wpAny_pure (h _ ⟨(hs2.2 _ (Ne.symm I.ne)).trans I.obj, hn2, I.ne⟩ hs2)
theorem make_map {R : Result → Shared → Prop} {vs : List Value} {kw : List (Str × Value)} (X : K.In s.heap) (hm : PySem.W.makesIn K C = true)
    (hi : PySem.W.findIn K (.ref C) "__init__" = some (some (.ref f))) (hf : PySem.W.typeIn K (.ref f) = some (.type "function"))
    (h : codeAny (model prog w) (A.under (.builtin "type.__call__" ⟨.ref C :: vs, kw⟩)) (.call (.ref f) ⟨.ref (s.heap.objs.size + 1) :: vs, kw⟩) (PySem.W.InitBack (s.heap.objs.size + 1) R)
      { s with heap := (s.heap.push PySem.W.emptyDict).push (PySem.W.instObj C s.heap.objs.size) }) :
    codeAny (model prog w) A (.call (.ref C) ⟨vs, kw⟩) R s := by
  obtain ⟨hh, g, d, t, os⟩ := s
  exact PySem.W.make_core (PySem.W.makes_of X hm) (PySem.W.looks_findIn X hi) (fun self => PySem.W.bind_fn X self hf) (.inl rfl) h
end
def putF (f : Str) (v : V) : List (Str × V) → List (Str × V)
  | [] => [(f, v)]
  | (g, x) :: r => if g = f then (g, v) :: r else (g, x) :: putF f v r
theorem lookup_putF (f g : Str) (v : V) : ∀ fs : List (Str × V), (putF f v fs).lookup g = if g = f then some v else fs.lookup g
  | [] => by
    show List.lookup g [(f, v)] = _
    by_cases h : g = f
    · have hb : (g == f) = true := beq_iff_eq.mpr h
      simp only [List.lookup, hb, if_pos h]
    · have hb : (g == f) = false := beq_eq_false_iff_ne.mpr h
      simp only [List.lookup, hb, if_neg h]
  | (k, x) :: r => by
    have ih := lookup_putF f g v r
    rw [show putF f v ((k, x) :: r) = (if k = f then (k, v) :: r else (k, x) :: putF f v r) from rfl]
    by_cases hk : k = f
    · rw [if_pos hk]
      by_cases h : g = k
      · have hb : (g == k) = true := beq_iff_eq.mpr h
        simp only [List.lookup, hb, if_pos (h.trans hk)]
      · have hb : (g == k) = false := beq_eq_false_iff_ne.mpr h
        simp only [List.lookup, hb, if_neg (fun e : g = f => h (e.trans hk.symm))]
    · rw [if_neg hk]
      by_cases h : g = k
      · have hb : (g == k) = true := beq_iff_eq.mpr h
        simp only [List.lookup, hb, if_neg (fun e : g = f => hk (h.symm.trans e))]
      · have hb : (g == k) = false := beq_eq_false_iff_ne.mpr h
        simp only [List.lookup, hb]
        exact ih
theorem keys_putF (f : Str) (v : V) : ∀ fs : List (Str × V), f ∈ (putF f v fs).map (·.1) ∧ ∀ g, g ∈ fs.map (·.1) → g ∈ (putF f v fs).map (·.1)
  | [] => ⟨by simp [putF], fun g h => by simp at h⟩
  | (k, x) :: r => by
    obtain ⟨i1, i2⟩ := keys_putF f v r
    rw [show putF f v ((k, x) :: r) = (if k = f then (k, v) :: r else (k, x) :: putF f v r) from rfl]
    by_cases hk : k = f
    · rw [if_pos hk]
      subst hk
      exact ⟨by simp, fun g h => by simpa using h⟩
    · rw [if_neg hk]
      refine ⟨?_, fun g h => ?_⟩
      · rw [List.map_cons]
        exact List.mem_cons_of_mem _ i1
      · rw [List.map_cons] at h ⊢
        rcases List.mem_cons.mp h with e | e
        · exact List.mem_cons.mpr (.inl e)
        · exact List.mem_cons_of_mem _ (i2 g e)
theorem length_putF (f : Str) (v : V) : ∀ fs : List (Str × V), (putF f v fs).length ≤ fs.length + 1
  | [] => by simp [putF]
  | (k, x) :: r => by
    have ih := length_putF f v r
    rw [show putF f v ((k, x) :: r) = (if k = f then (k, v) :: r else (k, x) :: putF f v r) from rfl]
    by_cases hk : k = f
    · rw [if_pos hk, List.length_cons, List.length_cons]; omega
    · rw [if_neg hk, List.length_cons, List.length_cons]; omega
theorem RelO.some_of {v : V} {o : Option Value} (r : RelO (some v) o) : ∃ u, o = some u ∧ RelV v u := by
  cases o with
  | none => exact (show False from r).elim
  | some u => exact ⟨u, rfl, r⟩
theorem handed_of {v : V} {u : Value} (r : RelV v u) : PySem.W.handedIn u = true := by
  cases v with
  | non => cases (show u = Value.none from r); rfl
  | bl b => cases (show u = Value.bool b from r); rfl
  | int i => obtain ⟨t, e⟩ := (show ∃ t, u = Value.int i t from r); cases e; rfl
  | str x => obtain ⟨t, e⟩ := (show ∃ t, u = Value.str x t from r); cases e; rfl
  | byt b => obtain ⟨t, e⟩ := (show ∃ t, u = Value.bytes b t from r); cases e; rfl
  | flt b => obtain ⟨t, e⟩ := (show ∃ t, u = Value.float b t from r); cases e; rfl
  | ref a => cases (show u = Value.ref a from r); rfl
  | ty n => cases (show u = Value.type n from r); rfl
section
variable {P : Program} {w : World} {H H' : Hp} {h h' : Heap} {a C dx : Addr} {fs fs' : List (Str × V)}
theorem ins_get (hok : HOk P w H h) (e : H a = some (.ins C dx fs)) : ∃ mA, ObjM h a dx C mA ∧ (∀ f, RelO (fs.lookup f) (mA f)) ∧ PySem.Within mA (fs.map (·.1)) ∧ fs.length ≤ 1000 ∧ H dx = some (.own a) := by
  obtain ⟨d, z, ne, ob, mA, n, r, q⟩ := (show ObjOk P w H h a (.ins C dx fs) from hok a _ e)
  exact ⟨mA, ⟨ob, n, ne⟩, r, q, z, d⟩
end
structure Cls (K : PySem.W.Frag) (C : Addr) : Prop where
  pg : PySem.W.plainGet K C Str.empty = true
  hd : PySem.W.hasDictIn K C = true
  po : PySem.W.plainOver K C = true
  sa : PySem.W.findIn K (.ref C) "__setattr__" = some (some (.builtin "object.__setattr__"))
theorem Cls.get {K : PySem.W.Frag} {C : Addr} (c : Cls K C) (f : Str) : PySem.W.plainGet K C f = true := c.pg
def NoAttr (K : PySem.W.Frag) (C : Addr) (f : Str) : Prop := PySem.W.findIn K (.ref C) f = some none
theorem NoAttr.taker {K : PySem.W.Frag} {C : Addr} {f : Str} (n : NoAttr K C f) : PySem.W.takerIn K C f = some none := by
  unfold PySem.W.takerIn
  rw [show PySem.W.findIn K (.ref C) f = some none from n]
  rfl
structure Con (K : PySem.W.Frag) (C : Addr) (f : Str) (v : V) (u : Value) : Prop where
  at_ : PySem.W.findIn K (.ref C) f = some (some u)
  rel : RelV v u
  get : PySem.W.specialIn K u "__get__" = some none
  cp : PySem.W.copiedNames.contains f = false
structure Meth (K : PySem.W.Frag) (C : Addr) (m : Str) (f : Addr) : Prop where
  at_ : PySem.W.findIn K (.ref C) m = some (some (.ref f))
  fn : PySem.W.isFn K (.ref f) = true
  kp : PySem.W.keepIn K (.ref f) = true
section
variable {X : Cx} {pins : List (Addr × Obj)} {σ : St} {H : Hp} {s : Shared} {a C dx : Addr} {fs : List (Str × V)} {f : Str} {v : V} {A : Around} {E : Value → Shared → Prop}
theorem getattr_ok {b : Bool} {Q : Value → Shared → Prop} (I : Inv X pins σ H s) (e : H a = some (.ins C dx fs)) (c : Cls X.K C) (n : NoAttr X.K C f) (l : fs.lookup f = some v)
    (h : ∀ u s', Inv X pins σ H s' → RelV v u → Q u s') : wpAny (model X.prog X.w) A (getAttr (.ref a) f b) Q E s := by
  obtain ⟨mA, O, r, _, _, _⟩ := ins_get I.hok e
  obtain ⟨u, hu, ru⟩ := RelO.some_of (v := v) (o := mA f) (by rw [← l]; exact r f)
  exact get_map I.kIn O (c.get f) c.hd n hu (handed_of ru) (h u _ (I.tok _) ru)
theorem setattr_ok {y : V} {u : Value} {Q : Unit → Shared → Prop} (I : Inv X pins σ H s) (e : H a = some (.ins C dx fs)) (c : Cls X.K C) (n : NoAttr X.K C f) (hl : fs.length < 1000) (ry : RelV y u)
    (h : ∀ s', Inv X pins σ (upd H a (.ins C dx (putF f y fs))) s' → Q () s') : wpAny (model X.prog X.w) A (setAttr (.ref a) f u) Q E s := by
  obtain ⟨mA, O, r, wi, _, ho⟩ := ins_get I.hok e
  have hz : (fs.map (·.1)).length ≤ sizeLine := by rw [List.length_map, sizeLine_eq]; omega
  refine set_map I.kIn O c.sa c.po n.taker c.hd wi hz fun h' O' sb => h _ ?_
  have hd : ∃ o, h'.get? dx = some o := let ⟨o, _, _, e', _⟩ := O'.ns; ⟨o, e'⟩
  refine I.write (x := a) (e := dx) (by rw [e]; exact True.intro) (.inr ho) (fun b q hb z => (sb.2 b hb).trans z) hd ?_
  refine ⟨by rw [upd_ne O.ne]; exact ho, ?_, O.ne, O'.obj, _, O'.ns, fun g => ?_, fun g hg => ?_⟩
  · have := length_putF f y fs; omega
  · show RelO ((putF f y fs).lookup g) (if g = f then some u else mA g)
    rw [lookup_putF]
    by_cases q : g = f
    · rw [if_pos q, if_pos q]; exact ry
    · rw [if_neg q, if_neg q]; exact r g
  · by_cases q : g = f
    · rw [q]; exact (keys_putF f y fs).1
    · refine (keys_putF f y fs).2 g (wi g fun z => hg ?_)
      show (if g = f then some u else mA g) = none
      rw [if_neg q]; exact z
theorem Inv.made (I : Inv X pins σ H s) : Inv X pins σ (upd (upd H s.heap.objs.size (.own (s.heap.objs.size + 1))) (s.heap.objs.size + 1) (.ins C s.heap.objs.size []))
    { s with heap := (s.heap.push PySem.W.emptyDict).push (PySem.W.instObj C s.heap.objs.size) } := by
  have e1 : (s.heap.push PySem.W.emptyDict).get? s.heap.objs.size = some PySem.W.emptyDict := Heap.get?_push_size s.heap rfl
  have e2 : ((s.heap.push PySem.W.emptyDict).push (PySem.W.instObj C s.heap.objs.size)).get? (s.heap.objs.size + 1) = some (PySem.W.instObj C s.heap.objs.size) := by
    have := Heap.get?_push_size (s.heap.push PySem.W.emptyDict) (o := PySem.W.instObj C s.heap.objs.size) rfl
    rwa [Heap.size_push] at this
  have e3 : (s.heap.push PySem.W.emptyDict).Ns s.heap.objs.size (fun _ => none) := ⟨PySem.W.emptyDict, #[], _, e1, rfl, (fun e he => absurd he (by simp)), fun _ => rfl⟩
  have I1 := I.laid (a := s.heap.objs.size) (o := .own (s.heap.objs.size + 1)) (h' := s.heap.push PySem.W.emptyDict) (t' := s.toks) (fun b u q => Heap.get?_push_of_some _ q) (Nat.le_refl _) ⟨_, e1⟩
  refine I1.laid (a := s.heap.objs.size + 1) (o := .ins C s.heap.objs.size []) (t' := s.toks) (fun b u q => Heap.get?_push_of_some _ q) (Nat.le_of_eq (Heap.size_push _ _)) ?_
  have ne : s.heap.objs.size ≠ s.heap.objs.size + 1 := Nat.ne_of_lt (Nat.lt_succ_self _)
  refine ⟨by rw [upd_ne ne, upd_same], Nat.zero_le _, ne, e2, fun _ => none, (Heap.Ns1.of_empty e3).at fun o q => Heap.get?_push_of_some _ q, fun _ => True.intro, fun y hy => absurd rfl hy⟩
theorem attr_of {prog : Program} {w : World} {env : Env} {e : Expr} {f : Str} {pos : Pos} {s : Shared} {Q : Value → Shared → Prop} (hb : attributeBase e f env (eval e env) = eval e env)
    (h : wpAny (model prog w) A (eval e env) (fun o s₁ => wpAny (model prog w) A (getAttr o f true) Q E s₁) E s) : wpAny (model prog w) A (eval (.Attribute e f pos) env) Q E s :=
  Attribute_any_ h (by rw [arm_eval_Attribute, hb])
end
def tFld (K : PySem.W.Frag) (ta : TE) (f : Str) : TE := fun σ H Q => ta σ H fun x H1 => ∃ a C dx fs v, x = .ref a ∧ H1 a = some (.ins C dx fs) ∧ Cls K C ∧ NoAttr K C f ∧ fs.lookup f = some v ∧ Q v H1
def tCon (K : PySem.W.Frag) (ta : TE) (f : Str) : TE := fun σ H Q => ta σ H fun x H1 => ∃ a C dx fs v u, x = .ref a ∧ H1 a = some (.ins C dx fs) ∧ Cls K C ∧ Con K C f v u ∧ fs.lookup f = none ∧ Q v H1
def sFld (K : PySem.W.Frag) (ta tv : TE) (f : Str) : TS := fun D σ H => tv σ H fun y H1 => ta σ H1 fun x H2 => ∃ a C dx fs, x = .ref a ∧ H2 a = some (.ins C dx fs) ∧ Cls K C ∧ NoAttr K C f ∧ fs.length < 1000 ∧
  D.nx σ (upd H2 a (.ins C dx (putF f y fs)))
def InOp (X : Cx) (op : Operator) (rd : V → V → Hp → VK → Prop) : Prop :=
  ∀ (pins : List (Addr × Obj)) (s : Shared) (σ : St) (H : Hp) (x y : V) (u v : Value) (Q : VK), Inv X pins σ H s → RelV x u → RelV y v → rd x y H Q → wpAny (model X.prog X.w) X.A (inplaceOp op u v) (EP X pins σ Q) X.xe s
def sFldAug (K : PySem.W.Frag) (ta tv : TE) (rd : V → V → Hp → VK → Prop) (f : Str) : TS := fun D σ H => ta σ H fun x H1 => ∃ a C dx fs v, x = .ref a ∧ H1 a = some (.ins C dx fs) ∧ Cls K C ∧ NoAttr K C f ∧ fs.lookup f = some v ∧
  tv σ H1 fun y H2 => rd v y H2 fun z H3 => ∃ dx' fs', H3 a = some (.ins C dx' fs') ∧ fs'.length < 1000 ∧ D.nx σ (upd H3 a (.ins C dx' (putF f z fs')))
section
variable {X : Cx} {o e value : Expr} {f : Str} {pos pos' tpos : Pos} {ta tv : TE}
theorem pe_fld (he : PE X e ta) (hb : attributeBase e f X.env (eval e X.env) = eval e X.env) : PE X (.Attribute e f pos) (tFld X.K ta f) := by
  intro pins s σ H Q I h
  refine attr_of hb (thn (he pins s σ H _ I h) fun u s1 ⟨x, H1, I1, rx, a, C, dx, fs, v, ex, ea, c, n, l, q⟩ => ?_)
  subst ex
  obtain rfl : u = Value.ref a := rx
  exact getattr_ok I1 ea c n l fun u' s2 I2 ru => ⟨v, H1, I2, ru, q⟩
theorem ps_fld (ha : PE X o ta) (hv : PE X value tv) (hs : swapsWith value (some (.Attribute o f pos')) pos.line X.env = pure false) : PS X (.Assign [.Attribute o f pos'] value pos) (sFld X.K ta tv f) := by
  intro pins s σ H D I h
  refine plainObj_wpAny_Assign_Attribute (thn (hv pins s σ H _ I h) fun u s1 ⟨y, H1, I1, ry, q⟩ => thn (ha pins s1 σ H1 _ I1 q) fun ov s2 ⟨x, H2, I2, rx, a, C, dx, fs, ex, ea, c, n, l, q2⟩ => ?_) hs
  subst ex
  obtain rfl : ov = Value.ref a := rx
  exact setattr_ok I2 ea c n l ry fun s3 I3 => ⟨σ, _, I3, q2⟩
def rAdd : V → V → Hp → VK → Prop := fun x y H Q => ∃ i j, x = .int i ∧ y = .int j ∧ Q (.int (i + j)) H
def rSub : V → V → Hp → VK → Prop := fun x y H Q => ∃ i j, x = .int i ∧ y = .int j ∧ Q (.int (i - j)) H
end
section
variable {X : Cx} {pins : List (Addr × Obj)} {σ : St} {H : Hp} {s : Shared} {A : Around} {E : Value → Shared → Prop} {Q : Value → Shared → Prop} {c : Value} {b : Bool}
inductive TyOf (K : PySem.W.Frag) (H : Hp) : V → Value → Prop where
  | non : TyOf K H .non (.type "NoneType")
  | bl (x : Bool) : TyOf K H (.bl x) (.type "bool")
  | int (i : Int) : TyOf K H (.int i) (.type "int")
  | str (x : Str) : TyOf K H (.str x) (.type "str")
  | flt (x : UInt64) : TyOf K H (.flt x) (.type "float")
  | lst {a : Addr} {xs : List V} (e : H a = some (.lst xs)) : TyOf K H (.ref a) (.type "list")
  | frz {a : Addr} {o : Obj} {xs : List V} (e : H a = some (.frz o (.lst xs))) : TyOf K H (.ref a) (.type "list")
  | tup {a : Addr} {xs : List V} (e : H a = some (.tup xs)) : TyOf K H (.ref a) (.type "tuple")
  | dK {a : Addr} {kvs : List (Key × V)} (e : H a = some (.dK kvs)) : TyOf K H (.ref a) (.type "dict")
  | dT {a : Addr} {kvs : List (List Key × V)} (e : H a = some (.dT kvs)) : TyOf K H (.ref a) (.type "dict")
  | ins {a C dx : Addr} {fs : List (Str × V)} (e : H a = some (.ins C dx fs)) (cl : Cls K C) (ha : PySem.W.findIn K (.ref C) "__class__" = some (some (.builtin "object.__class__")))
      (hn : PySem.W.specialIn K (.builtin "object.__class__") "__get__" = some (some (.builtin "getset_descriptor.__get__"))) (htk : PySem.W.takesIn K (.builtin "object.__class__") = some true)
      (hm : PySem.W.mroIn K C (.type "object") = some true) : TyOf K H (.ref a) (.ref C)
theorem isinst_ok {x : V} {u t : Value} (I : Inv X pins σ H s) (rx : RelV x u) (ty : TyOf X.K H x t) (e : PySem.W.kitOne X.K t c = some b) (h : ∀ tk, Q (.bool b) { s with toks := tk }) :
    wpAny (model X.prog X.w) A (call (.builtin "isinstance") [u, c]) Q E s := by
  cases ty with
  | non => cases (show u = Value.none from rx); exact PySem.W.kia_one PySem.W.kitx_none I.kIn True.intro e (fun z => nomatch z) h
  | bl y => cases (show u = Value.bool y from rx); exact PySem.W.kia_one PySem.W.kitx_bool I.kIn True.intro e (fun z => nomatch z) h
  | int i => obtain ⟨t, q⟩ := (show ∃ t, u = Value.int i t from rx); cases q; exact PySem.W.kia_one PySem.W.kitx_int I.kIn True.intro e (fun z => nomatch z) h
  | str y => obtain ⟨t, q⟩ := (show ∃ t, u = Value.str y t from rx); cases q; exact PySem.W.kia_one PySem.W.kitx_str I.kIn True.intro e (fun z => nomatch z) h
  | flt y => obtain ⟨t, q⟩ := (show ∃ t, u = Value.float y t from rx); cases q; exact PySem.W.kia_one PySem.W.kitx_float I.kIn True.intro e (fun z => nomatch z) h
  | @lst a xs ea =>
    cases (show u = Value.ref a from rx)
    obtain ⟨_, _, n, _, h1⟩ := (show ObjOk X.prog X.w H s.heap a (.lst xs) from I.hok a _ ea)
    exact PySem.W.kia_one PySem.W.kitx_list I.kIn ⟨_, h1, rfl⟩ e (fun z => nomatch z) h
  | @frz a ob xs ea =>
    cases (show u = Value.ref a from rx)
    obtain ⟨_, _, _, n, _, h1⟩ := (show ObjOk X.prog X.w H s.heap a (.frz ob (.lst xs)) from I.hok a _ ea)
    exact PySem.W.kia_one PySem.W.kitx_list I.kIn ⟨_, h1, rfl⟩ e (fun z => nomatch z) h
  | @tup a xs ea =>
    cases (show u = Value.ref a from rx)
    obtain ⟨_, _, _, p⟩ := (show ObjOk X.prog X.w H s.heap a (.tup xs) from I.hok a _ ea)
    obtain ⟨o, h1, h2, _⟩ := p
    exact PySem.W.kia_one PySem.W.kitx_tuple I.kIn ⟨o, h1, h2⟩ e (fun z => nomatch z) h
  | @dK a kvs ea =>
    cases (show u = Value.ref a from rx)
    obtain ⟨_, _, vs, _, p⟩ := (show ObjOk X.prog X.w H s.heap a (.dK kvs) from I.hok a _ ea)
    obtain ⟨o, es, ep, h1, h2, _⟩ := p
    exact PySem.W.kia_one PySem.W.kitx_dict I.kIn ⟨o, h1, h2.1⟩ e (fun z => nomatch z) h
  | @dT a kvs ea =>
    cases (show u = Value.ref a from rx)
    obtain ⟨_, _, xs, _, o, es, ep, h1, h2, _⟩ := (show ObjOk X.prog X.w H s.heap a (.dT kvs) from I.hok a _ ea)
    exact PySem.W.kia_one PySem.W.kitx_dict I.kIn ⟨o, h1, h2.1⟩ e (fun z => nomatch z) h
  | @ins a C dx fs ea cl ha hn htk hm =>
    cases (show u = Value.ref a from rx)
    obtain ⟨mA, O, _⟩ := ins_get I.hok ea
    obtain ⟨od, J, _⟩ := O.look
    exact PySem.W.kia_one (PySem.W.kitx_own (cl.get _) cl.hd ha hn htk hm) I.kIn J e (fun z => nomatch z) h
end
end L2
namespace L2
open PySem PySem.Spec PyProof.Rows
structure Room (k : Nat) (A : Around) : Prop where
  hd : A.handled = none
  dp : A.depth + 3 * k + 5 < recursionLimit
  un : A.units + 16 * k + 200 < cLine
theorem Room.mono {j k : Nat} {A : Around} (r : Room k A) (h : j ≤ k) : Room j A := ⟨r.hd, by have := r.dp; omega, by have := r.un; omega⟩
theorem Room.deeper {k : Nat} {A : Around} (r : Room (k + 1) A) (env : Env) : Room k (A.deeper env) :=
  ⟨r.hd, by have := r.dp; show A.depth + 1 + 3 * k + 5 < _; omega, by have := r.un; show A.units + 3 + 16 * k + 200 < _; omega⟩
theorem make_depth {A : Around} {C : Addr} {us : List Value} {kw : List (Str × Value)} : (A.under (.builtin "type.__call__" ⟨.ref C :: us, kw⟩)).depth = A.depth + 1 := by
  first | rfl | simp [Around.under, Code.weight, Code.isCreation, Code.isGuard, Code.isCaller, Code.frames, Code.isFrame, guardIds]
theorem make_units {A : Around} {C : Addr} {us : List Value} {kw : List (Str × Value)} : (A.under (.builtin "type.__call__" ⟨.ref C :: us, kw⟩)).units = A.units + 1 := by
  first | rfl | simp [Around.under, Code.cUnits, Code.frames, Code.isFrame]
theorem Room.make {k : Nat} {A : Around} (r : Room (k + 1) A) (C : Addr) (us : List Value) (kw : List (Str × Value)) : Room k (A.under (.builtin "type.__call__" ⟨.ref C :: us, kw⟩)) :=
  ⟨r.hd, by have := r.dp; rw [make_depth]; omega, by have := r.un; rw [make_units]; omega⟩
theorem Room.depth {k : Nat} {A : Around} (r : Room k A) : A.depth < recursionLimit := by have := r.dp; omega
theorem Room.units {k : Nat} {A : Around} (r : Room k A) : A.units + 64 < cLine := by have := r.un; omega
def tNil : TA := fun _ H Q => Q [] H
def tCons (ta : TE) (tr : TA) : TA := fun σ H Q => ta σ H fun x H1 => tr σ H1 fun xs H2 => Q (x :: xs) H2
section
variable {X : Cx} {e : Expr} {es : List Expr} {te : TE} {t : TA} {pos : Pos}
theorem pa_nil : PA X [] tNil := fun _ _ _ _ H Q I h => Calls.spliced_nil ⟨[], H, I, .nil, h⟩
theorem pa_cons (ha : PE X e te) (hr : PA X es t) (hs : starEach (e :: es) X.env = (false, eval e X.env) :: starEach es X.env := by rfl) : PA X (e :: es) (tCons te t) := by
  intro pos pins s σ H Q I h
  rw [hs]
  show wpAny _ _ (spliced ((false, eval e X.env) :: backTo pos (starEach es X.env))) _ _ s
  refine Calls.spliced_cons (thn (ha pins s σ H _ I h) fun u s1 ⟨x, H1, I1, r1, q1⟩ => ?_)
  exact thn (hr pos pins s1 σ H1 _ I1 q1) fun us s2 ⟨xs, H2, I2, r2, q2⟩ => ⟨x :: xs, H2, I2, .cons r1 r2, q2⟩
def tTup (t : TA) : TE := fun σ H Q => t σ H fun xs H1 => xs.length ≤ sizeLine ∧ ∀ p, H1 p = none → Q (.ref p) (upd H1 p (.tup xs))
def tLst (t : TA) : TE := fun σ H Q => t σ H fun xs H1 => xs.length ≤ sizeLine ∧ ∀ p, H1 p = none → Q (.ref p) (upd H1 p (.lst xs))
theorem pe_tup {x1} (h : PA X es t) : PE X (.Tuple es x1 pos) (tTup t) := by
  intro pins s σ H Q I hq
  refine wpAny_Tuple_spliced (thn (h pos pins s σ H _ I hq) fun us s1 ⟨xs, H1, I1, r, z, q⟩ => ⟨by rw [← r.length]; exact z, ?_⟩)
  have hf : H1 s1.heap.objs.size = none := I1.hok.fresh (Nat.le_refl _)
  refine ⟨.ref s1.heap.objs.size, upd H1 s1.heap.objs.size (.tup xs), I1.laid (t' := s1.toks) (fun b u e => Heap.get?_push_of_some _ e) (Nat.le_refl _) ?_, rfl, q _ hf⟩
  exact ⟨z, us, r, ⟨_, Heap.get?_push_size _ rfl, rfl, _, rfl⟩⟩
theorem pe_lst (h : PA X es t) : PE X (.List es pos) (tLst t) := by
  intro pins s σ H Q I hq
  refine wpAny_List_spliced (thn (h pos pins s σ H _ I hq) fun us s1 ⟨xs, H1, I1, r, z, q⟩ => ⟨by rw [← r.length]; exact z, ?_⟩)
  have hf : H1 s1.heap.objs.size = none := I1.hok.fresh (Nat.le_refl _)
  refine ⟨.ref s1.heap.objs.size, upd H1 s1.heap.objs.size (.lst xs), I1.laid (t' := s1.toks) (fun b u e => Heap.get?_push_of_some _ e) (Nat.le_refl _) ?_, rfl, q _ hf⟩
  exact ⟨z, us, 0, r, Heap.get?_push_size _ rfl⟩
end
abbrev Sp := List V → Hp → VK → XK → Prop
abbrev CXT := List Env → Hp → Shared → XK → Value → Shared → Prop
structure Env0 (P : Program) (w : World) (K : PySem.W.Frag) (mg : Str → Option Value) (base : Heap) (A : Around) (outer : List Env) (s : Shared) (H : Hp) : Prop where
  frames : A.frames = some outer
  mod : Mod K mg base
  bs : ∀ b o, base.get? b = some o → s.heap.get? b = some o ∧ H b = none
  bsz : base.objs.size ≤ s.heap.objs.size
  funs : s.heap.FunFrames base outer
  frf : ∀ b ∈ frs outer, H b = none
  hok : HOk P w H s.heap
  bare : AllBare s.gens
def CE (outer : List Env) (P : Program) (w : World) (H : Hp) (s : Shared) (Q : VK) (u : Value) (s' : Shared) : Prop :=
  ∃ v H', s'.os = s.os ∧ AllBare s'.gens ∧ Un (frs outer) [] H H' s.heap s'.heap ∧ HOk P w H' s'.heap ∧ RelV v u ∧ Q v H'
def CR (CX : CXT) (outer : List Env) (P : Program) (w : World) (H : Hp) (s : Shared) (Q : VK) (E : XK) (r : Result) (s' : Shared) : Prop :=
  match r with
  | .ok (.ret u) => CE outer P w H s Q u s'
  | .ok _ => False
  | .error e => CX outer H s E e s'
structure FnOk (P : Program) (w : World) (K : PySem.W.Frag) (mg : Str → Option Value) (base : Heap) (CX : CXT) (k : Nat) (f : Addr) (fd : FuncData) (ps : List Str) (sp : Sp) : Prop where
  len : ∀ vs H Q E, sp vs H Q E → vs.length = ps.length
  run : ∀ (A : Around) (outer : List Env) (s : Shared) (H : Hp) (args : Args) (us : List Value) (vs : List V) (Q : VK) (E : XK), Room k A → Env0 P w K mg base A outer s H → BindsTo s fd args (ps.zip us) → Vals vs us → sp vs H Q E →
    codeAny (model P w) A (.call (.ref f) args) (CR CX outer P w H s Q E) s
theorem Env0.make {P : Program} {w : World} {K : PySem.W.Frag} {mg : Str → Option Value} {base : Heap} {A : Around} {outer : List Env} {s : Shared} {H : Hp} (e : Env0 P w K mg base A outer s H) (C : Addr) (us : List Value) (kw : List (Str × Value)) :
    Env0 P w K mg base (A.under (.builtin "type.__call__" ⟨.ref C :: us, kw⟩)) outer s H := ⟨by first | exact e.frames | (simpa [Around.under, Code.envs, Code.isFrame, pushEnvs] using e.frames), e.mod, e.bs, e.bsz, e.funs, e.frf, e.hok, e.bare⟩
section
variable {X : Cx} {pins : List (Addr × Obj)} {σ : St} {H : Hp} {s s' : Shared}
theorem Inv.env0 (I : Inv X pins σ H s) : Env0 X.prog X.w X.K X.mg X.base X.A X.stack s H :=
  ⟨I.ok.frames, I.ok.mod, I.bs, Nat.le_trans I.ok.bsz I.sz, I.stack, I.stkFree, I.hok, I.bare⟩
theorem Inv.after {Q : VK} {u : Value} (I : Inv X pins σ H s) (h : CE X.stack X.prog X.w H s Q u s') : EP X pins σ Q u s' := by
  obtain ⟨v, H', os, bare, un, hok, r, q⟩ := h
  obtain ⟨hh, g, d, t, os'⟩ := s'
  obtain rfl : os' = s.os := os
  exact ⟨v, H', I.call (h' := hh) (g' := g) (d' := d) (t' := t) (ch := []) un hok bare (fun b z => absurd z (by simp)), r, q⟩
end
def tCall (sp : Sp) (dvs : List V) (E : XK) (t : TA) : TE := fun σ H Q => t σ H fun vs H1 => sp (vs ++ dvs) H1 Q E
def tMeth (C : Addr) (m : Str) (sp : Sp) (dvs : List V) (E : XK) (ta : TE) (t : TA) : TE := fun σ H Q => ta σ H fun x H1 => ∃ a dx fs, x = .ref a ∧ H1 a = some (.ins C dx fs) ∧ fs.lookup m = none ∧
  t σ H1 fun vs H2 => sp (x :: (vs ++ dvs)) H2 Q E
def tMake (C : Addr) (sp : Sp) (dvs : List V) (E : XK) (t : TA) : TE := fun σ H Q => t σ H fun vs H1 => ∀ x dx, H1 x = none → H1 dx = none → dx ≠ x →
  sp (.ref x :: (vs ++ dvs)) (upd (upd H1 dx (.own x)) x (.ins C dx [])) (fun v H2 => v = .non ∧ Q (.ref x) H2) E
def Binds (K : PySem.W.Frag) (fd : FuncData) (ps : List Str) (ds : List Value) : Prop :=
  ∀ (s : Shared) (us : List Value), K.In s.heap → (us ++ ds).length = ps.length → BindsTo s fd ⟨us, []⟩ (ps.zip (us ++ ds))
theorem Binds.all {K : PySem.W.Frag} {fd : FuncData} {ps : List Str} (h : ∀ us : List Value, us.length = ps.length → bindArgs fd ⟨us, []⟩ = pure (ps.zip us)) : Binds K fd ps [] := fun s us _ hl => by
  rw [List.append_nil] at hl ⊢
  exact .of_eq (h us hl)
def Passes (CX : CXT) (X : Cx) (E : XK) : Prop := ∀ (pins : List (Addr × Obj)) (σ : St) (H : Hp) (s : Shared) (e : Value) (s' : Shared), Inv X pins σ H s → CX X.stack H s E e s' → X.xe e s'
section
variable {X : Cx} {CX : CXT} {k : Nat} {f C : Addr} {fd : FuncData} {ps : List Str} {sp : Sp} {dvs : List V} {ds : List Value} {E : XK} {x m : Str} {p pos apos : Pos} {e o : Expr} {es : List Expr} {ta : TE} {t : TA}
theorem run_fn {pins : List (Addr × Obj)} {σ : St} {H : Hp} {s : Shared} {Q : VK} {us : List Value} {vs : List V} (F : FnOk X.prog X.w X.K X.mg X.base CX k f fd ps sp) (hr : Room k X.A) (hb : Binds X.K fd ps ds) (hd : Vals dvs ds) (hx : Passes CX X E)
    (I : Inv X pins σ H s) (r : Vals vs us) (h : sp (vs ++ dvs) H Q E) : wpAny (model X.prog X.w) X.A (call (.ref f) us) (EP X pins σ Q) X.xe s := by
  have r2 : Vals (vs ++ dvs) (us ++ ds) := r.append hd
  have hl : (us ++ ds).length = ps.length := by rw [← r2.length]; exact F.len _ _ _ _ h
  refine wpAny_call (codeAny_mono (F.run X.A X.stack s H ⟨us, []⟩ (us ++ ds) (vs ++ dvs) Q E hr I.env0 (hb s us I.kIn hl) r2 h) fun r s' hq => ?_)
  cases r with
  | error e => exact hx pins σ H s e s' I hq
  | ok fl =>
    cases fl with
    | ret u => exact I.after hq
    | next => exact False.elim hq
    | brk => exact False.elim hq
    | cont => exact False.elim hq
theorem pe_call (F : FnOk X.prog X.w X.K X.mg X.base CX k f fd ps sp) (hr : Room k X.A) (hg : Gl X x) (hm : X.mg x = some (.ref f)) (hk : PySem.W.keepIn X.K (.ref f) = true) (hb : Binds X.K fd ps ds) (hd : Vals dvs ds) (hx : Passes CX X E)
    (ha : PA X (e :: es) t) (hdb : (x == ("__debug__" : Str)) = false := by decide) (he : starEach (e :: es) X.env = (false, eval e X.env) :: starEach es X.env := by rfl) (hpl : (backTo pos (starEach es X.env)).any (·.1) = false := by rfl) :
    PE X (.Call (.Name x p) (e :: es) [] pos) (tCall sp dvs E t) := by
  intro pins s σ H Q I h
  refine wpAny_Call_Name_kw (ld_glob I hg hm ?_ hdb)
  refine PySem.W.callWith_K (h₀ := X.base) I.ok.mod.kin hk (thn (ha pos pins s σ H _ I h) fun us s1 ⟨vs, H1, I1, r, q⟩ => ⟨I1.kIn, ?_⟩) he hpl
  exact run_fn F hr hb hd hx I1 r q
structure Mk (K : PySem.W.Frag) (C f : Addr) : Prop where
  makes : PySem.W.makesIn K C = true
  init : PySem.W.findIn K (.ref C) "__init__" = some (some (.ref f))
  fn : PySem.W.isFn K (.ref f) = true
  kp : PySem.W.keepIn K (.ref C) = true
theorem run_make {pins : List (Addr × Obj)} {σ : St} {H : Hp} {s : Shared} {Q : VK} {us : List Value} {vs : List V} (M : Mk X.K C f) (F : FnOk X.prog X.w X.K X.mg X.base CX k f fd ps sp) (hr : Room (k + 1) X.A) (hb : Binds X.K fd ps ds) (hd : Vals dvs ds)
    (hx : Passes CX X E) (I : Inv X pins σ H s) (r : Vals vs us)
    (h : ∀ x dx, H x = none → H dx = none → dx ≠ x → sp (.ref x :: (vs ++ dvs)) (upd (upd H dx (.own x)) x (.ins C dx [])) (fun v H2 => v = .non ∧ Q (.ref x) H2) E) :
    wpAny (model X.prog X.w) X.A (call (.ref C) us) (EP X pins σ Q) X.xe s := by
  have hq := h (s.heap.objs.size + 1) s.heap.objs.size (I.hok.fresh (Nat.le_succ _)) (I.hok.fresh (Nat.le_refl _)) (Nat.ne_of_lt (Nat.lt_succ_self _))
  have I2 := Inv.made (C := C) I
  have r2 : Vals (V.ref (s.heap.objs.size + 1) :: (vs ++ dvs)) (Value.ref (s.heap.objs.size + 1) :: (us ++ ds)) := .cons rfl (r.append hd)
  have hl : (Value.ref (s.heap.objs.size + 1) :: us ++ ds).length = ps.length := by
    have e := r2.length
    rw [F.len _ _ _ _ hq] at e
    exact e.symm
  refine wpAny_call (make_map (f := f) I.kIn M.makes M.init (beq_iff_eq.mp M.fn) (codeAny_mono (F.run _ X.stack _ _ ⟨Value.ref (s.heap.objs.size + 1) :: us, []⟩ (Value.ref (s.heap.objs.size + 1) :: (us ++ ds)) _ _ E (hr.make C us [])
    (I2.env0.make C us []) (hb _ (Value.ref (s.heap.objs.size + 1) :: us) I2.kIn hl) r2 hq) fun r s' hq' => ?_))
  cases r with
  | error e => exact hx pins σ _ _ e s' I2 hq'
  | ok fl =>
    cases fl with
    | ret u =>
      obtain ⟨v, H', I3, rv, ev, q3⟩ := I2.after hq'
      subst ev
      exact ⟨rv, ⟨V.ref (s.heap.objs.size + 1), H', I3, rfl, q3⟩⟩
    | next => exact False.elim hq'
    | brk => exact False.elim hq'
    | cont => exact False.elim hq'
theorem pe_make (M : Mk X.K C f) (F : FnOk X.prog X.w X.K X.mg X.base CX k f fd ps sp) (hr : Room (k + 1) X.A) (hg : Gl X x) (hm : X.mg x = some (.ref C)) (hb : Binds X.K fd ps ds) (hd : Vals dvs ds) (hx : Passes CX X E)
    (ha : PA X (e :: es) t) (hdb : (x == ("__debug__" : Str)) = false := by decide) (he : starEach (e :: es) X.env = (false, eval e X.env) :: starEach es X.env := by rfl) (hpl : (backTo pos (starEach es X.env)).any (·.1) = false := by rfl) :
    PE X (.Call (.Name x p) (e :: es) [] pos) (tMake C sp dvs E t) := by
  intro pins s σ H Q I h
  refine wpAny_Call_Name_kw (ld_glob I hg hm ?_ hdb)
  refine PySem.W.callWith_K (h₀ := X.base) I.ok.mod.kin M.kp (thn (ha pos pins s σ H _ I h) fun us s1 ⟨vs, H1, I1, r, q⟩ => ⟨I1.kIn, ?_⟩) he hpl
  exact run_make M F hr hb hd hx I1 r q
end
def PK (X : Cx) (kws : List Keyword) (t : TA) : Prop :=
  ∀ (pos : Pos) (pins : List (Addr × Obj)) (s : Shared) (σ : St) (H : Hp) (Q : List V → Hp → Prop), Inv X pins σ H s → t σ H Q → wpAny (model X.prog X.w) X.A (evalAll ((backToKw pos (keywordEach kws X.env)).map (·.2))) (AP X pins σ Q) X.xe s
section
variable {X : Cx} {CX : CXT} {k : Nat} {f C : Addr} {fd : FuncData} {ps ks : List Str} {sp : Sp} {E : XK} {x m : Str} {p pos apos kpos : Pos} {e o : Expr} {es : List Expr} {kws : List Keyword} {te ta : TE} {t tk : TA} {nm : Option Str}
structure KBinds (K : PySem.W.Frag) (fd : FuncData) (ps ks : List Str) (g : List Value → List Value → List Value) (gV : List V → List V → List V) : Prop where
  to : ∀ (s : Shared) (us ws : List Value), K.In s.heap → (g us ws).length = ps.length → BindsTo s fd ⟨us, ks.zip ws⟩ (ps.zip (g us ws))
  rel : ∀ {vs : List V} {us : List Value} {zs : List V} {ws : List Value}, Vals vs us → Vals zs ws → Vals (gV vs zs) (g us ws)
def tCallK (sp : Sp) (gV : List V → List V → List V) (E : XK) (t tk : TA) : TE := fun σ H Q => t σ H fun vs H1 => tk σ H1 fun zs H2 => sp (gV vs zs) H2 Q E
variable {g : List Value → List Value → List Value} {gV : List V → List V → List V}
end
structure FnScope (N P : List Str) (sc : Scope) : Prop where
  kind : sc.kind = .function
  co : sc.isCoroutine = false
  gen : sc.isGenerator = false
  nd : N.Nodup
  pre : N.take P.length = P
  par : ∀ x ∈ P, sc.names.lookup x = some .local ∨ sc.names.lookup x = some .cell
  nofree : ∀ y ∈ sc.names, y.2 ≠ .free
theorem bindL_out {kindOf : Str → Option NameKind} {x : Str} : ∀ {binds : List (Str × Value)} {m : Str → Option Value}, (∀ v, (x, v) ∉ binds) → bindL kindOf binds m x = m x
  | [], _, _ => rfl
  | (n, v) :: r, m, h => by
    unfold bindL
    rw [bindL_out fun w hw => h w (List.mem_cons_of_mem _ hw)]
    split
    · have : x ≠ n := by rintro rfl; exact h v List.mem_cons_self
      simp [this]
    · rfl
theorem bindC_out {kindOf : Str → Option NameKind} {x : Str} : ∀ {binds : List (Str × Value)} {m : Str → Option Value}, (∀ v, (x, v) ∉ binds) → bindC kindOf binds m x = m x
  | [], _, _ => rfl
  | (n, v) :: r, m, h => by
    unfold bindC
    rw [bindC_out fun w hw => h w (List.mem_cons_of_mem _ hw)]
    split
    · rfl
    · have : x ≠ n := by rintro rfl; exact h v List.mem_cons_self
      simp [this]
theorem bindL_get {kindOf : Str → Option NameKind} {x : Str} {v : Value} : ∀ {P : List Str} {vs : List Value} {i : Nat} {m : Str → Option Value}, P.Nodup → P[i]? = some x → vs[i]? = some v → kindOf x = some .local →
    bindL kindOf (P.zip vs) m x = some v
  | [], _, _, _, _, h, _, _ => by simp at h
  | _ :: _, [], _, _, _, _, h, _ => by simp at h
  | p :: P, w :: vs, 0, m, nd, h1, h2, hk => by
    simp at h1 h2; subst h1; subst h2
    show bindL kindOf ((p, w) :: P.zip vs) m p = _
    unfold bindL
    rw [bindL_out fun v hv => (List.nodup_cons.mp nd).1 (List.of_mem_zip hv).1, if_pos hk]
    simp
  | p :: P, w :: vs, i + 1, m, nd, h1, h2, hk => by
    show bindL kindOf ((p, w) :: P.zip vs) m x = _
    unfold bindL
    exact bindL_get (i := i) (List.nodup_cons.mp nd).2 (by simpa using h1) (by simpa using h2) hk
theorem bindC_get {kindOf : Str → Option NameKind} {x : Str} {v : Value} : ∀ {P : List Str} {vs : List Value} {i : Nat} {m : Str → Option Value}, P.Nodup → P[i]? = some x → vs[i]? = some v → kindOf x ≠ some .local →
    bindC kindOf (P.zip vs) m x = some v
  | [], _, _, _, _, h, _, _ => by simp at h
  | _ :: _, [], _, _, _, _, h, _ => by simp at h
  | p :: P, w :: vs, 0, m, nd, h1, h2, hk => by
    simp at h1 h2; subst h1; subst h2
    show bindC kindOf ((p, w) :: P.zip vs) m p = _
    unfold bindC
    rw [bindC_out fun v hv => (List.nodup_cons.mp nd).1 (List.of_mem_zip hv).1, if_neg hk]
    simp
  | p :: P, w :: vs, i + 1, m, nd, h1, h2, hk => by
    show bindC kindOf ((p, w) :: P.zip vs) m x = _
    unfold bindC
    exact bindC_get (i := i) (List.nodup_cons.mp nd).2 (by simpa using h1) (by simpa using h2) hk
def start (N : List Str) (vs : List V) : St := vs.map some ++ List.replicate (N.length - vs.length) none
def cxOf (CX : CXT) (P : Program) (w : World) (K : PySem.W.Frag) (mg : Str → Option Value) (base : Heap) (N : List Str) (qual : Str) (scope : Scope) (f : Addr) (cd : Value) (A : Around) (outer : List Env) (s : Shared) (H : Hp) (E : XK) : Cx where
  prog := P
  w := w
  K := K
  mg := mg
  base := base
  A := A.deeper (envOfC qual scope s.heap.objs.size f cd)
  N := N
  s₀ := s
  H₀ := H
  env := envOfC qual scope s.heap.objs.size f cd
  outer := outer
  stack := envOfC qual scope s.heap.objs.size f cd :: outer
  ex := []
  calm := true
  fn := fun _ => true
  pn := []
  xe := fun e s' => wpAny (model P w) (A.deeper (envOfC qual scope s.heap.objs.size f cd)) (leaving (envOfC qual scope s.heap.objs.size f cd) e) (fun _ s'' => CX outer H s E e s'') (fun e' s'' => CX outer H s E e' s'') s'
theorem cell_has {sc : Scope} {n : Nat} {x : Str} (h : sc.names.lookup x = some .cell) : ∃ c, (cellsFrom n sc.names []).lookup x = some c := by
  have q := PySem.W.cellsFrom_some sc.names n [] (.inl h)
  exact Option.isSome_iff_exists.mp q
theorem inv_start {CX : CXT} {P : Program} {w : World} {K : PySem.W.Frag} {mg : Str → Option Value} {base : Heap} {N ps : List Str} {qual : Str} {scope : Scope} {f : Addr} {cd : Value} {A : Around} {outer : List Env} {s s1 : Shared} {H : Hp} {E : XK} {us : List Value} {vs : List V}
    (S : FnScope N ps scope) (hd : A.handled = none) (e0 : Env0 P w K mg base A outer s H) (hl : vs.length = ps.length) (r : Vals vs us)
    (x : InCallC s s.heap.objs.size (bindL (envOfC qual scope s.heap.objs.size f cd).kindOf (ps.zip us) fun _ => none) (cellsFrom (s.heap.objs.size + 1) scope.names []) (bindC (envOfC qual scope s.heap.objs.size f cd).kindOf (ps.zip us) fun _ => none) s1) :
    Inv (cxOf CX P w K mg base N qual scope f cd A outer s H E) [] (start N vs) H s1 := by
  have hpl : ps.length ≤ N.length := by have := congrArg List.length S.pre; rw [List.length_take] at this; omega
  obtain ⟨h1, tk, rfl, hk⟩ := x.done
  have noA : ∀ b : Addr, b ∉ (cxOf CX P w K mg base N qual scope f cd A outer s H E).ex := fun b z => absurd (show b ∈ ([] : List Addr) from z) (by simp)
  refine ⟨⟨e0.mod, S.kind, rfl, rfl, Nat.le_refl _, fun y z c h1 h2 => ?_, fun y hy => ?_, fun y c _ h => ?_, fun _ => hd, Around.frames_deeper e0.frames, .inr ⟨rfl, rfl⟩, fun b z => absurd z (noA b), e0.bs, e0.bsz, fun b _ _ => noA b, fun b z => absurd z (noA b), e0.funs, e0.frf⟩,
    rfl, e0.bare, Un.kept hk, ⟨_, x.toInCall.ns, fun i y v h1 h2 h3 => ?_⟩, fun y c h => ⟨_, x.cell y c h⟩, e0.hok.fresh (Nat.le_refl _), fun y c h => ?_, fun p hp => absurd (show p ∈ ([] : List (Addr × Obj)) from hp) (by simp), e0.hok.kept hk, ?_⟩
  · exact name_of_addr x.apart (PySem.mem_of_lookup h1) (PySem.mem_of_lookup h2)
  · have hy : scope.names.lookup y = some .cell ∨ scope.names.lookup y = some .free := hy
    rcases hy with hy | hy
    · exact cell_has hy
    · exact absurd rfl (S.nofree _ (PySem.mem_of_lookup hy))
  · exact Nat.le_of_lt (x.above y c (PySem.mem_of_lookup h))
  · have hi : i < vs.length := by
      unfold start at h2
      by_cases hi : i < vs.length
      · exact hi
      · rw [List.getElem?_append_right (by simpa using hi)] at h2
        rw [List.getElem?_replicate] at h2
        split at h2 <;> cases h2
    have ha : vs[i]? = some v := by
      unfold start at h2
      rw [List.getElem?_append_left (by simpa using hi), List.getElem?_map] at h2
      cases e : vs[i]? with
      | none => rw [e] at h2; cases h2
      | some a => rw [e] at h2; cases h2; rfl
    obtain ⟨u, hu, rv⟩ := r.get ha
    have hp : ps[i]? = some y := by
      rw [← S.pre, List.getElem?_take_of_lt (by omega)]; exact h1
    have ndP : ps.Nodup := by rw [← S.pre]; exact S.nd.sublist (List.take_sublist _ _)
    refine ⟨u, rv, ?_⟩
    rcases S.par y (List.mem_of_getElem? hp) with k | k
    · exact .inl ⟨k, bindL_get ndP hp hu k⟩
    · obtain ⟨c, e⟩ := cell_has (n := s.heap.objs.size + 1) k
      refine .inr ⟨.inl k, c, e, ?_⟩
      have q := x.cell y c e
      rw [bindC_get ndP hp hu (by show scope.names.lookup y ≠ _; rw [k]; decide)] at q
      exact q
  · exact e0.hok.fresh (Nat.le_of_lt (x.above y c (PySem.mem_of_lookup h)))
  · unfold start
    show _ = N.length
    rw [List.length_append, List.length_map, List.length_replicate]
    omega
theorem fn_of {CX : CXT} {P : Program} {w : World} {K : PySem.W.Frag} {mg : Str → Option Value} {base : Heap} {k : Nat} {f : Addr} {name qual : Str} {params : Arguments} {body : List Stmt} {scope : Scope} {dV kV doc pm cdv ct oc : Value} {an od : Option Addr}
    {osl : Array (Option Value)} {N ps : List Str} {sp : Sp} (lk : K.lookup f = some ⟨oc, od, .func (PySem.W.fnOf name qual params body scope dV kV doc pm an cdv ct), osl⟩) (hcd : PySem.W.codeIn K cdv qual = true) (S : FnScope N ps scope)
    (len : ∀ vs H Q E, sp vs H Q E → vs.length = ps.length)
    (hbody : ∀ (A : Around) (outer : List Env) (s : Shared) (H : Hp) (vs : List V) (Q : VK) (E : XK), Room k (A.deeper (envOfC qual scope s.heap.objs.size f cdv)) → sp vs H Q E →
      ∃ t, PSs (cxOf CX P w K mg base N qual scope f cdv A outer s H E) body t ∧ t { nx := fun _ H' => Q .non H', rt := Q } (start N vs) H) :
    FnOk P w K mg base CX (k + 1) f (PySem.W.fnOf name qual params body scope dV kV doc pm an cdv ct) ps sp := by
  refine ⟨len, fun A outer s H args us vs Q E hr e0 hb r hsp => ?_⟩
  have hl := len _ _ _ _ hsp
  have KX : K.In s.heap := e0.mod.kin.keeps fun b o e => (e0.bs b o e).1
  have lim : s.heap.NoLimit := e0.mod.nolimit.keeps fun b o e => (e0.bs b o e).1
  have hkind : ∀ y ∈ ps.zip us, scope.names.lookup y.1 = some .local ∨ (scope.names.lookup y.1 = some .cell ∧ ((cellsFrom (s.heap.objs.size + 1) scope.names []).lookup y.1).isSome = true) := fun ⟨n, v⟩ hy => by
    rcases S.par n (List.of_mem_zip hy).1 with q | q
    · exact .inl q
    · exact .inr ⟨q, PySem.W.cellsFrom_some _ _ _ (.inl q)⟩
  refine codeAny_call_function hr.depth (KX _ _ lk) rfl S.co S.gen rfl (PySem.W.codeRec_of KX hcd) (hb _ _ _ _ ?_)
  refine wpAny_newFunctionEnv_cells S.kind hkind fun env he s1 x => ?_
  subst he
  refine ⟨lim.keeps x.toInCall.keep, codeAny_func ?_⟩
  obtain ⟨t, ht, hq⟩ := hbody A outer s H vs Q E (hr.deeper _) hsp
  have I : Inv (cxOf CX P w K mg base N qual scope f cdv A outer s H E) [] (start N vs) H s1 := inv_start S hr.hd e0 hl r x
  refine wpAny_mono (ht [] s1 (start N vs) H _ I hq) (fun fl s' hs => ?_) fun e s' hs => hs
  have fin : ∀ {σ' : St} {H' : Hp} {v : V} {u : Value}, Inv (cxOf CX P w K mg base N qual scope f cdv A outer s H E) [] σ' H' s' → RelV v u → Q v H' → CE outer P w H s Q u s' :=
    fun {σ' H' v u} J rv q => ⟨v, H', J.os, J.bare, J.base, J.hok, rv, q⟩
  cases fl with
  | ret u =>
    obtain ⟨v, σ', H', J, rv, q⟩ := hs
    exact fin J rv q
  | next =>
    obtain ⟨σ', H', J, q⟩ := hs
    exact fin (v := V.non) (u := Value.none) J rfl q
  | brk =>
    obtain ⟨_, _, _, q⟩ := hs
    exact False.elim q
  | cont =>
    obtain ⟨_, _, _, q⟩ := hs
    exact False.elim q
end L2
namespace L2
open PySem PySem.Spec PyProof.Rows
section
variable {X : Cx} {x : Str} {p pos : Pos} {e : Expr} {es : List Expr} {t : TA} {id T : String} {r : List V → Hp → VK → Prop}
def tCB (r : List V → Hp → VK → Prop) (t : TA) : TE := fun σ H Q => t σ H fun vs H1 => r vs H1 Q
theorem pe_callB (hc : CallR X (.builtin id) r) (hg : Gl X x) (hm : X.mg x = none) (hv : bootBuiltins x = some (.builtin id)) (ha : PA X (e :: es) t) (hn : x ≠ "__name__" := by decide) (hdb : (x == ("__debug__" : Str)) = false := by decide)
    (he : starEach (e :: es) X.env = (false, eval e X.env) :: starEach es X.env := by rfl) (hpl : (backTo pos (starEach es X.env)).any (·.1) = false := by rfl) : PE X (.Call (.Name x p) (e :: es) [] pos) (tCB r t) := by
  intro pins s σ H Q I h
  refine wpAny_Call_Name_kw (ld_blt I hg hm hv ?_ hn hdb)
  exact PyProof.Rows.callWith_builtin1 (thn (ha pos pins s σ H _ I h) fun us s1 ⟨vs, H1, I1, r1, q1⟩ => hc pins s1 σ H1 vs us Q I1 r1 q1) he hpl
theorem pe_callTy (hc : CallR X (.type T) r) (hg : Gl X x) (hm : X.mg x = none) (hv : bootBuiltins x = some (.type T)) (ha : PA X (e :: es) t) (hn : x ≠ "__name__" := by decide) (hdb : (x == ("__debug__" : Str)) = false := by decide)
    (he : starEach (e :: es) X.env = (false, eval e X.env) :: starEach es X.env := by rfl) (hpl : (backTo pos (starEach es X.env)).any (·.1) = false := by rfl) : PE X (.Call (.Name x p) (e :: es) [] pos) (tCB r t) := by
  intro pins s σ H Q I h
  refine wpAny_Call_Name_kw (ld_blt I hg hm hv ?_ hn hdb)
  exact PyProof.Rows.callWith_type1 (thn (ha pos pins s σ H _ I h) fun us s1 ⟨vs, H1, I1, r1, q1⟩ => hc pins s1 σ H1 vs us Q I1 r1 q1) he hpl
end
end L2
namespace HT
open PySem PyProof.Rows
def lexLt : List Int → List Int → Bool
  | [], [] => false
  | [], _ :: _ => true
  | _ :: _, [] => false
  | x :: xs, y :: ys => if x = y then lexLt xs ys else decide (x < y)
section
open PySem.SeqAt
open PySem.AutoSeq1 (wpAny_loadPart')
open PySem.MeetsSeq PySem.MeetsSeq2 PySem.MeetsSeq3
end
section
variable {prog : Program} {w : World} {A : Around} {E : Value → Shared → Prop} {s : Shared}
def sIx (n d : Nat) : Option Int → Nat
  | none => d
  | some v => if v < 0 then (v + (n : Int)).toNat else min v.toNat n
end
end HT
namespace L2
open PySem PySem.Spec PyProof.Rows
abbrev TO := St → Hp → (Option Int → Hp → Prop) → Prop
def PO (X : Cx) (e : Option Expr) (t : TO) : Prop :=
  ∀ (pins : List (Addr × Obj)) (s : Shared) (σ : St) (H : Hp) (Q : Option Int → Hp → Prop), Inv X pins σ H s → t σ H Q →
    wpAny (model X.prog X.w) X.A (evalPart e X.env) (fun u s' => ∃ o H', Inv X pins σ H' s' ∧ IsPart u o ∧ Q o H') X.xe s
def tNoPart : TO := fun _ H Q => Q none H
def tPart (t : TE) : TO := fun σ H Q => t σ H fun x H1 => ∃ i, x = .int i ∧ Q (some i) H1
theorem intsAre_of {ns : List Int} : ∀ {us : List Value}, Vals (ns.map V.int) us → IntsAre us ns := by
  induction ns with
  | nil => intro us r; rw [List.map_nil] at r; cases r; exact .nil
  | cons n ns ih =>
    intro us r
    rw [List.map_cons] at r
    cases r with
    | cons r1 r2 =>
      obtain ⟨t, e⟩ := r1
      subst e
      exact .cons n t (ih r2)
section
variable {X : Cx} {e : Expr} {te : TE} {lo hi : Option Expr} {tl th : TO} {pos p2 : Pos}
def SlR (X : Cx) (r : V → Option Int → Option Int → Hp → VK → Prop) : Prop :=
  ∀ (pins : List (Addr × Obj)) (s : Shared) (σ : St) (H : Hp) (x : V) (v vl vu : Value) (lo hi : Option Int) (sl : Addr) (Q : VK), Inv X pins σ H s → RelV x v → s.heap.IsSliceOf sl vl vu .none → IsPart vl lo → IsPart vu hi → r x lo hi H Q →
    ∃ T id, typeLookup (.type T) "__getitem__" = pure (some (.builtin id)) ∧ s.TypeIs v T ∧ wpAny (model X.prog X.w) X.A (getItem v (.ref sl)) (EP X pins σ Q) X.xe s
def tSl (r : V → Option Int → Option Int → Hp → VK → Prop) (te : TE) (tl th : TO) : TE := fun σ H Q => te σ H fun x H1 => tl σ H1 fun l H2 => th σ H2 fun u H3 => r x l u H3 Q
def cutV (xs : List V) (lo hi : Option Int) : List V := (xs.drop (HT.sIx xs.length 0 lo)).take (HT.sIx xs.length xs.length hi - HT.sIx xs.length 0 lo)
def rSlT (K : PySem.W.Frag) : V → Option Int → Option Int → Hp → VK → Prop := fun x lo hi H Q => ∃ a xs, x = .ref a ∧ SqT K H a xs ∧
  ¬ (HT.sIx xs.length 0 lo = 0 ∧ HT.sIx xs.length xs.length hi = xs.length) ∧ ∀ p, H p = none → Q (.ref p) (upd H p (.tup (cutV xs lo hi)))
def rLtT (K : PySem.W.Frag) : R2 := fun x y H Q => ∃ a b ns ms, x = .ref a ∧ y = .ref b ∧ SqT K H a (ns.map V.int) ∧ SqT K H b (ms.map V.int) ∧ Q (.bl (HT.lexLt ns ms)) H
def rCatT (K : PySem.W.Frag) : R2 := fun x y H Q => ∃ a b xs ys, x = .ref a ∧ y = .ref b ∧ SqT K H a xs ∧ SqT K H b ys ∧ xs ≠ [] ∧ xs.length + ys.length ≤ sizeLine ∧
  (ys = [] → Q (.ref a) H) ∧ (ys ≠ [] → ∀ p, H p = none → Q (.ref p) (upd H p (.tup (xs ++ ys))))
end
end L2
namespace L2
open PySem PySem.Spec PyProof.Rows
def ixN (n : Nat) (i : Int) : Option Nat := if 0 ≤ i then (if i < n then some i.toNat else none) else if -(n : Int) ≤ i then some (i + n).toNat else none
def atI {α : Type} (xs : List α) (i : Int) : Option α := (ixN xs.length i).bind fun j => xs[j]?
theorem ixN_seq {n : Nat} {i : Int} {j : Nat} (h : ixN n i = some j) : seqIndex? i n = some j ∧ j < n ∧ -(n : Int) ≤ i ∧ i < n := by
  unfold ixN at h
  by_cases h0 : 0 ≤ i
  · rw [if_pos h0] at h
    by_cases h1 : i < n
    · rw [if_pos h1] at h
      have e : i.toNat = j := Option.some.inj h
      exact ⟨by rw [seqIndex_of h0 h1, e], by omega, by omega, h1⟩
    · rw [if_neg h1] at h; cases h
  · rw [if_neg h0] at h
    by_cases h1 : -(n : Int) ≤ i
    · rw [if_pos h1] at h
      have e : (i + n).toNat = j := Option.some.inj h
      exact ⟨by rw [seqIndex_neg (by omega) h1, e], by omega, h1, by omega⟩
    · rw [if_neg h1] at h; cases h
theorem atI_get {α : Type} {xs : List α} {i : Int} {v : α} (h : atI xs i = some v) : ∃ j, seqIndex? i xs.length = some j ∧ xs[j]? = some v ∧ j < xs.length ∧ -(xs.length : Int) ≤ i ∧ i < xs.length := by
  unfold atI at h
  cases e : ixN xs.length i with
  | none => rw [e] at h; cases h
  | some j =>
    rw [e] at h
    obtain ⟨h1, h2, h3, h4⟩ := ixN_seq e
    exact ⟨j, h1, h, h2, h3, h4⟩
theorem atI_nat {α : Type} {xs : List α} {j : Nat} {v : α} (h : xs[j]? = some v) : atI xs (j : Int) = some v := by
  have hj : j < xs.length := (List.getElem?_eq_some_iff.mp h).1
  have e : ixN xs.length (j : Int) = some j := by
    unfold ixN
    rw [if_pos (by omega), if_pos (by omega)]; simp
  unfold atI; rw [e]; exact h
def PlainIx (b : Expr) : Prop := ∀ o i, subscripted b false o i = operate [o, i] (getItem o i)
def IxR (X : Cx) (r : R2) : Prop :=
  ∀ (value slice : Expr) (pins : List (Addr × Obj)) (s : Shared) (σ : St) (H : Hp) (x y : V) (v u : Value) (Q : VK), Inv X pins σ H s → RelV x v → RelV y u → r x y H Q →
    subscripted slice false v u = operate [v, u] (getItem v u) → wpAny (model X.prog X.w) X.A (subscriptTail value slice v u) (EP X pins σ Q) X.xe s
def MtR (X : Cx) (id : String) (r : V → List V → Hp → VK → Prop) : Prop :=
  ∀ (pins : List (Addr × Obj)) (s : Shared) (σ : St) (H : Hp) (x : V) (xs : List V) (v : Value) (us : List Value) (Q : VK), Inv X pins σ H s → RelV x v → Vals xs us → r x xs H Q →
    wpAny (model X.prog X.w) X.A (call (.builtin id) (v :: us)) (EP X pins σ Q) X.xe s
section
variable {X : Cx} {a b : Expr} {ta tb : TE} {pos : Pos}
theorem pe_ix {r : R2} (hr : IxR X r) (ha : PE X a ta) (hb : PE X b tb) (hs : PlainIx b) : PE X (.Subscript a b pos) (tOp r ta tb) := by
  intro pins s σ H Q I h
  exact Subscript_ (binT ha hb I h fun v u s2 x y H2 I2 rx ry q => hr a b pins s2 σ H2 x y v u Q I2 rx ry q (hs _ _))
def rIxL (K : PySem.W.Frag) : R2 := fun x y H Q => ∃ p xs i v, x = .ref p ∧ y = .int i ∧ SqL K H p xs ∧ atI xs i = some v ∧ Q v H
def rIxT (K : PySem.W.Frag) : R2 := fun x y H Q => ∃ p xs i v, x = .ref p ∧ y = .int i ∧ SqT K H p xs ∧ atI xs i = some v ∧ Q v H
def rIxS : R2 := fun x y H Q => ∃ z i c, x = .str z ∧ y = .int i ∧ z.length ≤ sizeLine ∧ atI z.cps.toList i = some c ∧ Q (.str ⟨#[c]⟩) H
theorem ix_list : IxR X (rIxL X.K) := by
  intro value slice pins s σ H x y v u Q I rx ry h hs
  obtain ⟨p, xs, i, z, rfl, rfl, hq, he, q⟩ := h
  cases rx
  obtain ⟨t, rfl⟩ := ry
  obtain ⟨its, r, pl, hz⟩ := I.list hq
  obtain ⟨j, h1, h2, h3, h4, h5⟩ := atI_get he
  obtain ⟨w, ew, rw'⟩ := r.get h2
  have hl := r.length
  have hn := line63
  have fin : EP X pins σ Q w s := ⟨z, H, I, rw', q⟩
  by_cases h0 : 0 ≤ i
  · have hj : i.toNat = j := by
      rw [seqIndex_of h0 h5] at h1
      exact Option.some.inj h1
    exact item_listR pl.isList h0 (by omega) (by rw [hj]; simpa using ew) fin hs
  · have hj : (i + (its.toArray.size : Int)).toNat = j := by
      rw [seqIndex_neg (by omega) h4] at h1
      rw [List.size_toArray, ← hl]
      exact Option.some.inj h1
    exact subscriptTail_builtinR (x := w) pl.isList.typeIs slot_list_getitem.lookup
      (wpAny_getItem_list_neg (Q := fun r s' => r = w ∧ EP X pins σ Q r s') pl.isList (by omega) (by rw [List.size_toArray] <;> omega) (by omega) (by rw [hj]; simpa using ew) ⟨rfl, fin⟩) hs
theorem ix_tup : IxR X (rIxT X.K) := by
  intro value slice pins s σ H x y v u Q I rx ry h hs
  obtain ⟨p, xs, i, z, rfl, rfl, hq, he, q⟩ := h
  cases rx
  obtain ⟨t, rfl⟩ := ry
  obtain ⟨its, r, pl, hz⟩ := I.tuple hq
  obtain ⟨j, h1, h2, h3, h4, h5⟩ := atI_get he
  obtain ⟨w, ew, rw'⟩ := r.get h2
  have hl := r.length
  have hn := line63
  have fin : EP X pins σ Q w s := ⟨z, H, I, rw', q⟩
  exact subscriptTail_builtinR (x := w) pl.typeIs slot_tuple_getitem.lookup
    (getItem_tuple (j := j) (Q := fun r s' => r = w ∧ EP X pins σ Q r s') pl (by omega) (by omega) (by rw [List.size_toArray, ← hl]; exact h1) (by simpa using ew) ⟨rfl, fin⟩) hs
theorem ix_str : IxR X rIxS := by
  intro value slice pins s σ H x y v u Q I rx ry h hs
  obtain ⟨z, i, c, rfl, rfl, hz, he, q⟩ := h
  obtain ⟨t, rfl⟩ := rx
  obtain ⟨t', rfl⟩ := ry
  obtain ⟨j, h1, h2, h3, h4, h5⟩ := atI_get he
  have hl : z.cps.toList.length = z.length := by simp [Str.length]
  rw [hl] at h1 h4 h5
  have hn := line63
  exact tail_any (typeIs_str s z t) slot_str_getitem.lookup (getItem_str (c := c) (by
    have e1 : decide (i < -(2 ^ 63 : Int)) = false := decide_eq_false (by omega)
    have e2 : decide (i ≥ 2 ^ 63) = false := decide_eq_false (by omega)
    rw [e1, e2, Bool.or_false]) (by rw [h1]; simpa using h2) ⟨.str ⟨#[c]⟩, H, I.tok _, ⟨_, rfl⟩, q⟩) hs
def rIx (K : PySem.W.Frag) : R2 := fun x y H Q => rIxL K x y H Q ∨ rIxT K x y H Q ∨ rIxS x y H Q
theorem mapSeq_set (its : List Value) (n j : Nat) (u : Value) : Obj.mapSeq (·.setIfInBounds j u) { cls := .type "list", data := .seq its.toArray n } = { cls := .type "list", data := .seq (its.set j u).toArray n } := by
  simp [Obj.mapSeq]
theorem Inv.lst {pins : List (Addr × Obj)} {σ : St} {H : Hp} {s : Shared} {p : Addr} {xs : List V} (I : Inv X pins σ H s) (h : H p = some (.lst xs)) :
    ∃ (its : List Value) (n : Nat), Vals xs its ∧ s.heap.get? p = some { cls := .type "list", data := .seq its.toArray n } ∧ xs.length ≤ sizeLine := by
  obtain ⟨z, its, n, r, e⟩ := I.hok p _ h
  exact ⟨its, n, r, e, z⟩
theorem Inv.lstUpd {pins : List (Addr × Obj)} {σ : St} {H : Hp} {s : Shared} {p : Addr} {xs ys : List V} {its its' : List Value} {n n' : Nat} {f : Obj → Obj} (I : Inv X pins σ H s) (h : H p = some (.lst xs))
    (ho : s.heap.get? p = some { cls := .type "list", data := .seq its.toArray n }) (hf : f { cls := .type "list", data := .seq its.toArray n } = { cls := .type "list", data := .seq its'.toArray n' }) (r : Vals ys its') (hz : ys.length ≤ sizeLine) (t : Nat) :
    Inv X pins σ (upd H p (.lst ys)) { s with heap := s.heap.update p f, toks := t } := by
  have e : (s.heap.update p f).get? p = some { cls := .type "list", data := .seq its'.toArray n' } := by
    rw [Heap.get?_update_self f ho (by rw [hf] <;> rfl), hf]
  refine I.write (x := p) (e := p) (by rw [h]; trivial) (.inl rfl) (fun b u hb q => (Heap.get?_update_other _ _ (Ne.symm hb)).trans q) ⟨_, e⟩ ?_
  exact ⟨hz, its', n', r, e⟩
def rSetL : V → V → V → Hp → (Hp → Prop) → Prop := fun o i v H Q => ∃ p xs k j, o = .ref p ∧ i = .int k ∧ H p = some (.lst xs) ∧ ixN xs.length k = some j ∧ Q (upd H p (.lst (xs.set j v)))
theorem set_list : PSet X rSetL := by
  intro pins s σ H o i v ov iv u Q I ro ri rv h
  obtain ⟨p, xs, k, j, rfl, rfl, hp, hj, q⟩ := h
  cases ro
  obtain ⟨t, rfl⟩ := ri
  obtain ⟨its, n, r, ho, hz⟩ := I.lst hp
  obtain ⟨h1, h2, h3, h4⟩ := ixN_seq hj
  have hl := r.length
  have hn := line63
  have I' : Inv X pins σ (upd H p (.lst (xs.set j v))) { s with heap := s.heap.update p (Obj.mapSeq (·.setIfInBounds j u)) } :=
    I.lstUpd hp ho (mapSeq_set its n j u) (r.set rv j) (by rw [List.length_set]; exact hz) s.toks
  by_cases h0 : 0 ≤ k
  · have hk : k.toNat = j := by
      rw [seqIndex_of h0 h4] at h1
      exact Option.some.inj h1
    exact PySem.W.ki_setAt ho h0 (by omega) (by rw [List.size_toArray, ← hl]; exact h4) (by rw [hk]; exact ⟨_, I', q⟩)
  · have hk : (k + (its.toArray.size : Int)).toNat = j := by
      rw [seqIndex_neg (by omega) h3] at h1
      rw [List.size_toArray, ← hl]
      exact Option.some.inj h1
    exact PySem.W.ki_setBack ho (by omega) (by rw [List.size_toArray, ← hl]; exact h3) (by omega) (by rw [hk]; exact ⟨_, I', q⟩)
def rSlL (K : PySem.W.Frag) : V → Option Int → Option Int → Hp → VK → Prop := fun x lo hi H Q => ∃ a xs, x = .ref a ∧ SqL K H a xs ∧ ∀ p, H p = none → Q (.ref p) (upd H p (.lst (cutV xs lo hi)))
def flatV : V → Bool
  | .non => true
  | .bl _ => true
  | .int _ => true
  | .str _ => true
  | _ => false
def eqV : V → V → Bool
  | .non, .non => true
  | .bl a, .bl b => a == b
  | .bl a, .int b => (if a then 1 else 0) == b
  | .int a, .bl b => a == (if b then 1 else 0)
  | .int a, .int b => a == b
  | .str a, .str b => a == b
  | _, _ => false
theorem eqAt_V {A : Around} {s : Shared} {y x : V} {u v : Value} (ry : RelV y u) (rx : RelV x v) (fy : flatV y = true) (fx : flatV x = true) : SeqAt.EqAt A s u v (eqV y x) := by
  cases y with
  | non =>
    cases ry
    cases x with
    | non => cases rx; exact SeqAt.EqAt.same _
    | bl b => cases rx; exact SeqAt.EqAt.none_bool b
    | int b => obtain ⟨t, rfl⟩ := rx; exact SeqAt.EqAt.none_int b t
    | str b => obtain ⟨t, rfl⟩ := rx; exact SeqAt.EqAt.none_str b t
    | _ => exact absurd (show false = true from fx) Bool.false_ne_true
  | bl a =>
    cases ry
    cases x with
    | non => cases rx; exact SeqAt.EqAt.bool_none a
    | bl b => cases rx; exact SeqAt.EqAt.bool_bool a b
    | int b => obtain ⟨t, rfl⟩ := rx; exact SeqAt.EqAt.bool_int a b t
    | str b => obtain ⟨t, rfl⟩ := rx; exact SeqAt.EqAt.bool_str a b t
    | _ => exact absurd (show false = true from fx) Bool.false_ne_true
  | int a =>
    obtain ⟨t', rfl⟩ := ry
    cases x with
    | non => cases rx; exact SeqAt.EqAt.int_none a t'
    | bl b => cases rx; exact SeqAt.EqAt.int_bool a t' b
    | int b => obtain ⟨t, rfl⟩ := rx; exact SeqAt.EqAt.int_int a t' b t
    | str b => obtain ⟨t, rfl⟩ := rx; exact SeqAt.EqAt.int_str a t' b t
    | _ => exact absurd (show false = true from fx) Bool.false_ne_true
  | str a =>
    obtain ⟨t', rfl⟩ := ry
    cases x with
    | non => cases rx; exact SeqAt.EqAt.str_none a t'
    | bl b => cases rx; exact SeqAt.EqAt.str_bool a t' b
    | int b => obtain ⟨t, rfl⟩ := rx; exact SeqAt.EqAt.str_int a t' b t
    | str b => obtain ⟨t, rfl⟩ := rx; exact SeqAt.EqAt.str_str a t' b t
    | _ => exact absurd (show false = true from fx) Bool.false_ne_true
  | _ => exact absurd (show false = true from fy) Bool.false_ne_true
def eqU (x : V) (u : Value) : Bool := match u with
  | .none => eqV .non x
  | .bool b => eqV (.bl b) x
  | .int i _ => eqV (.int i) x
  | .str z _ => eqV (.str z) x
  | _ => false
theorem eqU_of {x y : V} {u : Value} (r : RelV y u) (f : flatV y = true) : eqU x u = eqV y x := by
  cases y with
  | non => cases r; rfl
  | bl b => cases r; rfl
  | int i => obtain ⟨t, rfl⟩ := r; rfl
  | str z => obtain ⟨t, rfl⟩ := r; rfl
  | _ => exact absurd (show false = true from f) Bool.false_ne_true
theorem any_eqU {x : V} : ∀ {xs : List V} {us : List Value}, Vals xs us → xs.all flatV = true → us.any (eqU x) = xs.any fun y => eqV y x
  | _, _, .nil, _ => rfl
  | y :: xs, u :: us, .cons r t, f => by
    rw [List.all_cons, Bool.and_eq_true] at f
    rw [List.any_cons, List.any_cons, eqU_of r f.1, any_eqU t f.2]
theorem mem_eqAt {A : Around} {s : Shared} {x : V} {v : Value} (rx : RelV x v) (fx : flatV x = true) : ∀ {xs : List V} {us : List Value}, Vals xs us → xs.all flatV = true → ∀ u ∈ us, SeqAt.EqAt A s u v (eqU x u)
  | _, _, .nil, _ => fun u hu => by cases hu
  | y :: xs, u :: us, .cons r t, f => fun u' hu => by
    rw [List.all_cons, Bool.and_eq_true] at f
    rcases List.mem_cons.mp hu with rfl | hu
    · rw [eqU_of r f.1]; exact eqAt_V r rx f.1 fx
    · exact mem_eqAt rx fx t f.2 u' hu
def inV (x : V) (xs : List V) : Bool := xs.any fun y => eqV y x
def rIn (K : PySem.W.Frag) (neg : Bool) : R2 := fun x y H Q => ∃ p xs, y = .ref p ∧ (SqL K H p xs ∨ SqT K H p xs) ∧ flatV x = true ∧ xs.all flatV = true ∧ Q (.bl (if neg then !inV x xs else inV x xs)) H
theorem op_notIn_seq : OpR X (compareOp .NotIn) (rIn X.K true) := by
  intro pins s σ H x y v u Q I rx ry h
  obtain ⟨p, xs, rfl, hq, fx, fs, q⟩ := h
  cases ry
  rcases hq with hq | hq
  · obtain ⟨its, r, pl, hz⟩ := I.list hq
    refine SeqAt.notIn_listAt (eqU x) pl.isList (fun w hw => mem_eqAt rx fx r fs w (by simpa using hw)) ⟨.bl _, H, I, rfl, ?_⟩
    rw [show its.toArray.any (eqU x) = its.any (eqU x) by simp, any_eqU r fs]
    exact q
  · obtain ⟨its, r, pl, hz⟩ := I.tuple hq
    refine SeqAt.notIn_tupleAt (eqU x) pl (fun w hw => mem_eqAt rx fx r fs w (by simpa using hw)) ⟨.bl _, H, I, rfl, ?_⟩
    rw [show its.toArray.any (eqU x) = its.any (eqU x) by simp, any_eqU r fs]
    exact q
theorem op_notIn_str : OpR X (compareOp .NotIn) (fun x y H Q => ∃ i j, x = .str i ∧ y = .str j ∧ Q (.bl (!(!(Builtin.Str.occurrences j i 0 j.length 1).isEmpty))) H) := by
  intro pins s σ H x y v u Q I rx ry h
  obtain ⟨i, j, rfl, rfl, q⟩ := h
  obtain ⟨t, rfl⟩ := rx
  obtain ⟨t', rfl⟩ := ry
  exact notIn_str ⟨.bl _, H, I, rfl, q⟩
theorem CallR.or {f : Value} {r r' : List V → Hp → VK → Prop} (h : CallR X f r) (h' : CallR X f r') : CallR X f (fun xs H Q => r xs H Q ∨ r' xs H Q) := by
  intro pins s σ H xs us Q I rs q
  rcases q with q | q
  · exact h pins s σ H xs us Q I rs q
  · exact h' pins s σ H xs us Q I rs q
theorem call_list_of : CallR X (.type "list") (fun xs H Q => ∃ p ys, xs = [.ref p] ∧ (SqL X.K H p ys ∨ SqT X.K H p ys) ∧ ∀ l, H l = none → Q (.ref l) (upd H l (.lst ys))) := by
  intro pins s σ H xs us Q I r h
  obtain ⟨p, ys, rfl, hq, q⟩ := h
  obtain ⟨u, rfl, rx⟩ := vals1 r
  cases rx
  have fin : ∀ (its : List Value), Vals ys its → ys.length ≤ sizeLine → ∀ (h' : Heap) (c' : Nat), (∀ b o', s.heap.get? b = some o' → h'.get? b = some o') →
      h'.get? s.heap.objs.size = some { cls := .type "list", dict := none, data := .seq its.toArray c', slots := #[] } → EP X pins σ Q (.ref s.heap.objs.size) { s with heap := h' } := fun its r' hz h' c' kp e =>
    ⟨.ref s.heap.objs.size, _, I.laid (t' := s.toks) kp (Nat.le_refl _) (show ObjOk X.prog X.w _ h' _ (.lst ys) from ⟨hz, its, c', r', e⟩), rfl, q _ (I.hok.fresh (Nat.le_refl _))⟩
  rcases hq with hq | hq
  · obtain ⟨its, r', pl, hz⟩ := I.list hq
    have hlen := r'.length
    obtain ⟨o, ho, hc, n, hd⟩ := pl.isList
    exact call_list_seq p (.inl rfl) ho hc hd (fun h' c' kp e => fin its r' hz h' c' kp e) (by simp only [List.size_toArray] <;> omega)
  · obtain ⟨its, r', pl, hz⟩ := I.tuple hq
    have hlen := r'.length
    obtain ⟨o, ho, hc, n, hd⟩ := pl
    exact call_list_seq p (.inr rfl) ho hc hd (fun h' c' kp e => fin its r' hz h' c' kp e) (by simp only [List.size_toArray] <;> omega)
def tyV (K : PySem.W.Frag) (T : String) (x : V) (H : Hp) : Prop := match x with
  | .str _ => T = "str"
  | .int _ => T = "int"
  | .ref p => (T = "list" ∧ ∃ xs, SqL K H p xs) ∨ (T = "tuple" ∧ ∃ o, K.lookup p = some o ∧ o.cls = .type "tuple" ∧ o.dict = none) ∨
      (T = "dict" ∧ ((∃ kvs, H p = some (.dK kvs)) ∨ ∃ kvs, H p = some (.dT kvs))) ∨ (T = "set" ∧ ∃ S n, H p = some (.set S n))
  | _ => False
theorem tyV_is {pins : List (Addr × Obj)} {σ : St} {H : Hp} {s : Shared} {T : String} {x : V} {v : Value} (I : Inv X pins σ H s) (r : RelV x v) (ty : tyV X.K T x H) :
    s.TypeIs v T ∧ ∀ a, v = .ref a → ∃ ob, s.heap.get? a = some ob ∧ ob.dict = none := by
  cases x with
  | str z =>
    obtain ⟨t, rfl⟩ := r
    cases (show T = "str" from ty)
    exact ⟨typeIs_str s z t, fun _ e => nomatch e⟩
  | int i =>
    obtain ⟨t, rfl⟩ := r
    cases (show T = "int" from ty)
    exact ⟨typeIs_int s i t, fun _ e => nomatch e⟩
  | ref p =>
    cases r
    rcases ty with ⟨rfl, xs, hq⟩ | ⟨rfl, o, hk, hc, hd⟩ | ⟨rfl, hk⟩ | ⟨rfl, S, n, hk⟩
    · obtain ⟨its, _, pl, _⟩ := I.list hq
      refine ⟨pl.isList.typeIs, fun a e => ?_⟩
      cases e
      obtain ⟨o, n, e, c, hd, _⟩ := pl
      exact ⟨o, e, hd⟩
    · refine ⟨⟨o, I.kIn p o hk, hc⟩, fun a e => ?_⟩
      cases e
      exact ⟨o, I.kIn _ o hk, hd⟩
    · have z : ∃ o, s.heap.get? p = some o ∧ o.ExactDict := by
        rcases hk with ⟨kvs, hk⟩ | ⟨kvs, hk⟩
        · obtain ⟨_, _, _, _, o, _, _, e, ex, _⟩ := I.hok p _ hk
          exact ⟨o, e, ex⟩
        · obtain ⟨_, _, _, _, o, _, _, e, ex, _⟩ := I.hok p _ hk
          exact ⟨o, e, ex⟩
      obtain ⟨o, e, ex⟩ := z
      refine ⟨⟨o, e, ex.1⟩, fun a e2 => ?_⟩
      cases e2
      exact ⟨o, e, ex.2.1⟩
    · obtain ⟨o, _, _, _, e, ex, _⟩ := I.hok p _ hk
      refine ⟨⟨o, e, ex.1⟩, fun a e2 => ?_⟩
      cases e2
      exact ⟨o, e, ex.2.1⟩
  | _ => exact False.elim ty
def tBM0 (K : PySem.W.Frag) (T : String) (r : V → List V → Hp → VK → Prop) (to : TE) : TE := fun σ H Q => to σ H fun x H1 => tyV K T x H1 ∧ r x [] H1 Q
def tBM (K : PySem.W.Frag) (T : String) (r : V → List V → Hp → VK → Prop) (to : TE) (t : TA) : TE := fun σ H Q => to σ H fun x H1 => tyV K T x H1 ∧ t σ H1 fun xs H2 => r x xs H2 Q
variable {o e : Expr} {es : List Expr} {to : TE} {t : TA} {name : Str} {apos cpos : Pos} {T id : String} {r : V → List V → Hp → VK → Prop}
theorem pe_bm0 (pa : PlainAttrs T) (slot : Slot T name id) (hty : typeOf (.builtin id) = pure (.type "method_descriptor")) (hm : MtR X id r) (ho : PE X o to)
    (hbase : attributeBase o name X.env (eval o X.env) = eval o X.env := by rfl) (hline : (apos.endLine == cpos.line) = true := by rfl) : PE X (.Call (.Attribute o name apos) [] [] cpos) (tBM0 X.K T r to) := by
  intro pins s σ H Q I h
  refine wpAny_Call_method0_late hbase hline (thn (ho pins s σ H _ I h) fun v s1 ⟨x, H1, I1, r1, ty, q1⟩ => ?_)
  obtain ⟨h1, h2⟩ := tyV_is I1 r1 ty
  exact ⟨T, id, pa, slot, hty, h1, h2, Calls.callWith_builtin rfl (PySem.evalArgs_none (hm pins s1 σ H1 x [] v [] Q I1 r1 .nil q1))⟩
theorem pe_bm (pa : PlainAttrs T) (slot : Slot T name id) (hty : typeOf (.builtin id) = pure (.type "method_descriptor")) (hm : MtR X id r) (ho : PE X o to) (ha : PA X (e :: es) t)
    (hbase : attributeBase o name X.env (eval o X.env) = eval o X.env := by rfl)
    (hfew : ((backTo cpos (starEach (e :: es) X.env)).all (fun x => !x.1) && (backToKw cpos (keywordEach [] X.env)).all (fun x => x.1.isSome)
      && decide ((e :: es).length + ([] : List Keyword).length + (if ([] : List Keyword).isEmpty then 0 else 1) < 30)) = true := by rfl)
    (hline : (apos.endLine == cpos.line) = true := by rfl) (hs : starEach (e :: es) X.env = (false, eval e X.env) :: starEach es X.env := by rfl) (hplain : (backTo cpos (starEach es X.env)).any (·.1) = false := by rfl) :
    PE X (.Call (.Attribute o name apos) (e :: es) [] cpos) (tBM X.K T r to t) := by
  intro pins s σ H Q I h
  refine wpAny_Call_method_late hbase hfew hline rfl (thn (ho pins s σ H _ I h) fun v s1 ⟨x, H1, I1, r1, ty, q1⟩ => ?_)
  obtain ⟨h1, h2⟩ := tyV_is I1 r1 ty
  refine ⟨T, id, pa, slot, hty, h1, h2, ?_⟩
  have hA := ha cpos pins s1 σ H1 _ I1 q1
  rw [hs] at hA ⊢
  refine Calls.callWith_builtin (by show (false || (backTo cpos (starEach es X.env)).any (·.1)) = false; rw [hplain] <;> rfl) (Calls.evalArgs_plain ?_)
  exact thn hA fun us s2 ⟨vs, H2, I2, r2, q2⟩ => hm pins s2 σ H2 x vs v us Q I2 r1 r2 q2
end
end L2
namespace L2
open PySem PySem.Spec PyProof.Rows
def MtM (X : Cx) (id : String) (r : V → List V → Hp → VK → Prop) : Prop :=
  ∀ (pins : List (Addr × Obj)) (s : Shared) (σ : St) (H : Hp) (x : V) (xs : List V) (v : Value) (us : List Value) (Q : VK), Inv X pins σ H s → RelV x v → Vals xs us → r x xs H Q →
    wpAny (model X.prog X.w) X.A (call (.builtin id) (v :: us)) (EP X pins σ Q) X.xe s
theorem Vals.one : ∀ {x : V} {us : List Value}, Vals [x] us → ∃ u, us = [u] ∧ RelV x u
  | _, _, .cons r .nil => ⟨_, rfl, r⟩
theorem Vals.zero : ∀ {us : List Value}, Vals [] us → us = []
  | _, .nil => rfl
theorem Vals.dropLast {xs : List V} {us : List Value} (h : Vals xs us) : Vals xs.dropLast us.dropLast := by
  induction h with
  | nil => exact .nil
  | cons r t ih =>
    cases t with
    | nil => exact .nil
    | cons q t' => exact .cons r ih
theorem Vals.rep {xs : List V} {us : List Value} (h : Vals xs us) : ∀ k : Nat, Vals (List.replicate k xs).flatten (List.replicate k us).flatten
  | 0 => .nil
  | k + 1 => by
    rw [List.replicate_succ, List.replicate_succ, List.flatten_cons, List.flatten_cons]
    exact Vals.append h (Vals.rep h k)
theorem erase_last {α : Type} (l : List α) : l.eraseIdx (l.length - 1) = l.dropLast := by
  induction l with
  | nil => rfl
  | cons a r ih =>
    cases r with
    | nil => rfl
    | cons b r =>
      have e : (a :: b :: r).length - 1 = ((b :: r).length - 1) + 1 := by
        have h1 : (a :: b :: r).length = r.length + 2 := rfl
        have h2 : (b :: r).length = r.length + 1 := rfl
        omega
      rw [e, List.eraseIdx_cons_succ, ih]
      all_goals rfl
theorem foldl_rep (its : List Value) : ∀ (k : Nat) (acc : List Value),
    List.foldl (fun x1 x2 => x1 ++ x2) acc.toArray (List.replicate k its.toArray) = (acc ++ (List.replicate k its).flatten).toArray
  | 0, acc => by simp
  | k + 1, acc => by
    have e : acc.toArray ++ its.toArray = (acc ++ its).toArray := by simp
    have e2 : (acc ++ its) ++ (List.replicate k its).flatten = acc ++ (List.replicate (k + 1) its).flatten := by
      rw [List.replicate_succ, List.flatten_cons, List.append_assoc]
    rw [← e2, ← foldl_rep its k (acc ++ its), ← e, List.replicate_succ, List.foldl_cons]
section
variable {X : Cx} {pins : List (Addr × Obj)} {σ : St} {H : Hp} {s : Shared} {l b : Addr} {xs ys zs : List V}
theorem Inv.lset {its its' : List Value} {n : Nat} {f : Array Value → Array Value} {t' : Nat} (I : Inv X pins σ H s) (hH : H l = some (.lst xs))
    (e : s.heap.get? l = some { cls := .type "list", data := .seq its.toArray n }) (hf : f its.toArray = its'.toArray) (hv : Vals ys its') (hz : ys.length ≤ sizeLine) :
    Inv X pins σ (upd H l (.lst ys)) { s with heap := s.heap.update l (Obj.mapSeq f), toks := t' } := by
  have q := PySem.IsL.update e f
  rw [hf] at q
  refine I.write (x := l) (e := l) (by rw [hH]; exact trivial) (.inl rfl) (fun b' u hb hu => (Heap.get?_update_other s.heap (Obj.mapSeq f) (Ne.symm hb)).trans hu) ⟨_, q⟩ ?_
  exact ⟨hz, its', _, hv, q⟩
theorem Inv.lnew {its : List Value} {t' : Nat} (I : Inv X pins σ H s) (hv : Vals ys its) (hz : ys.length ≤ sizeLine) :
    Inv X pins σ (upd H s.heap.objs.size (.lst ys)) { s with heap := s.heap.push { cls := .type "list", data := .seq its.toArray }, toks := t' } :=
  I.laid (fun _ _ q => Heap.get?_push_of_some _ q) (Nat.le_refl _) ⟨hz, its, 0, hv, Heap.get?_push_size _ rfl⟩
theorem Inv.fresh (I : Inv X pins σ H s) : H s.heap.objs.size = none := I.hok.fresh (Nat.le_refl _)
theorem Inv.lstM (I : Inv X pins σ H s) (hH : H l = some (.lst xs)) : xs.length ≤ sizeLine ∧ ∃ (its : List Value) (n : Nat), Vals xs its ∧ xs.length = its.length ∧ s.heap.get? l = some { cls := .type "list", data := .seq its.toArray n } := by
  obtain ⟨z, its, n, r, e⟩ := I.hok l _ hH
  exact ⟨z, its, n, r, r.length, e⟩
theorem notLongL {n : Nat} (h : n ≤ sizeLine) : Builtin.List.listTooLong n = false := by
  unfold Builtin.List.listTooLong
  exact decide_eq_false (by omega)
end
section
variable {X : Cx}
def rAppend : V → List V → Hp → VK → Prop := fun x vs H Q => ∃ l xs y, x = .ref l ∧ vs = [y] ∧ H l = some (.lst xs) ∧ xs.length < sizeLine ∧ Q .non (upd H l (.lst (xs ++ [y])))
theorem mt_append : MtM X "list.append" rAppend := by
  intro pins s σ H x vs v us Q I rx rv h
  obtain ⟨l, xs, y, rfl, rfl, hH, hz, q⟩ := h
  cases rx
  obtain ⟨u, rfl, ru⟩ := rv.one
  obtain ⟨z, its, n, r, hl, e⟩ := I.lstM hH
  refine call_meets F.slot_list_append ⟨_, e, rfl⟩ F.entry_list_append (F.args_list_append_2 _ _) (PySem.list_append l its.toArray n u (by rw [List.size_toArray]; omega)) ⟨e, ?_⟩
  refine ⟨.non, _, I.lset (its' := its ++ [u]) hH e (by simp) (r.append (.cons ru .nil)) ?_, rfl, q⟩
  rw [List.length_append, List.length_singleton]
  omega
def rExtend : V → List V → Hp → VK → Prop := fun x vs H Q => ∃ l b xs zs, x = .ref l ∧ vs = [.ref b] ∧ H l = some (.lst xs) ∧ H b = some (.lst zs) ∧ xs.length + zs.length ≤ sizeLine ∧ Q .non (upd H l (.lst (xs ++ zs)))
def rPop : V → List V → Hp → VK → Prop := fun x vs H Q => ∃ l xs y, x = .ref l ∧ vs = [] ∧ H l = some (.lst xs) ∧ xs[xs.length - 1]? = some y ∧ Q y (upd H l (.lst xs.dropLast))
theorem mt_pop : MtM X "list.pop" rPop := by
  intro pins s σ H x vs v us Q I rx rv h
  obtain ⟨l, xs, y, rfl, rfl, hH, hy, q⟩ := h
  cases rx
  have hus := rv.zero
  subst hus
  obtain ⟨z, its, n, r, hl, e⟩ := I.lstM hH
  obtain ⟨u, hu, ru⟩ := r.get hy
  have hy' : its.toArray[its.toArray.size - 1]? = some u := by
    show its.toArray[its.length - 1]? = some u
    rw [← Array.getElem?_toList, ← hl]
    exact hu
  refine call_meets F.slot_list_pop ⟨_, e, rfl⟩ F.entry_list_pop (F.args_list_pop_1 _) (MeetsSeq.list_pop_last l its.toArray n u hy' (by rw [List.size_toArray]; omega)) ⟨e, ?_⟩
  refine ⟨y, _, I.lset (its' := its.dropLast) hH e ?_ r.dropLast ?_, ru, q⟩
  · show its.toArray.eraseIdxIfInBounds (its.toArray.size - 1) = its.dropLast.toArray
    rw [List.size_toArray, List.eraseIdxIfInBounds_toArray, erase_last]
  · rw [List.length_dropLast]
    omega
def rPopAt : V → List V → Hp → VK → Prop := fun x vs H Q => ∃ l xs i k y, x = .ref l ∧ vs = [.int i] ∧ H l = some (.lst xs) ∧ -(2 ^ 63) ≤ i ∧ i < 2 ^ 63 ∧ seqIndex? i xs.length = some k ∧ xs[k]? = some y ∧ Q y (upd H l (.lst (xs.eraseIdx k)))
def rReverse : V → List V → Hp → VK → Prop := fun x vs H Q => ∃ l xs, x = .ref l ∧ vs = [] ∧ H l = some (.lst xs) ∧ Q .non (upd H l (.lst xs.reverse))
def rClear : V → List V → Hp → VK → Prop := fun x vs H Q => ∃ l xs, x = .ref l ∧ vs = [] ∧ H l = some (.lst xs) ∧ Q .non (upd H l (.lst []))
def rCat : R2 := fun x y H Q => ∃ l b xs zs, x = .ref l ∧ y = .ref b ∧ H l = some (.lst xs) ∧ H b = some (.lst zs) ∧ xs.length + zs.length ≤ sizeLine ∧ ∀ p, H p = none → Q (.ref p) (upd H p (.lst (xs ++ zs)))
theorem op_cat : OpR X (binaryOp .Add) rCat := by
  intro pins s σ H x y v u Q I rx ry h
  obtain ⟨l, b, xs, zs, rfl, rfl, hH, hB, hz, q⟩ := h
  cases rx
  cases ry
  obtain ⟨z, its, n, r, hl, e⟩ := I.lstM hH
  obtain ⟨z2, its2, n2, r2, hl2, e2⟩ := I.lstM hB
  refine PySem.P.add_list e e2 ?_ (by rw [List.size_toArray, List.size_toArray]; omega)
  have ea : its.toArray ++ its2.toArray = (its ++ its2).toArray := by simp
  rw [ea]
  exact ⟨.ref _, _, I.lnew (t' := s.toks) (r.append r2) (by rw [List.length_append]; omega), rfl, q _ I.fresh⟩
def rRep : R2 := fun x y H Q => ∃ l k xs, x = .ref l ∧ y = .int k ∧ H l = some (.lst xs) ∧ -(2 ^ 63) ≤ k ∧ k < 2 ^ 63 ∧ xs.length * k.toNat ≤ sizeLine ∧
  ∀ p, H p = none → Q (.ref p) (upd H p (.lst (List.replicate k.toNat xs).flatten))
theorem len_rep {α : Type} (xs : List α) (k : Nat) : (List.replicate k xs).flatten.length = k * xs.length := by
  induction k with
  | zero => simp
  | succ k ih => rw [List.replicate_succ, List.flatten_cons, List.length_append, ih, Nat.succ_mul, Nat.add_comm]
theorem op_rep : OpR X (binaryOp .Mult) rRep := by
  intro pins s σ H x y v u Q I rx ry h
  obtain ⟨l, k, xs, rfl, rfl, hH, h1, h2, hz, q⟩ := h
  cases rx
  obtain ⟨t, rfl⟩ := ry
  obtain ⟨z, its, n, r, hl, e⟩ := I.lstM hH
  have hlen : its.toArray.size * k.toNat ≤ sizeLine := by rw [List.size_toArray, ← hl]; exact hz
  have hcap : ¬ its.toArray.size * k.toNat > (2 ^ 63 - 1) / 8 := by
    have : (sizeLine : Nat) ≤ (2 ^ 63 - 1) / 8 := by decide
    omega
  have hfit : ¬ (!Builtin.List.listFitsIndex k) = true := by
    rw [fitsIndex_both h1 h2]
    exact Bool.false_ne_true
  have hlong : ¬ Builtin.List.listTooLong (its.toArray.size * k.toNat) = true := by
    rw [notLongL hlen]
    exact Bool.false_ne_true
  have hnew : List.foldl (fun x1 x2 => x1 ++ x2) #[] (List.replicate (if its.toArray.isEmpty = true then 0 else k.toNat) its.toArray) = (List.replicate k.toNat its).flatten.toArray := by
    have f0 : ∀ m : Nat, List.foldl (fun x1 x2 => x1 ++ x2) #[] (List.replicate m its.toArray) = (List.replicate m its).flatten.toArray := fun m => by
      have := foldl_rep its m []
      rw [List.nil_append] at this
      exact this
    rw [f0]
    cases its with
    | nil => simp
    | cons a r' => rw [if_neg (by simp)]
  refine wpAny_binaryOp_repeat_ref (T := "list") (U := "int") (by decide) ⟨_, e, rfl⟩ (fun s' => typeIs_int s' k t) noFill_list_mul F.fills_int_mul F.slot_int_rmul repeat_list F.slot_int_index.lookup
    (call_meets F.slot_int_rmul (typeIs_int s k t) F.entry_int_rmul (F.args_int_rmul_2 _ _) (int___rmul___int_list k t l its.toArray n)
      ⟨e, rfl, ⟨_, e, rfl⟩, call_meets F.slot_list_mul ⟨_, e, rfl⟩ F.entry_list_mul (F.args_list_mul_2 _ _) (AutoListH.list___mul___list_int_3 l its.toArray n k t hfit hcap hlong) ⟨e, ?_⟩⟩)
  rw [hnew]
  exact ⟨.ref _, _, I.lnew (t' := s.toks) (r.rep k.toNat) (by rw [len_rep, Nat.mul_comm]; exact hz), rfl, q _ I.fresh⟩
end
section
variable {prog : Program} {w : World} {A : Around} {E : Value → Shared → Prop} {s : Shared}
end
section
variable {X : Cx}
end
end L2
namespace Att
open PySem PySem.W PySem.Calls PyProof.Rows
theorem ints_of_wellAll {P : Params} {h : Heap} : ∀ (ns : List Int) (vs : List Value), WellAll P h vs (ns.map WData.int) → IntsAre vs ns := by
  intro ns
  induction ns with
  | nil =>
    intro vs w
    rw [List.map_nil] at w
    cases w
    exact .nil
  | cons n ns ih =>
    intro vs w
    rw [List.map_cons] at w
    cases w with
    | cons a b =>
      cases a
      exact .cons _ _ (ih _ b)
theorem script_of {l : OpenLaw} {n : Nat} (hn : l.most = some n) {P : Params} {h : Heap} {args : List WData} {vals : List Value}
    (hpre : l.row.toRowW.claim.pre args = true) (hwl : WellAll P h vals args) :
    ∃ a vs ns, vals = [Value.ref a] ∧ args = [WData.list (ns.map WData.int)] ∧ h.get? a = some { cls := .type "list", data := .seq vs.toArray } ∧ IntsAre vs ns ∧ ns.length ≤ n := by
  have hsh : WShape.hasAll [] args [.list .int] = true := (pre_splitW hpre).1
  have hc : l.pre.holds [] { args := args } = true := (pre_splitW hpre).2
  obtain ⟨d, r, rfl, h1, h2⟩ := hasAllW_cons hsh
  obtain rfl := hasAllW_nil h2
  obtain ⟨xs, rfl, h3⟩ := hasW_list h1
  obtain ⟨ns, rfl⟩ := items_int h3
  have hlen : ns.length ≤ n := by
    unfold OpenLaw.pre at hc
    have h4 : (WTm.not (.lt (.lit (.int (n : Int))) (.len (.arg 0)))).holds [] { args := [.list (ns.map .int)] } = true := by
      have h4 := (holds_andW hc).1
      rw [hn] at h4
      exact h4
    have h5 := condW_of h4 (w_not (w_lt w_lit (w_len_list (w_arg rfl))))
    rw [List.length_map] at h5
    refine Nat.le_of_not_lt fun q => ?_
    have q' : (n : Int) < ((ns.length : Nat) : Int) := by omega
    first
      | (rw [decide_eq_true q'] at h5; exact absurd h5 (by decide))
      | (simp at h5; omega)
  cases hwl with
  | cons w1 w2 =>
    cases w2
    cases w1 with
    | list ho hall => exact ⟨_, _, ns, rfl, rfl, ho, ints_of_wellAll ns _ hall, hlen⟩
theorem post_true (l : OpenLaw) (args : List WData) : l.row.toRowW.claim.post args (.bool true) args = true :=
  postW_of (r := l.row.toRowW) (X := (true == true))
    (show WShape.has [] (.bool true) .bool = true by first | rfl | decide | simp [WShape.has, WShape.arms, WShape.armsAll])
    (show (WTm.eq .res (.lit (.bool true))).value [] { args := args, res := some (.bool true), after := args } = some (.bool (true == true)) from w_eq_bool (w_res rfl) w_lit) rfl
theorem attach_call {l : OpenLaw} {n : Nat} {q : Program} {loose : List Str} {XP : (Str → Option Value) → Heap → Prop} {YP : World → Heap → Prop} {d : DefRec}
    (hn : l.most = some n) (hdf : d.params.defaults = [])
    (call : ∀ (w : World) (s₀ s₁ : Shared) (mg mb : Str → Option Value) (fa : Addr) (o : Obj) (pm cd doc : Value) (a : Addr) (vs : List Value) (ns : List Int),
      Ground q loose [] XP w s₀ mg mb s₁.heap → YP w s₁.heap →
      s₁.heap.get? fa = some o → o.data = .func (docDef d.name d.params d.body d.scope pm cd doc) → s₁.heap.CodeRec cd d.name → mg d.name = some (.ref fa) →
      s₁.heap.get? a = some { cls := .type "list", data := .seq vs.toArray } → IntsAre vs ns → ns.length ≤ n → s₁.gens = #[] →
      codeAny (model l.prog w) callerA (.call (.ref fa) ⟨[.ref a], []⟩) (fun r s' => r = .ok (.ret (.bool true)) ∧ OldK s₁.heap s'.heap ∧ s'.os = s₁.os ∧ AllBare s'.gens) s₁) :
    WalkO q loose XP YP l.row.toRowW d [] (fun f vs => PySem.call f vs) := by
  intro w s₀ s₁ mg mb G Y fa o pm cd doc dV kV ho hd hcd hD hmg hg args vals as hpre hlay hrd hwl hlo
  obtain rfl : dV = .none := Dflts.none hD hdf
  obtain rfl : kV = .none := Dflts.noKw hD
  obtain ⟨a, vs, ns, rfl, rfl, hobj, hints, hlen⟩ := script_of hn hpre hwl
  refine enter_call (codeAny_mono (call w s₀ s₁ mg mb fa o pm cd doc a vs ns G Y ho (fd_plain hd) hcd hmg hobj hints hlen hg) fun r s' hq => ?_)
  obtain ⟨rfl, h2, h3, h4⟩ := hq
  exact ⟨.inl ⟨.bool true, .bool true, [], rfl, fun _ => rfl, .bool true, post_true l _, fun _ => ⟨List.Pairwise.nil, fun _ hm => (nomatch hm)⟩⟩, h2, h3, h4⟩
section
variable {prog : Program} {w : World} {A : Around} {E : Value → Shared → Prop} {s : Shared} {K : Frag}
def noObjs (h : Heap) : Heap := { h with objs := #[] }
def ledger (h : Heap) (L d : Addr) : List (Addr × Obj) := (List.range h.objs.size).filterMap fun a => if a = L ∨ a = d then none else (h.get? a).map fun o => (a, o)
end
end Att
namespace L2
open PySem PySem.Spec PyProof.Rows
theorem vals_ints : ∀ {vs : List Value} {ns : List Int}, IntsAre vs ns → Vals (ns.map V.int) vs
  | _, _, .nil => .nil
  | _, _, .cons n t h => .cons ⟨t, rfl⟩ (vals_ints h)
def Only (H : Hp) : Prop := ∀ b, H b = none ∨ ∃ o xs, H b = some (.frz o (.lst xs))
theorem law_call {P : Program} {w : World} {K : PySem.W.Frag} {mg mb : Str → Option Value} {CX : CXT} {k : Nat} {fa a : Addr} {fd : FuncData} {x : Str} {sp : Sp} {s₁ : Shared} {vs : List Value} {ns : List Int}
    (KX : K.In s₁.heap) (hns : s₁.heap.Ns mainGlobals mg) (hb : s₁.heap.Ns builtinsNs mb) (hbb : ∀ x : Str, x ≠ "__name__" → mb x = bootBuiltins x) (hlim : s₁.heap.NoLimit) (hg : s₁.gens = #[])
    (ha : s₁.heap.get? a = some { cls := .type "list", data := .seq vs.toArray }) (hi : IntsAre vs ns) (hl : ns.length ≤ sizeLine) (hr : Room k callerA)
    (F : ∀ base : Heap, K.In base → base.Ns mainGlobals mg → FnOk P w K mg base CX k fa fd [x] sp) (hbind : ∀ (s : Shared) (u : Value), BindsTo s fd ⟨[u], []⟩ [(x, u)])
    (hsp : ∀ H : Hp, Only H → SqL K H a (ns.map V.int) → sp [.ref a] H (fun v _ => v = .bl true) fun _ _ _ => False)
    (hCX : ∀ H e s', CX [] H s₁ (fun _ _ _ => False) e s' → False) :
    codeAny (model P w) callerA (.call (.ref fa) ⟨[.ref a], []⟩) (fun r s' => r = .ok (.ret (.bool true)) ∧ OldK s₁.heap s'.heap ∧ s'.os = s₁.os ∧ AllBare s'.gens) s₁ := by
  have rv := vals_ints hi
  have lenV := hi.length
  have core : ∀ H : Hp, Only H → SqL K H a (ns.map V.int) → HOk P w H s₁.heap → (∀ b, H b ≠ none → b = a) → (H a ≠ none → K.lookup a = none) →
      codeAny (model P w) callerA (.call (.ref fa) ⟨[.ref a], []⟩) (fun r s' => r = .ok (.ret (.bool true)) ∧ OldK s₁.heap s'.heap ∧ s'.os = s₁.os ∧ AllBare s'.gens) s₁ := by
    intro H hO hS hok hA hK
    have base_of : ∀ {b : Addr} {o : Obj}, s₁.heap.get? b = some o → H b = none → (hidT s₁.heap H).get? b = some o := fun e n => hidT_get e n
    have noA : ∀ {b : Addr} {o : Obj} {es : Array DictEntry} {ep : Nat}, s₁.heap.get? b = some o → o.data = .dict es ep → H b = none := fun {b o es ep} e d => by
      cases q : H b with
      | none => rfl
      | some u =>
        have e' : b = a := hA b (by rw [q]; simp)
        subst e'
        rw [ha] at e; cases e
        have d' : Data.seq vs.toArray _ = Data.dict es ep := d
        cases d'
    have nsK : ∀ {b : Addr} {m : Str → Option Value}, s₁.heap.Ns b m → (hidT s₁.heap H).Ns b m := fun {b m} ⟨o, es, ep, e, d, r⟩ => ⟨o, es, ep, base_of e (noA e d), d, r⟩
    have hKb : K.In (hidT s₁.heap H) := fun b o e => base_of (KX b o e) (by
      cases q : H b with
      | none => rfl
      | some u =>
        have e' : b = a := hA b (by rw [q]; simp)
        subst e'
        rw [hK (by rw [q]; simp)] at e; cases e)
    have hM : Mod K mg (hidT s₁.heap H) := ⟨hKb, nsK hns, ⟨mb, nsK hb, hbb⟩, let ⟨mc, h1, h2⟩ := hlim; ⟨mc, nsK h1, h2⟩⟩
    have e0 : Env0 P w K mg (hidT s₁.heap H) callerA [] s₁ H := ⟨rfl, hM, fun b o e => of_hidT e, Nat.le_of_eq (hidT_size _ _), trivial, fun b hb => absurd (show b ∈ ([] : List Addr) from hb) (by simp), hok, .of_eq hg⟩
    refine codeAny_mono ((F _ hKb (nsK hns)).run callerA [] s₁ H ⟨[.ref a], []⟩ [.ref a] [.ref a] _ _ hr e0 (hbind s₁ (.ref a)) (.cons rfl .nil) (hsp H hO hS)) fun r s' h => ?_
    cases r with
    | error e => exact (hCX H e s' h).elim
    | ok fl =>
      cases fl with
      | next => exact False.elim h
      | brk => exact False.elim h
      | cont => exact False.elim h
      | ret u =>
        obtain ⟨v, H', os, bare, un, hok', r', q⟩ := h
        have q' : v = .bl true := q
        subst q'
        obtain rfl : u = Value.bool true := r'
        refine ⟨rfl, OldK.of_keep fun b o e => ?_, os, bare⟩
        cases q : H b with
        | none => exact un.keep b o e q (by intro z; exact absurd (show b ∈ ([] : List Addr) from z) (by simp)) (by simp)
        | some u =>
          rcases hO b with z | ⟨ob, xs, z⟩
          · rw [q] at z; cases z
          · have z2 := un.frzs b ob _ z
            obtain ⟨e1, _⟩ := hok b _ z
            obtain ⟨e2, _⟩ := hok' b _ z2
            rw [e] at e1; cases e1
            exact e2
  cases hk : K.lookup a with
  | some o =>
    have e := KX a o hk
    rw [ha] at e
    cases e
    refine core (fun _ => none) (fun _ => .inl rfl) (.inr ⟨_, vs.toArray, _, hk, rfl, rfl, rfl, by rw [List.size_toArray, lenV]; exact hl, by simpa using rv⟩) (fun b u z => by have z' : (none : Option HO) = some u := z; cases z') (fun b z => absurd rfl z) fun z => absurd rfl z
  | none =>
    refine core (fun b => if b = a then some (.frz { cls := .type "list", data := .seq vs.toArray } (.lst (ns.map V.int))) else none) (fun b => ?_) (.inl (.inr ⟨{ cls := .type "list", data := .seq vs.toArray }, if_pos rfl⟩)) (fun b u z => ?_) (fun b z => ?_) fun _ => hk
    · by_cases hb : b = a
      · exact .inr ⟨_, _, if_pos hb⟩
      · exact .inl (if_neg hb)
    · by_cases hb : b = a
      · have z' := (if_pos hb).symm.trans z
        cases z'
        subst hb
        exact ⟨ha, by rw [List.length_map]; exact hl, vs, _, rv, ha⟩
      · have z' := (if_neg hb).symm.trans z
        cases z'
    · by_cases hb : b = a
      · exact hb
      · exact absurd (if_neg hb) z
end L2
namespace L2
open PySem PySem.Spec PyProof.Rows
abbrev KOf {K : PySem.W.Frag} {h : Heap} (_ : K.In h) : PySem.W.Frag := K
theorem walk_of {l : PySem.W.OpenLaw} {n k : Nat} {q : Program} {loose : List Str} {XP : (Str → Option Value) → Heap → Prop} {YP : World → Heap → Prop} {d : DefRec} {K : Params → PySem.W.Frag} {CX : World → CXT} {sp : World → Sp} {x : Str}
    (hn : l.most = some n) (hn2 : n ≤ sizeLine) (hdf : d.params.defaults = []) (hr : Room k callerA)
    (hY : ∀ (w : World) (h : Heap), YP w h → (K w.params).In h)
    (F : ∀ (w : World) (mg : Str → Option Value) (fa : Addr) (h : Heap), (K w.params).In h → h.Ns mainGlobals mg → mg d.name = some (.ref fa) →
      ∃ fd : FuncData, (∀ (s : Shared) (u : Value), BindsTo s fd ⟨[u], []⟩ [(x, u)]) ∧
        ∀ base : Heap, (K w.params).In base → base.Ns mainGlobals mg → FnOk l.prog w (K w.params) mg base (CX w) k fa fd [x] (sp w))
    (hsp : ∀ (w : World) (H : Hp) (a : Addr) (ns : List Int), ns.length ≤ n → Only H → SqL (K w.params) H a (ns.map V.int) → sp w [.ref a] H (fun v _ => v = .bl true) fun _ _ _ => False)
    (hCX : ∀ (w : World) (H : Hp) (s : Shared) (e : Value) (s' : Shared), CX w [] H s (fun _ _ _ => False) e s' → False) :
    PySem.W.WalkO q loose XP YP l.row.toRowW d [] (fun f vs => PySem.call f vs) := by
  refine Att.attach_call hn hdf fun w s₀ s₁ mg mb fa o pm cd doc a vs ns G Y ho hd hcd hmg hobj hints hlen hg => ?_
  have KX := hY w _ Y
  obtain ⟨fd, hb, hF⟩ := F w mg fa _ KX G.T.g hmg
  exact law_call KX G.T.g G.T.b G.T.builtins G.T.nolimit hg hobj hints (Nat.le_trans hlen hn2) hr hF hb (fun H hO hS => hsp w H a ns hlen hO hS) fun H e s' => hCX w H s₁ e s'
end L2
namespace L2
open PySem PySem.Spec PyProof.Rows
abbrev CX0 : CXT := fun _ _ _ _ _ _ => False
abbrev E0 : XK := fun _ _ _ => False
theorem pass0 {X : Cx} : Passes CX0 X E0 := fun _ _ _ _ _ _ _ h => h.elim
structure Fun (K : PySem.W.Frag) (x qual : Str) (st : Stmt) (f : Addr) (fd : FuncData) : Prop where
  ex : ∃ (oc : Value) (od : Option Addr) (kV doc pm : Value) (an : Option Addr) (cdv ct : Value) (osl : Array (Option Value)),
    fd = PySem.W.fnOf x qual (defArgs st) (defBody st) (defScope st) .none kV doc pm an cdv ct ∧ K.lookup f = some ⟨oc, od, .func fd, osl⟩ ∧ PySem.W.codeIn K cdv qual = true
  kp : PySem.W.keepIn K (.ref f) = true
section
variable {P : Program} {w : World} {K : PySem.W.Frag} {mg : Str → Option Value} {base : Heap}
theorem Fun.ok {x qual : Str} {st : Stmt} {f : Addr} {fd : FuncData} {N ps : List Str} {k : Nat} {sp : Sp} (F : Fun K x qual st f fd) (S : FnScope N ps (defScope st)) (len : ∀ vs H Q E, sp vs H Q E → vs.length = ps.length)
    (hbody : ∀ (cdv : Value) (A : Around) (outer : List Env) (s : Shared) (H : Hp) (vs : List V) (Q : VK) (E : XK), Room k (A.deeper (envOfC qual (defScope st) s.heap.objs.size f cdv)) → sp vs H Q E →
      ∃ t, PSs (cxOf CX0 P w K mg base N qual (defScope st) f cdv A outer s H E).nox (defBody st) t ∧ t { nx := fun _ H' => Q .non H', rt := Q } (start N vs) H) : FnOk P w K mg base CX0 (k + 1) f fd ps sp := by
  obtain ⟨oc, od, kV, doc, pm, an, cdv, ct, osl, rfl, lk, hcd⟩ := F.ex
  refine fn_of lk hcd S len fun A outer s H vs Q E hr hsp => ?_
  obtain ⟨t, h, q⟩ := hbody cdv A outer s H vs Q E hr hsp
  exact ⟨t, h.nox, q⟩
theorem Fun.binds {x qual : Str} {st : Stmt} {f : Addr} {fd : FuncData} {ps : List Str} (F : Fun K x qual st f fd)
    (h : ∀ (kV doc pm : Value) (an : Option Addr) (cdv ct : Value) (us : List Value), us.length = ps.length → bindArgs (PySem.W.fnOf x qual (defArgs st) (defBody st) (defScope st) .none kV doc pm an cdv ct) ⟨us, []⟩ = pure (ps.zip us)) : Binds K fd ps [] := by
  obtain ⟨oc, od, kV, doc, pm, an, cdv, ct, osl, rfl, lk, hcd⟩ := F.ex
  exact .all (h kV doc pm an cdv ct)
theorem fun_mk {x qual : Str} {st : Stmt} {f : Addr} {oc : Value} {od an : Option Addr} {osl : Array (Option Value)} {kV doc pm cdv ct : Value} (l : K.lookup f = some ⟨oc, od, .func (PySem.W.fnOf x qual (defArgs st) (defBody st) (defScope st) .none kV doc pm an cdv ct), osl⟩)
    (c : PySem.W.codeIn K cdv qual = true) (k : PySem.W.keepIn K (.ref f) = true) : Fun K x qual st f (PySem.W.fnOf x qual (defArgs st) (defBody st) (defScope st) .none kV doc pm an cdv ct) := ⟨⟨oc, od, kV, doc, pm, an, cdv, ct, osl, rfl, l, c⟩, k⟩
end
theorem small1000 {n : Nat} (h : n ≤ 1000) : n < sizeLine := Nat.lt_of_le_of_lt h (by decide)
section
variable {X : Cx}
end
theorem iteF {A B : Prop} (h : B) : if false = true then A else B := by
  rw [if_neg Bool.false_ne_true]
  exact h
theorem iteT {A B : Prop} (h : A) : if true = true then A else B := by
  rw [if_pos rfl]
  exact h
theorem ite2 {c A B : Prop} [Decidable c] (h1 : c → A) (h2 : ¬ c → B) : if c then A else B := by
  by_cases h : c
  · rw [if_pos h]
    exact h1 h
  · rw [if_neg h]
    exact h2 h
def Same (H H' : Hp) : Prop := ∀ b o, H b = some o → H' b = some o
theorem Same.refl (H : Hp) : Same H H := fun _ _ h => h
theorem Same.trans {H H1 H2 : Hp} (a : Same H H1) (b : Same H1 H2) : Same H H2 := fun c o h => b c o (a c o h)
theorem Same.free {H H' : Hp} (e : Same H H') {l : Addr} (h : H' l = Option.none) : H l = Option.none := by
  cases q : H l with
  | none => rfl
  | some o =>
    rw [e l o q] at h
    cases h
theorem Same.seq {K : PySem.W.Frag} {H H' : Hp} {a : Addr} {xs : List V} (e : Same H H') (h : SqL K H a xs) : SqL K H' a xs := by
  rcases h with (h | ⟨o, h⟩) | h
  · exact .inl (.inl (e _ _ h))
  · exact .inl (.inr ⟨o, e _ _ h⟩)
  · exact .inr h
end L2

set_option Elab.async false
set_option linter.all false
set_option maxRecDepth 100000
namespace L2
open PySem PySem.Spec PyProof.Rows
theorem forIn_yield_fold {α β : Type} {l : List α} {f : α → β → Sem (ForInStep β)} (g : β → α → β) (c : β) (h : ∀ x ∈ l, ∀ c, f x c = pure (.yield (g c x))) :
    forIn l c f = pure (l.foldl g c) := by
  induction l generalizing c with
  | nil => rfl
  | cons x l ih =>
    rw [List.forIn_cons, h x List.mem_cons_self, pure_bind]
    exact ih _ fun y hy => h y (List.mem_cons_of_mem _ hy)
def clStep (env : Env) (cs : List (Str × Addr)) (x : Str × NameKind) : List (Str × Addr) :=
  if x.2 == .free then (x.1, (env.cells.lookup x.1).getD 0) :: cs else cs
def clOf (env : Env) (names : List (Str × NameKind)) : List (Str × Addr) := names.foldl (clStep env) []
theorem closureFor_clOf {scope : Scope} {env : Env} (h : ∀ x ∈ scope.names, x.2 = .free → ∃ c, env.cells.lookup x.1 = some c) : closureFor scope env = pure (clOf env scope.names) := by
  simp only [closureFor]
  rw [forIn_yield_fold (clStep env) [] (fun x hx c => by
    obtain ⟨n, kind⟩ := x
    cases hk : kind == NameKind.free with
    | false => simp only [clStep, hk, Bool.false_eq_true, if_false]
    | true =>
      obtain ⟨a, ha⟩ := h (n, kind) hx (by simpa using hk)
      have ha' : env.cells.lookup n = some a := ha
      simp only [clStep, hk, if_true, cellOf, ha', Option.getD_some, pure_bind])]
  rfl
theorem clOf_mem {env : Env} : ∀ {names : List (Str × NameKind)} {cs : List (Str × Addr)} {n : Str} {c : Addr}, (n, c) ∈ names.foldl (clStep env) cs → (n, c) ∈ cs ∨ ((n, NameKind.free) ∈ names ∧ c = (env.cells.lookup n).getD 0)
  | [], _, _, _, h => .inl h
  | (m, k) :: r, cs, n, c, h => by
    rcases clOf_mem (names := r) (cs := clStep env cs (m, k)) h with h | ⟨h, e⟩
    · unfold clStep at h
      by_cases hk : (k == NameKind.free) = true
      · rw [if_pos hk] at h
        rcases List.mem_cons.mp h with e | h
        · cases e
          have hk' : k = .free := by simpa using hk
          subst hk'
          exact .inr ⟨List.mem_cons_self, rfl⟩
        · exact .inl h
      · rw [if_neg hk] at h
        exact .inl h
    · exact .inr ⟨List.mem_cons_of_mem _ h, e⟩
theorem clOf_keep {env : Env} {p : Str × Addr} : ∀ {names : List (Str × NameKind)} {cs : List (Str × Addr)}, p ∈ cs → p ∈ names.foldl (clStep env) cs
  | [], _, h => h
  | x :: r, cs, h => clOf_keep (names := r) (cs := clStep env cs x) (by
    unfold clStep
    split
    · exact List.mem_cons_of_mem _ h
    · exact h)
theorem clOf_in {env : Env} {n : Str} : ∀ {names : List (Str × NameKind)} {cs : List (Str × Addr)}, (n, NameKind.free) ∈ names → (n, (env.cells.lookup n).getD 0) ∈ names.foldl (clStep env) cs
  | x :: r, cs, h => by
    rcases List.mem_cons.mp h with e | h
    · subst e
      refine clOf_keep (names := r) (cs := clStep env cs (n, .free)) ?_
      unfold clStep
      rw [if_pos (by rfl)]
      exact List.mem_cons_self
    · exact clOf_in (names := r) h
theorem lookup_of_mem {α : Type} : ∀ {l : List (Str × α)} {n : Str} {c : α}, (n, c) ∈ l → ∃ c', l.lookup n = some c'
  | (k, v) :: r, n, c, h => by
    rw [List.lookup_cons]
    cases hb : n == k with
    | true => exact ⟨v, rfl⟩
    | false =>
      rcases List.mem_cons.mp h with e | h
      · cases e; simp at hb
      · exact lookup_of_mem h
theorem cellsFrom_mem : ∀ {names : List (Str × NameKind)} {k : Nat} {acc : List (Str × Addr)} {n : Str} {c : Addr}, (n, c) ∈ cellsFrom k names acc → (n, c) ∈ acc ∨ (k ≤ c ∧ (n, NameKind.cell) ∈ names)
  | [], _, _, _, _, h => .inl h
  | (m, kd) :: r, k, acc, n, c, h => by
    unfold cellsFrom at h
    by_cases hk : (kd == NameKind.cell) = true
    · rw [if_pos hk] at h
      have hk' : kd = .cell := by simpa using hk
      subst hk'
      rcases cellsFrom_mem (names := r) h with h | ⟨h1, h2⟩
      · rcases List.mem_cons.mp h with e | h
        · cases e
          exact .inr ⟨Nat.le_refl _, List.mem_cons_self⟩
        · exact .inl h
      · exact .inr ⟨by omega, List.mem_cons_of_mem _ h2⟩
    · rw [if_neg hk] at h
      rcases cellsFrom_mem (names := r) h with h | ⟨h1, h2⟩
      · exact .inl h
      · exact .inr ⟨h1, List.mem_cons_of_mem _ h2⟩
theorem cellsFrom_inj : ∀ {names : List (Str × NameKind)} {k : Nat} {acc : List (Str × Addr)}, (∀ n c, (n, c) ∈ acc → c < k) → (∀ n n' c, (n, c) ∈ acc → (n', c) ∈ acc → n = n') →
    ∀ {n n' : Str} {c : Addr}, (n, c) ∈ cellsFrom k names acc → (n', c) ∈ cellsFrom k names acc → n = n'
  | [], _, _, _, hi, _, _, _, h, h' => hi _ _ _ h h'
  | (m, kd) :: r, k, acc, hl, hi, n, n', c, h, h' => by
    unfold cellsFrom at h h'
    by_cases hk : (kd == NameKind.cell) = true
    · rw [if_pos hk] at h h'
      refine cellsFrom_inj (names := r) (acc := (m, k) :: acc) (fun a b hab => ?_) (fun a a' b ha ha' => ?_) h h'
      · rcases List.mem_cons.mp hab with e | e
        · cases e; exact Nat.lt_succ_self _
        · exact Nat.lt_succ_of_lt (hl _ _ e)
      · rcases List.mem_cons.mp ha with e | e <;> rcases List.mem_cons.mp ha' with e' | e'
        · cases e; cases e'; rfl
        · cases e; exact absurd (hl _ _ e') (Nat.lt_irrefl _)
        · cases e'; exact absurd (hl _ _ e) (Nat.lt_irrefl _)
        · exact hi _ _ _ e e'
    · rw [if_neg hk] at h h'
      exact cellsFrom_inj (names := r) hl hi h h'
theorem cellsFrom_cell : ∀ {names : List (Str × NameKind)} {h : Heap} {acc : List (Str × Addr)} {n : Str} {c : Addr}, (n, c) ∈ cellsFrom h.objs.size names acc → (n, c) ∈ acc ∨ (pushCells h names).IsCell c none
  | [], _, _, _, _, q => .inl q
  | (m, kd) :: r, h, acc, n, c, q => by
    unfold cellsFrom at q
    unfold pushCells
    by_cases hk : (kd == NameKind.cell) = true
    · rw [if_pos hk] at q
      rw [if_pos hk]
      have e : h.objs.size + 1 = (h.push { cls := .type "cell", data := .cell none }).objs.size := (Heap.size_push ..).symm
      rw [e] at q
      rcases cellsFrom_cell (names := r) q with q | q
      · rcases List.mem_cons.mp q with e' | q
        · cases e'
          exact .inr ⟨_, pushCells_keeps r _ _ _ (Heap.get?_push_size _ rfl), rfl⟩
        · exact .inl q
      · exact .inr q
    · rw [if_neg hk] at q
      rw [if_neg hk]
      exact cellsFrom_cell (names := r) q
theorem cellsFrom_acc {x : Str} : ∀ {names : List (Str × NameKind)} {k : Nat} {acc : List (Str × Addr)}, (x, NameKind.cell) ∉ names → (cellsFrom k names acc).lookup x = acc.lookup x
  | [], _, _, _ => rfl
  | (m, kd) :: r, k, acc, h => by
    unfold cellsFrom
    have hr : (x, NameKind.cell) ∉ r := fun z => h (List.mem_cons_of_mem _ z)
    by_cases hk : (kd == NameKind.cell) = true
    · have hk' : kd = .cell := by simpa using hk
      subst hk'
      rw [if_pos hk, cellsFrom_acc hr, List.lookup_cons]
      have ne : (x == m) = false := by
        cases hb : x == m with
        | false => rfl
        | true => exact absurd (by rw [beq_iff_eq.mp hb]; exact List.mem_cons_self) h
      rw [ne]
    · rw [if_neg hk]
      exact cellsFrom_acc hr
section
variable {M : Model} {A : Around} {E : Value → Shared → Prop} {s : Shared}
theorem newCompEnv_ {scope : Scope} {globals : Addr} {cl : List (Str × Addr)} {qual : Str} {env0 : Env} {Q : Env → Shared → Prop}
    (h : Q (newEnv scope s.heap.objs.size globals (cellsFrom (s.heap.objs.size + 1) scope.names cl) qual none .none (some env0) builtinsNs) { s with heap := pushCells (s.heap.push { cls := .type "dict", data := .dict #[] }) scope.names }) :
    wpAny M A (newFunctionEnv scope globals cl [] qual none .none (some env0)) Q E s := by
  simp only [newFunctionEnv, Option.isSome_some, if_true]
  refine wpAny_bind (wpAny_alloc ?_)
  refine wpAny_bind (wpAny_layCells _ (fun name kind cells => by cases hkc : kind == NameKind.cell <;> simp [hkc]) _ _ _ _ ?_)
  rw [show ({ s with heap := s.heap.push { cls := .type "dict", data := .dict #[] } } : Shared).heap.objs.size = s.heap.objs.size + 1 from Heap.size_push ..]
  refine wpAny_bind ?_
  rw [List.forIn_nil]
  exact wpAny_pure (wpAny_pure h)
end
structure CB where
  C : Addr
  ex : List Addr
  s : Shared
  H : Hp
def cxC (X : Cx) (N : List Str) (scope : Scope) (b : CB) : Cx := { X with
  N := N
  s₀ := b.s
  H₀ := b.H
  env := compEnvC scope (cellsFrom (b.C + 1) scope.names (clOf X.env scope.names)) b.C X.env
  outer := X.stack
  ex := b.ex
  fn := fun x => scope.names.lookup x == some .cell
  pn := []
  xe := fun _ _ => False }
theorem lookup_relabel {env : Env} {x : Str} : ∀ {names : List (Str × NameKind)},
    (names.map fun (n, k) => if (k == NameKind.free && env.scope.kind == .function && env.kindOf n == some .cell) then (n, NameKind.cell) else (n, k)).lookup x =
      (names.lookup x).map fun k => if (k == NameKind.free && env.scope.kind == .function && env.kindOf x == some .cell) then NameKind.cell else k
  | [] => rfl
  | (n, k) :: r => by
    have ih := @lookup_relabel env x r
    show List.lookup x ((if (k == NameKind.free && env.scope.kind == .function && env.kindOf n == some .cell) = true then (n, NameKind.cell) else (n, k)) :: _) = _
    cases hx : x == n with
    | true =>
      have e : x = n := beq_iff_eq.mp hx
      subst e
      by_cases hc : (k == NameKind.free && env.scope.kind == .function && env.kindOf x == some .cell) = true
      · rw [if_pos hc]; simp only [List.lookup_cons, hx, Option.map_some, hc, if_true]
      · rw [if_neg hc]; simp only [List.lookup_cons, hx, Option.map_some]; rw [if_neg hc]
    | false =>
      by_cases hc : (k == NameKind.free && env.scope.kind == .function && env.kindOf n == some .cell) = true
      · rw [if_pos hc]; simp only [List.lookup_cons, hx]; exact ih
      · rw [if_neg hc]; simp only [List.lookup_cons, hx]; exact ih
structure CompOk (psc : Scope) (PN N : List Str) (own : Nat) (fr : List Nat) (scope : Scope) : Prop where
  kind : scope.kind = .function
  nd : (scope.names.map (·.1)).Nodup
  free : ∀ x ∈ scope.names, x.2 = .free → psc.names.lookup x.1 = some .cell ∨ psc.names.lookup x.1 = some .free
  len : N.length = own + fr.length
  frn : ∀ i, i < fr.length → N[own + i]? = (fr[i]?).bind fun j => PN[j]?
  frk : ∀ i, i < fr.length → ∀ y, N[own + i]? = some y → scope.names.lookup y = some .free
def compOkB (psc : Scope) (PN N : List Str) (own : Nat) (fr : List Nat) (scope : Scope) : Bool :=
  scope.kind == .function && decide (scope.names.map (·.1)).Nodup && scope.names.all (fun x => x.2 != .free || (psc.names.lookup x.1 == some .cell || psc.names.lookup x.1 == some .free)) &&
    (N.length == own + fr.length) && ((fr.map fun j => PN[j]?) == (N.drop own).map some) && (N.drop own).all (fun y => scope.names.lookup y == some .free)
theorem CompOk.of {psc : Scope} {PN N : List Str} {own : Nat} {fr : List Nat} {scope : Scope} (h : compOkB psc PN N own fr scope = true) : CompOk psc PN N own fr scope := by
  unfold compOkB at h
  simp only [Bool.and_eq_true] at h
  obtain ⟨⟨⟨⟨⟨h1, h2⟩, h3⟩, h4⟩, h5⟩, h6⟩ := h
  have h4' : N.length = own + fr.length := eq_of_beq h4
  have h5' : (fr.map fun j => PN[j]?) = (N.drop own).map some := eq_of_beq h5
  have dr : ∀ i, N[own + i]? = (N.drop own)[i]? := fun i => by rw [List.getElem?_drop]
  refine ⟨eq_of_beq h1, of_decide_eq_true h2, fun x hx hk => ?_, h4', fun i hi => ?_, fun i hi y hy => ?_⟩
  · have q := List.all_eq_true.mp h3 x hx
    rw [hk] at q
    simpa using q
  · have q := congrArg (fun l => l[i]?) h5'
    simp only [List.getElem?_map] at q
    rw [dr]
    have ej : fr[i]? = some fr[i] := List.getElem?_eq_getElem hi
    rw [ej] at q ⊢
    cases e : (N.drop own)[i]? with
    | none => rw [e] at q; cases q
    | some y =>
      rw [e] at q
      exact (Option.some.inj q).symm
  · rw [dr] at hy
    have q := List.all_eq_true.mp h6 y (List.mem_of_getElem? hy)
    simpa using q
def cSt (own : Nat) (fr : List Nat) (σ : St) : St := List.replicate own none ++ fr.map fun j => (σ[j]?).getD none
theorem nodup_lookup {α : Type} : ∀ {l : List (Str × α)} {n : Str} {k : α}, (l.map (·.1)).Nodup → (n, k) ∈ l → l.lookup n = some k
  | (m, v) :: r, n, k, nd, h => by
    rw [List.map_cons, List.nodup_cons] at nd
    rw [List.lookup_cons]
    rcases List.mem_cons.mp h with e | h
    · cases e; simp
    · have ne : (n == m) = false := by
        cases hb : n == m with
        | false => rfl
        | true => exact absurd (List.mem_map.mpr ⟨(n, k), h, beq_iff_eq.mp hb⟩) nd.1
      rw [ne]
      exact nodup_lookup nd.2 h
section
variable {X : Cx} {pins : List (Addr × Obj)} {σ : St} {H : Hp} {s : Shared} {N : List Str} {own : Nat} {fr : List Nat} {scope : Scope}
theorem CompOk.cells (S : CompOk X.env.scope X.N N own fr scope) (ok : X.Ok) : ∀ x ∈ scope.names, x.2 = .free → ∃ c, X.env.cells.lookup x.1 = some c := fun x hx hk =>
  ok.has x.1 (S.free x hx hk)
theorem CompOk.cl (S : CompOk X.env.scope X.N N own fr scope) (ok : X.Ok) {n : Str} {c : Addr} (h : (n, c) ∈ clOf X.env scope.names) : X.env.cells.lookup n = some c := by
  rcases clOf_mem h with h | ⟨h, e⟩
  · cases h
  · obtain ⟨c', e'⟩ := S.cells ok (n, .free) h rfl
    have e2 : X.env.cells.lookup n = some c' := e'
    rw [e2] at e
    rw [e, e2]
    rfl
theorem inv_comp {D C : Addr} {h' : Heap} {fp : List Addr} (S : CompOk X.env.scope X.N N own fr scope) (I : Inv X pins σ H s) (hD : D = s.heap.objs.size) (hC : C = s.heap.objs.size + 1)
    (hh : h' = pushCells ((s.heap.push { cls := .type "list", data := .seq #[] }).push { cls := .type "dict", data := .dict #[] }) scope.names) (hfp : ∀ b ∈ fp, FpOk X pins H b) (hlt : ∀ b ∈ fp, b < s.heap.objs.size) :
    Inv (cxC X N scope ⟨C, fp, s, H⟩) [] (cSt own fr σ) (upd H D (.lst [])) { s with heap := h' } := by
  subst hD hC
  have eD : (s.heap.push { cls := .type "list", data := .seq #[] }).objs.size = s.heap.objs.size + 1 := Heap.size_push ..
  have eC : ((s.heap.push { cls := .type "list", data := .seq #[] }).push { cls := .type "dict", data := .dict #[] }).objs.size = s.heap.objs.size + 2 := by rw [Heap.size_push, eD]
  have keep : ∀ b o, s.heap.get? b = some o → h'.get? b = some o := fun b o e => by
    rw [hh]
    exact pushCells_keeps _ _ _ _ (Heap.get?_push_of_some _ (Heap.get?_push_of_some _ e))
  have lst : h'.get? s.heap.objs.size = some { cls := .type "list", data := .seq #[] } := by
    rw [hh]
    exact pushCells_keeps _ _ _ _ (Heap.get?_push_of_some _ (Heap.get?_push_size _ rfl))
  have dct : h'.get? (s.heap.objs.size + 1) = some { cls := .type "dict", data := .dict #[] } := by
    rw [hh]
    refine pushCells_keeps _ _ _ _ ?_
    have := Heap.get?_push_size (s.heap.push { cls := .type "list", data := .seq #[] }) (o := { cls := .type "dict", data := .dict #[] }) rfl
    rw [eD] at this
    exact this
  have hnD : H s.heap.objs.size = none := I.hok.fresh (Nat.le_refl _)
  have hnC : H (s.heap.objs.size + 1) = none := I.hok.fresh (Nat.le_succ _)
  have inCl : ∀ {n : Str} {c : Addr}, (n, c) ∈ clOf X.env scope.names → X.env.cells.lookup n = some c := fun h => S.cl I.ok h
  have clt : ∀ {n : Str} {c : Addr}, X.env.cells.lookup n = some c → c < s.heap.objs.size := fun h => by
    obtain ⟨v, z⟩ := I.cell _ _ h
    exact z.lt
  have cases_ : ∀ {n : Str} {c : Addr}, (cellsFrom (s.heap.objs.size + 1 + 1) scope.names (clOf X.env scope.names)).lookup n = some c → X.env.cells.lookup n = some c ∨ (s.heap.objs.size + 2 ≤ c ∧ (n, NameKind.cell) ∈ scope.names ∧ h'.IsCell c none) := fun {n c} h => by
    have hm := PySem.mem_of_lookup h
    have hcell := hm
    rw [show s.heap.objs.size + 1 + 1 = ((s.heap.push { cls := .type "list", data := .seq #[] }).push { cls := .type "dict", data := .dict #[] }).objs.size from eC.symm] at hcell
    rcases cellsFrom_mem hm with h1 | ⟨h1, h2⟩
    · exact .inl (inCl h1)
    · rcases cellsFrom_cell hcell with h3 | h3
      · exact .inl (inCl h3)
      · exact .inr ⟨h1, h2, by rw [hh]; exact h3⟩
  have kindOf : ∀ x, (cxC X N scope ⟨s.heap.objs.size + 1, fp, s, H⟩).env.kindOf x = (scope.names.lookup x).map fun k => if (k == NameKind.free && X.env.scope.kind == .function && X.env.kindOf x == some .cell) then NameKind.cell else k := fun x => lookup_relabel
  have hasName : ∀ x, ((cxC X N scope ⟨s.heap.objs.size + 1, fp, s, H⟩).env.kindOf x = some .cell ∨ (cxC X N scope ⟨s.heap.objs.size + 1, fp, s, H⟩).env.kindOf x = some .free) → ∃ c, (cellsFrom (s.heap.objs.size + 1 + 1) scope.names (clOf X.env scope.names)).lookup x = some c := fun x hx => by
    rw [kindOf] at hx
    have h2 : scope.names.lookup x = some .cell ∨ scope.names.lookup x = some .free := by
      cases e : scope.names.lookup x with
      | none => rw [e] at hx; rcases hx with z | z <;> cases z
      | some k =>
        rw [e] at hx
        by_cases hk : k = .free
        · exact .inr (by rw [hk])
        · have hk' : (k == NameKind.free) = false := by simpa using hk
          simp only [Option.map_some, hk', Bool.false_and, Bool.false_eq_true, if_false] at hx
          rcases hx with z | z
          · exact .inl z
          · exact .inr z
    rcases h2 with h2 | h2
    · exact Option.isSome_iff_exists.mp (PySem.W.cellsFrom_some scope.names _ _ (.inl h2))
    · obtain ⟨c, hc⟩ := lookup_of_mem (clOf_in (env := X.env) (cs := []) (PySem.mem_of_lookup h2))
      exact Option.isSome_iff_exists.mp (PySem.W.cellsFrom_some scope.names _ _ (.inr (by rw [show (clOf X.env scope.names).lookup x = some c from hc]; rfl)))
  have cellAt : ∀ x c, (cellsFrom (s.heap.objs.size + 1 + 1) scope.names (clOf X.env scope.names)).lookup x = some c → ∃ v, h'.IsCell c v := fun x c e => by
    rcases cases_ e with q | ⟨_, _, q⟩
    · obtain ⟨v, o, ho, hd⟩ := I.cell x c q
      exact ⟨v, o, keep c o ho, hd⟩
    · exact ⟨none, q⟩
  refine ⟨⟨I.ok.mod, S.kind, I.ok.glob, I.ok.blt, Nat.le_succ _, fun y z c h1 h2 => ?_, hasName, fun y c hy h => ?_, I.ok.hd, I.ok.frames, .inl rfl, fun b hb => ⟨?_, fun x c e z => ?_⟩, fun b o e => I.bs b o e, Nat.le_trans I.ok.bsz I.sz, fun b o e hb => ?_, fun b hb hf => ?_, I.stack, I.stkFree⟩,
    rfl, I.bare, ?_, ⟨fun _ => none, ⟨_, #[], _, dct, rfl, fun e he => absurd he (by simp), fun _ => rfl⟩, fun i x v h1 h2 h3 => ?_⟩, cellAt, ?_, fun x c e => ?_, fun p hp => absurd (show p ∈ ([] : List (Addr × Obj)) from hp) (by simp), ?_, ?_⟩
  ·
    refine cellsFrom_inj (fun n c hm => ?_) (fun n n' c hm hm' => I.ok.inj n n' c (inCl hm) (inCl hm')) (PySem.mem_of_lookup h1) (PySem.mem_of_lookup h2)
    exact Nat.lt_succ_of_lt (Nat.lt_succ_of_lt (clt (inCl hm)))
  ·
    have hy' : scope.names.lookup y = some .cell := by simpa using (show (scope.names.lookup y == some .cell) = true from hy)
    rcases cases_ h with q | ⟨q, _⟩
    · rcases cellsFrom_mem (PySem.mem_of_lookup h) with q2 | ⟨q2, _⟩
      · rcases clOf_mem q2 with z | ⟨z, _⟩
        · cases z
        · have := nodup_lookup S.nd z
          rw [hy'] at this
          cases this
      · exact Nat.le_trans (Nat.le_add_right _ 2) q2
    · exact Nat.le_trans (Nat.le_add_right _ 2) q
  · exact Nat.ne_of_lt (Nat.lt_succ_of_lt (hlt b hb))
  · rcases cases_ e with q | ⟨q, _⟩
    · exact (hfp b hb).2.2.2.2.1 x c q z
    · have hb' := hlt b hb
      rw [← z] at hb'
      exact absurd (Nat.lt_of_lt_of_le hb' (Nat.le_trans (Nat.le_add_right _ 2) q)) (Nat.lt_irrefl _)
  · rcases (hfp b hb).2.2.2.1 with z | z
    · exact I.ok.noex b o e z
    · exact Nat.lt_irrefl _ (Nat.lt_of_lt_of_le (Heap.lt_size e) (Nat.le_trans I.ok.bsz z))
  · rcases List.mem_cons.mp (I.stkSub b hf) with z | z
    · exact (hfp b hb).2.1 z
    · exact (hfp b hb).2.2.1 z
  · exact Un.laid keep (Nat.le_refl _) hnD
  ·
    have h1 : N[i]? = some x := h1
    have hlen : i < N.length := (List.getElem?_eq_some_iff.mp h1).1
    by_cases hi : i < own
    · exfalso
      have h2' : (cSt own fr σ)[i]? = some none := by
        unfold cSt
        rw [List.getElem?_append_left (by simpa using hi), List.getElem?_replicate, if_pos hi]
      rw [h2'] at h2
      cases h2
    · have hfi : i - own < fr.length := by have := S.len; omega
      have ei : own + (i - own) = i := by omega
      have hk := S.frk (i - own) hfi x (by rw [ei]; exact h1)
      have hn := S.frn (i - own) hfi
      rw [ei, h1] at hn
      have ej : fr[i - own]? = some fr[i - own] := List.getElem?_eq_getElem hfi
      rw [ej] at hn
      have hn' : X.N[fr[i - own]]? = some x := hn.symm
      have h2' : (cSt own fr σ)[i]? = some ((σ[fr[i - own]]?).getD none) := by
        unfold cSt
        rw [List.getElem?_append_right (by simpa using Nat.not_lt.mp hi), List.length_replicate, List.getElem?_map, ej]
        rfl
      rw [h2'] at h2
      have h2'' : (σ[fr[i - own]]?).getD none = some v := Option.some.inj h2
      have hσ : σ[fr[i - own]]? = some (some v) := by
        cases e : σ[fr[i - own]]? with
        | none => rw [e] at h2''; cases h2''
        | some w => rw [e] at h2''; exact congrArg some h2''
      obtain ⟨m, hm, hl⟩ := I.loc
      have hfree := S.free (x, .free) (PySem.mem_of_lookup hk) rfl
      obtain ⟨u, r, l⟩ := hl _ x v hn' hσ (hfree.elim (fun z => .inr (.inl z)) fun z => .inr (.inr z))
      refine ⟨u, r, .inr ?_⟩
      have hcell : ∃ c, X.env.cells.lookup x = some c ∧ s.heap.IsCell c (some u) := by
        rcases l with ⟨l, _⟩ | ⟨_, c, e, z⟩
        · exfalso
          rcases hfree with z | z
          · have l' : X.env.scope.names.lookup x = some .local := l
            have z' : X.env.scope.names.lookup x = some .cell := z
            rw [l'] at z'; cases z'
          · have l' : X.env.scope.names.lookup x = some .local := l
            have z' : X.env.scope.names.lookup x = some .free := z
            rw [l'] at z'; cases z'
        · exact ⟨c, e, z⟩
      obtain ⟨c, e, o, ho, hd⟩ := hcell
      refine ⟨?_, c, ?_, o, keep c o ho, hd⟩
      · rw [kindOf, hk]
        by_cases z : (X.env.scope.kind == .function && X.env.kindOf x == some .cell) = true
        · left
          simp only [Option.map_some, beq_self_eq_true, Bool.true_and, z, if_true]
        · right
          simp only [Option.map_some, beq_self_eq_true, Bool.true_and]
          rw [if_neg z]
      · show (cellsFrom (s.heap.objs.size + 1 + 1) scope.names (clOf X.env scope.names)).lookup x = some c
        rw [cellsFrom_acc fun z => by
          have := nodup_lookup S.nd z
          rw [hk] at this
          cases this]
        obtain ⟨c', hc'⟩ := lookup_of_mem (clOf_in (env := X.env) (cs := []) (PySem.mem_of_lookup hk))
        have hc2 : (clOf X.env scope.names).lookup x = some c' := hc'
        rw [hc2]
        have := inCl (PySem.mem_of_lookup hc2)
        rw [e] at this
        exact this.symm
  · show upd H s.heap.objs.size (.lst []) (s.heap.objs.size + 1) = none
    rw [upd_ne (Nat.ne_of_gt (Nat.lt_succ_self _))]
    exact hnC
  · rcases cases_ e with q | ⟨q, _⟩
    · have := clt q
      rw [upd_ne (Nat.ne_of_lt this)]
      exact I.freeC x c q
    · rw [upd_ne (Nat.ne_of_gt (Nat.lt_of_lt_of_le (Nat.lt_add_of_pos_right (by decide)) q))]
      exact I.hok.fresh (Nat.le_trans (Nat.le_add_right _ 2) q)
  · exact I.hok.laid keep (Nat.le_refl _) ⟨Nat.zero_le _, [], 0, .nil, lst⟩
  · show (cSt own fr σ).length = N.length
    unfold cSt
    rw [List.length_append, List.length_replicate, List.length_map, S.len]
end
def PF (X : Cx) (ifs : List Expr) (t : TT) : Prop :=
  ∀ (pins : List (Addr × Obj)) (s : Shared) (σ : St) (H : Hp) (Q : Bool → Hp → Prop), Inv X pins σ H s → t σ H Q →
    wpAny (model X.prog X.w) X.A (forIn ifs true fun c r => if r = true then do let ok ← isTrue c X.env (eval c X.env); pure (ForInStep.yield ok) else pure (ForInStep.yield r)) (TP X pins σ Q) X.xe s
def tYes : TT := fun _ H Q => Q true H
theorem pf_nil {X : Cx} : PF X [] tYes := fun _ _ _ H _ I h => wpAny_tests_nil ⟨H, I, h⟩
theorem compLoop_any {prog : Program} {w : World} {A : Around} {R : Result → Shared → Prop} {s : Shared} {elt target iter : Expr} {ifs : List Expr} {scope : Scope} {pos : Pos} {it acc : Value} {env : Env} (I : Nat → Shared → Prop)
    (turn : ∀ n s, I n s → wpAny (model prog w) A (pyNext it) (fun r s₁ => match r with
      | none => R (.ok .next) s₁
      | some v => wpAny (model prog w) A (letOwnedTupleGo target it v) (fun _ s₁' => wpAny (model prog w) A (assign target env v) (fun _ s₂ =>
          wpAny (model prog w) A (forIn ifs true fun c r => if r = true then do let ok ← isTrue c env (eval c env); pure (ForInStep.yield ok) else pure (ForInStep.yield r)) (fun ok s₃ =>
            if ok = true then wpAny (model prog w) A (eval elt env) (fun x s₄ =>
              wpAny (model prog w) A (call (.builtin "list.append") [acc, x]) (fun _ s₅ => ∃ m, m < n ∧ I m s₅) (fun _ _ => False) s₄) (fun _ _ => False) s₃
            else ∃ m, m < n ∧ I m s₃) (fun _ _ => False) s₂) (fun _ _ => False) s₁') (fun _ _ => False) s₁) (fun _ _ => False) s)
    (n : Nat) (h : I n s) :
    codeAny (model prog w) A (.compLoop (.ListComp elt [⟨target, iter, ifs, 0⟩] scope pos) 0 it acc env) R s := by
  refine codeAny_loop rfl I (fun n s hI => ?_) n h
  show wpAny _ A ((compTurn (.ListComp elt [⟨target, iter, ifs, 0⟩] scope pos) 0 it acc env).onRaise (fun x => do noteFrame x env; theTreesLotGoes x)) _ _ s
  refine wpAny_noted ?_
  rw [compTurn_list]
  have no : ∀ {α : Type} {t : Sem α} {Q : α → Shared → Prop} {E' : Value → Shared → Prop} {s' : Shared}, wpAny (model prog w) A t Q (fun _ _ => False) s' → wpAny (model prog w) A t Q E' s' := fun h => wpAny_mono h (fun _ _ q => q) fun _ _ z => z.elim
  refine wpAny_bind (wpAny_standAt (wpAny_bind (no (wpAny_mono (turn n s hI) (fun r s₁ h₁ => ?_) fun _ _ h' => h'))))
  cases r with
  | none => exact wpAny_pure h₁
  | some v =>
    refine wpAny_bind (no (wpAny_mono h₁ (fun _ s₁' h₁' => ?_) fun _ _ h' => h'))
    refine wpAny_bind (no (wpAny_mono h₁' (fun _ s₂ h₂ => wpAny_bind (no (wpAny_mono h₂ (fun ok s₃ h₃ => ?_) fun _ _ h' => h'))) fun _ _ h' => h'))
    cases ok with
    | false => exact wpAny_pure ⟨rfl, h₃⟩
    | true =>
      exact wpAny_bind (wpAny_bind (no (wpAny_mono h₃ (fun x s₄ h₄ => wpAny_bind (no (wpAny_mono h₄ (fun _ s₅ h₅ => wpAny_pure (wpAny_pure ⟨rfl, h₅⟩)) fun _ _ h' => h'))) fun _ _ h' => h')))
structure tBlock (J : It) (own : Nat) (fr : List Nat) (g : CB → TG) (tf : CB → TT) (te : CB → TE) (Q : VK) (σ : St) (H1 : Hp) : Prop where
  go : ∀ (b : CB) (D : Addr), H1 D = none → ∃ W : Nat → Nat → St → Hp → Prop, (∃ m, W 0 m (cSt own fr σ) (upd H1 D (.lst []))) ∧ ∀ i m σ' H', W i m σ' H' →
    (J.stop i H' ∧ Q (.ref D) H') ∨ (J.go i H' ∧ ∃ M : St → Hp → Prop, (∀ σ2 H2, M σ2 H2 → ∃ m', m' < m ∧ W (i + 1) m' σ2 H2) ∧ ∀ x H2, J.yld i H' x H2 → g b x σ' H2 fun σ3 H3 => tf b σ3 H3 fun k H4 =>
      if k = true then te b σ3 H4 fun y H5 => ∃ ys, H5 D = some (.lst ys) ∧ ys.length < sizeLine ∧ M σ3 (upd H5 D (.lst (ys ++ [y]))) else M σ3 H4)
def tComp (wi : TI) (own : Nat) (fr : List Nat) (g : CB → TG) (tf : CB → TT) (te : CB → TE) : TE := fun σ H Q => wi σ H fun J H1 => tBlock J own fr g tf te Q σ H1
section
variable {X : Cx} {tg iter elt : Expr} {ifs : List Expr} {scope : Scope} {pos : Pos} {N : List Str} {own : Nat} {fr : List Nat} {wi : TI} {g : CB → TG} {tf : CB → TT} {te : CB → TE}
theorem comp_run {use : Option (Value → Sem Unit)} {R : Value → Shared → Prop} {pins : List (Addr × Obj)} {s : Shared} {σ : St} {H : Hp} {Q : VK} (S : CompOk X.env.scope X.N N own fr scope) (hc : X.calm = true) (hi : PI X tg iter wi)
    (hg : ∀ b, PG (cxC X N scope b) tg (g b)) (hf : ∀ b, PF (cxC X N scope b) ifs (tf b)) (he : ∀ b, PE (cxC X N scope b) elt (te b)) (hs : ∀ x, foldedSetIterable iter X.env x = pure x) (I : Inv X pins σ H s) (h : tComp wi own fr g tf te σ H Q)
    (fin : ∀ (D C : Addr) (oC : Obj) (m : Str → Option Value) (H' : Hp) (s' : Shared), Inv X (pins ++ [(C, oC)]) σ H' s' → X.s₀.heap.objs.size ≤ C → (∀ p ∈ X.pn ++ pins, p.1 ≠ C) → (∀ h' : Heap, h'.get? C = some oC → h'.Ns C m) → Q (.ref D) H' → compPost (model X.prog X.w) X.A X.xe use R (.ref D) C (.ok .next) s') :
    wpAny (model X.prog X.w) X.A (comprehension (.ListComp elt [⟨tg, iter, ifs, 0⟩] scope pos) scope X.env (firstIterPos [⟨tg, iter, ifs, 0⟩] pos) (newList []) false (eval iter X.env) use) R X.xe s := by
  refine wpAny_comprehension_free rfl hs (closureFor_clOf (S.cells I.ok)) S.kind (fun x hx hk => ?_) (thn (hi pins s σ H _ I h) fun v s1 h1 => thn h1 fun itv s2 h2 => ?_)
  · have := nodup_lookup S.nd (show (x.1, x.2) ∈ scope.names from hx)
    rw [this, hk]
  obtain ⟨it, fp, tn, J, H2, e, I2, T, st2, f2, q⟩ := h2
  subst e
  refine wpAny_newObj_type ?_
  refine newCompEnv_ ?_
  have eD : (s2.heap.push { cls := .type "list", data := .seq #[] }).objs.size = s2.heap.objs.size + 1 := Heap.size_push ..
  have hD : H2 s2.heap.objs.size = none := I2.hok.fresh (Nat.le_refl _)
  have hlt : ∀ b ∈ fp, b < s2.heap.objs.size := fun b hb => by
    obtain ⟨o, ho, _⟩ := T.obj 0 _ st2 b hb
    exact Heap.lt_size ho
  obtain ⟨W, ⟨m0, w0⟩, turn⟩ := q.go ⟨s2.heap.objs.size + 1, fp, s2, H2⟩ s2.heap.objs.size hD
  have IX := inv_comp (fp := fp) S I2 rfl rfl rfl f2 hlt
  have st4 : tn 0 (pushCells ((s2.heap.push { cls := .type "list", data := .seq #[] }).push { cls := .type "dict", data := .dict #[] }) scope.names) :=
    T.keep 0 _ _ st2 fun b _ o e => pushCells_keeps _ _ _ _ (Heap.get?_push_of_some _ (Heap.get?_push_of_some _ e))
  have fr0 : ∀ b ∈ fp, upd H2 s2.heap.objs.size (.lst []) b = none := fun b hb => by
    rw [upd_ne (Nat.ne_of_lt (hlt b hb))]
    exact (f2 b hb).1
  have cne : ∀ b ∈ fp, ∀ x c, (cxC X N scope ⟨s2.heap.objs.size + 1, fp, s2, H2⟩).env.cells.lookup x = some c → c ≠ b := fun b hb => ((IX.ok.exf b hb).2)
  have stat : ∀ {H' : Hp}, (∀ b ∈ fp, H' b = none) → ∀ b ∈ fp, FpOk (cxC X N scope ⟨s2.heap.objs.size + 1, fp, s2, H2⟩) [] H' b := fun hn b hb =>
    ⟨hn b hb, (IX.ok.exf b hb).1, IX.ok.exfs b hb, .inl hb, cne b hb, fun p hp => absurd (show p ∈ ([] : List (Addr × Obj)) from hp) (by simp)⟩
  have e4 : ∀ cenv : Env, cenv = newEnv scope (s2.heap.push { cls := .type "list", data := .seq #[] }).objs.size X.env.globals (cellsFrom ((s2.heap.push { cls := .type "list", data := .seq #[] }).objs.size + 1) scope.names (clOf X.env scope.names)) X.env.qual none .none (some X.env) builtinsNs →
      ({ cenv with scope := relabel scope X.env } : Env) = (cxC X N scope ⟨s2.heap.objs.size + 1, fp, s2, H2⟩).env ∧ cenv.locals = s2.heap.objs.size + 1 := fun cenv e => by
    subst e
    rw [eD]
    exact ⟨rfl, rfl⟩
  obtain ⟨e5, e6⟩ := e4 _ rfl
  have loop : codeAny (model X.prog X.w) X.A (.compLoop (.ListComp elt [⟨tg, iter, ifs, 0⟩] scope pos) 0 (.ref it) (.ref s2.heap.objs.size) (cxC X N scope ⟨s2.heap.objs.size + 1, fp, s2, H2⟩).env)
      (compPost (model X.prog X.w) X.A X.xe use R (.ref s2.heap.objs.size) (s2.heap.objs.size + 1)) { s2 with heap := pushCells ((s2.heap.push { cls := .type "list", data := .seq #[] }).push { cls := .type "dict", data := .dict #[] }) scope.names } := by
    refine compLoop_any (fun n s' => ∃ i σ' H', Inv (cxC X N scope ⟨s2.heap.objs.size + 1, fp, s2, H2⟩) [] σ' H' s' ∧ tn i s'.heap ∧ (∀ b ∈ fp, H' b = none) ∧ W i n σ' H') ?_ m0 ⟨0, _, _, IX, st4, fr0, w0⟩
    rintro n s5 ⟨i, σ5, H5, I5, st5, fr5, w5⟩
    rcases turn i n σ5 H5 w5 with ⟨stop, qn⟩ | ⟨go, M, hM, step⟩
    · refine thn (T.done (cxC X N scope ⟨s2.heap.objs.size + 1, fp, s2, H2⟩) rfl rfl rfl hc i [] s5 σ5 H5 (fun _ _ => False) I5 (stat fr5) st5 stop) fun r s6 ⟨hr, I6⟩ => ?_
      subst hr
      obtain ⟨m, hn, _⟩ := I6.loc
      obtain ⟨oC, es, ep, hoC, hd, hk, hm⟩ := id hn
      have IB : Inv X pins σ H5 s6 := I2.call' (ch := fp) I6.os I6.base I6.hok I6.bare fun b hb => ⟨(f2 b hb).2.2.2.1, (f2 b hb).2.1, (f2 b hb).2.2.2.2.1, (f2 b hb).2.2.2.2.2⟩
      have young : s2.heap.objs.size ≤ s2.heap.objs.size + 1 := Nat.le_succ _
      refine fin s2.heap.objs.size (s2.heap.objs.size + 1) oC m H5 s6 (IB.pins_of fun p hp => ?_) (Nat.le_trans I2.sz young) (fun p hp => Nat.ne_of_lt (Nat.lt_of_lt_of_le (Heap.lt_size (I2.pin p hp).1) young)) (fun h' e => ⟨oC, es, ep, e, hd, hk, hm⟩) qn
      rcases List.mem_append.mp hp with z | z
      · exact IB.pin p (List.mem_append_right _ z)
      · have ep' : p = (s2.heap.objs.size + 1, oC) := by simpa using z
        subst ep'
        exact ⟨hoC, I6.free, Nat.ne_of_gt (Nat.lt_of_lt_of_le I2.lt young), I2.nofs young, fun v z => by rw [hd] at z; cases z⟩
    · refine thn (T.item (cxC X N scope ⟨s2.heap.objs.size + 1, fp, s2, H2⟩) rfl rfl rfl hc i [] s5 σ5 H5 (fun _ _ => False) I5 (stat fr5) st5 go) fun r s6 ⟨u, hr, h6⟩ => ?_
      subst hr
      refine thn h6 fun _ s7 ⟨x, H7, I7, r7, y7, st7, fr7⟩ => ?_
      have I7' := I7.pinned (stat fr7) (T.obj _ _ st7)
      refine thn (hg _ _ s7 σ5 H7 x u _ I7' r7 (step x H7 y7)) fun _ s8 ⟨σ8, H8, I8, q8⟩ => ?_
      refine thn (hf _ _ s8 σ8 H8 _ I8 q8) fun k s9 ⟨H9, I9, q9⟩ => ?_
      have again : ∀ {H10 : Hp} {s10 : Shared}, Inv (cxC X N scope ⟨s2.heap.objs.size + 1, fp, s2, H2⟩) ([] ++ pinsAt fp s7.heap) σ8 H10 s10 → M σ8 H10 →
          ∃ m, m < n ∧ ∃ i σ' H', Inv (cxC X N scope ⟨s2.heap.objs.size + 1, fp, s2, H2⟩) [] σ' H' s10 ∧ tn i s10.heap ∧ (∀ b ∈ fp, H' b = none) ∧ W i m σ' H' := fun {H10 s10} I10 q10 => by
        obtain ⟨m', hm, w10⟩ := hM σ8 H10 q10
        refine ⟨m', hm, i + 1, σ8, H10, I10.unpinned, T.keep _ _ _ st7 fun b hb o e => (I10.pin (b, o) (List.mem_append_right _ (List.mem_append_right _ (mem_pinsAt hb e)))).1, fun b hb => ?_, w10⟩
        obtain ⟨o, e, d⟩ := T.obj _ _ st7 b hb
        exact (I10.pin (b, o) (List.mem_append_right _ (List.mem_append_right _ (mem_pinsAt hb e)))).2.1
      cases k with
      | false => exact again I9 q9
      | true =>
        refine thn (he _ _ s9 σ8 H9 _ I9 q9) fun w10 s10 ⟨y, H10, I10, r10, ys, hys, hz, q10⟩ => ?_
        refine thn (mt_append _ s10 σ8 H10 (.ref s2.heap.objs.size) [y] (.ref s2.heap.objs.size) [w10] (fun _ H' => M σ8 H') I10 rfl (.cons r10 .nil) ⟨_, ys, y, rfl, rfl, hys, hz, q10⟩) fun _ s11 ⟨_, H11, I11, _, q11⟩ => ?_
        exact again I11 q11
  have go : codeAny (model X.prog X.w) X.A (.compStart (.ListComp elt [⟨tg, iter, ifs, 0⟩] scope pos) 0 (.ref it) (.ref s2.heap.objs.size) (cxC X N scope ⟨s2.heap.objs.size + 1, fp, s2, H2⟩).env)
      (compPost (model X.prog X.w) X.A X.xe use R (.ref s2.heap.objs.size) (s2.heap.objs.size + 1)) { s2 with heap := pushCells ((s2.heap.push { cls := .type "list", data := .seq #[] }).push { cls := .type "dict", data := .dict #[] }) scope.names } :=
    codeAny_compStart_list loop (T.self _ 0 _ _ _ st4 loop)
  have fin2 : ∀ (env' : Env) (L : Addr), env' = (cxC X N scope ⟨s2.heap.objs.size + 1, fp, s2, H2⟩).env → L = s2.heap.objs.size + 1 →
      codeAny (model X.prog X.w) X.A (.compStart (.ListComp elt [⟨tg, iter, ifs, 0⟩] scope pos) 0 (.ref it) (.ref s2.heap.objs.size) env') (compPost (model X.prog X.w) X.A X.xe use R (.ref s2.heap.objs.size) L)
        { s2 with heap := pushCells ((s2.heap.push { cls := .type "list", data := .seq #[] }).push { cls := .type "dict", data := .dict #[] }) scope.names } := by
    intro env' L h1 h2
    subst h1 h2
    exact go
  exact fin2 _ _ e5 e6
theorem comp_gone {pins : List (Addr × Obj)} {C : Addr} {oC : Obj} {σ' : St} {H' : Hp} {s' : Shared} {h' : Heap} (I : Inv X (pins ++ [(C, oC)]) σ' H' s') (hy : X.s₀.heap.objs.size ≤ C) (hp : ∀ p ∈ X.pn ++ pins, p.1 ≠ C) (sb : Heap.SameBut C s'.heap h') :
    Inv X pins σ' H' { s' with heap := h' } := by
  have pC := I.pin (C, oC) (List.mem_append_right _ (List.mem_append_right _ (by simp)))
  have I2 : Inv X pins σ' H' s' := I.unpinned
  refine I2.turned (it := C) (t' := s'.toks) (fun b o hb e => (sb.2 b hb).trans e) pC.2.1 pC.2.2.1 (.inr hy) (fun x c e z => ?_) hp
  obtain ⟨v, o, ho, hd⟩ := I2.cell x c e
  rw [z, pC.1] at ho
  cases ho
  exact pC.2.2.2.2 v hd
theorem pe_comp (S : CompOk X.env.scope X.N N own fr scope) (hc : X.calm = true) (hi : PI X tg iter wi) (hg : ∀ b, PG (cxC X N scope b) tg (g b)) (hf : ∀ b, PF (cxC X N scope b) ifs (tf b)) (he : ∀ b, PE (cxC X N scope b) elt (te b))
    (hs : ∀ x, foldedSetIterable iter X.env x = pure x := by intro _; rfl) : PE X (.ListComp elt [⟨tg, iter, ifs, 0⟩] scope pos) (tComp wi own fr g tf te) := by
  intro pins s σ H Q I h
  rw [eval_ListComp]
  refine comp_run (use := none) S hc hi hg hf he hs I h fun D C oC m H' s' I' hy hp hm q => ?_
  have pC := I'.pin (C, oC) (List.mem_append_right _ (List.mem_append_right _ (by simp)))
  exact ⟨m, hm _ pC.1, fun h' sb => ⟨.ref D, H', comp_gone I' hy hp sb, rfl, q⟩⟩
end
end L2

set_option Elab.async false
set_option linter.all false
set_option maxRecDepth 100000
namespace L2
open PySem PySem.Spec PyProof.Rows
theorem PE.imp {X : Cx} {e : Expr} {t t' : TE} (h : PE X e t) (k : ∀ σ H Q, t' σ H Q → t σ H Q) : PE X e t' := fun pins s σ H Q I q => h pins s σ H Q I (k σ H Q q)
theorem OpR.imp {X : Cx} {f : Value → Value → Sem Value} {r r' : R2} (h : OpR X f r) (k : ∀ x y H Q, r' x y H Q → r x y H Q) : OpR X f r' := fun pins s σ H x y v u Q I rx ry q => h pins s σ H x y v u Q I rx ry (k x y H Q q)
def fVar (i : Nat) : TE := fun σ H Q => match σ[i]? with
  | some (some v) => Q v H
  | _ => False
section
variable {X : Cx}
theorem fv (i : Nat) {x : Str} {pos : Pos} (hN : X.N[i]? = some x := by rfl) (hv : Vis X.env.scope x := by first | exact Or.inl rfl | exact Or.inr (Or.inl rfl) | exact Or.inr (Or.inr rfl)) (hd : (x == ("__debug__" : Str)) = false := by decide)
    (hcd : (x == ("__classdict__" : Str)) = false := by decide) : PE X (.Name x pos) (fVar i) := (pe_var hN hv hd hcd).imp fun σ H Q q => by
  unfold fVar at q
  cases e : σ[i]? with
  | none => rw [e] at q; exact q.elim
  | some o =>
    cases o with
    | none => rw [e] at q; exact q.elim
    | some v => rw [e] at q; exact ⟨v, e, q⟩
def fAdd : R2 := fun x y H Q => match x, y with
  | .int i, .int j => Q (.int (i + j)) H
  | .str a, .str b => a.length + b.length ≤ sizeLine ∧ Q (.str (a ++ b)) H
  | .ref p, .ref q => rCat (.ref p) (.ref q) H Q
  | _, _ => False
theorem o_add : OpR X (binaryOp .Add) fAdd := by
  intro pins s σ H x y v u Q I rx ry h
  cases x with
  | int i =>
    cases y with
    | int j => exact op_add pins s σ H _ _ v u Q I rx ry ⟨i, j, rfl, rfl, h⟩
    | _ => exact (show False from h).elim
  | str a =>
    cases y with
    | str b => exact op_add_str pins s σ H _ _ v u Q I rx ry ⟨a, b, rfl, rfl, h.1, h.2⟩
    | _ => exact (show False from h).elim
  | ref p =>
    cases y with
    | ref q => exact op_cat pins s σ H _ _ v u Q I rx ry h
    | _ => exact (show False from h).elim
  | _ => cases y <;> exact (show False from h).elim
def fInt (C : Int → Int → Prop) (g : Int → Int → V) : R2 := fun x y H Q => match x, y with
  | .int i, .int j => C i j ∧ Q (g i j) H
  | _, _ => False
def fInt0 (g : Int → Int → V) : R2 := fun x y H Q => match x, y with
  | .int i, .int j => Q (g i j) H
  | _, _ => False
theorem OpR.fInt {f : Value → Value → Sem Value} {C : Int → Int → Prop} {g : Int → Int → V} (h : OpR X f (rI C g)) : OpR X f (fInt C g) := h.imp fun x y H Q q => by
  cases x with
  | int i =>
    cases y with
    | int j => exact ⟨i, j, rfl, rfl, q.1, q.2⟩
    | _ => exact (show False from q).elim
  | _ => cases y <;> exact (show False from q).elim
theorem OpR.fInt0 {f : Value → Value → Sem Value} {g : Int → Int → V} (h : OpR X f (rI0 g)) : OpR X f (fInt0 g) := h.imp fun x y H Q q => by
  cases x with
  | int i =>
    cases y with
    | int j => exact ⟨i, j, rfl, rfl, q⟩
    | _ => exact (show False from q).elim
  | _ => cases y <;> exact (show False from q).elim
theorem o_sub : OpR X (binaryOp .Sub) (fInt0 fun i j => .int (i - j)) := op_sub.fInt0
theorem o_mul : OpR X (binaryOp .Mult) (fInt CMul fun i j => .int (i * j)) := op_mul.fInt
def CDivW (_ j : Int) : Prop := 0 < j ∧ j < 2 ^ 64
theorem log2_64 {j : Int} (h : CDivW 0 j) : j.natAbs.log2 < 9000 := by
  have h1 : j.natAbs < 2 ^ 64 := by
    have h2 : j < 2 ^ 64 := h.2
    have h3 : 0 < j := h.1
    omega
  have h0 : j.natAbs ≠ 0 := by have h3 : 0 < j := h.1; omega
  have := (Nat.log2_lt h0).mpr h1
  omega
theorem o_fdiv : OpR X (binaryOp .FloorDiv) (fInt CDivW fun i j => .int (i / j)) := (opI fun i j _ _ _ _ _ hc q => by
  have h1 : (0 : Int) < j := hc.1
  exact floordiv_int (by omega) (by rw [Int.fdiv_eq_ediv_of_nonneg i (by omega)]; exact q) (.inl (PyProof.noPylong_of_log2 (log2_64 hc)))).fInt
theorem o_mod : OpR X (binaryOp .Mod) (fInt (fun _ j => 0 < j) fun i j => .int (i % j)) := op_mod.fInt
theorem o_pow : OpR X (binaryOp .Pow) (fInt CPow fun i j => .int (i ^ j.toNat)) := op_pow.fInt
theorem o_lt : OpR X (compareOp .Lt) (fInt0 fun i j => .bl (decide (i < j))) := op_lt.fInt0
theorem o_le : OpR X (compareOp .LtE) (fInt0 fun i j => .bl (decide (i ≤ j))) := op_le.fInt0
theorem o_gt : OpR X (compareOp .Gt) (fInt0 fun i j => .bl (decide (j < i))) := op_gt.fInt0
theorem o_ge : OpR X (compareOp .GtE) (fInt0 fun i j => .bl (decide (j ≤ i))) := op_ge.fInt0
mutual
inductive RepD (K : PySem.W.Frag) (H : Hp) : V → PyData → Prop where
  | non : RepD K H .non .none
  | bl (b : Bool) : RepD K H (.bl b) (.bool b)
  | int (i : Int) : RepD K H (.int i) (.int i)
  | str (x : Str) : RepD K H (.str x) (.str x)
  | lst {a : Addr} {xs : List V} {ds : List PyData} (h : SqL K H a xs) (r : RepAll K H xs ds) : RepD K H (.ref a) (.list ds)
  | tup {a : Addr} {xs : List V} {ds : List PyData} (h : SqT K H a xs) (r : RepAll K H xs ds) : RepD K H (.ref a) (.tuple ds)
inductive RepAll (K : PySem.W.Frag) (H : Hp) : List V → List PyData → Prop where
  | nil : RepAll K H [] []
  | cons {x : V} {xs : List V} {d : PyData} {ds : List PyData} (h : RepD K H x d) (r : RepAll K H xs ds) : RepAll K H (x :: xs) (d :: ds)
end
mutual
theorem Inv.reads {pins : List (Addr × Obj)} {σ : St} {H : Hp} {s : Shared} (I : Inv X pins σ H s) : ∀ {x : V} {d : PyData} {u : Value}, RepD X.K H x d → RelV x u → ∃ as, Reads s.heap u d as
  | _, _, _, .non, r => by cases r; exact ⟨_, .none⟩
  | _, _, _, .bl b, r => by cases r; exact ⟨_, .bool b⟩
  | _, _, _, .int i, r => by obtain ⟨t, rfl⟩ := r; exact ⟨_, .int i t⟩
  | _, _, _, .str x, r => by obtain ⟨t, rfl⟩ := r; exact ⟨_, .str x t⟩
  | _, _, _, .lst h q, r => by
    cases r
    obtain ⟨its, rv, ⟨o, n, e, hc, _, hd⟩, _⟩ := I.list h
    obtain ⟨as, z⟩ := I.readsAll q rv
    exact ⟨_, .list e hc hd (by simpa using z)⟩
  | _, _, _, .tup h q, r => by
    cases r
    obtain ⟨its, rv, ⟨o, e, hc, n, hd⟩, _⟩ := I.tuple h
    obtain ⟨as, z⟩ := I.readsAll q rv
    exact ⟨_, .tuple e hc hd (by simpa using z)⟩
theorem Inv.readsAll {pins : List (Addr × Obj)} {σ : St} {H : Hp} {s : Shared} (I : Inv X pins σ H s) : ∀ {xs : List V} {ds : List PyData} {us : List Value}, RepAll X.K H xs ds → Vals xs us → ∃ as, ReadsAll s.heap us ds as
  | _, _, _, .nil, r => by cases r; exact ⟨_, .nil⟩
  | _, _, _, .cons h q, r => by
    cases r with
    | cons r1 r2 =>
      obtain ⟨as, z⟩ := I.reads h r1
      obtain ⟨bs, z2⟩ := I.readsAll q r2
      exact ⟨_, .cons z z2⟩
end
def fEq (K : PySem.W.Frag) : R2 := fun x y H Q => match x, y with
  | .ref p, .ref q => ∃ d e, RepD K H (.ref p) d ∧ RepD K H (.ref q) e ∧ SeqAt.shaped d = true ∧ SeqAt.shaped e = true ∧ Q (.bl (PyData.eqv d e)) H
  | x, y => scal x y = true ∧ Q (.bl (decide (x = y))) H
def fNe (K : PySem.W.Frag) : R2 := fun x y H Q => match x, y with
  | .ref p, .ref q => ∃ d e, RepD K H (.ref p) d ∧ RepD K H (.ref q) e ∧ SeqAt.shaped d = true ∧ SeqAt.shaped e = true ∧ Q (.bl (!PyData.eqv d e)) H
  | x, y => scal x y = true ∧ Q (.bl (!decide (x = y))) H
theorem o_eq (hu : X.A.units + 64 < cLine) : OpR X (compareOp .Eq) (fEq X.K) := by
  intro pins s σ H x y v u Q I rx ry h
  by_cases hr : ∃ p q, x = V.ref p ∧ y = V.ref q
  · obtain ⟨p, q, rfl, rfl⟩ := hr
    obtain ⟨d, e, hd, he, sd, se, hq⟩ := h
    obtain ⟨as, z1⟩ := I.reads hd rx
    obtain ⟨bs, z2⟩ := I.reads he ry
    exact eq_dataH z1 z2 sd se hu ⟨.bl _, H, I, rfl, hq⟩
  · refine op_eq pins s σ H x y v u Q I rx ry ?_
    cases x <;> cases y <;> first | exact h | exact absurd ⟨_, _, rfl, rfl⟩ hr
theorem o_ne (hu : X.A.units + 64 < cLine) : OpR X (compareOp .NotEq) (fNe X.K) := by
  intro pins s σ H x y v u Q I rx ry h
  by_cases hr : ∃ p q, x = V.ref p ∧ y = V.ref q
  · obtain ⟨p, q, rfl, rfl⟩ := hr
    obtain ⟨d, e, hd, he, sd, se, hq⟩ := h
    obtain ⟨as, z1⟩ := I.reads hd rx
    obtain ⟨bs, z2⟩ := I.reads he ry
    exact ne_dataH z1 z2 sd se hu ⟨.bl _, H, I, rfl, hq⟩
  · refine op_ne pins s σ H x y v u Q I rx ry ?_
    cases x <;> cases y <;> first | exact h | exact absurd ⟨_, _, rfl, rfl⟩ hr
def fIn (K : PySem.W.Frag) (neg : Bool) : R2 := fun x y H Q => match y with
  | .str j => ∃ i, x = .str i ∧ Q (.bl (if neg then !(!(Builtin.Str.occurrences j i 0 j.length 1).isEmpty) else !(Builtin.Str.occurrences j i 0 j.length 1).isEmpty)) H
  | .ref p => ∃ xs, (SqL K H p xs ∨ SqT K H p xs) ∧ flatV x = true ∧ xs.all flatV = true ∧ Q (.bl (if neg then !inV x xs else inV x xs)) H
  | _ => False
theorem o_notin : OpR X (compareOp .NotIn) (fIn X.K true) := by
  intro pins s σ H x y v u Q I rx ry h
  cases y with
  | str j =>
    obtain ⟨i, rfl, q⟩ := h
    exact op_notIn_str pins s σ H _ _ v u Q I rx ry ⟨i, j, rfl, rfl, q⟩
  | ref p =>
    obtain ⟨xs, h1, h2, h3, q⟩ := h
    exact op_notIn_seq pins s σ H _ _ v u Q I rx ry ⟨p, xs, rfl, h1, h2, h3, q⟩
  | _ => exact (show False from h).elim
theorem o_is : OpR X (compareOp .Is) (fun x y H Q => y = .non ∧ Q (.bl (decide (x = .non))) H) := op_isN
theorem o_isnot : OpR X (compareOp .IsNot) (fun x y H Q => y = .non ∧ Q (.bl (!decide (x = .non))) H) := op_notN
def fIx (K : PySem.W.Frag) : R2 := fun x y H Q => match x, y with
  | .ref p, .int i => ∃ xs v, (SqL K H p xs ∨ SqT K H p xs) ∧ atI xs i = some v ∧ Q v H
  | .str z, .int i => ∃ c, z.length ≤ sizeLine ∧ atI z.cps.toList i = some c ∧ Q (.str ⟨#[c]⟩) H
  | _, _ => False
theorem ix_any : IxR X (fIx X.K) := by
  intro value slice pins s σ H x y v u Q I rx ry h hs
  cases x with
  | ref p =>
    cases y with
    | int i =>
      obtain ⟨xs, w, h1 | h1, h2, q⟩ := h
      · exact ix_list value slice pins s σ H _ _ v u Q I rx ry ⟨p, xs, i, w, rfl, rfl, h1, h2, q⟩ hs
      · exact ix_tup value slice pins s σ H _ _ v u Q I rx ry ⟨p, xs, i, w, rfl, rfl, h1, h2, q⟩ hs
    | _ => exact (show False from h).elim
  | str z =>
    cases y with
    | int i =>
      obtain ⟨c, h1, h2, q⟩ := h
      exact ix_str value slice pins s σ H _ _ v u Q I rx ry ⟨z, i, c, rfl, rfl, h1, h2, q⟩ hs
    | _ => exact (show False from h).elim
  | _ => cases y <;> exact (show False from h).elim
def rSlS : V → Option Int → Option Int → Hp → VK → Prop := fun x lo hi H Q => ∃ z, x = .str z ∧ z.length ≤ sizeLine ∧ Q (.str (Txt.slice z lo hi)) H
def Its (x : Str) : It := ⟨fun i _ => i < x.cps.size, fun i H v H' => H' = H ∧ ∃ c, x.cps[i]? = some c ∧ v = .str ⟨#[c]⟩, fun i _ => x.cps.size ≤ i⟩
theorem turn_str {P : Program} {w : World} {K : PySem.W.Frag} {tg : Expr} {T : String} (hT : T = "str_ascii_iterator" ∨ T = "str_iterator") (it : Addr) (x : Str) (t : Tok) : Turn P w K tg (Its x) [it] it (fun i h => i ≤ x.cps.size ∧ h.IsStrIter it T x t i) where
  mem := by simp
  obj := fun i h st b hb => by
    have e : b = it := by simpa using hb
    subst e
    obtain ⟨_, o, e, c, d⟩ := st
    exact ⟨o, e, fun v z => by rw [d] at z; cases z⟩
  keep := fun i h h' st k => by
    obtain ⟨hi, o, e, r⟩ := st
    exact ⟨hi, o, k it (by simp) o e, r⟩
  item := by
    intro X hP hw hK hc i pins s σ H E I hf st hg
    subst hP hw hK
    obtain ⟨f0, f1, f2, f3, f4, f5⟩ := hf it (by simp)
    have W : Walks X.prog X.w X.A it [it] [it] x.cps.size (SignAt x) (fun i h => h.IsStrIter it T x t i) := by
      rcases hT with rfl | rfl
      · exact Walks.strAscii (I.ok.hd hc) it x t
      · exact Walks.strWide (I.ok.hd hc) it x t
    refine W.item i s _ _ hg st.2 fun v h' tk hv st' kk => ?_
    obtain ⟨c, u, hcp, rfl⟩ := hv
    have I1 : Inv X pins σ H { s with heap := h', toks := tk } := I.turned (fun b o hb e => kk b o (by simpa using hb) e) f0 f1 f3 f4 f5
    obtain ⟨o, e, c', d⟩ := id st'
    refine ⟨_, rfl, go_of (s := { s with heap := h', toks := tk }) e c' d (by rcases hT with rfl | rfl <;> decide) ⟨.str ⟨#[c]⟩, H, I1, ⟨u, rfl⟩, ⟨rfl, c, hcp, rfl⟩, ⟨hg, st'⟩, fun b hb => (hf b hb).1⟩⟩
  done := by
    intro X hP hw hK hc i pins s σ H E I hf st hg
    subst hP hw hK
    obtain ⟨f0, f1, f2, f3, f4, f5⟩ := hf it (by simp)
    have W : Walks X.prog X.w X.A it [it] [it] x.cps.size (SignAt x) (fun i h => h.IsStrIter it T x t i) := by
      rcases hT with rfl | rfl
      · exact Walks.strAscii (I.ok.hd hc) it x t
      · exact Walks.strWide (I.ok.hd hc) it x t
    have e : i = x.cps.size := Nat.le_antisymm st.1 hg
    subst e
    exact W.done s _ _ st.2 fun h' tk kk => ⟨rfl, I.turned (fun b o hb e => kk b o (by simpa using hb) e) f0 f1 f3 f4 f5⟩
  self := fun A i s Q E st h => by
    rcases hT with rfl | rfl
    · exact wpAny_pyIter_striter_ascii st.2 h
    · exact wpAny_pyIter_striter_wide st.2 h
def iAny (K : PySem.W.Frag) (tl : TE) : TI := fun σ H R => tl σ H fun x H1 => match x with
  | .ref a => ((∃ xs, SqL K H1 a xs) ∧ R (Itl K a) H1) ∨ ((∃ xs, SqT K H1 a xs) ∧ R (Itt K a) H1)
  | .str z => R (Its z) H1
  | _ => False
theorem pi_any {tg l : Expr} {tl : TE} (hl : PE X l tl) : PI X tg l (iAny X.K tl) := by
  intro pins s σ H R I h
  refine thn (hl pins s σ H _ I h) fun v s1 ⟨x, H1, I1, r1, q1⟩ => ?_
  cases x with
  | ref a =>
    cases r1
    rcases q1 with ⟨⟨xs, hq⟩, q⟩ | ⟨⟨xs, hq⟩, q⟩
    · obtain ⟨its, rv, p, hz⟩ := I1.list hq
      refine wpAny_pyIter_list p.isList ?_
      refine ⟨s1.heap.objs.size, [s1.heap.objs.size], _, _, H1, rfl, I1.kept (t' := s1.toks) fun b o e => Heap.get?_push_of_some _ e, turn_list a _, ⟨_, Heap.get?_push_size _ rfl, rfl, rfl⟩, fun b hb => ?_, q⟩
      have e : b = s1.heap.objs.size := by simpa using hb
      subst e
      exact I1.fpOk (Nat.le_refl _) (I1.hok.fresh (Nat.le_refl _))
    · obtain ⟨its, rv, p, hz⟩ := I1.tuple hq
      refine wpAny_pyIter_tuple (show s1.heap.IsTuple a its.toArray from p) ?_
      refine ⟨s1.heap.objs.size, [s1.heap.objs.size], _, _, H1, rfl, I1.kept (t' := s1.toks) fun b o e => Heap.get?_push_of_some _ e, turn_tuple a _, ⟨_, Heap.get?_push_size _ rfl, rfl, rfl⟩, fun b hb => ?_, q⟩
      have e : b = s1.heap.objs.size := by simpa using hb
      subst e
      exact I1.fpOk (Nat.le_refl _) (I1.hok.fresh (Nat.le_refl _))
  | str z =>
    obtain ⟨t, rfl⟩ := r1
    refine wpAny_pyIter_strU ?_
    refine ⟨s1.heap.objs.size, [s1.heap.objs.size], _, _, H1, rfl, I1.kept (t' := s1.toks) fun b o e => Heap.get?_push_of_some _ e, turn_str (T := strIterType z) ?_ _ z t, ⟨Nat.zero_le _, _, Heap.get?_push_size _ rfl, rfl, rfl⟩, fun b hb => ?_, q1⟩
    · unfold strIterType
      split
      · exact .inl rfl
      · exact .inr rfl
    · have e : b = s1.heap.objs.size := by simpa using hb
      subst e
      exact I1.fpOk (Nat.le_refl _) (I1.hok.fresh (Nat.le_refl _))
  | _ => exact (show False from q1).elim
theorem pt_tru {a : Expr} {ta : TE} (ha : PE X a ta) (he : ∀ whole, isTrue a X.env whole = (do let v ← whole; standAt a.pos; holding [v] (truthy v))) :
    PT X a (fun σ H Q => ta σ H fun x H' => ∃ k, TruV X.K x H' k ∧ Q k H') := pt_truth ha he
theorem pe_notV {a : Expr} {ta : TE} {pos : Pos} (ha : PE X a ta) : PE X (.UnaryOp .Not a pos) (fun σ H Q => ta σ H fun x H1 => ∃ k, TruV X.K x H1 k ∧ Q (.bl (!k)) H1) := by
  intro pins s σ H Q I h
  refine UnaryOp_ (thn (ha pins s σ H _ I h) fun v s1 ⟨x, H1, I1, r1, q1⟩ => ?_)
  obtain ⟨k, ht, q⟩ := q1
  exact not_of (thn (tru_ok pins s1 σ H1 x v (fun b H2 => Q (.bl (!b)) H2) I1 r1 ⟨k, ht, q⟩) fun b s2 ⟨H2, I2, q2⟩ => ⟨.bl (!b), H2, I2, rfl, q2⟩)
theorem c_len : CallR X (.builtin "len") (fun xs H Q => ∃ x n, xs = [x] ∧ LenV X.K x H n ∧ Q (.int n) H) := call_len
theorem c_list : CallR X (.type "list") (fun xs H Q => ∃ p ys, xs = [.ref p] ∧ (SqL X.K H p ys ∨ SqT X.K H p ys) ∧ ∀ l, H l = none → Q (.ref l) (upd H l (.lst ys))) := call_list_of
theorem bools_get {bs : List Bool} {its : List Value} (r : Vals (bs.map V.bl) its) {i : Nat} {v : Value} (h : its[i]? = some v) : ∃ b, bs[i]? = some b ∧ v = .bool b := by
  have hi : i < its.length := (List.getElem?_eq_some_iff.mp h).1
  have hl := r.length
  rw [List.length_map] at hl
  have hb : bs[i]? = some bs[i] := List.getElem?_eq_getElem (by omega)
  obtain ⟨u, hu, ru⟩ := r.get (i := i) (x := V.bl bs[i]) (by rw [List.getElem?_map, hb]; rfl)
  rw [h] at hu
  cases hu
  exact ⟨_, hb, ru⟩
theorem c_any (hc : X.calm = true := by rfl) : CallR X (.builtin "any") (fun xs H Q => ∃ (p : Addr) (bs : List Bool), xs = [.ref p] ∧ SqL X.K H p (bs.map V.bl) ∧ Q (.bl (bs.any id)) H) := by
  intro pins s σ H xs us Q I r h
  obtain ⟨p, bs, rfl, hq, q⟩ := h
  obtain ⟨u, rfl, rx⟩ := vals1 r
  cases rx
  obtain ⟨its, rv, pl, hz⟩ := I.list hq
  have hl := pl.isList
  have hlt : p < s.heap.objs.size := by obtain ⟨_, e, _⟩ := hl; exact Heap.lt_size e
  have hlen : its.toArray.size = bs.length := by have := rv.length; rw [List.length_map] at this; rw [List.size_toArray]; omega
  refine call_any_walk (wpAny_pyIter_list hl ?_)
  refine ⟨s.heap.objs.size, [s.heap.objs.size, p], [s.heap.objs.size], its.toArray.size, _, _, fun i => (bs[i]?).getD false, rfl, Walks.list (A := X.A.in1) (I.ok.hd hc) _ p (Nat.ne_of_lt hlt) its.toArray,
    ⟨⟨_, Heap.get?_push_size _ rfl, rfl, rfl⟩, hl.push _⟩, fun i v s' Q' E' hP hQ => ?_, fun h' tk hk => ?_⟩
  · obtain ⟨b, e, rfl⟩ := bools_get rv (by simpa using hP)
    simp only [e, Option.getD_some] at hQ
    exact wpAny_truthy_bool hQ
  · rw [hlen, LSm.range_any bs]
    exact ⟨.bl _, H, I.kept (LSm.kept_iter hk), rfl, q⟩
def cvOf : V → Value
  | .ty n => .type n
  | .ref a => .ref a
  | _ => .none
theorem cvOf_rel {y : V} {u : Value} (r : RelV y u) (h : cvOf y ≠ .none) : u = cvOf y := by
  cases y with
  | ty n => exact r
  | ref a => exact r
  | _ => exact absurd rfl h
theorem c_isinst : CallR X (.builtin "isinstance") (fun xs H Q => ∃ x y t b, xs = [x, y] ∧ cvOf y ≠ .none ∧ TyOf X.K H x t ∧ PySem.W.kitOne X.K t (cvOf y) = some b ∧ Q (.bl b) H) := by
  intro pins s σ H xs us Q I r h
  obtain ⟨x, y, t, b, rfl, hy, ty, e, q⟩ := h
  obtain ⟨u, w', rfl, rx, ry⟩ := vals2 r
  rw [cvOf_rel ry hy]
  exact isinst_ok I rx ty e fun tk => ⟨.bl b, H, I.tok _, rfl, q⟩
theorem m_append {o e : Expr} {to : TE} {t : TA} {apos cpos : Pos} (ho : PE X o to) (ha : PA X [e] t) (hbase : attributeBase o "append" X.env (eval o X.env) = eval o X.env := by rfl)
    (hfew : ((backTo cpos (starEach [e] X.env)).all (fun x => !x.1) && (backToKw cpos (keywordEach [] X.env)).all (fun x => x.1.isSome)
      && decide ([e].length + ([] : List Keyword).length + (if ([] : List Keyword).isEmpty then 0 else 1) < 30)) = true := by rfl)
    (hline : (apos.endLine == cpos.line) = true := by rfl) (hs : starEach [e] X.env = (false, eval e X.env) :: starEach [] X.env := by rfl) (hplain : (backTo cpos (starEach [] X.env)).any (·.1) = false := by rfl) :
    PE X (.Call (.Attribute o "append" apos) [e] [] cpos) (tBM X.K "list" rAppend to t) := pe_bm PySem.F.plainAttrs_list PySem.F.slot_list_append PySem.F.type_list_append mt_append ho ha hbase hfew hline hs hplain
end
def Has (P : Program) (w : World) (K : PySem.W.Frag) (mg : Str → Option Value) (base : Heap) (k : Nat) (x : Str) (ps : List Str) (sp : Sp) : Prop :=
  ∃ f fd, FnOk P w K mg base CX0 k f fd ps sp ∧ Binds K fd ps [] ∧ PySem.W.keepIn K (.ref f) = true ∧ mg x = some (.ref f) ∧ ∃ oc od osl, K.lookup f = some ⟨oc, od, .func fd, osl⟩
structure TopFn (K : PySem.W.Frag) (mg : Str → Option Value) (x : Str) (st : Stmt) (ps : List Str) : Prop where
  ex : ∃ f fd, Fun K x x st f fd ∧ Binds K fd ps [] ∧ mg x = some (.ref f)
theorem pe_callD {X : Cx} {j k : Nat} {x : Str} {ps : List Str} {sp : Sp} {e : Expr} {es : List Expr} {t : TA} {p pos : Pos} (D : Has X.prog X.w X.K X.mg X.base j x ps sp) (hr : Room k X.A) (ha : PA X (e :: es) t) (hj : j ≤ k := by decide) (hg : Gl X x := by rfl)
    (hdb : (x == ("__debug__" : Str)) = false := by decide) (he : starEach (e :: es) X.env = (false, eval e X.env) :: starEach es X.env := by rfl) (hpl : (backTo pos (starEach es X.env)).any (·.1) = false := by rfl) :
    PE X (.Call (.Name x p) (e :: es) [] pos) (tCall sp [] E0 t) := by
  obtain ⟨f, fd, F, b, kp, m, _⟩ := D
  exact pe_call F (hr.mono hj) hg m kp b .nil pass0 ha hdb he hpl
theorem TopFn.has {P : Program} {w : World} {K : PySem.W.Frag} {mg : Str → Option Value} {base : Heap} {x : Str} {st : Stmt} {N ps : List Str} {k : Nat} {sp : Sp} (F : TopFn K mg x st ps) (S : FnScope N ps (defScope st)) (len : ∀ vs H Q E, sp vs H Q E → vs.length = ps.length)
    (hbody : ∀ (f : Addr) (cdv : Value) (A : Around) (outer : List Env) (s : Shared) (H : Hp) (vs : List V) (Q : VK) (E : XK), Room k (A.deeper (envOfC x (defScope st) s.heap.objs.size f cdv)) → (A.deeper (envOfC x (defScope st) s.heap.objs.size f cdv)).units + 64 < cLine → sp vs H Q E →
      ∃ t, PSs (cxOf CX0 P w K mg base N x (defScope st) f cdv A outer s H E).nox (defBody st) t ∧ t { nx := fun _ H' => Q .non H', rt := Q } (start N vs) H) : Has P w K mg base (k + 1) x ps sp := by
  obtain ⟨f, fd, F, b, m⟩ := F.ex
  obtain ⟨oc, od, kV, doc, pm, an, cdv, ct, osl, e, lk, hcd⟩ := F.ex
  exact ⟨f, fd, F.ok S len fun cdv A outer s H vs Q E hr h => hbody f cdv A outer s H vs Q E hr hr.units h, b, F.kp, m, oc, od, osl, lk⟩
end L2

set_option Elab.async false
set_option linter.all false
set_option maxRecDepth 100000
namespace L2
open PySem PySem.Spec PyProof.Rows
theorem Same.upd {H : Hp} {p : Addr} (h : H p = none) (o : HO) : Same H (upd H p o) := fun b u q => by rw [upd_ne (ne_of_none q h)]; exact q
theorem Same.tup {K : PySem.W.Frag} {H H' : Hp} {a : Addr} {xs : List V} (e : Same H H') (h : SqT K H a xs) : SqT K H' a xs := by
  rcases h with (h | ⟨o, h⟩) | h
  · exact .inl (.inl (e _ _ h))
  · exact .inl (.inr ⟨o, e _ _ h⟩)
  · exact .inr h
mutual
theorem Same.rep {K : PySem.W.Frag} {H H' : Hp} (e : Same H H') : ∀ {x : V} {d : PyData}, RepD K H x d → RepD K H' x d
  | _, _, .non => .non
  | _, _, .bl b => .bl b
  | _, _, .int i => .int i
  | _, _, .str x => .str x
  | _, _, .lst h r => .lst (e.seq h) (e.repAll r)
  | _, _, .tup h r => .tup (e.tup h) (e.repAll r)
theorem Same.repAll {K : PySem.W.Frag} {H H' : Hp} (e : Same H H') : ∀ {xs : List V} {ds : List PyData}, RepAll K H xs ds → RepAll K H' xs ds
  | _, _, .nil => .nil
  | _, _, .cons h r => .cons (e.rep h) (e.repAll r)
end
def cFr (fr : List Nat) (σ : St) : St := fr.map fun j => (σ[j]?).getD none
theorem RepAll.ints {K : PySem.W.Frag} {H : Hp} : ∀ ns : List Int, RepAll K H (ns.map V.int) (ns.map PyData.int)
  | [] => .nil
  | n :: r => .cons (.int n) (RepAll.ints r)
theorem shaped_ints (ns : List Int) : SeqAt.shaped (.list (ns.map PyData.int)) = true := by
  unfold SeqAt.shaped
  rw [Bool.and_eq_true]
  constructor
  · exact PySem.W.ke_canLayAll0 ns
  · have e : PyData.depth (.list (ns.map PyData.int)) = PyData.depthAll (ns.map PyData.int) + 1 := rfl
    rw [e, PySem.W.ke_depthAll]
    rfl
theorem eqv_ints (ns ms : List Int) : PyData.eqv (.list (ns.map PyData.int)) (.list (ms.map PyData.int)) = decide (ns = ms) := PySem.W.ked_eqvAll ns ms
section
variable {X : Cx}
def rSlAny (K : PySem.W.Frag) : V → Option Int → Option Int → Hp → VK → Prop := fun x lo hi H Q => rSlL K x lo hi H Q ∨ rSlT K x lo hi H Q
end
theorem topFn_mk {K : PySem.W.Frag} {mg : Str → Option Value} {h : Heap} {x : Str} {st : Stmt} {ps : List Str} {f : Addr} {oc : Value} {od an : Option Addr} {osl : Array (Option Value)} {kV doc pm cdv ct : Value} (X : K.In h) (G : h.Ns mainGlobals mg)
    (a : PySem.W.nsIn K mainGlobals x = some (some (.ref f))) (l : K.lookup f = some ⟨oc, od, .func (PySem.W.fnOf x x (defArgs st) (defBody st) (defScope st) .none kV doc pm an cdv ct), osl⟩) (c : PySem.W.codeIn K cdv x = true) (k : PySem.W.keepIn K (.ref f) = true)
    (hb : ∀ (kV doc pm : Value) (an : Option Addr) (cdv ct : Value) (us : List Value), us.length = ps.length → bindArgs (PySem.W.fnOf x x (defArgs st) (defBody st) (defScope st) .none kV doc pm an cdv ct) ⟨us, []⟩ = pure (ps.zip us)) : TopFn K mg x st ps :=
  ⟨f, _, fun_mk l c k, (fun_mk l c k).binds hb, PySem.W.mg_of X G a⟩
theorem has_at {P : Program} {w : World} {K : PySem.W.Frag} {mg : Str → Option Value} {base : Heap} {k : Nat} {x : Str} {ps : List Str} {sp : Sp} {f : Addr} {oc : Value} {od : Option Addr} {osl : Array (Option Value)} {fd : FuncData} (D : Has P w K mg base k x ps sp) (m : mg x = some (.ref f))
    (l : K.lookup f = some ⟨oc, od, .func fd, osl⟩) : FnOk P w K mg base CX0 k f fd ps sp := by
  obtain ⟨g, gd, F, b, kp, mg', _, _, _, l'⟩ := id D
  rw [m] at mg'
  cases mg'
  rw [l] at l'
  cases l'
  exact F
end L2

set_option Elab.async false
set_option linter.all false
set_option maxRecDepth 100000
namespace L2
open PySem PySem.Spec PyProof.Rows
def maxL : List Int → Option Int
  | [] => none
  | x :: r => some (r.foldl (fun m y => if y > m then y else m) x)
def bestTo (ns : List Int) (j : Nat) : Int := (ns.take (j + 1)).tail.foldl (fun m y => if y > m then y else m) (ns.headD 0)
section
variable {prog : Program} {w : World} {A : Around} {R : Result → Shared → Prop} {I l : Addr} {its : Array Value} {ns : List Int} {St : Nat → Heap → Prop} {fp wr : List Addr} {d : Value}
end
def CallRK (X : Cx) (f : Value) (ks : List Str) (r : List V → List V → Hp → VK → Prop) : Prop :=
  ∀ (pins : List (Addr × Obj)) (s : Shared) (σ : St) (H : Hp) (xs zs : List V) (us ws : List Value) (Q : VK), Inv X pins σ H s → Vals xs us → Vals zs ws → r xs zs H Q → wpAny (model X.prog X.w) X.A (call f us (ks.zip ws)) (EP X pins σ Q) X.xe s
section
variable {X : Cx}
end
end L2

set_option Elab.async false
set_option linter.all false
set_option maxRecDepth 100000
namespace L2
open PySem PySem.Spec PyProof.Rows
section
variable {X : Cx}
def fSl (K : PySem.W.Frag) : V → Option Int → Option Int → Hp → VK → Prop := fun x lo hi H Q => match x with
  | .str z => z.length ≤ sizeLine ∧ Q (.str (Txt.slice z lo hi)) H
  | x => rSlL K x lo hi H Q ∨ rSlT K x lo hi H Q
theorem c_max (hc : X.calm = true := by rfl) : CallR X (.builtin "max") (fun xs H Q => ∃ i j, xs = [.int i, .int j] ∧ Q (.int (if j > i then j else i)) H) := call_max2 hc
end
def inS (sg : Str) (c : Nat) : Bool := !(Builtin.Str.occurrences sg ⟨#[c]⟩ 0 sg.length 1).isEmpty
abbrev LET : Str := "abcdefghijklmnopqrstuvwxyz"
abbrev FIG : Str := "0123456789"
end L2

set_option Elab.async false
set_option linter.all false
set_option maxRecDepth 100000
namespace L2
open PySem PySem.Spec PyProof.Rows
def Itr3 (lo c : Int) (n : Nat) : It := ⟨fun i _ => i < n, fun i H x H' => H' = H ∧ x = .int (lo + i * c), fun i _ => n ≤ i⟩
def rangeN (lo hi c : Int) : Nat := (Builtin.Range.rangeSize lo hi c).toNat
def iRng3 (ta : TA) : TI := fun σ H R => ta σ H fun vs H1 => ∃ i j c : Int, vs = [.int i, .int j, .int c] ∧ Builtin.Range.small i j c = true ∧ 0 < c ∧ c < 1000 ∧ 0 ≤ Builtin.Range.rangeSize i j c ∧ R (Itr3 i c (rangeN i j c)) H1
section
variable {X : Cx} {tg : Expr}
def evens {α : Type} (xs : List α) : List α := (List.range ((xs.length + 1) / 2)).filterMap fun m => xs[m * 2]?
def tEvens (K : PySem.W.Frag) (te : TE) : TE := fun σ H Q => te σ H fun x H1 => ∃ a xs, x = .ref a ∧ SqT K H1 a xs ∧ ∀ p, H1 p = none → Q (.ref p) (upd H1 p (.tup (evens xs)))
theorem pe_gtup {x : Str} {pos : Pos} {a : Addr} (h : X.mg x = some (.ref a)) (hg : Gl X x := by rfl) (hd : (x == ("__debug__" : Str)) = false := by decide) : PE X (.Name x pos) (tC (.ref a)) := pe_glob hg h rfl hd
end
end L2

set_option Elab.async false
set_option linter.all false
set_option maxRecDepth 100000
namespace L2
open PySem PySem.Spec PyProof.Rows
end L2

set_option Elab.async false
set_option linter.all false
set_option maxRecDepth 100000
set_option maxHeartbeats 4000000
namespace L2
open PySem PySem.Spec PyProof.Rows
open PySem.W (Looks InstAt looks_findIn looks_mroIn looks_clsIn looks_find)
abbrev VEs : List Value := [.type "ValueError", .type "Exception", .type "BaseException", .type "object"]
def upIn : List Value → Bool
  | [] => false
  | v :: r => (v :: r) == VEs || (match v with | .ref _ => upIn r | _ => false)
structure XCl (K : PySem.W.Frag) (C : Addr) : Prop where
  ex : ∃ (nm q : Str) (N : Addr) (bs bm : List Value) (sn : List Str) (sub : List Value) (ab : Bool) (col : Option Bool) (dd : Option Addr) (k0 k1 k2 k3 k5 : Option Value),
    K.lookup C = some (excClassObj nm q C N bs bm true sn sub ab col dd k0 k1 k2 k3 k5 "ValueError.__new__") ∧ upIn bm = true ∧ ∀ h : Heap, K.In h → OwnTail h VEs bm
  ga : PySem.W.findIn K (.ref C) "__getattribute__" = some (some (.builtin "BaseException.__getattribute__"))
  gh : PySem.W.findIn K (.ref C) "__getattr__" = some none
  sa : PySem.W.findIn K (.ref C) "__setattr__" = some (some (.builtin "object.__setattr__"))
  cl : PySem.W.findIn K (.ref C) "__class__" = some (some (.builtin "object.__class__"))
  cg : PySem.W.specialIn K (.builtin "object.__class__") "__get__" = some (some (.builtin "getset_descriptor.__get__"))
  ct : PySem.W.takesIn K (.builtin "object.__class__") = some true
  kp : PySem.W.keepIn K (.ref C) = true
section
variable {K : PySem.W.Frag} {C : Addr}
end
section
variable {prog : Program} {w : World} {A : Around} {E : Value → Shared → Prop} {s : Shared} {K : PySem.W.Frag} {x C : Addr} {ox : Obj} {od : Option Obj} {name : Str}
end
def XcAt (e C : Addr) (od : Option Addr) (fl : Bool) (h : Heap) : Prop := ∃ ob vs, h.get? e = some ob ∧ ob.cls = .ref C ∧ ob.dict = od ∧ ob.data = .fields vs ∧ 5 < vs.size ∧ (fl = false → vs[1]? = some .none)
def xo (e C : Addr) (od : Option Addr) (fl : Bool) : HO := .ext (XcAt e C od fl)
def XfAt (dx : Addr) (fs : List (Str × V)) (h : Heap) : Prop := fs.length ≤ 1000 ∧ ∃ mA, h.Ns1 dx mA ∧ (∀ f, RelO (fs.lookup f) (mA f)) ∧ PySem.Within mA (fs.map (·.1))
def xf (dx : Addr) (fs : List (Str × V)) : HO := .ext (XfAt dx fs)
section
variable {P : Program} {w : World} {H : Hp} {h : Heap} {e C dx : Addr} {od : Option Addr} {fl : Bool} {fs : List (Str × V)}
end
section
variable {X : Cx} {pins : List (Addr × Obj)} {σ : St} {H : Hp} {s : Shared} {a C dx : Addr} {od : Option Addr} {fl : Bool} {fs : List (Str × V)} {f : Str} {v : V} {A : Around} {E : Value → Shared → Prop}
end
def tFldX (K : PySem.W.Frag) (ta : TE) (f : Str) : TE := fun σ H Q => ta σ H fun x H1 => ∃ a C dx fl fs v, x = .ref a ∧ H1 a = some (xo a C (some dx) fl) ∧ H1 dx = some (L2.xf dx fs) ∧ XCl K C ∧ NoAttr K C f ∧ fs.lookup f = some v ∧ Q v H1
def sFldX (K : PySem.W.Frag) (ta tv : TE) (f : Str) : TS := fun D σ H => tv σ H fun y H1 => ta σ H1 fun x H2 => ∃ a C fl, x = .ref a ∧ XCl K C ∧ NoAttr K C f ∧
  ((H2 a = some (xo a C none fl) ∧ ∀ dx, H2 dx = none → dx ≠ a → D.nx σ (upd (upd H2 a (xo a C (some dx) fl)) dx (L2.xf dx [(f, y)]))) ∨
   ∃ dx fs, H2 a = some (xo a C (some dx) fl) ∧ H2 dx = some (L2.xf dx fs) ∧ fs.length < 1000 ∧ D.nx σ (upd H2 dx (L2.xf dx (putF f y fs))))
section
variable {X : Cx} {o e value : Expr} {f : Str} {pos pos' : Pos} {ta tv : TE}
end
end L2

set_option Elab.async false
set_option linter.all false
set_option maxRecDepth 100000
set_option maxHeartbeats 4000000
namespace L2
open PySem PySem.Spec PyProof.Rows
open PySem.W (Looks InstAt looks_findIn looks_mroIn looks_clsIn looks_find)
section
variable {prog : Program} {w : World} {A : Around} {E : Value → Shared → Prop} {h : Heap} {g : Array GenState} {d : Drawn} {t : Nat} {os : OsState} {K : PySem.W.Frag} {C fI : Addr} {rest : List Value}
end
structure XMk (K : PySem.W.Frag) (C f : Addr) : Prop where
  cl : XCl K C
  init : PySem.W.findIn K (.ref C) "__init__" = some (some (.ref f))
  fn : PySem.W.isFn K (.ref f) = true
def tMakeX (C : Addr) (sp : Sp) (t : TA) : TE := fun σ H Q => t σ H fun vs H1 => vs.length ≤ sizeLine ∧ ∀ x, H1 x = none → sp (.ref x :: vs) (upd H1 x (xo x C none false)) (fun v H2 => v = .non ∧ Q (.ref x) H2) E0
section
variable {X : Cx} {k : Nat} {f C : Addr} {fd : FuncData} {ps : List Str} {sp : Sp} {x : Str} {p pos : Pos} {e : Expr} {es : List Expr} {t : TA}
end
section
variable {M : Model} {A : Around} {E : Value → Shared → Prop} {s : Shared} {env : Env} {K : PySem.W.Frag}
end
end L2

set_option Elab.async false
set_option linter.all false
set_option maxRecDepth 100000
set_option maxHeartbeats 4000000
namespace L2
open PySem PySem.Spec PyProof.Rows
open PySem.W (Looks InstAt looks_findIn looks_mroIn looks_clsIn looks_find)
section
variable {M : Model} {A : Around} {E : Value → Shared → Prop} {s : Shared} {env : Env} {outer : List Env} {base : Heap} {L e : Addr} {oe : Obj} {vs : Array Value}
def Trc (h : Heap) (L e : Addr) (vs : Array Value) : Prop :=
  vs[1]? = some .none ∨ ∃ T oT ts, vs[1]? = some (.ref T) ∧ T ≠ e ∧ h.get? T = some oT ∧ oT.data = .fields ts ∧ 3 < ts.size ∧ (ts[3]? = some .none ∨ ts[3]? = some (rawInt L))
end
end L2

set_option Elab.async false
set_option linter.all false
set_option maxRecDepth 100000
set_option maxHeartbeats 4000000
namespace L2
open PySem PySem.Spec PyProof.Rows
open PySem.W (Looks InstAt looks_findIn looks_mroIn looks_clsIn looks_find)
def Fly (X : Cx) (pins : List (Addr × Obj)) (H : Hp) (h : Heap) (e : Addr) : Prop := ∃ ob vs, h.get? e = some ob ∧ ob.data = .fields vs ∧ Trc h X.env.locals e vs ∧
  ∀ T, vs[1]? = some (.ref T) → H T = none ∧ X.s₀.heap.objs.size ≤ T ∧ ∀ p ∈ X.pn ++ pins, p.1 ≠ T
def trcOf (vs : Array Value) : List Addr := match vs[1]? with
  | some (Value.ref T) => [T]
  | _ => []
section
variable {X : Cx} {pins : List (Addr × Obj)} {σ : St} {H : Hp} {s : Shared} {e C : Addr} {od : Option Addr} {fl : Bool}
end
abbrev XH := St → XK
def Catches (X : Cx) (Hd : XH) : Prop := ∀ (pins : List (Addr × Obj)) (σ : St) (H : Hp) (s : Shared) (e C : Addr) (od : Option Addr) (fl : Bool), Inv X pins σ H s → H e = some (xo e C od fl) → Fly X pins H s.heap e → Hd σ (.ref e) od (upd H e (xo e C od true)) → X.xe (.ref e) s
def CXE (P : Program) (w : World) : CXT := fun outer H s E ev s' => ∃ e C od H', ev = .ref e ∧ s'.os = s.os ∧ AllBare s'.gens ∧ Un (frs outer) [] H H' s.heap s'.heap ∧ HOk P w H' s'.heap ∧ H' e = some (xo e C od true) ∧
  (∃ ob vs T oT ts, s'.heap.get? e = some ob ∧ ob.data = .fields vs ∧ vs[1]? = some (.ref T) ∧ T ≠ e ∧ s'.heap.get? T = some oT ∧ oT.data = .fields ts ∧ 3 < ts.size ∧ ts[3]? = some .none ∧ H' T = none ∧ s.heap.objs.size ≤ T) ∧ E ev od H'
def HasX (P : Program) (w : World) (K : PySem.W.Frag) (mg : Str → Option Value) (base : Heap) (k : Nat) (x : Str) (ps : List Str) (sp : Sp) : Prop :=
  ∃ f fd, FnOk P w K mg base (CXE P w) k f fd ps sp ∧ Binds K fd ps [] ∧ PySem.W.keepIn K (.ref f) = true ∧ mg x = some (.ref f)
def tCallX (sp : Sp) (Hd : XH) (t : TA) : TE := fun σ H Q => t σ H fun vs H1 => sp vs H1 Q (Hd σ)
def tRaise (K : PySem.W.Frag) (te : TE) (Hd : XH) : TS := fun _ σ H => te σ H fun v H1 => ∃ e C od, v = .ref e ∧ H1 e = some (xo e C od false) ∧ XCl K C ∧ Hd σ (.ref e) od (upd H1 e (xo e C od true))
end L2

set_option Elab.async false
set_option linter.all false
set_option maxRecDepth 100000
set_option maxHeartbeats 4000000
namespace L2
open PySem PySem.Spec PyProof.Rows
open PySem.W (Looks InstAt looks_findIn looks_mroIn looks_clsIn looks_find)
section
variable {M : Model} {A : Around} {E : Value → Shared → Prop} {s : Shared} {env : Env}
end
section
variable {X : Cx} {pins : List (Addr × Obj)} {σ : St} {H : Hp} {s : Shared}
end
structure TB where
  pins : List (Addr × Obj)
  xe : Value → Shared → Prop
def cxT (X : Cx) (b : TB) : Cx := { X with pn := X.pn ++ b.pins, xe := b.xe }
def cxS (X : Cx) (e : Addr) : Cx := { X with A := X.A.mark (some (.ref e)), calm := false, xe := fun _ _ => False }
section
variable {X : Cx} {pins : List (Addr × Obj)} {σ : St} {H : Hp} {s : Shared}
end
abbrev TH := Ends → St → Addr → Addr → Option Addr → Hp → Prop
def PHs (X : Cx) (hs : List ExceptHandler) (th : TH) : Prop := ∀ (pins : List (Addr × Obj)) (s : Shared) (σ : St) (H : Hp) (D : Ends) (e C : Addr) (od : Option Addr), Inv X pins σ H s → H e = some (xo e C od true) → Fly X pins H s.heap e →
  (∃ ob vs T, s.heap.get? e = some ob ∧ ob.data = .fields vs ∧ vs[1]? = some (.ref T)) → th D σ e C od H → wpAny (model X.prog X.w) X.A (handleBy (.ref e) X.env hs) (SP X pins D) X.xe s
def thNever : TH := fun _ _ _ _ _ _ => False
def endS (D : Ends) (i : Nat) : Ends := { nx := fun σ H => D.nx (σ.set i none) H, rt := D.rt, bk := fun σ H => D.bk (σ.set i none) H, ct := fun σ H => D.ct (σ.set i none) H }
def thAs (K : PySem.W.Frag) (CH : Addr) (i : Nat) (ts : TS) (th : TH) : TH := fun D σ e C od H => ∃ b, XCl K C ∧ PySem.W.subIn K (.ref C) (.ref CH) = some b ∧ if b = true then ts (endS D i) (σ.set i (some (.ref e))) H else th D σ e C od H
section
variable {X : Cx}
def tTry (tb : XH → TS) (to : TS) (th : TH) : TS := fun D σ H => tb (fun σ' ev od H' => ∃ e C, ev = .ref e ∧ H' e = some (xo e C od true) ∧ th D σ' e C od H') { D with nx := to D } σ H
end
end L2

set_option Elab.async false
set_option linter.all false
set_option maxRecDepth 100000
set_option maxHeartbeats 4000000
namespace L2
open PySem PySem.Spec PyProof.Rows
open PySem.W (Looks InstAt looks_findIn looks_mroIn looks_clsIn looks_find)
structure InitFn (K : PySem.W.Frag) (mg : Str → Option Value) (C : Addr) (x qual : Str) (st : Stmt) (ps : List Str) : Prop where
  ex : ∃ f fd, XMk K C f ∧ Fun K "__init__" qual st f fd ∧ Binds K fd ps [] ∧ mg x = some (.ref C)
def HasI (P : Program) (w : World) (K : PySem.W.Frag) (mg : Str → Option Value) (base : Heap) (k : Nat) (x : Str) (C : Addr) (ps : List Str) (sp : Sp) : Prop :=
  ∃ f fd, XMk K C f ∧ FnOk P w K mg base CX0 k f fd ps sp ∧ Binds K fd ps [] ∧ mg x = some (.ref C)
section
variable {X : Cx}
end
section
variable {X : Cx}
def rIndex (K : PySem.W.Frag) : V → List V → Hp → VK → Prop := fun x vs H Q => ∃ p xs y j, x = .ref p ∧ vs = [y] ∧ SqT K H p xs ∧ flatV y = true ∧ xs.all flatV = true ∧ xs.findIdx? (fun a => eqV a y) = some j ∧ Q (.int (j : Nat)) H
end
end L2

set_option Elab.async false
set_option linter.all false
set_option maxRecDepth 100000
set_option maxHeartbeats 4000000
namespace L2
open PySem PySem.Spec PyProof.Rows
open PySem.W (Looks InstAt looks_findIn looks_mroIn looks_clsIn looks_find)
section
variable {prog : Program} {w : World} {A : Around} {E : Value → Shared → Prop} {h : Heap} {g : Array GenState} {d : Drawn} {t : Nat} {os : OsState} {K : PySem.W.Frag} {C : Addr}
end
def tMakeX0 (C : Addr) : TE := fun _ H Q => ∀ x, H x = none → Q (.ref x) (upd H x (xo x C none false))
def HasI0 (K : PySem.W.Frag) (mg : Str → Option Value) (x : Str) (C : Addr) : Prop := XCl K C ∧ PySem.W.findIn K (.ref C) "__init__" = some (some (.builtin "ValueError.__init__")) ∧ mg x = some (.ref C)
theorem comp_rel {J : It} {n : Nat} {x : Nat → V} {fr : List Nat} {te : CB → TE} {Q : VK} {σ : St} {H1 : Hp} (R : Nat → V → Hp → Prop) (hn : n < sizeLine)
    (stop : ∀ H, Same H1 H → J.stop n H) (go : ∀ i H, i < n → Same H1 H → J.go i H) (yld : ∀ i H v H', i < n → Same H1 H → J.yld i H v H' → H' = H ∧ v = x i)
    (he : ∀ b i H (G : VK), i < n → Same H1 H → (∀ y H', Same H H' → R i y H' → G y H') → te b (some (x i) :: cFr fr σ) H G)
    (mono : ∀ i y H H', Same H H' → R i y H → R i y H') (st : ∀ i y H D ys zs, H D = some (.lst ys) → R i y H → R i y (upd H D (.lst zs)))
    (fin : ∀ D H ys, H1 D = none → Same H1 H → H D = some (.lst ys) → ys.length = n → (∀ (i : Nat) y, ys[i]? = some y → R i y H) → Q (.ref D) H) : tBlock J 1 fr (fun _ => gName 0) (fun _ => tYes) te Q σ H1 := by
  refine ⟨fun b D hD => ?_⟩
  refine ⟨fun i m σ' H' => m = n - i ∧ i ≤ n ∧ (∃ v0, σ' = v0 :: cFr fr σ) ∧ Same H1 H' ∧ ∃ ys, H' D = some (.lst ys) ∧ ys.length = i ∧ ∀ (j : Nat) y, ys[j]? = some y → R j y H', ⟨n, rfl, Nat.zero_le _, ⟨none, rfl⟩, Same.upd hD _, [], upd_same, rfl, fun j y h => by cases h⟩, ?_⟩
  rintro i m σ' H' ⟨rfl, hi, ⟨v0, rfl⟩, sm, ys, hl, hy, hR⟩
  by_cases hlt : i < n
  · refine .inr ⟨go i H' hlt sm, fun σ2 H2 => (∃ v0, σ2 = v0 :: cFr fr σ) ∧ Same H1 H2 ∧ ∃ ys, H2 D = some (.lst ys) ∧ ys.length = i + 1 ∧ ∀ (j : Nat) y, ys[j]? = some y → R j y H2, fun σ2 H2 q => ⟨n - (i + 1), by omega, rfl, hlt, q⟩, fun v H2 y => ?_⟩
    obtain ⟨rfl, rfl⟩ := yld i H' v H2 hlt sm y
    refine he b i _ _ hlt sm fun z H4 s4 rz => ⟨ys, s4 _ _ hl, by omega, ⟨_, rfl⟩, ?_, ys ++ [z], upd_same, by simp [hy], fun j y' hj => ?_⟩
    · intro c o q
      by_cases hc : c = D
      · rw [hc, hD] at q; cases q
      · rw [upd_ne hc]; exact (sm.trans s4) c o q
    · have hD4 := s4 _ _ hl
      by_cases hji : j < ys.length
      · rw [List.getElem?_append_left hji] at hj
        exact st _ _ _ _ _ _ hD4 (mono _ _ _ _ s4 (hR j y' hj))
      · by_cases e : j = ys.length
        · subst e
          rw [List.getElem?_append_right (Nat.le_refl _)] at hj
          simp at hj
          subst hj
          rw [hy]
          exact st _ _ _ _ _ _ hD4 rz
        · rw [List.getElem?_eq_none (by simp; omega)] at hj
          cases hj
  · have e : i = n := by omega
    subst e
    exact .inl ⟨stop H' sm, fin D H' ys hD sm hl hy hR⟩
theorem comp_relL {K : PySem.W.Frag} {a : Addr} {xs : List V} {fr : List Nat} {te : CB → TE} {Q : VK} {σ : St} {H1 : Hp} (R : V → V → Hp → Prop) (hx : SqL K H1 a xs) (hn : xs.length < sizeLine)
    (he : ∀ b x H (G : VK), x ∈ xs → Same H1 H → (∀ y H', Same H H' → R x y H' → G y H') → te b (some x :: cFr fr σ) H G)
    (mono : ∀ x y H H', Same H H' → R x y H → R x y H') (st : ∀ x y H D ys zs, H D = some (.lst ys) → R x y H → R x y (upd H D (.lst zs)))
    (fin : ∀ D H ys, H1 D = none → Same H1 H → H D = some (.lst ys) → ys.length = xs.length → (∀ (i : Nat) y, ys[i]? = some y → R (xs.getD i .non) y H) → Q (.ref D) H) : tBlock (Itl K a) 1 fr (fun _ => gName 0) (fun _ => tYes) te Q σ H1 := by
  have mem : ∀ i, i < xs.length → xs.getD i .non ∈ xs := fun i h => by
    rw [List.getD_eq_getElem?_getD, List.getElem?_eq_getElem h]
    exact List.getElem_mem h
  refine comp_rel (x := fun i => xs.getD i .non) (fun i y H => R (xs.getD i .non) y H) hn (fun H s => ⟨xs, s.seq hx, Nat.le_refl _⟩) (fun i H h s => ⟨xs, xs[i], s.seq hx, List.getElem?_eq_getElem h⟩)
    (fun i H v H' h s y => ⟨y.1, ?_⟩) (fun b i H G h s k => he b _ H G (mem i h) s k) (fun i => mono _) (fun i => st _) fin
  have := y.2 xs (s.seq hx)
  rw [List.getD_eq_getElem?_getD, this]
  rfl
end L2

set_option Elab.async false
set_option linter.all false
set_option maxRecDepth 100000
namespace L2
open PySem PySem.Spec PyProof.Rows
section
variable {P : Program} {w : World} {K : PySem.W.Frag} {mg : Str → Option Value} {base : Heap}
structure MFn (K : PySem.W.Frag) (C : Addr) (m qual : Str) (st : Stmt) (ps : List Str) : Prop where
  ex : ∃ f fd, Fun K m qual st f fd ∧ Binds K fd ps [] ∧ Meth K C m f
def HasM (P : Program) (w : World) (K : PySem.W.Frag) (mg : Str → Option Value) (base : Heap) (k : Nat) (C : Addr) (m : Str) (ps : List Str) (sp : Sp) : Prop :=
  ∃ f fd, FnOk P w K mg base CX0 k f fd ps sp ∧ Binds K fd ps [] ∧ Meth K C m f
theorem MFn.has {C : Addr} {m qual : Str} {st : Stmt} {N ps : List Str} {k : Nat} {sp : Sp} (F : MFn K C m qual st ps) (S : FnScope N ps (defScope st)) (len : ∀ vs H Q E, sp vs H Q E → vs.length = ps.length)
    (hbody : ∀ (f : Addr) (cdv : Value) (A : Around) (outer : List Env) (s : Shared) (H : Hp) (vs : List V) (Q : VK) (E : XK), Room k (A.deeper (envOfC qual (defScope st) s.heap.objs.size f cdv)) → (A.deeper (envOfC qual (defScope st) s.heap.objs.size f cdv)).units + 64 < cLine → sp vs H Q E →
      ∃ t, PSs (cxOf CX0 P w K mg base N qual (defScope st) f cdv A outer s H E).nox (defBody st) t ∧ t { nx := fun _ H' => Q .non H', rt := Q } (start N vs) H) : HasM P w K mg base (k + 1) C m ps sp := by
  obtain ⟨f, fd, F, b, m⟩ := F.ex
  exact ⟨f, fd, F.ok S len fun cdv A outer s H vs Q E hr h => hbody f cdv A outer s H vs Q E hr hr.units h, b, m⟩
structure OwnC (K : PySem.W.Frag) (mg : Str → Option Value) (C : Addr) (x : Str) (up : List Addr) : Prop where
  mg : mg x = some (.ref C)
  cl : Cls K C
  mro : ∃ cd, PySem.W.clsIn K C = some cd ∧ cd.mro = up.map Value.ref ++ [Value.type "object"]
  ty : PySem.W.typeIn K (.ref C) = some (.type "type")
  kc : PySem.W.findIn K (.ref C) "__class__" = some (some (.builtin "object.__class__"))
  cg : PySem.W.specialIn K (.builtin "object.__class__") "__get__" = some (some (.builtin "getset_descriptor.__get__"))
  ct : PySem.W.takesIn K (.builtin "object.__class__") = some true
  mks : PySem.W.makesIn K C = true
  kp : PySem.W.keepIn K (.ref C) = true
variable {C D : Addr} {x y : Str} {up vp : List Addr}
theorem OwnC.sub (O : OwnC K mg C x up) (b : Value) : PySem.W.mroIn K C b = some ((up.map Value.ref ++ [Value.type "object"]).contains b) := by
  obtain ⟨cd, h1, h2⟩ := O.mro
  unfold PySem.W.mroIn
  rw [h1]
  show (if cd.mro.isEmpty = true then none else some (cd.mro.contains b)) = _
  rw [h2, if_neg (by cases up <;> simp)]
theorem refs_contains (up : List Addr) (D : Addr) : (up.map Value.ref ++ [Value.type "object"]).contains (Value.ref D) = decide (D ∈ up) := by
  induction up with
  | nil => rfl
  | cons a r ih =>
    show ((Value.ref D == Value.ref a) || (r.map Value.ref ++ [Value.type "object"]).contains (Value.ref D)) = _
    rw [ih]
    by_cases h : D = a
    · subst h; simp
    · have : (Value.ref D == Value.ref a) = false := by
        rw [Bool.eq_false_iff]
        intro z
        exact h (Value.ref.inj (beq_iff_eq.mp z))
      rw [this, Bool.false_or]
      simp [h]
theorem OwnC.kit (O : OwnC K mg C x up) (U : OwnC K mg D y vp) (hs : C ∈ up) : PySem.W.kitOne K (.ref C) (.ref D) = some (decide (D ∈ up)) := by
  unfold PySem.W.kitOne
  split
  · rename_i q
    have : C = D := Value.ref.inj (beq_iff_eq.mp q)
    rw [← this, decide_eq_true hs]
  · obtain ⟨cd, h1, _⟩ := U.mro
    unfold PySem.W.kitCls
    dsimp only
    rw [h1, U.ty]
    rw [if_pos (by rfl)]
    show PySem.W.mroIn K C (.ref D) = _
    rw [O.sub, refs_contains]
theorem OwnC.tyOf (O : OwnC K mg C x up) {H : Hp} {a dx : Addr} {fs : List (Str × V)} (e : H a = some (.ins C dx fs)) : TyOf K H (.ref a) (.ref C) :=
  .ins e O.cl O.kc O.cg O.ct ((O.sub _).trans (by simp))
end
section
variable {X : Cx} {k j : Nat} {C : Addr} {x m : Str} {ps : List Str} {sp : Sp} {o e : Expr} {es : List Expr} {ta : TE} {t : TA} {p apos pos : Pos} {up : List Addr}
theorem pe_makeD (O : OwnC X.K X.mg C x up) (D : HasM X.prog X.w X.K X.mg X.base j C "__init__" ps sp) (hr : Room k X.A) (ha : PA X (e :: es) t) (hj : j + 1 ≤ k := by decide) (hg : Gl X x := by rfl) (hdb : (x == ("__debug__" : Str)) = false := by decide)
    (he : starEach (e :: es) X.env = (false, eval e X.env) :: starEach es X.env := by rfl) (hpl : (backTo pos (starEach es X.env)).any (·.1) = false := by rfl) : PE X (.Call (.Name x p) (e :: es) [] pos) (tMake C sp [] E0 t) := by
  obtain ⟨f, fd, F, b, m⟩ := D
  exact pe_make ⟨O.mks, m.at_, m.fn, O.kp⟩ F (hr.mono hj) hg O.mg b .nil pass0 ha hdb he hpl
def tMethV (M : Addr → Sp → Prop) (m : Str) (ta : TE) (t : TA) : TE := fun σ H Q => ta σ H fun x H1 => ∃ a C dx fs sp, x = .ref a ∧ H1 a = some (.ins C dx fs) ∧ fs.lookup m = none ∧ M C sp ∧ t σ H1 fun vs H2 => sp (x :: vs) H2 Q E0
structure OfC (K : PySem.W.Frag) (C : Addr) (m : Str) : Prop where
  ga : PySem.W.specialIn K (.ref C) "__getattribute__" = some (some (.builtin "type.__getattribute__"))
  rd : PySem.W.readsIn K C (.type "type") = true
  fc : ∃ f, PySem.W.findIn K (.ref C) m = some (some (.ref f)) ∧ PySem.W.findCls K (.ref C) (.type "type") m = some (.val (.ref f))
theorem pe_callOf {pl : Sem Bool} (O : OwnC X.K X.mg C x up) (W : OfC X.K C m) (D : HasM X.prog X.w X.K X.mg X.base j C m ps sp) (hr : Room k X.A) (ha : PA X (e :: es) t) (hj : j ≤ k := by decide) (hg : Gl X x := by rfl) (hdb : (x == ("__debug__" : Str)) = false := by decide)
    (hst : starEach (e :: es) X.env = (false, eval e X.env) :: starEach es X.env := by rfl) (hpl : (backTo pos (starEach es X.env)).any (·.1) = false := by rfl)
    (ht : eval (.Call (.Attribute (.Name x p) m apos) (e :: es) [] pos) X.env = (do
      let ov ← eval (.Name x p) X.env
      standAt apos.atName
      let (f, first) ← holding [ov] (getMethod ov m pl)
      callWith pos f first (backTo pos (starEach (e :: es) X.env)) (backToKw pos (keywordEach [] X.env))) := by rfl) :
    PE X (.Call (.Attribute (.Name x p) m apos) (e :: es) [] pos) (tCall sp [] E0 t) := by
  obtain ⟨f, fd, F, b, hm⟩ := D
  intro pins s σ H Q I h
  refine PySem.W.methodCall_KW (pl := pl) (ld_glob I hg O.mg ?_ hdb) ht
  obtain ⟨f', h1, h2⟩ := W.fc
  have ef : f = f' := by
    have := hm.at_.symm.trans h1
    cases this
    rfl
  subst ef
  refine PySem.W.method_cls I.kIn W.ga (PySem.W.cls_value I.kIn W.rd h2 rfl ?_)
  refine PySem.W.callWith_K (h₀ := X.base) I.ok.mod.kin hm.kp (thn (ha pos pins _ σ H _ (I.tok _) h) fun us s2 ⟨vs, H2, I2, r, q2⟩ => ⟨I2.kIn, ?_⟩) hst hpl
  exact run_fn (us := us) (vs := vs) F (hr.mono hj) b .nil pass0 I2 r q2
end
theorem mFn_mk {K : PySem.W.Frag} {C : Addr} {m qual : Str} {st : Stmt} {ps : List Str} {f : Addr} {oc : Value} {od an : Option Addr} {osl : Array (Option Value)} {kV doc pm cdv ct : Value}
    (a : PySem.W.findIn K (.ref C) m = some (some (.ref f))) (fn : PySem.W.isFn K (.ref f) = true) (l : K.lookup f = some ⟨oc, od, .func (PySem.W.fnOf m qual (defArgs st) (defBody st) (defScope st) .none kV doc pm an cdv ct), osl⟩) (c : PySem.W.codeIn K cdv qual = true) (k : PySem.W.keepIn K (.ref f) = true)
    (hb : ∀ (kV doc pm : Value) (an : Option Addr) (cdv ct : Value) (us : List Value), us.length = ps.length → bindArgs (PySem.W.fnOf m qual (defArgs st) (defBody st) (defScope st) .none kV doc pm an cdv ct) ⟨us, []⟩ = pure (ps.zip us)) : MFn K C m qual st ps :=
  ⟨f, _, fun_mk l c k, (fun_mk l c k).binds hb, ⟨a, fn, k⟩⟩
end L2
namespace L2
open PySem PySem.Spec PyProof.Rows
def But (x : Addr) (H H' : Hp) : Prop := ∀ b, b ≠ x → ∀ o, H b = some o → H' b = some o
theorem But.refl (x : Addr) (H : Hp) : But x H H := fun _ _ _ h => h
theorem But.trans {x : Addr} {H H1 H2 : Hp} (a : But x H H1) (b : But x H1 H2) : But x H H2 := fun c hc o h => b c hc o (a c hc o h)
theorem But.at (x : Addr) (H : Hp) (o : HO) : But x H (upd H x o) := fun b hb u q => by rw [upd_ne hb]; exact q
theorem But.new {x p : Addr} {H : Hp} (h : H p = none) (o : HO) : But x H (upd H p o) := fun b _ u q => by rw [upd_ne (ne_of_none q h)]; exact q
theorem But.same {x dx : Addr} {H H' : Hp} {o o' : HO} (b : But x (upd (upd H dx o) x o') H') (hx : H x = none) (hd : H dx = none) : Same H H' := fun a u q => by
  have h1 : a ≠ x := fun z => by rw [z, hx] at q; cases q
  have h2 : a ≠ dx := fun z => by rw [z, hd] at q; cases q
  exact b a h1 u (by rw [upd_ne h1, upd_ne h2]; exact q)
theorem SqL.but {K : PySem.W.Frag} {H H' : Hp} {x t C dx : Addr} {fs : List (Str × V)} {xs : List V} (h : SqL K H t xs) (hx : H x = some (.ins C dx fs)) (b : But x H H') : SqL K H' t xs := by
  rcases h with (h | ⟨o, h⟩) | h
  · exact .inl (.inl (b t (fun z => by rw [z, hx] at h; cases h) _ h))
  · exact .inl (.inr ⟨o, b t (fun z => by rw [z, hx] at h; cases h) _ h⟩)
  · exact .inr h
theorem SqL.new {K : PySem.W.Frag} {H : Hp} {t x dx : Addr} {xs : List V} {o o' : HO} (h : SqL K H t xs) (hx : H x = none) (hd : H dx = none) : SqL K (upd (upd H dx o) x o') t xs :=
  Same.seq (fun a u q => by
    have h1 : a ≠ x := fun z => by rw [z, hx] at q; cases q
    have h2 : a ≠ dx := fun z => by rw [z, hd] at q; cases q
    rw [upd_ne h1, upd_ne h2]; exact q) h
end L2
namespace L2
open PySem
theorem new_none {H : Hp} {x dx p : Addr} {o o' : HO} (hx : H x = none) (hd : H dx = none) (h : upd (upd H dx o) x o' p = none) : H p = none := by
  unfold upd at h
  split at h
  · cases h
  · split at h
    · cases h
    · exact h
end L2
namespace L2
open PySem
theorem But.none {x p : Addr} {H H' : Hp} (b : But x H H') (e : p ≠ x) (h : H' p = Option.none) : H p = Option.none := by
  cases z : H p with
  | none => rfl
  | some o => exact absurd (h.symm.trans (b _ e _ z)) (by intro w; cases w)
end L2

set_option Elab.async false
set_option linter.all false
set_option maxRecDepth 100000
namespace L2
open PySem PySem.Spec PyProof.Rows
section
variable {X : Cx}
def flatR : V → Bool
  | .flt _ => false
  | .byt _ => false
  | _ => true
theorem eqAt_same {x : V} {u v : Value} (hx : flatR x = true) (ru : RelV x u) (rv : RelV x v) (A : Around) (s : Shared) : SeqAt.EqAt A s u v true := by
  cases x with
  | non => cases ru; cases rv; exact .same _
  | bl b => cases ru; cases rv; exact .same _
  | int i =>
    obtain ⟨t, rfl⟩ := ru
    obtain ⟨t', rfl⟩ := rv
    have := SeqAt.EqAt.int_int (A := A) (s := s) i t i t'
    rwa [beq_self_eq_true] at this
  | str y =>
    obtain ⟨t, rfl⟩ := ru
    obtain ⟨t', rfl⟩ := rv
    have := SeqAt.EqAt.str_str (A := A) (s := s) y t y t'
    rwa [beq_self_eq_true] at this
  | byt _ => cases hx
  | flt _ => cases hx
  | ref a => cases ru; cases rv; exact .same _
  | ty n => cases ru; cases rv; exact .same _
theorem o_eqS (hu : X.A.units + 64 < cLine) : OpR X (compareOp .Eq) (fun x y H Q => ∃ p q xs, x = .ref p ∧ y = .ref q ∧ SqL X.K H p xs ∧ SqL X.K H q xs ∧ xs.all flatR = true ∧ Q (.bl true) H) := by
  intro pins s σ H x y v u Q I rx ry h
  obtain ⟨p, q, xs, rfl, rfl, hp, hq, hf, k⟩ := h
  cases rx
  cases ry
  obtain ⟨its, r1, ⟨o, n, e1, c1, _, d1⟩, _⟩ := I.list hp
  obtain ⟨jts, r2, ⟨o2, n2, e2, c2, _, d2⟩, _⟩ := I.list hq
  have l1 := r1.length
  have l2 := r2.length
  refine SeqAt.eq_listAt (e := fun _ => true) ⟨o, e1, c1, n, d1⟩ ⟨o2, e2, c2, n2, d2⟩ (by simp; omega) (by omega) (fun j h1 h2 => ?_) ?_
  · simp at h1 h2
    obtain ⟨x, hx⟩ : ∃ x, xs[j]? = some x := ⟨xs[j]'(by omega), List.getElem?_eq_getElem (by omega)⟩
    obtain ⟨u1, g1, w1⟩ := r1.get hx
    obtain ⟨u2, g2, w2⟩ := r2.get hx
    have z1 : its.toArray[j]'(by simpa using h1) = u1 := by
      have := List.getElem?_eq_getElem h1
      rw [g1] at this
      simpa using (Option.some.inj this).symm
    have z2 : jts.toArray[j]'(by simpa using h2) = u2 := by
      have := List.getElem?_eq_getElem h2
      rw [g2] at this
      simpa using (Option.some.inj this).symm
    rw [z1, z2]
    exact eqAt_same (List.all_eq_true.mp hf x (List.mem_of_getElem? hx)) w1 w2 _ _
  · have : ((List.range its.toArray.size).all fun _ => true) = true := by simp
    rw [this]
    exact ⟨.bl true, H, I, rfl, k⟩
def fEqA (K : PySem.W.Frag) : R2 := fun x y H Q => match x, y with
  | .ref p, .ref q => (∃ d e, RepD K H (.ref p) d ∧ RepD K H (.ref q) e ∧ SeqAt.shaped d = true ∧ SeqAt.shaped e = true ∧ Q (.bl (PyData.eqv d e)) H) ∨ (∃ xs, SqL K H p xs ∧ SqL K H q xs ∧ xs.all flatR = true ∧ Q (.bl true) H)
  | x, y => scal x y = true ∧ Q (.bl (decide (x = y))) H
theorem o_eqA (hu : X.A.units + 64 < cLine) : OpR X (compareOp .Eq) (fEqA X.K) := ((o_eq hu).or (o_eqS hu)).imp fun x y H Q q => by
  by_cases hr : ∃ p q, x = V.ref p ∧ y = V.ref q
  · obtain ⟨p, q', rfl, rfl⟩ := hr
    rcases q with q | ⟨xs, h1, h2, h3, h4⟩
    · exact .inl q
    · exact .inr ⟨p, q', xs, rfl, rfl, h1, h2, h3, h4⟩
  · refine .inl ?_
    cases x <;> cases y <;> first | exact q | exact absurd ⟨_, _, rfl, rfl⟩ hr
theorem c_intB : CallR X (.type "int") (fun xs H Q => ∃ b, xs = [.bl b] ∧ Q (.int (if b = true then 1 else 0)) H) := by
  intro pins s σ H xs us Q I r h
  obtain ⟨b, rfl, q⟩ := h
  obtain ⟨u, rfl, rfl⟩ := vals1 r
  exact PySem.call_int_bool ⟨.int _, H, I.tok _, ⟨_, rfl⟩, q⟩
end
end L2

set_option Elab.async false
set_option linter.all false
set_option maxRecDepth 100000
namespace L2
open PySem PySem.Spec PyProof.Rows
section
variable {κ : Type} [DecidableEq κ]
def valV (kvs : List (κ × V)) (k : κ) : Option V := (kvs.find? fun kv => decide (kv.1 = k)).map (·.2)
def putK (kvs : List (κ × V)) (k : κ) (v : V) : List (κ × V) :=
  if (kvs.any fun kv => decide (kv.1 = k)) = true then kvs.map (fun kv => if kv.1 = k then (kv.1, v) else kv) else kvs ++ [(k, v)]
def dropK (kvs : List (κ × V)) (k : κ) : List (κ × V) := kvs.filter fun kv => decide (kv.1 ≠ k)
theorem valV_pos {p : κ × V} {r : List (κ × V)} {k : κ} (e : p.1 = k) : valV (p :: r) k = some p.2 := by simp [valV, List.find?_cons, e]
theorem valV_neg {p : κ × V} {r : List (κ × V)} {k : κ} (e : ¬ p.1 = k) : valV (p :: r) k = valV r k := by simp [valV, List.find?_cons, e]
theorem valV_any (k : κ) : ∀ kvs : List (κ × V), (kvs.any fun kv => decide (kv.1 = k)) = (valV kvs k).isSome
  | [] => rfl
  | p :: r => by
    rw [List.any_cons]
    by_cases e : p.1 = k
    · simp only [valV_pos e, decide_eq_true e, Bool.true_or, Option.isSome_some]
    · rw [valV_neg e, decide_eq_false e, Bool.false_or]; exact valV_any k r
theorem length_putK (kvs : List (κ × V)) (k : κ) (v : V) : (putK kvs k v).length ≤ kvs.length + 1 := by
  unfold putK
  split
  · rw [List.length_map]; omega
  · rw [List.length_append, List.length_cons, List.length_nil]; omega
theorem RelO.isSome_eq {o : Option V} {u : Option Value} (r : RelO o u) : o.isSome = u.isSome := by
  cases o with
  | none => cases u with
    | none => rfl
    | some _ => exact (show False from r).elim
  | some _ => cases u with
    | none => exact (show False from r).elim
    | some _ => rfl
theorem KV.val {kvs : List (κ × V)} {vs : List (κ × Value)} (r : KV kvs vs) (k : κ) : RelO (valV kvs k) (valueAt vs k) := by
  unfold KV at r
  induction r with
  | nil => exact True.intro
  | @cons p q ps qs h t ih =>
    obtain ⟨h1, h2⟩ := h
    by_cases e : p.1 = k
    · have e' : q.1 = k := h1.symm.trans e
      have b : valueAt (q :: qs) k = some q.2 := by simp [valueAt, List.find?_cons, e']
      rw [valV_pos e, b]; exact h2
    · have e' : ¬ q.1 = k := fun z => e (h1.trans z)
      have b : valueAt (q :: qs) k = valueAt qs k := by simp [valueAt, List.find?_cons, e']
      rw [valV_neg e, b]; exact ih
theorem KV.any {kvs : List (κ × V)} {vs : List (κ × Value)} (r : KV kvs vs) (k : κ) : (kvs.any fun kv => decide (kv.1 = k)) = vs.any fun kv => decide (kv.1 = k) := by
  unfold KV at r
  induction r with
  | nil => rfl
  | cons h t ih => rw [List.any_cons, List.any_cons, ih, h.1]
theorem KV.repl {kvs : List (κ × V)} {vs : List (κ × Value)} (r : KV kvs vs) (k : κ) {y : V} {u : Value} (ry : RelV y u) :
    KV (kvs.map fun kv => if kv.1 = k then (kv.1, y) else kv) (vs.map fun kv => if kv.1 = k then (kv.1, u) else kv) := by
  unfold KV at r ⊢
  induction r with
  | nil => exact .nil
  | @cons p q ps qs h t ih =>
    rw [List.map_cons, List.map_cons]
    refine .cons ?_ ih
    obtain ⟨h1, h2⟩ := h
    by_cases e : p.1 = k
    · rw [if_pos e, if_pos (h1.symm.trans e)]; exact ⟨h1, ry⟩
    · rw [if_neg e, if_neg (fun z => e (h1.trans z))]; exact ⟨h1, h2⟩
theorem KV.put {kvs : List (κ × V)} {vs : List (κ × Value)} (r : KV kvs vs) (k : κ) {y : V} {u : Value} (ry : RelV y u) : KV (putK kvs k y) (stored vs k u) := by
  unfold putK stored
  rw [r.any k]
  by_cases e : (vs.any fun kv => decide (kv.1 = k)) = true
  · rw [if_pos e, if_pos e]; exact r.repl k ry
  · rw [if_neg e, if_neg e]; exact Paired.snoc r ⟨rfl, ry⟩
theorem KV.keys {kvs : List (κ × V)} {vs : List (κ × Value)} (r : KV kvs vs) : kvs.map (·.1) = vs.map (·.1) := by
  unfold KV at r
  induction r with
  | nil => rfl
  | cons h t ih => rw [List.map_cons, List.map_cons, ih, h.1]
theorem KV.length {kvs : List (κ × V)} {vs : List (κ × Value)} (r : KV kvs vs) : kvs.length = vs.length := Paired.length r
end
theorem kV_is {P : Program} {w : World} {k : Key} {u : Value} (r : RelV (kV k) u) : (mixKind P w).is k u = true := by
  cases k with
  | inl i => obtain ⟨t, e⟩ := (show ∃ t, u = Value.int i t from r); subst e; exact mixKind_int P w i t
  | inr x => obtain ⟨t, e⟩ := (show ∃ t, u = Value.str x t from r); subst e; exact mixKind_str P w x t
theorem items_are {P : Program} {w : World} : ∀ {ks : List Key} {us : List Value}, Vals (ks.map kV) us → ItemsAre (mixKind P w) ks us
  | [], _, r => by rw [List.map_nil] at r; cases r; exact .nil
  | k :: ks, _, r => by
    rw [List.map_cons] at r
    cases r with
    | cons h t => exact .cons (kV_is h) (items_are t)
abbrev KT (H : Hp) : List (List Key × V) → List (List Key × Addr × Value) → Prop := Paired fun p q => p.1 = q.1 ∧ H q.2.1 = some (.tup (p.1.map kV)) ∧ RelV p.2 q.2.2
theorem KT.val {H : Hp} {kvs : List (List Key × V)} {xs : List (List Key × Addr × Value)} (r : KT H kvs xs) (k : List Key) : RelO (valV kvs k) ((atKey xs k).map (·.2)) := by
  induction r with
  | nil => exact True.intro
  | @cons p q ps qs h t ih =>
    obtain ⟨h1, _, h2⟩ := h
    by_cases e : p.1 = k
    · have e' : q.1 = k := h1.symm.trans e
      have b : atKey (q :: qs) k = some q.2 := by simp [atKey, List.find?_cons, e']
      rw [valV_pos e, b]; exact h2
    · have e' : ¬ q.1 = k := fun z => e (h1.trans z)
      have b : atKey (q :: qs) k = atKey qs k := by simp [atKey, List.find?_cons, e']
      rw [valV_neg e, b]; exact ih
theorem KT.repl {H : Hp} {kvs : List (List Key × V)} {xs : List (List Key × Addr × Value)} (r : KT H kvs xs) (k : List Key) {y : V} {u : Value} (ry : RelV y u) :
    KT H (kvs.map fun kv => if kv.1 = k then (kv.1, y) else kv) (xs.map (putAt k u)) := by
  induction r with
  | nil => exact .nil
  | @cons p q ps qs h t ih =>
    rw [List.map_cons, List.map_cons]
    refine .cons ?_ ih
    obtain ⟨h1, h2, h3⟩ := h
    unfold putAt
    by_cases e : p.1 = k
    · rw [if_pos e, if_pos (h1.symm.trans e)]; exact ⟨h1, h2, ry⟩
    · rw [if_neg e, if_neg (fun z => e (h1.trans z))]; exact ⟨h1, h2, h3⟩
theorem KT.put {H : Hp} {kvs : List (List Key × V)} {xs : List (List Key × Addr × Value)} (r : KT H kvs xs) (k : List Key) {b : Addr} {y : V} {u : Value} (hb : H b = some (.tup (k.map kV))) (ry : RelV y u) :
    KT H (putK kvs k y) (storedH xs k b u) := by
  have e : (kvs.any fun kv => decide (kv.1 = k)) = (atKey xs k).isSome := by
    rw [valV_any, (r.val k).isSome_eq, Option.isSome_map]
  unfold putK storedH
  rw [e]
  by_cases q : (atKey xs k).isSome = true
  · rw [if_pos q, if_pos q]; exact r.repl k ry
  · rw [if_neg q, if_neg q]; exact Paired.snoc r ⟨rfl, hb, ry⟩
theorem KT.keeps {H H' : Hp} {kvs : List (List Key × V)} {xs : List (List Key × Addr × Value)} (r : KT H kvs xs) (ht : ∀ b ys, H b = some (.tup ys) → H' b = some (.tup ys)) : KT H' kvs xs :=
  Paired.mapP r fun _ _ z => ⟨z.1, ht _ _ z.2.1, z.2.2⟩
section
variable {P : Program} {w : World} {H : Hp} {h : Heap} {a : Addr}
theorem rd_of {u : HO} (ok : HOk P w H h) (e : Rd H a u) : ObjOk P w H h a u := e.ok ok
theorem dk_rd {kvs : List (Key × V)} (ok : HOk P w H h) (e : Rd H a (.dK kvs)) : kvs.length ≤ sizeLine ∧ (a == sysModules) = false ∧ ∃ vs, KV kvs vs ∧ h.DictOf (mixKind P w) a vs :=
  show ObjOk P w H h a (.dK kvs) from rd_of ok e
theorem dk_of {kvs : List (Key × V)} (ok : HOk P w H h) (e : H a = some (.dK kvs)) : kvs.length ≤ sizeLine ∧ (a == sysModules) = false ∧ ∃ vs, KV kvs vs ∧ h.DictOf (mixKind P w) a vs := dk_rd ok (.inl e)
theorem key_of {ks : List Key} (ok : HOk P w H h) (e : H a = some (.tup (ks.map kV))) : (tupleKind (mixKind P w)).is h ks a := by
  obtain ⟨_, its, r, o, h1, h2, n, h3⟩ := (show ObjOk P w H h a (.tup (ks.map kV)) from ok a _ e)
  exact ⟨o, its.toArray, n, h1, h2, h3, by simpa using items_are r⟩
theorem dt_rd {kvs : List (List Key × V)} (ok : HOk P w H h) (e : Rd H a (.dT kvs)) : kvs.length ≤ sizeLine ∧ (a == sysModules) = false ∧
    ∃ xs, KT H kvs xs ∧ h.DictOfH (tupleKind (mixKind P w)) a xs := by
  obtain ⟨z, y, xs, r, o, es, ep, h1, h2, h3, h4, h5⟩ := (show ObjOk P w H h a (.dT kvs) from rd_of ok e)
  refine ⟨z, y, xs, r, o, es, ep, h1, h2, h3, h4, fun x hx => ?_, h5⟩
  have all : ∀ {l : List (List Key × V)} {m : List (List Key × Addr × Value)}, KT H l m → ∀ x ∈ m, (tupleKind (mixKind P w)).is h x.1 x.2.1 := by
    intro l m q
    induction q with
    | nil => intro x hx; exact nomatch hx
    | @cons p q ps qs hq t ih =>
      intro x hx
      rcases List.mem_cons.mp hx with e | hx
      · subst e
        exact key_of ok (by rw [← hq.1]; exact hq.2.1)
      · exact ih x hx
  exact all r x hx
theorem dt_of {kvs : List (List Key × V)} (ok : HOk P w H h) (e : H a = some (.dT kvs)) : kvs.length ≤ sizeLine ∧ (a == sysModules) = false ∧
    ∃ xs, KT H kvs xs ∧ h.DictOfH (tupleKind (mixKind P w)) a xs := dt_rd ok (.inl e)
end
def DGet (H : Hp) (a : Addr) (y : V) (r : Option V) : Prop :=
  (∃ kvs k, Rd H a (.dK kvs) ∧ y = kV k ∧ r = valV kvs k) ∨ ∃ kvs k b, Rd H a (.dT kvs) ∧ y = .ref b ∧ H b = some (.tup (k.map kV)) ∧ r = valV kvs k
def DPut (H : Hp) (a : Addr) (y v : V) (H' : Hp) : Prop :=
  (∃ kvs k, H a = some (.dK kvs) ∧ y = kV k ∧ kvs.length < sizeLine ∧ H' = upd H a (.dK (putK kvs k v))) ∨
  ∃ kvs k b, H a = some (.dT kvs) ∧ y = .ref b ∧ H b = some (.tup (k.map kV)) ∧ kvs.length < sizeLine ∧ H' = upd H a (.dT (putK kvs k v))
theorem DGet.k {H : Hp} {a : Addr} {kvs : List (Key × V)} {k : Key} (e : H a = some (.dK kvs)) : DGet H a (kV k) (valV kvs k) := .inl ⟨kvs, k, .inl e, rfl, rfl⟩
theorem DPut.k {H : Hp} {a : Addr} {kvs : List (Key × V)} {k : Key} {v : V} (e : H a = some (.dK kvs)) (hl : kvs.length < sizeLine) : DPut H a (kV k) v (upd H a (.dK (putK kvs k v))) := .inl ⟨kvs, k, e, rfl, hl, rfl⟩
section
variable {X : Cx} {pins : List (Addr × Obj)} {σ : St} {H : Hp} {s : Shared} {a : Addr} {y v : V} {u r : Value} {o : Option V} {A : Around} {E : Value → Shared → Prop}
theorem Inv.big (I : Inv X pins σ H s) : sysModules < s.heap.objs.size := by
  have h : mainGlobals < s.heap.objs.size := (I.mod.glob.keeps I.bk).lt
  exact Nat.lt_trans (by decide) h
theorem d_getItem {Q : Value → Shared → Prop} (hu : A.units + 1 < cLine) (I : Inv X pins σ H s) (g : DGet H a y (some v)) (ry : RelV y u) (h : ∀ w' s', Inv X pins σ H s' → RelV v w' → Q w' s') :
    wpAny (model X.prog X.w) A (getItem (.ref a) u) Q E s := by
  rcases g with ⟨kvs, k, e, ey, l⟩ | ⟨kvs, k, b, e, ey, eb, l⟩
  · subst ey
    obtain ⟨z, hd, vs, rel, dd⟩ := dk_rd I.hok e
    obtain ⟨w', hw, rw'⟩ := RelO.some_of (v := v) (o := valueAt vs k) (by rw [l]; exact rel.val k)
    exact wpAny_getItem_of (kV_is ry) dd.mapOf hw (h w' _ (I.tok _) rw')
  · subst ey
    cases (show u = Value.ref b from ry)
    obtain ⟨z, hd, xs, rel, dd⟩ := dt_rd I.hok e
    obtain ⟨w', hw, rw'⟩ := RelO.some_of (v := v) (o := (atKey xs k).map (·.2)) (by rw [l]; exact rel.val k)
    obtain ⟨p, hp, hp2⟩ := Option.map_eq_some_iff.mp hw
    refine wpAny_getItem_heap (tupleKind_room_in1 hu) (key_of I.hok eb) dd hp ?_
    rw [hp2]
    exact h w' _ (I.tok _) rw'
theorem d_notIn {Q : Value → Shared → Prop} (hu : A.units + 1 < cLine) (I : Inv X pins σ H s) (g : DGet H a y o) (ry : RelV y u) (h : ∀ s', Inv X pins σ H s' → Q (.bool (!o.isSome)) s') :
    wpAny (model X.prog X.w) A (compareOp .NotIn u (.ref a)) Q E s := by
  rcases g with ⟨kvs, k, e, ey, l⟩ | ⟨kvs, k, b, e, ey, eb, l⟩
  · subst ey
    obtain ⟨z, hd, vs, rel, dd⟩ := dk_rd I.hok e
    refine wpAny_notIn_of (kV_is ry) hd dd.mapOf ?_
    rw [← (rel.val k).isSome_eq, ← l]
    exact h _ (I.tok _)
  · subst ey
    cases (show u = Value.ref b from ry)
    obtain ⟨z, hd, xs, rel, dd⟩ := dt_rd I.hok e
    refine wpAny_notIn_heap (tupleKind_room_in1 hu) (key_of I.hok eb) hd dd ?_
    have q := (rel.val k).isSome_eq
    rw [Option.isSome_map] at q
    rw [← q, ← l]
    exact h _ (I.tok _)
theorem d_write {h' : Heap} {t' : Nat} {ob : HO} (I : Inv X pins σ H s) (mu : Mut (H a)) (hs : Heap.SameBut a s.heap h') (he : ∃ q, h'.get? a = some q) (new : ObjOk X.prog X.w (upd H a ob) h' a ob) :
    Inv X pins σ (upd H a ob) { s with heap := h', toks := t' } :=
  I.write (x := a) (e := a) mu (.inl rfl) (fun b q hb z => (hs.2 b hb).trans z) he new
theorem dk_new {P : Program} {w : World} {H' : Hp} {h' : Heap} {kvs : List (Key × V)} {vs : List (Key × Value)} (z : kvs.length ≤ sizeLine) (hd : (a == sysModules) = false) (rel : KV kvs vs) (dd : h'.DictOf (mixKind P w) a vs) :
    ObjOk P w H' h' a (.dK kvs) := ⟨z, hd, vs, rel, dd⟩
theorem d_setItem {H' : Hp} {Q : Unit → Shared → Prop} (hu : A.units + 1 < cLine) (I : Inv X pins σ H s) (g : DPut H a y v H') (ry : RelV y u) (rv : RelV v r) (h : ∀ s', Inv X pins σ H' s' → Q () s') :
    wpAny (model X.prog X.w) A (setItem (.ref a) u r) Q E s := by
  rcases g with ⟨kvs, k, e, ey, l, eH⟩ | ⟨kvs, k, b, e, ey, eb, l, eH⟩
  · subst ey eH
    obtain ⟨z, hd, vs, rel, dd⟩ := dk_of I.hok e
    have hz : vs.length ≤ sizeLine := by rw [← rel.length]; exact z
    have hl : (putK kvs k v).length ≤ sizeLine := by have := length_putK kvs k v; omega
    refine wpAny_setItem_pairs (hsz := hz) (kV_is ry) dd fun h' dd' hs => h _ ?_
    have he : ∃ q, h'.get? a = some q := let ⟨q, _, _, hq, _⟩ := dd'; ⟨q, hq⟩
    exact d_write I (by rw [e]; exact True.intro) hs he (dk_new hl hd (rel.put k rv) dd')
  · subst ey eH
    cases (show u = Value.ref b from ry)
    obtain ⟨z, hd, xs, rel, dd⟩ := dt_of I.hok e
    have hz : xs.length ≤ sizeLine := by rw [← Paired.length rel]; exact z
    have hl : (putK kvs k v).length ≤ sizeLine := by have := length_putK kvs k v; omega
    refine wpAny_setItem_heap (hsz := hz) (tupleKind_room_in1 hu) (key_of I.hok eb) dd fun h' dd' hs => h _ ?_
    obtain ⟨q, es, ep, hq, h2, h3, h4, _, h5⟩ := dd'
    refine d_write I (by rw [e]; exact True.intro) hs ⟨q, hq⟩ ⟨hl, hd, _, (rel.put k eb rv).keeps fun c ys ec => ?_, q, es, ep, hq, h2, h3, h4, h5⟩
    rw [upd_ne (ne_of ec e (fun z => nomatch z))]
    exact ec
end
section
variable {X : Cx} {pins : List (Addr × Obj)} {σ : St} {H : Hp} {s : Shared} {a : Addr} {kvs : List (Key × V)} {k : Key} {u : Value} {A : Around} {E : Value → Shared → Prop}
theorem d_len {Q : Value → Shared → Prop} (I : Inv X pins σ H s) (e : Rd H a (.dK kvs)) (h : ∀ t s', Inv X pins σ H s' → Q (.int kvs.length t) s') : wpAny (model X.prog X.w) A (call (.builtin "len") [.ref a]) Q E s := by
  obtain ⟨z, hd, vs, rel, dd⟩ := dk_rd I.hok e
  refine call_len_dict hd dd (by rw [← rel.length]; rw [sizeLine_eq] at z; omega) ?_
  rw [← rel.length]
  exact h _ _ (I.tok _)
end
def NoSl (i : Expr) : Prop := ∀ ov iv, subscripted i false ov iv = operate [ov, iv] (getItem ov iv)
theorem dict_typeIs {X : Cx} {pins : List (Addr × Obj)} {σ : St} {H : Hp} {s : Shared} {a : Addr} {y : V} {o : Option V} (I : Inv X pins σ H s) (g : DGet H a y o) : s.TypeIs (.ref a) "dict" := by
  rcases g with ⟨kvs, k, e, _, _⟩ | ⟨kvs, k, b, e, _, _, _⟩
  · obtain ⟨_, _, vs, _, dd⟩ := dk_rd I.hok e
    exact dd.typeIs
  · obtain ⟨_, _, xs, _, dd⟩ := dt_rd I.hok e
    exact dd.typeIs
def tDGet (td ty : TE) : TE := fun σ H Q => td σ H fun x H1 => ty σ H1 fun y H2 => ∃ a v, x = .ref a ∧ DGet H2 a y (some v) ∧ Q v H2
def tDIn (ty td : TE) : TE := fun σ H Q => ty σ H fun y H1 => td σ H1 fun x H2 => ∃ a o, x = .ref a ∧ DGet H2 a y o ∧ Q (.bl o.isSome) H2
def tDNotIn (ty td : TE) : TE := fun σ H Q => ty σ H fun y H1 => td σ H1 fun x H2 => ∃ a o, x = .ref a ∧ DGet H2 a y o ∧ Q (.bl (!o.isSome)) H2
def sDPut (td ty tv : TE) : TS := fun D σ H => tv σ H fun v H1 => td σ H1 fun x H2 => ty σ H2 fun y H3 => ∃ a H4, x = .ref a ∧ DPut H3 a y v H4 ∧ D.nx σ H4
def sDAug (td ty tv : TE) (rd : V → V → Hp → VK → Prop) : TS := fun D σ H => td σ H fun x H1 => ty σ H1 fun y H2 => ∃ a v, x = .ref a ∧ DGet H2 a y (some v) ∧
  tv σ H2 fun y2 H3 => rd v y2 H3 fun z H4 => ∃ H5, DPut H4 a y z H5 ∧ D.nx σ H5
def sDDel (td ty : TE) : TS := fun D σ H => td σ H fun x H1 => ty σ H1 fun y H2 => ∃ a kvs k, x = .ref a ∧ H2 a = some (.dK kvs) ∧ y = kV k ∧ (valV kvs k).isSome = true ∧ D.nx σ (upd H2 a (.dK (dropK kvs k)))
section
variable {X : Cx} {o i e value : Expr} {pos pos' tpos : Pos} {td ty tv : TE}
end
theorem dk_empty {P : Program} {w : World} {H : Hp} (h : Heap) (hb : sysModules < h.objs.size) : ObjOk P w H (h.push { cls := .type "dict", data := .dict #[] }) h.objs.size (.dK []) :=
  ⟨Nat.zero_le _, beq_eq_false_iff_ne.mpr (Ne.symm (Nat.ne_of_lt hb)), [], .nil, Heap.DictOf.new h⟩
def tDNewK : TE := fun _ H Q => ∀ p, H p = none → Q (.ref p) (upd H p (.dK []))
def tDNewT : TE := fun _ H Q => ∀ p, H p = none → Q (.ref p) (upd H p (.dT []))
section
variable {X : Cx} {pos : Pos}
theorem pe_dnewK : PE X (.Dict [] [] pos) tDNewK := fun pins s σ H Q I h =>
  wpAny_Dict_empty ⟨.ref s.heap.objs.size, _, I.laid (a := s.heap.objs.size) (o := .dK []) (t' := s.toks) (fun _ _ q => Heap.get?_push_of_some _ q) (Nat.le_refl _) (dk_empty s.heap I.big), rfl, h _ (I.hok.fresh (Nat.le_refl _))⟩
end
def tPairs : List (TE × TE) → St → Hp → (List (V × V) → Hp → Prop) → Prop
  | [], _, H, Q => Q [] H
  | (tk, tv) :: r, σ, H, Q => tk σ H fun x H1 => tv σ H1 fun y H2 => tPairs r σ H2 fun ps H3 => Q ((x, y) :: ps) H3
abbrev VV : List (V × V) → List (Value × Value) → Prop := Paired fun p q => RelV p.1 q.1 ∧ RelV p.2 q.2
def PPs (X : Cx) (pos : Pos) (keys : List (Option Expr)) (values : List Expr) (trs : List (TE × TE)) : Prop :=
  ∀ (pins : List (Addr × Obj)) (s : Shared) (σ : St) (H : Hp) (Q : List (V × V) → Hp → Prop), Inv X pins σ H s → tPairs trs σ H Q →
    wpAny (model X.prog X.w) X.A (evalPairs (pairTrees keys values X.env pos)) (fun vs s' => ∃ ps H', Inv X pins σ H' s' ∧ VV ps vs ∧ Q ps H') X.xe s
theorem pps_nil {X : Cx} {pos : Pos} : PPs X pos [] [] [] := fun pins s σ H Q I h => pairTrees_nil_walk ⟨[], H, I, .nil, h⟩
theorem pps_cons {X : Cx} {pos : Pos} {k v : Expr} {ks : List (Option Expr)} {vs : List Expr} {tk tv : TE} {trs : List (TE × TE)} (hk : PE X k tk) (hv : PE X v tv) (hr : PPs X pos ks vs trs) :
    PPs X pos (some k :: ks) (v :: vs) ((tk, tv) :: trs) := fun pins s σ H Q I h =>
  pairTrees_cons_walk (thn (hk pins s σ H _ I h) fun u s1 ⟨x, H1, I1, rx, q1⟩ => thn (hv pins s1 σ H1 _ I1 q1) fun w2 s2 ⟨y, H2, I2, ry, q2⟩ =>
    thn (hr pins s2 σ H2 _ I2 q2) fun ws s3 ⟨ps, H3, I3, rel, q3⟩ => ⟨(x, y) :: ps, H3, I3, .cons ⟨rx, ry⟩ rel, q3⟩)
def mergeK (kvs more : List (Key × V)) : List (Key × V) := more.foldl (fun acc kv => putK acc kv.1 kv.2) kvs
theorem KV.merge : ∀ {more : List (Key × V)} {rs : List (Key × Value)} {kvs : List (Key × V)} {vs : List (Key × Value)}, KV more rs → KV kvs vs → KV (mergeK kvs more) (merged vs rs) := by
  intro more rs kvs vs r
  unfold KV at r
  induction r generalizing kvs vs with
  | nil => intro q; exact q
  | @cons p q ps qs h t ih =>
    intro r0
    have e : KV (putK kvs p.1 p.2) (stored vs q.1 q.2) := by
      have := r0.put p.1 h.2
      rw [← h.1]; exact this
    exact ih e
theorem length_mergeK : ∀ (more kvs : List (Key × V)), (mergeK kvs more).length ≤ kvs.length + more.length
  | [], kvs => by show kvs.length ≤ kvs.length + 0; omega
  | p :: r, kvs => by
    have h1 := length_mergeK r (putK kvs p.1 p.2)
    have h2 := length_putK kvs p.1 p.2
    show (mergeK (putK kvs p.1 p.2) r).length ≤ _
    rw [List.length_cons]; omega
theorem carries_of {P : Program} {w : World} : ∀ {kvs : List (Key × V)} {ws : List (Value × Value)}, VV (kvs.map fun kv => (kV kv.1, kv.2)) ws → ∃ rs, Carries (mixKind P w) ws rs ∧ KV kvs rs
  | [], _, r => by rw [List.map_nil] at r; cases r; exact ⟨[], True.intro, .nil⟩
  | p :: kvs, _, r => by
    rw [List.map_cons] at r
    cases r with
    | @cons a b as bs h t =>
      obtain ⟨rs, c, q⟩ := carries_of (P := P) (w := w) t
      obtain ⟨b1, b2⟩ := b
      exact ⟨(p.1, b2) :: rs, ⟨kV_is h.1, rfl, c⟩, .cons ⟨rfl, h.2⟩ q⟩
def tDisp (trs : List (TE × TE)) : TE := fun σ H Q => ∀ p, H p = none → tPairs trs σ (upd H p (.dK [])) fun ps H2 => H2 p = some (.dK []) ∧ ∃ kvs : List (Key × V), ps = kvs.map (fun kv => (kV kv.1, kv.2)) ∧ kvs.length ≤ 15 ∧ Q (.ref p) (upd H2 p (.dK (mergeK [] kvs)))
theorem pe_disp {X : Cx} {pos : Pos} {keys : List (Option Expr)} {values : List Expr} {trs : List (TE × TE)} (h : PPs X pos keys values trs) (hall : keys.all (·.isSome) = true) (hl : keys.length = values.length) (h0 : keys ≠ [])
    (h15 : keys.length ≤ 15) : PE X (.Dict keys values pos) (tDisp trs) := by
  intro pins s σ H Q I q
  have hn := I.hok.fresh (Nat.le_refl s.heap.objs.size)
  have I1 := I.laid (a := s.heap.objs.size) (o := .dK []) (h' := s.heap.push { cls := .type "dict", data := .dict #[] }) (t' := s.toks) (fun _ _ q => Heap.get?_push_of_some _ q) (Nat.le_refl _) (dk_empty s.heap I.big)
  refine wpAny_Dict_walk (knd := mixKind X.prog X.w) hall hl h0 h15 (thn (h pins _ σ _ _ I1 (q _ hn)) fun ws s2 ⟨ps, H2, I2, rel, e, kvs, ep, lk, q2⟩ => ?_)
  subst ep
  obtain ⟨rs, c, rk⟩ := carries_of (P := X.prog) (w := X.w) rel
  obtain ⟨z, hd, vs0, r0, dd⟩ := dk_of I2.hok e
  cases r0
  refine ⟨rs, c, dd, fun h' dd' hs => ⟨.ref s.heap.objs.size, _, ?_, rfl, q2⟩⟩
  have hz : (mergeK [] kvs).length ≤ sizeLine := by
    have h1 := length_mergeK kvs []
    rw [List.length_nil] at h1
    rw [sizeLine_eq]; omega
  have he : ∃ q, h'.get? s.heap.objs.size = some q := let ⟨q, _, _, hq, _⟩ := dd'; ⟨q, hq⟩
  exact d_write I2 (by rw [e]; exact True.intro) hs he (dk_new hz hd (rk.merge .nil) dd')
structure M1 (X : Cx) (o : Expr) (m : Str) (apos : Pos) (e : Expr) (cpos : Pos) : Prop where
  base : attributeBase o m X.env (eval o X.env) = eval o X.env
  few : ((backTo cpos (starEach [e] X.env)).all (fun x => !x.1) && (backToKw cpos (keywordEach [] X.env)).all (fun x => x.1.isSome)
    && decide (([e] : List Expr).length + ([] : List Keyword).length + (if ([] : List Keyword).isEmpty then 0 else 1) < 30)) = true
  line : (apos.endLine == cpos.line) = true
  trees : backTo cpos (starEach [e] X.env) = [(false, eval e X.env)]
structure M2 (X : Cx) (o : Expr) (m : Str) (apos : Pos) (e f : Expr) (cpos : Pos) : Prop where
  base : attributeBase o m X.env (eval o X.env) = eval o X.env
  few : ((backTo cpos (starEach [e, f] X.env)).all (fun x => !x.1) && (backToKw cpos (keywordEach [] X.env)).all (fun x => x.1.isSome)
    && decide (([e, f] : List Expr).length + ([] : List Keyword).length + (if ([] : List Keyword).isEmpty then 0 else 1) < 30)) = true
  line : (apos.endLine == cpos.line) = true
  trees : backTo cpos (starEach [e, f] X.env) = [(false, eval e X.env), (false, eval f X.env)]
def IsD (H : Hp) (a : Addr) : Prop := (∃ kvs, Rd H a (.dK kvs)) ∨ ∃ kvs, Rd H a (.dT kvs)
section
variable {X : Cx} {pins : List (Addr × Obj)} {σ : St} {H : Hp} {s : Shared} {a : Addr} {y d : V} {u r : Value} {o : Option V} {A : Around} {E : Value → Shared → Prop}
end
def tDGet1 (td ty : TE) : TE := fun σ H Q => td σ H fun x H1 => ∃ a, x = .ref a ∧ IsD H1 a ∧ ty σ H1 fun y H2 => ∃ o, DGet H2 a y o ∧ Q (o.getD .non) H2
def tDGet2 (td ty tx : TE) : TE := fun σ H Q => td σ H fun x H1 => ∃ a, x = .ref a ∧ IsD H1 a ∧ ty σ H1 fun y H2 => tx σ H2 fun z H3 => ∃ o, DGet H3 a y o ∧ Q (o.getD z) H3
def tDPop1 (td ty : TE) : TE := fun σ H Q => td σ H fun x H1 => ∃ a, x = .ref a ∧ IsD H1 a ∧ ty σ H1 fun y H2 => ∃ kvs k v, H2 a = some (.dK kvs) ∧ y = kV k ∧ valV kvs k = some v ∧ Q v (upd H2 a (.dK (dropK kvs k)))
def tDPop2 (td ty tx : TE) : TE := fun σ H Q => td σ H fun x H1 => ∃ a, x = .ref a ∧ IsD H1 a ∧ ty σ H1 fun y H2 => tx σ H2 fun z H3 => ∃ kvs k, H3 a = some (.dK kvs) ∧ y = kV k ∧
  (∀ v, valV kvs k = some v → Q v (upd H3 a (.dK (dropK kvs k)))) ∧ (valV kvs k = none → Q z H3)
section
variable {X : Cx} {o e f : Expr} {apos cpos : Pos} {td ty tx : TE}
end
section
variable {X : Cx} {pins : List (Addr × Obj)} {σ : St} {H : Hp} {s : Shared} {a : Addr} {kvs : List (Key × V)} {A : Around} {E : Value → Shared → Prop}
theorem d_copyOf {Q : Value → Shared → Prop} (I : Inv X pins σ H s) (e : Rd H a (.dK kvs)) (h : ∀ p s', H p = none → Inv X pins σ (upd H p (.dK kvs)) s' → Q (.ref p) s') : wpAny (model X.prog X.w) A (call (.type "dict") [.ref a]) Q E s := by
  obtain ⟨z, hd, vs, rel, dd⟩ := dk_rd I.hok e
  refine kt_call_dict hd dd (by rw [← rel.length]; exact z) fun h' dd' hs => ?_
  refine h _ _ (I.hok.fresh (Nat.le_refl _)) (I.laid (a := s.heap.objs.size) (o := .dK kvs) (t' := s.toks) (fun b q hq => ?_) (Nat.le_refl _) (dk_new z (beq_eq_false_iff_ne.mpr (Ne.symm (Nat.ne_of_lt I.big))) rel dd'))
  exact (hs.2 b (Nat.ne_of_lt (Heap.lt_size hq))).trans (Heap.get?_push_of_some _ hq)
end
section
variable {X : Cx} {pins : List (Addr × Obj)} {σ : St} {H : Hp} {s : Shared} {a : Addr} {y : V} {u : Value} {A : Around} {E : Value → Shared → Prop}
end
end L2

set_option Elab.async false
set_option linter.all false
set_option maxRecDepth 100000
namespace L2
open PySem PySem.Spec PyProof.Rows
section
variable {X : Cx}
theorem ix_dictK (hu : X.A.units + 64 < cLine) : IxR X (fun x y H Q => ∃ a v, x = .ref a ∧ DGet H a y (some v) ∧ Q v H) := by
  intro value slice pins s σ H x y v u Q I rx ry h hs
  obtain ⟨a, z, rfl, g, q⟩ := h
  cases rx
  have hT := dict_typeIs I g
  unfold subscriptTail
  refine wpAny_bind ?_
  rw [getitemInPython_of_ne hT.not_modules]
  refine wpAny_bind (wpAny_specialOf hT PySem.F.slot_dict_getitem.lookup ?_)
  have h₂ : wpAny (model X.prog X.w) X.A (getItem (.ref a) u) (EP X pins σ Q) X.xe s := d_getItem (by omega) I g ry fun w' s3 I3 rw' => ⟨z, H, I3, rw', q⟩
  have fin : wpAny (model X.prog X.w) X.A (subscripted slice false (.ref a) u) (fun r s₃ => wpAny (model X.prog X.w) X.A (letTemporaryGo value (.ref a) r >>= fun _ => pure r) (EP X pins σ Q) X.xe s₃) X.xe s := by
    rw [hs]
    exact wpAny_operating (wpAny_mono h₂ (fun r s₃ h₃ => wpAny_bind (wpAny_letTemporaryGo (wpAny_pure h₃))) fun _ _ x => x)
  first
    | exact wpAny_pure (wpAny_bind fin)
    | exact wpAny_bind (wpAny_pure (wpAny_bind fin))
    | exact wpAny_bind fin
def fIxA (K : PySem.W.Frag) : R2 := fun x y H Q => match x, y with
  | .ref p, .int i => (∃ xs v, (SqL K H p xs ∨ SqT K H p xs) ∧ atI xs i = some v ∧ Q v H) ∨ (∃ v, DGet H p (.int i) (some v) ∧ Q v H)
  | .ref p, .str k => ∃ v, DGet H p (.str k) (some v) ∧ Q v H
  | .str z, .int i => ∃ c, z.length ≤ sizeLine ∧ atI z.cps.toList i = some c ∧ Q (.str ⟨#[c]⟩) H
  | _, _ => False
theorem ix_all (hu : X.A.units + 64 < cLine) : IxR X (fIxA X.K) := by
  intro value slice pins s σ H x y v u Q I rx ry h hs
  cases x with
  | ref p =>
    cases y with
    | int i =>
      rcases h with h | ⟨w, g, q⟩
      · exact ix_any value slice pins s σ H _ _ v u Q I rx ry h hs
      · exact ix_dictK hu value slice pins s σ H _ _ v u Q I rx ry ⟨p, w, rfl, g, q⟩ hs
    | str k =>
      obtain ⟨w, g, q⟩ := h
      exact ix_dictK hu value slice pins s σ H _ _ v u Q I rx ry ⟨p, w, rfl, g, q⟩ hs
    | _ => exact (show False from h).elim
  | str z =>
    cases y with
    | int i => exact ix_any value slice pins s σ H _ _ v u Q I rx ry h hs
    | _ => exact (show False from h).elim
  | _ => cases y <;> exact (show False from h).elim
theorem st_dictK (hu : X.A.units + 64 < cLine) : PSet X (fun o i v H Q => ∃ a H', o = .ref a ∧ DPut H a i v H' ∧ Q H') := by
  intro pins s σ H o i v ov iv u Q I ro ri rv h
  obtain ⟨a, H', rfl, g, q⟩ := h
  cases ro
  exact d_setItem (by omega) I g ri rv fun s4 I4 => ⟨H', I4, q⟩
def fSetA : TSet := fun o i v H Q => match o, i with
  | .ref p, .int k => (∃ xs j, H p = some (.lst xs) ∧ ixN xs.length k = some j ∧ Q (upd H p (.lst (xs.set j v)))) ∨ (∃ H', DPut H p (.int k) v H' ∧ Q H')
  | .ref p, .str k => ∃ H', DPut H p (.str k) v H' ∧ Q H'
  | _, _ => False
theorem st_all (hu : X.A.units + 64 < cLine) (hl : PSet X rSetL) : PSet X fSetA := by
  intro pins s σ H o i v ov iv u Q I ro ri rv h
  cases o with
  | ref p =>
    cases i with
    | int k =>
      rcases h with ⟨xs, j, h1, h2, q⟩ | ⟨H', g, q⟩
      · exact hl pins s σ H _ _ v ov iv u Q I ro ri rv ⟨p, xs, k, j, rfl, rfl, h1, h2, q⟩
      · exact st_dictK hu pins s σ H _ _ v ov iv u Q I ro ri rv ⟨p, H', rfl, g, q⟩
    | str k =>
      obtain ⟨H', g, q⟩ := h
      exact st_dictK hu pins s σ H _ _ v ov iv u Q I ro ri rv ⟨p, H', rfl, g, q⟩
    | _ => exact (show False from h).elim
  | _ => cases i <;> exact (show False from h).elim
theorem o_notinD (hu : X.A.units + 64 < cLine) : OpR X (compareOp .NotIn) (fun x y H Q => ∃ a o, y = .ref a ∧ DGet H a x o ∧ Q (.bl (!o.isSome)) H) := by
  intro pins s σ H x y v u Q I rx ry h
  obtain ⟨a, o, rfl, g, q⟩ := h
  cases ry
  exact d_notIn (by omega) I g rx fun s3 I3 => ⟨.bl (!o.isSome), H, I3, rfl, q⟩
theorem o_notinA (hu : X.A.units + 64 < cLine) : OpR X (compareOp .NotIn) (fun x y H Q => fIn X.K true x y H Q ∨ ∃ a o, y = .ref a ∧ DGet H a x o ∧ Q (.bl (!o.isSome)) H) := o_notin.or (o_notinD hu)
theorem c_lenD : CallR X (.builtin "len") (fun xs H Q => ∃ a kvs, xs = [.ref a] ∧ Rd H a (.dK kvs) ∧ Q (.int (kvs.length : Nat)) H) := by
  intro pins s σ H xs us Q I r h
  obtain ⟨a, kvs, rfl, e, q⟩ := h
  obtain ⟨u, rfl, rfl⟩ := vals1 r
  exact d_len I e fun t s' I' => ⟨.int _, H, I', ⟨_, rfl⟩, q⟩
theorem c_dictD : CallR X (.type "dict") (fun xs H Q => ∃ a kvs, xs = [.ref a] ∧ Rd H a (.dK kvs) ∧ ∀ p, H p = none → Q (.ref p) (upd H p (.dK kvs))) := by
  intro pins s σ H xs us Q I r h
  obtain ⟨a, kvs, rfl, e, q⟩ := h
  obtain ⟨u, rfl, rfl⟩ := vals1 r
  exact d_copyOf I e fun p s' hp I' => ⟨.ref p, _, I', rfl, q p hp⟩
end
end L2

set_option Elab.async false
set_option linter.all false
set_option maxRecDepth 100000
namespace PySem
open Sem (wp)
section
variable {prog : Program} {w : World} {A : Around} {E : Value → Shared → Prop} {s : Shared}
end
end PySem
namespace L2
open PySem PySem.Spec PyProof.Rows
section
variable {X : Cx} {pins : List (Addr × Obj)} {σ : St} {H0 : Hp} {A : Around}
end
end L2

set_option Elab.async false
set_option linter.all false
set_option maxRecDepth 100000
namespace L2
open PySem PySem.Spec PyProof.Rows
section
variable {X : Cx} {pins : List (Addr × Obj)} {σ : St} {H : Hp} {s : Shared}
def Ite (K : PySem.W.Frag) (a : Addr) : It :=
  ⟨fun i H => ∃ xs x, SqL K H a xs ∧ xs[i]? = some x, fun i H x H' => ∃ T v, x = .ref T ∧ H T = none ∧ H' = upd H T (.tup [.int (i : Nat), v]) ∧ ∀ xs, SqL K H a xs → xs[i]? = some v, fun i H => ∃ xs, SqL K H a xs ∧ xs.length ≤ i⟩
def iEnum (K : PySem.W.Frag) (ta : TA) : TI := fun σ H R => ta σ H fun vs H1 => ∃ a, vs = [.ref a] ∧ (∃ xs, SqL K H1 a xs) ∧ R (Ite K a) H1
end
def Itd (d : Addr) (o : Obj) (kvs : List (Key × V)) : It :=
  ⟨fun i H => H d = some (.frz o (.dK kvs)) ∧ i < kvs.length, fun i H x H' => H' = H ∧ ∃ k v, kvs[i]? = some (k, v) ∧ x = kV k, fun i H => H d = some (.frz o (.dK kvs)) ∧ kvs.length ≤ i⟩
theorem is_kV {P : Program} {w : World} {k : Key} {u : Value} (h : (mixKind P w).is k u = true) : RelV (kV k) u := by
  cases k with
  | inl i => obtain ⟨t, e⟩ := Value.isInt_shape (show Value.isInt i u = true from h); exact ⟨t, e⟩
  | inr x => obtain ⟨t, e⟩ := Value.isStrOf_shape (show Value.isStrOf x u = true from h); exact ⟨t, e⟩
section
variable {X : Cx}
end
end L2

set_option Elab.async false
set_option linter.all false
set_option maxRecDepth 100000
namespace L2
open PySem PySem.Spec PyProof.Rows
theorem paired_of_get {α β : Type} {F : α → β → Prop} : ∀ {l₁ : List α} {l₂ : List β}, l₁.length = l₂.length → (∀ (i : Nat) a b, l₁[i]? = some a → l₂[i]? = some b → F a b) → Paired F l₁ l₂
  | [], [], _, _ => .nil
  | [], _ :: _, h, _ => by simp at h
  | _ :: _, [], h, _ => by simp at h
  | x :: xs, y :: ys, h, f => .cons (f 0 x y rfl rfl) (paired_of_get (by simpa using h) fun i a b ha hb => f (i + 1) a b (by simpa using ha) (by simpa using hb))
theorem paired_at {α β : Type} {F : α → β → Prop} {l₁ : List α} {l₂ : List β} (h : Paired F l₁ l₂) : ∀ {i : Nat} {a : α} {b : β}, l₁[i]? = some a → l₂[i]? = some b → F a b := by
  induction h with
  | nil => intro i a b h; simp at h
  | cons r t ih =>
    intro i a b ha hb
    cases i with
    | zero => simp only [List.getElem?_cons_zero, Option.some.injEq] at ha hb; subst ha hb; exact r
    | succ j => exact ih (by simpa using ha) (by simpa using hb)
section
variable {X : Cx} {tg : Expr}
def NoFrz (X : Cx) (d : Addr) : Prop := ∀ o u, X.H₀ d ≠ some (.frz o u)
def iDict (X : Cx) (tl : TE) : TI := fun σ H R => tl σ H fun x H1 => ∃ d kvs, x = .ref d ∧ H1 d = some (.dK kvs) ∧ ∀ o, NoFrz X d → (kvs.map (·.1)).Nodup → R (Itd d o kvs) (upd H1 d (.frz o (.dK kvs)))
def thawN (X : Cx) (D : Ends) : St → Hp → Prop := fun σ H => ∃ d o kvs, NoFrz X d ∧ H d = some (.frz o (.dK kvs)) ∧ D.nx σ (upd H d (.dK kvs))
def tForD (X : Cx) (tl : TE) (g : TG) (tb : TS) : TS := fun D σ H => tl σ H fun x H1 => ∃ d kvs, x = .ref d ∧ H1 d = some (.dK kvs) ∧ ∀ o, NoFrz X d → (kvs.map (·.1)).Nodup → ∃ Pv : Nat → St → Hp → Prop, Pv 0 σ (upd H1 d (.frz o (.dK kvs))) ∧
  (∀ i σ H, i ≤ kvs.length → Pv i σ H → H d = some (.frz o (.dK kvs))) ∧
  (∀ i k v σ H, kvs[i]? = some (k, v) → Pv i σ H → g (kV k) σ H fun σ2 H2 => tb { D with nx := Pv (i + 1), ct := Pv (i + 1), bk := thawN X D } σ2 H2) ∧ ∀ σ H, Pv kvs.length σ H → D.nx σ (upd H d (.dK kvs))
theorem c_listD (hc : X.calm = true := by rfl) : CallR X (.type "list") (fun xs H Q => ∃ d kvs, xs = [.ref d] ∧ Rd H d (.dK kvs) ∧ ∀ l, H l = none → Q (.ref l) (upd H l (.lst (kvs.map fun kv => kV kv.1)))) := by
  intro pins s σ H xs us Q I r h
  obtain ⟨d, kvs, rfl, e, q⟩ := h
  obtain ⟨u, rfl, rfl⟩ := vals1 r
  obtain ⟨z, hs, vs, rel, dd⟩ := dk_rd I.hok e
  obtain ⟨ep, dat⟩ := dd.dictAt
  have hl := rel.length
  refine PySem.W.kdl_call (PySem.W.kdl_dict (knd := mixKind X.prog X.w) (kvs := vs) (ep := ep) hs) (I.ok.hd hc) dat (by omega) fun h' tk acc c hk hS hacc => ?_
  have hp := I.hok.fresh (Nat.le_refl s.heap.objs.size)
  refine ⟨.ref s.heap.objs.size, _, I.laid (a := s.heap.objs.size) (o := .lst (kvs.map fun kv => kV kv.1)) (t' := tk) hk (Nat.le_refl _) ⟨by rw [List.length_map]; exact z, acc.toList, c, ?_, by simpa using hS⟩, rfl, q _ hp⟩
  have hsz : acc.size = vs.length := hacc.1
  refine paired_of_get (by simp [hsz, hl]) fun i x y hx hy => ?_
  rw [List.getElem?_map] at hx
  obtain ⟨k, v, hv, hk⟩ := hacc.2 i y (by rw [← Array.getElem?_toList]; exact hy)
  cases hkv : kvs[i]? with
  | none => rw [hkv] at hx; cases hx
  | some kv =>
    rw [hkv] at hx
    have hx' : kV kv.1 = x := Option.some.inj hx
    have := congrArg (fun l => l[i]?) rel.keys
    simp only [List.getElem?_map, hkv, hv] at this
    have hkk : kv.1 = k := by simpa using this
    rw [← hx', hkk]
    exact is_kV hk
end
section
variable {prog : Program} {w : World} {K : Type} [DecidableEq K] {knd : KeyKind prog w K} {A : Around} {E : Value → Shared → Prop} {s : Shared}
theorem shows_all {d : Addr} {Q : Unit → Shared → Prop} (hd : (d == sysModules) = false) (q : Q () s) : wpAny (model prog w) A (Builtin.Dict.showsAll d) Q E s := by
  unfold Builtin.Dict.showsAll
  rw [if_neg (by rw [hd]; exact Bool.false_ne_true)]
  exact wpAny_pure q
theorem find_pairs {k : K} {v : Value} {es : List DictEntry} {lvs : List (K × Value)} (h : Pairs knd es lvs) : valueAt lvs k = some v → ∃ j e, (es.findIdx? fun e => knd.is k e.key) = some j ∧ es[j]? = some e ∧ e.val = v := by
  induction h with
  | nil => intro z; cases z
  | @cons e kv es lvs h1 h2 t ih =>
    intro z
    by_cases hk : kv.1 = k
    · subst hk
      have : valueAt (kv :: lvs) kv.1 = some kv.2 := by simp [valueAt, List.find?_cons]
      rw [this] at z
      exact ⟨0, e, by rw [List.findIdx?_cons, if_pos h1], rfl, by rw [h2]; exact Option.some.inj z⟩
    · have : valueAt (kv :: lvs) k = valueAt lvs k := by simp [valueAt, List.find?_cons, hk]
      rw [this] at z
      obtain ⟨j, f, hj, hf, hv⟩ := ih z
      have hn : ¬ knd.is k e.key = true := fun q => hk (knd.inj _ _ _ h1 q)
      exact ⟨j + 1, f, by rw [List.findIdx?_cons, if_neg hn, hj]; rfl, hf, hv⟩
theorem same_pairs {id : String} {a b : Addr} {kvs lvs : List (K × Value)} {Q : Bool → Shared → Prop} (hda : (a == sysModules) = false) (hdb : (b == sysModules) = false) (ha : s.heap.DictOf knd a kvs) (hb : s.heap.DictOf knd b lvs) (hl : kvs.length = lvs.length)
    (hv : ∀ (i : Nat) k v, kvs[i]? = some (k, v) → ∃ v', valueAt lvs k = some v' ∧ SeqAt.EqAt A s v v' true) (q : Q true s) : wpAny (model prog w) A (Builtin.Dict.samePairs id a b) Q E s := by
  obtain ⟨o, es, ep, ho, hx, hd, hk, hp, hn⟩ := ha
  obtain ⟨o2, es2, ep2, ho2, hx2, hd2, hk2, hp2, hn2⟩ := hb
  have hz : es.size = kvs.length := by rw [← hp.length]; simp
  have hz2 : es2.size = lvs.length := by rw [← hp2.length]; simp
  unfold Builtin.Dict.samePairs
  refine wpAny_bind (shows_all hda ?_)
  refine wpAny_bind (shows_all hdb ?_)
  refine wpAny_bind (wpAny_dictEntries ho hd ?_)
  refine wpAny_bind (wpAny_dictEntries ho2 hd2 ?_)
  rw [if_neg (by simp; omega)]
  refine wpAny_bind (wpAny_dictEpoch ho hd ?_)
  refine wpAny_bind ?_
  rw [Std.Legacy.Range.forIn_eq_forIn_range']
  simp only [Std.Legacy.Range.size, Nat.sub_zero, Nat.add_sub_cancel, Nat.div_one]
  refine wpAny_forIn_list _ (fun rest b s' => b = (none, ()) ∧ s' = s ∧ ∀ i ∈ rest, i < es.size) _ ?_ ?_ _ _ ⟨rfl, rfl, fun i hi => ?_⟩
  · rintro i rest c s' ⟨rfl, rfl, hr⟩
    have hi : i < es.size := hr i (by simp)
    refine wpAny_bind (wpAny_dictEntries ho hd ?_)
    rw [Array.getElem?_eq_getElem hi]
    obtain ⟨⟨k, v⟩, hkv⟩ : ∃ kv, kvs[i]? = some kv := ⟨kvs[i]'(by omega), List.getElem?_eq_getElem (by omega)⟩
    obtain ⟨hkey, hval⟩ := hp.get? (e := es[i]) (by simp [hi]) hkv
    obtain ⟨k', hk', hh⟩ := hk es[i] (Array.getElem_mem hi)
    obtain ⟨v', hv', he⟩ := hv i k v hkv
    have hkk : k' = k := knd.inj _ _ _ hk' hkey
    subst hkk
    show wpAny _ _ (holding [es[i].key, es[i].val] _ >>= _) _ _ _
    refine wpAny_bind (wpAny_holding ?_)
    rw [hh, hval]
    refine wpAny_bind (wpAny_dictFind_of hkey ho2 hd2 hk2 ?_)
    obtain ⟨j, f, hj, hf, hfv⟩ := find_pairs hp2 hv'
    rw [← List.findIdx?_toArray, Array.toArray_toList] at hj
    rw [Array.getElem?_toList] at hf
    rw [hj]
    refine wpAny_bind (wpAny_dictEntries ho2 hd2 ?_)
    rw [hf]
    show wpAny _ _ (holding [f.val] (eqBool v f.val)) _ _ _
    rw [hfv]
    refine wpAny_holding (he _ _ _ _ ?_)
    rw [if_neg (by decide)]
    refine wpAny_bind (wpAny_dictEpoch ho hd ?_)
    rw [if_neg (by simp)]
    exact wpAny_pure ⟨rfl, rfl, fun z hz => hr z (List.mem_cons_of_mem _ hz)⟩
  · rintro c s' ⟨rfl, rfl, _⟩
    exact wpAny_pure q
  · have := (List.mem_range'_1.mp hi).2
    omega
end
theorem valV_at {κ : Type} [DecidableEq κ] : ∀ {kvs : List (κ × V)} {i : Nat} {k : κ} {v : V}, (kvs.map (·.1)).Nodup → kvs[i]? = some (k, v) → valV kvs k = some v
  | [], i, k, v, _, h => by simp at h
  | p :: r, 0, k, v, _, h => by
    simp only [List.getElem?_cons_zero, Option.some.injEq] at h
    subst h
    exact valV_pos (p := (k, v)) rfl
  | p :: r, i + 1, k, v, hn, h => by
    rw [List.map_cons] at hn
    have hr := List.nodup_cons.mp hn
    have hi : r[i]? = some (k, v) := by simpa using h
    have hne : ¬ p.1 = k := fun z => hr.1 (by rw [z]; exact List.mem_map_of_mem (f := (·.1)) (List.mem_of_getElem? hi))
    rw [valV_neg hne]
    exact valV_at hr.2 hi
section
variable {X : Cx}
def ValEq (K : PySem.W.Frag) (H : Hp) (v v' : V) : Prop := (v = v' ∧ flatR v = true) ∨ ∃ p q xs, v = .ref p ∧ v' = .ref q ∧ SqL K H p xs ∧ SqL K H q xs ∧ xs.all flatR = true
theorem eqAt_of {pins : List (Addr × Obj)} {σ : St} {H : Hp} {s : Shared} {A : Around} {v v' : V} {u u' : Value} (I : Inv X pins σ H s) (hu : A.units < cLine) (h : ValEq X.K H v v') (r : RelV v u) (r' : RelV v' u') : SeqAt.EqAt A s u u' true := by
  rcases h with ⟨rfl, hf⟩ | ⟨p, q, xs, rfl, rfl, hp, hq, hf⟩
  · exact eqAt_same hf r r' A s
  · cases r
    cases r'
    by_cases hpq : p = q
    · subst hpq; exact .same _
    · obtain ⟨its, r1, ⟨o, n, e1, c1, _, d1⟩, _⟩ := I.list hp
      obtain ⟨jts, r2, ⟨o2, n2, e2, c2, _, d2⟩, _⟩ := I.list hq
      have l1 := r1.length
      have l2 := r2.length
      have hR := SeqAt.RcAt.lists (A := A) (s := s) (e := fun _ => true) (l := p) (b := q) (items := its.toArray) (items2 := jts.toArray) ⟨o, e1, c1, n, d1⟩ ⟨o2, e2, c2, n2, d2⟩ (by simp; omega) hu (fun j h1 h2 => by
        simp at h1 h2
        obtain ⟨x, hx⟩ : ∃ x, xs[j]? = some x := ⟨xs[j]'(by omega), List.getElem?_eq_getElem (by omega)⟩
        obtain ⟨u1, g1, w1⟩ := r1.get hx
        obtain ⟨u2, g2, w2⟩ := r2.get hx
        have z1 : its.toArray[j]'(by simpa using h1) = u1 := by
          have := List.getElem?_eq_getElem h1
          rw [g1] at this
          simpa using (Option.some.inj this).symm
        have z2 : jts.toArray[j]'(by simpa using h2) = u2 := by
          have := List.getElem?_eq_getElem h2
          rw [g2] at this
          simpa using (Option.some.inj this).symm
        rw [z1, z2]
        exact eqAt_same (List.all_eq_true.mp hf x (List.mem_of_getElem? hx)) w1 w2 _ _)
      have : ((List.range its.toArray.size).all fun _ => true) = true := by simp
      rw [this] at hR
      exact .of_refs hpq hR
theorem o_eqD (hu : X.A.units + 64 < cLine) : OpR X (compareOp .Eq) (fun x y H Q => ∃ a b kvs lvs, x = .ref a ∧ y = .ref b ∧ Rd H a (.dK kvs) ∧ Rd H b (.dK lvs) ∧ kvs.length = lvs.length ∧
    (∀ k v, valV kvs k = some v → ∃ v', valV lvs k = some v' ∧ ValEq X.K H v v') ∧ Q (.bl true) H) := by
  intro pins s σ H x y v u Q I rx ry h
  obtain ⟨a, b, kvs, lvs, rfl, rfl, ha, hb, hl, hv, q⟩ := h
  cases rx
  cases ry
  obtain ⟨z, hs, vs, rel, dd⟩ := dk_rd I.hok ha
  obtain ⟨z2, hs2, vs2, rel2, dd2⟩ := dk_rd I.hok hb
  have e1 := rel.length
  have e2 := rel2.length
  refine wpAny_richCompare_same_room (op := .Eq) dd.typeIs dd2.typeIs PySem.F.slot_dict_eq (wpAny_call_entry PySem.F.slot_dict_eq dd.typeIs PySem.F.entry_dict_eq ?_ (PySem.F.args_dict_eq_2 _ _)) (by omega)
  show wpAny _ _ (Builtin.Dict.dictSlotArgs "__eq__" ⟨[.ref a, .ref b], []⟩ >>= _) _ _ _
  refine wpAny_bind ?_
  unfold Builtin.Dict.dictSlotArgs
  refine wpAny_bind (wpAny_notOrdered_dict dd.typeIs ?_)
  show wpAny _ _ (pure (Value.ref a, Value.ref b)) _ _ _
  refine wpAny_pure ?_
  refine wpAny_bind (wpAny_isInstance (T := "dict") (b := true) dd2.typeIs (by rw [isSubtype_type]; kernel_rfl) ?_)
  show wpAny _ _ (Builtin.Dict.samePairs "dict.__eq__" a b >>= _) _ _ _
  refine wpAny_bind (same_pairs hs hs2 dd dd2 (by omega) (fun i k v hi => ?_) ?_)
  · obtain ⟨⟨k', v'⟩, hkv⟩ : ∃ kv, kvs[i]? = some kv := ⟨kvs[i]'(by have := (List.getElem?_eq_some_iff.mp hi).1; omega), List.getElem?_eq_getElem _⟩
    have hr : k' = k ∧ RelV v' v := paired_at rel hkv hi
    obtain ⟨rfl, hrv⟩ := hr
    obtain ⟨w', hw, hq⟩ := hv k' v' (valV_at (by rw [rel.keys]; exact (dd.dictAt.choose_spec).nodup) hkv)
    have hval := rel2.val k'
    rw [hw] at hval
    cases hvv : valueAt vs2 k' with
    | none => rw [hvv] at hval; exact (show False from hval).elim
    | some u' =>
      rw [hvv] at hval
      exact ⟨u', rfl, eqAt_of I (show X.A.units + 1 < cLine by omega) hq hrv hval⟩
  · show wpAny _ _ (ret (.bool true)) _ _ _
    exact wpAny_pure ⟨.bool true, rfl, (fun z => nomatch z), .bl true, H, I, rfl, q⟩
end
end L2

set_option Elab.async false
set_option linter.all false
set_option maxRecDepth 100000
namespace L2
open PySem PySem.Spec PyProof.Rows
section
variable {X : Cx}
structure SplitOk (z y : Str) (ws : List Str) : Prop where
  h1 : (decide (z.length < y.length) || decide (Builtin.Str.strKind z < Builtin.Str.strKind y)) = false
  hy : (y.length == 0) = false
  hf : (Builtin.Str.occurrences z y 0 z.length (z.length + 1)).isEmpty = false
  hx : z.length ≤ sizeLine
  hn : ws.length ≤ sizeLine
  e : Builtin.Str.partsBetween z (Builtin.Str.occurrences z y 0 z.length (z.length + 1)) y.length = ws
theorem vals_from : ∀ (tk : Nat) (ws : List Str), Vals (ws.map V.str) (strsFrom tk ws)
  | _, [] => .nil
  | tk, x :: r => .cons ⟨_, rfl⟩ (vals_from (tk + 1) r)
theorem mt_split : MtR X "str.split" (fun x xs H Q => ∃ (z y : Str) (ws : List Str), x = .str z ∧ xs = [.str y] ∧ SplitOk z y ws ∧ ∀ l, H l = none → Q (.ref l) (upd H l (.lst (ws.map V.str)))) := by
  intro pins s σ H x xs v us Q I rx rs h
  obtain ⟨z, y, ws, rfl, rfl, ok, q⟩ := h
  obtain ⟨t, rfl⟩ := rx
  obtain ⟨u, rfl, ru⟩ := rs.one
  obtain ⟨t2, rfl⟩ := ru
  obtain ⟨h1, hy, hf, hx, hn, e⟩ := ok
  subst e
  refine call_meets F.slot_str_split (typeIs_str _ _ _) F.entry_str_split (F.args_str_split_2 _ _) (meets_str_split_sep z y t t2 h1 hy hf hx hn) ?_
  exact ⟨.ref _, _, I.lnew (vals_from _ _) (by rw [List.length_map]; exact hn), rfl, q _ I.fresh⟩
theorem m_split {o e : Expr} {to : TE} {t : TA} {apos cpos : Pos} (ho : PE X o to) (ha : PA X [e] t) (hbase : attributeBase o "split" X.env (eval o X.env) = eval o X.env := by rfl)
    (hfew : ((backTo cpos (starEach [e] X.env)).all (fun x => !x.1) && (backToKw cpos (keywordEach [] X.env)).all (fun x => x.1.isSome)
      && decide ([e].length + ([] : List Keyword).length + (if ([] : List Keyword).isEmpty then 0 else 1) < 30)) = true := by rfl)
    (hline : (apos.endLine == cpos.line) = true := by rfl) (hs : starEach [e] X.env = (false, eval e X.env) :: starEach [] X.env := by rfl) (hplain : (backTo cpos (starEach [] X.env)).any (·.1) = false := by rfl) :
    PE X (.Call (.Attribute o "split" apos) [e] [] cpos) (tBM X.K "str" (fun x xs H Q => ∃ (z y : Str) (ws : List Str), x = .str z ∧ xs = [.str y] ∧ SplitOk z y ws ∧ ∀ l, H l = none → Q (.ref l) (upd H l (.lst (ws.map V.str)))) to t) :=
  pe_bm PySem.F.plainAttrs_str PySem.F.slot_str_split PySem.F.type_str_split mt_split ho ha hbase hfew hline hs hplain
def repS (z : Str) (n : Int) : Str := if n < 1 then Str.empty else if (n == 1 || z.length == 0) = true then z else ⟨(List.replicate n.toNat z.cps).foldl (· ++ ·) #[]⟩
def fMulA : R2 := fun x y H Q => match x, y with
  | .int i, .int j => CMul i j ∧ Q (.int (i * j)) H
  | .str z, .int n => n < 1000 ∧ -1000 < n ∧ z.length ≤ 1000 ∧ Q (.str (repS z n)) H
  | .ref p, .int k => ∃ xs, H p = some (.lst xs) ∧ -(2 ^ 63) ≤ k ∧ k < 2 ^ 63 ∧ xs.length * k.toNat ≤ sizeLine ∧ ∀ l, H l = none → Q (.ref l) (upd H l (.lst (List.replicate k.toNat xs).flatten))
  | _, _ => False
theorem fold_size (xs : List (Array Nat)) : ∀ acc : Array Nat, (xs.foldl (· ++ ·) acc).size = acc.size + (xs.map (·.size)).sum := by
  induction xs with
  | nil => intro acc; simp
  | cons x r ih => intro acc; rw [List.foldl_cons, ih, Array.size_append, List.map_cons, List.sum_cons]; omega
theorem rep_size (z : Str) (n : Nat) : (⟨(List.replicate n z.cps).foldl (· ++ ·) #[]⟩ : Str).length = n * z.length := by
  show ((List.replicate n z.cps).foldl (· ++ ·) #[]).size = _
  rw [fold_size, List.map_replicate]
  have : ∀ m k : Nat, (List.replicate m k).sum = m * k := fun m k => by
    induction m with
    | zero => simp
    | succ m ih => rw [List.replicate_succ, List.sum_cons, ih, Nat.succ_mul]; omega
  rw [this]
  simp [Str.length]
theorem o_mulA : OpR X (binaryOp .Mult) fMulA := by
  intro pins s σ H x y v u Q I rx ry h
  cases x with
  | int i =>
    cases y with
    | int j => exact o_mul pins s σ H _ _ v u Q I rx ry h
    | _ => exact (show False from h).elim
  | str z =>
    cases y with
    | int n =>
      obtain ⟨h1, h2, h3, q⟩ := h
      obtain ⟨t, rfl⟩ := rx
      obtain ⟨t2, rfl⟩ := ry
      have hb : ¬ n < 1 → n.toNat * z.length ≤ 1000000 := fun hn => by
        have e1 : n.toNat ≤ 1000 := by omega
        exact Nat.le_trans (Nat.mul_le_mul e1 h3) (by decide)
      refine P.mul_str (by rw [decide_eq_false (by omega), decide_eq_false (by omega)]; rfl) (fun hn _ => ?_) (fun hn _ => ?_) ?_
      · intro z1
        have h0 : (0 : Int) < n := by omega
        have := Int.lt_mul_of_ediv_lt h0 z1
        have e2 : ((z.length : Int)) * n ≤ 1000 * 1000 := Int.mul_le_mul (by omega) (by omega) (by omega) (by decide)
        omega
      · unfold Builtin.Str.tooLong
        have := hb hn
        rw [Nat.mul_comm] at this
        refine decide_eq_false ?_
        rw [sizeLine_eq]
        omega
      · unfold repS at q
        by_cases c1 : n < 1
        · rw [if_pos c1] at q ⊢
          exact ⟨by decide, .str _, H, I.tok _, ⟨_, rfl⟩, q⟩
        · rw [if_neg c1] at q ⊢
          by_cases c2 : (n == 1 || z.length == 0) = true
          · rw [if_pos c2] at q ⊢
            exact ⟨.str _, H, I, ⟨_, rfl⟩, q⟩
          · rw [if_neg c2] at q ⊢
            refine ⟨?_, .str _, H, I.tok _, ⟨_, rfl⟩, q⟩
            rw [rep_size]
            have := hb c1
            rw [sizeLine_eq]
            omega
    | _ => exact (show False from h).elim
  | ref p =>
    cases y with
    | int k =>
      obtain ⟨xs, h1, h2, h3, h4, q⟩ := h
      exact op_rep pins s σ H _ _ v u Q I rx ry ⟨p, k, xs, rfl, rfl, h1, h2, h3, h4, q⟩
    | _ => exact (show False from h).elim
  | _ => cases y <;> exact (show False from h).elim
end
end L2

set_option Elab.async false
set_option linter.all false
set_option maxRecDepth 100000
namespace L2
open PySem PySem.Spec PyProof.Rows
section
variable {X : Cx}
def DictEq (K : PySem.W.Frag) (H : Hp) (a b : Addr) : Prop := ∃ kvs lvs, Rd H a (.dK kvs) ∧ Rd H b (.dK lvs) ∧ kvs.length = lvs.length ∧ ∀ k v, valV kvs k = some v → ∃ v', valV lvs k = some v' ∧ ValEq K H v v'
def fEqU (K : PySem.W.Frag) : R2 := fun x y H Q => match x, y with
  | .ref p, .ref q => ((∃ d e, RepD K H (.ref p) d ∧ RepD K H (.ref q) e ∧ SeqAt.shaped d = true ∧ SeqAt.shaped e = true ∧ Q (.bl (PyData.eqv d e)) H) ∨ (∃ xs, SqL K H p xs ∧ SqL K H q xs ∧ xs.all flatR = true ∧ Q (.bl true) H)) ∨ (DictEq K H p q ∧ Q (.bl true) H)
  | x, y => scal x y = true ∧ Q (.bl (decide (x = y))) H
theorem o_eqU (hu : X.A.units + 64 < cLine) : OpR X (compareOp .Eq) (fEqU X.K) := ((o_eqA hu).or (o_eqD hu)).imp fun x y H Q q => by
  by_cases hr : ∃ p q, x = V.ref p ∧ y = V.ref q
  · obtain ⟨p, q', rfl, rfl⟩ := hr
    rcases q with q | ⟨⟨kvs, lvs, h1, h2, h3, h4⟩, h5⟩
    · exact .inl q
    · exact .inr ⟨p, q', kvs, lvs, rfl, rfl, h1, h2, h3, h4, h5⟩
  · refine .inl ?_
    cases x <;> cases y <;> first | exact q | exact absurd ⟨_, _, rfl, rfl⟩ hr
theorem c_lenA : CallR X (.builtin "len") (fun xs H Q => (∃ x n, xs = [x] ∧ LenV X.K x H n ∧ Q (.int n) H) ∨ ∃ a kvs, xs = [.ref a] ∧ Rd H a (.dK kvs) ∧ Q (.int (kvs.length : Nat)) H) := c_len.or c_lenD
theorem c_listA (hc : X.calm = true := by rfl) : CallR X (.type "list") (fun xs H Q => (∃ p ys, xs = [.ref p] ∧ (SqL X.K H p ys ∨ SqT X.K H p ys) ∧ ∀ l, H l = none → Q (.ref l) (upd H l (.lst ys))) ∨ ∃ d kvs, xs = [.ref d] ∧ Rd H d (.dK kvs) ∧ ∀ l, H l = none → Q (.ref l) (upd H l (.lst (kvs.map fun kv => kV kv.1)))) := c_list.or (c_listD hc)
end
end L2

set_option Elab.async false
set_option linter.all false
set_option maxRecDepth 100000
namespace L2
open PySem PySem.Spec PyProof.Rows
section
variable {X : Cx} {pins : List (Addr × Obj)} {σ : St} {H : Hp} {s : Shared}
def Itz (K : PySem.W.Frag) (a b : Addr) : It :=
  ⟨fun i H => ∃ xs ys x y, SqL K H a xs ∧ SqL K H b ys ∧ xs[i]? = some x ∧ ys[i]? = some y,
   fun i H v H' => ∃ T x y, v = .ref T ∧ H T = none ∧ H' = upd H T (.tup [x, y]) ∧ ∀ xs ys, SqL K H a xs → SqL K H b ys → xs[i]? = some x ∧ ys[i]? = some y,
   fun i H => ∃ xs ys, SqL K H a xs ∧ SqL K H b ys ∧ (xs.length ≤ i ∨ ys.length ≤ i)⟩
def ZipAt (z TI TO i1 i2 a b : Addr) (i : Nat) (h : Heap) : Prop := IsZip h z TI TO .none ∧ IsPair h TI (.ref i1) (.ref i2) ∧ (∃ u v, IsPair h TO u v) ∧ h.IsListIter i1 a i ∧ h.IsListIter i2 b i
def iZip (K : PySem.W.Frag) (ta : TA) : TI := fun σ H R => ta σ H fun vs H1 => ∃ a b, vs = [.ref a, .ref b] ∧ (∃ xs, SqL K H1 a xs) ∧ (∃ ys, SqL K H1 b ys) ∧ R (Itz K a b) H1
end
end L2

set_option Elab.async false
set_option linter.all false
set_option maxRecDepth 100000
set_option maxHeartbeats 4000000
namespace L2
open PySem PySem.Spec PyProof.Rows
open PySem.W (Looks InstAt looks_findIn looks_mroIn looks_clsIn looks_find)
section
variable {M : Model} {A : Around} {E : Value → Shared → Prop} {s : Shared} {env : Env} {outer : List Env} {base : Heap} {L e : Addr} {oe : Obj} {vs : Array Value}
end
section
variable {X : Cx} {pins : List (Addr × Obj)} {σ : St} {H : Hp} {s : Shared} {e C : Addr} {od : Option Addr} {fl : Bool}
end
def tOut (t : TB → TS) : TS := fun D σ H => ∀ b, t b D σ H
end L2

set_option Elab.async false
set_option linter.all false
set_option maxRecDepth 100000
set_option maxHeartbeats 4000000
namespace L2
open PySem PySem.Spec PyProof.Rows
end L2
namespace L2
open PySem PySem.Spec PyProof.Rows
section
variable {X : Cx}
end
end L2

set_option Elab.async false
set_option linter.all false
set_option maxRecDepth 100000
set_option maxHeartbeats 4000000
namespace L2
open PySem PySem.Spec PyProof.Rows
section
variable {X : Cx}
theorem m_pop {o : Expr} {to : TE} {apos cpos : Pos} (ho : PE X o to) (hbase : attributeBase o "pop" X.env (eval o X.env) = eval o X.env := by rfl) (hline : (apos.endLine == cpos.line) = true := by rfl) :
    PE X (.Call (.Attribute o "pop" apos) [] [] cpos) (tBM0 X.K "list" rPop to) :=
  pe_bm0 PySem.F.plainAttrs_list PySem.F.slot_list_pop PySem.F.type_list_pop mt_pop ho hbase hline
end
end L2
namespace L2
open PySem PySem.Spec PyProof.Rows
section
variable {X : Cx}
end
end L2

set_option Elab.async false
set_option linter.all false
set_option maxRecDepth 100000
set_option maxHeartbeats 4000000
namespace L2
open PySem PySem.Spec PyProof.Rows
section
variable {X : Cx}
end
end L2

set_option Elab.async false
set_option linter.all false
set_option maxRecDepth 100000
namespace L2
open PySem PySem.Spec PyProof.Rows
section
variable {X : Cx}
def rIndexL (K : PySem.W.Frag) : V → List V → Hp → VK → Prop := fun x vs H Q => ∃ p xs y j, x = .ref p ∧ vs = [y] ∧ SqL K H p xs ∧ xs.length ≤ 1000 ∧ flatV y = true ∧ xs.all flatV = true ∧ xs.findIdx? (fun a => eqV a y) = some j ∧ Q (.int (j : Nat)) H
end
end L2

set_option Elab.async false
set_option linter.all false
set_option maxRecDepth 100000
namespace L2
open PySem PySem.Spec PyProof.Rows
section
variable {X : Cx}
theorem c_sum (hc : X.calm = true := by rfl) : CallR X (.builtin "sum") (fun xs H Q => ∃ (p : Addr) (ns : List Int), xs = [.ref p] ∧ SqL X.K H p (ns.map V.int) ∧ Q (.int ns.sum) H) := by
  intro pins s σ H xs us Q I r h
  obtain ⟨p, ns, rfl, hq, q⟩ := h
  obtain ⟨u, rfl, rx⟩ := vals1 r
  cases rx
  obtain ⟨its, rv, pl, hz⟩ := I.list hq
  have hl := pl.isList
  have ia := intsAre_of rv
  obtain ⟨xs, hx⟩ := ia.allInts.items
  have hn : xs.toList.map (·.1) = ns := by
    rw [← nums_intItems, ← hx]
    exact ia.numsOf
  rw [hx] at hl
  refine sum_intListG (I.ok.hd hc) hl fun h' tk t' hk => ⟨.int _, H, I.kept (t' := tk) hk, ⟨_, rfl⟩, ?_⟩
  rw [preSum_eq, List.take_of_length_le (by simp), hn]
  exact q
theorem mt_dupdate : MtR X "dict.update" (fun x xs H Q => ∃ a b kvs more, x = .ref a ∧ xs = [.ref b] ∧ a ≠ b ∧ H a = some (.dK kvs) ∧ Rd H b (.dK more) ∧ kvs.length + more.length ≤ 1000 ∧ Q .non (upd H a (.dK (mergeK kvs more)))) := by
  intro pins s σ H x xs v us Q I rx rs h
  obtain ⟨a, b, kvs, more, rfl, rfl, hne, ea, eb, hz, q⟩ := h
  cases rx
  obtain ⟨u, rfl, ru⟩ := Vals.one rs
  cases ru
  obtain ⟨z, hd, vs, rel, dd⟩ := dk_of I.hok ea
  obtain ⟨z2, hd2, vs2, rel2, dd2⟩ := dk_rd I.hok eb
  have l1 := rel.length
  have l2 := rel2.length
  refine call_meetsIn PySem.F.slot_dict_update dd.typeIs PySem.F.entry_dict_update (PySem.F.args_dict_update_2 _ _) (meets_dict_update (mixKind X.prog X.w) a b hne hd2) ⟨vs, vs2, dd, dd2, Nat.le_of_lt (small1000 (by omega)), fun h' dd' _ hs => ?_⟩
  have he : ∃ q, h'.get? a = some q := let ⟨q, _, _, hq, _⟩ := dd'; ⟨q, hq⟩
  exact ⟨.non, _, d_write (t' := s.toks) I (by rw [ea]; exact True.intro) hs he (dk_new (Nat.le_trans (length_mergeK _ _) (Nat.le_of_lt (small1000 hz))) hd (KV.merge rel2 rel) dd'), rfl, q⟩
theorem m_updateD {o e : Expr} {to : TE} {t : TA} {apos cpos : Pos} (ho : PE X o to) (ha : PA X [e] t) (hbase : attributeBase o "update" X.env (eval o X.env) = eval o X.env := by rfl)
    (hfew : ((backTo cpos (starEach [e] X.env)).all (fun x => !x.1) && (backToKw cpos (keywordEach [] X.env)).all (fun x => x.1.isSome)
      && decide ([e].length + ([] : List Keyword).length + (if ([] : List Keyword).isEmpty then 0 else 1) < 30)) = true := by rfl)
    (hline : (apos.endLine == cpos.line) = true := by rfl) (hs : starEach [e] X.env = (false, eval e X.env) :: starEach [] X.env := by rfl) (hplain : (backTo cpos (starEach [] X.env)).any (·.1) = false := by rfl) :
    PE X (.Call (.Attribute o "update" apos) [e] [] cpos) (tBM X.K "dict" (fun x xs H Q => ∃ a b kvs more, x = .ref a ∧ xs = [.ref b] ∧ a ≠ b ∧ H a = some (.dK kvs) ∧ Rd H b (.dK more) ∧ kvs.length + more.length ≤ 1000 ∧ Q .non (upd H a (.dK (mergeK kvs more)))) to t) :=
  pe_bm PySem.F.plainAttrs_dict PySem.F.slot_dict_update PySem.F.type_dict_update mt_dupdate ho ha hbase hfew hline hs hplain
end
end L2

set_option Elab.async false
set_option linter.all false
set_option maxRecDepth 100000
namespace L2
open PySem PySem.Spec PyProof.Rows
def EqW (prog : Program) (w : World) (A : Around) (s : Shared) (y x : Value) : Prop := ∀ (E : Value → Shared → Prop) (Q : Bool → Shared → Prop), Q true s → wpAny (model prog w) A (eqBool y x) Q E s
def RcW (prog : Program) (w : World) (A : Around) (s : Shared) (y x : Value) : Prop := ∀ (E : Value → Shared → Prop) (Q : Value → Shared → Prop), Q (.bool true) s → wpAny (model prog w) A (richCompare .Eq y x) Q E s
section
variable {X : Cx}
theorem EqW.of_refs {prog : Program} {w : World} {A : Around} {s : Shared} {l b : Addr} (hne : l ≠ b) (h : RcW prog w A s (.ref l) (.ref b)) : EqW prog w A s (.ref l) (.ref b) := fun E Q hq => by
  unfold eqBool; refine wpAny_holding (wpAny_ite_split (fun hab => absurd (Value.ref.inj (eq_of_beq hab)) hne) fun _ => wpAny_bind (h E _ (wpAny_truthy_bool hq)))
theorem rc_dict {pins : List (Addr × Obj)} {σ : St} {H : Hp} {s : Shared} {A : Around} {a b : Addr} (I : Inv X pins σ H s) (hu : A.units + 2 < cLine) (h : DictEq X.K H a b) : EqW X.prog X.w A s (.ref a) (.ref b) := by
  by_cases hab : a = b
  · subst hab; exact fun E Q hq => SeqAt.EqAt.same _ X.prog X.w E Q hq
  obtain ⟨kvs, lvs, ha, hb, hl, hv⟩ := h
  refine EqW.of_refs hab fun E Q hq => ?_
  obtain ⟨z, hs, vs, rel, dd⟩ := dk_rd I.hok ha
  obtain ⟨z2, hs2, vs2, rel2, dd2⟩ := dk_rd I.hok hb
  have e1 := rel.length
  have e2 := rel2.length
  have hvals : ∀ (i : Nat) k v, vs[i]? = some (k, v) → ∃ v', valueAt vs2 k = some v' ∧ ∀ A : Around, A.units < cLine → SeqAt.EqAt A s v v' true := fun i k v hi => by
    obtain ⟨⟨k', v'⟩, hkv⟩ : ∃ kv, kvs[i]? = some kv := ⟨kvs[i]'(by have := (List.getElem?_eq_some_iff.mp hi).1; omega), List.getElem?_eq_getElem _⟩
    have hr : k' = k ∧ RelV v' v := paired_at rel hkv hi
    obtain ⟨rfl, hrv⟩ := hr
    obtain ⟨w', hw, hq⟩ := hv k' v' (valV_at (by rw [rel.keys]; exact (dd.dictAt.choose_spec).nodup) hkv)
    have hval := rel2.val k'
    rw [hw] at hval
    cases hvv : valueAt vs2 k' with
    | none => rw [hvv] at hval; exact (show False from hval).elim
    | some u' =>
      rw [hvv] at hval
      exact ⟨u', rfl, fun A hA => eqAt_of I hA hq hrv hval⟩
  refine wpAny_richCompare_same_room (op := .Eq) dd.typeIs dd2.typeIs PySem.F.slot_dict_eq (wpAny_call_entry PySem.F.slot_dict_eq dd.typeIs PySem.F.entry_dict_eq ?_ (PySem.F.args_dict_eq_2 _ _)) (by omega)
  show wpAny _ _ (Builtin.Dict.dictSlotArgs "__eq__" ⟨[.ref a, .ref b], []⟩ >>= _) _ _ _
  refine wpAny_bind ?_
  unfold Builtin.Dict.dictSlotArgs
  refine wpAny_bind (wpAny_notOrdered_dict dd.typeIs ?_)
  show wpAny _ _ (pure (Value.ref a, Value.ref b)) _ _ _
  refine wpAny_pure ?_
  refine wpAny_bind (wpAny_isInstance (T := "dict") (b := true) dd2.typeIs (by rw [isSubtype_type]; kernel_rfl) ?_)
  show wpAny _ _ (Builtin.Dict.samePairs "dict.__eq__" a b >>= _) _ _ _
  refine wpAny_bind (same_pairs hs hs2 dd dd2 (by omega) (fun i k v hi => ?_) ?_)
  · obtain ⟨v', h1, h2⟩ := hvals i k v hi
    exact ⟨v', h1, h2 _ (show A.units + 1 < cLine by omega)⟩
  · show wpAny _ _ (ret (.bool true)) _ _ _
    exact wpAny_pure ⟨.bool true, rfl, (fun z => nomatch z), hq⟩
theorem eq_loopW {prog : Program} {w : World} {l b : Addr} {xs ys : Array Value} {n n2 : Nat} {dd dd2 : Option Addr} {sl sl2 : Array (Option Value)} (hsz : xs.size = ys.size) (k : Nat) :
    ∀ i : Nat, xs.size - i = k → MeetsIn prog w (Builtin.«list.__eq__.loop» ⟨[.ref l, .ref b, rawInt i, rawInt 2], []⟩) (fun A R s => s.heap.get? l = some { cls := .type "list", dict := dd, data := .seq xs n, slots := sl } ∧
      s.heap.get? b = some { cls := .type "list", dict := dd2, data := .seq ys n2, slots := sl2 } ∧ (∀ j (h1 : j < xs.size) (h2 : j < ys.size), EqW prog w A.in1 s xs[j] ys[j]) ∧ R (.ok (.ret (.bool true))) s) := by
  induction k with
  | zero =>
    intro i hk A R s h; obtain ⟨hp, g, d, tk, os⟩ := s; obtain ⟨h1, h2, he, h⟩ := h
    wp_walk using PySem.AutoSeq1.wpAny_loadPart' h1, PySem.AutoSeq1.wpAny_loadPart' h2
    rw [show xs[((i : Nat) : Int).toNat]? = none by simp; omega, show ys[((i : Nat) : Int).toNat]? = none by simp; omega]
    wp_walk using PySem.AutoSeq1.wpAny_loadPart' h1, PySem.AutoSeq1.wpAny_loadPart' h2
    show R (.ok (.ret (.bool (xs.size == ys.size)))) _; rw [hsz, beq_self_eq_true]; exact h
  | succ k ih =>
    intro i hk A R s h; obtain ⟨hp, g, d, tk, os⟩ := s; obtain ⟨h1, h2, he, h⟩ := h
    wp_walk using PySem.AutoSeq1.wpAny_loadPart' h1, PySem.AutoSeq1.wpAny_loadPart' h2
    have lt1 : i < xs.size := by omega
    have lt2 : i < ys.size := by omega
    rw [show xs[((i : Nat) : Int).toNat]? = some xs[i] by simp [lt1], show ys[((i : Nat) : Int).toNat]? = some ys[i] by simp [lt2]]
    refine wpAny_bind (he i lt1 lt2 _ _ ?_)
    wp_walk
    rw [show ((i : Int) + 1) = ((i + 1 : Nat) : Int) by push_cast; rfl]
    exact ⟨plainId_quiet MeetsSeq3.plain_eq_loop _, codeAny_builtin MeetsSeq3.entry_eq_loop (by rw [Around.under_plainId MeetsSeq3.plain_eq_loop _]; exact ih (i + 1) (by omega) A R _ ⟨h1, h2, he, h⟩)⟩
theorem list_eqW {prog : Program} {w : World} {l b : Addr} {xs ys : Array Value} {n n2 : Nat} {dd dd2 : Option Addr} {sl sl2 : Array (Option Value)} (hsz : xs.size = ys.size) :
    MeetsIn prog w (Builtin.«list.__eq__» ⟨[.ref l, .ref b], []⟩) (fun A R s => s.heap.get? l = some { cls := .type "list", dict := dd, data := .seq xs n, slots := sl } ∧
      s.heap.get? b = some { cls := .type "list", dict := dd2, data := .seq ys n2, slots := sl2 } ∧ (∀ j (h1 : j < xs.size) (h2 : j < ys.size), EqW prog w A.in1 s xs[j] ys[j]) ∧ R (.ok (.ret (.bool true))) s) := by
  intro A R s h; obtain ⟨hp, g, d, tk, os⟩ := s; obtain ⟨h1, h2, he, h⟩ := h
  have f3 := AutoSeq1.sub_list_list; have hne : ¬ (xs.size != ys.size) = true := by simp [hsz]
  wp_walk using PySem.AutoSeq1.wpAny_loadPart' h1, PySem.AutoSeq1.wpAny_loadPart' h2
  exact ⟨plainId_quiet MeetsSeq3.plain_eq_loop _, codeAny_builtin MeetsSeq3.entry_eq_loop (by rw [Around.under_plainId MeetsSeq3.plain_eq_loop _]; exact eq_loopW hsz _ 0 rfl A R _ ⟨h1, h2, he, h⟩)⟩
theorem o_eqLD (hu : X.A.units + 64 < cLine) : OpR X (compareOp .Eq) (fun x y H Q => ∃ p q xs ys, x = .ref p ∧ y = .ref q ∧ SqL X.K H p xs ∧ SqL X.K H q ys ∧ xs.length = ys.length ∧ (∀ (i : Nat) a b, xs[i]? = some a → ys[i]? = some b → ∃ d e, a = .ref d ∧ b = .ref e ∧ DictEq X.K H d e) ∧ Q (.bl true) H) := by
  intro pins s σ H x y v u Q I rx ry h
  obtain ⟨p, q, xs, ys, rfl, rfl, hp, hq, hl, hf, k⟩ := h
  cases rx
  cases ry
  obtain ⟨its, r1, ⟨o, n, e1, c1, _, d1⟩, _⟩ := I.list hp
  obtain ⟨jts, r2, ⟨o2, n2, e2, c2, _, d2⟩, _⟩ := I.list hq
  have l1 := r1.length
  have l2 := r2.length
  obtain ⟨oc, od, oda, osl⟩ := o
  obtain ⟨oc2, od2, oda2, osl2⟩ := o2
  dsimp only at c1 d1 c2 d2
  subst c1 d1 c2 d2
  refine wpAny_richCompare_same_room (op := .Eq) (T := "list") ⟨_, e1, rfl⟩ ⟨_, e2, rfl⟩ PySem.F.slot_list_eq (call_meetsIn PySem.F.slot_list_eq ⟨_, e1, rfl⟩ PySem.F.entry_list_eq (PySem.F.args_list_eq_2 _ _) (list_eqW (by simp; omega)) ⟨e1, e2, fun j h1 h2 => ?_, ?_⟩) (by omega)
  · simp at h1 h2
    obtain ⟨x, hx⟩ : ∃ x, xs[j]? = some x := ⟨xs[j]'(by omega), List.getElem?_eq_getElem (by omega)⟩
    obtain ⟨y, hy⟩ : ∃ y, ys[j]? = some y := ⟨ys[j]'(by omega), List.getElem?_eq_getElem (by omega)⟩
    obtain ⟨d, e, rfl, rfl, de⟩ := hf j x y hx hy
    obtain ⟨u1, g1, w1⟩ := r1.get hx
    obtain ⟨u2, g2, w2⟩ := r2.get hy
    have z1 : its.toArray[j]'(by simpa using h1) = u1 := by
      have := List.getElem?_eq_getElem h1
      rw [g1] at this
      simpa using (Option.some.inj this).symm
    have z2 : jts.toArray[j]'(by simpa using h2) = u2 := by
      have := List.getElem?_eq_getElem h2
      rw [g2] at this
      simpa using (Option.some.inj this).symm
    rw [z1, z2]
    cases w1
    cases w2
    exact rc_dict I (by show X.A.units + 1 + 2 < cLine; omega) de
  · exact ⟨(fun z => nomatch z), .bl true, H, I, rfl, k⟩
end
end L2

set_option Elab.async false
set_option linter.all false
set_option maxRecDepth 100000
set_option maxHeartbeats 4000000
namespace K13
open PySem L2
abbrev s_wall : Stmt := top 0
abbrev s_most_of : Stmt := top 12
theorem sc_most_of : FnScope ["rows", "known"] ["rows", "known"] (defScope s_most_of) := ⟨rfl, rfl, rfl, by decide +kernel, rfl, by decide +kernel, by decide +kernel⟩
abbrev s_most_of_row : Stmt := top 13
theorem sc_most_of_row : FnScope ["row", "known", "one", "other"] ["row", "known"] (defScope s_most_of_row) := ⟨rfl, rfl, rfl, by decide +kernel, rfl, by decide +kernel, by decide +kernel⟩
abbrev s_exact_of : Stmt := top 14
theorem sc_exact_of : FnScope ["rows", "known", "steps", "row", "more"] ["rows", "known"] (defScope s_exact_of) := ⟨rfl, rfl, rfl, by decide +kernel, rfl, by decide +kernel, by decide +kernel⟩
abbrev s_exact_of_row : Stmt := top 15
theorem sc_exact_of_row : FnScope ["row", "known"] ["row", "known"] (defScope s_exact_of_row) := ⟨rfl, rfl, rfl, by decide +kernel, rfl, by decide +kernel, by decide +kernel⟩
abbrev s_one_more : Stmt := top 16
theorem sc_one_more : FnScope ["steps"] ["steps"] (defScope s_one_more) := ⟨rfl, rfl, rfl, by decide +kernel, rfl, by decide +kernel, by decide +kernel⟩
abbrev s_exact_of_if : Stmt := top 17
theorem sc_exact_of_if : FnScope ["row", "known", "one", "other"] ["row", "known"] (defScope s_exact_of_if) := ⟨rfl, rfl, rfl, by decide +kernel, rfl, by decide +kernel, by decide +kernel⟩
abbrev s_exact_of_loop : Stmt := top 18
theorem sc_exact_of_loop : FnScope ["row", "known", "steps"] ["row", "known"] (defScope s_exact_of_loop) := ⟨rfl, rfl, rfl, by decide +kernel, rfl, by decide +kernel, by decide +kernel⟩
abbrev s_balanced : Stmt := top 19
theorem sc_balanced : FnScope ["row", "known"] ["row", "known"] (defScope s_balanced) := ⟨rfl, rfl, rfl, by decide +kernel, rfl, by decide +kernel, by decide +kernel⟩
abbrev s_mosts : Stmt := top 20
theorem sc_mosts : FnScope ["program", "known", "deed"] ["program"] (defScope s_mosts) := ⟨rfl, rfl, rfl, by decide +kernel, rfl, by decide +kernel, by decide +kernel⟩
abbrev s_exacts : Stmt := top 21
theorem sc_exacts : FnScope ["program", "known", "deed"] ["program"] (defScope s_exacts) := ⟨rfl, rfl, rfl, by decide +kernel, rfl, by decide +kernel, by decide +kernel⟩
abbrev s_most : Stmt := top 22
theorem sc_most : FnScope ["program"] ["program"] (defScope s_most) := ⟨rfl, rfl, rfl, by decide +kernel, rfl, by decide +kernel, by decide +kernel⟩
abbrev s_exact : Stmt := top 23
theorem sc_exact : FnScope ["program"] ["program"] (defScope s_exact) := ⟨rfl, rfl, rfl, by decide +kernel, rfl, by decide +kernel, by decide +kernel⟩
abbrev s_law_cell_at : Stmt := top 25
theorem sc_law_cell_at : FnScope ["_law_script", "_law_k", "_law_cell"] ["_law_script", "_law_k"] (defScope s_law_cell_at) := ⟨rfl, rfl, rfl, by decide +kernel, rfl, by decide +kernel, by decide +kernel⟩
abbrev s_law_more : Stmt := top 26
theorem sc_law_more : FnScope ["_law_script", "_law_at", "_law_many"] ["_law_script", "_law_at", "_law_many"] (defScope s_law_more) := ⟨rfl, rfl, rfl, by decide +kernel, rfl, by decide +kernel, by decide +kernel⟩
abbrev s_law_mix : Stmt := top 27
theorem sc_law_mix : FnScope ["_law_cell", "_law_k", "_law_digits", "_law_ahead", "_law_number"] ["_law_cell", "_law_k"] (defScope s_law_mix) := ⟨rfl, rfl, rfl, by decide +kernel, rfl, by decide +kernel, by decide +kernel⟩
abbrev s_law_names : Stmt := top 28
theorem sc_law_names : FnScope ["_law_cell", "_law_other", "_law_many", "_law_words", "_law_letters", "_law_step_here", "_law_found", "_law_k", "_law_number", "_law_word"] ["_law_cell", "_law_other", "_law_many"] (defScope s_law_names) := ⟨rfl, rfl, rfl, by decide +kernel, rfl, by decide +kernel, by decide +kernel⟩
abbrev s_law_whole : Stmt := top 29
theorem sc_law_whole : FnScope ["_law_found", "_law_due"] ["_law_found", "_law_due"] (defScope s_law_whole) := ⟨rfl, rfl, rfl, by decide +kernel, rfl, by decide +kernel, by decide +kernel⟩
abbrev s_law_frame : Stmt := top 30
theorem sc_law_frame : FnScope ["_law_kind", "_law_number", "_law_room", "_law_many", "_law_found"] ["_law_kind", "_law_number", "_law_room", "_law_many"] (defScope s_law_frame) := ⟨rfl, rfl, rfl, by decide +kernel, rfl, by decide +kernel, by decide +kernel⟩
abbrev s_law_add : Stmt := top 31
theorem sc_law_add : FnScope ["_law_frame_here", "_law_row", "_law_steps", "_law_sure"] ["_law_frame_here", "_law_row", "_law_steps", "_law_sure"] (defScope s_law_add) := ⟨rfl, rfl, rfl, by decide +kernel, rfl, by decide +kernel, by decide +kernel⟩
abbrev s_law_idles : Stmt := top 32
theorem sc_law_idles : FnScope ["_law_cell", "_law_one", "_law_other", "_law_way", "_law_more_here", "_law_high"] ["_law_cell", "_law_one", "_law_other"] (defScope s_law_idles) := ⟨rfl, rfl, rfl, by decide +kernel, rfl, by decide +kernel, by decide +kernel⟩
abbrev s_law_close : Stmt := top 33
theorem sc_law_close : FnScope ["_law_state", "_law_cell", "_law_frame_here", "_law_after", "_law_one", "_law_left", "_law_right", "_law_steps", "_law_sure", "_law_row"] ["_law_state", "_law_cell"] (defScope s_law_close) := ⟨rfl, rfl, rfl, by decide +kernel, rfl, by decide +kernel, by decide +kernel⟩
abbrev s_law_plain : Stmt := top 34
theorem sc_law_plain : FnScope ["_law_state", "_law_cell", "_law_way", "_law_frame_here", "_law_number", "_law_name", "_law_steps", "_law_sure"] ["_law_state", "_law_cell", "_law_way"] (defScope s_law_plain) := ⟨rfl, rfl, rfl, by decide +kernel, rfl, by decide +kernel, by decide +kernel⟩
abbrev s_law_step : Stmt := top 35
theorem sc_law_step : FnScope ["_law_state", "_law_cell", "_law_frame_here", "_law_way", "_law_rest", "_law_many"] ["_law_state", "_law_cell"] (defScope s_law_step) := ⟨rfl, rfl, rfl, by decide +kernel, rfl, by decide +kernel, by decide +kernel⟩
abbrev s_law_body : Stmt := top 36
theorem sc_law_body : FnScope ["_law_state", "_law_cells", "_law_room", "_law_cell"] ["_law_state", "_law_cells", "_law_room"] (defScope s_law_body) := ⟨rfl, rfl, rfl, by decide +kernel, rfl, by decide +kernel, by decide +kernel⟩
abbrev s_law_asked : Stmt := top 37
theorem sc_law_asked : FnScope ["_law_program", "_law_outer", "_law_state", "_law_found", "_law_sure", "_law_known", "_law_name", "_law_steps", "_law_own", "_law_handed", "_law_row", "_law_even", "_law_told"] ["_law_program", "_law_outer", "_law_state"] (defScope s_law_asked) := ⟨rfl, rfl, rfl, by decide +kernel, rfl, by decide +kernel, by decide +kernel⟩
abbrev s_law : Stmt := top 38
theorem sc_law : FnScope ["_law_script", "_law_names_here", "_law_state", "_law_deeds", "_law_k", "_law_number", "_law_outer", "_law_program", "_law_kept"] ["_law_script"] (defScope s_law) := ⟨rfl, rfl, rfl, by decide +kernel, rfl, by decide +kernel, by decide +kernel⟩
abbrev s_Row_init : Stmt := inClass (top 2) 0
theorem sc_Row_init : FnScope ["self", "number"] ["self", "number"] (defScope s_Row_init) := ⟨rfl, rfl, rfl, by decide +kernel, rfl, by decide +kernel, by decide +kernel⟩
abbrev s_Row_reads : Stmt := inClass (top 2) 1
abbrev s_Row_target : Stmt := inClass (top 2) 2
abbrev s_OwnRow_init : Stmt := inClass (top 3) 0
theorem sc_OwnRow_init : FnScope ["self", "number", "name", "size"] ["self", "number", "name", "size"] (defScope s_OwnRow_init) := ⟨rfl, rfl, rfl, by decide +kernel, rfl, by decide +kernel, by decide +kernel⟩
abbrev s_OwnRow_shown : Stmt := inClass (top 3) 1
abbrev s_SetRow_init : Stmt := inClass (top 4) 0
theorem sc_SetRow_init : FnScope ["self", "number", "name", "value"] ["self", "number", "name", "value"] (defScope s_SetRow_init) := ⟨rfl, rfl, rfl, by decide +kernel, rfl, by decide +kernel, by decide +kernel⟩
abbrev s_SetRow_shown : Stmt := inClass (top 4) 1
abbrev s_SetRow_reads : Stmt := inClass (top 4) 2
abbrev s_SetRow_target : Stmt := inClass (top 4) 3
abbrev s_CallRow_init : Stmt := inClass (top 5) 0
theorem sc_CallRow_init : FnScope ["self", "number", "name", "things"] ["self", "number", "name", "things"] (defScope s_CallRow_init) := ⟨rfl, rfl, rfl, by decide +kernel, rfl, by decide +kernel, by decide +kernel⟩
abbrev s_CallRow_shown : Stmt := inClass (top 5) 1
abbrev s_CallRow_reads : Stmt := inClass (top 5) 2
abbrev s_LastRow_shown : Stmt := inClass (top 6) 0
abbrev s_IfRow_init : Stmt := inClass (top 7) 0
theorem sc_IfRow_init : FnScope ["self", "number", "value", "first", "other", "left", "right"] ["self", "number", "value", "first", "other", "left", "right"] (defScope s_IfRow_init) := ⟨rfl, rfl, rfl, by decide +kernel, rfl, by decide +kernel, by decide +kernel⟩
abbrev s_IfRow_shown : Stmt := inClass (top 7) 1
abbrev s_IfRow_reads : Stmt := inClass (top 7) 2
abbrev s_LoopRow_init : Stmt := inClass (top 8) 0
theorem sc_LoopRow_init : FnScope ["self", "number", "thing", "most", "body", "left", "right"] ["self", "number", "thing", "most", "body", "left", "right"] (defScope s_LoopRow_init) := ⟨rfl, rfl, rfl, by decide +kernel, rfl, by decide +kernel, by decide +kernel⟩
abbrev s_LoopRow_shown : Stmt := inClass (top 8) 1
abbrev s_LoopRow_reads : Stmt := inClass (top 8) 2
abbrev s_DeedRow_init : Stmt := inClass (top 9) 0
theorem sc_DeedRow_init : FnScope ["self", "number", "name", "parts", "body"] ["self", "number", "name", "parts", "body"] (defScope s_DeedRow_init) := ⟨rfl, rfl, rfl, by decide +kernel, rfl, by decide +kernel, by decide +kernel⟩
abbrev s_DeedRow_shown : Stmt := inClass (top 9) 1
abbrev s_Program_init : Stmt := inClass (top 10) 0
theorem sc_Program_init : FnScope ["self", "heads", "deeds", "main"] ["self", "heads", "deeds", "main"] (defScope s_Program_init) := ⟨rfl, rfl, rfl, by decide +kernel, rfl, by decide +kernel, by decide +kernel⟩
structure Adr where
  Row : Addr
  OwnRow : Addr
  SetRow : Addr
  CallRow : Addr
  LastRow : Addr
  IfRow : Addr
  LoopRow : Addr
  DeedRow : Addr
  Program : Addr
structure Txt (K : PySem.W.Frag) (mg : Str → Option Value) (A : Adr) : Prop where
  most_of : TopFn K mg "most_of" s_most_of ["rows", "known"]
  most_of_row : TopFn K mg "most_of_row" s_most_of_row ["row", "known"]
  exact_of : TopFn K mg "exact_of" s_exact_of ["rows", "known"]
  exact_of_row : TopFn K mg "exact_of_row" s_exact_of_row ["row", "known"]
  one_more : TopFn K mg "one_more" s_one_more ["steps"]
  exact_of_if : TopFn K mg "exact_of_if" s_exact_of_if ["row", "known"]
  exact_of_loop : TopFn K mg "exact_of_loop" s_exact_of_loop ["row", "known"]
  balanced : TopFn K mg "balanced" s_balanced ["row", "known"]
  mosts : TopFn K mg "mosts" s_mosts ["program"]
  exacts : TopFn K mg "exacts" s_exacts ["program"]
  most : TopFn K mg "most" s_most ["program"]
  exact : TopFn K mg "exact" s_exact ["program"]
  law_cell_at : TopFn K mg "_law_cell_at" s_law_cell_at ["_law_script", "_law_k"]
  law_more : TopFn K mg "_law_more" s_law_more ["_law_script", "_law_at", "_law_many"]
  law_mix : TopFn K mg "_law_mix" s_law_mix ["_law_cell", "_law_k"]
  law_names : TopFn K mg "_law_names" s_law_names ["_law_cell", "_law_other", "_law_many"]
  law_whole : TopFn K mg "_law_whole" s_law_whole ["_law_found", "_law_due"]
  law_frame : TopFn K mg "_law_frame" s_law_frame ["_law_kind", "_law_number", "_law_room", "_law_many"]
  law_add : TopFn K mg "_law_add" s_law_add ["_law_frame_here", "_law_row", "_law_steps", "_law_sure"]
  law_idles : TopFn K mg "_law_idles" s_law_idles ["_law_cell", "_law_one", "_law_other"]
  law_close : TopFn K mg "_law_close" s_law_close ["_law_state", "_law_cell"]
  law_plain : TopFn K mg "_law_plain" s_law_plain ["_law_state", "_law_cell", "_law_way"]
  law_step : TopFn K mg "_law_step" s_law_step ["_law_state", "_law_cell"]
  law_body : TopFn K mg "_law_body" s_law_body ["_law_state", "_law_cells", "_law_room"]
  law_asked : TopFn K mg "_law_asked" s_law_asked ["_law_program", "_law_outer", "_law_state"]
  z_any : mg "any" = none
  z_bool : mg "bool" = none
  z_dict : mg "dict" = none
  z_int : mg "int" = none
  z_isinstance : mg "isinstance" = none
  z_len : mg "len" = none
  z_list : mg "list" = none
  z_max : mg "max" = none
  z_range : mg "range" = none
  z_sum : mg "sum" = none
  o_Row : OwnC K mg A.Row "Row" [A.Row]
  m_Row_init : MFn K A.Row "__init__" "Row.__init__" s_Row_init ["self", "number"]
  o_OwnRow : OwnC K mg A.OwnRow "OwnRow" [A.OwnRow, A.Row]
  m_OwnRow_init : MFn K A.OwnRow "__init__" "OwnRow.__init__" s_OwnRow_init ["self", "number", "name", "size"]
  n_OwnRow_name : NoAttr K A.OwnRow "name"
  n_OwnRow_size : NoAttr K A.OwnRow "size"
  n_OwnRow_number : NoAttr K A.OwnRow "number"
  o_SetRow : OwnC K mg A.SetRow "SetRow" [A.SetRow, A.Row]
  m_SetRow_init : MFn K A.SetRow "__init__" "SetRow.__init__" s_SetRow_init ["self", "number", "name", "value"]
  n_SetRow_name : NoAttr K A.SetRow "name"
  n_SetRow_value : NoAttr K A.SetRow "value"
  n_SetRow_number : NoAttr K A.SetRow "number"
  o_CallRow : OwnC K mg A.CallRow "CallRow" [A.CallRow, A.Row]
  m_CallRow_init : MFn K A.CallRow "__init__" "CallRow.__init__" s_CallRow_init ["self", "number", "name", "things"]
  n_CallRow_name : NoAttr K A.CallRow "name"
  n_CallRow_things : NoAttr K A.CallRow "things"
  n_CallRow_number : NoAttr K A.CallRow "number"
  o_LastRow : OwnC K mg A.LastRow "LastRow" [A.LastRow, A.Row]
  m_LastRow_init : MFn K A.LastRow "__init__" "Row.__init__" s_Row_init ["self", "number"]
  n_LastRow_number : NoAttr K A.LastRow "number"
  o_IfRow : OwnC K mg A.IfRow "IfRow" [A.IfRow, A.Row]
  m_IfRow_init : MFn K A.IfRow "__init__" "IfRow.__init__" s_IfRow_init ["self", "number", "value", "first", "other", "left", "right"]
  n_IfRow_value : NoAttr K A.IfRow "value"
  n_IfRow_first : NoAttr K A.IfRow "first"
  n_IfRow_other : NoAttr K A.IfRow "other"
  n_IfRow_left : NoAttr K A.IfRow "left"
  n_IfRow_right : NoAttr K A.IfRow "right"
  n_IfRow_number : NoAttr K A.IfRow "number"
  o_LoopRow : OwnC K mg A.LoopRow "LoopRow" [A.LoopRow, A.Row]
  m_LoopRow_init : MFn K A.LoopRow "__init__" "LoopRow.__init__" s_LoopRow_init ["self", "number", "thing", "most", "body", "left", "right"]
  n_LoopRow_thing : NoAttr K A.LoopRow "thing"
  n_LoopRow_most : NoAttr K A.LoopRow "most"
  n_LoopRow_body : NoAttr K A.LoopRow "body"
  n_LoopRow_left : NoAttr K A.LoopRow "left"
  n_LoopRow_right : NoAttr K A.LoopRow "right"
  n_LoopRow_number : NoAttr K A.LoopRow "number"
  o_DeedRow : OwnC K mg A.DeedRow "DeedRow" [A.DeedRow, A.Row]
  m_DeedRow_init : MFn K A.DeedRow "__init__" "DeedRow.__init__" s_DeedRow_init ["self", "number", "name", "parts", "body"]
  n_DeedRow_name : NoAttr K A.DeedRow "name"
  n_DeedRow_parts : NoAttr K A.DeedRow "parts"
  n_DeedRow_body : NoAttr K A.DeedRow "body"
  n_DeedRow_number : NoAttr K A.DeedRow "number"
  o_Program : OwnC K mg A.Program "Program" [A.Program]
  m_Program_init : MFn K A.Program "__init__" "Program.__init__" s_Program_init ["self", "heads", "deeds", "main"]
  n_Program_heads : NoAttr K A.Program "heads"
  n_Program_deeds : NoAttr K A.Program "deeds"
  n_Program_main : NoAttr K A.Program "main"
  of_Row_init : OfC K A.Row "__init__"
  nd : [A.Row, A.OwnRow, A.SetRow, A.CallRow, A.LastRow, A.IfRow, A.LoopRow, A.DeedRow, A.Program].Nodup
end K13

set_option Elab.async false
set_option linter.all false
set_option maxRecDepth 100000
set_option maxHeartbeats 4000000
namespace K13
open PySem L2
section
variable {P : Program} {w : World} {K : PySem.W.Frag} {mg : Str → Option Value} {base : Heap} {A : Adr}
theorem kit_ii : PySem.W.kitOne K (.type "int") (.type "int") = some true := by kernel_rfl!
theorem kit_ib : PySem.W.kitOne K (.type "int") (.type "bool") = some false := by kernel_rfl!
theorem kit_dd : PySem.W.kitOne K (.type "dict") (.type "dict") = some true := by kernel_rfl!
theorem kit_bb : PySem.W.kitOne K (.type "bool") (.type "bool") = some true := by kernel_rfl!
theorem mod_in (x : Int) {m : Int} (hm : 0 < m) : 0 ≤ x % m ∧ x % m < m := ⟨Int.emod_nonneg x (show m ≠ 0 by omega), Int.emod_lt_of_pos x hm⟩
theorem at_list {α : Type} {xs : List α} {k : Int} (h0 : 0 ≤ k) (h1 : k < (xs.length : Int)) : ∃ x, xs[k.toNat]? = some x ∧ atI xs k = some x := by
  have hk : k.toNat < xs.length := by omega
  have e := atI_nat (xs := xs) (j := k.toNat) (List.getElem?_eq_getElem hk)
  rw [show ((k.toNat : Nat) : Int) = k by omega] at e
  exact ⟨_, List.getElem?_eq_getElem hk, e⟩
theorem at_map {α : Type} (f : α → V) {xs : List α} {k : Int} (h0 : 0 ≤ k) (h1 : k < (xs.length : Int)) : ∃ x, x ∈ xs ∧ xs[k.toNat]? = some x ∧ atI (xs.map f) k = some (f x) := by
  obtain ⟨x, e1, e2⟩ := at_list (xs := xs.map f) h0 (by rw [List.length_map]; exact h1)
  rw [List.getElem?_map] at e1
  cases h : xs[k.toNat]? with
  | none => rw [h] at e1; cases e1
  | some y =>
    rw [h] at e1
    have : f y = x := Option.some.inj e1
    exact ⟨y, List.mem_of_getElem? h, rfl, by rw [this]; exact e2⟩
theorem vint (i j : Int) : decide (V.int i = V.int j) = decide (i = j) := decide_eq_decide.mpr ⟨fun h => V.int.inj h, fun h => by rw [h]⟩
theorem small_mul {a b : Int} (h0 : -(2 ^ 64) < a) (h1 : a < 2 ^ 64) : CMul a b := Or.inl ⟨h0, h1⟩
end
end K13

set_option Elab.async false
set_option linter.all false
set_option maxRecDepth 100000
set_option maxHeartbeats 4000000
namespace K13
open PySem L2
section
variable {P : Program} {w : World} {K : PySem.W.Frag} {mg : Str → Option Value} {base : Heap} {A : Adr}
def sp_Row_init (K : PySem.W.Frag) (A : Adr) : Sp := fun vs H Q _ => ∃ (x C dx : Addr) (fs : List (Str × V)) (n : V), vs = [.ref x, n] ∧ H x = some (.ins C dx fs) ∧ Cls K C ∧ NoAttr K C "number" ∧ fs.length < 1000 ∧ Q .non (upd H x (.ins C dx (putF "number" n fs)))
theorem h_Row_init_of {C : Addr} (F : MFn K C "__init__" "Row.__init__" s_Row_init ["self", "number"]) : HasM P w K mg base 2 C "__init__" ["self", "number"] (sp_Row_init K A) := by
  refine F.has (k := 1) sc_Row_init (fun vs H Q E h => ?_) (fun f cdv A' outer s H vs Q E hr hu h => ?_)
  · obtain ⟨x, C, dx, fs, n, rfl, _⟩ := h
    rfl
  · obtain ⟨x, C, dx, fs, n, rfl, hx, c, na, hl, q⟩ := h
    refine ⟨_, (pss_one (ps_fld (fv 0) (fv 1) rfl)), ?_⟩
    exact ⟨x, C, dx, fs, rfl, hx, c, na, hl, q⟩
theorem h_Row_init (T : Txt K mg A) : HasM P w K mg base 2 A.Row "__init__" ["self", "number"] (sp_Row_init K A) := h_Row_init_of T.m_Row_init
def sp_OwnRow_init (K : PySem.W.Frag) (A : Adr) : Sp := fun vs H Q _ => ∃ (x dx : Addr) (v_number v_name v_size : V), vs = [.ref x, v_number, v_name, v_size] ∧ H x = some (.ins A.OwnRow dx []) ∧ ∀ (H' : Hp), But x H H' → H' x = some (.ins A.OwnRow dx [("number", v_number), ("name", v_name), ("size", v_size)]) → Q .non H'
theorem h_OwnRow_init (T : Txt K mg A) : HasM P w K mg base 3 A.OwnRow "__init__" ["self", "number", "name", "size"] (sp_OwnRow_init K A) := by
  have D_Row_init := h_Row_init (P := P) (w := w) (base := base) T
  refine T.m_OwnRow_init.has (k := 2) sc_OwnRow_init (fun vs H Q E h => ?_) (fun f cdv A' outer s H vs Q E hr hu h => ?_)
  · obtain ⟨x, dx, v_number, v_name, v_size, rfl, _⟩ := h
    rfl
  · obtain ⟨x, dx, v_number, v_name, v_size, rfl, hx, q⟩ := h
    refine ⟨_, (pss_cons (ps_expr (pe_callOf T.o_Row T.of_Row_init D_Row_init hr (pa_cons (fv 0) (pa_cons (fv 1) pa_nil))))
    (pss_cons (ps_fld (fv 0) (fv 2) rfl)
    (pss_one (ps_fld (fv 0) (fv 3) rfl)))), ?_⟩
    have b0 : But x H H := But.refl x H
    refine ⟨x, A.OwnRow, dx, [], v_number, rfl, hx, T.o_OwnRow.cl, T.n_OwnRow_number, by decide, ?_⟩
    generalize hg1 : upd H x _ = H1
    have b1 : But x H H1 := hg1 ▸ b0.trans (But.at x _ _)
    have i1 : H1 x = some (.ins A.OwnRow dx [("number", v_number)]) := hg1 ▸ upd_same
    refine ⟨x, A.OwnRow, dx, [("number", v_number)], rfl, i1, T.o_OwnRow.cl, T.n_OwnRow_name, by simp, ?_⟩
    generalize hg2 : upd H1 x _ = H2
    have b2 : But x H H2 := hg2 ▸ b1.trans (But.at x _ _)
    have i2 : H2 x = some (.ins A.OwnRow dx [("number", v_number), ("name", v_name)]) := hg2 ▸ upd_same
    refine ⟨x, A.OwnRow, dx, [("number", v_number), ("name", v_name)], rfl, i2, T.o_OwnRow.cl, T.n_OwnRow_size, by simp, ?_⟩
    generalize hg3 : upd H2 x _ = H3
    have b3 : But x H H3 := hg3 ▸ b2.trans (But.at x _ _)
    have i3 : H3 x = some (.ins A.OwnRow dx [("number", v_number), ("name", v_name), ("size", v_size)]) := hg3 ▸ upd_same
    exact q H3 b3 i3
theorem mk_OwnRow {H : Hp} {x dx : Addr} {R : VK} {v_number v_name v_size : V} (hx : H x = none) (hd : H dx = none) (q : ∀ (H' : Hp), Same H H' → H' x = some (.ins A.OwnRow dx [("number", v_number), ("name", v_name), ("size", v_size)]) → R .non H') : sp_OwnRow_init K A (.ref x :: ([v_number, v_name, v_size] ++ [])) (upd (upd H dx (.own x)) x (.ins A.OwnRow dx [])) R E0 :=
  ⟨x, dx, _, _, _, rfl, upd_same, fun H' b i => q H' (b.same hx hd) i⟩
def sp_SetRow_init (K : PySem.W.Frag) (A : Adr) : Sp := fun vs H Q _ => ∃ (x dx : Addr) (v_number v_name v_value : V), vs = [.ref x, v_number, v_name, v_value] ∧ H x = some (.ins A.SetRow dx []) ∧ ∀ (H' : Hp), But x H H' → H' x = some (.ins A.SetRow dx [("number", v_number), ("name", v_name), ("value", v_value)]) → Q .non H'
theorem h_SetRow_init (T : Txt K mg A) : HasM P w K mg base 3 A.SetRow "__init__" ["self", "number", "name", "value"] (sp_SetRow_init K A) := by
  have D_Row_init := h_Row_init (P := P) (w := w) (base := base) T
  refine T.m_SetRow_init.has (k := 2) sc_SetRow_init (fun vs H Q E h => ?_) (fun f cdv A' outer s H vs Q E hr hu h => ?_)
  · obtain ⟨x, dx, v_number, v_name, v_value, rfl, _⟩ := h
    rfl
  · obtain ⟨x, dx, v_number, v_name, v_value, rfl, hx, q⟩ := h
    refine ⟨_, (pss_cons (ps_expr (pe_callOf T.o_Row T.of_Row_init D_Row_init hr (pa_cons (fv 0) (pa_cons (fv 1) pa_nil))))
    (pss_cons (ps_fld (fv 0) (fv 2) rfl)
    (pss_one (ps_fld (fv 0) (fv 3) rfl)))), ?_⟩
    have b0 : But x H H := But.refl x H
    refine ⟨x, A.SetRow, dx, [], v_number, rfl, hx, T.o_SetRow.cl, T.n_SetRow_number, by decide, ?_⟩
    generalize hg1 : upd H x _ = H1
    have b1 : But x H H1 := hg1 ▸ b0.trans (But.at x _ _)
    have i1 : H1 x = some (.ins A.SetRow dx [("number", v_number)]) := hg1 ▸ upd_same
    refine ⟨x, A.SetRow, dx, [("number", v_number)], rfl, i1, T.o_SetRow.cl, T.n_SetRow_name, by simp, ?_⟩
    generalize hg2 : upd H1 x _ = H2
    have b2 : But x H H2 := hg2 ▸ b1.trans (But.at x _ _)
    have i2 : H2 x = some (.ins A.SetRow dx [("number", v_number), ("name", v_name)]) := hg2 ▸ upd_same
    refine ⟨x, A.SetRow, dx, [("number", v_number), ("name", v_name)], rfl, i2, T.o_SetRow.cl, T.n_SetRow_value, by simp, ?_⟩
    generalize hg3 : upd H2 x _ = H3
    have b3 : But x H H3 := hg3 ▸ b2.trans (But.at x _ _)
    have i3 : H3 x = some (.ins A.SetRow dx [("number", v_number), ("name", v_name), ("value", v_value)]) := hg3 ▸ upd_same
    exact q H3 b3 i3
theorem mk_SetRow {H : Hp} {x dx : Addr} {R : VK} {v_number v_name v_value : V} (hx : H x = none) (hd : H dx = none) (q : ∀ (H' : Hp), Same H H' → H' x = some (.ins A.SetRow dx [("number", v_number), ("name", v_name), ("value", v_value)]) → R .non H') : sp_SetRow_init K A (.ref x :: ([v_number, v_name, v_value] ++ [])) (upd (upd H dx (.own x)) x (.ins A.SetRow dx [])) R E0 :=
  ⟨x, dx, _, _, _, rfl, upd_same, fun H' b i => q H' (b.same hx hd) i⟩
def sp_CallRow_init (K : PySem.W.Frag) (A : Adr) : Sp := fun vs H Q _ => ∃ (x dx : Addr) (v_number v_name : V) (t_things : Addr) (l_things : List V), vs = [.ref x, v_number, v_name, .ref t_things] ∧ H x = some (.ins A.CallRow dx []) ∧ SqL K H t_things l_things ∧ ∀ (n_things : Addr) (H' : Hp), H n_things = none → But x H H' → H' n_things = some (.lst l_things) → H' x = some (.ins A.CallRow dx [("number", v_number), ("name", v_name), ("things", .ref n_things)]) → Q .non H'
theorem h_CallRow_init (T : Txt K mg A) : HasM P w K mg base 3 A.CallRow "__init__" ["self", "number", "name", "things"] (sp_CallRow_init K A) := by
  have D_Row_init := h_Row_init (P := P) (w := w) (base := base) T
  refine T.m_CallRow_init.has (k := 2) sc_CallRow_init (fun vs H Q E h => ?_) (fun f cdv A' outer s H vs Q E hr hu h => ?_)
  · obtain ⟨x, dx, v_number, v_name, t_things, l_things, rfl, _⟩ := h
    rfl
  · obtain ⟨x, dx, v_number, v_name, t_things, l_things, rfl, hx, s_things, q⟩ := h
    refine ⟨_, (pss_cons (ps_expr (pe_callOf T.o_Row T.of_Row_init D_Row_init hr (pa_cons (fv 0) (pa_cons (fv 1) pa_nil))))
    (pss_cons (ps_fld (fv 0) (fv 2) rfl)
    (pss_one (ps_fld (fv 0) (pe_callTy c_list rfl T.z_list (by boot_by_name) (pa_cons (fv 3) pa_nil)) rfl)))), ?_⟩
    have b0 : But x H H := But.refl x H
    refine ⟨x, A.CallRow, dx, [], v_number, rfl, hx, T.o_CallRow.cl, T.n_CallRow_number, by decide, ?_⟩
    generalize hg1 : upd H x _ = H1
    have b1 : But x H H1 := hg1 ▸ b0.trans (But.at x _ _)
    have i1 : H1 x = some (.ins A.CallRow dx [("number", v_number)]) := hg1 ▸ upd_same
    refine ⟨x, A.CallRow, dx, [("number", v_number)], rfl, i1, T.o_CallRow.cl, T.n_CallRow_name, by simp, ?_⟩
    generalize hg2 : upd H1 x _ = H2
    have b2 : But x H H2 := hg2 ▸ b1.trans (But.at x _ _)
    have i2 : H2 x = some (.ins A.CallRow dx [("number", v_number), ("name", v_name)]) := hg2 ▸ upd_same
    refine ⟨_, l_things, rfl, .inl (SqL.but s_things hx b2), fun n_things f_things => ?_⟩
    have e_things : n_things ≠ x := fun z => by rw [z] at f_things; exact absurd (f_things.symm.trans i2) (by intro z; cases z)
    have a_things : H n_things = none := b2.none e_things f_things
    generalize hg3 : upd H2 n_things (HO.lst l_things) = H3
    have b3 : But x H H3 := hg3 ▸ b2.trans (But.new f_things _)
    have i3 : H3 x = some (.ins A.CallRow dx [("number", v_number), ("name", v_name)]) := hg3 ▸ (upd_ne (Ne.symm e_things)).trans i2
    have k3_things : H3 n_things = some (.lst l_things) := hg3 ▸ upd_same
    refine ⟨x, A.CallRow, dx, [("number", v_number), ("name", v_name)], rfl, i3, T.o_CallRow.cl, T.n_CallRow_things, by simp, ?_⟩
    generalize hg4 : upd H3 x _ = H4
    have b4 : But x H H4 := hg4 ▸ b3.trans (But.at x _ _)
    have i4 : H4 x = some (.ins A.CallRow dx [("number", v_number), ("name", v_name), ("things", .ref n_things)]) := hg4 ▸ upd_same
    have k4_things : H4 n_things = some (.lst l_things) := hg4 ▸ (upd_ne e_things).trans k3_things
    exact q n_things H4 a_things b4 k4_things i4
theorem mk_CallRow {H : Hp} {x dx : Addr} {R : VK} {v_number v_name : V} {t_things : Addr} {l_things : List V} (s_things : SqL K H t_things l_things) (hx : H x = none) (hd : H dx = none) (q : ∀ (n_things : Addr) (H' : Hp), H n_things = none → Same H H' → H' n_things = some (.lst l_things) → H' x = some (.ins A.CallRow dx [("number", v_number), ("name", v_name), ("things", .ref n_things)]) → R .non H') : sp_CallRow_init K A (.ref x :: ([v_number, v_name, .ref t_things] ++ [])) (upd (upd H dx (.own x)) x (.ins A.CallRow dx [])) R E0 :=
  ⟨x, dx, _, _, _, _, rfl, upd_same, s_things.new hx hd, fun n_things H' f_things b g_things i => q n_things H' (new_none hx hd f_things) (b.same hx hd) g_things i⟩
def sp_IfRow_init (K : PySem.W.Frag) (A : Adr) : Sp := fun vs H Q _ => ∃ (x dx : Addr) (v_number v_value v_left v_right : V) (t_first : Addr) (l_first : List V) (t_other : Addr) (l_other : List V), vs = [.ref x, v_number, v_value, .ref t_first, .ref t_other, v_left, v_right] ∧ H x = some (.ins A.IfRow dx []) ∧ SqL K H t_first l_first ∧ SqL K H t_other l_other ∧ ∀ (n_first n_other : Addr) (H' : Hp), H n_first = none → H n_other = none → n_first ≠ n_other → But x H H' → H' n_first = some (.lst l_first) → H' n_other = some (.lst l_other) → H' x = some (.ins A.IfRow dx [("number", v_number), ("value", v_value), ("first", .ref n_first), ("other", .ref n_other), ("left", v_left), ("right", v_right)]) → Q .non H'
theorem h_IfRow_init (T : Txt K mg A) : HasM P w K mg base 3 A.IfRow "__init__" ["self", "number", "value", "first", "other", "left", "right"] (sp_IfRow_init K A) := by
  have D_Row_init := h_Row_init (P := P) (w := w) (base := base) T
  refine T.m_IfRow_init.has (k := 2) sc_IfRow_init (fun vs H Q E h => ?_) (fun f cdv A' outer s H vs Q E hr hu h => ?_)
  · obtain ⟨x, dx, v_number, v_value, v_left, v_right, t_first, l_first, t_other, l_other, rfl, _⟩ := h
    rfl
  · obtain ⟨x, dx, v_number, v_value, v_left, v_right, t_first, l_first, t_other, l_other, rfl, hx, s_first, s_other, q⟩ := h
    refine ⟨_, (pss_cons (ps_expr (pe_callOf T.o_Row T.of_Row_init D_Row_init hr (pa_cons (fv 0) (pa_cons (fv 1) pa_nil))))
    (pss_cons (ps_fld (fv 0) (fv 2) rfl)
    (pss_cons (ps_fld (fv 0) (pe_callTy c_list rfl T.z_list (by boot_by_name) (pa_cons (fv 3) pa_nil)) rfl)
    (pss_cons (ps_fld (fv 0) (pe_callTy c_list rfl T.z_list (by boot_by_name) (pa_cons (fv 4) pa_nil)) rfl)
    (pss_cons (ps_fld (fv 0) (fv 5) rfl)
    (pss_one (ps_fld (fv 0) (fv 6) rfl))))))), ?_⟩
    have b0 : But x H H := But.refl x H
    refine ⟨x, A.IfRow, dx, [], v_number, rfl, hx, T.o_IfRow.cl, T.n_IfRow_number, by decide, ?_⟩
    generalize hg1 : upd H x _ = H1
    have b1 : But x H H1 := hg1 ▸ b0.trans (But.at x _ _)
    have i1 : H1 x = some (.ins A.IfRow dx [("number", v_number)]) := hg1 ▸ upd_same
    refine ⟨x, A.IfRow, dx, [("number", v_number)], rfl, i1, T.o_IfRow.cl, T.n_IfRow_value, by simp, ?_⟩
    generalize hg2 : upd H1 x _ = H2
    have b2 : But x H H2 := hg2 ▸ b1.trans (But.at x _ _)
    have i2 : H2 x = some (.ins A.IfRow dx [("number", v_number), ("value", v_value)]) := hg2 ▸ upd_same
    refine ⟨_, l_first, rfl, .inl (SqL.but s_first hx b2), fun n_first f_first => ?_⟩
    have e_first : n_first ≠ x := fun z => by rw [z] at f_first; exact absurd (f_first.symm.trans i2) (by intro z; cases z)
    have a_first : H n_first = none := b2.none e_first f_first
    generalize hg3 : upd H2 n_first (HO.lst l_first) = H3
    have b3 : But x H H3 := hg3 ▸ b2.trans (But.new f_first _)
    have i3 : H3 x = some (.ins A.IfRow dx [("number", v_number), ("value", v_value)]) := hg3 ▸ (upd_ne (Ne.symm e_first)).trans i2
    have k3_first : H3 n_first = some (.lst l_first) := hg3 ▸ upd_same
    refine ⟨x, A.IfRow, dx, [("number", v_number), ("value", v_value)], rfl, i3, T.o_IfRow.cl, T.n_IfRow_first, by simp, ?_⟩
    generalize hg4 : upd H3 x _ = H4
    have b4 : But x H H4 := hg4 ▸ b3.trans (But.at x _ _)
    have i4 : H4 x = some (.ins A.IfRow dx [("number", v_number), ("value", v_value), ("first", .ref n_first)]) := hg4 ▸ upd_same
    have k4_first : H4 n_first = some (.lst l_first) := hg4 ▸ (upd_ne e_first).trans k3_first
    refine ⟨_, l_other, rfl, .inl (SqL.but s_other hx b4), fun n_other f_other => ?_⟩
    have e_other : n_other ≠ x := fun z => by rw [z] at f_other; exact absurd (f_other.symm.trans i4) (by intro z; cases z)
    have a_other : H n_other = none := b4.none e_other f_other
    have d_first_other : n_first ≠ n_other := fun z => by have w := k4_first; rw [z] at w; exact absurd (f_other.symm.trans w) (by intro w; cases w)
    generalize hg5 : upd H4 n_other (HO.lst l_other) = H5
    have b5 : But x H H5 := hg5 ▸ b4.trans (But.new f_other _)
    have i5 : H5 x = some (.ins A.IfRow dx [("number", v_number), ("value", v_value), ("first", .ref n_first)]) := hg5 ▸ (upd_ne (Ne.symm e_other)).trans i4
    have k5_first : H5 n_first = some (.lst l_first) := hg5 ▸ (upd_ne d_first_other).trans k4_first
    have k5_other : H5 n_other = some (.lst l_other) := hg5 ▸ upd_same
    refine ⟨x, A.IfRow, dx, [("number", v_number), ("value", v_value), ("first", .ref n_first)], rfl, i5, T.o_IfRow.cl, T.n_IfRow_other, by simp, ?_⟩
    generalize hg6 : upd H5 x _ = H6
    have b6 : But x H H6 := hg6 ▸ b5.trans (But.at x _ _)
    have i6 : H6 x = some (.ins A.IfRow dx [("number", v_number), ("value", v_value), ("first", .ref n_first), ("other", .ref n_other)]) := hg6 ▸ upd_same
    have k6_first : H6 n_first = some (.lst l_first) := hg6 ▸ (upd_ne e_first).trans k5_first
    have k6_other : H6 n_other = some (.lst l_other) := hg6 ▸ (upd_ne e_other).trans k5_other
    refine ⟨x, A.IfRow, dx, [("number", v_number), ("value", v_value), ("first", .ref n_first), ("other", .ref n_other)], rfl, i6, T.o_IfRow.cl, T.n_IfRow_left, by simp, ?_⟩
    generalize hg7 : upd H6 x _ = H7
    have b7 : But x H H7 := hg7 ▸ b6.trans (But.at x _ _)
    have i7 : H7 x = some (.ins A.IfRow dx [("number", v_number), ("value", v_value), ("first", .ref n_first), ("other", .ref n_other), ("left", v_left)]) := hg7 ▸ upd_same
    have k7_first : H7 n_first = some (.lst l_first) := hg7 ▸ (upd_ne e_first).trans k6_first
    have k7_other : H7 n_other = some (.lst l_other) := hg7 ▸ (upd_ne e_other).trans k6_other
    refine ⟨x, A.IfRow, dx, [("number", v_number), ("value", v_value), ("first", .ref n_first), ("other", .ref n_other), ("left", v_left)], rfl, i7, T.o_IfRow.cl, T.n_IfRow_right, by simp, ?_⟩
    generalize hg8 : upd H7 x _ = H8
    have b8 : But x H H8 := hg8 ▸ b7.trans (But.at x _ _)
    have i8 : H8 x = some (.ins A.IfRow dx [("number", v_number), ("value", v_value), ("first", .ref n_first), ("other", .ref n_other), ("left", v_left), ("right", v_right)]) := hg8 ▸ upd_same
    have k8_first : H8 n_first = some (.lst l_first) := hg8 ▸ (upd_ne e_first).trans k7_first
    have k8_other : H8 n_other = some (.lst l_other) := hg8 ▸ (upd_ne e_other).trans k7_other
    exact q n_first n_other H8 a_first a_other d_first_other b8 k8_first k8_other i8
theorem mk_IfRow {H : Hp} {x dx : Addr} {R : VK} {v_number v_value v_left v_right : V} {t_first : Addr} {l_first : List V} (s_first : SqL K H t_first l_first) {t_other : Addr} {l_other : List V} (s_other : SqL K H t_other l_other) (hx : H x = none) (hd : H dx = none) (q : ∀ (n_first n_other : Addr) (H' : Hp), H n_first = none → H n_other = none → Same H H' → H' n_first = some (.lst l_first) → H' n_other = some (.lst l_other) → H' x = some (.ins A.IfRow dx [("number", v_number), ("value", v_value), ("first", .ref n_first), ("other", .ref n_other), ("left", v_left), ("right", v_right)]) → R .non H') : sp_IfRow_init K A (.ref x :: ([v_number, v_value, .ref t_first, .ref t_other, v_left, v_right] ++ [])) (upd (upd H dx (.own x)) x (.ins A.IfRow dx [])) R E0 :=
  ⟨x, dx, _, _, _, _, _, _, _, _, rfl, upd_same, s_first.new hx hd, s_other.new hx hd, fun n_first n_other H' f_first f_other _ b g_first g_other i => q n_first n_other H' (new_none hx hd f_first) (new_none hx hd f_other) (b.same hx hd) g_first g_other i⟩
def sp_LoopRow_init (K : PySem.W.Frag) (A : Adr) : Sp := fun vs H Q _ => ∃ (x dx : Addr) (v_number v_thing v_most v_left v_right : V) (t_body : Addr) (l_body : List V), vs = [.ref x, v_number, v_thing, v_most, .ref t_body, v_left, v_right] ∧ H x = some (.ins A.LoopRow dx []) ∧ SqL K H t_body l_body ∧ ∀ (n_body : Addr) (H' : Hp), H n_body = none → But x H H' → H' n_body = some (.lst l_body) → H' x = some (.ins A.LoopRow dx [("number", v_number), ("thing", v_thing), ("most", v_most), ("body", .ref n_body), ("left", v_left), ("right", v_right)]) → Q .non H'
theorem h_LoopRow_init (T : Txt K mg A) : HasM P w K mg base 3 A.LoopRow "__init__" ["self", "number", "thing", "most", "body", "left", "right"] (sp_LoopRow_init K A) := by
  have D_Row_init := h_Row_init (P := P) (w := w) (base := base) T
  refine T.m_LoopRow_init.has (k := 2) sc_LoopRow_init (fun vs H Q E h => ?_) (fun f cdv A' outer s H vs Q E hr hu h => ?_)
  · obtain ⟨x, dx, v_number, v_thing, v_most, v_left, v_right, t_body, l_body, rfl, _⟩ := h
    rfl
  · obtain ⟨x, dx, v_number, v_thing, v_most, v_left, v_right, t_body, l_body, rfl, hx, s_body, q⟩ := h
    refine ⟨_, (pss_cons (ps_expr (pe_callOf T.o_Row T.of_Row_init D_Row_init hr (pa_cons (fv 0) (pa_cons (fv 1) pa_nil))))
    (pss_cons (ps_fld (fv 0) (fv 2) rfl)
    (pss_cons (ps_fld (fv 0) (fv 3) rfl)
    (pss_cons (ps_fld (fv 0) (pe_callTy c_list rfl T.z_list (by boot_by_name) (pa_cons (fv 4) pa_nil)) rfl)
    (pss_cons (ps_fld (fv 0) (fv 5) rfl)
    (pss_one (ps_fld (fv 0) (fv 6) rfl))))))), ?_⟩
    have b0 : But x H H := But.refl x H
    refine ⟨x, A.LoopRow, dx, [], v_number, rfl, hx, T.o_LoopRow.cl, T.n_LoopRow_number, by decide, ?_⟩
    generalize hg1 : upd H x _ = H1
    have b1 : But x H H1 := hg1 ▸ b0.trans (But.at x _ _)
    have i1 : H1 x = some (.ins A.LoopRow dx [("number", v_number)]) := hg1 ▸ upd_same
    refine ⟨x, A.LoopRow, dx, [("number", v_number)], rfl, i1, T.o_LoopRow.cl, T.n_LoopRow_thing, by simp, ?_⟩
    generalize hg2 : upd H1 x _ = H2
    have b2 : But x H H2 := hg2 ▸ b1.trans (But.at x _ _)
    have i2 : H2 x = some (.ins A.LoopRow dx [("number", v_number), ("thing", v_thing)]) := hg2 ▸ upd_same
    refine ⟨x, A.LoopRow, dx, [("number", v_number), ("thing", v_thing)], rfl, i2, T.o_LoopRow.cl, T.n_LoopRow_most, by simp, ?_⟩
    generalize hg3 : upd H2 x _ = H3
    have b3 : But x H H3 := hg3 ▸ b2.trans (But.at x _ _)
    have i3 : H3 x = some (.ins A.LoopRow dx [("number", v_number), ("thing", v_thing), ("most", v_most)]) := hg3 ▸ upd_same
    refine ⟨_, l_body, rfl, .inl (SqL.but s_body hx b3), fun n_body f_body => ?_⟩
    have e_body : n_body ≠ x := fun z => by rw [z] at f_body; exact absurd (f_body.symm.trans i3) (by intro z; cases z)
    have a_body : H n_body = none := b3.none e_body f_body
    generalize hg4 : upd H3 n_body (HO.lst l_body) = H4
    have b4 : But x H H4 := hg4 ▸ b3.trans (But.new f_body _)
    have i4 : H4 x = some (.ins A.LoopRow dx [("number", v_number), ("thing", v_thing), ("most", v_most)]) := hg4 ▸ (upd_ne (Ne.symm e_body)).trans i3
    have k4_body : H4 n_body = some (.lst l_body) := hg4 ▸ upd_same
    refine ⟨x, A.LoopRow, dx, [("number", v_number), ("thing", v_thing), ("most", v_most)], rfl, i4, T.o_LoopRow.cl, T.n_LoopRow_body, by simp, ?_⟩
    generalize hg5 : upd H4 x _ = H5
    have b5 : But x H H5 := hg5 ▸ b4.trans (But.at x _ _)
    have i5 : H5 x = some (.ins A.LoopRow dx [("number", v_number), ("thing", v_thing), ("most", v_most), ("body", .ref n_body)]) := hg5 ▸ upd_same
    have k5_body : H5 n_body = some (.lst l_body) := hg5 ▸ (upd_ne e_body).trans k4_body
    refine ⟨x, A.LoopRow, dx, [("number", v_number), ("thing", v_thing), ("most", v_most), ("body", .ref n_body)], rfl, i5, T.o_LoopRow.cl, T.n_LoopRow_left, by simp, ?_⟩
    generalize hg6 : upd H5 x _ = H6
    have b6 : But x H H6 := hg6 ▸ b5.trans (But.at x _ _)
    have i6 : H6 x = some (.ins A.LoopRow dx [("number", v_number), ("thing", v_thing), ("most", v_most), ("body", .ref n_body), ("left", v_left)]) := hg6 ▸ upd_same
    have k6_body : H6 n_body = some (.lst l_body) := hg6 ▸ (upd_ne e_body).trans k5_body
    refine ⟨x, A.LoopRow, dx, [("number", v_number), ("thing", v_thing), ("most", v_most), ("body", .ref n_body), ("left", v_left)], rfl, i6, T.o_LoopRow.cl, T.n_LoopRow_right, by simp, ?_⟩
    generalize hg7 : upd H6 x _ = H7
    have b7 : But x H H7 := hg7 ▸ b6.trans (But.at x _ _)
    have i7 : H7 x = some (.ins A.LoopRow dx [("number", v_number), ("thing", v_thing), ("most", v_most), ("body", .ref n_body), ("left", v_left), ("right", v_right)]) := hg7 ▸ upd_same
    have k7_body : H7 n_body = some (.lst l_body) := hg7 ▸ (upd_ne e_body).trans k6_body
    exact q n_body H7 a_body b7 k7_body i7
theorem mk_LoopRow {H : Hp} {x dx : Addr} {R : VK} {v_number v_thing v_most v_left v_right : V} {t_body : Addr} {l_body : List V} (s_body : SqL K H t_body l_body) (hx : H x = none) (hd : H dx = none) (q : ∀ (n_body : Addr) (H' : Hp), H n_body = none → Same H H' → H' n_body = some (.lst l_body) → H' x = some (.ins A.LoopRow dx [("number", v_number), ("thing", v_thing), ("most", v_most), ("body", .ref n_body), ("left", v_left), ("right", v_right)]) → R .non H') : sp_LoopRow_init K A (.ref x :: ([v_number, v_thing, v_most, .ref t_body, v_left, v_right] ++ [])) (upd (upd H dx (.own x)) x (.ins A.LoopRow dx [])) R E0 :=
  ⟨x, dx, _, _, _, _, _, _, _, rfl, upd_same, s_body.new hx hd, fun n_body H' f_body b g_body i => q n_body H' (new_none hx hd f_body) (b.same hx hd) g_body i⟩
def sp_DeedRow_init (K : PySem.W.Frag) (A : Adr) : Sp := fun vs H Q _ => ∃ (x dx : Addr) (v_number v_name : V) (t_parts : Addr) (l_parts : List V) (t_body : Addr) (l_body : List V), vs = [.ref x, v_number, v_name, .ref t_parts, .ref t_body] ∧ H x = some (.ins A.DeedRow dx []) ∧ SqL K H t_parts l_parts ∧ SqL K H t_body l_body ∧ ∀ (n_parts n_body : Addr) (H' : Hp), H n_parts = none → H n_body = none → n_parts ≠ n_body → But x H H' → H' n_parts = some (.lst l_parts) → H' n_body = some (.lst l_body) → H' x = some (.ins A.DeedRow dx [("number", v_number), ("name", v_name), ("parts", .ref n_parts), ("body", .ref n_body)]) → Q .non H'
theorem h_DeedRow_init (T : Txt K mg A) : HasM P w K mg base 3 A.DeedRow "__init__" ["self", "number", "name", "parts", "body"] (sp_DeedRow_init K A) := by
  have D_Row_init := h_Row_init (P := P) (w := w) (base := base) T
  refine T.m_DeedRow_init.has (k := 2) sc_DeedRow_init (fun vs H Q E h => ?_) (fun f cdv A' outer s H vs Q E hr hu h => ?_)
  · obtain ⟨x, dx, v_number, v_name, t_parts, l_parts, t_body, l_body, rfl, _⟩ := h
    rfl
  · obtain ⟨x, dx, v_number, v_name, t_parts, l_parts, t_body, l_body, rfl, hx, s_parts, s_body, q⟩ := h
    refine ⟨_, (pss_cons (ps_expr (pe_callOf T.o_Row T.of_Row_init D_Row_init hr (pa_cons (fv 0) (pa_cons (fv 1) pa_nil))))
    (pss_cons (ps_fld (fv 0) (fv 2) rfl)
    (pss_cons (ps_fld (fv 0) (pe_callTy c_list rfl T.z_list (by boot_by_name) (pa_cons (fv 3) pa_nil)) rfl)
    (pss_one (ps_fld (fv 0) (pe_callTy c_list rfl T.z_list (by boot_by_name) (pa_cons (fv 4) pa_nil)) rfl))))), ?_⟩
    have b0 : But x H H := But.refl x H
    refine ⟨x, A.DeedRow, dx, [], v_number, rfl, hx, T.o_DeedRow.cl, T.n_DeedRow_number, by decide, ?_⟩
    generalize hg1 : upd H x _ = H1
    have b1 : But x H H1 := hg1 ▸ b0.trans (But.at x _ _)
    have i1 : H1 x = some (.ins A.DeedRow dx [("number", v_number)]) := hg1 ▸ upd_same
    refine ⟨x, A.DeedRow, dx, [("number", v_number)], rfl, i1, T.o_DeedRow.cl, T.n_DeedRow_name, by simp, ?_⟩
    generalize hg2 : upd H1 x _ = H2
    have b2 : But x H H2 := hg2 ▸ b1.trans (But.at x _ _)
    have i2 : H2 x = some (.ins A.DeedRow dx [("number", v_number), ("name", v_name)]) := hg2 ▸ upd_same
    refine ⟨_, l_parts, rfl, .inl (SqL.but s_parts hx b2), fun n_parts f_parts => ?_⟩
    have e_parts : n_parts ≠ x := fun z => by rw [z] at f_parts; exact absurd (f_parts.symm.trans i2) (by intro z; cases z)
    have a_parts : H n_parts = none := b2.none e_parts f_parts
    generalize hg3 : upd H2 n_parts (HO.lst l_parts) = H3
    have b3 : But x H H3 := hg3 ▸ b2.trans (But.new f_parts _)
    have i3 : H3 x = some (.ins A.DeedRow dx [("number", v_number), ("name", v_name)]) := hg3 ▸ (upd_ne (Ne.symm e_parts)).trans i2
    have k3_parts : H3 n_parts = some (.lst l_parts) := hg3 ▸ upd_same
    refine ⟨x, A.DeedRow, dx, [("number", v_number), ("name", v_name)], rfl, i3, T.o_DeedRow.cl, T.n_DeedRow_parts, by simp, ?_⟩
    generalize hg4 : upd H3 x _ = H4
    have b4 : But x H H4 := hg4 ▸ b3.trans (But.at x _ _)
    have i4 : H4 x = some (.ins A.DeedRow dx [("number", v_number), ("name", v_name), ("parts", .ref n_parts)]) := hg4 ▸ upd_same
    have k4_parts : H4 n_parts = some (.lst l_parts) := hg4 ▸ (upd_ne e_parts).trans k3_parts
    refine ⟨_, l_body, rfl, .inl (SqL.but s_body hx b4), fun n_body f_body => ?_⟩
    have e_body : n_body ≠ x := fun z => by rw [z] at f_body; exact absurd (f_body.symm.trans i4) (by intro z; cases z)
    have a_body : H n_body = none := b4.none e_body f_body
    have d_parts_body : n_parts ≠ n_body := fun z => by have w := k4_parts; rw [z] at w; exact absurd (f_body.symm.trans w) (by intro w; cases w)
    generalize hg5 : upd H4 n_body (HO.lst l_body) = H5
    have b5 : But x H H5 := hg5 ▸ b4.trans (But.new f_body _)
    have i5 : H5 x = some (.ins A.DeedRow dx [("number", v_number), ("name", v_name), ("parts", .ref n_parts)]) := hg5 ▸ (upd_ne (Ne.symm e_body)).trans i4
    have k5_parts : H5 n_parts = some (.lst l_parts) := hg5 ▸ (upd_ne d_parts_body).trans k4_parts
    have k5_body : H5 n_body = some (.lst l_body) := hg5 ▸ upd_same
    refine ⟨x, A.DeedRow, dx, [("number", v_number), ("name", v_name), ("parts", .ref n_parts)], rfl, i5, T.o_DeedRow.cl, T.n_DeedRow_body, by simp, ?_⟩
    generalize hg6 : upd H5 x _ = H6
    have b6 : But x H H6 := hg6 ▸ b5.trans (But.at x _ _)
    have i6 : H6 x = some (.ins A.DeedRow dx [("number", v_number), ("name", v_name), ("parts", .ref n_parts), ("body", .ref n_body)]) := hg6 ▸ upd_same
    have k6_parts : H6 n_parts = some (.lst l_parts) := hg6 ▸ (upd_ne e_parts).trans k5_parts
    have k6_body : H6 n_body = some (.lst l_body) := hg6 ▸ (upd_ne e_body).trans k5_body
    exact q n_parts n_body H6 a_parts a_body d_parts_body b6 k6_parts k6_body i6
theorem mk_DeedRow {H : Hp} {x dx : Addr} {R : VK} {v_number v_name : V} {t_parts : Addr} {l_parts : List V} (s_parts : SqL K H t_parts l_parts) {t_body : Addr} {l_body : List V} (s_body : SqL K H t_body l_body) (hx : H x = none) (hd : H dx = none) (q : ∀ (n_parts n_body : Addr) (H' : Hp), H n_parts = none → H n_body = none → Same H H' → H' n_parts = some (.lst l_parts) → H' n_body = some (.lst l_body) → H' x = some (.ins A.DeedRow dx [("number", v_number), ("name", v_name), ("parts", .ref n_parts), ("body", .ref n_body)]) → R .non H') : sp_DeedRow_init K A (.ref x :: ([v_number, v_name, .ref t_parts, .ref t_body] ++ [])) (upd (upd H dx (.own x)) x (.ins A.DeedRow dx [])) R E0 :=
  ⟨x, dx, _, _, _, _, _, _, rfl, upd_same, s_parts.new hx hd, s_body.new hx hd, fun n_parts n_body H' f_parts f_body _ b g_parts g_body i => q n_parts n_body H' (new_none hx hd f_parts) (new_none hx hd f_body) (b.same hx hd) g_parts g_body i⟩
def sp_Program_init (K : PySem.W.Frag) (A : Adr) : Sp := fun vs H Q _ => ∃ (x dx : Addr) (t_heads : Addr) (l_heads : List V) (t_deeds : Addr) (l_deeds : List V) (t_main : Addr) (l_main : List V), vs = [.ref x, .ref t_heads, .ref t_deeds, .ref t_main] ∧ H x = some (.ins A.Program dx []) ∧ SqL K H t_heads l_heads ∧ SqL K H t_deeds l_deeds ∧ SqL K H t_main l_main ∧ ∀ (n_heads n_deeds n_main : Addr) (H' : Hp), H n_heads = none → H n_deeds = none → H n_main = none → n_heads ≠ n_deeds → n_heads ≠ n_main → n_deeds ≠ n_main → But x H H' → H' n_heads = some (.lst l_heads) → H' n_deeds = some (.lst l_deeds) → H' n_main = some (.lst l_main) → H' x = some (.ins A.Program dx [("heads", .ref n_heads), ("deeds", .ref n_deeds), ("main", .ref n_main)]) → Q .non H'
theorem h_Program_init (T : Txt K mg A) : HasM P w K mg base 3 A.Program "__init__" ["self", "heads", "deeds", "main"] (sp_Program_init K A) := by
  refine T.m_Program_init.has (k := 2) sc_Program_init (fun vs H Q E h => ?_) (fun f cdv A' outer s H vs Q E hr hu h => ?_)
  · obtain ⟨x, dx, t_heads, l_heads, t_deeds, l_deeds, t_main, l_main, rfl, _⟩ := h
    rfl
  · obtain ⟨x, dx, t_heads, l_heads, t_deeds, l_deeds, t_main, l_main, rfl, hx, s_heads, s_deeds, s_main, q⟩ := h
    refine ⟨_, (pss_cons (ps_fld (fv 0) (pe_callTy c_list rfl T.z_list (by boot_by_name) (pa_cons (fv 1) pa_nil)) rfl)
    (pss_cons (ps_fld (fv 0) (pe_callTy c_list rfl T.z_list (by boot_by_name) (pa_cons (fv 2) pa_nil)) rfl)
    (pss_one (ps_fld (fv 0) (pe_callTy c_list rfl T.z_list (by boot_by_name) (pa_cons (fv 3) pa_nil)) rfl)))), ?_⟩
    have b0 : But x H H := But.refl x H
    refine ⟨_, l_heads, rfl, .inl (SqL.but s_heads hx b0), fun n_heads f_heads => ?_⟩
    have e_heads : n_heads ≠ x := fun z => by rw [z] at f_heads; exact absurd (f_heads.symm.trans hx) (by intro z; cases z)
    have a_heads : H n_heads = none := b0.none e_heads f_heads
    generalize hg1 : upd H n_heads (HO.lst l_heads) = H1
    have b1 : But x H H1 := hg1 ▸ b0.trans (But.new f_heads _)
    have i1 : H1 x = some (.ins A.Program dx []) := hg1 ▸ (upd_ne (Ne.symm e_heads)).trans hx
    have k1_heads : H1 n_heads = some (.lst l_heads) := hg1 ▸ upd_same
    refine ⟨x, A.Program, dx, [], rfl, i1, T.o_Program.cl, T.n_Program_heads, by simp, ?_⟩
    generalize hg2 : upd H1 x _ = H2
    have b2 : But x H H2 := hg2 ▸ b1.trans (But.at x _ _)
    have i2 : H2 x = some (.ins A.Program dx [("heads", .ref n_heads)]) := hg2 ▸ upd_same
    have k2_heads : H2 n_heads = some (.lst l_heads) := hg2 ▸ (upd_ne e_heads).trans k1_heads
    refine ⟨_, l_deeds, rfl, .inl (SqL.but s_deeds hx b2), fun n_deeds f_deeds => ?_⟩
    have e_deeds : n_deeds ≠ x := fun z => by rw [z] at f_deeds; exact absurd (f_deeds.symm.trans i2) (by intro z; cases z)
    have a_deeds : H n_deeds = none := b2.none e_deeds f_deeds
    have d_heads_deeds : n_heads ≠ n_deeds := fun z => by have w := k2_heads; rw [z] at w; exact absurd (f_deeds.symm.trans w) (by intro w; cases w)
    generalize hg3 : upd H2 n_deeds (HO.lst l_deeds) = H3
    have b3 : But x H H3 := hg3 ▸ b2.trans (But.new f_deeds _)
    have i3 : H3 x = some (.ins A.Program dx [("heads", .ref n_heads)]) := hg3 ▸ (upd_ne (Ne.symm e_deeds)).trans i2
    have k3_heads : H3 n_heads = some (.lst l_heads) := hg3 ▸ (upd_ne d_heads_deeds).trans k2_heads
    have k3_deeds : H3 n_deeds = some (.lst l_deeds) := hg3 ▸ upd_same
    refine ⟨x, A.Program, dx, [("heads", .ref n_heads)], rfl, i3, T.o_Program.cl, T.n_Program_deeds, by simp, ?_⟩
    generalize hg4 : upd H3 x _ = H4
    have b4 : But x H H4 := hg4 ▸ b3.trans (But.at x _ _)
    have i4 : H4 x = some (.ins A.Program dx [("heads", .ref n_heads), ("deeds", .ref n_deeds)]) := hg4 ▸ upd_same
    have k4_heads : H4 n_heads = some (.lst l_heads) := hg4 ▸ (upd_ne e_heads).trans k3_heads
    have k4_deeds : H4 n_deeds = some (.lst l_deeds) := hg4 ▸ (upd_ne e_deeds).trans k3_deeds
    refine ⟨_, l_main, rfl, .inl (SqL.but s_main hx b4), fun n_main f_main => ?_⟩
    have e_main : n_main ≠ x := fun z => by rw [z] at f_main; exact absurd (f_main.symm.trans i4) (by intro z; cases z)
    have a_main : H n_main = none := b4.none e_main f_main
    have d_heads_main : n_heads ≠ n_main := fun z => by have w := k4_heads; rw [z] at w; exact absurd (f_main.symm.trans w) (by intro w; cases w)
    have d_deeds_main : n_deeds ≠ n_main := fun z => by have w := k4_deeds; rw [z] at w; exact absurd (f_main.symm.trans w) (by intro w; cases w)
    generalize hg5 : upd H4 n_main (HO.lst l_main) = H5
    have b5 : But x H H5 := hg5 ▸ b4.trans (But.new f_main _)
    have i5 : H5 x = some (.ins A.Program dx [("heads", .ref n_heads), ("deeds", .ref n_deeds)]) := hg5 ▸ (upd_ne (Ne.symm e_main)).trans i4
    have k5_heads : H5 n_heads = some (.lst l_heads) := hg5 ▸ (upd_ne d_heads_main).trans k4_heads
    have k5_deeds : H5 n_deeds = some (.lst l_deeds) := hg5 ▸ (upd_ne d_deeds_main).trans k4_deeds
    have k5_main : H5 n_main = some (.lst l_main) := hg5 ▸ upd_same
    refine ⟨x, A.Program, dx, [("heads", .ref n_heads), ("deeds", .ref n_deeds)], rfl, i5, T.o_Program.cl, T.n_Program_main, by simp, ?_⟩
    generalize hg6 : upd H5 x _ = H6
    have b6 : But x H H6 := hg6 ▸ b5.trans (But.at x _ _)
    have i6 : H6 x = some (.ins A.Program dx [("heads", .ref n_heads), ("deeds", .ref n_deeds), ("main", .ref n_main)]) := hg6 ▸ upd_same
    have k6_heads : H6 n_heads = some (.lst l_heads) := hg6 ▸ (upd_ne e_heads).trans k5_heads
    have k6_deeds : H6 n_deeds = some (.lst l_deeds) := hg6 ▸ (upd_ne e_deeds).trans k5_deeds
    have k6_main : H6 n_main = some (.lst l_main) := hg6 ▸ (upd_ne e_main).trans k5_main
    exact q n_heads n_deeds n_main H6 a_heads a_deeds a_main d_heads_deeds d_heads_main d_deeds_main b6 k6_heads k6_deeds k6_main i6
theorem mk_Program {H : Hp} {x dx : Addr} {R : VK} {t_heads : Addr} {l_heads : List V} (s_heads : SqL K H t_heads l_heads) {t_deeds : Addr} {l_deeds : List V} (s_deeds : SqL K H t_deeds l_deeds) {t_main : Addr} {l_main : List V} (s_main : SqL K H t_main l_main) (hx : H x = none) (hd : H dx = none) (q : ∀ (n_heads n_deeds n_main : Addr) (H' : Hp), H n_heads = none → H n_deeds = none → H n_main = none → Same H H' → H' n_heads = some (.lst l_heads) → H' n_deeds = some (.lst l_deeds) → H' n_main = some (.lst l_main) → H' x = some (.ins A.Program dx [("heads", .ref n_heads), ("deeds", .ref n_deeds), ("main", .ref n_main)]) → R .non H') : sp_Program_init K A (.ref x :: ([.ref t_heads, .ref t_deeds, .ref t_main] ++ [])) (upd (upd H dx (.own x)) x (.ins A.Program dx [])) R E0 :=
  ⟨x, dx, _, _, _, _, _, _, rfl, upd_same, s_heads.new hx hd, s_deeds.new hx hd, s_main.new hx hd, fun n_heads n_deeds n_main H' f_heads f_deeds f_main _ _ _ b g_heads g_deeds g_main i => q n_heads n_deeds n_main H' (new_none hx hd f_heads) (new_none hx hd f_deeds) (new_none hx hd f_main) (b.same hx hd) g_heads g_deeds g_main i⟩
end
end K13

set_option Elab.async false
set_option linter.all false
set_option maxRecDepth 100000
set_option maxHeartbeats 4000000
namespace K13
open PySem L2
section
variable {P : Program} {w : World} {K : PySem.W.Frag} {mg : Str → Option Value} {base : Heap} {A : Adr} {N : Nat → Str}
theorem seq_cut {t u : TS} {D : Ends} {σ : St} {H : Hp} (h : ∀ N : St → Hp → Prop, (∀ σ H, u D σ H → N σ H) → t { D with nx := N } σ H) : tSeq t u D σ H := h (u D) fun _ _ z => z
def Dist (N : Nat → Str) : Prop := ∀ i j, i < 3 → j < 3 → N i = N j → i = j
def dk (N : Nat → Str) (idx : List Nat) (f : Nat → V) : List (Key × V) := idx.map fun i => (Sum.inr (N i), f i)
theorem key_ne (D : Dist N) {i j : Nat} (hi : i < 3) (hj : j < 3) (h : i ≠ j) : (Sum.inr (N i) : Key) ≠ Sum.inr (N j) := fun e => h (D i j hi hj (Sum.inr.inj e))
theorem dk_get (D : Dist N) {f : Nat → V} {i : Nat} : ∀ {idx : List Nat}, (∀ j ∈ idx, j < 3) → i ∈ idx → L2.valV (dk N idx f) (.inr (N i)) = some (f i)
  | j :: r, hb, m => by
    by_cases e : j = i
    · subst e
      unfold L2.valV dk
      rw [List.map_cons, List.find?_cons]
      simp
    · have hj := hb j List.mem_cons_self
      have m' : i ∈ r := by
        rcases List.mem_cons.mp m with z | z
        · exact absurd z.symm e
        · exact z
      have hi := hb i m
      have ih := dk_get D (f := f) (i := i) (idx := r) (fun k hk => hb k (List.mem_cons_of_mem _ hk)) m'
      unfold L2.valV dk at ih ⊢
      rw [List.map_cons, List.find?_cons, decide_eq_false (key_ne D hj hi e)]
      exact ih
theorem dk_any (D : Dist N) {f : Nat → V} {i : Nat} (hi : i < 3) {idx : List Nat} (hb : ∀ j ∈ idx, j < 3) : ((dk N idx f).any fun kv => decide (kv.1 = (Sum.inr (N i) : Key))) = decide (i ∈ idx) := by
  unfold dk
  rw [List.any_map]
  by_cases m : i ∈ idx
  · rw [decide_eq_true m, List.any_eq_true]
    exact ⟨i, m, decide_eq_true rfl⟩
  · rw [decide_eq_false m, List.any_eq_false]
    intro j hj
    show ¬ decide ((Sum.inr (N j) : Key) = Sum.inr (N i)) = true
    rw [decide_eq_false (key_ne D (hb j hj) hi (fun z => m (z ▸ hj)))]
    exact Bool.false_ne_true
theorem dk_congr {f g : Nat → V} {idx : List Nat} (h : ∀ i ∈ idx, f i = g i) : dk N idx f = dk N idx g := List.map_congr_left fun i hi => by rw [h i hi]
def updF (f : Nat → V) (i : Nat) (v : V) : Nat → V := fun j => if j = i then v else f j
theorem updF_same (f : Nat → V) (i : Nat) (v : V) : updF f i v i = v := if_pos rfl
theorem updF_ne (f : Nat → V) {i j : Nat} (v : V) (h : j ≠ i) : updF f i v j = f j := if_neg h
theorem dk_new (D : Dist N) {f : Nat → V} {i : Nat} {v : V} {idx : List Nat} (hi : i < 3) (hb : ∀ j ∈ idx, j < 3) (m : i ∉ idx) : putK (dk N idx f) (.inr (N i)) v = dk N (idx ++ [i]) (updF f i v) := by
  unfold putK
  rw [dk_any D hi hb, decide_eq_false m, if_neg Bool.false_ne_true]
  unfold dk
  rw [List.map_append, List.map_cons, List.map_nil, updF_same]
  congr 1
  refine List.map_congr_left fun j hj => ?_
  rw [updF_ne _ _ (fun z => m (by rw [← z]; exact hj))]
def ins (idx : List Nat) (i : Nat) : List Nat := if i ∈ idx then idx else idx ++ [i]
theorem dk_len (f : Nat → V) (idx : List Nat) : (dk N idx f).length = idx.length := List.length_map _
theorem dk_val (D : Dist N) {f : Nat → V} {idx : List Nat} (hb : ∀ j ∈ idx, j < 3) {k : Key} {v : V} (h : L2.valV (dk N idx f) k = some v) : ∃ j ∈ idx, k = Sum.inr (N j) ∧ v = f j := by
  unfold L2.valV at h
  cases e : (dk N idx f).find? fun kv => decide (kv.1 = k) with
  | none => rw [e] at h; cases h
  | some kv =>
    rw [e] at h
    have h1 := List.mem_of_find?_eq_some e
    have h2 : kv.1 = k := of_decide_eq_true (List.find?_some (p := fun kv : Key × V => decide (kv.1 = k)) e)
    obtain ⟨j, hj, rfl⟩ := List.mem_map.mp h1
    exact ⟨j, hj, h2.symm, (Option.some.inj h).symm⟩
theorem paired_get {α β : Type} {F : α → β → Prop} : ∀ {l₁ : List α} {l₂ : List β} {i : Nat} {a : α}, PySem.Paired F l₁ l₂ → l₁[i]? = some a → ∃ b, l₂[i]? = some b ∧ F a b
  | _, _, _, _, .nil, h => by cases h
  | _, _, 0, _, .cons h _, e => by cases e; exact ⟨_, rfl, h⟩
  | _, _, i + 1, _, .cons _ r, e => by
    have : ∃ b, _ := paired_get (i := i) r e
    exact this
theorem fold_step {α β : Type} (f : β → α → β) (b : β) {xs : List α} {i : Nat} {x : α} (h : xs[i]? = some x) : (xs.take (i + 1)).foldl f b = f ((xs.take i).foldl f b) x := by
  rw [List.take_add_one, h, List.foldl_append]
  rfl
abbrev cls (A : Adr) : List Addr := [A.Row, A.OwnRow, A.SetRow, A.CallRow, A.LastRow, A.IfRow, A.LoopRow, A.DeedRow, A.Program]
theorem cls_ne (T : Txt K mg A) (i j : Nat) (hi : i < 9 := by decide) (hj : j < 9 := by decide) (h : i ≠ j := by decide) : (cls A)[i]'hi ≠ (cls A)[j]'hj := fun e => h ((List.getElem_inj T.nd).mp e)
theorem kitT {C : Addr} {x : Str} {up : List Addr} (O : OwnC K mg C x up) (hs : C ∈ up := by exact List.mem_cons_self) : PySem.W.kitOne K (.ref C) (.ref C) = some true := by
  rw [O.kit O hs, decide_eq_true hs]
theorem kitF {C D R : Addr} {x y : Str} {vp : List Addr} (O : OwnC K mg C x [C, R]) (U : OwnC K mg D y vp) (h1 : D ≠ C) (h2 : D ≠ R) : PySem.W.kitOne K (.ref C) (.ref D) = some false := by
  rw [O.kit U List.mem_cons_self, decide_eq_false]
  intro m
  rcases List.mem_cons.mp m with e | m
  · exact h1 e
  · rcases List.mem_cons.mp m with e | m
    · exact h2 e
    · cases m
inductive Rw where
  | set | last | call (i : Nat)
  | iff (f o : List Rw) (l r : Int)
  | loop (m : Int) (b : List Rw) (l r : Int)
def mostR (kn : Nat → Int) : Nat → Rw → Int
  | _, .call i => 1 + kn i
  | d + 1, .iff f o l r => 1 + (if l + (f.map (mostR kn d)).sum < r + (o.map (mostR kn d)).sum then r + (o.map (mostR kn d)).sum else l + (f.map (mostR kn d)).sum)
  | d + 1, .loop m b l r => 1 + m * (if l + (b.map (mostR kn d)).sum < r then r else l + (b.map (mostR kn d)).sum)
  | _, _ => 1
def allSum (xs : List (Option Int)) : Option Int := xs.foldl (fun s x => s.bind fun a => x.map fun b => a + b) (some 0)
def exactR (kn : Nat → Option Int) : Nat → Rw → Option Int
  | _, .call i => (kn i).map fun x => 1 + x
  | d + 1, .iff f o l r => match allSum (f.map (exactR kn d)), allSum (o.map (exactR kn d)) with
    | some x, some y => if l + x = r + y then some (1 + l + x) else none
    | _, _ => none
  | d + 1, .loop m b l r => match allSum (b.map (exactR kn d)) with
    | some x => if l + x = r then some (1 + m * r) else none
    | none => none
  | _, _ => some 1
def RowAt (A : Adr) (N : Nat → Str) (ki : List Nat) (H : Hp) : Nat → V → Rw → Prop
  | _, v, .set => ∃ a dx fs, v = .ref a ∧ H a = some (.ins A.SetRow dx fs)
  | _, v, .last => ∃ a dx fs, v = .ref a ∧ H a = some (.ins A.LastRow dx fs)
  | _, v, .call i => i ∈ ki ∧ ∃ a dx n t, v = .ref a ∧ H a = some (.ins A.CallRow dx [("number", n), ("name", .str (N i)), ("things", t)])
  | d + 1, v, .iff f o l r => ∃ a dx n p pf po xf xo, v = .ref a ∧ H a = some (.ins A.IfRow dx [("number", n), ("value", p), ("first", .ref pf), ("other", .ref po), ("left", .int l), ("right", .int r)]) ∧ H pf = some (.lst xf) ∧ H po = some (.lst xo) ∧ xf.length ≤ 1000 ∧ xo.length ≤ 1000 ∧ PySem.Paired (RowAt A N ki H d) xf f ∧ PySem.Paired (RowAt A N ki H d) xo o
  | d + 1, v, .loop m b l r => (-(2 ^ 64) < m ∧ m < 2 ^ 64) ∧ ∃ a dx n p pb xb, v = .ref a ∧ H a = some (.ins A.LoopRow dx [("number", n), ("thing", p), ("most", .int m), ("body", .ref pb), ("left", .int l), ("right", .int r)]) ∧ H pb = some (.lst xb) ∧ xb.length ≤ 1000 ∧ PySem.Paired (RowAt A N ki H d) xb b
  | 0, _, .iff _ _ _ _ => False
  | 0, _, .loop _ _ _ _ => False
theorem RowAt.same {ki : List Nat} {H H' : Hp} (s : Same H H') : ∀ {d : Nat} {v : V} {r : Rw}, RowAt A N ki H d v r → RowAt A N ki H' d v r
  | 0, v, r, h => by
    cases r with
    | set => unfold RowAt at h ⊢; obtain ⟨a, dx, fs, e, h⟩ := h; exact ⟨a, dx, fs, e, s _ _ h⟩
    | last => unfold RowAt at h ⊢; obtain ⟨a, dx, fs, e, h⟩ := h; exact ⟨a, dx, fs, e, s _ _ h⟩
    | call i => unfold RowAt at h ⊢; obtain ⟨m, a, dx, n, t, e, h⟩ := h; exact ⟨m, a, dx, n, t, e, s _ _ h⟩
    | iff f o l r => unfold RowAt at h; exact h.elim
    | loop m b l r => unfold RowAt at h; exact h.elim
  | d + 1, v, r, h => by
    cases r with
    | set => unfold RowAt at h ⊢; obtain ⟨a, dx, fs, e, h⟩ := h; exact ⟨a, dx, fs, e, s _ _ h⟩
    | last => unfold RowAt at h ⊢; obtain ⟨a, dx, fs, e, h⟩ := h; exact ⟨a, dx, fs, e, s _ _ h⟩
    | call i => unfold RowAt at h ⊢; obtain ⟨m, a, dx, n, t, e, h⟩ := h; exact ⟨m, a, dx, n, t, e, s _ _ h⟩
    | iff f o l r =>
      unfold RowAt at h ⊢
      obtain ⟨a, dx, n, p, pf, po, xf, xo, e, h1, h2, h3, h4, h5, h6, h7⟩ := h
      exact ⟨a, dx, n, p, pf, po, xf, xo, e, s _ _ h1, s _ _ h2, s _ _ h3, h4, h5, Paired.mapP h6 fun _ _ z => RowAt.same s z, Paired.mapP h7 fun _ _ z => RowAt.same s z⟩
    | loop m b l r =>
      unfold RowAt at h ⊢
      obtain ⟨hm, a, dx, n, p, pb, xb, e, h1, h2, h3, h4⟩ := h
      exact ⟨hm, a, dx, n, p, pb, xb, e, s _ _ h1, s _ _ h2, h3, Paired.mapP h4 fun _ _ z => RowAt.same s z⟩
theorem get_in (D : Dist N) {H : Hp} {d : Addr} {idx : List Nat} {f : Nat → V} (h : Rd H d (.dK (dk N idx f))) (hb : ∀ j ∈ idx, j < 3) {k : Nat} (hk : k ∈ idx) : DGet H d (.str (N k)) (some (f k)) := by
  rw [← dk_get D (f := f) hb hk]
  exact .inl ⟨_, _, h, rfl, rfl⟩
theorem comp_lsI {K : PySem.W.Frag} {a : Addr} {xs : List V} {fr : List Nat} {te : CB → TE} {Q : VK} {σ : St} {H1 : Hp} (R : Nat → V → Hp → Prop) (hx : SqL K H1 a xs) (hn : xs.length < sizeLine)
    (he : ∀ b i x H (G : VK), xs[i]? = some x → Same H1 H → (∀ y H', Same H H' → R i y H' → G y H') → te b (some x :: cFr fr σ) H G)
    (mono : ∀ i y H H', Same H H' → R i y H → R i y H') (st : ∀ i y H D ys zs, H D = some (.lst ys) → R i y H → R i y (upd H D (.lst zs)))
    (fin : ∀ D H ys, H1 D = none → Same H1 H → H D = some (.lst ys) → ys.length = xs.length → (∀ (i : Nat) y, ys[i]? = some y → R i y H) → Q (.ref D) H) : tBlock (Itl K a) 1 fr (fun _ => gName 0) (fun _ => tYes) te Q σ H1 := by
  refine comp_rel (x := fun i => xs.getD i .non) R hn (fun H s => ⟨xs, s.seq hx, Nat.le_refl _⟩) (fun i H h s => ⟨xs, xs[i], s.seq hx, List.getElem?_eq_getElem h⟩)
    (fun i H v H' h s y => ⟨y.1, ?_⟩) (fun b i H G h s k => he b i _ H G (by rw [List.getD_eq_getElem?_getD, List.getElem?_eq_getElem h]; rfl) s k) mono st fin
  have := y.2 xs (s.seq hx)
  rw [List.getD_eq_getElem?_getD, this]
  rfl
end
end K13

set_option Elab.async false
set_option linter.all false
set_option maxRecDepth 100000
set_option maxHeartbeats 4000000
namespace K13
open PySem L2
section
variable {P : Program} {w : World} {K : PySem.W.Frag} {mg : Str → Option Value} {base : Heap} {A : Adr} {N : Nat → Str}
structure Known (N : Nat → Str) (H : Hp) (k : Addr) (ki : List Nat) (kf : Nat → V) : Prop where
  d : Rd H k (.dK (dk N ki kf))
  lt : ∀ i ∈ ki, i < 3
theorem Known.same {H H' : Hp} {k : Addr} {ki : List Nat} {kf : Nat → V} (h : Known N H k ki kf) (s : Same H H') : Known N H' k ki kf := ⟨by
  rcases h.d with e | ⟨o, e⟩
  · exact .inl (s _ _ e)
  · exact .inr ⟨o, s _ _ e⟩, h.lt⟩
def sp_mrow (A : Adr) (N : Nat → Str) (d : Nat) : Sp := fun vs H Q _ => ∃ (v : V) (k : Addr) (r : Rw) (ki : List Nat) (kf : Nat → V) (kn : Nat → Int), vs = [v, .ref k] ∧ RowAt A N ki H d v r ∧ Known N H k ki kf ∧ (∀ i ∈ ki, kf i = .int (kn i)) ∧ ∀ H', Same H H' → Q (.int (mostR kn d r)) H'
def sp_most (A : Adr) (N : Nat → Str) (d : Nat) : Sp := fun vs H Q _ => ∃ (q k : Addr) (xs : List V) (rs : List Rw) (ki : List Nat) (kf : Nat → V) (kn : Nat → Int), vs = [.ref q, .ref k] ∧ H q = some (.lst xs) ∧ xs.length ≤ 1000 ∧ PySem.Paired (RowAt A N ki H d) xs rs ∧ Known N H k ki kf ∧ (∀ i ∈ ki, kf i = .int (kn i)) ∧ ∀ H', Same H H' → Q (.int (rs.map (mostR kn d)).sum) H'
def sp_mostN (A : Adr) (N : Nat → Str) : Nat → Sp
  | 0 => fun _ _ _ _ => False
  | d + 1 => sp_most A N d
theorem h_most_of {d : Nat} (T : Txt K mg A) (D_most_of_row : Has P w K mg base (2 * d + 2) "most_of_row" ["row", "known"] (sp_mrow A N d)) : Has P w K mg base (2 * d + 3) "most_of" ["rows", "known"] (sp_most A N d) := by
  refine T.most_of.has (k := 2 * d + 2) sc_most_of (fun vs H Q E h => ?_) (fun f cdv A' outer s H vs Q E hr hu h => ?_)
  · obtain ⟨q, k, xs, rs, ki, kf, kn, rfl, _⟩ := h
    rfl
  · obtain ⟨p, k, xs, rs, ki, kf, kn, rfl, hp, hl, pr, kw, kv, q⟩ := h
    refine ⟨_, (pss_one (ps_ret (pe_callB c_sum rfl T.z_sum (by boot_by_name) (pa_cons (pe_comp (N := ["row", "known"]) (own := 1) (fr := [1]) (CompOk.of (by kernel_rfl!)) rfl (pi_any (fv 0)) (fun b => pg_name (i := 0) (show List.Nodup (["row", "known"] : List PySem.Str) by decide +kernel) rfl (by first | exact Or.inl rfl | exact Or.inr rfl)) (fun b => pf_nil) (fun b => pe_callD (hj := by omega) D_most_of_row hr (pa_cons (fv 0) (pa_cons (fv 1) pa_nil)))) pa_nil)))), ?_⟩
    have pl := Paired.length pr
    refine Or.inl ⟨⟨_, SqL.of hp⟩, comp_lsI (K := K) (fun i y _ => ∀ r, rs[i]? = some r → y = .int (mostR kn d r)) (SqL.of hp) (small1000 hl) (fun b i x H2 G hx s2 kk => ?_) (fun _ _ _ _ _ h => h) (fun _ _ _ _ _ _ _ h => h) (fun D H2 ys hD s2 e yl hy => ?_)⟩
    · obtain ⟨r, hr, ra⟩ := paired_get pr hx
      exact ⟨x, k, r, ki, kf, kn, rfl, ra.same s2, kw.same s2, kv, fun H3 s3 => kk _ _ s3 fun r' h' => by rw [hr] at h'; cases h'; rfl⟩
    · have ey : ys = (rs.map (mostR kn d)).map V.int := by
        refine List.ext_getElem? fun i => ?_
        rw [List.getElem?_map, List.getElem?_map]
        cases h1 : rs[i]? with
        | none =>
          have : rs.length ≤ i := List.getElem?_eq_none_iff.mp h1
          exact List.getElem?_eq_none (by omega)
        | some r =>
          have lt : i < ys.length := by have := (List.getElem?_eq_some_iff.mp h1).1; omega
          rw [List.getElem?_eq_getElem lt, hy i _ (List.getElem?_eq_getElem lt) r h1]
          rfl
      rw [ey] at e
      exact ⟨D, _, rfl, SqL.of e, q _ s2⟩
theorem h_mrow (T : Txt K mg A) (Di : Dist N) : ∀ d, Has P w K mg base (2 * d + 2) "most_of_row" ["row", "known"] (sp_mrow A N d) := fun d => by
  have D_most_of : Has P w K mg base (2 * d + 1) "most_of" ["rows", "known"] (sp_mostN A N d) := by
    cases d with
    | zero => exact T.most_of.has (k := 0) sc_most_of (fun _ _ _ _ h => h.elim) (fun _ _ _ _ _ _ _ _ _ _ _ h => h.elim)
    | succ d => exact h_most_of T (h_mrow T Di d)
  refine T.most_of_row.has (k := 2 * d + 1) sc_most_of_row (fun vs H Q E h => ?_) (fun f cdv A' outer s H vs Q E hr hu h => ?_)
  · obtain ⟨v, k, r, ki, kf, kn, rfl, _⟩ := h
    rfl
  · obtain ⟨v, k, r, ki, kf, kn, rfl, ra, kw, kv, q⟩ := h
    refine ⟨_, (pss_cons (ps_if (pt_tru (pe_callB c_isinst rfl T.z_isinstance (by boot_by_name) (pa_cons (fv 0) (pa_cons (pe_gtup T.o_CallRow.mg) pa_nil))) (fun _ => rfl))
      (pss_one (ps_ret (pe_op o_add (pe_int) (pe_ix (ix_all hu) (fv 1) (pe_fld (fv 0) rfl) (fun _ _ => rfl)))))
      pss_nil)
    (pss_cons (ps_if (pt_tru (pe_callB c_isinst rfl T.z_isinstance (by boot_by_name) (pa_cons (fv 0) (pa_cons (pe_gtup T.o_IfRow.mg) pa_nil))) (fun _ => rfl))
      (pss_cons (ps_set (i := 2) sc_most_of_row.nd rfl (Or.inl rfl) (pe_op o_add (pe_fld (fv 0) rfl) (pe_callD (hj := by omega) D_most_of hr (pa_cons (pe_fld (fv 0) rfl) (pa_cons (fv 1) pa_nil)))))
      (pss_cons (ps_set (i := 3) sc_most_of_row.nd rfl (Or.inl rfl) (pe_op o_add (pe_fld (fv 0) rfl) (pe_callD (hj := by omega) D_most_of hr (pa_cons (pe_fld (fv 0) rfl) (pa_cons (fv 1) pa_nil)))))
      (pss_one (ps_ret (pe_op o_add (pe_int) (pe_callB c_max rfl T.z_max (by boot_by_name) (pa_cons (fv 2) (pa_cons (fv 3) pa_nil))))))))
      pss_nil)
    (pss_cons (ps_if (pt_tru (pe_callB c_isinst rfl T.z_isinstance (by boot_by_name) (pa_cons (fv 0) (pa_cons (pe_gtup T.o_LoopRow.mg) pa_nil))) (fun _ => rfl))
      (pss_one (ps_ret (pe_op o_add (pe_int) (pe_op o_mulA (pe_fld (fv 0) rfl) (pe_callB c_max rfl T.z_max (by boot_by_name) (pa_cons (pe_op o_add (pe_fld (fv 0) rfl) (pe_callD (hj := by omega) D_most_of hr (pa_cons (pe_fld (fv 0) rfl) (pa_cons (fv 1) pa_nil)))) (pa_cons (pe_fld (fv 0) rfl) pa_nil)))))))
      pss_nil)
    (pss_one (ps_ret (pe_int)))))), ?_⟩
    cases r with
    | set =>
      have q := q _ (Same.refl _)
      rw [show mostR kn d .set = 1 by cases d <;> rfl] at q
      obtain ⟨a, dx, fs, rfl, ha⟩ : ∃ a dx fs, v = .ref a ∧ H a = some (.ins A.SetRow dx fs) := by cases d <;> exact ra
      refine ⟨_, _, _, false, rfl, (fun z => by cases z), T.o_SetRow.tyOf ha, kitF T.o_SetRow T.o_CallRow (cls_ne T 3 2) (cls_ne T 3 0), false, rfl, iteF ?_⟩
      refine ⟨_, _, _, false, rfl, (fun z => by cases z), T.o_SetRow.tyOf ha, kitF T.o_SetRow T.o_IfRow (cls_ne T 5 2) (cls_ne T 5 0), false, rfl, iteF ?_⟩
      exact ⟨_, _, _, false, rfl, (fun z => by cases z), T.o_SetRow.tyOf ha, kitF T.o_SetRow T.o_LoopRow (cls_ne T 6 2) (cls_ne T 6 0), false, rfl, iteF q⟩
    | last =>
      have q := q _ (Same.refl _)
      rw [show mostR kn d .last = 1 by cases d <;> rfl] at q
      obtain ⟨a, dx, fs, rfl, ha⟩ : ∃ a dx fs, v = .ref a ∧ H a = some (.ins A.LastRow dx fs) := by cases d <;> exact ra
      refine ⟨_, _, _, false, rfl, (fun z => by cases z), T.o_LastRow.tyOf ha, kitF T.o_LastRow T.o_CallRow (cls_ne T 3 4) (cls_ne T 3 0), false, rfl, iteF ?_⟩
      refine ⟨_, _, _, false, rfl, (fun z => by cases z), T.o_LastRow.tyOf ha, kitF T.o_LastRow T.o_IfRow (cls_ne T 5 4) (cls_ne T 5 0), false, rfl, iteF ?_⟩
      exact ⟨_, _, _, false, rfl, (fun z => by cases z), T.o_LastRow.tyOf ha, kitF T.o_LastRow T.o_LoopRow (cls_ne T 6 4) (cls_ne T 6 0), false, rfl, iteF q⟩
    | call i =>
      have q := q _ (Same.refl _)
      rw [show mostR kn d (.call i) = 1 + kn i by cases d <;> rfl] at q
      obtain ⟨mi, a, dx, n, t, rfl, ha⟩ : i ∈ ki ∧ ∃ a dx n t, v = .ref a ∧ H a = some (.ins A.CallRow dx [("number", n), ("name", .str (N i)), ("things", t)]) := by cases d <;> exact ra
      have g := get_in Di kw.d kw.lt mi
      rw [kv i mi] at g
      refine ⟨_, _, _, true, rfl, (fun z => by cases z), T.o_CallRow.tyOf ha, kitT T.o_CallRow, true, rfl, iteT ?_⟩
      exact ⟨a, _, dx, _, _, rfl, ha, T.o_CallRow.cl, T.n_CallRow_name, rfl, _, g, q⟩
    | iff f o l r =>
      cases d with
      | zero => exact (show False from ra).elim
      | succ d =>
      obtain ⟨a, dx, n, p, pf, po, xf, xo, rfl, ha, h1, h2, l1, l2, p1, p2⟩ := ra
      refine ⟨_, _, _, false, rfl, (fun z => by cases z), T.o_IfRow.tyOf ha, kitF T.o_IfRow T.o_CallRow (cls_ne T 3 5) (cls_ne T 3 0), false, rfl, iteF ?_⟩
      refine ⟨_, _, _, true, rfl, (fun z => by cases z), T.o_IfRow.tyOf ha, kitT T.o_IfRow, true, rfl, iteT ?_⟩
      refine ⟨a, _, dx, _, _, rfl, ha, T.o_IfRow.cl, T.n_IfRow_left, rfl, a, _, dx, _, _, rfl, ha, T.o_IfRow.cl, T.n_IfRow_first, rfl, pf, k, xf, f, ki, kf, kn, rfl, h1, l1, p1, kw, kv, fun H2 s2 => ?_⟩
      refine ⟨a, _, dx, _, _, rfl, s2 _ _ ha, T.o_IfRow.cl, T.n_IfRow_right, rfl, a, _, dx, _, _, rfl, s2 _ _ ha, T.o_IfRow.cl, T.n_IfRow_other, rfl, po, k, xo, o, ki, kf, kn, rfl, s2 _ _ h2, l2, Paired.mapP p2 (fun _ _ => RowAt.same s2), kw.same s2, kv, fun H3 s3 => ?_⟩
      exact ⟨_, _, rfl, q _ (s2.trans s3)⟩
    | loop m b l r =>
      cases d with
      | zero => exact (show False from ra).elim
      | succ d =>
      obtain ⟨hm, a, dx, n, p, pb, xb, rfl, ha, h1, l1, p1⟩ := ra
      refine ⟨_, _, _, false, rfl, (fun z => by cases z), T.o_LoopRow.tyOf ha, kitF T.o_LoopRow T.o_CallRow (cls_ne T 3 6) (cls_ne T 3 0), false, rfl, iteF ?_⟩
      refine ⟨_, _, _, false, rfl, (fun z => by cases z), T.o_LoopRow.tyOf ha, kitF T.o_LoopRow T.o_IfRow (cls_ne T 5 6) (cls_ne T 5 0), false, rfl, iteF ?_⟩
      refine ⟨_, _, _, true, rfl, (fun z => by cases z), T.o_LoopRow.tyOf ha, kitT T.o_LoopRow, true, rfl, iteT ?_⟩
      refine ⟨a, _, dx, _, _, rfl, ha, T.o_LoopRow.cl, T.n_LoopRow_most, rfl, a, _, dx, _, _, rfl, ha, T.o_LoopRow.cl, T.n_LoopRow_left, rfl, a, _, dx, _, _, rfl, ha, T.o_LoopRow.cl, T.n_LoopRow_body, rfl, pb, k, xb, b, ki, kf, kn, rfl, h1, l1, p1, kw, kv, fun H2 s2 => ?_⟩
      refine ⟨a, _, dx, _, _, rfl, s2 _ _ ha, T.o_LoopRow.cl, T.n_LoopRow_right, rfl, ?_⟩
      exact ⟨_, _, rfl, .inl hm, q _ s2⟩
end
end K13

set_option Elab.async false
set_option linter.all false
set_option maxRecDepth 100000
set_option maxHeartbeats 4000000
namespace K13
open PySem L2
section
variable {P : Program} {w : World} {K : PySem.W.Frag} {mg : Str → Option Value} {base : Heap} {A : Adr} {N : Nat → Str}
def optV : Option Int → V
  | some x => .int x
  | none => .non
abbrev sumF : Option Int → Option Int → Option Int := fun s x => s.bind fun a => x.map fun b => a + b
theorem fold_none : ∀ xs : List (Option Int), xs.foldl sumF none = none
  | [] => rfl
  | _ :: r => fold_none r
theorem all_none {xs : List (Option Int)} {i : Nat} (h : xs[i]? = some none) : allSum xs = none := by
  have e : xs = xs.take (i + 1) ++ xs.drop (i + 1) := (List.take_append_drop _ _).symm
  unfold allSum
  rw [e, List.foldl_append, fold_step _ _ h]
  have : sumF ((xs.take i).foldl sumF (some 0)) none = none := by cases (xs.take i).foldl sumF (some 0) <;> rfl
  exact (congrArg (fun z => (xs.drop (i + 1)).foldl sumF z) this).trans (fold_none _)
def sp_xrow (A : Adr) (N : Nat → Str) (d : Nat) : Sp := fun vs H Q _ => ∃ (v : V) (k : Addr) (r : Rw) (ki : List Nat) (kf : Nat → V) (kn : Nat → Option Int), vs = [v, .ref k] ∧ RowAt A N ki H d v r ∧ Known N H k ki kf ∧ (∀ i ∈ ki, kf i = optV (kn i)) ∧ Q (optV (exactR kn d r)) H
def sp_xif (A : Adr) (N : Nat → Str) (d : Nat) : Sp := fun vs H Q _ => ∃ (v : V) (k : Addr) (f o : List Rw) (l r : Int) (ki : List Nat) (kf : Nat → V) (kn : Nat → Option Int), vs = [v, .ref k] ∧ RowAt A N ki H d v (.iff f o l r) ∧ Known N H k ki kf ∧ (∀ i ∈ ki, kf i = optV (kn i)) ∧ Q (optV (exactR kn d (.iff f o l r))) H
def sp_xloop (A : Adr) (N : Nat → Str) (d : Nat) : Sp := fun vs H Q _ => ∃ (v : V) (k : Addr) (m : Int) (b : List Rw) (l r : Int) (ki : List Nat) (kf : Nat → V) (kn : Nat → Option Int), vs = [v, .ref k] ∧ RowAt A N ki H d v (.loop m b l r) ∧ Known N H k ki kf ∧ (∀ i ∈ ki, kf i = optV (kn i)) ∧ Q (optV (exactR kn d (.loop m b l r))) H
def sp_exact (A : Adr) (N : Nat → Str) (d : Nat) : Sp := fun vs H Q _ => ∃ (q k : Addr) (xs : List V) (rs : List Rw) (ki : List Nat) (kf : Nat → V) (kn : Nat → Option Int), vs = [.ref q, .ref k] ∧ H q = some (.lst xs) ∧ xs.length ≤ 1000 ∧ PySem.Paired (RowAt A N ki H d) xs rs ∧ Known N H k ki kf ∧ (∀ i ∈ ki, kf i = optV (kn i)) ∧ Q (optV (allSum (rs.map (exactR kn d)))) H
def sp_exactN (A : Adr) (N : Nat → Str) : Nat → Sp
  | 0 => fun _ _ _ _ => False
  | d + 1 => sp_exact A N d
def sp_more : Sp := fun vs H Q _ => ∃ x : Option Int, vs = [optV x] ∧ Q (optV (x.map fun y => 1 + y)) H
theorem h_more (T : Txt K mg A) : Has P w K mg base 1 "one_more" ["steps"] sp_more := by
  refine T.one_more.has sc_one_more (fun vs H Q E h => ?_) (fun f cdv A' outer s H vs Q E hr hu h => ?_)
  · obtain ⟨x, rfl, _⟩ := h
    rfl
  · obtain ⟨x, rfl, q⟩ := h
    refine ⟨_, (pss_one (ps_ret (pe_ifExp (pt_cmpR (o_is) (fv 0) (pe_non) (nomark _)) (pe_non) (pe_op o_add (pe_int) (fv 0))))), ?_⟩
    cases x with
    | none => exact ⟨rfl, _, rfl, iteT q⟩
    | some y => exact ⟨rfl, _, rfl, iteF q⟩
theorem h_exact_of {d : Nat} (T : Txt K mg A) (D_exact_of_row : Has P w K mg base (3 * d + 3) "exact_of_row" ["row", "known"] (sp_xrow A N d)) : Has P w K mg base (3 * d + 4) "exact_of" ["rows", "known"] (sp_exact A N d) := by
  refine T.exact_of.has (k := 3 * d + 3) sc_exact_of (fun vs H Q E h => ?_) (fun f cdv A' outer s H vs Q E hr hu h => ?_)
  · obtain ⟨q, k, xs, rs, ki, kf, kn, rfl, _⟩ := h
    rfl
  · obtain ⟨p, k, xs, rs, ki, kf, kn, rfl, hp, hl, pr, kw, kv, q⟩ := h
    refine ⟨_, (pss_cons (ps_set (i := 2) sc_exact_of.nd rfl (Or.inl rfl) (pe_int))
    (pss_cons (ps_for PassesOwn.never rfl (pi_any (fv 0)) (pg_name (i := 3) sc_exact_of.nd rfl (by first | exact Or.inl rfl | exact Or.inr rfl))
      (pss_cons (ps_set (i := 4) sc_exact_of.nd rfl (Or.inl rfl) (pe_callD (hj := by omega) D_exact_of_row hr (pa_cons (fv 3) (pa_cons (fv 1) pa_nil))))
      (pss_cons (ps_if (pt_cmpR (o_is) (fv 4) (pe_non) (nomark _))
        (pss_one (ps_ret (pe_non)))
        pss_nil)
      (pss_one (ps_aug (i := 2) sc_exact_of.nd rfl (by first | exact Or.inl rfl | exact Or.inr rfl) (fv 4) ip_add)))))
    (pss_one (ps_ret (fv 2))))), ?_⟩
    refine Or.inl ⟨⟨_, SqL.of hp⟩, ?_⟩
    refine for_list (K := K) (xs := xs) (fun i σ H2 => H2 = H ∧ ∃ (t : Int) (v3 v4 : Option V), ((rs.map (exactR kn d)).take i).foldl sumF (some 0) = some t ∧ σ = [some (.ref p), some (.ref k), some (.int t), v3, v4]) ⟨rfl, 0, _, _, rfl, rfl⟩ (fun i σ H2 _ h => by rw [h.1]; exact SqL.of hp) ?_ ?_
    · rintro i v σ H2 hv ⟨rfl, t, v3, v4, ht, rfl⟩
      obtain ⟨r, hr, ra⟩ := paired_get pr hv
      refine ⟨v, k, r, ki, kf, kn, rfl, ra, kw, kv, ?_⟩
      have hm : (rs.map (exactR kn d))[i]? = some (exactR kn d r) := by rw [List.getElem?_map, hr]; rfl
      cases hx : exactR kn d r with
      | none =>
        rw [hx] at hm
        rw [all_none hm] at q
        exact ⟨rfl, _, rfl, iteT q⟩
      | some y =>
        rw [hx] at hm
        refine ⟨rfl, _, rfl, iteF ?_⟩
        refine ⟨_, rfl, _, _, rfl, rfl, ?_⟩
        refine ⟨rfl, t + y, _, _, ?_, rfl⟩
        rw [fold_step _ _ hm, ht]
        rfl
    · rintro σ H2 ⟨rfl, t, v3, v4, ht, rfl⟩
      have pl := Paired.length pr
      rw [List.take_of_length_le (by rw [List.length_map]; omega)] at ht
      have : allSum (rs.map (exactR kn d)) = some t := ht
      rw [this] at q
      exact q
theorem h_xif (T : Txt K mg A) (d : Nat) (D_exact_of : Has P w K mg base (3 * d + 1) "exact_of" ["rows", "known"] (sp_exactN A N d)) : Has P w K mg base (3 * d + 2) "exact_of_if" ["row", "known"] (sp_xif A N d) := by
  refine T.exact_of_if.has (k := 3 * d + 1) sc_exact_of_if (fun vs H Q E h => ?_) (fun f cdv A' outer s H vs Q E hr hu h => ?_)
  · obtain ⟨v, k, f, o, l, r, ki, kf, kn, rfl, _⟩ := h
    rfl
  · obtain ⟨v, k, f, o, l, r, ki, kf, kn, rfl, ra, kw, kv, q⟩ := h
    cases d with
    | zero => exact (show False from ra).elim
    | succ d =>
    obtain ⟨a, dx, n, p, pf, po, xf, xo, rfl, ha, h1, h2, l1, l2, p1, p2⟩ := ra
    refine ⟨_, (pss_cons (ps_set (i := 2) sc_exact_of_if.nd rfl (Or.inl rfl) (pe_callD (hj := by omega) D_exact_of hr (pa_cons (pe_fld (fv 0) rfl) (pa_cons (fv 1) pa_nil))))
    (pss_cons (ps_set (i := 3) sc_exact_of_if.nd rfl (Or.inl rfl) (pe_callD (hj := by omega) D_exact_of hr (pa_cons (pe_fld (fv 0) rfl) (pa_cons (fv 1) pa_nil))))
    (pss_cons (ps_if (PW.pt (pw_or (pt_cmpR (o_is) (fv 2) (pe_non) (nomark _)) (pw_or (pt_cmpR (o_is) (fv 3) (pe_non) (nomark _)) (pw_or1 (pt_cmpR (o_ne hu) (pe_op o_add (pe_fld (fv 0) rfl) (fv 2)) (pe_op o_add (pe_fld (fv 0) rfl) (fv 3)) (nomark _))))))
      (pss_one (ps_ret (pe_non)))
      pss_nil)
    (pss_one (ps_ret (pe_op o_add (pe_op o_add (pe_int) (pe_fld (fv 0) rfl)) (fv 2))))))), ?_⟩
    refine ⟨a, _, dx, _, _, rfl, ha, T.o_IfRow.cl, T.n_IfRow_first, rfl, pf, k, xf, f, ki, kf, kn, rfl, h1, l1, p1, kw, kv, ?_⟩
    refine ⟨a, _, dx, _, _, rfl, ha, T.o_IfRow.cl, T.n_IfRow_other, rfl, po, k, xo, o, ki, kf, kn, rfl, h2, l2, p2, kw, kv, ?_⟩
    unfold exactR at q
    cases e1 : allSum (f.map (exactR kn d)) with
    | none =>
      rw [e1] at q
      exact ⟨rfl, _, rfl, iteT q⟩
    | some x =>
      rw [e1] at q
      refine ⟨rfl, _, rfl, iteF ?_⟩
      cases e2 : allSum (o.map (exactR kn d)) with
      | none =>
        rw [e2] at q
        exact ⟨rfl, _, rfl, iteT q⟩
      | some y =>
        rw [e2] at q
        refine ⟨rfl, _, rfl, iteF ?_⟩
        refine ⟨a, _, dx, _, _, rfl, ha, T.o_IfRow.cl, T.n_IfRow_left, rfl, a, _, dx, _, _, rfl, ha, T.o_IfRow.cl, T.n_IfRow_right, rfl, rfl, _, rfl, ?_⟩
        rw [vint]
        dsimp only at q
        by_cases c : l + x = r + y
        · rw [decide_eq_true c]
          rw [if_pos c] at q
          exact iteF ⟨a, _, dx, _, _, rfl, ha, T.o_IfRow.cl, T.n_IfRow_left, rfl, q⟩
        · rw [decide_eq_false c]
          rw [if_neg c] at q
          exact iteT q
theorem h_xloop (T : Txt K mg A) (d : Nat) (D_exact_of : Has P w K mg base (3 * d + 1) "exact_of" ["rows", "known"] (sp_exactN A N d)) : Has P w K mg base (3 * d + 2) "exact_of_loop" ["row", "known"] (sp_xloop A N d) := by
  refine T.exact_of_loop.has (k := 3 * d + 1) sc_exact_of_loop (fun vs H Q E h => ?_) (fun f cdv A' outer s H vs Q E hr hu h => ?_)
  · obtain ⟨v, k, m, b, l, r, ki, kf, kn, rfl, _⟩ := h
    rfl
  · obtain ⟨v, k, m, b, l, r, ki, kf, kn, rfl, ra, kw, kv, q⟩ := h
    cases d with
    | zero => exact (show False from ra).elim
    | succ d =>
    obtain ⟨hm, a, dx, n, p, pb, xb, rfl, ha, h1, l1, p1⟩ := ra
    refine ⟨_, (pss_cons (ps_set (i := 2) sc_exact_of_loop.nd rfl (Or.inl rfl) (pe_callD (hj := by omega) D_exact_of hr (pa_cons (pe_fld (fv 0) rfl) (pa_cons (fv 1) pa_nil))))
    (pss_cons (ps_if (PW.pt (pw_or (pt_cmpR (o_is) (fv 2) (pe_non) (nomark _)) (pw_or1 (pt_cmpR (o_ne hu) (pe_op o_add (pe_fld (fv 0) rfl) (fv 2)) (pe_fld (fv 0) rfl) (nomark _)))))
      (pss_one (ps_ret (pe_non)))
      pss_nil)
    (pss_one (ps_ret (pe_op o_add (pe_int) (pe_op o_mulA (pe_fld (fv 0) rfl) (pe_fld (fv 0) rfl))))))), ?_⟩
    refine ⟨a, _, dx, _, _, rfl, ha, T.o_LoopRow.cl, T.n_LoopRow_body, rfl, pb, k, xb, b, ki, kf, kn, rfl, h1, l1, p1, kw, kv, ?_⟩
    unfold exactR at q
    cases e1 : allSum (b.map (exactR kn d)) with
    | none =>
      rw [e1] at q
      exact ⟨rfl, _, rfl, iteT q⟩
    | some x =>
      rw [e1] at q
      refine ⟨rfl, _, rfl, iteF ?_⟩
      refine ⟨a, _, dx, _, _, rfl, ha, T.o_LoopRow.cl, T.n_LoopRow_left, rfl, a, _, dx, _, _, rfl, ha, T.o_LoopRow.cl, T.n_LoopRow_right, rfl, rfl, _, rfl, ?_⟩
      rw [vint]
      dsimp only at q
      by_cases c : l + x = r
      · rw [decide_eq_true c]
        rw [if_pos c] at q
        exact iteF ⟨a, _, dx, _, _, rfl, ha, T.o_LoopRow.cl, T.n_LoopRow_most, rfl, a, _, dx, _, _, rfl, ha, T.o_LoopRow.cl, T.n_LoopRow_right, rfl, .inl hm, q⟩
      · rw [decide_eq_false c]
        rw [if_neg c] at q
        exact iteT q
theorem h_xrow (T : Txt K mg A) (Di : Dist N) : ∀ d, Has P w K mg base (3 * d + 3) "exact_of_row" ["row", "known"] (sp_xrow A N d) := fun d => by
  have D_exact_of : Has P w K mg base (3 * d + 1) "exact_of" ["rows", "known"] (sp_exactN A N d) := by
    cases d with
    | zero => exact T.exact_of.has (k := 0) sc_exact_of (fun _ _ _ _ h => h.elim) (fun _ _ _ _ _ _ _ _ _ _ _ h => h.elim)
    | succ d => exact h_exact_of T (h_xrow T Di d)
  have D_exact_of_if := h_xif T d D_exact_of
  have D_exact_of_loop := h_xloop T d D_exact_of
  have D_one_more := h_more (P := P) (w := w) (base := base) T
  refine T.exact_of_row.has (k := 3 * d + 2) sc_exact_of_row (fun vs H Q E h => ?_) (fun f cdv A' outer s H vs Q E hr hu h => ?_)
  · obtain ⟨v, k, r, ki, kf, kn, rfl, _⟩ := h
    rfl
  · obtain ⟨v, k, r, ki, kf, kn, rfl, ra, kw, kv, q⟩ := h
    refine ⟨_, (pss_cons (ps_if (pt_tru (pe_callB c_isinst rfl T.z_isinstance (by boot_by_name) (pa_cons (fv 0) (pa_cons (pe_gtup T.o_CallRow.mg) pa_nil))) (fun _ => rfl))
      (pss_one (ps_ret (pe_callD (hj := by omega) D_one_more hr (pa_cons (pe_ix (ix_all hu) (fv 1) (pe_fld (fv 0) rfl) (fun _ _ => rfl)) pa_nil))))
      pss_nil)
    (pss_cons (ps_if (pt_tru (pe_callB c_isinst rfl T.z_isinstance (by boot_by_name) (pa_cons (fv 0) (pa_cons (pe_gtup T.o_IfRow.mg) pa_nil))) (fun _ => rfl))
      (pss_one (ps_ret (pe_callD (hj := by omega) D_exact_of_if hr (pa_cons (fv 0) (pa_cons (fv 1) pa_nil)))))
      pss_nil)
    (pss_cons (ps_if (pt_tru (pe_callB c_isinst rfl T.z_isinstance (by boot_by_name) (pa_cons (fv 0) (pa_cons (pe_gtup T.o_LoopRow.mg) pa_nil))) (fun _ => rfl))
      (pss_one (ps_ret (pe_callD (hj := by omega) D_exact_of_loop hr (pa_cons (fv 0) (pa_cons (fv 1) pa_nil)))))
      pss_nil)
    (pss_one (ps_ret (pe_int)))))), ?_⟩
    cases r with
    | set =>
      rw [show exactR kn d .set = some 1 by cases d <;> rfl] at q
      obtain ⟨a, dx, fs, rfl, ha⟩ : ∃ a dx fs, v = .ref a ∧ H a = some (.ins A.SetRow dx fs) := by cases d <;> exact ra
      refine ⟨_, _, _, false, rfl, (fun z => by cases z), T.o_SetRow.tyOf ha, kitF T.o_SetRow T.o_CallRow (cls_ne T 3 2) (cls_ne T 3 0), false, rfl, iteF ?_⟩
      refine ⟨_, _, _, false, rfl, (fun z => by cases z), T.o_SetRow.tyOf ha, kitF T.o_SetRow T.o_IfRow (cls_ne T 5 2) (cls_ne T 5 0), false, rfl, iteF ?_⟩
      exact ⟨_, _, _, false, rfl, (fun z => by cases z), T.o_SetRow.tyOf ha, kitF T.o_SetRow T.o_LoopRow (cls_ne T 6 2) (cls_ne T 6 0), false, rfl, iteF q⟩
    | last =>
      rw [show exactR kn d .last = some 1 by cases d <;> rfl] at q
      obtain ⟨a, dx, fs, rfl, ha⟩ : ∃ a dx fs, v = .ref a ∧ H a = some (.ins A.LastRow dx fs) := by cases d <;> exact ra
      refine ⟨_, _, _, false, rfl, (fun z => by cases z), T.o_LastRow.tyOf ha, kitF T.o_LastRow T.o_CallRow (cls_ne T 3 4) (cls_ne T 3 0), false, rfl, iteF ?_⟩
      refine ⟨_, _, _, false, rfl, (fun z => by cases z), T.o_LastRow.tyOf ha, kitF T.o_LastRow T.o_IfRow (cls_ne T 5 4) (cls_ne T 5 0), false, rfl, iteF ?_⟩
      exact ⟨_, _, _, false, rfl, (fun z => by cases z), T.o_LastRow.tyOf ha, kitF T.o_LastRow T.o_LoopRow (cls_ne T 6 4) (cls_ne T 6 0), false, rfl, iteF q⟩
    | call i =>
      rw [show exactR kn d (.call i) = (kn i).map (fun x => 1 + x) by cases d <;> rfl] at q
      obtain ⟨mi, a, dx, n, t, rfl, ha⟩ : i ∈ ki ∧ ∃ a dx n t, v = .ref a ∧ H a = some (.ins A.CallRow dx [("number", n), ("name", .str (N i)), ("things", t)]) := by cases d <;> exact ra
      have g := get_in Di kw.d kw.lt mi
      rw [kv i mi] at g
      refine ⟨_, _, _, true, rfl, (fun z => by cases z), T.o_CallRow.tyOf ha, kitT T.o_CallRow, true, rfl, iteT ?_⟩
      exact ⟨a, _, dx, _, _, rfl, ha, T.o_CallRow.cl, T.n_CallRow_name, rfl, _, g, kn i, rfl, q⟩
    | iff f o l r =>
      cases d with
      | zero => exact (show False from ra).elim
      | succ d =>
      have ra0 := ra
      obtain ⟨a, dx, n, p, pf, po, xf, xo, rfl, ha, _⟩ := ra
      refine ⟨_, _, _, false, rfl, (fun z => by cases z), T.o_IfRow.tyOf ha, kitF T.o_IfRow T.o_CallRow (cls_ne T 3 5) (cls_ne T 3 0), false, rfl, iteF ?_⟩
      exact ⟨_, _, _, true, rfl, (fun z => by cases z), T.o_IfRow.tyOf ha, kitT T.o_IfRow, true, rfl, iteT ⟨_, k, f, o, l, r, ki, kf, kn, rfl, ra0, kw, kv, q⟩⟩
    | loop m b l r =>
      cases d with
      | zero => exact (show False from ra).elim
      | succ d =>
      have ra0 := ra
      obtain ⟨hm, a, dx, n, p, pb, xb, rfl, ha, _⟩ := ra
      refine ⟨_, _, _, false, rfl, (fun z => by cases z), T.o_LoopRow.tyOf ha, kitF T.o_LoopRow T.o_CallRow (cls_ne T 3 6) (cls_ne T 3 0), false, rfl, iteF ?_⟩
      refine ⟨_, _, _, false, rfl, (fun z => by cases z), T.o_LoopRow.tyOf ha, kitF T.o_LoopRow T.o_IfRow (cls_ne T 5 6) (cls_ne T 5 0), false, rfl, iteF ?_⟩
      exact ⟨_, _, _, true, rfl, (fun z => by cases z), T.o_LoopRow.tyOf ha, kitT T.o_LoopRow, true, rfl, iteT ⟨_, k, m, b, l, r, ki, kf, kn, rfl, ra0, kw, kv, q⟩⟩
end
end K13

set_option Elab.async false
set_option linter.all false
set_option maxRecDepth 100000
set_option maxHeartbeats 4000000
namespace K13
open PySem L2
section
variable {P : Program} {w : World} {K : PySem.W.Frag} {mg : Str → Option Value} {base : Heap} {A : Adr} {N : Nat → Str}
theorem Same.out {H0 H : Hp} (s : Same H0 H) {x : Addr} (h : H0 x = none) (u : HO) : Same H0 (upd H x u) := fun a o q => by
  rw [upd_ne (fun z => by rw [z, h] at q; cases q)]
  exact s a o q
structure Pr where
  pa : Addr
  dp : Addr
  hd : Addr
  dd : Addr
  mn : Addr
  r1 : Addr
  x1 : Addr
  q1 : Addr
  r2 : Addr
  x2 : Addr
  q2 : Addr
structure PrAt (A : Adr) (N : Nat → Str) (H : Hp) (d : Nat) (p : Pr) (y1 y2 ym : List V) (b1 b2 bm : List Rw) : Prop where
  pr : H p.pa = some (.ins A.Program p.dp [("heads", .ref p.hd), ("deeds", .ref p.dd), ("main", .ref p.mn)])
  dl : H p.dd = some (.lst [.ref p.r1, .ref p.r2])
  ml : H p.mn = some (.lst ym)
  d1 : ∃ n t, H p.r1 = some (.ins A.DeedRow p.x1 [("number", n), ("name", .str (N 1)), ("parts", t), ("body", .ref p.q1)])
  d2 : ∃ n t, H p.r2 = some (.ins A.DeedRow p.x2 [("number", n), ("name", .str (N 2)), ("parts", t), ("body", .ref p.q2)])
  l1 : H p.q1 = some (.lst y1)
  l2 : H p.q2 = some (.lst y2)
  p1 : PySem.Paired (RowAt A N [] H d) y1 b1
  p2 : PySem.Paired (RowAt A N [1] H d) y2 b2
  pm : PySem.Paired (RowAt A N [1, 2] H d) ym bm
  n1 : y1.length ≤ 1000
  n2 : y2.length ≤ 1000
  nm : ym.length ≤ 1000
theorem PrAt.same {H H' : Hp} {d : Nat} {p : Pr} {y1 y2 ym : List V} {b1 b2 bm : List Rw} (R : PrAt A N H d p y1 y2 ym b1 b2 bm) (s : Same H H') : PrAt A N H' d p y1 y2 ym b1 b2 bm := by
  obtain ⟨n, t, e⟩ := R.d1
  obtain ⟨n', t', e'⟩ := R.d2
  exact ⟨s _ _ R.pr, s _ _ R.dl, s _ _ R.ml, ⟨n, t, s _ _ e⟩, ⟨n', t', s _ _ e'⟩, s _ _ R.l1, s _ _ R.l2, Paired.mapP R.p1 fun _ _ => RowAt.same s, Paired.mapP R.p2 fun _ _ => RowAt.same s, Paired.mapP R.pm fun _ _ => RowAt.same s, R.n1, R.n2, R.nm⟩
def mOf (d : Nat) (kn : Nat → Int) (b : List Rw) : Int := (b.map (mostR kn d)).sum
def xOf (d : Nat) (kn : Nat → Option Int) (b : List Rw) : Option Int := allSum (b.map (exactR kn d))
def kM (d : Nat) (b1 b2 : List Rw) (i : Nat) : Int := if i = 1 then mOf d (fun _ => 0) b1 else mOf d (fun _ => mOf d (fun _ => 0) b1) b2
def kX (d : Nat) (b1 b2 : List Rw) (i : Nat) : Option Int := if i = 1 then xOf d (fun _ => none) b1 else xOf d (fun _ => xOf d (fun _ => none) b1) b2
def KnD (N : Nat → Str) (H : Hp) (k : Addr) (f : Nat → V) : Prop := H k = some (.dK (dk N [1, 2] f))
theorem lt12 : ∀ i ∈ ([1, 2] : List Nat), i < 3 := by decide
theorem lt1 : ∀ i ∈ ([1] : List Nat), i < 3 := by decide
theorem KnD.known {H : Hp} {k : Addr} {f : Nat → V} (h : KnD N H k f) : Known N H k [1, 2] f := ⟨.inl h, lt12⟩
def sp_mosts (A : Adr) (N : Nat → Str) (d : Nat) : Sp := fun vs H Q _ => ∃ (p : Pr) (y1 y2 ym : List V) (b1 b2 bm : List Rw), vs = [.ref p.pa] ∧ PrAt A N H d p y1 y2 ym b1 b2 bm ∧ ∀ k H', Same H H' → H k = none → KnD N H' k (fun i => .int (kM d b1 b2 i)) → Q (.ref k) H'
theorem h_mosts (T : Txt K mg A) (Di : Dist N) (d : Nat) : Has P w K mg base (2 * d + 4) "mosts" ["program"] (sp_mosts A N d) := by
  have D_most_of := h_most_of (P := P) (w := w) (base := base) T (h_mrow (P := P) (w := w) (base := base) T Di d)
  refine T.mosts.has (k := 2 * d + 3) sc_mosts (fun vs H Q E h => ?_) (fun f cdv A' outer s H vs Q E hr hu h => ?_)
  · obtain ⟨p, y1, y2, ym, b1, b2, bm, rfl, _⟩ := h
    rfl
  · obtain ⟨p, y1, y2, ym, b1, b2, bm, rfl, R, q⟩ := h
    obtain ⟨n1, t1, e1⟩ := R.d1
    obtain ⟨n2, t2, e2⟩ := R.d2
    refine ⟨_, (pss_cons (ps_set (i := 1) sc_mosts.nd rfl (Or.inl rfl) (pe_dnewK))
    (pss_cons (ps_for PassesOwn.never rfl (pi_any (pe_fld (fv 0) rfl)) (pg_name (i := 2) sc_mosts.nd rfl (by first | exact Or.inl rfl | exact Or.inr rfl))
      (pss_one (ps_asg (pe_callD (hj := by omega) D_most_of hr (pa_cons (pe_fld (fv 2) rfl) (pa_cons (fv 1) pa_nil))) (pg_sub (fv 1) (pe_fld (fv 2) rfl) (st_all hu set_list)))))
    (pss_one (ps_ret (fv 1))))), ?_⟩
    refine fun k hk => ?_
    have s1 := Same.upd hk (HO.dK [])
    have ek : (upd H k (HO.dK [])) k = some (.dK (dk N [] fun i => .int (kM d b1 b2 i))) := upd_same
    generalize upd H k (HO.dK []) = H1 at s1 ek ⊢
    refine ⟨p.pa, _, p.dp, _, _, rfl, s1 _ _ R.pr, T.o_Program.cl, T.n_Program_deeds, rfl, Or.inl ⟨⟨_, SqL.of (s1 _ _ R.dl)⟩, ?_⟩⟩
    refine for_list (K := K) (xs := [.ref p.r1, .ref p.r2]) (fun i σ H2 => Same H H2 ∧ H2 k = some (.dK (dk N ([1, 2].take i) fun i => .int (kM d b1 b2 i))) ∧ ∃ v, σ = [some (.ref p.pa), some (.ref k), v]) ⟨s1, ek, _, rfl⟩ (fun i σ H2 _ h => SqL.of (h.1 _ _ R.dl)) ?_ ?_
    · rintro i v σ H2 hv ⟨s2, k2, z, rfl⟩
      match i, hv, k2 with
      | 0, hv, k2 =>
        cases hv
        refine ⟨p.r1, _, p.x1, _, _, rfl, s2 _ _ e1, T.o_DeedRow.cl, T.n_DeedRow_body, rfl, p.q1, k, y1, b1, [], _, fun _ => 0, rfl, s2 _ _ R.l1, R.n1, Paired.mapP R.p1 (fun _ _ => RowAt.same s2), ⟨.inl k2, fun _ h => by cases h⟩, fun _ h => (by cases h), fun H3 s3 => ?_⟩
        have k3 := s3 _ _ k2
        refine ⟨p.r1, _, p.x1, _, _, rfl, s3 _ _ (s2 _ _ e1), T.o_DeedRow.cl, T.n_DeedRow_name, rfl, _, DPut.k (k := .inr (N 1)) k3 (show 0 < sizeLine by decide), ?_⟩
        refine ⟨Same.out (s2.trans s3) hk _, ?_, _, rfl⟩
        rw [upd_same]
        rfl
      | 1, hv, k2 =>
        cases hv
        refine ⟨p.r2, _, p.x2, _, _, rfl, s2 _ _ e2, T.o_DeedRow.cl, T.n_DeedRow_body, rfl, p.q2, k, y2, b2, [1], _, fun _ => mOf d (fun _ => 0) b1, rfl, s2 _ _ R.l2, R.n2, Paired.mapP R.p2 (fun _ _ => RowAt.same s2), ⟨.inl k2, lt1⟩, fun i h => (by rw [List.mem_singleton.mp h]; rfl), fun H3 s3 => ?_⟩
        have k3 := s3 _ _ k2
        refine ⟨p.r2, _, p.x2, _, _, rfl, s3 _ _ (s2 _ _ e2), T.o_DeedRow.cl, T.n_DeedRow_name, rfl, _, DPut.k (k := .inr (N 2)) k3 (show 1 < sizeLine by decide), ?_⟩
        refine ⟨Same.out (s2.trans s3) hk _, ?_, _, rfl⟩
        rw [upd_same, show dk N ([1, 2].take 1) (fun i => V.int (kM d b1 b2 i)) = dk N [1] (fun i => V.int (kM d b1 b2 i)) from rfl, dk_new Di (by decide) lt1 (by decide)]
        congr 2
      | i + 2, hv, _ => cases hv
    · rintro σ H2 ⟨s2, k2, z, rfl⟩
      exact q k _ s2 hk k2
def sp_exacts (A : Adr) (N : Nat → Str) (d : Nat) : Sp := fun vs H Q _ => ∃ (p : Pr) (y1 y2 ym : List V) (b1 b2 bm : List Rw), vs = [.ref p.pa] ∧ PrAt A N H d p y1 y2 ym b1 b2 bm ∧ ∀ k H', Same H H' → H k = none → KnD N H' k (fun i => optV (kX d b1 b2 i)) → Q (.ref k) H'
theorem h_exacts (T : Txt K mg A) (Di : Dist N) (d : Nat) : Has P w K mg base (3 * d + 5) "exacts" ["program"] (sp_exacts A N d) := by
  have D_exact_of := h_exact_of (P := P) (w := w) (base := base) T (h_xrow (P := P) (w := w) (base := base) T Di d)
  refine T.exacts.has (k := 3 * d + 4) sc_exacts (fun vs H Q E h => ?_) (fun f cdv A' outer s H vs Q E hr hu h => ?_)
  · obtain ⟨p, y1, y2, ym, b1, b2, bm, rfl, _⟩ := h
    rfl
  · obtain ⟨p, y1, y2, ym, b1, b2, bm, rfl, R, q⟩ := h
    obtain ⟨n1, t1, e1⟩ := R.d1
    obtain ⟨n2, t2, e2⟩ := R.d2
    refine ⟨_, (pss_cons (ps_set (i := 1) sc_exacts.nd rfl (Or.inl rfl) (pe_dnewK))
    (pss_cons (ps_for PassesOwn.never rfl (pi_any (pe_fld (fv 0) rfl)) (pg_name (i := 2) sc_exacts.nd rfl (by first | exact Or.inl rfl | exact Or.inr rfl))
      (pss_one (ps_asg (pe_callD (hj := by omega) D_exact_of hr (pa_cons (pe_fld (fv 2) rfl) (pa_cons (fv 1) pa_nil))) (pg_sub (fv 1) (pe_fld (fv 2) rfl) (st_all hu set_list)))))
    (pss_one (ps_ret (fv 1))))), ?_⟩
    refine fun k hk => ?_
    have s1 := Same.upd hk (HO.dK [])
    have ek : (upd H k (HO.dK [])) k = some (.dK (dk N [] fun i => optV (kX d b1 b2 i))) := upd_same
    generalize upd H k (HO.dK []) = H1 at s1 ek ⊢
    refine ⟨p.pa, _, p.dp, _, _, rfl, s1 _ _ R.pr, T.o_Program.cl, T.n_Program_deeds, rfl, Or.inl ⟨⟨_, SqL.of (s1 _ _ R.dl)⟩, ?_⟩⟩
    refine for_list (K := K) (xs := [.ref p.r1, .ref p.r2]) (fun i σ H2 => Same H H2 ∧ H2 k = some (.dK (dk N ([1, 2].take i) fun i => optV (kX d b1 b2 i))) ∧ ∃ v, σ = [some (.ref p.pa), some (.ref k), v]) ⟨s1, ek, _, rfl⟩ (fun i σ H2 _ h => SqL.of (h.1 _ _ R.dl)) ?_ ?_
    · rintro i v σ H2 hv ⟨s2, k2, z, rfl⟩
      match i, hv, k2 with
      | 0, hv, k2 =>
        cases hv
        refine ⟨p.r1, _, p.x1, _, _, rfl, s2 _ _ e1, T.o_DeedRow.cl, T.n_DeedRow_body, rfl, p.q1, k, y1, b1, [], _, fun _ => none, rfl, s2 _ _ R.l1, R.n1, Paired.mapP R.p1 (fun _ _ => RowAt.same s2), ⟨.inl k2, fun _ h => by cases h⟩, fun _ h => (by cases h), ?_⟩
        refine ⟨p.r1, _, p.x1, _, _, rfl, s2 _ _ e1, T.o_DeedRow.cl, T.n_DeedRow_name, rfl, _, DPut.k (k := .inr (N 1)) k2 (show 0 < sizeLine by decide), ?_⟩
        refine ⟨Same.out s2 hk _, ?_, _, rfl⟩
        rw [upd_same]
        rfl
      | 1, hv, k2 =>
        cases hv
        refine ⟨p.r2, _, p.x2, _, _, rfl, s2 _ _ e2, T.o_DeedRow.cl, T.n_DeedRow_body, rfl, p.q2, k, y2, b2, [1], _, fun _ => xOf d (fun _ => none) b1, rfl, s2 _ _ R.l2, R.n2, Paired.mapP R.p2 (fun _ _ => RowAt.same s2), ⟨.inl k2, lt1⟩, fun i h => (by rw [List.mem_singleton.mp h]; rfl), ?_⟩
        refine ⟨p.r2, _, p.x2, _, _, rfl, s2 _ _ e2, T.o_DeedRow.cl, T.n_DeedRow_name, rfl, _, DPut.k (k := .inr (N 2)) k2 (show 1 < sizeLine by decide), ?_⟩
        refine ⟨Same.out s2 hk _, ?_, _, rfl⟩
        rw [upd_same, show dk N ([1, 2].take 1) (fun i => optV (kX d b1 b2 i)) = dk N [1] (fun i => optV (kX d b1 b2 i)) from rfl, dk_new Di (by decide) lt1 (by decide)]
        congr 2
      | i + 2, hv, _ => cases hv
    · rintro σ H2 ⟨s2, k2, z, rfl⟩
      exact q k _ s2 hk k2
def sp_mostP (A : Adr) (N : Nat → Str) (d : Nat) : Sp := fun vs H Q _ => ∃ (p : Pr) (y1 y2 ym : List V) (b1 b2 bm : List Rw), vs = [.ref p.pa] ∧ PrAt A N H d p y1 y2 ym b1 b2 bm ∧ ∀ H', Same H H' → Q (.int (mOf d (kM d b1 b2) bm)) H'
theorem h_mostP (T : Txt K mg A) (Di : Dist N) (d : Nat) : Has P w K mg base (2 * d + 5) "most" ["program"] (sp_mostP A N d) := by
  have D_most_of := (h_most_of (P := P) (w := w) (base := base) T (h_mrow (P := P) (w := w) (base := base) T Di d))
  have D_mosts := h_mosts (P := P) (w := w) (base := base) T Di d
  refine T.most.has (k := 2 * d + 4) sc_most (fun vs H Q E h => ?_) (fun f cdv A' outer s H vs Q E hr hu h => ?_)
  · obtain ⟨p, y1, y2, ym, b1, b2, bm, rfl, _⟩ := h
    rfl
  · obtain ⟨p, y1, y2, ym, b1, b2, bm, rfl, R, q⟩ := h
    refine ⟨_, (pss_one (ps_ret (pe_callD (hj := by omega) D_most_of hr (pa_cons (pe_fld (fv 0) rfl) (pa_cons (pe_callD (hj := by omega) D_mosts hr (pa_cons (fv 0) pa_nil)) pa_nil))))), ?_⟩
    refine ⟨p.pa, _, p.dp, _, _, rfl, R.pr, T.o_Program.cl, T.n_Program_main, rfl, p, y1, y2, ym, b1, b2, bm, rfl, R, fun k H2 s2 k0 kd => ?_⟩
    exact ⟨p.mn, k, ym, bm, [1, 2], _, kM d b1 b2, rfl, s2 _ _ R.ml, R.nm, Paired.mapP R.pm (fun _ _ => RowAt.same s2), kd.known, fun _ _ => rfl, fun H3 s3 => q _ (s2.trans s3)⟩
def sp_exactP (A : Adr) (N : Nat → Str) (d : Nat) : Sp := fun vs H Q _ => ∃ (p : Pr) (y1 y2 ym : List V) (b1 b2 bm : List Rw), vs = [.ref p.pa] ∧ PrAt A N H d p y1 y2 ym b1 b2 bm ∧ ∀ H', Same H H' → Q (optV (xOf d (kX d b1 b2) bm)) H'
theorem h_exactP (T : Txt K mg A) (Di : Dist N) (d : Nat) : Has P w K mg base (3 * d + 6) "exact" ["program"] (sp_exactP A N d) := by
  have D_exact_of := (h_exact_of (P := P) (w := w) (base := base) T (h_xrow (P := P) (w := w) (base := base) T Di d))
  have D_exacts := h_exacts (P := P) (w := w) (base := base) T Di d
  refine T.exact.has (k := 3 * d + 5) sc_exact (fun vs H Q E h => ?_) (fun f cdv A' outer s H vs Q E hr hu h => ?_)
  · obtain ⟨p, y1, y2, ym, b1, b2, bm, rfl, _⟩ := h
    rfl
  · obtain ⟨p, y1, y2, ym, b1, b2, bm, rfl, R, q⟩ := h
    refine ⟨_, (pss_one (ps_ret (pe_callD (hj := by omega) D_exact_of hr (pa_cons (pe_fld (fv 0) rfl) (pa_cons (pe_callD (hj := by omega) D_exacts hr (pa_cons (fv 0) pa_nil)) pa_nil))))), ?_⟩
    refine ⟨p.pa, _, p.dp, _, _, rfl, R.pr, T.o_Program.cl, T.n_Program_main, rfl, p, y1, y2, ym, b1, b2, bm, rfl, R, fun k H2 s2 k0 kd => ?_⟩
    exact ⟨p.mn, k, ym, bm, [1, 2], _, kX d b1 b2, rfl, s2 _ _ R.ml, R.nm, Paired.mapP R.pm (fun _ _ => RowAt.same s2), kd.known, fun _ _ => rfl, q _ s2⟩
def sp_bal (A : Adr) (N : Nat → Str) (d : Nat) : Sp := fun vs H Q _ => ∃ (v : V) (k : Addr) (r : Rw) (ki : List Nat) (kf : Nat → V) (kn : Nat → Option Int), vs = [v, .ref k] ∧ RowAt A N ki H d v r ∧ Known N H k ki kf ∧ (∀ i ∈ ki, kf i = optV (kn i)) ∧ Q (.bl (exactR kn d r).isSome) H
theorem h_bal (T : Txt K mg A) (Di : Dist N) (d : Nat) : Has P w K mg base (3 * d + 4) "balanced" ["row", "known"] (sp_bal A N d) := by
  have D_exact_of_row := h_xrow (P := P) (w := w) (base := base) T Di d
  refine T.balanced.has (k := 3 * d + 3) sc_balanced (fun vs H Q E h => ?_) (fun f cdv A' outer s H vs Q E hr hu h => ?_)
  · obtain ⟨v, k, r, ki, kf, kn, rfl, _⟩ := h
    rfl
  · obtain ⟨v, k, r, ki, kf, kn, rfl, ra, kw, kv, q⟩ := h
    refine ⟨_, (pss_one (ps_ret (pe_cmpR (o_isnot) (pe_callD (hj := by omega) D_exact_of_row hr (pa_cons (fv 0) (pa_cons (fv 1) pa_nil))) (pe_non) (nomark _)))), ?_⟩
    refine ⟨v, k, r, ki, kf, kn, rfl, ra, kw, kv, rfl, ?_⟩
    cases hx : exactR kn d r with
    | none => rw [hx] at q; exact q
    | some y => rw [hx] at q; exact q
end
end K13

set_option Elab.async false
set_option linter.all false
set_option maxRecDepth 100000
set_option maxHeartbeats 4000000
namespace K13
open PySem L2
section
variable {P : Program} {w : World} {K : PySem.W.Frag} {mg : Str → Option Value} {base : Heap} {A : Adr} {N : Nat → Str}
def sp_cell (K : PySem.W.Frag) : Sp := fun vs H Q _ => ∃ (a : Addr) (ns : List Int) (k : Int), vs = [.ref a, .int k] ∧ SqL K H a (ns.map V.int) ∧ 0 ≤ k ∧ k ≤ 1000 ∧ ∀ (n : Int) H', Same H H' → Q (.int n) H'
theorem h_cell (T : Txt K mg A) : Has P w K mg base 1 "_law_cell_at" ["_law_script", "_law_k"] (sp_cell K) := by
  refine T.law_cell_at.has sc_law_cell_at (fun vs H Q E h => ?_) (fun f cdv A' outer s H vs Q E hr hu h => ?_)
  · obtain ⟨a, ns, k, rfl, _⟩ := h
    rfl
  · obtain ⟨a, ns, k, rfl, hS, h0, h1, q⟩ := h
    refine ⟨_, (pss_cons (ps_if (pt_cmpR (o_lt) (fv 1) (pe_callB c_lenA rfl T.z_len (by boot_by_name) (pa_cons (fv 0) pa_nil)) (nomark _))
      (pss_one (ps_ret (pe_ix (ix_all hu) (fv 0) (fv 1) (fun _ _ => rfl))))
      pss_nil)
    (pss_cons (ps_set (i := 2) sc_law_cell_at.nd rfl (Or.inl rfl) (pe_int))
    (pss_cons (ps_if (pt_cmpR (o_ne hu) (fv 0) (pe_lst (pa_nil)) (nomark _))
      (pss_one (ps_set (i := 2) sc_law_cell_at.nd rfl (Or.inl rfl) (pe_ix (ix_all hu) (fv 0) (pe_op o_mod (fv 1) (pe_callB c_lenA rfl T.z_len (by boot_by_name) (pa_cons (fv 0) pa_nil))) (fun _ _ => rfl))))
      pss_nil)
    (pss_one (ps_ret (pe_op o_mod (pe_op o_mulA (pe_op o_add (pe_op o_add (pe_op o_mod (fv 2) (pe_int)) (pe_op o_mulA (pe_int) (fv 1))) (pe_int)) (pe_int)) (pe_int))))))), ?_⟩
    refine Or.inl ⟨_, _, rfl, Or.inl ⟨_, hS, rfl⟩, _, rfl, ?_⟩
    refine ite2 (fun c => ?_) (fun c => ?_)
    · have c' : k < (((ns.map V.int).length : Nat) : Int) := of_decide_eq_true c
      rw [List.length_map] at c'
      obtain ⟨n, _, e1, e⟩ := at_map V.int h0 c'
      exact Or.inl ⟨_, _, Or.inl hS, e, q _ _ (Same.refl _)⟩
    · have c' : ¬ k < (((ns.map V.int).length : Nat) : Int) := fun z => c (decide_eq_true z)
      rw [List.length_map] at c'
      refine ⟨Nat.zero_le _, fun l hl => ?_⟩
      have s1 := Same.upd hl (HO.lst [])
      have e1 : (upd H l (HO.lst [])) l = some (.lst (([] : List Int).map V.int)) := upd_same
      generalize upd H l (HO.lst []) = H1 at s1 e1 ⊢
      refine ⟨_, _, .lst (s1.seq hS) (RepAll.ints ns), .lst (SqL.of e1) (RepAll.ints []), shaped_ints ns, shaped_ints [], _, rfl, ?_⟩
      rw [eqv_ints]
      cases ns with
      | nil =>
        rw [decide_eq_true rfl]
        refine iteF ?_
        exact ⟨(by show (0 : Int) < 1000003; decide), .inl ⟨by decide, by decide⟩, .inr ⟨by decide, by decide⟩, (by show (0 : Int) < 2147483647; decide), q _ _ s1⟩
      | cons n r =>
        rw [decide_eq_false (by intro z; cases z)]
        refine iteT ?_
        obtain ⟨m0, m1⟩ := mod_in k (show (0 : Int) < (((n :: r).length : Nat) : Int) by simp)
        obtain ⟨x, _, _, ax⟩ := at_map V.int (xs := n :: r) m0 m1
        refine Or.inl ⟨_, _, rfl, Or.inl ⟨_, s1.seq hS, rfl⟩, (by rw [List.length_map]; show (0 : Int) < (((n :: r).length : Nat) : Int); simp), Or.inl ⟨_, _, Or.inl (s1.seq hS), (by rw [List.length_map]; exact ax), ?_⟩⟩
        exact ⟨(by show (0 : Int) < 1000003; decide), .inl ⟨by decide, by decide⟩, .inr ⟨by decide, by decide⟩, (by show (0 : Int) < 2147483647; decide), q _ _ s1⟩
def sp_whole : Sp := fun vs H Q _ => ∃ x : Option Int, vs = [optV x, optV x] ∧ Q (.bl true) H
theorem h_whole (T : Txt K mg A) : Has P w K mg base 1 "_law_whole" ["_law_found", "_law_due"] sp_whole := by
  refine T.law_whole.has sc_law_whole (fun vs H Q E h => ?_) (fun f cdv A' outer s H vs Q E hr hu h => ?_)
  · obtain ⟨x, rfl, _⟩ := h
    rfl
  · obtain ⟨x, rfl, q⟩ := h
    refine ⟨_, (pss_cons (ps_if (pt_cmpR (o_is) (fv 1) (pe_non) (nomark _))
      (pss_one (ps_ret (pe_cmpR (o_is) (fv 0) (pe_non) (nomark _))))
      pss_nil)
    (pss_one (ps_ret (pe_and (pe_callB c_isinst rfl T.z_isinstance (by boot_by_name) (pa_cons (fv 0) (pa_cons (pe_bltn (v := .ty "int") rfl T.z_int (by boot_by_name) rfl) pa_nil))) (pe_and (pe_notV (pe_callB c_isinst rfl T.z_isinstance (by boot_by_name) (pa_cons (fv 0) (pa_cons (pe_bltn (v := .ty "bool") rfl T.z_bool (by boot_by_name) rfl) pa_nil)))) (pe_one (pe_cmpR (o_eqU hu) (fv 0) (fv 1) (nomark _)))))))), ?_⟩
    cases x with
    | none => exact ⟨rfl, _, rfl, iteT ⟨rfl, q⟩⟩
    | some y =>
      refine ⟨rfl, _, rfl, iteF ?_⟩
      refine ⟨_, _, _, true, rfl, (fun z => by cases z), .int y, kit_ii, true, rfl, iteT ?_⟩
      refine ⟨_, _, _, false, rfl, (fun z => by cases z), .int y, kit_ib, false, rfl, true, rfl, iteT ⟨rfl, ?_⟩⟩
      rw [decide_eq_true rfl]
      exact q
end
end K13

set_option Elab.async false
set_option linter.all false
set_option maxRecDepth 100000
set_option maxHeartbeats 4000000
namespace K13
open PySem L2
section
variable {P : Program} {w : World} {K : PySem.W.Frag} {mg : Str → Option Value} {base : Heap} {A : Adr} {N : Nat → Str}
def sp_mix : Sp := fun vs H Q _ => ∃ (c : Int) (k : Nat), vs = [.int c, .int k] ∧ k ≤ 1000 ∧ ∀ n : Int, Q (.int n) H
theorem h_mix (T : Txt K mg A) : Has P w K mg base 1 "_law_mix" ["_law_cell", "_law_k"] sp_mix := by
  refine T.law_mix.has sc_law_mix (fun vs H Q E h => ?_) (fun f cdv A' outer s H vs Q E hr hu h => ?_)
  · obtain ⟨c, k, rfl, _⟩ := h
    rfl
  · obtain ⟨c, k, rfl, hk, q⟩ := h
    refine ⟨_, (pss_cons (ps_if (PW.pt (pw_and (pt_cmpR (o_eqU hu) (pe_op o_mod (fv 0) (pe_int)) (pe_int) (nomark _)) (pw_and1 (pt_cmpR (o_gt) (fv 0) (pe_op o_pow (pe_int) (pe_int)) (nomark _)))))
      (pss_cons (ps_set (i := 2) sc_law_mix.nd rfl (Or.inl rfl) (pe_op o_fdiv (fv 0) (pe_int)))
      (pss_cons (ps_for PassesOwn.never rfl (pi_range1 rfl T.z_range (pa_cons (fv 1) pa_nil)) (pg_name (i := 3) sc_law_mix.nd rfl (by first | exact Or.inl rfl | exact Or.inr rfl))
        (pss_one (ps_set (i := 2) sc_law_mix.nd rfl (Or.inl rfl) (pe_op o_fdiv (fv 2) (pe_op o_pow (pe_int) (pe_int))))))
      (pss_one (ps_if (pt_cmpR (o_gt) (fv 2) (pe_int) (nomark _))
        (pss_one (ps_ret (pe_op o_mod (fv 2) (pe_op o_pow (pe_int) (pe_int)))))
        pss_nil))))
      pss_nil)
    (pss_cons (ps_set (i := 4) sc_law_mix.nd rfl (Or.inl rfl) (pe_op o_mod (pe_op o_mulA (pe_op o_add (pe_op o_mod (fv 0) (pe_int)) (pe_int)) (pe_op o_add (pe_op o_mulA (fv 1) (fv 1)) (pe_int))) (pe_int)))
    (pss_one (ps_ret (pe_op o_mod (pe_op o_mulA (fv 4) (pe_op o_add (pe_op o_mod (fv 4) (pe_int)) (pe_int))) (pe_int)))))), ?_⟩
    refine seq_cut fun M KM => ?_
    have last : ∀ v2 v3 : Option V, M [some (.int c), some (.int k), v2, v3, none] H := fun v2 v3 => KM _ _ (by
      have mc := mod_in c (show (0 : Int) < 1000003 by decide)
      refine ⟨(by show (0 : Int) < 1000003; decide), .inl ⟨by omega, by omega⟩, .inl ⟨by omega, by omega⟩, (by show (0 : Int) < 2147483647; decide), ?_⟩
      have mn := mod_in ((c % 1000003 + 17) * ((k : Int) * (k : Int) + 7919)) (show (0 : Int) < 2147483647 by decide)
      exact ⟨(by show (0 : Int) < 65521; decide), .inl ⟨by omega, by omega⟩, (by show (0 : Int) < 2147483647; decide), q _⟩)
    refine ⟨(by show (0 : Int) < 2; decide), rfl, _, rfl, ite2 (fun _ => ?_) (fun _ => last _ _)⟩
    refine ⟨⟨by decide, by decide, by decide⟩, _, rfl, ite2 (fun _ => ?_) (fun _ => last _ _)⟩
    refine ⟨⟨by decide, by decide⟩, ?_⟩
    refine ⟨k, rfl, by omega, by omega, ?_⟩
    refine for_range (fun i σ H2 => H2 = H ∧ ∃ (t : Int) (v3 : Option V), σ = [some (.int c), some (.int k), some (.int t), v3, none]) ⟨rfl, _, _, rfl⟩ ?_ ?_
    · rintro i σ H2 hi ⟨rfl, t, v3, rfl⟩
      exact ⟨⟨by decide, by decide, by decide⟩, ⟨by decide, by decide⟩, rfl, _, _, rfl⟩
    · rintro σ H2 ⟨rfl, t, v3, rfl⟩
      refine ⟨_, rfl, ite2 (fun _ => ?_) (fun _ => last _ _)⟩
      exact ⟨⟨by decide, by decide, by decide⟩, (by show (0 : Int) < 10 ^ (15 : Int).toNat; decide), q _⟩
def sp_idles : Sp := fun vs H Q _ => ∃ (c x y : Int), vs = [.int c, .int x, .int y] ∧ ∀ t l r H', Same H H' → H' t = some (.tup [.int l, .int r]) → Q (.ref t) H'
theorem h_idles (T : Txt K mg A) : Has P w K mg base 2 "_law_idles" ["_law_cell", "_law_one", "_law_other"] sp_idles := by
  have D_law_mix := h_mix (P := P) (w := w) (base := base) T
  refine T.law_idles.has (k := 1) sc_law_idles (fun vs H Q E h => ?_) (fun f cdv A' outer s H vs Q E hr hu h => ?_)
  · obtain ⟨c, x, y, rfl, _⟩ := h
    rfl
  · obtain ⟨c, x, y, rfl, q⟩ := h
    refine ⟨_, (pss_cons (ps_set (i := 3) sc_law_idles.nd rfl (Or.inl rfl) (pe_op o_mod (pe_callD D_law_mix hr (pa_cons (fv 0) (pa_cons (pe_int) pa_nil))) (pe_int)))
    (pss_cons (ps_set (i := 4) sc_law_idles.nd rfl (Or.inl rfl) (pe_op o_mod (pe_callD D_law_mix hr (pa_cons (fv 0) (pa_cons (pe_int) pa_nil))) (pe_int)))
    (pss_cons (ps_if (pt_cmpR (o_lt) (fv 3) (pe_int) (nomark _))
      (pss_one (ps_ret (pe_tup (pa_cons (pe_int) (pa_cons (pe_int) pa_nil)))))
      pss_nil)
    (pss_cons (ps_if (pt_cmpR (o_eqU hu) (fv 3) (pe_int) (nomark _))
      (pss_one (ps_ret (pe_tup (pa_cons (pe_op o_mod (pe_callD D_law_mix hr (pa_cons (fv 0) (pa_cons (pe_int) pa_nil))) (pe_int)) (pa_cons (pe_op o_mod (pe_callD D_law_mix hr (pa_cons (fv 0) (pa_cons (pe_int) pa_nil))) (pe_int)) pa_nil)))))
      pss_nil)
    (pss_cons (ps_set (i := 5) sc_law_idles.nd rfl (Or.inl rfl) (pe_op o_add (pe_callB c_max rfl T.z_max (by boot_by_name) (pa_cons (fv 1) (pa_cons (fv 2) pa_nil))) (fv 4)))
    (pss_one (ps_ret (pe_tup (pa_cons (pe_op o_sub (fv 5) (fv 1)) (pa_cons (pe_op o_add (pe_op o_sub (fv 5) (fv 2)) (pe_callTy c_intB rfl T.z_int (by boot_by_name) (pa_cons (pe_cmpR (o_eqU hu) (fv 3) (pe_int) (nomark _)) pa_nil))) pa_nil)))))))))), ?_⟩
    refine ⟨c, 3, rfl, by decide, fun n1 => ⟨(by show (0 : Int) < 5; decide), c, 4, rfl, by decide, fun n2 => ⟨(by show (0 : Int) < 4; decide), ?_⟩⟩⟩
    refine ⟨_, rfl, ite2 (fun _ => ?_) (fun _ => ?_)⟩
    · exact ⟨by show 2 ≤ sizeLine; decide, fun t ht => q t _ _ _ (Same.upd ht _) upd_same⟩
    refine ⟨rfl, _, rfl, ite2 (fun _ => ?_) (fun _ => ?_)⟩
    · refine ⟨c, 5, rfl, by decide, fun n3 => ⟨(by show (0 : Int) < 6; decide), c, 6, rfl, by decide, fun n4 => ⟨(by show (0 : Int) < 6; decide), ?_⟩⟩⟩
      exact ⟨by show 2 ≤ sizeLine; decide, fun t ht => q t _ _ _ (Same.upd ht _) upd_same⟩
    refine ⟨_, _, rfl, rfl, _, rfl, ?_⟩
    exact ⟨by show 2 ≤ sizeLine; decide, fun t ht => q t _ _ _ (Same.upd ht _) upd_same⟩
def sp_morec (K : PySem.W.Frag) : Sp := fun vs H Q _ => ∃ (a : Addr) (ns : List Int) (k m : Nat), vs = [.ref a, .int k, .int m] ∧ SqL K H a (ns.map V.int) ∧ k ≤ 100 ∧ m ≤ 100 ∧ ∀ (l : Addr) (cs : List Int) H', Same H H' → H l = none → H' l = some (.lst (cs.map V.int)) → cs.length = m → Q (.ref l) H'
theorem ints_of : ∀ ys : List V, (∀ y ∈ ys, ∃ n : Int, y = .int n) → ∃ rs : List Int, ys = rs.map V.int
  | [], _ => ⟨[], rfl⟩
  | y :: r, h => by
    obtain ⟨n, rfl⟩ := h y List.mem_cons_self
    obtain ⟨rs, rfl⟩ := ints_of r fun z hz => h z (List.mem_cons_of_mem _ hz)
    exact ⟨n :: rs, rfl⟩
theorem h_morec (T : Txt K mg A) : Has P w K mg base 2 "_law_more" ["_law_script", "_law_at", "_law_many"] (sp_morec K) := by
  have D_law_cell_at := h_cell (P := P) (w := w) (base := base) T
  refine T.law_more.has (k := 1) sc_law_more (fun vs H Q E h => ?_) (fun f cdv A' outer s H vs Q E hr hu h => ?_)
  · obtain ⟨a, ns, k, m, rfl, _⟩ := h
    rfl
  · obtain ⟨a, ns, k, m, rfl, hS, hk, hm, q⟩ := h
    refine ⟨_, (pss_one (ps_ret (pe_comp (N := ["_law_k", "_law_script", "_law_at"]) (own := 1) (fr := [0, 1]) (CompOk.of (by kernel_rfl!)) rfl (pi_range1 rfl T.z_range (pa_cons (fv 2) pa_nil)) (fun b => pg_name (i := 0) (show List.Nodup (["_law_k", "_law_script", "_law_at"] : List PySem.Str) by decide +kernel) rfl (by first | exact Or.inl rfl | exact Or.inr rfl)) (fun b => pf_nil) (fun b => pe_callD D_law_cell_at hr (pa_cons (fv 1) (pa_cons (pe_op o_add (fv 2) (fv 0)) pa_nil)))))), ?_⟩
    refine ⟨m, rfl, by omega, by omega, comp_rel (x := fun i => .int (0 + i)) (fun _ y _ => ∃ n : Int, y = .int n) (small1000 (by omega)) (fun _ _ => Nat.le_refl _) (fun _ _ h _ => h) (fun _ _ _ _ _ _ y => y) (fun b i H2 G hi s2 kk => ?_) (fun _ _ _ _ _ r => r) (fun _ _ _ _ _ _ _ r => r) (fun D H2 ys hD s2 e yl hy => ?_)⟩
    · exact ⟨a, ns, _, rfl, s2.seq hS, by omega, by omega, fun n H3 s3 => kk _ _ s3 ⟨n, rfl⟩⟩
    · obtain ⟨rs, rfl⟩ := ints_of ys fun y hy2 => by
        obtain ⟨i, hi⟩ := List.getElem?_of_mem hy2
        exact hy i y hi
      rw [List.length_map] at yl
      exact q D rs _ s2 hD e (by omega)
end
end K13

set_option Elab.async false
set_option linter.all false
set_option maxRecDepth 100000
set_option maxHeartbeats 4000000
namespace K13
open PySem L2
section
variable {P : Program} {w : World} {K : PySem.W.Frag} {mg : Str → Option Value} {base : Heap} {A : Adr} {N : Nat → Str}
structure PEs (X : Cx) (e : Expr) (t : TE) : Prop where
  h : PE X e t
theorem pe_disp4s {X : Cx} {pos : Pos} {k1 v1 k2 v2 k3 v3 k4 v4 : Expr} {a1 b1 a2 b2 a3 b3 a4 b4 : TE} (h1 : PEs X k1 a1) (g1 : PEs X v1 b1) (h2 : PEs X k2 a2) (g2 : PEs X v2 b2) (h3 : PEs X k3 a3) (g3 : PEs X v3 b3) (h4 : PEs X k4 a4) (g4 : PEs X v4 b4) : PEs X (.Dict [some k1, some k2, some k3, some k4] [v1, v2, v3, v4] pos) (tDisp [(a1, b1), (a2, b2), (a3, b3), (a4, b4)]) := ⟨pe_disp (pps_cons h1.h g1.h (pps_cons h2.h g2.h (pps_cons h3.h g3.h (pps_cons h4.h g4.h pps_nil)))) rfl rfl (by intro z; cases z) (by simp)⟩
structure PSt (X : Cx) (s : Stmt) (t : TS) : Prop where
  h : PS X s t
theorem ps_setT {X : Cx} {i : Nat} {x : Str} {e : Expr} {te : TE} {pos pos' : Pos} (hN : X.N.Nodup) (hi : X.N[i]? = some x) (hx : Loc X.env.scope x) (he : PEs X e te) (hs : swapsWith e (some (.Name x pos')) pos.line X.env = pure false := by rfl) (hf : X.fn x = true ∨ X.env.scope.names.lookup x = some .local := by first | exact .inl rfl | exact .inr rfl | assumption) :
    PSt X (.Assign [.Name x pos'] e pos) (tAsg te (gName i)) := ⟨ps_set hN hi hx he.h hs hf⟩
theorem pss_consT {X : Cx} {s1 s2 : Stmt} {r : List Stmt} {t1 t2 u : TS} (h1 : PS X s1 t1) (h2 : PSt X s2 t2) (hr : PSs X r u) : PSs X (s1 :: s2 :: r) (tSeq t1 (tSeq t2 u)) := pss_cons h1 (pss_cons h2.h hr)
theorem pss_first {X : Cx} {s1 : Stmt} {r : List Stmt} {t1 u : TS} (h1 : PSt X s1 t1) (hr : PSs X r u) : PSs X (s1 :: r) (tSeq t1 u) := pss_cons h1.h hr
theorem ps_updT {X : Cx} {o e : Expr} {to te : TE} {apos cpos pos : Pos} (ho : PE X o to) (he : PEs X e te) (hse : starEach [e] X.env = (false, eval e X.env) :: starEach [] X.env := by rfl) (hbase : attributeBase o "update" X.env (eval o X.env) = eval o X.env := by rfl)
    (hfew : ((backTo cpos (starEach [e] X.env)).all (fun x => !x.1) && (backToKw cpos (keywordEach [] X.env)).all (fun x => x.1.isSome)
      && decide ([e].length + ([] : List Keyword).length + (if ([] : List Keyword).isEmpty then 0 else 1) < 30)) = true := by rfl)
    (hline : (apos.endLine == cpos.line) = true := by rfl) (hplain : (backTo cpos (starEach [] X.env)).any (·.1) = false := by rfl) (hsw : swapsWith (.Call (.Attribute o "update" apos) [e] [] cpos) none pos.line X.env = pure false := by rfl) :
    PSt X (.Expr (.Call (.Attribute o "update" apos) [e] [] cpos) pos) (tDrop (tBM X.K "dict" (fun x xs H Q => ∃ a b kvs more, x = .ref a ∧ xs = [.ref b] ∧ a ≠ b ∧ H a = some (.dK kvs) ∧ Rd H b (.dK more) ∧ kvs.length + more.length ≤ 1000 ∧ Q .non (upd H a (.dK (mergeK kvs more)))) to (tCons te tNil))) :=
  ⟨ps_expr (m_updateD ho (pa_cons he.h pa_nil hse) hbase hfew hline hse hplain) hsw⟩
def frK (kd : Str) (n rm mn : Int) (rl : Addr) (ms : Int) (ex one : V) : List (Key × V) := [(.inr "kind", .str kd), (.inr "number", .int n), (.inr "room", .int rm), (.inr "many", .int mn), (.inr "rows", .ref rl), (.inr "most", .int ms), (.inr "exact", ex), (.inr "one", one)]
def sp_frame : Sp := fun vs H Q _ => ∃ (kd : Str) (n rm mn : Int), vs = [.str kd, .int n, .int rm, .int mn] ∧ ∀ f rl H', Same H H' → H f = none → H rl = none → f ≠ rl → H' f = some (.dK (frK kd n rm mn rl 0 (.int 0) .non)) → H' rl = some (.lst []) → Q (.ref f) H'
theorem h_frame (T : Txt K mg A) : Has P w K mg base 1 "_law_frame" ["_law_kind", "_law_number", "_law_room", "_law_many"] sp_frame := by
  refine T.law_frame.has sc_law_frame (fun vs H Q E h => ?_) (fun f cdv A' outer s H vs Q E hr hu h => ?_)
  · obtain ⟨kd, n, rm, mn, rfl, _⟩ := h
    rfl
  · obtain ⟨kd, n, rm, mn, rfl, q⟩ := h
    refine ⟨_, (pss_first (ps_setT (i := 4) sc_law_frame.nd rfl (Or.inl rfl) (pe_disp4s ⟨pe_str⟩ ⟨fv 0⟩ ⟨pe_str⟩ ⟨fv 1⟩ ⟨pe_str⟩ ⟨fv 2⟩ ⟨pe_str⟩ ⟨fv 3⟩)) (pss_first (ps_updT (fv 4) (pe_disp4s ⟨pe_str⟩ ⟨pe_lst (pa_nil)⟩ ⟨pe_str⟩ ⟨pe_int⟩ ⟨pe_str⟩ ⟨pe_int⟩ ⟨pe_str⟩ ⟨pe_non⟩)) (pss_one (ps_ret (fv 4))))), ?_⟩
    refine fun f hf => ?_
    have s1 := Same.upd hf (HO.dK [])
    have e1 : (upd H f (HO.dK [])) f = some (.dK []) := upd_same
    generalize upd H f (HO.dK []) = H1 at s1 e1 ⊢
    refine ⟨e1, [((.inr "kind" : Key), .str kd), (.inr "number", .int n), (.inr "room", .int rm), (.inr "many", .int mn)], rfl, (show 4 ≤ 15 by decide), ?_⟩
    rw [show mergeK [] [((.inr "kind" : Key), V.str kd), (.inr "number", .int n), (.inr "room", .int rm), (.inr "many", .int mn)] = [((.inr "kind" : Key), V.str kd), (.inr "number", .int n), (.inr "room", .int rm), (.inr "many", .int mn)] from rfl]
    have s2 : Same H (upd H1 f (.dK [((.inr "kind" : Key), V.str kd), (.inr "number", .int n), (.inr "room", .int rm), (.inr "many", .int mn)])) := Same.out s1 hf _
    have e2 : (upd H1 f (.dK [((.inr "kind" : Key), V.str kd), (.inr "number", .int n), (.inr "room", .int rm), (.inr "many", .int mn)])) f = some (.dK [((.inr "kind" : Key), V.str kd), (.inr "number", .int n), (.inr "room", .int rm), (.inr "many", .int mn)]) := upd_same
    generalize upd H1 f (.dK [((.inr "kind" : Key), V.str kd), (.inr "number", .int n), (.inr "room", .int rm), (.inr "many", .int mn)]) = H2 at s2 e2 ⊢
    refine ⟨.inr (.inr (.inl ⟨rfl, .inl ⟨_, e2⟩⟩)), fun b hb => ?_⟩
    have s3 := Same.upd hb (HO.dK [])
    have e3 : (upd H2 b (HO.dK [])) b = some (.dK []) := upd_same
    generalize upd H2 b (HO.dK []) = H3 at s3 e3 ⊢
    refine ⟨Nat.zero_le _, fun rl hrl => ?_⟩
    have s4 := Same.upd hrl (HO.lst [])
    have e4 : (upd H3 rl (HO.lst [])) rl = some (.lst []) := upd_same
    generalize upd H3 rl (HO.lst []) = H4 at s4 e4 ⊢
    have bf : f ≠ b := fun z => by rw [← z, e2] at hb; cases hb
    have eb4 := s4 _ _ e3
    have rb : rl ≠ b := fun z => by rw [z, eb4] at e4; cases e4
    refine ⟨eb4, [((.inr "rows" : Key), .ref rl), (.inr "most", .int 0), (.inr "exact", .int 0), (.inr "one", .non)], rfl, (show 4 ≤ 15 by decide), ?_⟩
    rw [show mergeK [] [((.inr "rows" : Key), V.ref rl), (.inr "most", .int 0), (.inr "exact", .int 0), (.inr "one", .non)] = [((.inr "rows" : Key), V.ref rl), (.inr "most", .int 0), (.inr "exact", .int 0), (.inr "one", .non)] from rfl]
    have ef4 := s4 _ _ (s3 _ _ e2)
    have fr : f ≠ rl := fun z => by rw [z, e4] at ef4; cases ef4
    refine ⟨f, b, _, _, rfl, rfl, bf, (upd_ne bf).trans ef4, .inl upd_same, (show 4 + 4 ≤ 1000 by decide), ?_⟩
    have b0 : H b = none := Same.free s2 hb
    refine q f rl _ (Same.out (Same.out ((s2.trans s3).trans s4) b0 _) hf _) hf (Same.free (s2.trans s3) hrl) fr ?_ ?_
    · rw [upd_same]
      rfl
    · rw [upd_ne (Ne.symm fr), upd_ne rb]
      exact e4
end
end K13

set_option Elab.async false
set_option linter.all false
set_option maxRecDepth 100000
set_option maxHeartbeats 4000000
namespace K13
open PySem L2
section
variable {P : Program} {w : World} {K : PySem.W.Frag} {mg : Str → Option Value} {base : Heap} {A : Adr} {N : Nat → Str}
def sp_add : Sp := fun vs H Q _ => ∃ (f rl : Addr) (v : V) (st : Int) (su ex : Option Int) (kd : Str) (n rm mn ms : Int) (one : V) (xs : List V), vs = [.ref f, v, .int st, optV su] ∧ H f = some (.dK (frK kd n rm mn rl ms (optV ex) one)) ∧ H rl = some (.lst xs) ∧ xs.length ≤ 900 ∧
  ∀ H', (∀ a o, a ≠ f → a ≠ rl → H a = some o → H' a = some o) → H' f = some (.dK (frK kd n rm mn rl (ms + 1 + st) (optV (su.bind fun b => ex.map fun a => a + 1 + b)) one)) → H' rl = some (.lst (xs ++ [v])) → Q .non H'
theorem h_add (T : Txt K mg A) : Has P w K mg base 1 "_law_add" ["_law_frame_here", "_law_row", "_law_steps", "_law_sure"] sp_add := by
  refine T.law_add.has sc_law_add (fun vs H Q E h => ?_) (fun f' cdv A' outer s H vs Q E hr hu h => ?_)
  · obtain ⟨f, rl, v, st, su, ex, kd, n, rm, mn, ms, one, xs, rfl, _⟩ := h
    rfl
  · obtain ⟨f, rl, v, st, su, ex, kd, n, rm, mn, ms, one, xs, rfl, hf, hl, xl, q⟩ := h
    have fl : f ≠ rl := fun z => by rw [z, hl] at hf; cases hf
    refine ⟨_, (pss_cons (ps_expr (m_append (pe_ix (ix_all hu) (fv 0) (pe_str) (fun _ _ => rfl)) (pa_cons (fv 1) pa_nil)))
    (pss_cons (ps_asg (pe_op o_add (pe_op o_add (pe_ix (ix_all hu) (fv 0) (pe_str) (fun _ _ => rfl)) (pe_int)) (fv 2)) (pg_sub (fv 0) (pe_str) (st_all hu set_list)))
    (pss_one (ps_if (PW.pt (pw_or (pt_cmpR (o_is) (fv 3) (pe_non) (nomark _)) (pw_or1 (pt_cmpR (o_is) (pe_ix (ix_all hu) (fv 0) (pe_str) (fun _ _ => rfl)) (pe_non) (nomark _)))))
      (pss_one (ps_asg (pe_non) (pg_sub (fv 0) (pe_str) (st_all hu set_list))))
      (pss_one (ps_asg (pe_op o_add (pe_op o_add (pe_ix (ix_all hu) (fv 0) (pe_str) (fun _ _ => rfl)) (pe_int)) (fv 3)) (pg_sub (fv 0) (pe_str) (st_all hu set_list)))))))), ?_⟩
    refine ⟨_, DGet.k (k := .inr "rows") hf, Or.inl ⟨rfl, _, SqL.of hl⟩, _, _, _, rfl, rfl, hl, small1000 (by omega), ?_⟩
    have k1 : ∀ a o, a ≠ f → a ≠ rl → H a = some o → (upd H rl (.lst (xs ++ [v]))) a = some o := fun a o _ h2 h => by rw [upd_ne h2]; exact h
    have f1 : (upd H rl (.lst (xs ++ [v]))) f = some (.dK (frK kd n rm mn rl ms (optV ex) one)) := by rw [upd_ne fl]; exact hf
    have l1 : (upd H rl (.lst (xs ++ [v]))) rl = some (.lst (xs ++ [v])) := upd_same
    generalize upd H rl (.lst (xs ++ [v])) = H1 at k1 f1 l1 ⊢
    refine ⟨_, DGet.k (k := .inr "most") f1, _, DPut.k (k := .inr "most") f1 (show 8 < sizeLine by decide), ?_⟩
    have k2 : ∀ a o, a ≠ f → a ≠ rl → H a = some o → (upd H1 f (.dK (frK kd n rm mn rl (ms + 1 + st) (optV ex) one))) a = some o := fun a o h1 h2 h => by rw [upd_ne h1]; exact k1 a o h1 h2 h
    have f2 : (upd H1 f (.dK (frK kd n rm mn rl (ms + 1 + st) (optV ex) one))) f = some (.dK (frK kd n rm mn rl (ms + 1 + st) (optV ex) one)) := upd_same
    have l2 : (upd H1 f (.dK (frK kd n rm mn rl (ms + 1 + st) (optV ex) one))) rl = some (.lst (xs ++ [v])) := by rw [upd_ne (Ne.symm fl)]; exact l1
    rw [show putK (frK kd n rm mn rl ms (optV ex) one) (.inr "most") (.int (ms + 1 + st)) = frK kd n rm mn rl (ms + 1 + st) (optV ex) one from rfl]
    generalize upd H1 f (.dK (frK kd n rm mn rl (ms + 1 + st) (optV ex) one)) = H2 at k2 f2 l2 ⊢
    have fin : ∀ y : Option Int, (su.bind fun b => ex.map fun a => a + 1 + b) = y → Q .non (upd H2 f (.dK (frK kd n rm mn rl (ms + 1 + st) (optV y) one))) := fun y e => q _ (fun a o h1 h2 h => by rw [upd_ne h1]; exact k2 a o h1 h2 h) (by rw [upd_same, e]) (by rw [upd_ne (Ne.symm fl)]; exact l2)
    cases su with
    | none =>
      refine ⟨rfl, _, rfl, iteT ?_⟩
      exact ⟨_, DPut.k (k := .inr "exact") f2 (show 8 < sizeLine by decide), fin none rfl⟩
    | some b =>
      refine ⟨rfl, _, rfl, iteF ?_⟩
      cases ex with
      | none =>
        refine ⟨_, DGet.k (k := .inr "exact") f2, rfl, _, rfl, iteT ?_⟩
        exact ⟨_, DPut.k (k := .inr "exact") f2 (show 8 < sizeLine by decide), fin none rfl⟩
      | some x =>
        refine ⟨_, DGet.k (k := .inr "exact") f2, rfl, _, rfl, iteF ?_⟩
        exact ⟨_, DGet.k (k := .inr "exact") f2, _, DPut.k (k := .inr "exact") f2 (show 8 < sizeLine by decide), fin (some (x + 1 + b)) rfl⟩
end
end K13

set_option Elab.async false
set_option linter.all false
set_option maxRecDepth 100000
set_option maxHeartbeats 4000000
namespace K13
open PySem L2
section
variable {P : Program} {w : World} {K : PySem.W.Frag} {mg : Str → Option Value} {base : Heap} {A : Adr} {N : Nat → Str}
theorem map_eq_of {α β γ : Type} {F : α → β → Prop} {g h : β → γ} (hh : ∀ a b, F a b → g b = h b) : ∀ {xs : List α} {ys : List β}, PySem.Paired F xs ys → ys.map g = ys.map h
  | _, _, .nil => rfl
  | _, _, .cons p r => by rw [List.map_cons, List.map_cons, hh _ _ p, map_eq_of hh r]
theorem RowAt.up {ki : List Nat} {H : Hp} : ∀ {d : Nat} {v : V} {r : Rw}, RowAt A N ki H d v r → RowAt A N ki H (d + 1) v r
  | 0, v, r, h => by
    cases r with
    | set => unfold RowAt at h ⊢; exact h
    | last => unfold RowAt at h ⊢; exact h
    | call i => unfold RowAt at h ⊢; exact h
    | iff f o l r => unfold RowAt at h; exact h.elim
    | loop m b l r => unfold RowAt at h; exact h.elim
  | d + 1, v, r, h => by
    cases r with
    | set => unfold RowAt at h ⊢; exact h
    | last => unfold RowAt at h ⊢; exact h
    | call i => unfold RowAt at h ⊢; exact h
    | iff f o l r =>
      unfold RowAt at h ⊢
      obtain ⟨a, dx, n, p, pf, po, xf, xo, e, h1, h2, h3, h4, h5, h6, h7⟩ := h
      exact ⟨a, dx, n, p, pf, po, xf, xo, e, h1, h2, h3, h4, h5, Paired.mapP h6 fun _ _ z => RowAt.up z, Paired.mapP h7 fun _ _ z => RowAt.up z⟩
    | loop m b l r =>
      unfold RowAt at h ⊢
      obtain ⟨hm, a, dx, n, p, pb, xb, e, h1, h2, h3, h4⟩ := h
      exact ⟨hm, a, dx, n, p, pb, xb, e, h1, h2, h3, Paired.mapP h4 fun _ _ z => RowAt.up z⟩
theorem exact_up {ki : List Nat} {H : Hp} (kn : Nat → Option Int) : ∀ {d : Nat} {v : V} {r : Rw}, RowAt A N ki H d v r → exactR kn (d + 1) r = exactR kn d r
  | 0, v, r, h => by
    cases r with
    | set => rfl
    | last => rfl
    | call i => rfl
    | iff f o l r => unfold RowAt at h; exact h.elim
    | loop m b l r => unfold RowAt at h; exact h.elim
  | d + 1, v, r, h => by
    cases r with
    | set => rfl
    | last => rfl
    | call i => rfl
    | iff f o l r =>
      unfold RowAt at h
      obtain ⟨a, dx, n, p, pf, po, xf, xo, e, h1, h2, h3, h4, h5, h6, h7⟩ := h
      have e1 : f.map (exactR kn (d + 1)) = f.map (exactR kn d) := map_eq_of (fun _ _ z => exact_up kn z) h6
      have e2 : o.map (exactR kn (d + 1)) = o.map (exactR kn d) := map_eq_of (fun _ _ z => exact_up kn z) h7
      simp only [exactR, e1, e2]
    | loop m b l r =>
      unfold RowAt at h
      obtain ⟨hm, a, dx, n, p, pb, xb, e, h1, h2, h3, h4⟩ := h
      have e1 : b.map (exactR kn (d + 1)) = b.map (exactR kn d) := map_eq_of (fun _ _ z => exact_up kn z) h4
      simp only [exactR, e1]
end
end K13

set_option Elab.async false
set_option linter.all false
set_option maxRecDepth 100000
set_option maxHeartbeats 4000000
namespace K13
open PySem L2
section
def wdF : Nat → Int → List Nat
  | 0, _ => []
  | f + 1, n => if n < 0 then [] else wdF f (n / 26 - 1) ++ [(97 + n % 26).toNat]
theorem wdF_inj : ∀ (f : Nat) (n m : Int), -1 ≤ n → n < f → -1 ≤ m → m < f → wdF f n = wdF f m → n = m
  | 0, n, m, h1, h2, h3, h4, _ => by omega
  | f + 1, n, m, h1, h2, h3, h4, e => by
    unfold wdF at e
    by_cases hn : n < 0
    · by_cases hm : m < 0
      · omega
      · rw [if_pos hn, if_neg hm] at e
        exact absurd e.symm (by simp)
    · by_cases hm : m < 0
      · rw [if_neg hn, if_pos hm] at e
        exact absurd e (by simp)
      · rw [if_neg hn, if_neg hm] at e
        have e1 := List.append_inj_left' e rfl
        have e2 := List.append_inj_right' e rfl
        have e3 : (97 + n % 26).toNat = (97 + m % 26).toNat := by simpa using e2
        have e4 := wdF_inj f (n / 26 - 1) (m / 26 - 1) (by omega) (by omega) (by omega) (by omega) e1
        omega
end
end K13

set_option Elab.async false
set_option linter.all false
set_option maxRecDepth 100000
set_option maxHeartbeats 4000000
namespace K13
open PySem L2
section
variable {P : Program} {w : World} {K : PySem.W.Frag} {mg : Str → Option Value} {base : Heap} {A : Adr} {N : Nat → Str}
abbrev LET : Str := "abcdefghijklmnopqrstuvwxyz"
theorem at_let {k : Int} (h0 : 0 ≤ k) (h1 : k < 26) : atI LET.cps.toList k = some (97 + k).toNat := by
  obtain ⟨n, rfl⟩ : ∃ n : Nat, k = (n : Int) := ⟨k.toNat, by omega⟩
  have h : ∀ m : Fin 26, atI LET.cps.toList ((m.val : Nat) : Int) = some (97 + ((m.val : Nat) : Int)).toNat := by decide +kernel
  exact h ⟨n, by omega⟩
abbrev WORDS1 : Str := "set if by at idle most end else main over rest last"
abbrev WORDS2 : Str := "loop given hand own put say send call deed"
def words1 : List Str := ["set", "if", "by", "at", "idle", "most", "end", "else", "main", "over", "rest", "last"]
def words2 : List Str := ["loop", "given", "hand", "own", "put", "say", "send", "call", "deed"]
theorem words1_ok : SplitOk WORDS1 " " words1 := ⟨by decide +kernel, by decide +kernel, by decide +kernel, by decide +kernel, by decide, by decide +kernel⟩
theorem words2_ok : SplitOk WORDS2 " " words2 := ⟨by decide +kernel, by decide +kernel, by decide +kernel, by decide +kernel, by decide, by decide +kernel⟩
def words : List Str := words1 ++ words2
theorem words_nodup : words.Nodup := by decide +kernel
theorem words_len : words.length = 21 := rfl
def nmA (o : Int) (k : Nat) : Str := words.getD ((o + k) % 21).toNat Str.empty
theorem nmA_dist (o : Int) : Dist (nmA o) := by
  intro i j hi hj e
  unfold nmA at e
  have m1 := mod_in (o + i) (show (0 : Int) < 21 by decide)
  have m2 := mod_in (o + j) (show (0 : Int) < 21 by decide)
  have b1 : ((o + i) % 21).toNat < words.length := by rw [words_len]; omega
  have b2 : ((o + j) % 21).toNat < words.length := by rw [words_len]; omega
  rw [List.getD_eq_getElem?_getD, List.getD_eq_getElem?_getD, List.getElem?_eq_getElem b1, List.getElem?_eq_getElem b2] at e
  have := (List.getElem_inj words_nodup).mp (show words[((o + i) % 21).toNat] = words[((o + j) % 21).toNat] from e)
  omega
theorem strOk_iff {x : Str} : PyData.strOk x = true ↔ ∀ c ∈ x.cps.toList, c < 0x110000 := by
  unfold PyData.strOk
  rw [Array.all_eq_true']
  simp
theorem nmA_ok (o : Int) (k : Nat) : PyData.strOk (nmA o k) = true := by
  have h : ∀ i : Fin 21, PyData.strOk (words.getD i.val Str.empty) = true := by decide +kernel
  have m1 := mod_in (o + k) (show (0 : Int) < 21 by decide)
  exact h ⟨((o + k) % 21).toNat, by omega⟩
theorem wdF_lt : ∀ (f : Nat) (n : Int), ∀ c ∈ wdF f n, c < 0x110000
  | 0, n, c, h => by cases h
  | f + 1, n, c, h => by
    unfold wdF at h
    split at h
    · cases h
    · rcases List.mem_append.mp h with h | h
      · exact wdF_lt f _ c h
      · rw [List.mem_singleton.mp h]
        omega
def nmB (F : Nat) (n s : Int) (k : Nat) : Str := ⟨(wdF F (n + k * s)).toArray⟩
theorem nmB_dist {F : Nat} {n s : Int} (h0 : 0 ≤ n) (h1 : 1 ≤ s) (h2 : n + 2 * s < F) : Dist (nmB F n s) := by
  intro i j hi hj e
  have e1 : wdF F (n + i * s) = wdF F (n + j * s) := by
    have := congrArg (fun z : Str => z.cps.toList) e
    exact this
  have hi' : i = 0 ∨ i = 1 ∨ i = 2 := by omega
  have hj' : j = 0 ∨ j = 1 ∨ j = 2 := by omega
  rcases hi' with rfl | rfl | rfl <;> rcases hj' with rfl | rfl | rfl <;> first | rfl | (have := wdF_inj F _ _ (by omega) (by omega) (by omega) (by omega) e1; omega)
theorem nmB_ok (F : Nat) (n s : Int) (k : Nat) : PyData.strOk (nmB F n s k) = true := strOk_iff.mpr fun c hc => wdF_lt F _ c hc
theorem list3 {ys : List V} {f : Nat → V} (h : ys.length = 3) (hy : ∀ (i : Nat) y, ys[i]? = some y → y = f i) : ys = [f 0, f 1, f 2] := by
  match ys, h with
  | [a, b, c], _ => rw [hy 0 a rfl, hy 1 b rfl, hy 2 c rfl]
def sp_names : Sp := fun vs H Q _ => ∃ (c o : Int), vs = [.int c, .int o, .int 3] ∧ ∀ (l : Addr) (N : Nat → Str) H', Dist N → (∀ i, PyData.strOk (N i) = true) → Same H H' → H l = none → H' l = some (.lst [.str (N 0), .str (N 1), .str (N 2)]) → Q (.ref l) H'
theorem str_len1 (c : Nat) (z : Str) : ((⟨#[c]⟩ : Str) ++ z).cps.toList = c :: z.cps.toList := by
  show (#[c] ++ z.cps).toList = _
  simp
theorem h_names (T : Txt K mg A) : Has P w K mg base 1 "_law_names" ["_law_cell", "_law_other", "_law_many"] sp_names := by
  refine T.law_names.has sc_law_names (fun vs H Q E h => ?_) (fun f cdv A' outer s H vs Q E hr hu h => ?_)
  · obtain ⟨c, o, rfl, _⟩ := h
    rfl
  · obtain ⟨c, o, rfl, q⟩ := h
    refine ⟨_, (pss_cons (ps_set (i := 3) sc_law_names.nd rfl (Or.inr rfl) (m_split (pe_str) (pa_cons (pe_str) pa_nil)))
    (pss_cons (ps_set (i := 3) sc_law_names.nd rfl (Or.inr rfl) (pe_op o_add (fv 3) (m_split (pe_str) (pa_cons (pe_str) pa_nil))))
    (pss_cons (ps_if (pt_cmpR (o_eqU hu) (pe_op o_mod (fv 0) (pe_int)) (pe_int) (nomark _))
      (pss_one (ps_ret (pe_comp (N := ["_law_k", "_law_words", "_law_other"]) (own := 1) (fr := [3, 1]) (CompOk.of (by kernel_rfl!)) rfl (pi_range1 rfl T.z_range (pa_cons (fv 2) pa_nil)) (fun b => pg_name (i := 0) (show List.Nodup (["_law_k", "_law_words", "_law_other"] : List PySem.Str) by decide +kernel) rfl (by first | exact Or.inl rfl | exact Or.inr rfl)) (fun b => pf_nil) (fun b => pe_ix (ix_all hu) (fv 1) (pe_op o_mod (pe_op o_add (fv 2) (fv 0)) (pe_callB c_lenA rfl T.z_len (by boot_by_name) (pa_cons (fv 1) pa_nil))) (fun _ _ => rfl)))))
      pss_nil)
    (pss_cons (ps_set (i := 4) sc_law_names.nd rfl (Or.inl rfl) (pe_str))
    (pss_cons (ps_set (i := 5) sc_law_names.nd rfl (Or.inl rfl) (pe_ix (ix_all hu) (pe_lst (pa_cons (pe_int) (pa_cons (pe_int) (pa_cons (pe_int) (pa_cons (pe_int) (pa_cons (pe_op o_add (pe_int) (pe_op o_mod (fv 1) (pe_op o_pow (pe_int) (pe_int)))) pa_nil)))))) (pe_op o_mod (pe_op o_fdiv (fv 0) (pe_int)) (pe_int)) (fun _ _ => rfl)))
    (pss_cons (ps_set (i := 6) sc_law_names.nd rfl (Or.inl rfl) (pe_lst (pa_nil)))
    (pss_cons (ps_for PassesOwn.never rfl (pi_range1 rfl T.z_range (pa_cons (fv 2) pa_nil)) (pg_name (i := 7) sc_law_names.nd rfl (by first | exact Or.inl rfl | exact Or.inr rfl))
      (pss_cons (ps_set (i := 8) sc_law_names.nd rfl (Or.inl rfl) (pe_op o_add (pe_op o_mod (pe_op o_fdiv (fv 0) (pe_int)) (pe_op o_pow (pe_int) (pe_int))) (pe_op o_mulA (fv 7) (fv 5))))
      (pss_cons (ps_set (i := 9) sc_law_names.nd rfl (Or.inl rfl) (pe_str))
      (pss_cons (ps_while PassesOwn.never (pt_cmpR (o_ge) (fv 8) (pe_int) (nomark _))
        (pss_cons (ps_set (i := 9) sc_law_names.nd rfl (Or.inl rfl) (pe_op o_add (pe_ix (ix_all hu) (fv 4) (pe_op o_mod (fv 8) (pe_int)) (fun _ _ => rfl)) (fv 9)))
        (pss_one (ps_set (i := 8) sc_law_names.nd rfl (Or.inl rfl) (pe_op o_sub (pe_op o_fdiv (fv 8) (pe_int)) (pe_int))))))
      (pss_one (ps_expr (m_append (fv 6) (pa_cons (fv 9) pa_nil))))))))
    (pss_one (ps_ret (fv 6)))))))))), ?_⟩
    refine ⟨rfl, WORDS1, " ", words1, rfl, rfl, words1_ok, fun l1 hl1 => ?_⟩
    have s1 := Same.upd hl1 (HO.lst (words1.map V.str))
    have e1 : (upd H l1 (HO.lst (words1.map V.str))) l1 = some (.lst (words1.map V.str)) := upd_same
    generalize upd H l1 (HO.lst (words1.map V.str)) = H1 at s1 e1 ⊢
    refine ⟨rfl, WORDS2, " ", words2, rfl, rfl, words2_ok, fun l2 hl2 => ?_⟩
    have s2 := Same.upd hl2 (HO.lst (words2.map V.str))
    have e2 : (upd H1 l2 (HO.lst (words2.map V.str))) l2 = some (.lst (words2.map V.str)) := upd_same
    generalize upd H1 l2 (HO.lst (words2.map V.str)) = H2 at s2 e2 ⊢
    refine ⟨l1, l2, _, _, rfl, rfl, s2 _ _ e1, e2, by decide, fun l3 hl3 => ?_⟩
    have s3 := Same.upd hl3 (HO.lst (words1.map V.str ++ words2.map V.str))
    have e3 : (upd H2 l3 (HO.lst (words1.map V.str ++ words2.map V.str))) l3 = some (.lst (words.map V.str)) := upd_same
    generalize upd H2 l3 (HO.lst (words1.map V.str ++ words2.map V.str)) = H3 at s3 e3 ⊢
    have s13 := (s1.trans s2).trans s3
    refine ⟨(by show (0 : Int) < 4; decide), rfl, _, rfl, ite2 (fun _ => ?_) (fun _ => ?_)⟩
    · refine ⟨3, rfl, by decide, by decide, comp_rel (x := fun i => .int (0 + i)) (fun i y _ => y = .str (nmA o i)) (small1000 (by decide)) (fun _ _ => Nat.le_refl _) (fun _ _ h _ => h) (fun _ _ _ _ _ _ y => y) (fun b i H4 G hi s4 kk => ?_) (fun _ _ _ _ _ r => r) (fun _ _ _ _ _ _ _ r => r) (fun D H4 ys hD s4 e yl hy => ?_)⟩
      · have m := mod_in (o + i) (show (0 : Int) < 21 by decide)
        have lt : ((o + i) % 21).toNat < words.length := by rw [words_len]; omega
        have e4 := s4 _ _ e3
        obtain ⟨x, _, g1, g2⟩ := at_map V.str (xs := words) m.1 (by rw [words_len]; exact m.2)
        refine Or.inl ⟨_, _, rfl, Or.inl ⟨_, SqL.of e4, rfl⟩, (by rw [List.length_map, words_len]; show (0 : Int) < 21; decide), Or.inl ⟨_, _, Or.inl (SqL.of e4), (by rw [List.length_map, words_len, show (0 : Int) + (i : Int) = i by omega]; exact g2), kk _ _ (Same.refl _) ?_⟩⟩
        unfold nmA
        rw [List.getD_eq_getElem?_getD, g1]
        rfl
      · rw [list3 (f := fun i => .str (nmA o i)) yl hy] at e
        exact q D (nmA o) _ (nmA_dist o) (nmA_ok o) (s13.trans s4) (Same.free s13 hD) e
    · refine ⟨⟨by decide, by decide, by decide⟩, (by show (0 : Int) < 10 ^ (9 : Int).toNat; decide), (by show 5 ≤ sizeLine; decide), fun l4 hl4 => ?_⟩
      have s4 := Same.upd hl4 (HO.lst [.int 1, .int 26, .int 27, .int 676, .int (1 + o % 10 ^ (9 : Int).toNat)])
      have e4 : (upd H3 l4 (HO.lst [.int 1, .int 26, .int 27, .int 676, .int (1 + o % 10 ^ (9 : Int).toNat)])) l4 = some (.lst [.int 1, .int 26, .int 27, .int 676, .int (1 + o % 10 ^ (9 : Int).toNat)]) := upd_same
      generalize upd H3 l4 (HO.lst [.int 1, .int 26, .int 27, .int 676, .int (1 + o % 10 ^ (9 : Int).toNat)]) = H4 at s4 e4 ⊢
      have m5 := mod_in (c / 4) (show (0 : Int) < 5 by decide)
      have mo := mod_in o (show (0 : Int) < 10 ^ (9 : Int).toNat by decide)
      obtain ⟨st, hs1, hs2, ha⟩ : ∃ st : Int, 1 ≤ st ∧ st ≤ 10 ^ 9 ∧ atI [V.int 1, .int 26, .int 27, .int 676, .int (1 + o % 10 ^ (9 : Int).toNat)] (c / 4 % 5) = some (.int st) := by
        have hc : c / 4 % 5 = 0 ∨ c / 4 % 5 = 1 ∨ c / 4 % 5 = 2 ∨ c / 4 % 5 = 3 ∨ c / 4 % 5 = 4 := by omega
        have mo2 : o % 10 ^ (9 : Int).toNat < 10 ^ 9 := mo.2
        rcases hc with h | h | h | h | h <;> rw [h]
        · exact ⟨1, by omega, by omega, rfl⟩
        · exact ⟨26, by omega, by omega, rfl⟩
        · exact ⟨27, by omega, by omega, rfl⟩
        · exact ⟨676, by omega, by omega, rfl⟩
        · exact ⟨_, by omega, by omega, rfl⟩
      refine ⟨⟨by decide, by decide⟩, (by show (0 : Int) < 5; decide), Or.inl ⟨_, _, Or.inl (SqL.of e4), ha, ?_⟩⟩
      refine ⟨Nat.zero_le _, fun l5 hl5 => ?_⟩
      have s14 := s13.trans s4
      have f5 : H l5 = none := Same.free s14 hl5
      have s5 := s14.trans (Same.upd hl5 (HO.lst []))
      have mc := mod_in (c / 20) (show (0 : Int) < 10 ^ (10 : Int).toNat by decide)
      have mc2 : c / 20 % 10 ^ (10 : Int).toNat < 10 ^ 10 := mc.2
      have mc1 := mc.1
      obtain ⟨n, hn⟩ : ∃ n, c / 20 % 10 ^ (10 : Int).toNat = n := ⟨_, rfl⟩
      rw [hn] at mc1 mc2
      refine ⟨3, rfl, by decide, by decide, ?_⟩
      refine for_range (fun i σ H5 => Same H H5 ∧ H5 l5 = some (.lst ((List.range i).map fun k => .str (nmB 20000000000 n st k))) ∧ ∃ v7 v8 v9, σ = [some (.int c), some (.int o), some (.int 3), some (.ref l3), some (.str LET), some (.int st), some (.ref l5), v7, v8, v9]) ⟨s5, upd_same, _, _, _, rfl⟩ ?_ ?_
      · rintro i σ H5 hi ⟨s6, e6, v7, v8, v9, rfl⟩
        refine ⟨⟨by decide, by decide⟩, ⟨by decide, by decide, by decide⟩, (by show (0 : Int) < 10 ^ (10 : Int).toNat; decide), small_mul (by omega) (by omega), ?_⟩
        have ex0 : c / 20 % 10 ^ (10 : Int).toNat + (0 + (i : Int)) * st = n + i * st := by rw [hn, show (0 : Int) + (i : Int) = i by omega]
        have hi3 : i = 0 ∨ i = 1 ∨ i = 2 := by omega
        have hlt : n + i * st < 20000000000 ∧ 0 ≤ n + i * st := by rcases hi3 with rfl | rfl | rfl <;> omega
        have h26 : n + i * st < 26 ^ 8 - 1 := by rcases hi3 with rfl | rfl | rfl <;> omega
        refine ⟨fun m σ H6 => H6 = H5 ∧ ∃ (x : Int) (f : Nat) (z : Str), σ = [some (.int c), some (.int o), some (.int 3), some (.ref l3), some (.str LET), some (.int st), some (.ref l5), some (.int (0 + (i : Int))), some (.int x), some (.str z)] ∧ -1 ≤ x ∧ x < f ∧ x < 26 ^ m - 1 ∧ m + z.length ≤ 8 ∧ wdF 20000000000 (n + i * st) = wdF f x ++ z.cps.toList, ⟨8, rfl, _, 20000000000, Str.empty, rfl, (by rw [ex0]; omega), (by rw [ex0]; exact hlt.1), (by rw [ex0]; exact h26), Nat.le_refl _, (by rw [ex0]; exact (List.append_nil _).symm)⟩, ?_⟩
        rintro m σ H6 ⟨rfl, x, f, z, rfl, x1, x2, x3, x4, x5⟩
        refine ⟨_, rfl, ite2 (fun g => ?_) (fun g => ?_)⟩
        · have g' : 0 ≤ x := of_decide_eq_true g
          obtain ⟨m, rfl⟩ : ∃ m', m = m' + 1 := ⟨m - 1, by
            cases m with
            | zero => exact absurd x3 (by simp; omega)
            | succ m => rfl⟩
          obtain ⟨f, rfl⟩ : ∃ f', f = f' + 1 := ⟨f - 1, by omega⟩
          have mx := mod_in x (show (0 : Int) < 26 by decide)
          refine ⟨_, fun σ' H' h => h, (by show (0 : Int) < 26; decide), _, (show LET.length ≤ sizeLine by decide), at_let mx.1 mx.2, ?_⟩
          have zl : ((⟨#[(97 + x % 26).toNat]⟩ : Str) ++ z).length = 1 + z.length := by
            show (#[(97 + x % 26).toNat] ++ z.cps).size = 1 + z.cps.size
            rw [Array.size_append]
            rfl
          refine ⟨Nat.le_of_lt (small1000 (show (⟨#[(97 + x % 26).toNat]⟩ : Str).length + z.length ≤ 1000 by show 1 + z.length ≤ 1000; omega)), ⟨by decide, by decide⟩, m, Nat.lt_succ_self _, rfl, _, f, _, rfl, by omega, by omega, ?_, by omega, ?_⟩
          · rw [Int.pow_succ] at x3
            omega
          · rw [x5, str_len1]
            conv => lhs; unfold wdF
            rw [if_neg (by omega), List.append_assoc]
            rfl
        · have g' : ¬ 0 ≤ x := fun h => g (decide_eq_true h)
          refine ⟨Or.inl ⟨rfl, _, SqL.of e6⟩, l5, _, _, rfl, rfl, e6, small1000 (by rw [List.length_map, List.length_range]; omega), ?_⟩
          refine ⟨Same.out s6 f5 _, ?_, _, _, _, rfl⟩
          have w0 : wdF f x = [] := by
            cases f with
            | zero => rfl
            | succ f => exact if_pos (by omega)
          rw [w0, List.nil_append] at x5
          rw [upd_same, List.range_succ, List.map_append]
          refine congrArg (fun y => some (HO.lst (_ ++ [V.str y]))) ?_
          unfold nmB
          rw [x5]
      · rintro σ H5 ⟨s6, e6, v7, v8, v9, rfl⟩
        exact q l5 (nmB 20000000000 n st) _ (nmB_dist mc1 hs1 (by omega)) (nmB_ok _ _ _) s6 f5 e6
end
end K13

set_option Elab.async false
set_option linter.all false
set_option maxRecDepth 100000
set_option maxHeartbeats 4000000
namespace K13
open PySem L2
section
variable {P : Program} {w : World} {K : PySem.W.Frag} {mg : Str → Option Value} {base : Heap} {A : Adr} {N : Nat → Str}
def del (X : List Addr) (H : Hp) : Hp := fun a => if a ∈ X then none else H a
theorem del_same {X : List Addr} {H : Hp} : Same (del X H) H := fun a o h => by
  unfold del at h
  split at h
  · cases h
  · exact h
theorem del_some {X : List Addr} {H : Hp} {a : Addr} {o : HO} (h : a ∉ X) (e : H a = some o) : del X H a = some o := by
  unfold del
  rw [if_neg h]
  exact e
theorem del_get {X : List Addr} {H : Hp} {a : Addr} {o : HO} (h : del X H a = some o) : a ∉ X ∧ H a = some o := by
  unfold del at h
  split at h
  · cases h
  · exact ⟨by assumption, h⟩
structure Go (M : List Addr) (H : Hp) (M' : List Addr) (H' : Hp) : Prop where
  o : ∀ a o, a ∉ M → H a = some o → H' a = some o
  m : ∀ a ∈ M', a ∈ M ∨ H a = none
theorem Go.trans {M M1 M2 : List Addr} {H H1 H2 : Hp} (g : Go M H M1 H1) (g' : Go M1 H1 M2 H2) : Go M H M2 H2 := by
  refine ⟨fun a o h e => g'.o a o (fun m => ?_) (g.o a o h e), fun a m => ?_⟩
  · rcases g.m a m with z | z
    · exact h z
    · rw [z] at e; cases e
  · rcases g'.m a m with z | z
    · exact g.m a z
    · by_cases h : a ∈ M
      · exact .inl h
      · refine .inr ?_
        cases e : H a with
        | none => rfl
        | some o => rw [g.o a o h e] at z; cases z
theorem Go.same {M M' : List Addr} {H H' : Hp} (g : Go M H M' H') : Same (del M H) (del M' H') := fun a o h => by
  obtain ⟨h1, h2⟩ := del_get h
  refine del_some (fun m => ?_) (g.o a o h1 h2)
  rcases g.m a m with z | z
  · exact h1 z
  · rw [z] at h2; cases h2
theorem Go.refl (M : List Addr) (H : Hp) : Go M H M H := ⟨fun _ _ _ h => h, fun _ h => .inl h⟩
theorem Go.new {M : List Addr} {H H' : Hp} (s : Same H H') : Go M H M H' := ⟨fun a o _ h => s a o h, fun _ h => .inl h⟩
theorem Go.at {M : List Addr} {H : Hp} {x : Addr} (h : x ∈ M) (u : HO) : Go M H M (upd H x u) := ⟨fun a o m e => (upd_ne (fun z : a = x => m (by rw [z]; exact h))).trans e, fun _ h => .inl h⟩
theorem Go.to {M M1 M2 : List Addr} {H H1 : Hp} (g : Go M H M1 H1) (h : ∀ a ∈ M2, a ∈ M1 ∨ a ∈ M ∨ H a = none) : Go M H M2 H1 := ⟨g.o, fun a m => by
  rcases h a m with z | z | z
  · exact g.m a z
  · exact .inl z
  · exact .inr z⟩
structure Kn where
  ki : List Nat
  kn : Nat → Int
  kx : Nat → Option Int
structure Fr where
  f : Addr
  rl : Addr
  kd : Str
  n : Int
  rm : Int
  mn : Int
  ms : Int
  ex : Option Int
  xs : List V
  rs : List Rw
abbrev Ft := Fr × Option Fr
def oneV : Option Fr → V
  | none => .non
  | some o => .ref o.f
def adsO : Option Fr → List Addr
  | none => []
  | some o => [o.f, o.rl]
def adsI (it : Ft) : List Addr := it.1.f :: it.1.rl :: adsO it.2
def adsL (st : List Ft) : List Addr := st.flatMap adsI
theorem adsL_snoc (st : List Ft) (it : Ft) : adsL (st ++ [it]) = adsL st ++ adsI it := by unfold adsL; simp
structure FrAt (A : Adr) (N : Nat → Str) (k : Kn) (H X : Hp) (c d : Nat) (x : Fr) (one : V) : Prop where
  hf : H x.f = some (.dK (frK x.kd x.n x.rm x.mn x.rl x.ms (optV x.ex) one))
  hl : H x.rl = some (.lst x.xs)
  pr : PySem.Paired (RowAt A N k.ki X d) x.xs x.rs
  em : x.ms = mOf d k.kn x.rs
  ee : x.ex = xOf d k.kx x.rs
  le : x.xs.length ≤ c
  mn : -(2 ^ 64) < x.mn ∧ x.mn < 2 ^ 64
variable {k : Kn} {H H' X X' : Hp} {c c' d : Nat}
theorem FrAt.keep {x : Fr} {one : V} (h : FrAt A N k H X c d x one) (h1 : ∀ o, H x.f = some o → H' x.f = some o) (h2 : ∀ o, H x.rl = some o → H' x.rl = some o) (s : Same X X') (hc : c ≤ c') : FrAt A N k H' X' c' d x one :=
  ⟨h1 _ h.hf, h2 _ h.hl, Paired.mapP h.pr fun _ _ => RowAt.same s, h.em, h.ee, Nat.le_trans h.le hc, h.mn⟩
structure FtAt (A : Adr) (N : Nat → Str) (k : Kn) (H X : Hp) (c d : Nat) (it : Ft) : Prop where
  a : FrAt A N k H X c d it.1 (oneV it.2)
  o : ∀ x, it.2 = some x → FrAt A N k H X c d x .non
  k1 : it.1.kd = "first" → it.2 = none
  k2 : it.1.kd = "other" → it.2 ≠ none
theorem FtAt.keep {it : Ft} (h : FtAt A N k H X c d it) (hh : ∀ a ∈ adsI it, ∀ o, H a = some o → H' a = some o) (s : Same X X') (hc : c ≤ c') : FtAt A N k H' X' c' d it := by
  refine ⟨h.a.keep (hh _ (by simp [adsI])) (hh _ (by simp [adsI])) s hc, fun x e => (h.o x e).keep (hh _ ?_) (hh _ ?_) s hc, h.k1, h.k2⟩ <;> simp [adsI, e, adsO]
theorem FtAt.has {it : Ft} (h : FtAt A N k H X c d it) {a : Addr} (m : a ∈ adsI it) : ∃ o, H a = some o := by
  unfold adsI at m
  rcases List.mem_cons.mp m with rfl | m
  · exact ⟨_, h.a.hf⟩
  rcases List.mem_cons.mp m with rfl | m
  · exact ⟨_, h.a.hl⟩
  cases e : it.2 with
  | none => rw [e] at m; cases m
  | some x =>
    rw [e] at m
    rcases List.mem_cons.mp m with rfl | m
    · exact ⟨_, (h.o x e).hf⟩
    rw [List.mem_singleton.mp m]
    exact ⟨_, (h.o x e).hl⟩
def StAt (A : Adr) (N : Nat → Str) (k : Kn) (H X : Hp) (c : Nat) : Nat → List Ft → Prop
  | _, [] => True
  | d, it :: r => FtAt A N k H X c d it ∧ StAt A N k H X c (d - 1) r
theorem StAt.keep (s : Same X X') (hc : c ≤ c') : ∀ {st : List Ft} {d : Nat}, StAt A N k H X c d st → (∀ a ∈ adsL st, ∀ o, H a = some o → H' a = some o) → StAt A N k H' X' c' d st
  | [], _, _, _ => trivial
  | it :: r, d, h, hh => ⟨h.1.keep (fun a m => hh a (by unfold adsL; rw [List.flatMap_cons]; exact List.mem_append_left _ m)) s hc, StAt.keep s hc h.2 fun a m => hh a (by unfold adsL; rw [List.flatMap_cons]; exact List.mem_append_right _ m)⟩
theorem StAt.has : ∀ {st : List Ft} {d : Nat}, StAt A N k H X c d st → ∀ {a : Addr}, a ∈ adsL st → ∃ o, H a = some o
  | it :: r, d, h, a, m => by
    unfold adsL at m
    rw [List.flatMap_cons] at m
    rcases List.mem_append.mp m with m | m
    · exact h.1.has m
    · exact StAt.has h.2 m
theorem StAt.snoc : ∀ {st : List Ft} {d : Nat} {it : Ft}, StAt A N k H X c d (st ++ [it]) ↔ StAt A N k H X c d st ∧ FtAt A N k H X c (d - st.length) it
  | [], d, it => ⟨fun h => ⟨trivial, h.1⟩, fun h => ⟨h.2, trivial⟩⟩
  | x :: r, d, it => by
    rw [List.cons_append]
    show _ ∧ _ ↔ (_ ∧ _) ∧ _
    rw [StAt.snoc, List.length_cons, show d - (r.length + 1) = d - 1 - r.length by omega, and_assoc]
def stK (num : Int) (fv : V) (nl dl : Addr) (x : Str) : List (Key × V) := [(.inr "number", .int num), (.inr "frames", fv), (.inr "nests", .ref nl), (.inr "deeds", .ref dl), (.inr "x", .str x)]
def NestAt (A : Adr) (N : Nat → Str) (k : Kn) (X : Hp) (v : V) (r : Rw) : Prop := ∃ t y, v = .ref t ∧ X t = some (.tup [y, .bl (exactR k.kx 6 r).isSome]) ∧ RowAt A N k.ki X 6 y r
def DeedAt (N : Nat → Str) (k : Kn) (X : Hp) (v : V) (i : Nat) : Prop := ∃ t, v = .ref t ∧ X t = some (.tup [.str (N i), .int (k.kn i), optV (k.kx i)])
theorem NestAt.same (s : Same X X') {v : V} {r : Rw} (h : NestAt A N k X v r) : NestAt A N k X' v r := by
  obtain ⟨t, y, e, h1, h2⟩ := h
  exact ⟨t, y, e, s _ _ h1, h2.same s⟩
theorem DeedAt.same (s : Same X X') {v : V} {i : Nat} (h : DeedAt N k X v i) : DeedAt N k X' v i := by
  obtain ⟨t, e, h1⟩ := h
  exact ⟨t, e, s _ _ h1⟩
structure Sa where
  S : Addr
  Nl : Addr
  Dl : Addr
  Q : Addr
  qv : List V
structure LB (A : Adr) (N : Nat → Str) (k : Kn) (H X : Hp) (s : Sa) (num : Int) (fv : V) (nv : List V) (nr : List Rw) (dv : List V) (c : Nat) : Prop where
  hS : H s.S = some (.dK (stK num fv s.Nl s.Dl (N 0)))
  hN : H s.Nl = some (.lst nv)
  hD : H s.Dl = some (.lst dv)
  nst : PySem.Paired (NestAt A N k X) nv nr
  dds : PySem.Paired (DeedAt N k X) dv k.ki
  nl : nv.length ≤ c
  hQ : H s.Q = some (.lst s.qv)
theorem LB.keep {s : Sa} {num : Int} {fv : V} {nv : List V} {nr : List Rw} {dv : List V} (h : LB A N k H X s num fv nv nr dv c) (hh : ∀ a ∈ [s.S, s.Nl, s.Dl, s.Q], ∀ o, H a = some o → H' a = some o) (e : Same X X') (hc : c ≤ c') : LB A N k H' X' s num fv nv nr dv c' :=
  ⟨hh _ (by simp) _ h.hS, hh _ (by simp) _ h.hN, hh _ (by simp) _ h.hD, Paired.mapP h.nst fun _ _ => NestAt.same e, Paired.mapP h.dds fun _ _ => DeedAt.same e, Nat.le_trans h.nl hc, hh _ (by simp) _ h.hQ⟩
structure Sv where
  s : Sa
  F : Addr
  num : Int
  st : List Ft
  nv : List V
  nr : List Rw
  dv : List V
  c : Nat
def Sv.M (v : Sv) : List Addr := [v.s.S, v.s.Nl, v.s.Dl, v.F, v.s.Q] ++ adsL v.st
structure LS (A : Adr) (N : Nat → Str) (k : Kn) (H : Hp) (v : Sv) : Prop where
  b : LB A N k H (del v.M H) v.s v.num (.ref v.F) v.nv v.nr v.dv v.c
  nd : v.M.Nodup
  hF : H v.F = some (.lst (v.st.map fun it => .ref it.1.f))
  stk : StAt A N k H (del v.M H) v.c 6 v.st
  ln : v.st.length ≤ 7
variable {v : Sv}
theorem LS.has (h : LS A N k H v) {a : Addr} (m : a ∈ v.M) : ∃ o, H a = some o := by
  unfold Sv.M at m
  rcases List.mem_append.mp m with m | m
  · simp only [List.mem_cons, List.not_mem_nil, or_false] at m
    rcases m with rfl | rfl | rfl | rfl | rfl
    · exact ⟨_, h.b.hS⟩
    · exact ⟨_, h.b.hN⟩
    · exact ⟨_, h.b.hD⟩
    · exact ⟨_, h.hF⟩
    · exact ⟨_, h.b.hQ⟩
  · exact h.stk.has m
theorem LS.free (h : LS A N k H v) {a : Addr} (e : H a = none) : a ∉ v.M := fun m => by
  obtain ⟨o, z⟩ := h.has m
  rw [e] at z
  cases z
structure Ne4 (v : Sv) : Prop where
  sn : v.s.S ≠ v.s.Nl
  sd : v.s.S ≠ v.s.Dl
  sf : v.s.S ≠ v.F
  nd : v.s.Nl ≠ v.s.Dl
  nf : v.s.Nl ≠ v.F
  df : v.s.Dl ≠ v.F
  sq : v.s.S ≠ v.s.Q
  nq : v.s.Nl ≠ v.s.Q
  fq : v.F ≠ v.s.Q
  a : ∀ a ∈ adsL v.st, a ≠ v.s.S ∧ a ≠ v.s.Nl ∧ a ≠ v.s.Dl ∧ a ≠ v.F ∧ a ≠ v.s.Q
  l : (adsL v.st).Nodup
theorem Ne4.of (h : v.M.Nodup) : Ne4 v := by
  unfold Sv.M at h
  rw [List.nodup_append] at h
  obtain ⟨h1, h2, h3⟩ := h
  simp only [List.nodup_cons, List.mem_cons, List.not_mem_nil, or_false, not_or, not_false_eq_true, List.nodup_nil, and_true] at h1
  obtain ⟨⟨a1, a2, a3, b1⟩, ⟨a4, a5, b2⟩, ⟨a6, b3⟩, b4⟩ := h1
  exact ⟨a1, a2, a3, a4, a5, a6, b1, b2, b4, fun a m => ⟨(h3 _ (by simp) a m).symm, (h3 _ (by simp) a m).symm, (h3 _ (by simp) a m).symm, (h3 _ (by simp) a m).symm, (h3 _ (by simp) a m).symm⟩, h2⟩
theorem LS.ne (h : LS A N k H v) : Ne4 v := Ne4.of h.nd
theorem LS.same (h : LS A N k H v) (s : Same H H') : LS A N k H' v := ⟨h.b.keep (fun a _ => s a) (Go.new s).same (Nat.le_refl _), h.nd, s _ _ h.hF, h.stk.keep (Go.new s).same (Nat.le_refl _) fun a _ => s a, h.ln⟩
theorem LS.up (h : LS A N k H v) (hc : v.c ≤ c) : LS A N k H { v with c := c } := ⟨h.b.keep (fun _ _ _ h => h) (fun _ _ h => h) hc, h.nd, h.hF, h.stk.keep (fun _ _ h => h) hc fun _ _ _ h => h, h.ln⟩
theorem Sv.inS (v : Sv) : v.s.S ∈ v.M := by simp [Sv.M]
theorem Sv.inN (v : Sv) : v.s.Nl ∈ v.M := by simp [Sv.M]
theorem Sv.inF (v : Sv) : v.F ∈ v.M := by simp [Sv.M]
theorem upd_keep {H : Hp} {x a : Addr} {u o : HO} (n : a ≠ x) (e : H a = some o) : upd H x u a = some o := by rw [upd_ne n]; exact e
theorem LS.num (h : LS A N k H v) (n : Int) : LS A N k (upd H v.s.S (.dK (stK n (.ref v.F) v.s.Nl v.s.Dl (N 0)))) { v with num := n } := by
  have g := Go.at (H := H) v.inS (.dK (stK n (.ref v.F) v.s.Nl v.s.Dl (N 0)))
  have ne := h.ne
  exact ⟨⟨upd_same, upd_keep ne.sn.symm h.b.hN, upd_keep ne.sd.symm h.b.hD, Paired.mapP h.b.nst fun _ _ => NestAt.same g.same, Paired.mapP h.b.dds fun _ _ => DeedAt.same g.same, h.b.nl, upd_keep ne.sq.symm h.b.hQ⟩, h.nd, upd_keep ne.sf.symm h.hF, h.stk.keep g.same (Nat.le_refl _) fun a m _ => upd_keep (ne.a a m).1, h.ln⟩
theorem LS.nest (h : LS A N k H v) {t : Addr} {y : V} {r : Rw} (ht : H t = some (.tup [y, .bl (exactR k.kx 6 r).isSome])) (tm : t ∉ v.M) (hy : RowAt A N k.ki (del v.M H) 6 y r) :
    LS A N k (upd H v.s.Nl (.lst (v.nv ++ [.ref t]))) { v with nv := v.nv ++ [.ref t], nr := v.nr ++ [r], c := v.c + 1 } := by
  have g := Go.at (H := H) v.inN (.lst (v.nv ++ [.ref t]))
  have ne := h.ne
  refine ⟨⟨upd_keep ne.sn h.b.hS, upd_same, upd_keep ne.nd.symm h.b.hD, PySem.Paired.snoc (Paired.mapP h.b.nst fun _ _ => NestAt.same g.same) ?_, Paired.mapP h.b.dds fun _ _ => DeedAt.same g.same, by rw [List.length_append]; exact Nat.succ_le_succ h.b.nl, upd_keep ne.nq.symm h.b.hQ⟩, h.nd, upd_keep ne.nf.symm h.hF, h.stk.keep g.same (Nat.le_succ _) fun a m _ => upd_keep (ne.a a m).2.1, h.ln⟩
  exact ⟨t, y, rfl, g.same _ _ (del_some tm ht), hy.same g.same⟩
theorem LS.pop {st : List Ft} {it : Ft} (h : LS A N k H v) (e : v.st = st ++ [it]) :
    LS A N k (upd H v.F (.lst (st.map fun it => .ref it.1.f))) { v with st := st } ∧ Go v.M H { v with st := st }.M (upd H v.F (.lst (st.map fun it => .ref it.1.f)))
      ∧ FtAt A N k (upd H v.F (.lst (st.map fun it => .ref it.1.f))) (del v.M H) v.c (6 - st.length) it ∧ (∀ a ∈ adsI it, a ∈ v.M ∧ a ∉ ({ v with st := st } : Sv).M) ∧ (adsI it).Nodup := by
  have ne := h.ne
  have sub : ∀ a ∈ ({ v with st := st } : Sv).M, a ∈ v.M := fun a m => by
    unfold Sv.M at m ⊢
    rw [e, adsL_snoc]
    rcases List.mem_append.mp m with m | m
    · exact List.mem_append_left _ m
    · exact List.mem_append_right _ (List.mem_append_left _ m)
  have g : Go v.M H { v with st := st }.M (upd H v.F (.lst (st.map fun it => .ref it.1.f))) := (Go.at v.inF _).to fun a m => .inl (sub a m)
  have st0 := h.stk
  rw [e] at st0
  obtain ⟨s1, s2⟩ := StAt.snoc.mp st0
  have nea := ne.a
  rw [e, adsL_snoc] at nea
  have nl := ne.l
  rw [e, adsL_snoc, List.nodup_append] at nl
  refine ⟨⟨⟨upd_keep ne.sf h.b.hS, upd_keep ne.nf h.b.hN, upd_keep ne.df h.b.hD, Paired.mapP h.b.nst fun _ _ => NestAt.same g.same, Paired.mapP h.b.dds fun _ _ => DeedAt.same g.same, h.b.nl, upd_keep ne.fq.symm h.b.hQ⟩, ?_, upd_same, s1.keep g.same (Nat.le_refl _) fun a m _ => upd_keep (nea a (List.mem_append_left _ m)).2.2.2.1, ?_⟩, g, s2.keep (fun a m _ => upd_keep (nea a (List.mem_append_right _ m)).2.2.2.1) (fun _ _ h => h) (Nat.le_refl _), fun a m => ⟨?_, fun z => ?_⟩, nl.2.1⟩
  · have := h.nd
    unfold Sv.M at this ⊢
    rw [e, adsL_snoc, ← List.append_assoc] at this
    exact (List.nodup_append.mp this).1
  · have := h.ln
    rw [e, List.length_append] at this
    exact Nat.le_of_succ_le this
  · unfold Sv.M
    rw [e, adsL_snoc]
    exact List.mem_append_right _ (List.mem_append_right _ m)
  · unfold Sv.M at z
    obtain ⟨a1, a2, a3, a4, a5⟩ := nea a (List.mem_append_right _ m)
    rcases List.mem_append.mp z with z | z
    · simp only [List.mem_cons, List.not_mem_nil, or_false] at z
      rcases z with z | z | z | z | z
      · exact a1 z
      · exact a2 z
      · exact a3 z
      · exact a4 z
      · exact a5 z
    · exact nl.2.2 a z a m rfl
theorem sum_snoc (kn : Nat → Int) (d : Nat) (rs : List Rw) (r : Rw) : mOf d kn (rs ++ [r]) = mOf d kn rs + mostR kn d r := by
  unfold mOf
  simp
theorem all_snoc (kx : Nat → Option Int) (d : Nat) (rs : List Rw) (r : Rw) : xOf d kx (rs ++ [r]) = sumF (xOf d kx rs) (exactR kx d r) := by
  unfold xOf allSum
  rw [List.map_append, List.foldl_append]
  rfl
def Fr.more (x : Fr) (y : V) (r : Rw) (st : Int) (su : Option Int) : Fr := { x with ms := x.ms + 1 + st, ex := su.bind fun b => x.ex.map fun a => a + 1 + b, xs := x.xs ++ [y], rs := x.rs ++ [r] }
theorem LS.add {st : List Ft} {it : Ft} {y : V} {r : Rw} {n : Int} {su : Option Int} (h : LS A N k H v) (e : v.st = st ++ [it]) (hy : RowAt A N k.ki (del v.M H) (6 - st.length) y r) (e1 : mostR k.kn (6 - st.length) r = 1 + n) (e2 : exactR k.kx (6 - st.length) r = su.map fun b => 1 + b)
    (hk : ∀ a o, a ≠ it.1.f → a ≠ it.1.rl → H a = some o → H' a = some o) (h1 : H' it.1.f = some (.dK (frK it.1.kd it.1.n it.1.rm it.1.mn it.1.rl (it.1.ms + 1 + n) (optV (su.bind fun b => it.1.ex.map fun a => a + 1 + b)) (oneV it.2)))) (h2 : H' it.1.rl = some (.lst (it.1.xs ++ [y]))) :
    LS A N k H' { v with st := st ++ [(it.1.more y r n su, it.2)], c := v.c + 1 } ∧ Go v.M H ({ v with st := st ++ [(it.1.more y r n su, it.2)], c := v.c + 1 } : Sv).M H' := by
  have ne := h.ne
  have eM : ({ v with st := st ++ [(it.1.more y r n su, it.2)], c := v.c + 1 } : Sv).M = v.M := by
    unfold Sv.M
    rw [e, adsL_snoc, adsL_snoc]
    rfl
  have nea := ne.a
  rw [e, adsL_snoc] at nea
  have nl := ne.l
  rw [e, adsL_snoc, List.nodup_append] at nl
  have mf : it.1.f ∈ adsI it := by simp [adsI]
  have ml : it.1.rl ∈ adsI it := by simp [adsI]
  have n1 := nea _ (List.mem_append_right _ mf)
  have n2 := nea _ (List.mem_append_right _ ml)
  have inM : ∀ a ∈ adsI it, a ∈ v.M := fun a m => by
    unfold Sv.M
    rw [e, adsL_snoc]
    exact List.mem_append_right _ (List.mem_append_right _ m)
  have g : Go v.M H v.M H' := ⟨fun a o m => hk a o (fun z => m (z ▸ inM _ mf)) (fun z => m (z ▸ inM _ ml)), fun _ m => .inl m⟩
  have st0 := h.stk
  rw [e] at st0
  obtain ⟨s1, s2⟩ := StAt.snoc.mp st0
  have len : st.length + 1 ≤ 7 := by
    have := h.ln
    rw [e, List.length_append] at this
    exact this
  refine ⟨⟨?_, by rw [eM]; exact h.nd, ?_, ?_, ?_⟩, by rw [eM]; exact g⟩
  · rw [eM]
    exact ⟨hk _ _ n1.1.symm n2.1.symm h.b.hS, hk _ _ n1.2.1.symm n2.2.1.symm h.b.hN, hk _ _ n1.2.2.1.symm n2.2.2.1.symm h.b.hD, Paired.mapP h.b.nst fun _ _ => NestAt.same g.same, Paired.mapP h.b.dds fun _ _ => DeedAt.same g.same, Nat.le_succ_of_le h.b.nl, hk _ _ n1.2.2.2.2.symm n2.2.2.2.2.symm h.b.hQ⟩
  · have := h.hF
    rw [e, List.map_append] at this
    rw [List.map_append]
    exact hk _ _ n1.2.2.2.1.symm n2.2.2.2.1.symm this
  · rw [eM]
    refine StAt.snoc.mpr ⟨s1.keep g.same (Nat.le_succ _) fun a m o => hk a o (fun z => nl.2.2 a m _ mf z) (fun z => nl.2.2 a m _ ml z), ⟨⟨h1, h2, PySem.Paired.snoc (Paired.mapP s2.a.pr fun _ _ => RowAt.same g.same) (hy.same g.same), ?_, ?_, ?_, s2.a.mn⟩, fun x ex => ?_, s2.k1, s2.k2⟩⟩
    · show it.1.ms + 1 + n = mOf _ _ (it.1.rs ++ [r])
      rw [sum_snoc, s2.a.em, e1]
      omega
    · show (su.bind fun b => it.1.ex.map fun a => a + 1 + b) = xOf _ _ (it.1.rs ++ [r])
      rw [all_snoc, s2.a.ee, e2]
      cases su <;> cases xOf (6 - st.length) k.kx it.1.rs <;> simp [sumF]
      omega
    · show (it.1.xs ++ [y]).length ≤ v.c + 1
      rw [List.length_append]
      exact Nat.succ_le_succ s2.a.le
    · have nI := nl.2.1
      unfold adsI at nI
      rw [show it.2 = some x from ex] at nI
      simp only [adsO, List.nodup_cons, List.mem_cons, List.not_mem_nil, or_false, not_or] at nI
      exact (s2.o x ex).keep (fun o => hk _ o (fun z => nI.1.2.1 z.symm) (fun z => nI.2.1.1 z.symm)) (fun o => hk _ o (fun z => nI.1.2.2 z.symm) (fun z => nI.2.1.2 z.symm)) g.same (Nat.le_succ _)
  · show (st ++ [(it.1.more y r n su, it.2)]).length ≤ 7
    rw [List.length_append]
    exact len
end
end K13

set_option Elab.async false
set_option linter.all false
set_option maxRecDepth 100000
set_option maxHeartbeats 4000000
namespace K13
open PySem L2
section
variable {P : Program} {w : World} {K : PySem.W.Frag} {mg : Str → Option Value} {base : Heap} {A : Adr} {N : Nat → Str} {k : Kn} {H H' X X' : Hp} {c c' d : Nat} {v : Sv}
def Fr.new (f rl : Addr) (kd : Str) (n rm mn : Int) : Fr := ⟨f, rl, kd, n, rm, mn, 0, some 0, [], []⟩
theorem StAt.left : ∀ {st old : List Ft} {d : Nat}, StAt A N k H X c d (st ++ old) → StAt A N k H X c d st
  | [], _, _, _ => trivial
  | _ :: _, _, _, h => ⟨h.1, StAt.left h.2⟩
theorem LS.put {st old : List Ft} {f rl : Addr} {kd : Str} {nn rm mn n : Int} {o : Option Fr} (h : LS A N k H v) (e : v.st = st ++ old) (ho : adsL old = adsO o) (hS : H' v.s.S = some (.dK (stK n (.ref v.F) v.s.Nl v.s.Dl (N 0)))) (hF : H' v.F = some (.lst ((st.map fun it => V.ref it.1.f) ++ [.ref f])))
    (hk : ∀ a o, a ≠ v.s.S → a ≠ v.F → H a = some o → H' a = some o) (f1 : H f = none) (f2 : H rl = none) (fr : f ≠ rl) (x1 : H' f = some (.dK (frK kd nn rm mn rl 0 (.int 0) (oneV o)))) (x2 : H' rl = some (.lst [])) (hm : -(2 ^ 64) < mn ∧ mn < 2 ^ 64) (k1 : kd = "first" → o = none) (k2 : kd = "other" → o ≠ none)
    (ol : ∀ y, o = some y → FrAt A N k H (del v.M H) v.c (6 - st.length) y .non) (ll : st.length < 7) :
    LS A N k H' { v with num := n, st := st ++ [(Fr.new f rl kd nn rm mn, o)] } ∧ Go v.M H ({ v with num := n, st := st ++ [(Fr.new f rl kd nn rm mn, o)] } : Sv).M H' := by
  have ne := h.ne
  have nea := ne.a
  have eA : adsL v.st = adsL st ++ adsO o := by
    unfold adsL
    rw [e, List.flatMap_append]
    exact congrArg (adsL st ++ ·) ho
  have eM : v.M = [v.s.S, v.s.Nl, v.s.Dl, v.F, v.s.Q] ++ (adsL st ++ adsO o) := by
    unfold Sv.M
    rw [eA]
  have eM' : ({ v with num := n, st := st ++ [(Fr.new f rl kd nn rm mn, o)] } : Sv).M = [v.s.S, v.s.Nl, v.s.Dl, v.F, v.s.Q] ++ (adsL st ++ (f :: rl :: adsO o)) := by
    unfold Sv.M
    rw [adsL_snoc]
    rfl
  rw [eA] at nea
  have nl := ne.l
  rw [eA, List.nodup_append] at nl
  have nf1 := h.free f1
  have nf2 := h.free f2
  have nM := h.nd
  rw [eM] at nf1 nf2 nM
  have g : Go v.M H ({ v with num := n, st := st ++ [(Fr.new f rl kd nn rm mn, o)] } : Sv).M H' := by
    refine ⟨fun a q m => hk a q (fun z => m (z ▸ v.inS)) (fun z => m (z ▸ v.inF)), fun a m => ?_⟩
    rw [eM'] at m
    rw [eM]
    rcases List.mem_append.mp m with m | m
    · exact .inl (List.mem_append_left _ m)
    rcases List.mem_append.mp m with m | m
    · exact .inl (List.mem_append_right _ (List.mem_append_left _ m))
    rcases List.mem_cons.mp m with m | m
    · exact .inr (by rw [m]; exact f1)
    rcases List.mem_cons.mp m with m | m
    · exact .inr (by rw [m]; exact f2)
    · exact .inl (List.mem_append_right _ (List.mem_append_right _ m))
  have stk := h.stk
  rw [e] at stk
  have s1 := StAt.left stk
  refine ⟨⟨⟨hS, hk _ _ ne.sn.symm ne.nf h.b.hN, hk _ _ ne.sd.symm ne.df h.b.hD, Paired.mapP h.b.nst fun _ _ => NestAt.same g.same, Paired.mapP h.b.dds fun _ _ => DeedAt.same g.same, h.b.nl, hk _ _ ne.sq.symm ne.fq.symm h.b.hQ⟩, ?_, ?_, StAt.snoc.mpr ⟨s1.keep g.same (Nat.le_refl _) fun a m q => ?_, ⟨⟨x1, x2, .nil, rfl, rfl, Nat.zero_le _, hm⟩, fun y ey => ?_, k1, k2⟩⟩, ?_⟩, g⟩
  · rw [eM']
    obtain ⟨n1, n2, n3⟩ := List.nodup_append.mp nM
    obtain ⟨n4, n5, n6⟩ := List.nodup_append.mp n2
    simp only [List.mem_append, not_or] at nf1 nf2
    refine List.nodup_append.mpr ⟨n1, List.nodup_append.mpr ⟨n4, List.nodup_cons.mpr ⟨?_, List.nodup_cons.mpr ⟨nf2.2.2, n5⟩⟩, fun a ha b hb z => ?_⟩, fun a ha b hb z => ?_⟩
    · intro z
      rcases List.mem_cons.mp z with z | z
      · exact fr z
      · exact nf1.2.2 z
    · subst z
      rcases List.mem_cons.mp hb with z | hb
      · exact nf1.2.1 (z ▸ ha)
      rcases List.mem_cons.mp hb with z | hb
      · exact nf2.2.1 (z ▸ ha)
      · exact n6 a ha a hb rfl
    · subst z
      rcases List.mem_append.mp hb with hb | hb
      · exact n3 a ha a (List.mem_append_left _ hb) rfl
      rcases List.mem_cons.mp hb with z | hb
      · exact nf1.1 (z ▸ ha)
      rcases List.mem_cons.mp hb with z | hb
      · exact nf2.1 (z ▸ ha)
      · exact n3 a ha a (List.mem_append_right _ hb) rfl
  · rw [hF, List.map_append]
    rfl
  · have := nea a (List.mem_append_left _ m)
    exact hk a q this.1 this.2.2.2.1
  · have mo : ∀ a ∈ [y.f, y.rl], a ∈ adsL st ++ adsO o := fun a m => by rw [show o = some y from ey]; exact List.mem_append_right _ m
    have a1 := nea _ (mo y.f (by simp))
    have a2 := nea _ (mo y.rl (by simp))
    exact (ol y ey).keep (fun q => hk _ q a1.1 a1.2.2.2.1) (fun q => hk _ q a2.1 a2.2.2.2.1) g.same (Nat.le_refl _)
  · show (st ++ [_]).length ≤ 7
    rw [List.length_append]
    exact ll
theorem RowAt.upN {ki : List Nat} {y : V} {r : Rw} : ∀ {n d : Nat}, RowAt A N ki H d y r → RowAt A N ki H (d + n) y r
  | 0, _, h => h
  | n + 1, d, h => RowAt.up (RowAt.upN (n := n) h)
theorem exact_upN {ki : List Nat} (kn : Nat → Option Int) {y : V} {r : Rw} : ∀ {n d : Nat}, RowAt A N ki H d y r → exactR kn (d + n) r = exactR kn d r
  | 0, _, h => rfl
  | n + 1, d, h => (exact_up kn (RowAt.upN (n := n) h)).trans (exact_upN kn h)
theorem mk_LastRow {x dx : Addr} {R : VK} {v_number : V} (T : Txt K mg A) (hx : H x = none) (hd : H dx = none) (q : ∀ (H' : Hp), Same H H' → H' x = some (.ins A.LastRow dx [("number", v_number)]) → R .non H') : sp_Row_init K A (.ref x :: ([v_number] ++ [])) (upd (upd H dx (.own x)) x (.ins A.LastRow dx [])) R E0 :=
  ⟨x, A.LastRow, dx, [], _, rfl, upd_same, T.o_LastRow.cl, T.n_LastRow_number, by decide, q _ (Same.out (Same.out (Same.upd hd _) hx _) hx _) upd_same⟩
def mu (st : List Ft) : Nat := (st.map fun it => if it.2.isSome then 1 else 2).sum
theorem mu_snoc (st : List Ft) (it : Ft) : mu (st ++ [it]) = mu st + (if it.2.isSome then 1 else 2) := by
  unfold mu
  simp
theorem mu_le : ∀ st : List Ft, mu st ≤ 2 * st.length
  | [] => Nat.le_refl _
  | it :: r => by
    have := mu_le r
    unfold mu at this ⊢
    rw [List.map_cons, List.sum_cons, List.length_cons]
    split <;> omega
end
end K13

set_option Elab.async false
set_option linter.all false
set_option maxRecDepth 100000
set_option maxHeartbeats 4000000
namespace K13
open PySem L2
section
variable {P : Program} {w : World} {K : PySem.W.Frag} {mg : Str → Option Value} {base : Heap} {A : Adr} {N : Nat → Str} {k : Kn}
def sp_close (A : Adr) (N : Nat → Str) (k : Kn) : Sp := fun vs H Q _ => ∃ (v : Sv) (cell : Int) (st : List Ft) (it1 it : Ft), vs = [.ref v.s.S, .int cell] ∧ LS A N k H v ∧ v.st = st ++ [it1] ++ [it] ∧ v.c ≤ 800 ∧
  ∀ H' v', LS A N k H' v' → Go v.M H v'.M H' → v'.s = v.s → v'.dv = v.dv → v'.c = v.c + 2 → v'.st ≠ [] → mu v'.st < mu v.st → Q .non H'
theorem seq_cut2 {v' : V} {i' : Nat} {t u : TS} {D : Ends} {σ : St} {H : Hp} (h : ∀ N : St → Hp → Prop, (∀ σ H, u D σ H → N σ H) → t { D with nx := N } (σ.set i' (some v')) H) : tSeq (tAsg (tC v') (gName i')) (tSeq t u) D σ H := h (u D) fun _ _ z => z
theorem at_last (xs : List V) (y : V) : atI (xs ++ [y]) (-1) = some y := by
  unfold atI ixN
  simp
  rw [if_pos (by omega), show (-1 + ((xs.length : Int) + 1)).toNat = xs.length by omega]
  simp
theorem h_close (T : Txt K mg A) : Has P w K mg base 5 "_law_close" ["_law_state", "_law_cell"] (sp_close A N k) := by
  have D_law_frame := h_frame (P := P) (w := w) (base := base) T
  have D_law_idles := h_idles (P := P) (w := w) (base := base) T
  have D_law_add := h_add (P := P) (w := w) (base := base) T
  have D_IfRow_init := h_IfRow_init (P := P) (w := w) (base := base) T
  have D_LoopRow_init := h_LoopRow_init (P := P) (w := w) (base := base) T
  refine T.law_close.has (k := 4) sc_law_close (fun vs H Q E h => ?_) (fun f cdv A' outer s H vs Q E hr hu h => ?_)
  · obtain ⟨v, cell, st, it1, it, rfl, _⟩ := h
    rfl
  · obtain ⟨v, cell, st, it1, it, rfl, L, e, hc, q⟩ := h
    refine ⟨_, (pss_cons (ps_set (i := 2) sc_law_close.nd rfl (Or.inl rfl) (m_pop (pe_ix (ix_all hu) (fv 0) (pe_str) (fun _ _ => rfl))))
    (pss_cons (ps_asg (pe_op o_add (pe_ix (ix_all hu) (fv 0) (pe_str) (fun _ _ => rfl)) (pe_int)) (pg_sub (fv 0) (pe_str) (st_all hu set_list)))
    (pss_cons (ps_if (pt_cmpR (o_eqU hu) (pe_ix (ix_all hu) (fv 2) (pe_str) (fun _ _ => rfl)) (pe_str) (nomark _))
      (pss_cons (ps_set (i := 3) sc_law_close.nd rfl (Or.inl rfl) (pe_callD D_law_frame hr (pa_cons (pe_str) (pa_cons (pe_ix (ix_all hu) (fv 2) (pe_str) (fun _ _ => rfl)) (pa_cons (pe_ix (ix_all hu) (fv 2) (pe_str) (fun _ _ => rfl)) (pa_cons (pe_int) pa_nil))))))
      (pss_cons (ps_asg (fv 2) (pg_sub (fv 3) (pe_str) (st_all hu set_list)))
      (pss_cons (ps_expr (m_append (pe_ix (ix_all hu) (fv 0) (pe_str) (fun _ _ => rfl)) (pa_cons (fv 3) pa_nil)))
      (pss_one (ps_retN)))))
      pss_nil)
    (pss_cons (ps_if (pt_cmpR (o_eqU hu) (pe_ix (ix_all hu) (fv 2) (pe_str) (fun _ _ => rfl)) (pe_str) (nomark _))
      (pss_cons (ps_set (i := 4) sc_law_close.nd rfl (Or.inl rfl) (pe_ix (ix_all hu) (fv 2) (pe_str) (fun _ _ => rfl)))
      (pss_cons (ps_asg (pe_callD D_law_idles hr (pa_cons (fv 1) (pa_cons (pe_ix (ix_all hu) (fv 4) (pe_str) (fun _ _ => rfl)) (pa_cons (pe_ix (ix_all hu) (fv 2) (pe_str) (fun _ _ => rfl)) pa_nil)))) (pg_tup rfl (pgs_cons (pg_name (i := 5) sc_law_close.nd rfl (by first | exact Or.inl rfl | exact Or.inr rfl)) (pgs_cons (pg_name (i := 6) sc_law_close.nd rfl (by first | exact Or.inl rfl | exact Or.inr rfl)) (pgs_nil)))))
      (pss_cons (ps_set (i := 7) sc_law_close.nd rfl (Or.inl rfl) (pe_callB c_max rfl T.z_max (by boot_by_name) (pa_cons (pe_op o_add (fv 5) (pe_ix (ix_all hu) (fv 4) (pe_str) (fun _ _ => rfl))) (pa_cons (pe_op o_add (fv 6) (pe_ix (ix_all hu) (fv 2) (pe_str) (fun _ _ => rfl))) pa_nil))))
      (pss_cons (ps_set (i := 8) sc_law_close.nd rfl (Or.inl rfl) (pe_non))
      (pss_cons (ps_if (PW.pt (pw_and (pt_cmpR (o_isnot) (pe_ix (ix_all hu) (fv 4) (pe_str) (fun _ _ => rfl)) (pe_non) (nomark _)) (pw_and1 (pt_cmpR (o_isnot) (pe_ix (ix_all hu) (fv 2) (pe_str) (fun _ _ => rfl)) (pe_non) (nomark _)))))
        (pss_one (ps_if (pt_cmpR (o_eqU hu) (pe_op o_add (fv 5) (pe_ix (ix_all hu) (fv 4) (pe_str) (fun _ _ => rfl))) (pe_op o_add (fv 6) (pe_ix (ix_all hu) (fv 2) (pe_str) (fun _ _ => rfl))) (nomark _))
          (pss_one (ps_set (i := 8) sc_law_close.nd rfl (Or.inl rfl) (pe_op o_add (fv 5) (pe_ix (ix_all hu) (fv 4) (pe_str) (fun _ _ => rfl)))))
          pss_nil))
        pss_nil)
      (pss_one (ps_set (i := 9) sc_law_close.nd rfl (Or.inl rfl) (pe_makeD T.o_IfRow D_IfRow_init hr (pa_cons (pe_ix (ix_all hu) (fv 2) (pe_str) (fun _ _ => rfl)) (pa_cons (pe_tup (pa_cons (pe_ix (ix_all hu) (fv 0) (pe_str) (fun _ _ => rfl)) pa_nil)) (pa_cons (pe_ix (ix_all hu) (fv 4) (pe_str) (fun _ _ => rfl)) (pa_cons (pe_ix (ix_all hu) (fv 2) (pe_str) (fun _ _ => rfl)) (pa_cons (fv 5) (pa_cons (fv 6) pa_nil))))))))))))))
      (pss_cons (ps_asg (pe_callD D_law_idles hr (pa_cons (fv 1) (pa_cons (pe_ix (ix_all hu) (fv 2) (pe_str) (fun _ _ => rfl)) (pa_cons (pe_int) pa_nil)))) (pg_tup rfl (pgs_cons (pg_name (i := 5) sc_law_close.nd rfl (by first | exact Or.inl rfl | exact Or.inr rfl)) (pgs_cons (pg_name (i := 6) sc_law_close.nd rfl (by first | exact Or.inl rfl | exact Or.inr rfl)) (pgs_nil)))))
      (pss_cons (ps_set (i := 7) sc_law_close.nd rfl (Or.inl rfl) (pe_op o_mulA (pe_ix (ix_all hu) (fv 2) (pe_str) (fun _ _ => rfl)) (pe_callB c_max rfl T.z_max (by boot_by_name) (pa_cons (pe_op o_add (fv 5) (pe_ix (ix_all hu) (fv 2) (pe_str) (fun _ _ => rfl))) (pa_cons (fv 6) pa_nil)))))
      (pss_cons (ps_set (i := 8) sc_law_close.nd rfl (Or.inl rfl) (pe_non))
      (pss_cons (ps_if (PW.pt (pw_and (pt_cmpR (o_isnot) (pe_ix (ix_all hu) (fv 2) (pe_str) (fun _ _ => rfl)) (pe_non) (nomark _)) (pw_and1 (pt_cmpR (o_eqU hu) (pe_op o_add (fv 5) (pe_ix (ix_all hu) (fv 2) (pe_str) (fun _ _ => rfl))) (fv 6) (nomark _)))))
        (pss_one (ps_set (i := 8) sc_law_close.nd rfl (Or.inl rfl) (pe_op o_mulA (pe_ix (ix_all hu) (fv 2) (pe_str) (fun _ _ => rfl)) (fv 6))))
        pss_nil)
      (pss_one (ps_set (i := 9) sc_law_close.nd rfl (Or.inl rfl) (pe_makeD T.o_LoopRow D_LoopRow_init hr (pa_cons (pe_ix (ix_all hu) (fv 2) (pe_str) (fun _ _ => rfl)) (pa_cons (pe_ix (ix_all hu) (fv 0) (pe_str) (fun _ _ => rfl)) (pa_cons (pe_ix (ix_all hu) (fv 2) (pe_str) (fun _ _ => rfl)) (pa_cons (pe_ix (ix_all hu) (fv 2) (pe_str) (fun _ _ => rfl)) (pa_cons (fv 5) (pa_cons (fv 6) pa_nil))))))))))))))
    (pss_cons (ps_expr (m_append (pe_ix (ix_all hu) (fv 0) (pe_str) (fun _ _ => rfl)) (pa_cons (pe_tup (pa_cons (fv 9) (pa_cons (pe_cmpR (o_isnot) (fv 8) (pe_non) (nomark _)) pa_nil))) pa_nil)))
    (pss_one (ps_expr (pe_callD D_law_add hr (pa_cons (pe_ix (ix_all hu) (pe_ix (ix_all hu) (fv 0) (pe_str) (fun _ _ => rfl)) (pe_un un_neg (pe_int)) (fun _ _ => rfl)) (pa_cons (fv 9) (pa_cons (fv 7) (pa_cons (fv 8) pa_nil)))))))))))), ?_⟩
    have hF := L.hF
    rw [e, List.map_append] at hF
    have ln : st.length + 2 ≤ 7 := by
      have := L.ln
      rw [e] at this
      simpa using this
    have l0 : (st ++ [it1]).length = st.length + 1 := by simp
    obtain ⟨L1, g1, t1, m1, n1⟩ := L.pop e
    refine ⟨_, DGet.k (k := .inr "frames") L.b.hS, Or.inl ⟨rfl, _, SqL.of hF⟩, _, _, .ref it.1.f, rfl, rfl, hF, (by simp), ?_⟩
    rw [show (List.map (fun it : Ft => V.ref it.1.f) (st ++ [it1]) ++ List.map (fun it : Ft => V.ref it.1.f) [it]).dropLast = List.map (fun it : Ft => V.ref it.1.f) (st ++ [it1]) from List.dropLast_concat]
    have k1 : ∀ a o, a ≠ v.F → H a = some o → (upd H v.F (.lst ((st ++ [it1]).map fun it => .ref it.1.f))) a = some o := fun a o n => upd_keep n
    generalize upd H v.F (.lst ((st ++ [it1]).map fun it => .ref it.1.f)) = H1 at L1 g1 t1 k1 ⊢
    refine ⟨_, DGet.k (k := .inr "number") L1.b.hS, _, DPut.k (k := .inr "number") L1.b.hS (show 5 < sizeLine by decide), ?_⟩
    rw [show putK (stK v.num (.ref v.F) v.s.Nl v.s.Dl (N 0)) (.inr "number") (.int (v.num + 1)) = stK (v.num + 1) (.ref v.F) v.s.Nl v.s.Dl (N 0) from rfl]
    have L2 := L1.num (v.num + 1)
    have g2 : Go v.M H ({ v with st := st ++ [it1], num := v.num + 1 } : Sv).M (upd H1 v.s.S (.dK (stK (v.num + 1) (.ref v.F) v.s.Nl v.s.Dl (N 0)))) := g1.trans (Go.at (Sv.inS _) _)
    have t2 : FtAt A N k (upd H1 v.s.S (.dK (stK (v.num + 1) (.ref v.F) v.s.Nl v.s.Dl (N 0)))) (del v.M H) v.c (6 - (st ++ [it1]).length) it := t1.keep (fun a m _ => upd_keep (fun z => (m1 a m).2 (z ▸ Sv.inS _))) (fun _ _ h => h) (Nat.le_refl _)
    have k2 : ∀ a o, a ≠ v.s.S → a ≠ v.F → H a = some o → (upd H1 v.s.S (.dK (stK (v.num + 1) (.ref v.F) v.s.Nl v.s.Dl (N 0)))) a = some o := fun a o n1 n2 e => upd_keep n1 (k1 a o n2 e)
    dsimp only at L2
    generalize upd H1 v.s.S (.dK (stK (v.num + 1) (.ref v.F) v.s.Nl v.s.Dl (N 0))) = H2 at L2 g2 t2 k2 ⊢
    refine ⟨_, DGet.k (k := .inr "kind") t2.a.hf, rfl, _, rfl, ite2 (fun c1 => ?_) (fun c1 => ?_)⟩
    · have kf : it.1.kd = "first" := V.str.inj (of_decide_eq_true c1)
      have o0 := t2.k1 kf
      refine ⟨_, DGet.k (k := .inr "number") t2.a.hf, _, DGet.k (k := .inr "room") t2.a.hf, "other", it.1.n, it.1.rm, 0, rfl, fun f rl H3 s3 f0 r0 fr hf3 hl3 => ?_⟩
      refine ⟨_, DPut.k (k := .inr "one") hf3 (show 8 < sizeLine by decide), ?_⟩
      rw [show putK (frK "other" it.1.n it.1.rm 0 rl 0 (.int 0) .non) (.inr "one") (.ref it.1.f) = frK "other" it.1.n it.1.rm 0 rl 0 (.int 0) (.ref it.1.f) from rfl]
      have s4 : Same H2 (upd H3 f (.dK (frK "other" it.1.n it.1.rm 0 rl 0 (.int 0) (.ref it.1.f)))) := Same.out s3 f0 _
      have e4 : (upd H3 f (.dK (frK "other" it.1.n it.1.rm 0 rl 0 (.int 0) (.ref it.1.f)))) f = some (.dK (frK "other" it.1.n it.1.rm 0 rl 0 (.int 0) (.ref it.1.f))) := upd_same
      have l4 : (upd H3 f (.dK (frK "other" it.1.n it.1.rm 0 rl 0 (.int 0) (.ref it.1.f)))) rl = some (.lst []) := upd_keep fr.symm hl3
      generalize upd H3 f (.dK (frK "other" it.1.n it.1.rm 0 rl 0 (.int 0) (.ref it.1.f))) = H4 at s4 e4 l4 ⊢
      have hF4 := s4 _ _ L2.hF
      refine ⟨_, DGet.k (k := .inr "frames") (s4 _ _ L2.b.hS), Or.inl ⟨rfl, _, SqL.of hF4⟩, _, _, _, rfl, rfl, hF4, small1000 (by simp; omega), ?_⟩
      have ffree : ∀ a, H2 a = none → H a = none ∧ a ≠ v.s.S ∧ a ≠ v.F := fun a z => by
        have a1 : a ≠ v.s.S := fun y => by rw [y, L2.b.hS] at z; cases z
        have a2 : a ≠ v.F := fun y => by rw [y, L2.hF] at z; cases z
        refine ⟨?_, a1, a2⟩
        cases e : H a with
        | none => rfl
        | some o => rw [k2 a o a1 a2 e] at z; cases z
      obtain ⟨ff, fS, fF⟩ := ffree f f0
      obtain ⟨rr, rS, rF⟩ := ffree rl r0
      have stk := L.stk
      rw [e] at stk
      have it0 := (StAt.snoc.mp stk).2.a
      rw [o0] at it0
      have sf := L.ne.sf
      obtain ⟨L5, g5⟩ := L.put (H' := upd H4 v.F (.lst (List.map (fun it : Ft => V.ref it.1.f) (st ++ [it1]) ++ [.ref f]))) (n := v.num + 1) (kd := "other") (nn := it.1.n) (rm := it.1.rm) (mn := 0) (o := some it.1) e (by show adsI it ++ [] = _; unfold adsI; rw [o0]; rfl) (upd_keep sf (s4 _ _ L2.b.hS)) upd_same (fun a o h1 h2 h => upd_keep h2 (s4 _ _ (k2 a o h1 h2 h))) ff rr fr (upd_keep fF e4) (upd_keep rF l4) ⟨by decide, by decide⟩ (fun z => absurd z (by decide)) (fun _ => by simp) (fun y ey => by cases ey; exact it0) (by omega)
      refine q _ _ (L5.up (c := v.c + 2) (Nat.le_add_right _ _)) g5 rfl rfl rfl (by simp) ?_
      show mu (st ++ [it1] ++ [_]) < mu v.st
      rw [e, mu_snoc (st ++ [it1]), mu_snoc (st ++ [it1]) it, o0]
      simp
    dsimp only [tNext]
    refine seq_cut fun M KM => ?_
    have fin : ∀ (v3 v4 v5 v6 : Option V) (y : V) (r : Rw) (n : Int) (su : Option Int) (H5 : Hp), Same H2 H5 → RowAt A N k.ki (del ({ v with st := st ++ [it1], num := v.num + 1 } : Sv).M H5) (6 - st.length) y r → mostR k.kn (6 - st.length) r = 1 + n → exactR k.kx (6 - st.length) r = su.map (fun b => 1 + b) →
        M [some (.ref v.s.S), some (.int cell), some (.ref it.1.f), v3, v4, v5, v6, some (.int n), some (optV su), some y] H5 := fun v3 v4 v5 v6 y r n su H5 s5 ra em ex => KM _ _ (by
      have L5 := L2.same s5
      refine ⟨_, DGet.k (k := .inr "nests") L5.b.hS, Or.inl ⟨rfl, _, SqL.of L5.b.hN⟩, rfl, (by show 2 ≤ sizeLine; decide), fun t ht => ?_⟩
      have s6 := Same.upd ht (HO.tup [y, .bl (!decide (optV su = .non))])
      have t6 : (upd H5 t (HO.tup [y, .bl (!decide (optV su = .non))])) t = some (HO.tup [y, .bl (!decide (optV su = .non))]) := upd_same
      generalize upd H5 t (HO.tup [y, .bl (!decide (optV su = .non))]) = H6 at s6 t6 ⊢
      have L6 := L5.same s6
      refine ⟨_, _, _, rfl, rfl, L6.b.hN, small1000 (show v.nv.length ≤ 1000 by have : v.nv.length ≤ v.c := L6.b.nl; omega), ?_⟩
      have dd : 6 - st.length + st.length = 6 := by omega
      have ex6 : exactR k.kx 6 r = su.map fun b => 1 + b := by rw [← dd, exact_upN k.kx ra]; exact ex
      have ra6 := ra.same (Go.new s6).same
      have L7 := L6.nest (t := t) (y := y) (r := r) (by rw [t6, ex6]; cases su <;> rfl) (L5.free ht) (by rw [← dd]; exact ra6.upN)
      have g7 : Go v.M H ({ v with st := st ++ [it1], num := v.num + 1, nv := v.nv ++ [.ref t], nr := v.nr ++ [r], c := v.c + 1 } : Sv).M (upd H6 v.s.Nl (.lst (v.nv ++ [.ref t]))) := (g2.trans (Go.new (s5.trans s6))).trans (Go.at (Sv.inN _) _)
      have ra7 := ra6.same (Go.at (H := H6) (Sv.inN ({ v with st := st ++ [it1], num := v.num + 1 } : Sv)) (.lst (v.nv ++ [.ref t]))).same
      dsimp only at L7
      generalize upd H6 v.s.Nl (.lst (v.nv ++ [.ref t])) = H7 at L7 g7 ra7 ⊢
      have hF7 := L7.hF
      rw [List.map_append] at hF7
      have stk7 := (StAt.snoc.mp L7.stk).2
      refine ⟨_, DGet.k (k := .inr "frames") L7.b.hS, _, rfl, Or.inl ⟨_, _, Or.inl (SqL.of hF7), at_last _ _, ?_⟩⟩
      refine ⟨it1.1.f, it1.1.rl, y, n, su, it1.1.ex, it1.1.kd, it1.1.n, it1.1.rm, it1.1.mn, it1.1.ms, oneV it1.2, it1.1.xs, rfl, stk7.a.hf, stk7.a.hl, (by have := stk7.a.le; dsimp only at this; omega), fun H8 hk h1 h2 => ?_⟩
      obtain ⟨L8, g8⟩ := L7.add (it := it1) (y := y) (r := r) (n := n) (su := su) rfl ra7 em ex hk h1 h2
      refine q _ _ L8 (g7.trans g8) rfl rfl rfl (by simp) ?_
      show mu (st ++ [_]) < mu v.st
      rw [e, mu_snoc st, mu_snoc (st ++ [it1]) it, mu_snoc st it1]
      show mu st + (if it1.2.isSome then 1 else 2) < _
      split <;> split <;> omega)
    have d1 : 6 - st.length = (6 - (st ++ [it1]).length) + 1 := by rw [l0]; omega
    have sX := g2.same
    refine ⟨_, DGet.k (k := .inr "kind") t2.a.hf, rfl, _, rfl, ite2 (fun c2 => ?_) (fun c2 => ?_)⟩
    · have ko : it.1.kd = "other" := V.str.inj (of_decide_eq_true c2)
      obtain ⟨o, eo⟩ : ∃ o, it.2 = some o := by
        cases h : it.2 with
        | none => exact absurd h (t2.k2 ko)
        | some o => exact ⟨o, rfl⟩
      have ta := t2.a
      have to := t2.o o eo
      rw [eo] at ta
      refine ⟨_, DGet.k (k := .inr "one") ta.hf, ?_⟩
      refine ⟨_, DGet.k (k := .inr "most") to.hf, _, DGet.k (k := .inr "most") ta.hf, cell, o.ms, it.1.ms, rfl, fun t l r H3 s3 h3 => ⟨t, _, rfl, SqT.of h3, rfl, _, _, rfl, _, _, rfl, rfl, ?_⟩⟩
      have ta3 := s3 _ _ ta.hf
      have to3 := s3 _ _ to.hf
      refine ⟨_, DGet.k (k := .inr "most") to3, _, DGet.k (k := .inr "most") ta3, _, _, rfl, ?_⟩
      dsimp only
      refine seq_cut2 fun M2 KM2 => ?_
      have fin2 : ∀ su : Option Int, exactR k.kx (6 - st.length) (.iff o.rs it.1.rs l r) = su.map (fun b => 1 + b) → M2 [some (.ref v.s.S), some (.int cell), some (.ref it.1.f), none, some (.ref o.f), some (.int l), some (.int r), some (.int (if l + o.ms < r + it.1.ms then r + it.1.ms else l + o.ms)), some (optV su), none] H3 := fun su ex => KM2 _ _ (by
        refine ⟨_, DGet.k (k := .inr "number") ta3, _, DGet.k (k := .inr "x") (s3 _ _ L2.b.hS), (by show 1 ≤ sizeLine; decide), fun p hp => ?_⟩
        have s4 := Same.upd hp (HO.tup [.str (N 0)])
        generalize upd H3 p (HO.tup [.str (N 0)]) = H4 at s4 ⊢
        refine ⟨_, DGet.k (k := .inr "rows") (s4 _ _ to3), _, DGet.k (k := .inr "rows") (s4 _ _ ta3), ?_⟩
        have s34 := s3.trans s4
        refine fun r5 dx hr5 hd_ hne_ => mk_IfRow (SqL.of (s34 _ _ to.hl)) (SqL.of (s34 _ _ ta.hl)) hr5 hd_ fun n1 n2 H5 f1 f2 s5 h1 h2 hx => ⟨rfl, ?_⟩
        have L4 := L2.same s34
        have sY : Same (del v.M H) (del ({ v with st := st ++ [it1], num := v.num + 1 } : Sv).M H5) := sX.trans (Go.new (s34.trans s5)).same
        refine fin _ _ _ _ _ (.iff o.rs it.1.rs l r) _ su H5 (s34.trans s5) ?_ ?_ ex
        · rw [d1]
          exact ⟨r5, dx, _, _, n1, n2, o.xs, it.1.xs, rfl, del_some (L4.free hr5) hx, del_some (L4.free f1) h1, del_some (L4.free f2) h2, Nat.le_trans to.le (by omega), Nat.le_trans ta.le (by omega), Paired.mapP to.pr fun _ _ => RowAt.same sY, Paired.mapP ta.pr fun _ _ => RowAt.same sY⟩
        · rw [d1, to.em, ta.em]
          rfl)
      have exq : exactR k.kx (6 - st.length) (.iff o.rs it.1.rs l r) = (match o.ex, it.1.ex with
          | some x, some y => if l + x = r + y then some (1 + l + x) else none
          | _, _ => none) := by
        rw [d1, to.ee, ta.ee]
        rfl
      cases h1 : o.ex with
      | none =>
        rw [h1] at to3 exq
        exact ⟨_, DGet.k (k := .inr "exact") to3, rfl, _, rfl, iteF (fin2 none exq)⟩
      | some x =>
        rw [h1] at to3 exq
        refine ⟨_, DGet.k (k := .inr "exact") to3, rfl, _, rfl, iteT ?_⟩
        cases h2 : it.1.ex with
        | none =>
          rw [h2] at ta3 exq
          exact ⟨_, DGet.k (k := .inr "exact") ta3, rfl, _, rfl, iteF (fin2 none exq)⟩
        | some y =>
          rw [h2] at ta3 exq
          refine ⟨_, DGet.k (k := .inr "exact") ta3, rfl, _, rfl, iteT ?_⟩
          refine ⟨_, DGet.k (k := .inr "exact") to3, _, DGet.k (k := .inr "exact") ta3, rfl, _, rfl, ?_⟩
          rw [vint]
          dsimp only at exq
          by_cases c : l + x = r + y
          · rw [decide_eq_true c]
            rw [if_pos c] at exq
            exact iteT ⟨_, DGet.k (k := .inr "exact") to3, fin2 (some (l + x)) (by rw [exq]; simp; omega)⟩
          · rw [decide_eq_false c]
            rw [if_neg c] at exq
            exact iteF (fin2 none exq)
    · have ta := t2.a
      refine ⟨_, DGet.k (k := .inr "most") ta.hf, cell, it.1.ms, 0, rfl, fun t l r H3 s3 h3 => ⟨t, _, rfl, SqT.of h3, rfl, _, _, rfl, _, _, rfl, rfl, ?_⟩⟩
      have ta3 := s3 _ _ ta.hf
      refine ⟨_, DGet.k (k := .inr "many") ta3, _, DGet.k (k := .inr "most") ta3, _, _, rfl, .inl ta.mn, ?_⟩
      dsimp only
      refine seq_cut2 fun M2 KM2 => ?_
      have fin2 : ∀ su : Option Int, exactR k.kx (6 - st.length) (.loop it.1.mn it.1.rs l r) = su.map (fun b => 1 + b) → M2 [some (.ref v.s.S), some (.int cell), some (.ref it.1.f), none, none, some (.int l), some (.int r), some (.int (it.1.mn * (if l + it.1.ms < r then r else l + it.1.ms))), some (optV su), none] H3 := fun su ex => KM2 _ _ (by
        refine ⟨_, DGet.k (k := .inr "number") ta3, _, DGet.k (k := .inr "x") (s3 _ _ L2.b.hS), _, DGet.k (k := .inr "many") ta3, _, DGet.k (k := .inr "rows") ta3, ?_⟩
        refine fun r5 dx hr5 hd_ hne_ => mk_LoopRow (SqL.of (s3 _ _ ta.hl)) hr5 hd_ fun n1 H5 f1 s5 h1 hx => ⟨rfl, ?_⟩
        have L4 := L2.same s3
        have sY : Same (del v.M H) (del ({ v with st := st ++ [it1], num := v.num + 1 } : Sv).M H5) := sX.trans (Go.new (s3.trans s5)).same
        refine fin _ _ _ _ _ (.loop it.1.mn it.1.rs l r) _ su H5 (s3.trans s5) ?_ ?_ ex
        · rw [d1]
          exact ⟨ta.mn, r5, dx, _, _, n1, it.1.xs, rfl, del_some (L4.free hr5) hx, del_some (L4.free f1) h1, Nat.le_trans ta.le (by omega), Paired.mapP ta.pr fun _ _ => RowAt.same sY⟩
        · rw [d1, ta.em]
          rfl)
      have exq : exactR k.kx (6 - st.length) (.loop it.1.mn it.1.rs l r) = (match it.1.ex with
          | some x => if l + x = r then some (1 + it.1.mn * r) else none
          | none => none) := by
        rw [d1, ta.ee]
        rfl
      cases h1 : it.1.ex with
      | none =>
        rw [h1] at ta3 exq
        exact ⟨_, DGet.k (k := .inr "exact") ta3, rfl, _, rfl, iteF (fin2 none exq)⟩
      | some x =>
        rw [h1] at ta3 exq
        refine ⟨_, DGet.k (k := .inr "exact") ta3, rfl, _, rfl, iteT ?_⟩
        refine ⟨_, DGet.k (k := .inr "exact") ta3, rfl, _, rfl, ?_⟩
        rw [vint]
        dsimp only at exq
        by_cases c : l + x = r
        · rw [decide_eq_true c]
          rw [if_pos c] at exq
          exact iteT ⟨_, DGet.k (k := .inr "many") ta3, .inl ta.mn, fin2 (some (it.1.mn * r)) (by rw [exq]; rfl)⟩
        · rw [decide_eq_false c]
          rw [if_neg c] at exq
          exact iteF (fin2 none exq)
end
end K13

set_option Elab.async false
set_option linter.all false
set_option maxRecDepth 100000
set_option maxHeartbeats 4000000
namespace K13
open PySem L2
section
variable {P : Program} {w : World} {K : PySem.W.Frag} {mg : Str → Option Value} {base : Heap} {A : Adr} {N : Nat → Str} {k : Kn}
def optD : Option Int → PyData
  | some x => .int x
  | none => .none
def deedD (N : Nat → Str) (k : Kn) (i : Nat) : PyData := .tuple [.str (N i), .int (k.kn i), optD (k.kx i)]
theorem rep_opt {H : Hp} (x : Option Int) : RepD K H (optV x) (optD x) := by
  cases x with
  | none => exact .non
  | some y => exact .int y
theorem rep_deeds {H X : Hp} (s : Same X H) : ∀ {dv : List V} {ki : List Nat}, PySem.Paired (DeedAt N k X) dv ki → RepAll K H dv (ki.map (deedD N k))
  | _, _, .nil => .nil
  | _, _, .cons h r => by
    obtain ⟨t, rfl, h⟩ := h
    exact .cons (.tup (SqT.of (s _ _ h)) (.cons (.str _) (.cons (.int _) (.cons (rep_opt _) .nil)))) (rep_deeds s r)
def Ki3 (ki : List Nat) : Prop := ki = [] ∨ ki = [1] ∨ ki = [1, 2]
theorem Ki3.shaped {ki : List Nat} (h : Ki3 ki) (ok : ∀ i, PyData.strOk (N i) = true) : SeqAt.shaped (.list (ki.map (deedD N k))) = true := by
  rcases h with rfl | rfl | rfl
  · rfl
  · simp only [List.map_cons, List.map_nil, deedD]
    cases k.kx 1 <;> simp [SeqAt.shaped, PyData.canLay0, PyData.canLayAll0, PyData.depth, PyData.depthAll, optD, ok]
  · simp only [List.map_cons, List.map_nil, deedD]
    cases k.kx 1 <;> cases k.kx 2 <;> simp [SeqAt.shaped, PyData.canLay0, PyData.canLayAll0, PyData.depth, PyData.depthAll, optD, ok]
def sp_plain (A : Adr) (N : Nat → Str) (k : Kn) : Sp := fun vs H Q _ => ∃ (v : Sv) (cell way : Int) (st : List Ft) (it : Ft), vs = [.ref v.s.S, .int cell, .int way] ∧ LS A N k H v ∧ v.st = st ++ [it] ∧ v.c ≤ 800 ∧
  ∀ H' v', LS A N k H' v' → Go v.M H v'.M H' → v'.s = v.s → v'.dv = v.dv → v'.c = v.c + 1 → v'.st ≠ [] → Q .non H'
theorem bls_of : ∀ ys : List V, (∀ y ∈ ys, ∃ n : Bool, y = .bl n) → ∃ rs : List Bool, ys = rs.map V.bl
  | [], _ => ⟨[], rfl⟩
  | y :: r, h => by
    obtain ⟨n, rfl⟩ := h y List.mem_cons_self
    obtain ⟨rs, rfl⟩ := bls_of r fun z hz => h z (List.mem_cons_of_mem _ hz)
    exact ⟨n :: rs, rfl⟩
theorem StAt.kind {H X : Hp} {c : Nat} : ∀ {st : List Ft} {d : Nat}, StAt A N k H X c d st → ∀ {x : V}, x ∈ st.map (fun it => V.ref it.1.f) → ∃ (f : Addr) (kd : Str) (n rm mn : Int) (rl : Addr) (ms : Int) (ex one : V), x = .ref f ∧ H f = some (.dK (frK kd n rm mn rl ms ex one))
  | it :: r, d, h, x, m => by
    rcases List.mem_cons.mp m with m | m
    · exact ⟨_, _, _, _, _, _, _, _, _, m, h.1.a.hf⟩
    · exact StAt.kind h.2 m
theorem h_plain (T : Txt K mg A) (h3 : Ki3 k.ki) (ok : ∀ i, PyData.strOk (N i) = true) : Has P w K mg base 5 "_law_plain" ["_law_state", "_law_cell", "_law_way"] (sp_plain A N k) := by
  have D_law_mix := h_mix (P := P) (w := w) (base := base) T
  have D_law_add := h_add (P := P) (w := w) (base := base) T
  have D_CallRow_init := h_CallRow_init (P := P) (w := w) (base := base) T
  have D_SetRow_init := h_SetRow_init (P := P) (w := w) (base := base) T
  have D_LastRow_init := h_Row_init_of (P := P) (w := w) (mg := mg) (base := base) (A := A) T.m_LastRow_init
  refine T.law_plain.has (k := 4) sc_law_plain (fun vs H Q E h => ?_) (fun f cdv A' outer s H vs Q E hr hu h => ?_)
  · obtain ⟨v, cell, way, st, it, rfl, _⟩ := h
    rfl
  · obtain ⟨v, cell, way, st, it, rfl, L, e, hc, q⟩ := h
    refine ⟨_, (pss_cons (ps_set (i := 3) sc_law_plain.nd rfl (Or.inl rfl) (pe_ix (ix_all hu) (pe_ix (ix_all hu) (fv 0) (pe_str) (fun _ _ => rfl)) (pe_un un_neg (pe_int)) (fun _ _ => rfl)))
    (pss_cons (ps_asg (pe_op o_add (pe_ix (ix_all hu) (fv 0) (pe_str) (fun _ _ => rfl)) (pe_int)) (pg_sub (fv 0) (pe_str) (st_all hu set_list)))
    (pss_cons (ps_set (i := 4) sc_law_plain.nd rfl (Or.inl rfl) (pe_ix (ix_all hu) (fv 0) (pe_str) (fun _ _ => rfl)))
    (pss_cons (ps_if (PW.pt (pw_and (pt_cmpR (o_eqU hu) (fv 2) (pe_int) (nomark _)) (pw_and1 (pt_cmpR (o_ne hu) (pe_ix (ix_all hu) (fv 0) (pe_str) (fun _ _ => rfl)) (pe_lst (pa_nil)) (nomark _)))))
      (pss_cons (ps_asg (pe_ix (ix_all hu) (pe_ix (ix_all hu) (fv 0) (pe_str) (fun _ _ => rfl)) (pe_op o_mod (pe_callD D_law_mix hr (pa_cons (fv 1) (pa_cons (pe_int) pa_nil))) (pe_callB c_lenA rfl T.z_len (by boot_by_name) (pa_cons (pe_ix (ix_all hu) (fv 0) (pe_str) (fun _ _ => rfl)) pa_nil))) (fun _ _ => rfl)) (pg_tup rfl (pgs_cons (pg_name (i := 5) sc_law_plain.nd rfl (by first | exact Or.inl rfl | exact Or.inr rfl)) (pgs_cons (pg_name (i := 6) sc_law_plain.nd rfl (by first | exact Or.inl rfl | exact Or.inr rfl)) (pgs_cons (pg_name (i := 7) sc_law_plain.nd rfl (by first | exact Or.inl rfl | exact Or.inr rfl)) (pgs_nil))))))
      (pss_one (ps_if (pt_cmpR (o_le) (pe_op o_add (pe_op o_add (pe_ix (ix_all hu) (fv 3) (pe_str) (fun _ _ => rfl)) (pe_int)) (fv 6)) (pe_ix (ix_all hu) (fv 3) (pe_str) (fun _ _ => rfl)) (nomark _))
        (pss_cons (ps_expr (pe_callD D_law_add hr (pa_cons (fv 3) (pa_cons (pe_makeD T.o_CallRow D_CallRow_init hr (pa_cons (fv 4) (pa_cons (fv 5) (pa_cons (pe_lst (pa_nil)) pa_nil)))) (pa_cons (fv 6) (pa_cons (fv 7) pa_nil))))))
        (pss_one (ps_retN)))
        pss_nil)))
      pss_nil)
    (pss_cons (ps_if (PW.pt (pw_and (pt_cmpR (o_eqU hu) (fv 2) (pe_int) (nomark _)) (pw_and1 (pt_tru (pe_callB c_any rfl T.z_any (by boot_by_name) (pa_cons (pe_comp (N := ["_law_other"]) (own := 1) (fr := []) (CompOk.of (by kernel_rfl!)) rfl (pi_any (pe_ix (ix_all hu) (fv 0) (pe_str) (fun _ _ => rfl))) (fun b => pg_name (i := 0) (show List.Nodup (["_law_other"] : List PySem.Str) by decide +kernel) rfl (by first | exact Or.inl rfl | exact Or.inr rfl)) (fun b => pf_nil) (fun b => pe_cmpR (o_eqU hu) (pe_ix (ix_all hu) (fv 0) (pe_str) (fun _ _ => rfl)) (pe_str) (nomark _))) pa_nil)) (fun _ => rfl)))))
      (pss_cons (ps_expr (pe_callD D_law_add hr (pa_cons (fv 3) (pa_cons (pe_makeD T.o_LastRow D_LastRow_init hr (pa_cons (fv 4) pa_nil)) (pa_cons (pe_int) (pa_cons (pe_int) pa_nil))))))
      (pss_one (ps_retN)))
      pss_nil)
    (pss_one (ps_expr (pe_callD D_law_add hr (pa_cons (fv 3) (pa_cons (pe_makeD T.o_SetRow D_SetRow_init hr (pa_cons (fv 4) (pa_cons (pe_ix (ix_all hu) (fv 0) (pe_str) (fun _ _ => rfl)) (pa_cons (pe_tup (pa_cons (pe_ix (ix_all hu) (fv 0) (pe_str) (fun _ _ => rfl)) (pa_cons (pe_str) (pa_cons (pe_int) pa_nil)))) pa_nil)))) (pa_cons (pe_int) (pa_cons (pe_int) pa_nil)))))))))))), ?_⟩
    have hF := L.hF
    rw [e, List.map_append] at hF
    refine ⟨_, DGet.k (k := .inr "frames") L.b.hS, _, rfl, Or.inl ⟨_, _, Or.inl (SqL.of hF), at_last _ _, ?_⟩⟩
    refine ⟨_, DGet.k (k := .inr "number") L.b.hS, _, DPut.k (k := .inr "number") L.b.hS (show 5 < sizeLine by decide), ?_⟩
    rw [show putK (stK v.num (.ref v.F) v.s.Nl v.s.Dl (N 0)) (.inr "number") (.int (v.num + 1)) = stK (v.num + 1) (.ref v.F) v.s.Nl v.s.Dl (N 0) from rfl]
    have L2 := L.num (v.num + 1)
    have g2 : Go v.M H ({ v with num := v.num + 1 } : Sv).M (upd H v.s.S (.dK (stK (v.num + 1) (.ref v.F) v.s.Nl v.s.Dl (N 0)))) := Go.at v.inS _
    generalize upd H v.s.S (.dK (stK (v.num + 1) (.ref v.F) v.s.Nl v.s.Dl (N 0))) = H2 at L2 g2 ⊢
    refine ⟨_, DGet.k (k := .inr "number") L2.b.hS, ?_⟩
    have stk := L2.stk
    dsimp only at stk
    rw [e] at stk
    have t2 := (StAt.snoc.mp stk).2
    have fin : ∀ (H3 : Hp) (y : V) (r : Rw) (n : Int) (su : Option Int), Same H2 H3 → (∀ d, RowAt A N k.ki (del ({ v with num := v.num + 1 } : Sv).M H3) d y r) → (∀ d, mostR k.kn d r = 1 + n) → (∀ d, exactR k.kx d r = su.map fun b => 1 + b) → sp_add [.ref it.1.f, y, .int n, optV su] H3 (fun _ H' => Q .non H') E0 := fun H3 y r n su s3 ra em ex => by
      refine ⟨it.1.f, it.1.rl, y, n, su, it.1.ex, it.1.kd, it.1.n, it.1.rm, it.1.mn, it.1.ms, oneV it.2, it.1.xs, rfl, s3 _ _ t2.a.hf, s3 _ _ t2.a.hl, (by have := t2.a.le; omega), fun H8 hk h1 h2 => ?_⟩
      obtain ⟨L8, g8⟩ := (L2.same s3).add (it := it) (y := y) (r := r) (n := n) (su := su) e (ra _) (em _) (ex _) hk h1 h2
      exact q _ _ L8 ((g2.trans (Go.new s3)).trans g8) rfl rfl rfl (by simp)
    dsimp only
    refine seq_cut fun M KM => ?_
    have last : ∀ v5 v6 v7 : Option V, ∀ H3, Same H2 H3 → M [some (.ref v.s.S), some (.int cell), some (.int way), some (.ref it.1.f), some (.int (v.num + 1)), v5, v6, v7] H3 := fun v5 v6 v7 H3 s3 => KM _ _ (by
      have L3 := L2.same s3
      refine seq_cut fun M2 KM2 => ?_
      have last2 : ∀ H4, Same H2 H4 → M2 [some (.ref v.s.S), some (.int cell), some (.int way), some (.ref it.1.f), some (.int (v.num + 1)), v5, v6, v7] H4 := fun H4 s4 => KM2 _ _ (by
        have L4 := L2.same s4
        refine ⟨_, DGet.k (k := .inr "x") L4.b.hS, _, DGet.k (k := .inr "x") L4.b.hS, (by show 3 ≤ sizeLine; decide), fun p hp => ?_⟩
        have s5 := Same.upd hp (HO.tup [.str (N 0), .str "+", .int 1])
        generalize upd H4 p (HO.tup [.str (N 0), .str "+", .int 1]) = H5 at s5 ⊢
        refine fun r6 dx hr6 hd_ hne_ => mk_SetRow hr6 hd_ fun H6 s6 hx => ⟨rfl, ?_⟩
        refine fin H6 _ .set 0 (some 0) ((s4.trans s5).trans s6) (fun d => ?_) (fun d => ?_) (fun d => ?_)
        · have : ∃ a dx fs, V.ref r6 = .ref a ∧ (del ({ v with num := v.num + 1 } : Sv).M H6) a = some (.ins A.SetRow dx fs) := ⟨r6, dx, _, rfl, del_some ((L2.same (s4.trans s5)).free hr6) hx⟩
          cases d <;> exact this
        · cases d <;> rfl
        · cases d <;> rfl)
      refine ⟨rfl, _, rfl, ite2 (fun _ => ?_) (fun _ => last2 _ s3)⟩
      have hF3 := L3.hF
      refine ⟨_, DGet.k (k := .inr "frames") L3.b.hS, Or.inl ⟨⟨_, SqL.of hF3⟩, comp_relL (K := K) (fun _ y _ => ∃ b : Bool, y = .bl b) (SqL.of hF3) (small1000 (by rw [List.length_map]; have := L3.ln; omega)) (fun b x H4 G hx s4 kk => ?_) (fun _ _ _ _ _ h => h) (fun _ _ _ _ _ _ _ h => h) (fun D H4 ys hD s4 e4 yl hy => ?_)⟩⟩
      · obtain ⟨fa, kd, n, rm, mn, rl, ms, ex, one, rfl, hf⟩ := StAt.kind L3.stk hx
        exact ⟨_, DGet.k (k := .inr "kind") (s4 _ _ hf), rfl, kk _ _ (Same.refl _) ⟨_, rfl⟩⟩
      · obtain ⟨bs, rfl⟩ := bls_of ys fun y hy2 => by
          obtain ⟨i, hi⟩ := List.getElem?_of_mem hy2
          exact hy i y hi
        refine ⟨D, bs, rfl, SqL.of e4, _, rfl, ite2 (fun _ => ?_) (fun _ => last2 _ (s3.trans s4))⟩
        refine fun r6 dx hr6 hd_ hne_ => mk_LastRow T hr6 hd_ fun H6 s6 hx => ⟨rfl, ?_⟩
        refine fin H6 _ .last 0 (some 0) ((s3.trans s4).trans s6) (fun d => ?_) (fun d => ?_) (fun d => ?_)
        · have : ∃ a dx fs, V.ref r6 = .ref a ∧ (del ({ v with num := v.num + 1 } : Sv).M H6) a = some (.ins A.LastRow dx fs) := ⟨r6, dx, _, rfl, del_some ((L2.same (s3.trans s4)).free hr6) hx⟩
          cases d <;> exact this
        · cases d <;> rfl
        · cases d <;> rfl)
    refine ⟨rfl, _, rfl, ite2 (fun _ => ?_) (fun _ => last _ _ _ _ (Same.refl _))⟩
    refine ⟨_, DGet.k (k := .inr "deeds") L2.b.hS, Nat.zero_le _, fun l hl => ?_⟩
    have s3 := Same.upd hl (HO.lst [])
    have e3 : (upd H2 l (HO.lst [])) l = some (.lst []) := upd_same
    generalize upd H2 l (HO.lst []) = H3 at s3 e3 ⊢
    have L3 := L2.same s3
    refine ⟨_, _, .lst (SqL.of L3.b.hD) (rep_deeds del_same L3.b.dds), .lst (SqL.of e3) .nil, h3.shaped ok, rfl, _, rfl, ?_⟩
    cases hki : k.ki with
    | nil => exact iteF (last _ _ _ _ s3)
    | cons i0 kr =>
      refine iteT ?_
      have lk : k.ki.length = kr.length + 1 := by rw [hki]; rfl
      have ld : v.dv.length = k.ki.length := Paired.length L3.b.dds
      refine ⟨_, DGet.k (k := .inr "deeds") L3.b.hS, cell, 7, rfl, by decide, fun n => ?_⟩
      have pos : (0 : Int) < ((v.dv.length : Nat) : Int) := by omega
      have mn := mod_in n pos
      obtain ⟨x, x1, x2⟩ := at_list (xs := v.dv) mn.1 mn.2
      obtain ⟨i, hi, dA⟩ := paired_get L3.b.dds x1
      obtain ⟨t, rfl, ht⟩ := dA
      refine ⟨_, DGet.k (k := .inr "deeds") L3.b.hS, Or.inl ⟨_, _, rfl, Or.inl ⟨_, SqL.of L3.b.hD, rfl⟩, pos, Or.inl ⟨_, _, Or.inl (SqL.of L3.b.hD), x2, ?_⟩⟩⟩
      refine ⟨t, _, rfl, SqT.of (del_same _ _ ht), rfl, _, _, rfl, _, _, rfl, _, _, rfl, rfl, ?_⟩
      refine ⟨_, DGet.k (k := .inr "most") (s3 _ _ t2.a.hf), _, DGet.k (k := .inr "room") (s3 _ _ t2.a.hf), _, rfl, ite2 (fun _ => ?_) (fun _ => last _ _ _ _ s3)⟩
      refine ⟨Nat.zero_le _, fun l4 hl4 => ?_⟩
      have s4 := Same.upd hl4 (HO.lst [])
      have e4 : (upd H3 l4 (HO.lst [])) l4 = some (.lst []) := upd_same
      generalize upd H3 l4 (HO.lst []) = H4 at s4 e4 ⊢
      refine fun r6 dx hr6 hd_ hne_ => mk_CallRow (SqL.of e4) hr6 hd_ fun n6 H6 f6 s6 h6 hx => ⟨rfl, ?_⟩
      refine fin H6 _ (.call i) (k.kn i) (k.kx i) ((s3.trans s4).trans s6) (fun d => ?_) (fun d => ?_) (fun d => ?_)
      · have : i ∈ k.ki ∧ ∃ a dx n t, V.ref r6 = .ref a ∧ (del ({ v with num := v.num + 1 } : Sv).M H6) a = some (.ins A.CallRow dx [("number", n), ("name", .str (N i)), ("things", t)]) := ⟨List.mem_of_getElem? hi, r6, dx, _, _, rfl, del_some ((L2.same (s3.trans s4)).free hr6) hx⟩
        cases d <;> exact this
      · cases d <;> rfl
      · cases d <;> rfl
end
end K13

set_option Elab.async false
set_option linter.all false
set_option maxRecDepth 100000
set_option maxHeartbeats 4000000
namespace K13
open PySem L2
section
variable {P : Program} {w : World} {K : PySem.W.Frag} {mg : Str → Option Value} {base : Heap} {A : Adr} {N : Nat → Str} {k : Kn}
theorem snoc1 {α : Type} {xs : List α} (h : xs ≠ []) : ∃ s a, xs = s ++ [a] := ⟨xs.dropLast, xs.getLast h, (List.dropLast_concat_getLast h).symm⟩
theorem snoc2 {α : Type} {xs : List α} (h : 2 ≤ xs.length) : ∃ s a b, xs = s ++ [a] ++ [b] := by
  obtain ⟨s, b, rfl⟩ := snoc1 (xs := xs) (fun z => by rw [z] at h; simp at h)
  obtain ⟨s, a, rfl⟩ := snoc1 (xs := s) (fun z => by rw [z] at h; simp at h)
  exact ⟨s, a, b, rfl⟩
theorem sub_named {i j : Int} {n : Nat} {t u : TS} {D : Ends} {σ : St} {H : Hp} (h : tSeq t u D (σ.set n (some (.int (i - j)))) H) : fInt0 (fun i j => V.int (i - j)) (.int i) (.int j) H (fun x H1 => gName n x σ H1 (tSeq t u D)) := h
theorem add_named {i j : Int} {n : Nat} {t u : TS} {D : Ends} {σ : St} {H : Hp} (h : tSeq t u D (σ.set n (some (.int (i + j)))) H) : fAdd (.int i) (.int j) H (fun x H1 => gName n x σ H1 (tSeq t u D)) := h
def sp_step (A : Adr) (N : Nat → Str) (k : Kn) : Sp := fun vs H Q _ => ∃ (v : Sv) (cell : Int), vs = [.ref v.s.S, .int cell] ∧ LS A N k H v ∧ v.st ≠ [] ∧ v.c ≤ 800 ∧
  ∀ H' v', LS A N k H' v' → Go v.M H v'.M H' → v'.s = v.s → v'.dv = v.dv → v'.c = v.c + 2 → v'.st ≠ [] → Q .non H'
theorem h_step (T : Txt K mg A) (h3 : Ki3 k.ki) (ok : ∀ i, PyData.strOk (N i) = true) : Has P w K mg base 6 "_law_step" ["_law_state", "_law_cell"] (sp_step A N k) := by
  have D_law_mix := h_mix (P := P) (w := w) (base := base) T
  have D_law_frame := h_frame (P := P) (w := w) (base := base) T
  have D_law_close := h_close (P := P) (w := w) (base := base) (N := N) (k := k) T
  have D_law_plain := h_plain (P := P) (w := w) (base := base) (N := N) (k := k) T h3 ok
  refine T.law_step.has (k := 5) sc_law_step (fun vs H Q E h => ?_) (fun f cdv A' outer s H vs Q E hr hu h => ?_)
  · obtain ⟨v, cell, rfl, _⟩ := h
    rfl
  · obtain ⟨v, cell, rfl, L, hne, hc, q⟩ := h
    obtain ⟨st, it, e⟩ := snoc1 hne
    refine ⟨_, (pss_cons (ps_set (i := 2) sc_law_step.nd rfl (Or.inl rfl) (pe_ix (ix_all hu) (pe_ix (ix_all hu) (fv 0) (pe_str) (fun _ _ => rfl)) (pe_un un_neg (pe_int)) (fun _ _ => rfl)))
    (pss_cons (ps_set (i := 3) sc_law_step.nd rfl (Or.inl rfl) (pe_op o_mod (fv 1) (pe_int)))
    (pss_cons (ps_if (PW.pt (pw_and (pt_cmpR (o_gt) (fv 3) (pe_int) (nomark _)) (pw_and1 (pt_cmpR (o_gt) (pe_callB c_lenA rfl T.z_len (by boot_by_name) (pa_cons (pe_ix (ix_all hu) (fv 0) (pe_str) (fun _ _ => rfl)) pa_nil)) (pe_int) (nomark _)))))
      (pss_cons (ps_expr (pe_callD D_law_close hr (pa_cons (fv 0) (pa_cons (fv 1) pa_nil))))
      (pss_one (ps_retN)))
      pss_nil)
    (pss_cons (ps_set (i := 4) sc_law_step.nd rfl (Or.inl rfl) (pe_op o_sub (pe_ix (ix_all hu) (fv 2) (pe_str) (fun _ _ => rfl)) (pe_ix (ix_all hu) (fv 2) (pe_str) (fun _ _ => rfl))))
    (pss_cons (ps_if (PW.pt (pw_and (pt_cmpR (o_gt) (fv 3) (pe_int) (nomark _)) (pw_and (pt_cmpR (o_lt) (fv 3) (pe_int) (nomark _)) (pw_and (pt_cmpR (o_gt) (fv 4) (pe_int) (nomark _)) (pw_and1 (pt_cmpR (o_lt) (pe_callB c_lenA rfl T.z_len (by boot_by_name) (pa_cons (pe_ix (ix_all hu) (fv 0) (pe_str) (fun _ _ => rfl)) pa_nil)) (pe_int) (nomark _)))))))
      (pss_cons (ps_asg (pe_op o_add (pe_ix (ix_all hu) (fv 0) (pe_str) (fun _ _ => rfl)) (pe_int)) (pg_sub (fv 0) (pe_str) (st_all hu set_list)))
      (pss_cons (ps_if (pt_cmpR (o_eqU hu) (fv 3) (pe_int) (nomark _))
        (pss_cons (ps_set (i := 5) sc_law_step.nd rfl (Or.inl rfl) (pe_op o_add (pe_int) (pe_op o_mod (pe_callD D_law_mix hr (pa_cons (fv 1) (pa_cons (pe_int) pa_nil))) (pe_int))))
        (pss_cons (ps_if (pt_cmpR (o_lt) (pe_op o_fdiv (fv 4) (fv 5)) (pe_int) (nomark _))
          (pss_one (ps_set (i := 5) sc_law_step.nd rfl (Or.inl rfl) (pe_op o_add (pe_int) (pe_op o_mod (pe_callD D_law_mix hr (pa_cons (fv 1) (pa_cons (pe_int) pa_nil))) (pe_int)))))
          pss_nil)
        (pss_one (ps_expr (m_append (pe_ix (ix_all hu) (fv 0) (pe_str) (fun _ _ => rfl)) (pa_cons (pe_callD D_law_frame hr (pa_cons (pe_str) (pa_cons (pe_ix (ix_all hu) (fv 0) (pe_str) (fun _ _ => rfl)) (pa_cons (pe_op o_sub (pe_op o_fdiv (fv 4) (fv 5)) (pe_int)) (pa_cons (fv 5) pa_nil))))) pa_nil))))))
        (pss_one (ps_expr (m_append (pe_ix (ix_all hu) (fv 0) (pe_str) (fun _ _ => rfl)) (pa_cons (pe_callD D_law_frame hr (pa_cons (pe_str) (pa_cons (pe_ix (ix_all hu) (fv 0) (pe_str) (fun _ _ => rfl)) (pa_cons (pe_op o_sub (fv 4) (pe_int)) (pa_cons (pe_int) pa_nil))))) pa_nil)))))
      (pss_one (ps_retN))))
      pss_nil)
    (pss_one (ps_if (pt_cmpR (o_gt) (fv 4) (pe_int) (nomark _))
      (pss_one (ps_expr (pe_callD D_law_plain hr (pa_cons (fv 0) (pa_cons (fv 1) (pa_cons (fv 3) pa_nil))))))
      pss_nil))))))), ?_⟩
    have hF0 := L.hF
    have hF := L.hF
    rw [e, List.map_append] at hF
    refine ⟨_, DGet.k (k := .inr "frames") L.b.hS, _, rfl, Or.inl ⟨_, _, Or.inl (SqL.of hF), at_last _ _, ?_⟩⟩
    refine ⟨(by show (0 : Int) < 9; decide), ?_⟩
    have stk := L.stk
    rw [e] at stk
    have t := (StAt.snoc.mp stk).2
    have lenF : (List.map (fun it : Ft => V.ref it.1.f) v.st).length = v.st.length := List.length_map _
    dsimp only
    refine seq_cut fun M KM => ?_
    have rest : M [some (.ref v.s.S), some (.int cell), some (.ref it.1.f), some (.int (cell % 9)), none, none] H := KM _ _ (by
      refine ⟨_, DGet.k (k := .inr "room") t.a.hf, _, DGet.k (k := .inr "most") t.a.hf, ?_⟩
      dsimp only
      refine sub_named ?_
      refine seq_cut fun M2 KM2 => ?_
      have last : M2 [some (.ref v.s.S), some (.int cell), some (.ref it.1.f), some (.int (cell % 9)), some (.int (it.1.rm - it.1.ms)), none] H := KM2 _ _ (by
        refine ⟨_, rfl, ite2 (fun _ => ?_) (fun _ => q _ _ (L.up (c := v.c + 2) (Nat.le_add_right _ _)) (Go.refl _ _) rfl rfl rfl hne)⟩
        exact ⟨v, cell, _, st, it, rfl, L, e, hc, fun H' v' L' g' e1 e2 e3 e4 => q _ _ (L'.up (c := v.c + 2) (by omega)) g' e1 e2 rfl e4⟩)
      refine ⟨_, rfl, ite2 (fun _ => ?_) (fun _ => last)⟩
      refine ⟨_, rfl, ite2 (fun _ => ?_) (fun _ => last)⟩
      refine ⟨_, rfl, ite2 (fun _ => ?_) (fun _ => last)⟩
      refine ⟨_, DGet.k (k := .inr "frames") L.b.hS, Or.inl ⟨_, _, rfl, Or.inl ⟨_, SqL.of hF0, rfl⟩, _, rfl, ite2 (fun c7 => ?_) (fun _ => last)⟩⟩
      have l7 : v.st.length < 7 := by
        have := of_decide_eq_true c7
        rw [lenF] at this
        omega
      refine ⟨_, DGet.k (k := .inr "number") L.b.hS, _, DPut.k (k := .inr "number") L.b.hS (show 5 < sizeLine by decide), ?_⟩
      rw [show putK (stK v.num (.ref v.F) v.s.Nl v.s.Dl (N 0)) (.inr "number") (.int (v.num + 1)) = stK (v.num + 1) (.ref v.F) v.s.Nl v.s.Dl (N 0) from rfl]
      have L2 := L.num (v.num + 1)
      have k2 : ∀ a o, a ≠ v.s.S → H a = some o → (upd H v.s.S (.dK (stK (v.num + 1) (.ref v.F) v.s.Nl v.s.Dl (N 0)))) a = some o := fun a o => upd_keep
      generalize upd H v.s.S (.dK (stK (v.num + 1) (.ref v.F) v.s.Nl v.s.Dl (N 0))) = H2 at L2 k2 ⊢
      have push : ∀ (f rl : Addr) (kd : Str) (rm mn : Int) (H3 : Hp), Same H2 H3 → H2 f = none → H2 rl = none → f ≠ rl → H3 f = some (.dK (frK kd (v.num + 1) rm mn rl 0 (.int 0) .non)) → H3 rl = some (.lst []) → (-(2 ^ 64) < mn ∧ mn < 2 ^ 64) → kd ≠ "other" → Q .non (upd H3 v.F (.lst ((v.st.map fun it => V.ref it.1.f) ++ [.ref f]))) := fun f rl kd rm mn H3 s3 f0 r0 fr hf hl hm hk => by
        have ffree : ∀ a, H2 a = none → H a = none ∧ a ≠ v.F := fun a z => by
          have a1 : a ≠ v.s.S := fun y => by rw [y, L2.b.hS] at z; cases z
          have a2 : a ≠ v.F := fun y => by rw [y, L2.hF] at z; cases z
          refine ⟨?_, a2⟩
          cases e : H a with
          | none => rfl
          | some o => rw [k2 a o a1 e] at z; cases z
        obtain ⟨ff, fF⟩ := ffree f f0
        obtain ⟨rr, rF⟩ := ffree rl r0
        obtain ⟨L5, g5⟩ := L.put (H' := upd H3 v.F (.lst ((v.st.map fun it => V.ref it.1.f) ++ [.ref f]))) (st := v.st) (old := []) (n := v.num + 1) (kd := kd) (nn := v.num + 1) (rm := rm) (mn := mn) (o := none) (List.append_nil _).symm rfl (upd_keep L.ne.sf (s3 _ _ L2.b.hS)) upd_same (fun a o h1 h2 h => upd_keep h2 (s3 _ _ (k2 a o h1 h))) ff rr fr (upd_keep fF hf) (upd_keep rF hl) hm (fun _ => rfl) (fun z => absurd z hk) (fun y ey => by cases ey) l7
        exact q _ _ (L5.up (c := v.c + 2) (Nat.le_add_right _ _)) g5 rfl rfl rfl (by simp)
      refine ⟨rfl, _, rfl, ite2 (fun _ => ?_) (fun _ => ?_)⟩
      · refine ⟨cell, 2, rfl, by decide, fun n => ⟨(by show (0 : Int) < 100; decide), ?_⟩⟩
        have m1 := mod_in n (show (0 : Int) < 100 by decide)
        dsimp only
        refine add_named ?_
        refine seq_cut fun M3 KM3 => ?_
        have ap : ∀ mn : Int, 1 ≤ mn → mn ≤ 100 → M3 [some (.ref v.s.S), some (.int cell), some (.ref it.1.f), some (.int (cell % 9)), some (.int (it.1.rm - it.1.ms)), some (.int mn)] H2 := fun mn h1 h2 => KM3 _ _ (by
          refine ⟨_, DGet.k (k := .inr "frames") L2.b.hS, Or.inl ⟨rfl, _, SqL.of L2.hF⟩, _, DGet.k (k := .inr "number") L2.b.hS, ⟨by omega, by omega⟩, "loop", _, _, mn, rfl, fun f rl H3 s3 f0 r0 fr hf hl => ?_⟩
          exact ⟨_, _, _, rfl, rfl, s3 _ _ L2.hF, small1000 (show (List.map (fun it : Ft => V.ref it.1.f) v.st).length ≤ 1000 by rw [lenF]; omega), push f rl "loop" _ mn H3 s3 f0 r0 fr hf hl ⟨by omega, by omega⟩ (by decide)⟩)
        refine ⟨⟨by omega, by omega⟩, _, rfl, ite2 (fun _ => ?_) (fun _ => ap _ (by omega) (by omega))⟩
        refine ⟨cell, 8, rfl, by decide, fun n2 => ⟨(by show (0 : Int) < 2; decide), ?_⟩⟩
        have m2 := mod_in n2 (show (0 : Int) < 2 by decide)
        exact ap _ (by omega) (by omega)
      · refine ⟨_, DGet.k (k := .inr "frames") L2.b.hS, Or.inl ⟨rfl, _, SqL.of L2.hF⟩, _, DGet.k (k := .inr "number") L2.b.hS, "first", _, _, 0, rfl, fun f rl H3 s3 f0 r0 fr hf hl => ?_⟩
        exact ⟨_, _, _, rfl, rfl, s3 _ _ L2.hF, small1000 (show (List.map (fun it : Ft => V.ref it.1.f) v.st).length ≤ 1000 by rw [lenF]; omega), push f rl "first" _ 0 H3 s3 f0 r0 fr hf hl ⟨by decide, by decide⟩ (by decide)⟩)
    refine ⟨_, rfl, ite2 (fun _ => ?_) (fun _ => rest)⟩
    refine ⟨_, DGet.k (k := .inr "frames") L.b.hS, Or.inl ⟨_, _, rfl, Or.inl ⟨_, SqL.of hF0, rfl⟩, _, rfl, ite2 (fun c1 => ?_) (fun _ => rest)⟩⟩
    have l2 : 2 ≤ v.st.length := by
      have := of_decide_eq_true c1
      rw [lenF] at this
      omega
    obtain ⟨st', it1, it', e'⟩ := snoc2 l2
    exact ⟨v, cell, st', it1, it', rfl, L, e', hc, fun H' v' L' g' e1 e2 e3 e4 _ => q _ _ L' g' e1 e2 e3 e4⟩
end
end K13

set_option Elab.async false
set_option linter.all false
set_option maxRecDepth 100000
set_option maxHeartbeats 4000000
namespace K13
open PySem L2
section
variable {P : Program} {w : World} {K : PySem.W.Frag} {mg : Str → Option Value} {base : Heap} {A : Adr} {N : Nat → Str} {k : Kn}
def Sa.M (s : Sa) : List Addr := [s.S, s.Nl, s.Dl, s.Q]
theorem LS.start {H H' : Hp} {s : Sa} {num rm : Int} {fv : V} {nv : List V} {nr : List Rw} {dv : List V} {c : Nat} {F f rl : Addr} (h : LB A N k H (del s.M H) s num fv nv nr dv c) (nd : s.M.Nodup) (hk : ∀ a o, a ≠ s.S → H a = some o → H' a = some o) (hS : H' s.S = some (.dK (stK num (.ref F) s.Nl s.Dl (N 0)))) (hF : H' F = some (.lst [.ref f]))
    (x1 : H' f = some (.dK (frK "top" 0 rm 0 rl 0 (.int 0) .non))) (x2 : H' rl = some (.lst [])) (f0 : H F = none) (f1 : H f = none) (f2 : H rl = none) (n1 : F ≠ f) (n2 : F ≠ rl) (n3 : f ≠ rl) :
    LS A N k H' ⟨s, F, num, [(Fr.new f rl "top" 0 rm 0, none)], nv, nr, dv, c⟩ ∧ Go s.M H (Sv.M ⟨s, F, num, [(Fr.new f rl "top" 0 rm 0, none)], nv, nr, dv, c⟩) H' := by
  have eM : (Sv.M ⟨s, F, num, [(Fr.new f rl "top" 0 rm 0, none)], nv, nr, dv, c⟩) = [s.S, s.Nl, s.Dl, F, s.Q, f, rl] := rfl
  have fr : ∀ a, H a = none → a ≠ s.S ∧ a ≠ s.Nl ∧ a ≠ s.Dl ∧ a ≠ s.Q := fun a e => ⟨fun z => (by rw [z, h.hS] at e; cases e), fun z => (by rw [z, h.hN] at e; cases e), fun z => (by rw [z, h.hD] at e; cases e), fun z => (by rw [z, h.hQ] at e; cases e)⟩
  have g : Go s.M H [s.S, s.Nl, s.Dl, F, s.Q, f, rl] H' := by
    refine ⟨fun a o m => hk a o (fun z => m (z ▸ by simp [Sa.M])), fun a m => ?_⟩
    simp only [List.mem_cons, List.not_mem_nil, or_false] at m
    rcases m with rfl | rfl | rfl | rfl | rfl | rfl | rfl
    · exact .inl (by simp [Sa.M])
    · exact .inl (by simp [Sa.M])
    · exact .inl (by simp [Sa.M])
    · exact .inr f0
    · exact .inl (by simp [Sa.M])
    · exact .inr f1
    · exact .inr f2
  have nd' := nd
  unfold Sa.M at nd'
  simp only [List.nodup_cons, List.mem_cons, List.not_mem_nil, or_false, not_or, not_false_eq_true, List.nodup_nil, and_true] at nd'
  obtain ⟨⟨a1, a2, a4⟩, ⟨a3, a5⟩, a6⟩ := nd'
  refine ⟨⟨?_, ?_, hF, ?_, (by show 1 ≤ 7; decide)⟩, by rw [eM]; exact g⟩
  · rw [eM]
    exact ⟨hS, hk _ _ (fun z => a1 z.symm) h.hN, hk _ _ (fun z => a2 z.symm) h.hD, Paired.mapP h.nst fun _ _ => NestAt.same g.same, Paired.mapP h.dds fun _ _ => DeedAt.same g.same, h.nl, hk _ _ (fun z => a4 z.symm) h.hQ⟩
  · rw [eM]
    obtain ⟨u1, u2, u3, u4⟩ := fr F f0
    obtain ⟨w1, w2, w3, w4⟩ := fr f f1
    obtain ⟨z1, z2, z3, z4⟩ := fr rl f2
    simp [a1, a2, a3, a4, a5, a6, n1, n2, n3, u1.symm, u2.symm, u3.symm, u4, w1.symm, w2.symm, w3.symm, w4.symm, z1.symm, z2.symm, z3.symm, z4.symm]
  · exact ⟨⟨⟨x1, x2, .nil, rfl, rfl, Nat.zero_le _, ⟨by show -(2 ^ 64 : Int) < 0; decide, by show (0 : Int) < 2 ^ 64; decide⟩⟩, fun x ex => (by cases ex), fun _ => rfl, fun z => absurd z (by show ¬ ("top" : Str) = "other"; decide)⟩, trivial⟩
def sp_body (A : Adr) (N : Nat → Str) (k : Kn) : Sp := fun vs H Q _ => ∃ (s : Sa) (num : Int) (fv : V) (nv : List V) (nr : List Rw) (dv : List V) (c : Nat) (l : Addr) (cs : List Int) (rm : Int), vs = [.ref s.S, .ref l, .int rm] ∧ s.M.Nodup ∧ LB A N k H (del s.M H) s num fv nv nr dv c ∧ H l = some (.lst (cs.map V.int)) ∧ l ∉ s.M ∧ cs.length ≤ 31 ∧ c ≤ 300 ∧
  ∀ H' num' fv' nv' nr' (x : Fr) (one : V), LB A N k H' (del s.M H') s num' fv' nv' nr' dv (c + 100) → FrAt A N k (del s.M H') (del s.M H') (c + 100) 6 x one → Go s.M H s.M H' → Q (.ref x.f) H'
theorem h_body (T : Txt K mg A) (h3 : Ki3 k.ki) (ok : ∀ i, PyData.strOk (N i) = true) : Has P w K mg base 7 "_law_body" ["_law_state", "_law_cells", "_law_room"] (sp_body A N k) := by
  have D_law_frame := h_frame (P := P) (w := w) (base := base) T
  have D_law_close := h_close (P := P) (w := w) (base := base) (N := N) (k := k) T
  have D_law_step := h_step (P := P) (w := w) (base := base) (N := N) (k := k) T h3 ok
  refine T.law_body.has (k := 6) sc_law_body (fun vs H Q E h => ?_) (fun f cdv A' outer s0 H vs Q E hr hu h => ?_)
  · obtain ⟨s, num, fw, nv, nr, dv, c, l, cs, rm, rfl, _⟩ := h
    rfl
  · obtain ⟨s, num, fw, nv, nr, dv, c, l, cs, rm, rfl, nd, B, hl, lM, cl, cc, q⟩ := h
    refine ⟨_, (pss_cons (ps_asg (pe_lst (pa_cons (pe_callD D_law_frame hr (pa_cons (pe_str) (pa_cons (pe_int) (pa_cons (fv 2) (pa_cons (pe_int) pa_nil))))) pa_nil)) (pg_sub (fv 0) (pe_str) (st_all hu set_list)))
    (pss_cons (ps_for PassesOwn.never rfl (pi_any (fv 1)) (pg_name (i := 3) sc_law_body.nd rfl (by first | exact Or.inl rfl | exact Or.inr rfl))
      (pss_one (ps_expr (pe_callD D_law_step hr (pa_cons (fv 0) (pa_cons (fv 3) pa_nil))))))
    (pss_cons (ps_while PassesOwn.never (pt_cmpR (o_gt) (pe_callB c_lenA rfl T.z_len (by boot_by_name) (pa_cons (pe_ix (ix_all hu) (fv 0) (pe_str) (fun _ _ => rfl)) pa_nil)) (pe_int) (nomark _))
      (pss_one (ps_expr (pe_callD D_law_close hr (pa_cons (fv 0) (pa_cons (pe_callB c_lenA rfl T.z_len (by boot_by_name) (pa_cons (pe_ix (ix_all hu) (fv 0) (pe_str) (fun _ _ => rfl)) pa_nil)) pa_nil))))))
    (pss_one (ps_ret (pe_ix (ix_all hu) (pe_ix (ix_all hu) (fv 0) (pe_str) (fun _ _ => rfl)) (pe_int) (fun _ _ => rfl))))))), ?_⟩
    refine ⟨"top", 0, rm, 0, rfl, fun f rl H1 s1 f1 f2 n3 x1 x2 => ⟨by show 1 ≤ sizeLine; decide, fun F hF => ?_⟩⟩
    have s2 := s1.trans (Same.upd hF (HO.lst [.ref f]))
    have e2 : (upd H1 F (HO.lst [.ref f])) F = some (.lst [.ref f]) := upd_same
    have nF1 : F ≠ f := fun z => by rw [z, x1] at hF; cases hF
    have nF2 : F ≠ rl := fun z => by rw [z, x2] at hF; cases hF
    have y1 : (upd H1 F (HO.lst [.ref f])) f = some (.dK (frK "top" 0 rm 0 rl 0 (.int 0) .non)) := upd_keep nF1.symm x1
    have y2 : (upd H1 F (HO.lst [.ref f])) rl = some (.lst []) := upd_keep nF2.symm x2
    have f0 : H F = none := Same.free s1 hF
    generalize upd H1 F (HO.lst [.ref f]) = H2 at s2 e2 y1 y2 ⊢
    refine ⟨_, DPut.k (k := .inr "frames") (s2 _ _ B.hS) (show 5 < sizeLine by decide), ?_⟩
    rw [show putK (stK num fw s.Nl s.Dl (N 0)) (.inr "frames") (.ref F) = stK num (.ref F) s.Nl s.Dl (N 0) from rfl]
    have no : ∀ a, H a = none → a ≠ s.S := fun a e z => by rw [z, B.hS] at e; cases e
    obtain ⟨L3, g3⟩ := LS.start (H' := upd H2 s.S (.dK (stK num (.ref F) s.Nl s.Dl (N 0)))) B nd (fun a o n h => upd_keep n (s2 _ _ h)) upd_same (upd_keep (no F f0) e2) (upd_keep (no f f1) y1) (upd_keep (no rl f2) y2) f0 f1 f2 nF1 nF2 n3
    generalize upd H2 s.S (.dK (stK num (.ref F) s.Nl s.Dl (N 0))) = H3 at L3 g3 ⊢
    refine Or.inl ⟨⟨_, SqL.of (g3.o _ _ lM hl)⟩, ?_⟩
    refine for_list (K := K) (xs := cs.map V.int) (fun i σ H4 => ∃ v, LS A N k H4 v ∧ Go s.M H v.M H4 ∧ v.s = s ∧ v.dv = dv ∧ v.c = c + 2 * i ∧ v.st ≠ [] ∧ ∃ w3, σ = [some (.ref s.S), some (.ref l), some (.int rm), w3]) ⟨_, L3, g3, rfl, rfl, rfl, by simp, _, rfl⟩ (fun i σ H4 _ h => by obtain ⟨v, _, g, _⟩ := h; exact SqL.of (g.o _ _ lM hl)) ?_ ?_
    · rintro i x σ H4 hx ⟨v, L, g, es, ed, ec, ne, w3, rfl⟩
      rw [List.getElem?_map] at hx
      have il : i < cs.length := by
        rcases Nat.lt_or_ge i cs.length with z | z
        · exact z
        · rw [List.getElem?_eq_none z] at hx; cases hx
      rw [List.getElem?_eq_getElem il] at hx
      cases hx
      rw [← es]
      refine ⟨v, _, rfl, L, ne, by omega, fun H' v' L' g' e1 e2 e3 e4 => ⟨v', L', ?_, e1, e2.trans ed, by omega, e4, _, rfl⟩⟩
      rw [es]
      exact g.trans g'
    · rintro σ H4 ⟨v, L, g, es, ed, ec, ne, w3, rfl⟩
      rw [List.length_map] at ec
      refine ⟨fun m σ H5 => ∃ v, LS A N k H5 v ∧ Go s.M H v.M H5 ∧ v.s = s ∧ v.dv = dv ∧ v.c + 2 * m ≤ c + 100 ∧ v.st ≠ [] ∧ m = mu v.st ∧ σ = [some (.ref s.S), some (.ref l), some (.int rm), w3], ⟨mu v.st, v, L, g, es, ed, ?_, ne, rfl, rfl⟩, ?_⟩
      · have := mu_le v.st
        have := L.ln
        omega
      rintro m σ H5 ⟨v, L, g, es, ed, ec, ne, em, rfl⟩
      subst es
      have hF := L.hF
      have lenF : (List.map (fun it : Ft => V.ref it.1.f) v.st).length = v.st.length := List.length_map _
      refine ⟨_, DGet.k (k := .inr "frames") L.b.hS, Or.inl ⟨_, _, rfl, Or.inl ⟨_, SqL.of hF, rfl⟩, _, rfl, ite2 (fun c1 => ?_) (fun c1 => ?_)⟩⟩
      · have l2 : 2 ≤ v.st.length := by
          have := of_decide_eq_true c1
          rw [lenF] at this
          omega
        obtain ⟨st', it1, it', e'⟩ := snoc2 l2
        refine ⟨_, fun σ' H' h => h, _, DGet.k (k := .inr "frames") L.b.hS, Or.inl ⟨_, _, rfl, Or.inl ⟨_, SqL.of hF, rfl⟩, ?_⟩⟩
        refine ⟨v, _, st', it1, it', rfl, L, e', by omega, fun H' v' L' g' e1 e2 e3 e4 lt => ⟨mu v'.st, by omega, v', L', g.trans g', e1, e2.trans ed, by omega, e4, rfl, rfl⟩⟩
      · have l1 : v.st.length ≤ 1 := by
          rcases Nat.lt_or_ge 1 v.st.length with z | z
          · exact absurd (decide_eq_true (show (1 : Int) < (((List.map (fun it : Ft => V.ref it.1.f) v.st).length : Nat) : Int) by rw [lenF]; omega)) c1
          · exact z
        obtain ⟨it, eit⟩ : ∃ it, v.st = [it] := by
          match h : v.st with
          | [] => exact absurd h ne
          | [it] => exact ⟨it, rfl⟩
          | _ :: _ :: _ => rw [h] at l1; simp at l1
        rw [eit] at hF
        have nea := L.ne.a
        have stk := L.stk
        rw [eit] at nea stk
        have t := stk.1
        have sub : ∀ a ∈ v.s.M, a ∈ v.M := fun a m => by
          unfold Sa.M at m
          simp only [List.mem_cons, List.not_mem_nil, or_false] at m
          rcases m with rfl | rfl | rfl | rfl <;> simp [Sv.M]
        have sw : Same (del v.M H5) (del v.s.M H5) := fun a o h => by
          obtain ⟨h1, h2⟩ := del_get h
          exact del_some (fun m => h1 (sub a m)) h2
        have out : ∀ a ∈ adsL [it], a ∉ v.s.M := fun a m z => by
          obtain ⟨b1, b2, b3, _, b4⟩ := nea a m
          unfold Sa.M at z
          simp only [List.mem_cons, List.not_mem_nil, or_false] at z
          rcases z with z | z | z | z
          · exact b1 z
          · exact b2 z
          · exact b3 z
          · exact b4 z
        have wv : w3 = w3 := rfl
        refine ⟨_, DGet.k (k := .inr "frames") L.b.hS, Or.inl ⟨_, _, Or.inl (SqL.of hF), rfl, ?_⟩⟩
        rw [← ed] at q
        refine q _ v.num (.ref v.F) v.nv v.nr it.1 (oneV it.2) (L.b.keep (fun _ _ _ h => h) sw (by omega)) (t.a.keep (fun o h => del_some (out _ ?_) h) (fun o h => del_some (out _ ?_) h) sw (by omega)) (g.to fun a m => .inl (sub a m))
        · simp [adsL, adsI]
        · simp [adsL, adsI]
end
end K13

set_option Elab.async false
set_option linter.all false
set_option maxRecDepth 100000
set_option maxHeartbeats 4000000
namespace K13
open PySem L2
section
variable {P : Program} {w : World} {K : PySem.W.Frag} {mg : Str → Option Value} {base : Heap} {A : Adr} {N : Nat → Str}
def kF (b1 b2 : List Rw) : Kn := ⟨[1, 2], kM 6 b1 b2, kX 6 b1 b2⟩
structure Ask (A : Adr) (N : Nat → Str) (H : Hp) (p : Pr) (y1 y2 ym : List V) (b1 b2 bm : List Rw) (f S Nl Dl : Addr) (nv : List V) (nr : List Rw) (d1 d2 : Addr) : Prop where
  R : PrAt A N H 6 p y1 y2 ym b1 b2 bm
  hf : ∃ kd n rm mn rl one, H f = some (.dK (frK kd n rm mn rl (mOf 6 (kM 6 b1 b2) bm) (optV (xOf 6 (kX 6 b1 b2) bm)) one))
  hS : ∃ num fv x, H S = some (.dK (stK num fv Nl Dl x))
  hN : H Nl = some (.lst nv)
  nst : PySem.Paired (NestAt A N (kF b1 b2) H) nv nr
  nl : nv.length ≤ 900
  hD : H Dl = some (.lst [.ref d1, .ref d2])
  e1 : H d1 = some (.tup [.str (N 1), .int (kM 6 b1 b2 1), optV (kX 6 b1 b2 1)])
  e2 : H d2 = some (.tup [.str (N 2), .int (kM 6 b1 b2 2), optV (kX 6 b1 b2 2)])
theorem Ask.same {H H' : Hp} {p : Pr} {y1 y2 ym : List V} {b1 b2 bm : List Rw} {f S Nl Dl : Addr} {nv : List V} {nr : List Rw} {d1 d2 : Addr} (h : Ask A N H p y1 y2 ym b1 b2 bm f S Nl Dl nv nr d1 d2) (s : Same H H') : Ask A N H' p y1 y2 ym b1 b2 bm f S Nl Dl nv nr d1 d2 := by
  obtain ⟨kd, n, rm, mn, rl, one, hf⟩ := h.hf
  obtain ⟨num, fv, x, hS⟩ := h.hS
  exact ⟨h.R.same s, ⟨kd, n, rm, mn, rl, one, s _ _ hf⟩, ⟨num, fv, x, s _ _ hS⟩, s _ _ h.hN, Paired.mapP h.nst fun _ _ => NestAt.same s, h.nl, s _ _ h.hD, s _ _ h.e1, s _ _ h.e2⟩
theorem flat_opt (x : Option Int) : flatR (optV x) = true := by cases x <;> rfl
theorem dk_snoc (Di : Dist N) {f : Nat → V} {j : Nat} {idx : List Nat} (hj : j < 3) (hb : ∀ x ∈ idx, x < 3) (m : j ∉ idx) : putK (dk N idx f) (.inr (N j)) (f j) = dk N (idx ++ [j]) f := by
  rw [dk_new Di hj hb m]
  refine dk_congr fun i _ => ?_
  by_cases e : i = j
  · rw [e, updF_same]
  · rw [updF_ne _ _ e]
def sp_asked (A : Adr) (N : Nat → Str) : Sp := fun vs H Q _ => ∃ (p : Pr) (y1 y2 ym : List V) (b1 b2 bm : List Rw) (f S Nl Dl : Addr) (nv : List V) (nr : List Rw) (d1 d2 : Addr), vs = [.ref p.pa, .ref f, .ref S] ∧ Ask A N H p y1 y2 ym b1 b2 bm f S Nl Dl nv nr d1 d2 ∧ ∀ H', Same H H' → Q (.bl true) H'
theorem dict_eq {H : Hp} {a b : Addr} {f : Nat → V} (Di : Dist N) (h1 : H a = some (.dK (dk N [1, 2] f))) (h2 : H b = some (.dK (dk N [1, 2] f))) (hf : ∀ i, flatR (f i) = true) : DictEq K H a b := ⟨_, _, .inl h1, .inl h2, rfl, fun k v h => ⟨v, h, .inl ⟨rfl, by
  obtain ⟨j, _, _, e⟩ := dk_val Di lt12 h
  rw [e]
  exact hf j⟩⟩⟩
theorem h_asked (T : Txt K mg A) (Di : Dist N) : Has P w K mg base 25 "_law_asked" ["_law_program", "_law_outer", "_law_state"] (sp_asked A N) := by
  have D_law_whole := h_whole (P := P) (w := w) (base := base) T
  have D_most := h_mostP (P := P) (w := w) (base := base) (N := N) T Di 6
  have D_exact := h_exactP (P := P) (w := w) (base := base) (N := N) T Di 6
  have D_mosts := h_mosts (P := P) (w := w) (base := base) (N := N) T Di 6
  have D_exacts := h_exacts (P := P) (w := w) (base := base) (N := N) T Di 6
  have D_most_of := h_most_of (P := P) (w := w) (base := base) (N := N) T (h_mrow T Di 6)
  have D_exact_of := h_exact_of (P := P) (w := w) (base := base) (N := N) T (h_xrow T Di 6)
  have D_balanced := h_bal (P := P) (w := w) (base := base) (N := N) T Di 6
  refine T.law_asked.has (k := 24) sc_law_asked (fun vs H Q E h => ?_) (fun f' cdv A' outer s0 H vs Q E hr hu h => ?_)
  · obtain ⟨p, y1, y2, ym, b1, b2, bm, f, S, Nl, Dl, nv, nr, d1, d2, rfl, _⟩ := h
    rfl
  · obtain ⟨p, y1, y2, ym, b1, b2, bm, f, S, Nl, Dl, nv, nr, d1, d2, rfl, W, q⟩ := h
    obtain ⟨kd, n, rm, mn, rl, one, hf⟩ := W.hf
    obtain ⟨num, fw, x, hS⟩ := W.hS
    have R := W.R
    refine ⟨_, (pss_cons (ps_if (PW.pt (pw_or (pt_not (pt_tru (pe_callD D_law_whole hr (pa_cons (pe_callD D_most hr (pa_cons (fv 0) pa_nil)) (pa_cons (pe_ix (ix_all hu) (fv 1) (pe_str) (fun _ _ => rfl)) pa_nil))) (fun _ => rfl))) (pw_or1 (pt_not (pt_tru (pe_callD D_law_whole hr (pa_cons (pe_callD D_exact hr (pa_cons (fv 0) pa_nil)) (pa_cons (pe_ix (ix_all hu) (fv 1) (pe_str) (fun _ _ => rfl)) pa_nil))) (fun _ => rfl))))))
      (pss_one (ps_ret (pe_bl)))
      pss_nil)
    (pss_cons (ps_set (i := 3) sc_law_asked.nd rfl (Or.inl rfl) (pe_callD D_mosts hr (pa_cons (fv 0) pa_nil)))
    (pss_cons (ps_set (i := 4) sc_law_asked.nd rfl (Or.inl rfl) (pe_callD D_exacts hr (pa_cons (fv 0) pa_nil)))
    (pss_cons (ps_set (i := 5) sc_law_asked.nd rfl (Or.inl rfl) (pe_lst (pa_cons (pe_dnewK) (pa_cons (pe_dnewK) pa_nil))))
    (pss_cons (ps_if (PW.pt (pw_or (pt_not (pt_tru (pe_callB c_isinst rfl T.z_isinstance (by boot_by_name) (pa_cons (fv 3) (pa_cons (pe_bltn (v := .ty "dict") rfl T.z_dict (by boot_by_name) rfl) pa_nil))) (fun _ => rfl))) (pw_or (pt_not (pt_tru (pe_callB c_isinst rfl T.z_isinstance (by boot_by_name) (pa_cons (fv 4) (pa_cons (pe_bltn (v := .ty "dict") rfl T.z_dict (by boot_by_name) rfl) pa_nil))) (fun _ => rfl))) (pw_or (pt_cmpR (o_ne hu) (pe_callB c_lenA rfl T.z_len (by boot_by_name) (pa_cons (fv 3) pa_nil)) (pe_int) (nomark _)) (pw_or1 (pt_cmpR (o_ne hu) (pe_callB c_lenA rfl T.z_len (by boot_by_name) (pa_cons (fv 4) pa_nil)) (pe_int) (nomark _)))))))
      (pss_one (ps_ret (pe_bl)))
      pss_nil)
    (pss_cons (ps_for PassesOwn.never rfl (pi_any (pe_ix (ix_all hu) (fv 2) (pe_str) (fun _ _ => rfl))) (pg_tup rfl (pgs_cons (pg_name (i := 6) sc_law_asked.nd rfl (by first | exact Or.inl rfl | exact Or.inr rfl)) (pgs_cons (pg_name (i := 7) sc_law_asked.nd rfl (by first | exact Or.inl rfl | exact Or.inr rfl)) (pgs_cons (pg_name (i := 8) sc_law_asked.nd rfl (by first | exact Or.inl rfl | exact Or.inr rfl)) (pgs_nil)))))
      (pss_cons (ps_if (PW.pt (pw_or (pt_cmpR (o_notinA hu) (fv 6) (fv 3) ((by with_unfolding_all rfl))) (pw_or1 (pt_cmpR (o_notinA hu) (fv 6) (fv 4) ((by with_unfolding_all rfl))))))
        (pss_one (ps_ret (pe_bl)))
        pss_nil)
      (pss_cons (ps_if (PW.pt (pw_or (pt_not (pt_tru (pe_callD D_law_whole hr (pa_cons (pe_ix (ix_all hu) (fv 3) (fv 6) (fun _ _ => rfl)) (pa_cons (fv 7) pa_nil))) (fun _ => rfl))) (pw_or1 (pt_not (pt_tru (pe_callD D_law_whole hr (pa_cons (pe_ix (ix_all hu) (fv 4) (fv 6) (fun _ _ => rfl)) (pa_cons (fv 8) pa_nil))) (fun _ => rfl))))))
        (pss_one (ps_ret (pe_bl)))
        pss_nil)
      (pss_cons (ps_asg (fv 7) (pg_sub (pe_ix (ix_all hu) (fv 5) (pe_int) (fun _ _ => rfl)) (fv 6) (st_all hu set_list)))
      (pss_one (ps_asg (fv 8) (pg_sub (pe_ix (ix_all hu) (fv 5) (pe_int) (fun _ _ => rfl)) (fv 6) (st_all hu set_list))))))))
    (pss_cons (ps_set (i := 9) sc_law_asked.nd rfl (Or.inl rfl) (pe_lst (pa_cons (pe_callTy c_dictD rfl T.z_dict (by boot_by_name) (pa_cons (pe_ix (ix_all hu) (fv 5) (pe_int) (fun _ _ => rfl)) pa_nil)) (pa_cons (pe_callTy c_dictD rfl T.z_dict (by boot_by_name) (pa_cons (pe_ix (ix_all hu) (fv 5) (pe_int) (fun _ _ => rfl)) pa_nil)) pa_nil))))
    (pss_cons (ps_if (pt_not (pt_tru (pe_callD D_law_whole hr (pa_cons (pe_callD D_most_of hr (pa_cons (pe_fld (fv 0) rfl) (pa_cons (pe_ix (ix_all hu) (fv 9) (pe_int) (fun _ _ => rfl)) pa_nil))) (pa_cons (pe_ix (ix_all hu) (fv 1) (pe_str) (fun _ _ => rfl)) pa_nil))) (fun _ => rfl)))
      (pss_one (ps_ret (pe_bl)))
      pss_nil)
    (pss_cons (ps_if (pt_not (pt_tru (pe_callD D_law_whole hr (pa_cons (pe_callD D_exact_of hr (pa_cons (pe_fld (fv 0) rfl) (pa_cons (pe_ix (ix_all hu) (fv 9) (pe_int) (fun _ _ => rfl)) pa_nil))) (pa_cons (pe_ix (ix_all hu) (fv 1) (pe_str) (fun _ _ => rfl)) pa_nil))) (fun _ => rfl)))
      (pss_one (ps_ret (pe_bl)))
      pss_nil)
    (pss_cons (ps_for PassesOwn.never rfl (pi_any (pe_ix (ix_all hu) (fv 2) (pe_str) (fun _ _ => rfl))) (pg_tup rfl (pgs_cons (pg_name (i := 10) sc_law_asked.nd rfl (by first | exact Or.inl rfl | exact Or.inr rfl)) (pgs_cons (pg_name (i := 11) sc_law_asked.nd rfl (by first | exact Or.inl rfl | exact Or.inr rfl)) (pgs_nil))))
      (pss_cons (ps_set (i := 12) sc_law_asked.nd rfl (Or.inl rfl) (pe_callD D_balanced hr (pa_cons (fv 10) (pa_cons (pe_ix (ix_all hu) (fv 9) (pe_int) (fun _ _ => rfl)) pa_nil))))
      (pss_one (ps_if (PW.pt (pw_or (pt_not (pt_tru (pe_callB c_isinst rfl T.z_isinstance (by boot_by_name) (pa_cons (fv 12) (pa_cons (pe_bltn (v := .ty "bool") rfl T.z_bool (by boot_by_name) rfl) pa_nil))) (fun _ => rfl))) (pw_or1 (pt_cmpR (o_ne hu) (fv 12) (fv 11) (nomark _)))))
        (pss_one (ps_ret (pe_bl)))
        pss_nil))))
    (pss_one (ps_ret (pe_cmpR (o_eqLD hu) (fv 9) (fv 5) (nomark _)))))))))))))), ?_⟩
    refine ⟨p, y1, y2, ym, b1, b2, bm, rfl, R, fun H1 s1 => ⟨_, DGet.k (k := .inr "most") (s1 _ _ hf), some (mOf 6 (kM 6 b1 b2) bm), rfl, _, rfl, iteF ?_⟩⟩
    refine ⟨p, y1, y2, ym, b1, b2, bm, rfl, R.same s1, fun H2 s2 => ⟨_, DGet.k (k := .inr "exact") ((s1.trans s2) _ _ hf), xOf 6 (kX 6 b1 b2) bm, rfl, _, rfl, iteF ?_⟩⟩
    have s12 := s1.trans s2
    refine ⟨p, y1, y2, ym, b1, b2, bm, rfl, R.same s12, fun k1 H3 s3 _ q3 => ?_⟩
    have s13 := s12.trans s3
    refine ⟨p, y1, y2, ym, b1, b2, bm, rfl, R.same s13, fun k2 H4 s4 _ q4 => ?_⟩
    have s14 := s13.trans s4
    have q3 : KnD N H4 k1 _ := s4 _ _ q3
    refine fun a ha => fun b hb => ⟨by show 2 ≤ sizeLine; decide, fun l hl => ?_⟩
    have ab : a ≠ b := fun z => by rw [← z, upd_same] at hb; cases hb
    have s5 : Same H4 (upd (upd (upd H4 a (.dK [])) b (.dK [])) l (.lst [.ref a, .ref b])) := ((Same.upd ha _).trans (Same.upd hb _)).trans (Same.upd hl _)
    have al : a ≠ l := fun z => by rw [← z, upd_ne ab, upd_same] at hl; cases hl
    have bl : b ≠ l := fun z => by rw [← z, upd_same] at hl; cases hl
    have ea : (upd (upd (upd H4 a (.dK [])) b (.dK [])) l (.lst [.ref a, .ref b])) a = some (.dK []) := upd_keep al (upd_keep ab upd_same)
    have eb : (upd (upd (upd H4 a (.dK [])) b (.dK [])) l (.lst [.ref a, .ref b])) b = some (.dK []) := upd_keep bl upd_same
    have el : (upd (upd (upd H4 a (.dK [])) b (.dK [])) l (.lst [.ref a, .ref b])) l = some (.lst [.ref a, .ref b]) := upd_same
    have fb : H4 b = none := by rw [← upd_ne (a := a) (b := b) (H := H4) (o := .dK []) (Ne.symm ab)]; exact hb
    have q3' : H4 k1 = some (.dK (dk N [1, 2] fun i => .int (kM 6 b1 b2 i))) := q3
    have q4' : H4 k2 = some (.dK (dk N [1, 2] fun i => optV (kX 6 b1 b2 i))) := q4
    have n1 : k1 ≠ a := fun z => by rw [z, ha] at q3'; cases q3'
    have n2 : k1 ≠ b := fun z => by rw [z, fb] at q3'; cases q3'
    have n3 : k2 ≠ a := fun z => by rw [z, ha] at q4'; cases q4'
    have n4 : k2 ≠ b := fun z => by rw [z, fb] at q4'; cases q4'
    have fa0 : H a = none := Same.free s14 ha
    have fb0 : H b = none := Same.free s14 fb
    generalize upd (upd (upd H4 a (.dK [])) b (.dK [])) l (.lst [.ref a, .ref b]) = H5 at s5 ea eb el ⊢
    have s15 := s14.trans s5
    have q3 : KnD N H5 k1 _ := s5 _ _ q3
    have q4 : KnD N H5 k2 _ := s5 _ _ q4
    refine ⟨_, _, _, true, rfl, (fun z => by cases z), .dK q3, kit_dd, _, rfl, iteF ?_⟩
    refine ⟨_, _, _, true, rfl, (fun z => by cases z), .dK q4, kit_dd, _, rfl, iteF ?_⟩
    refine Or.inr ⟨k1, _, rfl, .inl q3, rfl, _, rfl, iteF ?_⟩
    refine Or.inr ⟨k2, _, rfl, .inl q4, rfl, _, rfl, iteF ?_⟩
    refine ⟨_, DGet.k (k := .inr "deeds") (s15 _ _ hS), Or.inl ⟨⟨_, SqL.of (s15 _ _ W.hD)⟩, ?_⟩⟩
    refine for_list (K := K) (xs := [.ref d1, .ref d2]) (fun i σ H6 => Same H H6 ∧ KnD N H6 k1 (fun i => .int (kM 6 b1 b2 i)) ∧ KnD N H6 k2 (fun i => optV (kX 6 b1 b2 i)) ∧ H6 l = some (.lst [.ref a, .ref b]) ∧ H6 a = some (.dK (dk N ([1, 2].take i) fun i => .int (kM 6 b1 b2 i))) ∧ H6 b = some (.dK (dk N ([1, 2].take i) fun i => optV (kX 6 b1 b2 i))) ∧ ∃ v6 v7 v8, σ = [some (.ref p.pa), some (.ref f), some (.ref S), some (.ref k1), some (.ref k2), some (.ref l), v6, v7, v8, none, none, none, none]) ⟨s15, q3, q4, el, ea, eb, _, _, _, rfl⟩ (fun i σ H6 _ h => SqL.of (h.1 _ _ W.hD)) ?_ ?_
    · rintro i v σ H6 hv ⟨s6, q3, q4, el, ea, eb, v6, v7, v8, rfl⟩
      obtain ⟨j, d, hj, rfl, ht, jm, jt, jb, jl⟩ : ∃ j d, j ∈ [1, 2] ∧ v = .ref d ∧ H6 d = some (.tup [.str (N j), .int (kM 6 b1 b2 j), optV (kX 6 b1 b2 j)]) ∧ j ∉ [1, 2].take i ∧ [1, 2].take (i + 1) = [1, 2].take i ++ [j] ∧ (∀ x ∈ [1, 2].take i, x < 3) ∧ i < 2 := by
        match i, hv with
        | 0, hv => cases hv; exact ⟨1, d1, by decide, rfl, s6 _ _ W.e1, by decide, rfl, by decide, by decide⟩
        | 1, hv => cases hv; exact ⟨2, d2, by decide, rfl, s6 _ _ W.e2, by decide, rfl, by decide, by decide⟩
        | i + 2, hv => cases hv
      have j3 : j < 3 := lt12 j hj
      have g1 := get_in (f := fun i => V.int (kM 6 b1 b2 i)) Di (.inl q3) lt12 hj
      have g2 := get_in (f := fun i => optV (kX 6 b1 b2 i)) Di (.inl q4) lt12 hj
      have ll : ([1, 2].take i).length < 3 := by rw [List.length_take]; show min i 2 < 3; omega
      refine ⟨d, _, rfl, SqT.of ht, rfl, _, _, rfl, _, _, rfl, _, _, rfl, rfl, ?_⟩
      refine Or.inr ⟨k1, _, rfl, g1, _, rfl, iteF ?_⟩
      refine Or.inr ⟨k2, _, rfl, g2, _, rfl, iteF ?_⟩
      refine ⟨_, g1, some (kM 6 b1 b2 j), rfl, _, rfl, iteF ?_⟩
      refine ⟨_, g2, kX 6 b1 b2 j, rfl, _, rfl, iteF ?_⟩
      refine Or.inl ⟨_, _, Or.inl (SqL.of el), rfl, _, DPut.k (k := .inr (N j)) ea (small1000 (by rw [dk_len]; omega)), ?_⟩
      rw [dk_snoc (f := fun i => V.int (kM 6 b1 b2 i)) Di j3 jb jm]
      have s7 := Same.out s6 fa0 (.dK (dk N ([1, 2].take i ++ [j]) fun i => .int (kM 6 b1 b2 i)))
      have ea7 : (upd H6 a (.dK (dk N ([1, 2].take i ++ [j]) fun i => .int (kM 6 b1 b2 i)))) a = some (.dK (dk N ([1, 2].take i ++ [j]) fun i => .int (kM 6 b1 b2 i))) := upd_same
      have eb7 := upd_keep (u := .dK (dk N ([1, 2].take i ++ [j]) fun i => .int (kM 6 b1 b2 i))) (Ne.symm ab) eb
      have el7 := upd_keep (u := .dK (dk N ([1, 2].take i ++ [j]) fun i => .int (kM 6 b1 b2 i))) (Ne.symm al) el
      have q37 := upd_keep (u := .dK (dk N ([1, 2].take i ++ [j]) fun i => .int (kM 6 b1 b2 i))) n1 q3
      have q47 := upd_keep (u := .dK (dk N ([1, 2].take i ++ [j]) fun i => .int (kM 6 b1 b2 i))) n3 q4
      generalize upd H6 a (.dK (dk N ([1, 2].take i ++ [j]) fun i => .int (kM 6 b1 b2 i))) = H7 at s7 ea7 eb7 el7 q37 q47 ⊢
      refine Or.inl ⟨_, _, Or.inl (SqL.of el7), rfl, _, DPut.k (k := .inr (N j)) eb7 (small1000 (by rw [dk_len]; omega)), ?_⟩
      rw [dk_snoc (f := fun i => optV (kX 6 b1 b2 i)) Di j3 jb jm]
      refine ⟨Same.out s7 fb0 _, upd_keep n2 q37, upd_keep n4 q47, upd_keep (Ne.symm bl) el7, ?_, ?_, _, _, _, rfl⟩
      · rw [jt]
        exact upd_keep ab ea7
      · rw [jt]
        exact upd_same
    · rintro σ H6 ⟨s6, q3, q4, el, ea, eb, v6, v7, v8, rfl⟩
      rw [show ([1, 2] : List Nat).take [V.ref d1, V.ref d2].length = [1, 2] from rfl] at ea eb
      refine Or.inl ⟨_, _, Or.inl (SqL.of el), rfl, a, _, rfl, .inl ea, fun a2 ha2 => ?_⟩
      have s7 := Same.upd ha2 (HO.dK (dk N [1, 2] fun i => .int (kM 6 b1 b2 i)))
      have ea7 : (upd H6 a2 (HO.dK (dk N [1, 2] fun i => .int (kM 6 b1 b2 i)))) a2 = some (.dK (dk N [1, 2] fun i => .int (kM 6 b1 b2 i))) := upd_same
      generalize upd H6 a2 (HO.dK (dk N [1, 2] fun i => .int (kM 6 b1 b2 i))) = H7 at s7 ea7 ⊢
      refine Or.inl ⟨_, _, Or.inl (SqL.of (s7 _ _ el)), rfl, b, _, rfl, .inl (s7 _ _ eb), fun b2' hb2 => ⟨by show 2 ≤ sizeLine; decide, fun l2 hl2 => ?_⟩⟩
      have s8 : Same H7 (upd (upd H7 b2' (HO.dK (dk N [1, 2] fun i => optV (kX 6 b1 b2 i)))) l2 (.lst [.ref a2, .ref b2'])) := (Same.upd hb2 _).trans (Same.upd hl2 _)
      have bl2 : b2' ≠ l2 := fun z => by rw [← z, upd_same] at hl2; cases hl2
      have eb8 : (upd (upd H7 b2' (HO.dK (dk N [1, 2] fun i => optV (kX 6 b1 b2 i)))) l2 (.lst [.ref a2, .ref b2'])) b2' = some (.dK (dk N [1, 2] fun i => optV (kX 6 b1 b2 i))) := upd_keep bl2 upd_same
      have el8 : (upd (upd H7 b2' (HO.dK (dk N [1, 2] fun i => optV (kX 6 b1 b2 i)))) l2 (.lst [.ref a2, .ref b2'])) l2 = some (.lst [.ref a2, .ref b2']) := upd_same
      generalize upd (upd H7 b2' (HO.dK (dk N [1, 2] fun i => optV (kX 6 b1 b2 i)))) l2 (.lst [.ref a2, .ref b2']) = H8 at s8 eb8 el8 ⊢
      have s68 := s7.trans s8
      have s08 := s6.trans s68
      have R8 := R.same s08
      have ea8 := s8 _ _ ea7
      refine ⟨p.pa, _, p.dp, _, _, rfl, R8.pr, T.o_Program.cl, T.n_Program_main, rfl, Or.inl ⟨_, _, Or.inl (SqL.of el8), rfl, p.mn, a2, ym, bm, [1, 2], _, kM 6 b1 b2, rfl, R8.ml, R8.nm, R8.pm, KnD.known ea8, fun _ _ => rfl, fun H9 s9 => ⟨_, DGet.k (k := .inr "most") ((s08.trans s9) _ _ hf), some (mOf 6 (kM 6 b1 b2) bm), rfl, _, rfl, iteF ?_⟩⟩⟩
      have s09 := s08.trans s9
      have R9 := R.same s09
      have eb9 : KnD N H9 b2' _ := s9 _ _ eb8
      have el9 := s9 _ _ el8
      refine ⟨p.pa, _, p.dp, _, _, rfl, R9.pr, T.o_Program.cl, T.n_Program_main, rfl, Or.inl ⟨_, _, Or.inl (SqL.of el9), rfl, p.mn, b2', ym, bm, [1, 2], _, kX 6 b1 b2, rfl, R9.ml, R9.nm, R9.pm, KnD.known eb9, fun _ _ => rfl, _, DGet.k (k := .inr "exact") (s09 _ _ hf), xOf 6 (kX 6 b1 b2) bm, rfl, _, rfl, iteF ?_⟩⟩
      refine ⟨_, DGet.k (k := .inr "nests") (s09 _ _ hS), Or.inl ⟨⟨_, SqL.of (s09 _ _ W.hN)⟩, ?_⟩⟩
      refine for_list (K := K) (xs := nv) (fun i σ H10 => H10 = H9 ∧ ∃ v6 v7 v8 v10 v11 v12, σ = [some (.ref p.pa), some (.ref f), some (.ref S), some (.ref k1), some (.ref k2), some (.ref l), v6, v7, v8, some (.ref l2), v10, v11, v12]) ⟨rfl, _, _, _, _, _, _, rfl⟩ (fun i σ H10 _ h => by rw [h.1]; exact SqL.of (s09 _ _ W.hN)) ?_ ?_
      · rintro i v σ H10 hv ⟨rfl, v6, v7, v8, v10, v11, v12, rfl⟩
        obtain ⟨r, hr, t, y, rfl, ht, ra⟩ := paired_get W.nst hv
        refine ⟨t, _, rfl, SqT.of (s09 _ _ ht), rfl, _, _, rfl, _, _, rfl, rfl, ?_⟩
        refine Or.inl ⟨_, _, Or.inl (SqL.of el9), rfl, y, b2', r, [1, 2], _, kX 6 b1 b2, rfl, ra.same s09, KnD.known eb9, fun _ _ => rfl, ?_⟩
        refine ⟨_, _, _, true, rfl, (fun z => by cases z), .bl _, kit_bb, _, rfl, iteF ?_⟩
        refine ⟨rfl, _, rfl, ?_⟩
        rw [show (!decide (V.bl (exactR (kX 6 b1 b2) 6 r).isSome = V.bl (exactR (kF b1 b2).kx 6 r).isSome)) = false from congrArg Bool.not (decide_eq_true rfl)]
        exact iteF ⟨rfl, _, _, _, _, _, _, rfl⟩
      · rintro σ H10 ⟨rfl, v6, v7, v8, v10, v11, v12, rfl⟩
        refine ⟨l2, l, _, _, rfl, rfl, SqL.of el9, SqL.of (s9 _ _ (s68 _ _ el)), rfl, fun i x z hx hz => ?_, q _ s09⟩
        match i, hx, hz with
        | 0, hx, hz => cases hx; cases hz; exact ⟨_, _, rfl, rfl, dict_eq Di (s9 _ _ ea8) (s9 _ _ (s68 _ _ ea)) fun _ => rfl⟩
        | 1, hx, hz => cases hx; cases hz; exact ⟨_, _, rfl, rfl, dict_eq Di eb9 (s9 _ _ (s68 _ _ eb)) fun _ => flat_opt _⟩
        | i + 2, hx, _ => cases hx
end
end K13

set_option Elab.async false
set_option linter.all false
set_option maxRecDepth 100000
set_option maxHeartbeats 4000000
namespace K13
open PySem L2
section
variable {P : Program} {w : World} {K : PySem.W.Frag} {mg : Str → Option Value} {base : Heap} {A : Adr} {N : Nat → Str}
theorem Has.ex {ι : Type} {k : Nat} {x : Str} {ps : List Str} {sp : ι → Sp} {p : ι → Prop} (i0 : ι) (h0 : p i0) (h : ∀ i, p i → Has P w K mg base k x ps (sp i)) : Has P w K mg base k x ps (fun vs H Q E => ∃ i, p i ∧ sp i vs H Q E) := by
  obtain ⟨f, fd, F, b, kp, m, oc, od, osl, lk⟩ := h i0 h0
  have same : ∀ i, p i → FnOk P w K mg base CX0 k f fd ps (sp i) := fun i hi => by
    obtain ⟨f', fd', F', b', kp', m', oc', od', osl', lk'⟩ := h i hi
    have e : f' = f := by rw [m] at m'; cases m'; rfl
    subst e
    rw [lk] at lk'
    cases lk'
    exact F'
  exact ⟨f, fd, ⟨fun vs H Q E ⟨i, hi, q⟩ => (same i hi).len vs H Q E q, fun A outer s H args us vs Q E hr he hb hv ⟨i, hi, q⟩ => (same i hi).run A outer s H args us vs Q E hr he hb hv q⟩, b, kp, m, oc, od, osl, lk⟩
theorem RowAt.wide {ki kj : List Nat} {H : Hp} (sub : ∀ i ∈ ki, i ∈ kj) : ∀ {d : Nat} {v : V} {r : Rw}, RowAt A N ki H d v r → RowAt A N kj H d v r
  | 0, v, r, h => by
    cases r with
    | set => unfold RowAt at h ⊢; exact h
    | last => unfold RowAt at h ⊢; exact h
    | call i => unfold RowAt at h ⊢; exact ⟨sub _ h.1, h.2⟩
    | iff f o l r => unfold RowAt at h; exact h.elim
    | loop m b l r => unfold RowAt at h; exact h.elim
  | d + 1, v, r, h => by
    cases r with
    | set => unfold RowAt at h ⊢; exact h
    | last => unfold RowAt at h ⊢; exact h
    | call i => unfold RowAt at h ⊢; exact ⟨sub _ h.1, h.2⟩
    | iff f o l r =>
      unfold RowAt at h ⊢
      obtain ⟨a, dx, n, p, pf, po, xf, xo, e, h1, h2, h3, h4, h5, h6, h7⟩ := h
      exact ⟨a, dx, n, p, pf, po, xf, xo, e, h1, h2, h3, h4, h5, Paired.mapP h6 fun _ _ z => RowAt.wide sub z, Paired.mapP h7 fun _ _ z => RowAt.wide sub z⟩
    | loop m b l r =>
      unfold RowAt at h ⊢
      obtain ⟨hm, a, dx, n, p, pb, xb, e, h1, h2, h3, h4⟩ := h
      exact ⟨hm, a, dx, n, p, pb, xb, e, h1, h2, h3, Paired.mapP h4 fun _ _ z => RowAt.wide sub z⟩
theorem exact_congr {ki : List Nat} {H : Hp} {kn km : Nat → Option Int} (eq : ∀ i ∈ ki, kn i = km i) : ∀ {d : Nat} {v : V} {r : Rw}, RowAt A N ki H d v r → exactR kn d r = exactR km d r
  | 0, v, r, h => by
    cases r with
    | set => rfl
    | last => rfl
    | call i => unfold RowAt at h; unfold exactR; rw [eq i h.1]
    | iff f o l r => unfold RowAt at h; exact h.elim
    | loop m b l r => unfold RowAt at h; exact h.elim
  | d + 1, v, r, h => by
    cases r with
    | set => rfl
    | last => rfl
    | call i => unfold RowAt at h; unfold exactR; rw [eq i h.1]
    | iff f o l r =>
      unfold RowAt at h
      obtain ⟨a, dx, n, p, pf, po, xf, xo, e, h1, h2, h3, h4, h5, h6, h7⟩ := h
      have e1 : f.map (exactR kn d) = f.map (exactR km d) := map_eq_of (fun _ _ z => exact_congr eq z) h6
      have e2 : o.map (exactR kn d) = o.map (exactR km d) := map_eq_of (fun _ _ z => exact_congr eq z) h7
      simp only [exactR, e1, e2]
    | loop m b l r =>
      unfold RowAt at h
      obtain ⟨hm, a, dx, n, p, pb, xb, e, h1, h2, h3, h4⟩ := h
      have e1 : b.map (exactR kn d) = b.map (exactR km d) := map_eq_of (fun _ _ z => exact_congr eq z) h4
      simp only [exactR, e1]
theorem paired_mem {α β : Type} {F G : α → β → Prop} : ∀ {xs : List α} {ys : List β}, PySem.Paired F xs ys → (∀ a b, b ∈ ys → F a b → G a b) → PySem.Paired G xs ys
  | _, _, .nil, _ => .nil
  | _, _, .cons p r, h => .cons (h _ _ List.mem_cons_self p) (paired_mem r fun a b m => h a b (List.mem_cons_of_mem _ m))
def kS : List (List Rw) → Kn
  | [] => ⟨[], fun _ => 0, fun _ => none⟩
  | [b1] => ⟨[1], fun _ => mOf 6 (fun _ => 0) b1, fun _ => xOf 6 (fun _ => none) b1⟩
  | b1 :: b2 :: _ => kF b1 b2
theorem kS3 : ∀ bs : List (List Rw), Ki3 (kS bs).ki
  | [] => .inl rfl
  | [_] => .inr (.inl rfl)
  | _ :: _ :: _ => .inr (.inr rfl)
structure KNext (k k' : Kn) (j : Nat) (b : List Rw) : Prop where
  ki : k'.ki = k.ki ++ [j + 1]
  n : k'.kn (j + 1) = mOf 6 k.kn b
  x : k'.kx (j + 1) = xOf 6 k.kx b
  en : ∀ i ∈ k.ki, k.kn i = k'.kn i
  ex : ∀ i ∈ k.ki, k.kx i = k'.kx i
theorem kS_next : ∀ {bs : List (List Rw)} {j : Nat} (b : List Rw), bs.length = j → j < 2 → KNext (kS bs) (kS (bs ++ [b])) j b
  | [], _, b, rfl, _ => ⟨rfl, rfl, rfl, fun i h => (by cases h), fun i h => (by cases h)⟩
  | [b1], _, b, rfl, _ => ⟨rfl, rfl, rfl, fun i h => (by rw [List.mem_singleton.mp h]; rfl), fun i h => (by rw [List.mem_singleton.mp h]; rfl)⟩
  | _ :: _ :: r, j, _, e, h => by simp at e; omega
theorem NestAt.next {k k' : Kn} {j : Nat} {b : List Rw} {X : Hp} {v : V} {r : Rw} (n : KNext k k' j b) (h : NestAt A N k X v r) : NestAt A N k' X v r := by
  obtain ⟨t, y, e, h1, h2⟩ := h
  refine ⟨t, y, e, ?_, RowAt.wide (fun i m => by rw [n.ki]; exact List.mem_append_left _ m) h2⟩
  rw [← exact_congr n.ex h2]
  exact h1
theorem DeedAt.next {k k' : Kn} {j : Nat} {b : List Rw} {X : Hp} {v : V} {i : Nat} (n : KNext k k' j b) (m : i ∈ k.ki) (h : DeedAt N k X v i) : DeedAt N k' X v i := by
  obtain ⟨t, e, h1⟩ := h
  refine ⟨t, e, ?_⟩
  rw [← n.en i m, ← n.ex i m]
  exact h1
theorem LB.num {H : Hp} {k : Kn} {s : Sa} {num : Int} {fv : V} {nv : List V} {nr : List Rw} {dv : List V} {c : Nat} (h : LB A N k H (del s.M H) s num fv nv nr dv c) (nd : s.M.Nodup) (n : Int) : LB A N k (upd H s.S (.dK (stK n fv s.Nl s.Dl (N 0)))) (del s.M (upd H s.S (.dK (stK n fv s.Nl s.Dl (N 0))))) s n fv nv nr dv c := by
  have g := Go.at (M := s.M) (H := H) (x := s.S) (by simp [Sa.M]) (.dK (stK n fv s.Nl s.Dl (N 0)))
  unfold Sa.M at nd
  simp only [List.nodup_cons, List.mem_cons, List.not_mem_nil, or_false, not_or, not_false_eq_true, List.nodup_nil, and_true] at nd
  obtain ⟨⟨a1, a2, a4⟩, ⟨a3, a5⟩, a6⟩ := nd
  exact ⟨upd_same, upd_keep (fun z => a1 z.symm) h.hN, upd_keep (fun z => a2 z.symm) h.hD, Paired.mapP h.nst fun _ _ => NestAt.same g.same, Paired.mapP h.dds fun _ _ => DeedAt.same g.same, h.nl, upd_keep (fun z => a4 z.symm) h.hQ⟩
theorem LB.same {H H' : Hp} {k : Kn} {s : Sa} {num : Int} {fv : V} {nv : List V} {nr : List Rw} {dv : List V} {c : Nat} (h : LB A N k H (del s.M H) s num fv nv nr dv c) (e : Same H H') : LB A N k H' (del s.M H') s num fv nv nr dv c := h.keep (fun a _ => e a) (Go.new e).same (Nat.le_refl _)
theorem LB.free {H : Hp} {k : Kn} {s : Sa} {num : Int} {fv : V} {nv : List V} {nr : List Rw} {dv : List V} {c : Nat} (h : LB A N k H (del s.M H) s num fv nv nr dv c) {a : Addr} (e : H a = none) : a ∉ s.M := fun m => by
  unfold Sa.M at m
  simp only [List.mem_cons, List.not_mem_nil, or_false] at m
  rcases m with rfl | rfl | rfl | rfl
  · rw [h.hS] at e; cases e
  · rw [h.hN] at e; cases e
  · rw [h.hD] at e; cases e
  · rw [h.hQ] at e; cases e
theorem LB.deed {H H' : Hp} {k k' : Kn} {s : Sa} {num : Int} {fv : V} {nv : List V} {nr : List Rw} {dv : List V} {c j : Nat} {b : List Rw} {r t : Addr} (h : LB A N k H (del s.M H) s num fv nv nr dv c) (n : KNext k k' j b) (g : Go s.M H s.M H') (hS : H' s.S = some (.dK (stK num fv s.Nl s.Dl (N 0)))) (hN : H' s.Nl = some (.lst nv)) (hD : H' s.Dl = some (.lst (dv ++ [.ref t]))) (hQ : H' s.Q = some (.lst (s.qv ++ [.ref r])))
    (tm : t ∉ s.M) (ht : H' t = some (.tup [.str (N (j + 1)), .int (mOf 6 k.kn b), optV (xOf 6 k.kx b)])) : LB A N k' H' (del s.M H') { s with qv := s.qv ++ [.ref r] } num fv nv nr (dv ++ [.ref t]) c := by
  refine ⟨hS, hN, hD, Paired.mapP h.nst fun _ _ z => (z.same g.same).next n, ?_, h.nl, hQ⟩
  rw [n.ki]
  refine PySem.Paired.snoc (paired_mem h.dds fun a i m z => (z.same g.same).next n m) ⟨t, rfl, ?_⟩
  rw [n.n, n.x]
  exact del_some tm ht
structure D0 where
  r : Addr
  x : Addr
  q : Addr
  y : List V
structure DeedIn (A : Adr) (N : Nat → Str) (X : Hp) (d : D0) (b : List Rw) (i : Nat) (ki : List Nat) : Prop where
  a : ∃ n t, X d.r = some (.ins A.DeedRow d.x [("number", n), ("name", .str (N i)), ("parts", t), ("body", .ref d.q)])
  l : X d.q = some (.lst d.y)
  p : PySem.Paired (RowAt A N ki X 6) d.y b
  n : d.y.length ≤ 1000
theorem DeedIn.same {X X' : Hp} {d : D0} {b : List Rw} {i : Nat} {ki : List Nat} (s : Same X X') (h : DeedIn A N X d b i ki) : DeedIn A N X' d b i ki := by
  obtain ⟨n, t, e⟩ := h.a
  exact ⟨⟨n, t, s _ _ e⟩, s _ _ h.l, Paired.mapP h.p fun _ _ => RowAt.same s, h.n⟩
def DeedsIn (A : Adr) (N : Nat → Str) (X : Hp) (ds : List D0) (bs : List (List Rw)) : Prop := ∀ (i : Nat) d b, ds[i]? = some d → bs[i]? = some b → DeedIn A N X d b (i + 1) (kS (bs.take i)).ki
theorem DeedsIn.snoc {X X' : Hp} {ds : List D0} {bs : List (List Rw)} {d : D0} {b : List Rw} (h : DeedsIn A N X ds bs) (s : Same X X') (l : ds.length = bs.length) (hd : DeedIn A N X' d b (bs.length + 1) (kS bs).ki) : DeedsIn A N X' (ds ++ [d]) (bs ++ [b]) := fun i d' b' e1 e2 => by
  by_cases hi : i < bs.length
  · rw [List.getElem?_append_left (by omega)] at e1
    rw [List.getElem?_append_left hi] at e2
    rw [List.take_append_of_le_length (by omega)]
    exact (h i d' b' e1 e2).same s
  · by_cases he : i = bs.length
    · subst he
      rw [List.getElem?_append_right (by omega)] at e1 e2
      rw [l, Nat.sub_self] at e1
      rw [Nat.sub_self] at e2
      cases e1
      cases e2
      rw [List.take_append_of_le_length (Nat.le_refl _), List.take_length]
      exact hd
    · rw [List.getElem?_eq_none (by simp; omega)] at e2
      cases e2
theorem pe_disp5s {X : Cx} {pos : Pos} {k1 v1 k2 v2 k3 v3 k4 v4 k5 v5 : Expr} {a1 b1 a2 b2 a3 b3 a4 b4 a5 b5 : TE} (h1 : PEs X k1 a1) (g1 : PEs X v1 b1) (h2 : PEs X k2 a2) (g2 : PEs X v2 b2) (h3 : PEs X k3 a3) (g3 : PEs X v3 b3) (h4 : PEs X k4 a4) (g4 : PEs X v4 b4) (h5 : PEs X k5 a5) (g5 : PEs X v5 b5) : PEs X (.Dict [some k1, some k2, some k3, some k4, some k5] [v1, v2, v3, v4, v5] pos) (tDisp [(a1, b1), (a2, b2), (a3, b3), (a4, b4), (a5, b5)]) := ⟨pe_disp (pps_cons h1.h g1.h (pps_cons h2.h g2.h (pps_cons h3.h g3.h (pps_cons h4.h g4.h (pps_cons h5.h g5.h pps_nil))))) rfl rfl (by intro z; cases z) (by simp)⟩
theorem RowAt.flat {ki : List Nat} {H : Hp} : ∀ {d : Nat} {v : V} {r : Rw}, RowAt A N ki H d v r → flatR v = true
  | 0, v, r, h => by
    cases r with
    | set => unfold RowAt at h; obtain ⟨a, dx, fs, rfl, h⟩ := h; rfl
    | last => unfold RowAt at h; obtain ⟨a, dx, fs, rfl, h⟩ := h; rfl
    | call i => unfold RowAt at h; obtain ⟨m, a, dx, n, t, rfl, h⟩ := h; rfl
    | iff f o l r => unfold RowAt at h; exact h.elim
    | loop m b l r => unfold RowAt at h; exact h.elim
  | d + 1, v, r, h => by
    cases r with
    | set => unfold RowAt at h; obtain ⟨a, dx, fs, rfl, h⟩ := h; rfl
    | last => unfold RowAt at h; obtain ⟨a, dx, fs, rfl, h⟩ := h; rfl
    | call i => unfold RowAt at h; obtain ⟨m, a, dx, n, t, rfl, h⟩ := h; rfl
    | iff f o l r => unfold RowAt at h; obtain ⟨a, dx, n, p, pf, po, xf, xo, rfl, _⟩ := h; rfl
    | loop m b l r => unfold RowAt at h; obtain ⟨hm, a, dx, n, p, pb, xb, rfl, _⟩ := h; rfl
theorem flat_all {ki : List Nat} {H : Hp} {d : Nat} : ∀ {xs : List V} {rs : List Rw}, PySem.Paired (RowAt A N ki H d) xs rs → xs.all flatR = true
  | _, _, .nil => rfl
  | _, _, .cons p r => by rw [List.all_cons, p.flat, flat_all r]; rfl
end
end K13

set_option Elab.async false
set_option linter.all false
set_option maxRecDepth 100000
set_option maxHeartbeats 4000000
namespace K13
open PySem L2
section
variable {P : Program} {w : World} {K : PySem.W.Frag} {mg : Str → Option Value} {base : Heap} {A : Adr}
def sp_law (K : PySem.W.Frag) : Sp := fun vs H Q _ => ∃ (a : Addr) (ns : List Int), vs = [.ref a] ∧ SqL K H a (ns.map V.int) ∧ ns.length ≤ 63 ∧ ∀ H', Q (.bl true) H'
structure Nk where
  N : Nat → Str
  k : Kn
theorem at3 (N : Nat → Str) {j : Nat} (h : j < 2) : atI [V.str (N 0), .str (N 1), .str (N 2)] (1 + (0 + (j : Int))) = some (.str (N (j + 1))) := by
  have : j = 0 ∨ j = 1 := by omega
  rcases this with rfl | rfl <;> rfl
theorem at2 {j : Nat} (h : j < 2) : ∃ rm : Int, atI [V.int 300, .int 800] (0 + (j : Int)) = some (.int rm) := by
  have : j = 0 ∨ j = 1 := by omega
  rcases this with rfl | rfl
  · exact ⟨300, rfl⟩
  · exact ⟨800, rfl⟩
theorem Go.keep {M : List Addr} {H0 H H' : Hp} (g : Go M H M H') (s : Same H0 H) (f : ∀ a ∈ M, H0 a = none) : Same H0 H' := fun a o h => g.o a o (fun m => by rw [f a m] at h; cases h) (s a o h)
theorem h_law (T : Txt K mg A) (F : TopFn K mg "law" s_law ["_law_script"]) : Has P w K mg base 30 "law" ["_law_script"] (sp_law K) := by
  have D_law_cell_at := h_cell (P := P) (w := w) (base := base) T
  have D_law_names := h_names (P := P) (w := w) (base := base) T
  have D_law_more := h_morec (P := P) (w := w) (base := base) T
  have D_law_mix := h_mix (P := P) (w := w) (base := base) T
  have D_law_body := Has.ex (P := P) (w := w) (base := base) (sp := fun i : Nk => sp_body A i.N i.k) (p := fun i => Ki3 i.k.ki ∧ ∀ j, PyData.strOk (i.N j) = true) ⟨nmA 0, kS []⟩ ⟨kS3 [], nmA_ok 0⟩ fun i h => h_body (P := P) (w := w) (base := base) (N := i.N) (k := i.k) T h.1 h.2
  have D_law_asked := Has.ex (P := P) (w := w) (base := base) (sp := fun N : Nat → Str => sp_asked A N) (p := fun N => Dist N) (nmA 0) (nmA_dist 0) fun N h => h_asked (P := P) (w := w) (base := base) (N := N) T h
  have D_DeedRow_init := h_DeedRow_init (P := P) (w := w) (base := base) T
  have D_OwnRow_init := h_OwnRow_init (P := P) (w := w) (base := base) T
  have D_Program_init := h_Program_init (P := P) (w := w) (base := base) T
  refine F.has (k := 29) sc_law (fun vs H Q E h => ?_) (fun f cdv A' outer s0 H vs Q E hr hu h => ?_)
  · obtain ⟨a, ns, rfl, _⟩ := h
    rfl
  · obtain ⟨a, ns, rfl, hS, hlen, q⟩ := h
    refine ⟨_, (pss_consT (ps_set (i := 1) sc_law.nd rfl (Or.inl rfl) (pe_callD D_law_names hr (pa_cons (pe_callD D_law_cell_at hr (pa_cons (fv 0) (pa_cons (pe_int) pa_nil))) (pa_cons (pe_callD D_law_cell_at hr (pa_cons (fv 0) (pa_cons (pe_int) pa_nil))) (pa_cons (pe_int) pa_nil)))))
    (ps_setT (i := 2) sc_law.nd rfl (Or.inl rfl) (pe_disp5s ⟨pe_str⟩ ⟨pe_int⟩ ⟨pe_str⟩ ⟨pe_lst (pa_nil)⟩ ⟨pe_str⟩ ⟨pe_lst (pa_nil)⟩ ⟨pe_str⟩ ⟨pe_lst (pa_nil)⟩ ⟨pe_str⟩ ⟨pe_ix (ix_all hu) (fv 1) (pe_int) (fun _ _ => rfl)⟩)) (pss_cons (ps_set (i := 3) sc_law.nd rfl (Or.inl rfl) (pe_lst (pa_nil)))
    (pss_cons (ps_for PassesOwn.never rfl (pi_range1 rfl T.z_range (pa_cons (pe_int) pa_nil)) (pg_name (i := 4) sc_law.nd rfl (by first | exact Or.inl rfl | exact Or.inr rfl))
      (pss_cons (ps_set (i := 5) sc_law.nd rfl (Or.inl rfl) (pe_op o_add (pe_ix (ix_all hu) (fv 2) (pe_str) (fun _ _ => rfl)) (pe_int)))
      (pss_cons (ps_asg (fv 5) (pg_sub (fv 2) (pe_str) (st_all hu set_list)))
      (pss_cons (ps_set (i := 6) sc_law.nd rfl (Or.inl rfl) (pe_callD D_law_body hr (pa_cons (fv 2) (pa_cons (pe_callD D_law_more hr (pa_cons (fv 0) (pa_cons (pe_op o_add (pe_int) (pe_op o_mulA (pe_int) (fv 4))) (pa_cons (pe_int) pa_nil)))) (pa_cons (pe_ix (ix_all hu) (pe_lst (pa_cons (pe_int) (pa_cons (pe_int) pa_nil))) (fv 4) (fun _ _ => rfl)) pa_nil)))))
      (pss_cons (ps_asg (pe_op o_add (pe_ix (ix_all hu) (fv 2) (pe_str) (fun _ _ => rfl)) (pe_int)) (pg_sub (fv 2) (pe_str) (st_all hu set_list)))
      (pss_cons (ps_expr (m_append (fv 3) (pa_cons (pe_makeD T.o_DeedRow D_DeedRow_init hr (pa_cons (fv 5) (pa_cons (pe_ix (ix_all hu) (fv 1) (pe_op o_add (pe_int) (fv 4)) (fun _ _ => rfl)) (pa_cons (pe_lst (pa_nil)) (pa_cons (pe_ix (ix_all hu) (fv 6) (pe_str) (fun _ _ => rfl)) pa_nil))))) pa_nil)))
      (pss_one (ps_expr (m_append (pe_ix (ix_all hu) (fv 2) (pe_str) (fun _ _ => rfl)) (pa_cons (pe_tup (pa_cons (pe_ix (ix_all hu) (fv 1) (pe_op o_add (pe_int) (fv 4)) (fun _ _ => rfl)) (pa_cons (pe_ix (ix_all hu) (fv 6) (pe_str) (fun _ _ => rfl)) (pa_cons (pe_ix (ix_all hu) (fv 6) (pe_str) (fun _ _ => rfl)) pa_nil)))) pa_nil))))))))))
    (pss_cons (ps_asg (pe_op o_add (pe_ix (ix_all hu) (fv 2) (pe_str) (fun _ _ => rfl)) (pe_int)) (pg_sub (fv 2) (pe_str) (st_all hu set_list)))
    (pss_cons (ps_set (i := 6) sc_law.nd rfl (Or.inl rfl) (pe_callD D_law_body hr (pa_cons (fv 2) (pa_cons (pe_callD D_law_more hr (pa_cons (fv 0) (pa_cons (pe_int) (pa_cons (pe_op o_add (pe_int) (pe_op o_mod (pe_callD D_law_mix hr (pa_cons (pe_callD D_law_cell_at hr (pa_cons (fv 0) (pa_cons (pe_int) pa_nil))) (pa_cons (pe_int) pa_nil))) (pe_int))) pa_nil)))) (pa_cons (pe_int) pa_nil)))))
    (pss_cons (ps_set (i := 7) sc_law.nd rfl (Or.inl rfl) (pe_makeD T.o_Program D_Program_init hr (pa_cons (pe_lst (pa_cons (pe_makeD T.o_OwnRow D_OwnRow_init hr (pa_cons (pe_int) (pa_cons (pe_ix (ix_all hu) (fv 1) (pe_int) (fun _ _ => rfl)) (pa_cons (pe_int) pa_nil)))) pa_nil)) (pa_cons (fv 3) (pa_cons (pe_callTy c_listA rfl T.z_list (by boot_by_name) (pa_cons (pe_ix (ix_all hu) (fv 6) (pe_str) (fun _ _ => rfl)) pa_nil)) pa_nil)))))
    (pss_cons (ps_set (i := 8) sc_law.nd rfl (Or.inl rfl) (pe_callTy c_listA rfl T.z_list (by boot_by_name) (pa_cons (pe_ix (ix_all hu) (fv 6) (pe_str) (fun _ _ => rfl)) pa_nil)))
    (pss_one (ps_ret (pe_and (pe_callD D_law_asked hr (pa_cons (fv 7) (pa_cons (fv 6) (pa_cons (fv 2) pa_nil)))) (pe_and (pe_cmpR (o_eqU hu) (pe_fld (fv 7) rfl) (fv 8) (nomark _)) (pe_one (pe_callD D_law_asked hr (pa_cons (fv 7) (pa_cons (fv 6) (pa_cons (fv 2) pa_nil)))))))))))))))), ?_⟩
    refine ⟨a, ns, 0, rfl, hS, by decide, by decide, fun c0 H1 s1 => ⟨a, ns, 1, rfl, s1.seq hS, by decide, by decide, fun c1 H2 s2 => ⟨c0, c1, rfl, fun ln N H3 Di ok s3 ln0 hln => ?_⟩⟩⟩
    have hS3 := ((s1.trans s2).trans s3).seq hS
    refine fun S hS0 => ?_
    have t4 := Same.upd hS0 (HO.dK [])
    have e4 : (upd H3 S (HO.dK [])) S = some (.dK []) := upd_same
    generalize upd H3 S (HO.dK []) = H4 at t4 e4 ⊢
    refine ⟨Nat.zero_le _, fun F hF => ⟨Nat.zero_le _, fun Nl hNl => ⟨Nat.zero_le _, fun Dl hDl => ?_⟩⟩⟩
    have u5 : Same H4 (upd (upd H4 F (.lst [])) Nl (.lst [])) := (Same.upd hF _).trans (Same.upd hNl _)
    have t5 : Same H4 (upd (upd (upd H4 F (.lst [])) Nl (.lst [])) Dl (.lst [])) := u5.trans (Same.upd hDl _)
    have nd : Nl ≠ Dl := fun z => by rw [← z, upd_same] at hDl; cases hDl
    have eN : (upd (upd (upd H4 F (.lst [])) Nl (.lst [])) Dl (.lst [])) Nl = some (.lst []) := upd_keep nd upd_same
    have eD : (upd (upd (upd H4 F (.lst [])) Nl (.lst [])) Dl (.lst [])) Dl = some (.lst []) := upd_same
    have fN : H3 Nl = none := Same.free (t4.trans (Same.upd hF (HO.lst []))) hNl
    have fD : H3 Dl = none := Same.free (t4.trans u5) hDl
    generalize upd (upd (upd H4 F (.lst [])) Nl (.lst [])) Dl (.lst []) = H5 at t5 eN eD ⊢
    have t35 := t4.trans t5
    have e5 := t5 _ _ e4
    have sN : S ≠ Nl := fun z => by rw [z, eN] at e5; cases e5
    have sD : S ≠ Dl := fun z => by rw [z, eD] at e5; cases e5
    refine Or.inl ⟨_, _, Or.inl (SqL.of (t35 _ _ hln)), rfl, e5, [((.inr "number" : Key), .int 1), (.inr "frames", .ref F), (.inr "nests", .ref Nl), (.inr "deeds", .ref Dl), (.inr "x", .str (N 0))], rfl, (show 5 ≤ 15 by decide), ?_⟩
    rw [show mergeK [] [((.inr "number" : Key), V.int 1), (.inr "frames", .ref F), (.inr "nests", .ref Nl), (.inr "deeds", .ref Dl), (.inr "x", .str (N 0))] = stK 1 (.ref F) Nl Dl (N 0) from rfl]
    have t6 : Same H3 (upd H5 S (.dK (stK 1 (.ref F) Nl Dl (N 0)))) := Same.out t35 hS0 _
    have eS6 : (upd H5 S (.dK (stK 1 (.ref F) Nl Dl (N 0)))) S = some (.dK (stK 1 (.ref F) Nl Dl (N 0))) := upd_same
    have eN6 := upd_keep (u := .dK (stK 1 (.ref F) Nl Dl (N 0))) (Ne.symm sN) eN
    have eD6 := upd_keep (u := .dK (stK 1 (.ref F) Nl Dl (N 0))) (Ne.symm sD) eD
    generalize upd H5 S (.dK (stK 1 (.ref F) Nl Dl (N 0))) = H6 at t6 eS6 eN6 eD6 ⊢
    refine ⟨Nat.zero_le _, fun Qa hQa => ?_⟩
    have t7 := Same.upd hQa (HO.lst [])
    have eQ7 : (upd H6 Qa (HO.lst [])) Qa = some (.lst []) := upd_same
    have fQ : H3 Qa = none := Same.free t6 hQa
    have sQ : S ≠ Qa := fun z => by rw [← z, eS6] at hQa; cases hQa
    have nQ : Nl ≠ Qa := fun z => by rw [← z, eN6] at hQa; cases hQa
    have dQ : Dl ≠ Qa := fun z => by rw [← z, eD6] at hQa; cases hQa
    have eS7 := t7 _ _ eS6
    have eN7 := t7 _ _ eN6
    have eD7 := t7 _ _ eD6
    have t37 := t6.trans t7
    generalize upd H6 Qa (HO.lst []) = H7 at t7 eQ7 eS7 eN7 eD7 t37 ⊢
    have fM : ∀ x ∈ [S, Nl, Dl, Qa], H3 x = none := fun x m => by
      simp only [List.mem_cons, List.not_mem_nil, or_false] at m
      rcases m with rfl | rfl | rfl | rfl
      · exact hS0
      · exact fN
      · exact fD
      · exact fQ
    have nod : [S, Nl, Dl, Qa].Nodup := by simp [sN, sD, sQ, nd, nQ, dQ]
    have lnM : ln ∉ [S, Nl, Dl, Qa] := fun m => by have := fM ln m; rw [hln] at this; cases this
    refine ⟨2, rfl, by decide, by decide, ?_⟩
    refine for_range (fun j σ Hc => ∃ (bs : List (List Rw)) (ds : List D0) (num : Int) (fw : V) (nv : List V) (nr : List Rw) (dv : List V) (v4 v5 v6 : Option V), bs.length = j ∧ ds.length = j ∧ dv.length = j ∧ LB A N (kS bs) Hc (del [S, Nl, Dl, Qa] Hc) ⟨S, Nl, Dl, Qa, ds.map fun d => .ref d.r⟩ num fw nv nr dv (100 * j) ∧ Same H3 Hc ∧ DeedsIn A N (del [S, Nl, Dl, Qa] Hc) ds bs ∧ σ = [some (.ref a), some (.ref ln), some (.ref S), some (.ref Qa), v4, v5, v6, none, none])
      ⟨[], [], 1, .ref F, [], [], [], _, _, _, rfl, rfl, rfl, ⟨eS7, eN7, eD7, .nil, .nil, Nat.le_refl _, eQ7⟩, t37, (fun i d b h => by cases h), rfl⟩ ?_ ?_
    · rintro j σ Hc hj ⟨bs, ds, num, fw, nv, nr, dv, v4, v5, v6, lb, ld, lv, B, sc, DI, rfl⟩
      have B : LB A N (kS bs) Hc (del (Sa.M ⟨S, Nl, Dl, Qa, ds.map fun d => .ref d.r⟩) Hc) ⟨S, Nl, Dl, Qa, ds.map fun d => .ref d.r⟩ num fw nv nr dv (100 * j) := B
      refine ⟨_, DGet.k (k := .inr "number") B.hS, ?_⟩
      refine ⟨_, DPut.k (k := .inr "number") B.hS (show 5 < sizeLine by decide), ?_⟩
      rw [show putK (stK num fw Nl Dl (N 0)) (.inr "number") (.int (num + 1)) = stK (num + 1) fw Nl Dl (N 0) from rfl]
      have B1 := B.num nod (num + 1)
      have g1 : Go [S, Nl, Dl, Qa] Hc [S, Nl, Dl, Qa] (upd Hc S (.dK (stK (num + 1) fw Nl Dl (N 0)))) := Go.at (by simp) _
      generalize upd Hc S (.dK (stK (num + 1) fw Nl Dl (N 0))) = Hd at B1 g1 ⊢
      have sd := g1.keep sc fM
      refine ⟨small_mul (by decide) (by decide), a, ns, 2 + 6 * j, 6, (by rw [show (2 : Int) + 6 * (0 + (j : Int)) = ((2 + 6 * j : Nat) : Int) by omega]; rfl), sd.seq hS3, by omega, by decide, fun l cs He se l0 hl cl => ?_⟩
      refine ⟨(by show 2 ≤ sizeLine; decide), fun l5 hl5 => ?_⟩
      obtain ⟨rm, hrm⟩ := at2 hj
      have sf := se.trans (Same.upd hl5 (HO.lst [.int 300, .int 800]))
      have el5 : (upd He l5 (HO.lst [.int 300, .int 800])) l5 = some (.lst [.int 300, .int 800]) := upd_same
      have hl' := Same.upd hl5 (HO.lst [.int 300, .int 800]) _ _ hl
      generalize upd He l5 (HO.lst [.int 300, .int 800]) = Hf at sf el5 hl' ⊢
      refine Or.inl ⟨_, _, Or.inl (SqL.of el5), hrm, ?_⟩
      have Bf := B1.same sf
      refine ⟨⟨N, kS bs⟩, ⟨kS3 bs, ok⟩, ⟨S, Nl, Dl, Qa, ds.map fun d => .ref d.r⟩, num + 1, fw, nv, nr, dv, 100 * j, l, cs, rm, rfl, nod, Bf, hl', B1.free l0, by omega, by omega, fun Hg num' fw' nv' nr' x one Bg fx gg => ?_⟩
      have sg := (gg.keep (sd.trans sf) fM)
      have g0g : Go [S, Nl, Dl, Qa] Hc [S, Nl, Dl, Qa] Hg := (g1.trans (Go.new sf)).trans gg
      refine ⟨_, DGet.k (k := .inr "number") Bg.hS, _, DPut.k (k := .inr "number") Bg.hS (show 5 < sizeLine by decide), ?_⟩
      rw [show putK (stK num' fw' Nl Dl (N 0)) (.inr "number") (.int (num' + 1)) = stK (num' + 1) fw' Nl Dl (N 0) from rfl]
      have B2 := Bg.num nod (num' + 1)
      have g2 : Go [S, Nl, Dl, Qa] Hg [S, Nl, Dl, Qa] (upd Hg S (.dK (stK (num' + 1) fw' Nl Dl (N 0)))) := Go.at (by simp) _
      generalize upd Hg S (.dK (stK (num' + 1) fw' Nl Dl (N 0))) = Hh at B2 g2 ⊢
      have sh := g2.keep sg fM
      have fx2 : FrAt A N (kS bs) (del [S, Nl, Dl, Qa] Hh) (del [S, Nl, Dl, Qa] Hh) (100 * j + 100) 6 x one := fx.keep (fun o => g2.same _ o) (fun o => g2.same _ o) g2.same (Nat.le_refl _)
      have xf := del_same _ _ fx2.hf
      have xl := del_same _ _ fx2.hl
      refine ⟨Or.inl ⟨rfl, _, SqL.of B2.hQ⟩, Or.inl ⟨_, _, Or.inl (SqL.of (sh _ _ hln)), at3 N hj, Nat.zero_le _, fun l6 hl6 => ?_⟩⟩
      have s6 := Same.upd hl6 (HO.lst [])
      have el6 : (upd Hh l6 (HO.lst [])) l6 = some (.lst []) := upd_same
      generalize upd Hh l6 (HO.lst []) = Hi at s6 el6 ⊢
      refine ⟨_, DGet.k (k := .inr "rows") (s6 _ _ xf), ?_⟩
      refine fun r7 dx hr7 hd_ hne_ => mk_DeedRow (SqL.of el6) (SqL.of (s6 _ _ xl)) hr7 hd_ fun n1 n2 H8 f1 f2 s8 h1 h2 hx => ⟨rfl, ?_⟩
      have s68 := s6.trans s8
      have B8 := B2.same s68
      have B6 := B2.same s6
      refine ⟨_, _, _, rfl, rfl, B8.hQ, small1000 (by simp [ld]; omega), ?_⟩
      have g8 : Go [S, Nl, Dl, Qa] Hh [S, Nl, Dl, Qa] (upd H8 Qa (.lst ((ds.map fun d => V.ref d.r) ++ [.ref r7]))) := (Go.new s68).trans (Go.at (by simp) _)
      have q9 : (upd H8 Qa (.lst ((ds.map fun d => V.ref d.r) ++ [.ref r7]))) Qa = some (.lst ((ds.map fun d => V.ref d.r) ++ [.ref r7])) := upd_same
      have S9 := upd_keep (u := .lst ((ds.map fun d => V.ref d.r) ++ [.ref r7])) sQ B8.hS
      have N9 := upd_keep (u := .lst ((ds.map fun d => V.ref d.r) ++ [.ref r7])) nQ B8.hN
      have D9 := upd_keep (u := .lst ((ds.map fun d => V.ref d.r) ++ [.ref r7])) dQ B8.hD
      have DX : DeedIn A N (del [S, Nl, Dl, Qa] (upd H8 Qa (.lst ((ds.map fun d => V.ref d.r) ++ [.ref r7])))) ⟨r7, dx, n2, x.xs⟩ x.rs (j + 1) (kS bs).ki := by
        have g9 : Go [S, Nl, Dl, Qa] H8 [S, Nl, Dl, Qa] (upd H8 Qa (.lst ((ds.map fun d => V.ref d.r) ++ [.ref r7]))) := Go.at (by simp) _
        exact ⟨⟨_, _, g9.same _ _ (del_some (B6.free hr7) hx)⟩, g9.same _ _ (del_some (B6.free f2) h2), Paired.mapP fx2.pr fun _ _ => RowAt.same g8.same, Nat.le_trans fx2.le (by omega)⟩
      have xf9 := g8.same _ _ fx2.hf
      generalize upd H8 Qa (.lst ((ds.map fun d => V.ref d.r) ++ [.ref r7])) = H9 at g8 q9 S9 N9 D9 DX xf9 ⊢
      have s9 := g8.keep sh fM
      refine ⟨_, DGet.k (k := .inr "deeds") S9, Or.inl ⟨rfl, _, SqL.of D9⟩, Or.inl ⟨_, _, Or.inl (SqL.of (s9 _ _ hln)), at3 N hj, _, DGet.k (k := .inr "most") (del_same _ _ xf9), _, DGet.k (k := .inr "exact") (del_same _ _ xf9), (by show 3 ≤ sizeLine; decide), fun t ht => ?_⟩⟩
      have sa := Same.upd ht (HO.tup [.str (N (j + 1)), .int x.ms, optV x.ex])
      have ta : (upd H9 t (HO.tup [.str (N (j + 1)), .int x.ms, optV x.ex])) t = some (.tup [.str (N (j + 1)), .int x.ms, optV x.ex]) := upd_same
      generalize upd H9 t (HO.tup [.str (N (j + 1)), .int x.ms, optV x.ex]) = Ha at sa ta ⊢
      refine ⟨_, _, _, rfl, rfl, sa _ _ D9, small1000 (by omega), ?_⟩
      have tM : t ∉ [S, Nl, Dl, Qa] := fun m => by
        simp only [List.mem_cons, List.not_mem_nil, or_false] at m
        rcases m with rfl | rfl | rfl | rfl
        · rw [S9] at ht; cases ht
        · rw [N9] at ht; cases ht
        · rw [D9] at ht; cases ht
        · rw [q9] at ht; cases ht
      have ga : Go [S, Nl, Dl, Qa] H9 [S, Nl, Dl, Qa] (upd Ha Dl (.lst (dv ++ [.ref t]))) := (Go.new sa).trans (Go.at (by simp) _)
      have KN := kS_next x.rs lb hj
      have em := fx2.em
      have ee := fx2.ee
      have gA : Go [S, Nl, Dl, Qa] Hh [S, Nl, Dl, Qa] (upd Ha Dl (.lst (dv ++ [.ref t]))) := g8.trans ga
      have B9 := B2.deed (H' := upd Ha Dl (HO.lst (dv ++ [V.ref t]))) (r := r7) (t := t) KN gA (upd_keep sD (sa _ _ S9)) (upd_keep nd (sa _ _ N9)) upd_same (upd_keep (Ne.symm dQ) (sa _ _ q9)) tM (by rw [← em, ← ee]; exact upd_keep (fun z => tM (z ▸ by simp)) ta)
      refine ⟨bs ++ [x.rs], ds ++ [⟨r7, dx, n2, x.xs⟩], num' + 1, fw', nv', nr', dv ++ [.ref t], _, _, _, by simp [lb], by simp [ld], by simp [lv], ?_, ga.keep s9 fM, ?_, rfl⟩
      · rw [List.map_append]
        exact B9.keep (fun _ _ _ h => h) (fun _ _ h => h) (by omega)
      · exact DI.snoc ((g0g.trans g2).trans (g8.trans ga)).same (by omega) (by rw [lb]; exact DX.same ga.same)
    · rintro σ Hc ⟨bs, ds, num, fw, nv, nr, dv, v4, v5, v6, lb, ld, lv, B, sc, DI, rfl⟩
      have B : LB A N (kS bs) Hc (del (Sa.M ⟨S, Nl, Dl, Qa, ds.map fun d => .ref d.r⟩) Hc) ⟨S, Nl, Dl, Qa, ds.map fun d => .ref d.r⟩ num fw nv nr dv (100 * 2) := B
      refine ⟨_, DGet.k (k := .inr "number") B.hS, _, DPut.k (k := .inr "number") B.hS (show 5 < sizeLine by decide), ?_⟩
      rw [show putK (stK num fw Nl Dl (N 0)) (.inr "number") (.int (num + 1)) = stK (num + 1) fw Nl Dl (N 0) from rfl]
      have B1 := B.num nod (num + 1)
      have g1 : Go [S, Nl, Dl, Qa] Hc [S, Nl, Dl, Qa] (upd Hc S (.dK (stK (num + 1) fw Nl Dl (N 0)))) := Go.at (by simp) _
      generalize upd Hc S (.dK (stK (num + 1) fw Nl Dl (N 0))) = Hd at B1 g1 ⊢
      have sd := g1.keep sc fM
      refine ⟨a, ns, 1, rfl, sd.seq hS3, by decide, by decide, fun c2 He se => ⟨c2, 30, rfl, by decide, fun n => ⟨(by show (0 : Int) < 26; decide), ?_⟩⟩⟩
      have mn := mod_in n (show (0 : Int) < 26 by decide)
      refine ⟨a, ns, 14, 5 + (n % 26).toNat, (by rw [show (5 : Int) + n % 26 = ((5 + (n % 26).toNat : Nat) : Int) by omega]; rfl), (sd.trans se).seq hS3, by decide, by omega, fun l cs Hf se2 l0 hl cl => ?_⟩
      have sf := se.trans se2
      have Bf := B1.same sf
      have Be := B1.same se
      refine ⟨⟨N, kS bs⟩, ⟨kS3 bs, ok⟩, ⟨S, Nl, Dl, Qa, ds.map fun d => .ref d.r⟩, num + 1, fw, nv, nr, dv, 200, l, cs, 8000, rfl, nod, Bf, hl, Be.free l0, by omega, by decide, fun Hg num' fw' nv' nr' x one Bg fx gg => ?_⟩
      have sg := gg.keep (sd.trans sf) fM
      have g0g : Go [S, Nl, Dl, Qa] Hc [S, Nl, Dl, Qa] Hg := (g1.trans (Go.new sf)).trans gg
      have xf := del_same _ _ fx.hf
      have xl := del_same _ _ fx.hl
      refine Or.inl ⟨_, _, Or.inl (SqL.of (sg _ _ hln)), rfl, ?_⟩
      refine fun r5 dx5 hr5 hd_ hne_ => mk_OwnRow hr5 hd_ fun H8 s8 hx5 => ⟨rfl, ?_⟩
      refine ⟨(by show 1 ≤ sizeLine; decide), fun lh hlh => ?_⟩
      have s9 := s8.trans (Same.upd hlh (HO.lst [.ref r5]))
      have eh9 : (upd H8 lh (HO.lst [.ref r5])) lh = some (.lst [.ref r5]) := upd_same
      generalize upd H8 lh (HO.lst [.ref r5]) = H9 at s9 eh9 ⊢
      refine ⟨_, DGet.k (k := .inr "rows") (s9 _ _ xf), Or.inl ⟨_, _, rfl, Or.inl (SqL.of (s9 _ _ xl)), fun lm hlm => ?_⟩⟩
      have s10 := Same.upd hlm (HO.lst x.xs)
      have em10 : (upd H9 lm (HO.lst x.xs)) lm = some (.lst x.xs) := upd_same
      generalize upd H9 lm (HO.lst x.xs) = H10 at s10 em10 ⊢
      have s110 := s9.trans s10
      refine fun r7 dx7 hr7 hd_ hne_ => mk_Program (SqL.of (s10 _ _ eh9)) (SqL.of (s110 _ _ Bg.hQ)) (SqL.of em10) hr7 hd_ fun n1 n2 n3 H11 f1 f2 f3 s11 h1 h2 h3 hx => ⟨rfl, ?_⟩
      have s111 := s110.trans s11
      refine ⟨_, DGet.k (k := .inr "rows") (s111 _ _ xf), Or.inl ⟨_, _, rfl, Or.inl (SqL.of (s111 _ _ xl)), fun lk hlk => ?_⟩⟩
      have s12 := s111.trans (Same.upd hlk (HO.lst x.xs))
      have ek : (upd H11 lk (HO.lst x.xs)) lk = some (.lst x.xs) := upd_same
      have h2' := Same.upd hlk (HO.lst x.xs) _ _ h2
      have h3' := Same.upd hlk (HO.lst x.xs) _ _ h3
      have hx' := Same.upd hlk (HO.lst x.xs) _ _ hx
      generalize upd H11 lk (HO.lst x.xs) = H12 at s12 ek h2' h3' hx' ⊢
      have gZ : Same (del [S, Nl, Dl, Qa] Hc) H12 := fun y o h => s12 _ _ (del_same _ _ (g0g.same _ _ h))
      have gX : Same (del [S, Nl, Dl, Qa] Hg) H12 := fun y o h => s12 _ _ (del_same _ _ h)
      obtain ⟨b1, b2, rfl⟩ : ∃ b1 b2, bs = [b1, b2] := by
        match bs, lb with
        | [b1, b2], _ => exact ⟨b1, b2, rfl⟩
      obtain ⟨d1, d2, rfl⟩ : ∃ d1 d2, ds = [d1, d2] := by
        match ds, ld with
        | [d1, d2], _ => exact ⟨d1, d2, rfl⟩
      have I1 := (DI 0 d1 b1 rfl rfl).same gZ
      have I2 := (DI 1 d2 b2 rfl rfl).same gZ
      have em : x.ms = mOf 6 (kM 6 b1 b2) x.rs := fx.em
      have ee : x.ex = xOf 6 (kX 6 b1 b2) x.rs := fx.ee
      have R : PrAt A N H12 6 ⟨r7, dx7, n1, n2, n3, d1.r, d1.x, d1.q, d2.r, d2.x, d2.q⟩ d1.y d2.y x.xs b1 b2 x.rs := ⟨hx', h2', h3', I1.a, I2.a, I1.l, I2.l, I1.p, I2.p, Paired.mapP fx.pr fun _ _ => RowAt.same gX, I1.n, I2.n, Nat.le_trans fx.le (by decide)⟩
      have dds := Bg.dds
      obtain ⟨t1, t2, rfl, T1, T2⟩ : ∃ t1 t2, dv = [.ref t1, .ref t2] ∧ H12 t1 = some (.tup [.str (N 1), .int (kM 6 b1 b2 1), optV (kX 6 b1 b2 1)]) ∧ H12 t2 = some (.tup [.str (N 2), .int (kM 6 b1 b2 2), optV (kX 6 b1 b2 2)]) := by
        match dv, dds with
        | _, .cons p1 (.cons p2 .nil) =>
          obtain ⟨t1, rfl, e1⟩ := p1
          obtain ⟨t2, rfl, e2⟩ := p2
          exact ⟨t1, t2, rfl, gX _ _ e1, gX _ _ e2⟩
      have W : Ask A N H12 ⟨r7, dx7, n1, n2, n3, d1.r, d1.x, d1.q, d2.r, d2.x, d2.q⟩ d1.y d2.y x.xs b1 b2 x.rs x.f S Nl Dl nv' nr' t1 t2 := ⟨R, ⟨x.kd, x.n, x.rm, x.mn, x.rl, one, by rw [← em, ← ee]; exact gX _ _ fx.hf⟩, ⟨_, _, _, s12 _ _ Bg.hS⟩, s12 _ _ Bg.hN, Paired.mapP Bg.nst fun _ _ => NestAt.same gX, Nat.le_trans Bg.nl (by decide), s12 _ _ Bg.hD, T1, T2⟩
      refine ⟨N, Di, _, _, _, _, _, _, _, _, _, _, _, _, _, _, _, rfl, W, fun H13 s13 => ⟨_, rfl, iteT ?_⟩⟩
      refine ⟨r7, _, dx7, _, _, rfl, s13 _ _ hx', T.o_Program.cl, T.n_Program_main, rfl, Or.inl (Or.inr ⟨x.xs, SqL.of (s13 _ _ h3'), SqL.of (s13 _ _ ek), flat_all fx.pr, _, rfl, iteT ?_⟩)⟩
      exact ⟨N, Di, _, _, _, _, _, _, _, _, _, _, _, _, _, _, _, rfl, W.same s13, fun H14 _ => q _⟩
end
end K13

set_option Elab.async false
set_option linter.all false
set_option maxRecDepth 100000
set_option maxHeartbeats 4000000
namespace K13
open PySem L2
theorem exC {us : List Value} {n : Nat} (h : us.length = n + 1) : ∃ b t, us = b :: t ∧ t.length = n := by
  cases us with
  | nil => cases h
  | cons b t => exact ⟨b, t, rfl, Nat.succ.inj h⟩
theorem exN0 {us : List Value} (h : us.length = 0) : us = [] := by
  cases us with
  | nil => rfl
  | cons b t => cases h
theorem exN1 {us : List Value} (h : us.length = 1) : ∃ b0, us = [b0] := by
  obtain ⟨b0, t, rfl, e⟩ := exC h
  obtain ⟨rfl⟩ := exN0 e
  exact ⟨b0, rfl⟩
theorem exN2 {us : List Value} (h : us.length = 2) : ∃ b0 b1, us = [b0, b1] := by
  obtain ⟨b0, t, rfl, e⟩ := exC h
  obtain ⟨b1, rfl⟩ := exN1 e
  exact ⟨b0, b1, rfl⟩
theorem exN3 {us : List Value} (h : us.length = 3) : ∃ b0 b1 b2, us = [b0, b1, b2] := by
  obtain ⟨b0, t, rfl, e⟩ := exC h
  obtain ⟨b1, b2, rfl⟩ := exN2 e
  exact ⟨b0, b1, b2, rfl⟩
theorem exN4 {us : List Value} (h : us.length = 4) : ∃ b0 b1 b2 b3, us = [b0, b1, b2, b3] := by
  obtain ⟨b0, t, rfl, e⟩ := exC h
  obtain ⟨b1, b2, b3, rfl⟩ := exN3 e
  exact ⟨b0, b1, b2, b3, rfl⟩
theorem exN5 {us : List Value} (h : us.length = 5) : ∃ b0 b1 b2 b3 b4, us = [b0, b1, b2, b3, b4] := by
  obtain ⟨b0, t, rfl, e⟩ := exC h
  obtain ⟨b1, b2, b3, b4, rfl⟩ := exN4 e
  exact ⟨b0, b1, b2, b3, b4, rfl⟩
theorem exN6 {us : List Value} (h : us.length = 6) : ∃ b0 b1 b2 b3 b4 b5, us = [b0, b1, b2, b3, b4, b5] := by
  obtain ⟨b0, t, rfl, e⟩ := exC h
  obtain ⟨b1, b2, b3, b4, b5, rfl⟩ := exN5 e
  exact ⟨b0, b1, b2, b3, b4, b5, rfl⟩
theorem exN7 {us : List Value} (h : us.length = 7) : ∃ b0 b1 b2 b3 b4 b5 b6, us = [b0, b1, b2, b3, b4, b5, b6] := by
  obtain ⟨b0, t, rfl, e⟩ := exC h
  obtain ⟨b1, b2, b3, b4, b5, b6, rfl⟩ := exN6 e
  exact ⟨b0, b1, b2, b3, b4, b5, b6, rfl⟩
theorem all_mk {l : PySem.W.OpenLaw} {w : World} {K : PySem.W.Frag} {h : Heap} {mg : Str → Option Value} {fa f1 f2 f3 f4 f5 f6 f7 f8 f9 f10 f11 f12 f13 f14 f15 f16 f17 f18 f19 f20 f21 f22 f23 f24 f25 f26 A_Row A_OwnRow A_SetRow A_CallRow A_LastRow A_IfRow A_LoopRow A_DeedRow A_Program : Addr} (X : K.In h) (G : h.Ns mainGlobals mg) (hfa : mg "law" = some (.ref fa))
    {od1 an1 : Option Addr} {sl1 : Array (Option Value)} {oc1 kV1 dc1 pm1 cd1 ct1 : Value}
    (a1 : PySem.W.nsIn K mainGlobals "most_of" = some (some (.ref f1))) (l1 : K.lookup f1 = some ⟨oc1, od1, .func (PySem.W.fnOf "most_of" "most_of" (defArgs s_most_of) (defBody s_most_of) (defScope s_most_of) .none kV1 dc1 pm1 an1 cd1 ct1), sl1⟩) (c1 : PySem.W.codeIn K cd1 "most_of" = true) (k1 : PySem.W.keepIn K (.ref f1) = true)
    {od2 an2 : Option Addr} {sl2 : Array (Option Value)} {oc2 kV2 dc2 pm2 cd2 ct2 : Value}
    (a2 : PySem.W.nsIn K mainGlobals "most_of_row" = some (some (.ref f2))) (l2 : K.lookup f2 = some ⟨oc2, od2, .func (PySem.W.fnOf "most_of_row" "most_of_row" (defArgs s_most_of_row) (defBody s_most_of_row) (defScope s_most_of_row) .none kV2 dc2 pm2 an2 cd2 ct2), sl2⟩) (c2 : PySem.W.codeIn K cd2 "most_of_row" = true) (k2 : PySem.W.keepIn K (.ref f2) = true)
    {od3 an3 : Option Addr} {sl3 : Array (Option Value)} {oc3 kV3 dc3 pm3 cd3 ct3 : Value}
    (a3 : PySem.W.nsIn K mainGlobals "exact_of" = some (some (.ref f3))) (l3 : K.lookup f3 = some ⟨oc3, od3, .func (PySem.W.fnOf "exact_of" "exact_of" (defArgs s_exact_of) (defBody s_exact_of) (defScope s_exact_of) .none kV3 dc3 pm3 an3 cd3 ct3), sl3⟩) (c3 : PySem.W.codeIn K cd3 "exact_of" = true) (k3 : PySem.W.keepIn K (.ref f3) = true)
    {od4 an4 : Option Addr} {sl4 : Array (Option Value)} {oc4 kV4 dc4 pm4 cd4 ct4 : Value}
    (a4 : PySem.W.nsIn K mainGlobals "exact_of_row" = some (some (.ref f4))) (l4 : K.lookup f4 = some ⟨oc4, od4, .func (PySem.W.fnOf "exact_of_row" "exact_of_row" (defArgs s_exact_of_row) (defBody s_exact_of_row) (defScope s_exact_of_row) .none kV4 dc4 pm4 an4 cd4 ct4), sl4⟩) (c4 : PySem.W.codeIn K cd4 "exact_of_row" = true) (k4 : PySem.W.keepIn K (.ref f4) = true)
    {od5 an5 : Option Addr} {sl5 : Array (Option Value)} {oc5 kV5 dc5 pm5 cd5 ct5 : Value}
    (a5 : PySem.W.nsIn K mainGlobals "one_more" = some (some (.ref f5))) (l5 : K.lookup f5 = some ⟨oc5, od5, .func (PySem.W.fnOf "one_more" "one_more" (defArgs s_one_more) (defBody s_one_more) (defScope s_one_more) .none kV5 dc5 pm5 an5 cd5 ct5), sl5⟩) (c5 : PySem.W.codeIn K cd5 "one_more" = true) (k5 : PySem.W.keepIn K (.ref f5) = true)
    {od6 an6 : Option Addr} {sl6 : Array (Option Value)} {oc6 kV6 dc6 pm6 cd6 ct6 : Value}
    (a6 : PySem.W.nsIn K mainGlobals "exact_of_if" = some (some (.ref f6))) (l6 : K.lookup f6 = some ⟨oc6, od6, .func (PySem.W.fnOf "exact_of_if" "exact_of_if" (defArgs s_exact_of_if) (defBody s_exact_of_if) (defScope s_exact_of_if) .none kV6 dc6 pm6 an6 cd6 ct6), sl6⟩) (c6 : PySem.W.codeIn K cd6 "exact_of_if" = true) (k6 : PySem.W.keepIn K (.ref f6) = true)
    {od7 an7 : Option Addr} {sl7 : Array (Option Value)} {oc7 kV7 dc7 pm7 cd7 ct7 : Value}
    (a7 : PySem.W.nsIn K mainGlobals "exact_of_loop" = some (some (.ref f7))) (l7 : K.lookup f7 = some ⟨oc7, od7, .func (PySem.W.fnOf "exact_of_loop" "exact_of_loop" (defArgs s_exact_of_loop) (defBody s_exact_of_loop) (defScope s_exact_of_loop) .none kV7 dc7 pm7 an7 cd7 ct7), sl7⟩) (c7 : PySem.W.codeIn K cd7 "exact_of_loop" = true) (k7 : PySem.W.keepIn K (.ref f7) = true)
    {od8 an8 : Option Addr} {sl8 : Array (Option Value)} {oc8 kV8 dc8 pm8 cd8 ct8 : Value}
    (a8 : PySem.W.nsIn K mainGlobals "balanced" = some (some (.ref f8))) (l8 : K.lookup f8 = some ⟨oc8, od8, .func (PySem.W.fnOf "balanced" "balanced" (defArgs s_balanced) (defBody s_balanced) (defScope s_balanced) .none kV8 dc8 pm8 an8 cd8 ct8), sl8⟩) (c8 : PySem.W.codeIn K cd8 "balanced" = true) (k8 : PySem.W.keepIn K (.ref f8) = true)
    {od9 an9 : Option Addr} {sl9 : Array (Option Value)} {oc9 kV9 dc9 pm9 cd9 ct9 : Value}
    (a9 : PySem.W.nsIn K mainGlobals "mosts" = some (some (.ref f9))) (l9 : K.lookup f9 = some ⟨oc9, od9, .func (PySem.W.fnOf "mosts" "mosts" (defArgs s_mosts) (defBody s_mosts) (defScope s_mosts) .none kV9 dc9 pm9 an9 cd9 ct9), sl9⟩) (c9 : PySem.W.codeIn K cd9 "mosts" = true) (k9 : PySem.W.keepIn K (.ref f9) = true)
    {od10 an10 : Option Addr} {sl10 : Array (Option Value)} {oc10 kV10 dc10 pm10 cd10 ct10 : Value}
    (a10 : PySem.W.nsIn K mainGlobals "exacts" = some (some (.ref f10))) (l10 : K.lookup f10 = some ⟨oc10, od10, .func (PySem.W.fnOf "exacts" "exacts" (defArgs s_exacts) (defBody s_exacts) (defScope s_exacts) .none kV10 dc10 pm10 an10 cd10 ct10), sl10⟩) (c10 : PySem.W.codeIn K cd10 "exacts" = true) (k10 : PySem.W.keepIn K (.ref f10) = true)
    {od11 an11 : Option Addr} {sl11 : Array (Option Value)} {oc11 kV11 dc11 pm11 cd11 ct11 : Value}
    (a11 : PySem.W.nsIn K mainGlobals "most" = some (some (.ref f11))) (l11 : K.lookup f11 = some ⟨oc11, od11, .func (PySem.W.fnOf "most" "most" (defArgs s_most) (defBody s_most) (defScope s_most) .none kV11 dc11 pm11 an11 cd11 ct11), sl11⟩) (c11 : PySem.W.codeIn K cd11 "most" = true) (k11 : PySem.W.keepIn K (.ref f11) = true)
    {od12 an12 : Option Addr} {sl12 : Array (Option Value)} {oc12 kV12 dc12 pm12 cd12 ct12 : Value}
    (a12 : PySem.W.nsIn K mainGlobals "exact" = some (some (.ref f12))) (l12 : K.lookup f12 = some ⟨oc12, od12, .func (PySem.W.fnOf "exact" "exact" (defArgs s_exact) (defBody s_exact) (defScope s_exact) .none kV12 dc12 pm12 an12 cd12 ct12), sl12⟩) (c12 : PySem.W.codeIn K cd12 "exact" = true) (k12 : PySem.W.keepIn K (.ref f12) = true)
    {od13 an13 : Option Addr} {sl13 : Array (Option Value)} {oc13 kV13 dc13 pm13 cd13 ct13 : Value}
    (a13 : PySem.W.nsIn K mainGlobals "_law_cell_at" = some (some (.ref f13))) (l13 : K.lookup f13 = some ⟨oc13, od13, .func (PySem.W.fnOf "_law_cell_at" "_law_cell_at" (defArgs s_law_cell_at) (defBody s_law_cell_at) (defScope s_law_cell_at) .none kV13 dc13 pm13 an13 cd13 ct13), sl13⟩) (c13 : PySem.W.codeIn K cd13 "_law_cell_at" = true) (k13 : PySem.W.keepIn K (.ref f13) = true)
    {od14 an14 : Option Addr} {sl14 : Array (Option Value)} {oc14 kV14 dc14 pm14 cd14 ct14 : Value}
    (a14 : PySem.W.nsIn K mainGlobals "_law_more" = some (some (.ref f14))) (l14 : K.lookup f14 = some ⟨oc14, od14, .func (PySem.W.fnOf "_law_more" "_law_more" (defArgs s_law_more) (defBody s_law_more) (defScope s_law_more) .none kV14 dc14 pm14 an14 cd14 ct14), sl14⟩) (c14 : PySem.W.codeIn K cd14 "_law_more" = true) (k14 : PySem.W.keepIn K (.ref f14) = true)
    {od15 an15 : Option Addr} {sl15 : Array (Option Value)} {oc15 kV15 dc15 pm15 cd15 ct15 : Value}
    (a15 : PySem.W.nsIn K mainGlobals "_law_mix" = some (some (.ref f15))) (l15 : K.lookup f15 = some ⟨oc15, od15, .func (PySem.W.fnOf "_law_mix" "_law_mix" (defArgs s_law_mix) (defBody s_law_mix) (defScope s_law_mix) .none kV15 dc15 pm15 an15 cd15 ct15), sl15⟩) (c15 : PySem.W.codeIn K cd15 "_law_mix" = true) (k15 : PySem.W.keepIn K (.ref f15) = true)
    {od16 an16 : Option Addr} {sl16 : Array (Option Value)} {oc16 kV16 dc16 pm16 cd16 ct16 : Value}
    (a16 : PySem.W.nsIn K mainGlobals "_law_names" = some (some (.ref f16))) (l16 : K.lookup f16 = some ⟨oc16, od16, .func (PySem.W.fnOf "_law_names" "_law_names" (defArgs s_law_names) (defBody s_law_names) (defScope s_law_names) .none kV16 dc16 pm16 an16 cd16 ct16), sl16⟩) (c16 : PySem.W.codeIn K cd16 "_law_names" = true) (k16 : PySem.W.keepIn K (.ref f16) = true)
    {od17 an17 : Option Addr} {sl17 : Array (Option Value)} {oc17 kV17 dc17 pm17 cd17 ct17 : Value}
    (a17 : PySem.W.nsIn K mainGlobals "_law_whole" = some (some (.ref f17))) (l17 : K.lookup f17 = some ⟨oc17, od17, .func (PySem.W.fnOf "_law_whole" "_law_whole" (defArgs s_law_whole) (defBody s_law_whole) (defScope s_law_whole) .none kV17 dc17 pm17 an17 cd17 ct17), sl17⟩) (c17 : PySem.W.codeIn K cd17 "_law_whole" = true) (k17 : PySem.W.keepIn K (.ref f17) = true)
    {od18 an18 : Option Addr} {sl18 : Array (Option Value)} {oc18 kV18 dc18 pm18 cd18 ct18 : Value}
    (a18 : PySem.W.nsIn K mainGlobals "_law_frame" = some (some (.ref f18))) (l18 : K.lookup f18 = some ⟨oc18, od18, .func (PySem.W.fnOf "_law_frame" "_law_frame" (defArgs s_law_frame) (defBody s_law_frame) (defScope s_law_frame) .none kV18 dc18 pm18 an18 cd18 ct18), sl18⟩) (c18 : PySem.W.codeIn K cd18 "_law_frame" = true) (k18 : PySem.W.keepIn K (.ref f18) = true)
    {od19 an19 : Option Addr} {sl19 : Array (Option Value)} {oc19 kV19 dc19 pm19 cd19 ct19 : Value}
    (a19 : PySem.W.nsIn K mainGlobals "_law_add" = some (some (.ref f19))) (l19 : K.lookup f19 = some ⟨oc19, od19, .func (PySem.W.fnOf "_law_add" "_law_add" (defArgs s_law_add) (defBody s_law_add) (defScope s_law_add) .none kV19 dc19 pm19 an19 cd19 ct19), sl19⟩) (c19 : PySem.W.codeIn K cd19 "_law_add" = true) (k19 : PySem.W.keepIn K (.ref f19) = true)
    {od20 an20 : Option Addr} {sl20 : Array (Option Value)} {oc20 kV20 dc20 pm20 cd20 ct20 : Value}
    (a20 : PySem.W.nsIn K mainGlobals "_law_idles" = some (some (.ref f20))) (l20 : K.lookup f20 = some ⟨oc20, od20, .func (PySem.W.fnOf "_law_idles" "_law_idles" (defArgs s_law_idles) (defBody s_law_idles) (defScope s_law_idles) .none kV20 dc20 pm20 an20 cd20 ct20), sl20⟩) (c20 : PySem.W.codeIn K cd20 "_law_idles" = true) (k20 : PySem.W.keepIn K (.ref f20) = true)
    {od21 an21 : Option Addr} {sl21 : Array (Option Value)} {oc21 kV21 dc21 pm21 cd21 ct21 : Value}
    (a21 : PySem.W.nsIn K mainGlobals "_law_close" = some (some (.ref f21))) (l21 : K.lookup f21 = some ⟨oc21, od21, .func (PySem.W.fnOf "_law_close" "_law_close" (defArgs s_law_close) (defBody s_law_close) (defScope s_law_close) .none kV21 dc21 pm21 an21 cd21 ct21), sl21⟩) (c21 : PySem.W.codeIn K cd21 "_law_close" = true) (k21 : PySem.W.keepIn K (.ref f21) = true)
    {od22 an22 : Option Addr} {sl22 : Array (Option Value)} {oc22 kV22 dc22 pm22 cd22 ct22 : Value}
    (a22 : PySem.W.nsIn K mainGlobals "_law_plain" = some (some (.ref f22))) (l22 : K.lookup f22 = some ⟨oc22, od22, .func (PySem.W.fnOf "_law_plain" "_law_plain" (defArgs s_law_plain) (defBody s_law_plain) (defScope s_law_plain) .none kV22 dc22 pm22 an22 cd22 ct22), sl22⟩) (c22 : PySem.W.codeIn K cd22 "_law_plain" = true) (k22 : PySem.W.keepIn K (.ref f22) = true)
    {od23 an23 : Option Addr} {sl23 : Array (Option Value)} {oc23 kV23 dc23 pm23 cd23 ct23 : Value}
    (a23 : PySem.W.nsIn K mainGlobals "_law_step" = some (some (.ref f23))) (l23 : K.lookup f23 = some ⟨oc23, od23, .func (PySem.W.fnOf "_law_step" "_law_step" (defArgs s_law_step) (defBody s_law_step) (defScope s_law_step) .none kV23 dc23 pm23 an23 cd23 ct23), sl23⟩) (c23 : PySem.W.codeIn K cd23 "_law_step" = true) (k23 : PySem.W.keepIn K (.ref f23) = true)
    {od24 an24 : Option Addr} {sl24 : Array (Option Value)} {oc24 kV24 dc24 pm24 cd24 ct24 : Value}
    (a24 : PySem.W.nsIn K mainGlobals "_law_body" = some (some (.ref f24))) (l24 : K.lookup f24 = some ⟨oc24, od24, .func (PySem.W.fnOf "_law_body" "_law_body" (defArgs s_law_body) (defBody s_law_body) (defScope s_law_body) .none kV24 dc24 pm24 an24 cd24 ct24), sl24⟩) (c24 : PySem.W.codeIn K cd24 "_law_body" = true) (k24 : PySem.W.keepIn K (.ref f24) = true)
    {od25 an25 : Option Addr} {sl25 : Array (Option Value)} {oc25 kV25 dc25 pm25 cd25 ct25 : Value}
    (a25 : PySem.W.nsIn K mainGlobals "_law_asked" = some (some (.ref f25))) (l25 : K.lookup f25 = some ⟨oc25, od25, .func (PySem.W.fnOf "_law_asked" "_law_asked" (defArgs s_law_asked) (defBody s_law_asked) (defScope s_law_asked) .none kV25 dc25 pm25 an25 cd25 ct25), sl25⟩) (c25 : PySem.W.codeIn K cd25 "_law_asked" = true) (k25 : PySem.W.keepIn K (.ref f25) = true)
    {od26 an26 : Option Addr} {sl26 : Array (Option Value)} {oc26 kV26 dc26 pm26 cd26 ct26 : Value}
    (a26 : PySem.W.nsIn K mainGlobals "law" = some (some (.ref f26))) (l26 : K.lookup f26 = some ⟨oc26, od26, .func (PySem.W.fnOf "law" "law" (defArgs s_law) (defBody s_law) (defScope s_law) .none kV26 dc26 pm26 an26 cd26 ct26), sl26⟩) (c26 : PySem.W.codeIn K cd26 "law" = true) (k26 : PySem.W.keepIn K (.ref f26) = true)
    (z_any : PySem.W.nsIn K mainGlobals "any" = some none)
    (z_bool : PySem.W.nsIn K mainGlobals "bool" = some none)
    (z_dict : PySem.W.nsIn K mainGlobals "dict" = some none)
    (z_int : PySem.W.nsIn K mainGlobals "int" = some none)
    (z_isinstance : PySem.W.nsIn K mainGlobals "isinstance" = some none)
    (z_len : PySem.W.nsIn K mainGlobals "len" = some none)
    (z_list : PySem.W.nsIn K mainGlobals "list" = some none)
    (z_max : PySem.W.nsIn K mainGlobals "max" = some none)
    (z_range : PySem.W.nsIn K mainGlobals "range" = some none)
    (z_sum : PySem.W.nsIn K mainGlobals "sum" = some none)
    (cg : PySem.W.specialIn K (.builtin "object.__class__") "__get__" = some (some (.builtin "getset_descriptor.__get__"))) (ct : PySem.W.takesIn K (.builtin "object.__class__") = some true)
    {xd_Row : ClassData} (x_Row : PySem.W.nsIn K mainGlobals "Row" = some (some (.ref A_Row))) (xl_Row : PySem.W.clsIn K A_Row = some xd_Row) (xm_Row : xd_Row.mro = [A_Row].map Value.ref ++ [Value.type "object"])
    (xpg_Row : PySem.W.plainGet K A_Row Str.empty = true)
    (xhd_Row : PySem.W.hasDictIn K A_Row = true)
    (xpo_Row : PySem.W.plainOver K A_Row = true)
    (xsa_Row : PySem.W.findIn K (.ref A_Row) "__setattr__" = some (some (.builtin "object.__setattr__")))
    (xty_Row : PySem.W.typeIn K (.ref A_Row) = some (.type "type"))
    (xkc_Row : PySem.W.findIn K (.ref A_Row) "__class__" = some (some (.builtin "object.__class__")))
    (xmk_Row : PySem.W.makesIn K A_Row = true)
    (xkp_Row : PySem.W.keepIn K (.ref A_Row) = true)
    {xd_OwnRow : ClassData} (x_OwnRow : PySem.W.nsIn K mainGlobals "OwnRow" = some (some (.ref A_OwnRow))) (xl_OwnRow : PySem.W.clsIn K A_OwnRow = some xd_OwnRow) (xm_OwnRow : xd_OwnRow.mro = [A_OwnRow, A_Row].map Value.ref ++ [Value.type "object"])
    (xpg_OwnRow : PySem.W.plainGet K A_OwnRow Str.empty = true)
    (xhd_OwnRow : PySem.W.hasDictIn K A_OwnRow = true)
    (xpo_OwnRow : PySem.W.plainOver K A_OwnRow = true)
    (xsa_OwnRow : PySem.W.findIn K (.ref A_OwnRow) "__setattr__" = some (some (.builtin "object.__setattr__")))
    (xty_OwnRow : PySem.W.typeIn K (.ref A_OwnRow) = some (.type "type"))
    (xkc_OwnRow : PySem.W.findIn K (.ref A_OwnRow) "__class__" = some (some (.builtin "object.__class__")))
    (xmk_OwnRow : PySem.W.makesIn K A_OwnRow = true)
    (xkp_OwnRow : PySem.W.keepIn K (.ref A_OwnRow) = true)
    {xd_SetRow : ClassData} (x_SetRow : PySem.W.nsIn K mainGlobals "SetRow" = some (some (.ref A_SetRow))) (xl_SetRow : PySem.W.clsIn K A_SetRow = some xd_SetRow) (xm_SetRow : xd_SetRow.mro = [A_SetRow, A_Row].map Value.ref ++ [Value.type "object"])
    (xpg_SetRow : PySem.W.plainGet K A_SetRow Str.empty = true)
    (xhd_SetRow : PySem.W.hasDictIn K A_SetRow = true)
    (xpo_SetRow : PySem.W.plainOver K A_SetRow = true)
    (xsa_SetRow : PySem.W.findIn K (.ref A_SetRow) "__setattr__" = some (some (.builtin "object.__setattr__")))
    (xty_SetRow : PySem.W.typeIn K (.ref A_SetRow) = some (.type "type"))
    (xkc_SetRow : PySem.W.findIn K (.ref A_SetRow) "__class__" = some (some (.builtin "object.__class__")))
    (xmk_SetRow : PySem.W.makesIn K A_SetRow = true)
    (xkp_SetRow : PySem.W.keepIn K (.ref A_SetRow) = true)
    {xd_CallRow : ClassData} (x_CallRow : PySem.W.nsIn K mainGlobals "CallRow" = some (some (.ref A_CallRow))) (xl_CallRow : PySem.W.clsIn K A_CallRow = some xd_CallRow) (xm_CallRow : xd_CallRow.mro = [A_CallRow, A_Row].map Value.ref ++ [Value.type "object"])
    (xpg_CallRow : PySem.W.plainGet K A_CallRow Str.empty = true)
    (xhd_CallRow : PySem.W.hasDictIn K A_CallRow = true)
    (xpo_CallRow : PySem.W.plainOver K A_CallRow = true)
    (xsa_CallRow : PySem.W.findIn K (.ref A_CallRow) "__setattr__" = some (some (.builtin "object.__setattr__")))
    (xty_CallRow : PySem.W.typeIn K (.ref A_CallRow) = some (.type "type"))
    (xkc_CallRow : PySem.W.findIn K (.ref A_CallRow) "__class__" = some (some (.builtin "object.__class__")))
    (xmk_CallRow : PySem.W.makesIn K A_CallRow = true)
    (xkp_CallRow : PySem.W.keepIn K (.ref A_CallRow) = true)
    {xd_LastRow : ClassData} (x_LastRow : PySem.W.nsIn K mainGlobals "LastRow" = some (some (.ref A_LastRow))) (xl_LastRow : PySem.W.clsIn K A_LastRow = some xd_LastRow) (xm_LastRow : xd_LastRow.mro = [A_LastRow, A_Row].map Value.ref ++ [Value.type "object"])
    (xpg_LastRow : PySem.W.plainGet K A_LastRow Str.empty = true)
    (xhd_LastRow : PySem.W.hasDictIn K A_LastRow = true)
    (xpo_LastRow : PySem.W.plainOver K A_LastRow = true)
    (xsa_LastRow : PySem.W.findIn K (.ref A_LastRow) "__setattr__" = some (some (.builtin "object.__setattr__")))
    (xty_LastRow : PySem.W.typeIn K (.ref A_LastRow) = some (.type "type"))
    (xkc_LastRow : PySem.W.findIn K (.ref A_LastRow) "__class__" = some (some (.builtin "object.__class__")))
    (xmk_LastRow : PySem.W.makesIn K A_LastRow = true)
    (xkp_LastRow : PySem.W.keepIn K (.ref A_LastRow) = true)
    {xd_IfRow : ClassData} (x_IfRow : PySem.W.nsIn K mainGlobals "IfRow" = some (some (.ref A_IfRow))) (xl_IfRow : PySem.W.clsIn K A_IfRow = some xd_IfRow) (xm_IfRow : xd_IfRow.mro = [A_IfRow, A_Row].map Value.ref ++ [Value.type "object"])
    (xpg_IfRow : PySem.W.plainGet K A_IfRow Str.empty = true)
    (xhd_IfRow : PySem.W.hasDictIn K A_IfRow = true)
    (xpo_IfRow : PySem.W.plainOver K A_IfRow = true)
    (xsa_IfRow : PySem.W.findIn K (.ref A_IfRow) "__setattr__" = some (some (.builtin "object.__setattr__")))
    (xty_IfRow : PySem.W.typeIn K (.ref A_IfRow) = some (.type "type"))
    (xkc_IfRow : PySem.W.findIn K (.ref A_IfRow) "__class__" = some (some (.builtin "object.__class__")))
    (xmk_IfRow : PySem.W.makesIn K A_IfRow = true)
    (xkp_IfRow : PySem.W.keepIn K (.ref A_IfRow) = true)
    {xd_LoopRow : ClassData} (x_LoopRow : PySem.W.nsIn K mainGlobals "LoopRow" = some (some (.ref A_LoopRow))) (xl_LoopRow : PySem.W.clsIn K A_LoopRow = some xd_LoopRow) (xm_LoopRow : xd_LoopRow.mro = [A_LoopRow, A_Row].map Value.ref ++ [Value.type "object"])
    (xpg_LoopRow : PySem.W.plainGet K A_LoopRow Str.empty = true)
    (xhd_LoopRow : PySem.W.hasDictIn K A_LoopRow = true)
    (xpo_LoopRow : PySem.W.plainOver K A_LoopRow = true)
    (xsa_LoopRow : PySem.W.findIn K (.ref A_LoopRow) "__setattr__" = some (some (.builtin "object.__setattr__")))
    (xty_LoopRow : PySem.W.typeIn K (.ref A_LoopRow) = some (.type "type"))
    (xkc_LoopRow : PySem.W.findIn K (.ref A_LoopRow) "__class__" = some (some (.builtin "object.__class__")))
    (xmk_LoopRow : PySem.W.makesIn K A_LoopRow = true)
    (xkp_LoopRow : PySem.W.keepIn K (.ref A_LoopRow) = true)
    {xd_DeedRow : ClassData} (x_DeedRow : PySem.W.nsIn K mainGlobals "DeedRow" = some (some (.ref A_DeedRow))) (xl_DeedRow : PySem.W.clsIn K A_DeedRow = some xd_DeedRow) (xm_DeedRow : xd_DeedRow.mro = [A_DeedRow, A_Row].map Value.ref ++ [Value.type "object"])
    (xpg_DeedRow : PySem.W.plainGet K A_DeedRow Str.empty = true)
    (xhd_DeedRow : PySem.W.hasDictIn K A_DeedRow = true)
    (xpo_DeedRow : PySem.W.plainOver K A_DeedRow = true)
    (xsa_DeedRow : PySem.W.findIn K (.ref A_DeedRow) "__setattr__" = some (some (.builtin "object.__setattr__")))
    (xty_DeedRow : PySem.W.typeIn K (.ref A_DeedRow) = some (.type "type"))
    (xkc_DeedRow : PySem.W.findIn K (.ref A_DeedRow) "__class__" = some (some (.builtin "object.__class__")))
    (xmk_DeedRow : PySem.W.makesIn K A_DeedRow = true)
    (xkp_DeedRow : PySem.W.keepIn K (.ref A_DeedRow) = true)
    {xd_Program : ClassData} (x_Program : PySem.W.nsIn K mainGlobals "Program" = some (some (.ref A_Program))) (xl_Program : PySem.W.clsIn K A_Program = some xd_Program) (xm_Program : xd_Program.mro = [A_Program].map Value.ref ++ [Value.type "object"])
    (xpg_Program : PySem.W.plainGet K A_Program Str.empty = true)
    (xhd_Program : PySem.W.hasDictIn K A_Program = true)
    (xpo_Program : PySem.W.plainOver K A_Program = true)
    (xsa_Program : PySem.W.findIn K (.ref A_Program) "__setattr__" = some (some (.builtin "object.__setattr__")))
    (xty_Program : PySem.W.typeIn K (.ref A_Program) = some (.type "type"))
    (xkc_Program : PySem.W.findIn K (.ref A_Program) "__class__" = some (some (.builtin "object.__class__")))
    (xmk_Program : PySem.W.makesIn K A_Program = true)
    (xkp_Program : PySem.W.keepIn K (.ref A_Program) = true)
    {fi_Row_init : Addr} {ioc_Row_init ikV_Row_init idc_Row_init ipm_Row_init icd_Row_init ict_Row_init : Value} {iod_Row_init ian_Row_init : Option Addr} {isl_Row_init : Array (Option Value)}
    (xi_Row_init : PySem.W.findIn K (.ref A_Row) "__init__" = some (some (.ref fi_Row_init)))
    (xf_Row_init : PySem.W.isFn K (.ref fi_Row_init) = true) (xo_Row_init : K.lookup fi_Row_init = some ⟨ioc_Row_init, iod_Row_init, .func (PySem.W.fnOf "__init__" "Row.__init__" (defArgs s_Row_init) (defBody s_Row_init) (defScope s_Row_init) .none ikV_Row_init idc_Row_init ipm_Row_init ian_Row_init icd_Row_init ict_Row_init), isl_Row_init⟩) (xc_Row_init : PySem.W.codeIn K icd_Row_init "Row.__init__" = true) (xq_Row_init : PySem.W.keepIn K (.ref fi_Row_init) = true)
    {fi_OwnRow_init : Addr} {ioc_OwnRow_init ikV_OwnRow_init idc_OwnRow_init ipm_OwnRow_init icd_OwnRow_init ict_OwnRow_init : Value} {iod_OwnRow_init ian_OwnRow_init : Option Addr} {isl_OwnRow_init : Array (Option Value)}
    (xi_OwnRow_init : PySem.W.findIn K (.ref A_OwnRow) "__init__" = some (some (.ref fi_OwnRow_init)))
    (xf_OwnRow_init : PySem.W.isFn K (.ref fi_OwnRow_init) = true) (xo_OwnRow_init : K.lookup fi_OwnRow_init = some ⟨ioc_OwnRow_init, iod_OwnRow_init, .func (PySem.W.fnOf "__init__" "OwnRow.__init__" (defArgs s_OwnRow_init) (defBody s_OwnRow_init) (defScope s_OwnRow_init) .none ikV_OwnRow_init idc_OwnRow_init ipm_OwnRow_init ian_OwnRow_init icd_OwnRow_init ict_OwnRow_init), isl_OwnRow_init⟩) (xc_OwnRow_init : PySem.W.codeIn K icd_OwnRow_init "OwnRow.__init__" = true) (xq_OwnRow_init : PySem.W.keepIn K (.ref fi_OwnRow_init) = true)
    (xw_OwnRow_name : PySem.W.findIn K (.ref A_OwnRow) "name" = some none)
    (xw_OwnRow_size : PySem.W.findIn K (.ref A_OwnRow) "size" = some none)
    (xw_OwnRow_number : PySem.W.findIn K (.ref A_OwnRow) "number" = some none)
    {fi_SetRow_init : Addr} {ioc_SetRow_init ikV_SetRow_init idc_SetRow_init ipm_SetRow_init icd_SetRow_init ict_SetRow_init : Value} {iod_SetRow_init ian_SetRow_init : Option Addr} {isl_SetRow_init : Array (Option Value)}
    (xi_SetRow_init : PySem.W.findIn K (.ref A_SetRow) "__init__" = some (some (.ref fi_SetRow_init)))
    (xf_SetRow_init : PySem.W.isFn K (.ref fi_SetRow_init) = true) (xo_SetRow_init : K.lookup fi_SetRow_init = some ⟨ioc_SetRow_init, iod_SetRow_init, .func (PySem.W.fnOf "__init__" "SetRow.__init__" (defArgs s_SetRow_init) (defBody s_SetRow_init) (defScope s_SetRow_init) .none ikV_SetRow_init idc_SetRow_init ipm_SetRow_init ian_SetRow_init icd_SetRow_init ict_SetRow_init), isl_SetRow_init⟩) (xc_SetRow_init : PySem.W.codeIn K icd_SetRow_init "SetRow.__init__" = true) (xq_SetRow_init : PySem.W.keepIn K (.ref fi_SetRow_init) = true)
    (xw_SetRow_name : PySem.W.findIn K (.ref A_SetRow) "name" = some none)
    (xw_SetRow_value : PySem.W.findIn K (.ref A_SetRow) "value" = some none)
    (xw_SetRow_number : PySem.W.findIn K (.ref A_SetRow) "number" = some none)
    {fi_CallRow_init : Addr} {ioc_CallRow_init ikV_CallRow_init idc_CallRow_init ipm_CallRow_init icd_CallRow_init ict_CallRow_init : Value} {iod_CallRow_init ian_CallRow_init : Option Addr} {isl_CallRow_init : Array (Option Value)}
    (xi_CallRow_init : PySem.W.findIn K (.ref A_CallRow) "__init__" = some (some (.ref fi_CallRow_init)))
    (xf_CallRow_init : PySem.W.isFn K (.ref fi_CallRow_init) = true) (xo_CallRow_init : K.lookup fi_CallRow_init = some ⟨ioc_CallRow_init, iod_CallRow_init, .func (PySem.W.fnOf "__init__" "CallRow.__init__" (defArgs s_CallRow_init) (defBody s_CallRow_init) (defScope s_CallRow_init) .none ikV_CallRow_init idc_CallRow_init ipm_CallRow_init ian_CallRow_init icd_CallRow_init ict_CallRow_init), isl_CallRow_init⟩) (xc_CallRow_init : PySem.W.codeIn K icd_CallRow_init "CallRow.__init__" = true) (xq_CallRow_init : PySem.W.keepIn K (.ref fi_CallRow_init) = true)
    (xw_CallRow_name : PySem.W.findIn K (.ref A_CallRow) "name" = some none)
    (xw_CallRow_things : PySem.W.findIn K (.ref A_CallRow) "things" = some none)
    (xw_CallRow_number : PySem.W.findIn K (.ref A_CallRow) "number" = some none)
    (xi_LastRow_init : PySem.W.findIn K (.ref A_LastRow) "__init__" = some (some (.ref fi_Row_init)))
    (xw_LastRow_number : PySem.W.findIn K (.ref A_LastRow) "number" = some none)
    {fi_IfRow_init : Addr} {ioc_IfRow_init ikV_IfRow_init idc_IfRow_init ipm_IfRow_init icd_IfRow_init ict_IfRow_init : Value} {iod_IfRow_init ian_IfRow_init : Option Addr} {isl_IfRow_init : Array (Option Value)}
    (xi_IfRow_init : PySem.W.findIn K (.ref A_IfRow) "__init__" = some (some (.ref fi_IfRow_init)))
    (xf_IfRow_init : PySem.W.isFn K (.ref fi_IfRow_init) = true) (xo_IfRow_init : K.lookup fi_IfRow_init = some ⟨ioc_IfRow_init, iod_IfRow_init, .func (PySem.W.fnOf "__init__" "IfRow.__init__" (defArgs s_IfRow_init) (defBody s_IfRow_init) (defScope s_IfRow_init) .none ikV_IfRow_init idc_IfRow_init ipm_IfRow_init ian_IfRow_init icd_IfRow_init ict_IfRow_init), isl_IfRow_init⟩) (xc_IfRow_init : PySem.W.codeIn K icd_IfRow_init "IfRow.__init__" = true) (xq_IfRow_init : PySem.W.keepIn K (.ref fi_IfRow_init) = true)
    (xw_IfRow_value : PySem.W.findIn K (.ref A_IfRow) "value" = some none)
    (xw_IfRow_first : PySem.W.findIn K (.ref A_IfRow) "first" = some none)
    (xw_IfRow_other : PySem.W.findIn K (.ref A_IfRow) "other" = some none)
    (xw_IfRow_left : PySem.W.findIn K (.ref A_IfRow) "left" = some none)
    (xw_IfRow_right : PySem.W.findIn K (.ref A_IfRow) "right" = some none)
    (xw_IfRow_number : PySem.W.findIn K (.ref A_IfRow) "number" = some none)
    {fi_LoopRow_init : Addr} {ioc_LoopRow_init ikV_LoopRow_init idc_LoopRow_init ipm_LoopRow_init icd_LoopRow_init ict_LoopRow_init : Value} {iod_LoopRow_init ian_LoopRow_init : Option Addr} {isl_LoopRow_init : Array (Option Value)}
    (xi_LoopRow_init : PySem.W.findIn K (.ref A_LoopRow) "__init__" = some (some (.ref fi_LoopRow_init)))
    (xf_LoopRow_init : PySem.W.isFn K (.ref fi_LoopRow_init) = true) (xo_LoopRow_init : K.lookup fi_LoopRow_init = some ⟨ioc_LoopRow_init, iod_LoopRow_init, .func (PySem.W.fnOf "__init__" "LoopRow.__init__" (defArgs s_LoopRow_init) (defBody s_LoopRow_init) (defScope s_LoopRow_init) .none ikV_LoopRow_init idc_LoopRow_init ipm_LoopRow_init ian_LoopRow_init icd_LoopRow_init ict_LoopRow_init), isl_LoopRow_init⟩) (xc_LoopRow_init : PySem.W.codeIn K icd_LoopRow_init "LoopRow.__init__" = true) (xq_LoopRow_init : PySem.W.keepIn K (.ref fi_LoopRow_init) = true)
    (xw_LoopRow_thing : PySem.W.findIn K (.ref A_LoopRow) "thing" = some none)
    (xw_LoopRow_most : PySem.W.findIn K (.ref A_LoopRow) "most" = some none)
    (xw_LoopRow_body : PySem.W.findIn K (.ref A_LoopRow) "body" = some none)
    (xw_LoopRow_left : PySem.W.findIn K (.ref A_LoopRow) "left" = some none)
    (xw_LoopRow_right : PySem.W.findIn K (.ref A_LoopRow) "right" = some none)
    (xw_LoopRow_number : PySem.W.findIn K (.ref A_LoopRow) "number" = some none)
    {fi_DeedRow_init : Addr} {ioc_DeedRow_init ikV_DeedRow_init idc_DeedRow_init ipm_DeedRow_init icd_DeedRow_init ict_DeedRow_init : Value} {iod_DeedRow_init ian_DeedRow_init : Option Addr} {isl_DeedRow_init : Array (Option Value)}
    (xi_DeedRow_init : PySem.W.findIn K (.ref A_DeedRow) "__init__" = some (some (.ref fi_DeedRow_init)))
    (xf_DeedRow_init : PySem.W.isFn K (.ref fi_DeedRow_init) = true) (xo_DeedRow_init : K.lookup fi_DeedRow_init = some ⟨ioc_DeedRow_init, iod_DeedRow_init, .func (PySem.W.fnOf "__init__" "DeedRow.__init__" (defArgs s_DeedRow_init) (defBody s_DeedRow_init) (defScope s_DeedRow_init) .none ikV_DeedRow_init idc_DeedRow_init ipm_DeedRow_init ian_DeedRow_init icd_DeedRow_init ict_DeedRow_init), isl_DeedRow_init⟩) (xc_DeedRow_init : PySem.W.codeIn K icd_DeedRow_init "DeedRow.__init__" = true) (xq_DeedRow_init : PySem.W.keepIn K (.ref fi_DeedRow_init) = true)
    (xw_DeedRow_name : PySem.W.findIn K (.ref A_DeedRow) "name" = some none)
    (xw_DeedRow_parts : PySem.W.findIn K (.ref A_DeedRow) "parts" = some none)
    (xw_DeedRow_body : PySem.W.findIn K (.ref A_DeedRow) "body" = some none)
    (xw_DeedRow_number : PySem.W.findIn K (.ref A_DeedRow) "number" = some none)
    {fi_Program_init : Addr} {ioc_Program_init ikV_Program_init idc_Program_init ipm_Program_init icd_Program_init ict_Program_init : Value} {iod_Program_init ian_Program_init : Option Addr} {isl_Program_init : Array (Option Value)}
    (xi_Program_init : PySem.W.findIn K (.ref A_Program) "__init__" = some (some (.ref fi_Program_init)))
    (xf_Program_init : PySem.W.isFn K (.ref fi_Program_init) = true) (xo_Program_init : K.lookup fi_Program_init = some ⟨ioc_Program_init, iod_Program_init, .func (PySem.W.fnOf "__init__" "Program.__init__" (defArgs s_Program_init) (defBody s_Program_init) (defScope s_Program_init) .none ikV_Program_init idc_Program_init ipm_Program_init ian_Program_init icd_Program_init ict_Program_init), isl_Program_init⟩) (xc_Program_init : PySem.W.codeIn K icd_Program_init "Program.__init__" = true) (xq_Program_init : PySem.W.keepIn K (.ref fi_Program_init) = true)
    (xw_Program_heads : PySem.W.findIn K (.ref A_Program) "heads" = some none)
    (xw_Program_deeds : PySem.W.findIn K (.ref A_Program) "deeds" = some none)
    (xw_Program_main : PySem.W.findIn K (.ref A_Program) "main" = some none)
    (yg_Row_init : PySem.W.specialIn K (.ref A_Row) "__getattribute__" = some (some (.builtin "type.__getattribute__"))) (yr_Row_init : PySem.W.readsIn K A_Row (.type "type") = true) (yf_Row_init : PySem.W.findCls K (.ref A_Row) (.type "type") "__init__" = some (.val (.ref fi_Row_init)))
    (nod : [A_Row, A_OwnRow, A_SetRow, A_CallRow, A_LastRow, A_IfRow, A_LoopRow, A_DeedRow, A_Program].Nodup)
    : ∃ fd : FuncData, (∀ (s : Shared) (v : Value), BindsTo s fd ⟨[v], []⟩ [("_law_script", v)]) ∧ ∀ base : Heap, K.In base → base.Ns mainGlobals mg → FnOk l.prog w K mg base CX0 30 fa fd ["_law_script"] (sp_law K) := by
  have t1 : TopFn K mg "most_of" s_most_of ["rows", "known"] := topFn_mk X G a1 l1 c1 k1 fun _ _ _ _ _ _ us hl => (by obtain ⟨_, _, rfl⟩ := exN2 hl; rfl)
  have t2 : TopFn K mg "most_of_row" s_most_of_row ["row", "known"] := topFn_mk X G a2 l2 c2 k2 fun _ _ _ _ _ _ us hl => (by obtain ⟨_, _, rfl⟩ := exN2 hl; rfl)
  have t3 : TopFn K mg "exact_of" s_exact_of ["rows", "known"] := topFn_mk X G a3 l3 c3 k3 fun _ _ _ _ _ _ us hl => (by obtain ⟨_, _, rfl⟩ := exN2 hl; rfl)
  have t4 : TopFn K mg "exact_of_row" s_exact_of_row ["row", "known"] := topFn_mk X G a4 l4 c4 k4 fun _ _ _ _ _ _ us hl => (by obtain ⟨_, _, rfl⟩ := exN2 hl; rfl)
  have t5 : TopFn K mg "one_more" s_one_more ["steps"] := topFn_mk X G a5 l5 c5 k5 fun _ _ _ _ _ _ us hl => (by obtain ⟨_, rfl⟩ := exN1 hl; rfl)
  have t6 : TopFn K mg "exact_of_if" s_exact_of_if ["row", "known"] := topFn_mk X G a6 l6 c6 k6 fun _ _ _ _ _ _ us hl => (by obtain ⟨_, _, rfl⟩ := exN2 hl; rfl)
  have t7 : TopFn K mg "exact_of_loop" s_exact_of_loop ["row", "known"] := topFn_mk X G a7 l7 c7 k7 fun _ _ _ _ _ _ us hl => (by obtain ⟨_, _, rfl⟩ := exN2 hl; rfl)
  have t8 : TopFn K mg "balanced" s_balanced ["row", "known"] := topFn_mk X G a8 l8 c8 k8 fun _ _ _ _ _ _ us hl => (by obtain ⟨_, _, rfl⟩ := exN2 hl; rfl)
  have t9 : TopFn K mg "mosts" s_mosts ["program"] := topFn_mk X G a9 l9 c9 k9 fun _ _ _ _ _ _ us hl => (by obtain ⟨_, rfl⟩ := exN1 hl; rfl)
  have t10 : TopFn K mg "exacts" s_exacts ["program"] := topFn_mk X G a10 l10 c10 k10 fun _ _ _ _ _ _ us hl => (by obtain ⟨_, rfl⟩ := exN1 hl; rfl)
  have t11 : TopFn K mg "most" s_most ["program"] := topFn_mk X G a11 l11 c11 k11 fun _ _ _ _ _ _ us hl => (by obtain ⟨_, rfl⟩ := exN1 hl; rfl)
  have t12 : TopFn K mg "exact" s_exact ["program"] := topFn_mk X G a12 l12 c12 k12 fun _ _ _ _ _ _ us hl => (by obtain ⟨_, rfl⟩ := exN1 hl; rfl)
  have t13 : TopFn K mg "_law_cell_at" s_law_cell_at ["_law_script", "_law_k"] := topFn_mk X G a13 l13 c13 k13 fun _ _ _ _ _ _ us hl => (by obtain ⟨_, _, rfl⟩ := exN2 hl; rfl)
  have t14 : TopFn K mg "_law_more" s_law_more ["_law_script", "_law_at", "_law_many"] := topFn_mk X G a14 l14 c14 k14 fun _ _ _ _ _ _ us hl => (by obtain ⟨_, _, _, rfl⟩ := exN3 hl; rfl)
  have t15 : TopFn K mg "_law_mix" s_law_mix ["_law_cell", "_law_k"] := topFn_mk X G a15 l15 c15 k15 fun _ _ _ _ _ _ us hl => (by obtain ⟨_, _, rfl⟩ := exN2 hl; rfl)
  have t16 : TopFn K mg "_law_names" s_law_names ["_law_cell", "_law_other", "_law_many"] := topFn_mk X G a16 l16 c16 k16 fun _ _ _ _ _ _ us hl => (by obtain ⟨_, _, _, rfl⟩ := exN3 hl; rfl)
  have t17 : TopFn K mg "_law_whole" s_law_whole ["_law_found", "_law_due"] := topFn_mk X G a17 l17 c17 k17 fun _ _ _ _ _ _ us hl => (by obtain ⟨_, _, rfl⟩ := exN2 hl; rfl)
  have t18 : TopFn K mg "_law_frame" s_law_frame ["_law_kind", "_law_number", "_law_room", "_law_many"] := topFn_mk X G a18 l18 c18 k18 fun _ _ _ _ _ _ us hl => (by obtain ⟨_, _, _, _, rfl⟩ := exN4 hl; rfl)
  have t19 : TopFn K mg "_law_add" s_law_add ["_law_frame_here", "_law_row", "_law_steps", "_law_sure"] := topFn_mk X G a19 l19 c19 k19 fun _ _ _ _ _ _ us hl => (by obtain ⟨_, _, _, _, rfl⟩ := exN4 hl; rfl)
  have t20 : TopFn K mg "_law_idles" s_law_idles ["_law_cell", "_law_one", "_law_other"] := topFn_mk X G a20 l20 c20 k20 fun _ _ _ _ _ _ us hl => (by obtain ⟨_, _, _, rfl⟩ := exN3 hl; rfl)
  have t21 : TopFn K mg "_law_close" s_law_close ["_law_state", "_law_cell"] := topFn_mk X G a21 l21 c21 k21 fun _ _ _ _ _ _ us hl => (by obtain ⟨_, _, rfl⟩ := exN2 hl; rfl)
  have t22 : TopFn K mg "_law_plain" s_law_plain ["_law_state", "_law_cell", "_law_way"] := topFn_mk X G a22 l22 c22 k22 fun _ _ _ _ _ _ us hl => (by obtain ⟨_, _, _, rfl⟩ := exN3 hl; rfl)
  have t23 : TopFn K mg "_law_step" s_law_step ["_law_state", "_law_cell"] := topFn_mk X G a23 l23 c23 k23 fun _ _ _ _ _ _ us hl => (by obtain ⟨_, _, rfl⟩ := exN2 hl; rfl)
  have t24 : TopFn K mg "_law_body" s_law_body ["_law_state", "_law_cells", "_law_room"] := topFn_mk X G a24 l24 c24 k24 fun _ _ _ _ _ _ us hl => (by obtain ⟨_, _, _, rfl⟩ := exN3 hl; rfl)
  have t25 : TopFn K mg "_law_asked" s_law_asked ["_law_program", "_law_outer", "_law_state"] := topFn_mk X G a25 l25 c25 k25 fun _ _ _ _ _ _ us hl => (by obtain ⟨_, _, _, rfl⟩ := exN3 hl; rfl)
  have t26 : TopFn K mg "law" s_law ["_law_script"] := topFn_mk X G a26 l26 c26 k26 fun _ _ _ _ _ _ us hl => (by obtain ⟨_, rfl⟩ := exN1 hl; rfl)
  have T : Txt K mg ⟨A_Row, A_OwnRow, A_SetRow, A_CallRow, A_LastRow, A_IfRow, A_LoopRow, A_DeedRow, A_Program⟩ := { most_of := t1, most_of_row := t2, exact_of := t3, exact_of_row := t4, one_more := t5, exact_of_if := t6, exact_of_loop := t7, balanced := t8, mosts := t9, exacts := t10, most := t11, exact := t12, law_cell_at := t13, law_more := t14, law_mix := t15, law_names := t16, law_whole := t17, law_frame := t18, law_add := t19, law_idles := t20, law_close := t21, law_plain := t22, law_step := t23, law_body := t24, law_asked := t25, z_any := PySem.W.mg_none_of X G z_any, z_bool := PySem.W.mg_none_of X G z_bool, z_dict := PySem.W.mg_none_of X G z_dict, z_int := PySem.W.mg_none_of X G z_int, z_isinstance := PySem.W.mg_none_of X G z_isinstance, z_len := PySem.W.mg_none_of X G z_len, z_list := PySem.W.mg_none_of X G z_list, z_max := PySem.W.mg_none_of X G z_max, z_range := PySem.W.mg_none_of X G z_range, z_sum := PySem.W.mg_none_of X G z_sum, o_Row := ⟨PySem.W.mg_of X G x_Row, ⟨xpg_Row, xhd_Row, xpo_Row, xsa_Row⟩, ⟨_, xl_Row, xm_Row⟩, xty_Row, xkc_Row, cg, ct, xmk_Row, xkp_Row⟩, m_Row_init := mFn_mk xi_Row_init xf_Row_init xo_Row_init xc_Row_init xq_Row_init fun _ _ _ _ _ _ us hl => (by obtain ⟨_, _, rfl⟩ := exN2 hl; rfl), o_OwnRow := ⟨PySem.W.mg_of X G x_OwnRow, ⟨xpg_OwnRow, xhd_OwnRow, xpo_OwnRow, xsa_OwnRow⟩, ⟨_, xl_OwnRow, xm_OwnRow⟩, xty_OwnRow, xkc_OwnRow, cg, ct, xmk_OwnRow, xkp_OwnRow⟩, m_OwnRow_init := mFn_mk xi_OwnRow_init xf_OwnRow_init xo_OwnRow_init xc_OwnRow_init xq_OwnRow_init fun _ _ _ _ _ _ us hl => (by obtain ⟨_, _, _, _, rfl⟩ := exN4 hl; rfl), n_OwnRow_name := xw_OwnRow_name, n_OwnRow_size := xw_OwnRow_size, n_OwnRow_number := xw_OwnRow_number, o_SetRow := ⟨PySem.W.mg_of X G x_SetRow, ⟨xpg_SetRow, xhd_SetRow, xpo_SetRow, xsa_SetRow⟩, ⟨_, xl_SetRow, xm_SetRow⟩, xty_SetRow, xkc_SetRow, cg, ct, xmk_SetRow, xkp_SetRow⟩, m_SetRow_init := mFn_mk xi_SetRow_init xf_SetRow_init xo_SetRow_init xc_SetRow_init xq_SetRow_init fun _ _ _ _ _ _ us hl => (by obtain ⟨_, _, _, _, rfl⟩ := exN4 hl; rfl), n_SetRow_name := xw_SetRow_name, n_SetRow_value := xw_SetRow_value, n_SetRow_number := xw_SetRow_number, o_CallRow := ⟨PySem.W.mg_of X G x_CallRow, ⟨xpg_CallRow, xhd_CallRow, xpo_CallRow, xsa_CallRow⟩, ⟨_, xl_CallRow, xm_CallRow⟩, xty_CallRow, xkc_CallRow, cg, ct, xmk_CallRow, xkp_CallRow⟩, m_CallRow_init := mFn_mk xi_CallRow_init xf_CallRow_init xo_CallRow_init xc_CallRow_init xq_CallRow_init fun _ _ _ _ _ _ us hl => (by obtain ⟨_, _, _, _, rfl⟩ := exN4 hl; rfl), n_CallRow_name := xw_CallRow_name, n_CallRow_things := xw_CallRow_things, n_CallRow_number := xw_CallRow_number, o_LastRow := ⟨PySem.W.mg_of X G x_LastRow, ⟨xpg_LastRow, xhd_LastRow, xpo_LastRow, xsa_LastRow⟩, ⟨_, xl_LastRow, xm_LastRow⟩, xty_LastRow, xkc_LastRow, cg, ct, xmk_LastRow, xkp_LastRow⟩, m_LastRow_init := mFn_mk xi_LastRow_init xf_Row_init xo_Row_init xc_Row_init xq_Row_init fun _ _ _ _ _ _ us hl => (by obtain ⟨_, _, rfl⟩ := exN2 hl; rfl), n_LastRow_number := xw_LastRow_number, o_IfRow := ⟨PySem.W.mg_of X G x_IfRow, ⟨xpg_IfRow, xhd_IfRow, xpo_IfRow, xsa_IfRow⟩, ⟨_, xl_IfRow, xm_IfRow⟩, xty_IfRow, xkc_IfRow, cg, ct, xmk_IfRow, xkp_IfRow⟩, m_IfRow_init := mFn_mk xi_IfRow_init xf_IfRow_init xo_IfRow_init xc_IfRow_init xq_IfRow_init fun _ _ _ _ _ _ us hl => (by obtain ⟨_, _, _, _, _, _, _, rfl⟩ := exN7 hl; rfl), n_IfRow_value := xw_IfRow_value, n_IfRow_first := xw_IfRow_first, n_IfRow_other := xw_IfRow_other, n_IfRow_left := xw_IfRow_left, n_IfRow_right := xw_IfRow_right, n_IfRow_number := xw_IfRow_number, o_LoopRow := ⟨PySem.W.mg_of X G x_LoopRow, ⟨xpg_LoopRow, xhd_LoopRow, xpo_LoopRow, xsa_LoopRow⟩, ⟨_, xl_LoopRow, xm_LoopRow⟩, xty_LoopRow, xkc_LoopRow, cg, ct, xmk_LoopRow, xkp_LoopRow⟩, m_LoopRow_init := mFn_mk xi_LoopRow_init xf_LoopRow_init xo_LoopRow_init xc_LoopRow_init xq_LoopRow_init fun _ _ _ _ _ _ us hl => (by obtain ⟨_, _, _, _, _, _, _, rfl⟩ := exN7 hl; rfl), n_LoopRow_thing := xw_LoopRow_thing, n_LoopRow_most := xw_LoopRow_most, n_LoopRow_body := xw_LoopRow_body, n_LoopRow_left := xw_LoopRow_left, n_LoopRow_right := xw_LoopRow_right, n_LoopRow_number := xw_LoopRow_number, o_DeedRow := ⟨PySem.W.mg_of X G x_DeedRow, ⟨xpg_DeedRow, xhd_DeedRow, xpo_DeedRow, xsa_DeedRow⟩, ⟨_, xl_DeedRow, xm_DeedRow⟩, xty_DeedRow, xkc_DeedRow, cg, ct, xmk_DeedRow, xkp_DeedRow⟩, m_DeedRow_init := mFn_mk xi_DeedRow_init xf_DeedRow_init xo_DeedRow_init xc_DeedRow_init xq_DeedRow_init fun _ _ _ _ _ _ us hl => (by obtain ⟨_, _, _, _, _, rfl⟩ := exN5 hl; rfl), n_DeedRow_name := xw_DeedRow_name, n_DeedRow_parts := xw_DeedRow_parts, n_DeedRow_body := xw_DeedRow_body, n_DeedRow_number := xw_DeedRow_number, o_Program := ⟨PySem.W.mg_of X G x_Program, ⟨xpg_Program, xhd_Program, xpo_Program, xsa_Program⟩, ⟨_, xl_Program, xm_Program⟩, xty_Program, xkc_Program, cg, ct, xmk_Program, xkp_Program⟩, m_Program_init := mFn_mk xi_Program_init xf_Program_init xo_Program_init xc_Program_init xq_Program_init fun _ _ _ _ _ _ us hl => (by obtain ⟨_, _, _, _, rfl⟩ := exN4 hl; rfl), n_Program_heads := xw_Program_heads, n_Program_deeds := xw_Program_deeds, n_Program_main := xw_Program_main, of_Row_init := ⟨yg_Row_init, yr_Row_init, _, xi_Row_init, yf_Row_init⟩, nd := nod }
  refine ⟨PySem.W.fnOf "law" "law" (defArgs s_law) (defBody s_law) (defScope s_law) .none kV26 dc26 pm26 an26 cd26 ct26, fun s v => .of_eq rfl, fun base _ _ => ?_⟩
  have e := hfa.symm.trans (PySem.W.mg_of X G a26)
  cases e
  exact has_at (h_law (P := l.prog) (w := w) (base := base) T t26) (PySem.W.mg_of X G a26) l26
theorem walk {l : PySem.W.OpenLaw} {q : Program} {loose : List Str} {XP : (Str → Option Value) → Heap → Prop} {YP : World → Heap → Prop} {d : DefRec} {K : Params → PySem.W.Frag} (hn : l.most = some 63) (hdf : d.params.defaults = []) (hY : ∀ (w : World) (h : Heap), YP w h → (K w.params).In h)
    (F : ∀ (w : World) (mg : Str → Option Value) (fa : Addr) (h : Heap), (K w.params).In h → h.Ns mainGlobals mg → mg d.name = some (.ref fa) → ∃ fd : FuncData, (∀ (s : Shared) (u : Value), BindsTo s fd ⟨[u], []⟩ [("_law_script", u)]) ∧ ∀ base : Heap, (K w.params).In base → base.Ns mainGlobals mg → FnOk l.prog w (K w.params) mg base CX0 30 fa fd ["_law_script"] (sp_law (K w.params))) :
    PySem.W.WalkO q loose XP YP l.row.toRowW d [] (fun f vs => PySem.call f vs) :=
  L2.walk_of (n := 63) (k := 30) (x := "_law_script") (CX := fun _ => CX0) (sp := fun w => sp_law (K w.params)) hn (by decide) hdf ⟨rfl, by decide, by decide⟩ hY F (fun _ _ a ns hl _ hS => ⟨a, ns, rfl, hS, hl, fun _ => rfl⟩) fun _ _ _ _ _ z => z
end K13
open PySem PySem.W PyProof.Rows
set_option maxRecDepth 100000 in
set_option maxHeartbeats 0 in
theorem PySem.Challenge.cw_hushrow_k13_costs_holds : PySem.Challenge.rw_hushrow_k13_costs.Holds := by
  w_on; o_law
  refine PySem.W.holds_open (q := K13.seenAt) (loose := []) (Xt := K13.test) (XP := PySem.W.XL K13.seenAt []) (Yf := (PySem.W.kHook K13.heapK K13.keysK K13.keysK_eq).obs) (Ya := (PySem.W.kHook K13.heapK K13.keysK K13.keysK_eq).val) (YP := (PySem.W.kHook K13.heapK K13.keysK K13.keysK_eq).says) (N := 7062) K13.left (PySem.W.kHook K13.heapK K13.keysK K13.keysK_eq).of (PySem.W.kHook K13.heapK K13.keysK K13.keysK_eq).keeps
    (fun s e => PySem.W.xl_of s (Bool.and_eq_true_iff.mp e).1) PySem.W.XL.keeps (by rfl) (by rfl) (by rfl) (fun s e => PySem.W.recFacts_of (Bool.and_eq_true_iff.mp e).2) ?h4 ?h5 ?h6 ⟨rfl, rfl, rfl, rfl, rfl, by decide +kernel⟩ ?hw ?hc
  (case h4 => rfl); (case h5 => first | assumption | decide +kernel); (case h6 => decide +kernel); (case hw => w_witness2)
  k_fill
  refine K13.walk (l := PySem.Challenge.rw_hushrow_k13_costs) rfl rfl (fun w h Y => PySem.W.kIn_of Y) ?F
  case F =>
    intro w mg fa h KX G hmg
    refine' K13.all_mk KX G hmg ?a1 ?l1 ?c1 ?k1 ?a2 ?l2 ?c2 ?k2 ?a3 ?l3 ?c3 ?k3 ?a4 ?l4 ?c4 ?k4 ?a5 ?l5 ?c5 ?k5 ?a6 ?l6 ?c6 ?k6 ?a7 ?l7 ?c7 ?k7 ?a8 ?l8 ?c8 ?k8 ?a9 ?l9 ?c9 ?k9 ?a10 ?l10 ?c10 ?k10 ?a11 ?l11 ?c11 ?k11 ?a12 ?l12 ?c12 ?k12 ?a13 ?l13 ?c13 ?k13 ?a14 ?l14 ?c14 ?k14 ?a15 ?l15 ?c15 ?k15 ?a16 ?l16 ?c16 ?k16 ?a17 ?l17 ?c17 ?k17 ?a18 ?l18 ?c18 ?k18 ?a19 ?l19 ?c19 ?k19 ?a20 ?l20 ?c20 ?k20 ?a21 ?l21 ?c21 ?k21 ?a22 ?l22 ?c22 ?k22 ?a23 ?l23 ?c23 ?k23 ?a24 ?l24 ?c24 ?k24 ?a25 ?l25 ?c25 ?k25 ?a26 ?l26 ?c26 ?k26 ?z_any ?z_bool ?z_dict ?z_int ?z_isinstance ?z_len ?z_list ?z_max ?z_range ?z_sum ?cg ?ct ?x_Row ?xl_Row ?xm_Row ?xpg_Row ?xhd_Row ?xpo_Row ?xsa_Row ?xty_Row ?xkc_Row ?xmk_Row ?xkp_Row ?x_OwnRow ?xl_OwnRow ?xm_OwnRow ?xpg_OwnRow ?xhd_OwnRow ?xpo_OwnRow ?xsa_OwnRow ?xty_OwnRow ?xkc_OwnRow ?xmk_OwnRow ?xkp_OwnRow ?x_SetRow ?xl_SetRow ?xm_SetRow ?xpg_SetRow ?xhd_SetRow ?xpo_SetRow ?xsa_SetRow ?xty_SetRow ?xkc_SetRow ?xmk_SetRow ?xkp_SetRow ?x_CallRow ?xl_CallRow ?xm_CallRow ?xpg_CallRow ?xhd_CallRow ?xpo_CallRow ?xsa_CallRow ?xty_CallRow ?xkc_CallRow ?xmk_CallRow ?xkp_CallRow ?x_LastRow ?xl_LastRow ?xm_LastRow ?xpg_LastRow ?xhd_LastRow ?xpo_LastRow ?xsa_LastRow ?xty_LastRow ?xkc_LastRow ?xmk_LastRow ?xkp_LastRow ?x_IfRow ?xl_IfRow ?xm_IfRow ?xpg_IfRow ?xhd_IfRow ?xpo_IfRow ?xsa_IfRow ?xty_IfRow ?xkc_IfRow ?xmk_IfRow ?xkp_IfRow ?x_LoopRow ?xl_LoopRow ?xm_LoopRow ?xpg_LoopRow ?xhd_LoopRow ?xpo_LoopRow ?xsa_LoopRow ?xty_LoopRow ?xkc_LoopRow ?xmk_LoopRow ?xkp_LoopRow ?x_DeedRow ?xl_DeedRow ?xm_DeedRow ?xpg_DeedRow ?xhd_DeedRow ?xpo_DeedRow ?xsa_DeedRow ?xty_DeedRow ?xkc_DeedRow ?xmk_DeedRow ?xkp_DeedRow ?x_Program ?xl_Program ?xm_Program ?xpg_Program ?xhd_Program ?xpo_Program ?xsa_Program ?xty_Program ?xkc_Program ?xmk_Program ?xkp_Program ?xi_Row_init ?xf_Row_init ?xo_Row_init ?xc_Row_init ?xq_Row_init ?xi_OwnRow_init ?xf_OwnRow_init ?xo_OwnRow_init ?xc_OwnRow_init ?xq_OwnRow_init ?xw_OwnRow_name ?xw_OwnRow_size ?xw_OwnRow_number ?xi_SetRow_init ?xf_SetRow_init ?xo_SetRow_init ?xc_SetRow_init ?xq_SetRow_init ?xw_SetRow_name ?xw_SetRow_value ?xw_SetRow_number ?xi_CallRow_init ?xf_CallRow_init ?xo_CallRow_init ?xc_CallRow_init ?xq_CallRow_init ?xw_CallRow_name ?xw_CallRow_things ?xw_CallRow_number ?xi_LastRow_init ?xw_LastRow_number ?xi_IfRow_init ?xf_IfRow_init ?xo_IfRow_init ?xc_IfRow_init ?xq_IfRow_init ?xw_IfRow_value ?xw_IfRow_first ?xw_IfRow_other ?xw_IfRow_left ?xw_IfRow_right ?xw_IfRow_number ?xi_LoopRow_init ?xf_LoopRow_init ?xo_LoopRow_init ?xc_LoopRow_init ?xq_LoopRow_init ?xw_LoopRow_thing ?xw_LoopRow_most ?xw_LoopRow_body ?xw_LoopRow_left ?xw_LoopRow_right ?xw_LoopRow_number ?xi_DeedRow_init ?xf_DeedRow_init ?xo_DeedRow_init ?xc_DeedRow_init ?xq_DeedRow_init ?xw_DeedRow_name ?xw_DeedRow_parts ?xw_DeedRow_body ?xw_DeedRow_number ?xi_Program_init ?xf_Program_init ?xo_Program_init ?xc_Program_init ?xq_Program_init ?xw_Program_heads ?xw_Program_deeds ?xw_Program_main ?yg_Row_init ?yr_Row_init ?yf_Row_init ?nod
    (case a1 => k_is); (case l1 => k_is); (case c1 => k_is); (case k1 => k_is); (case a2 => k_is); (case l2 => k_is)
    (case c2 => k_is); (case k2 => k_is); (case a3 => k_is); (case l3 => k_is); (case c3 => k_is); (case k3 => k_is)
    (case a4 => k_is); (case l4 => k_is); (case c4 => k_is); (case k4 => k_is); (case a5 => k_is); (case l5 => k_is)
    (case c5 => k_is); (case k5 => k_is); (case a6 => k_is); (case l6 => k_is); (case c6 => k_is); (case k6 => k_is)
    (case a7 => k_is); (case l7 => k_is); (case c7 => k_is); (case k7 => k_is); (case a8 => k_is); (case l8 => k_is)
    (case c8 => k_is); (case k8 => k_is); (case a9 => k_is); (case l9 => k_is); (case c9 => k_is); (case k9 => k_is)
    (case a10 => k_is); (case l10 => k_is); (case c10 => k_is); (case k10 => k_is); (case a11 => k_is); (case l11 => k_is)
    (case c11 => k_is); (case k11 => k_is); (case a12 => k_is); (case l12 => k_is); (case c12 => k_is); (case k12 => k_is)
    (case a13 => k_is); (case l13 => k_is); (case c13 => k_is); (case k13 => k_is); (case a14 => k_is); (case l14 => k_is)
    (case c14 => k_is); (case k14 => k_is); (case a15 => k_is); (case l15 => k_is); (case c15 => k_is); (case k15 => k_is)
    (case a16 => k_is); (case l16 => k_is); (case c16 => k_is); (case k16 => k_is); (case a17 => k_is); (case l17 => k_is)
    (case c17 => k_is); (case k17 => k_is); (case a18 => k_is); (case l18 => k_is); (case c18 => k_is); (case k18 => k_is)
    (case a19 => k_is); (case l19 => k_is); (case c19 => k_is); (case k19 => k_is); (case a20 => k_is); (case l20 => k_is)
    (case c20 => k_is); (case k20 => k_is); (case a21 => k_is); (case l21 => k_is); (case c21 => k_is); (case k21 => k_is)
    (case a22 => k_is); (case l22 => k_is); (case c22 => k_is); (case k22 => k_is); (case a23 => k_is); (case l23 => k_is)
    (case c23 => k_is); (case k23 => k_is); (case a24 => k_is); (case l24 => k_is); (case c24 => k_is); (case k24 => k_is)
    (case a25 => k_is); (case l25 => k_is); (case c25 => k_is); (case k25 => k_is); (case a26 => k_is); (case l26 => k_is)
    (case c26 => k_is); (case k26 => k_is); (case z_any => k_is); (case z_bool => k_is); (case z_dict => k_is); (case z_int => k_is)
    (case z_isinstance => k_is); (case z_len => k_is); (case z_list => k_is); (case z_max => k_is); (case z_range => k_is); (case z_sum => k_is)
    (case cg => k_is); (case ct => k_is); (case x_Row => k_is); (case xl_Row => k_is); (case xm_Row => rfl); (case xpg_Row => k_is)
    (case xhd_Row => k_is); (case xpo_Row => k_is); (case xsa_Row => k_is); (case xty_Row => k_is); (case xkc_Row => k_is); (case xmk_Row => k_is)
    (case xkp_Row => k_is); (case x_OwnRow => k_is); (case xl_OwnRow => k_is); (case xm_OwnRow => rfl); (case xpg_OwnRow => k_is); (case xhd_OwnRow => k_is)
    (case xpo_OwnRow => k_is); (case xsa_OwnRow => k_is); (case xty_OwnRow => k_is); (case xkc_OwnRow => k_is); (case xmk_OwnRow => k_is); (case xkp_OwnRow => k_is)
    (case x_SetRow => k_is); (case xl_SetRow => k_is); (case xm_SetRow => rfl); (case xpg_SetRow => k_is); (case xhd_SetRow => k_is); (case xpo_SetRow => k_is)
    (case xsa_SetRow => k_is); (case xty_SetRow => k_is); (case xkc_SetRow => k_is); (case xmk_SetRow => k_is); (case xkp_SetRow => k_is); (case x_CallRow => k_is)
    (case xl_CallRow => k_is); (case xm_CallRow => rfl); (case xpg_CallRow => k_is); (case xhd_CallRow => k_is); (case xpo_CallRow => k_is); (case xsa_CallRow => k_is)
    (case xty_CallRow => k_is); (case xkc_CallRow => k_is); (case xmk_CallRow => k_is); (case xkp_CallRow => k_is); (case x_LastRow => k_is); (case xl_LastRow => k_is)
    (case xm_LastRow => rfl); (case xpg_LastRow => k_is); (case xhd_LastRow => k_is); (case xpo_LastRow => k_is); (case xsa_LastRow => k_is); (case xty_LastRow => k_is)
    (case xkc_LastRow => k_is); (case xmk_LastRow => k_is); (case xkp_LastRow => k_is); (case x_IfRow => k_is); (case xl_IfRow => k_is); (case xm_IfRow => rfl)
    (case xpg_IfRow => k_is); (case xhd_IfRow => k_is); (case xpo_IfRow => k_is); (case xsa_IfRow => k_is); (case xty_IfRow => k_is); (case xkc_IfRow => k_is)
    (case xmk_IfRow => k_is); (case xkp_IfRow => k_is); (case x_LoopRow => k_is); (case xl_LoopRow => k_is); (case xm_LoopRow => rfl); (case xpg_LoopRow => k_is)
    (case xhd_LoopRow => k_is); (case xpo_LoopRow => k_is); (case xsa_LoopRow => k_is); (case xty_LoopRow => k_is); (case xkc_LoopRow => k_is); (case xmk_LoopRow => k_is)
    (case xkp_LoopRow => k_is); (case x_DeedRow => k_is); (case xl_DeedRow => k_is); (case xm_DeedRow => rfl); (case xpg_DeedRow => k_is); (case xhd_DeedRow => k_is)
    (case xpo_DeedRow => k_is); (case xsa_DeedRow => k_is); (case xty_DeedRow => k_is); (case xkc_DeedRow => k_is); (case xmk_DeedRow => k_is); (case xkp_DeedRow => k_is)
    (case x_Program => k_is); (case xl_Program => k_is); (case xm_Program => rfl); (case xpg_Program => k_is); (case xhd_Program => k_is); (case xpo_Program => k_is)
    (case xsa_Program => k_is); (case xty_Program => k_is); (case xkc_Program => k_is); (case xmk_Program => k_is); (case xkp_Program => k_is); (case xi_Row_init => k_is)
    (case xf_Row_init => k_is); (case xo_Row_init => k_is); (case xc_Row_init => k_is); (case xq_Row_init => k_is); (case xi_OwnRow_init => k_is); (case xf_OwnRow_init => k_is)
    (case xo_OwnRow_init => k_is); (case xc_OwnRow_init => k_is); (case xq_OwnRow_init => k_is); (case xw_OwnRow_name => k_is); (case xw_OwnRow_size => k_is); (case xw_OwnRow_number => k_is)
    (case xi_SetRow_init => k_is); (case xf_SetRow_init => k_is); (case xo_SetRow_init => k_is); (case xc_SetRow_init => k_is); (case xq_SetRow_init => k_is); (case xw_SetRow_name => k_is)
    (case xw_SetRow_value => k_is); (case xw_SetRow_number => k_is); (case xi_CallRow_init => k_is); (case xf_CallRow_init => k_is); (case xo_CallRow_init => k_is); (case xc_CallRow_init => k_is)
    (case xq_CallRow_init => k_is); (case xw_CallRow_name => k_is); (case xw_CallRow_things => k_is); (case xw_CallRow_number => k_is); (case xi_LastRow_init => k_is); (case xw_LastRow_number => k_is)
    (case xi_IfRow_init => k_is); (case xf_IfRow_init => k_is); (case xo_IfRow_init => k_is); (case xc_IfRow_init => k_is); (case xq_IfRow_init => k_is); (case xw_IfRow_value => k_is)
    (case xw_IfRow_first => k_is); (case xw_IfRow_other => k_is); (case xw_IfRow_left => k_is); (case xw_IfRow_right => k_is); (case xw_IfRow_number => k_is); (case xi_LoopRow_init => k_is)
    (case xf_LoopRow_init => k_is); (case xo_LoopRow_init => k_is); (case xc_LoopRow_init => k_is); (case xq_LoopRow_init => k_is); (case xw_LoopRow_thing => k_is); (case xw_LoopRow_most => k_is)
    (case xw_LoopRow_body => k_is); (case xw_LoopRow_left => k_is); (case xw_LoopRow_right => k_is); (case xw_LoopRow_number => k_is); (case xi_DeedRow_init => k_is); (case xf_DeedRow_init => k_is)
    (case xo_DeedRow_init => k_is); (case xc_DeedRow_init => k_is); (case xq_DeedRow_init => k_is); (case xw_DeedRow_name => k_is); (case xw_DeedRow_parts => k_is); (case xw_DeedRow_body => k_is)
    (case xw_DeedRow_number => k_is); (case xi_Program_init => k_is); (case xf_Program_init => k_is); (case xo_Program_init => k_is); (case xc_Program_init => k_is); (case xq_Program_init => k_is)
    (case xw_Program_heads => k_is); (case xw_Program_deeds => k_is); (case xw_Program_main => k_is); (case yg_Row_init => k_is); (case yr_Row_init => k_is); (case yf_Row_init => k_is)
    (case nod => decide)

