import PyProof.Rows.All
import Wide.All
import OpenK.AllK
import Wide.FinOn
import Lean
import PyProof.EqAt
import PyProof.EqKinds
import PyProof.TupleCall
import PyProof.ExcInit
import PyProof.ExcClass3
import PyProof.StationsW
import PyProof.RulesAs
import PyProof.AttrMissSeq
import KE.KDictList
import PyProof.WalksEnum
import PyProof.EnumMake
import PyProof.ZipIter
import PyProof.Rows.ZipGen
import PySem.Challenge.RW_hushrow_k21_what_a_run_begins_with
set_option Elab.async false
set_option linter.all false
set_option maxRecDepth 100000
namespace Hd
open PySem PySem.W PySem.Calls PyProof.Rows
def runT (tb : String → Option Builtin) (p : Program) (w : World) (n₀ : Nat) (ann : Option Value) : Nat → SharedT → Thread → Option SharedT
  | 0, _, _ => none
  | n + 1, s, t => match through t with
    | true => some s
    | false => match stepOk n₀ ann t with
      | false => none
      | true => match stepT (denote tb) p w s t with
        | some (s', t') => runT tb p w n₀ ann n s' t'
        | none => none
theorem run_of {tb : String → Option Builtin} {p : Program} {w : World} {n₀ : Nat} {ann : Option Value} : ∀ {n : Nat} {s s' : SharedT} {t : Thread},
    runT tb p w n₀ ann n s t = some s' → topRun tb p w n₀ ann n s.abs t = some s'.abs
  | 0, _, _, _, h => by cases h
  | n + 1, s, s', t, h => by
    unfold runT at h
    unfold topRun
    cases he : through t with
    | true => rw [he] at h; cases h; rfl
    | false =>
      rw [he] at h
      cases hk : stepOk n₀ ann t with
      | false => rw [hk] at h; cases h
      | true =>
        rw [hk] at h
        cases hs : stepT (denote tb) p w s t with
        | none => rw [hs] at h; cases h
        | some r => obtain ⟨s₂, t₂⟩ := r; rw [hs] at h; rw [stepT_spec hs]; exact run_of h
def looks (p q : Program) (loose : List Str) (Xt : Shared → Bool) {α : Type} (Yf : Shared → α) (g0 : Bool) (H : Heap) (s : Shared) :=
  (staticsOk (importedModules p.main.body) H s.heap && namesBound p s.heap && gensDone s && laidKept H s.heap, openSeen q loose (importedModules p.main.body) Xt g0 s, Yf s)
def looks1 (p q : Program) (loose : List Str) (Xt : Shared → Bool) (g0 : Bool) (H : Heap) (s : Shared) :=
  (staticsOk (importedModules p.main.body) H s.heap && namesBound p s.heap && gensDone s && laidKept H s.heap, openSeen q loose (importedModules p.main.body) Xt g0 s)
def treeOf : List Obj → Nat → BT → BT
  | [], _, t => t
  | o :: r, i, t => treeOf r (i + 1) (t.ins i o)
theorem left_of {p q : Program} {loose : List Str} {Xt : Shared → Bool} {α : Type} {Yf : Shared → α} {Ya : World → α} {N : Nat} {g0 : Bool} {H₀ : Params → Heap} {gs₀ : Array GenState} {d₀ : Drawn} {k₀ m₀ n₀ : Nat} {ann : Option Value} {T₀ : Params → BT} {life : Life}
    (opn : ∀ w : World, (fencedOpening treeTable p w N).map (fun s => (s.heap, s.gens, s.drawn, s.toks)) = some (H₀ w.params, gs₀, d₀, k₀))
    (size : ∀ w : World, ((H₀ w.params).isNs mainGlobals && gs₀.size == 0, (H₀ w.params).objs.size, (H₀ w.params).nsMap mainGlobals "__annotations__") = (true, m₀, ann))
    (tree : ∀ P : Params, absHeap (T₀ P) n₀ life = H₀ P)
    (look : ∀ (w : World) (os : OsState), (runT treeTable p w m₀ ann N ⟨T₀ w.params, n₀, life, gs₀, d₀, k₀, os⟩ (topStub p)).map (fun s => looks p q loose Xt Yf g0 (H₀ w.params) s.abs) = some (true, openGood q loose, Ya w)) :
    LeftO p q loose Xt Yf Ya N g0 := fun w => by
  obtain ⟨⟨h, gs, d, k, os⟩, e, e'⟩ := Option.map_eq_some_iff.mp (opn w)
  obtain ⟨rfl, rfl, rfl, rfl⟩ : h = H₀ w.params ∧ gs = gs₀ ∧ d = d₀ ∧ k = k₀ := by simpa using e'
  obtain ⟨z1, z2, z3⟩ : _ ∧ _ ∧ _ := by simpa only [Prod.mk.injEq] using size w
  obtain ⟨s, hs, hl⟩ := Option.map_eq_some_iff.mp (look w os)
  obtain ⟨l1, l23⟩ := Prod.mk.inj hl
  obtain ⟨l2, l3⟩ := Prod.mk.inj l23
  have r := run_of hs
  have t : topFrom treeTable p w N ⟨H₀ w.params, gs, d, k, os⟩ = some s.abs := by
    unfold topFrom
    dsimp only
    rw [z1, z2, z3]
    unfold SharedT.abs at r
    dsimp only at r
    rw [tree w.params] at r
    show (topRun treeTable p w m₀ ann N ⟨H₀ w.params, gs, d, k, os⟩ (topStub p)).bind _ = _
    rw [r]
    show (match staticsOk (importedModules p.main.body) (H₀ w.params) s.abs.heap && namesBound p s.abs.heap && gensDone s.abs && laidKept (H₀ w.params) s.abs.heap with | true => _ | false => _) = _
    rw [l1]
    rfl
  unfold openEnds
  rw [e]
  show (topFrom treeTable p w N _).map _ = _
  rw [t]
  exact congrArg some (Prod.ext l2 l3)
theorem left_of2 {p q : Program} {loose : List Str} {Xt : Shared → Bool} {α : Type} {Yf : Shared → α} {Ya : World → α} {N : Nat} {g0 : Bool} {H₀ : Params → Heap} {gs₀ : Array GenState} {d₀ : Drawn} {k₀ m₀ n₀ : Nat} {ann : Option Value} {T₀ : Params → BT} {life : Life}
    (opn : ∀ w : World, (fencedOpening treeTable p w N).map (fun s => (s.heap, s.gens, s.drawn, s.toks)) = some (H₀ w.params, gs₀, d₀, k₀))
    (size : ∀ w : World, ((H₀ w.params).isNs mainGlobals && gs₀.size == 0, (H₀ w.params).objs.size, (H₀ w.params).nsMap mainGlobals "__annotations__") = (true, m₀, ann))
    (tree : ∀ P : Params, absHeap (T₀ P) n₀ life = H₀ P)
    (look1 : ∀ (w : World) (os : OsState), (runT treeTable p w m₀ ann N ⟨T₀ w.params, n₀, life, gs₀, d₀, k₀, os⟩ (topStub p)).map (fun s => looks1 p q loose Xt g0 (H₀ w.params) s.abs) = some (true, openGood q loose))
    (look2 : ∀ (w : World) (os : OsState), (runT treeTable p w m₀ ann N ⟨T₀ w.params, n₀, life, gs₀, d₀, k₀, os⟩ (topStub p)).map (fun s => Yf s.abs) = some (Ya w)) :
    LeftO p q loose Xt Yf Ya N g0 := left_of opn size tree fun w os => by
  obtain ⟨s, hs, h1⟩ := Option.map_eq_some_iff.mp (look1 w os)
  have h2 := look2 w os
  rw [hs] at h2 ⊢
  exact congrArg some (Prod.ext (Prod.mk.inj h1).1 (Prod.ext (Prod.mk.inj h1).2 (Option.some.inj h2)))
end Hd

set_option Elab.async false
set_option linter.all false
set_option maxRecDepth 100000
namespace L2
open PySem PySem.Spec PyProof.Rows
def inClass (s : Stmt) (j : Nat) : Stmt := match s with
  | .ClassDef _ _ _ body _ _ _ _ _ _ _ => body.getD j (.Pass ⟨0, 0, 0, 0⟩)
  | _ => .Pass ⟨0, 0, 0, 0⟩
def defArgs (s : Stmt) : Arguments := match s with
  | .FunctionDef _ a _ _ _ _ _ _ _ _ => a
  | _ => { posonlyargs := [], args := [], vararg := none, kwonlyargs := [], kw_defaults := [], kwarg := none, defaults := [] }
def defBody (s : Stmt) : List Stmt := match s with
  | .FunctionDef _ _ b _ _ _ _ _ _ _ => b
  | _ => []
def defScope (s : Stmt) : Scope := match s with
  | .FunctionDef _ _ _ _ _ _ sc _ _ _ => sc
  | _ => { kind := .function, names := [], isGenerator := false, isCoroutine := false }

end L2
namespace K21
open PySem
def top (i : Nat) : Stmt := PySem.Challenge.pw_hushrow_k21_what_a_run_begins_with.main.body.getD i (.Pass ⟨0, 0, 0, 0⟩)
end K21

set_option Elab.async false
set_option linter.all false
set_option maxRecDepth 100000
set_option maxHeartbeats 0
namespace K21
open PySem L2 PySem.W
noncomputable abbrev E (P : Params) (x : Str) (t : Nat) (v : Value) : DictEntry := ⟨PyData.keyHash P x, .str x t, v⟩
noncomputable def heapK (P : Params) : W.Frag :=
 (nat_lit 2, ⟨.none, none, .dict #[] 0, #[]⟩) ::
 (nat_lit 3, ⟨(.type "dict"), none, .dict #[E P "__name__" 165 (.str "law_hushrow_k21_what_a_run_begins_with" 1141), E P "__doc__" 166 .none, E P "__package__" 167 .none, E P "__loader__" 168 (.builtin "__main__.__loader__#opaque"), E P "__spec__" 169 .none, E P "__annotations__" 170 (.ref 6), E P "__builtins__" 171 (.ref 4), E P "__file__" 173 (.str "/claim/cut.py" 172), E P "__cached__" 174 .none, E P "_wall" 193 (.ref 21), E P "HushError" 213 (.ref 31), E P "NoGift" 238 (.ref 51), E P "NotAlike" 263 (.ref 70), E P "Unknown" 288 (.ref 89), E P "Row" 333 (.ref 122), E P "HandRow" 368 (.ref 150), E P "GivenRow" 405 (.ref 176), E P "OwnRow" 440 (.ref 202), E P "LetRow" 475 (.ref 228), E P "SetRow" 524 (.ref 268), E P "PutRow" 575 (.ref 308), E P "SendRow" 617 (.ref 341), E P "SayRow" 668 (.ref 381), E P "CallRow" 710 (.ref 414), E P "LastRow" 733 (.ref 433), E P "IfRow" 781 (.ref 466), E P "LoopRow" 829 (.ref 499), E P "DeedRow" 866 (.ref 525), E P "Program" 899 (.ref 544), E P "MOST_NUMBER" 903 (.int (999999999999) 902), E P "is_number" 910 (.ref 555), E P "is_good" 916 (.ref 560), E P "given_cell" 925 (.ref 567), E P "own_cell" 932 (.ref 574), E P "cells_of" 944 (.ref 581), E P "Book" 978 (.ref 598), E P "ROUND" 982 (.int (1000000000000) 981), E P "reckon" 991 (.ref 609), E P "round_place" 999 (.ref 616), E P "Run" 1124 (.ref 701), E P "ends_of" 1130 (.ref 710), E P "run" 1140 (.ref 717), E P "_law_cell_at" 1150 (.ref 724), E P "_law_name" 1164 (.ref 731), E P "_law_number" 1171 (.ref 738), E P "_law_head" 1182 (.ref 745), E P "_law_deeds" 1196 (.ref 752), E P "_law_gift" 1207 (.ref 759), E P "_law_odd" 1219 (.ref 766), E P "_law_same" 1225 (.ref 771), E P "_law_refused" 1236 (.ref 778), E P "_law_twice" 1248 (.ref 785), E P "_law_dues" 1263 (.ref 792), E P "law" 1269 (.ref 797)] 54, #[]⟩) ::
 (nat_lit 15, ⟨(.type "tuple"), none, .seq #[] 0, #[]⟩) ::
 (nat_lit 17, ⟨(.type "tuple"), none, .seq #[(.str "k" 190)] 0, #[]⟩) ::
 (nat_lit 18, ⟨(.type "tuple"), none, .seq #[] 0, #[]⟩) ::
 (nat_lit 20, ⟨(.type "code"), none, .fields #[(.str "_wall" 187), (.str "_wall" 188), (.str "/claim/cut.py" 189), (.int (1) 0), (.int (1) 0), (.int (0) 0), (.int (0) 0), (.int (3) 0), (.ref 15), (.bool true), (.int (181) 0), (.ref 16), .none, (.ref 17), (.ref 18), (.ref 19), (.int (191) 0), (.int (1) 0), (.str "/claim/cut.py" 192)], #[]⟩) ::
 (nat_lit 21, ⟨(.type "function"), none, .func (W.fnOf "_wall" "_wall" (defArgs (top 0)) (defBody (top 0)) (defScope (top 0)) .none .none .none (.str "__main__" 164) none (.ref 20) .none), #[]⟩) ::
 (nat_lit 22, ⟨(.type "tuple"), none, .seq #[(.type "ValueError")] 0, #[]⟩) ::
 (nat_lit 29, ⟨(.type "tuple"), none, .seq #[] 0, #[]⟩) ::
 (nat_lit 30, ⟨(.type "dict"), none, .dict #[E P "__module__" 203 (.str "hushrow.errors" 194), E P "__firstlineno__" 207 (.int (5) 206), E P "__static_attributes__" 208 (.ref 29), E P "__weakref__" 210 (.ref 32), E P "__doc__" 211 .none] 3, #[]⟩) ::
 (nat_lit 31, ⟨(.type "type"), none, .cls { name := "HushError", bases := [(.type "ValueError")], mro := [(.ref 31), (.type "ValueError"), (.type "Exception"), (.type "BaseException"), (.type "object")], ns := 30, qualname := "HushError", hasDict := true, slotNames := [], subclasses := [(.ref 51), (.ref 70), (.ref 89)], abstract := false, collection := none, hasDel := false }, #[(some (.ref 22)), none, (some (.str "HushError" 196)), (some (.str "HushError" 204)), (some (.builtin "ValueError.__new__")), (some (.bool true))]⟩) ::
 (nat_lit 32, ⟨(.type "getset_descriptor"), none, .fields #[(.str "__weakref__" 209), (.ref 31), (.builtin "ExceptionGroup.__weakref__"), .none], #[]⟩) ::
 (nat_lit 35, ⟨(.type "tuple"), none, .seq #[(.ref 31)] 0, #[]⟩) ::
 (nat_lit 42, ⟨(.type "tuple"), none, .seq #[] 0, #[]⟩) ::
 (nat_lit 44, ⟨(.type "tuple"), none, .seq #[(.str "self" 229), (.str "name" 230)] 0, #[]⟩) ::
 (nat_lit 45, ⟨(.type "tuple"), none, .seq #[] 0, #[]⟩) ::
 (nat_lit 47, ⟨(.type "code"), none, .fields #[(.str "__init__" 226), (.str "NoGift.__init__" 227), (.str "/claim/cut.py" 228), (.int (9) 0), (.int (2) 0), (.int (0) 0), (.int (0) 0), (.int (3) 0), (.ref 42), (.bool true), (.int (181) 0), (.ref 43), .none, (.ref 44), (.ref 45), (.ref 46), (.int (231) 0), (.int (9) 0), (.str "/claim/cut.py" 232)], #[]⟩) ::
 (nat_lit 48, ⟨(.type "function"), none, .func (W.fnOf "__init__" "NoGift.__init__" (defArgs (inClass (top 3) 0)) (defBody (inClass (top 3) 0)) (defScope (inClass (top 3) 0)) .none .none .none (.str "hushrow.errors" 194) none (.ref 47) .none), #[]⟩) ::
 (nat_lit 49, ⟨(.type "tuple"), none, .seq #[(.str "name" 234)] 0, #[]⟩) ::
 (nat_lit 50, ⟨(.type "dict"), none, .dict #[E P "__module__" 221 (.str "hushrow.errors" 194), E P "__firstlineno__" 225 (.int (7) 224), E P "__init__" 233 (.ref 48), E P "__static_attributes__" 235 (.ref 49), E P "__doc__" 236 .none] 2, #[]⟩) ::
 (nat_lit 51, ⟨(.type "type"), none, .cls { name := "NoGift", bases := [(.ref 31)], mro := [(.ref 51), (.ref 31), (.type "ValueError"), (.type "Exception"), (.type "BaseException"), (.type "object")], ns := 50, qualname := "NoGift", hasDict := true, slotNames := [], subclasses := [], abstract := false, collection := none, hasDel := false }, #[(some (.ref 35)), none, (some (.str "NoGift" 214)), (some (.str "NoGift" 222)), (some (.builtin "ValueError.__new__")), (some (.bool true))]⟩) ::
 (nat_lit 54, ⟨(.type "tuple"), none, .seq #[(.ref 31)] 0, #[]⟩) ::
 (nat_lit 61, ⟨(.type "tuple"), none, .seq #[] 0, #[]⟩) ::
 (nat_lit 63, ⟨(.type "tuple"), none, .seq #[(.str "self" 254), (.str "name" 255)] 0, #[]⟩) ::
 (nat_lit 64, ⟨(.type "tuple"), none, .seq #[] 0, #[]⟩) ::
 (nat_lit 66, ⟨(.type "code"), none, .fields #[(.str "__init__" 251), (.str "NotAlike.__init__" 252), (.str "/claim/cut.py" 253), (.int (13) 0), (.int (2) 0), (.int (0) 0), (.int (0) 0), (.int (3) 0), (.ref 61), (.bool true), (.int (181) 0), (.ref 62), .none, (.ref 63), (.ref 64), (.ref 65), (.int (256) 0), (.int (13) 0), (.str "/claim/cut.py" 257)], #[]⟩) ::
 (nat_lit 67, ⟨(.type "function"), none, .func (W.fnOf "__init__" "NotAlike.__init__" (defArgs (inClass (top 4) 0)) (defBody (inClass (top 4) 0)) (defScope (inClass (top 4) 0)) .none .none .none (.str "hushrow.errors" 194) none (.ref 66) .none), #[]⟩) ::
 (nat_lit 68, ⟨(.type "tuple"), none, .seq #[(.str "name" 259)] 0, #[]⟩) ::
 (nat_lit 69, ⟨(.type "dict"), none, .dict #[E P "__module__" 246 (.str "hushrow.errors" 194), E P "__firstlineno__" 250 (.int (11) 249), E P "__init__" 258 (.ref 67), E P "__static_attributes__" 260 (.ref 68), E P "__doc__" 261 .none] 2, #[]⟩) ::
 (nat_lit 70, ⟨(.type "type"), none, .cls { name := "NotAlike", bases := [(.ref 31)], mro := [(.ref 70), (.ref 31), (.type "ValueError"), (.type "Exception"), (.type "BaseException"), (.type "object")], ns := 69, qualname := "NotAlike", hasDict := true, slotNames := [], subclasses := [], abstract := false, collection := none, hasDel := false }, #[(some (.ref 54)), none, (some (.str "NotAlike" 239)), (some (.str "NotAlike" 247)), (some (.builtin "ValueError.__new__")), (some (.bool true))]⟩) ::
 (nat_lit 73, ⟨(.type "tuple"), none, .seq #[(.ref 31)] 0, #[]⟩) ::
 (nat_lit 80, ⟨(.type "tuple"), none, .seq #[] 0, #[]⟩) ::
 (nat_lit 82, ⟨(.type "tuple"), none, .seq #[(.str "self" 279), (.str "name" 280)] 0, #[]⟩) ::
 (nat_lit 83, ⟨(.type "tuple"), none, .seq #[] 0, #[]⟩) ::
 (nat_lit 85, ⟨(.type "code"), none, .fields #[(.str "__init__" 276), (.str "Unknown.__init__" 277), (.str "/claim/cut.py" 278), (.int (17) 0), (.int (2) 0), (.int (0) 0), (.int (0) 0), (.int (3) 0), (.ref 80), (.bool true), (.int (181) 0), (.ref 81), .none, (.ref 82), (.ref 83), (.ref 84), (.int (281) 0), (.int (17) 0), (.str "/claim/cut.py" 282)], #[]⟩) ::
 (nat_lit 86, ⟨(.type "function"), none, .func (W.fnOf "__init__" "Unknown.__init__" (defArgs (inClass (top 5) 0)) (defBody (inClass (top 5) 0)) (defScope (inClass (top 5) 0)) .none .none .none (.str "hushrow.errors" 194) none (.ref 85) .none), #[]⟩) ::
 (nat_lit 87, ⟨(.type "tuple"), none, .seq #[(.str "name" 284)] 0, #[]⟩) ::
 (nat_lit 88, ⟨(.type "dict"), none, .dict #[E P "__module__" 271 (.str "hushrow.errors" 194), E P "__firstlineno__" 275 (.int (15) 274), E P "__init__" 283 (.ref 86), E P "__static_attributes__" 285 (.ref 87), E P "__doc__" 286 .none] 2, #[]⟩) ::
 (nat_lit 89, ⟨(.type "type"), none, .cls { name := "Unknown", bases := [(.ref 31)], mro := [(.ref 89), (.ref 31), (.type "ValueError"), (.type "Exception"), (.type "BaseException"), (.type "object")], ns := 88, qualname := "Unknown", hasDict := true, slotNames := [], subclasses := [], abstract := false, collection := none, hasDel := false }, #[(some (.ref 73)), none, (some (.str "Unknown" 264)), (some (.str "Unknown" 272)), (some (.builtin "ValueError.__new__")), (some (.bool true))]⟩) ::
 (nat_lit 99, ⟨(.type "tuple"), none, .seq #[] 0, #[]⟩) ::
 (nat_lit 101, ⟨(.type "tuple"), none, .seq #[(.str "self" 306), (.str "number" 307)] 0, #[]⟩) ::
 (nat_lit 102, ⟨(.type "tuple"), none, .seq #[] 0, #[]⟩) ::
 (nat_lit 104, ⟨(.type "code"), none, .fields #[(.str "__init__" 303), (.str "Row.__init__" 304), (.str "/claim/cut.py" 305), (.int (22) 0), (.int (2) 0), (.int (0) 0), (.int (0) 0), (.int (3) 0), (.ref 99), (.bool true), (.int (181) 0), (.ref 100), .none, (.ref 101), (.ref 102), (.ref 103), (.int (308) 0), (.int (22) 0), (.str "/claim/cut.py" 309)], #[]⟩) ::
 (nat_lit 105, ⟨(.type "function"), none, .func (W.fnOf "__init__" "Row.__init__" (defArgs (inClass (top 7) 0)) (defBody (inClass (top 7) 0)) (defScope (inClass (top 7) 0)) .none .none .none (.str "hushrow.rows" 289) none (.ref 104) .none), #[]⟩) ::
 (nat_lit 106, ⟨(.type "tuple"), none, .seq #[] 0, #[]⟩) ::
 (nat_lit 108, ⟨(.type "tuple"), none, .seq #[(.str "self" 314)] 0, #[]⟩) ::
 (nat_lit 109, ⟨(.type "tuple"), none, .seq #[] 0, #[]⟩) ::
 (nat_lit 111, ⟨(.type "code"), none, .fields #[(.str "reads" 311), (.str "Row.reads" 312), (.str "/claim/cut.py" 313), (.int (25) 0), (.int (1) 0), (.int (0) 0), (.int (0) 0), (.int (3) 0), (.ref 106), (.bool true), (.int (181) 0), (.ref 107), .none, (.ref 108), (.ref 109), (.ref 110), (.int (315) 0), (.int (25) 0), (.str "/claim/cut.py" 316)], #[]⟩) ::
 (nat_lit 112, ⟨(.type "function"), none, .func (W.fnOf "reads" "Row.reads" (defArgs (inClass (top 7) 1)) (defBody (inClass (top 7) 1)) (defScope (inClass (top 7) 1)) .none .none .none (.str "hushrow.rows" 289) none (.ref 111) .none), #[]⟩) ::
 (nat_lit 113, ⟨(.type "tuple"), none, .seq #[] 0, #[]⟩) ::
 (nat_lit 115, ⟨(.type "tuple"), none, .seq #[(.str "self" 321)] 0, #[]⟩) ::
 (nat_lit 116, ⟨(.type "tuple"), none, .seq #[] 0, #[]⟩) ::
 (nat_lit 118, ⟨(.type "code"), none, .fields #[(.str "target" 318), (.str "Row.target" 319), (.str "/claim/cut.py" 320), (.int (28) 0), (.int (1) 0), (.int (0) 0), (.int (0) 0), (.int (3) 0), (.ref 113), (.bool true), (.int (181) 0), (.ref 114), .none, (.ref 115), (.ref 116), (.ref 117), (.int (322) 0), (.int (28) 0), (.str "/claim/cut.py" 323)], #[]⟩) ::
 (nat_lit 119, ⟨(.type "function"), none, .func (W.fnOf "target" "Row.target" (defArgs (inClass (top 7) 2)) (defBody (inClass (top 7) 2)) (defScope (inClass (top 7) 2)) .none .none .none (.str "hushrow.rows" 289) none (.ref 118) .none), #[]⟩) ::
 (nat_lit 120, ⟨(.type "tuple"), none, .seq #[(.str "number" 325)] 0, #[]⟩) ::
 (nat_lit 121, ⟨(.type "dict"), none, .dict #[E P "__module__" 298 (.str "hushrow.rows" 289), E P "__firstlineno__" 302 (.int (20) 301), E P "__init__" 310 (.ref 105), E P "reads" 317 (.ref 112), E P "target" 324 (.ref 119), E P "__static_attributes__" 326 (.ref 120), E P "__dict__" 328 (.ref 123), E P "__weakref__" 330 (.ref 124), E P "__doc__" 331 .none] 4, #[]⟩) ::
 (nat_lit 122, ⟨(.type "type"), none, .cls { name := "Row", bases := [(.type "object")], mro := [(.ref 122), (.type "object")], ns := 121, qualname := "Row", hasDict := true, slotNames := [], subclasses := [(.ref 150), (.ref 176), (.ref 202), (.ref 228), (.ref 268), (.ref 308), (.ref 341), (.ref 381), (.ref 414), (.ref 433), (.ref 466), (.ref 499), (.ref 525)], abstract := false, collection := none, hasDel := false }, #[none, none, (some (.str "Row" 291)), (some (.str "Row" 299)), (some (.builtin "object.__new__")), (some (.bool true))]⟩) ::
 (nat_lit 123, ⟨(.type "getset_descriptor"), none, .fields #[(.str "__dict__" 327), (.ref 122), (.builtin "function.__dict__"), (.builtin "function.__dict__#set")], #[]⟩) ::
 (nat_lit 124, ⟨(.type "getset_descriptor"), none, .fields #[(.str "__weakref__" 329), (.ref 122), (.builtin "ExceptionGroup.__weakref__"), .none], #[]⟩) ::
 (nat_lit 127, ⟨(.type "tuple"), none, .seq #[(.ref 122)] 0, #[]⟩) ::
 (nat_lit 134, ⟨(.type "tuple"), none, .seq #[] 0, #[]⟩) ::
 (nat_lit 136, ⟨(.type "tuple"), none, .seq #[(.str "self" 349), (.str "number" 350), (.str "name" 351), (.str "rank" 352)] 0, #[]⟩) ::
 (nat_lit 137, ⟨(.type "tuple"), none, .seq #[] 0, #[]⟩) ::
 (nat_lit 139, ⟨(.type "code"), none, .fields #[(.str "__init__" 346), (.str "HandRow.__init__" 347), (.str "/claim/cut.py" 348), (.int (32) 0), (.int (4) 0), (.int (0) 0), (.int (0) 0), (.int (3) 0), (.ref 134), (.bool true), (.int (181) 0), (.ref 135), .none, (.ref 136), (.ref 137), (.ref 138), (.int (353) 0), (.int (32) 0), (.str "/claim/cut.py" 354)], #[]⟩) ::
 (nat_lit 140, ⟨(.type "function"), none, .func (W.fnOf "__init__" "HandRow.__init__" (defArgs (inClass (top 8) 0)) (defBody (inClass (top 8) 0)) (defScope (inClass (top 8) 0)) .none .none .none (.str "hushrow.rows" 289) none (.ref 139) .none), #[]⟩) ::
 (nat_lit 141, ⟨(.type "tuple"), none, .seq #[] 0, #[]⟩) ::
 (nat_lit 143, ⟨(.type "tuple"), none, .seq #[(.str "self" 359)] 0, #[]⟩) ::
 (nat_lit 144, ⟨(.type "tuple"), none, .seq #[] 0, #[]⟩) ::
 (nat_lit 146, ⟨(.type "code"), none, .fields #[(.str "shown" 356), (.str "HandRow.shown" 357), (.str "/claim/cut.py" 358), (.int (37) 0), (.int (1) 0), (.int (0) 0), (.int (0) 0), (.int (3) 0), (.ref 141), (.bool true), (.int (181) 0), (.ref 142), .none, (.ref 143), (.ref 144), (.ref 145), (.int (360) 0), (.int (37) 0), (.str "/claim/cut.py" 361)], #[]⟩) ::
 (nat_lit 147, ⟨(.type "function"), none, .func (W.fnOf "shown" "HandRow.shown" (defArgs (inClass (top 8) 1)) (defBody (inClass (top 8) 1)) (defScope (inClass (top 8) 1)) .none .none .none (.str "hushrow.rows" 289) none (.ref 146) .none), #[]⟩) ::
 (nat_lit 148, ⟨(.type "tuple"), none, .seq #[(.str "name" 363), (.str "rank" 364)] 0, #[]⟩) ::
 (nat_lit 149, ⟨(.type "dict"), none, .dict #[E P "__module__" 341 (.str "hushrow.rows" 289), E P "__firstlineno__" 345 (.int (30) 344), E P "__init__" 355 (.ref 140), E P "shown" 362 (.ref 147), E P "__static_attributes__" 365 (.ref 148), E P "__doc__" 366 .none] 2, #[]⟩) ::
 (nat_lit 150, ⟨(.type "type"), none, .cls { name := "HandRow", bases := [(.ref 122)], mro := [(.ref 150), (.ref 122), (.type "object")], ns := 149, qualname := "HandRow", hasDict := true, slotNames := [], subclasses := [], abstract := false, collection := none, hasDel := false }, #[(some (.ref 127)), none, (some (.str "HandRow" 334)), (some (.str "HandRow" 342)), (some (.builtin "object.__new__")), (some (.bool true))]⟩) ::
 (nat_lit 153, ⟨(.type "tuple"), none, .seq #[(.ref 122)] 0, #[]⟩) ::
 (nat_lit 160, ⟨(.type "tuple"), none, .seq #[] 0, #[]⟩) ::
 (nat_lit 162, ⟨(.type "tuple"), none, .seq #[(.str "self" 384), (.str "number" 385), (.str "name" 386), (.str "rank" 387), (.str "size" 388)] 0, #[]⟩) ::
 (nat_lit 163, ⟨(.type "tuple"), none, .seq #[] 0, #[]⟩) ::
 (nat_lit 165, ⟨(.type "code"), none, .fields #[(.str "__init__" 381), (.str "GivenRow.__init__" 382), (.str "/claim/cut.py" 383), (.int (41) 0), (.int (5) 0), (.int (0) 0), (.int (0) 0), (.int (3) 0), (.ref 160), (.bool true), (.int (181) 0), (.ref 161), .none, (.ref 162), (.ref 163), (.ref 164), (.int (389) 0), (.int (41) 0), (.str "/claim/cut.py" 390)], #[]⟩) ::
 (nat_lit 166, ⟨(.type "function"), none, .func (W.fnOf "__init__" "GivenRow.__init__" (defArgs (inClass (top 9) 0)) (defBody (inClass (top 9) 0)) (defScope (inClass (top 9) 0)) .none .none .none (.str "hushrow.rows" 289) none (.ref 165) .none), #[]⟩) ::
 (nat_lit 167, ⟨(.type "tuple"), none, .seq #[] 0, #[]⟩) ::
 (nat_lit 169, ⟨(.type "tuple"), none, .seq #[(.str "self" 395)] 0, #[]⟩) ::
 (nat_lit 170, ⟨(.type "tuple"), none, .seq #[] 0, #[]⟩) ::
 (nat_lit 172, ⟨(.type "code"), none, .fields #[(.str "shown" 392), (.str "GivenRow.shown" 393), (.str "/claim/cut.py" 394), (.int (47) 0), (.int (1) 0), (.int (0) 0), (.int (0) 0), (.int (3) 0), (.ref 167), (.bool true), (.int (181) 0), (.ref 168), .none, (.ref 169), (.ref 170), (.ref 171), (.int (396) 0), (.int (47) 0), (.str "/claim/cut.py" 397)], #[]⟩) ::
 (nat_lit 173, ⟨(.type "function"), none, .func (W.fnOf "shown" "GivenRow.shown" (defArgs (inClass (top 9) 1)) (defBody (inClass (top 9) 1)) (defScope (inClass (top 9) 1)) .none .none .none (.str "hushrow.rows" 289) none (.ref 172) .none), #[]⟩) ::
 (nat_lit 174, ⟨(.type "tuple"), none, .seq #[(.str "name" 399), (.str "rank" 400), (.str "size" 401)] 0, #[]⟩) ::
 (nat_lit 175, ⟨(.type "dict"), none, .dict #[E P "__module__" 376 (.str "hushrow.rows" 289), E P "__firstlineno__" 380 (.int (39) 379), E P "__init__" 391 (.ref 166), E P "shown" 398 (.ref 173), E P "__static_attributes__" 402 (.ref 174), E P "__doc__" 403 .none] 2, #[]⟩) ::
 (nat_lit 176, ⟨(.type "type"), none, .cls { name := "GivenRow", bases := [(.ref 122)], mro := [(.ref 176), (.ref 122), (.type "object")], ns := 175, qualname := "GivenRow", hasDict := true, slotNames := [], subclasses := [], abstract := false, collection := none, hasDel := false }, #[(some (.ref 153)), none, (some (.str "GivenRow" 369)), (some (.str "GivenRow" 377)), (some (.builtin "object.__new__")), (some (.bool true))]⟩) ::
 (nat_lit 179, ⟨(.type "tuple"), none, .seq #[(.ref 122)] 0, #[]⟩) ::
 (nat_lit 186, ⟨(.type "tuple"), none, .seq #[] 0, #[]⟩) ::
 (nat_lit 188, ⟨(.type "tuple"), none, .seq #[(.str "self" 421), (.str "number" 422), (.str "name" 423), (.str "size" 424)] 0, #[]⟩) ::
 (nat_lit 189, ⟨(.type "tuple"), none, .seq #[] 0, #[]⟩) ::
 (nat_lit 191, ⟨(.type "code"), none, .fields #[(.str "__init__" 418), (.str "OwnRow.__init__" 419), (.str "/claim/cut.py" 420), (.int (51) 0), (.int (4) 0), (.int (0) 0), (.int (0) 0), (.int (3) 0), (.ref 186), (.bool true), (.int (181) 0), (.ref 187), .none, (.ref 188), (.ref 189), (.ref 190), (.int (425) 0), (.int (51) 0), (.str "/claim/cut.py" 426)], #[]⟩) ::
 (nat_lit 192, ⟨(.type "function"), none, .func (W.fnOf "__init__" "OwnRow.__init__" (defArgs (inClass (top 10) 0)) (defBody (inClass (top 10) 0)) (defScope (inClass (top 10) 0)) .none .none .none (.str "hushrow.rows" 289) none (.ref 191) .none), #[]⟩) ::
 (nat_lit 193, ⟨(.type "tuple"), none, .seq #[] 0, #[]⟩) ::
 (nat_lit 195, ⟨(.type "tuple"), none, .seq #[(.str "self" 431)] 0, #[]⟩) ::
 (nat_lit 196, ⟨(.type "tuple"), none, .seq #[] 0, #[]⟩) ::
 (nat_lit 198, ⟨(.type "code"), none, .fields #[(.str "shown" 428), (.str "OwnRow.shown" 429), (.str "/claim/cut.py" 430), (.int (56) 0), (.int (1) 0), (.int (0) 0), (.int (0) 0), (.int (3) 0), (.ref 193), (.bool true), (.int (181) 0), (.ref 194), .none, (.ref 195), (.ref 196), (.ref 197), (.int (432) 0), (.int (56) 0), (.str "/claim/cut.py" 433)], #[]⟩) ::
 (nat_lit 199, ⟨(.type "function"), none, .func (W.fnOf "shown" "OwnRow.shown" (defArgs (inClass (top 10) 1)) (defBody (inClass (top 10) 1)) (defScope (inClass (top 10) 1)) .none .none .none (.str "hushrow.rows" 289) none (.ref 198) .none), #[]⟩) ::
 (nat_lit 200, ⟨(.type "tuple"), none, .seq #[(.str "name" 435), (.str "size" 436)] 0, #[]⟩) ::
 (nat_lit 201, ⟨(.type "dict"), none, .dict #[E P "__module__" 413 (.str "hushrow.rows" 289), E P "__firstlineno__" 417 (.int (49) 416), E P "__init__" 427 (.ref 192), E P "shown" 434 (.ref 199), E P "__static_attributes__" 437 (.ref 200), E P "__doc__" 438 .none] 2, #[]⟩) ::
 (nat_lit 202, ⟨(.type "type"), none, .cls { name := "OwnRow", bases := [(.ref 122)], mro := [(.ref 202), (.ref 122), (.type "object")], ns := 201, qualname := "OwnRow", hasDict := true, slotNames := [], subclasses := [], abstract := false, collection := none, hasDel := false }, #[(some (.ref 179)), none, (some (.str "OwnRow" 406)), (some (.str "OwnRow" 414)), (some (.builtin "object.__new__")), (some (.bool true))]⟩) ::
 (nat_lit 205, ⟨(.type "tuple"), none, .seq #[(.ref 122)] 0, #[]⟩) ::
 (nat_lit 212, ⟨(.type "tuple"), none, .seq #[] 0, #[]⟩) ::
 (nat_lit 214, ⟨(.type "tuple"), none, .seq #[(.str "self" 456), (.str "number" 457), (.str "name" 458), (.str "rank" 459)] 0, #[]⟩) ::
 (nat_lit 215, ⟨(.type "tuple"), none, .seq #[] 0, #[]⟩) ::
 (nat_lit 217, ⟨(.type "code"), none, .fields #[(.str "__init__" 453), (.str "LetRow.__init__" 454), (.str "/claim/cut.py" 455), (.int (60) 0), (.int (4) 0), (.int (0) 0), (.int (0) 0), (.int (3) 0), (.ref 212), (.bool true), (.int (181) 0), (.ref 213), .none, (.ref 214), (.ref 215), (.ref 216), (.int (460) 0), (.int (60) 0), (.str "/claim/cut.py" 461)], #[]⟩) ::
 (nat_lit 218, ⟨(.type "function"), none, .func (W.fnOf "__init__" "LetRow.__init__" (defArgs (inClass (top 11) 0)) (defBody (inClass (top 11) 0)) (defScope (inClass (top 11) 0)) .none .none .none (.str "hushrow.rows" 289) none (.ref 217) .none), #[]⟩) ::
 (nat_lit 219, ⟨(.type "tuple"), none, .seq #[] 0, #[]⟩) ::
 (nat_lit 221, ⟨(.type "tuple"), none, .seq #[(.str "self" 466)] 0, #[]⟩) ::
 (nat_lit 222, ⟨(.type "tuple"), none, .seq #[] 0, #[]⟩) ::
 (nat_lit 224, ⟨(.type "code"), none, .fields #[(.str "shown" 463), (.str "LetRow.shown" 464), (.str "/claim/cut.py" 465), (.int (65) 0), (.int (1) 0), (.int (0) 0), (.int (0) 0), (.int (3) 0), (.ref 219), (.bool true), (.int (181) 0), (.ref 220), .none, (.ref 221), (.ref 222), (.ref 223), (.int (467) 0), (.int (65) 0), (.str "/claim/cut.py" 468)], #[]⟩) ::
 (nat_lit 225, ⟨(.type "function"), none, .func (W.fnOf "shown" "LetRow.shown" (defArgs (inClass (top 11) 1)) (defBody (inClass (top 11) 1)) (defScope (inClass (top 11) 1)) .none .none .none (.str "hushrow.rows" 289) none (.ref 224) .none), #[]⟩) ::
 (nat_lit 226, ⟨(.type "tuple"), none, .seq #[(.str "name" 470), (.str "rank" 471)] 0, #[]⟩) ::
 (nat_lit 227, ⟨(.type "dict"), none, .dict #[E P "__module__" 448 (.str "hushrow.rows" 289), E P "__firstlineno__" 452 (.int (58) 451), E P "__init__" 462 (.ref 218), E P "shown" 469 (.ref 225), E P "__static_attributes__" 472 (.ref 226), E P "__doc__" 473 .none] 2, #[]⟩) ::
 (nat_lit 228, ⟨(.type "type"), none, .cls { name := "LetRow", bases := [(.ref 122)], mro := [(.ref 228), (.ref 122), (.type "object")], ns := 227, qualname := "LetRow", hasDict := true, slotNames := [], subclasses := [], abstract := false, collection := none, hasDel := false }, #[(some (.ref 205)), none, (some (.str "LetRow" 441)), (some (.str "LetRow" 449)), (some (.builtin "object.__new__")), (some (.bool true))]⟩) ::
 (nat_lit 231, ⟨(.type "tuple"), none, .seq #[(.ref 122)] 0, #[]⟩) ::
 (nat_lit 238, ⟨(.type "tuple"), none, .seq #[] 0, #[]⟩) ::
 (nat_lit 240, ⟨(.type "tuple"), none, .seq #[(.str "self" 491), (.str "number" 492), (.str "name" 493), (.str "value" 494)] 0, #[]⟩) ::
 (nat_lit 241, ⟨(.type "tuple"), none, .seq #[] 0, #[]⟩) ::
 (nat_lit 243, ⟨(.type "code"), none, .fields #[(.str "__init__" 488), (.str "SetRow.__init__" 489), (.str "/claim/cut.py" 490), (.int (69) 0), (.int (4) 0), (.int (0) 0), (.int (0) 0), (.int (3) 0), (.ref 238), (.bool true), (.int (181) 0), (.ref 239), .none, (.ref 240), (.ref 241), (.ref 242), (.int (495) 0), (.int (69) 0), (.str "/claim/cut.py" 496)], #[]⟩) ::
 (nat_lit 244, ⟨(.type "function"), none, .func (W.fnOf "__init__" "SetRow.__init__" (defArgs (inClass (top 12) 0)) (defBody (inClass (top 12) 0)) (defScope (inClass (top 12) 0)) .none .none .none (.str "hushrow.rows" 289) none (.ref 243) .none), #[]⟩) ::
 (nat_lit 245, ⟨(.type "tuple"), none, .seq #[] 0, #[]⟩) ::
 (nat_lit 247, ⟨(.type "tuple"), none, .seq #[(.str "self" 501)] 0, #[]⟩) ::
 (nat_lit 248, ⟨(.type "tuple"), none, .seq #[] 0, #[]⟩) ::
 (nat_lit 250, ⟨(.type "code"), none, .fields #[(.str "shown" 498), (.str "SetRow.shown" 499), (.str "/claim/cut.py" 500), (.int (74) 0), (.int (1) 0), (.int (0) 0), (.int (0) 0), (.int (3) 0), (.ref 245), (.bool true), (.int (181) 0), (.ref 246), .none, (.ref 247), (.ref 248), (.ref 249), (.int (502) 0), (.int (74) 0), (.str "/claim/cut.py" 503)], #[]⟩) ::
 (nat_lit 251, ⟨(.type "function"), none, .func (W.fnOf "shown" "SetRow.shown" (defArgs (inClass (top 12) 1)) (defBody (inClass (top 12) 1)) (defScope (inClass (top 12) 1)) .none .none .none (.str "hushrow.rows" 289) none (.ref 250) .none), #[]⟩) ::
 (nat_lit 252, ⟨(.type "tuple"), none, .seq #[] 0, #[]⟩) ::
 (nat_lit 254, ⟨(.type "tuple"), none, .seq #[(.str "self" 508)] 0, #[]⟩) ::
 (nat_lit 255, ⟨(.type "tuple"), none, .seq #[] 0, #[]⟩) ::
 (nat_lit 257, ⟨(.type "code"), none, .fields #[(.str "reads" 505), (.str "SetRow.reads" 506), (.str "/claim/cut.py" 507), (.int (77) 0), (.int (1) 0), (.int (0) 0), (.int (0) 0), (.int (3) 0), (.ref 252), (.bool true), (.int (181) 0), (.ref 253), .none, (.ref 254), (.ref 255), (.ref 256), (.int (509) 0), (.int (77) 0), (.str "/claim/cut.py" 510)], #[]⟩) ::
 (nat_lit 258, ⟨(.type "function"), none, .func (W.fnOf "reads" "SetRow.reads" (defArgs (inClass (top 12) 2)) (defBody (inClass (top 12) 2)) (defScope (inClass (top 12) 2)) .none .none .none (.str "hushrow.rows" 289) none (.ref 257) .none), #[]⟩) ::
 (nat_lit 259, ⟨(.type "tuple"), none, .seq #[] 0, #[]⟩) ::
 (nat_lit 261, ⟨(.type "tuple"), none, .seq #[(.str "self" 515)] 0, #[]⟩) ::
 (nat_lit 262, ⟨(.type "tuple"), none, .seq #[] 0, #[]⟩) ::
 (nat_lit 264, ⟨(.type "code"), none, .fields #[(.str "target" 512), (.str "SetRow.target" 513), (.str "/claim/cut.py" 514), (.int (80) 0), (.int (1) 0), (.int (0) 0), (.int (0) 0), (.int (3) 0), (.ref 259), (.bool true), (.int (181) 0), (.ref 260), .none, (.ref 261), (.ref 262), (.ref 263), (.int (516) 0), (.int (80) 0), (.str "/claim/cut.py" 517)], #[]⟩) ::
 (nat_lit 265, ⟨(.type "function"), none, .func (W.fnOf "target" "SetRow.target" (defArgs (inClass (top 12) 3)) (defBody (inClass (top 12) 3)) (defScope (inClass (top 12) 3)) .none .none .none (.str "hushrow.rows" 289) none (.ref 264) .none), #[]⟩) ::
 (nat_lit 266, ⟨(.type "tuple"), none, .seq #[(.str "name" 519), (.str "value" 520)] 0, #[]⟩) ::
 (nat_lit 267, ⟨(.type "dict"), none, .dict #[E P "__module__" 483 (.str "hushrow.rows" 289), E P "__firstlineno__" 487 (.int (67) 486), E P "__init__" 497 (.ref 244), E P "shown" 504 (.ref 251), E P "reads" 511 (.ref 258), E P "target" 518 (.ref 265), E P "__static_attributes__" 521 (.ref 266), E P "__doc__" 522 .none] 2, #[]⟩) ::
 (nat_lit 268, ⟨(.type "type"), none, .cls { name := "SetRow", bases := [(.ref 122)], mro := [(.ref 268), (.ref 122), (.type "object")], ns := 267, qualname := "SetRow", hasDict := true, slotNames := [], subclasses := [], abstract := false, collection := none, hasDel := false }, #[(some (.ref 231)), none, (some (.str "SetRow" 476)), (some (.str "SetRow" 484)), (some (.builtin "object.__new__")), (some (.bool true))]⟩) ::
 (nat_lit 271, ⟨(.type "tuple"), none, .seq #[(.ref 122)] 0, #[]⟩) ::
 (nat_lit 278, ⟨(.type "tuple"), none, .seq #[] 0, #[]⟩) ::
 (nat_lit 280, ⟨(.type "tuple"), none, .seq #[(.str "self" 540), (.str "number" 541), (.str "name" 542), (.str "place" 543), (.str "value" 544)] 0, #[]⟩) ::
 (nat_lit 281, ⟨(.type "tuple"), none, .seq #[] 0, #[]⟩) ::
 (nat_lit 283, ⟨(.type "code"), none, .fields #[(.str "__init__" 537), (.str "PutRow.__init__" 538), (.str "/claim/cut.py" 539), (.int (84) 0), (.int (5) 0), (.int (0) 0), (.int (0) 0), (.int (3) 0), (.ref 278), (.bool true), (.int (181) 0), (.ref 279), .none, (.ref 280), (.ref 281), (.ref 282), (.int (545) 0), (.int (84) 0), (.str "/claim/cut.py" 546)], #[]⟩) ::
 (nat_lit 284, ⟨(.type "function"), none, .func (W.fnOf "__init__" "PutRow.__init__" (defArgs (inClass (top 13) 0)) (defBody (inClass (top 13) 0)) (defScope (inClass (top 13) 0)) .none .none .none (.str "hushrow.rows" 289) none (.ref 283) .none), #[]⟩) ::
 (nat_lit 285, ⟨(.type "tuple"), none, .seq #[] 0, #[]⟩) ::
 (nat_lit 287, ⟨(.type "tuple"), none, .seq #[(.str "self" 551)] 0, #[]⟩) ::
 (nat_lit 288, ⟨(.type "tuple"), none, .seq #[] 0, #[]⟩) ::
 (nat_lit 290, ⟨(.type "code"), none, .fields #[(.str "shown" 548), (.str "PutRow.shown" 549), (.str "/claim/cut.py" 550), (.int (90) 0), (.int (1) 0), (.int (0) 0), (.int (0) 0), (.int (3) 0), (.ref 285), (.bool true), (.int (181) 0), (.ref 286), .none, (.ref 287), (.ref 288), (.ref 289), (.int (552) 0), (.int (90) 0), (.str "/claim/cut.py" 553)], #[]⟩) ::
 (nat_lit 291, ⟨(.type "function"), none, .func (W.fnOf "shown" "PutRow.shown" (defArgs (inClass (top 13) 1)) (defBody (inClass (top 13) 1)) (defScope (inClass (top 13) 1)) .none .none .none (.str "hushrow.rows" 289) none (.ref 290) .none), #[]⟩) ::
 (nat_lit 292, ⟨(.type "tuple"), none, .seq #[] 0, #[]⟩) ::
 (nat_lit 294, ⟨(.type "tuple"), none, .seq #[(.str "self" 558)] 0, #[]⟩) ::
 (nat_lit 295, ⟨(.type "tuple"), none, .seq #[] 0, #[]⟩) ::
 (nat_lit 297, ⟨(.type "code"), none, .fields #[(.str "reads" 555), (.str "PutRow.reads" 556), (.str "/claim/cut.py" 557), (.int (93) 0), (.int (1) 0), (.int (0) 0), (.int (0) 0), (.int (3) 0), (.ref 292), (.bool true), (.int (181) 0), (.ref 293), .none, (.ref 294), (.ref 295), (.ref 296), (.int (559) 0), (.int (93) 0), (.str "/claim/cut.py" 560)], #[]⟩) ::
 (nat_lit 298, ⟨(.type "function"), none, .func (W.fnOf "reads" "PutRow.reads" (defArgs (inClass (top 13) 2)) (defBody (inClass (top 13) 2)) (defScope (inClass (top 13) 2)) .none .none .none (.str "hushrow.rows" 289) none (.ref 297) .none), #[]⟩) ::
 (nat_lit 299, ⟨(.type "tuple"), none, .seq #[] 0, #[]⟩) ::
 (nat_lit 301, ⟨(.type "tuple"), none, .seq #[(.str "self" 565)] 0, #[]⟩) ::
 (nat_lit 302, ⟨(.type "tuple"), none, .seq #[] 0, #[]⟩) ::
 (nat_lit 304, ⟨(.type "code"), none, .fields #[(.str "target" 562), (.str "PutRow.target" 563), (.str "/claim/cut.py" 564), (.int (96) 0), (.int (1) 0), (.int (0) 0), (.int (0) 0), (.int (3) 0), (.ref 299), (.bool true), (.int (181) 0), (.ref 300), .none, (.ref 301), (.ref 302), (.ref 303), (.int (566) 0), (.int (96) 0), (.str "/claim/cut.py" 567)], #[]⟩) ::
 (nat_lit 305, ⟨(.type "function"), none, .func (W.fnOf "target" "PutRow.target" (defArgs (inClass (top 13) 3)) (defBody (inClass (top 13) 3)) (defScope (inClass (top 13) 3)) .none .none .none (.str "hushrow.rows" 289) none (.ref 304) .none), #[]⟩) ::
 (nat_lit 306, ⟨(.type "tuple"), none, .seq #[(.str "name" 569), (.str "place" 570), (.str "value" 571)] 0, #[]⟩) ::
 (nat_lit 307, ⟨(.type "dict"), none, .dict #[E P "__module__" 532 (.str "hushrow.rows" 289), E P "__firstlineno__" 536 (.int (82) 535), E P "__init__" 547 (.ref 284), E P "shown" 554 (.ref 291), E P "reads" 561 (.ref 298), E P "target" 568 (.ref 305), E P "__static_attributes__" 572 (.ref 306), E P "__doc__" 573 .none] 2, #[]⟩) ::
 (nat_lit 308, ⟨(.type "type"), none, .cls { name := "PutRow", bases := [(.ref 122)], mro := [(.ref 308), (.ref 122), (.type "object")], ns := 307, qualname := "PutRow", hasDict := true, slotNames := [], subclasses := [], abstract := false, collection := none, hasDel := false }, #[(some (.ref 271)), none, (some (.str "PutRow" 525)), (some (.str "PutRow" 533)), (some (.builtin "object.__new__")), (some (.bool true))]⟩) ::
 (nat_lit 311, ⟨(.type "tuple"), none, .seq #[(.ref 122)] 0, #[]⟩) ::
 (nat_lit 318, ⟨(.type "tuple"), none, .seq #[] 0, #[]⟩) ::
 (nat_lit 320, ⟨(.type "tuple"), none, .seq #[(.str "self" 591), (.str "number" 592), (.str "name" 593), (.str "value" 594)] 0, #[]⟩) ::
 (nat_lit 321, ⟨(.type "tuple"), none, .seq #[] 0, #[]⟩) ::
 (nat_lit 323, ⟨(.type "code"), none, .fields #[(.str "__init__" 588), (.str "SendRow.__init__" 589), (.str "/claim/cut.py" 590), (.int (100) 0), (.int (4) 0), (.int (0) 0), (.int (0) 0), (.int (3) 0), (.ref 318), (.bool true), (.int (181) 0), (.ref 319), .none, (.ref 320), (.ref 321), (.ref 322), (.int (595) 0), (.int (100) 0), (.str "/claim/cut.py" 596)], #[]⟩) ::
 (nat_lit 324, ⟨(.type "function"), none, .func (W.fnOf "__init__" "SendRow.__init__" (defArgs (inClass (top 14) 0)) (defBody (inClass (top 14) 0)) (defScope (inClass (top 14) 0)) .none .none .none (.str "hushrow.rows" 289) none (.ref 323) .none), #[]⟩) ::
 (nat_lit 325, ⟨(.type "tuple"), none, .seq #[] 0, #[]⟩) ::
 (nat_lit 327, ⟨(.type "tuple"), none, .seq #[(.str "self" 601)] 0, #[]⟩) ::
 (nat_lit 328, ⟨(.type "tuple"), none, .seq #[] 0, #[]⟩) ::
 (nat_lit 330, ⟨(.type "code"), none, .fields #[(.str "shown" 598), (.str "SendRow.shown" 599), (.str "/claim/cut.py" 600), (.int (105) 0), (.int (1) 0), (.int (0) 0), (.int (0) 0), (.int (3) 0), (.ref 325), (.bool true), (.int (181) 0), (.ref 326), .none, (.ref 327), (.ref 328), (.ref 329), (.int (602) 0), (.int (105) 0), (.str "/claim/cut.py" 603)], #[]⟩) ::
 (nat_lit 331, ⟨(.type "function"), none, .func (W.fnOf "shown" "SendRow.shown" (defArgs (inClass (top 14) 1)) (defBody (inClass (top 14) 1)) (defScope (inClass (top 14) 1)) .none .none .none (.str "hushrow.rows" 289) none (.ref 330) .none), #[]⟩) ::
 (nat_lit 332, ⟨(.type "tuple"), none, .seq #[] 0, #[]⟩) ::
 (nat_lit 334, ⟨(.type "tuple"), none, .seq #[(.str "self" 608)] 0, #[]⟩) ::
 (nat_lit 335, ⟨(.type "tuple"), none, .seq #[] 0, #[]⟩) ::
 (nat_lit 337, ⟨(.type "code"), none, .fields #[(.str "reads" 605), (.str "SendRow.reads" 606), (.str "/claim/cut.py" 607), (.int (108) 0), (.int (1) 0), (.int (0) 0), (.int (0) 0), (.int (3) 0), (.ref 332), (.bool true), (.int (181) 0), (.ref 333), .none, (.ref 334), (.ref 335), (.ref 336), (.int (609) 0), (.int (108) 0), (.str "/claim/cut.py" 610)], #[]⟩) ::
 (nat_lit 338, ⟨(.type "function"), none, .func (W.fnOf "reads" "SendRow.reads" (defArgs (inClass (top 14) 2)) (defBody (inClass (top 14) 2)) (defScope (inClass (top 14) 2)) .none .none .none (.str "hushrow.rows" 289) none (.ref 337) .none), #[]⟩) ::
 (nat_lit 339, ⟨(.type "tuple"), none, .seq #[(.str "name" 612), (.str "value" 613)] 0, #[]⟩) ::
 (nat_lit 340, ⟨(.type "dict"), none, .dict #[E P "__module__" 583 (.str "hushrow.rows" 289), E P "__firstlineno__" 587 (.int (98) 586), E P "__init__" 597 (.ref 324), E P "shown" 604 (.ref 331), E P "reads" 611 (.ref 338), E P "__static_attributes__" 614 (.ref 339), E P "__doc__" 615 .none] 2, #[]⟩) ::
 (nat_lit 341, ⟨(.type "type"), none, .cls { name := "SendRow", bases := [(.ref 122)], mro := [(.ref 341), (.ref 122), (.type "object")], ns := 340, qualname := "SendRow", hasDict := true, slotNames := [], subclasses := [], abstract := false, collection := none, hasDel := false }, #[(some (.ref 311)), none, (some (.str "SendRow" 576)), (some (.str "SendRow" 584)), (some (.builtin "object.__new__")), (some (.bool true))]⟩) ::
 (nat_lit 344, ⟨(.type "tuple"), none, .seq #[(.ref 122)] 0, #[]⟩) ::
 (nat_lit 351, ⟨(.type "tuple"), none, .seq #[] 0, #[]⟩) ::
 (nat_lit 353, ⟨(.type "tuple"), none, .seq #[(.str "self" 633), (.str "number" 634), (.str "name" 635), (.str "value" 636), (.str "mark" 637)] 0, #[]⟩) ::
 (nat_lit 354, ⟨(.type "tuple"), none, .seq #[] 0, #[]⟩) ::
 (nat_lit 356, ⟨(.type "code"), none, .fields #[(.str "__init__" 630), (.str "SayRow.__init__" 631), (.str "/claim/cut.py" 632), (.int (112) 0), (.int (5) 0), (.int (0) 0), (.int (0) 0), (.int (3) 0), (.ref 351), (.bool true), (.int (181) 0), (.ref 352), .none, (.ref 353), (.ref 354), (.ref 355), (.int (638) 0), (.int (112) 0), (.str "/claim/cut.py" 639)], #[]⟩) ::
 (nat_lit 357, ⟨(.type "function"), none, .func (W.fnOf "__init__" "SayRow.__init__" (defArgs (inClass (top 15) 0)) (defBody (inClass (top 15) 0)) (defScope (inClass (top 15) 0)) .none .none .none (.str "hushrow.rows" 289) none (.ref 356) .none), #[]⟩) ::
 (nat_lit 358, ⟨(.type "tuple"), none, .seq #[] 0, #[]⟩) ::
 (nat_lit 360, ⟨(.type "tuple"), none, .seq #[(.str "self" 644)] 0, #[]⟩) ::
 (nat_lit 361, ⟨(.type "tuple"), none, .seq #[] 0, #[]⟩) ::
 (nat_lit 363, ⟨(.type "code"), none, .fields #[(.str "shown" 641), (.str "SayRow.shown" 642), (.str "/claim/cut.py" 643), (.int (118) 0), (.int (1) 0), (.int (0) 0), (.int (0) 0), (.int (3) 0), (.ref 358), (.bool true), (.int (181) 0), (.ref 359), .none, (.ref 360), (.ref 361), (.ref 362), (.int (645) 0), (.int (118) 0), (.str "/claim/cut.py" 646)], #[]⟩) ::
 (nat_lit 364, ⟨(.type "function"), none, .func (W.fnOf "shown" "SayRow.shown" (defArgs (inClass (top 15) 1)) (defBody (inClass (top 15) 1)) (defScope (inClass (top 15) 1)) .none .none .none (.str "hushrow.rows" 289) none (.ref 363) .none), #[]⟩) ::
 (nat_lit 365, ⟨(.type "tuple"), none, .seq #[] 0, #[]⟩) ::
 (nat_lit 367, ⟨(.type "tuple"), none, .seq #[(.str "self" 651)] 0, #[]⟩) ::
 (nat_lit 368, ⟨(.type "tuple"), none, .seq #[] 0, #[]⟩) ::
 (nat_lit 370, ⟨(.type "code"), none, .fields #[(.str "reads" 648), (.str "SayRow.reads" 649), (.str "/claim/cut.py" 650), (.int (121) 0), (.int (1) 0), (.int (0) 0), (.int (0) 0), (.int (3) 0), (.ref 365), (.bool true), (.int (181) 0), (.ref 366), .none, (.ref 367), (.ref 368), (.ref 369), (.int (652) 0), (.int (121) 0), (.str "/claim/cut.py" 653)], #[]⟩) ::
 (nat_lit 371, ⟨(.type "function"), none, .func (W.fnOf "reads" "SayRow.reads" (defArgs (inClass (top 15) 2)) (defBody (inClass (top 15) 2)) (defScope (inClass (top 15) 2)) .none .none .none (.str "hushrow.rows" 289) none (.ref 370) .none), #[]⟩) ::
 (nat_lit 372, ⟨(.type "tuple"), none, .seq #[] 0, #[]⟩) ::
 (nat_lit 374, ⟨(.type "tuple"), none, .seq #[(.str "self" 658)] 0, #[]⟩) ::
 (nat_lit 375, ⟨(.type "tuple"), none, .seq #[] 0, #[]⟩) ::
 (nat_lit 377, ⟨(.type "code"), none, .fields #[(.str "target" 655), (.str "SayRow.target" 656), (.str "/claim/cut.py" 657), (.int (124) 0), (.int (1) 0), (.int (0) 0), (.int (0) 0), (.int (3) 0), (.ref 372), (.bool true), (.int (181) 0), (.ref 373), .none, (.ref 374), (.ref 375), (.ref 376), (.int (659) 0), (.int (124) 0), (.str "/claim/cut.py" 660)], #[]⟩) ::
 (nat_lit 378, ⟨(.type "function"), none, .func (W.fnOf "target" "SayRow.target" (defArgs (inClass (top 15) 3)) (defBody (inClass (top 15) 3)) (defScope (inClass (top 15) 3)) .none .none .none (.str "hushrow.rows" 289) none (.ref 377) .none), #[]⟩) ::
 (nat_lit 379, ⟨(.type "tuple"), none, .seq #[(.str "mark" 662), (.str "name" 663), (.str "value" 664)] 0, #[]⟩) ::
 (nat_lit 380, ⟨(.type "dict"), none, .dict #[E P "__module__" 625 (.str "hushrow.rows" 289), E P "__firstlineno__" 629 (.int (110) 628), E P "__init__" 640 (.ref 357), E P "shown" 647 (.ref 364), E P "reads" 654 (.ref 371), E P "target" 661 (.ref 378), E P "__static_attributes__" 665 (.ref 379), E P "__doc__" 666 .none] 2, #[]⟩) ::
 (nat_lit 381, ⟨(.type "type"), none, .cls { name := "SayRow", bases := [(.ref 122)], mro := [(.ref 381), (.ref 122), (.type "object")], ns := 380, qualname := "SayRow", hasDict := true, slotNames := [], subclasses := [], abstract := false, collection := none, hasDel := false }, #[(some (.ref 344)), none, (some (.str "SayRow" 618)), (some (.str "SayRow" 626)), (some (.builtin "object.__new__")), (some (.bool true))]⟩) ::
 (nat_lit 384, ⟨(.type "tuple"), none, .seq #[(.ref 122)] 0, #[]⟩) ::
 (nat_lit 391, ⟨(.type "tuple"), none, .seq #[] 0, #[]⟩) ::
 (nat_lit 393, ⟨(.type "tuple"), none, .seq #[(.str "self" 684), (.str "number" 685), (.str "name" 686), (.str "things" 687)] 0, #[]⟩) ::
 (nat_lit 394, ⟨(.type "tuple"), none, .seq #[] 0, #[]⟩) ::
 (nat_lit 396, ⟨(.type "code"), none, .fields #[(.str "__init__" 681), (.str "CallRow.__init__" 682), (.str "/claim/cut.py" 683), (.int (128) 0), (.int (4) 0), (.int (0) 0), (.int (0) 0), (.int (3) 0), (.ref 391), (.bool true), (.int (181) 0), (.ref 392), .none, (.ref 393), (.ref 394), (.ref 395), (.int (688) 0), (.int (128) 0), (.str "/claim/cut.py" 689)], #[]⟩) ::
 (nat_lit 397, ⟨(.type "function"), none, .func (W.fnOf "__init__" "CallRow.__init__" (defArgs (inClass (top 16) 0)) (defBody (inClass (top 16) 0)) (defScope (inClass (top 16) 0)) .none .none .none (.str "hushrow.rows" 289) none (.ref 396) .none), #[]⟩) ::
 (nat_lit 398, ⟨(.type "tuple"), none, .seq #[] 0, #[]⟩) ::
 (nat_lit 400, ⟨(.type "tuple"), none, .seq #[(.str "self" 694)] 0, #[]⟩) ::
 (nat_lit 401, ⟨(.type "tuple"), none, .seq #[] 0, #[]⟩) ::
 (nat_lit 403, ⟨(.type "code"), none, .fields #[(.str "shown" 691), (.str "CallRow.shown" 692), (.str "/claim/cut.py" 693), (.int (133) 0), (.int (1) 0), (.int (0) 0), (.int (0) 0), (.int (3) 0), (.ref 398), (.bool true), (.int (181) 0), (.ref 399), .none, (.ref 400), (.ref 401), (.ref 402), (.int (695) 0), (.int (133) 0), (.str "/claim/cut.py" 696)], #[]⟩) ::
 (nat_lit 404, ⟨(.type "function"), none, .func (W.fnOf "shown" "CallRow.shown" (defArgs (inClass (top 16) 1)) (defBody (inClass (top 16) 1)) (defScope (inClass (top 16) 1)) .none .none .none (.str "hushrow.rows" 289) none (.ref 403) .none), #[]⟩) ::
 (nat_lit 405, ⟨(.type "tuple"), none, .seq #[] 0, #[]⟩) ::
 (nat_lit 407, ⟨(.type "tuple"), none, .seq #[(.str "self" 701)] 0, #[]⟩) ::
 (nat_lit 408, ⟨(.type "tuple"), none, .seq #[] 0, #[]⟩) ::
 (nat_lit 410, ⟨(.type "code"), none, .fields #[(.str "reads" 698), (.str "CallRow.reads" 699), (.str "/claim/cut.py" 700), (.int (136) 0), (.int (1) 0), (.int (0) 0), (.int (0) 0), (.int (3) 0), (.ref 405), (.bool true), (.int (181) 0), (.ref 406), .none, (.ref 407), (.ref 408), (.ref 409), (.int (702) 0), (.int (136) 0), (.str "/claim/cut.py" 703)], #[]⟩) ::
 (nat_lit 411, ⟨(.type "function"), none, .func (W.fnOf "reads" "CallRow.reads" (defArgs (inClass (top 16) 2)) (defBody (inClass (top 16) 2)) (defScope (inClass (top 16) 2)) .none .none .none (.str "hushrow.rows" 289) none (.ref 410) .none), #[]⟩) ::
 (nat_lit 412, ⟨(.type "tuple"), none, .seq #[(.str "name" 705), (.str "things" 706)] 0, #[]⟩) ::
 (nat_lit 413, ⟨(.type "dict"), none, .dict #[E P "__module__" 676 (.str "hushrow.rows" 289), E P "__firstlineno__" 680 (.int (126) 679), E P "__init__" 690 (.ref 397), E P "shown" 697 (.ref 404), E P "reads" 704 (.ref 411), E P "__static_attributes__" 707 (.ref 412), E P "__doc__" 708 .none] 2, #[]⟩) ::
 (nat_lit 414, ⟨(.type "type"), none, .cls { name := "CallRow", bases := [(.ref 122)], mro := [(.ref 414), (.ref 122), (.type "object")], ns := 413, qualname := "CallRow", hasDict := true, slotNames := [], subclasses := [], abstract := false, collection := none, hasDel := false }, #[(some (.ref 384)), none, (some (.str "CallRow" 669)), (some (.str "CallRow" 677)), (some (.builtin "object.__new__")), (some (.bool true))]⟩) ::
 (nat_lit 417, ⟨(.type "tuple"), none, .seq #[(.ref 122)] 0, #[]⟩) ::
 (nat_lit 424, ⟨(.type "tuple"), none, .seq #[] 0, #[]⟩) ::
 (nat_lit 426, ⟨(.type "tuple"), none, .seq #[(.str "self" 726)] 0, #[]⟩) ::
 (nat_lit 427, ⟨(.type "tuple"), none, .seq #[] 0, #[]⟩) ::
 (nat_lit 429, ⟨(.type "code"), none, .fields #[(.str "shown" 723), (.str "LastRow.shown" 724), (.str "/claim/cut.py" 725), (.int (140) 0), (.int (1) 0), (.int (0) 0), (.int (0) 0), (.int (3) 0), (.ref 424), (.bool true), (.int (181) 0), (.ref 425), .none, (.ref 426), (.ref 427), (.ref 428), (.int (727) 0), (.int (140) 0), (.str "/claim/cut.py" 728)], #[]⟩) ::
 (nat_lit 430, ⟨(.type "function"), none, .func (W.fnOf "shown" "LastRow.shown" (defArgs (inClass (top 17) 0)) (defBody (inClass (top 17) 0)) (defScope (inClass (top 17) 0)) .none .none .none (.str "hushrow.rows" 289) none (.ref 429) .none), #[]⟩) ::
 (nat_lit 431, ⟨(.type "tuple"), none, .seq #[] 0, #[]⟩) ::
 (nat_lit 432, ⟨(.type "dict"), none, .dict #[E P "__module__" 718 (.str "hushrow.rows" 289), E P "__firstlineno__" 722 (.int (138) 721), E P "shown" 729 (.ref 430), E P "__static_attributes__" 730 (.ref 431), E P "__doc__" 731 .none] 2, #[]⟩) ::
 (nat_lit 433, ⟨(.type "type"), none, .cls { name := "LastRow", bases := [(.ref 122)], mro := [(.ref 433), (.ref 122), (.type "object")], ns := 432, qualname := "LastRow", hasDict := true, slotNames := [], subclasses := [], abstract := false, collection := none, hasDel := false }, #[(some (.ref 417)), none, (some (.str "LastRow" 711)), (some (.str "LastRow" 719)), (some (.builtin "object.__new__")), (some (.bool true))]⟩) ::
 (nat_lit 436, ⟨(.type "tuple"), none, .seq #[(.ref 122)] 0, #[]⟩) ::
 (nat_lit 443, ⟨(.type "tuple"), none, .seq #[] 0, #[]⟩) ::
 (nat_lit 445, ⟨(.type "tuple"), none, .seq #[(.str "self" 749), (.str "number" 750), (.str "value" 751), (.str "first" 752), (.str "other" 753), (.str "left" 754), (.str "right" 755)] 0, #[]⟩) ::
 (nat_lit 446, ⟨(.type "tuple"), none, .seq #[] 0, #[]⟩) ::
 (nat_lit 448, ⟨(.type "code"), none, .fields #[(.str "__init__" 746), (.str "IfRow.__init__" 747), (.str "/claim/cut.py" 748), (.int (144) 0), (.int (7) 0), (.int (0) 0), (.int (0) 0), (.int (3) 0), (.ref 443), (.bool true), (.int (181) 0), (.ref 444), .none, (.ref 445), (.ref 446), (.ref 447), (.int (756) 0), (.int (144) 0), (.str "/claim/cut.py" 757)], #[]⟩) ::
 (nat_lit 449, ⟨(.type "function"), none, .func (W.fnOf "__init__" "IfRow.__init__" (defArgs (inClass (top 18) 0)) (defBody (inClass (top 18) 0)) (defScope (inClass (top 18) 0)) .none .none .none (.str "hushrow.rows" 289) none (.ref 448) .none), #[]⟩) ::
 (nat_lit 450, ⟨(.type "tuple"), none, .seq #[] 0, #[]⟩) ::
 (nat_lit 452, ⟨(.type "tuple"), none, .seq #[(.str "self" 762)] 0, #[]⟩) ::
 (nat_lit 453, ⟨(.type "tuple"), none, .seq #[] 0, #[]⟩) ::
 (nat_lit 455, ⟨(.type "code"), none, .fields #[(.str "shown" 759), (.str "IfRow.shown" 760), (.str "/claim/cut.py" 761), (.int (152) 0), (.int (1) 0), (.int (0) 0), (.int (0) 0), (.int (3) 0), (.ref 450), (.bool true), (.int (181) 0), (.ref 451), .none, (.ref 452), (.ref 453), (.ref 454), (.int (763) 0), (.int (152) 0), (.str "/claim/cut.py" 764)], #[]⟩) ::
 (nat_lit 456, ⟨(.type "function"), none, .func (W.fnOf "shown" "IfRow.shown" (defArgs (inClass (top 18) 1)) (defBody (inClass (top 18) 1)) (defScope (inClass (top 18) 1)) .none .none .none (.str "hushrow.rows" 289) none (.ref 455) .none), #[]⟩) ::
 (nat_lit 457, ⟨(.type "tuple"), none, .seq #[] 0, #[]⟩) ::
 (nat_lit 459, ⟨(.type "tuple"), none, .seq #[(.str "self" 769)] 0, #[]⟩) ::
 (nat_lit 460, ⟨(.type "tuple"), none, .seq #[] 0, #[]⟩) ::
 (nat_lit 462, ⟨(.type "code"), none, .fields #[(.str "reads" 766), (.str "IfRow.reads" 767), (.str "/claim/cut.py" 768), (.int (155) 0), (.int (1) 0), (.int (0) 0), (.int (0) 0), (.int (3) 0), (.ref 457), (.bool true), (.int (181) 0), (.ref 458), .none, (.ref 459), (.ref 460), (.ref 461), (.int (770) 0), (.int (155) 0), (.str "/claim/cut.py" 771)], #[]⟩) ::
 (nat_lit 463, ⟨(.type "function"), none, .func (W.fnOf "reads" "IfRow.reads" (defArgs (inClass (top 18) 2)) (defBody (inClass (top 18) 2)) (defScope (inClass (top 18) 2)) .none .none .none (.str "hushrow.rows" 289) none (.ref 462) .none), #[]⟩) ::
 (nat_lit 464, ⟨(.type "tuple"), none, .seq #[(.str "first" 773), (.str "left" 774), (.str "other" 775), (.str "right" 776), (.str "value" 777)] 0, #[]⟩) ::
 (nat_lit 465, ⟨(.type "dict"), none, .dict #[E P "__module__" 741 (.str "hushrow.rows" 289), E P "__firstlineno__" 745 (.int (142) 744), E P "__init__" 758 (.ref 449), E P "shown" 765 (.ref 456), E P "reads" 772 (.ref 463), E P "__static_attributes__" 778 (.ref 464), E P "__doc__" 779 .none] 2, #[]⟩) ::
 (nat_lit 466, ⟨(.type "type"), none, .cls { name := "IfRow", bases := [(.ref 122)], mro := [(.ref 466), (.ref 122), (.type "object")], ns := 465, qualname := "IfRow", hasDict := true, slotNames := [], subclasses := [], abstract := false, collection := none, hasDel := false }, #[(some (.ref 436)), none, (some (.str "IfRow" 734)), (some (.str "IfRow" 742)), (some (.builtin "object.__new__")), (some (.bool true))]⟩) ::
 (nat_lit 469, ⟨(.type "tuple"), none, .seq #[(.ref 122)] 0, #[]⟩) ::
 (nat_lit 476, ⟨(.type "tuple"), none, .seq #[] 0, #[]⟩) ::
 (nat_lit 478, ⟨(.type "tuple"), none, .seq #[(.str "self" 797), (.str "number" 798), (.str "thing" 799), (.str "most" 800), (.str "body" 801), (.str "left" 802), (.str "right" 803)] 0, #[]⟩) ::
 (nat_lit 479, ⟨(.type "tuple"), none, .seq #[] 0, #[]⟩) ::
 (nat_lit 481, ⟨(.type "code"), none, .fields #[(.str "__init__" 794), (.str "LoopRow.__init__" 795), (.str "/claim/cut.py" 796), (.int (159) 0), (.int (7) 0), (.int (0) 0), (.int (0) 0), (.int (3) 0), (.ref 476), (.bool true), (.int (181) 0), (.ref 477), .none, (.ref 478), (.ref 479), (.ref 480), (.int (804) 0), (.int (159) 0), (.str "/claim/cut.py" 805)], #[]⟩) ::
 (nat_lit 482, ⟨(.type "function"), none, .func (W.fnOf "__init__" "LoopRow.__init__" (defArgs (inClass (top 19) 0)) (defBody (inClass (top 19) 0)) (defScope (inClass (top 19) 0)) .none .none .none (.str "hushrow.rows" 289) none (.ref 481) .none), #[]⟩) ::
 (nat_lit 483, ⟨(.type "tuple"), none, .seq #[] 0, #[]⟩) ::
 (nat_lit 485, ⟨(.type "tuple"), none, .seq #[(.str "self" 810)] 0, #[]⟩) ::
 (nat_lit 486, ⟨(.type "tuple"), none, .seq #[] 0, #[]⟩) ::
 (nat_lit 488, ⟨(.type "code"), none, .fields #[(.str "shown" 807), (.str "LoopRow.shown" 808), (.str "/claim/cut.py" 809), (.int (167) 0), (.int (1) 0), (.int (0) 0), (.int (0) 0), (.int (3) 0), (.ref 483), (.bool true), (.int (181) 0), (.ref 484), .none, (.ref 485), (.ref 486), (.ref 487), (.int (811) 0), (.int (167) 0), (.str "/claim/cut.py" 812)], #[]⟩) ::
 (nat_lit 489, ⟨(.type "function"), none, .func (W.fnOf "shown" "LoopRow.shown" (defArgs (inClass (top 19) 1)) (defBody (inClass (top 19) 1)) (defScope (inClass (top 19) 1)) .none .none .none (.str "hushrow.rows" 289) none (.ref 488) .none), #[]⟩) ::
 (nat_lit 490, ⟨(.type "tuple"), none, .seq #[] 0, #[]⟩) ::
 (nat_lit 492, ⟨(.type "tuple"), none, .seq #[(.str "self" 817)] 0, #[]⟩) ::
 (nat_lit 493, ⟨(.type "tuple"), none, .seq #[] 0, #[]⟩) ::
 (nat_lit 495, ⟨(.type "code"), none, .fields #[(.str "reads" 814), (.str "LoopRow.reads" 815), (.str "/claim/cut.py" 816), (.int (170) 0), (.int (1) 0), (.int (0) 0), (.int (0) 0), (.int (3) 0), (.ref 490), (.bool true), (.int (181) 0), (.ref 491), .none, (.ref 492), (.ref 493), (.ref 494), (.int (818) 0), (.int (170) 0), (.str "/claim/cut.py" 819)], #[]⟩) ::
 (nat_lit 496, ⟨(.type "function"), none, .func (W.fnOf "reads" "LoopRow.reads" (defArgs (inClass (top 19) 2)) (defBody (inClass (top 19) 2)) (defScope (inClass (top 19) 2)) .none .none .none (.str "hushrow.rows" 289) none (.ref 495) .none), #[]⟩) ::
 (nat_lit 497, ⟨(.type "tuple"), none, .seq #[(.str "body" 821), (.str "left" 822), (.str "most" 823), (.str "right" 824), (.str "thing" 825)] 0, #[]⟩) ::
 (nat_lit 498, ⟨(.type "dict"), none, .dict #[E P "__module__" 789 (.str "hushrow.rows" 289), E P "__firstlineno__" 793 (.int (157) 792), E P "__init__" 806 (.ref 482), E P "shown" 813 (.ref 489), E P "reads" 820 (.ref 496), E P "__static_attributes__" 826 (.ref 497), E P "__doc__" 827 .none] 2, #[]⟩) ::
 (nat_lit 499, ⟨(.type "type"), none, .cls { name := "LoopRow", bases := [(.ref 122)], mro := [(.ref 499), (.ref 122), (.type "object")], ns := 498, qualname := "LoopRow", hasDict := true, slotNames := [], subclasses := [], abstract := false, collection := none, hasDel := false }, #[(some (.ref 469)), none, (some (.str "LoopRow" 782)), (some (.str "LoopRow" 790)), (some (.builtin "object.__new__")), (some (.bool true))]⟩) ::
 (nat_lit 502, ⟨(.type "tuple"), none, .seq #[(.ref 122)] 0, #[]⟩) ::
 (nat_lit 509, ⟨(.type "tuple"), none, .seq #[] 0, #[]⟩) ::
 (nat_lit 511, ⟨(.type "tuple"), none, .seq #[(.str "self" 845), (.str "number" 846), (.str "name" 847), (.str "parts" 848), (.str "body" 849)] 0, #[]⟩) ::
 (nat_lit 512, ⟨(.type "tuple"), none, .seq #[] 0, #[]⟩) ::
 (nat_lit 514, ⟨(.type "code"), none, .fields #[(.str "__init__" 842), (.str "DeedRow.__init__" 843), (.str "/claim/cut.py" 844), (.int (174) 0), (.int (5) 0), (.int (0) 0), (.int (0) 0), (.int (3) 0), (.ref 509), (.bool true), (.int (181) 0), (.ref 510), .none, (.ref 511), (.ref 512), (.ref 513), (.int (850) 0), (.int (174) 0), (.str "/claim/cut.py" 851)], #[]⟩) ::
 (nat_lit 515, ⟨(.type "function"), none, .func (W.fnOf "__init__" "DeedRow.__init__" (defArgs (inClass (top 20) 0)) (defBody (inClass (top 20) 0)) (defScope (inClass (top 20) 0)) .none .none .none (.str "hushrow.rows" 289) none (.ref 514) .none), #[]⟩) ::
 (nat_lit 516, ⟨(.type "tuple"), none, .seq #[] 0, #[]⟩) ::
 (nat_lit 518, ⟨(.type "tuple"), none, .seq #[(.str "self" 856)] 0, #[]⟩) ::
 (nat_lit 519, ⟨(.type "tuple"), none, .seq #[] 0, #[]⟩) ::
 (nat_lit 521, ⟨(.type "code"), none, .fields #[(.str "shown" 853), (.str "DeedRow.shown" 854), (.str "/claim/cut.py" 855), (.int (180) 0), (.int (1) 0), (.int (0) 0), (.int (0) 0), (.int (3) 0), (.ref 516), (.bool true), (.int (181) 0), (.ref 517), .none, (.ref 518), (.ref 519), (.ref 520), (.int (857) 0), (.int (180) 0), (.str "/claim/cut.py" 858)], #[]⟩) ::
 (nat_lit 522, ⟨(.type "function"), none, .func (W.fnOf "shown" "DeedRow.shown" (defArgs (inClass (top 20) 1)) (defBody (inClass (top 20) 1)) (defScope (inClass (top 20) 1)) .none .none .none (.str "hushrow.rows" 289) none (.ref 521) .none), #[]⟩) ::
 (nat_lit 523, ⟨(.type "tuple"), none, .seq #[(.str "body" 860), (.str "name" 861), (.str "parts" 862)] 0, #[]⟩) ::
 (nat_lit 524, ⟨(.type "dict"), none, .dict #[E P "__module__" 837 (.str "hushrow.rows" 289), E P "__firstlineno__" 841 (.int (172) 840), E P "__init__" 852 (.ref 515), E P "shown" 859 (.ref 522), E P "__static_attributes__" 863 (.ref 523), E P "__doc__" 864 .none] 2, #[]⟩) ::
 (nat_lit 525, ⟨(.type "type"), none, .cls { name := "DeedRow", bases := [(.ref 122)], mro := [(.ref 525), (.ref 122), (.type "object")], ns := 524, qualname := "DeedRow", hasDict := true, slotNames := [], subclasses := [], abstract := false, collection := none, hasDel := false }, #[(some (.ref 502)), none, (some (.str "DeedRow" 830)), (some (.str "DeedRow" 838)), (some (.builtin "object.__new__")), (some (.bool true))]⟩) ::
 (nat_lit 535, ⟨(.type "tuple"), none, .seq #[] 0, #[]⟩) ::
 (nat_lit 537, ⟨(.type "tuple"), none, .seq #[(.str "self" 882), (.str "heads" 883), (.str "deeds" 884), (.str "main" 885)] 0, #[]⟩) ::
 (nat_lit 538, ⟨(.type "tuple"), none, .seq #[] 0, #[]⟩) ::
 (nat_lit 540, ⟨(.type "code"), none, .fields #[(.str "__init__" 879), (.str "Program.__init__" 880), (.str "/claim/cut.py" 881), (.int (184) 0), (.int (4) 0), (.int (0) 0), (.int (0) 0), (.int (3) 0), (.ref 535), (.bool true), (.int (181) 0), (.ref 536), .none, (.ref 537), (.ref 538), (.ref 539), (.int (886) 0), (.int (184) 0), (.str "/claim/cut.py" 887)], #[]⟩) ::
 (nat_lit 541, ⟨(.type "function"), none, .func (W.fnOf "__init__" "Program.__init__" (defArgs (inClass (top 21) 0)) (defBody (inClass (top 21) 0)) (defScope (inClass (top 21) 0)) .none .none .none (.str "hushrow.rows" 289) none (.ref 540) .none), #[]⟩) ::
 (nat_lit 542, ⟨(.type "tuple"), none, .seq #[(.str "deeds" 889), (.str "heads" 890), (.str "main" 891)] 0, #[]⟩) ::
 (nat_lit 543, ⟨(.type "dict"), none, .dict #[E P "__module__" 874 (.str "hushrow.rows" 289), E P "__firstlineno__" 878 (.int (182) 877), E P "__init__" 888 (.ref 541), E P "__static_attributes__" 892 (.ref 542), E P "__dict__" 894 (.ref 545), E P "__weakref__" 896 (.ref 546), E P "__doc__" 897 .none] 4, #[]⟩) ::
 (nat_lit 544, ⟨(.type "type"), none, .cls { name := "Program", bases := [(.type "object")], mro := [(.ref 544), (.type "object")], ns := 543, qualname := "Program", hasDict := true, slotNames := [], subclasses := [], abstract := false, collection := none, hasDel := false }, #[none, none, (some (.str "Program" 867)), (some (.str "Program" 875)), (some (.builtin "object.__new__")), (some (.bool true))]⟩) ::
 (nat_lit 545, ⟨(.type "getset_descriptor"), none, .fields #[(.str "__dict__" 893), (.ref 544), (.builtin "function.__dict__"), (.builtin "function.__dict__#set")], #[]⟩) ::
 (nat_lit 546, ⟨(.type "getset_descriptor"), none, .fields #[(.str "__weakref__" 895), (.ref 544), (.builtin "ExceptionGroup.__weakref__"), .none], #[]⟩) ::
 (nat_lit 549, ⟨(.type "tuple"), none, .seq #[] 0, #[]⟩) ::
 (nat_lit 551, ⟨(.type "tuple"), none, .seq #[(.str "thing" 907)] 0, #[]⟩) ::
 (nat_lit 552, ⟨(.type "tuple"), none, .seq #[] 0, #[]⟩) ::
 (nat_lit 554, ⟨(.type "code"), none, .fields #[(.str "is_number" 904), (.str "is_number" 905), (.str "/claim/cut.py" 906), (.int (190) 0), (.int (1) 0), (.int (0) 0), (.int (0) 0), (.int (3) 0), (.ref 549), (.bool true), (.int (181) 0), (.ref 550), .none, (.ref 551), (.ref 552), (.ref 553), (.int (908) 0), (.int (190) 0), (.str "/claim/cut.py" 909)], #[]⟩) ::
 (nat_lit 555, ⟨(.type "function"), none, .func (W.fnOf "is_number" "is_number" (defArgs (top 24)) (defBody (top 24)) (defScope (top 24)) .none .none .none (.str "hushrow.gifts" 900) none (.ref 554) .none), #[]⟩) ::
 (nat_lit 556, ⟨(.type "tuple"), none, .seq #[] 0, #[]⟩) ::
 (nat_lit 559, ⟨(.type "code"), none, .fields #[(.str "is_good" 911), (.str "is_good" 912), (.str "/claim/cut.py" 913), (.int (194) 0), (.int (2) 0), (.int (0) 0), (.int (0) 0), (.int (3) 0), (.ref 556), (.bool true), (.int (181) 0), (.ref 557), .none, .none, .none, (.ref 558), (.int (914) 0), (.int (194) 0), (.str "/claim/cut.py" 915)], #[]⟩) ::
 (nat_lit 560, ⟨(.type "function"), none, .func (W.fnOf "is_good" "is_good" (defArgs (top 25)) (defBody (top 25)) (defScope (top 25)) .none .none .none (.str "hushrow.gifts" 900) none (.ref 559) .none), #[]⟩) ::
 (nat_lit 561, ⟨(.type "tuple"), none, .seq #[] 0, #[]⟩) ::
 (nat_lit 563, ⟨(.type "tuple"), none, .seq #[(.str "given" 920), (.str "gifts" 921), (.str "gift" 922)] 0, #[]⟩) ::
 (nat_lit 564, ⟨(.type "tuple"), none, .seq #[] 0, #[]⟩) ::
 (nat_lit 566, ⟨(.type "code"), none, .fields #[(.str "given_cell" 917), (.str "given_cell" 918), (.str "/claim/cut.py" 919), (.int (198) 0), (.int (2) 0), (.int (0) 0), (.int (0) 0), (.int (3) 0), (.ref 561), (.bool true), (.int (181) 0), (.ref 562), .none, (.ref 563), (.ref 564), (.ref 565), (.int (923) 0), (.int (198) 0), (.str "/claim/cut.py" 924)], #[]⟩) ::
 (nat_lit 567, ⟨(.type "function"), none, .func (W.fnOf "given_cell" "given_cell" (defArgs (top 26)) (defBody (top 26)) (defScope (top 26)) .none .none .none (.str "hushrow.gifts" 900) none (.ref 566) .none), #[]⟩) ::
 (nat_lit 568, ⟨(.type "tuple"), none, .seq #[] 0, #[]⟩) ::
 (nat_lit 570, ⟨(.type "tuple"), none, .seq #[(.str "own" 929)] 0, #[]⟩) ::
 (nat_lit 571, ⟨(.type "tuple"), none, .seq #[] 0, #[]⟩) ::
 (nat_lit 573, ⟨(.type "code"), none, .fields #[(.str "own_cell" 926), (.str "own_cell" 927), (.str "/claim/cut.py" 928), (.int (203) 0), (.int (1) 0), (.int (0) 0), (.int (0) 0), (.int (3) 0), (.ref 568), (.bool true), (.int (181) 0), (.ref 569), .none, (.ref 570), (.ref 571), (.ref 572), (.int (930) 0), (.int (203) 0), (.str "/claim/cut.py" 931)], #[]⟩) ::
 (nat_lit 574, ⟨(.type "function"), none, .func (W.fnOf "own_cell" "own_cell" (defArgs (top 27)) (defBody (top 27)) (defScope (top 27)) .none .none .none (.str "hushrow.gifts" 900) none (.ref 573) .none), #[]⟩) ::
 (nat_lit 575, ⟨(.type "tuple"), none, .seq #[] 0, #[]⟩) ::
 (nat_lit 577, ⟨(.type "tuple"), none, .seq #[(.str "program" 936), (.str "gifts" 937), (.str "cells" 938), (.str "head" 939), (.str "deed" 940), (.str "part" 941)] 0, #[]⟩) ::
 (nat_lit 578, ⟨(.type "tuple"), none, .seq #[] 0, #[]⟩) ::
 (nat_lit 580, ⟨(.type "code"), none, .fields #[(.str "cells_of" 933), (.str "cells_of" 934), (.str "/claim/cut.py" 935), (.int (205) 0), (.int (2) 0), (.int (0) 0), (.int (0) 0), (.int (3) 0), (.ref 575), (.bool true), (.int (181) 0), (.ref 576), .none, (.ref 577), (.ref 578), (.ref 579), (.int (942) 0), (.int (205) 0), (.str "/claim/cut.py" 943)], #[]⟩) ::
 (nat_lit 581, ⟨(.type "function"), none, .func (W.fnOf "cells_of" "cells_of" (defArgs (top 28)) (defBody (top 28)) (defScope (top 28)) .none .none .none (.str "hushrow.gifts" 900) none (.ref 580) .none), #[]⟩) ::
 (nat_lit 589, ⟨(.type "tuple"), none, .seq #[] 0, #[]⟩) ::
 (nat_lit 591, ⟨(.type "tuple"), none, .seq #[(.str "self" 962)] 0, #[]⟩) ::
 (nat_lit 592, ⟨(.type "tuple"), none, .seq #[] 0, #[]⟩) ::
 (nat_lit 594, ⟨(.type "code"), none, .fields #[(.str "__init__" 959), (.str "Book.__init__" 960), (.str "/claim/cut.py" 961), (.int (219) 0), (.int (1) 0), (.int (0) 0), (.int (0) 0), (.int (3) 0), (.ref 589), (.bool true), (.int (181) 0), (.ref 590), .none, (.ref 591), (.ref 592), (.ref 593), (.int (963) 0), (.int (219) 0), (.str "/claim/cut.py" 964)], #[]⟩) ::
 (nat_lit 595, ⟨(.type "function"), none, .func (W.fnOf "__init__" "Book.__init__" (defArgs (inClass (top 30) 0)) (defBody (inClass (top 30) 0)) (defScope (inClass (top 30) 0)) .none .none .none (.str "hushrow.books" 945) none (.ref 594) .none), #[]⟩) ::
 (nat_lit 596, ⟨(.type "tuple"), none, .seq #[(.str "ends" 966), (.str "letters" 967), (.str "said" 968), (.str "steps" 969), (.str "trace" 970)] 0, #[]⟩) ::
 (nat_lit 597, ⟨(.type "dict"), none, .dict #[E P "__module__" 954 (.str "hushrow.books" 945), E P "__firstlineno__" 958 (.int (217) 957), E P "__init__" 965 (.ref 595), E P "__static_attributes__" 971 (.ref 596), E P "__dict__" 973 (.ref 599), E P "__weakref__" 975 (.ref 600), E P "__doc__" 976 .none] 4, #[]⟩) ::
 (nat_lit 598, ⟨(.type "type"), none, .cls { name := "Book", bases := [(.type "object")], mro := [(.ref 598), (.type "object")], ns := 597, qualname := "Book", hasDict := true, slotNames := [], subclasses := [], abstract := false, collection := none, hasDel := false }, #[none, none, (some (.str "Book" 947)), (some (.str "Book" 955)), (some (.builtin "object.__new__")), (some (.bool true))]⟩) ::
 (nat_lit 599, ⟨(.type "getset_descriptor"), none, .fields #[(.str "__dict__" 972), (.ref 598), (.builtin "function.__dict__"), (.builtin "function.__dict__#set")], #[]⟩) ::
 (nat_lit 600, ⟨(.type "getset_descriptor"), none, .fields #[(.str "__weakref__" 974), (.ref 598), (.builtin "ExceptionGroup.__weakref__"), .none], #[]⟩) ::
 (nat_lit 603, ⟨(.type "tuple"), none, .seq #[] 0, #[]⟩) ::
 (nat_lit 605, ⟨(.type "tuple"), none, .seq #[(.str "one" 986), (.str "word" 987), (.str "other" 988)] 0, #[]⟩) ::
 (nat_lit 606, ⟨(.type "tuple"), none, .seq #[] 0, #[]⟩) ::
 (nat_lit 608, ⟨(.type "code"), none, .fields #[(.str "reckon" 983), (.str "reckon" 984), (.str "/claim/cut.py" 985), (.int (227) 0), (.int (3) 0), (.int (0) 0), (.int (0) 0), (.int (3) 0), (.ref 603), (.bool true), (.int (181) 0), (.ref 604), .none, (.ref 605), (.ref 606), (.ref 607), (.int (989) 0), (.int (227) 0), (.str "/claim/cut.py" 990)], #[]⟩) ::
 (nat_lit 609, ⟨(.type "function"), none, .func (W.fnOf "reckon" "reckon" (defArgs (top 33)) (defBody (top 33)) (defScope (top 33)) .none .none .none (.str "hushrow.sums" 979) none (.ref 608) .none), #[]⟩) ::
 (nat_lit 610, ⟨(.type "tuple"), none, .seq #[] 0, #[]⟩) ::
 (nat_lit 612, ⟨(.type "tuple"), none, .seq #[(.str "place" 995), (.str "size" 996)] 0, #[]⟩) ::
 (nat_lit 613, ⟨(.type "tuple"), none, .seq #[] 0, #[]⟩) ::
 (nat_lit 615, ⟨(.type "code"), none, .fields #[(.str "round_place" 992), (.str "round_place" 993), (.str "/claim/cut.py" 994), (.int (241) 0), (.int (2) 0), (.int (0) 0), (.int (0) 0), (.int (3) 0), (.ref 610), (.bool true), (.int (181) 0), (.ref 611), .none, (.ref 612), (.ref 613), (.ref 614), (.int (997) 0), (.int (241) 0), (.str "/claim/cut.py" 998)], #[]⟩) ::
 (nat_lit 616, ⟨(.type "function"), none, .func (W.fnOf "round_place" "round_place" (defArgs (top 34)) (defBody (top 34)) (defScope (top 34)) .none .none .none (.str "hushrow.sums" 979) none (.ref 615) .none), #[]⟩) ::
 (nat_lit 624, ⟨(.type "tuple"), none, .seq #[] 0, #[]⟩) ::
 (nat_lit 626, ⟨(.type "tuple"), none, .seq #[(.str "self" 1017), (.str "program" 1018), (.str "cells" 1019), (.str "deed" 1020)] 0, #[]⟩) ::
 (nat_lit 627, ⟨(.type "tuple"), none, .seq #[] 0, #[]⟩) ::
 (nat_lit 629, ⟨(.type "code"), none, .fields #[(.str "__init__" 1014), (.str "Run.__init__" 1015), (.str "/claim/cut.py" 1016), (.int (246) 0), (.int (3) 0), (.int (0) 0), (.int (0) 0), (.int (3) 0), (.ref 624), (.bool true), (.int (181) 0), (.ref 625), .none, (.ref 626), (.ref 627), (.ref 628), (.int (1021) 0), (.int (246) 0), (.str "/claim/cut.py" 1022)], #[]⟩) ::
 (nat_lit 630, ⟨(.type "function"), none, .func (W.fnOf "__init__" "Run.__init__" (defArgs (inClass (top 36) 0)) (defBody (inClass (top 36) 0)) (defScope (inClass (top 36) 0)) .none .none .none (.str "hushrow.runner" 1000) none (.ref 629) .none), #[]⟩) ::
 (nat_lit 631, ⟨(.type "tuple"), none, .seq #[] 0, #[]⟩) ::
 (nat_lit 633, ⟨(.type "tuple"), none, .seq #[(.str "self" 1027), (.str "thing" 1028)] 0, #[]⟩) ::
 (nat_lit 634, ⟨(.type "tuple"), none, .seq #[] 0, #[]⟩) ::
 (nat_lit 636, ⟨(.type "code"), none, .fields #[(.str "number_at" 1024), (.str "Run.number_at" 1025), (.str "/claim/cut.py" 1026), (.int (253) 0), (.int (2) 0), (.int (0) 0), (.int (0) 0), (.int (3) 0), (.ref 631), (.bool true), (.int (181) 0), (.ref 632), .none, (.ref 633), (.ref 634), (.ref 635), (.int (1029) 0), (.int (253) 0), (.str "/claim/cut.py" 1030)], #[]⟩) ::
 (nat_lit 637, ⟨(.type "function"), none, .func (W.fnOf "number_at" "Run.number_at" (defArgs (inClass (top 36) 1)) (defBody (inClass (top 36) 1)) (defScope (inClass (top 36) 1)) .none .none .none (.str "hushrow.runner" 1000) none (.ref 636) .none), #[]⟩) ::
 (nat_lit 638, ⟨(.type "tuple"), none, .seq #[] 0, #[]⟩) ::
 (nat_lit 640, ⟨(.type "tuple"), none, .seq #[(.str "self" 1035), (.str "value" 1036), (.str "behind" 1037), (.str "numbers" 1038)] 0, #[]⟩) ::
 (nat_lit 641, ⟨(.type "tuple"), none, .seq #[] 0, #[]⟩) ::
 (nat_lit 643, ⟨(.type "code"), none, .fields #[(.str "number_for" 1032), (.str "Run.number_for" 1033), (.str "/claim/cut.py" 1034), (.int (256) 0), (.int (2) 0), (.int (0) 0), (.int (0) 0), (.int (3) 0), (.ref 638), (.bool true), (.int (181) 0), (.ref 639), .none, (.ref 640), (.ref 641), (.ref 642), (.int (1039) 0), (.int (256) 0), (.str "/claim/cut.py" 1040)], #[]⟩) ::
 (nat_lit 644, ⟨(.type "function"), none, .func (W.fnOf "number_for" "Run.number_for" (defArgs (inClass (top 36) 2)) (defBody (inClass (top 36) 2)) (defScope (inClass (top 36) 2)) .none .none .none (.str "hushrow.runner" 1000) none (.ref 643) .none), #[]⟩) ::
 (nat_lit 645, ⟨(.type "tuple"), none, .seq #[] 0, #[]⟩) ::
 (nat_lit 647, ⟨(.type "tuple"), none, .seq #[(.str "self" 1045), (.str "row" 1046)] 0, #[]⟩) ::
 (nat_lit 648, ⟨(.type "tuple"), none, .seq #[] 0, #[]⟩) ::
 (nat_lit 650, ⟨(.type "code"), none, .fields #[(.str "number_told" 1042), (.str "Run.number_told" 1043), (.str "/claim/cut.py" 1044), (.int (265) 0), (.int (2) 0), (.int (0) 0), (.int (0) 0), (.int (3) 0), (.ref 645), (.bool true), (.int (181) 0), (.ref 646), .none, (.ref 647), (.ref 648), (.ref 649), (.int (1047) 0), (.int (265) 0), (.str "/claim/cut.py" 1048)], #[]⟩) ::
 (nat_lit 651, ⟨(.type "function"), none, .func (W.fnOf "number_told" "Run.number_told" (defArgs (inClass (top 36) 3)) (defBody (inClass (top 36) 3)) (defScope (inClass (top 36) 3)) .none .none .none (.str "hushrow.runner" 1000) none (.ref 650) .none), #[]⟩) ::
 (nat_lit 652, ⟨(.type "tuple"), none, .seq #[] 0, #[]⟩) ::
 (nat_lit 654, ⟨(.type "tuple"), none, .seq #[(.str "self" 1053), (.str "count" 1054), (.str "book" 1055)] 0, #[]⟩) ::
 (nat_lit 655, ⟨(.type "tuple"), none, .seq #[] 0, #[]⟩) ::
 (nat_lit 657, ⟨(.type "code"), none, .fields #[(.str "pass_steps" 1050), (.str "Run.pass_steps" 1051), (.str "/claim/cut.py" 1052), (.int (270) 0), (.int (2) 0), (.int (0) 0), (.int (0) 0), (.int (3) 0), (.ref 652), (.bool true), (.int (181) 0), (.ref 653), .none, (.ref 654), (.ref 655), (.ref 656), (.int (1056) 0), (.int (270) 0), (.str "/claim/cut.py" 1057)], #[]⟩) ::
 (nat_lit 658, ⟨(.type "function"), none, .func (W.fnOf "pass_steps" "Run.pass_steps" (defArgs (inClass (top 36) 4)) (defBody (inClass (top 36) 4)) (defScope (inClass (top 36) 4)) .none .none .none (.str "hushrow.runner" 1000) none (.ref 657) .none), #[]⟩) ::
 (nat_lit 659, ⟨(.type "tuple"), none, .seq #[] 0, #[]⟩) ::
 (nat_lit 661, ⟨(.type "tuple"), none, .seq #[(.str "self" 1062), (.str "rows" 1063), (.str "ending" 1064), (.str "row" 1065)] 0, #[]⟩) ::
 (nat_lit 662, ⟨(.type "tuple"), none, .seq #[] 0, #[]⟩) ::
 (nat_lit 664, ⟨(.type "code"), none, .fields #[(.str "do_rows" 1059), (.str "Run.do_rows" 1060), (.str "/claim/cut.py" 1061), (.int (274) 0), (.int (2) 0), (.int (0) 0), (.int (0) 0), (.int (3) 0), (.ref 659), (.bool true), (.int (181) 0), (.ref 660), .none, (.ref 661), (.ref 662), (.ref 663), (.int (1066) 0), (.int (274) 0), (.str "/claim/cut.py" 1067)], #[]⟩) ::
 (nat_lit 665, ⟨(.type "function"), none, .func (W.fnOf "do_rows" "Run.do_rows" (defArgs (inClass (top 36) 5)) (defBody (inClass (top 36) 5)) (defScope (inClass (top 36) 5)) .none .none .none (.str "hushrow.runner" 1000) none (.ref 664) .none), #[]⟩) ::
 (nat_lit 666, ⟨(.type "tuple"), none, .seq #[] 0, #[]⟩) ::
 (nat_lit 668, ⟨(.type "tuple"), none, .seq #[(.str "self" 1072), (.str "row" 1073), (.str "book" 1074), (.str "told" 1075)] 0, #[]⟩) ::
 (nat_lit 669, ⟨(.type "tuple"), none, .seq #[] 0, #[]⟩) ::
 (nat_lit 671, ⟨(.type "code"), none, .fields #[(.str "do_row" 1069), (.str "Run.do_row" 1070), (.str "/claim/cut.py" 1071), (.int (281) 0), (.int (2) 0), (.int (0) 0), (.int (0) 0), (.int (3) 0), (.ref 666), (.bool true), (.int (181) 0), (.ref 667), .none, (.ref 668), (.ref 669), (.ref 670), (.int (1076) 0), (.int (281) 0), (.str "/claim/cut.py" 1077)], #[]⟩) ::
 (nat_lit 672, ⟨(.type "function"), none, .func (W.fnOf "do_row" "Run.do_row" (defArgs (inClass (top 36) 6)) (defBody (inClass (top 36) 6)) (defScope (inClass (top 36) 6)) .none .none .none (.str "hushrow.runner" 1000) none (.ref 671) .none), #[]⟩) ::
 (nat_lit 673, ⟨(.type "tuple"), none, .seq #[] 0, #[]⟩) ::
 (nat_lit 675, ⟨(.type "tuple"), none, .seq #[(.str "self" 1082), (.str "row" 1083), (.str "numbers" 1084)] 0, #[]⟩) ::
 (nat_lit 676, ⟨(.type "tuple"), none, .seq #[] 0, #[]⟩) ::
 (nat_lit 678, ⟨(.type "code"), none, .fields #[(.str "do_put" 1079), (.str "Run.do_put" 1080), (.str "/claim/cut.py" 1081), (.int (303) 0), (.int (2) 0), (.int (0) 0), (.int (0) 0), (.int (3) 0), (.ref 673), (.bool true), (.int (181) 0), (.ref 674), .none, (.ref 675), (.ref 676), (.ref 677), (.int (1085) 0), (.int (303) 0), (.str "/claim/cut.py" 1086)], #[]⟩) ::
 (nat_lit 679, ⟨(.type "function"), none, .func (W.fnOf "do_put" "Run.do_put" (defArgs (inClass (top 36) 7)) (defBody (inClass (top 36) 7)) (defScope (inClass (top 36) 7)) .none .none .none (.str "hushrow.runner" 1000) none (.ref 678) .none), #[]⟩) ::
 (nat_lit 680, ⟨(.type "tuple"), none, .seq #[] 0, #[]⟩) ::
 (nat_lit 683, ⟨(.type "code"), none, .fields #[(.str "do_call" 1088), (.str "Run.do_call" 1089), (.str "/claim/cut.py" 1090), (.int (307) 0), (.int (2) 0), (.int (0) 0), (.int (0) 0), (.int (3) 0), (.ref 680), (.bool true), (.int (181) 0), (.ref 681), .none, .none, .none, (.ref 682), (.int (1091) 0), (.int (307) 0), (.str "/claim/cut.py" 1092)], #[]⟩) ::
 (nat_lit 684, ⟨(.type "function"), none, .func (W.fnOf "do_call" "Run.do_call" (defArgs (inClass (top 36) 8)) (defBody (inClass (top 36) 8)) (defScope (inClass (top 36) 8)) .none .none .none (.str "hushrow.runner" 1000) none (.ref 683) .none), #[]⟩) ::
 (nat_lit 685, ⟨(.type "tuple"), none, .seq #[] 0, #[]⟩) ::
 (nat_lit 687, ⟨(.type "tuple"), none, .seq #[(.str "self" 1097), (.str "row" 1098), (.str "ending" 1099)] 0, #[]⟩) ::
 (nat_lit 688, ⟨(.type "tuple"), none, .seq #[] 0, #[]⟩) ::
 (nat_lit 690, ⟨(.type "code"), none, .fields #[(.str "do_if" 1094), (.str "Run.do_if" 1095), (.str "/claim/cut.py" 1096), (.int (314) 0), (.int (2) 0), (.int (0) 0), (.int (0) 0), (.int (3) 0), (.ref 685), (.bool true), (.int (181) 0), (.ref 686), .none, (.ref 687), (.ref 688), (.ref 689), (.int (1100) 0), (.int (314) 0), (.str "/claim/cut.py" 1101)], #[]⟩) ::
 (nat_lit 691, ⟨(.type "function"), none, .func (W.fnOf "do_if" "Run.do_if" (defArgs (inClass (top 36) 9)) (defBody (inClass (top 36) 9)) (defScope (inClass (top 36) 9)) .none .none .none (.str "hushrow.runner" 1000) none (.ref 690) .none), #[]⟩) ::
 (nat_lit 692, ⟨(.type "tuple"), none, .seq #[] 0, #[]⟩) ::
 (nat_lit 694, ⟨(.type "tuple"), none, .seq #[(.str "self" 1106), (.str "row" 1107), (.str "wanted" 1108), (.str "done" 1109), (.str "ending" 1110)] 0, #[]⟩) ::
 (nat_lit 695, ⟨(.type "tuple"), none, .seq #[] 0, #[]⟩) ::
 (nat_lit 697, ⟨(.type "code"), none, .fields #[(.str "do_loop" 1103), (.str "Run.do_loop" 1104), (.str "/claim/cut.py" 1105), (.int (323) 0), (.int (2) 0), (.int (0) 0), (.int (0) 0), (.int (3) 0), (.ref 692), (.bool true), (.int (181) 0), (.ref 693), .none, (.ref 694), (.ref 695), (.ref 696), (.int (1111) 0), (.int (323) 0), (.str "/claim/cut.py" 1112)], #[]⟩) ::
 (nat_lit 698, ⟨(.type "function"), none, .func (W.fnOf "do_loop" "Run.do_loop" (defArgs (inClass (top 36) 10)) (defBody (inClass (top 36) 10)) (defScope (inClass (top 36) 10)) .none .none .none (.str "hushrow.runner" 1000) none (.ref 697) .none), #[]⟩) ::
 (nat_lit 699, ⟨(.type "tuple"), none, .seq #[(.str "book" 1114), (.str "cells" 1115), (.str "deeds" 1116)] 0, #[]⟩) ::
 (nat_lit 700, ⟨(.type "dict"), none, .dict #[E P "__module__" 1009 (.str "hushrow.runner" 1000), E P "__firstlineno__" 1013 (.int (244) 1012), E P "__init__" 1023 (.ref 630), E P "number_at" 1031 (.ref 637), E P "number_for" 1041 (.ref 644), E P "number_told" 1049 (.ref 651), E P "pass_steps" 1058 (.ref 658), E P "do_rows" 1068 (.ref 665), E P "do_row" 1078 (.ref 672), E P "do_put" 1087 (.ref 679), E P "do_call" 1093 (.ref 684), E P "do_if" 1102 (.ref 691), E P "do_loop" 1113 (.ref 698), E P "__static_attributes__" 1117 (.ref 699), E P "__dict__" 1119 (.ref 702), E P "__weakref__" 1121 (.ref 703), E P "__doc__" 1122 .none] 4, #[]⟩) ::
 (nat_lit 701, ⟨(.type "type"), none, .cls { name := "Run", bases := [(.type "object")], mro := [(.ref 701), (.type "object")], ns := 700, qualname := "Run", hasDict := true, slotNames := [], subclasses := [], abstract := false, collection := none, hasDel := false }, #[none, none, (some (.str "Run" 1002)), (some (.str "Run" 1010)), (some (.builtin "object.__new__")), (some (.bool true))]⟩) ::
 (nat_lit 702, ⟨(.type "getset_descriptor"), none, .fields #[(.str "__dict__" 1118), (.ref 701), (.builtin "function.__dict__"), (.builtin "function.__dict__#set")], #[]⟩) ::
 (nat_lit 703, ⟨(.type "getset_descriptor"), none, .fields #[(.str "__weakref__" 1120), (.ref 701), (.builtin "ExceptionGroup.__weakref__"), .none], #[]⟩) ::
 (nat_lit 706, ⟨(.type "tuple"), none, .seq #[] 0, #[]⟩) ::
 (nat_lit 709, ⟨(.type "code"), none, .fields #[(.str "ends_of" 1125), (.str "ends_of" 1126), (.str "/claim/cut.py" 1127), (.int (333) 0), (.int (2) 0), (.int (0) 0), (.int (0) 0), (.int (3) 0), (.ref 706), (.bool true), (.int (181) 0), (.ref 707), .none, .none, .none, (.ref 708), (.int (1128) 0), (.int (333) 0), (.str "/claim/cut.py" 1129)], #[]⟩) ::
 (nat_lit 710, ⟨(.type "function"), none, .func (W.fnOf "ends_of" "ends_of" (defArgs (top 37)) (defBody (top 37)) (defScope (top 37)) .none .none .none (.str "hushrow.runner" 1000) none (.ref 709) .none), #[]⟩) ::
 (nat_lit 711, ⟨(.type "tuple"), none, .seq #[] 0, #[]⟩) ::
 (nat_lit 713, ⟨(.type "tuple"), none, .seq #[(.str "program" 1134), (.str "gifts" 1135), (.str "state" 1136), (.str "book" 1137)] 0, #[]⟩) ::
 (nat_lit 714, ⟨(.type "tuple"), none, .seq #[] 0, #[]⟩) ::
 (nat_lit 716, ⟨(.type "code"), none, .fields #[(.str "run" 1131), (.str "run" 1132), (.str "/claim/cut.py" 1133), (.int (335) 0), (.int (2) 0), (.int (0) 0), (.int (0) 0), (.int (3) 0), (.ref 711), (.bool true), (.int (181) 0), (.ref 712), .none, (.ref 713), (.ref 714), (.ref 715), (.int (1138) 0), (.int (335) 0), (.str "/claim/cut.py" 1139)], #[]⟩) ::
 (nat_lit 717, ⟨(.type "function"), none, .func (W.fnOf "run" "run" (defArgs (top 38)) (defBody (top 38)) (defScope (top 38)) .none .none .none (.str "hushrow.runner" 1000) none (.ref 716) .none), #[]⟩) ::
 (nat_lit 718, ⟨(.type "tuple"), none, .seq #[] 0, #[]⟩) ::
 (nat_lit 720, ⟨(.type "tuple"), none, .seq #[(.str "_law_script" 1146), (.str "_law_k" 1147)] 0, #[]⟩) ::
 (nat_lit 721, ⟨(.type "tuple"), none, .seq #[] 0, #[]⟩) ::
 (nat_lit 723, ⟨(.type "code"), none, .fields #[(.str "_law_cell_at" 1143), (.str "_law_cell_at" 1144), (.str "/claim/cut.py" 1145), (.int (342) 0), (.int (2) 0), (.int (0) 0), (.int (0) 0), (.int (3) 0), (.ref 718), (.bool true), (.int (181) 0), (.ref 719), .none, (.ref 720), (.ref 721), (.ref 722), (.int (1148) 0), (.int (342) 0), (.str "/claim/cut.py" 1149)], #[]⟩) ::
 (nat_lit 724, ⟨(.type "function"), none, .func (W.fnOf "_law_cell_at" "_law_cell_at" (defArgs (top 40)) (defBody (top 40)) (defScope (top 40)) .none .none .none (.str "law_hushrow_k21_what_a_run_begins_with" 1141) none (.ref 723) .none), #[]⟩) ::
 (nat_lit 725, ⟨(.type "tuple"), none, .seq #[] 0, #[]⟩) ::
 (nat_lit 727, ⟨(.type "tuple"), none, .seq #[(.str "_law_cell" 1154), (.str "_law_k" 1155), (.str "_law_letters" 1156), (.str "_law_way" 1157), (.str "_law_words" 1158), (.str "_law_size" 1159), (.str "_law_at" 1160), (.str "_law_stem" 1161)] 0, #[]⟩) ::
 (nat_lit 728, ⟨(.type "tuple"), none, .seq #[] 0, #[]⟩) ::
 (nat_lit 730, ⟨(.type "code"), none, .fields #[(.str "_law_name" 1151), (.str "_law_name" 1152), (.str "/claim/cut.py" 1153), (.int (346) 0), (.int (2) 0), (.int (0) 0), (.int (0) 0), (.int (3) 0), (.ref 725), (.bool true), (.int (181) 0), (.ref 726), .none, (.ref 727), (.ref 728), (.ref 729), (.int (1162) 0), (.int (346) 0), (.str "/claim/cut.py" 1163)], #[]⟩) ::
 (nat_lit 731, ⟨(.type "function"), none, .func (W.fnOf "_law_name" "_law_name" (defArgs (top 41)) (defBody (top 41)) (defScope (top 41)) .none .none .none (.str "law_hushrow_k21_what_a_run_begins_with" 1141) none (.ref 730) .none), #[]⟩) ::
 (nat_lit 732, ⟨(.type "tuple"), none, .seq #[] 0, #[]⟩) ::
 (nat_lit 734, ⟨(.type "tuple"), none, .seq #[(.str "_law_cell" 1168)] 0, #[]⟩) ::
 (nat_lit 735, ⟨(.type "tuple"), none, .seq #[] 0, #[]⟩) ::
 (nat_lit 737, ⟨(.type "code"), none, .fields #[(.str "_law_number" 1165), (.str "_law_number" 1166), (.str "/claim/cut.py" 1167), (.int (359) 0), (.int (1) 0), (.int (0) 0), (.int (0) 0), (.int (3) 0), (.ref 732), (.bool true), (.int (181) 0), (.ref 733), .none, (.ref 734), (.ref 735), (.ref 736), (.int (1169) 0), (.int (359) 0), (.str "/claim/cut.py" 1170)], #[]⟩) ::
 (nat_lit 738, ⟨(.type "function"), none, .func (W.fnOf "_law_number" "_law_number" (defArgs (top 42)) (defBody (top 42)) (defScope (top 42)) .none .none .none (.str "law_hushrow_k21_what_a_run_begins_with" 1141) none (.ref 737) .none), #[]⟩) ::
 (nat_lit 739, ⟨(.type "tuple"), none, .seq #[] 0, #[]⟩) ::
 (nat_lit 741, ⟨(.type "tuple"), none, .seq #[(.str "_law_script" 1175), (.str "_law_k" 1176), (.str "_law_cell" 1177), (.str "_law_name_here" 1178), (.str "_law_size" 1179)] 0, #[]⟩) ::
 (nat_lit 742, ⟨(.type "tuple"), none, .seq #[] 0, #[]⟩) ::
 (nat_lit 744, ⟨(.type "code"), none, .fields #[(.str "_law_head" 1172), (.str "_law_head" 1173), (.str "/claim/cut.py" 1174), (.int (365) 0), (.int (2) 0), (.int (0) 0), (.int (0) 0), (.int (3) 0), (.ref 739), (.bool true), (.int (181) 0), (.ref 740), .none, (.ref 741), (.ref 742), (.ref 743), (.int (1180) 0), (.int (365) 0), (.str "/claim/cut.py" 1181)], #[]⟩) ::
 (nat_lit 745, ⟨(.type "function"), none, .func (W.fnOf "_law_head" "_law_head" (defArgs (top 43)) (defBody (top 43)) (defScope (top 43)) .none .none .none (.str "law_hushrow_k21_what_a_run_begins_with" 1141) none (.ref 744) .none), #[]⟩) ::
 (nat_lit 746, ⟨(.type "tuple"), none, .seq #[] 0, #[]⟩) ::
 (nat_lit 748, ⟨(.type "tuple"), none, .seq #[(.str "_law_script" 1186), (.str "_law_many" 1187), (.str "_law_deeds_here" 1188), (.str "_law_at" 1189), (.str "_law_k" 1190), (.str "_law_j" 1191), (.str "_law_parts" 1192), (.str "_law_i" 1193)] 0, #[]⟩) ::
 (nat_lit 749, ⟨(.type "tuple"), none, .seq #[] 0, #[]⟩) ::
 (nat_lit 751, ⟨(.type "code"), none, .fields #[(.str "_law_deeds" 1183), (.str "_law_deeds" 1184), (.str "/claim/cut.py" 1185), (.int (376) 0), (.int (2) 0), (.int (0) 0), (.int (0) 0), (.int (3) 0), (.ref 746), (.bool true), (.int (181) 0), (.ref 747), .none, (.ref 748), (.ref 749), (.ref 750), (.int (1194) 0), (.int (376) 0), (.str "/claim/cut.py" 1195)], #[]⟩) ::
 (nat_lit 752, ⟨(.type "function"), none, .func (W.fnOf "_law_deeds" "_law_deeds" (defArgs (top 44)) (defBody (top 44)) (defScope (top 44)) .none .none .none (.str "law_hushrow_k21_what_a_run_begins_with" 1141) none (.ref 751) .none), #[]⟩) ::
 (nat_lit 753, ⟨(.type "tuple"), none, .seq #[] 0, #[]⟩) ::
 (nat_lit 755, ⟨(.type "tuple"), none, .seq #[(.str "_law_script" 1200), (.str "_law_k" 1201), (.str "_law_size" 1202), (.str "_law_some" 1203), (.str "_law_j" 1204)] 0, #[]⟩) ::
 (nat_lit 756, ⟨(.type "tuple"), none, .seq #[] 0, #[]⟩) ::
 (nat_lit 758, ⟨(.type "code"), none, .fields #[(.str "_law_gift" 1197), (.str "_law_gift" 1198), (.str "/claim/cut.py" 1199), (.int (388) 0), (.int (3) 0), (.int (0) 0), (.int (0) 0), (.int (3) 0), (.ref 753), (.bool true), (.int (181) 0), (.ref 754), .none, (.ref 755), (.ref 756), (.ref 757), (.int (1205) 0), (.int (388) 0), (.str "/claim/cut.py" 1206)], #[]⟩) ::
 (nat_lit 759, ⟨(.type "function"), none, .func (W.fnOf "_law_gift" "_law_gift" (defArgs (top 45)) (defBody (top 45)) (defScope (top 45)) .none .none .none (.str "law_hushrow_k21_what_a_run_begins_with" 1141) none (.ref 758) .none), #[]⟩) ::
 (nat_lit 760, ⟨(.type "tuple"), none, .seq #[] 0, #[]⟩) ::
 (nat_lit 762, ⟨(.type "tuple"), none, .seq #[(.str "_law_cell" 1211), (.str "_law_gift_here" 1212), (.str "_law_size" 1213), (.str "_law_bad" 1214), (.str "_law_some" 1215), (.str "_law_way" 1216)] 0, #[]⟩) ::
 (nat_lit 763, ⟨(.type "tuple"), none, .seq #[] 0, #[]⟩) ::
 (nat_lit 765, ⟨(.type "code"), none, .fields #[(.str "_law_odd" 1208), (.str "_law_odd" 1209), (.str "/claim/cut.py" 1210), (.int (395) 0), (.int (3) 0), (.int (0) 0), (.int (0) 0), (.int (3) 0), (.ref 760), (.bool true), (.int (181) 0), (.ref 761), .none, (.ref 762), (.ref 763), (.ref 764), (.int (1217) 0), (.int (395) 0), (.str "/claim/cut.py" 1218)], #[]⟩) ::
 (nat_lit 766, ⟨(.type "function"), none, .func (W.fnOf "_law_odd" "_law_odd" (defArgs (top 46)) (defBody (top 46)) (defScope (top 46)) .none .none .none (.str "law_hushrow_k21_what_a_run_begins_with" 1141) none (.ref 765) .none), #[]⟩) ::
 (nat_lit 767, ⟨(.type "tuple"), none, .seq #[] 0, #[]⟩) ::
 (nat_lit 770, ⟨(.type "code"), none, .fields #[(.str "_law_same" 1220), (.str "_law_same" 1221), (.str "/claim/cut.py" 1222), (.int (413) 0), (.int (2) 0), (.int (0) 0), (.int (0) 0), (.int (3) 0), (.ref 767), (.bool true), (.int (181) 0), (.ref 768), .none, .none, .none, (.ref 769), (.int (1223) 0), (.int (413) 0), (.str "/claim/cut.py" 1224)], #[]⟩) ::
 (nat_lit 771, ⟨(.type "function"), none, .func (W.fnOf "_law_same" "_law_same" (defArgs (top 47)) (defBody (top 47)) (defScope (top 47)) .none .none .none (.str "law_hushrow_k21_what_a_run_begins_with" 1141) none (.ref 770) .none), #[]⟩) ::
 (nat_lit 772, ⟨(.type "tuple"), none, .seq #[] 0, #[]⟩) ::
 (nat_lit 774, ⟨(.type "tuple"), none, .seq #[(.str "_law_program" 1229), (.str "_law_gifts" 1230), (.str "_law_way" 1231), (.str "_law_told" 1232), (.str "e" 1233)] 0, #[]⟩) ::
 (nat_lit 775, ⟨(.type "tuple"), none, .seq #[] 0, #[]⟩) ::
 (nat_lit 777, ⟨(.type "code"), none, .fields #[(.str "_law_refused" 1226), (.str "_law_refused" 1227), (.str "/claim/cut.py" 1228), (.int (427) 0), (.int (3) 0), (.int (0) 0), (.int (0) 0), (.int (3) 0), (.ref 772), (.bool true), (.int (181) 0), (.ref 773), .none, (.ref 774), (.ref 775), (.ref 776), (.int (1234) 0), (.int (427) 0), (.str "/claim/cut.py" 1235)], #[]⟩) ::
 (nat_lit 778, ⟨(.type "function"), none, .func (W.fnOf "_law_refused" "_law_refused" (defArgs (top 48)) (defBody (top 48)) (defScope (top 48)) .none .none .none (.str "law_hushrow_k21_what_a_run_begins_with" 1141) none (.ref 777) .none), #[]⟩) ::
 (nat_lit 779, ⟨(.type "tuple"), none, .seq #[] 0, #[]⟩) ::
 (nat_lit 781, ⟨(.type "tuple"), none, .seq #[(.str "_law_program" 1240), (.str "_law_gifts" 1241), (.str "_law_due" 1242), (.str "_law_kept" 1243), (.str "_law_name_here" 1244), (.str "_law_found" 1245)] 0, #[]⟩) ::
 (nat_lit 782, ⟨(.type "tuple"), none, .seq #[] 0, #[]⟩) ::
 (nat_lit 784, ⟨(.type "code"), none, .fields #[(.str "_law_twice" 1237), (.str "_law_twice" 1238), (.str "/claim/cut.py" 1239), (.int (445) 0), (.int (3) 0), (.int (0) 0), (.int (0) 0), (.int (3) 0), (.ref 779), (.bool true), (.int (181) 0), (.ref 780), .none, (.ref 781), (.ref 782), (.ref 783), (.int (1246) 0), (.int (445) 0), (.str "/claim/cut.py" 1247)], #[]⟩) ::
 (nat_lit 785, ⟨(.type "function"), none, .func (W.fnOf "_law_twice" "_law_twice" (defArgs (top 49)) (defBody (top 49)) (defScope (top 49)) .none .none .none (.str "law_hushrow_k21_what_a_run_begins_with" 1141) none (.ref 784) .none), #[]⟩) ::
 (nat_lit 786, ⟨(.type "tuple"), none, .seq #[] 0, #[]⟩) ::
 (nat_lit 788, ⟨(.type "tuple"), none, .seq #[(.str "_law_heads" 1252), (.str "_law_deeds_here" 1253), (.str "_law_script" 1254), (.str "_law_due" 1255), (.str "_law_gifts" 1256), (.str "_law_k" 1257), (.str "_law_row" 1258), (.str "_law_deed" 1259), (.str "_law_part" 1260)] 0, #[]⟩) ::
 (nat_lit 789, ⟨(.type "tuple"), none, .seq #[] 0, #[]⟩) ::
 (nat_lit 791, ⟨(.type "code"), none, .fields #[(.str "_law_dues" 1249), (.str "_law_dues" 1250), (.str "/claim/cut.py" 1251), (.int (459) 0), (.int (3) 0), (.int (0) 0), (.int (0) 0), (.int (3) 0), (.ref 786), (.bool true), (.int (181) 0), (.ref 787), .none, (.ref 788), (.ref 789), (.ref 790), (.int (1261) 0), (.int (459) 0), (.str "/claim/cut.py" 1262)], #[]⟩) ::
 (nat_lit 792, ⟨(.type "function"), none, .func (W.fnOf "_law_dues" "_law_dues" (defArgs (top 50)) (defBody (top 50)) (defScope (top 50)) .none .none .none (.str "law_hushrow_k21_what_a_run_begins_with" 1141) none (.ref 791) .none), #[]⟩) ::
 (nat_lit 793, ⟨(.type "tuple"), none, .seq #[] 0, #[]⟩) ::
 (nat_lit 796, ⟨(.type "code"), none, .fields #[(.str "law" 1264), (.str "law" 1265), (.str "/claim/cut.py" 1266), (.int (476) 0), (.int (1) 0), (.int (0) 0), (.int (0) 0), (.int (3) 0), (.ref 793), (.bool true), (.int (181) 0), (.ref 794), .none, .none, .none, (.ref 795), (.int (1267) 0), (.int (476) 0), (.str "/claim/cut.py" 1268)], #[]⟩) ::
 (nat_lit 797, ⟨(.type "function"), none, .func (W.fnOf "law" "law" (defArgs (top 51)) (defBody (top 51)) (defScope (top 51)) .none .none .none (.str "law_hushrow_k21_what_a_run_begins_with" 1141) none (.ref 796) .none), #[]⟩) :: []
noncomputable def keysK : List Addr := [2, 3, 15, 17, 18, 20, 21, 22, 29, 30, 31, 32, 35, 42, 44, 45, 47, 48, 49, 50, 51, 54, 61, 63, 64, 66, 67, 68, 69, 70, 73, 80, 82, 83, 85, 86, 87, 88, 89, 99, 101, 102, 104, 105, 106, 108, 109, 111, 112, 113, 115, 116, 118, 119, 120, 121, 122, 123, 124, 127, 134, 136, 137, 139, 140, 141, 143, 144, 146, 147, 148, 149, 150, 153, 160, 162, 163, 165, 166, 167, 169, 170, 172, 173, 174, 175, 176, 179, 186, 188, 189, 191, 192, 193, 195, 196, 198, 199, 200, 201, 202, 205, 212, 214, 215, 217, 218, 219, 221, 222, 224, 225, 226, 227, 228, 231, 238, 240, 241, 243, 244, 245, 247, 248, 250, 251, 252, 254, 255, 257, 258, 259, 261, 262, 264, 265, 266, 267, 268, 271, 278, 280, 281, 283, 284, 285, 287, 288, 290, 291, 292, 294, 295, 297, 298, 299, 301, 302, 304, 305, 306, 307, 308, 311, 318, 320, 321, 323, 324, 325, 327, 328, 330, 331, 332, 334, 335, 337, 338, 339, 340, 341, 344, 351, 353, 354, 356, 357, 358, 360, 361, 363, 364, 365, 367, 368, 370, 371, 372, 374, 375, 377, 378, 379, 380, 381, 384, 391, 393, 394, 396, 397, 398, 400, 401, 403, 404, 405, 407, 408, 410, 411, 412, 413, 414, 417, 424, 426, 427, 429, 430, 431, 432, 433, 436, 443, 445, 446, 448, 449, 450, 452, 453, 455, 456, 457, 459, 460, 462, 463, 464, 465, 466, 469, 476, 478, 479, 481, 482, 483, 485, 486, 488, 489, 490, 492, 493, 495, 496, 497, 498, 499, 502, 509, 511, 512, 514, 515, 516, 518, 519, 521, 522, 523, 524, 525, 535, 537, 538, 540, 541, 542, 543, 544, 545, 546, 549, 551, 552, 554, 555, 556, 559, 560, 561, 563, 564, 566, 567, 568, 570, 571, 573, 574, 575, 577, 578, 580, 581, 589, 591, 592, 594, 595, 596, 597, 598, 599, 600, 603, 605, 606, 608, 609, 610, 612, 613, 615, 616, 624, 626, 627, 629, 630, 631, 633, 634, 636, 637, 638, 640, 641, 643, 644, 645, 647, 648, 650, 651, 652, 654, 655, 657, 658, 659, 661, 662, 664, 665, 666, 668, 669, 671, 672, 673, 675, 676, 678, 679, 680, 683, 684, 685, 687, 688, 690, 691, 692, 694, 695, 697, 698, 699, 700, 701, 702, 703, 706, 709, 710, 711, 713, 714, 716, 717, 718, 720, 721, 723, 724, 725, 727, 728, 730, 731, 732, 734, 735, 737, 738, 739, 741, 742, 744, 745, 746, 748, 749, 751, 752, 753, 755, 756, 758, 759, 760, 762, 763, 765, 766, 767, 770, 771, 772, 774, 775, 777, 778, 779, 781, 782, 784, 785, 786, 788, 789, 791, 792, 793, 796, 797]
theorem keysK_eq (P : Params) : keysK = (heapK P).map (·.1) := by kernel_rfl
noncomputable abbrev prog : Program := PySem.Challenge.pw_hushrow_k21_what_a_run_begins_with
noncomputable abbrev law : W.OpenLaw := PySem.Challenge.rw_hushrow_k21_what_a_run_begins_with
noncomputable def seenAt : Program := { prog with main := { prog.main with body := [top 0, top 2, top 3, top 4, top 5, top 7, top 8, top 9, top 10, top 11, top 12, top 13, top 14, top 15, top 16, top 17, top 18, top 19, top 20, top 21, top 23, top 24, top 25, top 26, top 27, top 28, top 30, top 32, top 33, top 34, top 36, top 37, top 38, top 40, top 41, top 42, top 43, top 44, top 45, top 46, top 47, top 48, top 49, top 50, top 51] } }
noncomputable abbrev hook : W.Hook := W.kHook heapK keysK keysK_eq
noncomputable abbrev test : Shared → Bool := fun s => xlAt seenAt [] s && recOk (RowW.records law.row.toRowW) s
noncomputable abbrev seenK : Shared → List (Option Obj) := fun s => keysK.map s.heap.get?
noncomputable abbrev dueK : World → List (Option Obj) := fun w => (heapK w.params).map fun p => some p.2
noncomputable def T₀ (P : Params) : BT := Hd.treeOf (boot_heap P).objs.toList 0 .nil
noncomputable def lookL (w : World) (os : OsState) := (Hd.runT treeTable prog w 11 (some (.ref 6)) 13918 ⟨T₀ w.params, 11, {}, Array.mk [], boot_drawn, boot_toks, os⟩ (topStub prog)).map fun s => Hd.looks1 prog seenAt [] test true (boot_heap w.params) s.abs
noncomputable def lookR (w : World) (os : OsState) := some (true, openGood seenAt [])
noncomputable def lookM (w : World) (os : OsState) := (Hd.runT treeTable prog w 11 (some (.ref 6)) 13918 ⟨T₀ w.params, 11, {}, Array.mk [], boot_drawn, boot_toks, os⟩ (topStub prog)).map fun s => seenK s.abs
noncomputable def lookS (w : World) (os : OsState) := some (dueK w)
theorem lookL_self : lookL = lookL := rfl
theorem lookR_self : lookR = lookR := rfl
theorem lookM_self : lookM = lookM := rfl
theorem lookS_self : lookS = lookS := rfl
end K21
lay_quick K21.lookL K21.lookR K21.lookM K21.lookS
name_quick K21lookL for K21.lookL by K21.lookL_self
name_quick K21lookR for K21.lookR by K21.lookR_self
name_quick K21lookM for K21.lookM by K21.lookM_self
name_quick K21lookS for K21.lookS by K21.lookS_self
namespace K21
open PySem L2 PySem.W
theorem looks_quick : W.Fast.K21lookL = W.Fast.K21lookR := by kernel_rfl
theorem looks_quick2 : W.Fast.K21lookM = W.Fast.K21lookS := by kernel_rfl
theorem looks_same : lookL = lookR := W.Fast.K21lookL_eq.trans (looks_quick.trans W.Fast.K21lookR_eq.symm)
theorem looks_same2 : lookM = lookS := W.Fast.K21lookM_eq.trans (looks_quick2.trans W.Fast.K21lookS_eq.symm)
theorem tree_is (P : Params) : absHeap (T₀ P) 11 {} = boot_heap P := by kernel_rfl
theorem size_is (w : World) : ((boot_heap w.params).isNs mainGlobals && (Array.mk [] : Array GenState).size == 0, (boot_heap w.params).objs.size, (boot_heap w.params).nsMap mainGlobals "__annotations__") = (true, 11, some (.ref 6)) := by kernel_rfl
theorem left : LeftO prog seenAt [] test hook.obs hook.val 13918 := Hd.left_of2 (boot_open (p := prog) (N := 13918) (by kernel_rfl) rfl (fun _ => rfl)) size_is tree_is (fun w os => congrFun (congrFun looks_same w) os) (fun w os => congrFun (congrFun looks_same2 w) os)
end K21

set_option Elab.async false
set_option linter.all false
set_option maxRecDepth 100000
namespace L2
open PySem PySem.Spec PyProof.Rows
abbrev Key := Sum Int Str
def keyIs : Key → Value → Bool
  | .inl k, v => Value.isInt k v
  | .inr x, v => Value.isStrOf x v
def keyH (w : World) : Key → Int
  | .inl k => hashInt k
  | .inr x => hashStr w x
theorem keyIs_shape : ∀ {k : Key} {v : Value}, keyIs k v = true → (∃ i t, k = Sum.inl i ∧ v = Value.int i t) ∨ (∃ x t, k = Sum.inr x ∧ v = Value.str x t)
  | .inl i, v, h => by
    obtain ⟨t, e⟩ := Value.isInt_shape (k := i) (v := v) h
    exact .inl ⟨i, t, rfl, e⟩
  | .inr x, v, h => by
    obtain ⟨t, e⟩ := Value.isStrOf_shape (x := x) (v := v) h
    exact .inr ⟨x, t, rfl, e⟩
theorem keyIs_int (i : Int) (t : Tok) : keyIs (.inl i) (.int i t) = true := by simp [keyIs, Value.isInt]
theorem keyIs_str (x : Str) (t : Tok) : keyIs (.inr x) (.str x t) = true := by simp [keyIs, Value.isStrOf]
theorem key_ll (a b : Int) : decide ((Sum.inl a : Key) = Sum.inl b) = (a == b) := by
  by_cases e : a = b
  · subst e; simp
  · have h : ¬ (Sum.inl a : Key) = Sum.inl b := fun q => e (Sum.inl.inj q)
    rw [decide_eq_false h]
    exact (beq_eq_false_iff_ne.mpr e).symm
theorem key_rr (a b : Str) : decide ((Sum.inr a : Key) = Sum.inr b) = decide (a = b) := by
  by_cases e : a = b
  · subst e; simp
  · have h : ¬ (Sum.inr a : Key) = Sum.inr b := fun q => e (Sum.inr.inj q)
    rw [decide_eq_false h, decide_eq_false e]
theorem key_lr (a : Int) (b : Str) : decide ((Sum.inl a : Key) = Sum.inr b) = false := decide_eq_false (fun q => nomatch q)
theorem key_rl (a : Str) (b : Int) : decide ((Sum.inr a : Key) = Sum.inl b) = false := decide_eq_false (fun q => nomatch q)
def mixKind (prog : Program) (w : World) : PySem.KeyKind prog w Key where
  is := keyIs
  hash := keyH w
  inj := fun v a b ha hb => by
    rcases keyIs_shape ha with ⟨i, t, rfl, rfl⟩ | ⟨x, t, rfl, rfl⟩
    · rcases keyIs_shape hb with ⟨j, u, rfl, e⟩ | ⟨y, u, rfl, e⟩
      · injection e with e1 _; rw [e1]
      · exact nomatch e
    · rcases keyIs_shape hb with ⟨j, u, rfl, e⟩ | ⟨y, u, rfl, e⟩
      · exact nomatch e
      · injection e with e1 _; rw [e1]
  byValue := fun k v h => by
    rcases keyIs_shape h with ⟨i, t, rfl, rfl⟩ | ⟨x, t, rfl, rfl⟩ <;> rfl
  pyHash := fun hv h => by
    rcases keyIs_shape hv with ⟨i, t, rfl, rfl⟩ | ⟨x, t, rfl, rfl⟩
    · exact wpAny_pyHash_int h
    · exact wpAny_pyHash_str h
  eqBool := fun hu hv h => by
    rcases keyIs_shape hu with ⟨i, t, rfl, rfl⟩ | ⟨x, t, rfl, rfl⟩
    · rcases keyIs_shape hv with ⟨j, u, rfl, rfl⟩ | ⟨y, u, rfl, rfl⟩
      · rw [key_ll] at h; exact wpAny_eqBool_int h
      · rw [key_lr] at h; exact SeqAt.EqAt.int_str i t y u _ _ _ _ h
    · rcases keyIs_shape hv with ⟨j, u, rfl, rfl⟩ | ⟨y, u, rfl, rfl⟩
      · rw [key_rl] at h; exact SeqAt.EqAt.str_int x t j u _ _ _ _ h
      · rw [key_rr] at h; exact wpAny_eqBool_str h
  «strs» := fun k x t v h => by
    rcases keyIs_shape h with ⟨i, u, rfl, e⟩ | ⟨y, u, rfl, e⟩
    · exact nomatch e
    · injection e with e1 _
      subst e1
      cases v <;> rfl
theorem mixKind_int (prog : Program) (w : World) (i : Int) (t : Tok) : (mixKind prog w).is (.inl i) (.int i t) = true := keyIs_int i t
theorem mixKind_str (prog : Program) (w : World) (x : Str) (t : Tok) : (mixKind prog w).is (.inr x) (.str x t) = true := keyIs_str x t
end L2
namespace L2
open PySem PySem.Spec PyProof.Rows
inductive V where
  | non | bl (b : Bool) | int (i : Int) | str (x : Str) | byt (b : Array UInt8) | flt (b : UInt64) | ref (a : Addr) | ty (n : String)
  deriving DecidableEq
def RelV : V → Value → Prop
  | .non, u => u = Value.none
  | .bl b, u => u = Value.bool b
  | .int i, u => ∃ t, u = Value.int i t
  | .str x, u => ∃ t, u = Value.str x t
  | .byt b, u => ∃ t, u = Value.bytes b t
  | .flt b, u => ∃ t, u = Value.float b t
  | .ref a, u => u = Value.ref a
  | .ty n, u => u = Value.type n
abbrev Vals : List V → List Value → Prop := Paired RelV
theorem Vals.length {xs : List V} {us : List Value} (r : Vals xs us) : xs.length = us.length := Paired.length r
theorem Vals.get : ∀ {xs : List V} {us : List Value} {i : Nat} {x : V}, Vals xs us → xs[i]? = some x → ∃ u, us[i]? = some u ∧ RelV x u
  | _, _, _, _, .nil, e => by simp at e
  | _, _, 0, _, .cons r _, e => by simp at e; subst e; exact ⟨_, rfl, r⟩
  | _, _, i + 1, x, .cons _ t, e => by
    obtain ⟨u, h1, h2⟩ := Vals.get (i := i) (x := x) t (by simpa using e)
    exact ⟨u, by simpa using h1, h2⟩
theorem Vals.set {x : V} {u : Value} (r : RelV x u) : ∀ {xs : List V} {us : List Value} (i : Nat), Vals xs us → Vals (xs.set i x) (us.set i u)
  | _, _, _, .nil => .nil
  | _, _, 0, .cons _ t => .cons r t
  | _, _, i + 1, .cons q t => .cons q (Vals.set r i t)
theorem Vals.append : ∀ {xs ys : List V} {us ws : List Value}, Vals xs us → Vals ys ws → Vals (xs ++ ys) (us ++ ws)
  | _, _, _, _, .nil, s => s
  | _, _, _, _, .cons r t, s => .cons r (Vals.append t s)
theorem Vals.take : ∀ {xs : List V} {us : List Value} (n : Nat), Vals xs us → Vals (xs.take n) (us.take n)
  | _, _, 0, _ => .nil
  | _, _, _ + 1, .nil => .nil
  | _, _, n + 1, .cons r t => .cons r (Vals.take n t)
theorem Vals.drop : ∀ {xs : List V} {us : List Value} (n : Nat), Vals xs us → Vals (xs.drop n) (us.drop n)
  | _, _, 0, r => r
  | _, _, _ + 1, .nil => .nil
  | _, _, n + 1, .cons _ t => Vals.drop n t
def RelO : Option V → Option Value → Prop
  | some v, some u => RelV v u
  | none, none => True
  | _, _ => False
def KV {κ : Type} : List (κ × V) → List (κ × Value) → Prop := Paired fun (p : κ × V) (q : κ × Value) => p.1 = q.1 ∧ RelV p.2 q.2
def kV : Key → V
  | .inl i => .int i
  | .inr x => .str x
inductive HO where
  | lst (xs : List V)
  | tup (xs : List V)
  | dK (kvs : List (Key × V)) | dT (kvs : List (List Key × V))
  | set (S : Int → Bool) (n : Nat)
  | ins (C dx : Addr) (fs : List (Str × V))
  | own (x : Addr)
  | xd (fs : List (Str × V))
  | met (f x : Addr)
  | rng (lo hi : Int)
  | frz (o : Obj) (u : HO)
  | tbl (ps : Array Value)
  | ext (φ : Heap → Prop)
abbrev Hp := Addr → Option HO
def upd (H : Hp) (a : Addr) (o : HO) : Hp := fun b => if b = a then some o else H b
theorem upd_same {H : Hp} {a : Addr} {o : HO} : upd H a o a = some o := by unfold upd; rw [if_pos rfl]
theorem upd_ne {H : Hp} {a b : Addr} {o : HO} (h : b ≠ a) : upd H a o b = H b := by unfold upd; rw [if_neg h]
theorem upd_upd {H : Hp} {a : Addr} {o u : HO} : upd (upd H a o) a u = upd H a u := by
  funext b; unfold upd; split <;> rfl
theorem ne_of {H : Hp} {a b : Addr} {o u : HO} (h : H a = some o) (h' : H b = some u) (d : o ≠ u) : a ≠ b := by
  intro e; subst e; rw [h] at h'; exact d (Option.some.inj h')
theorem ne_of_none {H : Hp} {a b : Addr} {o : HO} (h : H a = some o) (h' : H b = none) : a ≠ b := by
  intro e; subst e; rw [h] at h'; cases h'
section
variable (P : Program) (w : World)
def ObjOk (H : Hp) (h : Heap) (a : Addr) : HO → Prop
  | .lst xs => xs.length ≤ sizeLine ∧ ∃ (its : List Value) (n : Nat), Vals xs its ∧ h.get? a = some { cls := .type "list", data := .seq its.toArray n }
  | .tup xs => xs.length ≤ sizeLine ∧ ∃ its : List Value, Vals xs its ∧ IsTup h a its.toArray
  | .dK kvs => kvs.length ≤ sizeLine ∧ (a == sysModules) = false ∧ ∃ vs, KV kvs vs ∧ h.DictOf (mixKind P w) a vs
  | .dT kvs => kvs.length ≤ sizeLine ∧ (a == sysModules) = false ∧ ∃ xs : List (List Key × Addr × Value),
      Paired (fun (p : List Key × V) (q : List Key × Addr × Value) => p.1 = q.1 ∧ H q.2.1 = some (.tup (p.1.map kV)) ∧ RelV p.2 q.2.2) kvs xs ∧
      ∃ o es ep, h.get? a = some o ∧ o.ExactDict ∧ o.data = .dict es ep ∧ es.toList = xs.map (entryOfKey (tupleKind (mixKind P w))) ∧ (xs.map (·.1)).Nodup
  | .set S n => h.SetOf (intKind P w) a S n
  | .ins C dx fs => H dx = some (.own a) ∧ fs.length ≤ 1000 ∧ dx ≠ a ∧ h.get? a = some (PySem.W.instObj C dx) ∧
      ∃ mA, h.Ns1 dx mA ∧ (∀ f, RelO (fs.lookup f) (mA f)) ∧ PySem.Within mA (fs.map (·.1))
  | .own _ => ∃ o, h.get? a = some o
  | .xd fs => ∃ mA, h.Ns1 a mA ∧ ∀ f, RelO (fs.lookup f) (mA f)
  | .rng lo hi => ∃ t u v, h.get? a = some { cls := .type "range", data := .fields #[.int lo t, .int hi u, .int 1 v] }
  | .frz o u => h.get? a = some o ∧ ObjOk H h a u
  | .tbl ps => h.get? a = some { cls := .none, data := .fields ps }
  | .met f x => h.get? a = some (PySem.W.methodObj (.ref f) (.ref x))
  | .ext φ => φ h ∧ (∃ o, h.get? a = some o) ∧ ∀ h1 h2 : Heap, φ h1 → (∀ o, h1.get? a = some o → h2.get? a = some o) → φ h2
def HOk (H : Hp) (h : Heap) : Prop := ∀ a o, H a = some o → ObjOk P w H h a o
end
section
variable {P : Program} {w : World} {H H' : Hp} {h h' : Heap} {a : Addr} {o : HO}
theorem ObjOk.lt (x : ObjOk P w H h a o) : a < h.objs.size := by
  cases o with
  | lst xs => obtain ⟨_, _, _, _, e⟩ := x; exact Heap.lt_size e
  | tup xs => obtain ⟨_, _, _, p⟩ := x; exact p.lt
  | dK kvs => obtain ⟨_, _, _, _, o, _, _, e, _⟩ := x; exact Heap.lt_size e
  | dT kvs => obtain ⟨_, _, _, _, o, _, _, e, _⟩ := x; exact Heap.lt_size e
  | set S n => obtain ⟨o, _, _, _, e, _⟩ := x; exact Heap.lt_size e
  | ins C dx fs => obtain ⟨_, _, _, e, _⟩ := x; exact Heap.lt_size e
  | own y => obtain ⟨_, e⟩ := x; exact Heap.lt_size e
  | xd fs => obtain ⟨_, ⟨_, _, _, e, _⟩, _⟩ := x; exact Heap.lt_size e
  | rng lo hi => obtain ⟨_, _, _, e⟩ := x; exact Heap.lt_size e
  | frz ob u => obtain ⟨e, _⟩ := x; exact Heap.lt_size e
  | tbl ps => exact Heap.lt_size (show h.get? a = some _ from x)
  | met f y => exact Heap.lt_size (show h.get? a = some _ from x)
  | ext φ => obtain ⟨_, ⟨_, e⟩, _⟩ := x; exact Heap.lt_size e
theorem Paired.mapP {α β : Type} {F G : α → β → Prop} : ∀ {l₁ : List α} {l₂ : List β}, Paired F l₁ l₂ → (∀ a b, F a b → G a b) → Paired G l₁ l₂
  | _, _, .nil, _ => .nil
  | _, _, .cons r t, f => .cons (f _ _ r) (Paired.mapP t f)
theorem ObjOk.stay (x : ObjOk P w H h a o) (k : ∀ b u, (b = a ∨ H b = some (.own a)) → h.get? b = some u → h'.get? b = some u)
    (ho : ∀ b, H b = some (.own a) → H' b = some (.own a)) (ht : ∀ b xs, H b = some (.tup xs) → H' b = some (.tup xs)) : ObjOk P w H' h' a o := by
  induction o with
  | lst xs => obtain ⟨z, its, n, r, e⟩ := x; exact ⟨z, its, n, r, k _ _ (.inl rfl) e⟩
  | tup xs => obtain ⟨z, its, r, ob, e, c⟩ := x; exact ⟨z, its, r, ob, k _ _ (.inl rfl) e, c⟩
  | dK kvs => obtain ⟨z, y, vs, r, ob, es, ep, e, c⟩ := x; exact ⟨z, y, vs, r, ob, es, ep, k _ _ (.inl rfl) e, c⟩
  | dT kvs =>
    obtain ⟨z, y, xs, r, ob, es, ep, e, c⟩ := x
    exact ⟨z, y, xs, Paired.mapP r fun p q z => ⟨z.1, ht _ _ z.2.1, z.2.2⟩, ob, es, ep, k _ _ (.inl rfl) e, c⟩
  | set S n => obtain ⟨ob, es, ep, t, e, c⟩ := x; exact ⟨ob, es, ep, t, k _ _ (.inl rfl) e, c⟩
  | ins C dx fs =>
    obtain ⟨d, z, ne, e, mA, ⟨od, es, ep, e2, c⟩, r⟩ := x
    exact ⟨ho _ d, z, ne, k _ _ (.inl rfl) e, mA, ⟨od, es, ep, k _ _ (.inr d) e2, c⟩, r⟩
  | own y => obtain ⟨ob, e⟩ := x; exact ⟨ob, k _ _ (.inl rfl) e⟩
  | xd fs => obtain ⟨mA, ⟨od, es, ep, e, c⟩, r⟩ := x; exact ⟨mA, ⟨od, es, ep, k _ _ (.inl rfl) e, c⟩, r⟩
  | rng lo hi => obtain ⟨t, u, v, e⟩ := x; exact ⟨t, u, v, k _ _ (.inl rfl) e⟩
  | frz ob u ih => obtain ⟨e, q⟩ := x; exact ⟨k _ _ (.inl rfl) e, ih q⟩
  | tbl ps =>
    have e : h.get? a = some { cls := .none, data := .fields ps } := x
    show h'.get? a = some { cls := .none, data := .fields ps }
    exact k a _ (.inl rfl) e
  | met f y =>
    have e : h.get? a = some (PySem.W.methodObj (.ref f) (.ref y)) := x
    show h'.get? a = some (PySem.W.methodObj (.ref f) (.ref y))
    exact k a _ (.inl rfl) e
  | ext φ => obtain ⟨p, ⟨o, e⟩, st⟩ := x; exact ⟨st _ _ p fun o q => k _ _ (.inl rfl) q, ⟨o, k _ _ (.inl rfl) e⟩, st⟩
theorem HOk.lt (x : HOk P w H h) (e : H a = some o) : a < h.objs.size := (x a o e).lt
theorem HOk.fresh (x : HOk P w H h) (e : h.objs.size ≤ a) : H a = none := by
  cases q : H a with
  | none => rfl
  | some u => exact absurd (Nat.lt_of_lt_of_le (x.lt q) e) (Nat.lt_irrefl _)
theorem HOk.kept (x : HOk P w H h) (k : ∀ b u, h.get? b = some u → h'.get? b = some u) : HOk P w H h' := fun a o e =>
  (x a o e).stay (fun b u _ q => k b u q) (fun _ q => q) fun _ _ q => q
theorem HOk.laid (x : HOk P w H h) (k : ∀ b u, h.get? b = some u → h'.get? b = some u) (hp : h.objs.size ≤ a) (new : ObjOk P w (upd H a o) h' a o) : HOk P w (upd H a o) h' := fun b u e => by
  have hn := x.fresh hp
  by_cases hb : b = a
  · subst hb; rw [upd_same] at e; cases e; exact new
  · rw [upd_ne hb] at e
    exact (x b u e).stay (fun c v _ q => k c v q) (fun c q => by rw [upd_ne (ne_of_none q hn)]; exact q) fun c xs q => by rw [upd_ne (ne_of_none q hn)]; exact q
end
def Rd (H : Hp) (a : Addr) (u : HO) : Prop := H a = some u ∨ ∃ o, H a = some (.frz o u)
theorem Rd.ok {P : Program} {w : World} {H : Hp} {h : Heap} {a : Addr} {u : HO} (r : Rd H a u) (x : HOk P w H h) : ObjOk P w H h a u := by
  rcases r with r | ⟨o, r⟩
  · exact x a u r
  · obtain ⟨_, q⟩ := x a _ r
    exact q
def Mut : Option HO → Prop
  | some (.lst _) => True
  | some (.dK _) => True
  | some (.dT _) => True
  | some (.set _ _) => True
  | some (.ins _ _ _) => True
  | some (.ext _) => True
  | _ => False
section
variable {P : Program} {w : World} {H : Hp} {h h' : Heap} {x e : Addr} {o' : HO}
theorem HOk.write (ok : HOk P w H h) (mu : Mut (H x)) (he : e = x ∨ H e = some (.own x)) (k : ∀ b u, b ≠ e → h.get? b = some u → h'.get? b = some u) (heo : ∃ u, h'.get? e = some u)
    (new : ObjOk P w (upd H x o') h' x o') : HOk P w (upd H x o') h' := fun b u q => by
  have nown : ∀ c y, H c = some (.own y) → c ≠ x := fun c y r z => by subst z; rw [r] at mu; exact mu
  have ntup : ∀ c xs, H c = some (.tup xs) → c ≠ x := fun c xs r z => by subst z; rw [r] at mu; exact mu
  by_cases hb : b = x
  · subst hb; rw [upd_same] at q; cases q; exact new
  · rw [upd_ne hb] at q
    by_cases hbe : b = e
    · have q' : H b = some (.own x) := by
        rcases he with z | z
        · exact absurd (hbe.trans z) hb
        · rw [hbe]; exact z
      rw [q] at q'; cases q'
      obtain ⟨v, hv⟩ := heo
      exact ⟨v, by rw [hbe]; exact hv⟩
    · refine (ok b u q).stay (fun c v hc r => k c v ?_ r) (fun c r => by rw [upd_ne (nown c b r)]; exact r) fun c xs r => by rw [upd_ne (ntup c xs r)]; exact r
      rcases hc with rfl | hc
      · exact hbe
      · rintro rfl
        rcases he with z | z
        · exact nown c b hc z
        · rw [hc] at z; cases z; exact hb rfl
end
structure Un (fs ex : List Addr) (H H' : Hp) (h h' : Heap) : Prop where
  keep : ∀ b o, h.get? b = some o → H b = none → b ∉ fs → b ∉ ex → h'.get? b = some o
  slot : ∀ b o, h.get? b = some o → H b = none → b ∈ fs → b ∉ ex → ∃ sl, h'.get? b = some { o with slots := sl }
  free : ∀ b o, h.get? b = some o → H b = none → b ∉ ex → H' b = none
  there : ∀ b o, h.get? b = some o → b ∉ ex → ∃ o', h'.get? b = some o'
  tups : ∀ b xs, H b = some (.tup xs) → H' b = some (.tup xs)
  frzs : ∀ b o u, H b = some (.frz o u) → H' b = some (.frz o u)
  tbls : ∀ b ps, H b = some (.tbl ps) → ∃ more, H' b = some (.tbl (ps ++ more))
section
variable {fs fs' ex ex' : List Addr} {H H1 H2 : Hp} {h h1 h2 h' : Heap} {a x e : Addr} {o : HO}
theorem Un.any (u : Un fs ex H H1 h h1) {b : Addr} {ob : Obj} (q : h.get? b = some ob) (n : H b = none) (hx : b ∉ ex) : ∃ sl, h1.get? b = some { ob with slots := sl } := by
  by_cases hb : b ∈ fs
  · exact u.slot b ob q n hb hx
  · exact ⟨ob.slots, u.keep b ob q n hb hx⟩
theorem Un.kept (k : ∀ b u, h.get? b = some u → h'.get? b = some u) : Un fs ex H H h h' :=
  ⟨fun b ob q _ _ _ => k b ob q, fun b ob q _ _ _ => ⟨ob.slots, k b ob q⟩, fun _ _ _ n _ => n, fun b ob q _ => ⟨ob, k b ob q⟩, fun _ _ q => q, fun _ _ _ q => q, fun _ ps q => ⟨#[], by rw [q]; simp⟩⟩
theorem Un.refl : Un fs ex H H h h := Un.kept fun _ _ q => q
theorem Un.laid (k : ∀ b u, h.get? b = some u → h'.get? b = some u) (hp : h.objs.size ≤ a) (hn : H a = none) : Un fs ex H (upd H a o) h h' where
  keep := fun b u q _ _ _ => k b u q
  slot := fun b u q _ _ _ => ⟨u.slots, k b u q⟩
  free := fun b u q n _ => by rw [upd_ne (Nat.ne_of_lt (Nat.lt_of_lt_of_le (Heap.lt_size q) hp))]; exact n
  there := fun b u q _ => ⟨u, k b u q⟩
  tups := fun b xs q => by rw [upd_ne (ne_of_none q hn)]; exact q
  frzs := fun b u xs q => by rw [upd_ne (ne_of_none q hn)]; exact q
  tbls := fun b ps q => ⟨#[], by rw [upd_ne (ne_of_none q hn), q]; simp⟩
theorem Un.write (mu : Mut (H x)) (he : e = x ∨ H e = some (.own x)) (k : ∀ b u, b ≠ e → h.get? b = some u → h'.get? b = some u) (heo : ∃ u, h'.get? e = some u) : Un fs ex H (upd H x o) h h' := by
  have hx : ∀ b, H b = none → b ≠ x := fun b n z => by subst z; rw [n] at mu; exact mu
  have hb : ∀ b, H b = none → b ≠ e := fun b n z => by
    subst z
    rcases he with r | r
    · exact hx b n r
    · rw [n] at r; cases r
  have hm : ∀ b u, H b = some u → ¬ Mut (some u) → b ≠ x := fun b u q nm z => by subst z; rw [q] at mu; exact nm mu
  refine ⟨fun b u q n _ _ => k b u (hb b n) q, fun b u q n _ _ => ⟨u.slots, k b u (hb b n) q⟩, fun b u q n _ => by rw [upd_ne (hx b n)]; exact n, fun b u q _ => ?_,
    fun b xs q => by rw [upd_ne (hm b _ q fun z => z)]; exact q, fun b u xs q => by rw [upd_ne (hm b _ q fun z => z)]; exact q, fun b ps q => ⟨#[], by rw [upd_ne (hm b _ q fun z => z), q]; simp⟩⟩
  by_cases hbe : b = e
  · subst hbe; exact heo
  · exact ⟨u, k b u hbe q⟩
end
def trk (h : Heap) (H : Hp) : List Addr := (List.range h.objs.size).filter fun a => (H a).isSome
def hidT (h : Heap) (H : Hp) : Heap := PySem.W.hideAll h (trk h H)
theorem hidT_size (h : Heap) (H : Hp) : (hidT h H).objs.size = h.objs.size := PySem.W.hideAll_size _ _
theorem hidT_get {h : Heap} {H : Hp} {b : Addr} {o : Obj} (e : h.get? b = some o) (n : H b = none) : (hidT h H).get? b = some o :=
  PySem.W.hideAll_get _ e fun hm => by
    have q : (H b).isSome = true := (List.mem_filter.mp hm).2
    rw [n] at q; simp at q
theorem of_hidT {h : Heap} {H : Hp} {b : Addr} {o : Obj} (e : (hidT h H).get? b = some o) : h.get? b = some o ∧ H b = none := by
  have e' : h.get? b = some o := PySem.W.of_hideAll (trk h H) e
  refine ⟨e', ?_⟩
  cases q : H b with
  | none => rfl
  | some x =>
    have hm : b ∈ trk h H := List.mem_filter.mpr ⟨List.mem_range.mpr (Heap.lt_size e'), by simp [q]⟩
    have z : (hidT h H).get? b = none := PySem.W.hideAll_none (trk h H) hm
    rw [z] at e; cases e
end L2
namespace L2
open PySem PySem.Spec PyProof.Rows
structure Mod (K : PySem.W.Frag) (mg : Str → Option Value) (base : Heap) : Prop where
  kin : K.In base
  glob : base.Ns mainGlobals mg
  blt : ∃ mb, base.Ns builtinsNs mb ∧ ∀ x : Str, x ≠ "__name__" → mb x = bootBuiltins x
  nolimit : base.NoLimit
structure Cx where
  prog : Program
  w : World
  K : PySem.W.Frag
  mg : Str → Option Value
  base : Heap
  A : Around
  N : List Str
  s₀ : Shared
  H₀ : Hp
  env : Env
  outer : List Env
  stack : List Env
  ex : List Addr
  fn : Str → Bool
  calm : Bool
  pn : List (Addr × Obj)
  xe : Value → Shared → Prop
def frs (l : List Env) : List Addr := l.filterMap (·.frame)
abbrev Cx.fs (X : Cx) : List Addr := frs X.outer
def Vis (sc : Scope) (x : Str) : Prop := sc.names.lookup x = some .local ∨ sc.names.lookup x = some .cell ∨ sc.names.lookup x = some .free
def Loc (sc : Scope) (x : Str) : Prop := sc.names.lookup x = some .local ∨ sc.names.lookup x = some .cell
def Look (env : Env) (h : Heap) (m : Str → Option Value) (x : Str) (u : Value) : Prop :=
  (env.kindOf x = some .local ∧ m x = some u) ∨ ((env.kindOf x = some .cell ∨ env.kindOf x = some .free) ∧ ∃ c, env.cells.lookup x = some c ∧ h.IsCell c (some u))
structure Cx.Ok (X : Cx) : Prop where
  mod : Mod X.K X.mg X.base
  kind : X.env.scope.kind = .function
  glob : X.env.globals = mainGlobals
  blt : X.env.builtins = builtinsNs
  above : X.s₀.heap.objs.size ≤ X.env.locals
  inj : ∀ x y c, X.env.cells.lookup x = some c → X.env.cells.lookup y = some c → x = y
  has : ∀ x, (X.env.kindOf x = some .cell ∨ X.env.kindOf x = some .free) → ∃ c, X.env.cells.lookup x = some c
  cab : ∀ x c, X.fn x = true → X.env.cells.lookup x = some c → X.s₀.heap.objs.size ≤ c
  hd : X.calm = true → X.A.handled = none
  frames : X.A.frames = some X.stack
  stk : X.stack = X.outer ∨ (X.stack = X.env :: X.outer ∧ X.env.frame = some X.env.locals)
  exf : ∀ b ∈ X.ex, b ≠ X.env.locals ∧ ∀ x c, X.env.cells.lookup x = some c → c ≠ b
  bs : ∀ b o, X.base.get? b = some o → X.s₀.heap.get? b = some o ∧ X.H₀ b = none
  bsz : X.base.objs.size ≤ X.s₀.heap.objs.size
  noex : ∀ b o, X.base.get? b = some o → b ∉ X.ex
  exfs : ∀ b ∈ X.ex, b ∉ X.fs
  funs : X.s₀.heap.FunFrames X.base X.outer
  frf : ∀ b ∈ X.fs, X.H₀ b = none
structure Inv (X : Cx) (pins : List (Addr × Obj)) (σ : List (Option V)) (H : Hp) (s : Shared) : Prop where
  ok : X.Ok
  os : s.os = X.s₀.os
  bare : AllBare s.gens
  base : Un X.fs X.ex X.H₀ H X.s₀.heap s.heap
  loc : ∃ m, s.heap.Ns X.env.locals m ∧ ∀ (i : Nat) (x : Str) (v : V), X.N[i]? = some x → σ[i]? = some (some v) → Vis X.env.scope x → ∃ u, RelV v u ∧ Look X.env s.heap m x u
  cell : ∀ x c, X.env.cells.lookup x = some c → ∃ v, s.heap.IsCell c v
  free : H X.env.locals = none
  freeC : ∀ x c, X.env.cells.lookup x = some c → H c = none
  pin : ∀ p ∈ X.pn ++ pins, s.heap.get? p.1 = some p.2 ∧ H p.1 = none ∧ p.1 ≠ X.env.locals ∧ p.1 ∉ X.fs ∧ ∀ v, p.2.data ≠ .cell v
  hok : HOk X.prog X.w H s.heap
  len : σ.length = X.N.length
section
variable {X : Cx} {pins : List (Addr × Obj)} {σ : List (Option V)} {H H' : Hp} {s : Shared} {h' : Heap}
theorem Cx.Ok.nofr (ok : X.Ok) {b : Addr} {o : Obj} (e : X.base.get? b = some o) : b ∉ X.fs := fun hb => by
  have := (ok.funs.mem hb).1
  rw [e] at this; cases this
theorem Inv.bs (I : Inv X pins σ H s) : ∀ b o, X.base.get? b = some o → s.heap.get? b = some o ∧ H b = none := fun b o e =>
  ⟨I.base.keep b o (I.ok.bs b o e).1 (I.ok.bs b o e).2 (I.ok.nofr e) (I.ok.noex b o e), I.base.free b o (I.ok.bs b o e).1 (I.ok.bs b o e).2 (I.ok.noex b o e)⟩
theorem Inv.bk (I : Inv X pins σ H s) : ∀ b o, X.base.get? b = some o → s.heap.get? b = some o := fun b o e => (I.bs b o e).1
theorem Inv.mod (I : Inv X pins σ H s) : Mod X.K X.mg X.base := I.ok.mod
theorem Inv.kIn (I : Inv X pins σ H s) : X.K.In s.heap := I.ok.mod.kin.keeps I.bk
theorem Inv.lt (I : Inv X pins σ H s) : X.env.locals < s.heap.objs.size := let ⟨_, hn, _⟩ := I.loc; hn.lt
theorem Inv.sz (I : Inv X pins σ H s) : X.s₀.heap.objs.size ≤ s.heap.objs.size := Nat.le_trans I.ok.above (Nat.le_of_lt I.lt)
theorem Inv.nofs (I : Inv X pins σ H s) {a : Addr} (h : s.heap.objs.size ≤ a) : a ∉ X.fs := fun hb => by
  obtain ⟨_, o, ho, _⟩ := I.ok.funs.mem hb
  exact absurd (Nat.lt_of_lt_of_le (Heap.lt_size ho) (Nat.le_trans I.sz h)) (Nat.lt_irrefl _)
theorem Inv.cne (I : Inv X pins σ H s) : ∀ x c, X.env.cells.lookup x = some c → c ≠ X.env.locals := fun x c e z => by
  obtain ⟨v, o, ho, hd⟩ := I.cell x c e
  obtain ⟨m, ⟨o', es, ep, ho', hd', _⟩, _⟩ := I.loc
  rw [z, ho'] at ho; cases ho; rw [hd'] at hd; cases hd
theorem Inv.funs (I : Inv X pins σ H s) : s.heap.FunFrames X.base X.outer := by
  have all : ∀ (l : List Env), (∀ b ∈ frs l, b ∈ X.fs) → X.s₀.heap.FunFrames X.base l → s.heap.FunFrames X.base l := by
    intro l
    induction l with
    | nil => intro _ _; trivial
    | cons env r ih =>
      intro hs hl
      obtain ⟨hk, ⟨L, o, hf, hn, ho, hd⟩, hr⟩ := hl
      have hL : L ∈ X.fs := hs L (by unfold frs; rw [List.filterMap_cons, hf]; exact List.mem_cons_self)
      obtain ⟨sl, e⟩ := I.base.slot L o ho (I.ok.frf L hL) hL fun z => I.ok.exfs L z hL
      exact ⟨hk, ⟨L, _, hf, hn, e, hd⟩, ih (fun b hb => hs b (by unfold frs; rw [List.filterMap_cons, hf]; exact List.mem_cons_of_mem _ hb)) hr⟩
  exact all X.outer (fun _ hb => hb) I.ok.funs
theorem Inv.stack (I : Inv X pins σ H s) : s.heap.FunFrames X.base X.stack := by
  rcases I.ok.stk with e | ⟨e, hf⟩
  · rw [e]; exact I.funs
  · rw [e]
    obtain ⟨m, hn, _⟩ := I.loc
    refine .cons (by rw [I.ok.kind]; decide) hf hn ?_ I.funs
    exact Heap.get?_none_of_le (Nat.le_trans I.ok.bsz I.ok.above)
theorem Inv.stkSub (I : Inv X pins σ H s) : ∀ b ∈ frs X.stack, b ∈ X.env.locals :: X.fs := fun b hb => by
  rcases I.ok.stk with e | ⟨e, hf⟩
  · rw [e] at hb; exact List.mem_cons_of_mem _ hb
  · rw [e] at hb
    unfold frs at hb
    rw [List.filterMap_cons, hf] at hb
    exact hb
theorem Inv.stkFree (I : Inv X pins σ H s) : ∀ b ∈ frs X.stack, H b = none := fun b hb => by
  rcases List.mem_cons.mp (I.stkSub b hb) with e | hb
  · rw [e]; exact I.free
  · obtain ⟨_, o, ho, _⟩ := I.ok.funs.mem hb
    exact I.base.free b o ho (I.ok.frf b hb) fun z => I.ok.exfs b z hb
theorem Inv.step {g' : Array GenState} {t' : Nat} {d' : Drawn} {ch : List Addr} (I : Inv X pins σ H s)
    (hch : ∀ b ∈ ch, (b ∈ X.ex ∨ X.s₀.heap.objs.size ≤ b) ∧ b ≠ X.env.locals ∧ (∀ x c, X.env.cells.lookup x = some c → c ≠ b) ∧ ∀ p ∈ X.pn ++ pins, p.1 ≠ b)
    (keep : ∀ b o, b ≠ X.env.locals → b ∉ X.fs → b ∉ ch → s.heap.get? b = some o → H b = none → h'.get? b = some o)
    (slot : ∀ b o, b ≠ X.env.locals → b ∈ X.fs → b ∉ ch → s.heap.get? b = some o → H b = none → ∃ sl, h'.get? b = some { o with slots := sl }) (free : ∀ b o, b ∉ ch → s.heap.get? b = some o → H b = none → H' b = none)
    (there : ∀ b o, b ∉ ch → s.heap.get? b = some o → ∃ o', h'.get? b = some o')
    (tups : ∀ b xs, H b = some (.tup xs) → H' b = some (.tup xs)) (frzs : ∀ b o u, H b = some (.frz o u) → H' b = some (.frz o u)) (tbls : ∀ b ps, H b = some (.tbl ps) → ∃ more, H' b = some (.tbl (ps ++ more)))
    (ns : ∀ m, s.heap.Ns X.env.locals m → h'.Ns X.env.locals m) (hok : HOk X.prog X.w H' h') (hg : AllBare g') :
    Inv X pins σ H' { s with heap := h', gens := g', drawn := d', toks := t' } := by
  have neL : ∀ b o, X.s₀.heap.get? b = some o → b ≠ X.env.locals := fun b o e => Nat.ne_of_lt (Nat.lt_of_lt_of_le (Heap.lt_size e) I.ok.above)
  have neC : ∀ b o, X.s₀.heap.get? b = some o → b ∉ X.ex → b ∉ ch := fun b o e hx hb => by
    rcases (hch b hb).1 with z | z
    · exact hx z
    · exact absurd (Nat.lt_of_lt_of_le (Heap.lt_size e) z) (Nat.lt_irrefl _)
  have cellK : ∀ x c, X.env.cells.lookup x = some c → ∀ v, s.heap.IsCell c v → h'.IsCell c v := fun x c e v ⟨o, ho, hd⟩ => by
    have nch : c ∉ ch := fun z => (hch c z).2.2.1 x c e rfl
    by_cases hc : c ∈ X.fs
    · obtain ⟨sl, q⟩ := slot c o (I.cne x c e) hc nch ho (I.freeC x c e)
      exact ⟨_, q, hd⟩
    · exact ⟨o, keep c o (I.cne x c e) hc nch ho (I.freeC x c e), hd⟩
  refine ⟨I.ok, I.os, hg, ⟨fun b o e n hb hx => ?_, fun b o e n hb hx => ?_, fun b o e n hx => ?_, fun b o e hx => ?_, fun b xs e => tups b xs (I.base.tups b xs e), fun b o xs e => frzs b o xs (I.base.frzs b o xs e), fun b ps e => ?_⟩, ?_, fun x c e => ?_, ?_, fun x c e => ?_, fun p hp => ?_, hok, I.len⟩
  · exact keep b o (neL b o e) hb (neC b o e hx) (I.base.keep b o e n hb hx) (I.base.free b o e n hx)
  · obtain ⟨sl, e1⟩ := I.base.slot b o e n hb hx
    obtain ⟨sl', e2⟩ := slot b _ (neL b o e) hb (neC b o e hx) e1 (I.base.free b o e n hx)
    exact ⟨sl', e2⟩
  · obtain ⟨o', e1⟩ := I.base.there b o e hx
    exact free b o' (neC b o e hx) e1 (I.base.free b o e n hx)
  · obtain ⟨o', e1⟩ := I.base.there b o e hx
    exact there b o' (neC b o e hx) e1
  · obtain ⟨m1, e1⟩ := I.base.tbls b ps e
    obtain ⟨m2, e2⟩ := tbls b _ e1
    exact ⟨m1 ++ m2, by rw [e2, Array.append_assoc]⟩
  · obtain ⟨m, hn, hl⟩ := I.loc
    refine ⟨m, ns m hn, fun i x v e1 e2 e3 => ?_⟩
    obtain ⟨u, r, l⟩ := hl i x v e1 e2 e3
    refine ⟨u, r, ?_⟩
    rcases l with l | ⟨k, c, e, z⟩
    · exact .inl l
    · exact .inr ⟨k, c, e, cellK x c e _ z⟩
  · obtain ⟨v, z⟩ := I.cell x c e
    exact ⟨v, cellK x c e v z⟩
  · obtain ⟨m, ⟨o, _, _, ho, _⟩, _⟩ := I.loc
    exact free _ o (fun z => (hch _ z).2.1 rfl) ho I.free
  · obtain ⟨v, o, ho, hd⟩ := I.cell x c e
    exact free c o (fun z => (hch c z).2.2.1 x c e rfl) ho (I.freeC x c e)
  · obtain ⟨e, n, ne, nf, d⟩ := I.pin p hp
    have nch : p.1 ∉ ch := fun z => (hch p.1 z).2.2.2 p hp rfl
    exact ⟨keep p.1 p.2 ne nf nch e n, free p.1 p.2 nch e n, ne, nf, d⟩
theorem Inv.un {t' : Nat} (I : Inv X pins σ H s) (u : Un X.fs [] H H' s.heap h') (hok : HOk X.prog X.w H' h') : Inv X pins σ H' { s with heap := h', toks := t' } := by
  obtain ⟨m, ⟨o, es, ep, ho, r⟩, _⟩ := id I.loc
  obtain ⟨sl, hL⟩ := u.any ho I.free (by simp)
  exact I.step (g' := s.gens) (d' := s.drawn) (ch := []) (fun _ z => nomatch z) (fun b o _ hb _ e n => u.keep b o e n hb (by simp)) (fun b o _ hb _ e n => u.slot b o e n hb (by simp)) (fun b o _ e n => u.free b o e n (by simp)) (fun b o _ e => u.there b o e (by simp)) u.tups u.frzs u.tbls (fun m' hm => by
    obtain ⟨o', es', ep', ho', r'⟩ := hm
    rw [ho] at ho'; cases ho'
    exact ⟨_, es', ep', hL, r'⟩) hok I.bare
theorem Inv.call {g' : Array GenState} {t' : Nat} {d' : Drawn} {ch : List Addr} (I : Inv X pins σ H s) (u : Un (frs X.stack) ch H H' s.heap h') (hok : HOk X.prog X.w H' h') (hg : AllBare g')
    (hch : ∀ b ∈ ch, (b ∈ X.ex ∨ X.s₀.heap.objs.size ≤ b) ∧ b ≠ X.env.locals ∧ (∀ x c, X.env.cells.lookup x = some c → c ≠ b) ∧ ∀ p ∈ X.pn ++ pins, p.1 ≠ b) :
    Inv X pins σ H' { s with heap := h', gens := g', drawn := d', toks := t' } := by
  obtain ⟨m, ⟨o, es, ep, ho, r⟩, _⟩ := id I.loc
  obtain ⟨sl, hL⟩ := u.any ho I.free fun z => (hch _ z).2.1 rfl
  exact I.step (ch := ch) hch (fun b o hL hb hc e n => u.keep b o e n (fun z => (List.mem_cons.mp (I.stkSub b z)).elim hL hb) hc) (fun b o _ _ hc e n => u.any e n hc) (fun b o hc e n => u.free b o e n hc) (fun b o hc e => u.there b o e hc) u.tups u.frzs u.tbls (fun m' hm => by
    obtain ⟨o', es', ep', ho', r'⟩ := hm
    rw [ho] at ho'; cases ho'
    exact ⟨_, es', ep', hL, r'⟩) hok hg
theorem Inv.turned {t' : Nat} {it : Addr} (I : Inv X pins σ H s) (k : ∀ b o, b ≠ it → s.heap.get? b = some o → h'.get? b = some o) (hn : H it = none) (hL : it ≠ X.env.locals)
    (h1 : it ∈ X.ex ∨ X.s₀.heap.objs.size ≤ it) (h2 : ∀ x c, X.env.cells.lookup x = some c → c ≠ it) (h3 : ∀ p ∈ X.pn ++ pins, p.1 ≠ it) : Inv X pins σ H { s with heap := h', toks := t' } := by
  have nit : ∀ b u, H b = some u → b ≠ it := fun b u e z => by rw [z, hn] at e; cases e
  refine I.step (g' := s.gens) (d' := s.drawn) (ch := [it]) (fun b hb => ?_) (fun b o _ _ hc e _ => k b o (fun z => hc (by simp [z])) e) (fun b o _ _ hc e _ => ⟨o.slots, k b o (fun z => hc (by simp [z])) e⟩) (fun _ _ _ _ n => n)
    (fun b o hc e => ⟨o, k b o (fun z => hc (by simp [z])) e⟩) (fun _ _ e => e) (fun _ _ _ e => e) (fun b ps e => ⟨#[], by rw [e]; simp⟩) (fun m hm => ?_) (fun b u e => ?_) I.bare
  · have e : b = it := by simpa using hb
    subst e
    exact ⟨h1, hL, h2, h3⟩
  · obtain ⟨o, es, ep, ho, r⟩ := hm
    exact ⟨o, es, ep, k _ o (Ne.symm hL) ho, r⟩
  · refine (I.hok b u e).stay (fun c v hc q => k c v ?_ q) (fun _ q => q) fun _ _ q => q
    rcases hc with z | z
    · rw [z]; exact nit b u e
    · exact nit c _ z
theorem Inv.tok (I : Inv X pins σ H s) (t : Nat) : Inv X pins σ H { s with toks := t } := I.un (h' := s.heap) (t' := t) Un.refl I.hok
theorem Inv.kept {t' : Nat} (I : Inv X pins σ H s) (k : ∀ b u, s.heap.get? b = some u → h'.get? b = some u) : Inv X pins σ H { s with heap := h', toks := t' } := I.un (Un.kept k) (I.hok.kept k)
theorem Inv.laid {a : Addr} {o : HO} {t' : Nat} (I : Inv X pins σ H s) (k : ∀ b u, s.heap.get? b = some u → h'.get? b = some u) (hp : s.heap.objs.size ≤ a) (new : ObjOk X.prog X.w (upd H a o) h' a o) :
    Inv X pins σ (upd H a o) { s with heap := h', toks := t' } := I.un (Un.laid k hp (I.hok.fresh hp)) (I.hok.laid k hp new)
theorem Inv.write {x e : Addr} {o : HO} {t' : Nat} (I : Inv X pins σ H s) (mu : Mut (H x)) (he : e = x ∨ H e = some (.own x)) (k : ∀ b u, b ≠ e → s.heap.get? b = some u → h'.get? b = some u) (heo : ∃ u, h'.get? e = some u)
    (new : ObjOk X.prog X.w (upd H x o) h' x o) : Inv X pins σ (upd H x o) { s with heap := h', toks := t' } := I.un (Un.write mu he k heo) (I.hok.write mu he k heo new)
theorem Inv.pins_of {pins' : List (Addr × Obj)} (I : Inv X pins σ H s) (h : ∀ p ∈ pins', s.heap.get? p.1 = some p.2 ∧ H p.1 = none ∧ p.1 ≠ X.env.locals ∧ p.1 ∉ X.fs ∧ ∀ v, p.2.data ≠ .cell v) : Inv X pins' σ H s :=
  ⟨I.ok, I.os, I.bare, I.base, I.loc, I.cell, I.free, I.freeC, fun p hp => (List.mem_append.mp hp).elim (fun z => I.pin p (List.mem_append_left _ z)) (h p), I.hok, I.len⟩
theorem nodup_ix {N : List Str} (hN : N.Nodup) {i j : Nat} {x : Str} (a : N[i]? = some x) (b : N[j]? = some x) : i = j := by
  obtain ⟨h1, e1⟩ := List.getElem?_eq_some_iff.mp a
  obtain ⟨h2, e2⟩ := List.getElem?_eq_some_iff.mp b
  exact (List.getElem_inj hN).mp (e1.trans e2.symm)
theorem store_ok2 {M : Model} {A : Around} {E : Value → Shared → Prop} {i : Nat} {x : Str} {v : V} {u : Value} {Q : Unit → Shared → Prop} (I : Inv X pins σ H s) (hN : X.N.Nodup) (hi : X.N[i]? = some x) (hx : Loc X.env.scope x) (r : RelV v u)
    (h : ∀ s', Inv X pins (σ.set i (some v)) H s' → (∃ a, Heap.SameBut a s.heap s'.heap ∧ (a = X.env.locals ∨ X.env.cells.lookup x = some a)) → Q () s') (hf : X.fn x = true ∨ X.env.scope.names.lookup x = some .local := by first | exact .inl rfl | exact .inr rfl | assumption) : wpAny M A (storeName X.env x u) Q E s := by
  obtain ⟨m, hn, hl⟩ := id I.loc
  have hcls : (X.env.scope.kind == .class || (X.env.scope.kind == .module && X.env.locals != X.env.globals)) = false := by rw [I.ok.kind]; rfl
  have hiσ : i < σ.length := by rw [I.len]; exact (List.getElem?_eq_some_iff.mp hi).1
  have cne := I.cne
  have tracked : ∀ {a : Addr} {h' : Heap}, (∃ o, s.heap.get? a = some o ∧ H a = none) → Heap.SameBut a s.heap h' → HOk X.prog X.w H h' := fun {a h'} ha hs b ob e => by
    obtain ⟨_, _, hfree⟩ := ha
    refine (I.hok b ob e).stay (fun c w' hc q => (hs.2 c ?_).trans q) (fun _ q => q) fun _ _ q => q
    rintro rfl
    rcases hc with rfl | hc
    · rw [hfree] at e; cases e
    · rw [hfree] at hc; cases hc
  rcases hx with hk | hk
  · refine wpAny_storeName_local hk hn (fun h' hn' hs => ?_) hcls
    obtain ⟨oL, _, _, hoL, _⟩ := id hn
    refine h _ ⟨I.ok, I.os, I.bare, ⟨fun b o e n hb hx => ?_, fun b o e n hb hx => ?_, I.base.free, fun b o e hx => ?_, I.base.tups, I.base.frzs, I.base.tbls⟩, ⟨_, hn', fun j y v' e1 e2 e3 => ?_⟩, fun y c e => ?_, I.free, I.freeC, fun p hp => ?_, tracked ⟨oL, hoL, I.free⟩ hs, by simpa using I.len⟩ ⟨_, hs, .inl rfl⟩
    · exact (hs.2 b (Nat.ne_of_lt (Nat.lt_of_lt_of_le (Heap.lt_size e) I.ok.above))).trans (I.base.keep b o e n hb hx)
    · obtain ⟨sl, e1⟩ := I.base.slot b o e n hb hx
      exact ⟨sl, (hs.2 b (Nat.ne_of_lt (Nat.lt_of_lt_of_le (Heap.lt_size e) I.ok.above))).trans e1⟩
    · obtain ⟨o', e1⟩ := I.base.there b o e hx
      exact ⟨o', (hs.2 b (Nat.ne_of_lt (Nat.lt_of_lt_of_le (Heap.lt_size e) I.ok.above))).trans e1⟩
    · by_cases hj : j = i
      · subst hj
        rw [hi] at e1; cases e1
        rw [List.getElem?_set_self hiσ] at e2
        cases e2
        exact ⟨u, r, .inl ⟨hk, by simp⟩⟩
      · rw [List.getElem?_set_ne (Ne.symm hj)] at e2
        obtain ⟨u', r', q⟩ := hl j y v' e1 e2 e3
        refine ⟨u', r', ?_⟩
        rcases q with ⟨k, e⟩ | ⟨k, c, e, z⟩
        · refine .inl ⟨k, ?_⟩
          have : y ≠ x := fun e => hj (nodup_ix hN e1 (e ▸ hi))
          simp [this, e]
        · exact .inr ⟨k, c, e, z.sameBut hs (cne y c e)⟩
    · obtain ⟨w', z⟩ := I.cell y c e
      exact ⟨w', z.sameBut hs (cne y c e)⟩
    · obtain ⟨e, n, ne, nf, d⟩ := I.pin p hp
      exact ⟨(hs.2 p.1 ne).trans e, n, ne, nf, d⟩
  · have hfn : X.fn x = true := by
      rcases hf with z | z
      · exact z
      · rw [z] at hk; cases hk
    obtain ⟨c, hc⟩ := I.ok.has x (.inl hk)
    obtain ⟨w', z⟩ := I.cell x c hc
    refine wpAny_storeName_cell I.ok.kind hk hc z (fun h' hc' hs => ?_)
    obtain ⟨oc, hoc, hocd⟩ := id z
    refine h { s with heap := h' } ⟨I.ok, I.os, I.bare, ⟨fun b o e n hb hx => ?_, fun b o e n hb hx => ?_, I.base.free, fun b o e hx => ?_, I.base.tups, I.base.frzs, I.base.tbls⟩, ⟨m, hn.sameBut hs (Ne.symm (cne x c hc)), fun j y v' e1 e2 e3 => ?_⟩, fun y c' e => ?_, I.free, I.freeC, fun p hp => ?_, tracked ⟨oc, hoc, I.freeC x c hc⟩ hs, by simpa using I.len⟩ ⟨c, hs, .inr hc⟩
    · exact (hs.2 b (Nat.ne_of_lt (Nat.lt_of_lt_of_le (Heap.lt_size e) (I.ok.cab x c hfn hc)))).trans (I.base.keep b o e n hb hx)
    · obtain ⟨sl, e1⟩ := I.base.slot b o e n hb hx
      exact ⟨sl, (hs.2 b (Nat.ne_of_lt (Nat.lt_of_lt_of_le (Heap.lt_size e) (I.ok.cab x c hfn hc)))).trans e1⟩
    · obtain ⟨o', e1⟩ := I.base.there b o e hx
      exact ⟨o', (hs.2 b (Nat.ne_of_lt (Nat.lt_of_lt_of_le (Heap.lt_size e) (I.ok.cab x c hfn hc)))).trans e1⟩
    · by_cases hj : j = i
      · subst hj
        rw [hi] at e1; cases e1
        rw [List.getElem?_set_self hiσ] at e2
        cases e2
        exact ⟨u, r, .inr ⟨.inl hk, c, hc, hc'⟩⟩
      · rw [List.getElem?_set_ne (Ne.symm hj)] at e2
        obtain ⟨u', r', q⟩ := hl j y v' e1 e2 e3
        refine ⟨u', r', ?_⟩
        rcases q with q | ⟨k, c', e, z'⟩
        · exact .inl q
        · refine .inr ⟨k, c', e, z'.sameBut hs ?_⟩
          rintro rfl
          exact hj (nodup_ix hN e1 (I.ok.inj _ _ _ e hc ▸ hi))
    · by_cases hcc : c' = c
      · subst hcc; exact ⟨_, hc'⟩
      · obtain ⟨w2, z2⟩ := I.cell y c' e
        exact ⟨w2, z2.sameBut hs hcc⟩
    · obtain ⟨e, n, ne, nf, d⟩ := I.pin p hp
      refine ⟨(hs.2 p.1 ?_).trans e, n, ne, nf, d⟩
      intro q
      rw [q, hoc] at e
      have q' : oc = p.2 := Option.some.inj e
      exact d w' (by rw [← q']; exact hocd)
theorem store_ok {M : Model} {A : Around} {E : Value → Shared → Prop} {i : Nat} {x : Str} {v : V} {u : Value} {Q : Unit → Shared → Prop} (I : Inv X pins σ H s) (hN : X.N.Nodup) (hi : X.N[i]? = some x) (hx : Loc X.env.scope x) (r : RelV v u)
    (h : ∀ s', Inv X pins (σ.set i (some v)) H s' → Q () s') (hf : X.fn x = true ∨ X.env.scope.names.lookup x = some .local := by first | exact .inl rfl | exact .inr rfl | assumption) : wpAny M A (storeName X.env x u) Q E s :=
  store_ok2 I hN hi hx r (fun s' I' _ => h s' I') hf
theorem Inv.call' {s' : Shared} {ch : List Addr} (I : Inv X pins σ H s) (ho : s'.os = s.os) (u : Un (frs X.stack) ch H H' s.heap s'.heap) (hok : HOk X.prog X.w H' s'.heap) (hg : AllBare s'.gens)
    (hch : ∀ b ∈ ch, (b ∈ X.ex ∨ X.s₀.heap.objs.size ≤ b) ∧ b ≠ X.env.locals ∧ (∀ x c, X.env.cells.lookup x = some c → c ≠ b) ∧ ∀ p ∈ X.pn ++ pins, p.1 ≠ b) : Inv X pins σ H' s' := by
  obtain ⟨h', g', d', t', o'⟩ := s'
  have e : o' = s.os := ho
  subst e
  exact I.call (g' := g') (t' := t') (d' := d') u hok hg hch
end
abbrev XK := Value → Option Addr → Hp → Prop
abbrev St := List (Option V)
abbrev VK := V → Hp → Prop
abbrev TE := St → Hp → VK → Prop
abbrev TT := St → Hp → (Bool → Hp → Prop) → Prop
abbrev TA := St → Hp → (List V → Hp → Prop) → Prop
structure Ends where
  nx : St → Hp → Prop
  rt : VK
  bk : St → Hp → Prop := fun _ _ => False
  ct : St → Hp → Prop := fun _ _ => False
abbrev TS := Ends → St → Hp → Prop
def EP (X : Cx) (pins : List (Addr × Obj)) (σ : St) (Q : VK) (u : Value) (s' : Shared) : Prop := ∃ v H', Inv X pins σ H' s' ∧ RelV v u ∧ Q v H'
def TP (X : Cx) (pins : List (Addr × Obj)) (σ : St) (Q : Bool → Hp → Prop) (b : Bool) (s' : Shared) : Prop := ∃ H', Inv X pins σ H' s' ∧ Q b H'
def AP (X : Cx) (pins : List (Addr × Obj)) (σ : St) (Q : List V → Hp → Prop) (us : List Value) (s' : Shared) : Prop := ∃ vs H', Inv X pins σ H' s' ∧ Vals vs us ∧ Q vs H'
def SP (X : Cx) (pins : List (Addr × Obj)) (D : Ends) (f : Flow) (s' : Shared) : Prop :=
  match f with
  | .next => ∃ σ' H', Inv X pins σ' H' s' ∧ D.nx σ' H'
  | .brk => ∃ σ' H', Inv X pins σ' H' s' ∧ D.bk σ' H'
  | .cont => ∃ σ' H', Inv X pins σ' H' s' ∧ D.ct σ' H'
  | .ret u => ∃ v σ' H', Inv X pins σ' H' s' ∧ RelV v u ∧ D.rt v H'
def PE (X : Cx) (e : Expr) (t : TE) : Prop :=
  ∀ (pins : List (Addr × Obj)) (s : Shared) (σ : St) (H : Hp) (Q : VK), Inv X pins σ H s → t σ H Q → wpAny (model X.prog X.w) X.A (eval e X.env) (EP X pins σ Q) X.xe s
def PT (X : Cx) (e : Expr) (t : TT) : Prop :=
  ∀ (pins : List (Addr × Obj)) (s : Shared) (σ : St) (H : Hp) (Q : Bool → Hp → Prop), Inv X pins σ H s → t σ H Q → wpAny (model X.prog X.w) X.A (isTrue e X.env (eval e X.env)) (TP X pins σ Q) X.xe s
def PW (X : Cx) (e : Expr) (t : TT) : Prop :=
  ∀ (whole : Sem Value) (pins : List (Addr × Obj)) (s : Shared) (σ : St) (H : Hp) (Q : Bool → Hp → Prop), Inv X pins σ H s → t σ H Q → wpAny (model X.prog X.w) X.A (isTrue e X.env whole) (TP X pins σ Q) X.xe s
theorem PW.pt {X : Cx} {e : Expr} {t : TT} (h : PW X e t) : PT X e t := h _
def PA (X : Cx) (es : List Expr) (t : TA) : Prop :=
  ∀ (pos : Pos) (pins : List (Addr × Obj)) (s : Shared) (σ : St) (H : Hp) (Q : List V → Hp → Prop), Inv X pins σ H s → t σ H Q → wpAny (model X.prog X.w) X.A (spliced (backTo pos (starEach es X.env))) (AP X pins σ Q) X.xe s
def PS (X : Cx) (st : Stmt) (t : TS) : Prop :=
  ∀ (pins : List (Addr × Obj)) (s : Shared) (σ : St) (H : Hp) (D : Ends), Inv X pins σ H s → t D σ H → wpAny (model X.prog X.w) X.A (exec st X.env) (SP X pins D) X.xe s
def PSs (X : Cx) (st : List Stmt) (t : TS) : Prop :=
  ∀ (pins : List (Addr × Obj)) (s : Shared) (σ : St) (H : Hp) (D : Ends), Inv X pins σ H s → t D σ H → wpAny (model X.prog X.w) X.A (execs st X.env) (SP X pins D) X.xe s
theorem thn {α : Type} {t : Sem α} {Q Q' : α → Shared → Prop} {M : Model} {A : Around} {E : Value → Shared → Prop} {s : Shared} (h : wpAny M A t Q E s) (hQ : ∀ a s, Q a s → Q' a s) : wpAny M A t Q' E s := wpAny_mono h hQ fun _ _ x => x
end L2
namespace L2
open PySem PySem.Spec PyProof.Rows
section
variable {X : Cx}
def tVar (i : Nat) : TE := fun σ H Q => ∃ v, σ[i]? = some (some v) ∧ Q v H
def tC (v : V) : TE := fun _ H Q => Q v H
theorem pe_var {i : Nat} {x : Str} {pos : Pos} (hN : X.N[i]? = some x) (hv : Vis X.env.scope x) (hd : (x == ("__debug__" : Str)) = false := by decide) (hcd : (x == ("__classdict__" : Str)) = false := by decide) : PE X (.Name x pos) (tVar i) := by
  intro pins s σ H Q I h
  obtain ⟨v, e, h⟩ := h
  obtain ⟨m, hn, hl⟩ := I.loc
  obtain ⟨u, r, l⟩ := hl i x v hN e hv
  have fin : EP X pins σ Q u s := ⟨v, H, I, r, h⟩
  rcases l with ⟨hk, hm⟩ | ⟨hk, c, hc, hcell⟩
  · exact wpAny_Name (wpAny_loadName_local I.ok.kind hk hn hm fin) hd
  · rcases hk with hk | hk
    · exact wpAny_Name (wpAny_loadName_cell I.ok.kind hk hc hcell fin) hd
    · exact wpAny_Name (wpAny_loadName_free I.ok.kind hk hc hcell fin hcd) hd
theorem pe_int {i j pos} : PE X (.Constant (.int i) j pos) (tC (.int i)) := fun _ _ _ H _ I h => wpAny_Constant_int ⟨.int i, H, I.tok _, ⟨_, rfl⟩, h⟩
theorem pe_bl {b j pos} : PE X (.Constant (.bool b) j pos) (tC (.bl b)) := fun _ _ _ H _ I h => Constant_bool ⟨.bl b, H, I, rfl, h⟩
theorem pe_non {j pos} : PE X (.Constant .none j pos) (tC .non) := fun _ _ _ H _ I h => Constant_none ⟨.non, H, I, rfl, h⟩
theorem pe_str {x j pos} : PE X (.Constant (.str x) j pos) (tC (.str x)) := fun _ _ _ H _ I h => Calls.Constant_str ⟨.str x, H, I.tok _, ⟨_, rfl⟩, h⟩
def Gl (X : Cx) (x : Str) : Prop := X.env.kindOf x = some .globalImplicit
theorem ld_glob {E : Value → Shared → Prop} {pins : List (Addr × Obj)} {s : Shared} {σ : St} {H : Hp} {x : Str} {u : Value} {pos : Pos} {Q : Value → Shared → Prop} (I : Inv X pins σ H s) (hg : Gl X x) (hm : X.mg x = some u) (h : Q u s)
    (hd : (x == ("__debug__" : Str)) = false := by decide) : wpAny (model X.prog X.w) X.A (eval (.Name x pos) X.env) Q E s :=
  Calls.Name_function_global I.ok.kind hg (Calls.loadGlobal_global (by rw [I.ok.glob]; exact I.mod.glob.keeps I.bk) hm h) hd
theorem ld_blt {E : Value → Shared → Prop} {pins : List (Addr × Obj)} {s : Shared} {σ : St} {H : Hp} {x : Str} {u : Value} {pos : Pos} {Q : Value → Shared → Prop} (I : Inv X pins σ H s) (hg : Gl X x) (hm : X.mg x = none) (hv : bootBuiltins x = some u) (h : Q u s)
    (hn : x ≠ "__name__" := by decide) (hd : (x == ("__debug__" : Str)) = false := by decide) : wpAny (model X.prog X.w) X.A (eval (.Name x pos) X.env) Q E s := by
  obtain ⟨mb, h1, h2⟩ := I.mod.blt
  exact Calls.Name_function_global I.ok.kind hg (Calls.loadGlobal_builtin (by rw [I.ok.glob]; exact I.mod.glob.keeps I.bk) hm (by rw [I.ok.blt]; exact h1.keeps I.bk) ((h2 x hn).trans hv) h) hd
theorem pe_glob {x : Str} {v : V} {u : Value} {pos : Pos} (hg : Gl X x) (hm : X.mg x = some u) (r : RelV v u) (hd : (x == ("__debug__" : Str)) = false := by decide) : PE X (.Name x pos) (tC v) :=
  fun _ _ _ H _ I h => ld_glob I hg hm ⟨v, H, I, r, h⟩ hd
theorem pe_bltn {x : Str} {v : V} {u : Value} {pos : Pos} (hg : Gl X x) (hm : X.mg x = none) (hv : bootBuiltins x = some u) (r : RelV v u) (hn : x ≠ "__name__" := by decide) (hd : (x == ("__debug__" : Str)) = false := by decide) : PE X (.Name x pos) (tC v) :=
  fun _ _ _ H _ I h => ld_blt I hg hm hv ⟨v, H, I, r, h⟩ hn hd
variable {a b : Expr} {ta tb : TE} {pos : Pos}
variable {tA tB' : TT} {rest : List Expr}
def tAnd (t u : TT) : TT := fun σ H Q => t σ H fun c H1 => if c = true then u σ H1 Q else Q false H1
def tOr (t u : TT) : TT := fun σ H Q => t σ H fun c H1 => if c = true then Q true H1 else u σ H1 Q
def tNot (t : TT) : TT := fun σ H Q => t σ H fun c H1 => Q (!c) H1
theorem pw_and1 (ha : PT X a tA) : PW X (.BoolOp .And [a] pos) tA := by
  intro wh pins s σ H Q I h
  refine isTrue_and (thn (ha pins s σ H Q I h) fun c s1 e => ?_)
  cases c with
  | true => exact isTrue_and_nil e
  | false => exact e
theorem pw_or1 (ha : PT X a tA) : PW X (.BoolOp .Or [a] pos) tA := by
  intro wh pins s σ H Q I h
  refine isTrue_or (thn (ha pins s σ H Q I h) fun c s1 e => ?_)
  cases c with
  | false => exact isTrue_or_nil e
  | true => exact e
theorem pw_and (ha : PT X a tA) (hb : PW X (.BoolOp .And (b :: rest) pos) tB') : PW X (.BoolOp .And (a :: b :: rest) pos) (tAnd tA tB') := by
  intro wh pins s σ H Q I h
  refine isTrue_and (thn (ha pins s σ H _ I h) fun c s1 ⟨H1, I1, q1⟩ => ?_)
  cases c with
  | true => exact hb wh pins s1 σ H1 Q I1 q1
  | false => exact ⟨H1, I1, q1⟩
theorem pw_or (ha : PT X a tA) (hb : PW X (.BoolOp .Or (b :: rest) pos) tB') : PW X (.BoolOp .Or (a :: b :: rest) pos) (tOr tA tB') := by
  intro wh pins s σ H Q I h
  refine isTrue_or (thn (ha pins s σ H _ I h) fun c s1 ⟨H1, I1, q1⟩ => ?_)
  cases c with
  | true => exact ⟨H1, I1, q1⟩
  | false => exact hb wh pins s1 σ H1 Q I1 q1
theorem pt_not (ha : PT X a tA) : PT X (.UnaryOp .Not a pos) (tNot tA) := by
  intro pins s σ H Q I h
  exact isTrue_not (ha pins s σ H (fun c H1 => Q (!c) H1) I h)
def tAndV (ta tb : TE) : TE := fun σ H Q => ta σ H fun x H1 => ∃ c, x = .bl c ∧ if c = true then tb σ H1 Q else Q (.bl false) H1
def tOrV (ta tb : TE) : TE := fun σ H Q => ta σ H fun x H1 => ∃ c, x = .bl c ∧ if c = true then Q (.bl true) H1 else tb σ H1 Q
def tNotV (ta : TE) : TE := fun σ H Q => ta σ H fun x H1 => ∃ c, x = .bl c ∧ Q (.bl (!c)) H1
theorem pe_one {op} {t : TE} (h : PE X a t) : PE X (.BoolOp op [a] pos) t := fun pins s σ H Q I hw => BoolOp_one (h pins s σ H Q I hw)
theorem pe_and (ha : PE X a ta) (hb : PE X (.BoolOp .And (b :: rest) pos) tb) : PE X (.BoolOp .And (a :: b :: rest) pos) (tAndV ta tb) := by
  intro pins s σ H Q I h
  refine BoolOp_and (thn (ha pins s σ H _ I h) fun v s1 ⟨x, H1, I1, r1, q1⟩ => ?_)
  obtain ⟨c, rfl, q1⟩ := q1
  cases r1
  refine wpAny_truthy_bool ?_
  cases c with
  | true => exact hb pins s1 σ H1 Q I1 q1
  | false => exact ⟨.bl false, H1, I1, rfl, q1⟩
theorem pe_or (ha : PE X a ta) (hb : PE X (.BoolOp .Or (b :: rest) pos) tb) : PE X (.BoolOp .Or (a :: b :: rest) pos) (tOrV ta tb) := by
  intro pins s σ H Q I h
  refine BoolOp_or (thn (ha pins s σ H _ I h) fun v s1 ⟨x, H1, I1, r1, q1⟩ => ?_)
  obtain ⟨c, rfl, q1⟩ := q1
  cases r1
  refine wpAny_truthy_bool ?_
  cases c with
  | false => exact hb pins s1 σ H1 Q I1 q1
  | true => exact ⟨.bl true, H1, I1, rfl, q1⟩
theorem pe_not (ha : PE X a ta) : PE X (.UnaryOp .Not a pos) (tNotV ta) := by
  intro pins s σ H Q I h
  refine UnaryOp_ (thn (ha pins s σ H _ I h) fun v s1 ⟨x, H1, I1, r1, q1⟩ => ?_)
  obtain ⟨c, rfl, q1⟩ := q1
  cases r1
  exact not_of (wpAny_truthy_bool ⟨.bl (!c), H1, I1, rfl, q1⟩)
def tIf (t : TT) (ta tb : TE) : TE := fun σ H Q => t σ H fun c H1 => if c = true then ta σ H1 Q else tb σ H1 Q
theorem pe_ifExp {c : Expr} (hc : PT X c tA) (ha : PE X a ta) (hb : PE X b tb) : PE X (.IfExp c a b pos) (tIf tA ta tb) := by
  intro pins s σ H Q I h
  refine wpAny_IfExp (thn (hc pins s σ H _ I h) fun d s1 ⟨H1, I1, q1⟩ => ?_)
  cases d with
  | true => exact ha pins s1 σ H1 Q I1 q1
  | false => exact hb pins s1 σ H1 Q I1 q1
end
end L2
namespace L2
open PySem PySem.Spec PyProof.Rows
def SqL (K : PySem.W.Frag) (H : Hp) (a : Addr) (xs : List V) : Prop :=
  Rd H a (.lst xs) ∨
    ∃ (o : Obj) (its : Array Value) (n : Nat), K.lookup a = some o ∧ o.cls = .type "list" ∧ o.dict = none ∧ o.data = .seq its n ∧ its.size ≤ sizeLine ∧ Vals xs its.toList
def SqT (K : PySem.W.Frag) (H : Hp) (a : Addr) (xs : List V) : Prop :=
  Rd H a (.tup xs) ∨
    ∃ (o : Obj) (its : Array Value) (n : Nat), K.lookup a = some o ∧ o.cls = .type "tuple" ∧ o.data = .seq its n ∧ its.size ≤ sizeLine ∧ Vals xs its.toList
def absV : Value → Option V
  | .none => some .non
  | .bool b => some (.bl b)
  | .int i _ => some (.int i)
  | .str x _ => some (.str x)
  | .bytes b _ => some (.byt b)
  | .float b _ => some (.flt b)
  | .ref a => some (.ref a)
  | .type n => some (.ty n)
  | _ => none
theorem RelV.abs {x : V} {u : Value} (r : RelV x u) : absV u = some x := by
  cases x with
  | non => cases r; rfl
  | bl _ => cases r; rfl
  | int _ => obtain ⟨t, rfl⟩ := r; rfl
  | str _ => obtain ⟨t, rfl⟩ := r; rfl
  | byt _ => obtain ⟨t, rfl⟩ := r; rfl
  | flt _ => obtain ⟨t, rfl⟩ := r; rfl
  | ref _ => cases r; rfl
  | ty _ => cases r; rfl
theorem RelV.inj {x y : V} {u : Value} (r : RelV x u) (q : RelV y u) : x = y := Option.some.inj (r.abs.symm.trans q.abs)
theorem Vals.inj : ∀ {xs ys : List V} {us : List Value}, Vals xs us → Vals ys us → xs = ys
  | _, _, _, .nil, .nil => rfl
  | _, _, _, .cons r t, .cons r' t' => by rw [r.inj r', Vals.inj t t']
section
variable {X : Cx} {pins : List (Addr × Obj)} {σ : St} {H : Hp} {s : Shared} {a : Addr} {xs ys : List V}
theorem SqL.of {K : PySem.W.Frag} (h : H a = some (.lst xs)) : SqL K H a xs := .inl (.inl h)
theorem SqT.of {K : PySem.W.Frag} (h : H a = some (.tup xs)) : SqT K H a xs := .inl (.inl h)
theorem Inv.list (I : Inv X pins σ H s) (h : SqL X.K H a xs) : ∃ its : List Value, Vals xs its ∧ PlainL s.heap a its.toArray ∧ xs.length ≤ sizeLine := by
  rcases h with h | ⟨o, its, n, hk, hc, hd, hs, hz, r⟩
  · obtain ⟨z, its, n, r, e⟩ := h.ok I.hok
    exact ⟨its, r, ⟨_, n, e, rfl, rfl, rfl⟩, z⟩
  · refine ⟨its.toList, r, ⟨o, n, I.kIn a o hk, hc, hd, by simpa using hs⟩, ?_⟩
    have e := r.length
    simp only [Array.length_toList] at e
    omega
theorem Inv.tuple (I : Inv X pins σ H s) (h : SqT X.K H a xs) : ∃ its : List Value, Vals xs its ∧ IsTup s.heap a its.toArray ∧ xs.length ≤ sizeLine := by
  rcases h with h | ⟨o, its, n, hk, hc, hs, hz, r⟩
  · obtain ⟨z, its, r, p⟩ := h.ok I.hok
    exact ⟨its, r, p, z⟩
  · refine ⟨its.toList, r, ⟨o, I.kIn a o hk, hc, n, by simpa using hs⟩, ?_⟩
    have e := r.length
    simp only [Array.length_toList] at e
    omega
theorem Inv.list_inj (I : Inv X pins σ H s) (h : SqL X.K H a xs) (h' : SqL X.K H a ys) : xs = ys := by
  obtain ⟨its, r, ⟨o, n, e, _, _, d⟩, _⟩ := I.list h
  obtain ⟨its', r', ⟨o', n', e', _, _, d'⟩, _⟩ := I.list h'
  rw [e] at e'; cases e'
  rw [d] at d'
  injection d' with d1 _
  have : its = its' := by simpa using congrArg Array.toList d1
  subst this
  exact r.inj r'
theorem Inv.tuple_inj (I : Inv X pins σ H s) (h : SqT X.K H a xs) (h' : SqT X.K H a ys) : xs = ys := by
  obtain ⟨its, r, ⟨o, e, _, n, d⟩, _⟩ := I.tuple h
  obtain ⟨its', r', ⟨o', e', _, n', d'⟩, _⟩ := I.tuple h'
  rw [e] at e'; cases e'
  rw [d] at d'
  injection d' with d1 _
  have : its = its' := by simpa using congrArg Array.toList d1
  subst this
  exact r.inj r'
end
abbrev Cx.wish (X : Cx) (E : Value → Shared → Prop) : Cx := { X with xe := E }
abbrev Cx.nox (X : Cx) : Cx := X.wish fun _ _ => False
theorem Cx.Ok.wish {X : Cx} (ok : X.Ok) (E : Value → Shared → Prop) : (X.wish E).Ok :=
  ⟨ok.mod, ok.kind, ok.glob, ok.blt, ok.above, ok.inj, ok.has, ok.cab, ok.hd, ok.frames, ok.stk, ok.exf, ok.bs, ok.bsz, ok.noex, ok.exfs, ok.funs, ok.frf⟩
theorem Cx.Ok.unwish {X : Cx} {E : Value → Shared → Prop} (ok : (X.wish E).Ok) : X.Ok :=
  ⟨ok.mod, ok.kind, ok.glob, ok.blt, ok.above, ok.inj, ok.has, ok.cab, ok.hd, ok.frames, ok.stk, ok.exf, ok.bs, ok.bsz, ok.noex, ok.exfs, ok.funs, ok.frf⟩
section
variable {X : Cx} {pins : List (Addr × Obj)} {σ : St} {H : Hp} {s : Shared} {E : Value → Shared → Prop}
theorem Inv.wish (I : Inv X pins σ H s) (E : Value → Shared → Prop) : Inv (X.wish E) pins σ H s := ⟨I.ok.wish E, I.os, I.bare, I.base, I.loc, I.cell, I.free, I.freeC, I.pin, I.hok, I.len⟩
theorem Inv.unwish (I : Inv (X.wish E) pins σ H s) : Inv X pins σ H s := ⟨I.ok.unwish, I.os, I.bare, I.base, I.loc, I.cell, I.free, I.freeC, I.pin, I.hok, I.len⟩
theorem SP.unwish {D : Ends} {f : Flow} {s' : Shared} (h : SP (X.wish E) pins D f s') : SP X pins D f s' := by
  cases f with
  | next => obtain ⟨σ', H', I, q⟩ := h; exact ⟨σ', H', I.unwish, q⟩
  | brk => obtain ⟨σ', H', I, q⟩ := h; exact ⟨σ', H', I.unwish, q⟩
  | cont => obtain ⟨σ', H', I, q⟩ := h; exact ⟨σ', H', I.unwish, q⟩
  | ret u => obtain ⟨v, σ', H', I, r, q⟩ := h; exact ⟨v, σ', H', I.unwish, r, q⟩
theorem PSs.nox {st : List Stmt} {t : TS} (h : PSs X.nox st t) : PSs X st t := fun pins s σ H D I hw =>
  wpAny_mono (h pins s σ H D (I.wish _) hw) (fun _ _ q => q.unwish) fun _ _ z => False.elim z
end
section
variable {X : Cx} {st : Stmt} {rest : List Stmt} {t u : TS} {e : Expr} {te : TE} {pos : Pos}
def tNext : TS := fun D σ H => D.nx σ H
def tSeq (t u : TS) : TS := fun D σ H => t { D with nx := u D } σ H
theorem pss_nil : PSs X [] tNext := fun _ _ σ H _ I h => wpAny_execs_nil ⟨σ, H, I, h⟩
theorem pss_cons (h1 : PS X st t) (h2 : PSs X rest u) : PSs X (st :: rest) (tSeq t u) := by
  intro pins s σ H D I h
  refine wpAny_execs_cons (thn (h1 pins s σ H { D with nx := u D } I h) fun f s1 q => ?_)
  cases f with
  | next =>
    obtain ⟨σ', H', I', q⟩ := q
    exact h2 pins s1 σ' H' D I' q
  | ret v => exact q
  | brk => exact q
  | cont => exact q
theorem pss_one (h1 : PS X st t) : PSs X [st] t := by
  intro pins s σ H D I h
  refine wpAny_execs_cons (thn (h1 pins s σ H D I h) fun f s1 q => ?_)
  cases f with
  | next => exact wpAny_execs_nil q
  | ret v => exact q
  | brk => exact q
  | cont => exact q
theorem Inv.quiet {pins : List (Addr × Obj)} {σ : St} {H : Hp} {s : Shared} (I : Inv X pins σ H s) : interactive X.env = false := by simp [interactive, I.ok.kind]
def tDrop (te : TE) : TS := fun D σ H => te σ H fun _ H1 => D.nx σ H1
theorem ps_expr (he : PE X e te) (hs : swapsWith e none pos.line X.env = pure false := by rfl) : PS X (.Expr e pos) (tDrop te) := by
  intro pins s σ H D I h
  exact wpAny_Expr_any (thn (he pins s σ H _ I h) fun v s1 ⟨x, H1, I1, r1, q1⟩ => ⟨σ, H1, I1, q1⟩) I.quiet hs
def tRet (te : TE) : TS := fun D σ H => te σ H D.rt
theorem ps_ret (he : PE X e te) : PS X (.Return (some e) pos) (tRet te) := by
  intro pins s σ H D I h
  exact wpAny_Return_some (thn (he pins s σ H _ I h) fun v s1 ⟨x, H1, I1, r1, q1⟩ => ⟨x, σ, H1, I1, r1, q1⟩)
def tIfS (c : TT) (t u : TS) : TS := fun D σ H => c σ H fun b H1 => if b = true then t D σ H1 else u D σ H1
theorem ps_if {c : Expr} {a b : List Stmt} {tc : TT} (hc : PT X c tc) (ha : PSs X a t) (hb : PSs X b u) : PS X (.If c a b pos) (tIfS tc t u) := by
  intro pins s σ H D I h
  refine wpAny_If (thn (hc pins s σ H _ I h) fun d s1 ⟨H1, I1, q1⟩ => ?_)
  cases d with
  | true => exact ha pins s1 σ H1 D I1 q1
  | false => exact hb pins s1 σ H1 D I1 q1
def tNever : TS := fun _ _ _ => False
theorem pss_never {sts : List Stmt} : PSs X sts tNever := fun _ _ _ _ _ _ h => h.elim
end
abbrev TG := V → St → Hp → (St → Hp → Prop) → Prop
abbrev TGs := List V → St → Hp → (St → Hp → Prop) → Prop
def PG (X : Cx) (target : Expr) (t : TG) : Prop :=
  ∀ (pins : List (Addr × Obj)) (s : Shared) (σ : St) (H : Hp) (v : V) (u : Value) (Q : St → Hp → Prop), Inv X pins σ H s → RelV v u → t v σ H Q →
    wpAny (model X.prog X.w) X.A (assign target X.env u) (fun _ s' => ∃ σ' H', Inv X pins σ' H' s' ∧ Q σ' H') X.xe s
def PGs (X : Cx) (ts : List Expr) (t : TGs) : Prop :=
  ∀ (pins : List (Addr × Obj)) (s : Shared) (σ : St) (H : Hp) (vs : List V) (us : List Value) (Q : St → Hp → Prop), Inv X pins σ H s → Vals vs us → t vs σ H Q →
    wpAny (model X.prog X.w) X.A (assignInOrder ((assignEach ts X.env).map (·.2)) us) (fun _ s' => ∃ σ' H', Inv X pins σ' H' s' ∧ Q σ' H') X.xe s
abbrev TSet := V → V → V → Hp → (Hp → Prop) → Prop
def PSet (X : Cx) (t : TSet) : Prop :=
  ∀ (pins : List (Addr × Obj)) (s : Shared) (σ : St) (H : Hp) (o i v : V) (ov iv u : Value) (Q : Hp → Prop), Inv X pins σ H s → RelV o ov → RelV i iv → RelV v u → t o i v H Q →
    wpAny (model X.prog X.w) X.A (setItem ov iv u) (fun _ s' => ∃ H', Inv X pins σ H' s' ∧ Q H') X.xe s
section
variable {X : Cx} {pos : Pos}
def gName (i : Nat) : TG := fun v σ H Q => Q (σ.set i (some v)) H
theorem pg_name {i : Nat} {x : Str} (hN : X.N.Nodup) (hi : X.N[i]? = some x) (hx : Loc X.env.scope x) (hf : X.fn x = true ∨ X.env.scope.names.lookup x = some .local := by first | exact .inl rfl | exact .inr rfl | assumption) : PG X (.Name x pos) (gName i) := by
  intro pins s σ H v u Q I r h
  exact wpAny_assign_Name (store_ok I hN hi hx r (fun s' I' => ⟨_, H, I', h⟩) hf)
def gNil : TGs := fun vs σ H Q => vs = [] ∧ Q σ H
def gCons (t : TG) (u : TGs) : TGs := fun vs σ H Q => ∃ v r, vs = v :: r ∧ t v σ H fun σ' H' => u r σ' H' Q
theorem pgs_nil : PGs X [] gNil := by
  intro pins s σ H vs us Q I r h
  obtain ⟨e, h⟩ := h
  subst e
  cases r
  exact assignInOrder_nil ⟨σ, H, I, h⟩
theorem pgs_cons {e : Expr} {es : List Expr} {t : TG} {u : TGs} (h1 : PG X e t) (h2 : PGs X es u)
    (hs : (assignEach (e :: es) X.env).map (·.2) = assign e X.env :: (assignEach es X.env).map (·.2) := by rfl) : PGs X (e :: es) (gCons t u) := by
  intro pins s σ H vs us Q I r h
  obtain ⟨v, vr, e1, h⟩ := h
  subst e1
  cases r with
  | cons r rr =>
    rw [hs]
    refine assignInOrder_cons (thn (h1 pins s σ H _ _ _ I r h) fun _ s1 ⟨σ1, H1, I1, q1⟩ => ?_)
    exact h2 pins s1 σ1 H1 _ _ Q I1 rr q1
def gTup (K : PySem.W.Frag) (n : Nat) (t : TGs) : TG := fun v σ H Q => ∃ a xs, v = .ref a ∧ SqT K H a xs ∧ xs.length = n ∧ t xs σ H Q
theorem pg_tup {es : List Expr} {k : Nat} {t : TGs} {n : Nat} (hc : X.calm = true) (h : PGs X es t)
    (hn : (assignEach es X.env).length = n := by rfl) (hst : (assignEach es X.env).findIdx? (·.1) = none := by rfl) : PG X (.Tuple es k pos) (gTup X.K n t) := by
  intro pins s σ H v u Q I r hw
  obtain ⟨a, xs, e1, hq, hl, hw⟩ := hw
  subst e1
  cases r
  obtain ⟨its, rv, ht, hz⟩ := I.tuple hq
  refine assign_Tuple_tuple (I.ok.hd hc) ht (by simp [hn, ← hl, rv.length]) hst fun h' hx => ?_
  have I1 : Inv X pins σ H { s with heap := h' } := I.kept (t' := s.toks) fun b o e => hx b o (Nat.ne_of_lt (Heap.lt_size e)) e
  exact h pins _ σ H xs _ Q I1 (by simpa using rv) hw
def gSub (to ti : TE) (t : TSet) : TG := fun v σ H Q => to σ H fun o H1 => ti σ H1 fun i H2 => t o i v H2 fun H3 => Q σ H3
theorem pg_sub {o i : Expr} {to ti : TE} {t : TSet} (ho : PE X o to) (hi : PE X i ti) (hs : PSet X t)
    (ha : ∀ v, assign (.Subscript o i pos) X.env v = (do
      let ov ← holding [v] (eval o X.env)
      let iv ← holding [v, ov] (eval i X.env)
      standAt pos
      holding [v, ov, iv] (setItem ov iv v)
      release [v, ov, iv] []) := by intro _; rfl) : PG X (.Subscript o i pos) (gSub to ti t) := by
  intro pins s σ H v u Q I r h
  rw [ha]
  refine wpAny_bind (wpAny_holding (thn (ho pins s σ H _ I h) fun ov s1 ⟨x, H1, I1, r1, q1⟩ => ?_))
  refine wpAny_bind (wpAny_holding (thn (hi pins s1 σ H1 _ I1 q1) fun iv s2 ⟨y, H2, I2, r2, q2⟩ => ?_))
  refine wpAny_bind (wpAny_standAt (wpAny_bind (wpAny_holding (thn (hs pins s2 σ H2 x y v ov iv u _ I2 r1 r2 r q2) fun _ s3 ⟨H3, I3, q3⟩ => ?_))))
  exact wpAny_release ⟨σ, H3, I3, q3⟩
def tAsg (te : TE) (g : TG) : TS := fun D σ H => te σ H fun x H1 => g x σ H1 D.nx
theorem ps_asg {tg e : Expr} {te : TE} {g : TG} (he : PE X e te) (hg : PG X tg g) (hs : swapsWithSole [tg] e pos.line X.env = pure false := by rfl) (hw : swappedStores [tg] e X.env = pure none := by rfl)
    (h1 : (assignEach [tg] X.env).map (·.2) = [assign tg X.env] := by rfl) : PS X (.Assign [tg] e pos) (tAsg te g) := by
  intro pins s σ H D I h
  refine wpAny_Assign_stores (thn (he pins s σ H _ I h) fun v s1 ⟨x, H1, I1, r1, q1⟩ => ?_) hs hw
  rw [h1]
  exact thn (hg pins s1 σ H1 x v _ I1 r1 q1) fun _ s2 q => q
theorem ps_set {i : Nat} {x : Str} {e : Expr} {te : TE} {pos' : Pos} (hN : X.N.Nodup) (hi : X.N[i]? = some x) (hx : Loc X.env.scope x) (he : PE X e te) (hs : swapsWith e (some (.Name x pos')) pos.line X.env = pure false := by rfl) (hf : X.fn x = true ∨ X.env.scope.names.lookup x = some .local := by first | exact .inl rfl | exact .inr rfl | assumption) :
    PS X (.Assign [.Name x pos'] e pos) (tAsg te (gName i)) := by
  intro pins s σ H D I h
  refine wpAny_Assign_Name (thn (he pins s σ H _ I h) fun v s1 ⟨y, H1, I1, r1, q1⟩ => ?_) hs
  exact store_ok I1 hN hi hx r1 (fun s2 I2 => ⟨_, H1, I2, q1⟩) hf
end
section
variable {X : Cx} {pos : Pos}
end
structure It where
  go : Nat → Hp → Prop
  yld : Nat → Hp → V → Hp → Prop
  stop : Nat → Hp → Prop
def FpOk (X : Cx) (pins : List (Addr × Obj)) (H : Hp) (b : Addr) : Prop :=
  H b = none ∧ b ≠ X.env.locals ∧ b ∉ X.fs ∧ (b ∈ X.ex ∨ X.s₀.heap.objs.size ≤ b) ∧ (∀ x c, X.env.cells.lookup x = some c → c ≠ b) ∧ ∀ p ∈ X.pn ++ pins, p.1 ≠ b
theorem Inv.fpOk {X : Cx} {pins : List (Addr × Obj)} {σ : St} {H H' : Hp} {s : Shared} {b : Addr} (I : Inv X pins σ H s) (hb : s.heap.objs.size ≤ b) (hn : H' b = none) : FpOk X pins H' b := by
  refine ⟨hn, Nat.ne_of_gt (Nat.lt_of_lt_of_le I.lt hb), I.nofs hb, .inr (Nat.le_trans I.sz hb), fun x c e z => ?_, fun p hp z => ?_⟩
  · obtain ⟨v, q⟩ := I.cell x c e
    exact absurd (Nat.lt_of_lt_of_le q.lt (by rw [z]; exact hb)) (Nat.lt_irrefl _)
  · exact absurd (Nat.lt_of_lt_of_le (Heap.lt_size (I.pin p hp).1) (by rw [z]; exact hb)) (Nat.lt_irrefl _)
structure Turn (P : Program) (w : World) (K : PySem.W.Frag) (tg : Expr) (J : It) (fp : List Addr) (it : Addr) (tn : Nat → Heap → Prop) : Prop where
  mem : it ∈ fp
  obj : ∀ i h, tn i h → ∀ b ∈ fp, ∃ o, h.get? b = some o ∧ ∀ v, o.data ≠ .cell v
  keep : ∀ i h h', tn i h → (∀ b ∈ fp, ∀ o, h.get? b = some o → h'.get? b = some o) → tn i h'
  item : ∀ (X : Cx), X.prog = P → X.w = w → X.K = K → X.calm = true → ∀ (i : Nat) (pins : List (Addr × Obj)) (s : Shared) (σ : St) (H : Hp) (E : Value → Shared → Prop), Inv X pins σ H s → (∀ b ∈ fp, FpOk X pins H b) → tn i s.heap → J.go i H →
    wpAny (model P w) X.A (pyNext (.ref it)) (fun r s1 => ∃ u, r = some u ∧
      wpAny (model P w) X.A (letOwnedTupleGo tg (.ref it) u) (fun _ s2 => ∃ x H', Inv X pins σ H' s2 ∧ RelV x u ∧ J.yld i H x H' ∧ tn (i + 1) s2.heap ∧ ∀ b ∈ fp, H' b = none) E s1) E s
  done : ∀ (X : Cx), X.prog = P → X.w = w → X.K = K → X.calm = true → ∀ (i : Nat) (pins : List (Addr × Obj)) (s : Shared) (σ : St) (H : Hp) (E : Value → Shared → Prop), Inv X pins σ H s → (∀ b ∈ fp, FpOk X pins H b) → tn i s.heap → J.stop i H →
    wpAny (model P w) X.A (pyNext (.ref it)) (fun r s1 => r = none ∧ Inv X pins σ H s1) E s
  self : ∀ (A : Around) (i : Nat) (s : Shared) (Q : Value → Shared → Prop) (E : Value → Shared → Prop), tn i s.heap → Q (.ref it) s → wpAny (model P w) A (pyIter (.ref it)) Q E s
abbrev TI := St → Hp → (It → Hp → Prop) → Prop
def PIE (X : Cx) (pins : List (Addr × Obj)) (σ : St) (tg : Expr) (R : It → Hp → Prop) (itv : Value) (s2 : Shared) : Prop :=
  ∃ (it : Addr) (fp : List Addr) (tn : Nat → Heap → Prop) (J : It) (H' : Hp), itv = .ref it ∧ Inv X pins σ H' s2 ∧ Turn X.prog X.w X.K tg J fp it tn ∧ tn 0 s2.heap ∧ (∀ b ∈ fp, FpOk X pins H' b) ∧ R J H'
def PI (X : Cx) (tg iter : Expr) (wi : TI) : Prop :=
  ∀ (pins : List (Addr × Obj)) (s : Shared) (σ : St) (H : Hp) (R : It → Hp → Prop), Inv X pins σ H s → wi σ H R →
    wpAny (model X.prog X.w) X.A (eval iter X.env) (fun v s1 => wpAny (model X.prog X.w) X.A (pyIter v) (PIE X pins σ tg R) X.xe s1) X.xe s
theorem go_of {M : Model} {A : Around} {E : Value → Shared → Prop} {s : Shared} {tg : Expr} {it : Addr} {u : Value} {o : Obj} {n : String} {vs : Array Value} {Q : Unit → Shared → Prop} (ho : s.heap.get? it = some o) (hc : o.cls = .type n) (hd : o.data = .fields vs)
    (hn : ["enumerate", "zip", "dict_itemiterator", "dict_reverseitemiterator", "odict_iterator", "itertools.zip_longest", "itertools.pairwise"].contains n = false) (hQ : Q () s) : wpAny M A (letOwnedTupleGo tg (.ref it) u) Q E s := by
  unfold letOwnedTupleGo
  cases tg <;> first
    | exact wpAny_pure hQ
    | (cases u <;> first
        | exact wpAny_pure hQ
        | (refine wpAny_bind (wpAny_load ho ?_)
           rw [hc, hd]
           show wpAny M A (if (["enumerate", "zip", "dict_itemiterator", "dict_reverseitemiterator", "odict_iterator", "itertools.zip_longest", "itertools.pairwise"].contains n && vs[0]? == some (rawInt _)) = true then _ else _) Q E s
           rw [if_neg (by intro h; rw [hn, Bool.false_and] at h; cases h)]
           exact wpAny_pure hQ))
def Itl (K : PySem.W.Frag) (a : Addr) : It :=
  ⟨fun i H => ∃ xs x, SqL K H a xs ∧ xs[i]? = some x, fun i H x H' => H' = H ∧ ∀ xs, SqL K H a xs → xs[i]? = some x, fun i H => ∃ xs, SqL K H a xs ∧ xs.length ≤ i⟩
def Itt (K : PySem.W.Frag) (a : Addr) : It :=
  ⟨fun i H => ∃ xs x, SqT K H a xs ∧ xs[i]? = some x, fun i H x H' => H' = H ∧ ∀ xs, SqT K H a xs → xs[i]? = some x, fun i H => ∃ xs, SqT K H a xs ∧ xs.length ≤ i⟩
def Itr (lo : Int) (n : Nat) : It := ⟨fun i _ => i < n, fun i H x H' => H' = H ∧ x = .int (lo + i), fun i _ => n ≤ i⟩
theorem turn_list {P : Program} {w : World} {K : PySem.W.Frag} {tg : Expr} (a it : Addr) : Turn P w K tg (Itl K a) [it] it (fun i h => h.IsListIter it a i) where
  mem := by simp
  obj := fun i h st b hb => by
    have e : b = it := by simpa using hb
    subst e
    obtain ⟨o, e, c, d⟩ := st
    exact ⟨o, e, fun v z => by rw [d] at z; cases z⟩
  keep := fun i h h' st k => st.at fun o e => k it (by simp) o e
  item := by
    intro X hP hw hK hc i pins s σ H E I hf st hg
    subst hP hw hK
    obtain ⟨xs, x, hq, hx⟩ := hg
    obtain ⟨its, rv, p, hz⟩ := I.list hq
    obtain ⟨u, hu, ru⟩ := rv.get hx
    obtain ⟨f0, f1, f2, f3, f4, f5⟩ := hf it (by simp)
    refine wpAny_pyNext_list_item st p.isList (x := u) (by simpa using hu) fun h' st' sb => ?_
    have I1 : Inv X pins σ H { s with heap := h' } := I.turned (t' := s.toks) (fun b o hb e => (sb.2 b hb).trans e) f0 f1 f3 f4 f5
    obtain ⟨o, e, c, d⟩ := id st'
    exact ⟨u, rfl, go_of (s := { s with heap := h' }) e c d (by decide) ⟨x, H, I1, ru, ⟨rfl, fun ys hy => by rw [I.list_inj hy hq]; exact hx⟩, st', fun b hb => (hf b hb).1⟩⟩
  done := by
    intro X hP hw hK hc i pins s σ H E I hf st hg
    subst hP hw hK
    obtain ⟨xs, hq, hx⟩ := hg
    obtain ⟨its, rv, p, hz⟩ := I.list hq
    obtain ⟨f0, f1, f2, f3, f4, f5⟩ := hf it (by simp)
    have hl := rv.length
    exact wpAny_pyNext_list_end (I.ok.hd hc) st p.isList (by simp; omega) fun h' eb => ⟨rfl, I.turned (t' := s.toks) (fun b o hb e => eb b o hb e) f0 f1 f3 f4 f5⟩
  self := fun _ _ _ _ _ st h => wpAny_pyIter_listiter st h
theorem turn_tuple {P : Program} {w : World} {K : PySem.W.Frag} {tg : Expr} (a it : Addr) : Turn P w K tg (Itt K a) [it] it (fun i h => h.IsTupleIter it a i) where
  mem := by simp
  obj := fun i h st b hb => by
    have e : b = it := by simpa using hb
    subst e
    obtain ⟨o, e, c, d⟩ := st
    exact ⟨o, e, fun v z => by rw [d] at z; cases z⟩
  keep := fun i h h' st k => st.at fun o e => k it (by simp) o e
  item := by
    intro X hP hw hK hc i pins s σ H E I hf st hg
    subst hP hw hK
    obtain ⟨xs, x, hq, hx⟩ := hg
    obtain ⟨its, rv, p, hz⟩ := I.tuple hq
    obtain ⟨u, hu, ru⟩ := rv.get hx
    obtain ⟨f0, f1, f2, f3, f4, f5⟩ := hf it (by simp)
    refine wpAny_pyNext_tuple_item st (show s.heap.IsTuple a its.toArray from p) (x := u) (by simpa using hu) fun h' st' sb => ?_
    have I1 : Inv X pins σ H { s with heap := h' } := I.turned (t' := s.toks) (fun b o hb e => (sb.2 b hb).trans e) f0 f1 f3 f4 f5
    obtain ⟨o, e, c, d⟩ := id st'
    exact ⟨u, rfl, go_of (s := { s with heap := h' }) e c d (by decide) ⟨x, H, I1, ru, ⟨rfl, fun ys hy => by rw [I.tuple_inj hy hq]; exact hx⟩, st', fun b hb => (hf b hb).1⟩⟩
  done := by
    intro X hP hw hK hc i pins s σ H E I hf st hg
    subst hP hw hK
    obtain ⟨xs, hq, hx⟩ := hg
    obtain ⟨its, rv, p, hz⟩ := I.tuple hq
    obtain ⟨f0, f1, f2, f3, f4, f5⟩ := hf it (by simp)
    have hl := rv.length
    exact wpAny_pyNext_tuple_end (I.ok.hd hc) st (show s.heap.IsTuple a its.toArray from p) (by simp; omega) fun h' eb => ⟨rfl, I.turned (t' := s.toks) (fun b o hb e => eb b o hb e) f0 f1 f3 f4 f5⟩
  self := fun _ _ _ _ _ st h => wpAny_pyIter_tupleiter st h
theorem turn_range {P : Program} {w : World} {K : PySem.W.Frag} {tg : Expr} (it : Addr) (lo : Int) (n : Nat) : Turn P w K tg (Itr lo n) [it] it (fun i h => IsRangeIter h it (lo + (i : Nat) * 1) ((n : Int) - (i : Nat)) 1) where
  mem := by simp
  obj := fun i h st b hb => by
    have e : b = it := by simpa using hb
    subst e
    exact ⟨_, st, fun v z => by
      have z' : Data.fields _ = Data.cell v := z
      cases z'⟩
  keep := fun i h h' st k => k it (by simp) _ st
  item := by
    intro X hP hw hK hc i pins s σ H E I hf st hg
    subst hP hw hK
    obtain ⟨f0, f1, f2, f3, f4, f5⟩ := hf it (by simp)
    have W := Walks.range (prog := X.prog) (w := X.w) (I.ok.hd hc) it lo 1 n
    refine W.item i s _ _ hg st fun v h' tk hv st' kk => ?_
    obtain ⟨t, rfl⟩ := hv
    have I1 : Inv X pins σ H { s with heap := h', toks := tk } := I.turned (fun b o hb e => kk b o (by simpa using hb) e) f0 f1 f3 f4 f5
    refine ⟨_, rfl, go_of (s := { s with heap := h', toks := tk }) (n := "range_iterator") st' rfl rfl (by decide) ⟨.int (lo + i), H, I1, ⟨t, ?_⟩, ⟨rfl, rfl⟩, st', fun b hb => (hf b hb).1⟩⟩
    rw [Int.mul_one]
  done := by
    intro X hP hw hK hc i pins s σ H E I hf st hg
    subst hP hw hK
    obtain ⟨f0, f1, f2, f3, f4, f5⟩ := hf it (by simp)
    exact wpAny_pyNext_range_end (I.ok.hd hc) st (by have : n ≤ i := hg; omega) fun h' eb => ⟨rfl, I.turned (t' := s.toks) (fun b o hb e => eb b o hb e) f0 f1 f3 f4 f5⟩
  self := fun _ _ _ _ _ st h => wpAny_pyIter_rangeiter st h
end L2
namespace L2
open PySem PySem.Spec PyProof.Rows
section
variable {X : Cx} {tg : Expr}
theorem range_it {pins : List (Addr × Obj)} {σ : St} {H : Hp} {s : Shared} {R : It → Hp → Prop} {E : Value → Shared → Prop} {lo hi : Int} {t u v : Tok} {tk : Nat} (I : Inv X pins σ H s) (h1 : -(2 ^ 62) ≤ lo) (h2 : lo < 2 ^ 62) (h3 : -(2 ^ 62) ≤ hi) (h4 : hi < 2 ^ 62)
    (q : R (Itr lo (hi - lo).toNat) H) : wpAny (model X.prog X.w) X.A (pyIter (.ref s.heap.objs.size)) (PIE X pins σ tg R) E { s with heap := s.heap.push { cls := .type "range", data := .fields #[.int lo t, .int hi u, .int 1 v] }, toks := tk } := by
  refine wpAny_pyIter_range (IsRange.new ..) (small_one h1 h2 h3 h4) ?_
  have I1 : Inv X pins σ H { s with heap := s.heap.push { cls := .type "range", data := .fields #[.int lo t, .int hi u, .int 1 v] }, toks := tk } := I.kept fun b o e => Heap.get?_push_of_some _ e
  refine ⟨(s.heap.push { cls := .type "range", data := .fields #[.int lo t, .int hi u, .int 1 v] }).objs.size, [(s.heap.push { cls := .type "range", data := .fields #[.int lo t, .int hi u, .int 1 v] }).objs.size], _, _, H, rfl,
    I1.kept (t' := tk) fun b o e => Heap.get?_push_of_some _ e, turn_range _ lo (hi - lo).toNat, ?_, fun b hb => ?_, q⟩
  · have e1 : lo + ((0 : Nat) : Int) * 1 = lo := by simp
    have e2 : (((hi - lo).toNat : Nat) : Int) - ((0 : Nat) : Int) = Builtin.Range.rangeSize lo hi 1 := by rw [rangeSize_one]; split <;> omega
    show IsRangeIter _ _ (lo + ((0 : Nat) : Int) * 1) ((((hi - lo).toNat : Nat) : Int) - ((0 : Nat) : Int)) 1
    rw [e1, e2]
    exact Heap.get?_push_size _ rfl
  · have e : b = (s.heap.push { cls := .type "range", data := .fields #[.int lo t, .int hi u, .int 1 v] }).objs.size := by simpa using hb
    subst e
    exact I1.fpOk (Nat.le_refl _) (I1.hok.fresh (Nat.le_refl _))
def iRng1 (ta : TA) : TI := fun σ H R => ta σ H fun vs H1 => ∃ j : Int, vs = [.int j] ∧ -(2 ^ 62) ≤ j ∧ j < 2 ^ 62 ∧ R (Itr 0 j.toNat) H1
theorem pi_range1 {a : Expr} {ta : TA} {p pos : Pos} (hg : Gl X "range") (hm : X.mg "range" = none) (ha : PA X [a] ta) (hs : starEach [a] X.env = [(false, eval a X.env)] := by rfl) : PI X tg (.Call (.Name "range" p) [a] [] pos) (iRng1 ta) := by
  intro pins s σ H R I h
  refine Call_ (ld_blt I hg hm boot_range (PyProof.Rows.callWith_type1 (thn (ha pos pins s σ H _ I h) fun us s1 ⟨vs, H1, I1, r1, q1⟩ => ?_) hs rfl))
  obtain ⟨j, e, q1, q2, q⟩ := q1
  subst e
  cases r1 with
  | cons r rr =>
    cases rr
    obtain ⟨t, rfl⟩ := r
    exact call_range_1 (range_it I1 (by omega) (by omega) q1 q2 (by simpa using q))
def tFor (wi : TI) (g : TG) (tb : TS) : TS := fun D σ H => wi σ H fun J H1 => ∃ W : Nat → Nat → St → Hp → Prop, (∃ m, W 0 m σ H1) ∧ ∀ i m σ H, W i m σ H →
  (J.stop i H ∧ D.nx σ H) ∨ (J.go i H ∧ ∃ N : St → Hp → Prop, (∀ σ' H', N σ' H' → ∃ m', m' < m ∧ W (i + 1) m' σ' H') ∧ ∀ x H', J.yld i H x H' → g x σ H' fun σ2 H2 => tb { D with nx := N, ct := N, bk := D.nx } σ2 H2)
def pinsAt (fp : List Addr) (h : Heap) : List (Addr × Obj) := fp.filterMap fun b => (h.get? b).map fun o => (b, o)
theorem mem_pinsAt {fp : List Addr} {h : Heap} {b : Addr} {o : Obj} (hb : b ∈ fp) (e : h.get? b = some o) : (b, o) ∈ pinsAt fp h := List.mem_filterMap.mpr ⟨b, hb, by rw [e]; rfl⟩
theorem of_pinsAt {fp : List Addr} {h : Heap} {p : Addr × Obj} (hp : p ∈ pinsAt fp h) : p.1 ∈ fp ∧ h.get? p.1 = some p.2 := by
  obtain ⟨b, hb, e⟩ := List.mem_filterMap.mp hp
  cases q : h.get? b with
  | none => rw [q] at e; cases e
  | some o =>
    rw [q] at e
    have e' : (b, o) = p := Option.some.inj e
    subst e'
    exact ⟨hb, q⟩
theorem Inv.pinned {pins : List (Addr × Obj)} {σ : St} {H : Hp} {s : Shared} {fp : List Addr} (I : Inv X pins σ H s) (hf : ∀ b ∈ fp, FpOk X pins H b) (ho : ∀ b ∈ fp, ∃ o, s.heap.get? b = some o ∧ ∀ v, o.data ≠ .cell v) : Inv X (pins ++ pinsAt fp s.heap) σ H s :=
  I.pins_of fun p hp => (List.mem_append.mp hp).elim (fun z => I.pin p (List.mem_append_right _ z)) fun z => by
    obtain ⟨hb, e⟩ := of_pinsAt z
    obtain ⟨f0, f1, f2, _⟩ := hf p.1 hb
    obtain ⟨o, e', d⟩ := ho p.1 hb
    rw [e] at e'; cases e'
    exact ⟨e, f0, f1, f2, d⟩
theorem Inv.unpinned {pins pl : List (Addr × Obj)} {σ : St} {H : Hp} {s : Shared} (I : Inv X (pins ++ pl) σ H s) : Inv X pins σ H s := I.pins_of fun p hp => I.pin p (List.mem_append_right _ (List.mem_append_left _ hp))
theorem ps_for {iter : Expr} {body : List Stmt} {wi : TI} {g : TG} {tb : TS} {pos : Pos} (hp : PassesOwn (model X.prog X.w) X.A X.env X.xe) (hc : X.calm = true) (hi : PI X tg iter wi) (hg : PG X tg g) (hb : PSs X body tb)
    (hs : ∀ x, foldedSetIterable iter X.env x = pure x := by intro _; rfl) : PS X (.For tg iter body [] pos) (tFor wi g tb) := by
  intro pins s σ H D I h
  refine wpAny_For (thn (hi pins s σ H _ I h) fun v s1 h1 => thn h1 fun itv s2 h2 => ?_) hs
  obtain ⟨it, fp, tn, J, H2, e, I2, T, st2, f2, W, ⟨m0, w0⟩, turn⟩ := h2
  subst e
  have stat : ∀ {H' : Hp}, (∀ b ∈ fp, H' b = none) → ∀ b ∈ fp, FpOk X pins H' b := fun hn b hb => ⟨hn b hb, (f2 b hb).2⟩
  refine codeAny_forLoop_any (fun n s' => ∃ i σ' H', Inv X pins σ' H' s' ∧ tn i s'.heap ∧ (∀ b ∈ fp, H' b = none) ∧ W i n σ' H') ?_ m0 ⟨0, σ, H2, I2, st2, fun b hb => (f2 b hb).1, w0⟩
  rintro n s3 ⟨i, σ3, H3, I3, st3, fr3, w3⟩
  rcases turn i n σ3 H3 w3 with ⟨stop, qn⟩ | ⟨go, N, hN, step⟩
  · refine wpAny_passesOwn hp (thn (T.done X rfl rfl rfl hc i pins s3 σ3 H3 X.xe I3 (stat fr3) st3 stop) fun r s4 ⟨hr, I4⟩ => ?_)
    subst hr
    exact wpAny_execs_nil ⟨σ3, H3, I4, qn⟩
  · refine wpAny_passesOwn hp (thn (T.item X rfl rfl rfl hc i pins s3 σ3 H3 X.xe I3 (stat fr3) st3 go) fun r s4 ⟨u, hr, h4⟩ => ?_)
    subst hr
    refine wpAny_passesOwn hp (thn h4 fun _ s5 ⟨x, H5, I5, r5, y5, st5, fr5⟩ => ?_)
    have I5' := I5.pinned (stat fr5) (T.obj _ _ st5)
    refine wpAny_passesOwn hp (thn (hg _ s5 σ3 H5 x u _ I5' r5 (step x H5 y5)) fun _ s6 ⟨σ6, H6, I6, q6⟩ => ?_)
    refine wpAny_passesOwn hp (thn (hb _ s6 σ6 H6 _ I6 q6) fun f s7 q7 => ?_)
    have again : ∀ {σ7 : St} {H7 : Hp}, Inv X (pins ++ pinsAt fp s5.heap) σ7 H7 s7 → N σ7 H7 → ∃ m, m < n ∧ ∃ i σ' H', Inv X pins σ' H' s7 ∧ tn i s7.heap ∧ (∀ b ∈ fp, H' b = none) ∧ W i m σ' H' := fun {σ7 H7} I7 n7 => by
      obtain ⟨m', hm, w7⟩ := hN σ7 H7 n7
      refine ⟨m', hm, i + 1, σ7, H7, I7.unpinned, T.keep _ _ _ st5 fun b hb o e => (I7.pin (b, o) (List.mem_append_right _ (List.mem_append_right _ (mem_pinsAt hb e)))).1, fun b hb => ?_, w7⟩
      obtain ⟨o, e, d⟩ := T.obj _ _ st5 b hb
      exact (I7.pin (b, o) (List.mem_append_right _ (List.mem_append_right _ (mem_pinsAt hb e)))).2.1
    cases f with
    | next => obtain ⟨σ7, H7, I7, n7⟩ := q7; exact again I7 n7
    | cont => obtain ⟨σ7, H7, I7, n7⟩ := q7; exact again I7 n7
    | brk => obtain ⟨σ7, H7, I7, q7⟩ := q7; exact ⟨σ7, H7, I7.unpinned, q7⟩
    | ret v => obtain ⟨x7, σ7, H7, I7, r7, q7⟩ := q7; exact ⟨x7, σ7, H7, I7.unpinned, r7, q7⟩
end
theorem for_list {K : PySem.W.Frag} {a : Addr} {xs : List V} {g : TG} {tb : TS} {D : Ends} {σ : St} {H : Hp} (Pv : Nat → St → Hp → Prop) (h0 : Pv 0 σ H) (hl : ∀ i σ H, i ≤ xs.length → Pv i σ H → SqL K H a xs)
    (hs : ∀ i x σ H, xs[i]? = some x → Pv i σ H → g x σ H fun σ2 H2 => tb { D with nx := Pv (i + 1), ct := Pv (i + 1), bk := D.nx } σ2 H2) (hd : ∀ σ H, Pv xs.length σ H → D.nx σ H) :
    ∃ W : Nat → Nat → St → Hp → Prop, (∃ m, W 0 m σ H) ∧ ∀ i m σ H, W i m σ H →
      ((Itl K a).stop i H ∧ D.nx σ H) ∨ ((Itl K a).go i H ∧ ∃ N : St → Hp → Prop, (∀ σ' H', N σ' H' → ∃ m', m' < m ∧ W (i + 1) m' σ' H') ∧ ∀ x H', (Itl K a).yld i H x H' → g x σ H' fun σ2 H2 => tb { D with nx := N, ct := N, bk := D.nx } σ2 H2) := by
  refine ⟨fun i m σ H => m = xs.length - i ∧ i ≤ xs.length ∧ Pv i σ H, ⟨xs.length, by simp, Nat.zero_le _, h0⟩, ?_⟩
  rintro i m σ H ⟨rfl, hi, p⟩
  have q := hl i σ H hi p
  by_cases hlt : i < xs.length
  · refine .inr ⟨⟨xs, xs[i], q, by simp [hlt]⟩, Pv (i + 1), fun σ' H' p' => ⟨xs.length - (i + 1), by omega, rfl, hlt, p'⟩, fun x H' y => ?_⟩
    obtain ⟨e, y⟩ := y
    subst e
    exact hs i x σ _ (y xs q) p
  · have e : i = xs.length := by omega
    subst e
    exact .inl ⟨⟨xs, q, Nat.le_refl _⟩, hd σ H p⟩
theorem for_range {lo : Int} {n : Nat} {g : TG} {tb : TS} {D : Ends} {σ : St} {H : Hp} (Pv : Nat → St → Hp → Prop) (h0 : Pv 0 σ H)
    (hs : ∀ i σ H, i < n → Pv i σ H → g (.int (lo + i)) σ H fun σ2 H2 => tb { D with nx := Pv (i + 1), ct := Pv (i + 1), bk := D.nx } σ2 H2) (hd : ∀ σ H, Pv n σ H → D.nx σ H) :
    ∃ W : Nat → Nat → St → Hp → Prop, (∃ m, W 0 m σ H) ∧ ∀ i m σ H, W i m σ H →
      ((Itr lo n).stop i H ∧ D.nx σ H) ∨ ((Itr lo n).go i H ∧ ∃ N : St → Hp → Prop, (∀ σ' H', N σ' H' → ∃ m', m' < m ∧ W (i + 1) m' σ' H') ∧ ∀ x H', (Itr lo n).yld i H x H' → g x σ H' fun σ2 H2 => tb { D with nx := N, ct := N, bk := D.nx } σ2 H2) := by
  refine ⟨fun i m σ H => m = n - i ∧ i ≤ n ∧ Pv i σ H, ⟨n, by simp, Nat.zero_le _, h0⟩, ?_⟩
  rintro i m σ H ⟨rfl, hi, p⟩
  by_cases hlt : i < n
  · refine .inr ⟨hlt, Pv (i + 1), fun σ' H' p' => ⟨n - (i + 1), by omega, rfl, hlt, p'⟩, fun x H' y => ?_⟩
    obtain ⟨e, y⟩ := y
    subst e y
    exact hs i σ _ hlt p
  · have e : i = n := by omega
    subst e
    exact .inl ⟨Nat.le_refl _, hd σ H p⟩
end L2
namespace L2
open PySem PySem.Spec PyProof.Rows
abbrev R2 := V → V → Hp → VK → Prop
def OpR (X : Cx) (f : Value → Value → Sem Value) (r : R2) : Prop :=
  ∀ (pins : List (Addr × Obj)) (s : Shared) (σ : St) (H : Hp) (x y : V) (v u : Value) (Q : VK), Inv X pins σ H s → RelV x v → RelV y u → r x y H Q →
    wpAny (model X.prog X.w) X.A (f v u) (EP X pins σ Q) X.xe s
def UnR (X : Cx) (f : Value → Sem Value) (r : V → Hp → VK → Prop) : Prop :=
  ∀ (pins : List (Addr × Obj)) (s : Shared) (σ : St) (H : Hp) (x : V) (v : Value) (Q : VK), Inv X pins σ H s → RelV x v → r x H Q →
    wpAny (model X.prog X.w) X.A (f v) (EP X pins σ Q) X.xe s
def CallR (X : Cx) (f : Value) (r : List V → Hp → VK → Prop) : Prop :=
  ∀ (pins : List (Addr × Obj)) (s : Shared) (σ : St) (H : Hp) (xs : List V) (us : List Value) (Q : VK), Inv X pins σ H s → Vals xs us → r xs H Q →
    wpAny (model X.prog X.w) X.A (call f us) (EP X pins σ Q) X.xe s
def TruR (X : Cx) (r : V → Hp → (Bool → Hp → Prop) → Prop) : Prop :=
  ∀ (pins : List (Addr × Obj)) (s : Shared) (σ : St) (H : Hp) (x : V) (v : Value) (Q : Bool → Hp → Prop), Inv X pins σ H s → RelV x v → r x H Q →
    wpAny (model X.prog X.w) X.A (truthy v) (TP X pins σ Q) X.xe s
def tOp (r : R2) (ta tb : TE) : TE := fun σ H Q => ta σ H fun x H1 => tb σ H1 fun y H2 => r x y H2 Q
def tUn (r : V → Hp → VK → Prop) (ta : TE) : TE := fun σ H Q => ta σ H fun x H1 => r x H1 Q
def rI (C : Int → Int → Prop) (g : Int → Int → V) : R2 := fun x y H Q => ∃ i j, x = .int i ∧ y = .int j ∧ C i j ∧ Q (g i j) H
def rI0 (g : Int → Int → V) : R2 := fun x y H Q => ∃ i j, x = .int i ∧ y = .int j ∧ Q (g i j) H
def rU (g : Int → V) : V → Hp → VK → Prop := fun x H Q => ∃ i, x = .int i ∧ Q (g i) H
section
variable {X : Cx} {a b c : Expr} {ta tb tc : TE} {pos : Pos}
theorem binT (ha : PE X a ta) (hb : PE X b tb) {pins : List (Addr × Obj)} {s : Shared} {σ : St} {H : Hp} {R : V → V → Hp → Prop} (I : Inv X pins σ H s)
    (h : ta σ H fun x H1 => tb σ H1 fun y H2 => R x y H2) {Q : Value → Shared → Prop} {f : Value → Value → Sem Value}
    (hf : ∀ v u s2 x y H2, Inv X pins σ H2 s2 → RelV x v → RelV y u → R x y H2 → wpAny (model X.prog X.w) X.A (f v u) Q X.xe s2) :
    wpAny (model X.prog X.w) X.A (eval a X.env) (fun v s₁ => wpAny (model X.prog X.w) X.A (eval b X.env) (fun u s₂ => wpAny (model X.prog X.w) X.A (f v u) Q X.xe s₂) X.xe s₁) X.xe s := by
  refine thn (ha pins s σ H _ I h) fun v s1 ⟨x, H1, I1, r1, q1⟩ => ?_
  refine thn (hb pins s1 σ H1 _ I1 q1) fun u s2 ⟨y, H2, I2, r2, q2⟩ => ?_
  exact hf v u s2 x y H2 I2 r1 r2 q2
theorem pe_op {op : Operator} {r : R2} (ho : OpR X (binaryOp op) r) (ha : PE X a ta) (hb : PE X b tb) : PE X (.BinOp a op b pos) (tOp r ta tb) := by
  intro pins s σ H Q I h
  exact wpAny_BinOp (binT ha hb I h fun v u s2 x y H2 I2 rx ry q => ho pins s2 σ H2 x y v u Q I2 rx ry q)
theorem pe_un {op : UnaryOp} {r : V → Hp → VK → Prop} (ho : UnR X (unaryOp op) r) (ha : PE X a ta) : PE X (.UnaryOp op a pos) (tUn r ta) := by
  intro pins s σ H Q I h
  exact UnaryOp_ (thn (ha pins s σ H _ I h) fun v s1 ⟨x, H1, I1, r1, q1⟩ => ho pins s1 σ H1 x v Q I1 r1 q1)
theorem opI {f : Value → Value → Sem Value} {C : Int → Int → Prop} {g : Int → Int → Int}
    (rule : ∀ (i j : Int) (t u : Tok) (s : Shared) (Q : Value → Shared → Prop) (E : Value → Shared → Prop), C i j → Q (.int (g i j) s.toks) { s with toks := s.toks + 1 } → wpAny (model X.prog X.w) X.A (f (.int i t) (.int j u)) Q E s) :
    OpR X f (rI C fun i j => .int (g i j)) := by
  intro pins s σ H x y v u Q I rx ry h
  obtain ⟨i, j, rfl, rfl, hc, q⟩ := h
  obtain ⟨t, rfl⟩ := rx
  obtain ⟨t', rfl⟩ := ry
  exact rule i j t t' s _ _ hc ⟨.int (g i j), H, I.tok _, ⟨_, rfl⟩, q⟩
theorem opI0 {f : Value → Value → Sem Value} {g : Int → Int → Int}
    (rule : ∀ (i j : Int) (t u : Tok) (s : Shared) (Q : Value → Shared → Prop) (E : Value → Shared → Prop), Q (.int (g i j) s.toks) { s with toks := s.toks + 1 } → wpAny (model X.prog X.w) X.A (f (.int i t) (.int j u)) Q E s) :
    OpR X f (rI0 fun i j => .int (g i j)) := by
  intro pins s σ H x y v u Q I rx ry h
  obtain ⟨i, j, rfl, rfl, q⟩ := h
  obtain ⟨t, rfl⟩ := rx
  obtain ⟨t', rfl⟩ := ry
  exact rule i j t t' s _ _ ⟨.int (g i j), H, I.tok _, ⟨_, rfl⟩, q⟩
theorem opB0 {f : Value → Value → Sem Value} {g : Int → Int → Bool}
    (rule : ∀ (i j : Int) (t u : Tok) (s : Shared) (Q : Value → Shared → Prop) (E : Value → Shared → Prop), Q (.bool (g i j)) s → wpAny (model X.prog X.w) X.A (f (.int i t) (.int j u)) Q E s) :
    OpR X f (rI0 fun i j => .bl (g i j)) := by
  intro pins s σ H x y v u Q I rx ry h
  obtain ⟨i, j, rfl, rfl, q⟩ := h
  obtain ⟨t, rfl⟩ := rx
  obtain ⟨t', rfl⟩ := ry
  exact rule i j t t' s _ _ ⟨.bl (g i j), H, I, rfl, q⟩
def CPow (i j : Int) : Prop := 0 ≤ j ∧ j ≤ 1000000 ∧ i.natAbs < 2 ^ 64
def CMul (i j : Int) : Prop := (-(2 ^ 64) < i ∧ i < 2 ^ 64) ∨ (-(2 ^ 64) < j ∧ j < 2 ^ 64)
theorem CMul.ok {i j : Int} (h : CMul i j) : IntMulOk i j := by
  rcases h with ⟨h1, h2⟩ | ⟨h1, h2⟩
  · exact .of_left (intBits_le_64 h1 h2)
  · exact .of_right (intBits_le_64 h1 h2)
theorem op_add : OpR X (binaryOp .Add) (rI0 fun i j => .int (i + j)) := opI0 fun _ _ _ _ _ _ _ q => add_int q
theorem op_sub : OpR X (binaryOp .Sub) (rI0 fun i j => .int (i - j)) := opI0 fun _ _ _ _ _ _ _ q => sub_int q
theorem op_mul : OpR X (binaryOp .Mult) (rI CMul fun i j => .int (i * j)) := opI fun _ _ _ _ _ _ _ hc q => mul_int q hc.ok
theorem op_mod : OpR X (binaryOp .Mod) (rI (fun _ j => 0 < j) fun i j => .int (i % j)) := opI fun i j _ _ _ _ _ hc q => by
  have h1 : (0 : Int) < j := hc
  exact mod_int' (by omega) (by rw [Int.fmod_eq_emod_of_nonneg i (by omega)]; exact q)
theorem op_pow : OpR X (binaryOp .Pow) (rI CPow fun i j => .int (i ^ j.toNat)) := opI fun _ _ _ _ _ _ _ hc q => pow_int_small hc.1 hc.2.1 hc.2.2 q
theorem unI {f : Value → Sem Value} {g : Int → Int}
    (rule : ∀ (i : Int) (t : Tok) (s : Shared) (Q : Value → Shared → Prop) (E : Value → Shared → Prop), Q (.int (g i) s.toks) { s with toks := s.toks + 1 } → wpAny (model X.prog X.w) X.A (f (.int i t)) Q E s) :
    UnR X f (rU fun i => .int (g i)) := by
  intro pins s σ H x v Q I rx h
  obtain ⟨i, rfl, q⟩ := h
  obtain ⟨t, rfl⟩ := rx
  exact rule i t s _ _ ⟨.int (g i), H, I.tok _, ⟨_, rfl⟩, q⟩
theorem un_neg : UnR X (unaryOp .USub) (rU fun i => .int (-i)) := unI fun _ _ _ _ _ q => neg_int q
end
def scal : V → V → Bool
  | .non, .non => true | .non, .int _ => true | .int _, .non => true | .non, .bl _ => true | .bl _, .non => true | .non, .str _ => true | .str _, .non => true
  | .int _, .int _ => true | .bl _, .bl _ => true | .str _, .str _ => true | .byt _, .byt _ => true
  | .int _, .str _ => true | .str _, .int _ => true | .bl _, .str _ => true | .str _, .bl _ => true
  | _, _ => false
def rEq : R2 := fun x y H Q => scal x y = true ∧ Q (.bl (decide (x = y))) H
def rNe : R2 := fun x y H Q => scal x y = true ∧ Q (.bl (!decide (x = y))) H
theorem dec_int {i j : Int} : decide (V.int i = V.int j) = (i == j) := by
  rw [Bool.eq_iff_iff]
  simp
theorem dec_bl {i j : Bool} : decide (V.bl i = V.bl j) = (i == j) := by
  rw [Bool.eq_iff_iff]
  simp
theorem dec_str {i j : Str} : decide (V.str i = V.str j) = (i == j) := by
  rw [Bool.eq_iff_iff]
  simp
theorem dec_byt {i j : Array UInt8} : decide (V.byt i = V.byt j) = (i.toList == j.toList) := by
  rw [Bool.eq_iff_iff]
  cases i
  cases j
  simp
section
variable {X : Cx} {a b c : Expr} {ta tb tc : TE} {pos : Pos}
theorem fin_bl {pins : List (Addr × Obj)} {σ : St} {H : Hp} {s : Shared} {Q : VK} {k k' : Bool} (I : Inv X pins σ H s) (q : Q (.bl k) H) (e : k = k') : EP X pins σ Q (.bool k') s := by
  subst e
  exact ⟨.bl k, H, I, rfl, q⟩
theorem op_eq : OpR X (compareOp .Eq) rEq := by
  intro pins s σ H x y v u Q I rx ry h
  obtain ⟨hs, q⟩ := h
  cases x with
  | non =>
    cases rx
    cases y with
    | non => cases ry; exact PySem.EqNone.eq_none_none (fin_bl I q (by simp))
    | bl j => cases ry; exact PySem.EqNone.eq_none_bool (fin_bl I q (by simp))
    | int j => obtain ⟨t', rfl⟩ := ry; exact PySem.EqNone.eq_none_int (fin_bl I q (by simp))
    | str j => obtain ⟨t', rfl⟩ := ry; exact PySem.EqNone.eq_none_str (fin_bl I q (by simp))
    | _ => exact absurd (show false = true from hs) Bool.false_ne_true
  | bl i =>
    cases rx
    cases y with
    | non => cases ry; exact PySem.EqNone.eq_bool_none (fin_bl I q (by simp))
    | bl j => cases ry; exact eq_bool (fin_bl I q dec_bl)
    | str j => obtain ⟨t', rfl⟩ := ry; exact PySem.EqMixed.eq_bool_str (fin_bl I q (by simp))
    | _ => exact absurd (show false = true from hs) Bool.false_ne_true
  | int i =>
    obtain ⟨t, rfl⟩ := rx
    cases y with
    | non => cases ry; exact PySem.EqNone.eq_int_none (fin_bl I q (by simp))
    | int j => obtain ⟨t', rfl⟩ := ry; exact eq_int (fin_bl I q dec_int)
    | str j => obtain ⟨t', rfl⟩ := ry; exact PySem.EqMixed.eq_int_str (fin_bl I q (by simp))
    | _ => exact absurd (show false = true from hs) Bool.false_ne_true
  | str i =>
    obtain ⟨t, rfl⟩ := rx
    cases y with
    | non => cases ry; exact PySem.EqNone.eq_str_none (fin_bl I q (by simp))
    | bl j => cases ry; exact PySem.EqMixed.eq_str_bool (fin_bl I q (by simp))
    | int j => obtain ⟨t', rfl⟩ := ry; exact PySem.EqMixed.eq_str_int (fin_bl I q (by simp))
    | str j => obtain ⟨t', rfl⟩ := ry; exact eq_str (fin_bl I q dec_str)
    | _ => exact absurd (show false = true from hs) Bool.false_ne_true
  | byt i =>
    obtain ⟨t, rfl⟩ := rx
    cases y with
    | byt j => obtain ⟨t', rfl⟩ := ry; exact PySem.W.eq_bytes (fin_bl I q dec_byt)
    | _ => exact absurd (show false = true from hs) Bool.false_ne_true
  | _ => cases y <;> exact absurd (show false = true from hs) Bool.false_ne_true
theorem op_ne : OpR X (compareOp .NotEq) rNe := by
  intro pins s σ H x y v u Q I rx ry h
  obtain ⟨hs, q⟩ := h
  cases x with
  | non =>
    cases rx
    cases y with
    | non => cases ry; exact PySem.EqNone.ne_none_none (fin_bl I q (by simp))
    | bl j => cases ry; exact PySem.EqNone.ne_none_bool (fin_bl I q (by simp))
    | int j => obtain ⟨t', rfl⟩ := ry; exact PySem.EqNone.ne_none_int (fin_bl I q (by simp))
    | str j => obtain ⟨t', rfl⟩ := ry; exact PySem.EqNone.ne_none_str (fin_bl I q (by simp))
    | _ => exact absurd (show false = true from hs) Bool.false_ne_true
  | bl i =>
    cases rx
    cases y with
    | non => cases ry; exact PySem.EqNone.ne_bool_none (fin_bl I q (by simp))
    | bl j => cases ry; exact ne_bool (fin_bl I q (congrArg not dec_bl))
    | str j => obtain ⟨t', rfl⟩ := ry; exact PySem.EqMixed.ne_bool_str (fin_bl I q (by simp))
    | _ => exact absurd (show false = true from hs) Bool.false_ne_true
  | int i =>
    obtain ⟨t, rfl⟩ := rx
    cases y with
    | non => cases ry; exact PySem.EqNone.ne_int_none (fin_bl I q (by simp))
    | int j => obtain ⟨t', rfl⟩ := ry; exact ne_int (fin_bl I q (congrArg not dec_int))
    | str j => obtain ⟨t', rfl⟩ := ry; exact PySem.EqMixed.ne_int_str (fin_bl I q (by simp))
    | _ => exact absurd (show false = true from hs) Bool.false_ne_true
  | str i =>
    obtain ⟨t, rfl⟩ := rx
    cases y with
    | non => cases ry; exact PySem.EqNone.ne_str_none (fin_bl I q (by simp))
    | bl j => cases ry; exact PySem.EqMixed.ne_str_bool (fin_bl I q (by simp))
    | int j => obtain ⟨t', rfl⟩ := ry; exact PySem.EqMixed.ne_str_int (fin_bl I q (by simp))
    | str j => obtain ⟨t', rfl⟩ := ry; exact ne_str (fin_bl I q (congrArg not dec_str))
    | _ => exact absurd (show false = true from hs) Bool.false_ne_true
  | byt i =>
    obtain ⟨t, rfl⟩ := rx
    cases y with
    | byt j => obtain ⟨t', rfl⟩ := ry; exact PySem.W.ne_bytes (fin_bl I q (congrArg not dec_byt))
    | _ => exact absurd (show false = true from hs) Bool.false_ne_true
  | _ => cases y <;> exact absurd (show false = true from hs) Bool.false_ne_true
theorem op_lt : OpR X (compareOp .Lt) (rI0 fun i j => .bl (decide (i < j))) := opB0 fun _ _ _ _ _ _ _ q => lt_int q
theorem op_le : OpR X (compareOp .LtE) (rI0 fun i j => .bl (decide (i ≤ j))) := opB0 fun _ _ _ _ _ _ _ q => le_int q
theorem op_gt : OpR X (compareOp .Gt) (rI0 fun i j => .bl (decide (j < i))) := opB0 fun _ _ _ _ _ _ _ q => gt_int q
theorem op_in_str : OpR X (compareOp .In) (fun x y H Q => ∃ i j, x = .str i ∧ y = .str j ∧ Q (.bl (!(Builtin.Str.occurrences j i 0 j.length 1).isEmpty)) H) := by
  intro pins s σ H x y v u Q I rx ry h
  obtain ⟨i, j, rfl, rfl, q⟩ := h
  obtain ⟨t, rfl⟩ := rx
  obtain ⟨t', rfl⟩ := ry
  exact in_str (fin_bl I q rfl)
theorem op_isN : OpR X (compareOp .Is) (fun x y H Q => y = .non ∧ Q (.bl (decide (x = .non))) H) := by
  intro pins s σ H x y v u Q I rx ry h
  obtain ⟨rfl, q⟩ := h
  cases ry
  refine is_none_gen (fin_bl I q ?_)
  cases x <;> first
    | (cases rx; rfl)
    | (obtain ⟨t, rfl⟩ := rx; rfl)
theorem op_notN : OpR X (compareOp .IsNot) (fun x y H Q => y = .non ∧ Q (.bl (!decide (x = .non))) H) := by
  intro pins s σ H x y v u Q I rx ry h
  obtain ⟨rfl, q⟩ := h
  cases ry
  refine isnot_none_gen (fin_bl I q ?_)
  cases x <;> first
    | (cases rx; rfl)
    | (obtain ⟨t, rfl⟩ := rx; rfl)
theorem OpR.or {f : Value → Value → Sem Value} {r r' : R2} (h : OpR X f r) (h' : OpR X f r') : OpR X f (fun x y H Q => r x y H Q ∨ r' x y H Q) := by
  intro pins s σ H x y v u Q I rx ry q
  rcases q with q | q
  · exact h pins s σ H x y v u Q I rx ry q
  · exact h' pins s σ H x y v u Q I rx ry q
theorem nomark (b : Expr) {op : CmpOp} (h : op ≠ .In := by decide) (h2 : op ≠ .NotIn := by decide) : behindInMarks op b = false := by
  have e1 : (op == CmpOp.In) = false := by cases op <;> first | rfl | exact absurd rfl h
  have e2 : (op == CmpOp.NotIn) = false := by cases op <;> first | rfl | exact absurd rfl h2
  cases b <;> simp [behindInMarks, e1, e2]
theorem pe_cmpR {op : CmpOp} {r : R2} (ho : OpR X (compareOp op) r) (ha : PE X a ta) (hb : PE X b tb) (hm : behindInMarks op b = false) : PE X (.Compare a [op] [b] pos) (tOp r ta tb) := by
  intro pins s σ H Q I h
  exact wpAny_Compare1 (binT ha hb I h fun v u s2 x y H2 I2 rx ry q => ho pins s2 σ H2 x y v u Q I2 rx ry q) hm
def tTest (t : TE) : TT := fun σ H Q => t σ H fun x H' => ∃ k, x = .bl k ∧ Q k H'
theorem pt_cmpR {op : CmpOp} {r : R2} (ho : OpR X (compareOp op) r) (ha : PE X a ta) (hb : PE X b tb) (hm : behindInMarks op b = false) : PT X (.Compare a [op] [b] pos) (tTest (tOp r ta tb)) := by
  intro pins s σ H Q I h
  refine wpAny_isTrue_Compare1 (thn (ha pins s σ H _ I h) fun v s1 ⟨x, H1, I1, r1, q1⟩ => thn (hb pins s1 σ H1 _ I1 q1) fun u s2 ⟨y, H2, I2, r2, q2⟩ =>
    thn (ho pins s2 σ H2 x y v u _ I2 r1 r2 q2) fun c s3 ⟨z, H3, I3, r3, k, e, q3⟩ => ?_) hm
  subst e
  cases r3
  exact wpAny_truthy_bool ⟨H3, I3, q3⟩
def tChain (r r' : R2) (ta tb tc : TE) : TE := fun σ H Q => ta σ H fun x H1 => tb σ H1 fun y H2 => r x y H2 fun z H3 => ∃ k, z = .bl k ∧
  (if k = true then tc σ H3 fun w' H4 => r' y w' H4 Q else Q (.bl false) H3)
theorem pe_chain {op op' : CmpOp} {r r' : R2} (ho : OpR X (compareOp op) r) (ho' : OpR X (compareOp op') r') (ha : PE X a ta) (hb : PE X b tb) (hc : PE X c tc)
    (hm : lastMarks [op, op'] [b, c] = false := by with_unfolding_all rfl) : PE X (.Compare a [op, op'] [b, c] pos) (tChain r r' ta tb tc) := by
  intro pins s σ H Q I h
  refine Compare_chain (thn (ha pins s σ H _ I h) fun v s1 ⟨x, H1, I1, r1, q1⟩ => chain_link (thn (hb pins s1 σ H1 _ I1 q1) fun u s2 ⟨y, H2, I2, r2, q2⟩ =>
    thn (ho pins s2 σ H2 x y v u _ I2 r1 r2 q2) fun d s3 ⟨z, H3, I3, r3, k, e, q3⟩ => ?_)) hm
  subst e
  cases r3
  refine wpAny_truthy_bool ?_
  cases k with
  | false => exact ite_ff ⟨.bl false, H3, I3, rfl, q3⟩
  | true => exact ite_tt (chain_last (thn (hc pins s3 σ H3 _ I3 q3) fun w' s4 ⟨z', H4, I4, r4, q4⟩ => ho' pins s4 σ H4 y z' u w' Q I4 r2 r4 q4))
def TruV (K : PySem.W.Frag) (x : V) (H : Hp) (k : Bool) : Prop :=
  match x with
  | .non => k = false
  | .bl b => k = b
  | .int i => k = (i != 0)
  | .str y => y.length ≤ sizeLine ∧ k = ((y.length : Int) != 0)
  | .byt y => y.size ≤ sizeLine ∧ k = ((y.size : Int) != 0)
  | .ref p => (∃ xs, SqL K H p xs ∧ k = !xs.isEmpty) ∨ (∃ xs, SqT K H p xs ∧ k = !xs.isEmpty) ∨ ∃ kvs, H p = some (.dK kvs) ∧ k = !kvs.isEmpty
  | _ => False
theorem isEmpty_kv {κ : Type} {kvs : List (κ × V)} {vs : List (κ × Value)} (r : KV kvs vs) : (!vs.isEmpty) = !kvs.isEmpty := by
  cases r <;> rfl
theorem isEmpty_of {xs : List V} {its : List Value} (r : Vals xs its) : (!its.toArray.isEmpty) = !xs.isEmpty := by
  cases r <;> simp
theorem line63 : (sizeLine : Nat) < 2 ^ 63 := by rw [sizeLine_eq]; decide
theorem tru_ok : TruR X (fun x H Q => ∃ k, TruV X.K x H k ∧ Q k H) := by
  intro pins s σ H x v Q I rx h
  obtain ⟨k, e, q⟩ := h
  have hl := line63
  have hs : sizeLine = 16777216 := sizeLine_eq
  cases x with
  | non =>
    cases rx
    have e' : k = false := e
    subst e'
    exact truthy_none ⟨H, I, q⟩
  | bl b =>
    cases rx
    have e' : k = b := e
    subst e'
    exact wpAny_truthy_bool ⟨H, I, q⟩
  | int i =>
    obtain ⟨t, rfl⟩ := rx
    have e' : k = (i != 0) := e
    subst e'
    exact PySem.P.truthy_int ⟨H, I, q⟩
  | str y =>
    obtain ⟨t, rfl⟩ := rx
    obtain ⟨hy, e'⟩ : y.length ≤ sizeLine ∧ k = ((y.length : Int) != 0) := e
    subst e'
    exact PySem.P.truthy_str (by omega) ⟨H, I.tok _, q⟩
  | byt y =>
    obtain ⟨t, rfl⟩ := rx
    obtain ⟨hy, e'⟩ : y.size ≤ sizeLine ∧ k = ((y.size : Int) != 0) := e
    subst e'
    exact PySem.W.truthy_bytes (by omega) ⟨H, I.tok _, q⟩
  | ref p =>
    cases rx
    have e' : (∃ xs, SqL X.K H p xs ∧ k = !xs.isEmpty) ∨ (∃ xs, SqT X.K H p xs ∧ k = !xs.isEmpty) ∨ ∃ kvs, H p = some (.dK kvs) ∧ k = !kvs.isEmpty := e
    rcases e' with ⟨xs, hx, e'⟩ | ⟨xs, hx, e'⟩ | ⟨kvs, hx, e'⟩
    · subst e'
      obtain ⟨its, r, pl, hz⟩ := I.list hx
      have hlen := r.length
      exact wpAny_truthy_list pl.isList (by simp only [List.size_toArray]; omega) ⟨H, I.tok _, by rw [isEmpty_of r]; exact q⟩
    · subst e'
      obtain ⟨its, r, pl, hz⟩ := I.tuple hx
      have hlen := r.length
      exact truthy_tuple pl (by simp only [List.size_toArray]; omega) ⟨H, I.tok _, by rw [isEmpty_of r]; exact q⟩
    · subst e'
      obtain ⟨hz, hS, vs, r, m⟩ : kvs.length ≤ sizeLine ∧ (p == sysModules) = false ∧ ∃ vs, KV kvs vs ∧ s.heap.DictOf (mixKind X.prog X.w) p vs := I.hok p _ hx
      have hlen : kvs.length = vs.length := Paired.length r
      exact wpAny_truthy_dict hS m (by omega) ⟨H, I.tok _, by rw [isEmpty_kv r]; exact q⟩
  | _ => exact (show False from e).elim
theorem pt_truth (ha : PE X a ta) (he : ∀ whole, isTrue a X.env whole = (do let v ← whole; standAt a.pos; holding [v] (truthy v))) :
    PT X a (fun σ H Q => ta σ H fun x H' => ∃ k, TruV X.K x H' k ∧ Q k H') := by
  intro pins s σ H Q I h
  exact isTrue_plain (thn (ha pins s σ H _ I h) fun v s1 ⟨x, H1, I1, r1, q1⟩ => tru_ok pins s1 σ H1 x v Q I1 r1 q1) (he _)
theorem op_add_str : OpR X (binaryOp .Add) (fun x y H Q => ∃ i j, x = .str i ∧ y = .str j ∧ i.length + j.length ≤ sizeLine ∧ Q (.str (i ++ j)) H) := by
  intro pins s σ H x y v u Q I rx ry h
  obtain ⟨i, j, rfl, rfl, hz, q⟩ := h
  obtain ⟨t, rfl⟩ := rx
  obtain ⟨t', rfl⟩ := ry
  exact add_str (fun t' tk => ⟨.str (i ++ j), H, I.tok _, ⟨_, rfl⟩, q⟩) hz
theorem vals1 {x : V} {us : List Value} (r : Vals [x] us) : ∃ u, us = [u] ∧ RelV x u := by
  cases r with
  | cons r1 r2 => cases r2; exact ⟨_, rfl, r1⟩
theorem vals2 {x y : V} {us : List Value} (r : Vals [x, y] us) : ∃ u w', us = [u, w'] ∧ RelV x u ∧ RelV y w' := by
  cases r with
  | cons r1 r2 =>
    cases r2 with
    | cons r3 r4 => cases r4; exact ⟨_, _, rfl, r1, r3⟩
def LenV (K : PySem.W.Frag) (x : V) (H : Hp) (n : Nat) : Prop :=
  match x with
  | .str y => y.length ≤ sizeLine ∧ n = y.length
  | .byt y => y.size ≤ sizeLine ∧ n = y.size
  | .ref p => (∃ xs, SqL K H p xs ∧ n = xs.length) ∨ ∃ xs, SqT K H p xs ∧ n = xs.length
  | _ => False
theorem call_len : CallR X (.builtin "len") (fun xs H Q => ∃ x n, xs = [x] ∧ LenV X.K x H n ∧ Q (.int n) H) := by
  intro pins s σ H xs us Q I r h
  obtain ⟨x, n, rfl, e, q⟩ := h
  obtain ⟨u, rfl, rx⟩ := vals1 r
  have hl := line63
  have hs : sizeLine = 16777216 := sizeLine_eq
  cases x with
  | str y =>
    obtain ⟨t, rfl⟩ := rx
    obtain ⟨hy, e'⟩ : y.length ≤ sizeLine ∧ n = y.length := e
    subst e'
    exact len_str (by omega) ⟨.int _, H, I.tok _, ⟨_, rfl⟩, q⟩
  | byt y =>
    obtain ⟨t, rfl⟩ := rx
    obtain ⟨hy, e'⟩ : y.size ≤ sizeLine ∧ n = y.size := e
    subst e'
    exact PySem.W.len_bytes (by omega) ⟨.int _, H, I.tok _, ⟨_, rfl⟩, q⟩
  | ref p =>
    cases rx
    have e' : (∃ xs, SqL X.K H p xs ∧ n = xs.length) ∨ ∃ xs, SqT X.K H p xs ∧ n = xs.length := e
    rcases e' with ⟨xs, hx, e'⟩ | ⟨xs, hx, e'⟩
    · subst e'
      obtain ⟨its, r', pl, hz⟩ := I.list hx
      have hlen := r'.length
      exact Calls.call_len_list pl.isList (by simp only [List.size_toArray]; omega) ⟨.int xs.length, H, I.tok _, ⟨_, by simp only [List.size_toArray]; rw [hlen]⟩, q⟩
    · subst e'
      obtain ⟨its, r', pl, hz⟩ := I.tuple hx
      have hlen := r'.length
      exact len_tuple pl (by simp only [List.size_toArray]; omega) ⟨.int xs.length, H, I.tok _, ⟨_, by simp only [List.size_toArray]; rw [hlen]⟩, q⟩
  | _ => exact (show False from e).elim
end
end L2
namespace L2
open PySem PySem.Spec PyProof.Rows
structure ObjM (h : Heap) (x dx C : Addr) (mA : Str → Option Value) : Prop where
  obj : h.get? x = some (PySem.W.instObj C dx)
  ns : h.Ns1 dx mA
  ne : dx ≠ x
theorem lookIn_ns {h : Heap} {dx : Addr} {mA : Str → Option Value} (n : h.Ns1 dx mA) : ∃ od, h.get? dx = some od ∧ ∀ name, PySem.W.lookIn name od = some (mA name) := by
  obtain ⟨o, es, ep, ho, hd, hk, _, hm⟩ := n
  refine ⟨o, ho, fun name => ?_⟩
  have e := hm name
  unfold nsFind findBy at e
  rw [← Array.find?_toList] at e
  unfold PySem.W.lookIn
  rw [hd]
  dsimp only
  split
  · rename_i y q
    rw [q] at e
    exact congrArg some e
  · rename_i q
    rw [q] at e
    have a : es.toList.any (·.refKey) = false := by
      rw [List.any_eq_false]
      intro y hy
      obtain ⟨z, t, hkey⟩ := hk y (Array.mem_toList_iff.mp hy)
      simp [DictEntry.refKey, hkey]
    have a' : ¬ es.toList.any (·.refKey) = true := by rw [a]; exact Bool.false_ne_true
    rw [if_neg a']
    exact congrArg some e
theorem ObjM.look {h : Heap} {x dx C : Addr} {mA : Str → Option Value} (I : ObjM h x dx C mA) : ∃ od, PySem.W.InstAt h x (PySem.W.instObj C dx) C (some od) ∧ ∀ name, PySem.W.lookIn name od = some (mA name) :=
  let ⟨od, ho, hl⟩ := lookIn_ns I.ns
  ⟨od, ⟨I.obj, rfl, rfl, ho⟩, hl⟩
section
variable {prog : Program} {w : World} {A : Around} {E : Value → Shared → Prop} {s : Shared} {K : PySem.W.Frag} {x dx C f : Addr} {mA : Str → Option Value} {name : Str} {v : Value}
theorem get_map {expr : Bool} {Q : Value → Shared → Prop} (X : K.In s.heap) (I : ObjM s.heap x dx C mA) (hg : PySem.W.plainGet K C name = true) (hh : PySem.W.hasDictIn K C = true)
    (ha : PySem.W.findIn K (.ref C) name = some none) (hv : mA name = some v) (hv' : PySem.W.handedIn v = true) (h : Q v { s with toks := s.toks + 1 }) :
    wpAny (model prog w) A (getAttr (.ref x) name expr) Q E s := by
  obtain ⟨od, J, hl⟩ := I.look
  exact PySem.W.get_value X J (PySem.W.plainGet_of hg).1 (PySem.W.findObj_own hh ha rfl (by rw [hl, hv])) hv' h
theorem get_meth {pl : Sem Bool} {Q : Value × List Value → Shared → Prop} (X : K.In s.heap) (I : ObjM s.heap x dx C mA) (hg : PySem.W.plainGet K C name = true)
    (hf : PySem.W.findIn K (.ref C) name = some (some (.ref f))) (ht : PySem.W.isFn K (.ref f) = true) (hv : mA name = none) (h : Q (.ref f, [.ref x]) s) :
    wpAny (model prog w) A (getMethod (.ref x) name pl) Q E s := by
  obtain ⟨od, J, hl⟩ := I.look
  exact PySem.W.method_fn X J (PySem.W.plainGet_of hg).1 (PySem.W.plainGet_of hg).2 hf (beq_iff_eq.mp ht) (by show (PySem.W.lookIn name od).map (·.isSome) = some false; rw [hl, hv]; rfl) h
theorem set_map {ns : List Str} {Q : Unit → Shared → Prop} (X : K.In s.heap) (I : ObjM s.heap x dx C mA)
    (hs : PySem.W.findIn K (.ref C) "__setattr__" = some (some (.builtin "object.__setattr__"))) (hp : PySem.W.plainOver K C = true) (ht : PySem.W.takerIn K C name = some none) (hh : PySem.W.hasDictIn K C = true)
    (hw : PySem.Within mA ns) (hsz : ns.length ≤ sizeLine)
    (h : ∀ h', ObjM h' x dx C (fun y => if y = name then some v else mA y) → Heap.SameBut dx s.heap h' → Q () { s with heap := h', toks := s.toks + 2 }) :
    wpAny (model prog w) A (setAttr (.ref x) name v) Q E s := by
  obtain ⟨od, J, hl⟩ := I.look
  refine PySem.W.set_plain X J hs (PySem.W.osa_open (s := { s with toks := s.toks + 1 }) (r := none) X J hp ht fun b => ?_)
  obtain ⟨cd, hc, hd'⟩ := PySem.W.any_some hh
  have hx : s.heap.get? x = some ⟨.ref C, some dx, .plain, #[]⟩ := I.obj
  refine wpAny_bind (wpAny_pure (wpAny_bind (wpAny_bind (wpAny_loadPart hx (wpAny_bind (PySem.W.Looks.here (s := { s with toks := s.toks + 1 }) (PySem.W.looks_clsIn X hc) ?_))))))
  rw [hd']
  refine wpAny_pure (a := some dx) (wpAny_bind (wpAny_pure (wpAny_bind ?_)))
  refine wpAny_nsSet1 (s := { s with toks := s.toks + 1 }) I.ns fun h' hn2 hs2 => ?_
  obtain ⟨oD, esD, epD, hoD, hdD, hcD⟩ := hn2.count (PySem.Within.cons name v hw)
  refine wpAny_bind (wpAny_lookBehind hoD (by rw [hdD]; exact pastItsLine_dict (Nat.le_trans hcD (by rw [List.length_cons]; omega))) ?_)
  exact wpAny_pure (h _ ⟨(hs2.2 _ (Ne.symm I.ne)).trans I.obj, hn2, I.ne⟩ hs2)
theorem make_map {R : Result → Shared → Prop} {vs : List Value} {kw : List (Str × Value)} (X : K.In s.heap) (hm : PySem.W.makesIn K C = true)
    (hi : PySem.W.findIn K (.ref C) "__init__" = some (some (.ref f))) (hf : PySem.W.typeIn K (.ref f) = some (.type "function"))
    (h : codeAny (model prog w) (A.under (.builtin "type.__call__" ⟨.ref C :: vs, kw⟩)) (.call (.ref f) ⟨.ref (s.heap.objs.size + 1) :: vs, kw⟩) (PySem.W.InitBack (s.heap.objs.size + 1) R)
      { s with heap := (s.heap.push PySem.W.emptyDict).push (PySem.W.instObj C s.heap.objs.size) }) :
    codeAny (model prog w) A (.call (.ref C) ⟨vs, kw⟩) R s := by
  obtain ⟨hh, g, d, t, os⟩ := s
  exact PySem.W.make_core (PySem.W.makes_of X hm) (PySem.W.looks_findIn X hi) (fun self => PySem.W.bind_fn X self hf) (.inl rfl) h
end
def putF (f : Str) (v : V) : List (Str × V) → List (Str × V)
  | [] => [(f, v)]
  | (g, x) :: r => if g = f then (g, v) :: r else (g, x) :: putF f v r
theorem lookup_putF (f g : Str) (v : V) : ∀ fs : List (Str × V), (putF f v fs).lookup g = if g = f then some v else fs.lookup g
  | [] => by
    show List.lookup g [(f, v)] = _
    by_cases h : g = f
    · have hb : (g == f) = true := beq_iff_eq.mpr h
      simp only [List.lookup, hb, if_pos h]
    · have hb : (g == f) = false := beq_eq_false_iff_ne.mpr h
      simp only [List.lookup, hb, if_neg h]
  | (k, x) :: r => by
    have ih := lookup_putF f g v r
    rw [show putF f v ((k, x) :: r) = (if k = f then (k, v) :: r else (k, x) :: putF f v r) from rfl]
    by_cases hk : k = f
    · rw [if_pos hk]
      by_cases h : g = k
      · have hb : (g == k) = true := beq_iff_eq.mpr h
        simp only [List.lookup, hb, if_pos (h.trans hk)]
      · have hb : (g == k) = false := beq_eq_false_iff_ne.mpr h
        simp only [List.lookup, hb, if_neg (fun e : g = f => h (e.trans hk.symm))]
    · rw [if_neg hk]
      by_cases h : g = k
      · have hb : (g == k) = true := beq_iff_eq.mpr h
        simp only [List.lookup, hb, if_neg (fun e : g = f => hk (h.symm.trans e))]
      · have hb : (g == k) = false := beq_eq_false_iff_ne.mpr h
        simp only [List.lookup, hb]
        exact ih
theorem keys_putF (f : Str) (v : V) : ∀ fs : List (Str × V), f ∈ (putF f v fs).map (·.1) ∧ ∀ g, g ∈ fs.map (·.1) → g ∈ (putF f v fs).map (·.1)
  | [] => ⟨by simp [putF], fun g h => by simp at h⟩
  | (k, x) :: r => by
    obtain ⟨i1, i2⟩ := keys_putF f v r
    rw [show putF f v ((k, x) :: r) = (if k = f then (k, v) :: r else (k, x) :: putF f v r) from rfl]
    by_cases hk : k = f
    · rw [if_pos hk]
      subst hk
      exact ⟨by simp, fun g h => by simpa using h⟩
    · rw [if_neg hk]
      refine ⟨?_, fun g h => ?_⟩
      · rw [List.map_cons]
        exact List.mem_cons_of_mem _ i1
      · rw [List.map_cons] at h ⊢
        rcases List.mem_cons.mp h with e | e
        · exact List.mem_cons.mpr (.inl e)
        · exact List.mem_cons_of_mem _ (i2 g e)
theorem length_putF (f : Str) (v : V) : ∀ fs : List (Str × V), (putF f v fs).length ≤ fs.length + 1
  | [] => by simp [putF]
  | (k, x) :: r => by
    have ih := length_putF f v r
    rw [show putF f v ((k, x) :: r) = (if k = f then (k, v) :: r else (k, x) :: putF f v r) from rfl]
    by_cases hk : k = f
    · rw [if_pos hk, List.length_cons, List.length_cons]; omega
    · rw [if_neg hk, List.length_cons, List.length_cons]; omega
theorem RelO.some_of {v : V} {o : Option Value} (r : RelO (some v) o) : ∃ u, o = some u ∧ RelV v u := by
  cases o with
  | none => exact (show False from r).elim
  | some u => exact ⟨u, rfl, r⟩
theorem RelO.none_of {o : Option Value} (r : RelO none o) : o = none := by
  cases o with
  | none => rfl
  | some u => exact (show False from r).elim
theorem handed_of {v : V} {u : Value} (r : RelV v u) : PySem.W.handedIn u = true := by
  cases v with
  | non => cases (show u = Value.none from r); rfl
  | bl b => cases (show u = Value.bool b from r); rfl
  | int i => obtain ⟨t, e⟩ := (show ∃ t, u = Value.int i t from r); cases e; rfl
  | str x => obtain ⟨t, e⟩ := (show ∃ t, u = Value.str x t from r); cases e; rfl
  | byt b => obtain ⟨t, e⟩ := (show ∃ t, u = Value.bytes b t from r); cases e; rfl
  | flt b => obtain ⟨t, e⟩ := (show ∃ t, u = Value.float b t from r); cases e; rfl
  | ref a => cases (show u = Value.ref a from r); rfl
  | ty n => cases (show u = Value.type n from r); rfl
section
variable {P : Program} {w : World} {H H' : Hp} {h h' : Heap} {a C dx : Addr} {fs fs' : List (Str × V)}
theorem ins_get (hok : HOk P w H h) (e : H a = some (.ins C dx fs)) : ∃ mA, ObjM h a dx C mA ∧ (∀ f, RelO (fs.lookup f) (mA f)) ∧ PySem.Within mA (fs.map (·.1)) ∧ fs.length ≤ 1000 ∧ H dx = some (.own a) := by
  obtain ⟨d, z, ne, ob, mA, n, r, q⟩ := (show ObjOk P w H h a (.ins C dx fs) from hok a _ e)
  exact ⟨mA, ⟨ob, n, ne⟩, r, q, z, d⟩
end
structure Cls (K : PySem.W.Frag) (C : Addr) : Prop where
  pg : PySem.W.plainGet K C Str.empty = true
  hd : PySem.W.hasDictIn K C = true
  po : PySem.W.plainOver K C = true
  sa : PySem.W.findIn K (.ref C) "__setattr__" = some (some (.builtin "object.__setattr__"))
theorem Cls.get {K : PySem.W.Frag} {C : Addr} (c : Cls K C) (f : Str) : PySem.W.plainGet K C f = true := c.pg
def NoAttr (K : PySem.W.Frag) (C : Addr) (f : Str) : Prop := PySem.W.findIn K (.ref C) f = some none
theorem NoAttr.taker {K : PySem.W.Frag} {C : Addr} {f : Str} (n : NoAttr K C f) : PySem.W.takerIn K C f = some none := by
  unfold PySem.W.takerIn
  rw [show PySem.W.findIn K (.ref C) f = some none from n]
  rfl
structure Con (K : PySem.W.Frag) (C : Addr) (f : Str) (v : V) (u : Value) : Prop where
  at_ : PySem.W.findIn K (.ref C) f = some (some u)
  rel : RelV v u
  get : PySem.W.specialIn K u "__get__" = some none
  cp : PySem.W.copiedNames.contains f = false
structure Meth (K : PySem.W.Frag) (C : Addr) (m : Str) (f : Addr) : Prop where
  at_ : PySem.W.findIn K (.ref C) m = some (some (.ref f))
  fn : PySem.W.isFn K (.ref f) = true
  kp : PySem.W.keepIn K (.ref f) = true
section
variable {X : Cx} {pins : List (Addr × Obj)} {σ : St} {H : Hp} {s : Shared} {a C dx : Addr} {fs : List (Str × V)} {f : Str} {v : V} {A : Around} {E : Value → Shared → Prop}
theorem getattr_ok {b : Bool} {Q : Value → Shared → Prop} (I : Inv X pins σ H s) (e : H a = some (.ins C dx fs)) (c : Cls X.K C) (n : NoAttr X.K C f) (l : fs.lookup f = some v)
    (h : ∀ u s', Inv X pins σ H s' → RelV v u → Q u s') : wpAny (model X.prog X.w) A (getAttr (.ref a) f b) Q E s := by
  obtain ⟨mA, O, r, _, _, _⟩ := ins_get I.hok e
  obtain ⟨u, hu, ru⟩ := RelO.some_of (v := v) (o := mA f) (by rw [← l]; exact r f)
  exact get_map I.kIn O (c.get f) c.hd n hu (handed_of ru) (h u _ (I.tok _) ru)
theorem getmeth_ok {m : Str} {g : Addr} {pl : Sem Bool} {Q : Value × List Value → Shared → Prop} (I : Inv X pins σ H s) (e : H a = some (.ins C dx fs)) (c : Cls X.K C) (k : Meth X.K C m g) (l : fs.lookup m = none)
    (h : Q (.ref g, [.ref a]) s) : wpAny (model X.prog X.w) A (getMethod (.ref a) m pl) Q E s := by
  obtain ⟨mA, O, r, _, _, _⟩ := ins_get I.hok e
  have hn : mA m = none := RelO.none_of (by rw [← l]; exact r m)
  exact get_meth I.kIn O (c.get m) k.at_ k.fn hn h
theorem setattr_ok {y : V} {u : Value} {Q : Unit → Shared → Prop} (I : Inv X pins σ H s) (e : H a = some (.ins C dx fs)) (c : Cls X.K C) (n : NoAttr X.K C f) (hl : fs.length < 1000) (ry : RelV y u)
    (h : ∀ s', Inv X pins σ (upd H a (.ins C dx (putF f y fs))) s' → Q () s') : wpAny (model X.prog X.w) A (setAttr (.ref a) f u) Q E s := by
  obtain ⟨mA, O, r, wi, _, ho⟩ := ins_get I.hok e
  have hz : (fs.map (·.1)).length ≤ sizeLine := by rw [List.length_map, sizeLine_eq]; omega
  refine set_map I.kIn O c.sa c.po n.taker c.hd wi hz fun h' O' sb => h _ ?_
  have hd : ∃ o, h'.get? dx = some o := let ⟨o, _, _, e', _⟩ := O'.ns; ⟨o, e'⟩
  refine I.write (x := a) (e := dx) (by rw [e]; exact True.intro) (.inr ho) (fun b q hb z => (sb.2 b hb).trans z) hd ?_
  refine ⟨by rw [upd_ne O.ne]; exact ho, ?_, O.ne, O'.obj, _, O'.ns, fun g => ?_, fun g hg => ?_⟩
  · have := length_putF f y fs; omega
  · show RelO ((putF f y fs).lookup g) (if g = f then some u else mA g)
    rw [lookup_putF]
    by_cases q : g = f
    · rw [if_pos q, if_pos q]; exact ry
    · rw [if_neg q, if_neg q]; exact r g
  · by_cases q : g = f
    · rw [q]; exact (keys_putF f y fs).1
    · refine (keys_putF f y fs).2 g (wi g fun z => hg ?_)
      show (if g = f then some u else mA g) = none
      rw [if_neg q]; exact z
theorem Inv.made (I : Inv X pins σ H s) : Inv X pins σ (upd (upd H s.heap.objs.size (.own (s.heap.objs.size + 1))) (s.heap.objs.size + 1) (.ins C s.heap.objs.size []))
    { s with heap := (s.heap.push PySem.W.emptyDict).push (PySem.W.instObj C s.heap.objs.size) } := by
  have e1 : (s.heap.push PySem.W.emptyDict).get? s.heap.objs.size = some PySem.W.emptyDict := Heap.get?_push_size s.heap rfl
  have e2 : ((s.heap.push PySem.W.emptyDict).push (PySem.W.instObj C s.heap.objs.size)).get? (s.heap.objs.size + 1) = some (PySem.W.instObj C s.heap.objs.size) := by
    have := Heap.get?_push_size (s.heap.push PySem.W.emptyDict) (o := PySem.W.instObj C s.heap.objs.size) rfl
    rwa [Heap.size_push] at this
  have e3 : (s.heap.push PySem.W.emptyDict).Ns s.heap.objs.size (fun _ => none) := ⟨PySem.W.emptyDict, #[], _, e1, rfl, (fun e he => absurd he (by simp)), fun _ => rfl⟩
  have I1 := I.laid (a := s.heap.objs.size) (o := .own (s.heap.objs.size + 1)) (h' := s.heap.push PySem.W.emptyDict) (t' := s.toks) (fun b u q => Heap.get?_push_of_some _ q) (Nat.le_refl _) ⟨_, e1⟩
  refine I1.laid (a := s.heap.objs.size + 1) (o := .ins C s.heap.objs.size []) (t' := s.toks) (fun b u q => Heap.get?_push_of_some _ q) (Nat.le_of_eq (Heap.size_push _ _)) ?_
  have ne : s.heap.objs.size ≠ s.heap.objs.size + 1 := Nat.ne_of_lt (Nat.lt_succ_self _)
  refine ⟨by rw [upd_ne ne, upd_same], Nat.zero_le _, ne, e2, fun _ => none, (Heap.Ns1.of_empty e3).at fun o q => Heap.get?_push_of_some _ q, fun _ => True.intro, fun y hy => absurd rfl hy⟩
theorem attr_of {prog : Program} {w : World} {env : Env} {e : Expr} {f : Str} {pos : Pos} {s : Shared} {Q : Value → Shared → Prop} (hb : attributeBase e f env (eval e env) = eval e env)
    (h : wpAny (model prog w) A (eval e env) (fun o s₁ => wpAny (model prog w) A (getAttr o f true) Q E s₁) E s) : wpAny (model prog w) A (eval (.Attribute e f pos) env) Q E s :=
  Attribute_any_ h (by rw [arm_eval_Attribute, hb])
end
def tFld (K : PySem.W.Frag) (ta : TE) (f : Str) : TE := fun σ H Q => ta σ H fun x H1 => ∃ a C dx fs v, x = .ref a ∧ H1 a = some (.ins C dx fs) ∧ Cls K C ∧ NoAttr K C f ∧ fs.lookup f = some v ∧ Q v H1
def sFld (K : PySem.W.Frag) (ta tv : TE) (f : Str) : TS := fun D σ H => tv σ H fun y H1 => ta σ H1 fun x H2 => ∃ a C dx fs, x = .ref a ∧ H2 a = some (.ins C dx fs) ∧ Cls K C ∧ NoAttr K C f ∧ fs.length < 1000 ∧
  D.nx σ (upd H2 a (.ins C dx (putF f y fs)))
section
variable {X : Cx} {o e value : Expr} {f : Str} {pos pos' tpos : Pos} {ta tv : TE}
theorem pe_fld (he : PE X e ta) (hb : attributeBase e f X.env (eval e X.env) = eval e X.env) : PE X (.Attribute e f pos) (tFld X.K ta f) := by
  intro pins s σ H Q I h
  refine attr_of hb (thn (he pins s σ H _ I h) fun u s1 ⟨x, H1, I1, rx, a, C, dx, fs, v, ex, ea, c, n, l, q⟩ => ?_)
  subst ex
  obtain rfl : u = Value.ref a := rx
  exact getattr_ok I1 ea c n l fun u' s2 I2 ru => ⟨v, H1, I2, ru, q⟩
theorem ps_fld (ha : PE X o ta) (hv : PE X value tv) (hs : swapsWith value (some (.Attribute o f pos')) pos.line X.env = pure false) : PS X (.Assign [.Attribute o f pos'] value pos) (sFld X.K ta tv f) := by
  intro pins s σ H D I h
  refine plainObj_wpAny_Assign_Attribute (thn (hv pins s σ H _ I h) fun u s1 ⟨y, H1, I1, ry, q⟩ => thn (ha pins s1 σ H1 _ I1 q) fun ov s2 ⟨x, H2, I2, rx, a, C, dx, fs, ex, ea, c, n, l, q2⟩ => ?_) hs
  subst ex
  obtain rfl : ov = Value.ref a := rx
  exact setattr_ok I2 ea c n l ry fun s3 I3 => ⟨σ, _, I3, q2⟩
end
section
variable {X : Cx} {pins : List (Addr × Obj)} {σ : St} {H : Hp} {s : Shared} {A : Around} {E : Value → Shared → Prop} {Q : Value → Shared → Prop} {c : Value} {b : Bool}
inductive TyOf (K : PySem.W.Frag) (H : Hp) : V → Value → Prop where
  | non : TyOf K H .non (.type "NoneType")
  | bl (x : Bool) : TyOf K H (.bl x) (.type "bool")
  | int (i : Int) : TyOf K H (.int i) (.type "int")
  | str (x : Str) : TyOf K H (.str x) (.type "str")
  | flt (x : UInt64) : TyOf K H (.flt x) (.type "float")
  | lst {a : Addr} {xs : List V} (e : H a = some (.lst xs)) : TyOf K H (.ref a) (.type "list")
  | frz {a : Addr} {o : Obj} {xs : List V} (e : H a = some (.frz o (.lst xs))) : TyOf K H (.ref a) (.type "list")
  | tup {a : Addr} {xs : List V} (e : H a = some (.tup xs)) : TyOf K H (.ref a) (.type "tuple")
  | dK {a : Addr} {kvs : List (Key × V)} (e : H a = some (.dK kvs)) : TyOf K H (.ref a) (.type "dict")
  | dT {a : Addr} {kvs : List (List Key × V)} (e : H a = some (.dT kvs)) : TyOf K H (.ref a) (.type "dict")
  | ins {a C dx : Addr} {fs : List (Str × V)} (e : H a = some (.ins C dx fs)) (cl : Cls K C) (ha : PySem.W.findIn K (.ref C) "__class__" = some (some (.builtin "object.__class__")))
      (hn : PySem.W.specialIn K (.builtin "object.__class__") "__get__" = some (some (.builtin "getset_descriptor.__get__"))) (htk : PySem.W.takesIn K (.builtin "object.__class__") = some true)
      (hm : PySem.W.mroIn K C (.type "object") = some true) : TyOf K H (.ref a) (.ref C)
theorem isinst_ok {x : V} {u t : Value} (I : Inv X pins σ H s) (rx : RelV x u) (ty : TyOf X.K H x t) (e : PySem.W.kitOne X.K t c = some b) (h : ∀ tk, Q (.bool b) { s with toks := tk }) :
    wpAny (model X.prog X.w) A (call (.builtin "isinstance") [u, c]) Q E s := by
  cases ty with
  | non => cases (show u = Value.none from rx); exact PySem.W.kia_one PySem.W.kitx_none I.kIn True.intro e (fun z => nomatch z) h
  | bl y => cases (show u = Value.bool y from rx); exact PySem.W.kia_one PySem.W.kitx_bool I.kIn True.intro e (fun z => nomatch z) h
  | int i => obtain ⟨t, q⟩ := (show ∃ t, u = Value.int i t from rx); cases q; exact PySem.W.kia_one PySem.W.kitx_int I.kIn True.intro e (fun z => nomatch z) h
  | str y => obtain ⟨t, q⟩ := (show ∃ t, u = Value.str y t from rx); cases q; exact PySem.W.kia_one PySem.W.kitx_str I.kIn True.intro e (fun z => nomatch z) h
  | flt y => obtain ⟨t, q⟩ := (show ∃ t, u = Value.float y t from rx); cases q; exact PySem.W.kia_one PySem.W.kitx_float I.kIn True.intro e (fun z => nomatch z) h
  | @lst a xs ea =>
    cases (show u = Value.ref a from rx)
    obtain ⟨_, _, n, _, h1⟩ := (show ObjOk X.prog X.w H s.heap a (.lst xs) from I.hok a _ ea)
    exact PySem.W.kia_one PySem.W.kitx_list I.kIn ⟨_, h1, rfl⟩ e (fun z => nomatch z) h
  | @frz a ob xs ea =>
    cases (show u = Value.ref a from rx)
    obtain ⟨_, _, _, n, _, h1⟩ := (show ObjOk X.prog X.w H s.heap a (.frz ob (.lst xs)) from I.hok a _ ea)
    exact PySem.W.kia_one PySem.W.kitx_list I.kIn ⟨_, h1, rfl⟩ e (fun z => nomatch z) h
  | @tup a xs ea =>
    cases (show u = Value.ref a from rx)
    obtain ⟨_, _, _, p⟩ := (show ObjOk X.prog X.w H s.heap a (.tup xs) from I.hok a _ ea)
    obtain ⟨o, h1, h2, _⟩ := p
    exact PySem.W.kia_one PySem.W.kitx_tuple I.kIn ⟨o, h1, h2⟩ e (fun z => nomatch z) h
  | @dK a kvs ea =>
    cases (show u = Value.ref a from rx)
    obtain ⟨_, _, vs, _, p⟩ := (show ObjOk X.prog X.w H s.heap a (.dK kvs) from I.hok a _ ea)
    obtain ⟨o, es, ep, h1, h2, _⟩ := p
    exact PySem.W.kia_one PySem.W.kitx_dict I.kIn ⟨o, h1, h2.1⟩ e (fun z => nomatch z) h
  | @dT a kvs ea =>
    cases (show u = Value.ref a from rx)
    obtain ⟨_, _, xs, _, o, es, ep, h1, h2, _⟩ := (show ObjOk X.prog X.w H s.heap a (.dT kvs) from I.hok a _ ea)
    exact PySem.W.kia_one PySem.W.kitx_dict I.kIn ⟨o, h1, h2.1⟩ e (fun z => nomatch z) h
  | @ins a C dx fs ea cl ha hn htk hm =>
    cases (show u = Value.ref a from rx)
    obtain ⟨mA, O, _⟩ := ins_get I.hok ea
    obtain ⟨od, J, _⟩ := O.look
    exact PySem.W.kia_one (PySem.W.kitx_own (cl.get _) cl.hd ha hn htk hm) I.kIn J e (fun z => nomatch z) h
end
end L2
namespace L2
open PySem PySem.Spec PyProof.Rows
structure Room (k : Nat) (A : Around) : Prop where
  hd : A.handled = none
  dp : A.depth + 3 * k + 5 < recursionLimit
  un : A.units + 16 * k + 200 < cLine
theorem Room.mono {j k : Nat} {A : Around} (r : Room k A) (h : j ≤ k) : Room j A := ⟨r.hd, by have := r.dp; omega, by have := r.un; omega⟩
theorem Room.deeper {k : Nat} {A : Around} (r : Room (k + 1) A) (env : Env) : Room k (A.deeper env) :=
  ⟨r.hd, by have := r.dp; show A.depth + 1 + 3 * k + 5 < _; omega, by have := r.un; show A.units + 3 + 16 * k + 200 < _; omega⟩
theorem make_depth {A : Around} {C : Addr} {us : List Value} {kw : List (Str × Value)} : (A.under (.builtin "type.__call__" ⟨.ref C :: us, kw⟩)).depth = A.depth + 1 := by
  first | rfl | simp [Around.under, Code.weight, Code.isCreation, Code.isGuard, Code.isCaller, Code.frames, Code.isFrame, guardIds]
theorem make_units {A : Around} {C : Addr} {us : List Value} {kw : List (Str × Value)} : (A.under (.builtin "type.__call__" ⟨.ref C :: us, kw⟩)).units = A.units + 1 := by
  first | rfl | simp [Around.under, Code.cUnits, Code.frames, Code.isFrame]
theorem Room.make {k : Nat} {A : Around} (r : Room (k + 1) A) (C : Addr) (us : List Value) (kw : List (Str × Value)) : Room k (A.under (.builtin "type.__call__" ⟨.ref C :: us, kw⟩)) :=
  ⟨r.hd, by have := r.dp; rw [make_depth]; omega, by have := r.un; rw [make_units]; omega⟩
theorem Room.depth {k : Nat} {A : Around} (r : Room k A) : A.depth < recursionLimit := by have := r.dp; omega
theorem Room.units {k : Nat} {A : Around} (r : Room k A) : A.units + 64 < cLine := by have := r.un; omega
def tNil : TA := fun _ H Q => Q [] H
def tCons (ta : TE) (tr : TA) : TA := fun σ H Q => ta σ H fun x H1 => tr σ H1 fun xs H2 => Q (x :: xs) H2
section
variable {X : Cx} {e : Expr} {es : List Expr} {te : TE} {t : TA} {pos : Pos}
theorem pa_nil : PA X [] tNil := fun _ _ _ _ H Q I h => Calls.spliced_nil ⟨[], H, I, .nil, h⟩
theorem pa_cons (ha : PE X e te) (hr : PA X es t) (hs : starEach (e :: es) X.env = (false, eval e X.env) :: starEach es X.env := by rfl) : PA X (e :: es) (tCons te t) := by
  intro pos pins s σ H Q I h
  rw [hs]
  show wpAny _ _ (spliced ((false, eval e X.env) :: backTo pos (starEach es X.env))) _ _ s
  refine Calls.spliced_cons (thn (ha pins s σ H _ I h) fun u s1 ⟨x, H1, I1, r1, q1⟩ => ?_)
  exact thn (hr pos pins s1 σ H1 _ I1 q1) fun us s2 ⟨xs, H2, I2, r2, q2⟩ => ⟨x :: xs, H2, I2, .cons r1 r2, q2⟩
def tTup (t : TA) : TE := fun σ H Q => t σ H fun xs H1 => xs.length ≤ sizeLine ∧ ∀ p, H1 p = none → Q (.ref p) (upd H1 p (.tup xs))
def tLst (t : TA) : TE := fun σ H Q => t σ H fun xs H1 => xs.length ≤ sizeLine ∧ ∀ p, H1 p = none → Q (.ref p) (upd H1 p (.lst xs))
theorem pe_tup {x1} (h : PA X es t) : PE X (.Tuple es x1 pos) (tTup t) := by
  intro pins s σ H Q I hq
  refine wpAny_Tuple_spliced (thn (h pos pins s σ H _ I hq) fun us s1 ⟨xs, H1, I1, r, z, q⟩ => ⟨by rw [← r.length]; exact z, ?_⟩)
  have hf : H1 s1.heap.objs.size = none := I1.hok.fresh (Nat.le_refl _)
  refine ⟨.ref s1.heap.objs.size, upd H1 s1.heap.objs.size (.tup xs), I1.laid (t' := s1.toks) (fun b u e => Heap.get?_push_of_some _ e) (Nat.le_refl _) ?_, rfl, q _ hf⟩
  exact ⟨z, us, r, ⟨_, Heap.get?_push_size _ rfl, rfl, _, rfl⟩⟩
theorem pe_lst (h : PA X es t) : PE X (.List es pos) (tLst t) := by
  intro pins s σ H Q I hq
  refine wpAny_List_spliced (thn (h pos pins s σ H _ I hq) fun us s1 ⟨xs, H1, I1, r, z, q⟩ => ⟨by rw [← r.length]; exact z, ?_⟩)
  have hf : H1 s1.heap.objs.size = none := I1.hok.fresh (Nat.le_refl _)
  refine ⟨.ref s1.heap.objs.size, upd H1 s1.heap.objs.size (.lst xs), I1.laid (t' := s1.toks) (fun b u e => Heap.get?_push_of_some _ e) (Nat.le_refl _) ?_, rfl, q _ hf⟩
  exact ⟨z, us, 0, r, Heap.get?_push_size _ rfl⟩
end
abbrev Sp := List V → Hp → VK → XK → Prop
abbrev CXT := List Env → Hp → Shared → XK → Value → Shared → Prop
structure Env0 (P : Program) (w : World) (K : PySem.W.Frag) (mg : Str → Option Value) (base : Heap) (A : Around) (outer : List Env) (s : Shared) (H : Hp) : Prop where
  frames : A.frames = some outer
  mod : Mod K mg base
  bs : ∀ b o, base.get? b = some o → s.heap.get? b = some o ∧ H b = none
  bsz : base.objs.size ≤ s.heap.objs.size
  funs : s.heap.FunFrames base outer
  frf : ∀ b ∈ frs outer, H b = none
  hok : HOk P w H s.heap
  bare : AllBare s.gens
def CE (outer : List Env) (P : Program) (w : World) (H : Hp) (s : Shared) (Q : VK) (u : Value) (s' : Shared) : Prop :=
  ∃ v H', s'.os = s.os ∧ AllBare s'.gens ∧ Un (frs outer) [] H H' s.heap s'.heap ∧ HOk P w H' s'.heap ∧ RelV v u ∧ Q v H'
def CR (CX : CXT) (outer : List Env) (P : Program) (w : World) (H : Hp) (s : Shared) (Q : VK) (E : XK) (r : Result) (s' : Shared) : Prop :=
  match r with
  | .ok (.ret u) => CE outer P w H s Q u s'
  | .ok _ => False
  | .error e => CX outer H s E e s'
structure FnOk (P : Program) (w : World) (K : PySem.W.Frag) (mg : Str → Option Value) (base : Heap) (CX : CXT) (k : Nat) (f : Addr) (fd : FuncData) (ps : List Str) (sp : Sp) : Prop where
  len : ∀ vs H Q E, sp vs H Q E → vs.length = ps.length
  run : ∀ (A : Around) (outer : List Env) (s : Shared) (H : Hp) (args : Args) (us : List Value) (vs : List V) (Q : VK) (E : XK), Room k A → Env0 P w K mg base A outer s H → BindsTo s fd args (ps.zip us) → Vals vs us → sp vs H Q E →
    codeAny (model P w) A (.call (.ref f) args) (CR CX outer P w H s Q E) s
theorem Env0.make {P : Program} {w : World} {K : PySem.W.Frag} {mg : Str → Option Value} {base : Heap} {A : Around} {outer : List Env} {s : Shared} {H : Hp} (e : Env0 P w K mg base A outer s H) (C : Addr) (us : List Value) (kw : List (Str × Value)) :
    Env0 P w K mg base (A.under (.builtin "type.__call__" ⟨.ref C :: us, kw⟩)) outer s H := ⟨by first | exact e.frames | (simpa [Around.under, Code.envs, Code.isFrame, pushEnvs] using e.frames), e.mod, e.bs, e.bsz, e.funs, e.frf, e.hok, e.bare⟩
section
variable {X : Cx} {pins : List (Addr × Obj)} {σ : St} {H : Hp} {s s' : Shared}
theorem Inv.env0 (I : Inv X pins σ H s) : Env0 X.prog X.w X.K X.mg X.base X.A X.stack s H :=
  ⟨I.ok.frames, I.ok.mod, I.bs, Nat.le_trans I.ok.bsz I.sz, I.stack, I.stkFree, I.hok, I.bare⟩
theorem Inv.after {Q : VK} {u : Value} (I : Inv X pins σ H s) (h : CE X.stack X.prog X.w H s Q u s') : EP X pins σ Q u s' := by
  obtain ⟨v, H', os, bare, un, hok, r, q⟩ := h
  obtain ⟨hh, g, d, t, os'⟩ := s'
  obtain rfl : os' = s.os := os
  exact ⟨v, H', I.call (h' := hh) (g' := g) (d' := d) (t' := t) (ch := []) un hok bare (fun b z => absurd z (by simp)), r, q⟩
end
def tCall (sp : Sp) (dvs : List V) (E : XK) (t : TA) : TE := fun σ H Q => t σ H fun vs H1 => sp (vs ++ dvs) H1 Q E
def tMeth (C : Addr) (m : Str) (sp : Sp) (dvs : List V) (E : XK) (ta : TE) (t : TA) : TE := fun σ H Q => ta σ H fun x H1 => ∃ a dx fs, x = .ref a ∧ H1 a = some (.ins C dx fs) ∧ fs.lookup m = none ∧
  t σ H1 fun vs H2 => sp (x :: (vs ++ dvs)) H2 Q E
def tMake (C : Addr) (sp : Sp) (dvs : List V) (E : XK) (t : TA) : TE := fun σ H Q => t σ H fun vs H1 => ∀ x dx, H1 x = none → H1 dx = none → dx ≠ x →
  sp (.ref x :: (vs ++ dvs)) (upd (upd H1 dx (.own x)) x (.ins C dx [])) (fun v H2 => v = .non ∧ Q (.ref x) H2) E
def Binds (K : PySem.W.Frag) (fd : FuncData) (ps : List Str) (ds : List Value) : Prop :=
  ∀ (s : Shared) (us : List Value), K.In s.heap → (us ++ ds).length = ps.length → BindsTo s fd ⟨us, []⟩ (ps.zip (us ++ ds))
theorem Binds.all {K : PySem.W.Frag} {fd : FuncData} {ps : List Str} (h : ∀ us : List Value, us.length = ps.length → bindArgs fd ⟨us, []⟩ = pure (ps.zip us)) : Binds K fd ps [] := fun s us _ hl => by
  rw [List.append_nil] at hl ⊢
  exact .of_eq (h us hl)
def Passes (CX : CXT) (X : Cx) (E : XK) : Prop := ∀ (pins : List (Addr × Obj)) (σ : St) (H : Hp) (s : Shared) (e : Value) (s' : Shared), Inv X pins σ H s → CX X.stack H s E e s' → X.xe e s'
section
variable {X : Cx} {CX : CXT} {k : Nat} {f C : Addr} {fd : FuncData} {ps : List Str} {sp : Sp} {dvs : List V} {ds : List Value} {E : XK} {x m : Str} {p pos apos : Pos} {e o : Expr} {es : List Expr} {ta : TE} {t : TA}
theorem run_fn {pins : List (Addr × Obj)} {σ : St} {H : Hp} {s : Shared} {Q : VK} {us : List Value} {vs : List V} (F : FnOk X.prog X.w X.K X.mg X.base CX k f fd ps sp) (hr : Room k X.A) (hb : Binds X.K fd ps ds) (hd : Vals dvs ds) (hx : Passes CX X E)
    (I : Inv X pins σ H s) (r : Vals vs us) (h : sp (vs ++ dvs) H Q E) : wpAny (model X.prog X.w) X.A (call (.ref f) us) (EP X pins σ Q) X.xe s := by
  have r2 : Vals (vs ++ dvs) (us ++ ds) := r.append hd
  have hl : (us ++ ds).length = ps.length := by rw [← r2.length]; exact F.len _ _ _ _ h
  refine wpAny_call (codeAny_mono (F.run X.A X.stack s H ⟨us, []⟩ (us ++ ds) (vs ++ dvs) Q E hr I.env0 (hb s us I.kIn hl) r2 h) fun r s' hq => ?_)
  cases r with
  | error e => exact hx pins σ H s e s' I hq
  | ok fl =>
    cases fl with
    | ret u => exact I.after hq
    | next => exact False.elim hq
    | brk => exact False.elim hq
    | cont => exact False.elim hq
theorem pe_call (F : FnOk X.prog X.w X.K X.mg X.base CX k f fd ps sp) (hr : Room k X.A) (hg : Gl X x) (hm : X.mg x = some (.ref f)) (hk : PySem.W.keepIn X.K (.ref f) = true) (hb : Binds X.K fd ps ds) (hd : Vals dvs ds) (hx : Passes CX X E)
    (ha : PA X (e :: es) t) (hdb : (x == ("__debug__" : Str)) = false := by decide) (he : starEach (e :: es) X.env = (false, eval e X.env) :: starEach es X.env := by rfl) (hpl : (backTo pos (starEach es X.env)).any (·.1) = false := by rfl) :
    PE X (.Call (.Name x p) (e :: es) [] pos) (tCall sp dvs E t) := by
  intro pins s σ H Q I h
  refine wpAny_Call_Name_kw (ld_glob I hg hm ?_ hdb)
  refine PySem.W.callWith_K (h₀ := X.base) I.ok.mod.kin hk (thn (ha pos pins s σ H _ I h) fun us s1 ⟨vs, H1, I1, r, q⟩ => ⟨I1.kIn, ?_⟩) he hpl
  exact run_fn F hr hb hd hx I1 r q
theorem pe_meth {pl : Sem Bool} (he : PE X o ta) (c : Cls X.K C) (hm : Meth X.K C m f) (F : FnOk X.prog X.w X.K X.mg X.base CX k f fd ps sp) (hr : Room k X.A) (hb : Binds X.K fd ps ds) (hd : Vals dvs ds) (hx : Passes CX X E) (ha : PA X (e :: es) t)
    (hst : starEach (e :: es) X.env = (false, eval e X.env) :: starEach es X.env := by rfl) (hpl : (backTo pos (starEach es X.env)).any (·.1) = false := by rfl)
    (ht : eval (.Call (.Attribute o m apos) (e :: es) [] pos) X.env = (do
      let ov ← eval o X.env
      standAt apos.atName
      let (f, first) ← holding [ov] (getMethod ov m pl)
      callWith pos f first (backTo pos (starEach (e :: es) X.env)) (backToKw pos (keywordEach [] X.env))) := by rfl) :
    PE X (.Call (.Attribute o m apos) (e :: es) [] pos) (tMeth C m sp dvs E ta t) := by
  intro pins s σ H Q I h
  refine PySem.W.methodCall_KW (pl := pl) (thn (he pins s σ H _ I h) fun u s1 ⟨x, H1, I1, rx, a, dx, fs, ex, ea, l, q⟩ => ?_) ht
  subst ex
  obtain rfl : u = Value.ref a := rx
  refine getmeth_ok I1 ea c hm l ?_
  refine PySem.W.callWith_K (first := [.ref a]) (h₀ := X.base) I.ok.mod.kin hm.kp (thn (ha pos pins s1 σ H1 _ I1 q) fun us s2 ⟨vs, H2, I2, r, q2⟩ => ⟨I2.kIn, ?_⟩) hst hpl
  exact run_fn (us := .ref a :: us) (vs := .ref a :: vs) F hr hb hd hx I2 (.cons rfl r) q2
structure Mk (K : PySem.W.Frag) (C f : Addr) : Prop where
  makes : PySem.W.makesIn K C = true
  init : PySem.W.findIn K (.ref C) "__init__" = some (some (.ref f))
  fn : PySem.W.isFn K (.ref f) = true
  kp : PySem.W.keepIn K (.ref C) = true
theorem run_make {pins : List (Addr × Obj)} {σ : St} {H : Hp} {s : Shared} {Q : VK} {us : List Value} {vs : List V} (M : Mk X.K C f) (F : FnOk X.prog X.w X.K X.mg X.base CX k f fd ps sp) (hr : Room (k + 1) X.A) (hb : Binds X.K fd ps ds) (hd : Vals dvs ds)
    (hx : Passes CX X E) (I : Inv X pins σ H s) (r : Vals vs us)
    (h : ∀ x dx, H x = none → H dx = none → dx ≠ x → sp (.ref x :: (vs ++ dvs)) (upd (upd H dx (.own x)) x (.ins C dx [])) (fun v H2 => v = .non ∧ Q (.ref x) H2) E) :
    wpAny (model X.prog X.w) X.A (call (.ref C) us) (EP X pins σ Q) X.xe s := by
  have hq := h (s.heap.objs.size + 1) s.heap.objs.size (I.hok.fresh (Nat.le_succ _)) (I.hok.fresh (Nat.le_refl _)) (Nat.ne_of_lt (Nat.lt_succ_self _))
  have I2 := Inv.made (C := C) I
  have r2 : Vals (V.ref (s.heap.objs.size + 1) :: (vs ++ dvs)) (Value.ref (s.heap.objs.size + 1) :: (us ++ ds)) := .cons rfl (r.append hd)
  have hl : (Value.ref (s.heap.objs.size + 1) :: us ++ ds).length = ps.length := by
    have e := r2.length
    rw [F.len _ _ _ _ hq] at e
    exact e.symm
  refine wpAny_call (make_map (f := f) I.kIn M.makes M.init (beq_iff_eq.mp M.fn) (codeAny_mono (F.run _ X.stack _ _ ⟨Value.ref (s.heap.objs.size + 1) :: us, []⟩ (Value.ref (s.heap.objs.size + 1) :: (us ++ ds)) _ _ E (hr.make C us [])
    (I2.env0.make C us []) (hb _ (Value.ref (s.heap.objs.size + 1) :: us) I2.kIn hl) r2 hq) fun r s' hq' => ?_))
  cases r with
  | error e => exact hx pins σ _ _ e s' I2 hq'
  | ok fl =>
    cases fl with
    | ret u =>
      obtain ⟨v, H', I3, rv, ev, q3⟩ := I2.after hq'
      subst ev
      exact ⟨rv, ⟨V.ref (s.heap.objs.size + 1), H', I3, rfl, q3⟩⟩
    | next => exact False.elim hq'
    | brk => exact False.elim hq'
    | cont => exact False.elim hq'
theorem pe_make (M : Mk X.K C f) (F : FnOk X.prog X.w X.K X.mg X.base CX k f fd ps sp) (hr : Room (k + 1) X.A) (hg : Gl X x) (hm : X.mg x = some (.ref C)) (hb : Binds X.K fd ps ds) (hd : Vals dvs ds) (hx : Passes CX X E)
    (ha : PA X (e :: es) t) (hdb : (x == ("__debug__" : Str)) = false := by decide) (he : starEach (e :: es) X.env = (false, eval e X.env) :: starEach es X.env := by rfl) (hpl : (backTo pos (starEach es X.env)).any (·.1) = false := by rfl) :
    PE X (.Call (.Name x p) (e :: es) [] pos) (tMake C sp dvs E t) := by
  intro pins s σ H Q I h
  refine wpAny_Call_Name_kw (ld_glob I hg hm ?_ hdb)
  refine PySem.W.callWith_K (h₀ := X.base) I.ok.mod.kin M.kp (thn (ha pos pins s σ H _ I h) fun us s1 ⟨vs, H1, I1, r, q⟩ => ⟨I1.kIn, ?_⟩) he hpl
  exact run_make M F hr hb hd hx I1 r q
theorem pe_make0 (M : Mk X.K C f) (F : FnOk X.prog X.w X.K X.mg X.base CX k f fd ps sp) (hr : Room (k + 1) X.A) (hg : Gl X x) (hm : X.mg x = some (.ref C)) (hb : Binds X.K fd ps ds) (hd : Vals dvs ds) (hx : Passes CX X E)
    (hdb : (x == ("__debug__" : Str)) = false := by decide) : PE X (.Call (.Name x p) [] [] pos) (tMake C sp dvs E tNil) := by
  intro pins s σ H Q I h
  refine wpAny_Call_Name_kw (ld_glob I hg hm ?_ hdb)
  exact PySem.W.callWith_K0 I.kIn M.kp (run_make (us := []) M F hr hb hd hx I .nil h)
end
section
variable {X : Cx} {CX : CXT} {k : Nat} {f C : Addr} {fd : FuncData} {ps ks : List Str} {sp : Sp} {E : XK} {x m : Str} {p pos apos kpos : Pos} {e o : Expr} {es : List Expr} {kws : List Keyword} {te ta : TE} {t tk : TA} {nm : Option Str}
structure KBinds (K : PySem.W.Frag) (fd : FuncData) (ps ks : List Str) (g : List Value → List Value → List Value) (gV : List V → List V → List V) : Prop where
  to : ∀ (s : Shared) (us ws : List Value), K.In s.heap → (g us ws).length = ps.length → BindsTo s fd ⟨us, ks.zip ws⟩ (ps.zip (g us ws))
  rel : ∀ {vs : List V} {us : List Value} {zs : List V} {ws : List Value}, Vals vs us → Vals zs ws → Vals (gV vs zs) (g us ws)
variable {g : List Value → List Value → List Value} {gV : List V → List V → List V}
end
structure FnScope (N P : List Str) (sc : Scope) : Prop where
  kind : sc.kind = .function
  co : sc.isCoroutine = false
  gen : sc.isGenerator = false
  nd : N.Nodup
  pre : N.take P.length = P
  par : ∀ x ∈ P, sc.names.lookup x = some .local ∨ sc.names.lookup x = some .cell
  nofree : ∀ y ∈ sc.names, y.2 ≠ .free
theorem bindL_out {kindOf : Str → Option NameKind} {x : Str} : ∀ {binds : List (Str × Value)} {m : Str → Option Value}, (∀ v, (x, v) ∉ binds) → bindL kindOf binds m x = m x
  | [], _, _ => rfl
  | (n, v) :: r, m, h => by
    unfold bindL
    rw [bindL_out fun w hw => h w (List.mem_cons_of_mem _ hw)]
    split
    · have : x ≠ n := by rintro rfl; exact h v List.mem_cons_self
      simp [this]
    · rfl
theorem bindC_out {kindOf : Str → Option NameKind} {x : Str} : ∀ {binds : List (Str × Value)} {m : Str → Option Value}, (∀ v, (x, v) ∉ binds) → bindC kindOf binds m x = m x
  | [], _, _ => rfl
  | (n, v) :: r, m, h => by
    unfold bindC
    rw [bindC_out fun w hw => h w (List.mem_cons_of_mem _ hw)]
    split
    · rfl
    · have : x ≠ n := by rintro rfl; exact h v List.mem_cons_self
      simp [this]
theorem bindL_get {kindOf : Str → Option NameKind} {x : Str} {v : Value} : ∀ {P : List Str} {vs : List Value} {i : Nat} {m : Str → Option Value}, P.Nodup → P[i]? = some x → vs[i]? = some v → kindOf x = some .local →
    bindL kindOf (P.zip vs) m x = some v
  | [], _, _, _, _, h, _, _ => by simp at h
  | _ :: _, [], _, _, _, _, h, _ => by simp at h
  | p :: P, w :: vs, 0, m, nd, h1, h2, hk => by
    simp at h1 h2; subst h1; subst h2
    show bindL kindOf ((p, w) :: P.zip vs) m p = _
    unfold bindL
    rw [bindL_out fun v hv => (List.nodup_cons.mp nd).1 (List.of_mem_zip hv).1, if_pos hk]
    simp
  | p :: P, w :: vs, i + 1, m, nd, h1, h2, hk => by
    show bindL kindOf ((p, w) :: P.zip vs) m x = _
    unfold bindL
    exact bindL_get (i := i) (List.nodup_cons.mp nd).2 (by simpa using h1) (by simpa using h2) hk
theorem bindC_get {kindOf : Str → Option NameKind} {x : Str} {v : Value} : ∀ {P : List Str} {vs : List Value} {i : Nat} {m : Str → Option Value}, P.Nodup → P[i]? = some x → vs[i]? = some v → kindOf x ≠ some .local →
    bindC kindOf (P.zip vs) m x = some v
  | [], _, _, _, _, h, _, _ => by simp at h
  | _ :: _, [], _, _, _, _, h, _ => by simp at h
  | p :: P, w :: vs, 0, m, nd, h1, h2, hk => by
    simp at h1 h2; subst h1; subst h2
    show bindC kindOf ((p, w) :: P.zip vs) m p = _
    unfold bindC
    rw [bindC_out fun v hv => (List.nodup_cons.mp nd).1 (List.of_mem_zip hv).1, if_neg hk]
    simp
  | p :: P, w :: vs, i + 1, m, nd, h1, h2, hk => by
    show bindC kindOf ((p, w) :: P.zip vs) m x = _
    unfold bindC
    exact bindC_get (i := i) (List.nodup_cons.mp nd).2 (by simpa using h1) (by simpa using h2) hk
def start (N : List Str) (vs : List V) : St := vs.map some ++ List.replicate (N.length - vs.length) none
def cxOf (CX : CXT) (P : Program) (w : World) (K : PySem.W.Frag) (mg : Str → Option Value) (base : Heap) (N : List Str) (qual : Str) (scope : Scope) (f : Addr) (cd : Value) (A : Around) (outer : List Env) (s : Shared) (H : Hp) (E : XK) : Cx where
  prog := P
  w := w
  K := K
  mg := mg
  base := base
  A := A.deeper (envOfC qual scope s.heap.objs.size f cd)
  N := N
  s₀ := s
  H₀ := H
  env := envOfC qual scope s.heap.objs.size f cd
  outer := outer
  stack := envOfC qual scope s.heap.objs.size f cd :: outer
  ex := []
  calm := true
  fn := fun _ => true
  pn := []
  xe := fun e s' => wpAny (model P w) (A.deeper (envOfC qual scope s.heap.objs.size f cd)) (leaving (envOfC qual scope s.heap.objs.size f cd) e) (fun _ s'' => CX outer H s E e s'') (fun e' s'' => CX outer H s E e' s'') s'
theorem cell_has {sc : Scope} {n : Nat} {x : Str} (h : sc.names.lookup x = some .cell) : ∃ c, (cellsFrom n sc.names []).lookup x = some c := by
  have q := PySem.W.cellsFrom_some sc.names n [] (.inl h)
  exact Option.isSome_iff_exists.mp q
theorem inv_start {CX : CXT} {P : Program} {w : World} {K : PySem.W.Frag} {mg : Str → Option Value} {base : Heap} {N ps : List Str} {qual : Str} {scope : Scope} {f : Addr} {cd : Value} {A : Around} {outer : List Env} {s s1 : Shared} {H : Hp} {E : XK} {us : List Value} {vs : List V}
    (S : FnScope N ps scope) (hd : A.handled = none) (e0 : Env0 P w K mg base A outer s H) (hl : vs.length = ps.length) (r : Vals vs us)
    (x : InCallC s s.heap.objs.size (bindL (envOfC qual scope s.heap.objs.size f cd).kindOf (ps.zip us) fun _ => none) (cellsFrom (s.heap.objs.size + 1) scope.names []) (bindC (envOfC qual scope s.heap.objs.size f cd).kindOf (ps.zip us) fun _ => none) s1) :
    Inv (cxOf CX P w K mg base N qual scope f cd A outer s H E) [] (start N vs) H s1 := by
  have hpl : ps.length ≤ N.length := by have := congrArg List.length S.pre; rw [List.length_take] at this; omega
  obtain ⟨h1, tk, rfl, hk⟩ := x.done
  have noA : ∀ b : Addr, b ∉ (cxOf CX P w K mg base N qual scope f cd A outer s H E).ex := fun b z => absurd (show b ∈ ([] : List Addr) from z) (by simp)
  refine ⟨⟨e0.mod, S.kind, rfl, rfl, Nat.le_refl _, fun y z c h1 h2 => ?_, fun y hy => ?_, fun y c _ h => ?_, fun _ => hd, Around.frames_deeper e0.frames, .inr ⟨rfl, rfl⟩, fun b z => absurd z (noA b), e0.bs, e0.bsz, fun b _ _ => noA b, fun b z => absurd z (noA b), e0.funs, e0.frf⟩,
    rfl, e0.bare, Un.kept hk, ⟨_, x.toInCall.ns, fun i y v h1 h2 h3 => ?_⟩, fun y c h => ⟨_, x.cell y c h⟩, e0.hok.fresh (Nat.le_refl _), fun y c h => ?_, fun p hp => absurd (show p ∈ ([] : List (Addr × Obj)) from hp) (by simp), e0.hok.kept hk, ?_⟩
  · exact name_of_addr x.apart (PySem.mem_of_lookup h1) (PySem.mem_of_lookup h2)
  · have hy : scope.names.lookup y = some .cell ∨ scope.names.lookup y = some .free := hy
    rcases hy with hy | hy
    · exact cell_has hy
    · exact absurd rfl (S.nofree _ (PySem.mem_of_lookup hy))
  · exact Nat.le_of_lt (x.above y c (PySem.mem_of_lookup h))
  · have hi : i < vs.length := by
      unfold start at h2
      by_cases hi : i < vs.length
      · exact hi
      · rw [List.getElem?_append_right (by simpa using hi)] at h2
        rw [List.getElem?_replicate] at h2
        split at h2 <;> cases h2
    have ha : vs[i]? = some v := by
      unfold start at h2
      rw [List.getElem?_append_left (by simpa using hi), List.getElem?_map] at h2
      cases e : vs[i]? with
      | none => rw [e] at h2; cases h2
      | some a => rw [e] at h2; cases h2; rfl
    obtain ⟨u, hu, rv⟩ := r.get ha
    have hp : ps[i]? = some y := by
      rw [← S.pre, List.getElem?_take_of_lt (by omega)]; exact h1
    have ndP : ps.Nodup := by rw [← S.pre]; exact S.nd.sublist (List.take_sublist _ _)
    refine ⟨u, rv, ?_⟩
    rcases S.par y (List.mem_of_getElem? hp) with k | k
    · exact .inl ⟨k, bindL_get ndP hp hu k⟩
    · obtain ⟨c, e⟩ := cell_has (n := s.heap.objs.size + 1) k
      refine .inr ⟨.inl k, c, e, ?_⟩
      have q := x.cell y c e
      rw [bindC_get ndP hp hu (by show scope.names.lookup y ≠ _; rw [k]; decide)] at q
      exact q
  · exact e0.hok.fresh (Nat.le_of_lt (x.above y c (PySem.mem_of_lookup h)))
  · unfold start
    show _ = N.length
    rw [List.length_append, List.length_map, List.length_replicate]
    omega
theorem fn_of {CX : CXT} {P : Program} {w : World} {K : PySem.W.Frag} {mg : Str → Option Value} {base : Heap} {k : Nat} {f : Addr} {name qual : Str} {params : Arguments} {body : List Stmt} {scope : Scope} {dV kV doc pm cdv ct oc : Value} {an od : Option Addr}
    {osl : Array (Option Value)} {N ps : List Str} {sp : Sp} (lk : K.lookup f = some ⟨oc, od, .func (PySem.W.fnOf name qual params body scope dV kV doc pm an cdv ct), osl⟩) (hcd : PySem.W.codeIn K cdv qual = true) (S : FnScope N ps scope)
    (len : ∀ vs H Q E, sp vs H Q E → vs.length = ps.length)
    (hbody : ∀ (A : Around) (outer : List Env) (s : Shared) (H : Hp) (vs : List V) (Q : VK) (E : XK), Room k (A.deeper (envOfC qual scope s.heap.objs.size f cdv)) → sp vs H Q E →
      ∃ t, PSs (cxOf CX P w K mg base N qual scope f cdv A outer s H E) body t ∧ t { nx := fun _ H' => Q .non H', rt := Q } (start N vs) H) :
    FnOk P w K mg base CX (k + 1) f (PySem.W.fnOf name qual params body scope dV kV doc pm an cdv ct) ps sp := by
  refine ⟨len, fun A outer s H args us vs Q E hr e0 hb r hsp => ?_⟩
  have hl := len _ _ _ _ hsp
  have KX : K.In s.heap := e0.mod.kin.keeps fun b o e => (e0.bs b o e).1
  have lim : s.heap.NoLimit := e0.mod.nolimit.keeps fun b o e => (e0.bs b o e).1
  have hkind : ∀ y ∈ ps.zip us, scope.names.lookup y.1 = some .local ∨ (scope.names.lookup y.1 = some .cell ∧ ((cellsFrom (s.heap.objs.size + 1) scope.names []).lookup y.1).isSome = true) := fun ⟨n, v⟩ hy => by
    rcases S.par n (List.of_mem_zip hy).1 with q | q
    · exact .inl q
    · exact .inr ⟨q, PySem.W.cellsFrom_some _ _ _ (.inl q)⟩
  refine codeAny_call_function hr.depth (KX _ _ lk) rfl S.co S.gen rfl (PySem.W.codeRec_of KX hcd) (hb _ _ _ _ ?_)
  refine wpAny_newFunctionEnv_cells S.kind hkind fun env he s1 x => ?_
  subst he
  refine ⟨lim.keeps x.toInCall.keep, codeAny_func ?_⟩
  obtain ⟨t, ht, hq⟩ := hbody A outer s H vs Q E (hr.deeper _) hsp
  have I : Inv (cxOf CX P w K mg base N qual scope f cdv A outer s H E) [] (start N vs) H s1 := inv_start S hr.hd e0 hl r x
  refine wpAny_mono (ht [] s1 (start N vs) H _ I hq) (fun fl s' hs => ?_) fun e s' hs => hs
  have fin : ∀ {σ' : St} {H' : Hp} {v : V} {u : Value}, Inv (cxOf CX P w K mg base N qual scope f cdv A outer s H E) [] σ' H' s' → RelV v u → Q v H' → CE outer P w H s Q u s' :=
    fun {σ' H' v u} J rv q => ⟨v, H', J.os, J.bare, J.base, J.hok, rv, q⟩
  cases fl with
  | ret u =>
    obtain ⟨v, σ', H', J, rv, q⟩ := hs
    exact fin J rv q
  | next =>
    obtain ⟨σ', H', J, q⟩ := hs
    exact fin (v := V.non) (u := Value.none) J rfl q
  | brk =>
    obtain ⟨_, _, _, q⟩ := hs
    exact False.elim q
  | cont =>
    obtain ⟨_, _, _, q⟩ := hs
    exact False.elim q
end L2
namespace L2
open PySem PySem.Spec PyProof.Rows
section
variable {X : Cx} {x : Str} {p pos : Pos} {e : Expr} {es : List Expr} {t : TA} {id T : String} {r : List V → Hp → VK → Prop}
def tCB (r : List V → Hp → VK → Prop) (t : TA) : TE := fun σ H Q => t σ H fun vs H1 => r vs H1 Q
theorem pe_callB (hc : CallR X (.builtin id) r) (hg : Gl X x) (hm : X.mg x = none) (hv : bootBuiltins x = some (.builtin id)) (ha : PA X (e :: es) t) (hn : x ≠ "__name__" := by decide) (hdb : (x == ("__debug__" : Str)) = false := by decide)
    (he : starEach (e :: es) X.env = (false, eval e X.env) :: starEach es X.env := by rfl) (hpl : (backTo pos (starEach es X.env)).any (·.1) = false := by rfl) : PE X (.Call (.Name x p) (e :: es) [] pos) (tCB r t) := by
  intro pins s σ H Q I h
  refine wpAny_Call_Name_kw (ld_blt I hg hm hv ?_ hn hdb)
  exact PyProof.Rows.callWith_builtin1 (thn (ha pos pins s σ H _ I h) fun us s1 ⟨vs, H1, I1, r1, q1⟩ => hc pins s1 σ H1 vs us Q I1 r1 q1) he hpl
theorem pe_callTy (hc : CallR X (.type T) r) (hg : Gl X x) (hm : X.mg x = none) (hv : bootBuiltins x = some (.type T)) (ha : PA X (e :: es) t) (hn : x ≠ "__name__" := by decide) (hdb : (x == ("__debug__" : Str)) = false := by decide)
    (he : starEach (e :: es) X.env = (false, eval e X.env) :: starEach es X.env := by rfl) (hpl : (backTo pos (starEach es X.env)).any (·.1) = false := by rfl) : PE X (.Call (.Name x p) (e :: es) [] pos) (tCB r t) := by
  intro pins s σ H Q I h
  refine wpAny_Call_Name_kw (ld_blt I hg hm hv ?_ hn hdb)
  exact PyProof.Rows.callWith_type1 (thn (ha pos pins s σ H _ I h) fun us s1 ⟨vs, H1, I1, r1, q1⟩ => hc pins s1 σ H1 vs us Q I1 r1 q1) he hpl
end
end L2
namespace HT
open PySem PyProof.Rows
section
open PySem.SeqAt
open PySem.AutoSeq1 (wpAny_loadPart')
open PySem.MeetsSeq PySem.MeetsSeq2 PySem.MeetsSeq3
end
section
variable {prog : Program} {w : World} {A : Around} {E : Value → Shared → Prop} {s : Shared}
def sIx (n d : Nat) : Option Int → Nat
  | none => d
  | some v => if v < 0 then (v + (n : Int)).toNat else min v.toNat n
theorem sIx_le (n d : Nat) (hd : d ≤ n) (o : Option Int) : sIx n d o ≤ n := by
  cases o with
  | none => exact hd
  | some v =>
    show (if v < 0 then (v + (n : Int)).toNat else min v.toNat n) ≤ n
    by_cases hv : v < 0
    · rw [if_pos hv]; omega
    · rw [if_neg hv]; exact Nat.min_le_right _ _
theorem clip_eq (v : Int) (n d : Nat) : (if v < 0 then max (v + (n : Int)) 0 else min v (n : Int)) = ((sIx n d (some v) : Nat) : Int) := by
  show (if v < 0 then max (v + (n : Int)) 0 else min v (n : Int)) = (((if v < 0 then (v + (n : Int)).toNat else min v.toNat n) : Nat) : Int)
  by_cases hv : v < 0
  · simp only [if_pos hv]; omega
  · simp only [if_neg hv]; omega
theorem adjust_gen (lo hi : Option Int) (n : Nat) : Builtin.Slice.sliceAdjust lo hi 1 (n : Int) = (((sIx n 0 lo : Nat) : Int), ((sIx n n hi : Nat) : Int)) := by
  have h1 : ¬ ((1 : Int) < 0) := by omega
  unfold Builtin.Slice.sliceAdjust
  simp only [h1, if_false]
  refine Prod.ext ?_ ?_
  · cases lo with
    | none => rfl
    | some v => exact clip_eq v n 0
  · cases hi with
    | none => rfl
    | some v => exact clip_eq v n n
theorem places_gen (i j : Nat) : Builtin.Slice.slicePlaces (i : Int) (j : Int) 1 = j - i := by
  unfold Builtin.Slice.slicePlaces
  have h1 : (1 : Int) > 0 := by omega
  simp only [h1, if_true, Int.ediv_one]
  split <;> omega
theorem slicePart_ {v : Value} {o : Option Int} {Q : Option Int → Shared → Prop} (p : IsPart v o) (h : Q o s) : wpAny (model prog w) A (Builtin.Slice.slicePartIndex v) Q E s := by
  cases p with
  | none => exact slicePart_none h
  | int i t => exact slicePart_int h
theorem sliceApplied_gen {sl : Addr} {vl vu : Value} {lo hi : Option Int} {n : Nat} {Q : Int × Int × Nat → Shared → Prop} (hs : s.heap.IsSliceOf sl vl vu .none) (pl : IsPart vl lo) (pu : IsPart vu hi)
    (h : Q (((sIx n 0 lo : Nat) : Int), 1, sIx n n hi - sIx n 0 lo) s) : wpAny (model prog w) A (Builtin.Slice.sliceApplied (.ref sl) (pure (n : Int))) Q E s := by
  obtain ⟨os, hos, hcs, hds⟩ := id hs
  unfold Builtin.Slice.sliceApplied Builtin.Slice.sliceFields
  refine wpAny_bind (wpAny_bind (wpAny_field hos hds (x := vl) rfl (wpAny_bind (wpAny_field hos hds (x := vu) rfl (wpAny_bind (wpAny_field hos hds (x := .none) rfl (wpAny_pure ?_)))))))
  refine wpAny_bind (slicePart_none ?_)
  show wpAny _ _ (if ((1 : Int) == 0) = true then _ else _) _ _ s
  rw [if_neg (by decide)]
  refine wpAny_bind (slicePart_ pl (wpAny_bind (slicePart_ pu (wpAny_bind (wpAny_pure ?_)))))
  show wpAny _ _ (match Builtin.Slice.sliceAdjust lo hi 1 (n : Int) with | (lo, hi) => pure (lo, (1 : Int), Builtin.Slice.slicePlaces lo hi 1)) _ _ s
  rw [adjust_gen lo hi n]
  show wpAny _ _ (pure (((sIx n 0 lo : Nat) : Int), (1 : Int), Builtin.Slice.slicePlaces ((sIx n 0 lo : Nat) : Int) ((sIx n n hi : Nat) : Int) 1)) _ _ s
  rw [places_gen]
  exact wpAny_pure h
theorem pick_gen (xs : Array Value) (i k : Nat) : ((List.range k).filterMap fun (m : Nat) => xs[((i : Int) + (m : Int) * 1).toNat]?).toArray = ((xs.toList.drop i).take k).toArray := by
  have e : (fun (m : Nat) => xs[((i : Int) + (m : Int) * 1).toNat]?) = fun m => xs[i + m]? := by
    funext m
    have : ((i : Int) + (m : Int) * 1).toNat = i + m := by omega
    rw [this]
  rw [e]
  have := pick_run xs i k
  rw [List.filterMap_map] at this
  have e2 : ((fun x => xs[x]?) ∘ fun x => i + x) = fun m => xs[i + m]? := rfl
  rw [e2] at this
  rw [this]
theorem getItem_tuple_cut {t sl : Addr} {items : Array Value} {vl vu : Value} {lo hi : Option Int} {Q : Value → Shared → Prop} (ht : IsTup s.heap t items) (hs : s.heap.IsSliceOf sl vl vu .none) (pl : IsPart vl lo) (pu : IsPart vu hi)
    (hw : ¬ (sIx items.size 0 lo = 0 ∧ sIx items.size items.size hi = items.size))
    (h : Q (.ref s.heap.objs.size) { s with heap := s.heap.push { cls := .type "tuple", data := .seq ((items.toList.drop (sIx items.size 0 lo)).take (sIx items.size items.size hi - sIx items.size 0 lo)).toArray } })
    (hsz : items.size ≤ sizeLine) : wpAny (model prog w) A (getItem (.ref t) (.ref sl)) Q E s := by
  have htake : sizeOk (.seq ((items.toList.drop (sIx items.size 0 lo)).take (sIx items.size items.size hi - sIx items.size 0 lo)).toArray) := by
    show ((items.toList.drop (sIx items.size 0 lo)).take (sIx items.size items.size hi - sIx items.size 0 lo)).toArray.size ≤ sizeLine
    rw [List.size_toArray, List.length_take, List.length_drop, Array.length_toList]
    omega
  have hj : sIx items.size items.size hi ≤ items.size := sIx_le _ _ (Nat.le_refl _) hi
  obtain ⟨os, hos, hcs, hds⟩ := id hs
  have hTs : s.TypeIs (.ref sl) "slice" := ⟨os, hos, hcs⟩
  unfold getItem
  try with_reducible refine wpAny_holding ?_
  first | refine wpAny_bind (wpAny_pure ?_) | skip
  refine wpAny_bind (wpAny_sequenceKey ht.typeIs (by decide) ?_)
  refine wpAny_bind (wpAny_callSpecial?_slot (name := Str.ofString "__getitem__") ht.typeIs PyProof.Rows.slot_tuple_getitem
    (wpAny_call_entry PyProof.Rows.slot_tuple_getitem ht.typeIs entry_tuple_getitem ?_ (args_tuple_getitem _ _)))
  show wpAny _ _ (Builtin.Tuple.tupleItemsOf (.ref t) >>= _) _ _ s
  refine wpAny_bind (tupleItemsOf_ ht ?_)
  refine wpAny_bind (wpAny_typeOf hTs ?_)
  rw [if_pos (by decide)]
  refine wpAny_bind (sliceApplied_gen hs pl pu ?_)
  have hno : ¬ ((((sIx items.size 0 lo : Nat) : Int) == 0 && (1 : Int) == 1 && (sIx items.size items.size hi - sIx items.size 0 lo) == items.size) = true) := by
    intro q
    rw [Bool.and_eq_true, Bool.and_eq_true] at q
    have q1 : ((sIx items.size 0 lo : Nat) : Int) = 0 := eq_of_beq q.1.1
    have q2 : sIx items.size items.size hi - sIx items.size 0 lo = items.size := eq_of_beq q.2
    exact hw ⟨by omega, by omega⟩
  show wpAny _ _ (if (((sIx items.size 0 lo : Nat) : Int) == 0 && (1 : Int) == 1 && (sIx items.size items.size hi - sIx items.size 0 lo) == items.size) = true then _ else _) _ _ s
  rw [if_neg hno, pick_gen]
  first
    | exact wpAny_bind (m := Builtin.Tuple.tupleExact _) (wpAny_newObj_type (wpAny_pure ⟨_, rfl, wpAny_pure h⟩) htake)
    | exact wpAny_bind (m := Builtin.Tuple.tupleExact _) (wpAny_newObj_type (wpAny_bind (wpAny_pure (wpAny_pure ⟨_, rfl, wpAny_pure h⟩))) htake)
    | exact wpAny_bind (wpAny_bind (m := Builtin.Tuple.tupleExact _) (wpAny_newObj_type (wpAny_pure (wpAny_pure ⟨_, rfl, wpAny_pure h⟩)) htake))
    | exact wpAny_bind (wpAny_bind (m := Builtin.Tuple.tupleExact _) (wpAny_newObj_type (wpAny_pure ⟨_, rfl, wpAny_pure h⟩) htake))
end
end HT
namespace L2
open PySem PySem.Spec PyProof.Rows
abbrev TO := St → Hp → (Option Int → Hp → Prop) → Prop
def PO (X : Cx) (e : Option Expr) (t : TO) : Prop :=
  ∀ (pins : List (Addr × Obj)) (s : Shared) (σ : St) (H : Hp) (Q : Option Int → Hp → Prop), Inv X pins σ H s → t σ H Q →
    wpAny (model X.prog X.w) X.A (evalPart e X.env) (fun u s' => ∃ o H', Inv X pins σ H' s' ∧ IsPart u o ∧ Q o H') X.xe s
def tNoPart : TO := fun _ H Q => Q none H
def tPart (t : TE) : TO := fun σ H Q => t σ H fun x H1 => ∃ i, x = .int i ∧ Q (some i) H1
section
variable {X : Cx} {e : Expr} {te : TE} {lo hi : Option Expr} {tl th : TO} {pos p2 : Pos}
theorem po_none : PO X none tNoPart := by
  intro pins s σ H Q I h
  rw [evalPart_none]
  exact wpAny_pure ⟨none, H, I, .none, h⟩
theorem po_some (h : PE X e te) : PO X (some e) (tPart te) := by
  intro pins s σ H Q I hw
  rw [evalPart_some]
  refine thn (h pins s σ H _ I hw) fun u s1 ⟨x, H1, I1, r1, q1⟩ => ?_
  obtain ⟨i, rfl, q⟩ := q1
  obtain ⟨t, rfl⟩ := r1
  exact ⟨some i, H1, I1, .int i t, q⟩
def SlR (X : Cx) (r : V → Option Int → Option Int → Hp → VK → Prop) : Prop :=
  ∀ (pins : List (Addr × Obj)) (s : Shared) (σ : St) (H : Hp) (x : V) (v vl vu : Value) (lo hi : Option Int) (sl : Addr) (Q : VK), Inv X pins σ H s → RelV x v → s.heap.IsSliceOf sl vl vu .none → IsPart vl lo → IsPart vu hi → r x lo hi H Q →
    ∃ T id, typeLookup (.type T) "__getitem__" = pure (some (.builtin id)) ∧ s.TypeIs v T ∧ wpAny (model X.prog X.w) X.A (getItem v (.ref sl)) (EP X pins σ Q) X.xe s
theorem SlR.or {r r' : V → Option Int → Option Int → Hp → VK → Prop} (h : SlR X r) (h' : SlR X r') : SlR X (fun x lo hi H Q => r x lo hi H Q ∨ r' x lo hi H Q) := by
  intro pins s σ H x v vl vu lo hi sl Q I rx hs pl pu q
  rcases q with q | q
  · exact h pins s σ H x v vl vu lo hi sl Q I rx hs pl pu q
  · exact h' pins s σ H x v vl vu lo hi sl Q I rx hs pl pu q
def tSl (r : V → Option Int → Option Int → Hp → VK → Prop) (te : TE) (tl th : TO) : TE := fun σ H Q => te σ H fun x H1 => tl σ H1 fun l H2 => th σ H2 fun u H3 => r x l u H3 Q
theorem pe_slice {r : V → Option Int → Option Int → Hp → VK → Prop} (hr : SlR X r) (he : PE X e te) (hl : PO X lo tl) (hu : PO X hi th) : PE X (.Subscript e (.Slice lo hi none p2) pos) (tSl r te tl th) := by
  intro pins s σ H Q I h
  refine Subscript_ (thn (he pins s σ H _ I h) fun v s1 ⟨x, H1, I1, r1, q1⟩ => ?_)
  refine wpAny_Slice (thn (hl pins s1 σ H1 _ I1 q1) fun vl s2 ⟨l, H2, I2, pl, q2⟩ => thn (hu pins s2 σ H2 _ I2 q2) fun vu s3 ⟨u, H3, I3, pu, q3⟩ => ?_)
  rw [evalPart_none]
  refine wpAny_pure ?_
  have I4 : Inv X pins σ H3 { s3 with heap := s3.heap.push { cls := .type "slice", data := .fields #[vl, vu, .none] } } := I3.kept (t' := s3.toks) fun b ob q => Heap.get?_push_of_some _ q
  obtain ⟨T, id, hT, ht, hg⟩ := hr pins { s3 with heap := s3.heap.push { cls := .type "slice", data := .fields #[vl, vu, .none] } } σ H3 x v vl vu l u s3.heap.objs.size Q I4 r1 (Heap.IsSliceOf.new ..) pl pu q3
  show wpAny (model X.prog X.w) X.A (subscriptTail e (.Slice lo hi none p2) v (.ref s3.heap.objs.size)) (EP X pins σ Q) X.xe { s3 with heap := s3.heap.push { cls := .type "slice", data := .fields #[vl, vu, .none] } }
  exact tail_any (ops := [.ref s3.heap.objs.size, v]) ht hT hg (by with_unfolding_all rfl)
def cutV (xs : List V) (lo hi : Option Int) : List V := (xs.drop (HT.sIx xs.length 0 lo)).take (HT.sIx xs.length xs.length hi - HT.sIx xs.length 0 lo)
theorem cutV_length (xs : List V) (lo hi : Option Int) : (cutV xs lo hi).length ≤ xs.length := by
  unfold cutV
  rw [List.length_take, List.length_drop]
  omega
def rSlT (K : PySem.W.Frag) : V → Option Int → Option Int → Hp → VK → Prop := fun x lo hi H Q => ∃ a xs, x = .ref a ∧ SqT K H a xs ∧
  ¬ (HT.sIx xs.length 0 lo = 0 ∧ HT.sIx xs.length xs.length hi = xs.length) ∧ ∀ p, H p = none → Q (.ref p) (upd H p (.tup (cutV xs lo hi)))
theorem sl_tup : SlR X (rSlT X.K) := by
  intro pins s σ H x v vl vu lo hi sl Q I rx hs pl pu h
  obtain ⟨a, xs, rfl, hx, hw, q⟩ := h
  cases rx
  obtain ⟨its, r, ht, hz⟩ := I.tuple hx
  have hlen : its.toArray.size = xs.length := by rw [List.size_toArray]; exact r.length.symm
  refine ⟨"tuple", _, PyProof.Rows.slot_tuple_getitem.lookup, ht.typeIs, ?_⟩
  refine HT.getItem_tuple_cut ht hs pl pu (by rw [hlen]; exact hw) ?_ (by rw [hlen]; exact hz)
  rw [hlen]
  refine ⟨.ref s.heap.objs.size, _, I.laid (t' := s.toks) (o := .tup (cutV xs lo hi)) (fun b ob q => Heap.get?_push_of_some _ q) (Nat.le_refl _) ?_, rfl, q _ (I.hok.fresh (Nat.le_refl _))⟩
  exact ⟨Nat.le_trans (cutV_length xs lo hi) hz, _, (r.drop (HT.sIx xs.length 0 lo)).take (HT.sIx xs.length xs.length hi - HT.sIx xs.length 0 lo), IsTup.new _ _⟩
end
end L2
namespace L2
open PySem PySem.Spec PyProof.Rows
def ixN (n : Nat) (i : Int) : Option Nat := if 0 ≤ i then (if i < n then some i.toNat else none) else if -(n : Int) ≤ i then some (i + n).toNat else none
def atI {α : Type} (xs : List α) (i : Int) : Option α := (ixN xs.length i).bind fun j => xs[j]?
theorem ixN_seq {n : Nat} {i : Int} {j : Nat} (h : ixN n i = some j) : seqIndex? i n = some j ∧ j < n ∧ -(n : Int) ≤ i ∧ i < n := by
  unfold ixN at h
  by_cases h0 : 0 ≤ i
  · rw [if_pos h0] at h
    by_cases h1 : i < n
    · rw [if_pos h1] at h
      have e : i.toNat = j := Option.some.inj h
      exact ⟨by rw [seqIndex_of h0 h1, e], by omega, by omega, h1⟩
    · rw [if_neg h1] at h; cases h
  · rw [if_neg h0] at h
    by_cases h1 : -(n : Int) ≤ i
    · rw [if_pos h1] at h
      have e : (i + n).toNat = j := Option.some.inj h
      exact ⟨by rw [seqIndex_neg (by omega) h1, e], by omega, h1, by omega⟩
    · rw [if_neg h1] at h; cases h
theorem atI_get {α : Type} {xs : List α} {i : Int} {v : α} (h : atI xs i = some v) : ∃ j, seqIndex? i xs.length = some j ∧ xs[j]? = some v ∧ j < xs.length ∧ -(xs.length : Int) ≤ i ∧ i < xs.length := by
  unfold atI at h
  cases e : ixN xs.length i with
  | none => rw [e] at h; cases h
  | some j =>
    rw [e] at h
    obtain ⟨h1, h2, h3, h4⟩ := ixN_seq e
    exact ⟨j, h1, h, h2, h3, h4⟩
theorem atI_nat {α : Type} {xs : List α} {j : Nat} {v : α} (h : xs[j]? = some v) : atI xs (j : Int) = some v := by
  have hj : j < xs.length := (List.getElem?_eq_some_iff.mp h).1
  have e : ixN xs.length (j : Int) = some j := by
    unfold ixN
    rw [if_pos (by omega), if_pos (by omega)]; simp
  unfold atI; rw [e]; exact h
def PlainIx (b : Expr) : Prop := ∀ o i, subscripted b false o i = operate [o, i] (getItem o i)
def IxR (X : Cx) (r : R2) : Prop :=
  ∀ (value slice : Expr) (pins : List (Addr × Obj)) (s : Shared) (σ : St) (H : Hp) (x y : V) (v u : Value) (Q : VK), Inv X pins σ H s → RelV x v → RelV y u → r x y H Q →
    subscripted slice false v u = operate [v, u] (getItem v u) → wpAny (model X.prog X.w) X.A (subscriptTail value slice v u) (EP X pins σ Q) X.xe s
def MtR (X : Cx) (id : String) (r : V → List V → Hp → VK → Prop) : Prop :=
  ∀ (pins : List (Addr × Obj)) (s : Shared) (σ : St) (H : Hp) (x : V) (xs : List V) (v : Value) (us : List Value) (Q : VK), Inv X pins σ H s → RelV x v → Vals xs us → r x xs H Q →
    wpAny (model X.prog X.w) X.A (call (.builtin id) (v :: us)) (EP X pins σ Q) X.xe s
section
variable {X : Cx} {a b : Expr} {ta tb : TE} {pos : Pos}
theorem pe_ix {r : R2} (hr : IxR X r) (ha : PE X a ta) (hb : PE X b tb) (hs : PlainIx b) : PE X (.Subscript a b pos) (tOp r ta tb) := by
  intro pins s σ H Q I h
  exact Subscript_ (binT ha hb I h fun v u s2 x y H2 I2 rx ry q => hr a b pins s2 σ H2 x y v u Q I2 rx ry q (hs _ _))
def rIxL (K : PySem.W.Frag) : R2 := fun x y H Q => ∃ p xs i v, x = .ref p ∧ y = .int i ∧ SqL K H p xs ∧ atI xs i = some v ∧ Q v H
def rIxT (K : PySem.W.Frag) : R2 := fun x y H Q => ∃ p xs i v, x = .ref p ∧ y = .int i ∧ SqT K H p xs ∧ atI xs i = some v ∧ Q v H
def rIxS : R2 := fun x y H Q => ∃ z i c, x = .str z ∧ y = .int i ∧ z.length ≤ sizeLine ∧ atI z.cps.toList i = some c ∧ Q (.str ⟨#[c]⟩) H
theorem ix_list : IxR X (rIxL X.K) := by
  intro value slice pins s σ H x y v u Q I rx ry h hs
  obtain ⟨p, xs, i, z, rfl, rfl, hq, he, q⟩ := h
  cases rx
  obtain ⟨t, rfl⟩ := ry
  obtain ⟨its, r, pl, hz⟩ := I.list hq
  obtain ⟨j, h1, h2, h3, h4, h5⟩ := atI_get he
  obtain ⟨w, ew, rw'⟩ := r.get h2
  have hl := r.length
  have hn := line63
  have fin : EP X pins σ Q w s := ⟨z, H, I, rw', q⟩
  by_cases h0 : 0 ≤ i
  · have hj : i.toNat = j := by
      rw [seqIndex_of h0 h5] at h1
      exact Option.some.inj h1
    exact item_listR pl.isList h0 (by omega) (by rw [hj]; simpa using ew) fin hs
  · have hj : (i + (its.toArray.size : Int)).toNat = j := by
      rw [seqIndex_neg (by omega) h4] at h1
      rw [List.size_toArray, ← hl]
      exact Option.some.inj h1
    exact subscriptTail_builtinR (x := w) pl.isList.typeIs slot_list_getitem.lookup
      (wpAny_getItem_list_neg (Q := fun r s' => r = w ∧ EP X pins σ Q r s') pl.isList (by omega) (by rw [List.size_toArray] <;> omega) (by omega) (by rw [hj]; simpa using ew) ⟨rfl, fin⟩) hs
theorem ix_tup : IxR X (rIxT X.K) := by
  intro value slice pins s σ H x y v u Q I rx ry h hs
  obtain ⟨p, xs, i, z, rfl, rfl, hq, he, q⟩ := h
  cases rx
  obtain ⟨t, rfl⟩ := ry
  obtain ⟨its, r, pl, hz⟩ := I.tuple hq
  obtain ⟨j, h1, h2, h3, h4, h5⟩ := atI_get he
  obtain ⟨w, ew, rw'⟩ := r.get h2
  have hl := r.length
  have hn := line63
  have fin : EP X pins σ Q w s := ⟨z, H, I, rw', q⟩
  exact subscriptTail_builtinR (x := w) pl.typeIs slot_tuple_getitem.lookup
    (getItem_tuple (j := j) (Q := fun r s' => r = w ∧ EP X pins σ Q r s') pl (by omega) (by omega) (by rw [List.size_toArray, ← hl]; exact h1) (by simpa using ew) ⟨rfl, fin⟩) hs
theorem ix_str : IxR X rIxS := by
  intro value slice pins s σ H x y v u Q I rx ry h hs
  obtain ⟨z, i, c, rfl, rfl, hz, he, q⟩ := h
  obtain ⟨t, rfl⟩ := rx
  obtain ⟨t', rfl⟩ := ry
  obtain ⟨j, h1, h2, h3, h4, h5⟩ := atI_get he
  have hl : z.cps.toList.length = z.length := by simp [Str.length]
  rw [hl] at h1 h4 h5
  have hn := line63
  exact tail_any (typeIs_str s z t) slot_str_getitem.lookup (getItem_str (c := c) (by
    have e1 : decide (i < -(2 ^ 63 : Int)) = false := decide_eq_false (by omega)
    have e2 : decide (i ≥ 2 ^ 63) = false := decide_eq_false (by omega)
    rw [e1, e2, Bool.or_false]) (by rw [h1]; simpa using h2) ⟨.str ⟨#[c]⟩, H, I.tok _, ⟨_, rfl⟩, q⟩) hs
theorem mapSeq_set (its : List Value) (n j : Nat) (u : Value) : Obj.mapSeq (·.setIfInBounds j u) { cls := .type "list", data := .seq its.toArray n } = { cls := .type "list", data := .seq (its.set j u).toArray n } := by
  simp [Obj.mapSeq]
theorem Inv.lst {pins : List (Addr × Obj)} {σ : St} {H : Hp} {s : Shared} {p : Addr} {xs : List V} (I : Inv X pins σ H s) (h : H p = some (.lst xs)) :
    ∃ (its : List Value) (n : Nat), Vals xs its ∧ s.heap.get? p = some { cls := .type "list", data := .seq its.toArray n } ∧ xs.length ≤ sizeLine := by
  obtain ⟨z, its, n, r, e⟩ := I.hok p _ h
  exact ⟨its, n, r, e, z⟩
theorem Inv.lstUpd {pins : List (Addr × Obj)} {σ : St} {H : Hp} {s : Shared} {p : Addr} {xs ys : List V} {its its' : List Value} {n n' : Nat} {f : Obj → Obj} (I : Inv X pins σ H s) (h : H p = some (.lst xs))
    (ho : s.heap.get? p = some { cls := .type "list", data := .seq its.toArray n }) (hf : f { cls := .type "list", data := .seq its.toArray n } = { cls := .type "list", data := .seq its'.toArray n' }) (r : Vals ys its') (hz : ys.length ≤ sizeLine) (t : Nat) :
    Inv X pins σ (upd H p (.lst ys)) { s with heap := s.heap.update p f, toks := t } := by
  have e : (s.heap.update p f).get? p = some { cls := .type "list", data := .seq its'.toArray n' } := by
    rw [Heap.get?_update_self f ho (by rw [hf] <;> rfl), hf]
  refine I.write (x := p) (e := p) (by rw [h]; trivial) (.inl rfl) (fun b u hb q => (Heap.get?_update_other _ _ (Ne.symm hb)).trans q) ⟨_, e⟩ ?_
  exact ⟨hz, its', n', r, e⟩
def rSetL : V → V → V → Hp → (Hp → Prop) → Prop := fun o i v H Q => ∃ p xs k j, o = .ref p ∧ i = .int k ∧ H p = some (.lst xs) ∧ ixN xs.length k = some j ∧ Q (upd H p (.lst (xs.set j v)))
theorem set_list : PSet X rSetL := by
  intro pins s σ H o i v ov iv u Q I ro ri rv h
  obtain ⟨p, xs, k, j, rfl, rfl, hp, hj, q⟩ := h
  cases ro
  obtain ⟨t, rfl⟩ := ri
  obtain ⟨its, n, r, ho, hz⟩ := I.lst hp
  obtain ⟨h1, h2, h3, h4⟩ := ixN_seq hj
  have hl := r.length
  have hn := line63
  have I' : Inv X pins σ (upd H p (.lst (xs.set j v))) { s with heap := s.heap.update p (Obj.mapSeq (·.setIfInBounds j u)) } :=
    I.lstUpd hp ho (mapSeq_set its n j u) (r.set rv j) (by rw [List.length_set]; exact hz) s.toks
  by_cases h0 : 0 ≤ k
  · have hk : k.toNat = j := by
      rw [seqIndex_of h0 h4] at h1
      exact Option.some.inj h1
    exact PySem.W.ki_setAt ho h0 (by omega) (by rw [List.size_toArray, ← hl]; exact h4) (by rw [hk]; exact ⟨_, I', q⟩)
  · have hk : (k + (its.toArray.size : Int)).toNat = j := by
      rw [seqIndex_neg (by omega) h3] at h1
      rw [List.size_toArray, ← hl]
      exact Option.some.inj h1
    exact PySem.W.ki_setBack ho (by omega) (by rw [List.size_toArray, ← hl]; exact h3) (by omega) (by rw [hk]; exact ⟨_, I', q⟩)
theorem slice_bounds (lo hi : Option Int) (n : Nat) : (sliceBounds lo hi none n).1 = ((HT.sIx n 0 lo : Nat) : Int) ∧ (sliceBounds lo hi none n).2.1 = ((HT.sIx n n hi : Nat) : Int) ∧ (sliceBounds lo hi none n).2.2 = 1 := by
  refine ⟨?_, ?_, rfl⟩
  · cases lo with
    | none => simp [sliceBounds, HT.sIx]
    | some i =>
      simp only [sliceBounds, HT.sIx, Option.getD_none, show (1 : Int) > 0 by decide, if_true]
      by_cases h : i < 0
      · simp only [h, if_true] <;> omega
      · simp only [h, if_false] <;> omega
  · cases hi with
    | none => simp [sliceBounds, HT.sIx]
    | some i =>
      simp only [sliceBounds, HT.sIx, Option.getD_none, show (1 : Int) > 0 by decide, if_true]
      by_cases h : i < 0
      · simp only [h, if_true] <;> omega
      · simp only [h, if_false] <;> omega
theorem slicePick_cut (its : List Value) (lo hi : Option Int) : slicePick its.toArray lo hi none = ((its.drop (HT.sIx its.length 0 lo)).take (HT.sIx its.length its.length hi - HT.sIx its.length 0 lo)).toArray := by
  obtain ⟨h1, h2, h3⟩ := slice_bounds lo hi its.toArray.size
  unfold slicePick
  rw [h1, h2, h3]
  simp only [sliceRange_one, pick_run, List.size_toArray] <;> rfl
def rSlL (K : PySem.W.Frag) : V → Option Int → Option Int → Hp → VK → Prop := fun x lo hi H Q => ∃ a xs, x = .ref a ∧ SqL K H a xs ∧ ∀ p, H p = none → Q (.ref p) (upd H p (.lst (cutV xs lo hi)))
theorem sl_list : SlR X (rSlL X.K) := by
  intro pins s σ H x v vl vu lo hi sl Q I rx hs pl pu h
  obtain ⟨a, xs, rfl, hx, q⟩ := h
  cases rx
  obtain ⟨its, r, ht, hz⟩ := I.list hx
  have hlen := r.length
  refine ⟨"list", _, slot_list_getitem.lookup, ht.isList.typeIs, ?_⟩
  refine wpAny_getItem_list_slice ht.isList hs pl pu .none (by simp) ?_ (by rw [List.size_toArray] <;> omega)
  rw [slicePick_cut, ← hlen]
  refine ⟨.ref s.heap.objs.size, _, I.laid (t' := s.toks) (o := .lst (cutV xs lo hi)) (fun b ob q => Heap.get?_push_of_some _ q) (Nat.le_refl _) ?_, rfl, q _ (I.hok.fresh (Nat.le_refl _))⟩
  exact ⟨Nat.le_trans (cutV_length xs lo hi) hz, _, 0, (r.drop (HT.sIx xs.length 0 lo)).take (HT.sIx xs.length xs.length hi - HT.sIx xs.length 0 lo), Heap.get?_push_size _ rfl⟩
def flatV : V → Bool
  | .non => true
  | .bl _ => true
  | .int _ => true
  | .str _ => true
  | _ => false
def eqV : V → V → Bool
  | .non, .non => true
  | .bl a, .bl b => a == b
  | .bl a, .int b => (if a then 1 else 0) == b
  | .int a, .bl b => a == (if b then 1 else 0)
  | .int a, .int b => a == b
  | .str a, .str b => a == b
  | _, _ => false
theorem eqAt_V {A : Around} {s : Shared} {y x : V} {u v : Value} (ry : RelV y u) (rx : RelV x v) (fy : flatV y = true) (fx : flatV x = true) : SeqAt.EqAt A s u v (eqV y x) := by
  cases y with
  | non =>
    cases ry
    cases x with
    | non => cases rx; exact SeqAt.EqAt.same _
    | bl b => cases rx; exact SeqAt.EqAt.none_bool b
    | int b => obtain ⟨t, rfl⟩ := rx; exact SeqAt.EqAt.none_int b t
    | str b => obtain ⟨t, rfl⟩ := rx; exact SeqAt.EqAt.none_str b t
    | _ => exact absurd (show false = true from fx) Bool.false_ne_true
  | bl a =>
    cases ry
    cases x with
    | non => cases rx; exact SeqAt.EqAt.bool_none a
    | bl b => cases rx; exact SeqAt.EqAt.bool_bool a b
    | int b => obtain ⟨t, rfl⟩ := rx; exact SeqAt.EqAt.bool_int a b t
    | str b => obtain ⟨t, rfl⟩ := rx; exact SeqAt.EqAt.bool_str a b t
    | _ => exact absurd (show false = true from fx) Bool.false_ne_true
  | int a =>
    obtain ⟨t', rfl⟩ := ry
    cases x with
    | non => cases rx; exact SeqAt.EqAt.int_none a t'
    | bl b => cases rx; exact SeqAt.EqAt.int_bool a t' b
    | int b => obtain ⟨t, rfl⟩ := rx; exact SeqAt.EqAt.int_int a t' b t
    | str b => obtain ⟨t, rfl⟩ := rx; exact SeqAt.EqAt.int_str a t' b t
    | _ => exact absurd (show false = true from fx) Bool.false_ne_true
  | str a =>
    obtain ⟨t', rfl⟩ := ry
    cases x with
    | non => cases rx; exact SeqAt.EqAt.str_none a t'
    | bl b => cases rx; exact SeqAt.EqAt.str_bool a t' b
    | int b => obtain ⟨t, rfl⟩ := rx; exact SeqAt.EqAt.str_int a t' b t
    | str b => obtain ⟨t, rfl⟩ := rx; exact SeqAt.EqAt.str_str a t' b t
    | _ => exact absurd (show false = true from fx) Bool.false_ne_true
  | _ => exact absurd (show false = true from fy) Bool.false_ne_true
def eqU (x : V) (u : Value) : Bool := match u with
  | .none => eqV .non x
  | .bool b => eqV (.bl b) x
  | .int i _ => eqV (.int i) x
  | .str z _ => eqV (.str z) x
  | _ => false
theorem eqU_of {x y : V} {u : Value} (r : RelV y u) (f : flatV y = true) : eqU x u = eqV y x := by
  cases y with
  | non => cases r; rfl
  | bl b => cases r; rfl
  | int i => obtain ⟨t, rfl⟩ := r; rfl
  | str z => obtain ⟨t, rfl⟩ := r; rfl
  | _ => exact absurd (show false = true from f) Bool.false_ne_true
theorem any_eqU {x : V} : ∀ {xs : List V} {us : List Value}, Vals xs us → xs.all flatV = true → us.any (eqU x) = xs.any fun y => eqV y x
  | _, _, .nil, _ => rfl
  | y :: xs, u :: us, .cons r t, f => by
    rw [List.all_cons, Bool.and_eq_true] at f
    rw [List.any_cons, List.any_cons, eqU_of r f.1, any_eqU t f.2]
theorem mem_eqAt {A : Around} {s : Shared} {x : V} {v : Value} (rx : RelV x v) (fx : flatV x = true) : ∀ {xs : List V} {us : List Value}, Vals xs us → xs.all flatV = true → ∀ u ∈ us, SeqAt.EqAt A s u v (eqU x u)
  | _, _, .nil, _ => fun u hu => by cases hu
  | y :: xs, u :: us, .cons r t, f => fun u' hu => by
    rw [List.all_cons, Bool.and_eq_true] at f
    rcases List.mem_cons.mp hu with rfl | hu
    · rw [eqU_of r f.1]; exact eqAt_V r rx f.1 fx
    · exact mem_eqAt rx fx t f.2 u' hu
def inV (x : V) (xs : List V) : Bool := xs.any fun y => eqV y x
def rIn (K : PySem.W.Frag) (neg : Bool) : R2 := fun x y H Q => ∃ p xs, y = .ref p ∧ (SqL K H p xs ∨ SqT K H p xs) ∧ flatV x = true ∧ xs.all flatV = true ∧ Q (.bl (if neg then !inV x xs else inV x xs)) H
theorem op_in_seq : OpR X (compareOp .In) (rIn X.K false) := by
  intro pins s σ H x y v u Q I rx ry h
  obtain ⟨p, xs, rfl, hq, fx, fs, q⟩ := h
  cases ry
  rcases hq with hq | hq
  · obtain ⟨its, r, pl, hz⟩ := I.list hq
    refine SeqAt.in_listAt (eqU x) pl.isList (fun w hw => mem_eqAt rx fx r fs w (by simpa using hw)) ⟨.bl _, H, I, rfl, ?_⟩
    rw [show its.toArray.any (eqU x) = its.any (eqU x) by simp, any_eqU r fs]
    exact q
  · obtain ⟨its, r, pl, hz⟩ := I.tuple hq
    refine SeqAt.in_tupleAt (eqU x) pl (fun w hw => mem_eqAt rx fx r fs w (by simpa using hw)) ⟨.bl _, H, I, rfl, ?_⟩
    rw [show its.toArray.any (eqU x) = its.any (eqU x) by simp, any_eqU r fs]
    exact q
theorem op_notIn_seq : OpR X (compareOp .NotIn) (rIn X.K true) := by
  intro pins s σ H x y v u Q I rx ry h
  obtain ⟨p, xs, rfl, hq, fx, fs, q⟩ := h
  cases ry
  rcases hq with hq | hq
  · obtain ⟨its, r, pl, hz⟩ := I.list hq
    refine SeqAt.notIn_listAt (eqU x) pl.isList (fun w hw => mem_eqAt rx fx r fs w (by simpa using hw)) ⟨.bl _, H, I, rfl, ?_⟩
    rw [show its.toArray.any (eqU x) = its.any (eqU x) by simp, any_eqU r fs]
    exact q
  · obtain ⟨its, r, pl, hz⟩ := I.tuple hq
    refine SeqAt.notIn_tupleAt (eqU x) pl (fun w hw => mem_eqAt rx fx r fs w (by simpa using hw)) ⟨.bl _, H, I, rfl, ?_⟩
    rw [show its.toArray.any (eqU x) = its.any (eqU x) by simp, any_eqU r fs]
    exact q
theorem op_notIn_str : OpR X (compareOp .NotIn) (fun x y H Q => ∃ i j, x = .str i ∧ y = .str j ∧ Q (.bl (!(!(Builtin.Str.occurrences j i 0 j.length 1).isEmpty))) H) := by
  intro pins s σ H x y v u Q I rx ry h
  obtain ⟨i, j, rfl, rfl, q⟩ := h
  obtain ⟨t, rfl⟩ := rx
  obtain ⟨t', rfl⟩ := ry
  exact notIn_str ⟨.bl _, H, I, rfl, q⟩
theorem CallR.or {f : Value} {r r' : List V → Hp → VK → Prop} (h : CallR X f r) (h' : CallR X f r') : CallR X f (fun xs H Q => r xs H Q ∨ r' xs H Q) := by
  intro pins s σ H xs us Q I rs q
  rcases q with q | q
  · exact h pins s σ H xs us Q I rs q
  · exact h' pins s σ H xs us Q I rs q
theorem call_list_of : CallR X (.type "list") (fun xs H Q => ∃ p ys, xs = [.ref p] ∧ (SqL X.K H p ys ∨ SqT X.K H p ys) ∧ ∀ l, H l = none → Q (.ref l) (upd H l (.lst ys))) := by
  intro pins s σ H xs us Q I r h
  obtain ⟨p, ys, rfl, hq, q⟩ := h
  obtain ⟨u, rfl, rx⟩ := vals1 r
  cases rx
  have fin : ∀ (its : List Value), Vals ys its → ys.length ≤ sizeLine → ∀ (h' : Heap) (c' : Nat), (∀ b o', s.heap.get? b = some o' → h'.get? b = some o') →
      h'.get? s.heap.objs.size = some { cls := .type "list", dict := none, data := .seq its.toArray c', slots := #[] } → EP X pins σ Q (.ref s.heap.objs.size) { s with heap := h' } := fun its r' hz h' c' kp e =>
    ⟨.ref s.heap.objs.size, _, I.laid (t' := s.toks) kp (Nat.le_refl _) (show ObjOk X.prog X.w _ h' _ (.lst ys) from ⟨hz, its, c', r', e⟩), rfl, q _ (I.hok.fresh (Nat.le_refl _))⟩
  rcases hq with hq | hq
  · obtain ⟨its, r', pl, hz⟩ := I.list hq
    have hlen := r'.length
    obtain ⟨o, ho, hc, n, hd⟩ := pl.isList
    exact call_list_seq p (.inl rfl) ho hc hd (fun h' c' kp e => fin its r' hz h' c' kp e) (by simp only [List.size_toArray] <;> omega)
  · obtain ⟨its, r', pl, hz⟩ := I.tuple hq
    have hlen := r'.length
    obtain ⟨o, ho, hc, n, hd⟩ := pl
    exact call_list_seq p (.inr rfl) ho hc hd (fun h' c' kp e => fin its r' hz h' c' kp e) (by simp only [List.size_toArray] <;> omega)
theorem call_tuple_of : CallR X (.type "tuple") (fun xs H Q => ∃ p ys, xs = [.ref p] ∧ ((SqL X.K H p ys ∧ ∀ l, H l = none → Q (.ref l) (upd H l (.tup ys))) ∨ (SqT X.K H p ys ∧ Q (.ref p) H))) := by
  intro pins s σ H xs us Q I r h
  obtain ⟨p, ys, rfl, h⟩ := h
  obtain ⟨u, rfl, rx⟩ := vals1 r
  cases rx
  rcases h with ⟨hq, q⟩ | ⟨hq, q⟩
  · obtain ⟨its, r', pl, hz⟩ := I.list hq
    have hlen := r'.length
    refine call_tuple_list pl.isList (fun h' kp => ?_) (by simp only [List.size_toArray] <;> omega)
    have I1 : Inv X pins σ H { s with heap := h' } := I.kept (t' := s.toks) kp
    have I2 : Inv X pins σ (upd H h'.objs.size (.tup ys)) { s with heap := h'.push { cls := .type "tuple", data := .seq its.toArray } } :=
      I1.laid (t' := s.toks) (fun b o e => Heap.get?_push_of_some _ e) (Nat.le_refl _) (show ObjOk X.prog X.w _ _ _ (.tup ys) from ⟨hz, its, r', IsTup.new _ _⟩)
    exact ⟨.ref h'.objs.size, _, I2, rfl, q _ (I1.hok.fresh (Nat.le_refl _))⟩
  · obtain ⟨its, r', pl, hz⟩ := I.tuple hq
    exact call_tuple_same pl ⟨.ref p, H, I, rfl, q⟩
def tyV (K : PySem.W.Frag) (T : String) (x : V) (H : Hp) : Prop := match x with
  | .str _ => T = "str"
  | .int _ => T = "int"
  | .ref p => (T = "list" ∧ ∃ xs, SqL K H p xs) ∨ (T = "tuple" ∧ ∃ o, K.lookup p = some o ∧ o.cls = .type "tuple" ∧ o.dict = none) ∨
      (T = "dict" ∧ ((∃ kvs, H p = some (.dK kvs)) ∨ ∃ kvs, H p = some (.dT kvs))) ∨ (T = "set" ∧ ∃ S n, H p = some (.set S n))
  | _ => False
theorem tyV_is {pins : List (Addr × Obj)} {σ : St} {H : Hp} {s : Shared} {T : String} {x : V} {v : Value} (I : Inv X pins σ H s) (r : RelV x v) (ty : tyV X.K T x H) :
    s.TypeIs v T ∧ ∀ a, v = .ref a → ∃ ob, s.heap.get? a = some ob ∧ ob.dict = none := by
  cases x with
  | str z =>
    obtain ⟨t, rfl⟩ := r
    cases (show T = "str" from ty)
    exact ⟨typeIs_str s z t, fun _ e => nomatch e⟩
  | int i =>
    obtain ⟨t, rfl⟩ := r
    cases (show T = "int" from ty)
    exact ⟨typeIs_int s i t, fun _ e => nomatch e⟩
  | ref p =>
    cases r
    rcases ty with ⟨rfl, xs, hq⟩ | ⟨rfl, o, hk, hc, hd⟩ | ⟨rfl, hk⟩ | ⟨rfl, S, n, hk⟩
    · obtain ⟨its, _, pl, _⟩ := I.list hq
      refine ⟨pl.isList.typeIs, fun a e => ?_⟩
      cases e
      obtain ⟨o, n, e, c, hd, _⟩ := pl
      exact ⟨o, e, hd⟩
    · refine ⟨⟨o, I.kIn p o hk, hc⟩, fun a e => ?_⟩
      cases e
      exact ⟨o, I.kIn _ o hk, hd⟩
    · have z : ∃ o, s.heap.get? p = some o ∧ o.ExactDict := by
        rcases hk with ⟨kvs, hk⟩ | ⟨kvs, hk⟩
        · obtain ⟨_, _, _, _, o, _, _, e, ex, _⟩ := I.hok p _ hk
          exact ⟨o, e, ex⟩
        · obtain ⟨_, _, _, _, o, _, _, e, ex, _⟩ := I.hok p _ hk
          exact ⟨o, e, ex⟩
      obtain ⟨o, e, ex⟩ := z
      refine ⟨⟨o, e, ex.1⟩, fun a e2 => ?_⟩
      cases e2
      exact ⟨o, e, ex.2.1⟩
    · obtain ⟨o, _, _, _, e, ex, _⟩ := I.hok p _ hk
      refine ⟨⟨o, e, ex.1⟩, fun a e2 => ?_⟩
      cases e2
      exact ⟨o, e, ex.2.1⟩
  | _ => exact False.elim ty
def tBM (K : PySem.W.Frag) (T : String) (r : V → List V → Hp → VK → Prop) (to : TE) (t : TA) : TE := fun σ H Q => to σ H fun x H1 => tyV K T x H1 ∧ t σ H1 fun xs H2 => r x xs H2 Q
variable {o e : Expr} {es : List Expr} {to : TE} {t : TA} {name : Str} {apos cpos : Pos} {T id : String} {r : V → List V → Hp → VK → Prop}
theorem pe_bm (pa : PlainAttrs T) (slot : Slot T name id) (hty : typeOf (.builtin id) = pure (.type "method_descriptor")) (hm : MtR X id r) (ho : PE X o to) (ha : PA X (e :: es) t)
    (hbase : attributeBase o name X.env (eval o X.env) = eval o X.env := by rfl)
    (hfew : ((backTo cpos (starEach (e :: es) X.env)).all (fun x => !x.1) && (backToKw cpos (keywordEach [] X.env)).all (fun x => x.1.isSome)
      && decide ((e :: es).length + ([] : List Keyword).length + (if ([] : List Keyword).isEmpty then 0 else 1) < 30)) = true := by rfl)
    (hline : (apos.endLine == cpos.line) = true := by rfl) (hs : starEach (e :: es) X.env = (false, eval e X.env) :: starEach es X.env := by rfl) (hplain : (backTo cpos (starEach es X.env)).any (·.1) = false := by rfl) :
    PE X (.Call (.Attribute o name apos) (e :: es) [] cpos) (tBM X.K T r to t) := by
  intro pins s σ H Q I h
  refine wpAny_Call_method_late hbase hfew hline rfl (thn (ho pins s σ H _ I h) fun v s1 ⟨x, H1, I1, r1, ty, q1⟩ => ?_)
  obtain ⟨h1, h2⟩ := tyV_is I1 r1 ty
  refine ⟨T, id, pa, slot, hty, h1, h2, ?_⟩
  have hA := ha cpos pins s1 σ H1 _ I1 q1
  rw [hs] at hA ⊢
  refine Calls.callWith_builtin (by show (false || (backTo cpos (starEach es X.env)).any (·.1)) = false; rw [hplain] <;> rfl) (Calls.evalArgs_plain ?_)
  exact thn hA fun us s2 ⟨vs, H2, I2, r2, q2⟩ => hm pins s2 σ H2 x vs v us Q I2 r1 r2 q2
end
end L2
namespace L2
open PySem PySem.Spec PyProof.Rows
def MtM (X : Cx) (id : String) (r : V → List V → Hp → VK → Prop) : Prop :=
  ∀ (pins : List (Addr × Obj)) (s : Shared) (σ : St) (H : Hp) (x : V) (xs : List V) (v : Value) (us : List Value) (Q : VK), Inv X pins σ H s → RelV x v → Vals xs us → r x xs H Q →
    wpAny (model X.prog X.w) X.A (call (.builtin id) (v :: us)) (EP X pins σ Q) X.xe s
theorem Vals.one : ∀ {x : V} {us : List Value}, Vals [x] us → ∃ u, us = [u] ∧ RelV x u
  | _, _, .cons r .nil => ⟨_, rfl, r⟩
theorem Vals.rep {xs : List V} {us : List Value} (h : Vals xs us) : ∀ k : Nat, Vals (List.replicate k xs).flatten (List.replicate k us).flatten
  | 0 => .nil
  | k + 1 => by
    rw [List.replicate_succ, List.replicate_succ, List.flatten_cons, List.flatten_cons]
    exact Vals.append h (Vals.rep h k)
theorem foldl_rep (its : List Value) : ∀ (k : Nat) (acc : List Value),
    List.foldl (fun x1 x2 => x1 ++ x2) acc.toArray (List.replicate k its.toArray) = (acc ++ (List.replicate k its).flatten).toArray
  | 0, acc => by simp
  | k + 1, acc => by
    have e : acc.toArray ++ its.toArray = (acc ++ its).toArray := by simp
    have e2 : (acc ++ its) ++ (List.replicate k its).flatten = acc ++ (List.replicate (k + 1) its).flatten := by
      rw [List.replicate_succ, List.flatten_cons, List.append_assoc]
    rw [← e2, ← foldl_rep its k (acc ++ its), ← e, List.replicate_succ, List.foldl_cons]
section
variable {X : Cx} {pins : List (Addr × Obj)} {σ : St} {H : Hp} {s : Shared} {l b : Addr} {xs ys zs : List V}
theorem Inv.lset {its its' : List Value} {n : Nat} {f : Array Value → Array Value} {t' : Nat} (I : Inv X pins σ H s) (hH : H l = some (.lst xs))
    (e : s.heap.get? l = some { cls := .type "list", data := .seq its.toArray n }) (hf : f its.toArray = its'.toArray) (hv : Vals ys its') (hz : ys.length ≤ sizeLine) :
    Inv X pins σ (upd H l (.lst ys)) { s with heap := s.heap.update l (Obj.mapSeq f), toks := t' } := by
  have q := PySem.IsL.update e f
  rw [hf] at q
  refine I.write (x := l) (e := l) (by rw [hH]; exact trivial) (.inl rfl) (fun b' u hb hu => (Heap.get?_update_other s.heap (Obj.mapSeq f) (Ne.symm hb)).trans hu) ⟨_, q⟩ ?_
  exact ⟨hz, its', _, hv, q⟩
theorem Inv.lnew {its : List Value} {t' : Nat} (I : Inv X pins σ H s) (hv : Vals ys its) (hz : ys.length ≤ sizeLine) :
    Inv X pins σ (upd H s.heap.objs.size (.lst ys)) { s with heap := s.heap.push { cls := .type "list", data := .seq its.toArray }, toks := t' } :=
  I.laid (fun _ _ q => Heap.get?_push_of_some _ q) (Nat.le_refl _) ⟨hz, its, 0, hv, Heap.get?_push_size _ rfl⟩
theorem Inv.fresh (I : Inv X pins σ H s) : H s.heap.objs.size = none := I.hok.fresh (Nat.le_refl _)
theorem Inv.lstM (I : Inv X pins σ H s) (hH : H l = some (.lst xs)) : xs.length ≤ sizeLine ∧ ∃ (its : List Value) (n : Nat), Vals xs its ∧ xs.length = its.length ∧ s.heap.get? l = some { cls := .type "list", data := .seq its.toArray n } := by
  obtain ⟨z, its, n, r, e⟩ := I.hok l _ hH
  exact ⟨z, its, n, r, r.length, e⟩
theorem notLongL {n : Nat} (h : n ≤ sizeLine) : Builtin.List.listTooLong n = false := by
  unfold Builtin.List.listTooLong
  exact decide_eq_false (by omega)
end
section
variable {X : Cx}
def rAppend : V → List V → Hp → VK → Prop := fun x vs H Q => ∃ l xs y, x = .ref l ∧ vs = [y] ∧ H l = some (.lst xs) ∧ xs.length < sizeLine ∧ Q .non (upd H l (.lst (xs ++ [y])))
theorem mt_append : MtM X "list.append" rAppend := by
  intro pins s σ H x vs v us Q I rx rv h
  obtain ⟨l, xs, y, rfl, rfl, hH, hz, q⟩ := h
  cases rx
  obtain ⟨u, rfl, ru⟩ := rv.one
  obtain ⟨z, its, n, r, hl, e⟩ := I.lstM hH
  refine call_meets F.slot_list_append ⟨_, e, rfl⟩ F.entry_list_append (F.args_list_append_2 _ _) (PySem.list_append l its.toArray n u (by rw [List.size_toArray]; omega)) ⟨e, ?_⟩
  refine ⟨.non, _, I.lset (its' := its ++ [u]) hH e (by simp) (r.append (.cons ru .nil)) ?_, rfl, q⟩
  rw [List.length_append, List.length_singleton]
  omega
def rCat : R2 := fun x y H Q => ∃ l b xs zs, x = .ref l ∧ y = .ref b ∧ H l = some (.lst xs) ∧ H b = some (.lst zs) ∧ xs.length + zs.length ≤ sizeLine ∧ ∀ p, H p = none → Q (.ref p) (upd H p (.lst (xs ++ zs)))
theorem op_cat : OpR X (binaryOp .Add) rCat := by
  intro pins s σ H x y v u Q I rx ry h
  obtain ⟨l, b, xs, zs, rfl, rfl, hH, hB, hz, q⟩ := h
  cases rx
  cases ry
  obtain ⟨z, its, n, r, hl, e⟩ := I.lstM hH
  obtain ⟨z2, its2, n2, r2, hl2, e2⟩ := I.lstM hB
  refine PySem.P.add_list e e2 ?_ (by rw [List.size_toArray, List.size_toArray]; omega)
  have ea : its.toArray ++ its2.toArray = (its ++ its2).toArray := by simp
  rw [ea]
  exact ⟨.ref _, _, I.lnew (t' := s.toks) (r.append r2) (by rw [List.length_append]; omega), rfl, q _ I.fresh⟩
def rRep : R2 := fun x y H Q => ∃ l k xs, x = .ref l ∧ y = .int k ∧ H l = some (.lst xs) ∧ -(2 ^ 63) ≤ k ∧ k < 2 ^ 63 ∧ xs.length * k.toNat ≤ sizeLine ∧
  ∀ p, H p = none → Q (.ref p) (upd H p (.lst (List.replicate k.toNat xs).flatten))
theorem len_rep {α : Type} (xs : List α) (k : Nat) : (List.replicate k xs).flatten.length = k * xs.length := by
  induction k with
  | zero => simp
  | succ k ih => rw [List.replicate_succ, List.flatten_cons, List.length_append, ih, Nat.succ_mul, Nat.add_comm]
theorem op_rep : OpR X (binaryOp .Mult) rRep := by
  intro pins s σ H x y v u Q I rx ry h
  obtain ⟨l, k, xs, rfl, rfl, hH, h1, h2, hz, q⟩ := h
  cases rx
  obtain ⟨t, rfl⟩ := ry
  obtain ⟨z, its, n, r, hl, e⟩ := I.lstM hH
  have hlen : its.toArray.size * k.toNat ≤ sizeLine := by rw [List.size_toArray, ← hl]; exact hz
  have hcap : ¬ its.toArray.size * k.toNat > (2 ^ 63 - 1) / 8 := by
    have : (sizeLine : Nat) ≤ (2 ^ 63 - 1) / 8 := by decide
    omega
  have hfit : ¬ (!Builtin.List.listFitsIndex k) = true := by
    rw [fitsIndex_both h1 h2]
    exact Bool.false_ne_true
  have hlong : ¬ Builtin.List.listTooLong (its.toArray.size * k.toNat) = true := by
    rw [notLongL hlen]
    exact Bool.false_ne_true
  have hnew : List.foldl (fun x1 x2 => x1 ++ x2) #[] (List.replicate (if its.toArray.isEmpty = true then 0 else k.toNat) its.toArray) = (List.replicate k.toNat its).flatten.toArray := by
    have f0 : ∀ m : Nat, List.foldl (fun x1 x2 => x1 ++ x2) #[] (List.replicate m its.toArray) = (List.replicate m its).flatten.toArray := fun m => by
      have := foldl_rep its m []
      rw [List.nil_append] at this
      exact this
    rw [f0]
    cases its with
    | nil => simp
    | cons a r' => rw [if_neg (by simp)]
  refine wpAny_binaryOp_repeat_ref (T := "list") (U := "int") (by decide) ⟨_, e, rfl⟩ (fun s' => typeIs_int s' k t) noFill_list_mul F.fills_int_mul F.slot_int_rmul repeat_list F.slot_int_index.lookup
    (call_meets F.slot_int_rmul (typeIs_int s k t) F.entry_int_rmul (F.args_int_rmul_2 _ _) (int___rmul___int_list k t l its.toArray n)
      ⟨e, rfl, ⟨_, e, rfl⟩, call_meets F.slot_list_mul ⟨_, e, rfl⟩ F.entry_list_mul (F.args_list_mul_2 _ _) (AutoListH.list___mul___list_int_3 l its.toArray n k t hfit hcap hlong) ⟨e, ?_⟩⟩)
  rw [hnew]
  exact ⟨.ref _, _, I.lnew (t' := s.toks) (r.rep k.toNat) (by rw [len_rep, Nat.mul_comm]; exact hz), rfl, q _ I.fresh⟩
end
section
variable {prog : Program} {w : World} {A : Around} {E : Value → Shared → Prop} {s : Shared}
end
section
variable {X : Cx}
end
end L2
namespace Att
open PySem PySem.W PySem.Calls PyProof.Rows
theorem ints_of_wellAll {P : Params} {h : Heap} : ∀ (ns : List Int) (vs : List Value), WellAll P h vs (ns.map WData.int) → IntsAre vs ns := by
  intro ns
  induction ns with
  | nil =>
    intro vs w
    rw [List.map_nil] at w
    cases w
    exact .nil
  | cons n ns ih =>
    intro vs w
    rw [List.map_cons] at w
    cases w with
    | cons a b =>
      cases a
      exact .cons _ _ (ih _ b)
theorem script_of {l : OpenLaw} {n : Nat} (hn : l.most = some n) {P : Params} {h : Heap} {args : List WData} {vals : List Value}
    (hpre : l.row.toRowW.claim.pre args = true) (hwl : WellAll P h vals args) :
    ∃ a vs ns, vals = [Value.ref a] ∧ args = [WData.list (ns.map WData.int)] ∧ h.get? a = some { cls := .type "list", data := .seq vs.toArray } ∧ IntsAre vs ns ∧ ns.length ≤ n := by
  have hsh : WShape.hasAll [] args [.list .int] = true := (pre_splitW hpre).1
  have hc : l.pre.holds [] { args := args } = true := (pre_splitW hpre).2
  obtain ⟨d, r, rfl, h1, h2⟩ := hasAllW_cons hsh
  obtain rfl := hasAllW_nil h2
  obtain ⟨xs, rfl, h3⟩ := hasW_list h1
  obtain ⟨ns, rfl⟩ := items_int h3
  have hlen : ns.length ≤ n := by
    unfold OpenLaw.pre at hc
    have h4 : (WTm.not (.lt (.lit (.int (n : Int))) (.len (.arg 0)))).holds [] { args := [.list (ns.map .int)] } = true := by
      have h4 := (holds_andW hc).1
      rw [hn] at h4
      exact h4
    have h5 := condW_of h4 (w_not (w_lt w_lit (w_len_list (w_arg rfl))))
    rw [List.length_map] at h5
    refine Nat.le_of_not_lt fun q => ?_
    have q' : (n : Int) < ((ns.length : Nat) : Int) := by omega
    first
      | (rw [decide_eq_true q'] at h5; exact absurd h5 (by decide))
      | (simp at h5; omega)
  cases hwl with
  | cons w1 w2 =>
    cases w2
    cases w1 with
    | list ho hall => exact ⟨_, _, ns, rfl, rfl, ho, ints_of_wellAll ns _ hall, hlen⟩
theorem post_true (l : OpenLaw) (args : List WData) : l.row.toRowW.claim.post args (.bool true) args = true :=
  postW_of (r := l.row.toRowW) (X := (true == true))
    (show WShape.has [] (.bool true) .bool = true by first | rfl | decide | simp [WShape.has, WShape.arms, WShape.armsAll])
    (show (WTm.eq .res (.lit (.bool true))).value [] { args := args, res := some (.bool true), after := args } = some (.bool (true == true)) from w_eq_bool (w_res rfl) w_lit) rfl
theorem attach_call {l : OpenLaw} {n : Nat} {q : Program} {loose : List Str} {XP : (Str → Option Value) → Heap → Prop} {YP : World → Heap → Prop} {d : DefRec}
    (hn : l.most = some n) (hdf : d.params.defaults = [])
    (call : ∀ (w : World) (s₀ s₁ : Shared) (mg mb : Str → Option Value) (fa : Addr) (o : Obj) (pm cd doc : Value) (a : Addr) (vs : List Value) (ns : List Int),
      Ground q loose [] XP w s₀ mg mb s₁.heap → YP w s₁.heap →
      s₁.heap.get? fa = some o → o.data = .func (docDef d.name d.params d.body d.scope pm cd doc) → s₁.heap.CodeRec cd d.name → mg d.name = some (.ref fa) →
      s₁.heap.get? a = some { cls := .type "list", data := .seq vs.toArray } → IntsAre vs ns → ns.length ≤ n → s₁.gens = #[] →
      codeAny (model l.prog w) callerA (.call (.ref fa) ⟨[.ref a], []⟩) (fun r s' => r = .ok (.ret (.bool true)) ∧ OldK s₁.heap s'.heap ∧ s'.os = s₁.os ∧ AllBare s'.gens) s₁) :
    WalkO q loose XP YP l.row.toRowW d [] (fun f vs => PySem.call f vs) := by
  intro w s₀ s₁ mg mb G Y fa o pm cd doc dV kV ho hd hcd hD hmg hg args vals as hpre hlay hrd hwl hlo
  obtain rfl : dV = .none := Dflts.none hD hdf
  obtain rfl : kV = .none := Dflts.noKw hD
  obtain ⟨a, vs, ns, rfl, rfl, hobj, hints, hlen⟩ := script_of hn hpre hwl
  refine enter_call (codeAny_mono (call w s₀ s₁ mg mb fa o pm cd doc a vs ns G Y ho (fd_plain hd) hcd hmg hobj hints hlen hg) fun r s' hq => ?_)
  obtain ⟨rfl, h2, h3, h4⟩ := hq
  exact ⟨.inl ⟨.bool true, .bool true, [], rfl, fun _ => rfl, .bool true, post_true l _, fun _ => ⟨List.Pairwise.nil, fun _ hm => (nomatch hm)⟩⟩, h2, h3, h4⟩
section
variable {prog : Program} {w : World} {A : Around} {E : Value → Shared → Prop} {s : Shared} {K : Frag}
end
end Att
namespace L2
open PySem PySem.Spec PyProof.Rows
theorem vals_ints : ∀ {vs : List Value} {ns : List Int}, IntsAre vs ns → Vals (ns.map V.int) vs
  | _, _, .nil => .nil
  | _, _, .cons n t h => .cons ⟨t, rfl⟩ (vals_ints h)
def Only (H : Hp) : Prop := ∀ b, H b = none ∨ ∃ o xs, H b = some (.frz o (.lst xs))
theorem law_call {P : Program} {w : World} {K : PySem.W.Frag} {mg mb : Str → Option Value} {CX : CXT} {k : Nat} {fa a : Addr} {fd : FuncData} {x : Str} {sp : Sp} {s₁ : Shared} {vs : List Value} {ns : List Int}
    (KX : K.In s₁.heap) (hns : s₁.heap.Ns mainGlobals mg) (hb : s₁.heap.Ns builtinsNs mb) (hbb : ∀ x : Str, x ≠ "__name__" → mb x = bootBuiltins x) (hlim : s₁.heap.NoLimit) (hg : s₁.gens = #[])
    (ha : s₁.heap.get? a = some { cls := .type "list", data := .seq vs.toArray }) (hi : IntsAre vs ns) (hl : ns.length ≤ sizeLine) (hr : Room k callerA)
    (F : ∀ base : Heap, K.In base → base.Ns mainGlobals mg → FnOk P w K mg base CX k fa fd [x] sp) (hbind : ∀ (s : Shared) (u : Value), BindsTo s fd ⟨[u], []⟩ [(x, u)])
    (hsp : ∀ H : Hp, Only H → SqL K H a (ns.map V.int) → sp [.ref a] H (fun v _ => v = .bl true) fun _ _ _ => False)
    (hCX : ∀ H e s', CX [] H s₁ (fun _ _ _ => False) e s' → False) :
    codeAny (model P w) callerA (.call (.ref fa) ⟨[.ref a], []⟩) (fun r s' => r = .ok (.ret (.bool true)) ∧ OldK s₁.heap s'.heap ∧ s'.os = s₁.os ∧ AllBare s'.gens) s₁ := by
  have rv := vals_ints hi
  have lenV := hi.length
  have core : ∀ H : Hp, Only H → SqL K H a (ns.map V.int) → HOk P w H s₁.heap → (∀ b, H b ≠ none → b = a) → (H a ≠ none → K.lookup a = none) →
      codeAny (model P w) callerA (.call (.ref fa) ⟨[.ref a], []⟩) (fun r s' => r = .ok (.ret (.bool true)) ∧ OldK s₁.heap s'.heap ∧ s'.os = s₁.os ∧ AllBare s'.gens) s₁ := by
    intro H hO hS hok hA hK
    have base_of : ∀ {b : Addr} {o : Obj}, s₁.heap.get? b = some o → H b = none → (hidT s₁.heap H).get? b = some o := fun e n => hidT_get e n
    have noA : ∀ {b : Addr} {o : Obj} {es : Array DictEntry} {ep : Nat}, s₁.heap.get? b = some o → o.data = .dict es ep → H b = none := fun {b o es ep} e d => by
      cases q : H b with
      | none => rfl
      | some u =>
        have e' : b = a := hA b (by rw [q]; simp)
        subst e'
        rw [ha] at e; cases e
        have d' : Data.seq vs.toArray _ = Data.dict es ep := d
        cases d'
    have nsK : ∀ {b : Addr} {m : Str → Option Value}, s₁.heap.Ns b m → (hidT s₁.heap H).Ns b m := fun {b m} ⟨o, es, ep, e, d, r⟩ => ⟨o, es, ep, base_of e (noA e d), d, r⟩
    have hKb : K.In (hidT s₁.heap H) := fun b o e => base_of (KX b o e) (by
      cases q : H b with
      | none => rfl
      | some u =>
        have e' : b = a := hA b (by rw [q]; simp)
        subst e'
        rw [hK (by rw [q]; simp)] at e; cases e)
    have hM : Mod K mg (hidT s₁.heap H) := ⟨hKb, nsK hns, ⟨mb, nsK hb, hbb⟩, let ⟨mc, h1, h2⟩ := hlim; ⟨mc, nsK h1, h2⟩⟩
    have e0 : Env0 P w K mg (hidT s₁.heap H) callerA [] s₁ H := ⟨rfl, hM, fun b o e => of_hidT e, Nat.le_of_eq (hidT_size _ _), trivial, fun b hb => absurd (show b ∈ ([] : List Addr) from hb) (by simp), hok, .of_eq hg⟩
    refine codeAny_mono ((F _ hKb (nsK hns)).run callerA [] s₁ H ⟨[.ref a], []⟩ [.ref a] [.ref a] _ _ hr e0 (hbind s₁ (.ref a)) (.cons rfl .nil) (hsp H hO hS)) fun r s' h => ?_
    cases r with
    | error e => exact (hCX H e s' h).elim
    | ok fl =>
      cases fl with
      | next => exact False.elim h
      | brk => exact False.elim h
      | cont => exact False.elim h
      | ret u =>
        obtain ⟨v, H', os, bare, un, hok', r', q⟩ := h
        have q' : v = .bl true := q
        subst q'
        obtain rfl : u = Value.bool true := r'
        refine ⟨rfl, OldK.of_keep fun b o e => ?_, os, bare⟩
        cases q : H b with
        | none => exact un.keep b o e q (by intro z; exact absurd (show b ∈ ([] : List Addr) from z) (by simp)) (by simp)
        | some u =>
          rcases hO b with z | ⟨ob, xs, z⟩
          · rw [q] at z; cases z
          · have z2 := un.frzs b ob _ z
            obtain ⟨e1, _⟩ := hok b _ z
            obtain ⟨e2, _⟩ := hok' b _ z2
            rw [e] at e1; cases e1
            exact e2
  cases hk : K.lookup a with
  | some o =>
    have e := KX a o hk
    rw [ha] at e
    cases e
    refine core (fun _ => none) (fun _ => .inl rfl) (.inr ⟨_, vs.toArray, _, hk, rfl, rfl, rfl, by rw [List.size_toArray, lenV]; exact hl, by simpa using rv⟩) (fun b u z => by have z' : (none : Option HO) = some u := z; cases z') (fun b z => absurd rfl z) fun z => absurd rfl z
  | none =>
    refine core (fun b => if b = a then some (.frz { cls := .type "list", data := .seq vs.toArray } (.lst (ns.map V.int))) else none) (fun b => ?_) (.inl (.inr ⟨{ cls := .type "list", data := .seq vs.toArray }, if_pos rfl⟩)) (fun b u z => ?_) (fun b z => ?_) fun _ => hk
    · by_cases hb : b = a
      · exact .inr ⟨_, _, if_pos hb⟩
      · exact .inl (if_neg hb)
    · by_cases hb : b = a
      · have z' := (if_pos hb).symm.trans z
        cases z'
        subst hb
        exact ⟨ha, by rw [List.length_map]; exact hl, vs, _, rv, ha⟩
      · have z' := (if_neg hb).symm.trans z
        cases z'
    · by_cases hb : b = a
      · exact hb
      · exact absurd (if_neg hb) z
end L2
namespace L2
open PySem PySem.Spec PyProof.Rows
theorem walk_of {l : PySem.W.OpenLaw} {n k : Nat} {q : Program} {loose : List Str} {XP : (Str → Option Value) → Heap → Prop} {YP : World → Heap → Prop} {d : DefRec} {K : Params → PySem.W.Frag} {CX : World → CXT} {sp : World → Sp} {x : Str}
    (hn : l.most = some n) (hn2 : n ≤ sizeLine) (hdf : d.params.defaults = []) (hr : Room k callerA)
    (hY : ∀ (w : World) (h : Heap), YP w h → (K w.params).In h)
    (F : ∀ (w : World) (mg : Str → Option Value) (fa : Addr) (h : Heap), (K w.params).In h → h.Ns mainGlobals mg → mg d.name = some (.ref fa) →
      ∃ fd : FuncData, (∀ (s : Shared) (u : Value), BindsTo s fd ⟨[u], []⟩ [(x, u)]) ∧
        ∀ base : Heap, (K w.params).In base → base.Ns mainGlobals mg → FnOk l.prog w (K w.params) mg base (CX w) k fa fd [x] (sp w))
    (hsp : ∀ (w : World) (H : Hp) (a : Addr) (ns : List Int), ns.length ≤ n → Only H → SqL (K w.params) H a (ns.map V.int) → sp w [.ref a] H (fun v _ => v = .bl true) fun _ _ _ => False)
    (hCX : ∀ (w : World) (H : Hp) (s : Shared) (e : Value) (s' : Shared), CX w [] H s (fun _ _ _ => False) e s' → False) :
    PySem.W.WalkO q loose XP YP l.row.toRowW d [] (fun f vs => PySem.call f vs) := by
  refine Att.attach_call hn hdf fun w s₀ s₁ mg mb fa o pm cd doc a vs ns G Y ho hd hcd hmg hobj hints hlen hg => ?_
  have KX := hY w _ Y
  obtain ⟨fd, hb, hF⟩ := F w mg fa _ KX G.T.g hmg
  exact law_call KX G.T.g G.T.b G.T.builtins G.T.nolimit hg hobj hints (Nat.le_trans hlen hn2) hr hF hb (fun H hO hS => hsp w H a ns hlen hO hS) fun H e s' => hCX w H s₁ e s'
end L2
namespace L2
open PySem PySem.Spec PyProof.Rows
abbrev CX0 : CXT := fun _ _ _ _ _ _ => False
abbrev E0 : XK := fun _ _ _ => False
theorem pass0 {X : Cx} : Passes CX0 X E0 := fun _ _ _ _ _ _ _ h => h.elim
structure Fun (K : PySem.W.Frag) (x qual : Str) (st : Stmt) (f : Addr) (fd : FuncData) : Prop where
  ex : ∃ (oc : Value) (od : Option Addr) (kV doc pm : Value) (an : Option Addr) (cdv ct : Value) (osl : Array (Option Value)),
    fd = PySem.W.fnOf x qual (defArgs st) (defBody st) (defScope st) .none kV doc pm an cdv ct ∧ K.lookup f = some ⟨oc, od, .func fd, osl⟩ ∧ PySem.W.codeIn K cdv qual = true
  kp : PySem.W.keepIn K (.ref f) = true
section
variable {P : Program} {w : World} {K : PySem.W.Frag} {mg : Str → Option Value} {base : Heap}
theorem Fun.ok {x qual : Str} {st : Stmt} {f : Addr} {fd : FuncData} {N ps : List Str} {k : Nat} {sp : Sp} (F : Fun K x qual st f fd) (S : FnScope N ps (defScope st)) (len : ∀ vs H Q E, sp vs H Q E → vs.length = ps.length)
    (hbody : ∀ (cdv : Value) (A : Around) (outer : List Env) (s : Shared) (H : Hp) (vs : List V) (Q : VK) (E : XK), Room k (A.deeper (envOfC qual (defScope st) s.heap.objs.size f cdv)) → sp vs H Q E →
      ∃ t, PSs (cxOf CX0 P w K mg base N qual (defScope st) f cdv A outer s H E).nox (defBody st) t ∧ t { nx := fun _ H' => Q .non H', rt := Q } (start N vs) H) : FnOk P w K mg base CX0 (k + 1) f fd ps sp := by
  obtain ⟨oc, od, kV, doc, pm, an, cdv, ct, osl, rfl, lk, hcd⟩ := F.ex
  refine fn_of lk hcd S len fun A outer s H vs Q E hr hsp => ?_
  obtain ⟨t, h, q⟩ := hbody cdv A outer s H vs Q E hr hsp
  exact ⟨t, h.nox, q⟩
theorem Fun.binds {x qual : Str} {st : Stmt} {f : Addr} {fd : FuncData} {ps : List Str} (F : Fun K x qual st f fd)
    (h : ∀ (kV doc pm : Value) (an : Option Addr) (cdv ct : Value) (us : List Value), us.length = ps.length → bindArgs (PySem.W.fnOf x qual (defArgs st) (defBody st) (defScope st) .none kV doc pm an cdv ct) ⟨us, []⟩ = pure (ps.zip us)) : Binds K fd ps [] := by
  obtain ⟨oc, od, kV, doc, pm, an, cdv, ct, osl, rfl, lk, hcd⟩ := F.ex
  exact .all (h kV doc pm an cdv ct)
theorem fun_mk {x qual : Str} {st : Stmt} {f : Addr} {oc : Value} {od an : Option Addr} {osl : Array (Option Value)} {kV doc pm cdv ct : Value} (l : K.lookup f = some ⟨oc, od, .func (PySem.W.fnOf x qual (defArgs st) (defBody st) (defScope st) .none kV doc pm an cdv ct), osl⟩)
    (c : PySem.W.codeIn K cdv qual = true) (k : PySem.W.keepIn K (.ref f) = true) : Fun K x qual st f (PySem.W.fnOf x qual (defArgs st) (defBody st) (defScope st) .none kV doc pm an cdv ct) := ⟨⟨oc, od, kV, doc, pm, an, cdv, ct, osl, rfl, l, c⟩, k⟩
end
theorem small1000 {n : Nat} (h : n ≤ 1000) : n < sizeLine := Nat.lt_of_le_of_lt h (by decide)
section
variable {X : Cx}
end
theorem iteF {A B : Prop} (h : B) : if false = true then A else B := by
  rw [if_neg Bool.false_ne_true]
  exact h
theorem iteT {A B : Prop} (h : A) : if true = true then A else B := by
  rw [if_pos rfl]
  exact h
theorem ite2 {c A B : Prop} [Decidable c] (h1 : c → A) (h2 : ¬ c → B) : if c then A else B := by
  by_cases h : c
  · rw [if_pos h]
    exact h1 h
  · rw [if_neg h]
    exact h2 h
def Same (H H' : Hp) : Prop := ∀ b o, H b = some o → H' b = some o
theorem Same.refl (H : Hp) : Same H H := fun _ _ h => h
theorem Same.trans {H H1 H2 : Hp} (a : Same H H1) (b : Same H1 H2) : Same H H2 := fun c o h => b c o (a c o h)
theorem Same.free {H H' : Hp} (e : Same H H') {l : Addr} (h : H' l = Option.none) : H l = Option.none := by
  cases q : H l with
  | none => rfl
  | some o =>
    rw [e l o q] at h
    cases h
theorem Same.seq {K : PySem.W.Frag} {H H' : Hp} {a : Addr} {xs : List V} (e : Same H H') (h : SqL K H a xs) : SqL K H' a xs := by
  rcases h with (h | ⟨o, h⟩) | h
  · exact .inl (.inl (e _ _ h))
  · exact .inl (.inr ⟨o, e _ _ h⟩)
  · exact .inr h
end L2

set_option Elab.async false
set_option linter.all false
set_option maxRecDepth 100000
namespace L2
open PySem PySem.Spec PyProof.Rows
theorem forIn_yield_fold {α β : Type} {l : List α} {f : α → β → Sem (ForInStep β)} (g : β → α → β) (c : β) (h : ∀ x ∈ l, ∀ c, f x c = pure (.yield (g c x))) :
    forIn l c f = pure (l.foldl g c) := by
  induction l generalizing c with
  | nil => rfl
  | cons x l ih =>
    rw [List.forIn_cons, h x List.mem_cons_self, pure_bind]
    exact ih _ fun y hy => h y (List.mem_cons_of_mem _ hy)
def clStep (env : Env) (cs : List (Str × Addr)) (x : Str × NameKind) : List (Str × Addr) :=
  if x.2 == .free then (x.1, (env.cells.lookup x.1).getD 0) :: cs else cs
def clOf (env : Env) (names : List (Str × NameKind)) : List (Str × Addr) := names.foldl (clStep env) []
theorem closureFor_clOf {scope : Scope} {env : Env} (h : ∀ x ∈ scope.names, x.2 = .free → ∃ c, env.cells.lookup x.1 = some c) : closureFor scope env = pure (clOf env scope.names) := by
  simp only [closureFor]
  rw [forIn_yield_fold (clStep env) [] (fun x hx c => by
    obtain ⟨n, kind⟩ := x
    cases hk : kind == NameKind.free with
    | false => simp only [clStep, hk, Bool.false_eq_true, if_false]
    | true =>
      obtain ⟨a, ha⟩ := h (n, kind) hx (by simpa using hk)
      have ha' : env.cells.lookup n = some a := ha
      simp only [clStep, hk, if_true, cellOf, ha', Option.getD_some, pure_bind])]
  rfl
theorem clOf_mem {env : Env} : ∀ {names : List (Str × NameKind)} {cs : List (Str × Addr)} {n : Str} {c : Addr}, (n, c) ∈ names.foldl (clStep env) cs → (n, c) ∈ cs ∨ ((n, NameKind.free) ∈ names ∧ c = (env.cells.lookup n).getD 0)
  | [], _, _, _, h => .inl h
  | (m, k) :: r, cs, n, c, h => by
    rcases clOf_mem (names := r) (cs := clStep env cs (m, k)) h with h | ⟨h, e⟩
    · unfold clStep at h
      by_cases hk : (k == NameKind.free) = true
      · rw [if_pos hk] at h
        rcases List.mem_cons.mp h with e | h
        · cases e
          have hk' : k = .free := by simpa using hk
          subst hk'
          exact .inr ⟨List.mem_cons_self, rfl⟩
        · exact .inl h
      · rw [if_neg hk] at h
        exact .inl h
    · exact .inr ⟨List.mem_cons_of_mem _ h, e⟩
theorem clOf_keep {env : Env} {p : Str × Addr} : ∀ {names : List (Str × NameKind)} {cs : List (Str × Addr)}, p ∈ cs → p ∈ names.foldl (clStep env) cs
  | [], _, h => h
  | x :: r, cs, h => clOf_keep (names := r) (cs := clStep env cs x) (by
    unfold clStep
    split
    · exact List.mem_cons_of_mem _ h
    · exact h)
theorem clOf_in {env : Env} {n : Str} : ∀ {names : List (Str × NameKind)} {cs : List (Str × Addr)}, (n, NameKind.free) ∈ names → (n, (env.cells.lookup n).getD 0) ∈ names.foldl (clStep env) cs
  | x :: r, cs, h => by
    rcases List.mem_cons.mp h with e | h
    · subst e
      refine clOf_keep (names := r) (cs := clStep env cs (n, .free)) ?_
      unfold clStep
      rw [if_pos (by rfl)]
      exact List.mem_cons_self
    · exact clOf_in (names := r) h
theorem lookup_of_mem {α : Type} : ∀ {l : List (Str × α)} {n : Str} {c : α}, (n, c) ∈ l → ∃ c', l.lookup n = some c'
  | (k, v) :: r, n, c, h => by
    rw [List.lookup_cons]
    cases hb : n == k with
    | true => exact ⟨v, rfl⟩
    | false =>
      rcases List.mem_cons.mp h with e | h
      · cases e; simp at hb
      · exact lookup_of_mem h
theorem cellsFrom_mem : ∀ {names : List (Str × NameKind)} {k : Nat} {acc : List (Str × Addr)} {n : Str} {c : Addr}, (n, c) ∈ cellsFrom k names acc → (n, c) ∈ acc ∨ (k ≤ c ∧ (n, NameKind.cell) ∈ names)
  | [], _, _, _, _, h => .inl h
  | (m, kd) :: r, k, acc, n, c, h => by
    unfold cellsFrom at h
    by_cases hk : (kd == NameKind.cell) = true
    · rw [if_pos hk] at h
      have hk' : kd = .cell := by simpa using hk
      subst hk'
      rcases cellsFrom_mem (names := r) h with h | ⟨h1, h2⟩
      · rcases List.mem_cons.mp h with e | h
        · cases e
          exact .inr ⟨Nat.le_refl _, List.mem_cons_self⟩
        · exact .inl h
      · exact .inr ⟨by omega, List.mem_cons_of_mem _ h2⟩
    · rw [if_neg hk] at h
      rcases cellsFrom_mem (names := r) h with h | ⟨h1, h2⟩
      · exact .inl h
      · exact .inr ⟨h1, List.mem_cons_of_mem _ h2⟩
theorem cellsFrom_inj : ∀ {names : List (Str × NameKind)} {k : Nat} {acc : List (Str × Addr)}, (∀ n c, (n, c) ∈ acc → c < k) → (∀ n n' c, (n, c) ∈ acc → (n', c) ∈ acc → n = n') →
    ∀ {n n' : Str} {c : Addr}, (n, c) ∈ cellsFrom k names acc → (n', c) ∈ cellsFrom k names acc → n = n'
  | [], _, _, _, hi, _, _, _, h, h' => hi _ _ _ h h'
  | (m, kd) :: r, k, acc, hl, hi, n, n', c, h, h' => by
    unfold cellsFrom at h h'
    by_cases hk : (kd == NameKind.cell) = true
    · rw [if_pos hk] at h h'
      refine cellsFrom_inj (names := r) (acc := (m, k) :: acc) (fun a b hab => ?_) (fun a a' b ha ha' => ?_) h h'
      · rcases List.mem_cons.mp hab with e | e
        · cases e; exact Nat.lt_succ_self _
        · exact Nat.lt_succ_of_lt (hl _ _ e)
      · rcases List.mem_cons.mp ha with e | e <;> rcases List.mem_cons.mp ha' with e' | e'
        · cases e; cases e'; rfl
        · cases e; exact absurd (hl _ _ e') (Nat.lt_irrefl _)
        · cases e'; exact absurd (hl _ _ e) (Nat.lt_irrefl _)
        · exact hi _ _ _ e e'
    · rw [if_neg hk] at h h'
      exact cellsFrom_inj (names := r) hl hi h h'
theorem cellsFrom_cell : ∀ {names : List (Str × NameKind)} {h : Heap} {acc : List (Str × Addr)} {n : Str} {c : Addr}, (n, c) ∈ cellsFrom h.objs.size names acc → (n, c) ∈ acc ∨ (pushCells h names).IsCell c none
  | [], _, _, _, _, q => .inl q
  | (m, kd) :: r, h, acc, n, c, q => by
    unfold cellsFrom at q
    unfold pushCells
    by_cases hk : (kd == NameKind.cell) = true
    · rw [if_pos hk] at q
      rw [if_pos hk]
      have e : h.objs.size + 1 = (h.push { cls := .type "cell", data := .cell none }).objs.size := (Heap.size_push ..).symm
      rw [e] at q
      rcases cellsFrom_cell (names := r) q with q | q
      · rcases List.mem_cons.mp q with e' | q
        · cases e'
          exact .inr ⟨_, pushCells_keeps r _ _ _ (Heap.get?_push_size _ rfl), rfl⟩
        · exact .inl q
      · exact .inr q
    · rw [if_neg hk] at q
      rw [if_neg hk]
      exact cellsFrom_cell (names := r) q
theorem cellsFrom_acc {x : Str} : ∀ {names : List (Str × NameKind)} {k : Nat} {acc : List (Str × Addr)}, (x, NameKind.cell) ∉ names → (cellsFrom k names acc).lookup x = acc.lookup x
  | [], _, _, _ => rfl
  | (m, kd) :: r, k, acc, h => by
    unfold cellsFrom
    have hr : (x, NameKind.cell) ∉ r := fun z => h (List.mem_cons_of_mem _ z)
    by_cases hk : (kd == NameKind.cell) = true
    · have hk' : kd = .cell := by simpa using hk
      subst hk'
      rw [if_pos hk, cellsFrom_acc hr, List.lookup_cons]
      have ne : (x == m) = false := by
        cases hb : x == m with
        | false => rfl
        | true => exact absurd (by rw [beq_iff_eq.mp hb]; exact List.mem_cons_self) h
      rw [ne]
    · rw [if_neg hk]
      exact cellsFrom_acc hr
section
variable {M : Model} {A : Around} {E : Value → Shared → Prop} {s : Shared}
theorem newCompEnv_ {scope : Scope} {globals : Addr} {cl : List (Str × Addr)} {qual : Str} {env0 : Env} {Q : Env → Shared → Prop}
    (h : Q (newEnv scope s.heap.objs.size globals (cellsFrom (s.heap.objs.size + 1) scope.names cl) qual none .none (some env0) builtinsNs) { s with heap := pushCells (s.heap.push { cls := .type "dict", data := .dict #[] }) scope.names }) :
    wpAny M A (newFunctionEnv scope globals cl [] qual none .none (some env0)) Q E s := by
  simp only [newFunctionEnv, Option.isSome_some, if_true]
  refine wpAny_bind (wpAny_alloc ?_)
  refine wpAny_bind (wpAny_layCells _ (fun name kind cells => by cases hkc : kind == NameKind.cell <;> simp [hkc]) _ _ _ _ ?_)
  rw [show ({ s with heap := s.heap.push { cls := .type "dict", data := .dict #[] } } : Shared).heap.objs.size = s.heap.objs.size + 1 from Heap.size_push ..]
  refine wpAny_bind ?_
  rw [List.forIn_nil]
  exact wpAny_pure (wpAny_pure h)
end
structure CB where
  C : Addr
  ex : List Addr
  s : Shared
  H : Hp
def cxC (X : Cx) (N : List Str) (scope : Scope) (b : CB) : Cx := { X with
  N := N
  s₀ := b.s
  H₀ := b.H
  env := compEnvC scope (cellsFrom (b.C + 1) scope.names (clOf X.env scope.names)) b.C X.env
  outer := X.stack
  ex := b.ex
  fn := fun x => scope.names.lookup x == some .cell
  pn := []
  xe := fun _ _ => False }
theorem lookup_relabel {env : Env} {x : Str} : ∀ {names : List (Str × NameKind)},
    (names.map fun (n, k) => if (k == NameKind.free && env.scope.kind == .function && env.kindOf n == some .cell) then (n, NameKind.cell) else (n, k)).lookup x =
      (names.lookup x).map fun k => if (k == NameKind.free && env.scope.kind == .function && env.kindOf x == some .cell) then NameKind.cell else k
  | [] => rfl
  | (n, k) :: r => by
    have ih := @lookup_relabel env x r
    show List.lookup x ((if (k == NameKind.free && env.scope.kind == .function && env.kindOf n == some .cell) = true then (n, NameKind.cell) else (n, k)) :: _) = _
    cases hx : x == n with
    | true =>
      have e : x = n := beq_iff_eq.mp hx
      subst e
      by_cases hc : (k == NameKind.free && env.scope.kind == .function && env.kindOf x == some .cell) = true
      · rw [if_pos hc]; simp only [List.lookup_cons, hx, Option.map_some, hc, if_true]
      · rw [if_neg hc]; simp only [List.lookup_cons, hx, Option.map_some]; rw [if_neg hc]
    | false =>
      by_cases hc : (k == NameKind.free && env.scope.kind == .function && env.kindOf n == some .cell) = true
      · rw [if_pos hc]; simp only [List.lookup_cons, hx]; exact ih
      · rw [if_neg hc]; simp only [List.lookup_cons, hx]; exact ih
structure CompOk (psc : Scope) (PN N : List Str) (own : Nat) (fr : List Nat) (scope : Scope) : Prop where
  kind : scope.kind = .function
  nd : (scope.names.map (·.1)).Nodup
  free : ∀ x ∈ scope.names, x.2 = .free → psc.names.lookup x.1 = some .cell ∨ psc.names.lookup x.1 = some .free
  len : N.length = own + fr.length
  frn : ∀ i, i < fr.length → N[own + i]? = (fr[i]?).bind fun j => PN[j]?
  frk : ∀ i, i < fr.length → ∀ y, N[own + i]? = some y → scope.names.lookup y = some .free
def compOkB (psc : Scope) (PN N : List Str) (own : Nat) (fr : List Nat) (scope : Scope) : Bool :=
  scope.kind == .function && decide (scope.names.map (·.1)).Nodup && scope.names.all (fun x => x.2 != .free || (psc.names.lookup x.1 == some .cell || psc.names.lookup x.1 == some .free)) &&
    (N.length == own + fr.length) && ((fr.map fun j => PN[j]?) == (N.drop own).map some) && (N.drop own).all (fun y => scope.names.lookup y == some .free)
theorem CompOk.of {psc : Scope} {PN N : List Str} {own : Nat} {fr : List Nat} {scope : Scope} (h : compOkB psc PN N own fr scope = true) : CompOk psc PN N own fr scope := by
  unfold compOkB at h
  simp only [Bool.and_eq_true] at h
  obtain ⟨⟨⟨⟨⟨h1, h2⟩, h3⟩, h4⟩, h5⟩, h6⟩ := h
  have h4' : N.length = own + fr.length := eq_of_beq h4
  have h5' : (fr.map fun j => PN[j]?) = (N.drop own).map some := eq_of_beq h5
  have dr : ∀ i, N[own + i]? = (N.drop own)[i]? := fun i => by rw [List.getElem?_drop]
  refine ⟨eq_of_beq h1, of_decide_eq_true h2, fun x hx hk => ?_, h4', fun i hi => ?_, fun i hi y hy => ?_⟩
  · have q := List.all_eq_true.mp h3 x hx
    rw [hk] at q
    simpa using q
  · have q := congrArg (fun l => l[i]?) h5'
    simp only [List.getElem?_map] at q
    rw [dr]
    have ej : fr[i]? = some fr[i] := List.getElem?_eq_getElem hi
    rw [ej] at q ⊢
    cases e : (N.drop own)[i]? with
    | none => rw [e] at q; cases q
    | some y =>
      rw [e] at q
      exact (Option.some.inj q).symm
  · rw [dr] at hy
    have q := List.all_eq_true.mp h6 y (List.mem_of_getElem? hy)
    simpa using q
def cSt (own : Nat) (fr : List Nat) (σ : St) : St := List.replicate own none ++ fr.map fun j => (σ[j]?).getD none
theorem nodup_lookup {α : Type} : ∀ {l : List (Str × α)} {n : Str} {k : α}, (l.map (·.1)).Nodup → (n, k) ∈ l → l.lookup n = some k
  | (m, v) :: r, n, k, nd, h => by
    rw [List.map_cons, List.nodup_cons] at nd
    rw [List.lookup_cons]
    rcases List.mem_cons.mp h with e | h
    · cases e; simp
    · have ne : (n == m) = false := by
        cases hb : n == m with
        | false => rfl
        | true => exact absurd (List.mem_map.mpr ⟨(n, k), h, beq_iff_eq.mp hb⟩) nd.1
      rw [ne]
      exact nodup_lookup nd.2 h
section
variable {X : Cx} {pins : List (Addr × Obj)} {σ : St} {H : Hp} {s : Shared} {N : List Str} {own : Nat} {fr : List Nat} {scope : Scope}
theorem CompOk.cells (S : CompOk X.env.scope X.N N own fr scope) (ok : X.Ok) : ∀ x ∈ scope.names, x.2 = .free → ∃ c, X.env.cells.lookup x.1 = some c := fun x hx hk =>
  ok.has x.1 (S.free x hx hk)
theorem CompOk.cl (S : CompOk X.env.scope X.N N own fr scope) (ok : X.Ok) {n : Str} {c : Addr} (h : (n, c) ∈ clOf X.env scope.names) : X.env.cells.lookup n = some c := by
  rcases clOf_mem h with h | ⟨h, e⟩
  · cases h
  · obtain ⟨c', e'⟩ := S.cells ok (n, .free) h rfl
    have e2 : X.env.cells.lookup n = some c' := e'
    rw [e2] at e
    rw [e, e2]
    rfl
theorem inv_comp {D C : Addr} {h' : Heap} {fp : List Addr} (S : CompOk X.env.scope X.N N own fr scope) (I : Inv X pins σ H s) (hD : D = s.heap.objs.size) (hC : C = s.heap.objs.size + 1)
    (hh : h' = pushCells ((s.heap.push { cls := .type "list", data := .seq #[] }).push { cls := .type "dict", data := .dict #[] }) scope.names) (hfp : ∀ b ∈ fp, FpOk X pins H b) (hlt : ∀ b ∈ fp, b < s.heap.objs.size) :
    Inv (cxC X N scope ⟨C, fp, s, H⟩) [] (cSt own fr σ) (upd H D (.lst [])) { s with heap := h' } := by
  subst hD hC
  have eD : (s.heap.push { cls := .type "list", data := .seq #[] }).objs.size = s.heap.objs.size + 1 := Heap.size_push ..
  have eC : ((s.heap.push { cls := .type "list", data := .seq #[] }).push { cls := .type "dict", data := .dict #[] }).objs.size = s.heap.objs.size + 2 := by rw [Heap.size_push, eD]
  have keep : ∀ b o, s.heap.get? b = some o → h'.get? b = some o := fun b o e => by
    rw [hh]
    exact pushCells_keeps _ _ _ _ (Heap.get?_push_of_some _ (Heap.get?_push_of_some _ e))
  have lst : h'.get? s.heap.objs.size = some { cls := .type "list", data := .seq #[] } := by
    rw [hh]
    exact pushCells_keeps _ _ _ _ (Heap.get?_push_of_some _ (Heap.get?_push_size _ rfl))
  have dct : h'.get? (s.heap.objs.size + 1) = some { cls := .type "dict", data := .dict #[] } := by
    rw [hh]
    refine pushCells_keeps _ _ _ _ ?_
    have := Heap.get?_push_size (s.heap.push { cls := .type "list", data := .seq #[] }) (o := { cls := .type "dict", data := .dict #[] }) rfl
    rw [eD] at this
    exact this
  have hnD : H s.heap.objs.size = none := I.hok.fresh (Nat.le_refl _)
  have hnC : H (s.heap.objs.size + 1) = none := I.hok.fresh (Nat.le_succ _)
  have inCl : ∀ {n : Str} {c : Addr}, (n, c) ∈ clOf X.env scope.names → X.env.cells.lookup n = some c := fun h => S.cl I.ok h
  have clt : ∀ {n : Str} {c : Addr}, X.env.cells.lookup n = some c → c < s.heap.objs.size := fun h => by
    obtain ⟨v, z⟩ := I.cell _ _ h
    exact z.lt
  have cases_ : ∀ {n : Str} {c : Addr}, (cellsFrom (s.heap.objs.size + 1 + 1) scope.names (clOf X.env scope.names)).lookup n = some c → X.env.cells.lookup n = some c ∨ (s.heap.objs.size + 2 ≤ c ∧ (n, NameKind.cell) ∈ scope.names ∧ h'.IsCell c none) := fun {n c} h => by
    have hm := PySem.mem_of_lookup h
    have hcell := hm
    rw [show s.heap.objs.size + 1 + 1 = ((s.heap.push { cls := .type "list", data := .seq #[] }).push { cls := .type "dict", data := .dict #[] }).objs.size from eC.symm] at hcell
    rcases cellsFrom_mem hm with h1 | ⟨h1, h2⟩
    · exact .inl (inCl h1)
    · rcases cellsFrom_cell hcell with h3 | h3
      · exact .inl (inCl h3)
      · exact .inr ⟨h1, h2, by rw [hh]; exact h3⟩
  have kindOf : ∀ x, (cxC X N scope ⟨s.heap.objs.size + 1, fp, s, H⟩).env.kindOf x = (scope.names.lookup x).map fun k => if (k == NameKind.free && X.env.scope.kind == .function && X.env.kindOf x == some .cell) then NameKind.cell else k := fun x => lookup_relabel
  have hasName : ∀ x, ((cxC X N scope ⟨s.heap.objs.size + 1, fp, s, H⟩).env.kindOf x = some .cell ∨ (cxC X N scope ⟨s.heap.objs.size + 1, fp, s, H⟩).env.kindOf x = some .free) → ∃ c, (cellsFrom (s.heap.objs.size + 1 + 1) scope.names (clOf X.env scope.names)).lookup x = some c := fun x hx => by
    rw [kindOf] at hx
    have h2 : scope.names.lookup x = some .cell ∨ scope.names.lookup x = some .free := by
      cases e : scope.names.lookup x with
      | none => rw [e] at hx; rcases hx with z | z <;> cases z
      | some k =>
        rw [e] at hx
        by_cases hk : k = .free
        · exact .inr (by rw [hk])
        · have hk' : (k == NameKind.free) = false := by simpa using hk
          simp only [Option.map_some, hk', Bool.false_and, Bool.false_eq_true, if_false] at hx
          rcases hx with z | z
          · exact .inl z
          · exact .inr z
    rcases h2 with h2 | h2
    · exact Option.isSome_iff_exists.mp (PySem.W.cellsFrom_some scope.names _ _ (.inl h2))
    · obtain ⟨c, hc⟩ := lookup_of_mem (clOf_in (env := X.env) (cs := []) (PySem.mem_of_lookup h2))
      exact Option.isSome_iff_exists.mp (PySem.W.cellsFrom_some scope.names _ _ (.inr (by rw [show (clOf X.env scope.names).lookup x = some c from hc]; rfl)))
  have cellAt : ∀ x c, (cellsFrom (s.heap.objs.size + 1 + 1) scope.names (clOf X.env scope.names)).lookup x = some c → ∃ v, h'.IsCell c v := fun x c e => by
    rcases cases_ e with q | ⟨_, _, q⟩
    · obtain ⟨v, o, ho, hd⟩ := I.cell x c q
      exact ⟨v, o, keep c o ho, hd⟩
    · exact ⟨none, q⟩
  refine ⟨⟨I.ok.mod, S.kind, I.ok.glob, I.ok.blt, Nat.le_succ _, fun y z c h1 h2 => ?_, hasName, fun y c hy h => ?_, I.ok.hd, I.ok.frames, .inl rfl, fun b hb => ⟨?_, fun x c e z => ?_⟩, fun b o e => I.bs b o e, Nat.le_trans I.ok.bsz I.sz, fun b o e hb => ?_, fun b hb hf => ?_, I.stack, I.stkFree⟩,
    rfl, I.bare, ?_, ⟨fun _ => none, ⟨_, #[], _, dct, rfl, fun e he => absurd he (by simp), fun _ => rfl⟩, fun i x v h1 h2 h3 => ?_⟩, cellAt, ?_, fun x c e => ?_, fun p hp => absurd (show p ∈ ([] : List (Addr × Obj)) from hp) (by simp), ?_, ?_⟩
  ·
    refine cellsFrom_inj (fun n c hm => ?_) (fun n n' c hm hm' => I.ok.inj n n' c (inCl hm) (inCl hm')) (PySem.mem_of_lookup h1) (PySem.mem_of_lookup h2)
    exact Nat.lt_succ_of_lt (Nat.lt_succ_of_lt (clt (inCl hm)))
  ·
    have hy' : scope.names.lookup y = some .cell := by simpa using (show (scope.names.lookup y == some .cell) = true from hy)
    rcases cases_ h with q | ⟨q, _⟩
    · rcases cellsFrom_mem (PySem.mem_of_lookup h) with q2 | ⟨q2, _⟩
      · rcases clOf_mem q2 with z | ⟨z, _⟩
        · cases z
        · have := nodup_lookup S.nd z
          rw [hy'] at this
          cases this
      · exact Nat.le_trans (Nat.le_add_right _ 2) q2
    · exact Nat.le_trans (Nat.le_add_right _ 2) q
  · exact Nat.ne_of_lt (Nat.lt_succ_of_lt (hlt b hb))
  · rcases cases_ e with q | ⟨q, _⟩
    · exact (hfp b hb).2.2.2.2.1 x c q z
    · have hb' := hlt b hb
      rw [← z] at hb'
      exact absurd (Nat.lt_of_lt_of_le hb' (Nat.le_trans (Nat.le_add_right _ 2) q)) (Nat.lt_irrefl _)
  · rcases (hfp b hb).2.2.2.1 with z | z
    · exact I.ok.noex b o e z
    · exact Nat.lt_irrefl _ (Nat.lt_of_lt_of_le (Heap.lt_size e) (Nat.le_trans I.ok.bsz z))
  · rcases List.mem_cons.mp (I.stkSub b hf) with z | z
    · exact (hfp b hb).2.1 z
    · exact (hfp b hb).2.2.1 z
  · exact Un.laid keep (Nat.le_refl _) hnD
  ·
    have h1 : N[i]? = some x := h1
    have hlen : i < N.length := (List.getElem?_eq_some_iff.mp h1).1
    by_cases hi : i < own
    · exfalso
      have h2' : (cSt own fr σ)[i]? = some none := by
        unfold cSt
        rw [List.getElem?_append_left (by simpa using hi), List.getElem?_replicate, if_pos hi]
      rw [h2'] at h2
      cases h2
    · have hfi : i - own < fr.length := by have := S.len; omega
      have ei : own + (i - own) = i := by omega
      have hk := S.frk (i - own) hfi x (by rw [ei]; exact h1)
      have hn := S.frn (i - own) hfi
      rw [ei, h1] at hn
      have ej : fr[i - own]? = some fr[i - own] := List.getElem?_eq_getElem hfi
      rw [ej] at hn
      have hn' : X.N[fr[i - own]]? = some x := hn.symm
      have h2' : (cSt own fr σ)[i]? = some ((σ[fr[i - own]]?).getD none) := by
        unfold cSt
        rw [List.getElem?_append_right (by simpa using Nat.not_lt.mp hi), List.length_replicate, List.getElem?_map, ej]
        rfl
      rw [h2'] at h2
      have h2'' : (σ[fr[i - own]]?).getD none = some v := Option.some.inj h2
      have hσ : σ[fr[i - own]]? = some (some v) := by
        cases e : σ[fr[i - own]]? with
        | none => rw [e] at h2''; cases h2''
        | some w => rw [e] at h2''; exact congrArg some h2''
      obtain ⟨m, hm, hl⟩ := I.loc
      have hfree := S.free (x, .free) (PySem.mem_of_lookup hk) rfl
      obtain ⟨u, r, l⟩ := hl _ x v hn' hσ (hfree.elim (fun z => .inr (.inl z)) fun z => .inr (.inr z))
      refine ⟨u, r, .inr ?_⟩
      have hcell : ∃ c, X.env.cells.lookup x = some c ∧ s.heap.IsCell c (some u) := by
        rcases l with ⟨l, _⟩ | ⟨_, c, e, z⟩
        · exfalso
          rcases hfree with z | z
          · have l' : X.env.scope.names.lookup x = some .local := l
            have z' : X.env.scope.names.lookup x = some .cell := z
            rw [l'] at z'; cases z'
          · have l' : X.env.scope.names.lookup x = some .local := l
            have z' : X.env.scope.names.lookup x = some .free := z
            rw [l'] at z'; cases z'
        · exact ⟨c, e, z⟩
      obtain ⟨c, e, o, ho, hd⟩ := hcell
      refine ⟨?_, c, ?_, o, keep c o ho, hd⟩
      · rw [kindOf, hk]
        by_cases z : (X.env.scope.kind == .function && X.env.kindOf x == some .cell) = true
        · left
          simp only [Option.map_some, beq_self_eq_true, Bool.true_and, z, if_true]
        · right
          simp only [Option.map_some, beq_self_eq_true, Bool.true_and]
          rw [if_neg z]
      · show (cellsFrom (s.heap.objs.size + 1 + 1) scope.names (clOf X.env scope.names)).lookup x = some c
        rw [cellsFrom_acc fun z => by
          have := nodup_lookup S.nd z
          rw [hk] at this
          cases this]
        obtain ⟨c', hc'⟩ := lookup_of_mem (clOf_in (env := X.env) (cs := []) (PySem.mem_of_lookup hk))
        have hc2 : (clOf X.env scope.names).lookup x = some c' := hc'
        rw [hc2]
        have := inCl (PySem.mem_of_lookup hc2)
        rw [e] at this
        exact this.symm
  · show upd H s.heap.objs.size (.lst []) (s.heap.objs.size + 1) = none
    rw [upd_ne (Nat.ne_of_gt (Nat.lt_succ_self _))]
    exact hnC
  · rcases cases_ e with q | ⟨q, _⟩
    · have := clt q
      rw [upd_ne (Nat.ne_of_lt this)]
      exact I.freeC x c q
    · rw [upd_ne (Nat.ne_of_gt (Nat.lt_of_lt_of_le (Nat.lt_add_of_pos_right (by decide)) q))]
      exact I.hok.fresh (Nat.le_trans (Nat.le_add_right _ 2) q)
  · exact I.hok.laid keep (Nat.le_refl _) ⟨Nat.zero_le _, [], 0, .nil, lst⟩
  · show (cSt own fr σ).length = N.length
    unfold cSt
    rw [List.length_append, List.length_replicate, List.length_map, S.len]
end
def PF (X : Cx) (ifs : List Expr) (t : TT) : Prop :=
  ∀ (pins : List (Addr × Obj)) (s : Shared) (σ : St) (H : Hp) (Q : Bool → Hp → Prop), Inv X pins σ H s → t σ H Q →
    wpAny (model X.prog X.w) X.A (forIn ifs true fun c r => if r = true then do let ok ← isTrue c X.env (eval c X.env); pure (ForInStep.yield ok) else pure (ForInStep.yield r)) (TP X pins σ Q) X.xe s
def tYes : TT := fun _ H Q => Q true H
theorem pf_nil {X : Cx} : PF X [] tYes := fun _ _ _ H _ I h => wpAny_tests_nil ⟨H, I, h⟩
theorem pf_one {X : Cx} {c : Expr} {t : TT} (h : PT X c t) : PF X [c] t := fun pins s σ H Q I hw => wpAny_tests_one (h pins s σ H Q I hw)
theorem compLoop_any {prog : Program} {w : World} {A : Around} {R : Result → Shared → Prop} {s : Shared} {elt target iter : Expr} {ifs : List Expr} {scope : Scope} {pos : Pos} {it acc : Value} {env : Env} (I : Nat → Shared → Prop)
    (turn : ∀ n s, I n s → wpAny (model prog w) A (pyNext it) (fun r s₁ => match r with
      | none => R (.ok .next) s₁
      | some v => wpAny (model prog w) A (letOwnedTupleGo target it v) (fun _ s₁' => wpAny (model prog w) A (assign target env v) (fun _ s₂ =>
          wpAny (model prog w) A (forIn ifs true fun c r => if r = true then do let ok ← isTrue c env (eval c env); pure (ForInStep.yield ok) else pure (ForInStep.yield r)) (fun ok s₃ =>
            if ok = true then wpAny (model prog w) A (eval elt env) (fun x s₄ =>
              wpAny (model prog w) A (call (.builtin "list.append") [acc, x]) (fun _ s₅ => ∃ m, m < n ∧ I m s₅) (fun _ _ => False) s₄) (fun _ _ => False) s₃
            else ∃ m, m < n ∧ I m s₃) (fun _ _ => False) s₂) (fun _ _ => False) s₁') (fun _ _ => False) s₁) (fun _ _ => False) s)
    (n : Nat) (h : I n s) :
    codeAny (model prog w) A (.compLoop (.ListComp elt [⟨target, iter, ifs, 0⟩] scope pos) 0 it acc env) R s := by
  refine codeAny_loop rfl I (fun n s hI => ?_) n h
  show wpAny _ A ((compTurn (.ListComp elt [⟨target, iter, ifs, 0⟩] scope pos) 0 it acc env).onRaise (fun x => do noteFrame x env; theTreesLotGoes x)) _ _ s
  refine wpAny_noted ?_
  rw [compTurn_list]
  have no : ∀ {α : Type} {t : Sem α} {Q : α → Shared → Prop} {E' : Value → Shared → Prop} {s' : Shared}, wpAny (model prog w) A t Q (fun _ _ => False) s' → wpAny (model prog w) A t Q E' s' := fun h => wpAny_mono h (fun _ _ q => q) fun _ _ z => z.elim
  refine wpAny_bind (wpAny_standAt (wpAny_bind (no (wpAny_mono (turn n s hI) (fun r s₁ h₁ => ?_) fun _ _ h' => h'))))
  cases r with
  | none => exact wpAny_pure h₁
  | some v =>
    refine wpAny_bind (no (wpAny_mono h₁ (fun _ s₁' h₁' => ?_) fun _ _ h' => h'))
    refine wpAny_bind (no (wpAny_mono h₁' (fun _ s₂ h₂ => wpAny_bind (no (wpAny_mono h₂ (fun ok s₃ h₃ => ?_) fun _ _ h' => h'))) fun _ _ h' => h'))
    cases ok with
    | false => exact wpAny_pure ⟨rfl, h₃⟩
    | true =>
      exact wpAny_bind (wpAny_bind (no (wpAny_mono h₃ (fun x s₄ h₄ => wpAny_bind (no (wpAny_mono h₄ (fun _ s₅ h₅ => wpAny_pure (wpAny_pure ⟨rfl, h₅⟩)) fun _ _ h' => h'))) fun _ _ h' => h')))
structure tBlock (J : It) (own : Nat) (fr : List Nat) (g : CB → TG) (tf : CB → TT) (te : CB → TE) (Q : VK) (σ : St) (H1 : Hp) : Prop where
  go : ∀ (b : CB) (D : Addr), H1 D = none → ∃ W : Nat → Nat → St → Hp → Prop, (∃ m, W 0 m (cSt own fr σ) (upd H1 D (.lst []))) ∧ ∀ i m σ' H', W i m σ' H' →
    (J.stop i H' ∧ Q (.ref D) H') ∨ (J.go i H' ∧ ∃ M : St → Hp → Prop, (∀ σ2 H2, M σ2 H2 → ∃ m', m' < m ∧ W (i + 1) m' σ2 H2) ∧ ∀ x H2, J.yld i H' x H2 → g b x σ' H2 fun σ3 H3 => tf b σ3 H3 fun k H4 =>
      if k = true then te b σ3 H4 fun y H5 => ∃ ys, H5 D = some (.lst ys) ∧ ys.length < sizeLine ∧ M σ3 (upd H5 D (.lst (ys ++ [y]))) else M σ3 H4)
def tComp (wi : TI) (own : Nat) (fr : List Nat) (g : CB → TG) (tf : CB → TT) (te : CB → TE) : TE := fun σ H Q => wi σ H fun J H1 => tBlock J own fr g tf te Q σ H1
section
variable {X : Cx} {tg iter elt : Expr} {ifs : List Expr} {scope : Scope} {pos : Pos} {N : List Str} {own : Nat} {fr : List Nat} {wi : TI} {g : CB → TG} {tf : CB → TT} {te : CB → TE}
theorem comp_run {use : Option (Value → Sem Unit)} {R : Value → Shared → Prop} {pins : List (Addr × Obj)} {s : Shared} {σ : St} {H : Hp} {Q : VK} (S : CompOk X.env.scope X.N N own fr scope) (hc : X.calm = true) (hi : PI X tg iter wi)
    (hg : ∀ b, PG (cxC X N scope b) tg (g b)) (hf : ∀ b, PF (cxC X N scope b) ifs (tf b)) (he : ∀ b, PE (cxC X N scope b) elt (te b)) (hs : ∀ x, foldedSetIterable iter X.env x = pure x) (I : Inv X pins σ H s) (h : tComp wi own fr g tf te σ H Q)
    (fin : ∀ (D C : Addr) (oC : Obj) (m : Str → Option Value) (H' : Hp) (s' : Shared), Inv X (pins ++ [(C, oC)]) σ H' s' → X.s₀.heap.objs.size ≤ C → (∀ p ∈ X.pn ++ pins, p.1 ≠ C) → (∀ h' : Heap, h'.get? C = some oC → h'.Ns C m) → Q (.ref D) H' → compPost (model X.prog X.w) X.A X.xe use R (.ref D) C (.ok .next) s') :
    wpAny (model X.prog X.w) X.A (comprehension (.ListComp elt [⟨tg, iter, ifs, 0⟩] scope pos) scope X.env (firstIterPos [⟨tg, iter, ifs, 0⟩] pos) (newList []) false (eval iter X.env) use) R X.xe s := by
  refine wpAny_comprehension_free rfl hs (closureFor_clOf (S.cells I.ok)) S.kind (fun x hx hk => ?_) (thn (hi pins s σ H _ I h) fun v s1 h1 => thn h1 fun itv s2 h2 => ?_)
  · have := nodup_lookup S.nd (show (x.1, x.2) ∈ scope.names from hx)
    rw [this, hk]
  obtain ⟨it, fp, tn, J, H2, e, I2, T, st2, f2, q⟩ := h2
  subst e
  refine wpAny_newObj_type ?_
  refine newCompEnv_ ?_
  have eD : (s2.heap.push { cls := .type "list", data := .seq #[] }).objs.size = s2.heap.objs.size + 1 := Heap.size_push ..
  have hD : H2 s2.heap.objs.size = none := I2.hok.fresh (Nat.le_refl _)
  have hlt : ∀ b ∈ fp, b < s2.heap.objs.size := fun b hb => by
    obtain ⟨o, ho, _⟩ := T.obj 0 _ st2 b hb
    exact Heap.lt_size ho
  obtain ⟨W, ⟨m0, w0⟩, turn⟩ := q.go ⟨s2.heap.objs.size + 1, fp, s2, H2⟩ s2.heap.objs.size hD
  have IX := inv_comp (fp := fp) S I2 rfl rfl rfl f2 hlt
  have st4 : tn 0 (pushCells ((s2.heap.push { cls := .type "list", data := .seq #[] }).push { cls := .type "dict", data := .dict #[] }) scope.names) :=
    T.keep 0 _ _ st2 fun b _ o e => pushCells_keeps _ _ _ _ (Heap.get?_push_of_some _ (Heap.get?_push_of_some _ e))
  have fr0 : ∀ b ∈ fp, upd H2 s2.heap.objs.size (.lst []) b = none := fun b hb => by
    rw [upd_ne (Nat.ne_of_lt (hlt b hb))]
    exact (f2 b hb).1
  have cne : ∀ b ∈ fp, ∀ x c, (cxC X N scope ⟨s2.heap.objs.size + 1, fp, s2, H2⟩).env.cells.lookup x = some c → c ≠ b := fun b hb => ((IX.ok.exf b hb).2)
  have stat : ∀ {H' : Hp}, (∀ b ∈ fp, H' b = none) → ∀ b ∈ fp, FpOk (cxC X N scope ⟨s2.heap.objs.size + 1, fp, s2, H2⟩) [] H' b := fun hn b hb =>
    ⟨hn b hb, (IX.ok.exf b hb).1, IX.ok.exfs b hb, .inl hb, cne b hb, fun p hp => absurd (show p ∈ ([] : List (Addr × Obj)) from hp) (by simp)⟩
  have e4 : ∀ cenv : Env, cenv = newEnv scope (s2.heap.push { cls := .type "list", data := .seq #[] }).objs.size X.env.globals (cellsFrom ((s2.heap.push { cls := .type "list", data := .seq #[] }).objs.size + 1) scope.names (clOf X.env scope.names)) X.env.qual none .none (some X.env) builtinsNs →
      ({ cenv with scope := relabel scope X.env } : Env) = (cxC X N scope ⟨s2.heap.objs.size + 1, fp, s2, H2⟩).env ∧ cenv.locals = s2.heap.objs.size + 1 := fun cenv e => by
    subst e
    rw [eD]
    exact ⟨rfl, rfl⟩
  obtain ⟨e5, e6⟩ := e4 _ rfl
  have loop : codeAny (model X.prog X.w) X.A (.compLoop (.ListComp elt [⟨tg, iter, ifs, 0⟩] scope pos) 0 (.ref it) (.ref s2.heap.objs.size) (cxC X N scope ⟨s2.heap.objs.size + 1, fp, s2, H2⟩).env)
      (compPost (model X.prog X.w) X.A X.xe use R (.ref s2.heap.objs.size) (s2.heap.objs.size + 1)) { s2 with heap := pushCells ((s2.heap.push { cls := .type "list", data := .seq #[] }).push { cls := .type "dict", data := .dict #[] }) scope.names } := by
    refine compLoop_any (fun n s' => ∃ i σ' H', Inv (cxC X N scope ⟨s2.heap.objs.size + 1, fp, s2, H2⟩) [] σ' H' s' ∧ tn i s'.heap ∧ (∀ b ∈ fp, H' b = none) ∧ W i n σ' H') ?_ m0 ⟨0, _, _, IX, st4, fr0, w0⟩
    rintro n s5 ⟨i, σ5, H5, I5, st5, fr5, w5⟩
    rcases turn i n σ5 H5 w5 with ⟨stop, qn⟩ | ⟨go, M, hM, step⟩
    · refine thn (T.done (cxC X N scope ⟨s2.heap.objs.size + 1, fp, s2, H2⟩) rfl rfl rfl hc i [] s5 σ5 H5 (fun _ _ => False) I5 (stat fr5) st5 stop) fun r s6 ⟨hr, I6⟩ => ?_
      subst hr
      obtain ⟨m, hn, _⟩ := I6.loc
      obtain ⟨oC, es, ep, hoC, hd, hk, hm⟩ := id hn
      have IB : Inv X pins σ H5 s6 := I2.call' (ch := fp) I6.os I6.base I6.hok I6.bare fun b hb => ⟨(f2 b hb).2.2.2.1, (f2 b hb).2.1, (f2 b hb).2.2.2.2.1, (f2 b hb).2.2.2.2.2⟩
      have young : s2.heap.objs.size ≤ s2.heap.objs.size + 1 := Nat.le_succ _
      refine fin s2.heap.objs.size (s2.heap.objs.size + 1) oC m H5 s6 (IB.pins_of fun p hp => ?_) (Nat.le_trans I2.sz young) (fun p hp => Nat.ne_of_lt (Nat.lt_of_lt_of_le (Heap.lt_size (I2.pin p hp).1) young)) (fun h' e => ⟨oC, es, ep, e, hd, hk, hm⟩) qn
      rcases List.mem_append.mp hp with z | z
      · exact IB.pin p (List.mem_append_right _ z)
      · have ep' : p = (s2.heap.objs.size + 1, oC) := by simpa using z
        subst ep'
        exact ⟨hoC, I6.free, Nat.ne_of_gt (Nat.lt_of_lt_of_le I2.lt young), I2.nofs young, fun v z => by rw [hd] at z; cases z⟩
    · refine thn (T.item (cxC X N scope ⟨s2.heap.objs.size + 1, fp, s2, H2⟩) rfl rfl rfl hc i [] s5 σ5 H5 (fun _ _ => False) I5 (stat fr5) st5 go) fun r s6 ⟨u, hr, h6⟩ => ?_
      subst hr
      refine thn h6 fun _ s7 ⟨x, H7, I7, r7, y7, st7, fr7⟩ => ?_
      have I7' := I7.pinned (stat fr7) (T.obj _ _ st7)
      refine thn (hg _ _ s7 σ5 H7 x u _ I7' r7 (step x H7 y7)) fun _ s8 ⟨σ8, H8, I8, q8⟩ => ?_
      refine thn (hf _ _ s8 σ8 H8 _ I8 q8) fun k s9 ⟨H9, I9, q9⟩ => ?_
      have again : ∀ {H10 : Hp} {s10 : Shared}, Inv (cxC X N scope ⟨s2.heap.objs.size + 1, fp, s2, H2⟩) ([] ++ pinsAt fp s7.heap) σ8 H10 s10 → M σ8 H10 →
          ∃ m, m < n ∧ ∃ i σ' H', Inv (cxC X N scope ⟨s2.heap.objs.size + 1, fp, s2, H2⟩) [] σ' H' s10 ∧ tn i s10.heap ∧ (∀ b ∈ fp, H' b = none) ∧ W i m σ' H' := fun {H10 s10} I10 q10 => by
        obtain ⟨m', hm, w10⟩ := hM σ8 H10 q10
        refine ⟨m', hm, i + 1, σ8, H10, I10.unpinned, T.keep _ _ _ st7 fun b hb o e => (I10.pin (b, o) (List.mem_append_right _ (List.mem_append_right _ (mem_pinsAt hb e)))).1, fun b hb => ?_, w10⟩
        obtain ⟨o, e, d⟩ := T.obj _ _ st7 b hb
        exact (I10.pin (b, o) (List.mem_append_right _ (List.mem_append_right _ (mem_pinsAt hb e)))).2.1
      cases k with
      | false => exact again I9 q9
      | true =>
        refine thn (he _ _ s9 σ8 H9 _ I9 q9) fun w10 s10 ⟨y, H10, I10, r10, ys, hys, hz, q10⟩ => ?_
        refine thn (mt_append _ s10 σ8 H10 (.ref s2.heap.objs.size) [y] (.ref s2.heap.objs.size) [w10] (fun _ H' => M σ8 H') I10 rfl (.cons r10 .nil) ⟨_, ys, y, rfl, rfl, hys, hz, q10⟩) fun _ s11 ⟨_, H11, I11, _, q11⟩ => ?_
        exact again I11 q11
  have go : codeAny (model X.prog X.w) X.A (.compStart (.ListComp elt [⟨tg, iter, ifs, 0⟩] scope pos) 0 (.ref it) (.ref s2.heap.objs.size) (cxC X N scope ⟨s2.heap.objs.size + 1, fp, s2, H2⟩).env)
      (compPost (model X.prog X.w) X.A X.xe use R (.ref s2.heap.objs.size) (s2.heap.objs.size + 1)) { s2 with heap := pushCells ((s2.heap.push { cls := .type "list", data := .seq #[] }).push { cls := .type "dict", data := .dict #[] }) scope.names } :=
    codeAny_compStart_list loop (T.self _ 0 _ _ _ st4 loop)
  have fin2 : ∀ (env' : Env) (L : Addr), env' = (cxC X N scope ⟨s2.heap.objs.size + 1, fp, s2, H2⟩).env → L = s2.heap.objs.size + 1 →
      codeAny (model X.prog X.w) X.A (.compStart (.ListComp elt [⟨tg, iter, ifs, 0⟩] scope pos) 0 (.ref it) (.ref s2.heap.objs.size) env') (compPost (model X.prog X.w) X.A X.xe use R (.ref s2.heap.objs.size) L)
        { s2 with heap := pushCells ((s2.heap.push { cls := .type "list", data := .seq #[] }).push { cls := .type "dict", data := .dict #[] }) scope.names } := by
    intro env' L h1 h2
    subst h1 h2
    exact go
  exact fin2 _ _ e5 e6
theorem comp_gone {pins : List (Addr × Obj)} {C : Addr} {oC : Obj} {σ' : St} {H' : Hp} {s' : Shared} {h' : Heap} (I : Inv X (pins ++ [(C, oC)]) σ' H' s') (hy : X.s₀.heap.objs.size ≤ C) (hp : ∀ p ∈ X.pn ++ pins, p.1 ≠ C) (sb : Heap.SameBut C s'.heap h') :
    Inv X pins σ' H' { s' with heap := h' } := by
  have pC := I.pin (C, oC) (List.mem_append_right _ (List.mem_append_right _ (by simp)))
  have I2 : Inv X pins σ' H' s' := I.unpinned
  refine I2.turned (it := C) (t' := s'.toks) (fun b o hb e => (sb.2 b hb).trans e) pC.2.1 pC.2.2.1 (.inr hy) (fun x c e z => ?_) hp
  obtain ⟨v, o, ho, hd⟩ := I2.cell x c e
  rw [z, pC.1] at ho
  cases ho
  exact pC.2.2.2.2 v hd
theorem pe_comp (S : CompOk X.env.scope X.N N own fr scope) (hc : X.calm = true) (hi : PI X tg iter wi) (hg : ∀ b, PG (cxC X N scope b) tg (g b)) (hf : ∀ b, PF (cxC X N scope b) ifs (tf b)) (he : ∀ b, PE (cxC X N scope b) elt (te b))
    (hs : ∀ x, foldedSetIterable iter X.env x = pure x := by intro _; rfl) : PE X (.ListComp elt [⟨tg, iter, ifs, 0⟩] scope pos) (tComp wi own fr g tf te) := by
  intro pins s σ H Q I h
  rw [eval_ListComp]
  refine comp_run (use := none) S hc hi hg hf he hs I h fun D C oC m H' s' I' hy hp hm q => ?_
  have pC := I'.pin (C, oC) (List.mem_append_right _ (List.mem_append_right _ (by simp)))
  exact ⟨m, hm _ pC.1, fun h' sb => ⟨.ref D, H', comp_gone I' hy hp sb, rfl, q⟩⟩
theorem ps_setComp {j : Nat} {y : Str} {py spos : Pos} (S : CompOk X.env.scope X.N N own fr scope) (hc : X.calm = true) (hN : X.N.Nodup) (hj : X.N[j]? = some y) (hy : Loc X.env.scope y) (hi : PI X tg iter wi) (hg : ∀ b, PG (cxC X N scope b) tg (g b)) (hf : ∀ b, PF (cxC X N scope b) ifs (tf b))
    (he : ∀ b, PE (cxC X N scope b) elt (te b)) (hfn : X.fn y = true ∨ X.env.scope.names.lookup y = some .local := by first | exact .inl rfl | exact .inr rfl | assumption) (hs : ∀ x, foldedSetIterable iter X.env x = pure x := by intro _; rfl)
    (hsw : swapsWith (.ListComp elt [⟨tg, iter, ifs, 0⟩] scope pos) (some (.Name y py)) spos.line X.env = pure true := by rfl) :
    PS X (.Assign [.Name y py] (.ListComp elt [⟨tg, iter, ifs, 0⟩] scope pos) spos) (tAsg (tComp wi own fr g tf te) (gName j)) := by
  intro pins s σ H D I h
  rw [exec_Assign_Name_used _ _ _ _ hsw]
  refine wpAny_bind (wpAny_standAt (wpAny_bind ?_))
  show wpAny _ _ (do let _ ← comprehension (.ListComp elt [⟨tg, iter, ifs, 0⟩] scope pos) scope X.env _ (newList []) false (eval iter X.env) (some (assign (.Name y py) X.env))) _ _ s
  refine wpAny_bind (thn (comp_run (use := some (assign (.Name y py) X.env)) (R := fun _ s' => SP X pins D .next s') S hc hi hg hf he hs I h fun D' C oC m H' s' I' hy' hp hm q => ?_) fun _ s' q => wpAny_pure (wpAny_pure q))
  show wpAny _ _ (assign (.Name y py) X.env (.ref D')) _ _ s'
  refine thn (pg_name hN hj hy hfn _ s' σ H' (.ref D') (.ref D') _ I' rfl q) fun _ s'' ⟨σ2, H2, I2, q2⟩ => ?_
  have pC := I2.pin (C, oC) (List.mem_append_right _ (List.mem_append_right _ (by simp)))
  exact ⟨m, hm _ pC.1, fun h' sb => ⟨σ2, H2, comp_gone I2 hy' hp sb, q2⟩⟩
end
end L2

set_option Elab.async false
set_option linter.all false
set_option maxRecDepth 100000
namespace L2
open PySem PySem.Spec PyProof.Rows
theorem PE.imp {X : Cx} {e : Expr} {t t' : TE} (h : PE X e t) (k : ∀ σ H Q, t' σ H Q → t σ H Q) : PE X e t' := fun pins s σ H Q I q => h pins s σ H Q I (k σ H Q q)
theorem OpR.imp {X : Cx} {f : Value → Value → Sem Value} {r r' : R2} (h : OpR X f r) (k : ∀ x y H Q, r' x y H Q → r x y H Q) : OpR X f r' := fun pins s σ H x y v u Q I rx ry q => h pins s σ H x y v u Q I rx ry (k x y H Q q)
def fVar (i : Nat) : TE := fun σ H Q => match σ[i]? with
  | some (some v) => Q v H
  | _ => False
section
variable {X : Cx}
theorem fv (i : Nat) {x : Str} {pos : Pos} (hN : X.N[i]? = some x := by rfl) (hv : Vis X.env.scope x := by first | exact Or.inl rfl | exact Or.inr (Or.inl rfl) | exact Or.inr (Or.inr rfl)) (hd : (x == ("__debug__" : Str)) = false := by decide)
    (hcd : (x == ("__classdict__" : Str)) = false := by decide) : PE X (.Name x pos) (fVar i) := (pe_var hN hv hd hcd).imp fun σ H Q q => by
  unfold fVar at q
  cases e : σ[i]? with
  | none => rw [e] at q; exact q.elim
  | some o =>
    cases o with
    | none => rw [e] at q; exact q.elim
    | some v => rw [e] at q; exact ⟨v, e, q⟩
def fAdd : R2 := fun x y H Q => match x, y with
  | .int i, .int j => Q (.int (i + j)) H
  | .str a, .str b => a.length + b.length ≤ sizeLine ∧ Q (.str (a ++ b)) H
  | .ref p, .ref q => rCat (.ref p) (.ref q) H Q
  | _, _ => False
theorem o_add : OpR X (binaryOp .Add) fAdd := by
  intro pins s σ H x y v u Q I rx ry h
  cases x with
  | int i =>
    cases y with
    | int j => exact op_add pins s σ H _ _ v u Q I rx ry ⟨i, j, rfl, rfl, h⟩
    | _ => exact (show False from h).elim
  | str a =>
    cases y with
    | str b => exact op_add_str pins s σ H _ _ v u Q I rx ry ⟨a, b, rfl, rfl, h.1, h.2⟩
    | _ => exact (show False from h).elim
  | ref p =>
    cases y with
    | ref q => exact op_cat pins s σ H _ _ v u Q I rx ry h
    | _ => exact (show False from h).elim
  | _ => cases y <;> exact (show False from h).elim
def fInt (C : Int → Int → Prop) (g : Int → Int → V) : R2 := fun x y H Q => match x, y with
  | .int i, .int j => C i j ∧ Q (g i j) H
  | _, _ => False
def fInt0 (g : Int → Int → V) : R2 := fun x y H Q => match x, y with
  | .int i, .int j => Q (g i j) H
  | _, _ => False
theorem OpR.fInt {f : Value → Value → Sem Value} {C : Int → Int → Prop} {g : Int → Int → V} (h : OpR X f (rI C g)) : OpR X f (fInt C g) := h.imp fun x y H Q q => by
  cases x with
  | int i =>
    cases y with
    | int j => exact ⟨i, j, rfl, rfl, q.1, q.2⟩
    | _ => exact (show False from q).elim
  | _ => cases y <;> exact (show False from q).elim
theorem OpR.fInt0 {f : Value → Value → Sem Value} {g : Int → Int → V} (h : OpR X f (rI0 g)) : OpR X f (fInt0 g) := h.imp fun x y H Q q => by
  cases x with
  | int i =>
    cases y with
    | int j => exact ⟨i, j, rfl, rfl, q⟩
    | _ => exact (show False from q).elim
  | _ => cases y <;> exact (show False from q).elim
theorem o_sub : OpR X (binaryOp .Sub) (fInt0 fun i j => .int (i - j)) := op_sub.fInt0
theorem o_mul : OpR X (binaryOp .Mult) (fInt CMul fun i j => .int (i * j)) := op_mul.fInt
def CDivW (_ j : Int) : Prop := 0 < j ∧ j < 2 ^ 64
theorem log2_64 {j : Int} (h : CDivW 0 j) : j.natAbs.log2 < 9000 := by
  have h1 : j.natAbs < 2 ^ 64 := by
    have h2 : j < 2 ^ 64 := h.2
    have h3 : 0 < j := h.1
    omega
  have h0 : j.natAbs ≠ 0 := by have h3 : 0 < j := h.1; omega
  have := (Nat.log2_lt h0).mpr h1
  omega
theorem o_fdiv : OpR X (binaryOp .FloorDiv) (fInt CDivW fun i j => .int (i / j)) := (opI fun i j _ _ _ _ _ hc q => by
  have h1 : (0 : Int) < j := hc.1
  exact floordiv_int (by omega) (by rw [Int.fdiv_eq_ediv_of_nonneg i (by omega)]; exact q) (.inl (PyProof.noPylong_of_log2 (log2_64 hc)))).fInt
theorem o_mod : OpR X (binaryOp .Mod) (fInt (fun _ j => 0 < j) fun i j => .int (i % j)) := op_mod.fInt
theorem o_pow : OpR X (binaryOp .Pow) (fInt CPow fun i j => .int (i ^ j.toNat)) := op_pow.fInt
theorem o_lt : OpR X (compareOp .Lt) (fInt0 fun i j => .bl (decide (i < j))) := op_lt.fInt0
theorem o_le : OpR X (compareOp .LtE) (fInt0 fun i j => .bl (decide (i ≤ j))) := op_le.fInt0
theorem o_gt : OpR X (compareOp .Gt) (fInt0 fun i j => .bl (decide (j < i))) := op_gt.fInt0
mutual
inductive RepD (K : PySem.W.Frag) (H : Hp) : V → PyData → Prop where
  | non : RepD K H .non .none
  | bl (b : Bool) : RepD K H (.bl b) (.bool b)
  | int (i : Int) : RepD K H (.int i) (.int i)
  | str (x : Str) : RepD K H (.str x) (.str x)
  | lst {a : Addr} {xs : List V} {ds : List PyData} (h : SqL K H a xs) (r : RepAll K H xs ds) : RepD K H (.ref a) (.list ds)
  | tup {a : Addr} {xs : List V} {ds : List PyData} (h : SqT K H a xs) (r : RepAll K H xs ds) : RepD K H (.ref a) (.tuple ds)
inductive RepAll (K : PySem.W.Frag) (H : Hp) : List V → List PyData → Prop where
  | nil : RepAll K H [] []
  | cons {x : V} {xs : List V} {d : PyData} {ds : List PyData} (h : RepD K H x d) (r : RepAll K H xs ds) : RepAll K H (x :: xs) (d :: ds)
end
mutual
theorem Inv.reads {pins : List (Addr × Obj)} {σ : St} {H : Hp} {s : Shared} (I : Inv X pins σ H s) : ∀ {x : V} {d : PyData} {u : Value}, RepD X.K H x d → RelV x u → ∃ as, Reads s.heap u d as
  | _, _, _, .non, r => by cases r; exact ⟨_, .none⟩
  | _, _, _, .bl b, r => by cases r; exact ⟨_, .bool b⟩
  | _, _, _, .int i, r => by obtain ⟨t, rfl⟩ := r; exact ⟨_, .int i t⟩
  | _, _, _, .str x, r => by obtain ⟨t, rfl⟩ := r; exact ⟨_, .str x t⟩
  | _, _, _, .lst h q, r => by
    cases r
    obtain ⟨its, rv, ⟨o, n, e, hc, _, hd⟩, _⟩ := I.list h
    obtain ⟨as, z⟩ := I.readsAll q rv
    exact ⟨_, .list e hc hd (by simpa using z)⟩
  | _, _, _, .tup h q, r => by
    cases r
    obtain ⟨its, rv, ⟨o, e, hc, n, hd⟩, _⟩ := I.tuple h
    obtain ⟨as, z⟩ := I.readsAll q rv
    exact ⟨_, .tuple e hc hd (by simpa using z)⟩
theorem Inv.readsAll {pins : List (Addr × Obj)} {σ : St} {H : Hp} {s : Shared} (I : Inv X pins σ H s) : ∀ {xs : List V} {ds : List PyData} {us : List Value}, RepAll X.K H xs ds → Vals xs us → ∃ as, ReadsAll s.heap us ds as
  | _, _, _, .nil, r => by cases r; exact ⟨_, .nil⟩
  | _, _, _, .cons h q, r => by
    cases r with
    | cons r1 r2 =>
      obtain ⟨as, z⟩ := I.reads h r1
      obtain ⟨bs, z2⟩ := I.readsAll q r2
      exact ⟨_, .cons z z2⟩
end
def fEq (K : PySem.W.Frag) : R2 := fun x y H Q => match x, y with
  | .ref p, .ref q => ∃ d e, RepD K H (.ref p) d ∧ RepD K H (.ref q) e ∧ SeqAt.shaped d = true ∧ SeqAt.shaped e = true ∧ Q (.bl (PyData.eqv d e)) H
  | x, y => scal x y = true ∧ Q (.bl (decide (x = y))) H
def fNe (K : PySem.W.Frag) : R2 := fun x y H Q => match x, y with
  | .ref p, .ref q => ∃ d e, RepD K H (.ref p) d ∧ RepD K H (.ref q) e ∧ SeqAt.shaped d = true ∧ SeqAt.shaped e = true ∧ Q (.bl (!PyData.eqv d e)) H
  | x, y => scal x y = true ∧ Q (.bl (!decide (x = y))) H
theorem o_eq (hu : X.A.units + 64 < cLine) : OpR X (compareOp .Eq) (fEq X.K) := by
  intro pins s σ H x y v u Q I rx ry h
  by_cases hr : ∃ p q, x = V.ref p ∧ y = V.ref q
  · obtain ⟨p, q, rfl, rfl⟩ := hr
    obtain ⟨d, e, hd, he, sd, se, hq⟩ := h
    obtain ⟨as, z1⟩ := I.reads hd rx
    obtain ⟨bs, z2⟩ := I.reads he ry
    exact eq_dataH z1 z2 sd se hu ⟨.bl _, H, I, rfl, hq⟩
  · refine op_eq pins s σ H x y v u Q I rx ry ?_
    cases x <;> cases y <;> first | exact h | exact absurd ⟨_, _, rfl, rfl⟩ hr
theorem o_ne (hu : X.A.units + 64 < cLine) : OpR X (compareOp .NotEq) (fNe X.K) := by
  intro pins s σ H x y v u Q I rx ry h
  by_cases hr : ∃ p q, x = V.ref p ∧ y = V.ref q
  · obtain ⟨p, q, rfl, rfl⟩ := hr
    obtain ⟨d, e, hd, he, sd, se, hq⟩ := h
    obtain ⟨as, z1⟩ := I.reads hd rx
    obtain ⟨bs, z2⟩ := I.reads he ry
    exact ne_dataH z1 z2 sd se hu ⟨.bl _, H, I, rfl, hq⟩
  · refine op_ne pins s σ H x y v u Q I rx ry ?_
    cases x <;> cases y <;> first | exact h | exact absurd ⟨_, _, rfl, rfl⟩ hr
def fIn (K : PySem.W.Frag) (neg : Bool) : R2 := fun x y H Q => match y with
  | .str j => ∃ i, x = .str i ∧ Q (.bl (if neg then !(!(Builtin.Str.occurrences j i 0 j.length 1).isEmpty) else !(Builtin.Str.occurrences j i 0 j.length 1).isEmpty)) H
  | .ref p => ∃ xs, (SqL K H p xs ∨ SqT K H p xs) ∧ flatV x = true ∧ xs.all flatV = true ∧ Q (.bl (if neg then !inV x xs else inV x xs)) H
  | _ => False
theorem o_in : OpR X (compareOp .In) (fIn X.K false) := by
  intro pins s σ H x y v u Q I rx ry h
  cases y with
  | str j =>
    obtain ⟨i, rfl, q⟩ := h
    exact op_in_str pins s σ H _ _ v u Q I rx ry ⟨i, j, rfl, rfl, q⟩
  | ref p =>
    obtain ⟨xs, h1, h2, h3, q⟩ := h
    exact op_in_seq pins s σ H _ _ v u Q I rx ry ⟨p, xs, rfl, h1, h2, h3, q⟩
  | _ => exact (show False from h).elim
theorem o_notin : OpR X (compareOp .NotIn) (fIn X.K true) := by
  intro pins s σ H x y v u Q I rx ry h
  cases y with
  | str j =>
    obtain ⟨i, rfl, q⟩ := h
    exact op_notIn_str pins s σ H _ _ v u Q I rx ry ⟨i, j, rfl, rfl, q⟩
  | ref p =>
    obtain ⟨xs, h1, h2, h3, q⟩ := h
    exact op_notIn_seq pins s σ H _ _ v u Q I rx ry ⟨p, xs, rfl, h1, h2, h3, q⟩
  | _ => exact (show False from h).elim
theorem o_is : OpR X (compareOp .Is) (fun x y H Q => y = .non ∧ Q (.bl (decide (x = .non))) H) := op_isN
theorem o_isnot : OpR X (compareOp .IsNot) (fun x y H Q => y = .non ∧ Q (.bl (!decide (x = .non))) H) := op_notN
def fIx (K : PySem.W.Frag) : R2 := fun x y H Q => match x, y with
  | .ref p, .int i => ∃ xs v, (SqL K H p xs ∨ SqT K H p xs) ∧ atI xs i = some v ∧ Q v H
  | .str z, .int i => ∃ c, z.length ≤ sizeLine ∧ atI z.cps.toList i = some c ∧ Q (.str ⟨#[c]⟩) H
  | _, _ => False
theorem ix_any : IxR X (fIx X.K) := by
  intro value slice pins s σ H x y v u Q I rx ry h hs
  cases x with
  | ref p =>
    cases y with
    | int i =>
      obtain ⟨xs, w, h1 | h1, h2, q⟩ := h
      · exact ix_list value slice pins s σ H _ _ v u Q I rx ry ⟨p, xs, i, w, rfl, rfl, h1, h2, q⟩ hs
      · exact ix_tup value slice pins s σ H _ _ v u Q I rx ry ⟨p, xs, i, w, rfl, rfl, h1, h2, q⟩ hs
    | _ => exact (show False from h).elim
  | str z =>
    cases y with
    | int i =>
      obtain ⟨c, h1, h2, q⟩ := h
      exact ix_str value slice pins s σ H _ _ v u Q I rx ry ⟨z, i, c, rfl, rfl, h1, h2, q⟩ hs
    | _ => exact (show False from h).elim
  | _ => cases y <;> exact (show False from h).elim
def rSlS : V → Option Int → Option Int → Hp → VK → Prop := fun x lo hi H Q => ∃ z, x = .str z ∧ z.length ≤ sizeLine ∧ Q (.str (Txt.slice z lo hi)) H
def Its (x : Str) : It := ⟨fun i _ => i < x.cps.size, fun i H v H' => H' = H ∧ ∃ c, x.cps[i]? = some c ∧ v = .str ⟨#[c]⟩, fun i _ => x.cps.size ≤ i⟩
theorem turn_str {P : Program} {w : World} {K : PySem.W.Frag} {tg : Expr} {T : String} (hT : T = "str_ascii_iterator" ∨ T = "str_iterator") (it : Addr) (x : Str) (t : Tok) : Turn P w K tg (Its x) [it] it (fun i h => i ≤ x.cps.size ∧ h.IsStrIter it T x t i) where
  mem := by simp
  obj := fun i h st b hb => by
    have e : b = it := by simpa using hb
    subst e
    obtain ⟨_, o, e, c, d⟩ := st
    exact ⟨o, e, fun v z => by rw [d] at z; cases z⟩
  keep := fun i h h' st k => by
    obtain ⟨hi, o, e, r⟩ := st
    exact ⟨hi, o, k it (by simp) o e, r⟩
  item := by
    intro X hP hw hK hc i pins s σ H E I hf st hg
    subst hP hw hK
    obtain ⟨f0, f1, f2, f3, f4, f5⟩ := hf it (by simp)
    have W : Walks X.prog X.w X.A it [it] [it] x.cps.size (SignAt x) (fun i h => h.IsStrIter it T x t i) := by
      rcases hT with rfl | rfl
      · exact Walks.strAscii (I.ok.hd hc) it x t
      · exact Walks.strWide (I.ok.hd hc) it x t
    refine W.item i s _ _ hg st.2 fun v h' tk hv st' kk => ?_
    obtain ⟨c, u, hcp, rfl⟩ := hv
    have I1 : Inv X pins σ H { s with heap := h', toks := tk } := I.turned (fun b o hb e => kk b o (by simpa using hb) e) f0 f1 f3 f4 f5
    obtain ⟨o, e, c', d⟩ := id st'
    refine ⟨_, rfl, go_of (s := { s with heap := h', toks := tk }) e c' d (by rcases hT with rfl | rfl <;> decide) ⟨.str ⟨#[c]⟩, H, I1, ⟨u, rfl⟩, ⟨rfl, c, hcp, rfl⟩, ⟨hg, st'⟩, fun b hb => (hf b hb).1⟩⟩
  done := by
    intro X hP hw hK hc i pins s σ H E I hf st hg
    subst hP hw hK
    obtain ⟨f0, f1, f2, f3, f4, f5⟩ := hf it (by simp)
    have W : Walks X.prog X.w X.A it [it] [it] x.cps.size (SignAt x) (fun i h => h.IsStrIter it T x t i) := by
      rcases hT with rfl | rfl
      · exact Walks.strAscii (I.ok.hd hc) it x t
      · exact Walks.strWide (I.ok.hd hc) it x t
    have e : i = x.cps.size := Nat.le_antisymm st.1 hg
    subst e
    exact W.done s _ _ st.2 fun h' tk kk => ⟨rfl, I.turned (fun b o hb e => kk b o (by simpa using hb) e) f0 f1 f3 f4 f5⟩
  self := fun A i s Q E st h => by
    rcases hT with rfl | rfl
    · exact wpAny_pyIter_striter_ascii st.2 h
    · exact wpAny_pyIter_striter_wide st.2 h
def iAny (K : PySem.W.Frag) (tl : TE) : TI := fun σ H R => tl σ H fun x H1 => match x with
  | .ref a => ((∃ xs, SqL K H1 a xs) ∧ R (Itl K a) H1) ∨ ((∃ xs, SqT K H1 a xs) ∧ R (Itt K a) H1)
  | .str z => R (Its z) H1
  | _ => False
theorem pi_any {tg l : Expr} {tl : TE} (hl : PE X l tl) : PI X tg l (iAny X.K tl) := by
  intro pins s σ H R I h
  refine thn (hl pins s σ H _ I h) fun v s1 ⟨x, H1, I1, r1, q1⟩ => ?_
  cases x with
  | ref a =>
    cases r1
    rcases q1 with ⟨⟨xs, hq⟩, q⟩ | ⟨⟨xs, hq⟩, q⟩
    · obtain ⟨its, rv, p, hz⟩ := I1.list hq
      refine wpAny_pyIter_list p.isList ?_
      refine ⟨s1.heap.objs.size, [s1.heap.objs.size], _, _, H1, rfl, I1.kept (t' := s1.toks) fun b o e => Heap.get?_push_of_some _ e, turn_list a _, ⟨_, Heap.get?_push_size _ rfl, rfl, rfl⟩, fun b hb => ?_, q⟩
      have e : b = s1.heap.objs.size := by simpa using hb
      subst e
      exact I1.fpOk (Nat.le_refl _) (I1.hok.fresh (Nat.le_refl _))
    · obtain ⟨its, rv, p, hz⟩ := I1.tuple hq
      refine wpAny_pyIter_tuple (show s1.heap.IsTuple a its.toArray from p) ?_
      refine ⟨s1.heap.objs.size, [s1.heap.objs.size], _, _, H1, rfl, I1.kept (t' := s1.toks) fun b o e => Heap.get?_push_of_some _ e, turn_tuple a _, ⟨_, Heap.get?_push_size _ rfl, rfl, rfl⟩, fun b hb => ?_, q⟩
      have e : b = s1.heap.objs.size := by simpa using hb
      subst e
      exact I1.fpOk (Nat.le_refl _) (I1.hok.fresh (Nat.le_refl _))
  | str z =>
    obtain ⟨t, rfl⟩ := r1
    refine wpAny_pyIter_strU ?_
    refine ⟨s1.heap.objs.size, [s1.heap.objs.size], _, _, H1, rfl, I1.kept (t' := s1.toks) fun b o e => Heap.get?_push_of_some _ e, turn_str (T := strIterType z) ?_ _ z t, ⟨Nat.zero_le _, _, Heap.get?_push_size _ rfl, rfl, rfl⟩, fun b hb => ?_, q1⟩
    · unfold strIterType
      split
      · exact .inl rfl
      · exact .inr rfl
    · have e : b = s1.heap.objs.size := by simpa using hb
      subst e
      exact I1.fpOk (Nat.le_refl _) (I1.hok.fresh (Nat.le_refl _))
  | _ => exact (show False from q1).elim
theorem pt_tru {a : Expr} {ta : TE} (ha : PE X a ta) (he : ∀ whole, isTrue a X.env whole = (do let v ← whole; standAt a.pos; holding [v] (truthy v))) :
    PT X a (fun σ H Q => ta σ H fun x H' => ∃ k, TruV X.K x H' k ∧ Q k H') := pt_truth ha he
theorem pe_notV {a : Expr} {ta : TE} {pos : Pos} (ha : PE X a ta) : PE X (.UnaryOp .Not a pos) (fun σ H Q => ta σ H fun x H1 => ∃ k, TruV X.K x H1 k ∧ Q (.bl (!k)) H1) := by
  intro pins s σ H Q I h
  refine UnaryOp_ (thn (ha pins s σ H _ I h) fun v s1 ⟨x, H1, I1, r1, q1⟩ => ?_)
  obtain ⟨k, ht, q⟩ := q1
  exact not_of (thn (tru_ok pins s1 σ H1 x v (fun b H2 => Q (.bl (!b)) H2) I1 r1 ⟨k, ht, q⟩) fun b s2 ⟨H2, I2, q2⟩ => ⟨.bl (!b), H2, I2, rfl, q2⟩)
theorem c_len : CallR X (.builtin "len") (fun xs H Q => ∃ x n, xs = [x] ∧ LenV X.K x H n ∧ Q (.int n) H) := call_len
theorem c_list : CallR X (.type "list") (fun xs H Q => ∃ p ys, xs = [.ref p] ∧ (SqL X.K H p ys ∨ SqT X.K H p ys) ∧ ∀ l, H l = none → Q (.ref l) (upd H l (.lst ys))) := call_list_of
theorem bools_get {bs : List Bool} {its : List Value} (r : Vals (bs.map V.bl) its) {i : Nat} {v : Value} (h : its[i]? = some v) : ∃ b, bs[i]? = some b ∧ v = .bool b := by
  have hi : i < its.length := (List.getElem?_eq_some_iff.mp h).1
  have hl := r.length
  rw [List.length_map] at hl
  have hb : bs[i]? = some bs[i] := List.getElem?_eq_getElem (by omega)
  obtain ⟨u, hu, ru⟩ := r.get (i := i) (x := V.bl bs[i]) (by rw [List.getElem?_map, hb]; rfl)
  rw [h] at hu
  cases hu
  exact ⟨_, hb, ru⟩
theorem c_all (hc : X.calm = true := by rfl) : CallR X (.builtin "all") (fun xs H Q => ∃ (p : Addr) (bs : List Bool), xs = [.ref p] ∧ SqL X.K H p (bs.map V.bl) ∧ Q (.bl (bs.all id)) H) := by
  intro pins s σ H xs us Q I r h
  obtain ⟨p, bs, rfl, hq, q⟩ := h
  obtain ⟨u, rfl, rx⟩ := vals1 r
  cases rx
  obtain ⟨its, rv, pl, hz⟩ := I.list hq
  have hl := pl.isList
  have hlt : p < s.heap.objs.size := by obtain ⟨_, e, _⟩ := hl; exact Heap.lt_size e
  have hlen : its.toArray.size = bs.length := by have := rv.length; rw [List.length_map] at this; rw [List.size_toArray]; omega
  refine call_all_walk (wpAny_pyIter_list hl ?_)
  refine ⟨s.heap.objs.size, [s.heap.objs.size, p], [s.heap.objs.size], its.toArray.size, _, _, fun i => (bs[i]?).getD true, rfl, Walks.list (A := X.A.in1) (I.ok.hd hc) _ p (Nat.ne_of_lt hlt) its.toArray,
    ⟨⟨_, Heap.get?_push_size _ rfl, rfl, rfl⟩, hl.push _⟩, fun i v s' Q' E' hP hQ => ?_, fun h' tk hk => ?_⟩
  · obtain ⟨b, e, rfl⟩ := bools_get rv (by simpa using hP)
    simp only [e, Option.getD_some] at hQ
    exact wpAny_truthy_bool hQ
  · rw [hlen, LSm.range_all bs]
    exact ⟨.bl _, H, I.kept (LSm.kept_iter hk), rfl, q⟩
def cvOf : V → Value
  | .ty n => .type n
  | .ref a => .ref a
  | _ => .none
theorem cvOf_rel {y : V} {u : Value} (r : RelV y u) (h : cvOf y ≠ .none) : u = cvOf y := by
  cases y with
  | ty n => exact r
  | ref a => exact r
  | _ => exact absurd rfl h
theorem c_isinst : CallR X (.builtin "isinstance") (fun xs H Q => ∃ x y t b, xs = [x, y] ∧ cvOf y ≠ .none ∧ TyOf X.K H x t ∧ PySem.W.kitOne X.K t (cvOf y) = some b ∧ Q (.bl b) H) := by
  intro pins s σ H xs us Q I r h
  obtain ⟨x, y, t, b, rfl, hy, ty, e, q⟩ := h
  obtain ⟨u, w', rfl, rx, ry⟩ := vals2 r
  rw [cvOf_rel ry hy]
  exact isinst_ok I rx ty e fun tk => ⟨.bl b, H, I.tok _, rfl, q⟩
theorem m_append {o e : Expr} {to : TE} {t : TA} {apos cpos : Pos} (ho : PE X o to) (ha : PA X [e] t) (hbase : attributeBase o "append" X.env (eval o X.env) = eval o X.env := by rfl)
    (hfew : ((backTo cpos (starEach [e] X.env)).all (fun x => !x.1) && (backToKw cpos (keywordEach [] X.env)).all (fun x => x.1.isSome)
      && decide ([e].length + ([] : List Keyword).length + (if ([] : List Keyword).isEmpty then 0 else 1) < 30)) = true := by rfl)
    (hline : (apos.endLine == cpos.line) = true := by rfl) (hs : starEach [e] X.env = (false, eval e X.env) :: starEach [] X.env := by rfl) (hplain : (backTo cpos (starEach [] X.env)).any (·.1) = false := by rfl) :
    PE X (.Call (.Attribute o "append" apos) [e] [] cpos) (tBM X.K "list" rAppend to t) := pe_bm PySem.F.plainAttrs_list PySem.F.slot_list_append PySem.F.type_list_append mt_append ho ha hbase hfew hline hs hplain
end
def Has (P : Program) (w : World) (K : PySem.W.Frag) (mg : Str → Option Value) (base : Heap) (k : Nat) (x : Str) (ps : List Str) (sp : Sp) : Prop :=
  ∃ f fd, FnOk P w K mg base CX0 k f fd ps sp ∧ Binds K fd ps [] ∧ PySem.W.keepIn K (.ref f) = true ∧ mg x = some (.ref f) ∧ ∃ oc od osl, K.lookup f = some ⟨oc, od, .func fd, osl⟩
structure TopFn (K : PySem.W.Frag) (mg : Str → Option Value) (x : Str) (st : Stmt) (ps : List Str) : Prop where
  ex : ∃ f fd, Fun K x x st f fd ∧ Binds K fd ps [] ∧ mg x = some (.ref f)
theorem pe_callD {X : Cx} {j k : Nat} {x : Str} {ps : List Str} {sp : Sp} {e : Expr} {es : List Expr} {t : TA} {p pos : Pos} (D : Has X.prog X.w X.K X.mg X.base j x ps sp) (hr : Room k X.A) (ha : PA X (e :: es) t) (hj : j ≤ k := by decide) (hg : Gl X x := by rfl)
    (hdb : (x == ("__debug__" : Str)) = false := by decide) (he : starEach (e :: es) X.env = (false, eval e X.env) :: starEach es X.env := by rfl) (hpl : (backTo pos (starEach es X.env)).any (·.1) = false := by rfl) :
    PE X (.Call (.Name x p) (e :: es) [] pos) (tCall sp [] E0 t) := by
  obtain ⟨f, fd, F, b, kp, m, _⟩ := D
  exact pe_call F (hr.mono hj) hg m kp b .nil pass0 ha hdb he hpl
theorem TopFn.has {P : Program} {w : World} {K : PySem.W.Frag} {mg : Str → Option Value} {base : Heap} {x : Str} {st : Stmt} {N ps : List Str} {k : Nat} {sp : Sp} (F : TopFn K mg x st ps) (S : FnScope N ps (defScope st)) (len : ∀ vs H Q E, sp vs H Q E → vs.length = ps.length)
    (hbody : ∀ (f : Addr) (cdv : Value) (A : Around) (outer : List Env) (s : Shared) (H : Hp) (vs : List V) (Q : VK) (E : XK), Room k (A.deeper (envOfC x (defScope st) s.heap.objs.size f cdv)) → (A.deeper (envOfC x (defScope st) s.heap.objs.size f cdv)).units + 64 < cLine → sp vs H Q E →
      ∃ t, PSs (cxOf CX0 P w K mg base N x (defScope st) f cdv A outer s H E).nox (defBody st) t ∧ t { nx := fun _ H' => Q .non H', rt := Q } (start N vs) H) : Has P w K mg base (k + 1) x ps sp := by
  obtain ⟨f, fd, F, b, m⟩ := F.ex
  obtain ⟨oc, od, kV, doc, pm, an, cdv, ct, osl, e, lk, hcd⟩ := F.ex
  exact ⟨f, fd, F.ok S len fun cdv A outer s H vs Q E hr h => hbody f cdv A outer s H vs Q E hr hr.units h, b, F.kp, m, oc, od, osl, lk⟩
end L2

set_option Elab.async false
set_option linter.all false
set_option maxRecDepth 100000
namespace L2
open PySem PySem.Spec PyProof.Rows
theorem Same.upd {H : Hp} {p : Addr} (h : H p = none) (o : HO) : Same H (upd H p o) := fun b u q => by rw [upd_ne (ne_of_none q h)]; exact q
theorem Same.tup {K : PySem.W.Frag} {H H' : Hp} {a : Addr} {xs : List V} (e : Same H H') (h : SqT K H a xs) : SqT K H' a xs := by
  rcases h with (h | ⟨o, h⟩) | h
  · exact .inl (.inl (e _ _ h))
  · exact .inl (.inr ⟨o, e _ _ h⟩)
  · exact .inr h
mutual
theorem Same.rep {K : PySem.W.Frag} {H H' : Hp} (e : Same H H') : ∀ {x : V} {d : PyData}, RepD K H x d → RepD K H' x d
  | _, _, .non => .non
  | _, _, .bl b => .bl b
  | _, _, .int i => .int i
  | _, _, .str x => .str x
  | _, _, .lst h r => .lst (e.seq h) (e.repAll r)
  | _, _, .tup h r => .tup (e.tup h) (e.repAll r)
theorem Same.repAll {K : PySem.W.Frag} {H H' : Hp} (e : Same H H') : ∀ {xs : List V} {ds : List PyData}, RepAll K H xs ds → RepAll K H' xs ds
  | _, _, .nil => .nil
  | _, _, .cons h r => .cons (e.rep h) (e.repAll r)
end
def cFr (fr : List Nat) (σ : St) : St := fr.map fun j => (σ[j]?).getD none
theorem comp_turns {J : It} {n : Nat} {x : Nat → V} {fr : List Nat} {tf : CB → TT} {te : CB → TE} {Q : VK} {σ : St} {H1 : Hp} (p : Nat → Bool) (f : Nat → V) (hn : n < sizeLine)
    (stop : ∀ H, Same H1 H → J.stop n H) (go : ∀ i H, i < n → Same H1 H → J.go i H) (yld : ∀ i H v H', i < n → Same H1 H → J.yld i H v H' → H' = H ∧ v = x i)
    (hf : ∀ b i H (R : Bool → Hp → Prop), i < n → Same H1 H → (∀ H', Same H H' → R (p i) H') → tf b (some (x i) :: cFr fr σ) H R)
    (he : ∀ b i H (R : VK), i < n → p i = true → Same H1 H → (∀ H', Same H H' → R (f i) H') → te b (some (x i) :: cFr fr σ) H R)
    (fin : ∀ D H, H1 D = none → Same H1 H → H D = some (.lst (((List.range n).filter p).map f)) → Q (.ref D) H) : tBlock J 1 fr (fun _ => gName 0) tf te Q σ H1 := by
  refine ⟨fun b D hD => ?_⟩
  have lenf : ∀ i, (((List.range i).filter p).map f).length ≤ i := fun i => by
    rw [List.length_map]
    exact Nat.le_trans (List.length_filter_le _ _) (Nat.le_of_eq List.length_range)
  refine ⟨fun i m σ' H' => m = n - i ∧ i ≤ n ∧ (∃ v0, σ' = v0 :: cFr fr σ) ∧ Same H1 H' ∧ H' D = some (.lst (((List.range i).filter p).map f)), ⟨n, rfl, Nat.zero_le _, ⟨none, rfl⟩, Same.upd hD _, upd_same⟩, ?_⟩
  rintro i m σ' H' ⟨rfl, hi, ⟨v0, rfl⟩, sm, hl⟩
  by_cases hlt : i < n
  · refine .inr ⟨go i H' hlt sm, fun σ2 H2 => (∃ v0, σ2 = v0 :: cFr fr σ) ∧ Same H1 H2 ∧ H2 D = some (.lst (((List.range (i + 1)).filter p).map f)), fun σ2 H2 q => ⟨n - (i + 1), by omega, rfl, hlt, q⟩, fun v H2 y => ?_⟩
    obtain ⟨rfl, rfl⟩ := yld i H' v H2 hlt sm y
    show tf b (some (x i) :: cFr fr σ) _ _
    refine hf b i _ _ hlt sm fun H3 s3 => ?_
    have e1 : (List.range (i + 1)).filter p = (List.range i).filter p ++ (if p i then [i] else []) := by
      rw [List.range_succ, List.filter_append]
      congr 1
      cases hp : p i <;> simp [hp]
    cases hp : p i with
    | false =>
      rw [if_neg Bool.false_ne_true]
      refine ⟨⟨_, rfl⟩, sm.trans s3, ?_⟩
      rw [s3 _ _ hl, e1, hp]
      simp
    | true =>
      rw [if_pos rfl]
      refine he b i _ _ hlt hp (sm.trans s3) fun H4 s4 => ⟨_, s4 _ _ (s3 _ _ hl), ?_, ⟨_, rfl⟩, ?_, ?_⟩
      · exact Nat.lt_of_le_of_lt (lenf i) (Nat.lt_trans hlt hn)
      · have sm4 : Same H1 H4 := sm.trans (s3.trans s4)
        intro c o q
        by_cases hc : c = D
        · rw [hc, hD] at q; cases q
        · rw [upd_ne hc]; exact sm4 c o q
      · rw [upd_same, e1, hp]
        simp
  · have e : i = n := by omega
    subst e
    exact .inl ⟨stop H' sm, fin D H' hD sm hl⟩
theorem map_range {α : Type} {β : Type} (xs : List α) (d : α) (f : α → β) : (List.range xs.length).map (fun i => f (xs.getD i d)) = xs.map f := by
  apply List.ext_getElem?
  intro i
  rw [List.getElem?_map, List.getElem?_map]
  by_cases h : i < xs.length
  · rw [List.getElem?_range h, List.getElem?_eq_getElem h]
    simp [List.getD, List.getElem?_eq_getElem h]
  · rw [List.getElem?_eq_none (by simpa using h), List.getElem?_eq_none (by simpa using h)]
    rfl
theorem filter_range {α : Type} {β : Type} (p : α → Bool) (f : α → β) (d : α) : ∀ (xs : List α), ((List.range xs.length).filter fun i => p (xs.getD i d)).map (fun i => f (xs.getD i d)) = (xs.filter p).map f := by
  intro xs
  have e := map_range xs d id
  have e2 : xs = (List.range xs.length).map fun i => xs.getD i d := by simpa using e.symm
  have e3 : xs.filter p = ((List.range xs.length).filter fun i => p (xs.getD i d)).map fun i => xs.getD i d := by
    conv => lhs; rw [e2]
    rw [List.filter_map]
    rfl
  rw [e3, List.map_map]
  rfl
theorem comp_list {K : PySem.W.Frag} {a : Addr} {xs : List V} {fr : List Nat} {tf : CB → TT} {te : CB → TE} {Q : VK} {σ : St} {H1 : Hp} (p : V → Bool) (f : V → V) (hx : SqL K H1 a xs) (hn : xs.length < sizeLine)
    (hf : ∀ b x H (R : Bool → Hp → Prop), x ∈ xs → Same H1 H → (∀ H', Same H H' → R (p x) H') → tf b (some x :: cFr fr σ) H R)
    (he : ∀ b x H (R : VK), x ∈ xs → p x = true → Same H1 H → (∀ H', Same H H' → R (f x) H') → te b (some x :: cFr fr σ) H R)
    (fin : ∀ D H, H1 D = none → Same H1 H → H D = some (.lst ((xs.filter p).map f)) → Q (.ref D) H) : tBlock (Itl K a) 1 fr (fun _ => gName 0) tf te Q σ H1 := by
  have mem : ∀ i, i < xs.length → xs.getD i .non ∈ xs := fun i h => by
    rw [List.getD_eq_getElem?_getD, List.getElem?_eq_getElem h]
    exact List.getElem_mem h
  refine comp_turns (x := fun i => xs.getD i .non) (fun i => p (xs.getD i .non)) (fun i => f (xs.getD i .non)) hn (fun H s => ⟨xs, s.seq hx, Nat.le_refl _⟩) (fun i H h s => ⟨xs, xs[i], s.seq hx, List.getElem?_eq_getElem h⟩)
    (fun i H v H' h s y => ⟨y.1, ?_⟩) (fun b i H R h s k => hf b _ H R (mem i h) s k) (fun b i H R h hp s k => he b _ H R (mem i h) hp s k) fun D H hD s e => fin D H hD s ?_
  · have := y.2 xs (s.seq hx)
    rw [List.getD_eq_getElem?_getD, this]
    rfl
  · rw [e, filter_range p f]
theorem RepAll.ints {K : PySem.W.Frag} {H : Hp} : ∀ ns : List Int, RepAll K H (ns.map V.int) (ns.map PyData.int)
  | [] => .nil
  | n :: r => .cons (.int n) (RepAll.ints r)
theorem shaped_ints (ns : List Int) : SeqAt.shaped (.list (ns.map PyData.int)) = true := by
  unfold SeqAt.shaped
  rw [Bool.and_eq_true]
  constructor
  · exact PySem.W.ke_canLayAll0 ns
  · have e : PyData.depth (.list (ns.map PyData.int)) = PyData.depthAll (ns.map PyData.int) + 1 := rfl
    rw [e, PySem.W.ke_depthAll]
    rfl
theorem eqv_ints (ns ms : List Int) : PyData.eqv (.list (ns.map PyData.int)) (.list (ms.map PyData.int)) = decide (ns = ms) := PySem.W.ked_eqvAll ns ms
section
variable {X : Cx}
def rSlAny (K : PySem.W.Frag) : V → Option Int → Option Int → Hp → VK → Prop := fun x lo hi H Q => rSlL K x lo hi H Q ∨ rSlT K x lo hi H Q
theorem sl_any : SlR X (rSlAny X.K) := sl_list.or sl_tup
end
theorem topFn_mk {K : PySem.W.Frag} {mg : Str → Option Value} {h : Heap} {x : Str} {st : Stmt} {ps : List Str} {f : Addr} {oc : Value} {od an : Option Addr} {osl : Array (Option Value)} {kV doc pm cdv ct : Value} (X : K.In h) (G : h.Ns mainGlobals mg)
    (a : PySem.W.nsIn K mainGlobals x = some (some (.ref f))) (l : K.lookup f = some ⟨oc, od, .func (PySem.W.fnOf x x (defArgs st) (defBody st) (defScope st) .none kV doc pm an cdv ct), osl⟩) (c : PySem.W.codeIn K cdv x = true) (k : PySem.W.keepIn K (.ref f) = true)
    (hb : ∀ (kV doc pm : Value) (an : Option Addr) (cdv ct : Value) (us : List Value), us.length = ps.length → bindArgs (PySem.W.fnOf x x (defArgs st) (defBody st) (defScope st) .none kV doc pm an cdv ct) ⟨us, []⟩ = pure (ps.zip us)) : TopFn K mg x st ps :=
  ⟨f, _, fun_mk l c k, (fun_mk l c k).binds hb, PySem.W.mg_of X G a⟩
theorem has_at {P : Program} {w : World} {K : PySem.W.Frag} {mg : Str → Option Value} {base : Heap} {k : Nat} {x : Str} {ps : List Str} {sp : Sp} {f : Addr} {oc : Value} {od : Option Addr} {osl : Array (Option Value)} {fd : FuncData} (D : Has P w K mg base k x ps sp) (m : mg x = some (.ref f))
    (l : K.lookup f = some ⟨oc, od, .func fd, osl⟩) : FnOk P w K mg base CX0 k f fd ps sp := by
  obtain ⟨g, gd, F, b, kp, mg', _, _, _, l'⟩ := id D
  rw [m] at mg'
  cases mg'
  rw [l] at l'
  cases l'
  exact F
end L2

set_option Elab.async false
set_option linter.all false
set_option maxRecDepth 100000
namespace L2
open PySem PySem.Spec PyProof.Rows
section
variable {prog : Program} {w : World} {A : Around} {R : Result → Shared → Prop} {I l : Addr} {its : Array Value} {ns : List Int} {St : Nat → Heap → Prop} {fp wr : List Addr} {d : Value}
end
section
variable {X : Cx}
end
end L2

set_option Elab.async false
set_option linter.all false
set_option maxRecDepth 100000
namespace L2
open PySem PySem.Spec PyProof.Rows
section
variable {X : Cx}
theorem sl_str : SlR X rSlS := by
  intro pins s σ H x v vl vu lo hi sl Q I rx hs pl pu h
  obtain ⟨z, rfl, hz, q⟩ := h
  obtain ⟨t, rfl⟩ := rx
  have fin : ∀ t' k, EP X pins σ Q (.str (Txt.slice z lo hi) t') { s with toks := k } := fun t' k => ⟨.str _, H, I.tok _, ⟨_, rfl⟩, q⟩
  have len := Nat.le_trans (Txt.slice_le z lo hi) hz
  obtain ⟨o, ho, hc, hd⟩ := hs
  refine ⟨"str", _, PySem.F.slot_str_getitem.lookup, typeIs_str _ _ _, ?_⟩
  cases pl with
  | none =>
    cases pu with
    | none => exact wpAny_getItem_str_slice (l := Option.none) (u := Option.none) (st := Option.none) ⟨o, ho, hc, hd⟩ rfl (post_val_or_str ⟨len, fun t' k => fin t' k⟩)
    | int j uj => exact wpAny_getItem_str_slice (l := Option.none) (u := some (j, uj)) (st := Option.none) ⟨o, ho, hc, hd⟩ rfl (post_val_or_str ⟨len, fun t' k => fin t' k⟩)
  | int i ui =>
    cases pu with
    | none => exact wpAny_getItem_str_slice (l := some (i, ui)) (u := Option.none) (st := Option.none) ⟨o, ho, hc, hd⟩ rfl (post_val_or_str ⟨len, fun t' k => fin t' k⟩)
    | int j uj => exact wpAny_getItem_str_slice (l := some (i, ui)) (u := some (j, uj)) (st := Option.none) ⟨o, ho, hc, hd⟩ rfl (post_val_or_str ⟨len, fun t' k => fin t' k⟩)
def fSl (K : PySem.W.Frag) : V → Option Int → Option Int → Hp → VK → Prop := fun x lo hi H Q => match x with
  | .str z => z.length ≤ sizeLine ∧ Q (.str (Txt.slice z lo hi)) H
  | x => rSlL K x lo hi H Q ∨ rSlT K x lo hi H Q
theorem sl_all : SlR X (fSl X.K) := by
  intro pins s σ H x v vl vu lo hi sl Q I rx hs pl pu h
  by_cases hx : ∃ z, x = .str z
  · obtain ⟨z, rfl⟩ := hx
    exact sl_str pins s σ H _ v vl vu lo hi sl Q I rx hs pl pu ⟨z, rfl, h.1, h.2⟩
  · refine sl_any pins s σ H x v vl vu lo hi sl Q I rx hs pl pu ?_
    cases x <;> first | exact h | exact absurd ⟨_, rfl⟩ hx
theorem pe_gint {x : Str} {z : Int} {pos : Pos} (h : ∃ t, X.mg x = some (.int z t)) (hg : Gl X x := by rfl) (hd : (x == ("__debug__" : Str)) = false := by decide) : PE X (.Name x pos) (tC (.int z)) := by
  obtain ⟨t, e⟩ := h
  exact pe_glob hg e ⟨t, rfl⟩ hd
end
end L2

set_option Elab.async false
set_option linter.all false
set_option maxRecDepth 100000
namespace L2
open PySem PySem.Spec PyProof.Rows
section
variable {X : Cx} {tg : Expr}
theorem pe_gtup {x : Str} {pos : Pos} {a : Addr} (h : X.mg x = some (.ref a)) (hg : Gl X x := by rfl) (hd : (x == ("__debug__" : Str)) = false := by decide) : PE X (.Name x pos) (tC (.ref a)) := pe_glob hg h rfl hd
end
end L2

set_option Elab.async false
set_option linter.all false
set_option maxRecDepth 100000
namespace L2
open PySem PySem.Spec PyProof.Rows
end L2

set_option Elab.async false
set_option linter.all false
set_option maxRecDepth 100000
set_option maxHeartbeats 4000000
namespace L2
open PySem PySem.Spec PyProof.Rows
open PySem.W (Looks InstAt looks_findIn looks_mroIn looks_clsIn looks_find)
abbrev VEs : List Value := [.type "ValueError", .type "Exception", .type "BaseException", .type "object"]
def upIn : List Value → Bool
  | [] => false
  | v :: r => (v :: r) == VEs || (match v with | .ref _ => upIn r | _ => false)
theorem up_has {T : String} (hT : VEs.contains (.type T) = true) : ∀ {l : List Value}, upIn l = true → l.contains (.type T) = true
  | [], h => by cases h
  | v :: r, h => by
    unfold upIn at h
    rcases Bool.or_eq_true_iff.mp h with q | q
    · rw [beq_iff_eq.mp q]; exact hT
    · split at q
      · rw [List.contains_cons, up_has hT q, Bool.or_true]
      · cases q
theorem up_pass (self : Value) : ∀ {l : List Value}, upIn l = true → refuseLoop self "__setattr__" l = pure ()
  | [], h => by cases h
  | v :: r, h => by
    unfold upIn at h
    rcases Bool.or_eq_true_iff.mp h with q | q
    · rw [beq_iff_eq.mp q]; exact PySem.F.store_ValueError.passes self
    · split at q
      · rw [refuseLoop_ref]; exact up_pass self q
      · cases q
structure XCl (K : PySem.W.Frag) (C : Addr) : Prop where
  ex : ∃ (nm q : Str) (N : Addr) (bs bm : List Value) (sn : List Str) (sub : List Value) (ab : Bool) (col : Option Bool) (dd : Option Addr) (k0 k1 k2 k3 k5 : Option Value),
    K.lookup C = some (excClassObj nm q C N bs bm true sn sub ab col dd k0 k1 k2 k3 k5 "ValueError.__new__") ∧ upIn bm = true ∧ ∀ h : Heap, K.In h → OwnTail h VEs bm
  ga : PySem.W.findIn K (.ref C) "__getattribute__" = some (some (.builtin "BaseException.__getattribute__"))
  gh : PySem.W.findIn K (.ref C) "__getattr__" = some none
  sa : PySem.W.findIn K (.ref C) "__setattr__" = some (some (.builtin "object.__setattr__"))
  cl : PySem.W.findIn K (.ref C) "__class__" = some (some (.builtin "object.__class__"))
  cg : PySem.W.specialIn K (.builtin "object.__class__") "__get__" = some (some (.builtin "getset_descriptor.__get__"))
  ct : PySem.W.takesIn K (.builtin "object.__class__") = some true
  kp : PySem.W.keepIn K (.ref C) = true
section
variable {K : PySem.W.Frag} {C : Addr}
theorem XCl.cls (c : XCl K C) : ∃ cd bm, PySem.W.clsIn K C = some cd ∧ cd.mro = .ref C :: bm ∧ upIn bm = true ∧ cd.hasDict = true := by
  obtain ⟨nm, q, N, bs, bm, sn, sub, ab, col, dd, k0, k1, k2, k3, k5, lk, up, _⟩ := c.ex
  exact ⟨_, bm, by unfold PySem.W.clsIn; rw [lk], rfl, up, rfl⟩
theorem XCl.mro (c : XCl K C) {T : String} (hT : VEs.contains (.type T) = true) : PySem.W.mroIn K C (.type T) = some true := by
  obtain ⟨cd, bm, h1, h2, up, _⟩ := c.cls
  unfold PySem.W.mroIn
  rw [h1, Option.bind_some, h2, List.contains_cons, up_has hT up, Bool.or_true]
  rfl
theorem XCl.at (c : XCl K C) {h : Heap} (X : K.In h) : ∃ (nm q : Str) (N : Addr) (bs bm : List Value) (sn : List Str) (sub : List Value) (ab : Bool) (col : Option Bool) (dd : Option Addr) (k0 k1 k2 k3 k5 : Option Value),
    h.get? C = some (excClassObj nm q C N bs bm true sn sub ab col dd k0 k1 k2 k3 k5 "ValueError.__new__") ∧ upIn bm = true ∧ OwnTail h VEs bm := by
  obtain ⟨nm, q, N, bs, bm, sn, sub, ab, col, dd, k0, k1, k2, k3, k5, lk, up, tl⟩ := c.ex
  exact ⟨nm, q, N, bs, bm, sn, sub, ab, col, dd, k0, k1, k2, k3, k5, X _ _ lk, up, tl h X⟩
end
section
variable {prog : Program} {w : World} {A : Around} {E : Value → Shared → Prop} {s : Shared} {K : PySem.W.Frag} {x C : Addr} {ox : Obj} {od : Option Obj} {name : Str}
theorem bex_kind : builtinKind "BaseException.__getattribute__" = some .slot := by decide +kernel
theorem bex_split : splitId "BaseException.__getattribute__" = some ("BaseException", "__getattribute__") := by decide +kernel
theorem xget_by {fill expr : Bool} {tk : Tok} {Q : Value → Shared → Prop} (X : K.In s.heap) (c : XCl K C) (I : InstAt s.heap x ox C od)
    (h : codeAny (model prog w) A (.call (.builtin "BaseException.__getattribute__") ⟨[.ref x, .str name tk], []⟩) (fun r s' => match r with | .ok (.ret v) => PySem.W.handedIn v = true ∧ Q v s' | _ => False) s) :
    wpAny (model prog w) A (getAttrBy (.ref x) (.str name tk) fill expr) Q E s := by
  obtain ⟨hp, g, d, t, os⟩ := s
  have L0 := I.type (M := model prog w)
  have L1 := looks_findIn (M := model prog w) X c.ga
  have L2 := looks_findIn (M := model prog w) X c.gh
  unfold getAttrBy
  refine wpAny_holding (wpAny_bind (L0.at (wpAny_bind (L1.at ?_))))
  have e0 : (Value.builtin "BaseException.__getattribute__" == Value.builtin "object.__getattribute__") = false := by decide +kernel
  dsimp only
  rw [if_neg (by rw [e0, Bool.and_false]; exact Bool.false_ne_true)]
  unfold getAttrByItsOwn
  refine wpAny_bind (show wpAny _ _ (typeLookup (.ref C) "__getattr__") _ _ _ from L2.at ?_)
  refine wpAny_bind (wpAny_attempt (wpAny_holding ?_))
  have e : callGetattribute (.ref x) (.str name tk) (.builtin "BaseException.__getattribute__") expr = boundAndCalled (.builtin "BaseException.__getattribute__") (.ref x) (.str name tk) := by
    unfold callGetattribute; cases expr <;> rfl
  rw [e]
  unfold boundAndCalled
  rw [PySem.F.attr_ValueError.ga.bind]
  refine wpAny_bind (wpAny_pure (wpAny_call (codeAny_mono h fun r s' z => ?_)))
  cases r with
  | error q => exact z.elim
  | ok fl =>
    cases fl with
    | ret v =>
      show wpAny _ _ (handedOut v) _ _ _
      rw [PySem.W.handedOut_of z.1]
      exact wpAny_pure z.2
    | next => exact z.elim
    | brk => exact z.elim
    | cont => exact z.elim
theorem xget_call {tk : Tok} {R : Result → Shared → Prop} (X : K.In s.heap) (c : XCl K C) (I : InstAt s.heap x ox C od)
    (h : wpAny (model prog w) A.in1 (Builtin.«object.__getattribute__» ⟨[.ref x, .str name tk], []⟩) (fun fin s' => match fin with | .done f => R (.ok f) s' | .again c' => c'.quiet = true ∧ codeAny (model prog w) A c' R s') (fun e s' => R (.error e) s') s) :
    codeAny (model prog w) A (.call (.builtin "BaseException.__getattribute__") ⟨[.ref x, .str name tk], []⟩) R s := by
  have sub : Looks (model prog w) s.heap (isInstance (.ref x) (.type "BaseException")) true := I.type.andThen (looks_mroIn X (c.mro (by decide +kernel)))
  exact codeAny_call_builtin PySem.F.attr_ValueError.ga.plain PySem.F.entry_bexc_ga (@PySem.W.check_slot (model prog w) _ _ s "BaseException.__getattribute__" "BaseException" "__getattribute__" (.ref x) [.str name tk] [] _ bex_kind bex_split sub (PySem.F.args_bexc_ga _ _) h)
theorem xget_val {tk : Tok} {v : Value} {R : Result → Shared → Prop} (X : K.In s.heap) (c : XCl K C) (I : InstAt s.heap x ox C od) (hf : PySem.W.findObj K C od name = some (.value v)) (h : R (.ok (.ret v)) s) :
    codeAny (model prog w) A (.call (.builtin "BaseException.__getattribute__") ⟨[.ref x, .str name tk], []⟩) R s := by
  refine xget_call X c I ?_
  obtain ⟨hp, g, d, t, os⟩ := s
  have L0 := I.type (M := model prog w)
  have L1 := looks_find (M := model prog w) X I hf
  refine wpAny_bind (wpAny_pure (wpAny_bind (wpAny_pure (wpAny_bind (L0.at (wpAny_bind (L1.at ?_)))))))
  exact wpAny_pure h
theorem xget {expr : Bool} {v : Value} {Q : Value → Shared → Prop} (X : K.In s.heap) (c : XCl K C) (I : InstAt s.heap x ox C od) (hf : PySem.W.findObj K C od name = some (.value v)) (hh : PySem.W.handedIn v = true) (h : Q v { s with toks := s.toks + 1 }) :
    wpAny (model prog w) A (getAttr (.ref x) name expr) Q E s := by
  unfold getAttr
  refine wpAny_bind (wpAny_mkText ?_)
  exact xget_by (s := { s with toks := s.toks + 1 }) X c I (xget_val (s := { s with toks := s.toks + 1 }) X c I hf ⟨hh, h⟩)
theorem xcls {Q : Option Value → Shared → Prop} (X : K.In s.heap) (c : XCl K C) (I : InstAt s.heap x ox C od) (h : Q (some (.ref C)) { s with toks := s.toks + 1 }) : wpAny (model prog w) A (getAttr? (.ref x) "__class__") Q E s := by
  obtain ⟨cd, bm, hc, _⟩ := c.cls
  have hf : PySem.W.findObj K C od "__class__" = some (.bind (.builtin "getset_descriptor.__get__") (.builtin "object.__class__")) := by
    unfold PySem.W.findObj
    rw [hc, Option.bind_some, c.cl, Option.bind_some]
    simp [c.cg, c.ct]
  unfold getAttr? getAttrBy?
  refine wpAny_bind (wpAny_mkText (wpAny_bind (wpAny_attempt ?_)))
  refine xget_by (s := { s with toks := s.toks + 1 }) X c I (xget_call (s := { s with toks := s.toks + 1 }) X c I ?_)
  obtain ⟨hp, g, d, t, os⟩ := s
  have L0 := I.type (M := model prog w)
  have L1 := looks_find (M := model prog w) X I hf
  refine wpAny_bind (wpAny_pure (wpAny_bind (wpAny_pure (wpAny_bind (L0.at (wpAny_bind (L1.at ?_)))))))
  show wpAny _ _ (Builtin.ObjectAttr.bindTo _ _ _ _) _ _ _
  unfold Builtin.ObjectAttr.bindTo
  refine wpAny_bind (wpAny_holding (wpAny_call (PySem.W.class_get (ox := ox) (od := od) X I (c.mro (by decide +kernel)) ?_)))
  exact wpAny_pure ⟨rfl, wpAny_pure h⟩
theorem kitx_exc (c : XCl K C) : PySem.W.KitX K (.ref x) (.ref C) (fun h => InstAt h x ox C od) where
  ty := fun _ _ _ I => I.type
  it := fun _ _ X _ => by
    obtain ⟨nm, q, N, bs, bm, sn, sub, ab, col, dd, k0, k1, k2, k3, k5, lk, _⟩ := c.ex
    intro A' Q' E' s' k z
    unfold isType loadHead
    exact wpAny_bind (wpAny_loadPart (k _ _ (X _ _ lk)) (wpAny_pure z))
  ne := fun h tp dd its n sl X htp => by
    refine Bool.eq_false_iff.mpr fun q => ?_
    obtain ⟨nm, q', N, bs, bm, sn, sub, ab, col, dd, k0, k1, k2, k3, k5, lk, _⟩ := c.ex
    have e : C = tp := Value.ref.inj (beq_iff_eq.mp q)
    subst e
    have z := congrArg (fun o : Obj => o.data) (Option.some.inj ((X _ _ lk).symm.trans htp))
    cases z
  ca := fun X I k => xcls X c I k
theorem xosa {tk : Tok} {v : Value} {R : Result → Shared → Prop} (X : K.In s.heap) (c : XCl K C) (I : InstAt s.heap x ox C od) (n : NoAttr K C name)
    (h : wpAny (model prog w) A.in1 (Builtin.ObjectAttr.storeInOwnDict (.ref x) (.ref C) (.str name tk) name v false)
      (fun fin s' => match fin with | .done f => R (.ok f) s' | .again c' => c'.quiet = true ∧ codeAny (model prog w) A c' R s') (fun e s' => R (.error e) s') s) :
    codeAny (model prog w) A (.call (.builtin "object.__setattr__") ⟨[.ref x, .str name tk, v], []⟩) R s := by
  have SF := PySem.F.store_object
  obtain ⟨cd, bm, hc, hm, up, _⟩ := c.cls
  have sub : Looks (model prog w) s.heap (isInstance (.ref x) (.type "object")) true := I.type.andThen (looks_mroIn X (c.mro (by decide +kernel)))
  refine codeAny_call_builtin SF.slot.plain SF.entry (@PySem.W.check_slot (model prog w) _ _ s "object.__setattr__" "object" "__setattr__" (.ref x) [.str name tk, v] [] _ SF.kind SF.split sub (SF.args (.ref x) (.str name tk) v) ?_)
  have hmro : Looks (model prog w) s.heap (mroOf (.ref C)) (.ref C :: bm) := by rw [← hm]; exact (looks_clsIn X hc).andThen .now
  have hfind : Looks (model prog w) s.heap (typeLookup (.ref C) name) none := looks_findIn X n
  rw [PySem.W.osa_eq, refuse_eq]
  refine wpAny_bind (wpAny_bind (I.type.here (wpAny_bind (hmro.here ?_))))
  rw [refuseLoop_ref, up_pass _ up]
  refine wpAny_pure (wpAny_bind (I.type.here (wpAny_bind (hfind.here (wpAny_bind (wpAny_pure ?_))))))
  exact h
end
def XcAt (e C : Addr) (od : Option Addr) (fl : Bool) (h : Heap) : Prop := ∃ ob vs, h.get? e = some ob ∧ ob.cls = .ref C ∧ ob.dict = od ∧ ob.data = .fields vs ∧ 5 < vs.size ∧ (fl = false → vs[1]? = some .none)
def xo (e C : Addr) (od : Option Addr) (fl : Bool) : HO := .ext (XcAt e C od fl)
def XfAt (dx : Addr) (fs : List (Str × V)) (h : Heap) : Prop := fs.length ≤ 1000 ∧ ∃ mA, h.Ns1 dx mA ∧ (∀ f, RelO (fs.lookup f) (mA f)) ∧ PySem.Within mA (fs.map (·.1))
def xf (dx : Addr) (fs : List (Str × V)) : HO := .ext (XfAt dx fs)
section
variable {P : Program} {w : World} {H : Hp} {h : Heap} {e C dx : Addr} {od : Option Addr} {fl : Bool} {fs : List (Str × V)}
theorem xo_ok (x : XcAt e C od fl h) : ObjOk P w H h e (xo e C od fl) := by
  obtain ⟨ob, vs, h1, r⟩ := id x
  exact ⟨x, ⟨ob, h1⟩, fun h1 h2 ⟨ob, vs, g, r⟩ k => ⟨ob, vs, k _ g, r⟩⟩
theorem xf_ok (x : XfAt dx fs h) : ObjOk P w H h dx (xf dx fs) := by
  obtain ⟨_, mA, ⟨o, _, _, h1, _⟩, _⟩ := id x
  exact ⟨x, ⟨o, h1⟩, fun h1 h2 ⟨z, mA, n, r⟩ k => ⟨z, mA, n.at k, r⟩⟩
end
section
variable {X : Cx} {pins : List (Addr × Obj)} {σ : St} {H : Hp} {s : Shared} {a C dx : Addr} {od : Option Addr} {fl : Bool} {fs : List (Str × V)} {f : Str} {v : V} {A : Around} {E : Value → Shared → Prop}
theorem Inv.xc (I : Inv X pins σ H s) (e : H a = some (xo a C od fl)) : XcAt a C od fl s.heap := (show ObjOk X.prog X.w H s.heap a (xo a C od fl) from I.hok a _ e).1
theorem Inv.xf (I : Inv X pins σ H s) (e : H dx = some (L2.xf dx fs)) : XfAt dx fs s.heap := (show ObjOk X.prog X.w H s.heap dx (L2.xf dx fs) from I.hok dx _ e).1
theorem XcAt.inst {h : Heap} (x : XcAt a C (some dx) fl h) {o : Obj} (q : h.get? dx = some o) : ∃ ox, InstAt h a ox C (some o) ∧ ox.dict = some dx := by
  obtain ⟨ob, vs, h1, h2, h3, h4, _⟩ := x
  exact ⟨ob, ⟨h1, h2, by unfold PySem.W.notCls; rw [h4], by rw [h3]; exact q⟩, h3⟩
theorem XcAt.inst0 {h : Heap} (x : XcAt a C none fl h) : ∃ ox, InstAt h a ox C none ∧ ox.dict = none := by
  obtain ⟨ob, vs, h1, h2, h3, h4, _⟩ := x
  exact ⟨ob, ⟨h1, h2, by unfold PySem.W.notCls; rw [h4], by rw [h3]; trivial⟩, h3⟩
theorem XCl.hd {K : PySem.W.Frag} (c : XCl K C) : PySem.W.hasDictIn K C = true := by
  obtain ⟨cd, bm, h1, _, _, h4⟩ := c.cls
  unfold PySem.W.hasDictIn
  rw [h1]
  exact h4
theorem Inv.xany (I : Inv X pins σ H s) (ea : H a = some (xo a C od fl)) (ed : ∀ dx, od = some dx → ∃ fs, H dx = some (L2.xf dx fs)) : ∃ ox oo, InstAt s.heap a ox C oo := by
  cases od with
  | none => obtain ⟨ox, J, _⟩ := (I.xc ea).inst0; exact ⟨ox, none, J⟩
  | some dx =>
    obtain ⟨fs, q⟩ := ed dx rfl
    obtain ⟨_, mA, ⟨o, _, _, h1, _⟩, _⟩ := I.xf q
    obtain ⟨ox, J, _⟩ := (I.xc ea).inst h1
    exact ⟨ox, some o, J⟩
theorem xgetattr_ok {b : Bool} {Q : Value → Shared → Prop} (I : Inv X pins σ H s) (ea : H a = some (xo a C (some dx) fl)) (ed : H dx = some (L2.xf dx fs)) (c : XCl X.K C) (n : NoAttr X.K C f) (l : fs.lookup f = some v)
    (h : ∀ u s', Inv X pins σ H s' → RelV v u → Q u s') : wpAny (model X.prog X.w) A (getAttr (.ref a) f b) Q E s := by
  obtain ⟨_, mA, ns, r, _⟩ := I.xf ed
  obtain ⟨od, ho, hl⟩ := lookIn_ns ns
  obtain ⟨ox, J, _⟩ := (I.xc ea).inst ho
  obtain ⟨u, hu, ru⟩ := RelO.some_of (v := v) (o := mA f) (by rw [← l]; exact r f)
  exact xget I.kIn c J (PySem.W.findObj_own c.hd n rfl (by rw [hl, hu])) (handed_of ru) (h u _ (I.tok _) ru)
theorem xsetattr0_ok {y : V} {u : Value} {Q : Unit → Shared → Prop} (I : Inv X pins σ H s) (ea : H a = some (xo a C none fl)) (c : XCl X.K C) (n : NoAttr X.K C f) (ry : RelV y u)
    (h : ∀ dx s', H dx = none → dx ≠ a → Inv X pins σ (upd (upd H a (xo a C (some dx) fl)) dx (L2.xf dx [(f, y)])) s' → Q () s') : wpAny (model X.prog X.w) A (setAttr (.ref a) f u) Q E s := by
  obtain ⟨ob, vs, h1, h2, h3, h4, h5, h6⟩ := id (I.xc ea)
  obtain ⟨ox, J, _⟩ := (I.xc ea).inst0
  obtain ⟨cd, bm, hc, hm, up, hd⟩ := c.cls
  refine PySem.W.set_plain I.kIn J c.sa (xosa (s := { s with toks := s.toks + 1 }) I.kIn c J n ?_)
  obtain ⟨hp, g, d, t, os⟩ := s
  obtain ⟨oc, od, oda, osl⟩ := ob
  dsimp only at h2 h3 h4
  subst h2 h3 h4
  have ne : hp.objs.size ≠ a := Nat.ne_of_gt (Heap.lt_size h1)
  refine wpAny_bind (wpAny_pure (wpAny_bind (wpAny_bind (wpAny_loadPart h1 (wpAny_bind (Looks.here (s := ⟨hp, g, d, t + 1, os⟩) (looks_clsIn I.kIn hc) ?_))))))
  rw [hd]
  have h1' : (hp.push { cls := .type "dict", data := .dict #[] }).get? a = some ⟨.ref C, none, .fields vs, osl⟩ := Heap.get?_push_of_some _ h1
  refine wpAny_bind (wpAny_alloc' (wpAny_bind (wpAny_update' h1' (wpAny_pure ?_))))
  refine wpAny_bind (wpAny_pure (wpAny_bind ?_))
  have hgd : ((hp.push { cls := .type "dict", data := .dict #[] }).update a fun o => { o with dict := some hp.objs.size }).get? hp.objs.size = some { cls := .type "dict", data := .dict #[] } :=
    (Heap.get?_update_other _ _ (Ne.symm ne)).trans (Heap.get?_push_size _ rfl)
  have hnd : ((hp.push { cls := .type "dict", data := .dict #[] }).update a fun o => { o with dict := some hp.objs.size }).Ns hp.objs.size (fun _ => none) := ⟨_, #[], _, hgd, rfl, fun e he => absurd he (by simp), fun _ => rfl⟩
  refine wpAny_nsSet1 (Heap.Ns1.of_empty hnd) fun h' hn' hs => ?_
  obtain ⟨oD, esD, epD, hoD, hdD, hcD⟩ := hn'.count (Within.cons f u Within.nil)
  refine wpAny_bind (wpAny_lookBehind hoD (by rw [hdD]; exact pastItsLine_dict (Nat.le_trans hcD (by rw [sizeLine_eq, List.length_cons, List.length_nil]; omega))) ?_)
  refine wpAny_pure (h hp.objs.size _ (I.hok.fresh (Nat.le_refl _)) ne ?_)
  have ha2 : ∀ k, (hp.update a k).objs.size = hp.objs.size := fun k => Heap.size_after_update ..
  have I1 := I.write (x := a) (e := a) (o := xo a C (some hp.objs.size) fl) (h' := hp.update a fun o => { o with dict := some hp.objs.size }) (t' := t) (by rw [ea]; exact True.intro) (.inl rfl)
    (fun b q hb z => (Heap.get?_update_other _ _ (Ne.symm hb)).trans z) ⟨_, Heap.get?_update_self _ h1 rfl⟩ (xo_ok ⟨_, vs, Heap.get?_update_self _ h1 rfl, rfl, rfl, rfl, h5, h6⟩)
  have I2 := I1.laid (a := hp.objs.size) (o := L2.xf hp.objs.size [(f, y)]) (h' := h') (t' := t + 1 + 1) (fun b q z => ?_) (Nat.le_of_eq (ha2 _)) (xf_ok ⟨(by show 1 ≤ 1000; decide), _, hn', fun g => ?_, fun g hg => ?_⟩)
  · exact I2
  · by_cases hb : b = a
    · subst hb
      rw [Heap.get?_update_self _ h1 rfl] at z
      cases z
      exact (hs.2 b (Ne.symm ne)).trans (Heap.get?_update_self _ h1' rfl)
    · rw [Heap.get?_update_other _ _ (Ne.symm hb)] at z
      have nb : b ≠ hp.objs.size := Nat.ne_of_lt (Heap.lt_size z)
      exact (hs.2 b nb).trans ((Heap.get?_update_other _ _ (Ne.symm hb)).trans (Heap.get?_push_of_some _ z))
  · show RelO (List.lookup g [(f, y)]) (if g = f then some u else none)
    by_cases q : g = f
    · subst q; rw [if_pos rfl]; simp only [List.lookup, beq_self_eq_true]; exact ry
    · rw [if_neg q]; simp only [List.lookup, beq_eq_false_iff_ne.mpr q]; trivial
  · have q : g = f := by
      by_cases q : g = f
      · exact q
      · exact absurd (if_neg q) hg
    simp [q]
theorem xsetattr_ok {y : V} {u : Value} {Q : Unit → Shared → Prop} (I : Inv X pins σ H s) (ea : H a = some (xo a C (some dx) fl)) (ed : H dx = some (L2.xf dx fs)) (c : XCl X.K C) (n : NoAttr X.K C f) (hl : fs.length < 1000) (ry : RelV y u)
    (h : ∀ s', Inv X pins σ (upd H dx (L2.xf dx (putF f y fs))) s' → Q () s') : wpAny (model X.prog X.w) A (setAttr (.ref a) f u) Q E s := by
  obtain ⟨_, mA, ns, r, wi⟩ := I.xf ed
  obtain ⟨od, ho, _⟩ := lookIn_ns ns
  obtain ⟨ob, vs, h1, h2, h3, h4, h5, h6⟩ := id (I.xc ea)
  obtain ⟨ox, J, _⟩ := (I.xc ea).inst ho
  obtain ⟨cd, bm, hc, hm, up, hd⟩ := c.cls
  refine PySem.W.set_plain I.kIn J c.sa (xosa (s := { s with toks := s.toks + 1 }) I.kIn c J n ?_)
  obtain ⟨hp, g, d, t, os⟩ := s
  obtain ⟨oc, od, oda, osl⟩ := ob
  dsimp only at h2 h3 h4
  subst h2 h3 h4
  refine wpAny_bind (wpAny_pure (wpAny_bind (wpAny_bind (wpAny_loadPart h1 (wpAny_bind (Looks.here (s := ⟨hp, g, d, t + 1, os⟩) (looks_clsIn I.kIn hc) ?_))))))
  rw [hd]
  refine wpAny_pure (a := some dx) (wpAny_bind (wpAny_pure (wpAny_bind ?_)))
  refine wpAny_nsSet1 (s := ⟨hp, g, d, t + 1, os⟩) ns fun h' hn' hs => ?_
  obtain ⟨oD, esD, epD, hoD, hdD, hcD⟩ := hn'.count (Within.cons f u wi)
  refine wpAny_bind (wpAny_lookBehind hoD (by rw [hdD]; exact pastItsLine_dict (Nat.le_trans hcD (by rw [List.length_cons, List.length_map, sizeLine_eq]; omega))) ?_)
  refine wpAny_pure (h _ ?_)
  refine I.write (x := dx) (e := dx) (t' := t + 1 + 1) (by rw [ed]; exact True.intro) (.inl rfl) (fun b q hb z => (hs.2 b hb).trans z) ⟨oD, hoD⟩ (xf_ok ⟨?_, _, hn', fun g => ?_, fun g hg => ?_⟩)
  · have := length_putF f y fs; omega
  · show RelO ((putF f y fs).lookup g) (if g = f then some u else mA g)
    rw [lookup_putF]
    by_cases q : g = f
    · rw [if_pos q, if_pos q]; exact ry
    · rw [if_neg q, if_neg q]; exact r g
  · by_cases q : g = f
    · rw [q]; exact (keys_putF f y fs).1
    · refine (keys_putF f y fs).2 g (wi g fun z => hg ?_)
      show (if g = f then some u else mA g) = none
      rw [if_neg q]; exact z
end
def tFldX (K : PySem.W.Frag) (ta : TE) (f : Str) : TE := fun σ H Q => ta σ H fun x H1 => ∃ a C dx fl fs v, x = .ref a ∧ H1 a = some (xo a C (some dx) fl) ∧ H1 dx = some (L2.xf dx fs) ∧ XCl K C ∧ NoAttr K C f ∧ fs.lookup f = some v ∧ Q v H1
def sFldX (K : PySem.W.Frag) (ta tv : TE) (f : Str) : TS := fun D σ H => tv σ H fun y H1 => ta σ H1 fun x H2 => ∃ a C fl, x = .ref a ∧ XCl K C ∧ NoAttr K C f ∧
  ((H2 a = some (xo a C none fl) ∧ ∀ dx, H2 dx = none → dx ≠ a → D.nx σ (upd (upd H2 a (xo a C (some dx) fl)) dx (L2.xf dx [(f, y)]))) ∨
   ∃ dx fs, H2 a = some (xo a C (some dx) fl) ∧ H2 dx = some (L2.xf dx fs) ∧ fs.length < 1000 ∧ D.nx σ (upd H2 dx (L2.xf dx (putF f y fs))))
section
variable {X : Cx} {o e value : Expr} {f : Str} {pos pos' : Pos} {ta tv : TE}
theorem pe_fldX (he : PE X e ta) (hb : attributeBase e f X.env (eval e X.env) = eval e X.env) : PE X (.Attribute e f pos) (tFldX X.K ta f) := by
  intro pins s σ H Q I h
  refine attr_of hb (thn (he pins s σ H _ I h) fun u s1 ⟨x, H1, I1, rx, a, C, dx, fl, fs, v, ex, ea, ed, c, n, l, q⟩ => ?_)
  subst ex
  obtain rfl : u = Value.ref a := rx
  exact xgetattr_ok I1 ea ed c n l fun u' s2 I2 ru => ⟨v, H1, I2, ru, q⟩
theorem ps_fldX (ha : PE X o ta) (hv : PE X value tv) (hs : swapsWith value (some (.Attribute o f pos')) pos.line X.env = pure false) : PS X (.Assign [.Attribute o f pos'] value pos) (sFldX X.K ta tv f) := by
  intro pins s σ H D I h
  refine plainObj_wpAny_Assign_Attribute (thn (hv pins s σ H _ I h) fun u s1 ⟨y, H1, I1, ry, q⟩ => thn (ha pins s1 σ H1 _ I1 q) fun ov s2 ⟨x, H2, I2, rx, a, C, fl, ex, c, n, z⟩ => ?_) hs
  subst ex
  obtain rfl : ov = Value.ref a := rx
  rcases z with ⟨ea, q2⟩ | ⟨dx, fs, ea, ed, l, q2⟩
  · exact xsetattr0_ok I2 ea c n ry fun dx s3 h1 h2 I3 => ⟨σ, _, I3, q2 dx h1 h2⟩
  · exact xsetattr_ok I2 ea ed c n l ry fun s3 I3 => ⟨σ, _, I3, q2⟩
theorem c_isinstX : CallR X (.builtin "isinstance") (fun xs H Q => ∃ (a C : Addr) (od : Option Addr) (fl b : Bool) (y : V), xs = [.ref a, y] ∧ H a = some (xo a C od fl) ∧ (∀ dx, od = some dx → ∃ fs, H dx = some (L2.xf dx fs)) ∧ XCl X.K C ∧ cvOf y ≠ .none ∧ PySem.W.kitOne X.K (.ref C) (cvOf y) = some b ∧ Q (.bl b) H) := by
  rintro pins s σ H xs us Q I r ⟨a, C, od, fl, b, y, rfl, ea, ed, c, hy, hk, q⟩
  obtain ⟨u, w', rfl, ru, rw'⟩ := vals2 r
  obtain rfl : u = Value.ref a := ru
  obtain rfl := cvOf_rel rw' hy
  obtain ⟨ox, oo, J⟩ := I.xany ea ed
  exact PySem.W.kia_one (kitx_exc c) I.kIn J hk (fun z => nomatch z) fun tk => ⟨.bl b, H, I.tok _, rfl, q⟩
end
end L2

set_option Elab.async false
set_option linter.all false
set_option maxRecDepth 100000
set_option maxHeartbeats 4000000
namespace L2
open PySem PySem.Spec PyProof.Rows
open PySem.W (Looks InstAt looks_findIn looks_mroIn looks_clsIn looks_find)
section
variable {prog : Program} {w : World} {A : Around} {E : Value → Shared → Prop} {h : Heap} {g : Array GenState} {d : Drawn} {t : Nat} {os : OsState} {K : PySem.W.Frag} {C fI : Addr} {rest : List Value}
theorem xmake_in {Q : Fin → Shared → Prop} (X : K.In h) (c : XCl K C) (hi : PySem.W.findIn K (.ref C) "__init__" = some (some (.ref fI))) (hf : PySem.W.isFn K (.ref fI) = true) (hrest : rest.length ≤ sizeLine)
    (hq : ∀ h' e, h.objs.size ≤ e → Heap.MadeExcOf h h' e (.ref C) rest → wpAny (model prog w) A (call (.ref fI) (.ref e :: rest)) (fun r s' => r = .none ∧ Q (.done (.ret (.ref e))) s') E ⟨h', g, d, t, os⟩) :
    wpAny (model prog w) A (Builtin.«type.__call__» ⟨.ref C :: rest, []⟩) Q E ⟨h, g, d, t, os⟩ := by
  obtain ⟨nm, q, N, bs, bm, sn, sub, ab, col, dd, k0, k1, k2, k3, k5, hC, up, T⟩ := c.at X
  have BF := PySem.F.excBase_ValueError
  repeat (first | with_reducible refine wpAny_loadPart_at hC ?_ | with_reducible refine wpAny_madeBy_exc hC ?_ | wp_step)
  refine codeAny_call_builtin_code (Code.quiet_builtin _ BF.quiet) (wpAny_check_new_subT BF T hC (codeAny_exc_new_subT BF T hC ?_ hrest))
  generalize hx : (h.push { cls := .type "tuple", data := .seq rest.toArray }).push { cls := .ref C, data := .fields #[.ref h.objs.size, .none, .none, .none, .bool false, .none] } = hh
  have keep : ∀ b o, h.get? b = some o → hh.get? b = some o := fun b o z => by rw [← hx]; exact Heap.get?_push_of_some _ (Heap.get?_push_of_some _ z)
  have hgt : hh.get? (h.objs.size + 1) = some { cls := .ref C, data := .fields #[.ref h.objs.size, .none, .none, .none, .bool false, .none] } := by rw [← hx]; heap_get
  have hgt0 : hh.get? h.objs.size = some { cls := .type "tuple", data := .seq rest.toArray } := by rw [← hx]; exact Heap.get?_push_of_some _ (Heap.get?_push_at rfl rfl)
  have X1 : K.In hh := X.keeps keep
  have L1 := looks_findIn (M := model prog w) X1 hi
  have L2 := PySem.W.bind_fn (M := model prog w) X1 (.ref (h.objs.size + 1)) (beq_iff_eq.mp hf)
  have hC1 := keep _ _ hC
  have hself : (Value.ref C :: bm).contains (.ref C) = true := by simp
  have M : Heap.MadeExcOf h hh (h.objs.size + 1) (.ref C) rest := ⟨keep, Heap.get?_none_of_le (Nat.le_succ _), h.objs.size, hgt, Heap.get?_none_of_le (Nat.le_refl _), hgt0⟩
  show wpAny _ _ _ _ _ _
  unfold isInstance
  repeat (first | with_reducible refine wpAny_loadPart_at hgt ?_ | (with_reducible refine wpAny_isSubtype_exc hC1 ?_; rw [hself]) | wp_step)
  show wpAny _ _ (typeLookup (.ref C) _) _ _ _
  refine L1.at (wpAny_holding (wpAny_bind (L2.at (wpAny_bind (wpAny_mono (hq hh _ (Nat.le_succ _) M) (fun r s' z => ?_) fun _ _ z => z)))))
  obtain ⟨rfl, z⟩ := z
  wp_walk
  exact z
theorem xmake {Q : Value → Shared → Prop} (X : K.In h) (c : XCl K C) (hi : PySem.W.findIn K (.ref C) "__init__" = some (some (.ref fI))) (hf : PySem.W.isFn K (.ref fI) = true) (hrest : rest.length ≤ sizeLine)
    (hq : ∀ h' e, h.objs.size ≤ e → Heap.MadeExcOf h h' e (.ref C) rest → wpAny (model prog w) (A.under (.builtin "type.__call__" ⟨.ref C :: rest, []⟩)) (call (.ref fI) (.ref e :: rest)) (fun r s' => r = .none ∧ Q (.ref e) s') E ⟨h', g, d, t, os⟩) :
    wpAny (model prog w) A (call (.ref C) rest) Q E ⟨h, g, d, t, os⟩ := by
  obtain ⟨nm, q, N, bs, bm, sn, sub, ab, col, dd, k0, k1, k2, k3, k5, hC, up, T⟩ := c.at X
  have f1 := tc_lookup
  have f2 := tc_bind (.ref C)
  have hT : (⟨h, g, d, t, os⟩ : Shared).TypeIs (.ref C) "type" := ⟨_, hC, rfl⟩
  refine wpAny_call (codeAny_of_tree (show wpAny _ _ (callAny (.ref C) _) _ _ _ from ?_))
  repeat (any_goals (first | assumption | with_reducible refine wpAny_loadPart_at hC ?_ | wp_step))
  exact ⟨rfl, codeAny_call_builtin_at (Code.quiet_builtin _ (by decide +kernel)) entry_typeCall (wpAny_check_type_call_sub hC (xmake_in X c hi hf hrest hq))⟩
end
structure XMk (K : PySem.W.Frag) (C f : Addr) : Prop where
  cl : XCl K C
  init : PySem.W.findIn K (.ref C) "__init__" = some (some (.ref f))
  fn : PySem.W.isFn K (.ref f) = true
def tMakeX (C : Addr) (sp : Sp) (t : TA) : TE := fun σ H Q => t σ H fun vs H1 => vs.length ≤ sizeLine ∧ ∀ x, H1 x = none → sp (.ref x :: vs) (upd H1 x (xo x C none false)) (fun v H2 => v = .non ∧ Q (.ref x) H2) E0
section
variable {X : Cx} {k : Nat} {f C : Addr} {fd : FuncData} {ps : List Str} {sp : Sp} {x : Str} {p pos : Pos} {e : Expr} {es : List Expr} {t : TA}
theorem run_makeX {pins : List (Addr × Obj)} {σ : St} {H : Hp} {s : Shared} {Q : VK} {us : List Value} {vs : List V} (M : XMk X.K C f) (F : FnOk X.prog X.w X.K X.mg X.base CX0 k f fd ps sp) (hr : Room (k + 1) X.A) (hb : Binds X.K fd ps [])
    (I : Inv X pins σ H s) (r : Vals vs us) (hz : vs.length ≤ sizeLine) (h : ∀ x, H x = none → sp (.ref x :: vs) (upd H x (xo x C none false)) (fun v H2 => v = .non ∧ Q (.ref x) H2) E0) :
    wpAny (model X.prog X.w) X.A (call (.ref C) us) (EP X pins σ Q) X.xe s := by
  obtain ⟨hh, g, d, tk, os⟩ := s
  refine xmake I.kIn M.cl M.init M.fn (by rw [← r.length]; exact hz) fun h' e hle m => ?_
  obtain ⟨t0, ht, _, _⟩ := m.there
  have I2 : Inv X pins σ (upd H e (xo e C none false)) ⟨h', g, d, tk, os⟩ := I.laid (h' := h') (t' := tk) m.keeps hle (xo_ok ⟨_, _, ht, rfl, rfl, rfl, (by decide : 5 < 6), fun _ => rfl⟩)
  have hq := h e (I.hok.fresh hle)
  have r2 : Vals (V.ref e :: vs) (Value.ref e :: us) := .cons rfl r
  have hl : (Value.ref e :: us ++ []).length = ps.length := by
    have z := r2.length
    rw [F.len _ _ _ _ hq] at z
    rw [List.append_nil]
    exact z.symm
  have hb2 := hb ⟨h', g, d, tk, os⟩ (Value.ref e :: us) I2.kIn hl
  rw [List.append_nil] at hb2
  refine wpAny_call (codeAny_mono (F.run _ X.stack _ _ ⟨Value.ref e :: us, []⟩ (Value.ref e :: us) _ _ E0 (hr.make C us []) (I2.env0.make C us []) hb2 r2 hq) fun r s' hq' => ?_)
  cases r with
  | error e => exact hq'.elim
  | ok fl =>
    cases fl with
    | ret u =>
      obtain ⟨v, H', I3, rv, ev, q3⟩ := I2.after hq'
      subst ev
      exact ⟨rv, ⟨V.ref e, H', I3, rfl, q3⟩⟩
    | next => exact False.elim hq'
    | brk => exact False.elim hq'
    | cont => exact False.elim hq'
theorem pe_makeX (M : XMk X.K C f) (F : FnOk X.prog X.w X.K X.mg X.base CX0 k f fd ps sp) (hr : Room (k + 1) X.A) (hm : X.mg x = some (.ref C)) (hb : Binds X.K fd ps [])
    (ha : PA X (e :: es) t) (hg : Gl X x := by rfl) (hdb : (x == ("__debug__" : Str)) = false := by decide) (he : starEach (e :: es) X.env = (false, eval e X.env) :: starEach es X.env := by rfl) (hpl : (backTo pos (starEach es X.env)).any (·.1) = false := by rfl) :
    PE X (.Call (.Name x p) (e :: es) [] pos) (tMakeX C sp t) := by
  intro pins s σ H Q I h
  refine wpAny_Call_Name_kw (ld_glob I hg hm ?_ hdb)
  refine PySem.W.callWith_K (h₀ := X.base) I.ok.mod.kin M.cl.kp (thn (ha pos pins s σ H _ I h) fun us s1 ⟨vs, H1, I1, r, z, q⟩ => ⟨I1.kIn, ?_⟩) he hpl
  exact run_makeX M F hr hb I1 r z q
end
section
variable {M : Model} {A : Around} {E : Value → Shared → Prop} {s : Shared} {env : Env} {K : PySem.W.Frag}
theorem xraise {x : Sem Value} {Q : Flow → Shared → Prop} (hh : A.handled = none)
    (h : wpAny M A x (fun v s₁ => ∃ e C ob vs, v = .ref e ∧ K.In s₁.heap ∧ XCl K C ∧ s₁.heap.get? e = some ob ∧ ob.cls = .ref C ∧ ob.data = .fields vs ∧ vs[1]? = some .none ∧ E (.ref e) s₁) E s) :
    wpAny M A (raiseStmt env (some x) none) Q E s := by
  unfold raiseStmt
  refine wpAny_bind (wpAny_mono h (fun v s₁ z => ?_) fun _ _ z => z)
  obtain ⟨e, C, ⟨oc, od, oda, osl⟩, vs, rfl, X, c, he, hc, hd, h1, hE⟩ := z
  dsimp only at hc hd
  subst hc hd
  obtain ⟨nm, q, N, bs, bm, sn, sub, ab, col, dd, k0, k1, k2, k3, k5, hC, up, T⟩ := c.at X
  obtain ⟨hp, g, d, tk, os⟩ := s₁
  have hcB : (Value.ref C :: bm).contains (.type "BaseException") = true := by rw [List.contains_cons, up_has (by decide +kernel) up, Bool.or_true]
  repeat (first | with_reducible refine wpAny_loadPart_at he ?_ | with_reducible refine wpAny_loadPart_at hC ?_ | with_reducible refine wpAny_field he rfl h1 ?_ | (with_reducible refine wpAny_isSubtype_exc hC ?_; rw [hcB]) | wp_step)
  exact wpAny_raiseNew_none hh hE
end
end L2

set_option Elab.async false
set_option linter.all false
set_option maxRecDepth 100000
set_option maxHeartbeats 4000000
namespace L2
open PySem PySem.Spec PyProof.Rows
open PySem.W (Looks InstAt looks_findIn looks_mroIn looks_clsIn looks_find)
section
variable {M : Model} {A : Around} {E : Value → Shared → Prop} {s : Shared} {env : Env} {outer : List Env} {base : Heap} {L e : Addr} {oe : Obj} {vs : Array Value}
theorem note_in {head : Value} {hadNext : Bool} {Q : Unit → Shared → Prop} (hfr : A.frames = some (env :: outer)) (hl : s.heap.FunFrames base (env :: outer)) (hf : env.frame = some L)
    (he : s.heap.get? e = some oe) (hd : oe.data = .fields vs) (hsz : 1 < vs.size)
    (h : ∀ h' oT ts, (∀ b o, b ∉ frs (env :: outer) → b ≠ e → s.heap.get? b = some o → h'.get? b = some o) → (∀ b o, b ∈ frs (env :: outer) → s.heap.get? b = some o → ∃ sl, h'.get? b = some { o with slots := sl }) →
      h'.get? e = some (oe.mapFields (·.setIfInBounds 1 (.ref s.heap.objs.size))) → s.heap.objs.size ≠ e → h'.get? s.heap.objs.size = some oT → oT.data = .fields ts → 3 < ts.size → Q () { s with heap := h' }) :
    wpAny M A (do let a ← frameOf env; let pl ← entryPlaceOf L hadNext; let b ← EntryCells.newEntry head a .none (rawInt L) .none pl; setField (.ref e) 1 b) Q E s := by
  have ene : e ∉ frs (env :: outer) := fun z => by
    obtain ⟨_, o, ho, nf⟩ := hl.mem z
    rw [he] at ho
    cases ho
    exact nf vs hd
  refine wpAny_bind (wpAny_frameOf_fun hfr hl hf fun h1 so => wpAny_bind (wpAny_entryPlaceOf fun pl hpl => ?_))
  unfold EntryCells.newEntry newFields
  refine wpAny_bind (wpAny_newObj_type ?_ (hpl.sizeOk5 _ _ _ _ _))
  generalize hT : ({ cls := .type "traceback", dict := none, data := .fields ([head, .ref L, .none, rawInt L, .none] ++ (if pl.isEmpty then List.replicate 6 Value.none else pl)).toArray } : Obj) = oT
  have dT : ∃ ts, oT.data = .fields ts ∧ 3 < ts.size := by
    rw [← hT]
    exact ⟨_, rfl, by simp only [List.size_toArray, List.length_append, List.length_cons, List.length_nil]; omega⟩
  obtain ⟨ts, dT, zT⟩ := dT
  have he1 : h1.get? e = some oe := (so.2.1 e ene).trans he
  have he2 : (h1.push oT).get? e = some oe := Heap.get?_push_of_some _ he1
  have sz : h1.objs.size = s.heap.objs.size := so.1
  have ne : h1.objs.size ≠ e := Nat.ne_of_gt (Heap.lt_size he1)
  refine wpAny_setField he2 hd hsz ?_
  have d3 := Obj.data_mapFields hd (·.setIfInBounds 1 (Value.ref h1.objs.size))
  have fT : oT.isFreed = false := Obj.isFreed_of_fields dT
  rw [← sz] at h
  refine h _ oT ts (fun b o hb hbe z => ?_) (fun b o hb z => ?_) (Heap.get?_update_self _ he2 (Obj.isFreed_of_fields d3)) ne ?_ dT zT
  · rw [Heap.get?_update_other _ _ (Ne.symm hbe)]
    exact Heap.get?_push_of_some _ ((so.2.1 b hb).trans z)
  · obtain ⟨sl, q⟩ := so.2.2 b o z
    have hbe : b ≠ e := fun w => ene (w ▸ hb)
    exact ⟨sl, by rw [Heap.get?_update_other _ _ (Ne.symm hbe)]; exact Heap.get?_push_of_some _ q⟩
  · rw [Heap.get?_update_other _ _ (Ne.symm ne)]
    exact Heap.get?_push_size _ fT
def Trc (h : Heap) (L e : Addr) (vs : Array Value) : Prop :=
  vs[1]? = some .none ∨ ∃ T oT ts, vs[1]? = some (.ref T) ∧ T ≠ e ∧ h.get? T = some oT ∧ oT.data = .fields ts ∧ 3 < ts.size ∧ (ts[3]? = some .none ∨ ts[3]? = some (rawInt L))
theorem frs_nofields {h : Heap} {l : List Env} (hl : h.FunFrames base l) {b : Addr} {o : Obj} {vs : Array Value} (hb : b ∈ frs l) (z : h.get? b = some o) (d : o.data = .fields vs) : False := by
  obtain ⟨_, o', ho, nf⟩ := hl.mem hb
  rw [z] at ho
  cases ho
  exact nf vs d
theorem leave_in {Q : Unit → Shared → Prop} (hfr : A.frames = some (env :: outer)) (hl : s.heap.FunFrames base (env :: outer)) (hf : env.frame = some L)
    (he : s.heap.get? e = some oe) (hd : oe.data = .fields vs) (hsz : 5 < vs.size) (hT : Trc s.heap L e vs)
    (h : ∀ h' T oe' vs' oT ts, (∀ b o, b ∉ frs (env :: outer) → b ≠ e → vs[1]? ≠ some (.ref b) → s.heap.get? b = some o → h'.get? b = some o) → (∀ b o, b ∈ frs (env :: outer) → s.heap.get? b = some o → ∃ sl, h'.get? b = some { o with slots := sl }) →
      (∀ b o, vs[1]? = some (.ref b) → s.heap.get? b = some o → ∃ o', h'.get? b = some o') →
      h'.get? e = some oe' → oe'.cls = oe.cls → oe'.dict = oe.dict → oe'.data = .fields vs' → vs'.size = vs.size → vs'[1]? = some (.ref T) → T ≠ e → (s.heap.objs.size ≤ T ∨ vs[1]? = some (.ref T)) →
      h'.get? T = some oT → oT.data = .fields ts → 3 < ts.size → ts[3]? = some .none → Q () { s with heap := h' }) :
    wpAny M A (noteFrame (.ref e) env) (fun _ s2 => wpAny M A (setFlight (.ref e) none) Q E s2) E s := by
  have ene : e ∉ frs (env :: outer) := fun z => frs_nofields hl z he hd
  have fin : ∀ {h1 : Heap} {oT : Obj} {ts : Array Value} {T : Addr}, h1.get? e = some (oe.mapFields (·.setIfInBounds 1 (.ref T))) → T ≠ e → h1.get? T = some oT → oT.data = .fields ts → 3 < ts.size → (s.heap.objs.size ≤ T ∨ vs[1]? = some (.ref T)) → T ∉ frs (env :: outer) →
      (∀ b o, b ∉ frs (env :: outer) → b ≠ e → vs[1]? ≠ some (.ref b) → s.heap.get? b = some o → b ≠ T → h1.get? b = some o) → (∀ b o, b ∈ frs (env :: outer) → s.heap.get? b = some o → ∃ sl, h1.get? b = some { o with slots := sl }) →
      (∀ b o, vs[1]? = some (.ref b) → s.heap.get? b = some o → ∃ o', h1.get? b = some o') → (∀ b o, s.heap.get? b = some o → b = T → vs[1]? = some (.ref b)) →
      wpAny M A (setFlight (.ref e) none) Q E { s with heap := h1 } := by
    intro h1 oT ts T g1 ne g2 g3 g4 fr nfT k1 k2 k3 k4
    have d3 := Obj.data_mapFields hd (·.setIfInBounds 1 (Value.ref T))
    have q1 : 1 < vs.size := by omega
    have v1 : (vs.setIfInBounds 1 (Value.ref T))[1]? = some (.ref T) := by simp [q1]
    unfold setFlight
    refine wpAny_bind (wpAny_field g1 d3 v1 ?_)
    rw [if_pos (show (Value.ref T != Value.none) = true from by simp)]
    have fT := Obj.data_mapFields g3 (·.setIfInBounds 3 ((none : Option Addr).elim Value.none fun f => rawInt f))
    refine wpAny_setField g2 g3 g4 (h _ T (oe.mapFields (·.setIfInBounds 1 (.ref T))) (vs.setIfInBounds 1 (.ref T)) _ _ (fun b o hb hbe hb1 z => ?_) (fun b o hb z => ?_) (fun b o hb z => ?_) ?_ (Obj.cls_mapFields _ _) ?_ d3 (by simp) v1 ne fr (Heap.get?_update_self _ g2 (Obj.isFreed_of_fields fT)) fT (by simpa using g4) (by simp [g4]))
    · have hbT : b ≠ T := fun w => hb1 (k4 b o z w)
      rw [Heap.get?_update_other _ _ (Ne.symm hbT)]
      exact k1 b o hb hbe hb1 z hbT
    · obtain ⟨sl, q⟩ := k2 b o hb z
      have hbT : b ≠ T := fun w => nfT (w ▸ hb)
      exact ⟨sl, by rw [Heap.get?_update_other _ _ (Ne.symm hbT)]; exact q⟩
    · obtain ⟨o', q⟩ := k3 b o hb z
      by_cases hbT : b = T
      · exact ⟨_, by rw [hbT]; exact Heap.get?_update_self _ g2 (Obj.isFreed_of_fields fT)⟩
      · exact ⟨o', by rw [Heap.get?_update_other _ _ (Ne.symm hbT)]; exact q⟩
    · rw [Heap.get?_update_other _ _ ne]
      exact g1
    · obtain ⟨oc, od, oda, osl⟩ := oe
      cases oda <;> rfl
  have fresh : ∀ b o, s.heap.get? b = some o → b ≠ s.heap.objs.size := fun b o z => Nat.ne_of_lt (Heap.lt_size z)
  have nfr : s.heap.objs.size ∉ frs (env :: outer) := fun z => by
    obtain ⟨_, o, ho, _⟩ := hl.mem z
    exact absurd (Heap.lt_size ho) (Nat.lt_irrefl _)
  unfold noteFrame
  simp only [hf]
  rcases hT with h1 | ⟨T, oT, ts, h1, hTe, hT, dT, zT, fl⟩
  · refine wpAny_bind (wpAny_field he hd h1 ?_)
    rw [if_neg (by decide)]
    refine note_in hfr hl hf he hd (by omega) fun h' oT ts k1 k2 k3 ne k4 k5 k6 => ?_
    exact fin k3 ne k4 k5 k6 (.inl (Nat.le_refl _)) nfr (fun b o hb hbe _ z _ => k1 b o hb hbe z) k2 (fun b o hb _ => by rw [h1] at hb; cases hb) fun b o z w => absurd w (fresh b o z)
  · refine wpAny_bind (wpAny_field he hd h1 ?_)
    rw [if_pos (show (Value.ref T != Value.none) = true from by simp)]
    have nfT : T ∉ frs (env :: outer) := fun z => frs_nofields hl z hT dT
    rcases fl with fl | fl
    · refine wpAny_bind (wpAny_field hT dT fl ?_)
      rw [if_neg (show ¬ ((Value.none == rawInt L) = true) from by simp [rawInt])]
      refine wpAny_bind (wpAny_setField hT dT zT ?_)
      have fT := Obj.data_mapFields dT (·.setIfInBounds 3 Value.none)
      have oth : ∀ b, b ≠ T → (s.heap.update T (Obj.mapFields (·.setIfInBounds 3 Value.none))).get? b = s.heap.get? b := fun b hb => Heap.get?_update_other _ _ (Ne.symm hb)
      have sz : (s.heap.update T (Obj.mapFields (·.setIfInBounds 3 Value.none))).objs.size = s.heap.objs.size := Heap.size_after_update ..
      have hl2 : (s.heap.update T (Obj.mapFields (·.setIfInBounds 3 Value.none))).FunFrames base (env :: outer) := hl.of_keeps fun b o z nf => ⟨o, (oth b fun w => by subst w; rw [hT] at z; cases z; exact nf ts dT).trans z, rfl⟩
      refine note_in (s := { s with heap := s.heap.update T (Obj.mapFields (·.setIfInBounds 3 Value.none)) }) hfr hl2 hf ((oth e (Ne.symm hTe)).trans he) hd (by omega) fun h' oT' ts' k1 k2 k3 ne k4 k5 k6 => ?_
      dsimp only at k1 k2 k3 ne k4
      rw [sz] at k3 ne k4
      refine fin k3 ne k4 k5 k6 (.inl (Nat.le_refl _)) nfr (fun b o hb hbe hb1 z _ => k1 b o hb hbe ((oth b fun w => hb1 (by rw [w]; exact h1)).trans z)) (fun b o hb z => k2 b o hb ((oth b fun w => nfT (w ▸ hb)).trans z)) (fun b o hb z => ?_) fun b o z w => absurd w (fresh b o z)
      rw [h1] at hb
      cases hb
      exact ⟨_, k1 T _ nfT hTe (Heap.get?_update_self _ hT (Obj.isFreed_of_fields fT))⟩
    · refine wpAny_bind (wpAny_field hT dT fl ?_)
      rw [if_pos (beq_self_eq_true _)]
      refine wpAny_pure ?_
      have same : oe.mapFields (·.setIfInBounds 1 (.ref T)) = oe := by
        obtain ⟨oc, od, oda, osl⟩ := oe
        dsimp only at hd
        subst hd
        have : vs.setIfInBounds 1 (.ref T) = vs := by
          have lt : 1 < vs.size := by omega
          refine Array.ext_getElem? fun i => ?_
          by_cases w : 1 = i
          · subst w; rw [h1]; simp [lt]
          · rw [Array.getElem?_setIfInBounds_ne w]
        show (⟨oc, od, .fields (vs.setIfInBounds 1 (.ref T)), osl⟩ : Obj) = _
        rw [this]
      exact fin (h1 := s.heap) (by rw [same]; exact he) hTe hT dT zT (.inr h1) nfT (fun b o _ _ _ z _ => z) (fun b o _ z => ⟨o.slots, z⟩) (fun b o _ z => ⟨o, z⟩) fun b o z w => by rw [w]; exact h1
end
end L2

set_option Elab.async false
set_option linter.all false
set_option maxRecDepth 100000
set_option maxHeartbeats 4000000
namespace L2
open PySem PySem.Spec PyProof.Rows
open PySem.W (Looks InstAt looks_findIn looks_mroIn looks_clsIn looks_find)
def Fly (X : Cx) (pins : List (Addr × Obj)) (H : Hp) (h : Heap) (e : Addr) : Prop := ∃ ob vs, h.get? e = some ob ∧ ob.data = .fields vs ∧ Trc h X.env.locals e vs ∧
  ∀ T, vs[1]? = some (.ref T) → H T = none ∧ X.s₀.heap.objs.size ≤ T ∧ ∀ p ∈ X.pn ++ pins, p.1 ≠ T
def trcOf (vs : Array Value) : List Addr := match vs[1]? with
  | some (Value.ref T) => [T]
  | _ => []
theorem mem_trc {vs : Array Value} {b : Addr} : b ∈ trcOf vs ↔ vs[1]? = some (.ref b) := by
  unfold trcOf
  split
  · rename_i T h
    rw [h]
    constructor
    · intro w
      rw [List.mem_singleton.mp w]
    · intro w
      cases w
      exact List.mem_singleton.mpr rfl
  · rename_i h
    constructor
    · intro w; cases w
    · intro w; exact absurd w (h b)
section
variable {X : Cx} {pins : List (Addr × Obj)} {σ : St} {H : Hp} {s : Shared} {e C : Addr} {od : Option Addr} {fl : Bool}
theorem Inv.flown {h' : Heap} {vs : Array Value} (I : Inv X pins σ H s) (ea : H e = some (xo e C od fl)) (hs : X.stack = X.env :: X.outer) (hfm : X.env.frame = some X.env.locals)
    (hv : ∀ T, vs[1]? = some (.ref T) → H T = none ∧ X.s₀.heap.objs.size ≤ T ∧ (∀ p ∈ X.pn ++ pins, p.1 ≠ T) ∧ ∃ oT ts, s.heap.get? T = some oT ∧ oT.data = .fields ts)
    (k1 : ∀ b o, b ∉ frs (X.env :: X.outer) → b ≠ e → vs[1]? ≠ some (.ref b) → s.heap.get? b = some o → h'.get? b = some o) (k2 : ∀ b o, b ∈ frs (X.env :: X.outer) → s.heap.get? b = some o → ∃ sl, h'.get? b = some { o with slots := sl })
    (k3 : ∀ b o, vs[1]? = some (.ref b) → s.heap.get? b = some o → ∃ o', h'.get? b = some o') (k4 : XcAt e C od true h') :
    Inv X pins σ (upd H e (xo e C od true)) { s with heap := h' } := by
  have memL : X.env.locals ∈ frs (X.env :: X.outer) := by unfold frs; rw [List.filterMap_cons, hfm]; exact List.mem_cons_self
  have memF : ∀ b, b ∈ frs (X.env :: X.outer) ↔ b = X.env.locals ∨ b ∈ X.fs := fun b => by
    show b ∈ List.filterMap _ _ ↔ _
    rw [List.filterMap_cons, hfm]
    exact List.mem_cons
  have freeF : ∀ b ∈ frs (X.env :: X.outer), H b = none := fun b hb => I.stkFree b (by rw [hs]; exact hb)
  have neE : ∀ b, H b = none → b ≠ e := fun b hb w => by rw [w, ea] at hb; cases hb
  have eoe : ∃ ob, h'.get? e = some ob := let ⟨ob, _, q, _⟩ := k4; ⟨ob, q⟩
  have neTL : ∀ T, vs[1]? = some (.ref T) → T ≠ X.env.locals := fun T hT w => by
    obtain ⟨_, _, _, oT, ts, z, d⟩ := hv T hT
    exact frs_nofields (h := s.heap) (base := X.base) (l := X.stack) I.stack (by rw [hs]; exact memL) (w ▸ z) d
  have neTC : ∀ T, vs[1]? = some (.ref T) → ∀ x c, X.env.cells.lookup x = some c → c ≠ T := fun T hT x c q w => by
    obtain ⟨_, _, _, oT, ts, z, d⟩ := hv T hT
    obtain ⟨v, o, ho, hd⟩ := I.cell x c q
    rw [w, z] at ho
    cases ho
    rw [d] at hd
    cases hd
  refine I.step (g' := s.gens) (d' := s.drawn) (t' := s.toks) (ch := trcOf vs) (fun b hb => ?_) (fun b o hL hb hc z n => ?_) (fun b o hL hb hc z n => ?_) (fun b o hc z n => ?_) (fun b o hc z => ?_) (fun b xs z => ?_) (fun b o u z => ?_) (fun b ps z => ?_) (fun m hm => ?_) (fun b u z => ?_) I.bare
  · have hT := mem_trc.mp hb
    obtain ⟨_, h2, h3, _⟩ := hv b hT
    exact ⟨.inr h2, neTL b hT, neTC b hT, h3⟩
  · refine k1 b o (fun w => ?_) (neE b n) (fun w => hc ?_) z
    · rcases (memF b).mp w with w | w
      · exact hL w
      · exact hb w
    · exact mem_trc.mpr w
  · exact k2 b o ((memF b).mpr (.inr hb)) z
  · rw [upd_ne (neE b n)]; exact n
  · by_cases w : b = e
    · rw [w]; exact eoe
    · by_cases q : b ∈ frs (X.env :: X.outer)
      · obtain ⟨sl, q⟩ := k2 b o q z; exact ⟨_, q⟩
      · by_cases q2 : vs[1]? = some (.ref b)
        · exact k3 b o q2 z
        · exact ⟨o, k1 b o q w q2 z⟩
  · rw [upd_ne (ne_of z ea (by intro w; cases w))]; exact z
  · rw [upd_ne (ne_of z ea (by intro w; cases w))]; exact z
  · exact ⟨#[], by rw [upd_ne (ne_of z ea (by intro w; cases w)), z]; simp⟩
  · obtain ⟨o, es, ep, ho, r⟩ := hm
    obtain ⟨sl, q⟩ := k2 _ o memL ho
    exact ⟨_, es, ep, q, r⟩
  · by_cases w : b = e
    · subst w; rw [upd_same] at z; cases z; exact xo_ok k4
    · rw [upd_ne w] at z
      refine (I.hok b u z).stay (fun c v hc q => ?_) (fun c q => by rw [upd_ne (ne_of q ea (by intro w; cases w))]; exact q) fun c xs q => by rw [upd_ne (ne_of q ea (by intro w; cases w))]; exact q
      have hcs : ∃ x, H c = some x := by
        rcases hc with rfl | hc
        · exact ⟨_, z⟩
        · exact ⟨_, hc⟩
      obtain ⟨x, hcs⟩ := hcs
      have nce : c ≠ e := by
        rcases hc with rfl | hc
        · exact w
        · exact ne_of hc ea (by intro w; cases w)
      refine k1 c v (fun w => ?_) nce (fun w => ?_) q
      · rw [freeF c w] at hcs; cases hcs
      · rw [(hv c w).1] at hcs; cases hcs
theorem Inv.left {E : Value → Shared → Prop} {Q : Unit → Shared → Prop} {A : Around} (I : Inv X pins σ H s) (ea : H e = some (xo e C od fl)) (F : Fly X pins H s.heap e) (hA : A.frames = X.A.frames) (hs : X.stack = X.env :: X.outer) (hfm : X.env.frame = some X.env.locals)
    (h : ∀ s', s'.os = s.os → Inv X pins σ (upd H e (xo e C od true)) s' → Fly X pins (upd H e (xo e C od true)) s'.heap e → (∃ ob vs T oT ts, s'.heap.get? e = some ob ∧ ob.data = .fields vs ∧ vs[1]? = some (.ref T) ∧ T ≠ e ∧ s'.heap.get? T = some oT ∧ oT.data = .fields ts ∧ 3 < ts.size ∧ ts[3]? = some .none) → Q () s') :
    wpAny (model X.prog X.w) A (noteFrame (.ref e) X.env) (fun _ s2 => wpAny (model X.prog X.w) A (setFlight (.ref e) none) Q E s2) E s := by
  obtain ⟨ob, vs, he, hd, ht, hv⟩ := F
  obtain ⟨ob', vs', he', hc, hdi, hd', hz, _⟩ := id (I.xc ea)
  rw [he] at he'; cases he'
  rw [hd] at hd'; cases hd'
  have fr : X.A.frames = some (X.env :: X.outer) := by rw [I.ok.frames, hs]
  have st : s.heap.FunFrames X.base (X.env :: X.outer) := by rw [← hs]; exact I.stack
  have hv2 : ∀ T, vs[1]? = some (.ref T) → H T = none ∧ X.s₀.heap.objs.size ≤ T ∧ (∀ p ∈ X.pn ++ pins, p.1 ≠ T) ∧ ∃ oT ts, s.heap.get? T = some oT ∧ oT.data = .fields ts := fun T hT => by
    obtain ⟨a1, a2, a3⟩ := hv T hT
    rcases ht with w | ⟨T', oT, ts, w, _, z, d, _⟩
    · rw [w] at hT; cases hT
    · rw [w] at hT; cases hT; exact ⟨a1, a2, a3, oT, ts, z, d⟩
  refine leave_in (hA.trans fr) st hfm he hd hz ht fun h' T oe' vs' oT ts k1 k2 k3 g1 g2 g3 g4 g5 g6 g7 g8 g9 g10 g11 g12 => ?_
  have I2 : Inv X pins σ (upd H e (xo e C od true)) { s with heap := h' } := I.flown ea hs hfm hv2 k1 k2 k3 ⟨oe', vs', g1, g2.trans hc, g3.trans hdi, g4, by rw [g5]; exact hz, fun w => nomatch w⟩
  refine h { s with heap := h' } rfl I2 ⟨oe', vs', g1, g4, .inr ⟨T, oT, ts, g6, g7, g9, g10, g11, .inl g12⟩, fun T2 w => ?_⟩ ⟨oe', vs', T, oT, ts, g1, g4, g6, g7, g9, g10, g11, g12⟩
  rw [g6] at w
  cases w
  rw [upd_ne g7]
  rcases g8 with w | w
  · refine ⟨I.hok.fresh w, Nat.le_trans I.sz w, fun p hp q => ?_⟩
    obtain ⟨z, _⟩ := I.pin p hp
    exact absurd (Nat.lt_of_lt_of_le (Heap.lt_size z) w) (by rw [q]; exact Nat.lt_irrefl _)
  · obtain ⟨a1, a2, a3, _⟩ := hv2 T w
    exact ⟨a1, a2, a3⟩
end
abbrev XH := St → XK
def Catches (X : Cx) (Hd : XH) : Prop := ∀ (pins : List (Addr × Obj)) (σ : St) (H : Hp) (s : Shared) (e C : Addr) (od : Option Addr) (fl : Bool), Inv X pins σ H s → H e = some (xo e C od fl) → Fly X pins H s.heap e → Hd σ (.ref e) od (upd H e (xo e C od true)) → X.xe (.ref e) s
theorem upd_id {H : Hp} {a : Addr} {o : HO} (h : H a = some o) : upd H a o = H := by
  funext b
  unfold upd
  split
  · rename_i w; rw [w, h]
  · rfl
def CXE (P : Program) (w : World) : CXT := fun outer H s E ev s' => ∃ e C od H', ev = .ref e ∧ s'.os = s.os ∧ AllBare s'.gens ∧ Un (frs outer) [] H H' s.heap s'.heap ∧ HOk P w H' s'.heap ∧ H' e = some (xo e C od true) ∧
  (∃ ob vs T oT ts, s'.heap.get? e = some ob ∧ ob.data = .fields vs ∧ vs[1]? = some (.ref T) ∧ T ≠ e ∧ s'.heap.get? T = some oT ∧ oT.data = .fields ts ∧ 3 < ts.size ∧ ts[3]? = some .none ∧ H' T = none ∧ s.heap.objs.size ≤ T) ∧ E ev od H'
theorem Catches.pass {X : Cx} {Hd : XH} {pins : List (Addr × Obj)} {σ : St} {H : Hp} {s s' : Shared} {ev : Value} (cat : Catches X Hd) (I : Inv X pins σ H s) (h : CXE X.prog X.w X.stack H s (Hd σ) ev s') : X.xe ev s' := by
  obtain ⟨e, C, od, H', rfl, os, bare, un, hok, ea, ⟨ob, vs, T, oT, ts, g1, g2, g3, g4, g5, g6, g7, g8, g9, g10⟩, q⟩ := h
  have I2 : Inv X pins σ H' s' := I.call' (ch := []) os un hok bare fun b z => absurd z (by simp)
  refine cat pins σ H' s' e C od true I2 ea ⟨ob, vs, g1, g2, .inr ⟨T, oT, ts, g3, g4, g5, g6, g7, .inl g8⟩, fun T2 w => ?_⟩ (by rw [upd_id ea]; exact q)
  rw [g3] at w
  cases w
  refine ⟨g9, Nat.le_trans I.sz g10, fun p hp z => ?_⟩
  obtain ⟨y, _⟩ := I.pin p hp
  exact absurd (Nat.lt_of_lt_of_le (Heap.lt_size y) g10) (by rw [z]; exact Nat.lt_irrefl _)
theorem catches_fn {P : Program} {w : World} {K : PySem.W.Frag} {mg : Str → Option Value} {base : Heap} {N : List Str} {qual : Str} {scope : Scope} {f : Addr} {cd : Value} {A : Around} {outer : List Env} {s : Shared} {H : Hp} {E : XK} :
    Catches (cxOf (CXE P w) P w K mg base N qual scope f cd A outer s H E) (fun _ => E) := by
  intro pins σ H' s' e C od fl I ea F q
  show wpAny _ _ (leaving _ _) _ _ _
  unfold leaving
  refine wpAny_bind (I.left (A := A.deeper (envOfC qual scope s.heap.objs.size f cd)) ea F rfl rfl rfl fun s2 os I2 F2 ⟨ob, vs, T, oT, ts, g1, g2, g3, g4, g5, g6, g7, g8⟩ => ?_)
  obtain ⟨ob', vs', h1, h2, _, h4⟩ := F2
  rw [g1] at h1; cases h1
  rw [g2] at h2; cases h2
  obtain ⟨a1, a2, _⟩ := h4 T g3
  exact ⟨e, C, od, upd H' e (xo e C od true), rfl, I2.os, I2.bare, I2.base, I2.hok, upd_same, ⟨ob, vs, T, oT, ts, g1, g2, g3, g4, g5, g6, g7, g8, a1, a2⟩, q⟩
def HasX (P : Program) (w : World) (K : PySem.W.Frag) (mg : Str → Option Value) (base : Heap) (k : Nat) (x : Str) (ps : List Str) (sp : Sp) : Prop :=
  ∃ f fd, FnOk P w K mg base (CXE P w) k f fd ps sp ∧ Binds K fd ps [] ∧ PySem.W.keepIn K (.ref f) = true ∧ mg x = some (.ref f)
theorem TopFn.hasX {P : Program} {w : World} {K : PySem.W.Frag} {mg : Str → Option Value} {base : Heap} {x : Str} {st : Stmt} {N ps : List Str} {k : Nat} {sp : Sp} (F : TopFn K mg x st ps) (S : FnScope N ps (defScope st)) (len : ∀ vs H Q E, sp vs H Q E → vs.length = ps.length)
    (hbody : ∀ (X : Cx) (f : Addr) (cdv : Value) (A : Around) (outer : List Env) (s : Shared) (H : Hp) (vs : List V) (Q : VK) (E : XK), X = cxOf (CXE P w) P w K mg base N x (defScope st) f cdv A outer s H E → Catches X (fun _ => E) → Room k (A.deeper (envOfC x (defScope st) s.heap.objs.size f cdv)) → (A.deeper (envOfC x (defScope st) s.heap.objs.size f cdv)).units + 64 < cLine → sp vs H Q E →
      ∃ t, PSs (cxOf (CXE P w) P w K mg base N x (defScope st) f cdv A outer s H E) (defBody st) t ∧ t { nx := fun _ H' => Q .non H', rt := Q } (start N vs) H) : HasX P w K mg base (k + 1) x ps sp := by
  obtain ⟨f, fd, F, b, m⟩ := F.ex
  obtain ⟨oc, od, kV, doc, pm, an, cdv, ct, osl, rfl, lk, hcd⟩ := F.ex
  exact ⟨f, _, fn_of lk hcd S len fun A outer s H vs Q E hr hsp => hbody _ f cdv A outer s H vs Q E rfl catches_fn hr hr.units hsp, b, F.kp, m⟩
def tCallX (sp : Sp) (Hd : XH) (t : TA) : TE := fun σ H Q => t σ H fun vs H1 => sp vs H1 Q (Hd σ)
theorem pe_callX {X : Cx} {Hd : XH} {j k : Nat} {x : Str} {ps : List Str} {sp : Sp} {e : Expr} {es : List Expr} {t : TA} {p pos : Pos} (cat : Catches X Hd) (D : HasX X.prog X.w X.K X.mg X.base j x ps sp) (hr : Room k X.A) (ha : PA X (e :: es) t) (hj : j ≤ k := by decide) (hg : Gl X x := by rfl)
    (hdb : (x == ("__debug__" : Str)) = false := by decide) (he : starEach (e :: es) X.env = (false, eval e X.env) :: starEach es X.env := by rfl) (hpl : (backTo pos (starEach es X.env)).any (·.1) = false := by rfl) :
    PE X (.Call (.Name x p) (e :: es) [] pos) (tCallX sp Hd t) := by
  obtain ⟨f, fd, F, hb, kp, m⟩ := D
  intro pins s σ H Q I h
  refine wpAny_Call_Name_kw (ld_glob I hg m ?_ hdb)
  refine PySem.W.callWith_K (h₀ := X.base) I.ok.mod.kin kp (thn (ha pos pins s σ H _ I h) fun us s1 ⟨vs, H1, I1, r, q⟩ => ⟨I1.kIn, ?_⟩) he hpl
  have hl : (us ++ []).length = ps.length := by rw [List.append_nil, ← r.length]; exact F.len _ _ _ _ q
  have hb2 := hb s1 us I1.kIn hl
  rw [List.append_nil] at hb2
  refine wpAny_call (codeAny_mono (F.run X.A X.stack s1 H1 ⟨[] ++ us, []⟩ us vs Q (Hd σ) (hr.mono hj) I1.env0 hb2 r q) fun r s' hq => ?_)
  cases r with
  | error e => exact cat.pass I1 hq
  | ok fl =>
    cases fl with
    | ret u => exact I1.after hq
    | next => exact False.elim hq
    | brk => exact False.elim hq
    | cont => exact False.elim hq
def tRaise (K : PySem.W.Frag) (te : TE) (Hd : XH) : TS := fun _ σ H => te σ H fun v H1 => ∃ e C od, v = .ref e ∧ H1 e = some (xo e C od false) ∧ XCl K C ∧ Hd σ (.ref e) od (upd H1 e (xo e C od true))
theorem ps_raise {X : Cx} {Hd : XH} {x : Expr} {te : TE} {pos : Pos} (cat : Catches X Hd) (hc : X.calm = true) (he : PE X x te) : PS X (.Raise (some x) none pos) (tRaise X.K te Hd) := by
  intro pins s σ H D I h
  rw [arm_exec_Raise]
  refine wpAny_bind (wpAny_standAt (xraise (K := X.K) (I.ok.hd hc) ?_))
  refine wpAny_bind (thn (he pins s σ H _ I h) fun v s1 ⟨y, H1, I1, r, e, C, od, ey, ea, c, q⟩ => wpAny_bind (wpAny_standAt (wpAny_pure ?_)))
  subst ey
  obtain rfl : v = Value.ref e := r
  obtain ⟨ob, vs, h1, h2, h3, h4, h5, h6⟩ := id (I1.xc ea)
  refine ⟨e, C, ob, vs, rfl, I1.kIn, c, h1, h2, h4, h6 rfl, cat pins σ H1 s1 e C od false I1 ea ⟨ob, vs, h1, h4, .inl (h6 rfl), fun T w => ?_⟩ q⟩
  rw [h6 rfl] at w
  cases w
end L2

set_option Elab.async false
set_option linter.all false
set_option maxRecDepth 100000
set_option maxHeartbeats 4000000
namespace L2
open PySem PySem.Spec PyProof.Rows
open PySem.W (Looks InstAt looks_findIn looks_mroIn looks_clsIn looks_find)
theorem find_erase {α : Type} {p : α → Bool} : ∀ (l : List α) (i : Nat), (∀ y, l[i]? = some y → p y = false) → (l.eraseIdx i).find? p = l.find? p
  | [], _, _ => rfl
  | y :: r, 0, h => by
    have := h y rfl
    simp [List.eraseIdx, this]
  | y :: r, i + 1, h => by
    simp only [List.eraseIdx, List.find?]
    rw [find_erase r i fun z hz => h z (by simpa using hz)]
theorem isStr_two {v : Value} {x y : Str} (h : v.isStr x = true) (h2 : v.isStr y = true) : x = y := by
  cases v <;> simp_all [Value.isStr]
section
variable {M : Model} {A : Around} {E : Value → Shared → Prop} {s : Shared} {env : Env}
theorem nsDel_keep {a : Addr} {m : Str → Option Value} {name : Str} {Q : Bool → Shared → Prop} (hn : s.heap.Ns a m)
    (hQ : ∀ h' m', h'.Ns a m' → (∀ x, x ≠ name → m' x = m x) → Heap.SameBut a s.heap h' → Q (m name).isSome { s with heap := h' }) : wpAny M A (nsDel a name) Q E s := by
  obtain ⟨o, es, ep, ho, hd, hk, hm⟩ := id hn
  have noRef : es.any (·.refKey) = false := by
    rw [Array.any_eq_false']
    intro y hy
    obtain ⟨n, t, q⟩ := hk y hy
    simp [DictEntry.refKey, q]
  have hsome : (m name).isSome = es.any (·.key.isStr name) := by
    rw [← hm name]
    simp only [nsFind, findBy, Option.isSome_map]
    rw [← Array.find?_toList, ← Array.any_toList, Bool.eq_iff_iff, List.find?_isSome, List.any_eq_true]
  have hhas : nsHas name o = pure (es.any (·.key.isStr name)) := by
    rw [nsHas_eq]
    unfold nsHasByArray
    rw [hd]
    show (if (es.any fun x => x.key.isStr name) = true then _ else _) = _
    generalize (es.any fun x => x.key.isStr name) = b
    cases b <;> simp [noRef]
  unfold nsDel
  refine wpAny_bind (wpAny_loadPart ho ?_)
  rw [hhas]
  refine wpAny_bind (wpAny_pure ?_)
  rw [← hsome]
  cases hmn : (m name).isSome with
  | false =>
    have z := hQ s.heap m hn (fun _ _ => rfl) (.refl ..)
    rw [hmn] at z
    exact wpAny_pure z
  | true =>
    refine wpAny_bind (wpAny_updatePart ho (wpAny_pure ?_))
    have key : ∃ m', (s.heap.update a (Obj.dropName name)).Ns a m' ∧ ∀ x, x ≠ name → m' x = m x := by
      obtain ⟨cl, dd, dt, sl⟩ := o
      subst hd
      cases hi : es.findIdx? (·.key.isStr name) with
      | some i =>
        refine ⟨_, ⟨_, _, ep + 1, Heap.get?_update_self _ ho (by simp only [Obj.dropName_eq, Obj.dropNameByArray, hi] <;> rfl), (by simp only [Obj.dropName_eq, Obj.dropNameByArray, hi] <;> rfl), hk.erase i, fun _ => rfl⟩, fun x hx => ?_⟩
        rw [← hm x]
        simp only [nsFind, findBy]
        rw [← Array.find?_toList, ← Array.find?_toList]
        have e : (es.eraseIdxIfInBounds i).toList = es.toList.eraseIdx i := by simp
        rw [e, find_erase]
        intro y hy
        obtain ⟨lt, h1, _⟩ := Array.findIdx?_eq_some_iff_getElem.mp hi
        have : y = es[i] := by
          rw [Array.getElem?_toList] at hy
          rw [Array.getElem?_eq_getElem lt] at hy
          exact (Option.some.inj hy).symm
        subst this
        cases q : es[i].key.isStr x with
        | false => rfl
        | true => exact absurd (isStr_two q h1) hx
      | none => exact ⟨_, ⟨_, _, ep, Heap.get?_update_self _ ho (by simp only [Obj.dropName_eq, Obj.dropNameByArray, hi] <;> rfl), (by simp only [Obj.dropName_eq, Obj.dropNameByArray, hi] <;> rfl), hk, fun _ => rfl⟩, fun x _ => hm x⟩
    obtain ⟨m', hm', hx⟩ := key
    have z := hQ _ m' hm' hx (Heap.SameBut.update ..)
    rw [hmn] at z
    exact z
theorem name_gone {n : Str} {pos : Pos} {m : Str → Option Value} {Q : Unit → Shared → Prop} (hl : env.kindOf n = some .local) (hn : s.heap.Ns env.locals m) (hkd : env.scope.kind = .function)
    (h : ∀ h' m', h'.Ns env.locals m' → (∀ x, x ≠ n → m' x = m x) → Heap.SameBut env.locals s.heap h' → Q () { s with heap := h', toks := s.toks + 1 }) :
    wpAny M A (do bindName env n .none; unbindBehindTheSuite env n pos) Q E s := by
  have hp : (env.scope.kind == .class || (env.scope.kind == .module && env.locals != env.globals)) = false := by rw [hkd]; rfl
  refine wpAny_bind (wpAny_bindName (wpAny_storeName_local hl hn (fun h1 n1 s1 => ?_) hp))
  unfold unbindBehindTheSuite unbindName
  refine wpAny_onRaise (wpAny_bind (wpAny_point (wpAny_bind ?_)))
  unfold deleteName
  simp only [hl, hp]
  rw [if_neg (by decide)]
  refine wpAny_bind (nsDel_keep n1 fun h2 m2 n2 k2 s2 => ?_)
  simp only [if_true, Option.isSome_some, Bool.not_true, Bool.false_eq_true, if_false]
  exact wpAny_pure (wpAny_point (h h2 m2 n2 (fun x hx => by rw [k2 x hx, if_neg hx]) (s1.trans s2)))
end
section
variable {X : Cx} {pins : List (Addr × Obj)} {σ : St} {H : Hp} {s : Shared}
theorem Inv.nameGone {M : Model} {A : Around} {E : Value → Shared → Prop} {i : Nat} {n : Str} {pos : Pos} {Q : Unit → Shared → Prop} (I : Inv X pins σ H s) (hN : X.N.Nodup) (hi : X.N[i]? = some n) (hl : X.env.scope.names.lookup n = some .local)
    (h : ∀ s', Inv X pins (σ.set i none) H s' → Q () s') : wpAny M A (do bindName X.env n .none; unbindBehindTheSuite X.env n pos) Q E s := by
  obtain ⟨m, hn, hv⟩ := id I.loc
  obtain ⟨oL, esL, epL, hoL, hdL, _⟩ := id hn
  refine name_gone hl hn I.ok.kind fun h' m' n' k' sb => h _ ?_
  have nL : ∀ b o, X.s₀.heap.get? b = some o → b ≠ X.env.locals := fun b o z => Nat.ne_of_lt (Nat.lt_of_lt_of_le (Heap.lt_size z) I.ok.above)
  refine ⟨I.ok, I.os, I.bare, ⟨fun b o z n hb hx => (sb.2 b (nL b o z)).trans (I.base.keep b o z n hb hx), fun b o z n hb hx => ?_, I.base.free, fun b o z hx => ?_, I.base.tups, I.base.frzs, I.base.tbls⟩, ⟨m', n', fun j y v e1 e2 e3 => ?_⟩, fun x c z => ?_, I.free, I.freeC, fun p hp => ?_, fun b u z => ?_, by rw [List.length_set]; exact I.len⟩
  · obtain ⟨sl, q⟩ := I.base.slot b o z n hb hx
    exact ⟨sl, (sb.2 b (nL b o z)).trans q⟩
  · obtain ⟨o', q⟩ := I.base.there b o z hx
    exact ⟨o', (sb.2 b (nL b o z)).trans q⟩
  · by_cases hj : j = i
    · subst hj
      rw [List.getElem?_set_self'] at e2
      cases q : σ[j]? with
      | none => rw [q] at e2; cases e2
      | some w => rw [q] at e2; cases e2
    · rw [List.getElem?_set_ne (Ne.symm hj)] at e2
      obtain ⟨u, r, q⟩ := hv j y v e1 e2 e3
      refine ⟨u, r, ?_⟩
      rcases q with ⟨k, q⟩ | ⟨k, c, q, z⟩
      · have : y ≠ n := fun w => hj (nodup_ix hN e1 (w ▸ hi))
        exact .inl ⟨k, (k' y this).trans q⟩
      · exact .inr ⟨k, c, q, z.sameBut sb (I.cne y c q)⟩
  · obtain ⟨v, q⟩ := I.cell x c z
    exact ⟨v, q.sameBut sb (I.cne x c z)⟩
  · obtain ⟨z, q, ne, nf, d⟩ := I.pin p hp
    exact ⟨(sb.2 p.1 ne).trans z, q, ne, nf, d⟩
  · refine (I.hok b u z).stay (fun c v hc q => (sb.2 c ?_).trans q) (fun _ q => q) fun _ _ q => q
    rintro rfl
    rcases hc with rfl | hc
    · rw [I.free] at z; cases z
    · rw [I.free] at hc; cases hc
end
structure TB where
  pins : List (Addr × Obj)
  xe : Value → Shared → Prop
def cxT (X : Cx) (b : TB) : Cx := { X with pn := X.pn ++ b.pins, xe := b.xe }
def cxS (X : Cx) (e : Addr) : Cx := { X with A := X.A.mark (some (.ref e)), calm := false, xe := fun _ _ => False }
section
variable {X : Cx} {pins : List (Addr × Obj)} {σ : St} {H : Hp} {s : Shared}
theorem Inv.tried (I : Inv X pins σ H s) (xe : Value → Shared → Prop) : Inv (cxT X ⟨pins, xe⟩) [] σ H s :=
  ⟨⟨I.ok.mod, I.ok.kind, I.ok.glob, I.ok.blt, I.ok.above, I.ok.inj, I.ok.has, I.ok.cab, I.ok.hd, I.ok.frames, I.ok.stk, I.ok.exf, I.ok.bs, I.ok.bsz, I.ok.noex, I.ok.exfs, I.ok.funs, I.ok.frf⟩,
    I.os, I.bare, I.base, I.loc, I.cell, I.free, I.freeC, fun p hp => I.pin p (by simpa [cxT] using hp), I.hok, I.len⟩
theorem Inv.untried {xe : Value → Shared → Prop} {pl : List (Addr × Obj)} (I : Inv (cxT X ⟨pins, xe⟩) pl σ H s) : Inv X pins σ H s :=
  ⟨⟨I.ok.mod, I.ok.kind, I.ok.glob, I.ok.blt, I.ok.above, I.ok.inj, I.ok.has, I.ok.cab, I.ok.hd, I.ok.frames, I.ok.stk, I.ok.exf, I.ok.bs, I.ok.bsz, I.ok.noex, I.ok.exfs, I.ok.funs, I.ok.frf⟩,
    I.os, I.bare, I.base, I.loc, I.cell, I.free, I.freeC, fun p hp => I.pin p (List.mem_append_left _ hp), I.hok, I.len⟩
theorem Inv.suite (I : Inv X pins σ H s) (e : Addr) : Inv (cxS X e) pins σ H s :=
  ⟨⟨I.ok.mod, I.ok.kind, I.ok.glob, I.ok.blt, I.ok.above, I.ok.inj, I.ok.has, I.ok.cab, (fun z => nomatch z), I.ok.frames, I.ok.stk, I.ok.exf, I.ok.bs, I.ok.bsz, I.ok.noex, I.ok.exfs, I.ok.funs, I.ok.frf⟩,
    I.os, I.bare, I.base, I.loc, I.cell, I.free, I.freeC, I.pin, I.hok, I.len⟩
theorem Inv.unsuite {e : Addr} (I : Inv (cxS X e) pins σ H s) (ok : X.Ok) : Inv X pins σ H s :=
  ⟨ok, I.os, I.bare, I.base, I.loc, I.cell, I.free, I.freeC, I.pin, I.hok, I.len⟩
end
abbrev TH := Ends → St → Addr → Addr → Option Addr → Hp → Prop
def PHs (X : Cx) (hs : List ExceptHandler) (th : TH) : Prop := ∀ (pins : List (Addr × Obj)) (s : Shared) (σ : St) (H : Hp) (D : Ends) (e C : Addr) (od : Option Addr), Inv X pins σ H s → H e = some (xo e C od true) → Fly X pins H s.heap e →
  (∃ ob vs T, s.heap.get? e = some ob ∧ ob.data = .fields vs ∧ vs[1]? = some (.ref T)) → th D σ e C od H → wpAny (model X.prog X.w) X.A (handleBy (.ref e) X.env hs) (SP X pins D) X.xe s
def thNever : TH := fun _ _ _ _ _ _ => False
theorem ph_never {X : Cx} {hs : List ExceptHandler} : PHs X hs thNever := fun _ _ _ _ _ _ _ _ _ _ _ _ h => h.elim
def endS (D : Ends) (i : Nat) : Ends := { nx := fun σ H => D.nx (σ.set i none) H, rt := D.rt, bk := fun σ H => D.bk (σ.set i none) H, ct := fun σ H => D.ct (σ.set i none) H }
def thAs (K : PySem.W.Frag) (CH : Addr) (i : Nat) (ts : TS) (th : TH) : TH := fun D σ e C od H => ∃ b, XCl K C ∧ PySem.W.subIn K (.ref C) (.ref CH) = some b ∧ if b = true then ts (endS D i) (σ.set i (some (.ref e))) H else th D σ e C od H
section
variable {X : Cx}
theorem matches_ok {pins : List (Addr × Obj)} {σ : St} {H : Hp} {s : Shared} {A : Around} {E : Value → Shared → Prop} {e C CH : Addr} {od : Option Addr} {fl b : Bool} {Q : Bool → Shared → Prop} (I : Inv X pins σ H s) (ea : H e = some (xo e C od fl)) (c : XCl X.K C) (ch : XCl X.K CH) (hs : PySem.W.subIn X.K (.ref C) (.ref CH) = some b) (h : Q b s) :
    wpAny (model X.prog X.w) A (excMatches (.ref e) (.ref CH)) Q E s := by
  obtain ⟨ob, vs, h1, h2, _⟩ := I.xc ea
  obtain ⟨nm, q, N, bs, bm, sn, sub, ab, col, dd, k0, k1, k2, k3, k5, hC, up, T⟩ := ch.at I.kIn
  have hcB : (Value.ref CH :: bm).contains (.type "BaseException") = true := by rw [List.contains_cons, up_has (by decide +kernel) up, Bool.or_true]
  have Ls := PySem.W.looks_subIn (M := model X.prog X.w) I.kIn hs
  have ft := tc_notTuple
  obtain ⟨hp, g, d, tk, os⟩ := s
  unfold excMatches
  repeat (first | (with_reducible refine wpAny_loadPart_at h1 ?_; rw [h2]) | with_reducible refine wpAny_loadPart_at hC ?_ | (with_reducible refine wpAny_isSubtype_exc hC ?_; rw [hcB]) | with_reducible refine Ls.at ?_ | wp_step)
  cases b <;> (wp_walk; exact h)
theorem ph_as {cn n : Str} {p hpos : Pos} {i : Nat} {CH : Addr} {b₀ : Stmt} {suite : List Stmt} {rest : List ExceptHandler} {ts : TS} {th : TH} (hm : X.mg cn = some (.ref CH)) (ch : XCl X.K CH) (hN : X.N.Nodup) (hi : X.N[i]? = some n) (hl : X.env.scope.names.lookup n = some .local) (hsu : ∀ e, PSs (cxS X e) (b₀ :: suite) ts) (hre : PHs X rest th)
    (hg : Gl X cn := by rfl) (hdb : (cn == ("__debug__" : Str)) = false := by decide) (hs : X.stack = X.env :: X.outer := by rfl) (hfm : X.env.frame = some X.env.locals := by rfl) :
    PHs X (.ExceptHandler (some (.Name cn p)) (some n) (b₀ :: suite) hpos :: rest) (thAs X.K CH i ts th) := by
  intro pins s σ H D e C od I ea F tr h
  obtain ⟨b, c, sb, h⟩ := h
  refine wpAny_handleBy_cons (codeAny_handlers_test ?_) (by intro q; cases q)
  refine ld_glob (X := cxS X e) (E := _) (I.suite e) hg hm (matches_ok (A := (cxS X e).A) I ea c ch sb ?_) hdb
  cases b with
  | false => exact hre pins s σ H D e C od I ea F tr h
  | true =>
    refine codeAny_handlers_suite_as ?_
    obtain ⟨ob, vs, he, hd, ht, hv⟩ := F
    obtain ⟨ob', vs', T, g1, g2, g3⟩ := tr
    rw [he] at g1; cases g1
    rw [hd] at g2; cases g2
    obtain ⟨a1, a2, a3⟩ := hv T g3
    obtain ⟨oT, ts', hT, dT, zT, hTe⟩ : ∃ oT ts, s.heap.get? T = some oT ∧ oT.data = .fields ts ∧ 3 < ts.size ∧ T ≠ e := by
      rcases ht with w | ⟨T', oT, ts, w, ne, z, d, q, _⟩
      · rw [w] at g3; cases g3
      · rw [w] at g3; cases g3; exact ⟨oT, ts, z, d, q, ne⟩
    unfold setFlight
    refine wpAny_bind (wpAny_field he hd g3 ?_)
    rw [if_pos (show (Value.ref T != Value.none) = true from by simp)]
    have fT := Obj.data_mapFields dT (·.setIfInBounds 3 ((none : Option Addr).elim Value.none fun f => rawInt f))
    refine wpAny_setField hT dT zT ?_
    have st : s.heap.FunFrames X.base (X.env :: X.outer) := by rw [← hs]; exact I.stack
    have nfT : T ∉ frs (X.env :: X.outer) := fun z => frs_nofields st z hT dT
    obtain ⟨ob2, vs2, q1, q2, q3, q4, q5, q6⟩ := id (I.xc ea)
    have I2 : Inv X pins σ H { s with heap := s.heap.update T (Obj.mapFields (·.setIfInBounds 3 ((none : Option Addr).elim Value.none fun f => rawInt f))) } := by
      have z := I.flown (h' := s.heap.update T (Obj.mapFields (·.setIfInBounds 3 ((none : Option Addr).elim Value.none fun f => rawInt f)))) (vs := vs) ea hs hfm (fun T2 w => by rw [g3] at w; cases w; exact ⟨a1, a2, a3, oT, ts', hT, dT⟩)
        (fun b o hb hbe hb1 z => (Heap.get?_update_other _ _ (fun w => hb1 (by rw [← w]; exact g3))).trans z) (fun b o hb z => ⟨o.slots, (Heap.get?_update_other _ _ (fun w => nfT (by rw [w]; exact hb))).trans z⟩)
        (fun b o w z => by rw [g3] at w; cases w; exact ⟨_, Heap.get?_update_self _ hT (Obj.isFreed_of_fields fT)⟩) ⟨ob2, vs2, (Heap.get?_update_other _ _ hTe).trans q1, q2, q3, q4, q5, fun w => nomatch w⟩
      rw [upd_id ea] at z
      exact z
    refine store_ok I2 hN hi (.inl hl) (show RelV (.ref e) (.ref e) from rfl) (fun s2 I3 => ?_) (.inr hl)
    refine wpAny_mono (hsu e pins s2 _ H _ (I3.suite e) h) (fun f s3 z => ?_) fun _ _ z => z.elim
    have back : ∀ {σ' : St} {H' : Hp}, Inv (cxS X e) pins σ' H' s3 → (∀ s', Inv X pins (σ'.set i none) H' s' → SP X pins D f s') → wpAny (model X.prog X.w) X.A (do bindName X.env n .none; unbindBehindTheSuite X.env n hpos) (fun _ s' => SP X pins D f s') X.xe s3 :=
      fun J k => (J.unsuite I.ok).nameGone hN hi hl k
    cases f with
    | next => obtain ⟨σ', H', J, q⟩ := z; exact back J fun s' J' => ⟨_, H', J', q⟩
    | brk => obtain ⟨σ', H', J, q⟩ := z; exact back J fun s' J' => ⟨_, H', J', q⟩
    | cont => obtain ⟨σ', H', J, q⟩ := z; exact back J fun s' J' => ⟨_, H', J', q⟩
    | ret u => obtain ⟨v, σ', H', J, r, q⟩ := z; exact back J fun s' J' => ⟨v, _, H', J', r, q⟩
def tTry (tb : XH → TS) (to : TS) (th : TH) : TS := fun D σ H => tb (fun σ' ev od H' => ∃ e C, ev = .ref e ∧ H' e = some (xo e C od true) ∧ th D σ' e C od H') { D with nx := to D } σ H
theorem ps_try {body orelse : List Stmt} {h₀ : ExceptHandler} {hs : List ExceptHandler} {pos : Pos} {tb : XH → TS} {to : TS} {th : TH} (hb : ∀ (b : TB) (Hd : XH), Catches (cxT X b) Hd → PSs (cxT X b) body (tb Hd)) (ho : PSs X orelse to) (hh : PHs X (h₀ :: hs) th)
    (hst : X.stack = X.env :: X.outer := by rfl) (hfm : X.env.frame = some X.env.locals := by rfl) : PS X (.Try body (h₀ :: hs) orelse [] pos) (tTry tb to th) := by
  intro pins s σ H D I h
  let Hd : XH := fun σ' ev od H' => ∃ e C, ev = .ref e ∧ H' e = some (xo e C od true) ∧ th D σ' e C od H'
  let xe : Value → Shared → Prop := fun ev s' => ∃ σ' H' e C od fl, ev = .ref e ∧ Inv X pins σ' H' s' ∧ H' e = some (xo e C od fl) ∧ Fly X pins H' s'.heap e ∧ Hd σ' (.ref e) od (upd H' e (xo e C od true))
  have cat : Catches (cxT X ⟨pins, xe⟩) Hd := fun pl σ' H' s' e C od fl J ea F q => by
    obtain ⟨ob, vs, h1, h2, h3, h4⟩ := F
    exact ⟨σ', H', e, C, od, fl, rfl, J.untried, ea, ⟨ob, vs, h1, h2, h3, fun T w => ⟨(h4 T w).1, (h4 T w).2.1, fun p hp => (h4 T w).2.2 p (List.mem_append_left _ hp)⟩⟩, q⟩
  refine wpAny_Try_except (wpAny_mono (hb ⟨pins, xe⟩ Hd cat [] s σ H _ (I.tried xe) h) (fun f s1 z => ?_) fun ev s1 z => ?_)
  · cases f with
    | next => obtain ⟨σ', H', J, q⟩ := z; exact ho pins s1 σ' H' D J.untried q
    | brk => obtain ⟨σ', H', J, q⟩ := z; exact ⟨σ', H', J.untried, q⟩
    | cont => obtain ⟨σ', H', J, q⟩ := z; exact ⟨σ', H', J.untried, q⟩
    | ret u => obtain ⟨v, σ', H', J, r, q⟩ := z; exact ⟨v, σ', H', J.untried, r, q⟩
  · obtain ⟨σ', H', e, C, od, fl, rfl, J, ea, F, e2, C2, w, ea2, q⟩ := z
    cases w
    have same : upd H' e (xo e C od true) = upd H' e (xo e C od true) := rfl
    refine J.left ea F rfl hst hfm fun s2 os J2 F2 ⟨ob, vs, T, oT, ts, g1, g2, g3, _⟩ => ?_
    exact hh pins s2 σ' _ D e C2 od J2 ea2 F2 ⟨ob, vs, T, g1, g2, g3⟩ q
end
end L2

set_option Elab.async false
set_option linter.all false
set_option maxRecDepth 100000
set_option maxHeartbeats 4000000
namespace L2
open PySem PySem.Spec PyProof.Rows
open PySem.W (Looks InstAt looks_findIn looks_mroIn looks_clsIn looks_find)
theorem nsOk_of {K : PySem.W.Frag} {N : Addr} {c : Value} {d : Option Addr} {es : Array DictEntry} {n : Nat} {sl : Array (Option Value)} (l : K.lookup N = some ⟨c, d, .dict es n, sl⟩) (k : (es.toList.all fun e => match e.key with | .str _ _ => true | _ => false) = true) : PySem.W.nsOkIn K N = true := by
  unfold PySem.W.nsOkIn
  rw [l]
  dsimp only
  rw [← Array.all_toList]
  exact k
theorem xcl_top {K : PySem.W.Frag} {C : Addr} {nm q : Str} {N : Addr} {bs : List Value} {sn : List Str} {sub : List Value} {ab : Bool} {col : Option Bool} {dd : Option Addr} {k0 k1 k2 k3 k5 : Option Value} (lk : K.lookup C = some (excClassObj nm q C N bs VEs true sn sub ab col dd k0 k1 k2 k3 k5 "ValueError.__new__"))
    (ga : PySem.W.findIn K (.ref C) "__getattribute__" = some (some (.builtin "BaseException.__getattribute__"))) (gh : PySem.W.findIn K (.ref C) "__getattr__" = some none) (sa : PySem.W.findIn K (.ref C) "__setattr__" = some (some (.builtin "object.__setattr__"))) (cl : PySem.W.findIn K (.ref C) "__class__" = some (some (.builtin "object.__class__")))
    (cg : PySem.W.specialIn K (.builtin "object.__class__") "__get__" = some (some (.builtin "getset_descriptor.__get__"))) (ct : PySem.W.takesIn K (.builtin "object.__class__") = some true) (kp : PySem.W.keepIn K (.ref C) = true) : XCl K C :=
  ⟨⟨nm, q, N, bs, VEs, sn, sub, ab, col, dd, k0, k1, k2, k3, k5, lk, by decide +kernel, fun _ _ => .base⟩, ga, gh, sa, cl, cg, ct, kp⟩
theorem up_ves : upIn VEs = true := by decide +kernel
theorem up_ref {U : Addr} {l : List Value} (h : upIn l = true) : upIn (.ref U :: l) = true := by
  unfold upIn
  rw [Bool.or_eq_true]
  exact .inr h
theorem xcl_under {K : PySem.W.Frag} {C U : Addr} {nm q : Str} {N : Addr} {bs : List Value} {sn : List Str} {sub : List Value} {ab : Bool} {col : Option Bool} {dd : Option Addr} {k0 k1 k2 k3 k5 : Option Value} {uc : Value} {ud : Option Addr} {ucd : ClassData} {usl : Array (Option Value)}
    (lk : K.lookup C = some (excClassObj nm q C N bs (.ref U :: VEs) true sn sub ab col dd k0 k1 k2 k3 k5 "ValueError.__new__")) (lU : K.lookup U = some ⟨uc, ud, .cls ucd, usl⟩) (nU : PySem.W.nsOkIn K ucd.ns = true) (iU : PySem.W.nsIn K ucd.ns "__init__" = some none)
    (ga : PySem.W.findIn K (.ref C) "__getattribute__" = some (some (.builtin "BaseException.__getattribute__"))) (gh : PySem.W.findIn K (.ref C) "__getattr__" = some none) (sa : PySem.W.findIn K (.ref C) "__setattr__" = some (some (.builtin "object.__setattr__"))) (cl : PySem.W.findIn K (.ref C) "__class__" = some (some (.builtin "object.__class__")))
    (cg : PySem.W.specialIn K (.builtin "object.__class__") "__get__" = some (some (.builtin "getset_descriptor.__get__"))) (ct : PySem.W.takesIn K (.builtin "object.__class__") = some true) (kp : PySem.W.keepIn K (.ref C) = true) : XCl K C :=
  ⟨⟨nm, q, N, bs, .ref U :: VEs, sn, sub, ab, col, dd, k0, k1, k2, k3, k5, lk, up_ref up_ves, fun _ X => .own (X _ _ lU) (.of_isNs (PySem.W.isNs_of_in X nU)) (PySem.W.nsMap_none_of_in X nU iU) .base⟩, ga, gh, sa, cl, cg, ct, kp⟩
structure InitFn (K : PySem.W.Frag) (mg : Str → Option Value) (C : Addr) (x qual : Str) (st : Stmt) (ps : List Str) : Prop where
  ex : ∃ f fd, XMk K C f ∧ Fun K "__init__" qual st f fd ∧ Binds K fd ps [] ∧ mg x = some (.ref C)
def HasI (P : Program) (w : World) (K : PySem.W.Frag) (mg : Str → Option Value) (base : Heap) (k : Nat) (x : Str) (C : Addr) (ps : List Str) (sp : Sp) : Prop :=
  ∃ f fd, XMk K C f ∧ FnOk P w K mg base CX0 k f fd ps sp ∧ Binds K fd ps [] ∧ mg x = some (.ref C)
theorem InitFn.has {P : Program} {w : World} {K : PySem.W.Frag} {mg : Str → Option Value} {base : Heap} {C : Addr} {x qual : Str} {st : Stmt} {N ps : List Str} {k : Nat} {sp : Sp} (F : InitFn K mg C x qual st ps) (S : FnScope N ps (defScope st)) (len : ∀ vs H Q E, sp vs H Q E → vs.length = ps.length)
    (hbody : ∀ (f : Addr) (cdv : Value) (A : Around) (outer : List Env) (s : Shared) (H : Hp) (vs : List V) (Q : VK) (E : XK), Room k (A.deeper (envOfC qual (defScope st) s.heap.objs.size f cdv)) → (A.deeper (envOfC qual (defScope st) s.heap.objs.size f cdv)).units + 64 < cLine → sp vs H Q E →
      ∃ t, PSs (cxOf CX0 P w K mg base N qual (defScope st) f cdv A outer s H E).nox (defBody st) t ∧ t { nx := fun _ H' => Q .non H', rt := Q } (start N vs) H) : HasI P w K mg base (k + 1) x C ps sp := by
  obtain ⟨f, fd, M, F, b, m⟩ := F.ex
  exact ⟨f, fd, M, F.ok S len fun cdv A outer s H vs Q E hr h => hbody f cdv A outer s H vs Q E hr hr.units h, b, m⟩
theorem pe_makeXD {X : Cx} {j k : Nat} {x : Str} {C : Addr} {ps : List Str} {sp : Sp} {e : Expr} {es : List Expr} {t : TA} {p pos : Pos} (D : HasI X.prog X.w X.K X.mg X.base j x C ps sp) (hr : Room k X.A) (ha : PA X (e :: es) t) (hj : j + 1 ≤ k := by decide) (hg : Gl X x := by rfl)
    (hdb : (x == ("__debug__" : Str)) = false := by decide) (he : starEach (e :: es) X.env = (false, eval e X.env) :: starEach es X.env := by rfl) (hpl : (backTo pos (starEach es X.env)).any (·.1) = false := by rfl) :
    PE X (.Call (.Name x p) (e :: es) [] pos) (tMakeX C sp t) := by
  obtain ⟨f, fd, M, F, b, m⟩ := D
  exact pe_makeX M F (hr.mono hj) m b ha hg hdb he hpl
theorem initFn_mk {K : PySem.W.Frag} {mg : Str → Option Value} {h : Heap} {C : Addr} {x qual : Str} {st : Stmt} {ps : List Str} {f : Addr} {oc : Value} {od an : Option Addr} {osl : Array (Option Value)} {kV doc pm cdv ct : Value} (X : K.In h) (G : h.Ns mainGlobals mg) (c : XCl K C)
    (a : PySem.W.nsIn K mainGlobals x = some (some (.ref C))) (i : PySem.W.findIn K (.ref C) "__init__" = some (some (.ref f))) (n : PySem.W.isFn K (.ref f) = true) (l : K.lookup f = some ⟨oc, od, .func (PySem.W.fnOf "__init__" qual (defArgs st) (defBody st) (defScope st) .none kV doc pm an cdv ct), osl⟩)
    (cd : PySem.W.codeIn K cdv qual = true) (k : PySem.W.keepIn K (.ref f) = true)
    (hb : ∀ (kV doc pm : Value) (an : Option Addr) (cdv ct : Value) (us : List Value), us.length = ps.length → bindArgs (PySem.W.fnOf "__init__" qual (defArgs st) (defBody st) (defScope st) .none kV doc pm an cdv ct) ⟨us, []⟩ = pure (ps.zip us)) : InitFn K mg C x qual st ps :=
  ⟨f, _, ⟨c, i, n⟩, fun_mk l cd k, (fun_mk l cd k).binds hb, PySem.W.mg_of X G a⟩
section
variable {X : Cx}
theorem c_isA : CallR X (.builtin "isinstance") (fun xs H Q => (∃ x y t b, xs = [x, y] ∧ cvOf y ≠ .none ∧ TyOf X.K H x t ∧ PySem.W.kitOne X.K t (cvOf y) = some b ∧ Q (.bl b) H) ∨
    (∃ (a C : Addr) (od : Option Addr) (fl b : Bool) (y : V), xs = [.ref a, y] ∧ H a = some (xo a C od fl) ∧ (∀ dx, od = some dx → ∃ fs, H dx = some (L2.xf dx fs)) ∧ XCl X.K C ∧ cvOf y ≠ .none ∧ PySem.W.kitOne X.K (.ref C) (cvOf y) = some b ∧ Q (.bl b) H)) := c_isinst.or c_isinstX
end
section
variable {X : Cx}
end
end L2

set_option Elab.async false
set_option linter.all false
set_option maxRecDepth 100000
set_option maxHeartbeats 4000000
namespace L2
open PySem PySem.Spec PyProof.Rows
open PySem.W (Looks InstAt looks_findIn looks_mroIn looks_clsIn looks_find)
section
variable {prog : Program} {w : World} {A : Around} {E : Value → Shared → Prop} {h : Heap} {g : Array GenState} {d : Drawn} {t : Nat} {os : OsState} {K : PySem.W.Frag} {C : Addr}
end
theorem comp_rel {J : It} {n : Nat} {x : Nat → V} {fr : List Nat} {te : CB → TE} {Q : VK} {σ : St} {H1 : Hp} (R : Nat → V → Hp → Prop) (hn : n < sizeLine)
    (stop : ∀ H, Same H1 H → J.stop n H) (go : ∀ i H, i < n → Same H1 H → J.go i H) (yld : ∀ i H v H', i < n → Same H1 H → J.yld i H v H' → H' = H ∧ v = x i)
    (he : ∀ b i H (G : VK), i < n → Same H1 H → (∀ y H', Same H H' → R i y H' → G y H') → te b (some (x i) :: cFr fr σ) H G)
    (mono : ∀ i y H H', Same H H' → R i y H → R i y H') (st : ∀ i y H D ys zs, H D = some (.lst ys) → R i y H → R i y (upd H D (.lst zs)))
    (fin : ∀ D H ys, H1 D = none → Same H1 H → H D = some (.lst ys) → ys.length = n → (∀ (i : Nat) y, ys[i]? = some y → R i y H) → Q (.ref D) H) : tBlock J 1 fr (fun _ => gName 0) (fun _ => tYes) te Q σ H1 := by
  refine ⟨fun b D hD => ?_⟩
  refine ⟨fun i m σ' H' => m = n - i ∧ i ≤ n ∧ (∃ v0, σ' = v0 :: cFr fr σ) ∧ Same H1 H' ∧ ∃ ys, H' D = some (.lst ys) ∧ ys.length = i ∧ ∀ (j : Nat) y, ys[j]? = some y → R j y H', ⟨n, rfl, Nat.zero_le _, ⟨none, rfl⟩, Same.upd hD _, [], upd_same, rfl, fun j y h => by cases h⟩, ?_⟩
  rintro i m σ' H' ⟨rfl, hi, ⟨v0, rfl⟩, sm, ys, hl, hy, hR⟩
  by_cases hlt : i < n
  · refine .inr ⟨go i H' hlt sm, fun σ2 H2 => (∃ v0, σ2 = v0 :: cFr fr σ) ∧ Same H1 H2 ∧ ∃ ys, H2 D = some (.lst ys) ∧ ys.length = i + 1 ∧ ∀ (j : Nat) y, ys[j]? = some y → R j y H2, fun σ2 H2 q => ⟨n - (i + 1), by omega, rfl, hlt, q⟩, fun v H2 y => ?_⟩
    obtain ⟨rfl, rfl⟩ := yld i H' v H2 hlt sm y
    refine he b i _ _ hlt sm fun z H4 s4 rz => ⟨ys, s4 _ _ hl, by omega, ⟨_, rfl⟩, ?_, ys ++ [z], upd_same, by simp [hy], fun j y' hj => ?_⟩
    · intro c o q
      by_cases hc : c = D
      · rw [hc, hD] at q; cases q
      · rw [upd_ne hc]; exact (sm.trans s4) c o q
    · have hD4 := s4 _ _ hl
      by_cases hji : j < ys.length
      · rw [List.getElem?_append_left hji] at hj
        exact st _ _ _ _ _ _ hD4 (mono _ _ _ _ s4 (hR j y' hj))
      · by_cases e : j = ys.length
        · subst e
          rw [List.getElem?_append_right (Nat.le_refl _)] at hj
          simp at hj
          subst hj
          rw [hy]
          exact st _ _ _ _ _ _ hD4 rz
        · rw [List.getElem?_eq_none (by simp; omega)] at hj
          cases hj
  · have e : i = n := by omega
    subst e
    exact .inl ⟨stop H' sm, fin D H' ys hD sm hl hy hR⟩
end L2

set_option Elab.async false
set_option linter.all false
set_option maxRecDepth 100000
namespace L2
open PySem PySem.Spec PyProof.Rows
section
variable {P : Program} {w : World} {K : PySem.W.Frag} {mg : Str → Option Value} {base : Heap}
structure MFn (K : PySem.W.Frag) (C : Addr) (m qual : Str) (st : Stmt) (ps : List Str) : Prop where
  ex : ∃ f fd, Fun K m qual st f fd ∧ Binds K fd ps [] ∧ Meth K C m f
def HasM (P : Program) (w : World) (K : PySem.W.Frag) (mg : Str → Option Value) (base : Heap) (k : Nat) (C : Addr) (m : Str) (ps : List Str) (sp : Sp) : Prop :=
  ∃ f fd, FnOk P w K mg base CX0 k f fd ps sp ∧ Binds K fd ps [] ∧ Meth K C m f
theorem MFn.has {C : Addr} {m qual : Str} {st : Stmt} {N ps : List Str} {k : Nat} {sp : Sp} (F : MFn K C m qual st ps) (S : FnScope N ps (defScope st)) (len : ∀ vs H Q E, sp vs H Q E → vs.length = ps.length)
    (hbody : ∀ (f : Addr) (cdv : Value) (A : Around) (outer : List Env) (s : Shared) (H : Hp) (vs : List V) (Q : VK) (E : XK), Room k (A.deeper (envOfC qual (defScope st) s.heap.objs.size f cdv)) → (A.deeper (envOfC qual (defScope st) s.heap.objs.size f cdv)).units + 64 < cLine → sp vs H Q E →
      ∃ t, PSs (cxOf CX0 P w K mg base N qual (defScope st) f cdv A outer s H E).nox (defBody st) t ∧ t { nx := fun _ H' => Q .non H', rt := Q } (start N vs) H) : HasM P w K mg base (k + 1) C m ps sp := by
  obtain ⟨f, fd, F, b, m⟩ := F.ex
  exact ⟨f, fd, F.ok S len fun cdv A outer s H vs Q E hr h => hbody f cdv A outer s H vs Q E hr hr.units h, b, m⟩
structure OwnC (K : PySem.W.Frag) (mg : Str → Option Value) (C : Addr) (x : Str) (up : List Addr) : Prop where
  mg : mg x = some (.ref C)
  cl : Cls K C
  mro : ∃ cd, PySem.W.clsIn K C = some cd ∧ cd.mro = up.map Value.ref ++ [Value.type "object"]
  ty : PySem.W.typeIn K (.ref C) = some (.type "type")
  kc : PySem.W.findIn K (.ref C) "__class__" = some (some (.builtin "object.__class__"))
  cg : PySem.W.specialIn K (.builtin "object.__class__") "__get__" = some (some (.builtin "getset_descriptor.__get__"))
  ct : PySem.W.takesIn K (.builtin "object.__class__") = some true
  mks : PySem.W.makesIn K C = true
  kp : PySem.W.keepIn K (.ref C) = true
variable {C D : Addr} {x y : Str} {up vp : List Addr}
theorem OwnC.sub (O : OwnC K mg C x up) (b : Value) : PySem.W.mroIn K C b = some ((up.map Value.ref ++ [Value.type "object"]).contains b) := by
  obtain ⟨cd, h1, h2⟩ := O.mro
  unfold PySem.W.mroIn
  rw [h1]
  show (if cd.mro.isEmpty = true then none else some (cd.mro.contains b)) = _
  rw [h2, if_neg (by cases up <;> simp)]
theorem refs_contains (up : List Addr) (D : Addr) : (up.map Value.ref ++ [Value.type "object"]).contains (Value.ref D) = decide (D ∈ up) := by
  induction up with
  | nil => rfl
  | cons a r ih =>
    show ((Value.ref D == Value.ref a) || (r.map Value.ref ++ [Value.type "object"]).contains (Value.ref D)) = _
    rw [ih]
    by_cases h : D = a
    · subst h; simp
    · have : (Value.ref D == Value.ref a) = false := by
        rw [Bool.eq_false_iff]
        intro z
        exact h (Value.ref.inj (beq_iff_eq.mp z))
      rw [this, Bool.false_or]
      simp [h]
theorem OwnC.kit (O : OwnC K mg C x up) (U : OwnC K mg D y vp) (hs : C ∈ up) : PySem.W.kitOne K (.ref C) (.ref D) = some (decide (D ∈ up)) := by
  unfold PySem.W.kitOne
  split
  · rename_i q
    have : C = D := Value.ref.inj (beq_iff_eq.mp q)
    rw [← this, decide_eq_true hs]
  · obtain ⟨cd, h1, _⟩ := U.mro
    unfold PySem.W.kitCls
    dsimp only
    rw [h1, U.ty]
    rw [if_pos (by rfl)]
    show PySem.W.mroIn K C (.ref D) = _
    rw [O.sub, refs_contains]
theorem OwnC.tyOf (O : OwnC K mg C x up) {H : Hp} {a dx : Addr} {fs : List (Str × V)} (e : H a = some (.ins C dx fs)) : TyOf K H (.ref a) (.ref C) :=
  .ins e O.cl O.kc O.cg O.ct ((O.sub _).trans (by simp))
end
section
variable {X : Cx} {k j : Nat} {C : Addr} {x m : Str} {ps : List Str} {sp : Sp} {o e : Expr} {es : List Expr} {ta : TE} {t : TA} {p apos pos : Pos} {up : List Addr}
theorem pe_makeD (O : OwnC X.K X.mg C x up) (D : HasM X.prog X.w X.K X.mg X.base j C "__init__" ps sp) (hr : Room k X.A) (ha : PA X (e :: es) t) (hj : j + 1 ≤ k := by decide) (hg : Gl X x := by rfl) (hdb : (x == ("__debug__" : Str)) = false := by decide)
    (he : starEach (e :: es) X.env = (false, eval e X.env) :: starEach es X.env := by rfl) (hpl : (backTo pos (starEach es X.env)).any (·.1) = false := by rfl) : PE X (.Call (.Name x p) (e :: es) [] pos) (tMake C sp [] E0 t) := by
  obtain ⟨f, fd, F, b, m⟩ := D
  exact pe_make ⟨O.mks, m.at_, m.fn, O.kp⟩ F (hr.mono hj) hg O.mg b .nil pass0 ha hdb he hpl
theorem pe_makeD0 (O : OwnC X.K X.mg C x up) (D : HasM X.prog X.w X.K X.mg X.base j C "__init__" ps sp) (hr : Room k X.A) (hj : j + 1 ≤ k := by decide) (hg : Gl X x := by rfl) (hdb : (x == ("__debug__" : Str)) = false := by decide) : PE X (.Call (.Name x p) [] [] pos) (tMake C sp [] E0 tNil) := by
  obtain ⟨f, fd, F, b, m⟩ := D
  exact pe_make0 ⟨O.mks, m.at_, m.fn, O.kp⟩ F (hr.mono hj) hg O.mg b .nil pass0 hdb
theorem pe_methD {pl : Sem Bool} (he : PE X o ta) (c : Cls X.K C) (D : HasM X.prog X.w X.K X.mg X.base j C m ps sp) (hr : Room k X.A) (ha : PA X (e :: es) t) (hj : j ≤ k := by decide)
    (hst : starEach (e :: es) X.env = (false, eval e X.env) :: starEach es X.env := by rfl) (hpl : (backTo pos (starEach es X.env)).any (·.1) = false := by rfl)
    (ht : eval (.Call (.Attribute o m apos) (e :: es) [] pos) X.env = (do
      let ov ← eval o X.env
      standAt apos.atName
      let (f, first) ← holding [ov] (getMethod ov m pl)
      callWith pos f first (backTo pos (starEach (e :: es) X.env)) (backToKw pos (keywordEach [] X.env))) := by rfl) :
    PE X (.Call (.Attribute o m apos) (e :: es) [] pos) (tMeth C m sp [] E0 ta t) := by
  obtain ⟨f, fd, F, b, hm⟩ := D
  exact pe_meth (pl := pl) he c hm F (hr.mono hj) b .nil pass0 ha hst hpl ht
structure OfC (K : PySem.W.Frag) (C : Addr) (m : Str) : Prop where
  ga : PySem.W.specialIn K (.ref C) "__getattribute__" = some (some (.builtin "type.__getattribute__"))
  rd : PySem.W.readsIn K C (.type "type") = true
  fc : ∃ f, PySem.W.findIn K (.ref C) m = some (some (.ref f)) ∧ PySem.W.findCls K (.ref C) (.type "type") m = some (.val (.ref f))
theorem pe_callOf {pl : Sem Bool} (O : OwnC X.K X.mg C x up) (W : OfC X.K C m) (D : HasM X.prog X.w X.K X.mg X.base j C m ps sp) (hr : Room k X.A) (ha : PA X (e :: es) t) (hj : j ≤ k := by decide) (hg : Gl X x := by rfl) (hdb : (x == ("__debug__" : Str)) = false := by decide)
    (hst : starEach (e :: es) X.env = (false, eval e X.env) :: starEach es X.env := by rfl) (hpl : (backTo pos (starEach es X.env)).any (·.1) = false := by rfl)
    (ht : eval (.Call (.Attribute (.Name x p) m apos) (e :: es) [] pos) X.env = (do
      let ov ← eval (.Name x p) X.env
      standAt apos.atName
      let (f, first) ← holding [ov] (getMethod ov m pl)
      callWith pos f first (backTo pos (starEach (e :: es) X.env)) (backToKw pos (keywordEach [] X.env))) := by rfl) :
    PE X (.Call (.Attribute (.Name x p) m apos) (e :: es) [] pos) (tCall sp [] E0 t) := by
  obtain ⟨f, fd, F, b, hm⟩ := D
  intro pins s σ H Q I h
  refine PySem.W.methodCall_KW (pl := pl) (ld_glob I hg O.mg ?_ hdb) ht
  obtain ⟨f', h1, h2⟩ := W.fc
  have ef : f = f' := by
    have := hm.at_.symm.trans h1
    cases this
    rfl
  subst ef
  refine PySem.W.method_cls I.kIn W.ga (PySem.W.cls_value I.kIn W.rd h2 rfl ?_)
  refine PySem.W.callWith_K (h₀ := X.base) I.ok.mod.kin hm.kp (thn (ha pos pins _ σ H _ (I.tok _) h) fun us s2 ⟨vs, H2, I2, r, q2⟩ => ⟨I2.kIn, ?_⟩) hst hpl
  exact run_fn (us := us) (vs := vs) F (hr.mono hj) b .nil pass0 I2 r q2
end
theorem mFn_mk {K : PySem.W.Frag} {C : Addr} {m qual : Str} {st : Stmt} {ps : List Str} {f : Addr} {oc : Value} {od an : Option Addr} {osl : Array (Option Value)} {kV doc pm cdv ct : Value}
    (a : PySem.W.findIn K (.ref C) m = some (some (.ref f))) (fn : PySem.W.isFn K (.ref f) = true) (l : K.lookup f = some ⟨oc, od, .func (PySem.W.fnOf m qual (defArgs st) (defBody st) (defScope st) .none kV doc pm an cdv ct), osl⟩) (c : PySem.W.codeIn K cdv qual = true) (k : PySem.W.keepIn K (.ref f) = true)
    (hb : ∀ (kV doc pm : Value) (an : Option Addr) (cdv ct : Value) (us : List Value), us.length = ps.length → bindArgs (PySem.W.fnOf m qual (defArgs st) (defBody st) (defScope st) .none kV doc pm an cdv ct) ⟨us, []⟩ = pure (ps.zip us)) : MFn K C m qual st ps :=
  ⟨f, _, fun_mk l c k, (fun_mk l c k).binds hb, ⟨a, fn, k⟩⟩
end L2
namespace L2
open PySem PySem.Spec PyProof.Rows
def But (x : Addr) (H H' : Hp) : Prop := ∀ b, b ≠ x → ∀ o, H b = some o → H' b = some o
theorem But.refl (x : Addr) (H : Hp) : But x H H := fun _ _ _ h => h
theorem But.trans {x : Addr} {H H1 H2 : Hp} (a : But x H H1) (b : But x H1 H2) : But x H H2 := fun c hc o h => b c hc o (a c hc o h)
theorem But.at (x : Addr) (H : Hp) (o : HO) : But x H (upd H x o) := fun b hb u q => by rw [upd_ne hb]; exact q
theorem But.new {x p : Addr} {H : Hp} (h : H p = none) (o : HO) : But x H (upd H p o) := fun b _ u q => by rw [upd_ne (ne_of_none q h)]; exact q
theorem But.of {x : Addr} {H H' : Hp} (s : Same H H') : But x H H' := fun b _ o h => s b o h
theorem But.same {x dx : Addr} {H H' : Hp} {o o' : HO} (b : But x (upd (upd H dx o) x o') H') (hx : H x = none) (hd : H dx = none) : Same H H' := fun a u q => by
  have h1 : a ≠ x := fun z => by rw [z, hx] at q; cases q
  have h2 : a ≠ dx := fun z => by rw [z, hd] at q; cases q
  exact b a h1 u (by rw [upd_ne h1, upd_ne h2]; exact q)
theorem SqL.but {K : PySem.W.Frag} {H H' : Hp} {x t C dx : Addr} {fs : List (Str × V)} {xs : List V} (h : SqL K H t xs) (hx : H x = some (.ins C dx fs)) (b : But x H H') : SqL K H' t xs := by
  rcases h with (h | ⟨o, h⟩) | h
  · exact .inl (.inl (b t (fun z => by rw [z, hx] at h; cases h) _ h))
  · exact .inl (.inr ⟨o, b t (fun z => by rw [z, hx] at h; cases h) _ h⟩)
  · exact .inr h
theorem SqL.new {K : PySem.W.Frag} {H : Hp} {t x dx : Addr} {xs : List V} {o o' : HO} (h : SqL K H t xs) (hx : H x = none) (hd : H dx = none) : SqL K (upd (upd H dx o) x o') t xs :=
  Same.seq (fun a u q => by
    have h1 : a ≠ x := fun z => by rw [z, hx] at q; cases q
    have h2 : a ≠ dx := fun z => by rw [z, hd] at q; cases q
    rw [upd_ne h1, upd_ne h2]; exact q) h
end L2
namespace L2
open PySem
theorem new_none {H : Hp} {x dx p : Addr} {o o' : HO} (hx : H x = none) (hd : H dx = none) (h : upd (upd H dx o) x o' p = none) : H p = none := by
  unfold upd at h
  split at h
  · cases h
  · split at h
    · cases h
    · exact h
end L2
namespace L2
open PySem
theorem But.none {x p : Addr} {H H' : Hp} (b : But x H H') (e : p ≠ x) (h : H' p = Option.none) : H p = Option.none := by
  cases z : H p with
  | none => rfl
  | some o => exact absurd (h.symm.trans (b _ e _ z)) (by intro w; cases w)
end L2

set_option Elab.async false
set_option linter.all false
set_option maxRecDepth 100000
namespace L2
open PySem PySem.Spec PyProof.Rows
section
variable {X : Cx}
def flatR : V → Bool
  | .flt _ => false
  | .byt _ => false
  | _ => true
theorem eqAt_same {x : V} {u v : Value} (hx : flatR x = true) (ru : RelV x u) (rv : RelV x v) (A : Around) (s : Shared) : SeqAt.EqAt A s u v true := by
  cases x with
  | non => cases ru; cases rv; exact .same _
  | bl b => cases ru; cases rv; exact .same _
  | int i =>
    obtain ⟨t, rfl⟩ := ru
    obtain ⟨t', rfl⟩ := rv
    have := SeqAt.EqAt.int_int (A := A) (s := s) i t i t'
    rwa [beq_self_eq_true] at this
  | str y =>
    obtain ⟨t, rfl⟩ := ru
    obtain ⟨t', rfl⟩ := rv
    have := SeqAt.EqAt.str_str (A := A) (s := s) y t y t'
    rwa [beq_self_eq_true] at this
  | byt _ => cases hx
  | flt _ => cases hx
  | ref a => cases ru; cases rv; exact .same _
  | ty n => cases ru; cases rv; exact .same _
theorem o_eqS (hu : X.A.units + 64 < cLine) : OpR X (compareOp .Eq) (fun x y H Q => ∃ p q xs, x = .ref p ∧ y = .ref q ∧ SqL X.K H p xs ∧ SqL X.K H q xs ∧ xs.all flatR = true ∧ Q (.bl true) H) := by
  intro pins s σ H x y v u Q I rx ry h
  obtain ⟨p, q, xs, rfl, rfl, hp, hq, hf, k⟩ := h
  cases rx
  cases ry
  obtain ⟨its, r1, ⟨o, n, e1, c1, _, d1⟩, _⟩ := I.list hp
  obtain ⟨jts, r2, ⟨o2, n2, e2, c2, _, d2⟩, _⟩ := I.list hq
  have l1 := r1.length
  have l2 := r2.length
  refine SeqAt.eq_listAt (e := fun _ => true) ⟨o, e1, c1, n, d1⟩ ⟨o2, e2, c2, n2, d2⟩ (by simp; omega) (by omega) (fun j h1 h2 => ?_) ?_
  · simp at h1 h2
    obtain ⟨x, hx⟩ : ∃ x, xs[j]? = some x := ⟨xs[j]'(by omega), List.getElem?_eq_getElem (by omega)⟩
    obtain ⟨u1, g1, w1⟩ := r1.get hx
    obtain ⟨u2, g2, w2⟩ := r2.get hx
    have z1 : its.toArray[j]'(by simpa using h1) = u1 := by
      have := List.getElem?_eq_getElem h1
      rw [g1] at this
      simpa using (Option.some.inj this).symm
    have z2 : jts.toArray[j]'(by simpa using h2) = u2 := by
      have := List.getElem?_eq_getElem h2
      rw [g2] at this
      simpa using (Option.some.inj this).symm
    rw [z1, z2]
    exact eqAt_same (List.all_eq_true.mp hf x (List.mem_of_getElem? hx)) w1 w2 _ _
  · have : ((List.range its.toArray.size).all fun _ => true) = true := by simp
    rw [this]
    exact ⟨.bl true, H, I, rfl, k⟩
def fEqA (K : PySem.W.Frag) : R2 := fun x y H Q => match x, y with
  | .ref p, .ref q => (∃ d e, RepD K H (.ref p) d ∧ RepD K H (.ref q) e ∧ SeqAt.shaped d = true ∧ SeqAt.shaped e = true ∧ Q (.bl (PyData.eqv d e)) H) ∨ (∃ xs, SqL K H p xs ∧ SqL K H q xs ∧ xs.all flatR = true ∧ Q (.bl true) H)
  | x, y => scal x y = true ∧ Q (.bl (decide (x = y))) H
theorem o_eqA (hu : X.A.units + 64 < cLine) : OpR X (compareOp .Eq) (fEqA X.K) := ((o_eq hu).or (o_eqS hu)).imp fun x y H Q q => by
  by_cases hr : ∃ p q, x = V.ref p ∧ y = V.ref q
  · obtain ⟨p, q', rfl, rfl⟩ := hr
    rcases q with q | ⟨xs, h1, h2, h3, h4⟩
    · exact .inl q
    · exact .inr ⟨p, q', xs, rfl, rfl, h1, h2, h3, h4⟩
  · refine .inl ?_
    cases x <;> cases y <;> first | exact q | exact absurd ⟨_, _, rfl, rfl⟩ hr
theorem c_intB : CallR X (.type "int") (fun xs H Q => ∃ b, xs = [.bl b] ∧ Q (.int (if b = true then 1 else 0)) H) := by
  intro pins s σ H xs us Q I r h
  obtain ⟨b, rfl, q⟩ := h
  obtain ⟨u, rfl, rfl⟩ := vals1 r
  exact PySem.call_int_bool ⟨.int _, H, I.tok _, ⟨_, rfl⟩, q⟩
end
end L2

set_option Elab.async false
set_option linter.all false
set_option maxRecDepth 100000
namespace L2
open PySem PySem.Spec PyProof.Rows
section
variable {κ : Type} [DecidableEq κ]
def valV (kvs : List (κ × V)) (k : κ) : Option V := (kvs.find? fun kv => decide (kv.1 = k)).map (·.2)
def putK (kvs : List (κ × V)) (k : κ) (v : V) : List (κ × V) :=
  if (kvs.any fun kv => decide (kv.1 = k)) = true then kvs.map (fun kv => if kv.1 = k then (kv.1, v) else kv) else kvs ++ [(k, v)]
def dropK (kvs : List (κ × V)) (k : κ) : List (κ × V) := kvs.filter fun kv => decide (kv.1 ≠ k)
theorem valV_pos {p : κ × V} {r : List (κ × V)} {k : κ} (e : p.1 = k) : valV (p :: r) k = some p.2 := by simp [valV, List.find?_cons, e]
theorem valV_neg {p : κ × V} {r : List (κ × V)} {k : κ} (e : ¬ p.1 = k) : valV (p :: r) k = valV r k := by simp [valV, List.find?_cons, e]
theorem valV_any (k : κ) : ∀ kvs : List (κ × V), (kvs.any fun kv => decide (kv.1 = k)) = (valV kvs k).isSome
  | [] => rfl
  | p :: r => by
    rw [List.any_cons]
    by_cases e : p.1 = k
    · simp only [valV_pos e, decide_eq_true e, Bool.true_or, Option.isSome_some]
    · rw [valV_neg e, decide_eq_false e, Bool.false_or]; exact valV_any k r
theorem length_putK (kvs : List (κ × V)) (k : κ) (v : V) : (putK kvs k v).length ≤ kvs.length + 1 := by
  unfold putK
  split
  · rw [List.length_map]; omega
  · rw [List.length_append, List.length_cons, List.length_nil]; omega
theorem RelO.isSome_eq {o : Option V} {u : Option Value} (r : RelO o u) : o.isSome = u.isSome := by
  cases o with
  | none => cases u with
    | none => rfl
    | some _ => exact (show False from r).elim
  | some _ => cases u with
    | none => exact (show False from r).elim
    | some _ => rfl
theorem RelO.getD {o : Option V} {u : Option Value} {d : V} {d' : Value} (r : RelO o u) (rd : RelV d d') : RelV (o.getD d) (u.getD d') := by
  cases o with
  | none => cases u with
    | none => exact rd
    | some _ => exact (show False from r).elim
  | some _ => cases u with
    | none => exact (show False from r).elim
    | some _ => exact r
theorem KV.val {kvs : List (κ × V)} {vs : List (κ × Value)} (r : KV kvs vs) (k : κ) : RelO (valV kvs k) (valueAt vs k) := by
  unfold KV at r
  induction r with
  | nil => exact True.intro
  | @cons p q ps qs h t ih =>
    obtain ⟨h1, h2⟩ := h
    by_cases e : p.1 = k
    · have e' : q.1 = k := h1.symm.trans e
      have b : valueAt (q :: qs) k = some q.2 := by simp [valueAt, List.find?_cons, e']
      rw [valV_pos e, b]; exact h2
    · have e' : ¬ q.1 = k := fun z => e (h1.trans z)
      have b : valueAt (q :: qs) k = valueAt qs k := by simp [valueAt, List.find?_cons, e']
      rw [valV_neg e, b]; exact ih
theorem KV.any {kvs : List (κ × V)} {vs : List (κ × Value)} (r : KV kvs vs) (k : κ) : (kvs.any fun kv => decide (kv.1 = k)) = vs.any fun kv => decide (kv.1 = k) := by
  unfold KV at r
  induction r with
  | nil => rfl
  | cons h t ih => rw [List.any_cons, List.any_cons, ih, h.1]
theorem KV.repl {kvs : List (κ × V)} {vs : List (κ × Value)} (r : KV kvs vs) (k : κ) {y : V} {u : Value} (ry : RelV y u) :
    KV (kvs.map fun kv => if kv.1 = k then (kv.1, y) else kv) (vs.map fun kv => if kv.1 = k then (kv.1, u) else kv) := by
  unfold KV at r ⊢
  induction r with
  | nil => exact .nil
  | @cons p q ps qs h t ih =>
    rw [List.map_cons, List.map_cons]
    refine .cons ?_ ih
    obtain ⟨h1, h2⟩ := h
    by_cases e : p.1 = k
    · rw [if_pos e, if_pos (h1.symm.trans e)]; exact ⟨h1, ry⟩
    · rw [if_neg e, if_neg (fun z => e (h1.trans z))]; exact ⟨h1, h2⟩
theorem KV.put {kvs : List (κ × V)} {vs : List (κ × Value)} (r : KV kvs vs) (k : κ) {y : V} {u : Value} (ry : RelV y u) : KV (putK kvs k y) (stored vs k u) := by
  unfold putK stored
  rw [r.any k]
  by_cases e : (vs.any fun kv => decide (kv.1 = k)) = true
  · rw [if_pos e, if_pos e]; exact r.repl k ry
  · rw [if_neg e, if_neg e]; exact Paired.snoc r ⟨rfl, ry⟩
theorem KV.drop {kvs : List (κ × V)} {vs : List (κ × Value)} (r : KV kvs vs) (k : κ) : KV (dropK kvs k) (without vs k) := by
  unfold KV at r ⊢
  unfold dropK without
  induction r with
  | nil => exact .nil
  | @cons p q ps qs h t ih =>
    obtain ⟨h1, h2⟩ := h
    rw [List.filter_cons, List.filter_cons]
    by_cases e : p.1 = k
    · have a : ¬ decide (p.1 ≠ k) = true := by simp [e]
      have b : ¬ decide (q.1 ≠ k) = true := by simp [h1.symm.trans e]
      rw [if_neg a, if_neg b]; exact ih
    · have e' : ¬ q.1 = k := fun z => e (h1.trans z)
      have a : decide (p.1 ≠ k) = true := by simp [e]
      have b : decide (q.1 ≠ k) = true := by simp [e']
      rw [if_pos a, if_pos b]; exact .cons ⟨h1, h2⟩ ih
theorem KV.keys {kvs : List (κ × V)} {vs : List (κ × Value)} (r : KV kvs vs) : kvs.map (·.1) = vs.map (·.1) := by
  unfold KV at r
  induction r with
  | nil => rfl
  | cons h t ih => rw [List.map_cons, List.map_cons, ih, h.1]
theorem KV.length {kvs : List (κ × V)} {vs : List (κ × Value)} (r : KV kvs vs) : kvs.length = vs.length := Paired.length r
theorem dropK_le (kvs : List (κ × V)) (k : κ) : (dropK kvs k).length ≤ kvs.length := List.length_filter_le _ _
end
theorem kV_is {P : Program} {w : World} {k : Key} {u : Value} (r : RelV (kV k) u) : (mixKind P w).is k u = true := by
  cases k with
  | inl i => obtain ⟨t, e⟩ := (show ∃ t, u = Value.int i t from r); subst e; exact mixKind_int P w i t
  | inr x => obtain ⟨t, e⟩ := (show ∃ t, u = Value.str x t from r); subst e; exact mixKind_str P w x t
theorem items_are {P : Program} {w : World} : ∀ {ks : List Key} {us : List Value}, Vals (ks.map kV) us → ItemsAre (mixKind P w) ks us
  | [], _, r => by rw [List.map_nil] at r; cases r; exact .nil
  | k :: ks, _, r => by
    rw [List.map_cons] at r
    cases r with
    | cons h t => exact .cons (kV_is h) (items_are t)
abbrev KT (H : Hp) : List (List Key × V) → List (List Key × Addr × Value) → Prop := Paired fun p q => p.1 = q.1 ∧ H q.2.1 = some (.tup (p.1.map kV)) ∧ RelV p.2 q.2.2
theorem KT.val {H : Hp} {kvs : List (List Key × V)} {xs : List (List Key × Addr × Value)} (r : KT H kvs xs) (k : List Key) : RelO (valV kvs k) ((atKey xs k).map (·.2)) := by
  induction r with
  | nil => exact True.intro
  | @cons p q ps qs h t ih =>
    obtain ⟨h1, _, h2⟩ := h
    by_cases e : p.1 = k
    · have e' : q.1 = k := h1.symm.trans e
      have b : atKey (q :: qs) k = some q.2 := by simp [atKey, List.find?_cons, e']
      rw [valV_pos e, b]; exact h2
    · have e' : ¬ q.1 = k := fun z => e (h1.trans z)
      have b : atKey (q :: qs) k = atKey qs k := by simp [atKey, List.find?_cons, e']
      rw [valV_neg e, b]; exact ih
theorem KT.repl {H : Hp} {kvs : List (List Key × V)} {xs : List (List Key × Addr × Value)} (r : KT H kvs xs) (k : List Key) {y : V} {u : Value} (ry : RelV y u) :
    KT H (kvs.map fun kv => if kv.1 = k then (kv.1, y) else kv) (xs.map (putAt k u)) := by
  induction r with
  | nil => exact .nil
  | @cons p q ps qs h t ih =>
    rw [List.map_cons, List.map_cons]
    refine .cons ?_ ih
    obtain ⟨h1, h2, h3⟩ := h
    unfold putAt
    by_cases e : p.1 = k
    · rw [if_pos e, if_pos (h1.symm.trans e)]; exact ⟨h1, h2, ry⟩
    · rw [if_neg e, if_neg (fun z => e (h1.trans z))]; exact ⟨h1, h2, h3⟩
theorem KT.put {H : Hp} {kvs : List (List Key × V)} {xs : List (List Key × Addr × Value)} (r : KT H kvs xs) (k : List Key) {b : Addr} {y : V} {u : Value} (hb : H b = some (.tup (k.map kV))) (ry : RelV y u) :
    KT H (putK kvs k y) (storedH xs k b u) := by
  have e : (kvs.any fun kv => decide (kv.1 = k)) = (atKey xs k).isSome := by
    rw [valV_any, (r.val k).isSome_eq, Option.isSome_map]
  unfold putK storedH
  rw [e]
  by_cases q : (atKey xs k).isSome = true
  · rw [if_pos q, if_pos q]; exact r.repl k ry
  · rw [if_neg q, if_neg q]; exact Paired.snoc r ⟨rfl, hb, ry⟩
theorem KT.keeps {H H' : Hp} {kvs : List (List Key × V)} {xs : List (List Key × Addr × Value)} (r : KT H kvs xs) (ht : ∀ b ys, H b = some (.tup ys) → H' b = some (.tup ys)) : KT H' kvs xs :=
  Paired.mapP r fun _ _ z => ⟨z.1, ht _ _ z.2.1, z.2.2⟩
section
variable {P : Program} {w : World} {H : Hp} {h : Heap} {a : Addr}
theorem rd_of {u : HO} (ok : HOk P w H h) (e : Rd H a u) : ObjOk P w H h a u := e.ok ok
theorem dk_rd {kvs : List (Key × V)} (ok : HOk P w H h) (e : Rd H a (.dK kvs)) : kvs.length ≤ sizeLine ∧ (a == sysModules) = false ∧ ∃ vs, KV kvs vs ∧ h.DictOf (mixKind P w) a vs :=
  show ObjOk P w H h a (.dK kvs) from rd_of ok e
theorem dk_of {kvs : List (Key × V)} (ok : HOk P w H h) (e : H a = some (.dK kvs)) : kvs.length ≤ sizeLine ∧ (a == sysModules) = false ∧ ∃ vs, KV kvs vs ∧ h.DictOf (mixKind P w) a vs := dk_rd ok (.inl e)
theorem key_of {ks : List Key} (ok : HOk P w H h) (e : H a = some (.tup (ks.map kV))) : (tupleKind (mixKind P w)).is h ks a := by
  obtain ⟨_, its, r, o, h1, h2, n, h3⟩ := (show ObjOk P w H h a (.tup (ks.map kV)) from ok a _ e)
  exact ⟨o, its.toArray, n, h1, h2, h3, by simpa using items_are r⟩
theorem dt_rd {kvs : List (List Key × V)} (ok : HOk P w H h) (e : Rd H a (.dT kvs)) : kvs.length ≤ sizeLine ∧ (a == sysModules) = false ∧
    ∃ xs, KT H kvs xs ∧ h.DictOfH (tupleKind (mixKind P w)) a xs := by
  obtain ⟨z, y, xs, r, o, es, ep, h1, h2, h3, h4, h5⟩ := (show ObjOk P w H h a (.dT kvs) from rd_of ok e)
  refine ⟨z, y, xs, r, o, es, ep, h1, h2, h3, h4, fun x hx => ?_, h5⟩
  have all : ∀ {l : List (List Key × V)} {m : List (List Key × Addr × Value)}, KT H l m → ∀ x ∈ m, (tupleKind (mixKind P w)).is h x.1 x.2.1 := by
    intro l m q
    induction q with
    | nil => intro x hx; exact nomatch hx
    | @cons p q ps qs hq t ih =>
      intro x hx
      rcases List.mem_cons.mp hx with e | hx
      · subst e
        exact key_of ok (by rw [← hq.1]; exact hq.2.1)
      · exact ih x hx
  exact all r x hx
theorem dt_of {kvs : List (List Key × V)} (ok : HOk P w H h) (e : H a = some (.dT kvs)) : kvs.length ≤ sizeLine ∧ (a == sysModules) = false ∧
    ∃ xs, KT H kvs xs ∧ h.DictOfH (tupleKind (mixKind P w)) a xs := dt_rd ok (.inl e)
end
def DGet (H : Hp) (a : Addr) (y : V) (r : Option V) : Prop :=
  (∃ kvs k, Rd H a (.dK kvs) ∧ y = kV k ∧ r = valV kvs k) ∨ ∃ kvs k b, Rd H a (.dT kvs) ∧ y = .ref b ∧ H b = some (.tup (k.map kV)) ∧ r = valV kvs k
def DPut (H : Hp) (a : Addr) (y v : V) (H' : Hp) : Prop :=
  (∃ kvs k, H a = some (.dK kvs) ∧ y = kV k ∧ kvs.length < sizeLine ∧ H' = upd H a (.dK (putK kvs k v))) ∨
  ∃ kvs k b, H a = some (.dT kvs) ∧ y = .ref b ∧ H b = some (.tup (k.map kV)) ∧ kvs.length < sizeLine ∧ H' = upd H a (.dT (putK kvs k v))
theorem DPut.k {H : Hp} {a : Addr} {kvs : List (Key × V)} {k : Key} {v : V} (e : H a = some (.dK kvs)) (hl : kvs.length < sizeLine) : DPut H a (kV k) v (upd H a (.dK (putK kvs k v))) := .inl ⟨kvs, k, e, rfl, hl, rfl⟩
section
variable {X : Cx} {pins : List (Addr × Obj)} {σ : St} {H : Hp} {s : Shared} {a : Addr} {y v : V} {u r : Value} {o : Option V} {A : Around} {E : Value → Shared → Prop}
theorem Inv.big (I : Inv X pins σ H s) : sysModules < s.heap.objs.size := by
  have h : mainGlobals < s.heap.objs.size := (I.mod.glob.keeps I.bk).lt
  exact Nat.lt_trans (by decide) h
theorem d_getItem {Q : Value → Shared → Prop} (hu : A.units + 1 < cLine) (I : Inv X pins σ H s) (g : DGet H a y (some v)) (ry : RelV y u) (h : ∀ w' s', Inv X pins σ H s' → RelV v w' → Q w' s') :
    wpAny (model X.prog X.w) A (getItem (.ref a) u) Q E s := by
  rcases g with ⟨kvs, k, e, ey, l⟩ | ⟨kvs, k, b, e, ey, eb, l⟩
  · subst ey
    obtain ⟨z, hd, vs, rel, dd⟩ := dk_rd I.hok e
    obtain ⟨w', hw, rw'⟩ := RelO.some_of (v := v) (o := valueAt vs k) (by rw [l]; exact rel.val k)
    exact wpAny_getItem_of (kV_is ry) dd.mapOf hw (h w' _ (I.tok _) rw')
  · subst ey
    cases (show u = Value.ref b from ry)
    obtain ⟨z, hd, xs, rel, dd⟩ := dt_rd I.hok e
    obtain ⟨w', hw, rw'⟩ := RelO.some_of (v := v) (o := (atKey xs k).map (·.2)) (by rw [l]; exact rel.val k)
    obtain ⟨p, hp, hp2⟩ := Option.map_eq_some_iff.mp hw
    refine wpAny_getItem_heap (tupleKind_room_in1 hu) (key_of I.hok eb) dd hp ?_
    rw [hp2]
    exact h w' _ (I.tok _) rw'
theorem d_in {Q : Value → Shared → Prop} (hu : A.units + 1 < cLine) (I : Inv X pins σ H s) (g : DGet H a y o) (ry : RelV y u) (h : ∀ s', Inv X pins σ H s' → Q (.bool o.isSome) s') :
    wpAny (model X.prog X.w) A (compareOp .In u (.ref a)) Q E s := by
  rcases g with ⟨kvs, k, e, ey, l⟩ | ⟨kvs, k, b, e, ey, eb, l⟩
  · subst ey
    obtain ⟨z, hd, vs, rel, dd⟩ := dk_rd I.hok e
    refine wpAny_in_of (kV_is ry) hd dd.mapOf ?_
    rw [← (rel.val k).isSome_eq, ← l]
    exact h _ (I.tok _)
  · subst ey
    cases (show u = Value.ref b from ry)
    obtain ⟨z, hd, xs, rel, dd⟩ := dt_rd I.hok e
    refine wpAny_in_heap (tupleKind_room_in1 hu) (key_of I.hok eb) hd dd ?_
    have q := (rel.val k).isSome_eq
    rw [Option.isSome_map] at q
    rw [← q, ← l]
    exact h _ (I.tok _)
theorem d_notIn {Q : Value → Shared → Prop} (hu : A.units + 1 < cLine) (I : Inv X pins σ H s) (g : DGet H a y o) (ry : RelV y u) (h : ∀ s', Inv X pins σ H s' → Q (.bool (!o.isSome)) s') :
    wpAny (model X.prog X.w) A (compareOp .NotIn u (.ref a)) Q E s := by
  rcases g with ⟨kvs, k, e, ey, l⟩ | ⟨kvs, k, b, e, ey, eb, l⟩
  · subst ey
    obtain ⟨z, hd, vs, rel, dd⟩ := dk_rd I.hok e
    refine wpAny_notIn_of (kV_is ry) hd dd.mapOf ?_
    rw [← (rel.val k).isSome_eq, ← l]
    exact h _ (I.tok _)
  · subst ey
    cases (show u = Value.ref b from ry)
    obtain ⟨z, hd, xs, rel, dd⟩ := dt_rd I.hok e
    refine wpAny_notIn_heap (tupleKind_room_in1 hu) (key_of I.hok eb) hd dd ?_
    have q := (rel.val k).isSome_eq
    rw [Option.isSome_map] at q
    rw [← q, ← l]
    exact h _ (I.tok _)
theorem d_write {h' : Heap} {t' : Nat} {ob : HO} (I : Inv X pins σ H s) (mu : Mut (H a)) (hs : Heap.SameBut a s.heap h') (he : ∃ q, h'.get? a = some q) (new : ObjOk X.prog X.w (upd H a ob) h' a ob) :
    Inv X pins σ (upd H a ob) { s with heap := h', toks := t' } :=
  I.write (x := a) (e := a) mu (.inl rfl) (fun b q hb z => (hs.2 b hb).trans z) he new
theorem dk_new {P : Program} {w : World} {H' : Hp} {h' : Heap} {kvs : List (Key × V)} {vs : List (Key × Value)} (z : kvs.length ≤ sizeLine) (hd : (a == sysModules) = false) (rel : KV kvs vs) (dd : h'.DictOf (mixKind P w) a vs) :
    ObjOk P w H' h' a (.dK kvs) := ⟨z, hd, vs, rel, dd⟩
theorem d_setItem {H' : Hp} {Q : Unit → Shared → Prop} (hu : A.units + 1 < cLine) (I : Inv X pins σ H s) (g : DPut H a y v H') (ry : RelV y u) (rv : RelV v r) (h : ∀ s', Inv X pins σ H' s' → Q () s') :
    wpAny (model X.prog X.w) A (setItem (.ref a) u r) Q E s := by
  rcases g with ⟨kvs, k, e, ey, l, eH⟩ | ⟨kvs, k, b, e, ey, eb, l, eH⟩
  · subst ey eH
    obtain ⟨z, hd, vs, rel, dd⟩ := dk_of I.hok e
    have hz : vs.length ≤ sizeLine := by rw [← rel.length]; exact z
    have hl : (putK kvs k v).length ≤ sizeLine := by have := length_putK kvs k v; omega
    refine wpAny_setItem_pairs (hsz := hz) (kV_is ry) dd fun h' dd' hs => h _ ?_
    have he : ∃ q, h'.get? a = some q := let ⟨q, _, _, hq, _⟩ := dd'; ⟨q, hq⟩
    exact d_write I (by rw [e]; exact True.intro) hs he (dk_new hl hd (rel.put k rv) dd')
  · subst ey eH
    cases (show u = Value.ref b from ry)
    obtain ⟨z, hd, xs, rel, dd⟩ := dt_of I.hok e
    have hz : xs.length ≤ sizeLine := by rw [← Paired.length rel]; exact z
    have hl : (putK kvs k v).length ≤ sizeLine := by have := length_putK kvs k v; omega
    refine wpAny_setItem_heap (hsz := hz) (tupleKind_room_in1 hu) (key_of I.hok eb) dd fun h' dd' hs => h _ ?_
    obtain ⟨q, es, ep, hq, h2, h3, h4, _, h5⟩ := dd'
    refine d_write I (by rw [e]; exact True.intro) hs ⟨q, hq⟩ ⟨hl, hd, _, (rel.put k eb rv).keeps fun c ys ec => ?_, q, es, ep, hq, h2, h3, h4, h5⟩
    rw [upd_ne (ne_of ec e (fun z => nomatch z))]
    exact ec
end
section
variable {X : Cx} {pins : List (Addr × Obj)} {σ : St} {H : Hp} {s : Shared} {a : Addr} {kvs : List (Key × V)} {k : Key} {u : Value} {A : Around} {E : Value → Shared → Prop}
theorem d_pop {v : V} {more : List Value} {Q : Value → Shared → Prop} (I : Inv X pins σ H s) (e : H a = some (.dK kvs)) (ry : RelV (kV k) u) (l : valV kvs k = some v) (hm : more = [] ∨ ∃ x, more = [x])
    (h : ∀ w' s', Inv X pins σ (upd H a (.dK (dropK kvs k))) s' → RelV v w' → Q w' s') : wpAny (model X.prog X.w) A (call (.builtin "dict.pop") (.ref a :: u :: more)) Q E s := by
  obtain ⟨z, hd, vs, rel, dd⟩ := dk_of I.hok e
  obtain ⟨w', hw, rw'⟩ := RelO.some_of (v := v) (o := valueAt vs k) (by rw [← l]; exact rel.val k)
  have hp : (keyPart u).isSome = true := by
    cases k with
    | inl i => obtain ⟨t, q⟩ := (show ∃ t, u = Value.int i t from ry); subst q; rfl
    | inr x => obtain ⟨t, q⟩ := (show ∃ t, u = Value.str x t from ry); subst q; rfl
  have ha : argsOk "dict.pop" ⟨.ref a :: u :: more, []⟩ := by
    rcases hm with q | ⟨x, q⟩
    · subst q; exact PySem.F.args_dict_pop_2 _ _
    · subst q; exact PySem.F.args_dict_pop_3 _ _ _
  refine call_meetsIn PySem.F.slot_dict_pop dd.typeIs PySem.F.entry_dict_pop ha (meets_dict_pop_there (mixKind X.prog X.w) a (kV_is ry) more hm hp)
    ⟨vs, w', dd, by rw [← rel.length]; exact z, hw, fun h' dd' hs => h w' _ ?_ rw'⟩
  have he : ∃ q, h'.get? a = some q := let ⟨q, _, _, hq, _⟩ := dd'; ⟨q, hq⟩
  exact d_write I (by rw [e]; exact True.intro) hs he (dk_new (Nat.le_trans (dropK_le kvs k) z) hd (rel.drop k) dd')
theorem d_len {Q : Value → Shared → Prop} (I : Inv X pins σ H s) (e : Rd H a (.dK kvs)) (h : ∀ t s', Inv X pins σ H s' → Q (.int kvs.length t) s') : wpAny (model X.prog X.w) A (call (.builtin "len") [.ref a]) Q E s := by
  obtain ⟨z, hd, vs, rel, dd⟩ := dk_rd I.hok e
  refine call_len_dict hd dd (by rw [← rel.length]; rw [sizeLine_eq] at z; omega) ?_
  rw [← rel.length]
  exact h _ _ (I.tok _)
end
theorem dict_typeIs {X : Cx} {pins : List (Addr × Obj)} {σ : St} {H : Hp} {s : Shared} {a : Addr} {y : V} {o : Option V} (I : Inv X pins σ H s) (g : DGet H a y o) : s.TypeIs (.ref a) "dict" := by
  rcases g with ⟨kvs, k, e, _, _⟩ | ⟨kvs, k, b, e, _, _, _⟩
  · obtain ⟨_, _, vs, _, dd⟩ := dk_rd I.hok e
    exact dd.typeIs
  · obtain ⟨_, _, xs, _, dd⟩ := dt_rd I.hok e
    exact dd.typeIs
section
variable {X : Cx} {o i e value : Expr} {pos pos' tpos : Pos} {td ty tv : TE}
end
theorem dk_empty {P : Program} {w : World} {H : Hp} (h : Heap) (hb : sysModules < h.objs.size) : ObjOk P w H (h.push { cls := .type "dict", data := .dict #[] }) h.objs.size (.dK []) :=
  ⟨Nat.zero_le _, beq_eq_false_iff_ne.mpr (Ne.symm (Nat.ne_of_lt hb)), [], .nil, Heap.DictOf.new h⟩
def tDNewK : TE := fun _ H Q => ∀ p, H p = none → Q (.ref p) (upd H p (.dK []))
section
variable {X : Cx} {pos : Pos}
theorem pe_dnewK : PE X (.Dict [] [] pos) tDNewK := fun pins s σ H Q I h =>
  wpAny_Dict_empty ⟨.ref s.heap.objs.size, _, I.laid (a := s.heap.objs.size) (o := .dK []) (t' := s.toks) (fun _ _ q => Heap.get?_push_of_some _ q) (Nat.le_refl _) (dk_empty s.heap I.big), rfl, h _ (I.hok.fresh (Nat.le_refl _))⟩
end
def mergeK (kvs more : List (Key × V)) : List (Key × V) := more.foldl (fun acc kv => putK acc kv.1 kv.2) kvs
theorem length_mergeK : ∀ (more kvs : List (Key × V)), (mergeK kvs more).length ≤ kvs.length + more.length
  | [], kvs => by show kvs.length ≤ kvs.length + 0; omega
  | p :: r, kvs => by
    have h1 := length_mergeK r (putK kvs p.1 p.2)
    have h2 := length_putK kvs p.1 p.2
    show (mergeK (putK kvs p.1 p.2) r).length ≤ _
    rw [List.length_cons]; omega
structure M1 (X : Cx) (o : Expr) (m : Str) (apos : Pos) (e : Expr) (cpos : Pos) : Prop where
  base : attributeBase o m X.env (eval o X.env) = eval o X.env
  few : ((backTo cpos (starEach [e] X.env)).all (fun x => !x.1) && (backToKw cpos (keywordEach [] X.env)).all (fun x => x.1.isSome)
    && decide (([e] : List Expr).length + ([] : List Keyword).length + (if ([] : List Keyword).isEmpty then 0 else 1) < 30)) = true
  line : (apos.endLine == cpos.line) = true
  trees : backTo cpos (starEach [e] X.env) = [(false, eval e X.env)]
structure M2 (X : Cx) (o : Expr) (m : Str) (apos : Pos) (e f : Expr) (cpos : Pos) : Prop where
  base : attributeBase o m X.env (eval o X.env) = eval o X.env
  few : ((backTo cpos (starEach [e, f] X.env)).all (fun x => !x.1) && (backToKw cpos (keywordEach [] X.env)).all (fun x => x.1.isSome)
    && decide (([e, f] : List Expr).length + ([] : List Keyword).length + (if ([] : List Keyword).isEmpty then 0 else 1) < 30)) = true
  line : (apos.endLine == cpos.line) = true
  trees : backTo cpos (starEach [e, f] X.env) = [(false, eval e X.env), (false, eval f X.env)]
def IsD (H : Hp) (a : Addr) : Prop := (∃ kvs, Rd H a (.dK kvs)) ∨ ∃ kvs, Rd H a (.dT kvs)
theorem isD_at {X : Cx} {pins : List (Addr × Obj)} {σ : St} {H : Hp} {s : Shared} {a : Addr} (I : Inv X pins σ H s) (d : IsD H a) :
    s.TypeIs (.ref a) "dict" ∧ (∀ b, Value.ref a = .ref b → ∃ ob, s.heap.get? b = some ob ∧ ob.dict = none) ∧ (a == sysModules) = false := by
  rcases d with ⟨kvs, e⟩ | ⟨kvs, e⟩
  · obtain ⟨_, hd, vs, _, dd⟩ := dk_rd I.hok e
    refine ⟨dd.typeIs, fun b q => ?_, hd⟩
    cases q
    obtain ⟨ob, _, _, h1, h2, _⟩ := dd
    exact ⟨ob, h1, h2.2.1⟩
  · obtain ⟨_, hd, xs, _, dd⟩ := dt_rd I.hok e
    refine ⟨dd.typeIs, fun b q => ?_, hd⟩
    cases q
    obtain ⟨ob, _, _, h1, h2, _⟩ := dd
    exact ⟨ob, h1, h2.2.1⟩
section
variable {X : Cx} {pins : List (Addr × Obj)} {σ : St} {H : Hp} {s : Shared} {a : Addr} {y d : V} {u r : Value} {o : Option V} {A : Around} {E : Value → Shared → Prop}
theorem d_get1 {Q : Value → Shared → Prop} (hu : A.units + 1 < cLine) (I : Inv X pins σ H s) (g : DGet H a y o) (ry : RelV y u) (h : ∀ w' s', Inv X pins σ H s' → RelV (o.getD .non) w' → Q w' s') :
    wpAny (model X.prog X.w) A (call (.builtin "dict.get") [.ref a, u]) Q E s := by
  rcases g with ⟨kvs, k, e, ey, l⟩ | ⟨kvs, k, b, e, ey, eb, l⟩
  · subst ey
    obtain ⟨z, hd, vs, rel, dd⟩ := dk_rd I.hok e
    refine call_meetsIn PySem.F.slot_dict_get dd.typeIs PySem.F.entry_dict_get (PySem.F.args_dict_get_2 _ _) (meets_dict_get (mixKind X.prog X.w) a (kV_is ry) hd) ⟨_, dd.mapOf, h _ _ (I.tok _) ?_⟩
    rw [l]
    exact (rel.val k).getD rfl
  · subst ey
    cases (show u = Value.ref b from ry)
    obtain ⟨z, hd, xs, rel, dd⟩ := dt_rd I.hok e
    refine call_meetsIn PySem.F.slot_dict_get dd.typeIs PySem.F.entry_dict_get (PySem.F.args_dict_get_2 _ _) (meetsH_dict_get (tupleKind (mixKind X.prog X.w)) a b hd) ⟨tupleKind_room_in1 hu, k, xs, key_of I.hok eb, dd, h _ _ (I.tok _) ?_⟩
    rw [l]
    exact (rel.val k).getD rfl
end
def tDGet1 (td ty : TE) : TE := fun σ H Q => td σ H fun x H1 => ∃ a, x = .ref a ∧ IsD H1 a ∧ ty σ H1 fun y H2 => ∃ o, DGet H2 a y o ∧ Q (o.getD .non) H2
def tDPop1 (td ty : TE) : TE := fun σ H Q => td σ H fun x H1 => ∃ a, x = .ref a ∧ IsD H1 a ∧ ty σ H1 fun y H2 => ∃ kvs k v, H2 a = some (.dK kvs) ∧ y = kV k ∧ valV kvs k = some v ∧ Q v (upd H2 a (.dK (dropK kvs k)))
section
variable {X : Cx} {o e f : Expr} {apos cpos : Pos} {td ty tx : TE}
theorem pe_dget1 (hu : X.A.units + 1 < cLine) (ho : PE X o td) (he : PE X e ty) (m : M1 X o "get" apos e cpos) : PE X (.Call (.Attribute o "get" apos) [e] [] cpos) (tDGet1 td ty) := by
  intro pins s σ H Q I h
  refine wpAny_Call_method m.base m.few m.line PySem.F.plainAttrs_dict PySem.F.slot_dict_get PySem.F.type_dict_get (thn (ho pins s σ H _ I h) fun u s1 ⟨x, H1, I1, rx, a, ex, d, q1⟩ => ?_)
  subst ex
  obtain rfl : u = Value.ref a := rx
  obtain ⟨t1, t2, _⟩ := isD_at I1 d
  refine ⟨t1, t2, ?_⟩
  rw [m.trees]
  refine Calls.callWith_builtin rfl (Calls.evalArgs_plain (Calls.spliced_cons (thn (he pins s1 σ H1 _ I1 q1) fun iv s2 ⟨y, H2, I2, ry, ov, g, q2⟩ => Calls.spliced_nil ?_)))
  exact d_get1 hu I2 g ry fun w' s3 I3 rw' => ⟨_, H2, I3, rw', q2⟩
theorem pe_dpop1 (ho : PE X o td) (he : PE X e ty) (m : M1 X o "pop" apos e cpos) : PE X (.Call (.Attribute o "pop" apos) [e] [] cpos) (tDPop1 td ty) := by
  intro pins s σ H Q I h
  refine wpAny_Call_method m.base m.few m.line PySem.F.plainAttrs_dict PySem.F.slot_dict_pop PySem.F.type_dict_pop (thn (ho pins s σ H _ I h) fun u s1 ⟨x, H1, I1, rx, a, ex, d, q1⟩ => ?_)
  subst ex
  obtain rfl : u = Value.ref a := rx
  obtain ⟨t1, t2, _⟩ := isD_at I1 d
  refine ⟨t1, t2, ?_⟩
  rw [m.trees]
  refine Calls.callWith_builtin rfl (Calls.evalArgs_plain (Calls.spliced_cons (thn (he pins s1 σ H1 _ I1 q1) fun iv s2 ⟨y, H2, I2, ry, kvs, k, v, ea, ey, l, q2⟩ => Calls.spliced_nil ?_)))
  subst ey
  exact d_pop I2 ea ry l (.inl rfl) fun w' s3 I3 rw' => ⟨v, _, I3, rw', q2⟩
end
section
variable {X : Cx} {pins : List (Addr × Obj)} {σ : St} {H : Hp} {s : Shared} {a : Addr} {kvs : List (Key × V)} {A : Around} {E : Value → Shared → Prop}
end
section
variable {X : Cx} {pins : List (Addr × Obj)} {σ : St} {H : Hp} {s : Shared} {a : Addr} {y : V} {u : Value} {A : Around} {E : Value → Shared → Prop}
end
end L2

set_option Elab.async false
set_option linter.all false
set_option maxRecDepth 100000
namespace L2
open PySem PySem.Spec PyProof.Rows
section
variable {X : Cx}
theorem ix_dictK (hu : X.A.units + 64 < cLine) : IxR X (fun x y H Q => ∃ a v, x = .ref a ∧ DGet H a y (some v) ∧ Q v H) := by
  intro value slice pins s σ H x y v u Q I rx ry h hs
  obtain ⟨a, z, rfl, g, q⟩ := h
  cases rx
  have hT := dict_typeIs I g
  unfold subscriptTail
  refine wpAny_bind ?_
  rw [getitemInPython_of_ne hT.not_modules]
  refine wpAny_bind (wpAny_specialOf hT PySem.F.slot_dict_getitem.lookup ?_)
  have h₂ : wpAny (model X.prog X.w) X.A (getItem (.ref a) u) (EP X pins σ Q) X.xe s := d_getItem (by omega) I g ry fun w' s3 I3 rw' => ⟨z, H, I3, rw', q⟩
  have fin : wpAny (model X.prog X.w) X.A (subscripted slice false (.ref a) u) (fun r s₃ => wpAny (model X.prog X.w) X.A (letTemporaryGo value (.ref a) r >>= fun _ => pure r) (EP X pins σ Q) X.xe s₃) X.xe s := by
    rw [hs]
    exact wpAny_operating (wpAny_mono h₂ (fun r s₃ h₃ => wpAny_bind (wpAny_letTemporaryGo (wpAny_pure h₃))) fun _ _ x => x)
  first
    | exact wpAny_pure (wpAny_bind fin)
    | exact wpAny_bind (wpAny_pure (wpAny_bind fin))
    | exact wpAny_bind fin
def fIxA (K : PySem.W.Frag) : R2 := fun x y H Q => match x, y with
  | .ref p, .int i => (∃ xs v, (SqL K H p xs ∨ SqT K H p xs) ∧ atI xs i = some v ∧ Q v H) ∨ (∃ v, DGet H p (.int i) (some v) ∧ Q v H)
  | .ref p, .str k => ∃ v, DGet H p (.str k) (some v) ∧ Q v H
  | .str z, .int i => ∃ c, z.length ≤ sizeLine ∧ atI z.cps.toList i = some c ∧ Q (.str ⟨#[c]⟩) H
  | _, _ => False
theorem ix_all (hu : X.A.units + 64 < cLine) : IxR X (fIxA X.K) := by
  intro value slice pins s σ H x y v u Q I rx ry h hs
  cases x with
  | ref p =>
    cases y with
    | int i =>
      rcases h with h | ⟨w, g, q⟩
      · exact ix_any value slice pins s σ H _ _ v u Q I rx ry h hs
      · exact ix_dictK hu value slice pins s σ H _ _ v u Q I rx ry ⟨p, w, rfl, g, q⟩ hs
    | str k =>
      obtain ⟨w, g, q⟩ := h
      exact ix_dictK hu value slice pins s σ H _ _ v u Q I rx ry ⟨p, w, rfl, g, q⟩ hs
    | _ => exact (show False from h).elim
  | str z =>
    cases y with
    | int i => exact ix_any value slice pins s σ H _ _ v u Q I rx ry h hs
    | _ => exact (show False from h).elim
  | _ => cases y <;> exact (show False from h).elim
theorem st_dictK (hu : X.A.units + 64 < cLine) : PSet X (fun o i v H Q => ∃ a H', o = .ref a ∧ DPut H a i v H' ∧ Q H') := by
  intro pins s σ H o i v ov iv u Q I ro ri rv h
  obtain ⟨a, H', rfl, g, q⟩ := h
  cases ro
  exact d_setItem (by omega) I g ri rv fun s4 I4 => ⟨H', I4, q⟩
def fSetA : TSet := fun o i v H Q => match o, i with
  | .ref p, .int k => (∃ xs j, H p = some (.lst xs) ∧ ixN xs.length k = some j ∧ Q (upd H p (.lst (xs.set j v)))) ∨ (∃ H', DPut H p (.int k) v H' ∧ Q H')
  | .ref p, .str k => ∃ H', DPut H p (.str k) v H' ∧ Q H'
  | _, _ => False
theorem st_all (hu : X.A.units + 64 < cLine) (hl : PSet X rSetL) : PSet X fSetA := by
  intro pins s σ H o i v ov iv u Q I ro ri rv h
  cases o with
  | ref p =>
    cases i with
    | int k =>
      rcases h with ⟨xs, j, h1, h2, q⟩ | ⟨H', g, q⟩
      · exact hl pins s σ H _ _ v ov iv u Q I ro ri rv ⟨p, xs, k, j, rfl, rfl, h1, h2, q⟩
      · exact st_dictK hu pins s σ H _ _ v ov iv u Q I ro ri rv ⟨p, H', rfl, g, q⟩
    | str k =>
      obtain ⟨H', g, q⟩ := h
      exact st_dictK hu pins s σ H _ _ v ov iv u Q I ro ri rv ⟨p, H', rfl, g, q⟩
    | _ => exact (show False from h).elim
  | _ => cases i <;> exact (show False from h).elim
theorem o_inD (hu : X.A.units + 64 < cLine) : OpR X (compareOp .In) (fun x y H Q => ∃ a o, y = .ref a ∧ DGet H a x o ∧ Q (.bl o.isSome) H) := by
  intro pins s σ H x y v u Q I rx ry h
  obtain ⟨a, o, rfl, g, q⟩ := h
  cases ry
  exact d_in (by omega) I g rx fun s3 I3 => ⟨.bl o.isSome, H, I3, rfl, q⟩
theorem o_notinD (hu : X.A.units + 64 < cLine) : OpR X (compareOp .NotIn) (fun x y H Q => ∃ a o, y = .ref a ∧ DGet H a x o ∧ Q (.bl (!o.isSome)) H) := by
  intro pins s σ H x y v u Q I rx ry h
  obtain ⟨a, o, rfl, g, q⟩ := h
  cases ry
  exact d_notIn (by omega) I g rx fun s3 I3 => ⟨.bl (!o.isSome), H, I3, rfl, q⟩
theorem o_inA (hu : X.A.units + 64 < cLine) : OpR X (compareOp .In) (fun x y H Q => fIn X.K false x y H Q ∨ ∃ a o, y = .ref a ∧ DGet H a x o ∧ Q (.bl o.isSome) H) := o_in.or (o_inD hu)
theorem o_notinA (hu : X.A.units + 64 < cLine) : OpR X (compareOp .NotIn) (fun x y H Q => fIn X.K true x y H Q ∨ ∃ a o, y = .ref a ∧ DGet H a x o ∧ Q (.bl (!o.isSome)) H) := o_notin.or (o_notinD hu)
theorem c_lenD : CallR X (.builtin "len") (fun xs H Q => ∃ a kvs, xs = [.ref a] ∧ Rd H a (.dK kvs) ∧ Q (.int (kvs.length : Nat)) H) := by
  intro pins s σ H xs us Q I r h
  obtain ⟨a, kvs, rfl, e, q⟩ := h
  obtain ⟨u, rfl, rfl⟩ := vals1 r
  exact d_len I e fun t s' I' => ⟨.int _, H, I', ⟨_, rfl⟩, q⟩
end
end L2

set_option Elab.async false
set_option linter.all false
set_option maxRecDepth 100000
namespace PySem
open Sem (wp)
section
variable {prog : Program} {w : World} {A : Around} {E : Value → Shared → Prop} {s : Shared}
theorem list_no_keys : typeLookup (.type "list") "keys" = pure none := am_miss_of_fast (by kernel_rfl)
theorem keys_of_list {a : Addr} {o : Obj} {xs : Array Value} {k : Nat} {Q : Option Value → Shared → Prop} (hx : s.heap.get? a = some o) (hc : o.cls = .type "list") (hdat : o.data = .seq xs k) (hd : o.dict = none) (hA : A.handled = none)
    (h : ∀ h' tk, (∀ b ob, s.heap.get? b = some ob → h'.get? b = some ob) → Q none { s with heap := h', toks := tk }) : wpAny (model prog w) A (getAttr? (.ref a) "keys") Q E s := by
  obtain ⟨c, dct, dat, sl⟩ := o
  simp only at hc hdat hd
  subst hc hdat hd
  obtain ⟨hp, g, d, tk, os⟩ := s
  have hT : ∀ tk', (⟨hp, g, d, tk', os⟩ : Shared).TypeIs (.ref a) "list" := fun _ => ⟨_, hx, rfl⟩
  have f1 := sub_AttributeError
  have f3 := F.slot_list_getattribute.lookup
  have f4 := F.slot_list_getattribute.bind (.ref a)
  have f5 := am_list_getattr_none
  have hmiss := list_no_keys
  have hname : (["__module__", "__name__", "__qualname__", "__doc__", "__annotations__"] : List Str).contains "keys" = false := by decide +kernel
  unfold getAttr? getAttrBy? getAttrBy
  repeat (any_goals (first | assumption | exact hT _ | ((with_reducible show wpAny _ _ (call (Value.builtin "list.__getattribute__") _ _) _ _ _); refine call_meets F.slot_list_getattribute (hT _) am_entry_list_getattribute (F.args_list_getattribute_2 _ _) (meets_getattribute_miss_list a xs k sl "keys" _ hmiss hname (by decide)) ⟨hx, hA, fun h' tk' e hx' => ?_⟩) | wp_step))
  obtain ⟨t', u', he⟩ := hx'.there
  have hTe : (⟨h', g, d, tk', os⟩ : Shared).TypeIs (.ref e) "AttributeError" := ⟨_, he, rfl⟩
  show wpAny _ _ (getattributeRaised _ _ _ _ _ _ _) _ _ _
  unfold getattributeRaised
  repeat (any_goals (first | assumption | wp_step))
  exact h _ _ hx'.keeps
end
end PySem
namespace L2
open PySem PySem.Spec PyProof.Rows
theorem entry_upd_loop : entryFor table "dict.update.loop" = some Builtin.«dict.update.loop» := entryFor_of_tree (by kernel_rfl)
theorem plain_upd_loop : plainId "dict.update.loop" = true := by decide +kernel
section
variable {X : Cx} {pins : List (Addr × Obj)} {σ : St} {H0 : Hp} {A : Around}
theorem pair_items {prog : Program} {w : World} {E : Value → Shared → Prop} {s : Shared} {t : Addr} {its : Array Value} {Q : List Value → Shared → Prop} (h : s.heap.IsTuple t its) (q : Q its.toList s) : wpAny (model prog w) A (Builtin.Dict.pairItems (.ref t)) Q E s := by
  obtain ⟨o, ho, hc, n, hd⟩ := h
  unfold Builtin.Dict.pairItems
  refine wpAny_bind (wpAny_typeOf ⟨o, ho, hc⟩ ?_)
  rw [if_pos (by decide)]
  refine wpAny_bind ?_
  obtain ⟨c, dct, dat, sl⟩ := o
  simp only at hc hd
  subst hc hd
  obtain ⟨hp, g, d, tk, os⟩ := s
  repeat (any_goals (first | assumption | wp_step))
theorem take_merge (kvs : List (Key × V)) (i : Nat) {k : Key} {v : V} (h : kvs[i]? = some (k, v)) : mergeK [] (kvs.take (i + 1)) = putK (mergeK [] (kvs.take i)) k v := by
  unfold mergeK
  rw [List.take_add_one, h, List.foldl_append]
  rfl
theorem upd_loop (hc : X.calm = true) {l p it : Addr} {ps : List Addr} {kvs : List (Key × V)} {R : Result → Shared → Prop} (hA : A.handled = none) (hl : SqL X.K H0 l (ps.map V.ref)) (hlen : ps.length = kvs.length) (hn : kvs.length ≤ 1000)
    (hps : ∀ (i : Nat) t k v, ps[i]? = some t → kvs[i]? = some (k, v) → SqT X.K H0 t [kV k, v]) (hp : H0 p = none)
    (fin : ∀ s', Inv X pins σ (upd H0 p (.dK (mergeK [] kvs))) s' → R (.ok (.ret .none)) s') :
    ∀ (n i : Nat) (s : Shared), n + i = ps.length → Inv X pins σ (upd H0 p (.dK (mergeK [] (kvs.take i)))) s → FpOk X pins (upd H0 p (.dK (mergeK [] (kvs.take i)))) it → s.heap.IsListIter it l i →
      codeAny (model X.prog X.w) A (.builtin "dict.update.loop" ⟨[.ref p, .ref it, rawInt i, .none], []⟩) R s := by
  intro n
  induction n with
  | zero =>
    intro i s hi I hf st
    refine codeAny_builtin entry_upd_loop ?_
    rw [Around.under_plainId plain_upd_loop _]
    have sm := Same.upd hp (.dK (mergeK [] (kvs.take i)))
    obtain ⟨its, rv, pl, hz⟩ := I.list (sm.seq hl)
    have hll := rv.length
    rw [List.length_map] at hll
    obtain ⟨f0, f1, f2, f3, f4, f5⟩ := hf
    unfold Builtin.«dict.update.loop»
    refine wpAny_bind (wpAny_pyNext_list_end hA st pl.isList (by simp; omega) fun h' eb => ?_)
    have I' : Inv X pins σ (upd H0 p (.dK (mergeK [] (kvs.take i)))) { s with heap := h' } := I.turned (t' := s.toks) (fun b o hb e => eb b o hb e) f0 f1 f3 f4 f5
    rw [List.take_of_length_le (by omega)] at I'
    exact wpAny_bind (wpAny_pure (wpAny_pure (fin _ I')))
  | succ n ih =>
    intro i s hi I hf st
    refine codeAny_builtin entry_upd_loop ?_
    rw [Around.under_plainId plain_upd_loop _]
    have sm := Same.upd hp (.dK (mergeK [] (kvs.take i)))
    obtain ⟨its, rv, pl, hz⟩ := I.list (sm.seq hl)
    have hll := rv.length
    rw [List.length_map] at hll
    obtain ⟨t, ht⟩ : ∃ t, ps[i]? = some t := ⟨ps[i]'(by omega), List.getElem?_eq_getElem (by omega)⟩
    obtain ⟨⟨k, v⟩, hk⟩ : ∃ kv, kvs[i]? = some kv := ⟨kvs[i]'(by omega), List.getElem?_eq_getElem (by omega)⟩
    obtain ⟨u, hu1, hu2⟩ := rv.get (x := .ref t) (i := i) (by rw [List.getElem?_map, ht]; rfl)
    cases hu2
    obtain ⟨f0, f1, f2, f3, f4, f5⟩ := hf
    unfold Builtin.«dict.update.loop»
    refine wpAny_bind (wpAny_pyNext_list_item st pl.isList (x := .ref t) (by simpa using hu1) fun h' st' sb => ?_)
    have I1 : Inv X pins σ (upd H0 p (.dK (mergeK [] (kvs.take i)))) { s with heap := h' } := I.turned (t' := s.toks) (fun b o hb e => (sb.2 b hb).trans e) f0 f1 f3 f4 f5
    obtain ⟨jts, rj, pt, _⟩ := I1.tuple (sm.tup (hps i t k v ht hk))
    obtain ⟨u1, u2, e12, r1, r2⟩ : ∃ u1 u2, jts = [u1, u2] ∧ RelV (kV k) u1 ∧ RelV v u2 := by
      cases rj with
      | cons r1 q => cases q with
        | cons r2 q => cases q; exact ⟨_, _, rfl, r1, r2⟩
    subst e12
    refine wpAny_bind (wpAny_holding (wpAny_bind (wpAny_tryCatch (pair_items pt ?_))))
    show wpAny _ _ (holding [u1, u2] (dictSet p u1 u2)) _ _ _
    refine wpAny_holding ?_
    obtain ⟨z, hd, vs, rel, dd⟩ := dk_of I1.hok (upd_same (H := H0) (a := p) (o := .dK (mergeK [] (kvs.take i))))
    have hz' : vs.length ≤ sizeLine := by rw [← rel.length]; exact z
    have hlk : (mergeK [] (kvs.take i)).length ≤ 1000 := by
      have := length_mergeK (kvs.take i) []
      rw [List.length_take, List.length_nil] at this
      omega
    have hlp : (putK (mergeK [] (kvs.take i)) k v).length ≤ sizeLine := by
      have h1 := length_putK (mergeK [] (kvs.take i)) k v
      have h2 := small1000 hlk
      omega
    refine wpAny_dictSet_pairs (hsz := hz') (kV_is r1) dd fun h2 dd' hs => ?_
    have he : ∃ q, h2.get? p = some q := let ⟨q, _, _, hq, _⟩ := dd'; ⟨q, hq⟩
    have I2 := d_write (t' := s.toks + 1) (ob := .dK (putK (mergeK [] (kvs.take i)) k v)) I1 (by rw [upd_same]; exact True.intro) hs he (dk_new hlp hd (rel.put k r2) dd')
    rw [upd_upd, ← take_merge kvs i hk] at I2
    have hne : it ≠ p := fun z => by rw [z, upd_same] at f0; cases f0
    have f0' : upd H0 p (.dK (mergeK [] (kvs.take (i + 1)))) it = none := by
      rw [upd_ne hne] at f0 ⊢
      exact f0
    refine wpAny_pure ⟨plainId_quiet plain_upd_loop _, ?_⟩
    have ec : ((i : Int) + 1) = ((i + 1 : Nat) : Int) := by push_cast; rfl
    rw [ec]
    exact ih (i + 1) _ (by omega) I2 ⟨f0', f1, f2, f3, f4, f5⟩ (st'.at fun o e => (hs.2 it hne).trans e)
theorem c_dictP (hc : X.calm = true := by rfl) : CallR X (.type "dict") (fun xs H Q => ∃ (l : Addr) (ps : List Addr) (kvs : List (Key × V)), xs = [.ref l] ∧ SqL X.K H l (ps.map V.ref) ∧ ps.length = kvs.length ∧ kvs.length ≤ 1000 ∧
    (∀ (i : Nat) t k v, ps[i]? = some t → kvs[i]? = some (k, v) → SqT X.K H t [kV k, v]) ∧ ∀ p, H p = none → Q (.ref p) (upd H p (.dK (mergeK [] kvs)))) := by
  intro pins s σ H xs us Q I r h
  obtain ⟨l, ps, kvs, rfl, hl, hlen, hn, hps, q⟩ := h
  obtain ⟨u, rfl, rfl⟩ := vals1 r
  have hA := I.ok.hd hc
  have hp := I.hok.fresh (Nat.le_refl s.heap.objs.size)
  have I1 := I.laid (a := s.heap.objs.size) (o := .dK []) (t' := s.toks) (h' := s.heap.push { cls := .type "dict", data := .dict #[] }) (fun _ _ q => Heap.get?_push_of_some _ q) (Nat.le_refl _) (dk_empty s.heap I.big)
  refine callType_codes (Q₁ := fun obj s₁ => obj = .ref s.heap.objs.size ∧ s₁ = { s with heap := s.heap.push { cls := .type "dict", data := .dict #[] } }) F.kt_called_dict (F.kt_typeCall_dict_1 _) F.entry_dict_init (kt_code_dict_new _ ⟨rfl, rfl⟩) ?_
  rintro obj s₁ ⟨rfl, rfl⟩
  have hnew : (s.heap.push { cls := .type "dict", data := .dict #[] }).DictOf (mixKind X.prog X.w) s.heap.objs.size [] := Heap.DictOf.new s.heap
  have sm := Same.upd hp (.dK [])
  obtain ⟨its, rv, pl, hz⟩ := I1.list (sm.seq hl)
  obtain ⟨o, n, ho, hoc, hod, hos⟩ := id pl
  refine ⟨hnew.typeIs, F.args_dict_init_2 _ _, ?_⟩
  unfold Builtin.«dict.__init__»
  refine wpAny_bind ?_
  unfold Builtin.Dict.selfAndRest
  refine wpAny_bind (wpAny_notOrdered_dict hnew.typeIs ?_)
  show wpAny _ _ (pure (s.heap.objs.size, [Value.ref l])) _ _ _
  refine wpAny_pure ?_
  show wpAny _ _ (Builtin.Dict.updateFrom "dict.__init__" s.heap.objs.size (.ref l) [] .none) _ _ _
  unfold Builtin.Dict.updateFrom
  refine wpAny_bind (wpAny_typeOf ⟨o, ho, hoc⟩ ?_)
  rw [if_pos (by decide)]
  refine wpAny_bind (keys_of_list ho hoc hos hod hA fun h2 tk2 k2 => ?_)
  have I2 : Inv X pins σ (upd H s.heap.objs.size (.dK [])) { s with heap := h2, toks := tk2 } := I1.kept (t' := tk2) k2
  rw [if_pos (show (none : Option Value).isNone = true from rfl)]
  obtain ⟨its2, rv2, pl2, _⟩ := I2.list (sm.seq hl)
  refine wpAny_bind (wpAny_rule (wpAny_bind (wpAny_pyIter_list pl2.isList ?_)))
  refine wpAny_pure ⟨plainId_quiet plain_upd_loop _, ?_⟩
  have I3 := I2.kept (h' := h2.push { cls := .type "list_iterator", data := .fields #[.ref l, .int 0 0] }) (t' := tk2) fun b o e => Heap.get?_push_of_some _ e
  have fp := I2.fpOk (H' := upd H s.heap.objs.size (.dK [])) (Nat.le_refl _) (I2.hok.fresh (Nat.le_refl _))
  refine upd_loop (X := X) (H0 := H) (A := X.A.in1) (p := s.heap.objs.size) (kvs := kvs) hc hA hl hlen hn hps hp (fun s' I' => ?_) ps.length 0 _ rfl I3 fp ⟨_, Heap.get?_push_size _ rfl, rfl, rfl⟩
  exact ⟨rfl, .ref s.heap.objs.size, _, I', rfl, q _ hp⟩
end
end L2

set_option Elab.async false
set_option linter.all false
set_option maxRecDepth 100000
namespace L2
open PySem PySem.Spec PyProof.Rows
section
variable {X : Cx} {pins : List (Addr × Obj)} {σ : St} {H : Hp} {s : Shared}
theorem Inv.thaw {a : Addr} {o : Obj} {u : HO} (I : Inv X pins σ H s) (e : H a = some (.frz o u)) (hn : ∀ o u, X.H₀ a ≠ some (.frz o u)) : Inv X pins σ (upd H a u) s := by
  have nn : ∀ b, H b = none → b ≠ a := fun b q z => by rw [z, e] at q; cases q
  have nt : ∀ b xs, H b = some (.tup xs) → b ≠ a := fun b xs q z => by rw [z, e] at q; cases q
  have nw : ∀ b x, H b = some (.own x) → b ≠ a := fun b x q z => by rw [z, e] at q; cases q
  have nb : ∀ b ps, H b = some (.tbl ps) → b ≠ a := fun b x q z => by rw [z, e] at q; cases q
  refine ⟨I.ok, I.os, I.bare, ⟨I.base.keep, I.base.slot, fun b o q n hx => by
      have := I.base.free b o q n hx
      rw [upd_ne (nn b this)]; exact this, I.base.there, fun b xs q => by
      have := I.base.tups b xs q
      rw [upd_ne (nt b xs this)]; exact this, fun b o v q => by
      have hb : b ≠ a := fun z => hn o v (by rw [← z]; exact q)
      rw [upd_ne hb]; exact I.base.frzs b o v q, fun b ps q => by
      obtain ⟨more, r⟩ := I.base.tbls b ps q
      exact ⟨more, by rw [upd_ne (nb b _ r)]; exact r⟩⟩, I.loc, I.cell, by rw [upd_ne (nn _ I.free)]; exact I.free, fun x c q => by rw [upd_ne (nn _ (I.freeC x c q))]; exact I.freeC x c q,
    fun p hp => by rw [upd_ne (nn _ (I.pin p hp).2.1)]; exact I.pin p hp, fun b v q => ?_, I.len⟩
  by_cases hb : b = a
  · subst hb
    rw [upd_same] at q; cases q
    exact (I.hok b _ e).2.stay (fun _ _ _ q => q) (fun c q => by rw [upd_ne (nw c _ q)]; exact q) fun c xs q => by rw [upd_ne (nt c _ q)]; exact q
  · rw [upd_ne hb] at q
    exact (I.hok b v q).stay (fun _ _ _ q => q) (fun c q => by rw [upd_ne (nw c _ q)]; exact q) fun c xs q => by rw [upd_ne (nt c _ q)]; exact q
theorem Inv.freeze {a : Addr} {o : Obj} {u : HO} (I : Inv X pins σ H s) (e : H a = some u) (mu : Mut (H a)) (ho : s.heap.get? a = some o) : Inv X pins σ (upd H a (.frz o u)) s := by
  have hk := I.hok a u e
  have := d_write (a := a) (h' := s.heap) (t' := s.toks) (ob := .frz o u) I mu ⟨rfl, fun _ _ => rfl⟩ ⟨o, ho⟩ ⟨ho, ?_⟩
  · exact this
  · have nw : ∀ b x, H b = some (.own x) → b ≠ a := fun b x q z => by rw [z] at q; rw [q] at mu; exact mu
    have nt : ∀ b xs, H b = some (.tup xs) → b ≠ a := fun b xs q z => by rw [z] at q; rw [q] at mu; exact mu
    exact hk.stay (fun _ _ _ q => q) (fun c q => by rw [upd_ne (nw c _ q)]; exact q) fun c xs q => by rw [upd_ne (nt c _ q)]; exact q
end
def Itd (d : Addr) (o : Obj) (kvs : List (Key × V)) : It :=
  ⟨fun i H => H d = some (.frz o (.dK kvs)) ∧ i < kvs.length, fun i H x H' => H' = H ∧ ∃ k v, kvs[i]? = some (k, v) ∧ x = kV k, fun i H => H d = some (.frz o (.dK kvs)) ∧ kvs.length ≤ i⟩
theorem is_kV {P : Program} {w : World} {k : Key} {u : Value} (h : (mixKind P w).is k u = true) : RelV (kV k) u := by
  cases k with
  | inl i => obtain ⟨t, e⟩ := Value.isInt_shape (show Value.isInt i u = true from h); exact ⟨t, e⟩
  | inr x => obtain ⟨t, e⟩ := Value.isStrOf_shape (show Value.isStrOf x u = true from h); exact ⟨t, e⟩
theorem dictAt_of {P : Program} {w : World} {H : Hp} {h : Heap} {d : Addr} {o : Obj} {kvs : List (Key × V)} {vs : List (Key × Value)} {ep : Nat} (dd : h.DictAt (mixKind P w) d vs ep) (ho : h.get? d = some o) {h' : Heap} (ho' : h'.get? d = some o) : h'.DictAt (mixKind P w) d vs ep := by
  obtain ⟨o2, es, e, r⟩ := dd
  rw [ho] at e; cases e
  exact ⟨o, es, ho', r⟩
section
variable {X : Cx}
theorem turn_dict {P : Program} {w : World} {K : PySem.W.Frag} {tg : Expr} (d it : Addr) (o : Obj) (kvs : List (Key × V)) (vs : List (Key × Value)) (ep : Nat) (rel : KV kvs vs) (hat : ∀ h : Heap, h.get? d = some o → h.DictAt (mixKind P w) d vs ep) :
    Turn P w K tg (Itd d o kvs) [it] it (fun i h => h.IsKeyIter it d i vs.length ep) where
  mem := by simp
  obj := fun i h st b hb => by
    have e : b = it := by simpa using hb
    subst e
    obtain ⟨o, e, c, d⟩ := st
    exact ⟨o, e, fun v z => by rw [d] at z; cases z⟩
  keep := fun i h h' st k => by
    obtain ⟨o, e, r⟩ := st
    exact ⟨o, k it (by simp) o e, r⟩
  item := by
    intro X hP hw hK hc i pins s σ H E I hf st hg
    subst hP hw hK
    obtain ⟨e, hlt⟩ := hg
    have hd := (show ObjOk X.prog X.w H s.heap d (.frz o (.dK kvs)) from I.hok d _ e).1
    have hl := rel.length
    obtain ⟨f0, f1, f2, f3, f4, f5⟩ := hf it (by simp)
    obtain ⟨⟨k, v⟩, hx⟩ : ∃ kv, vs[i]? = some kv := ⟨vs[i]'(by omega), List.getElem?_eq_getElem (by omega)⟩
    obtain ⟨⟨k', v'⟩, hx'⟩ : ∃ kv, kvs[i]? = some kv := ⟨kvs[i]'(by omega), List.getElem?_eq_getElem (by omega)⟩
    have hkk : k' = k := by
      have := congrArg (fun l => l[i]?) rel.keys
      simp only [List.getElem?_map, hx, hx'] at this
      simpa using this
    subst hkk
    refine wpAny_pyNext_dict_item st (hat _ hd) hx fun key h' hkey st' sb => ?_
    have I1 : Inv X pins σ H { s with heap := h' } := I.turned (t' := s.toks) (fun b o hb e => (sb.2 b hb).trans e) f0 f1 f3 f4 f5
    obtain ⟨oi, ei, ci, di⟩ := id st'
    exact ⟨key, rfl, go_of (s := { s with heap := h' }) ei ci di (by decide) ⟨kV k', H, I1, is_kV hkey, ⟨rfl, k', v', hx', rfl⟩, st', fun b hb => (hf b hb).1⟩⟩
  done := by
    intro X hP hw hK hc i pins s σ H E I hf st hg
    subst hP hw hK
    obtain ⟨e, hlt⟩ := hg
    have hd := (show ObjOk X.prog X.w H s.heap d (.frz o (.dK kvs)) from I.hok d _ e).1
    have hl := rel.length
    obtain ⟨f0, f1, f2, f3, f4, f5⟩ := hf it (by simp)
    exact wpAny_pyNext_dict_end (I.ok.hd hc) st (hat _ hd) (by simp; omega) fun h' eb => ⟨rfl, I.turned (t' := s.toks) (fun b o hb e => eb b o hb e) f0 f1 f3 f4 f5⟩
  self := fun _ _ _ _ _ st h => wpAny_pyIter_keyiter st h
end
end L2

set_option Elab.async false
set_option linter.all false
set_option maxRecDepth 100000
namespace L2
open PySem PySem.Spec PyProof.Rows
theorem paired_of_get {α β : Type} {F : α → β → Prop} : ∀ {l₁ : List α} {l₂ : List β}, l₁.length = l₂.length → (∀ (i : Nat) a b, l₁[i]? = some a → l₂[i]? = some b → F a b) → Paired F l₁ l₂
  | [], [], _, _ => .nil
  | [], _ :: _, h, _ => by simp at h
  | _ :: _, [], h, _ => by simp at h
  | x :: xs, y :: ys, h, f => .cons (f 0 x y rfl rfl) (paired_of_get (by simpa using h) fun i a b ha hb => f (i + 1) a b (by simpa using ha) (by simpa using hb))
theorem paired_at {α β : Type} {F : α → β → Prop} {l₁ : List α} {l₂ : List β} (h : Paired F l₁ l₂) : ∀ {i : Nat} {a : α} {b : β}, l₁[i]? = some a → l₂[i]? = some b → F a b := by
  induction h with
  | nil => intro i a b h; simp at h
  | cons r t ih =>
    intro i a b ha hb
    cases i with
    | zero => simp only [List.getElem?_cons_zero, Option.some.injEq] at ha hb; subst ha hb; exact r
    | succ j => exact ih (by simpa using ha) (by simpa using hb)
section
variable {X : Cx} {tg : Expr}
def NoFrz (X : Cx) (d : Addr) : Prop := ∀ o u, X.H₀ d ≠ some (.frz o u)
def iDict (X : Cx) (tl : TE) : TI := fun σ H R => tl σ H fun x H1 => ∃ d kvs, x = .ref d ∧ H1 d = some (.dK kvs) ∧ ∀ o, NoFrz X d → (kvs.map (·.1)).Nodup → R (Itd d o kvs) (upd H1 d (.frz o (.dK kvs)))
theorem pi_dict {l : Expr} {tl : TE} (hl : PE X l tl) : PI X tg l (iDict X tl) := by
  intro pins s σ H R I h
  refine thn (hl pins s σ H _ I h) fun v s1 ⟨x, H1, I1, r1, q1⟩ => ?_
  obtain ⟨d, kvs, e, hd, q⟩ := q1
  subst e
  cases r1
  obtain ⟨z, hs, vs, rel, dd⟩ := dk_of I1.hok hd
  obtain ⟨ep, dat⟩ := dd.dictAt
  obtain ⟨o, es, ho, r⟩ := id dat
  have hn : NoFrz X d := fun o u z => by
    have := I1.base.frzs d o u z
    rw [hd] at this; cases this
  refine wpAny_pyIter_dict hs dat ?_
  have I2 := I1.freeze hd (by rw [hd]; exact True.intro) ho
  have hfr : upd H1 d (.frz o (.dK kvs)) s1.heap.objs.size = none := by
    rw [upd_ne (Nat.ne_of_gt (Heap.lt_size ho))]; exact I1.hok.fresh (Nat.le_refl _)
  refine ⟨s1.heap.objs.size, [s1.heap.objs.size], _, _, _, rfl, I2.kept (t' := s1.toks) fun b o e => Heap.get?_push_of_some _ e,
    turn_dict d _ o kvs vs ep rel (fun h' h2 => dictAt_of (H := H1) (kvs := kvs) dat ho h2), ⟨_, Heap.get?_push_size _ rfl, rfl, rfl⟩, fun b hb => ?_, q o hn (by rw [rel.keys]; exact dat.nodup)⟩
  have e : b = s1.heap.objs.size := by simpa using hb
  subst e
  exact I1.fpOk (Nat.le_refl _) hfr
def thawN (X : Cx) (D : Ends) : St → Hp → Prop := fun σ H => ∃ d o kvs, NoFrz X d ∧ H d = some (.frz o (.dK kvs)) ∧ D.nx σ (upd H d (.dK kvs))
def tForD (X : Cx) (tl : TE) (g : TG) (tb : TS) : TS := fun D σ H => tl σ H fun x H1 => ∃ d kvs, x = .ref d ∧ H1 d = some (.dK kvs) ∧ ∀ o, NoFrz X d → (kvs.map (·.1)).Nodup → ∃ Pv : Nat → St → Hp → Prop, Pv 0 σ (upd H1 d (.frz o (.dK kvs))) ∧
  (∀ i σ H, i ≤ kvs.length → Pv i σ H → H d = some (.frz o (.dK kvs))) ∧
  (∀ i k v σ H, kvs[i]? = some (k, v) → Pv i σ H → g (kV k) σ H fun σ2 H2 => tb { D with nx := Pv (i + 1), ct := Pv (i + 1), bk := thawN X D } σ2 H2) ∧ ∀ σ H, Pv kvs.length σ H → D.nx σ (upd H d (.dK kvs))
theorem ps_forD {l : Expr} {body : List Stmt} {tl : TE} {g : TG} {tb : TS} {pos : Pos} (hp : PassesOwn (model X.prog X.w) X.A X.env X.xe) (hc : X.calm = true) (hl : PE X l tl) (mono : ∀ σ H (Q Q' : V → Hp → Prop), (∀ v H, Q v H → Q' v H) → tl σ H Q → tl σ H Q')
    (hg : PG X tg g) (hb : PSs X body tb) (hs : ∀ x, foldedSetIterable l X.env x = pure x := by intro _; rfl) : PS X (.For tg l body [] pos) (tForD X tl g tb) := by
  intro pins s σ H D I h
  refine thn (ps_for hp hc (pi_dict hl) hg hb hs pins s σ H { D with nx := thawN X D } I ?_) fun f s1 q => ?_
  · refine mono σ H _ _ (fun x H1 q => ?_) h
    obtain ⟨d, kvs, e, hd, q⟩ := q
    refine ⟨d, kvs, e, hd, fun o hn hnd => ?_⟩
    obtain ⟨Pv, h0, hk, st, fin⟩ := q o hn hnd
    refine ⟨fun i m σ H => m = kvs.length - i ∧ i ≤ kvs.length ∧ Pv i σ H, ⟨kvs.length, by simp, Nat.zero_le _, h0⟩, ?_⟩
    rintro i m σ H ⟨rfl, hi, p⟩
    by_cases hlt : i < kvs.length
    · refine .inr ⟨⟨hk i σ H hi p, hlt⟩, Pv (i + 1), fun σ' H' p' => ⟨kvs.length - (i + 1), by omega, rfl, hlt, p'⟩, fun x H' y => ?_⟩
      obtain ⟨e, k, v, hx, y⟩ := y
      subst e y
      exact st i k v σ _ hx p
    · have e : i = kvs.length := by omega
      subst e
      exact .inl ⟨⟨hk _ σ H hi p, Nat.le_refl _⟩, d, o, kvs, hn, hk _ σ H hi p, fin σ H p⟩
  · cases f with
    | next =>
      obtain ⟨σ1, H1, I1, d, o, kvs, hn, e, q⟩ := q
      exact ⟨σ1, _, I1.thaw e hn, q⟩
    | cont => exact q
    | brk => exact q
    | ret v => exact q
theorem c_listD (hc : X.calm = true := by rfl) : CallR X (.type "list") (fun xs H Q => ∃ d kvs, xs = [.ref d] ∧ Rd H d (.dK kvs) ∧ ∀ l, H l = none → Q (.ref l) (upd H l (.lst (kvs.map fun kv => kV kv.1)))) := by
  intro pins s σ H xs us Q I r h
  obtain ⟨d, kvs, rfl, e, q⟩ := h
  obtain ⟨u, rfl, rfl⟩ := vals1 r
  obtain ⟨z, hs, vs, rel, dd⟩ := dk_rd I.hok e
  obtain ⟨ep, dat⟩ := dd.dictAt
  have hl := rel.length
  refine PySem.W.kdl_call (PySem.W.kdl_dict (knd := mixKind X.prog X.w) (kvs := vs) (ep := ep) hs) (I.ok.hd hc) dat (by omega) fun h' tk acc c hk hS hacc => ?_
  have hp := I.hok.fresh (Nat.le_refl s.heap.objs.size)
  refine ⟨.ref s.heap.objs.size, _, I.laid (a := s.heap.objs.size) (o := .lst (kvs.map fun kv => kV kv.1)) (t' := tk) hk (Nat.le_refl _) ⟨by rw [List.length_map]; exact z, acc.toList, c, ?_, by simpa using hS⟩, rfl, q _ hp⟩
  have hsz : acc.size = vs.length := hacc.1
  refine paired_of_get (by simp [hsz, hl]) fun i x y hx hy => ?_
  rw [List.getElem?_map] at hx
  obtain ⟨k, v, hv, hk⟩ := hacc.2 i y (by rw [← Array.getElem?_toList]; exact hy)
  cases hkv : kvs[i]? with
  | none => rw [hkv] at hx; cases hx
  | some kv =>
    rw [hkv] at hx
    have hx' : kV kv.1 = x := Option.some.inj hx
    have := congrArg (fun l => l[i]?) rel.keys
    simp only [List.getElem?_map, hkv, hv] at this
    have hkk : kv.1 = k := by simpa using this
    rw [← hx', hkk]
    exact is_kV hk
end
section
variable {prog : Program} {w : World} {K : Type} [DecidableEq K] {knd : KeyKind prog w K} {A : Around} {E : Value → Shared → Prop} {s : Shared}
theorem shows_all {d : Addr} {Q : Unit → Shared → Prop} (hd : (d == sysModules) = false) (q : Q () s) : wpAny (model prog w) A (Builtin.Dict.showsAll d) Q E s := by
  unfold Builtin.Dict.showsAll
  rw [if_neg (by rw [hd]; exact Bool.false_ne_true)]
  exact wpAny_pure q
theorem find_pairs {k : K} {v : Value} {es : List DictEntry} {lvs : List (K × Value)} (h : Pairs knd es lvs) : valueAt lvs k = some v → ∃ j e, (es.findIdx? fun e => knd.is k e.key) = some j ∧ es[j]? = some e ∧ e.val = v := by
  induction h with
  | nil => intro z; cases z
  | @cons e kv es lvs h1 h2 t ih =>
    intro z
    by_cases hk : kv.1 = k
    · subst hk
      have : valueAt (kv :: lvs) kv.1 = some kv.2 := by simp [valueAt, List.find?_cons]
      rw [this] at z
      exact ⟨0, e, by rw [List.findIdx?_cons, if_pos h1], rfl, by rw [h2]; exact Option.some.inj z⟩
    · have : valueAt (kv :: lvs) k = valueAt lvs k := by simp [valueAt, List.find?_cons, hk]
      rw [this] at z
      obtain ⟨j, f, hj, hf, hv⟩ := ih z
      have hn : ¬ knd.is k e.key = true := fun q => hk (knd.inj _ _ _ h1 q)
      exact ⟨j + 1, f, by rw [List.findIdx?_cons, if_neg hn, hj]; rfl, hf, hv⟩
theorem same_pairs {id : String} {a b : Addr} {kvs lvs : List (K × Value)} {Q : Bool → Shared → Prop} (hda : (a == sysModules) = false) (hdb : (b == sysModules) = false) (ha : s.heap.DictOf knd a kvs) (hb : s.heap.DictOf knd b lvs) (hl : kvs.length = lvs.length)
    (hv : ∀ (i : Nat) k v, kvs[i]? = some (k, v) → ∃ v', valueAt lvs k = some v' ∧ SeqAt.EqAt A s v v' true) (q : Q true s) : wpAny (model prog w) A (Builtin.Dict.samePairs id a b) Q E s := by
  obtain ⟨o, es, ep, ho, hx, hd, hk, hp, hn⟩ := ha
  obtain ⟨o2, es2, ep2, ho2, hx2, hd2, hk2, hp2, hn2⟩ := hb
  have hz : es.size = kvs.length := by rw [← hp.length]; simp
  have hz2 : es2.size = lvs.length := by rw [← hp2.length]; simp
  unfold Builtin.Dict.samePairs
  refine wpAny_bind (shows_all hda ?_)
  refine wpAny_bind (shows_all hdb ?_)
  refine wpAny_bind (wpAny_dictEntries ho hd ?_)
  refine wpAny_bind (wpAny_dictEntries ho2 hd2 ?_)
  rw [if_neg (by simp; omega)]
  refine wpAny_bind (wpAny_dictEpoch ho hd ?_)
  refine wpAny_bind ?_
  rw [Std.Legacy.Range.forIn_eq_forIn_range']
  simp only [Std.Legacy.Range.size, Nat.sub_zero, Nat.add_sub_cancel, Nat.div_one]
  refine wpAny_forIn_list _ (fun rest b s' => b = (none, ()) ∧ s' = s ∧ ∀ i ∈ rest, i < es.size) _ ?_ ?_ _ _ ⟨rfl, rfl, fun i hi => ?_⟩
  · rintro i rest c s' ⟨rfl, rfl, hr⟩
    have hi : i < es.size := hr i (by simp)
    refine wpAny_bind (wpAny_dictEntries ho hd ?_)
    rw [Array.getElem?_eq_getElem hi]
    obtain ⟨⟨k, v⟩, hkv⟩ : ∃ kv, kvs[i]? = some kv := ⟨kvs[i]'(by omega), List.getElem?_eq_getElem (by omega)⟩
    obtain ⟨hkey, hval⟩ := hp.get? (e := es[i]) (by simp [hi]) hkv
    obtain ⟨k', hk', hh⟩ := hk es[i] (Array.getElem_mem hi)
    obtain ⟨v', hv', he⟩ := hv i k v hkv
    have hkk : k' = k := knd.inj _ _ _ hk' hkey
    subst hkk
    show wpAny _ _ (holding [es[i].key, es[i].val] _ >>= _) _ _ _
    refine wpAny_bind (wpAny_holding ?_)
    rw [hh, hval]
    refine wpAny_bind (wpAny_dictFind_of hkey ho2 hd2 hk2 ?_)
    obtain ⟨j, f, hj, hf, hfv⟩ := find_pairs hp2 hv'
    rw [← List.findIdx?_toArray, Array.toArray_toList] at hj
    rw [Array.getElem?_toList] at hf
    rw [hj]
    refine wpAny_bind (wpAny_dictEntries ho2 hd2 ?_)
    rw [hf]
    show wpAny _ _ (holding [f.val] (eqBool v f.val)) _ _ _
    rw [hfv]
    refine wpAny_holding (he _ _ _ _ ?_)
    rw [if_neg (by decide)]
    refine wpAny_bind (wpAny_dictEpoch ho hd ?_)
    rw [if_neg (by simp)]
    exact wpAny_pure ⟨rfl, rfl, fun z hz => hr z (List.mem_cons_of_mem _ hz)⟩
  · rintro c s' ⟨rfl, rfl, _⟩
    exact wpAny_pure q
  · have := (List.mem_range'_1.mp hi).2
    omega
end
theorem valV_at {κ : Type} [DecidableEq κ] : ∀ {kvs : List (κ × V)} {i : Nat} {k : κ} {v : V}, (kvs.map (·.1)).Nodup → kvs[i]? = some (k, v) → valV kvs k = some v
  | [], i, k, v, _, h => by simp at h
  | p :: r, 0, k, v, _, h => by
    simp only [List.getElem?_cons_zero, Option.some.injEq] at h
    subst h
    exact valV_pos (p := (k, v)) rfl
  | p :: r, i + 1, k, v, hn, h => by
    rw [List.map_cons] at hn
    have hr := List.nodup_cons.mp hn
    have hi : r[i]? = some (k, v) := by simpa using h
    have hne : ¬ p.1 = k := fun z => hr.1 (by rw [z]; exact List.mem_map_of_mem (f := (·.1)) (List.mem_of_getElem? hi))
    rw [valV_neg hne]
    exact valV_at hr.2 hi
section
variable {X : Cx}
def ValEq (K : PySem.W.Frag) (H : Hp) (v v' : V) : Prop := (v = v' ∧ flatR v = true) ∨ ∃ p q xs, v = .ref p ∧ v' = .ref q ∧ SqL K H p xs ∧ SqL K H q xs ∧ xs.all flatR = true
theorem eqAt_of {pins : List (Addr × Obj)} {σ : St} {H : Hp} {s : Shared} {A : Around} {v v' : V} {u u' : Value} (I : Inv X pins σ H s) (hu : A.units < cLine) (h : ValEq X.K H v v') (r : RelV v u) (r' : RelV v' u') : SeqAt.EqAt A s u u' true := by
  rcases h with ⟨rfl, hf⟩ | ⟨p, q, xs, rfl, rfl, hp, hq, hf⟩
  · exact eqAt_same hf r r' A s
  · cases r
    cases r'
    by_cases hpq : p = q
    · subst hpq; exact .same _
    · obtain ⟨its, r1, ⟨o, n, e1, c1, _, d1⟩, _⟩ := I.list hp
      obtain ⟨jts, r2, ⟨o2, n2, e2, c2, _, d2⟩, _⟩ := I.list hq
      have l1 := r1.length
      have l2 := r2.length
      have hR := SeqAt.RcAt.lists (A := A) (s := s) (e := fun _ => true) (l := p) (b := q) (items := its.toArray) (items2 := jts.toArray) ⟨o, e1, c1, n, d1⟩ ⟨o2, e2, c2, n2, d2⟩ (by simp; omega) hu (fun j h1 h2 => by
        simp at h1 h2
        obtain ⟨x, hx⟩ : ∃ x, xs[j]? = some x := ⟨xs[j]'(by omega), List.getElem?_eq_getElem (by omega)⟩
        obtain ⟨u1, g1, w1⟩ := r1.get hx
        obtain ⟨u2, g2, w2⟩ := r2.get hx
        have z1 : its.toArray[j]'(by simpa using h1) = u1 := by
          have := List.getElem?_eq_getElem h1
          rw [g1] at this
          simpa using (Option.some.inj this).symm
        have z2 : jts.toArray[j]'(by simpa using h2) = u2 := by
          have := List.getElem?_eq_getElem h2
          rw [g2] at this
          simpa using (Option.some.inj this).symm
        rw [z1, z2]
        exact eqAt_same (List.all_eq_true.mp hf x (List.mem_of_getElem? hx)) w1 w2 _ _)
      have : ((List.range its.toArray.size).all fun _ => true) = true := by simp
      rw [this] at hR
      exact .of_refs hpq hR
theorem o_eqD (hu : X.A.units + 64 < cLine) : OpR X (compareOp .Eq) (fun x y H Q => ∃ a b kvs lvs, x = .ref a ∧ y = .ref b ∧ Rd H a (.dK kvs) ∧ Rd H b (.dK lvs) ∧ kvs.length = lvs.length ∧
    (∀ k v, valV kvs k = some v → ∃ v', valV lvs k = some v' ∧ ValEq X.K H v v') ∧ Q (.bl true) H) := by
  intro pins s σ H x y v u Q I rx ry h
  obtain ⟨a, b, kvs, lvs, rfl, rfl, ha, hb, hl, hv, q⟩ := h
  cases rx
  cases ry
  obtain ⟨z, hs, vs, rel, dd⟩ := dk_rd I.hok ha
  obtain ⟨z2, hs2, vs2, rel2, dd2⟩ := dk_rd I.hok hb
  have e1 := rel.length
  have e2 := rel2.length
  refine wpAny_richCompare_same_room (op := .Eq) dd.typeIs dd2.typeIs PySem.F.slot_dict_eq (wpAny_call_entry PySem.F.slot_dict_eq dd.typeIs PySem.F.entry_dict_eq ?_ (PySem.F.args_dict_eq_2 _ _)) (by omega)
  show wpAny _ _ (Builtin.Dict.dictSlotArgs "__eq__" ⟨[.ref a, .ref b], []⟩ >>= _) _ _ _
  refine wpAny_bind ?_
  unfold Builtin.Dict.dictSlotArgs
  refine wpAny_bind (wpAny_notOrdered_dict dd.typeIs ?_)
  show wpAny _ _ (pure (Value.ref a, Value.ref b)) _ _ _
  refine wpAny_pure ?_
  refine wpAny_bind (wpAny_isInstance (T := "dict") (b := true) dd2.typeIs (by rw [isSubtype_type]; kernel_rfl) ?_)
  show wpAny _ _ (Builtin.Dict.samePairs "dict.__eq__" a b >>= _) _ _ _
  refine wpAny_bind (same_pairs hs hs2 dd dd2 (by omega) (fun i k v hi => ?_) ?_)
  · obtain ⟨⟨k', v'⟩, hkv⟩ : ∃ kv, kvs[i]? = some kv := ⟨kvs[i]'(by have := (List.getElem?_eq_some_iff.mp hi).1; omega), List.getElem?_eq_getElem _⟩
    have hr : k' = k ∧ RelV v' v := paired_at rel hkv hi
    obtain ⟨rfl, hrv⟩ := hr
    obtain ⟨w', hw, hq⟩ := hv k' v' (valV_at (by rw [rel.keys]; exact (dd.dictAt.choose_spec).nodup) hkv)
    have hval := rel2.val k'
    rw [hw] at hval
    cases hvv : valueAt vs2 k' with
    | none => rw [hvv] at hval; exact (show False from hval).elim
    | some u' =>
      rw [hvv] at hval
      exact ⟨u', rfl, eqAt_of I (show X.A.units + 1 < cLine by omega) hq hrv hval⟩
  · show wpAny _ _ (ret (.bool true)) _ _ _
    exact wpAny_pure ⟨.bool true, rfl, (fun z => nomatch z), .bl true, H, I, rfl, q⟩
end
end L2

set_option Elab.async false
set_option linter.all false
set_option maxRecDepth 100000
namespace L2
open PySem PySem.Spec PyProof.Rows
section
variable {X : Cx}
structure SplitOk (z y : Str) (ws : List Str) : Prop where
  h1 : (decide (z.length < y.length) || decide (Builtin.Str.strKind z < Builtin.Str.strKind y)) = false
  hy : (y.length == 0) = false
  hf : (Builtin.Str.occurrences z y 0 z.length (z.length + 1)).isEmpty = false
  hx : z.length ≤ sizeLine
  hn : ws.length ≤ sizeLine
  e : Builtin.Str.partsBetween z (Builtin.Str.occurrences z y 0 z.length (z.length + 1)) y.length = ws
theorem vals_from : ∀ (tk : Nat) (ws : List Str), Vals (ws.map V.str) (strsFrom tk ws)
  | _, [] => .nil
  | tk, x :: r => .cons ⟨_, rfl⟩ (vals_from (tk + 1) r)
theorem mt_split : MtR X "str.split" (fun x xs H Q => ∃ (z y : Str) (ws : List Str), x = .str z ∧ xs = [.str y] ∧ SplitOk z y ws ∧ ∀ l, H l = none → Q (.ref l) (upd H l (.lst (ws.map V.str)))) := by
  intro pins s σ H x xs v us Q I rx rs h
  obtain ⟨z, y, ws, rfl, rfl, ok, q⟩ := h
  obtain ⟨t, rfl⟩ := rx
  obtain ⟨u, rfl, ru⟩ := rs.one
  obtain ⟨t2, rfl⟩ := ru
  obtain ⟨h1, hy, hf, hx, hn, e⟩ := ok
  subst e
  refine call_meets F.slot_str_split (typeIs_str _ _ _) F.entry_str_split (F.args_str_split_2 _ _) (meets_str_split_sep z y t t2 h1 hy hf hx hn) ?_
  exact ⟨.ref _, _, I.lnew (vals_from _ _) (by rw [List.length_map]; exact hn), rfl, q _ I.fresh⟩
theorem m_split {o e : Expr} {to : TE} {t : TA} {apos cpos : Pos} (ho : PE X o to) (ha : PA X [e] t) (hbase : attributeBase o "split" X.env (eval o X.env) = eval o X.env := by rfl)
    (hfew : ((backTo cpos (starEach [e] X.env)).all (fun x => !x.1) && (backToKw cpos (keywordEach [] X.env)).all (fun x => x.1.isSome)
      && decide ([e].length + ([] : List Keyword).length + (if ([] : List Keyword).isEmpty then 0 else 1) < 30)) = true := by rfl)
    (hline : (apos.endLine == cpos.line) = true := by rfl) (hs : starEach [e] X.env = (false, eval e X.env) :: starEach [] X.env := by rfl) (hplain : (backTo cpos (starEach [] X.env)).any (·.1) = false := by rfl) :
    PE X (.Call (.Attribute o "split" apos) [e] [] cpos) (tBM X.K "str" (fun x xs H Q => ∃ (z y : Str) (ws : List Str), x = .str z ∧ xs = [.str y] ∧ SplitOk z y ws ∧ ∀ l, H l = none → Q (.ref l) (upd H l (.lst (ws.map V.str)))) to t) :=
  pe_bm PySem.F.plainAttrs_str PySem.F.slot_str_split PySem.F.type_str_split mt_split ho ha hbase hfew hline hs hplain
def repS (z : Str) (n : Int) : Str := if n < 1 then Str.empty else if (n == 1 || z.length == 0) = true then z else ⟨(List.replicate n.toNat z.cps).foldl (· ++ ·) #[]⟩
def fMulA : R2 := fun x y H Q => match x, y with
  | .int i, .int j => CMul i j ∧ Q (.int (i * j)) H
  | .str z, .int n => n < 1000 ∧ -1000 < n ∧ z.length ≤ 1000 ∧ Q (.str (repS z n)) H
  | .ref p, .int k => ∃ xs, H p = some (.lst xs) ∧ -(2 ^ 63) ≤ k ∧ k < 2 ^ 63 ∧ xs.length * k.toNat ≤ sizeLine ∧ ∀ l, H l = none → Q (.ref l) (upd H l (.lst (List.replicate k.toNat xs).flatten))
  | _, _ => False
theorem fold_size (xs : List (Array Nat)) : ∀ acc : Array Nat, (xs.foldl (· ++ ·) acc).size = acc.size + (xs.map (·.size)).sum := by
  induction xs with
  | nil => intro acc; simp
  | cons x r ih => intro acc; rw [List.foldl_cons, ih, Array.size_append, List.map_cons, List.sum_cons]; omega
theorem rep_size (z : Str) (n : Nat) : (⟨(List.replicate n z.cps).foldl (· ++ ·) #[]⟩ : Str).length = n * z.length := by
  show ((List.replicate n z.cps).foldl (· ++ ·) #[]).size = _
  rw [fold_size, List.map_replicate]
  have : ∀ m k : Nat, (List.replicate m k).sum = m * k := fun m k => by
    induction m with
    | zero => simp
    | succ m ih => rw [List.replicate_succ, List.sum_cons, ih, Nat.succ_mul]; omega
  rw [this]
  simp [Str.length]
theorem o_mulA : OpR X (binaryOp .Mult) fMulA := by
  intro pins s σ H x y v u Q I rx ry h
  cases x with
  | int i =>
    cases y with
    | int j => exact o_mul pins s σ H _ _ v u Q I rx ry h
    | _ => exact (show False from h).elim
  | str z =>
    cases y with
    | int n =>
      obtain ⟨h1, h2, h3, q⟩ := h
      obtain ⟨t, rfl⟩ := rx
      obtain ⟨t2, rfl⟩ := ry
      have hb : ¬ n < 1 → n.toNat * z.length ≤ 1000000 := fun hn => by
        have e1 : n.toNat ≤ 1000 := by omega
        exact Nat.le_trans (Nat.mul_le_mul e1 h3) (by decide)
      refine P.mul_str (by rw [decide_eq_false (by omega), decide_eq_false (by omega)]; rfl) (fun hn _ => ?_) (fun hn _ => ?_) ?_
      · intro z1
        have h0 : (0 : Int) < n := by omega
        have := Int.lt_mul_of_ediv_lt h0 z1
        have e2 : ((z.length : Int)) * n ≤ 1000 * 1000 := Int.mul_le_mul (by omega) (by omega) (by omega) (by decide)
        omega
      · unfold Builtin.Str.tooLong
        have := hb hn
        rw [Nat.mul_comm] at this
        refine decide_eq_false ?_
        rw [sizeLine_eq]
        omega
      · unfold repS at q
        by_cases c1 : n < 1
        · rw [if_pos c1] at q ⊢
          exact ⟨by decide, .str _, H, I.tok _, ⟨_, rfl⟩, q⟩
        · rw [if_neg c1] at q ⊢
          by_cases c2 : (n == 1 || z.length == 0) = true
          · rw [if_pos c2] at q ⊢
            exact ⟨.str _, H, I, ⟨_, rfl⟩, q⟩
          · rw [if_neg c2] at q ⊢
            refine ⟨?_, .str _, H, I.tok _, ⟨_, rfl⟩, q⟩
            rw [rep_size]
            have := hb c1
            rw [sizeLine_eq]
            omega
    | _ => exact (show False from h).elim
  | ref p =>
    cases y with
    | int k =>
      obtain ⟨xs, h1, h2, h3, h4, q⟩ := h
      exact op_rep pins s σ H _ _ v u Q I rx ry ⟨p, k, xs, rfl, rfl, h1, h2, h3, h4, q⟩
    | _ => exact (show False from h).elim
  | _ => cases y <;> exact (show False from h).elim
end
end L2

set_option Elab.async false
set_option linter.all false
set_option maxRecDepth 100000
namespace L2
open PySem PySem.Spec PyProof.Rows
section
variable {X : Cx}
theorem monoV (i : Nat) : ∀ σ H (Q Q' : V → Hp → Prop), (∀ v H, Q v H → Q' v H) → fVar i σ H Q → fVar i σ H Q' := by
  intro σ H Q Q' h q
  unfold fVar at q ⊢
  split at q
  · exact h _ _ q
  · exact q.elim
def DictEq (K : PySem.W.Frag) (H : Hp) (a b : Addr) : Prop := ∃ kvs lvs, Rd H a (.dK kvs) ∧ Rd H b (.dK lvs) ∧ kvs.length = lvs.length ∧ ∀ k v, valV kvs k = some v → ∃ v', valV lvs k = some v' ∧ ValEq K H v v'
def fEqU (K : PySem.W.Frag) : R2 := fun x y H Q => match x, y with
  | .ref p, .ref q => ((∃ d e, RepD K H (.ref p) d ∧ RepD K H (.ref q) e ∧ SeqAt.shaped d = true ∧ SeqAt.shaped e = true ∧ Q (.bl (PyData.eqv d e)) H) ∨ (∃ xs, SqL K H p xs ∧ SqL K H q xs ∧ xs.all flatR = true ∧ Q (.bl true) H)) ∨ (DictEq K H p q ∧ Q (.bl true) H)
  | x, y => scal x y = true ∧ Q (.bl (decide (x = y))) H
theorem o_eqU (hu : X.A.units + 64 < cLine) : OpR X (compareOp .Eq) (fEqU X.K) := ((o_eqA hu).or (o_eqD hu)).imp fun x y H Q q => by
  by_cases hr : ∃ p q, x = V.ref p ∧ y = V.ref q
  · obtain ⟨p, q', rfl, rfl⟩ := hr
    rcases q with q | ⟨⟨kvs, lvs, h1, h2, h3, h4⟩, h5⟩
    · exact .inl q
    · exact .inr ⟨p, q', kvs, lvs, rfl, rfl, h1, h2, h3, h4, h5⟩
  · refine .inl ?_
    cases x <;> cases y <;> first | exact q | exact absurd ⟨_, _, rfl, rfl⟩ hr
theorem c_lenA : CallR X (.builtin "len") (fun xs H Q => (∃ x n, xs = [x] ∧ LenV X.K x H n ∧ Q (.int n) H) ∨ ∃ a kvs, xs = [.ref a] ∧ Rd H a (.dK kvs) ∧ Q (.int (kvs.length : Nat)) H) := c_len.or c_lenD
theorem c_listA (hc : X.calm = true := by rfl) : CallR X (.type "list") (fun xs H Q => (∃ p ys, xs = [.ref p] ∧ (SqL X.K H p ys ∨ SqT X.K H p ys) ∧ ∀ l, H l = none → Q (.ref l) (upd H l (.lst ys))) ∨ ∃ d kvs, xs = [.ref d] ∧ Rd H d (.dK kvs) ∧ ∀ l, H l = none → Q (.ref l) (upd H l (.lst (kvs.map fun kv => kV kv.1)))) := c_list.or (c_listD hc)
end
end L2

set_option Elab.async false
set_option linter.all false
set_option maxRecDepth 100000
namespace L2
open PySem PySem.Spec PyProof.Rows
section
variable {X : Cx} {pins : List (Addr × Obj)} {σ : St} {H : Hp} {s : Shared}
end
end L2

set_option Elab.async false
set_option linter.all false
set_option maxRecDepth 100000
set_option maxHeartbeats 4000000
namespace L2
open PySem PySem.Spec PyProof.Rows
open PySem.W (Looks InstAt looks_findIn looks_mroIn looks_clsIn looks_find)
section
variable {M : Model} {A : Around} {E : Value → Shared → Prop} {s : Shared} {env : Env} {outer : List Env} {base : Heap} {L e : Addr} {oe : Obj} {vs : Array Value}
theorem stay_in {fo : Option Addr} {E' : Value → Shared → Prop} {Q : Unit → Shared → Prop} (hfr : A.frames = some (env :: outer)) (hl : s.heap.FunFrames base (env :: outer)) (hf : env.frame = some L)
    (he : s.heap.get? e = some oe) (hd : oe.data = .fields vs) (hsz : 5 < vs.size) (hT : Trc s.heap L e vs)
    (h : ∀ h' T oe' vs' oT ts, (∀ b o, b ∉ frs (env :: outer) → b ≠ e → vs[1]? ≠ some (.ref b) → s.heap.get? b = some o → h'.get? b = some o) → (∀ b o, b ∈ frs (env :: outer) → s.heap.get? b = some o → ∃ sl, h'.get? b = some { o with slots := sl }) →
      (∀ b o, vs[1]? = some (.ref b) → s.heap.get? b = some o → ∃ o', h'.get? b = some o') →
      h'.get? e = some oe' → oe'.cls = oe.cls → oe'.dict = oe.dict → oe'.data = .fields vs' → vs'.size = vs.size → vs'[1]? = some (.ref T) → T ≠ e → (s.heap.objs.size ≤ T ∨ vs[1]? = some (.ref T)) →
      h'.get? T = some oT → oT.data = .fields ts → 3 < ts.size → ts[3]? = some (fo.elim Value.none fun f => rawInt f) → Q () { s with heap := h' }) :
    wpAny M A (noteFrame (.ref e) env) (fun _ s2 => wpAny M A (do
      if (← field (.ref e) 1) == .none then unsupported "frame.own-activation:exception-without-traceback"
      setFlight (.ref e) fo) Q E' s2) E s := by
  have ene : e ∉ frs (env :: outer) := fun z => frs_nofields hl z he hd
  have fin : ∀ {h1 : Heap} {oT : Obj} {ts : Array Value} {T : Addr}, h1.get? e = some (oe.mapFields (·.setIfInBounds 1 (.ref T))) → T ≠ e → h1.get? T = some oT → oT.data = .fields ts → 3 < ts.size → (s.heap.objs.size ≤ T ∨ vs[1]? = some (.ref T)) → T ∉ frs (env :: outer) →
      (∀ b o, b ∉ frs (env :: outer) → b ≠ e → vs[1]? ≠ some (.ref b) → s.heap.get? b = some o → b ≠ T → h1.get? b = some o) → (∀ b o, b ∈ frs (env :: outer) → s.heap.get? b = some o → ∃ sl, h1.get? b = some { o with slots := sl }) →
      (∀ b o, vs[1]? = some (.ref b) → s.heap.get? b = some o → ∃ o', h1.get? b = some o') → (∀ b o, s.heap.get? b = some o → b = T → vs[1]? = some (.ref b)) →
      wpAny M A (do
        if (← field (.ref e) 1) == .none then unsupported "frame.own-activation:exception-without-traceback"
        setFlight (.ref e) fo) Q E' { s with heap := h1 } := by
    intro h1 oT ts T g1 ne g2 g3 g4 fr nfT k1 k2 k3 k4
    have d3 := Obj.data_mapFields hd (·.setIfInBounds 1 (Value.ref T))
    have q1 : 1 < vs.size := by omega
    have v1 : (vs.setIfInBounds 1 (Value.ref T))[1]? = some (.ref T) := by simp [q1]
    refine wpAny_bind (wpAny_field g1 d3 v1 ?_)
    rw [if_neg (show ¬ ((Value.ref T == Value.none) = true) from by simp)]
    unfold setFlight
    refine wpAny_bind (wpAny_field g1 d3 v1 ?_)
    rw [if_pos (show (Value.ref T != Value.none) = true from by simp)]
    have fT := Obj.data_mapFields g3 (·.setIfInBounds 3 (fo.elim Value.none fun f => rawInt f))
    refine wpAny_setField g2 g3 g4 (h _ T (oe.mapFields (·.setIfInBounds 1 (.ref T))) (vs.setIfInBounds 1 (.ref T)) _ _ (fun b o hb hbe hb1 z => ?_) (fun b o hb z => ?_) (fun b o hb z => ?_) ?_ (Obj.cls_mapFields _ _) ?_ d3 (by simp) v1 ne fr (Heap.get?_update_self _ g2 (Obj.isFreed_of_fields fT)) fT (by simpa using g4) (by simp [g4]))
    · have hbT : b ≠ T := fun w => hb1 (k4 b o z w)
      rw [Heap.get?_update_other _ _ (Ne.symm hbT)]
      exact k1 b o hb hbe hb1 z hbT
    · obtain ⟨sl, q⟩ := k2 b o hb z
      have hbT : b ≠ T := fun w => nfT (w ▸ hb)
      exact ⟨sl, by rw [Heap.get?_update_other _ _ (Ne.symm hbT)]; exact q⟩
    · obtain ⟨o', q⟩ := k3 b o hb z
      by_cases hbT : b = T
      · exact ⟨_, by rw [hbT]; exact Heap.get?_update_self _ g2 (Obj.isFreed_of_fields fT)⟩
      · exact ⟨o', by rw [Heap.get?_update_other _ _ (Ne.symm hbT)]; exact q⟩
    · rw [Heap.get?_update_other _ _ ne]
      exact g1
    · obtain ⟨oc, od, oda, osl⟩ := oe
      cases oda <;> rfl
  have fresh : ∀ b o, s.heap.get? b = some o → b ≠ s.heap.objs.size := fun b o z => Nat.ne_of_lt (Heap.lt_size z)
  have nfr : s.heap.objs.size ∉ frs (env :: outer) := fun z => by
    obtain ⟨_, o, ho, _⟩ := hl.mem z
    exact absurd (Heap.lt_size ho) (Nat.lt_irrefl _)
  unfold noteFrame
  simp only [hf]
  rcases hT with h1 | ⟨T, oT, ts, h1, hTe, hT, dT, zT, fl⟩
  · refine wpAny_bind (wpAny_field he hd h1 ?_)
    rw [if_neg (by decide)]
    refine note_in hfr hl hf he hd (by omega) fun h' oT ts k1 k2 k3 ne k4 k5 k6 => ?_
    exact fin k3 ne k4 k5 k6 (.inl (Nat.le_refl _)) nfr (fun b o hb hbe _ z _ => k1 b o hb hbe z) k2 (fun b o hb _ => by rw [h1] at hb; cases hb) fun b o z w => absurd w (fresh b o z)
  · refine wpAny_bind (wpAny_field he hd h1 ?_)
    rw [if_pos (show (Value.ref T != Value.none) = true from by simp)]
    have nfT : T ∉ frs (env :: outer) := fun z => frs_nofields hl z hT dT
    rcases fl with fl | fl
    · refine wpAny_bind (wpAny_field hT dT fl ?_)
      rw [if_neg (show ¬ ((Value.none == rawInt L) = true) from by simp [rawInt])]
      refine wpAny_bind (wpAny_setField hT dT zT ?_)
      have fT := Obj.data_mapFields dT (·.setIfInBounds 3 Value.none)
      have oth : ∀ b, b ≠ T → (s.heap.update T (Obj.mapFields (·.setIfInBounds 3 Value.none))).get? b = s.heap.get? b := fun b hb => Heap.get?_update_other _ _ (Ne.symm hb)
      have sz : (s.heap.update T (Obj.mapFields (·.setIfInBounds 3 Value.none))).objs.size = s.heap.objs.size := Heap.size_after_update ..
      have hl2 : (s.heap.update T (Obj.mapFields (·.setIfInBounds 3 Value.none))).FunFrames base (env :: outer) := hl.of_keeps fun b o z nf => ⟨o, (oth b fun w => by subst w; rw [hT] at z; cases z; exact nf ts dT).trans z, rfl⟩
      refine note_in (s := { s with heap := s.heap.update T (Obj.mapFields (·.setIfInBounds 3 Value.none)) }) hfr hl2 hf ((oth e (Ne.symm hTe)).trans he) hd (by omega) fun h' oT' ts' k1 k2 k3 ne k4 k5 k6 => ?_
      dsimp only at k1 k2 k3 ne k4
      rw [sz] at k3 ne k4
      refine fin k3 ne k4 k5 k6 (.inl (Nat.le_refl _)) nfr (fun b o hb hbe hb1 z _ => k1 b o hb hbe ((oth b fun w => hb1 (by rw [w]; exact h1)).trans z)) (fun b o hb z => k2 b o hb ((oth b fun w => nfT (w ▸ hb)).trans z)) (fun b o hb z => ?_) fun b o z w => absurd w (fresh b o z)
      rw [h1] at hb
      cases hb
      exact ⟨_, k1 T _ nfT hTe (Heap.get?_update_self _ hT (Obj.isFreed_of_fields fT))⟩
    · refine wpAny_bind (wpAny_field hT dT fl ?_)
      rw [if_pos (beq_self_eq_true _)]
      refine wpAny_pure ?_
      have same : oe.mapFields (·.setIfInBounds 1 (.ref T)) = oe := by
        obtain ⟨oc, od, oda, osl⟩ := oe
        dsimp only at hd
        subst hd
        have : vs.setIfInBounds 1 (.ref T) = vs := by
          have lt : 1 < vs.size := by omega
          refine Array.ext_getElem? fun i => ?_
          by_cases w : 1 = i
          · subst w; rw [h1]; simp [lt]
          · rw [Array.getElem?_setIfInBounds_ne w]
        show (⟨oc, od, .fields (vs.setIfInBounds 1 (.ref T)), osl⟩ : Obj) = _
        rw [this]
      exact fin (h1 := s.heap) (by rw [same]; exact he) hTe hT dT zT (.inr h1) nfT (fun b o _ _ _ z _ => z) (fun b o _ z => ⟨o.slots, z⟩) (fun b o _ z => ⟨o, z⟩) fun b o z w => by rw [w]; exact h1
end
section
variable {X : Cx} {pins : List (Addr × Obj)} {σ : St} {H : Hp} {s : Shared} {e C : Addr} {od : Option Addr} {fl : Bool}
theorem Inv.stayed {E E' : Value → Shared → Prop} {Q : Unit → Shared → Prop} {A : Around} (I : Inv X pins σ H s) (ea : H e = some (xo e C od fl)) (F : Fly X pins H s.heap e) (hA : A.frames = X.A.frames) (hs : X.stack = X.env :: X.outer) (hfm : X.env.frame = some X.env.locals)
    (h : ∀ s', s'.os = s.os → Inv X pins σ (upd H e (xo e C od true)) s' → Fly X pins (upd H e (xo e C od true)) s'.heap e → (∃ ob vs T oT ts, s'.heap.get? e = some ob ∧ ob.data = .fields vs ∧ vs[1]? = some (.ref T) ∧ T ≠ e ∧ s'.heap.get? T = some oT ∧ oT.data = .fields ts ∧ 3 < ts.size ∧ True) → Q () s') :
    wpAny (model X.prog X.w) A (noteFrame (.ref e) X.env) (fun _ s2 => wpAny (model X.prog X.w) A (do
      if (← field (.ref e) 1) == .none then unsupported "frame.own-activation:exception-without-traceback"
      setFlight (.ref e) X.env.frame) Q E' s2) E s := by
  obtain ⟨ob, vs, he, hd, ht, hv⟩ := F
  obtain ⟨ob', vs', he', hc, hdi, hd', hz, _⟩ := id (I.xc ea)
  rw [he] at he'; cases he'
  rw [hd] at hd'; cases hd'
  have fr : X.A.frames = some (X.env :: X.outer) := by rw [I.ok.frames, hs]
  have st : s.heap.FunFrames X.base (X.env :: X.outer) := by rw [← hs]; exact I.stack
  have hv2 : ∀ T, vs[1]? = some (.ref T) → H T = none ∧ X.s₀.heap.objs.size ≤ T ∧ (∀ p ∈ X.pn ++ pins, p.1 ≠ T) ∧ ∃ oT ts, s.heap.get? T = some oT ∧ oT.data = .fields ts := fun T hT => by
    obtain ⟨a1, a2, a3⟩ := hv T hT
    rcases ht with w | ⟨T', oT, ts, w, _, z, d, _⟩
    · rw [w] at hT; cases hT
    · rw [w] at hT; cases hT; exact ⟨a1, a2, a3, oT, ts, z, d⟩
  refine stay_in (hA.trans fr) st hfm he hd hz ht fun h' T oe' vs' oT ts k1 k2 k3 g1 g2 g3 g4 g5 g6 g7 g8 g9 g10 g11 g12 => ?_
  have g12' : ts[3]? = some (rawInt X.env.locals) := by rw [g12, hfm]; rfl
  have I2 : Inv X pins σ (upd H e (xo e C od true)) { s with heap := h' } := I.flown ea hs hfm hv2 k1 k2 k3 ⟨oe', vs', g1, g2.trans hc, g3.trans hdi, g4, by rw [g5]; exact hz, fun w => nomatch w⟩
  refine h { s with heap := h' } rfl I2 ⟨oe', vs', g1, g4, .inr ⟨T, oT, ts, g6, g7, g9, g10, g11, .inr g12'⟩, fun T2 w => ?_⟩ ⟨oe', vs', T, oT, ts, g1, g4, g6, g7, g9, g10, g11, trivial⟩
  rw [g6] at w
  cases w
  rw [upd_ne g7]
  rcases g8 with w | w
  · refine ⟨I.hok.fresh w, Nat.le_trans I.sz w, fun p hp q => ?_⟩
    obtain ⟨z, _⟩ := I.pin p hp
    exact absurd (Nat.lt_of_lt_of_le (Heap.lt_size z) w) (by rw [q]; exact Nat.lt_irrefl _)
  · obtain ⟨a1, a2, a3, _⟩ := hv2 T w
    exact ⟨a1, a2, a3⟩
end
def tOut (t : TB → TS) : TS := fun D σ H => ∀ b, t b D σ H
theorem ps_out {X : Cx} {Hd : XH} {st : Stmt} {t : TB → TS} (cat : Catches X Hd) (hf : ∀ b : TB, Catches (cxT X b) Hd → PassesOwn (model X.prog X.w) X.A X.env b.xe → PS (cxT X b) st (t b))
    (hst : X.stack = X.env :: X.outer := by rfl) (hfm : X.env.frame = some X.env.locals := by rfl) : PS X st (tOut t) := by
  intro pins s σ H D I h
  let xe : Value → Shared → Prop := fun ev s' => ∃ σ' H' e C od fl, ev = .ref e ∧ Inv X pins σ' H' s' ∧ H' e = some (xo e C od fl) ∧ Fly X pins H' s'.heap e ∧ Hd σ' (.ref e) od (upd H' e (xo e C od true))
  have cat' : Catches (cxT X ⟨pins, xe⟩) Hd := fun pl σ' H' s' e C od fl J ea F q => by
    obtain ⟨ob, vs, h1, h2, h3, h4⟩ := F
    exact ⟨σ', H', e, C, od, fl, rfl, J.untried, ea, ⟨ob, vs, h1, h2, h3, fun T w => ⟨(h4 T w).1, (h4 T w).2.1, fun p hp => (h4 T w).2.2 p (List.mem_append_left _ hp)⟩⟩, q⟩
  have po : PassesOwn (model X.prog X.w) X.A X.env xe := by
    rintro ev s' ⟨σ', H', e, C, od, fl, rfl, J, ea, F, q⟩
    refine J.stayed ea F rfl hst hfm fun s2 os J2 F2 _ => ?_
    exact ⟨σ', _, e, C, od, true, rfl, J2, upd_same, F2, by rw [upd_id (H := upd H' e (xo e C od true)) upd_same]; exact q⟩
  refine wpAny_mono (hf ⟨pins, xe⟩ cat' po [] s σ H D (I.tried xe) (h _)) (fun f s1 z => ?_) fun ev s1 z => ?_
  · cases f with
    | next => obtain ⟨σ', H', J, q⟩ := z; exact ⟨σ', H', J.untried, q⟩
    | brk => obtain ⟨σ', H', J, q⟩ := z; exact ⟨σ', H', J.untried, q⟩
    | cont => obtain ⟨σ', H', J, q⟩ := z; exact ⟨σ', H', J.untried, q⟩
    | ret u => obtain ⟨v, σ', H', J, r, q⟩ := z; exact ⟨v, σ', H', J.untried, r, q⟩
  · obtain ⟨σ', H', e, C, od, fl, rfl, J, ea, F, q⟩ := z
    exact cat pins σ' H' s1 e C od fl J ea F q
end L2

set_option Elab.async false
set_option linter.all false
set_option maxRecDepth 100000
set_option maxHeartbeats 4000000
namespace L2
open PySem PySem.Spec PyProof.Rows
end L2
namespace L2
open PySem PySem.Spec PyProof.Rows
section
variable {X : Cx}
end
end L2

set_option Elab.async false
set_option linter.all false
set_option maxRecDepth 100000
set_option maxHeartbeats 4000000
namespace L2
open PySem PySem.Spec PyProof.Rows
section
variable {X : Cx}
theorem o_neD (hu : X.A.units + 64 < cLine) : OpR X (compareOp .NotEq) (fun x y H Q => ∃ a b kvs lvs, x = .ref a ∧ y = .ref b ∧ Rd H a (.dK kvs) ∧ Rd H b (.dK lvs) ∧ kvs.length = lvs.length ∧
    (∀ k v, valV kvs k = some v → ∃ v', valV lvs k = some v' ∧ ValEq X.K H v v') ∧ Q (.bl false) H) := by
  intro pins s σ H x y v u Q I rx ry h
  obtain ⟨a, b, kvs, lvs, rfl, rfl, ha, hb, hl, hv, q⟩ := h
  cases rx
  cases ry
  obtain ⟨z, hs, vs, rel, dd⟩ := dk_rd I.hok ha
  obtain ⟨z2, hs2, vs2, rel2, dd2⟩ := dk_rd I.hok hb
  have e1 := rel.length
  have e2 := rel2.length
  refine wpAny_richCompare_same_room (op := .NotEq) dd.typeIs dd2.typeIs PySem.F.slot_dict_ne (wpAny_call_entry PySem.F.slot_dict_ne dd.typeIs PySem.F.entry_dict_ne ?_ (PySem.F.args_dict_ne_2 _ _)) (by omega)
  show wpAny _ _ (Builtin.Dict.dictSlotArgs "__ne__" ⟨[.ref a, .ref b], []⟩ >>= _) _ _ _
  refine wpAny_bind ?_
  unfold Builtin.Dict.dictSlotArgs
  refine wpAny_bind (wpAny_notOrdered_dict dd.typeIs ?_)
  show wpAny _ _ (pure (Value.ref a, Value.ref b)) _ _ _
  refine wpAny_pure ?_
  refine wpAny_bind (wpAny_isInstance (T := "dict") (b := true) dd2.typeIs (by rw [isSubtype_type]; kernel_rfl) ?_)
  show wpAny _ _ (Builtin.Dict.samePairs "dict.__ne__" a b >>= _) _ _ _
  refine wpAny_bind (same_pairs hs hs2 dd dd2 (by omega) (fun i k v hi => ?_) ?_)
  · obtain ⟨⟨k', v'⟩, hkv⟩ : ∃ kv, kvs[i]? = some kv := ⟨kvs[i]'(by have := (List.getElem?_eq_some_iff.mp hi).1; omega), List.getElem?_eq_getElem _⟩
    have hr : k' = k ∧ RelV v' v := paired_at rel hkv hi
    obtain ⟨rfl, hrv⟩ := hr
    obtain ⟨w', hw, hq⟩ := hv k' v' (valV_at (by rw [rel.keys]; exact (dd.dictAt.choose_spec).nodup) hkv)
    have hval := rel2.val k'
    rw [hw] at hval
    cases hvv : valueAt vs2 k' with
    | none => rw [hvv] at hval; exact (show False from hval).elim
    | some u' =>
      rw [hvv] at hval
      exact ⟨u', rfl, eqAt_of I (show X.A.units + 1 < cLine by omega) hq hrv hval⟩
  · show wpAny _ _ (ret (.bool false)) _ _ _
    exact wpAny_pure ⟨.bool false, rfl, (fun z => nomatch z), .bl false, H, I, rfl, q⟩
end
end L2
namespace L2
open PySem PySem.Spec PyProof.Rows
section
variable {X : Cx}
end
end L2

set_option Elab.async false
set_option linter.all false
set_option maxRecDepth 100000
set_option maxHeartbeats 4000000
namespace L2
open PySem PySem.Spec PyProof.Rows
section
variable {X : Cx}
end
end L2

set_option Elab.async false
set_option linter.all false
set_option maxRecDepth 100000
namespace L2
open PySem PySem.Spec PyProof.Rows
section
variable {X : Cx}
def rIndexL (K : PySem.W.Frag) : V → List V → Hp → VK → Prop := fun x vs H Q => ∃ p xs y j, x = .ref p ∧ vs = [y] ∧ SqL K H p xs ∧ xs.length ≤ 1000 ∧ flatV y = true ∧ xs.all flatV = true ∧ xs.findIdx? (fun a => eqV a y) = some j ∧ Q (.int (j : Nat)) H
theorem mt_lindex : MtR X "list.index" (rIndexL X.K) := by
  rintro pins s σ H x xs v us Q I rx r ⟨p, ys, y, j, rfl, rfl, hq, hle, fy, fs, hj, q⟩
  obtain rfl : v = Value.ref p := rx
  obtain ⟨u, rfl, ru⟩ := Vals.one r
  obtain ⟨its, rv, ⟨o, n, e, hc, _, hd⟩, hz⟩ := I.list hq
  obtain ⟨oc, od, oda, osl⟩ := o
  dsimp only at hc hd
  subst hc hd
  have hl := rv.length
  obtain ⟨lt, hit, hno⟩ := List.findIdx?_eq_some_iff_getElem.mp hj
  have at_ : ∀ (i : Nat) (hi : i < its.toArray.size) (hi2 : i < ys.length), eqU y its.toArray[i] = eqV ys[i] y := fun i hi hi2 => by
    obtain ⟨w, h1, h2⟩ := rv.get (List.getElem?_eq_getElem hi2)
    have : its.toArray[i] = w := by
      have : its[i]? = some its[i] := List.getElem?_eq_getElem (by simpa using hi)
      rw [this] at h1
      simpa using Option.some.inj h1
    rw [this]
    exact eqU_of h2 (List.all_eq_true.mp fs _ (List.getElem_mem hi2))
  have lt2 : j < its.toArray.size := by simp; omega
  refine call_meets PySem.F.slot_list_index ⟨_, e, rfl⟩ PySem.F.entry_list_index (PySem.F.args_list_index_2 _ _) (SeqAt.list_indexAt p its.toArray n od osl u (eqU y) j lt2 (by omega) (by rw [at_ j lt2 lt]; exact hit) (fun m hm h2 => by rw [at_ m hm (by omega)]; simpa using hno m h2)) ⟨e, fun w hw => mem_eqAt ru fy rv fs w (by simpa using hw), ?_⟩
  exact ⟨.int j, H, I.tok _, ⟨_, rfl⟩, q⟩
theorem m_indexL {o e : Expr} {to : TE} {t : TA} {apos cpos : Pos} (ho : PE X o to) (ha : PA X [e] t) (hbase : attributeBase o "index" X.env (eval o X.env) = eval o X.env := by rfl)
    (hfew : ((backTo cpos (starEach [e] X.env)).all (fun x => !x.1) && (backToKw cpos (keywordEach [] X.env)).all (fun x => x.1.isSome)
      && decide ([e].length + ([] : List Keyword).length + (if ([] : List Keyword).isEmpty then 0 else 1) < 30)) = true := by rfl)
    (hline : (apos.endLine == cpos.line) = true := by rfl) (hs : starEach [e] X.env = (false, eval e X.env) :: starEach [] X.env := by rfl) (hplain : (backTo cpos (starEach [] X.env)).any (·.1) = false := by rfl) :
    PE X (.Call (.Attribute o "index" apos) [e] [] cpos) (tBM X.K "list" (rIndexL X.K) to t) :=
  pe_bm PySem.F.plainAttrs_list PySem.F.slot_list_index PySem.F.type_list_index mt_lindex ho ha hbase hfew hline hs hplain
end
end L2

set_option Elab.async false
set_option linter.all false
set_option maxRecDepth 100000
set_option maxHeartbeats 4000000
namespace K21
open PySem L2
abbrev s_is_number : Stmt := top 24
theorem sc_is_number : FnScope ["thing"] ["thing"] (defScope s_is_number) := ⟨rfl, rfl, rfl, by decide +kernel, rfl, by decide +kernel, by decide +kernel⟩
abbrev s_is_good : Stmt := top 25
theorem sc_is_good : FnScope ["gift", "size"] ["gift", "size"] (defScope s_is_good) := ⟨rfl, rfl, rfl, by decide +kernel, rfl, by decide +kernel, by decide +kernel⟩
abbrev s_given_cell : Stmt := top 26
theorem sc_given_cell : FnScope ["given", "gifts", "gift"] ["given", "gifts"] (defScope s_given_cell) := ⟨rfl, rfl, rfl, by decide +kernel, rfl, by decide +kernel, by decide +kernel⟩
abbrev s_own_cell : Stmt := top 27
theorem sc_own_cell : FnScope ["own"] ["own"] (defScope s_own_cell) := ⟨rfl, rfl, rfl, by decide +kernel, rfl, by decide +kernel, by decide +kernel⟩
abbrev s_cells_of : Stmt := top 28
theorem sc_cells_of : FnScope ["program", "gifts", "cells", "head", "deed", "part"] ["program", "gifts"] (defScope s_cells_of) := ⟨rfl, rfl, rfl, by decide +kernel, rfl, by decide +kernel, by decide +kernel⟩
abbrev s_ends_of : Stmt := top 37
theorem sc_ends_of : FnScope ["program", "cells"] ["program", "cells"] (defScope s_ends_of) := ⟨rfl, rfl, rfl, by decide +kernel, rfl, by decide +kernel, by decide +kernel⟩
abbrev s_run : Stmt := top 38
theorem sc_run : FnScope ["program", "gifts", "state", "book"] ["program", "gifts"] (defScope s_run) := ⟨rfl, rfl, rfl, by decide +kernel, rfl, by decide +kernel, by decide +kernel⟩
abbrev s_law_cell_at : Stmt := top 40
theorem sc_law_cell_at : FnScope ["_law_script", "_law_k"] ["_law_script", "_law_k"] (defScope s_law_cell_at) := ⟨rfl, rfl, rfl, by decide +kernel, rfl, by decide +kernel, by decide +kernel⟩
abbrev s_law_name : Stmt := top 41
theorem sc_law_name : FnScope ["_law_cell", "_law_k", "_law_letters", "_law_way", "_law_words", "_law_size", "_law_at", "_law_stem"] ["_law_cell", "_law_k"] (defScope s_law_name) := ⟨rfl, rfl, rfl, by decide +kernel, rfl, by decide +kernel, by decide +kernel⟩
abbrev s_law_number : Stmt := top 42
theorem sc_law_number : FnScope ["_law_cell"] ["_law_cell"] (defScope s_law_number) := ⟨rfl, rfl, rfl, by decide +kernel, rfl, by decide +kernel, by decide +kernel⟩
abbrev s_law_head : Stmt := top 43
theorem sc_law_head : FnScope ["_law_script", "_law_k", "_law_cell", "_law_name_here", "_law_size"] ["_law_script", "_law_k"] (defScope s_law_head) := ⟨rfl, rfl, rfl, by decide +kernel, rfl, by decide +kernel, by decide +kernel⟩
abbrev s_law_deeds : Stmt := top 44
theorem sc_law_deeds : FnScope ["_law_script", "_law_many", "_law_deeds_here", "_law_at", "_law_k", "_law_j", "_law_parts", "_law_i"] ["_law_script", "_law_many"] (defScope s_law_deeds) := ⟨rfl, rfl, rfl, by decide +kernel, rfl, by decide +kernel, by decide +kernel⟩
abbrev s_law_gift : Stmt := top 45
theorem sc_law_gift : FnScope ["_law_script", "_law_k", "_law_size", "_law_some", "_law_j"] ["_law_script", "_law_k", "_law_size"] (defScope s_law_gift) := ⟨rfl, rfl, rfl, by decide +kernel, rfl, by decide +kernel, by decide +kernel⟩
abbrev s_law_odd : Stmt := top 46
theorem sc_law_odd : FnScope ["_law_cell", "_law_gift_here", "_law_size", "_law_bad", "_law_some", "_law_way"] ["_law_cell", "_law_gift_here", "_law_size"] (defScope s_law_odd) := ⟨rfl, rfl, rfl, by decide +kernel, rfl, by decide +kernel, by decide +kernel⟩
abbrev s_law_same : Stmt := top 47
theorem sc_law_same : FnScope ["_law_found", "_law_due", "_law_name_here", "_law_some"] ["_law_found", "_law_due"] (defScope s_law_same) := ⟨rfl, rfl, rfl, by decide +kernel, rfl, by decide +kernel, by decide +kernel⟩
abbrev s_law_refused : Stmt := top 48
theorem sc_law_refused : FnScope ["_law_program", "_law_gifts", "_law_way", "_law_told", "e"] ["_law_program", "_law_gifts", "_law_way"] (defScope s_law_refused) := ⟨rfl, rfl, rfl, by decide +kernel, rfl, by decide +kernel, by decide +kernel⟩
abbrev s_law_twice : Stmt := top 49
theorem sc_law_twice : FnScope ["_law_program", "_law_gifts", "_law_due", "_law_kept", "_law_name_here", "_law_found"] ["_law_program", "_law_gifts", "_law_due"] (defScope s_law_twice) := ⟨rfl, rfl, rfl, by decide +kernel, rfl, by decide +kernel, by decide +kernel⟩
abbrev s_law_dues : Stmt := top 50
theorem sc_law_dues : FnScope ["_law_heads", "_law_deeds_here", "_law_script", "_law_due", "_law_gifts", "_law_k", "_law_row", "_law_deed", "_law_part"] ["_law_heads", "_law_deeds_here", "_law_script"] (defScope s_law_dues) := ⟨rfl, rfl, rfl, by decide +kernel, rfl, by decide +kernel, by decide +kernel⟩
abbrev s_law : Stmt := top 51
theorem sc_law : FnScope ["_law_script", "_law_many", "_law_heads", "_law_deeds_here", "_law_due", "_law_gifts", "_law_program", "_law_odd_here", "_law_name_here", "_law_bad", "_law_spots", "_law_k", "_law_cell", "_law_way", "_law_owns", "_law_row"] ["_law_script"] (defScope s_law) := ⟨rfl, rfl, rfl, by decide +kernel, rfl, by decide +kernel, by decide +kernel⟩
abbrev s_Row_init : Stmt := inClass (top 7) 0
theorem sc_Row_init : FnScope ["self", "number"] ["self", "number"] (defScope s_Row_init) := ⟨rfl, rfl, rfl, by decide +kernel, rfl, by decide +kernel, by decide +kernel⟩
abbrev s_HandRow_init : Stmt := inClass (top 8) 0
theorem sc_HandRow_init : FnScope ["self", "number", "name", "rank"] ["self", "number", "name", "rank"] (defScope s_HandRow_init) := ⟨rfl, rfl, rfl, by decide +kernel, rfl, by decide +kernel, by decide +kernel⟩
abbrev s_GivenRow_init : Stmt := inClass (top 9) 0
theorem sc_GivenRow_init : FnScope ["self", "number", "name", "rank", "size"] ["self", "number", "name", "rank", "size"] (defScope s_GivenRow_init) := ⟨rfl, rfl, rfl, by decide +kernel, rfl, by decide +kernel, by decide +kernel⟩
abbrev s_OwnRow_init : Stmt := inClass (top 10) 0
theorem sc_OwnRow_init : FnScope ["self", "number", "name", "size"] ["self", "number", "name", "size"] (defScope s_OwnRow_init) := ⟨rfl, rfl, rfl, by decide +kernel, rfl, by decide +kernel, by decide +kernel⟩
abbrev s_LetRow_init : Stmt := inClass (top 11) 0
theorem sc_LetRow_init : FnScope ["self", "number", "name", "rank"] ["self", "number", "name", "rank"] (defScope s_LetRow_init) := ⟨rfl, rfl, rfl, by decide +kernel, rfl, by decide +kernel, by decide +kernel⟩
abbrev s_DeedRow_init : Stmt := inClass (top 20) 0
theorem sc_DeedRow_init : FnScope ["self", "number", "name", "parts", "body"] ["self", "number", "name", "parts", "body"] (defScope s_DeedRow_init) := ⟨rfl, rfl, rfl, by decide +kernel, rfl, by decide +kernel, by decide +kernel⟩
abbrev s_Program_init : Stmt := inClass (top 21) 0
theorem sc_Program_init : FnScope ["self", "heads", "deeds", "main"] ["self", "heads", "deeds", "main"] (defScope s_Program_init) := ⟨rfl, rfl, rfl, by decide +kernel, rfl, by decide +kernel, by decide +kernel⟩
abbrev s_Book_init : Stmt := inClass (top 30) 0
theorem sc_Book_init : FnScope ["self"] ["self"] (defScope s_Book_init) := ⟨rfl, rfl, rfl, by decide +kernel, rfl, by decide +kernel, by decide +kernel⟩
abbrev s_Run_init : Stmt := inClass (top 36) 0
theorem sc_Run_init : FnScope ["self", "program", "cells", "deed"] ["self", "program", "cells"] (defScope s_Run_init) := ⟨rfl, rfl, rfl, by decide +kernel, rfl, by decide +kernel, by decide +kernel⟩
abbrev s_Run_do_rows : Stmt := inClass (top 36) 5
theorem sc_Run_do_rows : FnScope ["self", "rows", "ending", "row"] ["self", "rows"] (defScope s_Run_do_rows) := ⟨rfl, rfl, rfl, by decide +kernel, rfl, by decide +kernel, by decide +kernel⟩
abbrev s_NoGift_init : Stmt := inClass (top 3) 0
theorem sc_NoGift_init : FnScope ["self", "name"] ["self", "name"] (defScope s_NoGift_init) := ⟨rfl, rfl, rfl, by decide +kernel, rfl, by decide +kernel, by decide +kernel⟩
abbrev s_NotAlike_init : Stmt := inClass (top 4) 0
abbrev s_Unknown_init : Stmt := inClass (top 5) 0
structure Adr where
 Row : Addr
 HandRow : Addr
 GivenRow : Addr
 OwnRow : Addr
 LetRow : Addr
 SetRow : Addr
 PutRow : Addr
 SendRow : Addr
 SayRow : Addr
 CallRow : Addr
 LastRow : Addr
 IfRow : Addr
 LoopRow : Addr
 DeedRow : Addr
 Program : Addr
 Book : Addr
 Run : Addr
 HushError : Addr
 NoGift : Addr
 NotAlike : Addr
 Unknown : Addr
structure Txt (K : W.Frag) (mg : Str → Option Value) (A : Adr) : Prop where
 is_number : TopFn K mg "is_number" s_is_number ["thing"]
 is_good : TopFn K mg "is_good" s_is_good ["gift", "size"]
 given_cell : TopFn K mg "given_cell" s_given_cell ["given", "gifts"]
 own_cell : TopFn K mg "own_cell" s_own_cell ["own"]
 cells_of : TopFn K mg "cells_of" s_cells_of ["program", "gifts"]
 ends_of : TopFn K mg "ends_of" s_ends_of ["program", "cells"]
 run : TopFn K mg "run" s_run ["program", "gifts"]
 law_cell_at : TopFn K mg "_law_cell_at" s_law_cell_at ["_law_script", "_law_k"]
 law_name : TopFn K mg "_law_name" s_law_name ["_law_cell", "_law_k"]
 law_number : TopFn K mg "_law_number" s_law_number ["_law_cell"]
 law_head : TopFn K mg "_law_head" s_law_head ["_law_script", "_law_k"]
 law_deeds : TopFn K mg "_law_deeds" s_law_deeds ["_law_script", "_law_many"]
 law_gift : TopFn K mg "_law_gift" s_law_gift ["_law_script", "_law_k", "_law_size"]
 law_odd : TopFn K mg "_law_odd" s_law_odd ["_law_cell", "_law_gift_here", "_law_size"]
 law_same : TopFn K mg "_law_same" s_law_same ["_law_found", "_law_due"]
 law_refused : TopFn K mg "_law_refused" s_law_refused ["_law_program", "_law_gifts", "_law_way"]
 law_twice : TopFn K mg "_law_twice" s_law_twice ["_law_program", "_law_gifts", "_law_due"]
 law_dues : TopFn K mg "_law_dues" s_law_dues ["_law_heads", "_law_deeds_here", "_law_script"]
 z_all : mg "all" = none
 z_bool : mg "bool" = none
 z_dict : mg "dict" = none
 z_int : mg "int" = none
 z_isinstance : mg "isinstance" = none
 z_len : mg "len" = none
 z_list : mg "list" = none
 z_range : mg "range" = none
 z_tuple : mg "tuple" = none
 z_ValueError : mg "ValueError" = none
 c_MOST_NUMBER : ∃ t, mg "MOST_NUMBER" = some (.int 999999999999 t)
 o_Row : OwnC K mg A.Row "Row" [A.Row]
 m_Row_init : MFn K A.Row "__init__" "Row.__init__" s_Row_init ["self", "number"]
 o_HandRow : OwnC K mg A.HandRow "HandRow" [A.HandRow, A.Row]
 m_HandRow_init : MFn K A.HandRow "__init__" "HandRow.__init__" s_HandRow_init ["self", "number", "name", "rank"]
 n_HandRow_name : NoAttr K A.HandRow "name"
 n_HandRow_rank : NoAttr K A.HandRow "rank"
 n_HandRow_number : NoAttr K A.HandRow "number"
 o_GivenRow : OwnC K mg A.GivenRow "GivenRow" [A.GivenRow, A.Row]
 m_GivenRow_init : MFn K A.GivenRow "__init__" "GivenRow.__init__" s_GivenRow_init ["self", "number", "name", "rank", "size"]
 n_GivenRow_name : NoAttr K A.GivenRow "name"
 n_GivenRow_rank : NoAttr K A.GivenRow "rank"
 n_GivenRow_size : NoAttr K A.GivenRow "size"
 n_GivenRow_number : NoAttr K A.GivenRow "number"
 o_OwnRow : OwnC K mg A.OwnRow "OwnRow" [A.OwnRow, A.Row]
 m_OwnRow_init : MFn K A.OwnRow "__init__" "OwnRow.__init__" s_OwnRow_init ["self", "number", "name", "size"]
 n_OwnRow_name : NoAttr K A.OwnRow "name"
 n_OwnRow_size : NoAttr K A.OwnRow "size"
 n_OwnRow_number : NoAttr K A.OwnRow "number"
 o_LetRow : OwnC K mg A.LetRow "LetRow" [A.LetRow, A.Row]
 m_LetRow_init : MFn K A.LetRow "__init__" "LetRow.__init__" s_LetRow_init ["self", "number", "name", "rank"]
 n_LetRow_name : NoAttr K A.LetRow "name"
 n_LetRow_rank : NoAttr K A.LetRow "rank"
 n_LetRow_number : NoAttr K A.LetRow "number"
 o_SetRow : OwnC K mg A.SetRow "SetRow" [A.SetRow, A.Row]
 o_PutRow : OwnC K mg A.PutRow "PutRow" [A.PutRow, A.Row]
 o_SendRow : OwnC K mg A.SendRow "SendRow" [A.SendRow, A.Row]
 o_SayRow : OwnC K mg A.SayRow "SayRow" [A.SayRow, A.Row]
 o_CallRow : OwnC K mg A.CallRow "CallRow" [A.CallRow, A.Row]
 o_LastRow : OwnC K mg A.LastRow "LastRow" [A.LastRow, A.Row]
 o_IfRow : OwnC K mg A.IfRow "IfRow" [A.IfRow, A.Row]
 o_LoopRow : OwnC K mg A.LoopRow "LoopRow" [A.LoopRow, A.Row]
 o_DeedRow : OwnC K mg A.DeedRow "DeedRow" [A.DeedRow, A.Row]
 m_DeedRow_init : MFn K A.DeedRow "__init__" "DeedRow.__init__" s_DeedRow_init ["self", "number", "name", "parts", "body"]
 n_DeedRow_name : NoAttr K A.DeedRow "name"
 n_DeedRow_parts : NoAttr K A.DeedRow "parts"
 n_DeedRow_body : NoAttr K A.DeedRow "body"
 n_DeedRow_number : NoAttr K A.DeedRow "number"
 o_Program : OwnC K mg A.Program "Program" [A.Program]
 m_Program_init : MFn K A.Program "__init__" "Program.__init__" s_Program_init ["self", "heads", "deeds", "main"]
 n_Program_heads : NoAttr K A.Program "heads"
 n_Program_deeds : NoAttr K A.Program "deeds"
 n_Program_main : NoAttr K A.Program "main"
 o_Book : OwnC K mg A.Book "Book" [A.Book]
 m_Book_init : MFn K A.Book "__init__" "Book.__init__" s_Book_init ["self"]
 n_Book_letters : NoAttr K A.Book "letters"
 n_Book_said : NoAttr K A.Book "said"
 n_Book_trace : NoAttr K A.Book "trace"
 n_Book_steps : NoAttr K A.Book "steps"
 n_Book_ends : NoAttr K A.Book "ends"
 o_Run : OwnC K mg A.Run "Run" [A.Run]
 m_Run_init : MFn K A.Run "__init__" "Run.__init__" s_Run_init ["self", "program", "cells"]
 m_Run_do_rows : MFn K A.Run "do_rows" "Run.do_rows" s_Run_do_rows ["self", "rows"]
 n_Run_deeds : NoAttr K A.Run "deeds"
 n_Run_cells : NoAttr K A.Run "cells"
 n_Run_book : NoAttr K A.Run "book"
 xx_HushError : XCl K A.HushError
 xm_HushError : mg "HushError" = some (.ref A.HushError)
 xx_NoGift : XCl K A.NoGift
 xm_NoGift : mg "NoGift" = some (.ref A.NoGift)
 xs_NoGift : W.subIn K (.ref A.NoGift) (.ref A.NoGift) = some true
 xi_NoGift : InitFn K mg A.NoGift "NoGift" "NoGift.__init__" s_NoGift_init ["self", "name"]
 xn_NoGift_name : NoAttr K A.NoGift "name"
 xm_NotAlike : mg "NotAlike" = some (.ref A.NotAlike)
 xm_Unknown : mg "Unknown" = some (.ref A.Unknown)
 of_Row_init : OfC K A.Row "__init__"
 nd : [A.Row, A.HandRow, A.GivenRow, A.OwnRow, A.LetRow, A.SetRow, A.PutRow, A.SendRow, A.SayRow, A.CallRow, A.LastRow, A.IfRow, A.LoopRow, A.DeedRow, A.Program, A.Book, A.Run].Nodup
 ke_na : W.kitOne K (.ref A.NoGift) (.ref A.NotAlike) = some false
 ke_un : W.kitOne K (.ref A.NoGift) (.ref A.Unknown) = some false
 ke_ve : W.kitOne K (.ref A.NoGift) (.type "ValueError") = some true
 ke_hu : W.subIn K (.ref A.NoGift) (.ref A.HushError) = some true
end K21

set_option Elab.async false
set_option linter.all false
set_option maxRecDepth 100000
set_option maxHeartbeats 4000000
namespace K21
open PySem L2
section
variable {P : Program} {w : World} {K : W.Frag} {mg : Str → Option Value} {base : Heap} {A : Adr}
theorem kit_ii : W.kitOne K (.type "int") (.type "int") = some true := by kernel_rfl!
theorem kit_ib : W.kitOne K (.type "int") (.type "bool") = some false := by kernel_rfl!
theorem kit_il : W.kitOne K (.type "int") (.type "list") = some false := by kernel_rfl!
theorem kit_ll : W.kitOne K (.type "list") (.type "list") = some true := by kernel_rfl!
theorem kit_dd : W.kitOne K (.type "dict") (.type "dict") = some true := by kernel_rfl!
theorem kit_nb : W.kitOne K (.type "NoneType") (.type "bool") = some false := by kernel_rfl!
theorem kit_ni : W.kitOne K (.type "NoneType") (.type "int") = some false := by kernel_rfl!
theorem kit_bb : W.kitOne K (.type "bool") (.type "bool") = some true := by kernel_rfl!
theorem kit_sb : W.kitOne K (.type "str") (.type "bool") = some false := by kernel_rfl!
theorem kit_si : W.kitOne K (.type "str") (.type "int") = some false := by kernel_rfl!
theorem kit_lb : W.kitOne K (.type "list") (.type "bool") = some false := by kernel_rfl!
theorem kit_li : W.kitOne K (.type "list") (.type "int") = some false := by kernel_rfl!
theorem kit_tb : W.kitOne K (.type "tuple") (.type "bool") = some false := by kernel_rfl!
theorem kit_ti : W.kitOne K (.type "tuple") (.type "int") = some false := by kernel_rfl!
theorem kit_nl : W.kitOne K (.type "NoneType") (.type "list") = some false := by kernel_rfl!
theorem kit_bl : W.kitOne K (.type "bool") (.type "list") = some false := by kernel_rfl!
theorem kit_sl : W.kitOne K (.type "str") (.type "list") = some false := by kernel_rfl!
theorem kit_tl : W.kitOne K (.type "tuple") (.type "list") = some false := by kernel_rfl!
theorem sz {n : Nat} (h : n ≤ 1000) : n ≤ sizeLine := Nat.le_of_lt (small1000 h)
theorem mod_in (x : Int) {m : Int} (hm : 0 < m) : 0 ≤ x % m ∧ x % m < m := ⟨Int.emod_nonneg x (show m ≠ 0 by omega), Int.emod_lt_of_pos x hm⟩
theorem at_list {α : Type} {xs : List α} {k : Int} (h0 : 0 ≤ k) (h1 : k < (xs.length : Int)) : ∃ x, xs[k.toNat]? = some x ∧ atI xs k = some x := by
 have hk : k.toNat < xs.length := by omega
 have e := atI_nat (xs := xs) (j := k.toNat) (List.getElem?_eq_getElem hk)
 rw [show ((k.toNat : Nat) : Int) = k by omega] at e
 exact ⟨_, List.getElem?_eq_getElem hk, e⟩
theorem at_map {α : Type} (f : α → V) {xs : List α} {k : Int} (h0 : 0 ≤ k) (h1 : k < (xs.length : Int)) : ∃ x, x ∈ xs ∧ xs[k.toNat]? = some x ∧ atI (xs.map f) k = some (f x) := by
 obtain ⟨x, e1, e2⟩ := at_list (xs := xs.map f) h0 (by rw [List.length_map]; exact h1)
 rw [List.getElem?_map] at e1
 cases h : xs[k.toNat]? with
 | none => rw [h] at e1; cases e1
 | some y =>
  rw [h] at e1
  have : f y = x := Option.some.inj e1
  exact ⟨y, List.mem_of_getElem? h, rfl, by rw [this]; exact e2⟩
theorem vint (i j : Int) : decide (V.int i = V.int j) = decide (i = j) := decide_eq_decide.mpr ⟨fun h => V.int.inj h, fun h => by rw [h]⟩
theorem filter_true {α : Type} (xs : List α) : xs.filter (fun _ => true) = xs := List.filter_eq_self.mpr fun _ _ => rfl
def cellI (ns : List Int) (k : Int) : Int := ns.getD k.toNat 0
def sp_cell_at (K : W.Frag) : Sp := fun vs H Q _ => ∃ (a : Addr) (ns : List Int) (k : Int), vs = [.ref a, .int k] ∧ SqL K H a (ns.map V.int) ∧ 0 ≤ k ∧ Q (.int (cellI ns k)) H
theorem h_cell_at (T : Txt K mg A) : Has P w K mg base 1 "_law_cell_at" ["_law_script", "_law_k"] (sp_cell_at K) := by
 refine T.law_cell_at.has sc_law_cell_at (fun vs H Q E h => ?_) (fun f cdv A' outer s H vs Q E hr hu h => ?_)
 ·obtain ⟨a, ns, k, rfl, _⟩ := h
  rfl
 ·obtain ⟨a, ns, k, rfl, hS, h0, q⟩ := h
  refine ⟨_, (pss_cons (ps_if (pt_cmpR (o_lt) (fv 1) (pe_callB c_lenA rfl T.z_len (by boot_by_name) (pa_cons (fv 0) pa_nil)) (nomark _))
   (pss_one (ps_ret (pe_ix (ix_all hu) (fv 0) (fv 1) (fun _ _ => rfl))))
   pss_nil)
  (pss_one (ps_ret (pe_int)))), ?_⟩
  refine Or.inl ⟨_, _, rfl, Or.inl ⟨_, hS, rfl⟩, _, rfl, ?_⟩
  unfold cellI at q
  rw [List.getD_eq_getElem?_getD] at q
  refine ite2 (fun c => ?_) (fun c => ?_)
  ·have c' : k < (((ns.map V.int).length : Nat) : Int) := of_decide_eq_true c
   rw [List.length_map] at c'
   obtain ⟨n, _, e1, e⟩ := at_map V.int h0 c'
   rw [e1] at q
   exact Or.inl ⟨_, _, Or.inl hS, e, q⟩
  ·have c' : ¬ k < (((ns.map V.int).length : Nat) : Int) := fun z => c (decide_eq_true z)
   rw [List.length_map] at c'
   rw [List.getElem?_eq_none (by omega)] at q
   exact q
end
end K21

set_option Elab.async false
set_option linter.all false
set_option maxRecDepth 100000
set_option maxHeartbeats 4000000
namespace K21
open PySem L2
section
variable {P : Program} {w : World} {K : W.Frag} {mg : Str → Option Value} {base : Heap} {A : Adr}
def sp_Row_init (K : W.Frag) (A : Adr) : Sp := fun vs H Q _ => ∃ (x C dx : Addr) (fs : List (Str × V)) (n : V), vs = [.ref x, n] ∧ H x = some (.ins C dx fs) ∧ Cls K C ∧ NoAttr K C "number" ∧ fs.length < 1000 ∧ Q .non (upd H x (.ins C dx (putF "number" n fs)))
theorem h_Row_init_of {C : Addr} (F : MFn K C "__init__" "Row.__init__" s_Row_init ["self", "number"]) : HasM P w K mg base 2 C "__init__" ["self", "number"] (sp_Row_init K A) := by
 refine F.has (k := 1) sc_Row_init (fun vs H Q E h => ?_) (fun f cdv A' outer s H vs Q E hr hu h => ?_)
 ·obtain ⟨x, C, dx, fs, n, rfl, _⟩ := h
  rfl
 ·obtain ⟨x, C, dx, fs, n, rfl, hx, c, na, hl, q⟩ := h
  refine ⟨_, (pss_one (ps_fld (fv 0) (fv 1) rfl)), ?_⟩
  exact ⟨x, C, dx, fs, rfl, hx, c, na, hl, q⟩
theorem h_Row_init (T : Txt K mg A) : HasM P w K mg base 2 A.Row "__init__" ["self", "number"] (sp_Row_init K A) := h_Row_init_of T.m_Row_init
def sp_HandRow_init (K : W.Frag) (A : Adr) : Sp := fun vs H Q _ => ∃ (x dx : Addr) (v_number v_name v_rank : V), vs = [.ref x, v_number, v_name, v_rank] ∧ H x = some (.ins A.HandRow dx []) ∧ ∀ (H' : Hp), But x H H' → H' x = some (.ins A.HandRow dx [("number", v_number), ("name", v_name), ("rank", v_rank)]) → Q .non H'
theorem h_HandRow_init (T : Txt K mg A) : HasM P w K mg base 3 A.HandRow "__init__" ["self", "number", "name", "rank"] (sp_HandRow_init K A) := by
 have D_Row_init := h_Row_init (P := P) (w := w) (base := base) T
 refine T.m_HandRow_init.has (k := 2) sc_HandRow_init (fun vs H Q E h => ?_) (fun f cdv A' outer s H vs Q E hr hu h => ?_)
 ·obtain ⟨x, dx, v_number, v_name, v_rank, rfl, _⟩ := h
  rfl
 ·obtain ⟨x, dx, v_number, v_name, v_rank, rfl, hx, q⟩ := h
  refine ⟨_, (pss_cons (ps_expr (pe_callOf T.o_Row T.of_Row_init D_Row_init hr (pa_cons (fv 0) (pa_cons (fv 1) pa_nil))))
  (pss_cons (ps_fld (fv 0) (fv 2) rfl)
  (pss_one (ps_fld (fv 0) (fv 3) rfl)))), ?_⟩
  have b0 : But x H H := But.refl x H
  refine ⟨x, A.HandRow, dx, [], v_number, rfl, hx, T.o_HandRow.cl, T.n_HandRow_number, by decide, ?_⟩
  generalize hg1 : upd H x _ = H1
  have b1 : But x H H1 := hg1 ▸ b0.trans (But.at x _ _)
  have i1 : H1 x = some (.ins A.HandRow dx [("number", v_number)]) := hg1 ▸ upd_same
  refine ⟨x, A.HandRow, dx, [("number", v_number)], rfl, i1, T.o_HandRow.cl, T.n_HandRow_name, by simp, ?_⟩
  generalize hg2 : upd H1 x _ = H2
  have b2 : But x H H2 := hg2 ▸ b1.trans (But.at x _ _)
  have i2 : H2 x = some (.ins A.HandRow dx [("number", v_number), ("name", v_name)]) := hg2 ▸ upd_same
  refine ⟨x, A.HandRow, dx, [("number", v_number), ("name", v_name)], rfl, i2, T.o_HandRow.cl, T.n_HandRow_rank, by simp, ?_⟩
  generalize hg3 : upd H2 x _ = H3
  have b3 : But x H H3 := hg3 ▸ b2.trans (But.at x _ _)
  have i3 : H3 x = some (.ins A.HandRow dx [("number", v_number), ("name", v_name), ("rank", v_rank)]) := hg3 ▸ upd_same
  exact q H3 b3 i3
theorem mk_HandRow {H : Hp} {x dx : Addr} {R : VK} {v_number v_name v_rank : V} (hx : H x = none) (hd : H dx = none) (q : ∀ (H' : Hp), Same H H' → H' x = some (.ins A.HandRow dx [("number", v_number), ("name", v_name), ("rank", v_rank)]) → R .non H') : sp_HandRow_init K A (.ref x :: ([v_number, v_name, v_rank] ++ [])) (upd (upd H dx (.own x)) x (.ins A.HandRow dx [])) R E0 :=
 ⟨x, dx, _, _, _, rfl, upd_same, fun H' b i => q H' (b.same hx hd) i⟩
def sp_GivenRow_init (K : W.Frag) (A : Adr) : Sp := fun vs H Q _ => ∃ (x dx : Addr) (v_number v_name v_rank v_size : V), vs = [.ref x, v_number, v_name, v_rank, v_size] ∧ H x = some (.ins A.GivenRow dx []) ∧ ∀ (H' : Hp), But x H H' → H' x = some (.ins A.GivenRow dx [("number", v_number), ("name", v_name), ("rank", v_rank), ("size", v_size)]) → Q .non H'
theorem h_GivenRow_init (T : Txt K mg A) : HasM P w K mg base 3 A.GivenRow "__init__" ["self", "number", "name", "rank", "size"] (sp_GivenRow_init K A) := by
 have D_Row_init := h_Row_init (P := P) (w := w) (base := base) T
 refine T.m_GivenRow_init.has (k := 2) sc_GivenRow_init (fun vs H Q E h => ?_) (fun f cdv A' outer s H vs Q E hr hu h => ?_)
 ·obtain ⟨x, dx, v_number, v_name, v_rank, v_size, rfl, _⟩ := h
  rfl
 ·obtain ⟨x, dx, v_number, v_name, v_rank, v_size, rfl, hx, q⟩ := h
  refine ⟨_, (pss_cons (ps_expr (pe_callOf T.o_Row T.of_Row_init D_Row_init hr (pa_cons (fv 0) (pa_cons (fv 1) pa_nil))))
  (pss_cons (ps_fld (fv 0) (fv 2) rfl)
  (pss_cons (ps_fld (fv 0) (fv 3) rfl)
  (pss_one (ps_fld (fv 0) (fv 4) rfl))))), ?_⟩
  have b0 : But x H H := But.refl x H
  refine ⟨x, A.GivenRow, dx, [], v_number, rfl, hx, T.o_GivenRow.cl, T.n_GivenRow_number, by decide, ?_⟩
  generalize hg1 : upd H x _ = H1
  have b1 : But x H H1 := hg1 ▸ b0.trans (But.at x _ _)
  have i1 : H1 x = some (.ins A.GivenRow dx [("number", v_number)]) := hg1 ▸ upd_same
  refine ⟨x, A.GivenRow, dx, [("number", v_number)], rfl, i1, T.o_GivenRow.cl, T.n_GivenRow_name, by simp, ?_⟩
  generalize hg2 : upd H1 x _ = H2
  have b2 : But x H H2 := hg2 ▸ b1.trans (But.at x _ _)
  have i2 : H2 x = some (.ins A.GivenRow dx [("number", v_number), ("name", v_name)]) := hg2 ▸ upd_same
  refine ⟨x, A.GivenRow, dx, [("number", v_number), ("name", v_name)], rfl, i2, T.o_GivenRow.cl, T.n_GivenRow_rank, by simp, ?_⟩
  generalize hg3 : upd H2 x _ = H3
  have b3 : But x H H3 := hg3 ▸ b2.trans (But.at x _ _)
  have i3 : H3 x = some (.ins A.GivenRow dx [("number", v_number), ("name", v_name), ("rank", v_rank)]) := hg3 ▸ upd_same
  refine ⟨x, A.GivenRow, dx, [("number", v_number), ("name", v_name), ("rank", v_rank)], rfl, i3, T.o_GivenRow.cl, T.n_GivenRow_size, by simp, ?_⟩
  generalize hg4 : upd H3 x _ = H4
  have b4 : But x H H4 := hg4 ▸ b3.trans (But.at x _ _)
  have i4 : H4 x = some (.ins A.GivenRow dx [("number", v_number), ("name", v_name), ("rank", v_rank), ("size", v_size)]) := hg4 ▸ upd_same
  exact q H4 b4 i4
theorem mk_GivenRow {H : Hp} {x dx : Addr} {R : VK} {v_number v_name v_rank v_size : V} (hx : H x = none) (hd : H dx = none) (q : ∀ (H' : Hp), Same H H' → H' x = some (.ins A.GivenRow dx [("number", v_number), ("name", v_name), ("rank", v_rank), ("size", v_size)]) → R .non H') : sp_GivenRow_init K A (.ref x :: ([v_number, v_name, v_rank, v_size] ++ [])) (upd (upd H dx (.own x)) x (.ins A.GivenRow dx [])) R E0 :=
 ⟨x, dx, _, _, _, _, rfl, upd_same, fun H' b i => q H' (b.same hx hd) i⟩
def sp_OwnRow_init (K : W.Frag) (A : Adr) : Sp := fun vs H Q _ => ∃ (x dx : Addr) (v_number v_name v_size : V), vs = [.ref x, v_number, v_name, v_size] ∧ H x = some (.ins A.OwnRow dx []) ∧ ∀ (H' : Hp), But x H H' → H' x = some (.ins A.OwnRow dx [("number", v_number), ("name", v_name), ("size", v_size)]) → Q .non H'
theorem h_OwnRow_init (T : Txt K mg A) : HasM P w K mg base 3 A.OwnRow "__init__" ["self", "number", "name", "size"] (sp_OwnRow_init K A) := by
 have D_Row_init := h_Row_init (P := P) (w := w) (base := base) T
 refine T.m_OwnRow_init.has (k := 2) sc_OwnRow_init (fun vs H Q E h => ?_) (fun f cdv A' outer s H vs Q E hr hu h => ?_)
 ·obtain ⟨x, dx, v_number, v_name, v_size, rfl, _⟩ := h
  rfl
 ·obtain ⟨x, dx, v_number, v_name, v_size, rfl, hx, q⟩ := h
  refine ⟨_, (pss_cons (ps_expr (pe_callOf T.o_Row T.of_Row_init D_Row_init hr (pa_cons (fv 0) (pa_cons (fv 1) pa_nil))))
  (pss_cons (ps_fld (fv 0) (fv 2) rfl)
  (pss_one (ps_fld (fv 0) (fv 3) rfl)))), ?_⟩
  have b0 : But x H H := But.refl x H
  refine ⟨x, A.OwnRow, dx, [], v_number, rfl, hx, T.o_OwnRow.cl, T.n_OwnRow_number, by decide, ?_⟩
  generalize hg1 : upd H x _ = H1
  have b1 : But x H H1 := hg1 ▸ b0.trans (But.at x _ _)
  have i1 : H1 x = some (.ins A.OwnRow dx [("number", v_number)]) := hg1 ▸ upd_same
  refine ⟨x, A.OwnRow, dx, [("number", v_number)], rfl, i1, T.o_OwnRow.cl, T.n_OwnRow_name, by simp, ?_⟩
  generalize hg2 : upd H1 x _ = H2
  have b2 : But x H H2 := hg2 ▸ b1.trans (But.at x _ _)
  have i2 : H2 x = some (.ins A.OwnRow dx [("number", v_number), ("name", v_name)]) := hg2 ▸ upd_same
  refine ⟨x, A.OwnRow, dx, [("number", v_number), ("name", v_name)], rfl, i2, T.o_OwnRow.cl, T.n_OwnRow_size, by simp, ?_⟩
  generalize hg3 : upd H2 x _ = H3
  have b3 : But x H H3 := hg3 ▸ b2.trans (But.at x _ _)
  have i3 : H3 x = some (.ins A.OwnRow dx [("number", v_number), ("name", v_name), ("size", v_size)]) := hg3 ▸ upd_same
  exact q H3 b3 i3
theorem mk_OwnRow {H : Hp} {x dx : Addr} {R : VK} {v_number v_name v_size : V} (hx : H x = none) (hd : H dx = none) (q : ∀ (H' : Hp), Same H H' → H' x = some (.ins A.OwnRow dx [("number", v_number), ("name", v_name), ("size", v_size)]) → R .non H') : sp_OwnRow_init K A (.ref x :: ([v_number, v_name, v_size] ++ [])) (upd (upd H dx (.own x)) x (.ins A.OwnRow dx [])) R E0 :=
 ⟨x, dx, _, _, _, rfl, upd_same, fun H' b i => q H' (b.same hx hd) i⟩
def sp_LetRow_init (K : W.Frag) (A : Adr) : Sp := fun vs H Q _ => ∃ (x dx : Addr) (v_number v_name v_rank : V), vs = [.ref x, v_number, v_name, v_rank] ∧ H x = some (.ins A.LetRow dx []) ∧ ∀ (H' : Hp), But x H H' → H' x = some (.ins A.LetRow dx [("number", v_number), ("name", v_name), ("rank", v_rank)]) → Q .non H'
theorem h_LetRow_init (T : Txt K mg A) : HasM P w K mg base 3 A.LetRow "__init__" ["self", "number", "name", "rank"] (sp_LetRow_init K A) := by
 have D_Row_init := h_Row_init (P := P) (w := w) (base := base) T
 refine T.m_LetRow_init.has (k := 2) sc_LetRow_init (fun vs H Q E h => ?_) (fun f cdv A' outer s H vs Q E hr hu h => ?_)
 ·obtain ⟨x, dx, v_number, v_name, v_rank, rfl, _⟩ := h
  rfl
 ·obtain ⟨x, dx, v_number, v_name, v_rank, rfl, hx, q⟩ := h
  refine ⟨_, (pss_cons (ps_expr (pe_callOf T.o_Row T.of_Row_init D_Row_init hr (pa_cons (fv 0) (pa_cons (fv 1) pa_nil))))
  (pss_cons (ps_fld (fv 0) (fv 2) rfl)
  (pss_one (ps_fld (fv 0) (fv 3) rfl)))), ?_⟩
  have b0 : But x H H := But.refl x H
  refine ⟨x, A.LetRow, dx, [], v_number, rfl, hx, T.o_LetRow.cl, T.n_LetRow_number, by decide, ?_⟩
  generalize hg1 : upd H x _ = H1
  have b1 : But x H H1 := hg1 ▸ b0.trans (But.at x _ _)
  have i1 : H1 x = some (.ins A.LetRow dx [("number", v_number)]) := hg1 ▸ upd_same
  refine ⟨x, A.LetRow, dx, [("number", v_number)], rfl, i1, T.o_LetRow.cl, T.n_LetRow_name, by simp, ?_⟩
  generalize hg2 : upd H1 x _ = H2
  have b2 : But x H H2 := hg2 ▸ b1.trans (But.at x _ _)
  have i2 : H2 x = some (.ins A.LetRow dx [("number", v_number), ("name", v_name)]) := hg2 ▸ upd_same
  refine ⟨x, A.LetRow, dx, [("number", v_number), ("name", v_name)], rfl, i2, T.o_LetRow.cl, T.n_LetRow_rank, by simp, ?_⟩
  generalize hg3 : upd H2 x _ = H3
  have b3 : But x H H3 := hg3 ▸ b2.trans (But.at x _ _)
  have i3 : H3 x = some (.ins A.LetRow dx [("number", v_number), ("name", v_name), ("rank", v_rank)]) := hg3 ▸ upd_same
  exact q H3 b3 i3
theorem mk_LetRow {H : Hp} {x dx : Addr} {R : VK} {v_number v_name v_rank : V} (hx : H x = none) (hd : H dx = none) (q : ∀ (H' : Hp), Same H H' → H' x = some (.ins A.LetRow dx [("number", v_number), ("name", v_name), ("rank", v_rank)]) → R .non H') : sp_LetRow_init K A (.ref x :: ([v_number, v_name, v_rank] ++ [])) (upd (upd H dx (.own x)) x (.ins A.LetRow dx [])) R E0 :=
 ⟨x, dx, _, _, _, rfl, upd_same, fun H' b i => q H' (b.same hx hd) i⟩
def sp_DeedRow_init (K : W.Frag) (A : Adr) : Sp := fun vs H Q _ => ∃ (x dx : Addr) (v_number v_name : V) (t_parts : Addr) (l_parts : List V) (t_body : Addr) (l_body : List V), vs = [.ref x, v_number, v_name, .ref t_parts, .ref t_body] ∧ H x = some (.ins A.DeedRow dx []) ∧ SqL K H t_parts l_parts ∧ SqL K H t_body l_body ∧ ∀ (n_parts n_body : Addr) (H' : Hp), H n_parts = none → H n_body = none → n_parts ≠ n_body → But x H H' → H' n_parts = some (.lst l_parts) → H' n_body = some (.lst l_body) → H' x = some (.ins A.DeedRow dx [("number", v_number), ("name", v_name), ("parts", .ref n_parts), ("body", .ref n_body)]) → Q .non H'
theorem h_DeedRow_init (T : Txt K mg A) : HasM P w K mg base 3 A.DeedRow "__init__" ["self", "number", "name", "parts", "body"] (sp_DeedRow_init K A) := by
 have D_Row_init := h_Row_init (P := P) (w := w) (base := base) T
 refine T.m_DeedRow_init.has (k := 2) sc_DeedRow_init (fun vs H Q E h => ?_) (fun f cdv A' outer s H vs Q E hr hu h => ?_)
 ·obtain ⟨x, dx, v_number, v_name, t_parts, l_parts, t_body, l_body, rfl, _⟩ := h
  rfl
 ·obtain ⟨x, dx, v_number, v_name, t_parts, l_parts, t_body, l_body, rfl, hx, s_parts, s_body, q⟩ := h
  refine ⟨_, (pss_cons (ps_expr (pe_callOf T.o_Row T.of_Row_init D_Row_init hr (pa_cons (fv 0) (pa_cons (fv 1) pa_nil))))
  (pss_cons (ps_fld (fv 0) (fv 2) rfl)
  (pss_cons (ps_fld (fv 0) (pe_callTy c_list rfl T.z_list (by boot_by_name) (pa_cons (fv 3) pa_nil)) rfl)
  (pss_one (ps_fld (fv 0) (pe_callTy c_list rfl T.z_list (by boot_by_name) (pa_cons (fv 4) pa_nil)) rfl))))), ?_⟩
  have b0 : But x H H := But.refl x H
  refine ⟨x, A.DeedRow, dx, [], v_number, rfl, hx, T.o_DeedRow.cl, T.n_DeedRow_number, by decide, ?_⟩
  generalize hg1 : upd H x _ = H1
  have b1 : But x H H1 := hg1 ▸ b0.trans (But.at x _ _)
  have i1 : H1 x = some (.ins A.DeedRow dx [("number", v_number)]) := hg1 ▸ upd_same
  refine ⟨x, A.DeedRow, dx, [("number", v_number)], rfl, i1, T.o_DeedRow.cl, T.n_DeedRow_name, by simp, ?_⟩
  generalize hg2 : upd H1 x _ = H2
  have b2 : But x H H2 := hg2 ▸ b1.trans (But.at x _ _)
  have i2 : H2 x = some (.ins A.DeedRow dx [("number", v_number), ("name", v_name)]) := hg2 ▸ upd_same
  refine ⟨_, l_parts, rfl, .inl (SqL.but s_parts hx b2), fun n_parts f_parts => ?_⟩
  have e_parts : n_parts ≠ x := fun z => by rw [z] at f_parts; exact absurd (f_parts.symm.trans i2) (by intro z; cases z)
  have a_parts : H n_parts = none := b2.none e_parts f_parts
  generalize hg3 : upd H2 n_parts (HO.lst l_parts) = H3
  have b3 : But x H H3 := hg3 ▸ b2.trans (But.new f_parts _)
  have i3 : H3 x = some (.ins A.DeedRow dx [("number", v_number), ("name", v_name)]) := hg3 ▸ (upd_ne (Ne.symm e_parts)).trans i2
  have k3_parts : H3 n_parts = some (.lst l_parts) := hg3 ▸ upd_same
  refine ⟨x, A.DeedRow, dx, [("number", v_number), ("name", v_name)], rfl, i3, T.o_DeedRow.cl, T.n_DeedRow_parts, by simp, ?_⟩
  generalize hg4 : upd H3 x _ = H4
  have b4 : But x H H4 := hg4 ▸ b3.trans (But.at x _ _)
  have i4 : H4 x = some (.ins A.DeedRow dx [("number", v_number), ("name", v_name), ("parts", .ref n_parts)]) := hg4 ▸ upd_same
  have k4_parts : H4 n_parts = some (.lst l_parts) := hg4 ▸ (upd_ne e_parts).trans k3_parts
  refine ⟨_, l_body, rfl, .inl (SqL.but s_body hx b4), fun n_body f_body => ?_⟩
  have e_body : n_body ≠ x := fun z => by rw [z] at f_body; exact absurd (f_body.symm.trans i4) (by intro z; cases z)
  have a_body : H n_body = none := b4.none e_body f_body
  have d_parts_body : n_parts ≠ n_body := fun z => by have w := k4_parts; rw [z] at w; exact absurd (f_body.symm.trans w) (by intro w; cases w)
  generalize hg5 : upd H4 n_body (HO.lst l_body) = H5
  have b5 : But x H H5 := hg5 ▸ b4.trans (But.new f_body _)
  have i5 : H5 x = some (.ins A.DeedRow dx [("number", v_number), ("name", v_name), ("parts", .ref n_parts)]) := hg5 ▸ (upd_ne (Ne.symm e_body)).trans i4
  have k5_parts : H5 n_parts = some (.lst l_parts) := hg5 ▸ (upd_ne d_parts_body).trans k4_parts
  have k5_body : H5 n_body = some (.lst l_body) := hg5 ▸ upd_same
  refine ⟨x, A.DeedRow, dx, [("number", v_number), ("name", v_name), ("parts", .ref n_parts)], rfl, i5, T.o_DeedRow.cl, T.n_DeedRow_body, by simp, ?_⟩
  generalize hg6 : upd H5 x _ = H6
  have b6 : But x H H6 := hg6 ▸ b5.trans (But.at x _ _)
  have i6 : H6 x = some (.ins A.DeedRow dx [("number", v_number), ("name", v_name), ("parts", .ref n_parts), ("body", .ref n_body)]) := hg6 ▸ upd_same
  have k6_parts : H6 n_parts = some (.lst l_parts) := hg6 ▸ (upd_ne e_parts).trans k5_parts
  have k6_body : H6 n_body = some (.lst l_body) := hg6 ▸ (upd_ne e_body).trans k5_body
  exact q n_parts n_body H6 a_parts a_body d_parts_body b6 k6_parts k6_body i6
theorem mk_DeedRow {H : Hp} {x dx : Addr} {R : VK} {v_number v_name : V} {t_parts : Addr} {l_parts : List V} (s_parts : SqL K H t_parts l_parts) {t_body : Addr} {l_body : List V} (s_body : SqL K H t_body l_body) (hx : H x = none) (hd : H dx = none) (q : ∀ (n_parts n_body : Addr) (H' : Hp), H n_parts = none → H n_body = none → Same H H' → H' n_parts = some (.lst l_parts) → H' n_body = some (.lst l_body) → H' x = some (.ins A.DeedRow dx [("number", v_number), ("name", v_name), ("parts", .ref n_parts), ("body", .ref n_body)]) → R .non H') : sp_DeedRow_init K A (.ref x :: ([v_number, v_name, .ref t_parts, .ref t_body] ++ [])) (upd (upd H dx (.own x)) x (.ins A.DeedRow dx [])) R E0 :=
 ⟨x, dx, _, _, _, _, _, _, rfl, upd_same, s_parts.new hx hd, s_body.new hx hd, fun n_parts n_body H' f_parts f_body _ b g_parts g_body i => q n_parts n_body H' (new_none hx hd f_parts) (new_none hx hd f_body) (b.same hx hd) g_parts g_body i⟩
def sp_Program_init (K : W.Frag) (A : Adr) : Sp := fun vs H Q _ => ∃ (x dx : Addr) (t_heads : Addr) (l_heads : List V) (t_deeds : Addr) (l_deeds : List V) (t_main : Addr) (l_main : List V), vs = [.ref x, .ref t_heads, .ref t_deeds, .ref t_main] ∧ H x = some (.ins A.Program dx []) ∧ SqL K H t_heads l_heads ∧ SqL K H t_deeds l_deeds ∧ SqL K H t_main l_main ∧ ∀ (n_heads n_deeds n_main : Addr) (H' : Hp), H n_heads = none → H n_deeds = none → H n_main = none → n_heads ≠ n_deeds → n_heads ≠ n_main → n_deeds ≠ n_main → But x H H' → H' n_heads = some (.lst l_heads) → H' n_deeds = some (.lst l_deeds) → H' n_main = some (.lst l_main) → H' x = some (.ins A.Program dx [("heads", .ref n_heads), ("deeds", .ref n_deeds), ("main", .ref n_main)]) → Q .non H'
theorem h_Program_init (T : Txt K mg A) : HasM P w K mg base 3 A.Program "__init__" ["self", "heads", "deeds", "main"] (sp_Program_init K A) := by
 refine T.m_Program_init.has (k := 2) sc_Program_init (fun vs H Q E h => ?_) (fun f cdv A' outer s H vs Q E hr hu h => ?_)
 ·obtain ⟨x, dx, t_heads, l_heads, t_deeds, l_deeds, t_main, l_main, rfl, _⟩ := h
  rfl
 ·obtain ⟨x, dx, t_heads, l_heads, t_deeds, l_deeds, t_main, l_main, rfl, hx, s_heads, s_deeds, s_main, q⟩ := h
  refine ⟨_, (pss_cons (ps_fld (fv 0) (pe_callTy c_list rfl T.z_list (by boot_by_name) (pa_cons (fv 1) pa_nil)) rfl)
  (pss_cons (ps_fld (fv 0) (pe_callTy c_list rfl T.z_list (by boot_by_name) (pa_cons (fv 2) pa_nil)) rfl)
  (pss_one (ps_fld (fv 0) (pe_callTy c_list rfl T.z_list (by boot_by_name) (pa_cons (fv 3) pa_nil)) rfl)))), ?_⟩
  have b0 : But x H H := But.refl x H
  refine ⟨_, l_heads, rfl, .inl (SqL.but s_heads hx b0), fun n_heads f_heads => ?_⟩
  have e_heads : n_heads ≠ x := fun z => by rw [z] at f_heads; exact absurd (f_heads.symm.trans hx) (by intro z; cases z)
  have a_heads : H n_heads = none := b0.none e_heads f_heads
  generalize hg1 : upd H n_heads (HO.lst l_heads) = H1
  have b1 : But x H H1 := hg1 ▸ b0.trans (But.new f_heads _)
  have i1 : H1 x = some (.ins A.Program dx []) := hg1 ▸ (upd_ne (Ne.symm e_heads)).trans hx
  have k1_heads : H1 n_heads = some (.lst l_heads) := hg1 ▸ upd_same
  refine ⟨x, A.Program, dx, [], rfl, i1, T.o_Program.cl, T.n_Program_heads, by simp, ?_⟩
  generalize hg2 : upd H1 x _ = H2
  have b2 : But x H H2 := hg2 ▸ b1.trans (But.at x _ _)
  have i2 : H2 x = some (.ins A.Program dx [("heads", .ref n_heads)]) := hg2 ▸ upd_same
  have k2_heads : H2 n_heads = some (.lst l_heads) := hg2 ▸ (upd_ne e_heads).trans k1_heads
  refine ⟨_, l_deeds, rfl, .inl (SqL.but s_deeds hx b2), fun n_deeds f_deeds => ?_⟩
  have e_deeds : n_deeds ≠ x := fun z => by rw [z] at f_deeds; exact absurd (f_deeds.symm.trans i2) (by intro z; cases z)
  have a_deeds : H n_deeds = none := b2.none e_deeds f_deeds
  have d_heads_deeds : n_heads ≠ n_deeds := fun z => by have w := k2_heads; rw [z] at w; exact absurd (f_deeds.symm.trans w) (by intro w; cases w)
  generalize hg3 : upd H2 n_deeds (HO.lst l_deeds) = H3
  have b3 : But x H H3 := hg3 ▸ b2.trans (But.new f_deeds _)
  have i3 : H3 x = some (.ins A.Program dx [("heads", .ref n_heads)]) := hg3 ▸ (upd_ne (Ne.symm e_deeds)).trans i2
  have k3_heads : H3 n_heads = some (.lst l_heads) := hg3 ▸ (upd_ne d_heads_deeds).trans k2_heads
  have k3_deeds : H3 n_deeds = some (.lst l_deeds) := hg3 ▸ upd_same
  refine ⟨x, A.Program, dx, [("heads", .ref n_heads)], rfl, i3, T.o_Program.cl, T.n_Program_deeds, by simp, ?_⟩
  generalize hg4 : upd H3 x _ = H4
  have b4 : But x H H4 := hg4 ▸ b3.trans (But.at x _ _)
  have i4 : H4 x = some (.ins A.Program dx [("heads", .ref n_heads), ("deeds", .ref n_deeds)]) := hg4 ▸ upd_same
  have k4_heads : H4 n_heads = some (.lst l_heads) := hg4 ▸ (upd_ne e_heads).trans k3_heads
  have k4_deeds : H4 n_deeds = some (.lst l_deeds) := hg4 ▸ (upd_ne e_deeds).trans k3_deeds
  refine ⟨_, l_main, rfl, .inl (SqL.but s_main hx b4), fun n_main f_main => ?_⟩
  have e_main : n_main ≠ x := fun z => by rw [z] at f_main; exact absurd (f_main.symm.trans i4) (by intro z; cases z)
  have a_main : H n_main = none := b4.none e_main f_main
  have d_heads_main : n_heads ≠ n_main := fun z => by have w := k4_heads; rw [z] at w; exact absurd (f_main.symm.trans w) (by intro w; cases w)
  have d_deeds_main : n_deeds ≠ n_main := fun z => by have w := k4_deeds; rw [z] at w; exact absurd (f_main.symm.trans w) (by intro w; cases w)
  generalize hg5 : upd H4 n_main (HO.lst l_main) = H5
  have b5 : But x H H5 := hg5 ▸ b4.trans (But.new f_main _)
  have i5 : H5 x = some (.ins A.Program dx [("heads", .ref n_heads), ("deeds", .ref n_deeds)]) := hg5 ▸ (upd_ne (Ne.symm e_main)).trans i4
  have k5_heads : H5 n_heads = some (.lst l_heads) := hg5 ▸ (upd_ne d_heads_main).trans k4_heads
  have k5_deeds : H5 n_deeds = some (.lst l_deeds) := hg5 ▸ (upd_ne d_deeds_main).trans k4_deeds
  have k5_main : H5 n_main = some (.lst l_main) := hg5 ▸ upd_same
  refine ⟨x, A.Program, dx, [("heads", .ref n_heads), ("deeds", .ref n_deeds)], rfl, i5, T.o_Program.cl, T.n_Program_main, by simp, ?_⟩
  generalize hg6 : upd H5 x _ = H6
  have b6 : But x H H6 := hg6 ▸ b5.trans (But.at x _ _)
  have i6 : H6 x = some (.ins A.Program dx [("heads", .ref n_heads), ("deeds", .ref n_deeds), ("main", .ref n_main)]) := hg6 ▸ upd_same
  have k6_heads : H6 n_heads = some (.lst l_heads) := hg6 ▸ (upd_ne e_heads).trans k5_heads
  have k6_deeds : H6 n_deeds = some (.lst l_deeds) := hg6 ▸ (upd_ne e_deeds).trans k5_deeds
  have k6_main : H6 n_main = some (.lst l_main) := hg6 ▸ (upd_ne e_main).trans k5_main
  exact q n_heads n_deeds n_main H6 a_heads a_deeds a_main d_heads_deeds d_heads_main d_deeds_main b6 k6_heads k6_deeds k6_main i6
theorem mk_Program {H : Hp} {x dx : Addr} {R : VK} {t_heads : Addr} {l_heads : List V} (s_heads : SqL K H t_heads l_heads) {t_deeds : Addr} {l_deeds : List V} (s_deeds : SqL K H t_deeds l_deeds) {t_main : Addr} {l_main : List V} (s_main : SqL K H t_main l_main) (hx : H x = none) (hd : H dx = none) (q : ∀ (n_heads n_deeds n_main : Addr) (H' : Hp), H n_heads = none → H n_deeds = none → H n_main = none → Same H H' → H' n_heads = some (.lst l_heads) → H' n_deeds = some (.lst l_deeds) → H' n_main = some (.lst l_main) → H' x = some (.ins A.Program dx [("heads", .ref n_heads), ("deeds", .ref n_deeds), ("main", .ref n_main)]) → R .non H') : sp_Program_init K A (.ref x :: ([.ref t_heads, .ref t_deeds, .ref t_main] ++ [])) (upd (upd H dx (.own x)) x (.ins A.Program dx [])) R E0 :=
 ⟨x, dx, _, _, _, _, _, _, rfl, upd_same, s_heads.new hx hd, s_deeds.new hx hd, s_main.new hx hd, fun n_heads n_deeds n_main H' f_heads f_deeds f_main _ _ _ b g_heads g_deeds g_main i => q n_heads n_deeds n_main H' (new_none hx hd f_heads) (new_none hx hd f_deeds) (new_none hx hd f_main) (b.same hx hd) g_heads g_deeds g_main i⟩
end
end K21

set_option Elab.async false
set_option linter.all false
set_option maxRecDepth 100000
set_option maxHeartbeats 4000000
namespace K21
open PySem L2
section
variable {P : Program} {w : World} {K : W.Frag} {mg : Str → Option Value} {base : Heap} {A : Adr} {N : Nat → Str}
theorem cat_none {X : Cx} : Catches X (fun _ _ _ _ => False) := fun _ _ _ _ _ _ _ _ _ _ _ h => h.elim
theorem seq_cut {t u : TS} {D : Ends} {σ : St} {H : Hp} (h : ∀ N : St → Hp → Prop, (∀ σ H, u D σ H → N σ H) → t { D with nx := N } σ H) : tSeq t u D σ H := h (u D) fun _ _ z => z
def Dist (N : Nat → Str) : Prop := ∀ i j, i < 25 → j < 25 → N i = N j → i = j
def dk (N : Nat → Str) (idx : List Nat) (f : Nat → V) : List (Key × V) := idx.map fun i => (Sum.inr (N i), f i)
theorem key_ne (D : Dist N) {i j : Nat} (hi : i < 25) (hj : j < 25) (h : i ≠ j) : (Sum.inr (N i) : Key) ≠ Sum.inr (N j) := fun e => h (D i j hi hj (Sum.inr.inj e))
theorem dk_get (D : Dist N) {f : Nat → V} {i : Nat} : ∀ {idx : List Nat}, (∀ j ∈ idx, j < 25) → i ∈ idx → L2.valV (dk N idx f) (.inr (N i)) = some (f i)
 | j :: r, hb, m => by
  by_cases e : j = i
  ·subst e
   unfold L2.valV dk
   rw [List.map_cons, List.find?_cons]
   simp
  ·have hj := hb j List.mem_cons_self
   have m' : i ∈ r := by
    rcases List.mem_cons.mp m with z | z
    ·exact absurd z.symm e
    ·exact z
   have hi := hb i m
   have ih := dk_get D (f := f) (i := i) (idx := r) (fun k hk => hb k (List.mem_cons_of_mem _ hk)) m'
   unfold L2.valV dk at ih ⊢
   rw [List.map_cons, List.find?_cons, decide_eq_false (key_ne D hj hi e)]
   exact ih
theorem dk_no (D : Dist N) {f : Nat → V} {i : Nat} (hi : i < 25) : ∀ {idx : List Nat}, (∀ j ∈ idx, j < 25) → i ∉ idx → L2.valV (dk N idx f) (.inr (N i)) = none
 | [], _, _ => rfl
 | j :: r, hb, m => by
  have e : j ≠ i := fun z => m (by rw [z]; exact List.mem_cons_self)
  have ih := dk_no D (f := f) hi (idx := r) (fun k hk => hb k (List.mem_cons_of_mem _ hk)) (fun z => m (List.mem_cons_of_mem _ z))
  unfold L2.valV dk at ih ⊢
  rw [List.map_cons, List.find?_cons, decide_eq_false (key_ne D (hb j List.mem_cons_self) hi e)]
  exact ih
theorem dk_any (D : Dist N) {f : Nat → V} {i : Nat} (hi : i < 25) {idx : List Nat} (hb : ∀ j ∈ idx, j < 25) : ((dk N idx f).any fun kv => decide (kv.1 = (Sum.inr (N i) : Key))) = decide (i ∈ idx) := by
 unfold dk
 rw [List.any_map]
 by_cases m : i ∈ idx
 ·rw [decide_eq_true m, List.any_eq_true]
  exact ⟨i, m, decide_eq_true rfl⟩
 ·rw [decide_eq_false m, List.any_eq_false]
  intro j hj
  show ¬ decide ((Sum.inr (N j) : Key) = Sum.inr (N i)) = true
  rw [decide_eq_false (key_ne D (hb j hj) hi (fun z => m (z ▸ hj)))]
  exact Bool.false_ne_true
theorem dk_congr {f g : Nat → V} {idx : List Nat} (h : ∀ i ∈ idx, f i = g i) : dk N idx f = dk N idx g := List.map_congr_left fun i hi => by rw [h i hi]
def updF (f : Nat → V) (i : Nat) (v : V) : Nat → V := fun j => if j = i then v else f j
theorem updF_same (f : Nat → V) (i : Nat) (v : V) : updF f i v i = v := if_pos rfl
theorem updF_ne (f : Nat → V) {i j : Nat} (v : V) (h : j ≠ i) : updF f i v j = f j := if_neg h
theorem dk_put (D : Dist N) {f : Nat → V} {i : Nat} {v : V} {idx : List Nat} (hb : ∀ j ∈ idx, j < 25) (m : i ∈ idx) : putK (dk N idx f) (.inr (N i)) v = dk N idx (updF f i v) := by
 unfold putK
 rw [dk_any D (hb i m) hb, decide_eq_true m, if_pos rfl]
 unfold dk
 rw [List.map_map]
 refine List.map_congr_left fun j hj => ?_
 show (if (Sum.inr (N j) : Key) = Sum.inr (N i) then ((Sum.inr (N j) : Key), v) else (Sum.inr (N j), f j)) = (Sum.inr (N j), updF f i v j)
 by_cases e : j = i
 ·rw [e, if_pos rfl, updF_same]
 ·rw [if_neg (key_ne D (hb j hj) (hb i m) e), updF_ne _ _ e]
theorem dk_new (D : Dist N) {f : Nat → V} {i : Nat} {v : V} {idx : List Nat} (hi : i < 25) (hb : ∀ j ∈ idx, j < 25) (m : i ∉ idx) : putK (dk N idx f) (.inr (N i)) v = dk N (idx ++ [i]) (updF f i v) := by
 unfold putK
 rw [dk_any D hi hb, decide_eq_false m, if_neg Bool.false_ne_true]
 unfold dk
 rw [List.map_append, List.map_cons, List.map_nil, updF_same]
 congr 1
 refine List.map_congr_left fun j hj => ?_
 rw [updF_ne _ _ (fun z => m (by rw [← z]; exact hj))]
abbrev LET : Str := "abcdefghijklmnopqrstuvwxyz"
def letC (k : Int) : Nat := (97 + k).toNat
theorem at_let {k : Int} (h0 : 0 ≤ k) (h1 : k < 26) : atI LET.cps.toList k = some (letC k) := by
 obtain ⟨n, rfl⟩ : ∃ n : Nat, k = (n : Int) := ⟨k.toNat, by omega⟩
 have h : ∀ m : Fin 26, atI LET.cps.toList ((m.val : Nat) : Int) = some (letC ((m.val : Nat) : Int)) := by decide +kernel
 exact h ⟨n, by omega⟩
theorem rep_len {z : Str} {n : Int} (hz : z.length ≤ 1) (h1 : n < 1000) : (repS z n).length ≤ 1000 := by
 unfold repS
 split
 ·decide
 ·split
  ·omega
  ·rw [rep_size]
   have : n.toNat * z.length ≤ n.toNat * 1 := Nat.mul_le_mul_left _ hz
   omega
theorem str_app_len (x y : Str) : (x ++ y).length = x.length + y.length := by
 show (x.cps ++ y.cps).size = x.cps.size + y.cps.size
 exact Array.size_append
abbrev WORDS1 : Str := "set put send say by if else end loop most idle last call deed main"
abbrev WORDS2 : Str := "at over rest hand given own let open house closed"
def words1 : List Str := ["set", "put", "send", "say", "by", "if", "else", "end", "loop", "most", "idle", "last", "call", "deed", "main"]
def words2 : List Str := ["at", "over", "rest", "hand", "given", "own", "let", "open", "house", "closed"]
theorem words1_ok : SplitOk WORDS1 " " words1 := ⟨by decide +kernel, by decide +kernel, by decide +kernel, by decide +kernel, by decide, by decide +kernel⟩
theorem words2_ok : SplitOk WORDS2 " " words2 := ⟨by decide +kernel, by decide +kernel, by decide +kernel, by decide +kernel, by decide, by decide +kernel⟩
def words : List Str := words1 ++ words2
theorem words_nodup : words.Nodup := by decide +kernel
theorem words_len : words.length = 25 := rfl
def nmV (c : Int) (k : Nat) : Str :=
 if decide (V.int (c % 4) = V.int 0) = true then words.getD ((c / 4 + k) % 25).toNat Str.empty
 else if decide (V.int (c % 4) = V.int 1) = true then repS ⟨#[letC ((c / 4 + (k : Int) / 8) % 26)]⟩ ((k : Int) % 8 + 1)
 else Txt.slice (repS ⟨#[letC (c / 288 % 26)]⟩ (c / 4 % 8)) none (some (c / 32 % (c / 4 % 8 + 1))) ++ ⟨#[letC ((k + c / 7488) % 26)]⟩ ++ Txt.slice (repS ⟨#[letC (c / 288 % 26)]⟩ (c / 4 % 8)) (some (c / 32 % (c / 4 % 8 + 1))) none
theorem rep_list (c : Nat) {n : Int} (hn : 1 ≤ n) : (repS ⟨#[c]⟩ n).cps.toList = List.replicate n.toNat c := by
 unfold repS
 rw [if_neg (by omega)]
 by_cases e : n = 1
 ·subst e
  rfl
 ·have h1 : ¬ (n == 1 || (⟨#[c]⟩ : Str).length == 0) = true := by
   rw [Bool.or_eq_true]
   rintro (h | h)
   ·exact e (eq_of_beq h)
   ·exact absurd h (show ¬ ((1 : Nat) == 0) = true by decide)
  rw [if_neg h1]
  have f : ∀ (m : Nat) (acc : Array Nat), ((List.replicate m #[c]).foldl (· ++ ·) acc).toList = acc.toList ++ List.replicate m c := by
   intro m
   induction m with
   | zero => intro acc; simp
   | succ m ih =>
    intro acc
    rw [List.replicate_succ, List.foldl_cons, ih, List.replicate_succ]
    simp
  have := f n.toNat #[]
  simpa using this
theorem letC_inj {a b : Int} (ha : 0 ≤ a) (hb : 0 ≤ b) (h : letC a = letC b) : a = b := by
 unfold letC at h
 omega
theorem str_mid {a b : Str} {x y : Nat} (h : a ++ ⟨#[x]⟩ ++ b = a ++ ⟨#[y]⟩ ++ b) : x = y := by
 have h1 : ((a.cps ++ #[x]) ++ b.cps).toList = ((a.cps ++ #[y]) ++ b.cps).toList := congrArg (fun z : Str => z.cps.toList) h
 simp only [Array.toList_append] at h1
 have h2 := List.append_inj_left' h1 rfl
 have h3 := List.append_inj_right h2 rfl
 simpa using h3
theorem nm_dist (c : Int) : Dist (nmV c) := by
 intro i j hi hj e
 unfold nmV at e
 split at e
 ·have m1 := mod_in (c / 4 + i) (show (0 : Int) < 25 by decide)
  have m2 := mod_in (c / 4 + j) (show (0 : Int) < 25 by decide)
  have b1 : ((c / 4 + i) % 25).toNat < words.length := by rw [words_len]; omega
  have b2 : ((c / 4 + j) % 25).toNat < words.length := by rw [words_len]; omega
  rw [List.getD_eq_getElem?_getD, List.getD_eq_getElem?_getD, List.getElem?_eq_getElem b1, List.getElem?_eq_getElem b2] at e
  have := (List.getElem_inj words_nodup).mp (show words[((c / 4 + i) % 25).toNat] = words[((c / 4 + j) % 25).toNat] from e)
  omega
 split at e
 ·have m1 := mod_in (c / 4 + (i : Int) / 8) (show (0 : Int) < 26 by decide)
  have m2 := mod_in (c / 4 + (j : Int) / 8) (show (0 : Int) < 26 by decide)
  have h1 := congrArg (fun z : Str => z.cps.toList) e
  rw [rep_list _ (by omega), rep_list _ (by omega)] at h1
  have h2 := congrArg List.length h1
  rw [List.length_replicate, List.length_replicate] at h2
  obtain ⟨n, hn⟩ : ∃ n, ((i : Int) % 8 + 1).toNat = n + 1 := ⟨((i : Int) % 8).toNat, by omega⟩
  rw [← h2, hn, List.replicate_succ, List.replicate_succ] at h1
  have h3 := letC_inj m1.1 m2.1 (List.cons.inj h1).1
  omega
 ·have m1 := mod_in ((i : Int) + c / 7488) (show (0 : Int) < 26 by decide)
  have m2 := mod_in ((j : Int) + c / 7488) (show (0 : Int) < 26 by decide)
  have h3 := letC_inj m1.1 m2.1 (str_mid e)
  omega
def nb : Str := "nobody"
def NX (c : Int) (k : Nat) : Str := if k = 24 then nb else nmV c k
def sp_name : Sp := fun vs H Q _ => ∃ (c : Int) (k : Nat), vs = [.int c, .int k] ∧ k ≤ 100 ∧ ∀ (H' : Hp), Same H H' → Q (.str (nmV c k)) H'
theorem h_name (T : Txt K mg A) : Has P w K mg base 1 "_law_name" ["_law_cell", "_law_k"] sp_name := by
 refine T.law_name.has sc_law_name (fun vs H Q E h => ?_) (fun f cdv A' outer s H vs Q E hr hu h => ?_)
 ·obtain ⟨c, k, rfl, _⟩ := h
  rfl
 ·obtain ⟨c, k, rfl, h1, q⟩ := h
  unfold nmV at q
  refine ⟨_, (pss_cons (ps_set (i := 2) sc_law_name.nd rfl (Or.inl rfl) (pe_str))
  (pss_cons (ps_set (i := 3) sc_law_name.nd rfl (Or.inl rfl) (pe_op o_mod (fv 0) (pe_int)))
  (pss_cons (ps_if (pt_cmpR (o_eqU hu) (fv 3) (pe_int) (nomark _))
   (pss_cons (ps_set (i := 4) sc_law_name.nd rfl (Or.inl rfl) (m_split (pe_str) (pa_cons (pe_str) pa_nil)))
   (pss_cons (ps_set (i := 4) sc_law_name.nd rfl (Or.inl rfl) (pe_op o_add (fv 4) (m_split (pe_str) (pa_cons (pe_str) pa_nil))))
   (pss_one (ps_ret (pe_ix (ix_all hu) (fv 4) (pe_op o_mod (pe_op o_add (pe_op o_fdiv (fv 0) (pe_int)) (fv 1)) (pe_int)) (fun _ _ => rfl))))))
   pss_nil)
  (pss_cons (ps_if (pt_cmpR (o_eqU hu) (fv 3) (pe_int) (nomark _))
   (pss_one (ps_ret (pe_op o_mulA (pe_ix (ix_all hu) (fv 2) (pe_op o_mod (pe_op o_add (pe_op o_fdiv (fv 0) (pe_int)) (pe_op o_fdiv (fv 1) (pe_int))) (pe_int)) (fun _ _ => rfl)) (pe_op o_add (pe_op o_mod (fv 1) (pe_int)) (pe_int)))))
   pss_nil)
  (pss_cons (ps_set (i := 5) sc_law_name.nd rfl (Or.inl rfl) (pe_op o_mod (pe_op o_fdiv (fv 0) (pe_int)) (pe_int)))
  (pss_cons (ps_set (i := 6) sc_law_name.nd rfl (Or.inl rfl) (pe_op o_mod (pe_op o_fdiv (fv 0) (pe_int)) (pe_op o_add (fv 5) (pe_int))))
  (pss_cons (ps_set (i := 7) sc_law_name.nd rfl (Or.inl rfl) (pe_op o_mulA (pe_ix (ix_all hu) (fv 2) (pe_op o_mod (pe_op o_fdiv (fv 0) (pe_int)) (pe_int)) (fun _ _ => rfl)) (fv 5)))
  (pss_one (ps_ret (pe_op o_add (pe_op o_add (pe_slice sl_all (fv 7) po_none (po_some (fv 6))) (pe_ix (ix_all hu) (fv 2) (pe_op o_mod (pe_op o_add (fv 1) (pe_op o_fdiv (fv 0) (pe_int))) (pe_int)) (fun _ _ => rfl))) (pe_slice sl_all (fv 7) (po_some (fv 6)) po_none))))))))))), ?_⟩
  refine ⟨(by show (0 : Int) < 4; decide), rfl, _, rfl, ?_⟩
  refine ite2 (fun b1 => ?_) (fun b1 => ?_)
  ·rw [if_pos b1] at q
   refine ⟨rfl, _, _, words1, rfl, rfl, words1_ok, fun l hl => ?_⟩
   have s1 := Same.upd hl (HO.lst (words1.map V.str))
   have e1 : (upd H l (HO.lst (words1.map V.str))) l = some (.lst (words1.map V.str)) := upd_same
   generalize upd H l (HO.lst (words1.map V.str)) = H1 at s1 e1 ⊢
   refine ⟨rfl, _, _, words2, rfl, rfl, words2_ok, fun l2 hl2 => ?_⟩
   have s2 := Same.upd hl2 (HO.lst (words2.map V.str))
   have e2 : (upd H1 l2 (HO.lst (words2.map V.str))) l2 = some (.lst (words2.map V.str)) := upd_same
   generalize upd H1 l2 (HO.lst (words2.map V.str)) = H2 at s2 e2 ⊢
   refine ⟨l, l2, _, _, rfl, rfl, s2 _ _ e1, e2, (by decide : 25 ≤ sizeLine), fun l3 hl3 => ?_⟩
   obtain ⟨j0, j1⟩ := mod_in (c / 4 + k) (show (0 : Int) < 25 by decide)
   have hk : ((c / 4 + k) % 25).toNat < words.length := by rw [words_len]; omega
   have e : atI (words1.map V.str ++ words2.map V.str) ((c / 4 + k) % 25) = some (.str (words.getD ((c / 4 + k) % 25).toNat Str.empty)) := by
    rw [← List.map_append]
    have e := atI_nat (xs := words.map V.str) (j := ((c / 4 + k) % 25).toNat) (v := .str (words.getD ((c / 4 + k) % 25).toNat Str.empty)) (by rw [List.getElem?_map, List.getElem?_eq_getElem hk, List.getD_eq_getElem?_getD, List.getElem?_eq_getElem hk]; rfl)
    rw [show ((((c / 4 + k) % 25).toNat : Nat) : Int) = (c / 4 + k) % 25 by omega] at e
    exact e
   exact ⟨⟨by decide, by decide⟩, (by show (0 : Int) < 25; decide), Or.inl ⟨_, _, Or.inl (SqL.of upd_same), e, q _ ((s1.trans s2).trans (Same.upd hl3 _))⟩⟩
  ·rw [if_neg b1] at q
   refine ⟨rfl, _, rfl, ?_⟩
   refine ite2 (fun b2 => ?_) (fun b2 => ?_)
   ·rw [if_pos b2] at q
    obtain ⟨j0, j1⟩ := mod_in (c / 4 + (k : Int) / 8) (show (0 : Int) < 26 by decide)
    obtain ⟨m0, m1⟩ := mod_in (k : Int) (show (0 : Int) < 8 by decide)
    exact ⟨⟨by decide, by decide⟩, ⟨by decide, by decide⟩, (by show (0 : Int) < 26; decide), _, by decide +kernel, at_let j0 j1, (by show (0 : Int) < 8; decide), by omega, by omega, by show 1 ≤ 1000; decide, q _ (Same.refl _)⟩
   ·rw [if_neg b2] at q
    obtain ⟨m0, m1⟩ := mod_in (c / 4) (show (0 : Int) < 8 by decide)
    obtain ⟨j0, j1⟩ := mod_in (c / 288) (show (0 : Int) < 26 by decide)
    obtain ⟨i0, i1⟩ := mod_in (k + c / 7488) (show (0 : Int) < 26 by decide)
    have rl : (repS ⟨#[letC (c / 288 % 26)]⟩ (c / 4 % 8)).length ≤ 1000 := rep_len (Nat.le_refl _) (by omega)
    refine ⟨⟨by decide, by decide⟩, (by show (0 : Int) < 8; decide), ⟨by decide, by decide⟩, (by show (0 : Int) < c / 4 % 8 + 1; omega), ⟨by decide, by decide⟩, (by show (0 : Int) < 26; decide), _, by decide +kernel, at_let j0 j1, by omega, by omega, by show 1 ≤ 1000; decide, ?_⟩
    have s1 := PySem.Txt.slice_le (repS ⟨#[letC (c / 288 % 26)]⟩ (c / 4 % 8)) none (some (c / 32 % (c / 4 % 8 + 1)))
    have s2 := PySem.Txt.slice_le (repS ⟨#[letC (c / 288 % 26)]⟩ (c / 4 % 8)) (some (c / 32 % (c / 4 % 8 + 1))) none
    refine ⟨_, rfl, sz rl, ⟨by decide, by decide⟩, (by show (0 : Int) < 26; decide), _, by decide +kernel, at_let i0 i1, ?_⟩
    refine ⟨Nat.le_trans (m := 1000 + 1) (Nat.add_le_add_right (Nat.le_trans s1 rl) 1) (by decide), _, rfl, sz rl, ?_⟩
    refine ⟨?_, q _ (Same.refl _)⟩
    rw [str_app_len]
    exact Nat.le_trans (m := 1000 + 1 + 1000) (Nat.add_le_add (Nat.add_le_add_right (Nat.le_trans s1 rl) 1) (Nat.le_trans s2 rl)) (by decide)
def ins (idx : List Nat) (i : Nat) : List Nat := if i ∈ idx then idx else idx ++ [i]
theorem ins_lt {idx : List Nat} {i : Nat} (hb : ∀ j ∈ idx, j < 25) (hi : i < 25) : ∀ j ∈ ins idx i, j < 25 := by
 unfold ins
 split
 ·exact hb
 ·intro j hj
  rcases List.mem_append.mp hj with z | z
  ·exact hb j z
  ·rw [List.mem_singleton.mp z]; exact hi
theorem ins_len (idx : List Nat) (i : Nat) : (ins idx i).length ≤ idx.length + 1 := by
 unfold ins
 split
 ·omega
 ·simp
theorem ins_old {idx : List Nat} {i j : Nat} (h : j ∈ ins idx i) : j = i ∨ j ∈ idx := by
 unfold ins at h
 split at h
 ·exact Or.inr h
 ·rcases List.mem_append.mp h with z | z
  ·exact Or.inr z
  ·exact Or.inl (List.mem_singleton.mp z)
theorem ins_me (idx : List Nat) (i : Nat) : i ∈ ins idx i := by
 unfold ins
 split
 ·assumption
 ·simp
theorem ins_mem {idx : List Nat} {i j : Nat} (h : j ∈ idx) : j ∈ ins idx i := by
 unfold ins
 split
 ·exact h
 ·exact List.mem_append_left _ h
theorem dk_ins (D : Dist N) {f : Nat → V} {i : Nat} {v : V} {idx : List Nat} (hi : i < 25) (hb : ∀ j ∈ idx, j < 25) : putK (dk N idx f) (.inr (N i)) v = dk N (ins idx i) (updF f i v) := by
 unfold ins
 by_cases m : i ∈ idx
 ·rw [if_pos m]; exact dk_put D hb m
 ·rw [if_neg m]; exact dk_new D hi hb m
theorem dk_drop (D : Dist N) {f : Nat → V} {i : Nat} {idx : List Nat} (hi : i < 25) (hb : ∀ j ∈ idx, j < 25) : dropK (dk N idx f) (.inr (N i)) = dk N (idx.filter fun j => decide (j ≠ i)) f := by
 unfold dropK dk
 rw [List.filter_map]
 congr 1
 refine List.filter_congr fun j hj => ?_
 show decide ((Sum.inr (N j) : Key) ≠ Sum.inr (N i)) = decide (j ≠ i)
 by_cases e : j = i
 ·rw [e]; simp
 ·rw [decide_eq_true e, decide_eq_true (key_ne D (hb j hj) hi e)]
theorem dk_nodup {f : Nat → V} {idx : List Nat} (h : ((dk N idx f).map (·.1)).Nodup) : idx.Nodup := by
 unfold dk at h
 rw [List.map_map] at h
 exact List.Pairwise.of_map _ (fun a b h e => h (by show (Sum.inr (N a) : Key) = Sum.inr (N b); rw [e])) h
theorem dk_len (f : Nat → V) (idx : List Nat) : (dk N idx f).length = idx.length := List.length_map _
theorem dk_at {f : Nat → V} {idx : List Nat} {i : Nat} {k : Key} {v : V} (h : (dk N idx f)[i]? = some (k, v)) : ∃ j, idx[i]? = some j ∧ k = Sum.inr (N j) ∧ v = f j := by
 unfold dk at h
 rw [List.getElem?_map] at h
 cases e : idx[i]? with
 | none => rw [e] at h; cases h
 | some j =>
  rw [e] at h
  have := Option.some.inj h
  exact ⟨j, rfl, (congrArg Prod.fst this).symm, (congrArg Prod.snd this).symm⟩
theorem dk_val (D : Dist N) {f : Nat → V} {idx : List Nat} (hb : ∀ j ∈ idx, j < 25) {k : Key} {v : V} (h : L2.valV (dk N idx f) k = some v) : ∃ j ∈ idx, k = Sum.inr (N j) ∧ v = f j := by
 unfold L2.valV at h
 cases e : (dk N idx f).find? fun kv => decide (kv.1 = k) with
 | none => rw [e] at h; cases h
 | some kv =>
  rw [e] at h
  have h1 := List.mem_of_find?_eq_some e
  have h2 : kv.1 = k := of_decide_eq_true (List.find?_some (p := fun kv : Key × V => decide (kv.1 = k)) e)
  obtain ⟨j, hj, rfl⟩ := List.mem_map.mp h1
  exact ⟨j, hj, h2.symm, (Option.some.inj h).symm⟩
end
end K21

set_option Elab.async false
set_option linter.all false
set_option maxRecDepth 100000
set_option maxHeartbeats 4000000
namespace K21
open PySem L2
section
variable {P : Program} {w : World} {K : W.Frag} {mg : Str → Option Value} {base : Heap} {A : Adr} {N : Nat → Str}
theorem slice_mem {z : Str} {l u : Option Int} {a : Nat} (h : a ∈ (Txt.slice z l u).cps.toList) : a ∈ z.cps.toList := by
 unfold Txt.slice at h
 split at h
 ·exact h
 ·obtain ⟨i, _, e⟩ := List.mem_filterMap.mp (List.mem_toArray.mp (Array.mem_def.mpr h))
  exact Array.mem_def.mp (Array.mem_of_getElem? e)
theorem rep_mem {c a : Nat} {n : Int} (h : a ∈ (repS ⟨#[c]⟩ n).cps.toList) : a = c := by
 by_cases hn : 1 ≤ n
 ·rw [rep_list c hn] at h
  exact List.eq_of_mem_replicate h
 ·unfold repS at h
  rw [if_pos (by omega)] at h
  cases h
theorem nb_list : nb.cps.toList = [110, 111, 98, 111, 100, 121] := by decide +kernel
theorem nb_not (x : Nat) : ¬ (([110, 111, 98, 111, 100, 121] : List Nat).countP fun a => decide (a ≠ x)) ≤ 1 := by
 simp only [List.countP_cons, List.countP_nil, decide_eq_true_eq]
 repeat' split
 all_goals omega
theorem nm_nb (c : Int) (k : Nat) : nmV c k ≠ nb := by
 unfold nmV
 split
 ·have h : ∀ i : Fin 25, words.getD i.val Str.empty ≠ nb := by decide +kernel
  have := mod_in (c / 4 + k) (show (0 : Int) < 25 by decide)
  exact h ⟨((c / 4 + k) % 25).toNat, by omega⟩
 split
 ·intro e
  have h := congrArg (fun z : Str => z.cps.toList) e
  have m : ∀ a ∈ nb.cps.toList, a = letC ((c / 4 + (k : Int) / 8) % 26) := fun a ha => rep_mem (h ▸ ha)
  rw [nb_list] at m
  have h1 := m 110 (by decide)
  have h2 := m 111 (by decide)
  omega
 ·intro e
  have h := congrArg (fun z : Str => z.cps.toList) e
  rw [nb_list] at h
  refine nb_not (letC (c / 288 % 26)) ?_
  rw [← h]
  show List.countP _ ((((Txt.slice _ _ _).cps ++ #[_]) ++ (Txt.slice _ _ _).cps).toList) ≤ 1
  have z : ∀ (l u : Option Int), ((Txt.slice (repS ⟨#[letC (c / 288 % 26)]⟩ (c / 4 % 8)) l u).cps.toList.countP fun a => decide (a ≠ letC (c / 288 % 26))) = 0 := fun l u => by
   rw [List.countP_eq_zero]
   intro a ha
   rw [rep_mem (slice_mem ha)]
   simp
  rw [Array.toList_append, Array.toList_append, List.countP_append, List.countP_append, z, z]
  have := List.countP_le_length (p := fun a => decide (a ≠ letC (c / 288 % 26))) (l := (#[letC (((k : Int) + c / 7488) % 26)] : Array Nat).toList)
  have : (#[letC (((k : Int) + c / 7488) % 26)] : Array Nat).toList.length = 1 := rfl
  omega
theorem NX_dist (c : Int) : Dist (NX c) := fun i j hi hj e => by
 unfold NX at e
 split at e
 ·split at e
  ·omega
  ·exact absurd e.symm (nm_nb c j)
 ·split at e
  ·exact absurd e (nm_nb c i)
  ·exact nm_dist c i j hi hj e
def In (n : Int) : Prop := 0 ≤ n ∧ n < 1000000000000
inductive Cl where
 | num (n : Int) | lst (rs : List Int)
def Cl.fits (z : Nat) : Cl → Prop
 | .num n => z = 0 ∧ In n
 | .lst rs => rs.length = z ∧ 0 < z ∧ ∀ a ∈ rs, In a
def ClAt (H : Hp) (v : V) : Cl → Prop
 | .num n => v = .int n
 | .lst rs => ∃ a, v = .ref a ∧ H a = some (.lst (rs.map V.int))
def NewAt (H H' : Hp) (v : V) : Cl → Prop
 | .num n => v = .int n
 | .lst rs => ∃ a, v = .ref a ∧ H a = none ∧ H' a = some (.lst (rs.map V.int))
theorem ClAt.same {H H' : Hp} {v : V} {c : Cl} (h : ClAt H v c) (s : Same H H') : ClAt H' v c := by
 cases c with
 | num n => exact h
 | lst rs => obtain ⟨a, e, h⟩ := h; exact ⟨a, e, s _ _ h⟩
theorem NewAt.cl {H H' : Hp} {v : V} {c : Cl} (h : NewAt H H' v c) : ClAt H' v c := by
 cases c with
 | num n => exact h
 | lst rs => obtain ⟨a, e, _, h⟩ := h; exact ⟨a, e, h⟩
theorem NewAt.same {H H' H2 : Hp} {v : V} {c : Cl} (h : NewAt H H' v c) (s : Same H' H2) : NewAt H H2 v c := by
 cases c with
 | num n => exact h
 | lst rs => obtain ⟨a, e, h0, h⟩ := h; exact ⟨a, e, h0, s _ _ h⟩
theorem NewAt.from {H0 H H' : Hp} {v : V} {c : Cl} (s : Same H0 H) (h : NewAt H H' v c) : NewAt H0 H' v c := by
 cases c with
 | num n => exact h
 | lst rs => obtain ⟨a, e, h0, h⟩ := h; exact ⟨a, e, Same.free s h0, h⟩
inductive NumV (H : Hp) : V → Bool → Prop where
 | int (a : Int) : NumV H (.int a) (decide (0 ≤ a) && decide (a ≤ 999999999999))
 | bl (x : Bool) : NumV H (.bl x) false
 | str (x : Str) : NumV H (.str x) false
 | non : NumV H .non false
 | tup {p : Addr} {xs : List V} (h : H p = some (.tup xs)) : NumV H (.ref p) false
 | lst {p : Addr} {xs : List V} (h : H p = some (.lst xs)) : NumV H (.ref p) false
theorem NumV.same {H H' : Hp} {v : V} {b : Bool} (h : NumV H v b) (s : Same H H') : NumV H' v b := by
 cases h with
 | int a => exact .int a
 | bl x => exact .bl x
 | str x => exact .str x
 | non => exact .non
 | tup h => exact .tup (s _ _ h)
 | lst h => exact .lst (s _ _ h)
inductive NoL (H : Hp) : V → Prop where
 | int (a : Int) : NoL H (.int a)
 | bl (x : Bool) : NoL H (.bl x)
 | str (x : Str) : NoL H (.str x)
 | non : NoL H .non
 | tup {p : Addr} {xs : List V} (h : H p = some (.tup xs)) : NoL H (.ref p)
theorem NoL.same {H H' : Hp} {v : V} (h : NoL H v) (s : Same H H') : NoL H' v := by
 cases h with
 | int a => exact .int a
 | bl x => exact .bl x
 | str x => exact .str x
 | non => exact .non
 | tup h => exact .tup (s _ _ h)
def GoodV (H : Hp) (v : V) (z : Nat) (b : Bool) : Prop := (z = 0 ∧ NumV H v b) ∨ (0 < z ∧ ((NoL H v ∧ b = false) ∨ ∃ p xs, v = .ref p ∧ H p = some (.lst xs) ∧ xs.length ≤ 1000 ∧ ((xs.length ≠ z ∧ b = false) ∨ (xs.length = z ∧ ∃ g : V → Bool, (∀ x ∈ xs, NumV H x (g x)) ∧ b = xs.all g))))
theorem GoodV.same {H H' : Hp} {v : V} {z : Nat} {b : Bool} (h : GoodV H v z b) (s : Same H H') : GoodV H' v z b := by
 rcases h with ⟨h0, h⟩ | ⟨h0, ⟨h, hb⟩ | ⟨p, xs, e, h, hl, h2⟩⟩
 ·exact .inl ⟨h0, h.same s⟩
 ·exact .inr ⟨h0, .inl ⟨h.same s, hb⟩⟩
 ·refine .inr ⟨h0, .inr ⟨p, xs, e, s _ _ h, hl, ?_⟩⟩
  rcases h2 with h2 | ⟨h2, g, h3, h4⟩
  ·exact .inl h2
  ·exact .inr ⟨h2, g, fun x hx => (h3 x hx).same s, h4⟩
theorem in_num {H : Hp} {a : Int} (h : In a) : NumV H (.int a) true := by
 have : (decide (0 ≤ a) && decide (a ≤ 999999999999)) = true := by
  rw [decide_eq_true h.1, decide_eq_true (by have := h.2; omega)]
  rfl
 rw [← this]
 exact .int a
theorem good_of {H : Hp} {v : V} {z : Nat} {c : Cl} (h : ClAt H v c) (f : c.fits z) (hz : z ≤ 1000) : GoodV H v z true := by
 cases c with
 | num n =>
  obtain ⟨h0, hn⟩ := f
  rw [show v = .int n from h]
  exact .inl ⟨h0, in_num hn⟩
 | lst rs =>
  obtain ⟨a, rfl, h⟩ := h
  obtain ⟨fl, f0, fi⟩ := f
  refine .inr ⟨f0, .inr ⟨a, _, rfl, h, by rw [List.length_map]; omega, .inr ⟨by rw [List.length_map]; exact fl, fun _ => true, fun x hx => ?_, ?_⟩⟩⟩
  ·obtain ⟨y, hy, rfl⟩ := List.mem_map.mp hx
   exact in_num (fi y hy)
  ·rw [eq_comm, List.all_eq_true]
   exact fun _ _ => rfl
def sp_isnum : Sp := fun vs H Q _ => ∃ v b, vs = [v] ∧ NumV H v b ∧ Q (.bl b) H
theorem h_isnum (T : Txt K mg A) : Has P w K mg base 1 "is_number" ["thing"] sp_isnum := by
 refine T.is_number.has sc_is_number (fun vs H Q E h => ?_) (fun f cdv A outer s H vs Q E hr hu h => ?_)
 ·obtain ⟨v, b, rfl, _⟩ := h
  rfl
 ·obtain ⟨v, b, rfl, h, q⟩ := h
  refine ⟨_, (pss_cons (ps_if (PW.pt (pw_or (pt_tru (pe_callB c_isinst rfl T.z_isinstance (by boot_by_name) (pa_cons (fv 0) (pa_cons (pe_bltn (v := .ty "bool") rfl T.z_bool (by boot_by_name) rfl) pa_nil))) (fun _ => rfl)) (pw_or1 (pt_not (pt_tru (pe_callB c_isinst rfl T.z_isinstance (by boot_by_name) (pa_cons (fv 0) (pa_cons (pe_bltn (v := .ty "int") rfl T.z_int (by boot_by_name) rfl) pa_nil))) (fun _ => rfl))))))
   (pss_one (ps_ret (pe_bl)))
   pss_nil)
  (pss_one (ps_ret (pe_chain (o_le) (o_le) (pe_int) (fv 0) (pe_gint T.c_MOST_NUMBER))))), ?_⟩
  cases h with
  | int a =>
   refine ⟨_, _, _, false, rfl, (fun z => by cases z), .int a, kit_ib, false, rfl, iteF ?_⟩
   refine ⟨_, _, _, true, rfl, (fun z => by cases z), .int a, kit_ii, true, rfl, iteF ?_⟩
   refine ⟨_, rfl, ite2 (fun c => ?_) (fun c => ?_)⟩
   ·have c : decide (0 ≤ a) = true := c
    rw [c, Bool.true_and] at q
    exact q
   ·have c : ¬ decide (0 ≤ a) = true := c
    rw [Bool.eq_false_iff.mpr c, Bool.false_and] at q
    exact q
  | bl x => exact ⟨_, _, _, true, rfl, (fun z => by cases z), .bl x, kit_bb, true, rfl, iteT q⟩
  | str x => exact ⟨_, _, _, false, rfl, (fun z => by cases z), .str x, kit_sb, false, rfl, iteF ⟨_, _, _, false, rfl, (fun z => by cases z), .str x, kit_si, false, rfl, iteT q⟩⟩
  | non => exact ⟨_, _, _, false, rfl, (fun z => by cases z), .non, kit_nb, false, rfl, iteF ⟨_, _, _, false, rfl, (fun z => by cases z), .non, kit_ni, false, rfl, iteT q⟩⟩
  | tup h => exact ⟨_, _, _, false, rfl, (fun z => by cases z), .tup h, kit_tb, false, rfl, iteF ⟨_, _, _, false, rfl, (fun z => by cases z), .tup h, kit_ti, false, rfl, iteT q⟩⟩
  | lst h => exact ⟨_, _, _, false, rfl, (fun z => by cases z), .lst h, kit_lb, false, rfl, iteF ⟨_, _, _, false, rfl, (fun z => by cases z), .lst h, kit_li, false, rfl, iteT q⟩⟩
def sp_isgood : Sp := fun vs H Q _ => ∃ (v : V) (z : Nat) (b : Bool), vs = [v, .int z] ∧ GoodV H v z b ∧ ∀ H', Same H H' → Q (.bl b) H'
theorem h_isgood (T : Txt K mg A) : Has P w K mg base 2 "is_good" ["gift", "size"] sp_isgood := by
 have D_is_number := h_isnum (P := P) (w := w) (base := base) T
 refine T.is_good.has sc_is_good (fun vs H Q E h => ?_) (fun f cdv A outer s H vs Q E hr hu h => ?_)
 ·obtain ⟨v, z, b, rfl, _⟩ := h
  rfl
 ·obtain ⟨v, z, b, rfl, h, q⟩ := h
  refine ⟨_, (pss_cons (ps_if (pt_cmpR (o_eqU hu) (fv 1) (pe_int) (nomark _))
   (pss_one (ps_ret (pe_callD D_is_number hr (pa_cons (fv 0) pa_nil))))
   pss_nil)
  (pss_one (ps_ret (pe_and (pe_callB c_isinst rfl T.z_isinstance (by boot_by_name) (pa_cons (fv 0) (pa_cons (pe_bltn (v := .ty "list") rfl T.z_list (by boot_by_name) rfl) pa_nil))) (pe_and (pe_cmpR (o_eqU hu) (pe_callB c_lenA rfl T.z_len (by boot_by_name) (pa_cons (fv 0) pa_nil)) (fv 1) (nomark _)) (pe_one (pe_callB c_all rfl T.z_all (by boot_by_name) (pa_cons (pe_comp (N := ["thing"]) (own := 1) (fr := []) (CompOk.of (by kernel_rfl!)) rfl (pi_any (fv 0)) (fun b => pg_name (i := 0) (show List.Nodup (["thing"] : List PySem.Str) by decide +kernel) rfl (by first | exact Or.inl rfl | exact Or.inr rfl)) (fun b => pf_nil) (fun b => pe_callD D_is_number hr (pa_cons (fv 0) pa_nil))) pa_nil)))))))), ?_⟩
  rcases h with ⟨rfl, h⟩ | ⟨h0, h⟩
  ·exact ⟨rfl, _, rfl, ite2 (fun c => ⟨v, b, rfl, h, q _ (Same.refl _)⟩) (fun c => absurd rfl c)⟩
  ·refine ⟨rfl, _, rfl, ite2 (fun c => absurd c ?_) (fun c => ?_)⟩
   ·rw [vint, decide_eq_true_iff]
    omega
   rcases h with ⟨h, rfl⟩ | ⟨p, xs, rfl, hS, hl, h2⟩
   ·have q := q _ (Same.refl _)
    cases h with
    | int a => exact ⟨_, _, _, false, rfl, (fun z => by cases z), .int a, kit_il, _, rfl, iteF q⟩
    | bl x => exact ⟨_, _, _, false, rfl, (fun z => by cases z), .bl x, kit_bl, _, rfl, iteF q⟩
    | str x => exact ⟨_, _, _, false, rfl, (fun z => by cases z), .str x, kit_sl, _, rfl, iteF q⟩
    | non => exact ⟨_, _, _, false, rfl, (fun z => by cases z), .non, kit_nl, _, rfl, iteF q⟩
    | tup h => exact ⟨_, _, _, false, rfl, (fun z => by cases z), .tup h, kit_tl, _, rfl, iteF q⟩
   ·refine ⟨_, _, _, true, rfl, (fun z => by cases z), .lst hS, kit_ll, _, rfl, iteT ?_⟩
    refine Or.inl ⟨_, _, rfl, Or.inl ⟨_, SqL.of hS, rfl⟩, rfl, _, rfl, ?_⟩
    rw [vint]
    rcases h2 with ⟨h2, rfl⟩ | ⟨h2, g, h3, rfl⟩
    ·rw [decide_eq_false (show ¬ ((xs.length : Nat) : Int) = (z : Int) by omega)]
     exact iteF (q _ (Same.refl _))
    ·rw [decide_eq_true (show ((xs.length : Nat) : Int) = (z : Int) by omega)]
     refine iteT ?_
     refine Or.inl ⟨⟨_, SqL.of hS⟩, comp_list (K := K) (fun _ => true) (fun x => .bl (g x)) (SqL.of hS) (small1000 hl) (fun b x H2 R _ _ k => k _ (Same.refl _)) (fun b x H2 R hx _ s2 k => ?_) (fun D H2 hD s2 e => ?_)⟩
     ·exact ⟨x, _, rfl, (h3 x hx).same s2, k _ (Same.refl _)⟩
     ·rw [filter_true] at e
      refine ⟨D, xs.map g, rfl, SqL.of (by rw [e, List.map_map]; rfl), ?_⟩
      rw [List.all_map]
      exact q _ s2
end
end K21

set_option Elab.async false
set_option linter.all false
set_option maxRecDepth 100000
set_option maxHeartbeats 4000000
namespace K21
open PySem L2
section
variable {P : Program} {w : World} {K : W.Frag} {mg : Str → Option Value} {base : Heap} {A : Adr} {N : Nat → Str}
theorem Same.out {H0 H : Hp} (s : Same H0 H) {x : Addr} (h : H0 x = none) (u : HO) : Same H0 (upd H x u) := fun a o q => by
 rw [upd_ne (fun z => by rw [z, h] at q; cases q)]
 exact s a o q
def zeros (n : Nat) : List Int := List.replicate n 0
theorem zeros_flat (n : Nat) : (List.replicate n [V.int 0]).flatten = (zeros n).map V.int := by
 unfold zeros
 rw [List.map_replicate]
 induction n with
 | zero => rfl
 | succ n ih => rw [List.replicate_succ, List.replicate_succ, List.flatten_cons, ih]; rfl
def ownCl (z : Nat) : Cl := if z = 0 then .num 0 else .lst (zeros z)
inductive HD where
 | given (rk : Int) (z : Nat) | own (z : Nat) | hand (rk : Int) | lett (rk : Int)
def HD.size : HD → Nat
 | .given _ z => z
 | .own z => z
 | _ => 0
def HeadAt (A : Adr) (N : Nat → Str) (H : Hp) (k : Nat) (v : V) : HD → Prop
 | .given rk z => ∃ a dx m, v = .ref a ∧ H a = some (.ins A.GivenRow dx [("number", .int m), ("name", .str (N k)), ("rank", .int rk), ("size", .int z)])
 | .own z => ∃ a dx m, v = .ref a ∧ H a = some (.ins A.OwnRow dx [("number", .int m), ("name", .str (N k)), ("size", .int z)])
 | .hand rk => ∃ a dx m, v = .ref a ∧ H a = some (.ins A.HandRow dx [("number", .int m), ("name", .str (N k)), ("rank", .int rk)])
 | .lett rk => ∃ a dx m, v = .ref a ∧ H a = some (.ins A.LetRow dx [("number", .int m), ("name", .str (N k)), ("rank", .int rk)])
theorem HeadAt.same {H H' : Hp} {k : Nat} {v : V} {h : HD} (x : HeadAt A N H k v h) (s : Same H H') : HeadAt A N H' k v h := by
 cases h <;> (obtain ⟨a, dx, m, e, h⟩ := x; exact ⟨a, dx, m, e, s _ _ h⟩)
def DeedAt (A : Adr) (N : Nat → Str) (H : Hp) (v : V) (pt : List Nat) : Prop := ∃ a dx pl bl m x, v = .ref a ∧ x < 25 ∧ H a = some (.ins A.DeedRow dx [("number", .int m), ("name", .str (N x)), ("parts", .ref pl), ("body", .ref bl)]) ∧ H pl = some (.lst (pt.map fun i => .str (N i)))
theorem DeedAt.same {H H' : Hp} {v : V} {pt : List Nat} (h : DeedAt A N H v pt) (s : Same H H') : DeedAt A N H' v pt := by
 obtain ⟨a, dx, pl, bl, m, x, e, hx, h1, h2⟩ := h
 exact ⟨a, dx, pl, bl, m, x, e, hx, s _ _ h1, s _ _ h2⟩
structure Pa where
 pa : Addr
 dp : Addr
 hd : Addr
 dd : Addr
 mn : Addr
structure Hds (hd : List HD) (pts : List (List Nat)) : Prop where
 len : hd.length ≤ 12
 zs : ∀ h ∈ hd, h.size ≤ 20
 pl : pts.length ≤ 2
 pt : ∀ pt ∈ pts, pt.length ≤ 4 ∧ ∀ i ∈ pt, hd.length ≤ i ∧ i < 24
def HeadsAt (A : Adr) (N : Nat → Str) (H : Hp) (hv : List V) (hd : List HD) : Prop := hv.length = hd.length ∧ ∀ k v, hv[k]? = some v → ∃ h, hd[k]? = some h ∧ HeadAt A N H k v h
theorem HeadsAt.same {H H' : Hp} {hv : List V} {hd : List HD} (x : HeadsAt A N H hv hd) (s : Same H H') : HeadsAt A N H' hv hd := ⟨x.1, fun k v e => by
 obtain ⟨h, e1, e2⟩ := x.2 k v e
 exact ⟨h, e1, e2.same s⟩⟩
structure PrAt (A : Adr) (N : Nat → Str) (H : Hp) (p : Pa) (hv : List V) (hd : List HD) (dv : List V) (pts : List (List Nat)) : Prop where
 pr : H p.pa = some (.ins A.Program p.dp [("heads", .ref p.hd), ("deeds", .ref p.dd), ("main", .ref p.mn)])
 hl : H p.hd = some (.lst hv)
 dl : H p.dd = some (.lst dv)
 mn : H p.mn = some (.lst [])
 hh : HeadsAt A N H hv hd
 dd : PySem.Paired (DeedAt A N H) dv pts
theorem PrAt.same {H H' : Hp} {p : Pa} {hv dv : List V} {hd : List HD} {pts : List (List Nat)} (R : PrAt A N H p hv hd dv pts) (s : Same H H') : PrAt A N H' p hv hd dv pts := ⟨s _ _ R.pr, s _ _ R.hl, s _ _ R.dl, s _ _ R.mn, R.hh.same s, Paired.mapP R.dd fun _ _ h => h.same s⟩
def look (idx : List Nat) (f : Nat → V) (k : Nat) : V := if k ∈ idx then f k else .non
theorem get_look (D : Dist N) {H : Hp} {d : Addr} {idx : List Nat} {f : Nat → V} (h : Rd H d (.dK (dk N idx f))) (hb : ∀ j ∈ idx, j < 25) {k : Nat} (hk : k < 25) : ∃ o : Option V, DGet H d (.str (N k)) o ∧ o.getD .non = look idx f k := by
 refine ⟨L2.valV (dk N idx f) (.inr (N k)), .inl ⟨_, _, h, rfl, rfl⟩, ?_⟩
 unfold look
 split
 ·rw [dk_get D hb (by assumption)]; rfl
 ·rw [dk_no D hk hb (by assumption)]; rfl
theorem get_in (D : Dist N) {H : Hp} {d : Addr} {idx : List Nat} {f : Nat → V} (h : Rd H d (.dK (dk N idx f))) (hb : ∀ j ∈ idx, j < 25) {k : Nat} (hk : k ∈ idx) : DGet H d (.str (N k)) (some (f k)) := by
 rw [← dk_get D (f := f) hb hk]
 exact .inl ⟨_, _, h, rfl, rfl⟩
def sp_nogift (A : Adr) : Sp := fun vs H Q _ => ∃ e v, vs = [.ref e, v] ∧ H e = some (xo e A.NoGift none false) ∧ ∀ dx H', dx ≠ e → (∀ b o, b ≠ e → H b = some o → H' b = some o) → H' e = some (xo e A.NoGift (some dx) false) → H' dx = some (L2.xf dx [("name", v)]) → Q .non H'
theorem h_nogift (T : Txt K mg A) : HasI P w K mg base 1 "NoGift" A.NoGift ["self", "name"] (sp_nogift A) := by
 refine T.xi_NoGift.has sc_NoGift_init (fun vs H Q E h => ?_) (fun f cdv A' outer s H vs Q E hr hu h => ?_)
 ·obtain ⟨e, v, rfl, _⟩ := h
  rfl
 ·obtain ⟨e, v, rfl, he, q⟩ := h
  refine ⟨_, (pss_one (ps_fldX (fv 0) (fv 1) rfl)), ?_⟩
  refine ⟨e, _, false, rfl, T.xx_NoGift, T.xn_NoGift_name, .inl ⟨he, fun dx h1 h2 => q dx _ h2 (fun b o hb hq => ?_) ?_ upd_same⟩⟩
  ·rw [upd_ne (ne_of_none hq h1), upd_ne hb]; exact hq
  ·rw [upd_ne (Ne.symm h2), upd_same]
def Refused (A : Adr) (E : XK) (H : Hp) (x : Str) : Prop := ∀ e dx H', Same H H' → H' e = some (xo e A.NoGift (some dx) true) → H' dx = some (L2.xf dx [("name", .str x)]) → E (.ref e) (some dx) H'
theorem Refused.same {E : XK} {H H' : Hp} {x : Str} (h : Refused A E H x) (s : Same H H') : Refused A E H' x := fun e dx H2 s2 => h e dx H2 (s.trans s2)
def sp_given (A : Adr) (N : Nat → Str) : Sp := fun vs H Q E => ∃ (a g dx : Addr) (m rk : Int) (k z : Nat) (gi : List Nat) (gf : Nat → V), vs = [.ref a, .ref g] ∧ H a = some (.ins A.GivenRow dx [("number", .int m), ("name", .str (N k)), ("rank", .int rk), ("size", .int z)]) ∧ k < 25 ∧ z ≤ 1000 ∧ Rd H g (.dK (dk N gi gf)) ∧ (∀ j ∈ gi, j < 25) ∧
 ((∃ c, ClAt H (look gi gf k) c ∧ c.fits z ∧ ∀ v H', Same H H' → NewAt H H' v c → Q v H') ∨ (GoodV H (look gi gf k) z false ∧ Refused A E H (N k)))
theorem h_given (T : Txt K mg A) (Di : Dist N) : HasX P w K mg base 3 "given_cell" ["given", "gifts"] (sp_given A N) := by
 have D_is_good := h_isgood (P := P) (w := w) (base := base) T
 have D_NoGift_init := h_nogift (P := P) (w := w) (base := base) T
 refine T.given_cell.hasX sc_given_cell (fun vs H Q E h => ?_) (fun X f cdv A' outer s H vs Q E hX cat hr hu h => ?_)
 ·obtain ⟨a, g, dx, m, rk, k, z, gi, gf, rfl, _⟩ := h
  rfl
 ·subst hX
  obtain ⟨a, g, dx, m, rk, k, z, gi, gf, rfl, ha, hk, hz, G, gb, q⟩ := h
  obtain ⟨o, d1, d2⟩ := get_look Di G gb hk
  refine ⟨_, (pss_cons (ps_set (i := 2) sc_given_cell.nd rfl (Or.inl rfl) (pe_dget1 (Nat.lt_of_le_of_lt (Nat.add_le_add_left (show 1 ≤ 64 by decide) _) hu) (fv 1) (pe_fld (fv 0) rfl) ⟨rfl, rfl, rfl, rfl⟩))
  (pss_cons (ps_if (pt_not (pt_tru (pe_callD D_is_good hr (pa_cons (fv 2) (pa_cons (pe_fld (fv 0) rfl) pa_nil))) (fun _ => rfl)))
   (pss_one (ps_raise cat rfl (pe_makeXD D_NoGift_init hr (pa_cons (pe_fld (fv 0) rfl) pa_nil))))
   pss_nil)
  (pss_one (ps_ret (pe_ifExp (pt_cmpR (o_eqU hu) (pe_fld (fv 0) rfl) (pe_int) (nomark _)) (fv 2) (pe_callTy c_listA rfl T.z_list (by boot_by_name) (pa_cons (fv 2) pa_nil))))))), ?_⟩
  refine ⟨g, rfl, Or.inl ⟨_, G⟩, a, _, dx, _, _, rfl, ha, T.o_GivenRow.cl, T.n_GivenRow_name, rfl, _, d1, ?_⟩
  show tSeq _ _ _ _ _
  generalize hv : look gi gf k = v at q d2
  rcases q with ⟨c, hc, fit, q⟩ | ⟨bad, q⟩
  ·refine ⟨a, _, dx, _, _, rfl, ha, T.o_GivenRow.cl, T.n_GivenRow_size, rfl, v, z, true, by rw [← d2]; rfl, good_of hc fit hz, fun H2 s2 => ⟨true, rfl, iteF ?_⟩⟩
   refine ⟨a, _, dx, _, _, rfl, s2 _ _ ha, T.o_GivenRow.cl, T.n_GivenRow_size, rfl, rfl, _, rfl, ?_⟩
   rw [vint]
   cases c with
   | num n =>
    rw [decide_eq_true (show (z : Int) = 0 by have := fit.1; omega)]
    refine iteT ?_
    show Q (o.getD .non) H2
    rw [d2]
    exact q _ _ s2 hc
   | lst rs =>
    rw [decide_eq_false (show ¬ (z : Int) = 0 by have := fit.2.1; omega)]
    refine iteF ?_
    obtain ⟨l, rfl, hl⟩ := hc
    refine Or.inl ⟨l, _, by show [o.getD .non] = _; rw [d2], Or.inl (SqL.of (s2 _ _ hl)), fun p hp => ?_⟩
    exact q _ _ (s2.trans (Same.upd hp _)) ⟨p, rfl, Same.free s2 hp, upd_same⟩
  ·refine ⟨a, _, dx, _, _, rfl, ha, T.o_GivenRow.cl, T.n_GivenRow_size, rfl, v, z, false, by rw [← d2]; rfl, bad, fun H1 s1 => ⟨false, rfl, iteT ?_⟩⟩
   refine ⟨a, _, dx, _, _, rfl, s1 _ _ ha, T.o_GivenRow.cl, T.n_GivenRow_name, rfl, by show 1 ≤ sizeLine; decide, fun e he => ?_⟩
   refine ⟨e, _, rfl, upd_same, fun dd H2 ne s2 e2 d2 => ⟨rfl, e, A.NoGift, some dd, rfl, e2, T.xx_NoGift, ?_⟩⟩
   refine q e dd _ (fun b o hb => ?_) upd_same ?_
   ·have hb := s1 _ _ hb
    have hbe : b ≠ e := ne_of_none hb he
    rw [upd_ne hbe]
    exact s2 b o hbe (by rw [upd_ne hbe]; exact hb)
   ·rw [upd_ne ne]; exact d2
def sp_own (A : Adr) (N : Nat → Str) : Sp := fun vs H Q _ => ∃ (a dx : Addr) (m : Int) (n k : Nat), vs = [.ref a] ∧ n ≤ 1000 ∧ H a = some (.ins A.OwnRow dx [("number", .int m), ("name", .str (N k)), ("size", .int n)]) ∧ ∀ v H', Same H H' → NewAt H H' v (ownCl n) → Q v H'
theorem h_own (T : Txt K mg A) : Has P w K mg base 1 "own_cell" ["own"] (sp_own A N) := by
 refine T.own_cell.has sc_own_cell (fun vs H Q E h => ?_) (fun f cdv A' outer s H vs Q E hr hu h => ?_)
 ·obtain ⟨a, dx, m, n, k, rfl, _⟩ := h
  rfl
 ·obtain ⟨a, dx, m, n, k, rfl, hn, ha, q⟩ := h
  refine ⟨_, (pss_one (ps_ret (pe_ifExp (pt_cmpR (o_eqU hu) (pe_fld (fv 0) rfl) (pe_int) (nomark _)) (pe_int) (pe_op o_mulA (pe_lst (pa_cons (pe_int) pa_nil)) (pe_fld (fv 0) rfl))))), ?_⟩
  refine ⟨a, _, dx, _, _, rfl, ha, T.o_OwnRow.cl, T.n_OwnRow_size, rfl, rfl, _, rfl, ite2 (fun c => ?_) (fun c => ?_)⟩
  ·rw [vint, decide_eq_true_iff] at c
   refine q _ _ (Same.refl _) ?_
   unfold ownCl
   rw [if_pos (by omega)]
   rfl
  ·rw [vint, decide_eq_true_iff] at c
   refine ⟨by show 1 ≤ sizeLine; decide, fun l hl => ?_⟩
   have s1 := Same.upd hl (HO.lst [V.int 0])
   have e1 : (upd H l (HO.lst [V.int 0])) l = some (.lst [V.int 0]) := upd_same
   generalize upd H l (HO.lst [V.int 0]) = H1 at s1 e1 ⊢
   refine ⟨a, _, dx, _, _, rfl, s1 _ _ ha, T.o_OwnRow.cl, T.n_OwnRow_size, rfl, _, e1, by omega, by omega, ?_, fun p hp => ?_⟩
   ·show 1 * ((n : Int)).toNat ≤ sizeLine
    have := sz hn
    omega
   ·refine q _ _ (s1.trans (Same.upd hp _)) ?_
    unfold ownCl
    rw [if_neg (by omega)]
    refine ⟨p, rfl, Same.free s1 hp, ?_⟩
    rw [upd_same, ← zeros_flat]
    rfl
end
end K21

set_option Elab.async false
set_option linter.all false
set_option maxRecDepth 100000
set_option maxHeartbeats 4000000
namespace K21
open PySem L2
section
variable {P : Program} {w : World} {K : W.Frag} {mg : Str → Option Value} {base : Heap} {A : Adr} {N : Nat → Str}
theorem paired_get {α β : Type} {F : α → β → Prop} : ∀ {l₁ : List α} {l₂ : List β} {i : Nat} {a : α}, PySem.Paired F l₁ l₂ → l₁[i]? = some a → ∃ b, l₂[i]? = some b ∧ F a b
 | _, _, _, _, .nil, h => by cases h
 | _, _, 0, _, .cons h _, e => by cases e; exact ⟨_, rfl, h⟩
 | _, _, i + 1, _, .cons _ r, e => by
  have : ∃ b, _ := paired_get (i := i) r e
  exact this
theorem fold_step {α β : Type} (f : β → α → β) (b : β) {xs : List α} {i : Nat} {x : α} (h : xs[i]? = some x) : (xs.take (i + 1)).foldl f b = f ((xs.take i).foldl f b) x := by
 rw [List.take_add_one, h, List.foldl_append]
 rfl
abbrev cls (A : Adr) : List Addr := [A.Row, A.HandRow, A.GivenRow, A.OwnRow, A.LetRow, A.SetRow, A.PutRow, A.SendRow, A.SayRow, A.CallRow, A.LastRow, A.IfRow, A.LoopRow, A.DeedRow, A.Program, A.Book, A.Run]
theorem cls_ne (T : Txt K mg A) (i j : Nat) (hi : i < 17 := by decide) (hj : j < 17 := by decide) (h : i ≠ j := by decide) : (cls A)[i]'hi ≠ (cls A)[j]'hj := fun e => h ((List.getElem_inj T.nd).mp e)
theorem kitT {C : Addr} {x : Str} {up : List Addr} (O : OwnC K mg C x up) (hs : C ∈ up := by exact List.mem_cons_self) : W.kitOne K (.ref C) (.ref C) = some true := by
 rw [O.kit O hs, decide_eq_true hs]
theorem kitF {C D R : Addr} {x y : Str} {vp : List Addr} (O : OwnC K mg C x [C, R]) (U : OwnC K mg D y vp) (h1 : D ≠ C) (h2 : D ≠ R) : W.kitOne K (.ref C) (.ref D) = some false := by
 rw [O.kit U List.mem_cons_self, decide_eq_false]
 intro m
 rcases List.mem_cons.mp m with e | m
 ·exact h1 e
 ·rcases List.mem_cons.mp m with e | m
  ·exact h2 e
  ·cases m
def isC (hd : List HD) (k : Nat) : Bool := match hd[k]? with
 | some (.given _ _) => true
 | some (.own _) => true
 | _ => false
def cellOf (hd : List HD) (G : Nat → Cl) (k : Nat) : Cl := match hd[k]? with
 | some (.given _ _) => G k
 | some (.own z) => ownCl z
 | _ => .num 0
def hstep (hd : List HD) (l : List Nat) (k : Nat) : List Nat := if isC hd k = true then ins l k else l
def hix (hd : List HD) (i : Nat) : List Nat := (List.range i).foldl (hstep hd) []
theorem hix_succ (hd : List HD) (i : Nat) : hix hd (i + 1) = hstep hd (hix hd i) i := by
 unfold hix
 rw [List.range_succ, List.foldl_append]
 rfl
def cix (hd : List HD) (pts : List (List Nat)) (i : Nat) : List Nat := (pts.take i).foldl (fun l pt => pt.foldl ins l) (hix hd hd.length)
def CellsD (N : Nat → Str) (H H2 : Hp) (c : Addr) (l : List Nat) (D : Nat → Cl) : Prop := ∃ f, H2 c = some (.dK (dk N l f)) ∧ (∀ j ∈ l, j < 25) ∧ ∀ j ∈ l, NewAt H H2 (f j) (D j)
theorem NewAt.up {H H2 : Hp} {v : V} {k : Cl} {c : Addr} {kv : List (Key × V)} (h : NewAt H H2 v k) (hc : H2 c = some (.dK kv)) (o : HO) : NewAt H (upd H2 c o) v k := by
 cases k with
 | num n => exact h
 | lst rs =>
  obtain ⟨a, e, h0, h1⟩ := h
  exact ⟨a, e, h0, by rw [upd_ne (fun z => by rw [z, hc] at h1; cases h1)]; exact h1⟩
theorem CellsD.put (Di : Dist N) {H H2 H3 : Hp} {c : Addr} {l : List Nat} {D : Nat → Cl} (h : CellsD N H H2 c l D) (s : Same H2 H3) {i : Nat} (hi : i < 25) (hl : l.length ≤ 100) {v : V} (hv : NewAt H H3 v (D i)) :
  ∃ o, DPut H3 c (.str (N i)) v (upd H3 c o) ∧ CellsD N H (upd H3 c o) c (ins l i) D := by
 obtain ⟨f, hc, hb, hn⟩ := h
 have hc3 := s _ _ hc
 refine ⟨_, DPut.k (k := .inr (N i)) hc3 (small1000 (by rw [dk_len]; omega)), updF f i v, by rw [upd_same, dk_ins Di hi hb], ins_lt hb hi, fun j hj => ?_⟩
 by_cases e : j = i
 ·rw [e, updF_same]
  exact hv.up hc3 _
 ·rw [updF_ne _ _ e]
  rcases ins_old hj with z | z
  ·exact absurd z e
  ·exact ((hn j z).same s).up hc3 _
def AllGood (H : Hp) (hd : List HD) (gi : List Nat) (gf : Nat → V) (G : Nat → Cl) (m : Nat) : Prop := ∀ k rk z, k < m → hd[k]? = some (.given rk z) → ClAt H (look gi gf k) (G k) ∧ (G k).fits z
def sp_cells (A : Adr) (N : Nat → Str) : Sp := fun vs H Q E => ∃ (p : Pa) (hv dv : List V) (hd : List HD) (pts : List (List Nat)) (g : Addr) (gi : List Nat) (gf : Nat → V) (G : Nat → Cl) (j : Nat), vs = [.ref p.pa, .ref g] ∧ PrAt A N H p hv hd dv pts ∧ Hds hd pts ∧ Rd H g (.dK (dk N gi gf)) ∧ (∀ i ∈ gi, i < 25) ∧ AllGood H hd gi gf G j ∧
 ((j = hd.length ∧ ∀ c H', Same H H' → H c = none → CellsD N H H' c (cix hd pts pts.length) (cellOf hd G) → Q (.ref c) H') ∨ (∃ rk z, hd[j]? = some (.given rk z) ∧ GoodV H (look gi gf j) z false ∧ Refused A E H (N j)))
theorem h_cells (T : Txt K mg A) (Di : Dist N) : HasX P w K mg base 4 "cells_of" ["program", "gifts"] (sp_cells A N) := by
 have D_given_cell := h_given (P := P) (w := w) (base := base) T Di
 have D_own_cell := h_own (P := P) (w := w) (base := base) (N := N) T
 refine T.cells_of.hasX sc_cells_of (fun vs H Q E h => ?_) (fun X f cdv A' outer s H vs Q E hX cat hr hu h => ?_)
 ·obtain ⟨p, hv, dv, hd, pts, g, gi, gf, G, j, rfl, _⟩ := h
  rfl
 ·subst hX
  obtain ⟨p, hv, dv, hd, pts, g, gi, gf, G, j, rfl, R, ok, hg, gb, good, q⟩ := h
  refine ⟨_, (pss_cons (ps_set (i := 2) sc_cells_of.nd rfl (Or.inl rfl) (pe_dnewK))
  (pss_cons (ps_out cat fun b cat hp => ps_for (X := cxT (cxOf (CXE P w) P w K mg base ["program", "gifts", "cells", "head", "deed", "part"] "cells_of" (defScope s_cells_of) f cdv A' outer s H E) b) hp rfl (pi_any (pe_fld (fv 0) rfl)) (pg_name (i := 3) sc_cells_of.nd rfl (by first | exact Or.inl rfl | exact Or.inr rfl))
   (pss_one (ps_if (pt_tru (pe_callB c_isinst rfl T.z_isinstance (by boot_by_name) (pa_cons (fv 3) (pa_cons (pe_gtup T.o_GivenRow.mg) pa_nil))) (fun _ => rfl))
    (pss_one (ps_asg (pe_callX cat D_given_cell hr (pa_cons (fv 3) (pa_cons (fv 1) pa_nil))) (pg_sub (fv 2) (pe_fld (fv 3) rfl) (st_all hu set_list))))
    (pss_one (ps_if (pt_tru (pe_callB c_isinst rfl T.z_isinstance (by boot_by_name) (pa_cons (fv 3) (pa_cons (pe_gtup T.o_OwnRow.mg) pa_nil))) (fun _ => rfl))
     (pss_one (ps_asg (pe_callD D_own_cell hr (pa_cons (fv 3) pa_nil)) (pg_sub (fv 2) (pe_fld (fv 3) rfl) (st_all hu set_list))))
     pss_nil)))))
  (pss_cons (ps_out cat fun b cat hp => ps_for (X := cxT (cxOf (CXE P w) P w K mg base ["program", "gifts", "cells", "head", "deed", "part"] "cells_of" (defScope s_cells_of) f cdv A' outer s H E) b) hp rfl (pi_any (pe_fld (fv 0) rfl)) (pg_name (i := 4) sc_cells_of.nd rfl (by first | exact Or.inl rfl | exact Or.inr rfl))
   (pss_one (ps_for hp rfl (pi_any (pe_fld (fv 4) rfl)) (pg_name (i := 5) sc_cells_of.nd rfl (by first | exact Or.inl rfl | exact Or.inr rfl))
    (pss_one (ps_asg (pe_int) (pg_sub (fv 2) (fv 5) (st_all hu set_list)))))))
  (pss_one (ps_ret (fv 2)))))), ?_⟩
  refine fun c hc => ?_
  have s1 := Same.upd hc (HO.dK [])
  have e1 : (upd H c (HO.dK [])) c = some (.dK []) := upd_same
  generalize upd H c (HO.dK []) = H1 at s1 e1 ⊢
  have rd : ∀ {H2 : Hp}, Same H H2 → Rd H2 g (.dK (dk N gi gf)) := fun s2 => by
   rcases hg with h | ⟨o, h⟩
   ·exact .inl (s2 _ _ h)
   ·exact .inr ⟨o, s2 _ _ h⟩
  refine fun _ => ⟨p.pa, _, p.dp, _, _, rfl, s1 _ _ R.pr, T.o_Program.cl, T.n_Program_heads, rfl, Or.inl ⟨⟨_, SqL.of (s1 _ _ R.hl)⟩, ?_⟩⟩
  refine for_list (K := K) (xs := hv) (fun i σ H2 => Same H H2 ∧ i ≤ j ∧ CellsD N H H2 c (hix hd i) (cellOf hd G) ∧ (hix hd i).length ≤ i ∧ ∃ v, σ = [some (.ref p.pa), some (.ref g), some (.ref c), v, none, none]) ⟨s1, Nat.zero_le _, ⟨fun _ => .non, e1, fun _ h => (by cases h), fun _ h => (by cases h)⟩, Nat.le_refl 0, none, rfl⟩ (fun i σ H2 _ h => SqL.of (h.1 _ _ R.hl)) ?_ ?_
  ·rintro i v σ H2 hvi ⟨s2, ij, C, Cl, z, rfl⟩
   obtain ⟨h, hdi, hat⟩ := R.hh.2 i v hvi
   have hat := hat.same s2
   have il : i < hd.length := (List.getElem?_eq_some_iff.mp hdi).1
   have len := ok.len
   have zs := ok.zs h (List.mem_of_getElem? hdi)
   have i25 : i < 25 := by omega
   rw [hix_succ]
   unfold hstep isC
   rw [hdi]
   have nj : ∀ (hne : ∀ rk z, h ≠ .given rk z), i + 1 ≤ j := fun hne => by
    rcases Nat.lt_or_ge i j with z | z
    ·exact z
    ·have : j = i := by omega
     subst this
     rcases q with ⟨q, _⟩ | ⟨rk, z, q, _⟩
     ·omega
     ·rw [hdi] at q
      exact absurd (Option.some.inj q) (hne rk z)
   cases h with
   | given rk z =>
    obtain ⟨a, dx, m, rfl, ha⟩ := hat
    refine ⟨_, _, _, true, rfl, (fun z => by cases z), T.o_GivenRow.tyOf ha, kitT T.o_GivenRow, true, rfl, iteT ?_⟩
    rcases Nat.lt_or_ge i j with lt | ge
    ·obtain ⟨g1, g2⟩ := good i rk z lt hdi
     refine ⟨a, g, dx, m, rk, i, z, gi, gf, rfl, ha, i25, Nat.le_trans zs (by decide), rd s2, gb, Or.inl ⟨G i, g1.same s2, g2, fun v H3 s3 hn => ?_⟩⟩
     have hn : NewAt H H3 v (cellOf hd G i) := by
      unfold cellOf
      rw [hdi]
      exact hn.from s2
     obtain ⟨o, dp, C'⟩ := C.put Di s3 i25 (by omega) hn
     refine ⟨a, _, dx, _, _, rfl, s3 _ _ ha, T.o_GivenRow.cl, T.n_GivenRow_name, rfl, _, dp, ?_⟩
     exact ⟨Same.out (s2.trans s3) hc _, lt, C', by have := ins_len (hix hd i) i; show (ins (hix hd i) i).length ≤ _; omega, _, rfl⟩
    ·have : j = i := by omega
     subst this
     rcases q with ⟨q, _⟩ | ⟨rk', z', q, bad, rf⟩
     ·omega
     ·rw [hdi] at q
      cases q
      exact ⟨a, g, dx, m, rk, j, z, gi, gf, rfl, ha, i25, Nat.le_trans zs (by decide), rd s2, gb, Or.inr ⟨bad.same s2, rf.same s2⟩⟩
   | own z =>
    obtain ⟨a, dx, m, rfl, ha⟩ := hat
    refine ⟨_, _, _, false, rfl, (fun z => by cases z), T.o_OwnRow.tyOf ha, kitF T.o_OwnRow T.o_GivenRow (cls_ne T 2 3) (cls_ne T 2 0), false, rfl, iteF ?_⟩
    refine ⟨_, _, _, true, rfl, (fun z => by cases z), T.o_OwnRow.tyOf ha, kitT T.o_OwnRow, true, rfl, iteT ?_⟩
    refine ⟨a, dx, m, z, i, rfl, Nat.le_trans zs (by decide), ha, fun v H3 s3 hn => ?_⟩
    have hn : NewAt H H3 v (cellOf hd G i) := by
     unfold cellOf
     rw [hdi]
     exact hn.from s2
    obtain ⟨o, dp, C'⟩ := C.put Di s3 i25 (by omega) hn
    refine ⟨a, _, dx, _, _, rfl, s3 _ _ ha, T.o_OwnRow.cl, T.n_OwnRow_name, rfl, _, dp, ?_⟩
    exact ⟨Same.out (s2.trans s3) hc _, nj (fun _ _ z => by cases z), C', by have := ins_len (hix hd i) i; show (ins (hix hd i) i).length ≤ _; omega, _, rfl⟩
   | hand rk =>
    obtain ⟨a, dx, m, rfl, ha⟩ := hat
    refine ⟨_, _, _, false, rfl, (fun z => by cases z), T.o_HandRow.tyOf ha, kitF T.o_HandRow T.o_GivenRow (cls_ne T 2 1) (cls_ne T 2 0), false, rfl, iteF ?_⟩
    refine ⟨_, _, _, false, rfl, (fun z => by cases z), T.o_HandRow.tyOf ha, kitF T.o_HandRow T.o_OwnRow (cls_ne T 3 1) (cls_ne T 3 0), false, rfl, iteF ?_⟩
    exact ⟨s2, nj (fun _ _ z => by cases z), C, Nat.le_succ_of_le Cl, _, rfl⟩
   | lett rk =>
    obtain ⟨a, dx, m, rfl, ha⟩ := hat
    refine ⟨_, _, _, false, rfl, (fun z => by cases z), T.o_LetRow.tyOf ha, kitF T.o_LetRow T.o_GivenRow (cls_ne T 2 4) (cls_ne T 2 0), false, rfl, iteF ?_⟩
    refine ⟨_, _, _, false, rfl, (fun z => by cases z), T.o_LetRow.tyOf ha, kitF T.o_LetRow T.o_OwnRow (cls_ne T 3 4) (cls_ne T 3 0), false, rfl, iteF ?_⟩
    exact ⟨s2, nj (fun _ _ z => by cases z), C, Nat.le_succ_of_le Cl, _, rfl⟩
  ·rintro σ H2 ⟨s2, ij, C, Cl, z, rfl⟩
   rw [R.hh.1] at ij C Cl
   obtain ⟨rfl, q2⟩ : j = hd.length ∧ ∀ c H', Same H H' → H c = none → CellsD N H H' c (cix hd pts pts.length) (cellOf hd G) → Q (.ref c) H' := by
    rcases q with q | ⟨rk, z, q, _⟩
    ·exact q
    ·have := (List.getElem?_eq_some_iff.mp q).1
     omega
   have len := ok.len
   refine fun _ => ⟨p.pa, _, p.dp, _, _, rfl, s2 _ _ R.pr, T.o_Program.cl, T.n_Program_deeds, rfl, Or.inl ⟨⟨_, SqL.of (s2 _ _ R.dl)⟩, ?_⟩⟩
   refine for_list (K := K) (xs := dv) (fun i σ H3 => Same H H3 ∧ CellsD N H H3 c (cix hd pts i) (cellOf hd G) ∧ (cix hd pts i).length ≤ 12 + 4 * i ∧ ∃ v3 v4 v5, σ = [some (.ref p.pa), some (.ref g), some (.ref c), v3, v4, v5]) ⟨s2, C, Nat.le_trans Cl len, _, _, _, rfl⟩ (fun i σ H3 _ h => SqL.of (h.1 _ _ R.dl)) ?_ ?_
   ·rintro i v σ H3 hvi ⟨s3, C3, l3, v3, v4, v5, rfl⟩
    obtain ⟨pt, hpt, a, dx, pl, bl, m, x, rfl, _, ha, hpl⟩ := paired_get R.dd hvi
    obtain ⟨pl4, ptb⟩ := ok.pt pt (List.mem_of_getElem? hpt)
    have i2 : i < 2 := by have := (List.getElem?_eq_some_iff.mp hpt).1; have := ok.pl; omega
    have e3 : cix hd pts (i + 1) = pt.foldl ins (cix hd pts i) := fold_step _ _ hpt
    refine ⟨a, _, dx, _, _, rfl, s3 _ _ ha, T.o_DeedRow.cl, T.n_DeedRow_parts, rfl, Or.inl ⟨⟨_, SqL.of (s3 _ _ hpl)⟩, ?_⟩⟩
    refine for_list (K := K) (xs := pt.map fun i => .str (N i)) (fun t σ H4 => Same H H4 ∧ CellsD N H H4 c ((pt.take t).foldl ins (cix hd pts i)) (cellOf hd G) ∧ ((pt.take t).foldl ins (cix hd pts i)).length ≤ 12 + 4 * i + t ∧ ∃ v5, σ = [some (.ref p.pa), some (.ref g), some (.ref c), v3, some (.ref a), v5]) ⟨s3, C3, l3, _, rfl⟩ (fun i σ H4 _ h => SqL.of (h.1 _ _ hpl)) ?_ ?_
    ·rintro t v σ H4 hvt ⟨s4, C4, l4, v5, rfl⟩
     rw [List.getElem?_map] at hvt
     cases ht : pt[t]? with
     | none => rw [ht] at hvt; cases hvt
     | some y =>
      rw [ht] at hvt
      have hvt := Option.some.inj hvt
      subst hvt
      obtain ⟨y1, y2⟩ := ptb y (List.mem_of_getElem? ht)
      have t4 : t < 4 := by have := (List.getElem?_eq_some_iff.mp ht).1; omega
      have hn : NewAt H H4 (.int 0) (cellOf hd G y) := by
       unfold cellOf
       rw [List.getElem?_eq_none y1]
       rfl
      obtain ⟨o, dp, C'⟩ := C4.put Di (Same.refl _) (show y < 25 by omega) (by omega) hn
      rw [fold_step _ _ ht]
      refine ⟨_, dp, Same.out s4 hc _, C', ?_, _, rfl⟩
      have := ins_len ((pt.take t).foldl ins (cix hd pts i)) y
      omega
    ·rintro σ H4 ⟨s4, C4, l4, v5, rfl⟩
     rw [List.length_map, List.take_length] at C4 l4
     rw [e3]
     exact ⟨s4, C4, by omega, _, _, _, rfl⟩
   ·rintro σ H3 ⟨s3, C3, l3, v3, v4, v5, rfl⟩
    rw [Paired.length R.dd] at C3
    exact q2 c _ s3 hc C3
end
end K21

set_option Elab.async false
set_option linter.all false
set_option maxRecDepth 100000
set_option maxHeartbeats 4000000
namespace K21
open PySem L2
section
variable {P : Program} {w : World} {K : W.Frag} {mg : Str → Option Value} {base : Heap} {A : Adr} {N : Nat → Str}
theorem dk_merge (D : Dist N) {f : Nat → V} : ∀ (idx pre : List Nat), (∀ j ∈ pre ++ idx, j < 25) → (pre ++ idx).Nodup → mergeK (dk N pre f) (dk N idx f) = dk N (pre ++ idx) f
 | [], pre, _, _ => by rw [List.append_nil]; rfl
 | i :: r, pre, hb, nd => by
  have e : pre ++ i :: r = (pre ++ [i]) ++ r := by simp
  have m : i ∉ pre := fun z => by
   have := (List.nodup_append.mp nd).2.2 i z i List.mem_cons_self
   exact this rfl
  have hi : i < 25 := hb i (by simp)
  show mergeK (putK (dk N pre f) (.inr (N i)) (f i)) (dk N r f) = _
  rw [dk_new D hi (fun j hj => hb j (List.mem_append_left _ hj)) m]
  have c : dk N (pre ++ [i]) (updF f i (f i)) = dk N (pre ++ [i]) f := dk_congr fun j _ => by
   by_cases z : j = i
   ·rw [z, updF_same]
   ·rw [updF_ne _ _ z]
  rw [c, e]
  exact dk_merge D r (pre ++ [i]) (by rw [← e]; exact hb) (by rw [← e]; exact nd)
structure S where
 num : Nat → Int
 steps : Int
 trace : List (List V)
 letters : List (List V)
structure NewBook (A : Adr) (H : Hp) (x dx l sd t e : Addr) : Prop where
 b : H x = some (.ins A.Book dx [("letters", .ref l), ("said", .ref sd), ("trace", .ref t), ("steps", .int 0), ("ends", .ref e)])
 hl : H l = some (.lst [])
 hs : H sd = some (.lst [])
 ht : H t = some (.lst [])
 tl : t ≠ l
 dt : sd ≠ t
 dl : sd ≠ l
def sp_Book_init (A : Adr) : Sp := fun vs H Q _ => ∃ x dx, vs = [.ref x] ∧ H x = some (.ins A.Book dx []) ∧ ∀ (l sd t e : Addr) (H' : Hp), H l = none → H sd = none → H t = none → But x H H' → NewBook A H' x dx l sd t e → Q .non H'
theorem h_Book_init (T : Txt K mg A) : HasM P w K mg base 1 A.Book "__init__" ["self"] (sp_Book_init A) := by
 refine T.m_Book_init.has (k := 0) sc_Book_init (fun vs H Q E h => ?_) (fun f cdv A' outer s H vs Q E hr hu h => ?_)
 ·obtain ⟨x, dx, rfl, _⟩ := h
  rfl
 ·obtain ⟨x, dx, rfl, hx, q⟩ := h
  refine ⟨_, (pss_cons (ps_fld (fv 0) (pe_lst (pa_nil)) rfl)
  (pss_cons (ps_fld (fv 0) (pe_lst (pa_nil)) rfl)
  (pss_cons (ps_fld (fv 0) (pe_lst (pa_nil)) rfl)
  (pss_cons (ps_fld (fv 0) (pe_int) rfl)
  (pss_one (ps_fld (fv 0) (pe_dnewK) rfl)))))), ?_⟩
  refine ⟨Nat.zero_le _, fun l hl => ?_⟩
  have lx : l ≠ x := fun z => by rw [z, hx] at hl; cases hl
  have b1 : But x H (upd H l (HO.lst [])) := But.new hl _
  have x1 : (upd H l (HO.lst [])) x = some (.ins A.Book dx []) := by rw [upd_ne (Ne.symm lx)]; exact hx
  have l1 : (upd H l (HO.lst [])) l = some (.lst []) := upd_same
  generalize upd H l (HO.lst []) = H1 at b1 x1 l1 ⊢
  refine ⟨x, _, dx, _, rfl, x1, T.o_Book.cl, T.n_Book_letters, by decide, ?_⟩
  have b2 : But x H (upd H1 x (.ins A.Book dx (putF "letters" (.ref l) []))) := b1.trans (But.at x _ _)
  have x2 : (upd H1 x (.ins A.Book dx (putF "letters" (.ref l) []))) x = some (.ins A.Book dx [("letters", .ref l)]) := upd_same
  have l2 : (upd H1 x (.ins A.Book dx (putF "letters" (.ref l) []))) l = some (.lst []) := by rw [upd_ne lx]; exact l1
  generalize upd H1 x (.ins A.Book dx (putF "letters" (.ref l) [])) = H2 at b2 x2 l2 ⊢
  refine ⟨Nat.zero_le _, fun sd hsd => ?_⟩
  have sx : sd ≠ x := fun z => by rw [z, x2] at hsd; cases hsd
  have dl : sd ≠ l := fun z => by rw [z, l2] at hsd; cases hsd
  have sd0 : H sd = none := b2.none sx hsd
  have b3 : But x H (upd H2 sd (HO.lst [])) := b2.trans (But.new hsd _)
  have x3 : (upd H2 sd (HO.lst [])) x = some (.ins A.Book dx [("letters", .ref l)]) := by rw [upd_ne (Ne.symm sx)]; exact x2
  have l3 : (upd H2 sd (HO.lst [])) l = some (.lst []) := by rw [upd_ne (Ne.symm dl)]; exact l2
  have s3 : (upd H2 sd (HO.lst [])) sd = some (.lst []) := upd_same
  generalize upd H2 sd (HO.lst []) = H3 at b3 x3 l3 s3 ⊢
  refine ⟨x, _, dx, _, rfl, x3, T.o_Book.cl, T.n_Book_said, by simp, ?_⟩
  have b4 : But x H (upd H3 x (.ins A.Book dx (putF "said" (.ref sd) [("letters", .ref l)]))) := b3.trans (But.at x _ _)
  have x4 : (upd H3 x (.ins A.Book dx (putF "said" (.ref sd) [("letters", .ref l)]))) x = some (.ins A.Book dx [("letters", .ref l), ("said", .ref sd)]) := upd_same
  have l4 : (upd H3 x (.ins A.Book dx (putF "said" (.ref sd) [("letters", .ref l)]))) l = some (.lst []) := by rw [upd_ne lx]; exact l3
  have s4 : (upd H3 x (.ins A.Book dx (putF "said" (.ref sd) [("letters", .ref l)]))) sd = some (.lst []) := by rw [upd_ne sx]; exact s3
  generalize upd H3 x (.ins A.Book dx (putF "said" (.ref sd) [("letters", .ref l)])) = H4 at b4 x4 l4 s4 ⊢
  refine ⟨Nat.zero_le _, fun t ht => ?_⟩
  have tx : t ≠ x := fun z => by rw [z, x4] at ht; cases ht
  have tl : t ≠ l := fun z => by rw [z, l4] at ht; cases ht
  have ts : t ≠ sd := fun z => by rw [z, s4] at ht; cases ht
  have t0 : H t = none := b4.none tx ht
  have b5 : But x H (upd H4 t (HO.lst [])) := b4.trans (But.new ht _)
  have x5 : (upd H4 t (HO.lst [])) x = some (.ins A.Book dx [("letters", .ref l), ("said", .ref sd)]) := by rw [upd_ne (Ne.symm tx)]; exact x4
  have l5 : (upd H4 t (HO.lst [])) l = some (.lst []) := by rw [upd_ne (Ne.symm tl)]; exact l4
  have s5 : (upd H4 t (HO.lst [])) sd = some (.lst []) := by rw [upd_ne (Ne.symm ts)]; exact s4
  have t5 : (upd H4 t (HO.lst [])) t = some (.lst []) := upd_same
  generalize upd H4 t (HO.lst []) = H5 at b5 x5 l5 s5 t5 ⊢
  refine ⟨x, _, dx, _, rfl, x5, T.o_Book.cl, T.n_Book_trace, by simp, ?_⟩
  have b6 : But x H (upd H5 x (.ins A.Book dx (putF "trace" (.ref t) [("letters", .ref l), ("said", .ref sd)]))) := b5.trans (But.at x _ _)
  have x6 : (upd H5 x (.ins A.Book dx (putF "trace" (.ref t) [("letters", .ref l), ("said", .ref sd)]))) x = some (.ins A.Book dx [("letters", .ref l), ("said", .ref sd), ("trace", .ref t)]) := upd_same
  have l6 : (upd H5 x (.ins A.Book dx (putF "trace" (.ref t) [("letters", .ref l), ("said", .ref sd)]))) l = some (.lst []) := by rw [upd_ne lx]; exact l5
  have s6 : (upd H5 x (.ins A.Book dx (putF "trace" (.ref t) [("letters", .ref l), ("said", .ref sd)]))) sd = some (.lst []) := by rw [upd_ne sx]; exact s5
  have t6 : (upd H5 x (.ins A.Book dx (putF "trace" (.ref t) [("letters", .ref l), ("said", .ref sd)]))) t = some (.lst []) := by rw [upd_ne tx]; exact t5
  generalize upd H5 x (.ins A.Book dx (putF "trace" (.ref t) [("letters", .ref l), ("said", .ref sd)])) = H6 at b6 x6 l6 s6 t6 ⊢
  refine ⟨x, _, dx, _, rfl, x6, T.o_Book.cl, T.n_Book_steps, by simp, ?_⟩
  have b7 : But x H (upd H6 x (.ins A.Book dx (putF "steps" (.int 0) [("letters", .ref l), ("said", .ref sd), ("trace", .ref t)]))) := b6.trans (But.at x _ _)
  have x7 : (upd H6 x (.ins A.Book dx (putF "steps" (.int 0) [("letters", .ref l), ("said", .ref sd), ("trace", .ref t)]))) x = some (.ins A.Book dx [("letters", .ref l), ("said", .ref sd), ("trace", .ref t), ("steps", .int 0)]) := upd_same
  have l7 : (upd H6 x (.ins A.Book dx (putF "steps" (.int 0) [("letters", .ref l), ("said", .ref sd), ("trace", .ref t)]))) l = some (.lst []) := by rw [upd_ne lx]; exact l6
  have s7 : (upd H6 x (.ins A.Book dx (putF "steps" (.int 0) [("letters", .ref l), ("said", .ref sd), ("trace", .ref t)]))) sd = some (.lst []) := by rw [upd_ne sx]; exact s6
  have t7 : (upd H6 x (.ins A.Book dx (putF "steps" (.int 0) [("letters", .ref l), ("said", .ref sd), ("trace", .ref t)]))) t = some (.lst []) := by rw [upd_ne tx]; exact t6
  generalize upd H6 x (.ins A.Book dx (putF "steps" (.int 0) [("letters", .ref l), ("said", .ref sd), ("trace", .ref t)])) = H7 at b7 x7 l7 s7 t7 ⊢
  refine fun e he => ?_
  have ex : e ≠ x := fun z => by rw [z, x7] at he; cases he
  have n8 := Same.upd he (HO.dK [])
  refine ⟨x, _, dx, _, rfl, n8 _ _ x7, T.o_Book.cl, T.n_Book_ends, by simp, ?_⟩
  refine q l sd t e _ hl sd0 t0 ((b7.trans (But.of n8)).trans (But.at x _ _)) ⟨upd_same, ?_, ?_, ?_, tl, Ne.symm ts, dl⟩
  ·rw [upd_ne lx]; exact n8 _ _ l7
  ·rw [upd_ne sx]; exact n8 _ _ s7
  ·rw [upd_ne tx]; exact n8 _ _ t7
theorem But.out {s d : Addr} {H H3 : Hp} (b : But s H H3) (h : H d = none) (o : HO) : But s H (upd H3 d o) := fun a ha u q => by
 rw [upd_ne (fun z => by rw [z, h] at q; cases q)]
 exact b a ha u q
def sp_Run_init (A : Adr) (N : Nat → Str) : Sp := fun vs H Q _ => ∃ (s ds c : Addr) (p : Pa) (hv dv : List V) (hd : List HD) (pts : List (List Nat)), vs = [.ref s, .ref p.pa, .ref c] ∧ H s = some (.ins A.Run ds []) ∧ PrAt A N H p hv hd dv pts ∧ Hds hd pts ∧
 ∀ (d b db l sd t e : Addr) (H' : Hp), But s H H' → H b = none → H' s = some (.ins A.Run ds [("deeds", .ref d), ("cells", .ref c), ("book", .ref b)]) → H' b = some (.ins A.Book db [("letters", .ref l), ("said", .ref sd), ("trace", .ref t), ("steps", .int 0), ("ends", .ref e)]) → Q .non H'
theorem h_Run_init (T : Txt K mg A) (Di : Dist N) : HasM P w K mg base 3 A.Run "__init__" ["self", "program", "cells"] (sp_Run_init A N) := by
 have D_Book_init := h_Book_init (P := P) (w := w) (base := base) T
 refine T.m_Run_init.has (k := 2) sc_Run_init (fun vs H Q E h => ?_) (fun f cdv A' outer s' H vs Q E hr hu h => ?_)
 ·obtain ⟨s, ds, c, p, hv, dv, hd, pts, rfl, _⟩ := h
  rfl
 ·obtain ⟨s, ds, c, p, hv, dv, hd, pts, rfl, hs, R, ok, q⟩ := h
  refine ⟨_, (pss_cons (ps_fld (fv 0) (pe_dnewK) rfl)
  (pss_cons (ps_for PassesOwn.never rfl (pi_any (pe_fld (fv 1) rfl)) (pg_name (i := 3) sc_Run_init.nd rfl (by first | exact Or.inl rfl | exact Or.inr rfl))
   (pss_one (ps_asg (fv 3) (pg_sub (pe_fld (fv 0) rfl) (pe_fld (fv 3) rfl) (st_all hu set_list)))))
  (pss_cons (ps_fld (fv 0) (fv 2) rfl)
  (pss_one (ps_fld (fv 0) (pe_makeD0 T.o_Book D_Book_init hr) rfl))))), ?_⟩
  refine fun d hd0 => ?_
  have sm1 := Same.upd hd0 (HO.dK [])
  have ds0 : d ≠ s := fun z => by rw [z, hs] at hd0; cases hd0
  refine ⟨s, _, ds, _, rfl, sm1 _ _ hs, T.o_Run.cl, T.n_Run_deeds, by simp, ?_⟩
  have b2 : But s H (upd (upd H d (HO.dK [])) s (.ins A.Run ds (putF "deeds" (.ref d) []))) := (But.of sm1).trans (But.at s _ _)
  have x2 : (upd (upd H d (HO.dK [])) s (.ins A.Run ds (putF "deeds" (.ref d) []))) s = some (.ins A.Run ds [("deeds", .ref d)]) := upd_same
  have d2 : (upd (upd H d (HO.dK [])) s (.ins A.Run ds (putF "deeds" (.ref d) []))) d = some (.dK []) := by rw [upd_ne ds0]; exact upd_same
  generalize upd (upd H d (HO.dK [])) s (.ins A.Run ds (putF "deeds" (.ref d) [])) = H2 at b2 x2 d2 ⊢
  have ps : p.pa ≠ s := fun z => by have := R.pr; rw [z, hs] at this; exact absurd (HO.ins.inj (Option.some.inj this)).1 (cls_ne T 16 14)
  have dds : p.dd ≠ s := fun z => by have := R.dl; rw [z, hs] at this; cases this
  refine ⟨p.pa, _, p.dp, _, _, rfl, b2 _ ps _ R.pr, T.o_Program.cl, T.n_Program_deeds, rfl, Or.inl ⟨⟨_, SqL.of (b2 _ dds _ R.dl)⟩, ?_⟩⟩
  refine for_list (K := K) (xs := dv) (fun i σ H3 => But s H H3 ∧ H3 s = some (.ins A.Run ds [("deeds", .ref d)]) ∧ (∃ l f, H3 d = some (.dK (dk N l f)) ∧ (∀ j ∈ l, j < 25) ∧ l.length ≤ i) ∧ ∃ v, σ = [some (.ref s), some (.ref p.pa), some (.ref c), v]) ⟨b2, x2, ⟨[], fun _ => .non, d2, fun _ h => (by cases h), Nat.le_refl _⟩, _, rfl⟩ (fun i σ H3 _ h => SqL.of (h.1 _ dds _ R.dl)) ?_ ?_
  ·rintro i v σ H3 hvi ⟨b3, x3, ⟨l, f, d3, lb, ll⟩, z, rfl⟩
   obtain ⟨pt, hpt, a, dx, pl, bl, m, x, rfl, hx, ha, hpl⟩ := paired_get R.dd hvi
   have as : a ≠ s := fun z => by rw [z, hs] at ha; exact absurd (HO.ins.inj (Option.some.inj ha)).1 (cls_ne T 16 13)
   have i2 : i < 2 := by have := (List.getElem?_eq_some_iff.mp hpt).1; have := ok.pl; omega
   refine ⟨s, _, ds, _, _, rfl, x3, T.o_Run.cl, T.n_Run_deeds, rfl, a, _, dx, _, _, rfl, b3 _ as _ ha, T.o_DeedRow.cl, T.n_DeedRow_name, rfl, _, DPut.k (k := .inr (N x)) d3 (small1000 (by rw [dk_len]; omega)), ?_⟩
   refine ⟨But.out b3 hd0 _, by rw [upd_ne (Ne.symm ds0)]; exact x3, ⟨ins l x, _, by rw [upd_same, dk_ins Di hx lb], ins_lt lb hx, Nat.le_trans (ins_len l x) (Nat.succ_le_succ ll)⟩, _, rfl⟩
  ·rintro σ H3 ⟨b3, x3, ⟨l, f, d3, lb, ll⟩, z, rfl⟩
   refine ⟨s, _, ds, _, rfl, x3, T.o_Run.cl, T.n_Run_cells, by simp, ?_⟩
   have b4 : But s H (upd H3 s (.ins A.Run ds (putF "cells" (.ref c) [("deeds", .ref d)]))) := b3.trans (But.at s _ _)
   have x4 : (upd H3 s (.ins A.Run ds (putF "cells" (.ref c) [("deeds", .ref d)]))) s = some (.ins A.Run ds [("deeds", .ref d), ("cells", .ref c)]) := upd_same
   generalize upd H3 s (.ins A.Run ds (putF "cells" (.ref c) [("deeds", .ref d)])) = H4 at b4 x4 ⊢
   refine fun b db hb hdb hne => ⟨b, db, rfl, upd_same, fun l sd t e H5 nl ns nt bt nb => ⟨rfl, ?_⟩⟩
   have sm5 : Same H4 H5 := But.same bt hb hdb
   have bs : b ≠ s := fun z => by rw [z, x4] at hb; cases hb
   refine ⟨s, _, ds, _, rfl, sm5 _ _ x4, T.o_Run.cl, T.n_Run_book, by simp, ?_⟩
   refine q d b db l sd t e _ ((b4.trans (But.of sm5)).trans (But.at s _ _)) (b4.none bs hb) upd_same ?_
   rw [upd_ne bs]; exact nb.b
def sp_doRows (A : Adr) : Sp := fun vs H Q _ => ∃ (s q : Addr), vs = [.ref s, .ref q] ∧ H q = some (.lst []) ∧ Q (.bl false) H
theorem h_doRows (T : Txt K mg A) : HasM P w K mg base 1 A.Run "do_rows" ["self", "rows"] (sp_doRows A) := by
 refine T.m_Run_do_rows.has (k := 0) sc_Run_do_rows (fun vs H Q E h => ?_) (fun f cdv A' outer s' H vs Q E hr hu h => ?_)
 ·obtain ⟨s, q, rfl, _⟩ := h
  rfl
 ·obtain ⟨s, p, rfl, hp, q⟩ := h
  refine ⟨_, (pss_cons (ps_set (i := 2) sc_Run_do_rows.nd rfl (Or.inl rfl) (pe_bl))
  (pss_cons (ps_for PassesOwn.never rfl (pi_any (fv 1)) (pg_name (i := 3) sc_Run_do_rows.nd rfl (by first | exact Or.inl rfl | exact Or.inr rfl))
   pss_never)
  (pss_one (ps_ret (fv 2))))), ?_⟩
  refine Or.inl ⟨⟨_, SqL.of hp⟩, ?_⟩
  refine for_list (K := K) (xs := []) (fun i σ H3 => H3 = H ∧ ∃ v, σ = [some (.ref s), some (.ref p), some (.bl false), v]) ⟨rfl, _, rfl⟩ (fun i σ H3 _ h => by rw [h.1]; exact SqL.of hp) ?_ ?_
  ·rintro i v σ H3 hv _
   cases hv
  ·rintro σ H3 ⟨rfl, z, rfl⟩
   exact q
theorem comp_ixF {K : W.Frag} {a : Addr} {xs : List V} {fr : List Nat} {tf : CB → TT} {te : CB → TE} {Q : VK} {σ : St} {H1 : Hp} (p : Nat → Bool) (R : Nat → V → Hp → Prop) (hx : SqL K H1 a xs) (hn : xs.length < sizeLine)
  (hf : ∀ b i x H (G : Bool → Hp → Prop), xs[i]? = some x → Same H1 H → (∀ H', Same H H' → G (p i) H') → tf b (some x :: cFr fr σ) H G)
  (he : ∀ b i x H (G : VK), xs[i]? = some x → p i = true → Same H1 H → (∀ y H', Same H H' → R i y H' → G y H') → te b (some x :: cFr fr σ) H G)
  (mono : ∀ i y H H', Same H H' → R i y H → R i y H') (st : ∀ i y H D ys zs, H D = some (.lst ys) → R i y H → R i y (upd H D (.lst zs)))
  (fin : ∀ D H ys, H1 D = none → Same H1 H → H D = some (.lst ys) → PySem.Paired (fun i y => R i y H) ((List.range xs.length).filter p) ys → Q (.ref D) H) : tBlock (Itl K a) 1 fr (fun _ => gName 0) tf te Q σ H1 := by
 have len : ∀ {i : Nat} {ys : List V} {H : Hp}, PySem.Paired (fun i y => R i y H) ((List.range i).filter p) ys → ys.length ≤ i := fun {i} _ _ h => by
  have h1 := Paired.length h
  have h2 := List.length_filter_le p (List.range i)
  rw [List.length_range] at h2
  omega
 refine ⟨fun b D hD => ?_⟩
 refine ⟨fun i m σ' H' => m = xs.length - i ∧ i ≤ xs.length ∧ (∃ v0, σ' = v0 :: cFr fr σ) ∧ Same H1 H' ∧ ∃ ys, H' D = some (.lst ys) ∧ PySem.Paired (fun i y => R i y H') ((List.range i).filter p) ys, ⟨xs.length, rfl, Nat.zero_le _, ⟨none, rfl⟩, Same.upd hD _, [], upd_same, .nil⟩, ?_⟩
 rintro i m σ' H' ⟨rfl, hi, ⟨v0, rfl⟩, sm, ys, hl, hR⟩
 have hy := len hR
 by_cases hlt : i < xs.length
 ·refine .inr ⟨⟨xs, xs[i], sm.seq hx, List.getElem?_eq_getElem hlt⟩, fun σ2 H2 => (∃ v0, σ2 = v0 :: cFr fr σ) ∧ Same H1 H2 ∧ ∃ ys, H2 D = some (.lst ys) ∧ PySem.Paired (fun i y => R i y H2) ((List.range (i + 1)).filter p) ys, fun σ2 H2 q => ⟨xs.length - (i + 1), by omega, rfl, hlt, q⟩, fun v H2 y => ?_⟩
  obtain ⟨rfl, yv⟩ := y
  have ev := yv xs (sm.seq hx)
  rw [List.range_succ, List.filter_append]
  show tf b (some v :: cFr fr σ) _ _
  refine hf b i v _ _ ev sm fun H3 s3 => ?_
  cases hp : p i with
  | false =>
   rw [if_neg Bool.false_ne_true]
   refine ⟨⟨_, rfl⟩, sm.trans s3, ys, s3 _ _ hl, ?_⟩
   have e0 : ([i].filter p) = [] := by simp [hp]
   rw [e0, List.append_nil]
   exact Paired.mapP hR fun _ _ h => mono _ _ _ _ s3 h
  | true =>
   rw [if_pos rfl]
   have e0 : ([i].filter p) = [i] := by simp [hp]
   rw [e0]
   refine he b i v _ _ ev hp (sm.trans s3) fun z H4 s4 rz => ⟨ys, s4 _ _ (s3 _ _ hl), by omega, ⟨_, rfl⟩, ?_, ys ++ [z], upd_same, ?_⟩
   ·intro c o q
    by_cases hc : c = D
    ·rw [hc, hD] at q; cases q
    ·rw [upd_ne hc]; exact (sm.trans (s3.trans s4)) c o q
   ·have hD4 := s4 _ _ (s3 _ _ hl)
    exact PySem.Paired.snoc (Paired.mapP hR fun _ _ h => st _ _ _ _ _ _ hD4 (mono _ _ _ _ (s3.trans s4) h)) (st _ _ _ _ _ _ hD4 rz)
 ·have e : i = xs.length := by omega
  subst e
  exact .inl ⟨⟨xs, sm.seq hx, Nat.le_refl _⟩, fin D H' ys hD sm hl hR⟩
def isO (hd : List HD) (k : Nat) : Bool := match hd[k]? with
 | some (.own _) => true
 | _ => false
def oix (hd : List HD) (i : Nat) : List Nat := (List.range i).filter (isO hd)
theorem oix_lt {hd : List HD} {i j : Nat} (h : j ∈ oix hd i) : j < i := List.mem_range.mp (List.mem_filter.mp h).1
theorem hix_own {hd : List HD} {j : Nat} : ∀ {i : Nat}, j ∈ oix hd i → j ∈ hix hd i
 | 0, h => by cases h
 | i + 1, h => by
  rw [hix_succ]
  unfold oix at h
  rw [List.range_succ, List.filter_append] at h
  rcases List.mem_append.mp h with h | h
  ·have := hix_own (i := i) h
   unfold hstep
   split
   ·exact ins_mem this
   ·exact this
  ·obtain ⟨h1, h2⟩ := List.mem_filter.mp h
   have := List.mem_singleton.mp h1
   subst this
   unfold hstep
   rw [if_pos]
   ·exact ins_me _ _
   ·unfold isO at h2
    unfold isC
    split at h2
    ·rename_i e; rw [e]
    ·cases h2
theorem foldl_ins {j : Nat} : ∀ {pt : List Nat} {l : List Nat}, j ∈ l → j ∈ pt.foldl ins l
 | [], _, h => h
 | _ :: r, _, h => foldl_ins (pt := r) (ins_mem h)
theorem cix_mem {hd : List HD} {pts : List (List Nat)} {j : Nat} (h : j ∈ hix hd hd.length) : ∀ i, j ∈ cix hd pts i := fun i => by
 unfold cix
 have : ∀ (ps : List (List Nat)) (l : List Nat), j ∈ l → j ∈ ps.foldl (fun l pt => pt.foldl ins l) l := by
  intro ps
  induction ps with
  | nil => exact fun _ h => h
  | cons a r ih => exact fun l h => ih _ (foldl_ins h)
 exact this _ _ h
def HoldsD (N : Nat → Str) (H : Hp) (d : Addr) (l : List Nat) (D : Nat → Cl) : Prop := ∃ f, H d = some (.dK (dk N l f)) ∧ (∀ j ∈ l, j < 25) ∧ ∀ j ∈ l, ClAt H (f j) (D j)
theorem HoldsD.same {H H' : Hp} {d : Addr} {l : List Nat} {D : Nat → Cl} (h : HoldsD N H d l D) (s : Same H H') : HoldsD N H' d l D := by
 obtain ⟨f, h1, h2, h3⟩ := h
 exact ⟨f, s _ _ h1, h2, fun j hj => (h3 j hj).same s⟩
theorem CellsD.holds {H H2 : Hp} {c : Addr} {l : List Nat} {D : Nat → Cl} (h : CellsD N H H2 c l D) : HoldsD N H2 c l D := by
 obtain ⟨f, h1, h2, h3⟩ := h
 exact ⟨f, h1, h2, fun j hj => (h3 j hj).cl⟩
theorem refs_of {R : Nat → Addr → Prop} : ∀ {is : List Nat} {ys : List V}, PySem.Paired (fun i y => ∃ t, y = V.ref t ∧ R i t) is ys → ∃ ps : List Addr, ys = ps.map V.ref
 | _, _, .nil => ⟨[], rfl⟩
 | _, _, .cons h r => by
  obtain ⟨t, rfl, _⟩ := h
  obtain ⟨ps, rfl⟩ := refs_of r
  exact ⟨t :: ps, rfl⟩
def sp_ends (A : Adr) (N : Nat → Str) : Sp := fun vs H Q _ => ∃ (p : Pa) (c : Addr) (hv dv : List V) (hd : List HD) (pts : List (List Nat)) (D : Nat → Cl), vs = [.ref p.pa, .ref c] ∧ PrAt A N H p hv hd dv pts ∧ Hds hd pts ∧ HoldsD N H c (cix hd pts pts.length) D ∧ ∀ e H', Same H H' → H e = none → HoldsD N H' e (oix hd hd.length) D → Q (.ref e) H'
theorem h_ends (T : Txt K mg A) (Di : Dist N) : Has P w K mg base 1 "ends_of" ["program", "cells"] (sp_ends A N) := by
 refine T.ends_of.has sc_ends_of (fun vs H Q E h => ?_) (fun f cdv A' outer s' H vs Q E hr hu h => ?_)
 ·obtain ⟨p, c, hv, dv, hd, pts, D, rfl, _⟩ := h
  rfl
 ·obtain ⟨p, c, hv, dv, hd, pts, D, rfl, R, ok, ⟨g, hc, gb, hg⟩, q⟩ := h
  have len := ok.len
  have hl := R.hh.1
  refine ⟨_, (pss_one (ps_ret (pe_callTy c_dictP rfl T.z_dict (by boot_by_name) (pa_cons (pe_comp (N := ["head", "cells"]) (own := 1) (fr := [1]) (CompOk.of (by kernel_rfl!)) rfl (pi_any (pe_fld (fv 0) rfl)) (fun b => pg_name (i := 0) (show List.Nodup (["head", "cells"] : List PySem.Str) by decide +kernel) rfl (by first | exact Or.inl rfl | exact Or.inr rfl)) (fun b => pf_one (pt_tru (pe_callB c_isinst rfl T.z_isinstance (by boot_by_name) (pa_cons (fv 0) (pa_cons (pe_gtup T.o_OwnRow.mg) pa_nil))) (fun _ => rfl))) (fun b => pe_tup (pa_cons (pe_fld (fv 0) rfl) (pa_cons (pe_ix (ix_all hu) (fv 1) (pe_fld (fv 0) rfl) (fun _ _ => rfl)) pa_nil)))) pa_nil)))), ?_⟩
  refine ⟨p.pa, _, p.dp, _, _, rfl, R.pr, T.o_Program.cl, T.n_Program_heads, rfl, Or.inl ⟨⟨_, SqL.of R.hl⟩, comp_ixF (K := K) (isO hd) (fun i y H => ∃ t, y = V.ref t ∧ H t = some (.tup [.str (N i), g i])) (SqL.of R.hl) (small1000 (by omega)) (fun b i v H2 G hv s2 k => ?_) (fun b i v H2 G hv hp s2 k => ?_) ?_ ?_ (fun L H2 ys hD s2 e pr => ?_)⟩⟩
  ·obtain ⟨h, hdi, hat⟩ := R.hh.2 i v hv
   have hat := hat.same s2
   unfold isO at k
   rw [hdi] at k
   cases h with
   | given rk z =>
    obtain ⟨a, dx, m, rfl, ha⟩ := hat
    exact ⟨_, _, _, false, rfl, (fun z => by cases z), T.o_GivenRow.tyOf ha, kitF T.o_GivenRow T.o_OwnRow (cls_ne T 3 2) (cls_ne T 3 0), false, rfl, k _ (Same.refl _)⟩
   | own z =>
    obtain ⟨a, dx, m, rfl, ha⟩ := hat
    exact ⟨_, _, _, true, rfl, (fun z => by cases z), T.o_OwnRow.tyOf ha, kitT T.o_OwnRow, true, rfl, k _ (Same.refl _)⟩
   | hand rk =>
    obtain ⟨a, dx, m, rfl, ha⟩ := hat
    exact ⟨_, _, _, false, rfl, (fun z => by cases z), T.o_HandRow.tyOf ha, kitF T.o_HandRow T.o_OwnRow (cls_ne T 3 1) (cls_ne T 3 0), false, rfl, k _ (Same.refl _)⟩
   | lett rk =>
    obtain ⟨a, dx, m, rfl, ha⟩ := hat
    exact ⟨_, _, _, false, rfl, (fun z => by cases z), T.o_LetRow.tyOf ha, kitF T.o_LetRow T.o_OwnRow (cls_ne T 3 4) (cls_ne T 3 0), false, rfl, k _ (Same.refl _)⟩
  ·obtain ⟨h, hdi, hat⟩ := R.hh.2 i v hv
   have hat := hat.same s2
   have il : i < hd.length := (List.getElem?_eq_some_iff.mp hdi).1
   have mi : i ∈ cix hd pts pts.length := cix_mem (hix_own (List.mem_filter.mpr ⟨List.mem_range.mpr il, hp⟩)) _
   unfold isO at hp
   rw [hdi] at hp
   cases h with
   | own z =>
    obtain ⟨a, dx, m, rfl, ha⟩ := hat
    exact ⟨a, _, dx, _, _, rfl, ha, T.o_OwnRow.cl, T.n_OwnRow_name, rfl, a, _, dx, _, _, rfl, ha, T.o_OwnRow.cl, T.n_OwnRow_name, rfl, _, get_in Di (.inl (s2 _ _ hc)) gb mi, (show 2 ≤ sizeLine by decide), fun t ht => k _ _ (Same.upd ht _) ⟨t, rfl, upd_same⟩⟩
   | given rk z => cases hp
   | hand rk => cases hp
   | lett rk => cases hp
  ·rintro x y H2 H3 s ⟨t, e1, e2⟩
   exact ⟨t, e1, s _ _ e2⟩
  ·rintro x y H2 D ys zs hD ⟨t, e1, e2⟩
   exact ⟨t, e1, by rw [upd_ne (fun z => by rw [z, hD] at e2; cases e2)]; exact e2⟩
  ·rw [hl] at pr
   have pl := Paired.length pr
   have ol : (oix hd hd.length).length ≤ 12 := by
    have := List.length_filter_le (isO hd) (List.range hd.length)
    rw [List.length_range] at this
    exact Nat.le_trans this len
   obtain ⟨ps, rfl⟩ := refs_of pr
   rw [List.length_map] at pl
   refine ⟨L, ps, dk N (oix hd hd.length) g, rfl, SqL.of e, by rw [dk_len]; exact pl.symm, by rw [dk_len]; omega, fun i t k v ht hk => ?_, fun p4 hp4 => ?_⟩
   ·obtain ⟨j, hj, rfl, rfl⟩ := dk_at hk
    obtain ⟨y, hy, t', rfl, h2⟩ := paired_get pr hj
    rw [List.getElem?_map, ht] at hy
    cases hy
    exact SqT.of h2
   ·have s3 := s2.trans (Same.upd hp4 (HO.dK (mergeK [] (dk N (oix hd hd.length) g))))
    have nd : (oix hd hd.length).Nodup := List.Pairwise.filter _ List.nodup_range
    have lt : ∀ j ∈ oix hd hd.length, j < 25 := fun j hj => by have := oix_lt hj; omega
    refine q p4 _ s3 (Same.free s2 hp4) ⟨g, ?_, lt, fun j hj => (hg j (cix_mem (hix_own hj) _)).same s3⟩
    rw [upd_same]
    exact congrArg (fun x => some (HO.dK x)) (dk_merge Di (oix hd hd.length) [] lt nd)
def sp_run (A : Adr) (N : Nat → Str) : Sp := fun vs H Q E => ∃ (p : Pa) (hv dv : List V) (hd : List HD) (pts : List (List Nat)) (g : Addr) (gi : List Nat) (gf : Nat → V) (G : Nat → Cl) (j : Nat), vs = [.ref p.pa, .ref g] ∧ PrAt A N H p hv hd dv pts ∧ Hds hd pts ∧ Rd H g (.dK (dk N gi gf)) ∧ (∀ i ∈ gi, i < 25) ∧ AllGood H hd gi gf G j ∧
 ((j = hd.length ∧ ∀ b db l sd t e H', Same H H' → H e = none → H' b = some (.ins A.Book db [("letters", .ref l), ("said", .ref sd), ("trace", .ref t), ("steps", .int 0), ("ends", .ref e)]) → HoldsD N H' e (oix hd hd.length) (cellOf hd G) → Q (.ref b) H') ∨ (∃ rk z, hd[j]? = some (.given rk z) ∧ GoodV H (look gi gf j) z false ∧ Refused A E H (N j)))
theorem h_run (T : Txt K mg A) (Di : Dist N) : HasX P w K mg base 12 "run" ["program", "gifts"] (sp_run A N) := by
 refine T.run.hasX (k := 11) sc_run (fun vs H Q E h => ?_) (fun X f cdv A' outer s' H vs Q E hX cat hr hu h => ?_)
 ·obtain ⟨p, hv, dv, hd, pts, g, gi, gf, G, j, rfl, _⟩ := h
  rfl
 ·subst hX
  obtain ⟨p, hv, dv, hd, pts, g, gi, gf, G, j, rfl, R, ok, hg, gb, good, q⟩ := h
  have D_cells_of := h_cells (P := P) (w := w) (base := base) T Di
  have D_Run_init := h_Run_init (P := P) (w := w) (base := base) T Di
  have D_do_rows := h_doRows (P := P) (w := w) (base := base) T
  have D_ends_of := h_ends (P := P) (w := w) (base := base) T Di
  refine ⟨_, (pss_cons (ps_set (i := 2) sc_run.nd rfl (Or.inl rfl) (pe_makeD T.o_Run D_Run_init hr (pa_cons (fv 0) (pa_cons (pe_callX cat D_cells_of hr (pa_cons (fv 0) (pa_cons (fv 1) pa_nil))) pa_nil))))
  (pss_cons (ps_expr (pe_methD (fv 2) T.o_Run.cl D_do_rows hr (pa_cons (pe_fld (fv 0) rfl) pa_nil)))
  (pss_cons (ps_set (i := 3) sc_run.nd rfl (Or.inl rfl) (pe_fld (fv 2) rfl))
  (pss_cons (ps_fld (fv 3) (pe_callD D_ends_of hr (pa_cons (fv 0) (pa_cons (pe_fld (fv 2) rfl) pa_nil))) rfl)
  (pss_one (ps_ret (fv 3))))))), ?_⟩
  refine ⟨p, hv, dv, hd, pts, g, gi, gf, G, j, rfl, R, ok, hg, gb, good, ?_⟩
  rcases q with ⟨ej, q⟩ | q
  ·refine Or.inl ⟨ej, fun c H1 s1 c0 C => ?_⟩
   refine fun s ds' hs hds hne => ?_
   have sm : Same H1 (upd (upd H1 ds' (.own s)) s (.ins A.Run ds' [])) := But.same (But.refl _ _) hs hds
   refine ⟨s, ds', c, p, hv, dv, hd, pts, rfl, upd_same, (R.same s1).same sm, ok, fun d b db l sd t e H2 b2 nb hs2 hb2 => ⟨rfl, ?_⟩⟩
   have s12 : Same H1 H2 := But.same b2 hs hds
   have s2 : Same H H2 := s1.trans s12
   have b1 : H1 b = none := new_none hs hds nb
   refine ⟨s, ds', _, rfl, hs2, rfl, p.pa, _, p.dp, _, _, rfl, s2 _ _ R.pr, T.o_Program.cl, T.n_Program_main, rfl, s, p.mn, rfl, s2 _ _ R.mn, ?_⟩
   refine ⟨s, _, ds', _, _, rfl, hs2, T.o_Run.cl, T.n_Run_book, rfl, ?_⟩
   refine ⟨s, _, ds', _, _, rfl, hs2, T.o_Run.cl, T.n_Run_cells, rfl, p, c, hv, dv, hd, pts, _, rfl, R.same s2, ok, C.holds.same s12, fun e' H4 s4 e0 E4 => ?_⟩
   refine ⟨b, _, db, _, rfl, s4 _ _ hb2, T.o_Book.cl, T.n_Book_ends, by simp, ?_⟩
   refine q b db l sd t e' _ (Same.out (s2.trans s4) (Same.free s1 b1) _) (Same.free s2 e0) upd_same ?_
   obtain ⟨f, h1, h2, h3⟩ := E4
   have hb4 := s4 _ _ hb2
   refine ⟨f, by rw [upd_ne (fun z => by rw [z, hb4] at h1; cases h1)]; exact h1, h2, fun j hj => ?_⟩
   have := h3 j hj
   cases hk : cellOf hd G j with
   | num n => rw [hk] at this; exact this
   | lst rs =>
    rw [hk] at this
    obtain ⟨a, ea, ha⟩ := this
    exact ⟨a, ea, by rw [upd_ne (fun z => by rw [z, hb4] at ha; cases ha)]; exact ha⟩
  ·exact Or.inr q
end
end K21

set_option Elab.async false
set_option linter.all false
set_option maxRecDepth 100000
set_option maxHeartbeats 4000000
namespace K21
open PySem L2
section
variable {P : Program} {w : World} {K : W.Frag} {mg : Str → Option Value} {base : Heap} {A : Adr} {N : Nat → Str}
theorem pow12 : ((10 : Int) ^ (12 : Int).toNat) = 1000000000000 := by decide
def numV (c : Int) : Int := if decide (V.int (c % 3) = V.int 0) = true then c / 3 % 5 else if decide (V.int (c % 3) = V.int 1) = true then 10 ^ (12 : Int).toNat - 1 - c / 3 % 5 else c / 3 % 10 ^ (12 : Int).toNat
theorem num_in (c : Int) : In (numV c) := by
 unfold numV
 rw [pow12]
 have h5 := mod_in (c / 3) (show (0 : Int) < 5 by decide)
 split
 ·exact ⟨h5.1, by omega⟩
 split
 ·exact ⟨by omega, by omega⟩
 ·exact mod_in _ (by decide)
def sp_number : Sp := fun vs H Q _ => ∃ c : Int, vs = [.int c] ∧ Q (.int (numV c)) H
theorem h_number (T : Txt K mg A) : Has P w K mg base 1 "_law_number" ["_law_cell"] sp_number := by
 refine T.law_number.has sc_law_number (fun vs H Q E h => ?_) (fun f cdv A' outer s H vs Q E hr hu h => ?_)
 ·obtain ⟨c, rfl, _⟩ := h
  rfl
 ·obtain ⟨c, rfl, q⟩ := h
  unfold numV at q
  refine ⟨_, (pss_cons (ps_if (pt_cmpR (o_eqU hu) (pe_op o_mod (fv 0) (pe_int)) (pe_int) (nomark _))
   (pss_one (ps_ret (pe_op o_mod (pe_op o_fdiv (fv 0) (pe_int)) (pe_int))))
   pss_nil)
  (pss_cons (ps_if (pt_cmpR (o_eqU hu) (pe_op o_mod (fv 0) (pe_int)) (pe_int) (nomark _))
   (pss_one (ps_ret (pe_op o_sub (pe_op o_sub (pe_op o_pow (pe_int) (pe_int)) (pe_int)) (pe_op o_mod (pe_op o_fdiv (fv 0) (pe_int)) (pe_int)))))
   pss_nil)
  (pss_one (ps_ret (pe_op o_mod (pe_op o_fdiv (fv 0) (pe_int)) (pe_op o_pow (pe_int) (pe_int))))))), ?_⟩
  refine ⟨(by show (0 : Int) < 3; decide), rfl, _, rfl, ite2 (fun b => ?_) (fun b => ?_)⟩
  ·rw [if_pos b] at q
   exact ⟨⟨by decide, by decide⟩, (by show (0 : Int) < 5; decide), q⟩
  rw [if_neg b] at q
  refine ⟨(by show (0 : Int) < 3; decide), rfl, _, rfl, ite2 (fun b => ?_) (fun b => ?_)⟩
  ·rw [if_pos b] at q
   exact ⟨⟨by decide, by decide, by decide⟩, ⟨by decide, by decide⟩, (by show (0 : Int) < 5; decide), q⟩
  ·rw [if_neg b] at q
   exact ⟨⟨by decide, by decide⟩, ⟨by decide, by decide, by decide⟩, (by show (0 : Int) < 10 ^ (12 : Int).toNat; decide), q⟩
def giftC (ns : List Int) (k z : Nat) : Cl := if z = 0 then .num (numV (cellI ns (16 + k))) else .lst ((List.range z).map fun j : Nat => numV (cellI ns (16 + k) / ((j : Int) + 1) + (j : Int) * (j : Int) * 48271))
theorem gift_fits (ns : List Int) (k z : Nat) : (giftC ns k z).fits z := by
 unfold giftC
 split
 ·exact ⟨by assumption, num_in _⟩
 ·refine ⟨by rw [List.length_map, List.length_range], by omega, fun a ha => ?_⟩
  obtain ⟨j, _, rfl⟩ := List.mem_map.mp ha
  exact num_in _
def sp_gift (K : W.Frag) : Sp := fun vs H Q _ => ∃ (a : Addr) (ns : List Int) (k z : Nat), vs = [.ref a, .int k, .int z] ∧ SqL K H a (ns.map V.int) ∧ z ≤ 20 ∧ ∀ v H', Same H H' → NewAt H H' v (giftC ns k z) → Q v H'
theorem h_gift (T : Txt K mg A) : Has P w K mg base 2 "_law_gift" ["_law_script", "_law_k", "_law_size"] (sp_gift K) := by
 have D_law_cell_at := h_cell_at (P := P) (w := w) (base := base) T
 have D_law_number := h_number (P := P) (w := w) (base := base) T
 refine T.law_gift.has (k := 1) sc_law_gift (fun vs H Q E h => ?_) (fun f cdv A' outer s H vs Q E hr hu h => ?_)
 ·obtain ⟨a, ns, k, z, rfl, _⟩ := h
  rfl
 ·obtain ⟨a, ns, k, z, rfl, hS, hz, q⟩ := h
  refine ⟨_, (pss_cons (ps_if (pt_cmpR (o_eqU hu) (fv 2) (pe_int) (nomark _))
   (pss_one (ps_ret (pe_callD D_law_number hr (pa_cons (pe_callD D_law_cell_at hr (pa_cons (fv 0) (pa_cons (pe_op o_add (pe_int) (fv 1)) pa_nil))) pa_nil))))
   pss_nil)
  (pss_cons (ps_set (i := 3) sc_law_gift.nd rfl (Or.inl rfl) (pe_lst (pa_nil)))
  (pss_cons (ps_for PassesOwn.never rfl (pi_range1 rfl T.z_range (pa_cons (fv 2) pa_nil)) (pg_name (i := 4) sc_law_gift.nd rfl (by first | exact Or.inl rfl | exact Or.inr rfl))
   (pss_one (ps_expr (m_append (fv 3) (pa_cons (pe_callD D_law_number hr (pa_cons (pe_op o_add (pe_op o_fdiv (pe_callD D_law_cell_at hr (pa_cons (fv 0) (pa_cons (pe_op o_add (pe_int) (fv 1)) pa_nil))) (pe_op o_add (fv 4) (pe_int))) (pe_op o_mulA (pe_op o_mulA (fv 4) (fv 4)) (pe_int))) pa_nil)) pa_nil)))))
  (pss_one (ps_ret (fv 3)))))), ?_⟩
  refine ⟨rfl, _, rfl, ?_⟩
  rw [vint]
  by_cases z0 : z = 0
  ·rw [decide_eq_true (show (z : Int) = 0 by omega)]
   refine iteT ?_
   refine ⟨a, ns, _, rfl, hS, by omega, _, rfl, q _ _ (Same.refl _) ?_⟩
   unfold giftC
   rw [if_pos z0]
   rfl
  ·rw [decide_eq_false (show ¬ (z : Int) = 0 by omega)]
   refine iteF ?_
   refine ⟨Nat.zero_le _, fun l hl => ?_⟩
   have s1 := Same.upd hl (HO.lst [])
   have e1 : (upd H l (HO.lst [])) l = some (.lst []) := upd_same
   generalize upd H l (HO.lst []) = H1 at s1 e1 ⊢
   refine ⟨z, rfl, by omega, by omega, ?_⟩
   refine for_range (fun i σ H2 => Same H H2 ∧ H2 l = some (.lst (((List.range i).map fun j : Nat => numV (cellI ns (16 + k) / ((j : Int) + 1) + (j : Int) * (j : Int) * 48271)).map V.int)) ∧ ∃ v, σ = [some (.ref a), some (.int k), some (.int z), some (.ref l), v]) ⟨s1, e1, _, rfl⟩ ?_ ?_
   ·rintro i σ H2 hi ⟨s2, e2, v, rfl⟩
    have hi : i < z := by omega
    refine ⟨Or.inl ⟨rfl, _, SqL.of e2⟩, a, ns, _, rfl, s2.seq hS, by omega, ⟨by omega, by omega⟩, .inl ⟨by omega, by omega⟩, .inr ⟨by decide, by decide⟩, _, rfl, _, _, _, rfl, rfl, e2, small1000 (by rw [List.length_map, List.length_map, List.length_range]; omega), ?_⟩
    refine ⟨Same.out s2 hl _, ?_, _, rfl⟩
    rw [upd_same, List.range_succ, List.map_append, List.map_append]
    rw [Int.zero_add]
    rfl
   ·rintro σ H2 ⟨s2, e2, v, rfl⟩
    refine q _ _ s2 ?_
    unfold giftC
    rw [if_neg z0]
    exact ⟨l, rfl, hl, e2⟩
def szN (c : Int) : Nat := if c / 6 % 4 = 0 then 0 else if c / 6 % 4 = 1 then 1 else if c / 6 % 4 = 2 then 20 else (1 + c / 24 % 20).toNat
theorem szN_le (c : Int) : szN c ≤ 20 := by
 unfold szN
 split
 ·decide
 split
 ·decide
 split
 ·decide
 ·omega
theorem szN_at (c : Int) : atI [V.int 0, .int 1, .int 20, .int (1 + c / 24 % 20)] (c / 6 % 4) = some (.int (szN c)) := by
 unfold szN
 obtain ⟨m, hm, hm4⟩ : ∃ m : Nat, c / 6 % 4 = (m : Int) ∧ m < 4 := ⟨(c / 6 % 4).toNat, by omega, by omega⟩
 rw [hm]
 match m, hm4 with
 | 0, _ => rfl
 | 1, _ => rfl
 | 2, _ => rfl
 | 3, _ =>
  rw [if_neg (by decide), if_neg (by decide), if_neg (by decide)]
  have : (((1 + c / 24 % 20).toNat : Nat) : Int) = 1 + c / 24 % 20 := by omega
  rw [this]
  rfl
def hdOf (c : Int) : HD := if c % 6 = 4 then .hand (c / 6 % 3) else if c % 6 = 5 then .lett (c / 6 % 3) else if 1 < c % 6 then .own (szN c) else .given (c / 480 % 3) (szN c)
theorem hdOf_size (c : Int) : (hdOf c).size ≤ 20 := by
 unfold hdOf
 split
 ·exact Nat.zero_le _
 split
 ·exact Nat.zero_le _
 split
 ·exact szN_le c
 ·exact szN_le c
def sp_head (K : W.Frag) (A : Adr) : Sp := fun vs H Q _ => ∃ (a : Addr) (ns : List Int) (k : Nat), vs = [.ref a, .int k] ∧ SqL K H a (ns.map V.int) ∧ k ≤ 20 ∧ ∀ v H', Same H H' → HeadAt A (NX (cellI ns 1)) H' k v (hdOf (cellI ns (3 + k))) → Q v H'
theorem NX_nm {c : Int} {k : Nat} (h : k ≠ 24) : NX c k = nmV c k := if_neg h
theorem h_head (T : Txt K mg A) : Has P w K mg base 5 "_law_head" ["_law_script", "_law_k"] (sp_head K A) := by
 have D_law_cell_at := h_cell_at (P := P) (w := w) (base := base) T
 have D_law_name := h_name (P := P) (w := w) (base := base) T
 have D_HandRow_init := h_HandRow_init (P := P) (w := w) (base := base) T
 have D_LetRow_init := h_LetRow_init (P := P) (w := w) (base := base) T
 have D_OwnRow_init := h_OwnRow_init (P := P) (w := w) (base := base) T
 have D_GivenRow_init := h_GivenRow_init (P := P) (w := w) (base := base) T
 refine T.law_head.has (k := 4) sc_law_head (fun vs H Q E h => ?_) (fun f cdv A' outer s H vs Q E hr hu h => ?_)
 ·obtain ⟨a, ns, k, rfl, _⟩ := h
  rfl
 ·obtain ⟨a, ns, k, rfl, hS, hk, q⟩ := h
  refine ⟨_, (pss_cons (ps_set (i := 2) sc_law_head.nd rfl (Or.inl rfl) (pe_callD D_law_cell_at hr (pa_cons (fv 0) (pa_cons (pe_op o_add (pe_int) (fv 1)) pa_nil))))
  (pss_cons (ps_set (i := 3) sc_law_head.nd rfl (Or.inl rfl) (pe_callD D_law_name hr (pa_cons (pe_callD D_law_cell_at hr (pa_cons (fv 0) (pa_cons (pe_int) pa_nil))) (pa_cons (fv 1) pa_nil))))
  (pss_cons (ps_set (i := 4) sc_law_head.nd rfl (Or.inl rfl) (pe_ix (ix_all hu) (pe_lst (pa_cons (pe_int) (pa_cons (pe_int) (pa_cons (pe_int) (pa_cons (pe_op o_add (pe_int) (pe_op o_mod (pe_op o_fdiv (fv 2) (pe_int)) (pe_int))) pa_nil))))) (pe_op o_mod (pe_op o_fdiv (fv 2) (pe_int)) (pe_int)) (fun _ _ => rfl)))
  (pss_cons (ps_if (pt_cmpR (o_eqU hu) (pe_op o_mod (fv 2) (pe_int)) (pe_int) (nomark _))
   (pss_one (ps_ret (pe_makeD T.o_HandRow D_HandRow_init hr (pa_cons (pe_op o_add (fv 1) (pe_int)) (pa_cons (fv 3) (pa_cons (pe_op o_mod (pe_op o_fdiv (fv 2) (pe_int)) (pe_int)) pa_nil))))))
   pss_nil)
  (pss_cons (ps_if (pt_cmpR (o_eqU hu) (pe_op o_mod (fv 2) (pe_int)) (pe_int) (nomark _))
   (pss_one (ps_ret (pe_makeD T.o_LetRow D_LetRow_init hr (pa_cons (pe_op o_add (fv 1) (pe_int)) (pa_cons (fv 3) (pa_cons (pe_op o_mod (pe_op o_fdiv (fv 2) (pe_int)) (pe_int)) pa_nil))))))
   pss_nil)
  (pss_cons (ps_if (pt_cmpR (o_gt) (pe_op o_mod (fv 2) (pe_int)) (pe_int) (nomark _))
   (pss_one (ps_ret (pe_makeD T.o_OwnRow D_OwnRow_init hr (pa_cons (pe_op o_add (fv 1) (pe_int)) (pa_cons (fv 3) (pa_cons (fv 4) pa_nil))))))
   pss_nil)
  (pss_one (ps_ret (pe_makeD T.o_GivenRow D_GivenRow_init hr (pa_cons (pe_op o_add (fv 1) (pe_int)) (pa_cons (fv 3) (pa_cons (pe_op o_mod (pe_op o_fdiv (fv 2) (pe_int)) (pe_int)) (pa_cons (fv 4) pa_nil))))))))))))), ?_⟩
  refine ⟨a, ns, _, rfl, hS, by omega, ?_⟩
  refine ⟨a, ns, _, rfl, hS, by decide, cellI ns 1, k, rfl, by omega, fun H1 s1 => ?_⟩
  have q : ∀ v H', Same H1 H' → HeadAt A (NX (cellI ns 1)) H' k v (hdOf (cellI ns (3 + k))) → Q v H' := fun v H' s => q v H' (s1.trans s)
  rw [← NX_nm (c := cellI ns 1) (show k ≠ 24 by omega)]
  generalize cellI ns (3 + k) = c at q ⊢
  refine ⟨⟨by decide, by decide⟩, (by show (0 : Int) < 20; decide), (by show 4 ≤ sizeLine; decide), fun l hl => ?_⟩
  have s2 := Same.upd hl (HO.lst [V.int 0, .int 1, .int 20, .int (1 + c / 24 % 20)])
  have e2 : (upd H1 l (HO.lst [V.int 0, .int 1, .int 20, .int (1 + c / 24 % 20)])) l = some (.lst [V.int 0, .int 1, .int 20, .int (1 + c / 24 % 20)]) := upd_same
  generalize upd H1 l (HO.lst [V.int 0, .int 1, .int 20, .int (1 + c / 24 % 20)]) = H2 at s2 e2 ⊢
  refine ⟨⟨by decide, by decide⟩, (by show (0 : Int) < 4; decide), Or.inl ⟨_, _, Or.inl (SqL.of e2), szN_at c, ?_⟩⟩
  refine ⟨(by show (0 : Int) < 6; decide), rfl, _, rfl, ite2 (fun b => ?_) (fun b => ?_)⟩
  ·rw [vint, decide_eq_true_iff] at b
   refine ⟨⟨by decide, by decide⟩, (by show (0 : Int) < 3; decide), ?_⟩
   refine fun r dx hr hd_ hne_ => mk_HandRow hr hd_ fun H3 s3 hx => ⟨rfl, ?_⟩
   refine q _ _ (s2.trans s3) ?_
   unfold hdOf
   rw [if_pos b]
   exact ⟨_, _, _, rfl, hx⟩
  rw [vint, decide_eq_true_iff] at b
  refine ⟨(by show (0 : Int) < 6; decide), rfl, _, rfl, ite2 (fun b2 => ?_) (fun b2 => ?_)⟩
  ·rw [vint, decide_eq_true_iff] at b2
   refine ⟨⟨by decide, by decide⟩, (by show (0 : Int) < 3; decide), ?_⟩
   refine fun r dx hr hd_ hne_ => mk_LetRow hr hd_ fun H3 s3 hx => ⟨rfl, ?_⟩
   refine q _ _ (s2.trans s3) ?_
   unfold hdOf
   rw [if_neg b, if_pos b2]
   exact ⟨_, _, _, rfl, hx⟩
  rw [vint, decide_eq_true_iff] at b2
  refine ⟨(by show (0 : Int) < 6; decide), _, rfl, ite2 (fun b3 => ?_) (fun b3 => ?_)⟩
  ·have b3 : 1 < c % 6 := of_decide_eq_true b3
   refine fun r dx hr hd_ hne_ => mk_OwnRow hr hd_ fun H3 s3 hx => ⟨rfl, ?_⟩
   refine q _ _ (s2.trans s3) ?_
   unfold hdOf
   rw [if_neg b, if_neg b2, if_pos b3]
   exact ⟨_, _, _, rfl, hx⟩
  ·have b3 : ¬ 1 < c % 6 := fun z => b3 (decide_eq_true z)
   refine ⟨⟨by decide, by decide⟩, (by show (0 : Int) < 3; decide), ?_⟩
   refine fun r dx hr hd_ hne_ => mk_GivenRow hr hd_ fun H3 s3 hx => ⟨rfl, ?_⟩
   refine q _ _ (s2.trans s3) ?_
   unfold hdOf
   rw [if_neg b, if_neg b2, if_neg b3]
   exact ⟨_, _, _, rfl, hx⟩
end
end K21

set_option Elab.async false
set_option linter.all false
set_option maxRecDepth 100000
set_option maxHeartbeats 4000000
namespace K21
open PySem L2
section
variable {P : Program} {w : World} {K : W.Frag} {mg : Str → Option Value} {base : Heap} {A : Adr} {N : Nat → Str}
def hid (L : Addr) (H : Hp) : Hp := fun a => if a = L then none else H a
theorem hid_none (L : Addr) (H : Hp) : hid L H L = none := if_pos rfl
theorem hid_get {L a : Addr} {H : Hp} {o : HO} (h : H a = some o) (n : a ≠ L) : hid L H a = some o := by unfold hid; rw [if_neg n]; exact h
theorem hid_same {L : Addr} {H : Hp} : Same (hid L H) H := fun a o q => by
 unfold hid at q
 split at q
 ·cases q
 ·exact q
theorem hid_of {L : Addr} {H0 H : Hp} (h : H0 L = none) (s : Same H0 H) : Same H0 (hid L H) := fun a o q => hid_get (s a o q) fun z => by rw [z, h] at q; cases q
def pn (c : Int) (j : Nat) : Nat := (c / (if j = 0 then 3 else 15) % 5).toNat
theorem pn_le (c : Int) (j : Nat) : pn c j ≤ 4 := by unfold pn; omega
def kk (c : Int) (m : Nat) : Nat → Nat
 | 0 => m
 | j + 1 => kk c m j + 1 + pn c j
def ptAt (c : Int) (m j : Nat) : List Nat := (List.range (pn c j)).map fun i => kk c m j + 1 + i
def ptsOf (c : Int) (m j : Nat) : List (List Nat) := (List.range j).map (ptAt c m)
theorem kk_le (c : Int) (m : Nat) : ∀ j, m ≤ kk c m j ∧ kk c m j ≤ m + 5 * j
 | 0 => ⟨Nat.le_refl _, Nat.le_refl _⟩
 | j + 1 => by
  have := kk_le c m j
  have := pn_le c j
  show m ≤ kk c m j + 1 + pn c j ∧ kk c m j + 1 + pn c j ≤ _
  omega
def sp_deeds (K : W.Frag) (A : Adr) : Sp := fun vs H Q _ => ∃ (a : Addr) (ns : List Int) (m : Nat), vs = [.ref a, .int m] ∧ SqL K H a (ns.map V.int) ∧ m ≤ 12 ∧ ∀ L dv H', Same H H' → H' L = some (.lst dv) → PySem.Paired (DeedAt A (NX (cellI ns 1)) H') dv (ptsOf (cellI ns 2) m (cellI ns 2 % 3).toNat) → Q (.ref L) H'
theorem h_deeds (T : Txt K mg A) : Has P w K mg base 5 "_law_deeds" ["_law_script", "_law_many"] (sp_deeds K A) := by
 have D_law_cell_at := h_cell_at (P := P) (w := w) (base := base) T
 have D_law_name := h_name (P := P) (w := w) (base := base) T
 have D_DeedRow_init := h_DeedRow_init (P := P) (w := w) (base := base) T
 refine T.law_deeds.has (k := 4) sc_law_deeds (fun vs H Q E h => ?_) (fun f cdv A' outer s H vs Q E hr hu h => ?_)
 ·obtain ⟨a, ns, m, rfl, _⟩ := h
  rfl
 ·obtain ⟨a, ns, m, rfl, hS, hm, q⟩ := h
  refine ⟨_, (pss_cons (ps_set (i := 2) sc_law_deeds.nd rfl (Or.inl rfl) (pe_lst (pa_nil)))
  (pss_cons (ps_set (i := 3) sc_law_deeds.nd rfl (Or.inl rfl) (pe_op o_add (fv 1) (pe_int)))
  (pss_cons (ps_set (i := 4) sc_law_deeds.nd rfl (Or.inl rfl) (fv 1))
  (pss_cons (ps_for PassesOwn.never rfl (pi_range1 rfl T.z_range (pa_cons (pe_op o_mod (pe_callD D_law_cell_at hr (pa_cons (fv 0) (pa_cons (pe_int) pa_nil))) (pe_int)) pa_nil)) (pg_name (i := 5) sc_law_deeds.nd rfl (by first | exact Or.inl rfl | exact Or.inr rfl))
   (pss_cons (ps_set (i := 6) sc_law_deeds.nd rfl (Or.inl rfl) (pe_lst (pa_nil)))
   (pss_cons (ps_for PassesOwn.never rfl (pi_range1 rfl T.z_range (pa_cons (pe_op o_mod (pe_op o_fdiv (pe_callD D_law_cell_at hr (pa_cons (fv 0) (pa_cons (pe_int) pa_nil))) (pe_ix (ix_all hu) (pe_lst (pa_cons (pe_int) (pa_cons (pe_int) pa_nil))) (fv 5) (fun _ _ => rfl))) (pe_int)) pa_nil)) (pg_name (i := 7) sc_law_deeds.nd rfl (by first | exact Or.inl rfl | exact Or.inr rfl))
    (pss_one (ps_expr (m_append (fv 6) (pa_cons (pe_callD D_law_name hr (pa_cons (pe_callD D_law_cell_at hr (pa_cons (fv 0) (pa_cons (pe_int) pa_nil))) (pa_cons (pe_op o_add (pe_op o_add (fv 4) (pe_int)) (fv 7)) pa_nil))) pa_nil)))))
   (pss_cons (ps_expr (m_append (fv 2) (pa_cons (pe_makeD T.o_DeedRow D_DeedRow_init hr (pa_cons (fv 3) (pa_cons (pe_callD D_law_name hr (pa_cons (pe_callD D_law_cell_at hr (pa_cons (fv 0) (pa_cons (pe_int) pa_nil))) (pa_cons (fv 4) pa_nil))) (pa_cons (fv 6) (pa_cons (pe_lst (pa_nil)) pa_nil))))) pa_nil)))
   (pss_cons (ps_set (i := 4) sc_law_deeds.nd rfl (Or.inl rfl) (pe_op o_add (pe_op o_add (fv 4) (pe_int)) (pe_callB c_lenA rfl T.z_len (by boot_by_name) (pa_cons (fv 6) pa_nil))))
   (pss_one (ps_set (i := 3) sc_law_deeds.nd rfl (Or.inl rfl) (pe_op o_add (fv 3) (pe_int)))))))))
  (pss_one (ps_ret (fv 2))))))), ?_⟩
  refine ⟨Nat.zero_le _, fun L hL => ?_⟩
  have s1 := Same.upd hL (HO.lst [])
  have e1 : (upd H L (HO.lst [])) L = some (.lst []) := upd_same
  generalize upd H L (HO.lst []) = H1 at s1 e1 ⊢
  refine ⟨a, ns, _, rfl, s1.seq hS, by decide, (by show (0 : Int) < 3; decide), ?_⟩
  have hS' := hS
  generalize hc1 : cellI ns 1 = c1 at q
  generalize hc2 : cellI ns 2 = c at q
  have m3 := mod_in c (show (0 : Int) < 3 by decide)
  refine ⟨c % 3, rfl, by omega, by omega, ?_⟩
  refine for_range (fun j σ H2 => (∃ H0 dv, Same H H0 ∧ Same H0 H2 ∧ H0 L = none ∧ H2 L = some (.lst dv) ∧ PySem.Paired (DeedAt A (NX c1) H0) dv (ptsOf c m j)) ∧ ∃ x v5 v6 v7, σ = [some (.ref a), some (.int m), some (.ref L), some (.int x), some (.int (kk c m j : Nat)), v5, v6, v7]) ⟨⟨H, [], Same.refl _, s1, hL, e1, .nil⟩, _, _, _, _, rfl⟩ ?_ ?_
  ·rintro j σ H2 hj ⟨⟨H0, dv, s0, s2, L0, eL, pr⟩, x, v5, v6, v7, rfl⟩
   have hj : j < 2 := by omega
   have kb := kk_le c m j
   have pb := pn_le c j
   have sa := s0.trans s2
   have pl : dv.length = j := by
    have := Paired.length pr
    unfold ptsOf at this
    rw [List.length_map, List.length_range] at this
    exact this
   refine ⟨Nat.zero_le _, fun ps hps => ?_⟩
   have s3 := Same.upd hps (HO.lst [])
   have e3 : (upd H2 ps (HO.lst [])) ps = some (.lst []) := upd_same
   generalize upd H2 ps (HO.lst []) = H3 at s3 e3 ⊢
   refine ⟨a, ns, _, rfl, (sa.trans s3).seq hS, by decide, (by show 2 ≤ sizeLine; decide), fun l hl => ?_⟩
   have s4 := Same.upd hl (HO.lst [V.int 3, .int 15])
   have e4 : (upd H3 l (HO.lst [V.int 3, .int 15])) l = some (.lst [V.int 3, .int 15]) := upd_same
   generalize upd H3 l (HO.lst [V.int 3, .int 15]) = H4 at s4 e4 ⊢
   have at2 : atI [V.int 3, .int 15] (0 + (j : Int)) = some (.int (if j = 0 then 3 else 15)) := by
    match j, hj with
    | 0, _ => rfl
    | 1, _ => rfl
   refine Or.inl ⟨_, _, Or.inl (SqL.of e4), at2, ⟨by split <;> decide, by split <;> decide⟩, (by show (0 : Int) < 5; decide), ?_⟩
   have m5 := mod_in (c / (if j = 0 then 3 else 15)) (show (0 : Int) < 5 by decide)
   refine ⟨c / (if j = 0 then 3 else 15) % 5, by rw [hc2], by omega, by omega, ?_⟩
   have s24 := s3.trans s4
   refine for_range (fun i σ H5 => Same H2 H5 ∧ H5 ps = some (.lst ((List.range i).map fun t => .str (NX c1 (kk c m j + 1 + t)))) ∧ ∃ v7, σ = [some (.ref a), some (.int m), some (.ref L), some (.int x), some (.int (kk c m j : Nat)), some (.int (0 + (j : Int))), some (.ref ps), v7]) ⟨s24, s4 _ _ e3, _, rfl⟩ ?_ ?_
   ·rintro i σ H5 hi ⟨s5, e5, v7, rfl⟩
    have hi : i < 4 := by
     have : (c / (if j = 0 then 3 else 15) % 5).toNat ≤ 4 := by omega
     omega
    refine ⟨Or.inl ⟨rfl, _, SqL.of e5⟩, a, ns, _, rfl, (sa.trans s5).seq hS, by decide, cellI ns 1, kk c m j + 1 + i, ?_, by omega, fun H6 s6 => ?_⟩
    ·rw [show (((kk c m j + 1 + i : Nat) : Int)) = ((kk c m j : Nat) : Int) + 1 + (0 + (i : Int)) by omega]
     rfl
    ·refine ⟨_, _, _, rfl, rfl, s6 _ _ e5, small1000 (by rw [List.length_map, List.length_range]; omega), ?_⟩
     refine ⟨Same.out (s5.trans s6) hps _, ?_, _, rfl⟩
     rw [upd_same, List.range_succ, List.map_append, hc1]
     show _ = some (HO.lst (_ ++ [V.str (NX c1 (kk c m j + 1 + i))]))
     rw [NX_nm (show kk c m j + 1 + i ≠ 24 by omega)]
   ·rintro σ H5 ⟨s5, e5, v7, rfl⟩
    have sa5 := sa.trans s5
    refine ⟨Or.inl ⟨rfl, _, SqL.of (s5 _ _ eL)⟩, a, ns, _, rfl, sa5.seq hS, by decide, cellI ns 1, kk c m j, rfl, by omega, fun H6 s6 => ?_⟩
    refine ⟨Nat.zero_le _, fun bl hbl => ?_⟩
    have s7 := s6.trans (Same.upd hbl (HO.lst []))
    have e7 : (upd H6 bl (HO.lst [])) bl = some (.lst []) := upd_same
    generalize upd H6 bl (HO.lst []) = H7 at s7 e7 ⊢
    have s27 := s5.trans s7
    refine fun r dx hr hd_ hne_ => mk_DeedRow (SqL.of (s7 _ _ e5)) (SqL.of e7) hr hd_ fun n1 n2 H8 hn1 hn2 s8 hl1 hl2 hx => ⟨rfl, ?_⟩
    have eL8 := s8 _ _ (s27 _ _ eL)
    refine ⟨_, _, _, rfl, rfl, eL8, small1000 (by omega), ?_⟩
    have eLs := s27 _ _ eL
    have rL : r ≠ L := fun z => by rw [z, eLs] at hr; cases hr
    have nL : n1 ≠ L := fun z => by rw [z, eLs] at hn1; cases hn1
    have s08 := s2.trans (s27.trans s8)
    refine Or.inl ⟨_, _, rfl, Or.inl ⟨_, SqL.of (?_ : (upd H8 L (HO.lst (dv ++ [V.ref r]))) ps = some (.lst ((List.range (c / (if j = 0 then 3 else 15) % 5).toNat).map fun t => .str (NX c1 (kk c m j + 1 + t))))), rfl⟩, ?_⟩
    ·rw [upd_ne (fun z => by rw [z] at hps; rw [eL] at hps; cases hps)]
     exact s8 _ _ (s7 _ _ e5)
    refine ⟨⟨hid L H8, dv ++ [.ref r], s0.trans (hid_of L0 s08), Same.out hid_same (hid_none _ _) _, hid_none _ _, upd_same, ?_⟩, x + 2, some (.int (0 + (j : Int))), some (.ref ps), v7, ?_⟩
    ·unfold ptsOf
     rw [List.range_succ, List.map_append]
     refine PySem.Paired.snoc (Paired.mapP pr fun _ _ h => h.same (hid_of L0 s08)) ⟨r, dx, n1, n2, x, kk c m j, rfl, by omega, hid_get ?_ rL, hid_get ?_ nL⟩
     ·rw [hx, hc1, NX_nm (show kk c m j ≠ 24 by omega)]
     ·rw [hl1]
      unfold ptAt
      rw [List.map_map]
      rfl
    ·rw [List.length_map, List.length_range]
     have : ((kk c m (j + 1) : Nat) : Int) = ((kk c m j : Nat) : Int) + 1 + ((c / (if j = 0 then 3 else 15) % 5).toNat : Nat) := by
      show (((kk c m j + 1 + pn c j : Nat)) : Int) = _
      unfold pn
      omega
     rw [this]
     rfl
  ·rintro σ H2 ⟨⟨H0, dv, s0, s2, L0, eL, pr⟩, x, v5, v6, v7, rfl⟩
   exact q L dv _ (s0.trans s2) eL (Paired.mapP pr fun _ _ h => h.same s2)
end
end K21

set_option Elab.async false
set_option linter.all false
set_option maxRecDepth 100000
set_option maxHeartbeats 4000000
namespace K21
open PySem L2
section
variable {P : Program} {w : World} {K : W.Frag} {mg : Str → Option Value} {base : Heap} {A : Adr} {N : Nat → Str}
def GG (ns : List Int) (hd : List HD) (k : Nat) : Cl := match hd[k]? with
 | some h => giftC ns k h.size
 | none => .num 0
def gOf (ns : List Int) (hd : List HD) (k : Nat) : Cl := match hd[k]? with
 | some h => giftC ns k h.size
 | none => .num 5
def gstep (ns : List Int) (hd : List HD) (l : List Nat) (k : Nat) : List Nat := match hd[k]? with
 | some (.given _ _) => ins l k
 | some (.own _) => if cellI ns (16 + k) % 2 = 1 then ins l k else l
 | _ => l
def gh (ns : List Int) (hd : List HD) (i : Nat) : List Nat := (List.range i).foldl (gstep ns hd) []
theorem gh_succ (ns : List Int) (hd : List HD) (i : Nat) : gh ns hd (i + 1) = gstep ns hd (gh ns hd i) i := by
 unfold gh
 rw [List.range_succ, List.foldl_append]
 rfl
def gix (ns : List Int) (hd : List HD) (pts : List (List Nat)) (i : Nat) : List Nat := (pts.take i).foldl (fun l pt => pt.foldl ins l) (gh ns hd hd.length)
theorem CellsD.up {H H2 : Hp} {g d : Addr} {l : List Nat} {D : Nat → Cl} (h : CellsD N H H2 g l D) (n : g ≠ d) {kv : List (Key × V)} (hd : H2 d = some (.dK kv)) (o : HO) : CellsD N H (upd H2 d o) g l D := by
 obtain ⟨f, h1, h2, h3⟩ := h
 exact ⟨f, by rw [upd_ne n]; exact h1, h2, fun j hj => (h3 j hj).up hd o⟩
theorem CellsD.same {H H2 H3 : Hp} {g : Addr} {l : List Nat} {D : Nat → Cl} (h : CellsD N H H2 g l D) (s : Same H2 H3) : CellsD N H H3 g l D := by
 obtain ⟨f, h1, h2, h3⟩ := h
 exact ⟨f, s _ _ h1, h2, fun j hj => (h3 j hj).same s⟩
structure Two (N : Nat → Str) (H H2 : Hp) (d g : Addr) (l m : List Nat) (D E : Nat → Cl) : Prop where
 s : Same H H2
 d0 : H d = none
 g0 : H g = none
 n : d ≠ g
 d : CellsD N H H2 d l D
 g : CellsD N H H2 g m E
theorem Two.same {H H2 H3 : Hp} {d g : Addr} {l m : List Nat} {D E : Nat → Cl} (t : Two N H H2 d g l m D E) (s : Same H2 H3) : Two N H H3 d g l m D E := ⟨t.s.trans s, t.d0, t.g0, t.n, t.d.same s, t.g.same s⟩
theorem Two.putD (Di : Dist N) {H H2 H3 : Hp} {d g : Addr} {l m : List Nat} {D E : Nat → Cl} (t : Two N H H2 d g l m D E) (s : Same H2 H3) {i : Nat} (hi : i < 25) (hl : l.length ≤ 100) {v : V} (hv : NewAt H2 H3 v (D i)) :
  ∃ o, DPut H3 d (.str (N i)) v (upd H3 d o) ∧ Two N H (upd H3 d o) d g (ins l i) m D E := by
 obtain ⟨o, h1, h2⟩ := t.d.put Di s hi hl (hv.from t.s)
 obtain ⟨f, e1, _⟩ := t.d.same s
 exact ⟨o, h1, Same.out (t.s.trans s) t.d0 _, t.d0, t.g0, t.n, h2, (t.g.same s).up (Ne.symm t.n) e1 _⟩
theorem Two.putG (Di : Dist N) {H H2 H3 : Hp} {d g : Addr} {l m : List Nat} {D E : Nat → Cl} (t : Two N H H2 d g l m D E) (s : Same H2 H3) {i : Nat} (hi : i < 25) (hl : m.length ≤ 100) {v : V} (hv : NewAt H2 H3 v (E i)) :
  ∃ o, DPut H3 g (.str (N i)) v (upd H3 g o) ∧ Two N H (upd H3 g o) d g l (ins m i) D E := by
 obtain ⟨o, h1, h2⟩ := t.g.put Di s hi hl (hv.from t.s)
 obtain ⟨f, e1, _⟩ := t.g.same s
 exact ⟨o, h1, Same.out (t.s.trans s) t.g0 _, t.d0, t.g0, t.n, (t.d.same s).up t.n e1 _, h2⟩
def sp_dues (K : W.Frag) (A : Adr) (N : Nat → Str) : Sp := fun vs H Q _ => ∃ (hl dl a : Addr) (hv dv : List V) (hd : List HD) (pts : List (List Nat)) (ns : List Int), vs = [.ref hl, .ref dl, .ref a] ∧ H hl = some (.lst hv) ∧ H dl = some (.lst dv) ∧ HeadsAt A N H hv hd ∧ PySem.Paired (DeedAt A N H) dv pts ∧ Hds hd pts ∧ SqL K H a (ns.map V.int) ∧
 ∀ T d g H', H' T = some (.tup [.ref d, .ref g]) → Two N H H' d g (cix hd pts pts.length) (gix ns hd pts pts.length) (cellOf hd (GG ns hd)) (gOf ns hd) → (gix ns hd pts pts.length).length ≤ 50 → Q (.ref T) H'
theorem h_dues (T : Txt K mg A) (Di : Dist N) : Has P w K mg base 3 "_law_dues" ["_law_heads", "_law_deeds_here", "_law_script"] (sp_dues K A N) := by
 have D_law_cell_at := h_cell_at (P := P) (w := w) (base := base) T
 have D_law_gift := h_gift (P := P) (w := w) (base := base) T
 refine T.law_dues.has (k := 2) sc_law_dues (fun vs H Q E h => ?_) (fun f cdv A' outer s H vs Q E hr hu h => ?_)
 ·obtain ⟨hl, dl, a, hv, dv, hd, pts, ns, rfl, _⟩ := h
  rfl
 ·obtain ⟨hl, dl, a, hv, dv, hd, pts, ns, rfl, ehl, edl, hh, pr, ok, hS, q⟩ := h
  have len := ok.len
  refine ⟨_, (pss_cons (ps_set (i := 3) sc_law_dues.nd rfl (Or.inl rfl) (pe_dnewK))
  (pss_cons (ps_set (i := 4) sc_law_dues.nd rfl (Or.inl rfl) (pe_dnewK))
  (pss_cons (ps_for PassesOwn.never rfl (pi_range1 rfl T.z_range (pa_cons (pe_callB c_lenA rfl T.z_len (by boot_by_name) (pa_cons (fv 0) pa_nil)) pa_nil)) (pg_name (i := 5) sc_law_dues.nd rfl (by first | exact Or.inl rfl | exact Or.inr rfl))
   (pss_cons (ps_set (i := 6) sc_law_dues.nd rfl (Or.inl rfl) (pe_ix (ix_all hu) (fv 0) (fv 5) (fun _ _ => rfl)))
   (pss_one (ps_if (pt_tru (pe_callB c_isinst rfl T.z_isinstance (by boot_by_name) (pa_cons (fv 6) (pa_cons (pe_gtup T.o_GivenRow.mg) pa_nil))) (fun _ => rfl))
    (pss_cons (ps_asg (pe_callD D_law_gift hr (pa_cons (fv 2) (pa_cons (fv 5) (pa_cons (pe_fld (fv 6) rfl) pa_nil)))) (pg_sub (fv 3) (pe_fld (fv 6) rfl) (st_all hu set_list)))
    (pss_one (ps_asg (pe_callD D_law_gift hr (pa_cons (fv 2) (pa_cons (fv 5) (pa_cons (pe_fld (fv 6) rfl) pa_nil)))) (pg_sub (fv 4) (pe_fld (fv 6) rfl) (st_all hu set_list)))))
    (pss_one (ps_if (pt_tru (pe_callB c_isinst rfl T.z_isinstance (by boot_by_name) (pa_cons (fv 6) (pa_cons (pe_gtup T.o_OwnRow.mg) pa_nil))) (fun _ => rfl))
     (pss_cons (ps_asg (pe_ix (ix_all hu) (pe_lst (pa_cons (pe_int) (pa_cons (pe_op o_mulA (pe_lst (pa_cons (pe_int) pa_nil)) (pe_fld (fv 6) rfl)) pa_nil))) (pe_callTy c_intB rfl T.z_int (by boot_by_name) (pa_cons (pe_cmpR (o_gt) (pe_fld (fv 6) rfl) (pe_int) (nomark _)) pa_nil)) (fun _ _ => rfl)) (pg_sub (fv 3) (pe_fld (fv 6) rfl) (st_all hu set_list)))
     (pss_one (ps_if (pt_cmpR (o_eqU hu) (pe_op o_mod (pe_callD D_law_cell_at hr (pa_cons (fv 2) (pa_cons (pe_op o_add (pe_int) (fv 5)) pa_nil))) (pe_int)) (pe_int) (nomark _))
      (pss_one (ps_asg (pe_callD D_law_gift hr (pa_cons (fv 2) (pa_cons (fv 5) (pa_cons (pe_fld (fv 6) rfl) pa_nil)))) (pg_sub (fv 4) (pe_fld (fv 6) rfl) (st_all hu set_list))))
      pss_nil)))
     pss_nil))))))
  (pss_cons (ps_for PassesOwn.never rfl (pi_any (fv 1)) (pg_name (i := 7) sc_law_dues.nd rfl (by first | exact Or.inl rfl | exact Or.inr rfl))
   (pss_one (ps_for PassesOwn.never rfl (pi_any (pe_fld (fv 7) rfl)) (pg_name (i := 8) sc_law_dues.nd rfl (by first | exact Or.inl rfl | exact Or.inr rfl))
    (pss_cons (ps_asg (pe_int) (pg_sub (fv 3) (fv 8) (st_all hu set_list)))
    (pss_one (ps_asg (pe_int) (pg_sub (fv 4) (fv 8) (st_all hu set_list))))))))
  (pss_one (ps_ret (pe_tup (pa_cons (fv 3) (pa_cons (fv 4) pa_nil))))))))), ?_⟩
  refine fun d hd0 => ?_
  have s1 := Same.upd hd0 (HO.dK [])
  have e1 : (upd H d (HO.dK [])) d = some (.dK []) := upd_same
  generalize upd H d (HO.dK []) = H1 at s1 e1 ⊢
  refine fun g hg0 => ?_
  have dg : d ≠ g := fun z => by rw [← z, e1] at hg0; cases hg0
  have T0 : Two N H (upd H1 g (HO.dK [])) d g [] [] (cellOf hd (GG ns hd)) (gOf ns hd) := ⟨s1.trans (Same.upd hg0 _), hd0, Same.free s1 hg0, dg, ⟨fun _ => .non, Same.upd hg0 _ _ _ e1, fun _ h => (by cases h), fun _ h => (by cases h)⟩, ⟨fun _ => .non, upd_same, fun _ h => (by cases h), fun _ h => (by cases h)⟩⟩
  generalize upd H1 g (HO.dK []) = H2 at T0 ⊢
  refine Or.inl ⟨_, _, rfl, Or.inl ⟨_, SqL.of (T0.s _ _ ehl), rfl⟩, (hv.length : Int), rfl, by omega, by rw [hh.1]; omega, ?_⟩
  refine for_range (fun i σ H3 => Two N H H3 d g (hix hd i) (gh ns hd i) (cellOf hd (GG ns hd)) (gOf ns hd) ∧ (hix hd i).length ≤ i ∧ (gh ns hd i).length ≤ i ∧ ∃ v5 v6, σ = [some (.ref hl), some (.ref dl), some (.ref a), some (.ref d), some (.ref g), v5, v6, none, none]) ⟨T0, Nat.le_refl _, Nat.le_refl _, _, _, rfl⟩ ?_ ?_
  ·rintro i σ H3 hi ⟨T3, l1, l2, v5, v6, rfl⟩
   have hi : i < hv.length := by omega
   have hvi := List.getElem?_eq_getElem hi
   obtain ⟨h, hdi, hat⟩ := hh.2 i _ hvi
   have hat := hat.same T3.s
   rw [hh.1] at hi
   have zs := ok.zs h (List.mem_of_getElem? hdi)
   have i25 : i < 25 := by omega
   have a1 : atI hv (0 + (i : Int)) = some hv[i] := by rw [Int.zero_add]; exact atI_nat hvi
   have arg : ∀ z : Nat, [V.ref a, .int (0 + (i : Int)), .int z] = [V.ref a, .int (i : Nat), .int z] := fun z => by rw [Int.zero_add]
   have sS : ∀ {H4 : Hp}, Same H3 H4 → SqL K H4 a (ns.map V.int) := fun s => (T3.s.trans s).seq hS
   refine Or.inl ⟨_, _, Or.inl (SqL.of (T3.s _ _ ehl)), a1, ?_⟩
   rw [hix_succ, gh_succ]
   unfold hstep isC gstep
   rw [hdi]
   cases h with
   | given rk z =>
    obtain ⟨r, dx, m, e, ha⟩ := hat
    rw [e]
    refine ⟨_, _, _, true, rfl, (fun z => by cases z), T.o_GivenRow.tyOf ha, kitT T.o_GivenRow, true, rfl, iteT ?_⟩
    refine ⟨r, _, dx, _, _, rfl, ha, T.o_GivenRow.cl, T.n_GivenRow_size, rfl, a, ns, i, z, arg z, sS (Same.refl _), zs, fun v H4 s4 hn => ?_⟩
    have hn : NewAt H3 H4 v (cellOf hd (GG ns hd) i) := by
     unfold cellOf GG
     rw [hdi]
     exact hn
    obtain ⟨o, dp, T5⟩ := T3.putD Di s4 i25 (by omega) hn
    refine ⟨r, _, dx, _, _, rfl, s4 _ _ ha, T.o_GivenRow.cl, T.n_GivenRow_name, rfl, _, dp, ?_⟩
    obtain ⟨f3, e3, _⟩ := T3.d
    have hrd : r ≠ d := fun z => by rw [z, e3] at ha; cases ha
    have ha5 : (upd H4 d o) r = some (.ins A.GivenRow dx [("number", .int m), ("name", .str (N i)), ("rank", .int rk), ("size", .int z)]) := by rw [upd_ne hrd]; exact s4 _ _ ha
    generalize upd H4 d o = H5 at T5 ha5 ⊢
    refine ⟨r, _, dx, _, _, rfl, ha5, T.o_GivenRow.cl, T.n_GivenRow_size, rfl, a, ns, i, z, arg z, T5.s.seq hS, zs, fun v H6 s6 hn => ?_⟩
    have hn : NewAt H5 H6 v (gOf ns hd i) := by
     unfold gOf
     rw [hdi]
     exact hn
    obtain ⟨o, dp, T7⟩ := T5.putG Di s6 i25 (by omega) hn
    refine ⟨r, _, dx, _, _, rfl, s6 _ _ ha5, T.o_GivenRow.cl, T.n_GivenRow_name, rfl, _, dp, ?_⟩
    have := ins_len (hix hd i) i
    have := ins_len (gh ns hd i) i
    exact ⟨T7, by show (ins (hix hd i) i).length ≤ _; omega, by show (ins (gh ns hd i) i).length ≤ _; omega, _, _, rfl⟩
   | own z =>
    obtain ⟨r, dx, m, e, ha⟩ := hat
    rw [e]
    refine ⟨_, _, _, false, rfl, (fun z => by cases z), T.o_OwnRow.tyOf ha, kitF T.o_OwnRow T.o_GivenRow (cls_ne T 2 3) (cls_ne T 2 0), false, rfl, iteF ?_⟩
    refine ⟨_, _, _, true, rfl, (fun z => by cases z), T.o_OwnRow.tyOf ha, kitT T.o_OwnRow, true, rfl, iteT ?_⟩
    refine ⟨by show 1 ≤ sizeLine; decide, fun l hl => ?_⟩
    have s4 := Same.upd hl (HO.lst [V.int 0])
    have e4 : (upd H3 l (HO.lst [V.int 0])) l = some (.lst [V.int 0]) := upd_same
    generalize upd H3 l (HO.lst [V.int 0]) = H4 at s4 e4 ⊢
    have z20 : z ≤ 20 := zs
    refine ⟨r, _, dx, _, _, rfl, s4 _ _ ha, T.o_OwnRow.cl, T.n_OwnRow_size, rfl, _, e4, by omega, by omega, ?_, fun p hp => ?_⟩
    ·show 1 * ((z : Int)).toNat ≤ sizeLine
     have := sz (show z ≤ 1000 by omega)
     omega
    have s5 := Same.upd hp (HO.lst (List.replicate ((z : Int)).toNat [V.int 0]).flatten)
    have e5 : (upd H4 p (HO.lst (List.replicate ((z : Int)).toNat [V.int 0]).flatten)) p = some (.lst ((zeros z).map V.int)) := by
     rw [upd_same, ← zeros_flat]
     rfl
    generalize upd H4 p (HO.lst (List.replicate ((z : Int)).toNat [V.int 0]).flatten) = H5 at s5 e5 ⊢
    refine ⟨by show 2 ≤ sizeLine; decide, fun l2 hl2 => ?_⟩
    have s6 := Same.upd hl2 (HO.lst [V.int 0, .ref p])
    have e6 : (upd H5 l2 (HO.lst [V.int 0, .ref p])) l2 = some (.lst [V.int 0, .ref p]) := upd_same
    generalize upd H5 l2 (HO.lst [V.int 0, .ref p]) = H6 at s6 e6 ⊢
    have s36 := (s4.trans s5).trans s6
    refine ⟨r, _, dx, _, _, rfl, s36 _ _ ha, T.o_OwnRow.cl, T.n_OwnRow_size, rfl, _, rfl, ?_⟩
    obtain ⟨v, av, hn⟩ : ∃ v, atI [V.int 0, .ref p] (if decide ((z : Int) > 0) = true then 1 else 0) = some v ∧ NewAt H3 H6 v (cellOf hd (GG ns hd) i) := by
     unfold cellOf
     rw [hdi]
     show ∃ v, _ ∧ NewAt H3 H6 v (ownCl z)
     unfold ownCl
     by_cases z0 : z = 0
     ·rw [if_pos z0, decide_eq_false (by omega)]
      exact ⟨_, rfl, rfl⟩
     ·rw [if_neg z0, decide_eq_true (by omega)]
      exact ⟨_, rfl, p, rfl, Same.free s4 hp, s6 _ _ e5⟩
    refine Or.inl ⟨_, v, Or.inl (SqL.of e6), av, ?_⟩
    obtain ⟨o, dp, T7⟩ := T3.putD Di s36 i25 (by omega) hn
    refine ⟨r, _, dx, _, _, rfl, s36 _ _ ha, T.o_OwnRow.cl, T.n_OwnRow_name, rfl, _, dp, ?_⟩
    obtain ⟨f3, e3, _⟩ := T3.d
    have hrd : r ≠ d := fun z => by rw [z, e3] at ha; cases ha
    have ha7 : (upd H6 d o) r = some (.ins A.OwnRow dx [("number", .int m), ("name", .str (N i)), ("size", .int z)]) := by rw [upd_ne hrd]; exact s36 _ _ ha
    generalize upd H6 d o = H7 at T7 ha7 ⊢
    have i1 := ins_len (hix hd i) i
    have i2 := ins_len (gh ns hd i) i
    refine ⟨a, ns, _, rfl, T7.s.seq hS, by omega, (by show (0 : Int) < 2; decide), rfl, _, rfl, ite2 (fun b => ?_) (fun b => ?_)⟩
    ·rw [vint, decide_eq_true_iff, Int.zero_add] at b
     refine ⟨r, _, dx, _, _, rfl, ha7, T.o_OwnRow.cl, T.n_OwnRow_size, rfl, a, ns, i, z, arg z, T7.s.seq hS, zs, fun v H8 s8 hn => ?_⟩
     have hn : NewAt H7 H8 v (gOf ns hd i) := by
      unfold gOf
      rw [hdi]
      exact hn
     obtain ⟨o, dp, T9⟩ := T7.putG Di s8 i25 (by omega) hn
     refine ⟨r, _, dx, _, _, rfl, s8 _ _ ha7, T.o_OwnRow.cl, T.n_OwnRow_name, rfl, _, dp, ?_⟩
     dsimp only
     rw [if_pos b]
     exact ⟨T9, by show (ins (hix hd i) i).length ≤ _; omega, by omega, _, _, rfl⟩
    ·rw [vint, decide_eq_true_iff, Int.zero_add] at b
     dsimp only
     rw [if_neg b]
     exact ⟨T7, by show (ins (hix hd i) i).length ≤ _; omega, by omega, _, _, rfl⟩
   | hand rk =>
    obtain ⟨r, dx, m, e, ha⟩ := hat
    rw [e]
    refine ⟨_, _, _, false, rfl, (fun z => by cases z), T.o_HandRow.tyOf ha, kitF T.o_HandRow T.o_GivenRow (cls_ne T 2 1) (cls_ne T 2 0), false, rfl, iteF ?_⟩
    refine ⟨_, _, _, false, rfl, (fun z => by cases z), T.o_HandRow.tyOf ha, kitF T.o_HandRow T.o_OwnRow (cls_ne T 3 1) (cls_ne T 3 0), false, rfl, iteF ?_⟩
    exact ⟨T3, Nat.le_succ_of_le l1, Nat.le_succ_of_le l2, _, _, rfl⟩
   | lett rk =>
    obtain ⟨r, dx, m, e, ha⟩ := hat
    rw [e]
    refine ⟨_, _, _, false, rfl, (fun z => by cases z), T.o_LetRow.tyOf ha, kitF T.o_LetRow T.o_GivenRow (cls_ne T 2 4) (cls_ne T 2 0), false, rfl, iteF ?_⟩
    refine ⟨_, _, _, false, rfl, (fun z => by cases z), T.o_LetRow.tyOf ha, kitF T.o_LetRow T.o_OwnRow (cls_ne T 3 4) (cls_ne T 3 0), false, rfl, iteF ?_⟩
    exact ⟨T3, Nat.le_succ_of_le l1, Nat.le_succ_of_le l2, _, _, rfl⟩
  ·rintro σ H3 ⟨T3, l1, l2, v5, v6, rfl⟩
   have eh : ((hv.length : Int)).toNat = hd.length := by have := hh.1; omega
   rw [eh] at T3 l1 l2
   refine Or.inl ⟨⟨_, SqL.of (T3.s _ _ edl)⟩, ?_⟩
   refine for_list (K := K) (xs := dv) (fun i σ H4 => Two N H H4 d g (cix hd pts i) (gix ns hd pts i) (cellOf hd (GG ns hd)) (gOf ns hd) ∧ (cix hd pts i).length ≤ 12 + 4 * i ∧ (gix ns hd pts i).length ≤ 12 + 4 * i ∧ ∃ v7 v8, σ = [some (.ref hl), some (.ref dl), some (.ref a), some (.ref d), some (.ref g), v5, v6, v7, v8]) ⟨T3, Nat.le_trans l1 len, Nat.le_trans l2 len, _, _, rfl⟩ (fun i σ H4 _ h => SqL.of (h.1.s _ _ edl)) ?_ ?_
   ·rintro i v σ H4 hvi ⟨T4, m1, m2, v7, v8, rfl⟩
    obtain ⟨pt, hpt, r, dx, pl, bl, m, x, rfl, _, ha, hpl⟩ := paired_get pr hvi
    obtain ⟨pl4, ptb⟩ := ok.pt pt (List.mem_of_getElem? hpt)
    have i2 : i < 2 := by have := (List.getElem?_eq_some_iff.mp hpt).1; have := ok.pl; omega
    have e3 : cix hd pts (i + 1) = pt.foldl ins (cix hd pts i) := fold_step _ _ hpt
    have e4 : gix ns hd pts (i + 1) = pt.foldl ins (gix ns hd pts i) := fold_step _ _ hpt
    refine ⟨r, _, dx, _, _, rfl, T4.s _ _ ha, T.o_DeedRow.cl, T.n_DeedRow_parts, rfl, Or.inl ⟨⟨_, SqL.of (T4.s _ _ hpl)⟩, ?_⟩⟩
    refine for_list (K := K) (xs := pt.map fun i => .str (N i)) (fun t σ H5 => Two N H H5 d g ((pt.take t).foldl ins (cix hd pts i)) ((pt.take t).foldl ins (gix ns hd pts i)) (cellOf hd (GG ns hd)) (gOf ns hd) ∧ ((pt.take t).foldl ins (cix hd pts i)).length ≤ 12 + 4 * i + t ∧ ((pt.take t).foldl ins (gix ns hd pts i)).length ≤ 12 + 4 * i + t ∧ ∃ v8, σ = [some (.ref hl), some (.ref dl), some (.ref a), some (.ref d), some (.ref g), v5, v6, some (.ref r), v8]) ⟨T4, m1, m2, _, rfl⟩ (fun i σ H4 _ h => SqL.of (h.1.s _ _ hpl)) ?_ ?_
    ·rintro t v σ H5 hvt ⟨T5, n1, n2, v8, rfl⟩
     rw [List.getElem?_map] at hvt
     cases ht : pt[t]? with
     | none => rw [ht] at hvt; cases hvt
     | some y =>
      rw [ht] at hvt
      have hvt := Option.some.inj hvt
      subst hvt
      obtain ⟨y1, y2⟩ := ptb y (List.mem_of_getElem? ht)
      have t4 : t < 4 := by have := (List.getElem?_eq_some_iff.mp ht).1; omega
      have hn : NewAt H5 H5 (.int 0) (cellOf hd (GG ns hd) y) := by
       unfold cellOf
       rw [List.getElem?_eq_none y1]
       rfl
      obtain ⟨o, dp, T6⟩ := T5.putD Di (Same.refl _) (show y < 25 by omega) (by omega) hn
      refine ⟨_, dp, ?_⟩
      have hn : NewAt (upd H5 d o) (upd H5 d o) (.int 5) (gOf ns hd y) := by
       unfold gOf
       rw [List.getElem?_eq_none y1]
       rfl
      obtain ⟨o, dp, T7⟩ := T6.putG Di (Same.refl _) (show y < 25 by omega) (by omega) hn
      refine ⟨_, dp, ?_⟩
      rw [fold_step _ _ ht, fold_step _ _ ht]
      have := ins_len ((pt.take t).foldl ins (cix hd pts i)) y
      have := ins_len ((pt.take t).foldl ins (gix ns hd pts i)) y
      exact ⟨T7, by omega, by omega, _, rfl⟩
    ·rintro σ H5 ⟨T5, n1, n2, v8, rfl⟩
     rw [List.length_map, List.take_length] at T5 n1 n2
     rw [e3, e4]
     exact ⟨T5, by omega, by omega, _, _, rfl⟩
   ·rintro σ H4 ⟨T4, m1, m2, v7, v8, rfl⟩
    have pl := Paired.length pr
    rw [pl] at T4 m1 m2
    have := ok.pl
    refine ⟨by show 2 ≤ sizeLine; decide, fun t ht => ?_⟩
    exact q t d g _ upd_same (T4.same (Same.upd ht _)) (by omega)
end
end K21

set_option Elab.async false
set_option linter.all false
set_option maxRecDepth 100000
set_option maxHeartbeats 4000000
namespace K21
open PySem L2
section
variable {P : Program} {w : World} {K : W.Frag} {mg : Str → Option Value} {base : Heap} {A : Adr} {N : Nat → Str}
theorem thaw_same {H H2 : Hp} {d : Addr} {o : Obj} {u : HO} (hd : H d = some u) (s : Same (upd H d (.frz o u)) H2) : Same H (upd H2 d u) := fun a q h => by
 by_cases e : a = d
 ·subst e
  rw [upd_same]
  rw [hd] at h
  exact h
 ·rw [upd_ne e]
  exact s a q (by rw [upd_ne e]; exact h)
theorem frz_get {H H2 : Hp} {d a : Addr} {o : Obj} {u v : HO} (s : Same (upd H d (.frz o u)) H2) (n : a ≠ d) (h : H a = some v) : H2 a = some v := s _ _ (by rw [upd_ne n]; exact h)
theorem frz_cl {H H2 : Hp} {d : Addr} {o : Obj} {kv : List (Key × V)} (hd : H d = some (.dK kv)) (s : Same (upd H d (.frz o (.dK kv))) H2) {v : V} {c : Cl} (h : ClAt H v c) : ClAt H2 v c := by
 cases c with
 | num n => exact h
 | lst rs =>
  obtain ⟨a, e, h⟩ := h
  exact ⟨a, e, frz_get s (fun z => by rw [z, hd] at h; cases h) h⟩
def lenOk : Cl → Prop
 | .num _ => True
 | .lst rs => 0 < rs.length ∧ rs.length ≤ 1000
def sp_same (N : Nat → Str) : Sp := fun vs H Q _ => ∃ (d1 d2 : Addr) (l : List Nat) (D : Nat → Cl), vs = [.ref d1, .ref d2] ∧ HoldsD N H d1 l D ∧ HoldsD N H d2 l D ∧ d1 ≠ d2 ∧ (∀ j ∈ l, lenOk (D j)) ∧ ∀ H', Same H H' → Q (.bl true) H'
theorem h_same (T : Txt K mg A) (Di : Dist N) : Has P w K mg base 1 "_law_same" ["_law_found", "_law_due"] (sp_same N) := by
 refine T.law_same.has sc_law_same (fun vs H Q E h => ?_) (fun f cdv A' outer s H vs Q E hr hu h => ?_)
 ·obtain ⟨d1, d2, l, D, rfl, _⟩ := h
  rfl
 ·obtain ⟨d1, d2, l, D, rfl, ⟨f1, h1, lt, c1⟩, ⟨f2, h2, _, c2⟩, n12, lok, q⟩ := h
  refine ⟨_, (pss_cons (ps_if (PW.pt (pw_or (pt_not (pt_tru (pe_callB c_isinst rfl T.z_isinstance (by boot_by_name) (pa_cons (fv 0) (pa_cons (pe_bltn (v := .ty "dict") rfl T.z_dict (by boot_by_name) rfl) pa_nil))) (fun _ => rfl))) (pw_or1 (pt_cmpR (o_ne hu) (pe_callB c_lenA rfl T.z_len (by boot_by_name) (pa_cons (fv 0) pa_nil)) (pe_callB c_lenA rfl T.z_len (by boot_by_name) (pa_cons (fv 1) pa_nil)) (nomark _)))))
   (pss_one (ps_ret (pe_bl)))
   pss_nil)
  (pss_cons (ps_forD PassesOwn.never rfl (fv 1) (monoV 1) (pg_name (i := 2) sc_law_same.nd rfl (by first | exact Or.inl rfl | exact Or.inr rfl))
   (pss_cons (ps_if (PW.pt (pw_or (pt_cmpR (o_notinA hu) (fv 2) (fv 0) ((by with_unfolding_all rfl))) (pw_or1 (pt_cmpR (o_ne hu) (pe_callB c_isinst rfl T.z_isinstance (by boot_by_name) (pa_cons (pe_ix (ix_all hu) (fv 0) (fv 2) (fun _ _ => rfl)) (pa_cons (pe_bltn (v := .ty "list") rfl T.z_list (by boot_by_name) rfl) pa_nil))) (pe_callB c_isinst rfl T.z_isinstance (by boot_by_name) (pa_cons (pe_ix (ix_all hu) (fv 1) (fv 2) (fun _ _ => rfl)) (pa_cons (pe_bltn (v := .ty "list") rfl T.z_list (by boot_by_name) rfl) pa_nil))) (nomark _)))))
    (pss_one (ps_ret (pe_bl)))
    pss_nil)
   (pss_cons (ps_set (i := 3) sc_law_same.nd rfl (Or.inl rfl) (pe_ix (ix_all hu) (fv 0) (fv 2) (fun _ _ => rfl)))
   (pss_cons (ps_if (pt_not (pt_tru (pe_callB c_isinst rfl T.z_isinstance (by boot_by_name) (pa_cons (fv 3) (pa_cons (pe_bltn (v := .ty "list") rfl T.z_list (by boot_by_name) rfl) pa_nil))) (fun _ => rfl)))
    (pss_one (ps_set (i := 3) sc_law_same.nd rfl (Or.inl rfl) (pe_lst (pa_cons (fv 3) pa_nil))))
    pss_nil)
   (pss_cons (ps_if (pt_not (pt_tru (pe_callB c_all rfl T.z_all (by boot_by_name) (pa_cons (pe_comp (N := ["_law_one"]) (own := 1) (fr := []) (CompOk.of (by kernel_rfl!)) rfl (pi_any (fv 3)) (fun b => pg_name (i := 0) (show List.Nodup (["_law_one"] : List PySem.Str) by decide +kernel) rfl (by first | exact Or.inl rfl | exact Or.inr rfl)) (fun b => pf_nil) (fun b => pe_and (pe_callB c_isinst rfl T.z_isinstance (by boot_by_name) (pa_cons (fv 0) (pa_cons (pe_bltn (v := .ty "int") rfl T.z_int (by boot_by_name) rfl) pa_nil))) (pe_one (pe_notV (pe_callB c_isinst rfl T.z_isinstance (by boot_by_name) (pa_cons (fv 0) (pa_cons (pe_bltn (v := .ty "bool") rfl T.z_bool (by boot_by_name) rfl) pa_nil))))))) pa_nil)) (fun _ => rfl)))
    (pss_one (ps_ret (pe_bl)))
    pss_nil)
   (pss_one (ps_if (pt_cmpR (o_ne hu) (pe_ix (ix_all hu) (fv 0) (fv 2) (fun _ _ => rfl)) (pe_ix (ix_all hu) (fv 1) (fv 2) (fun _ _ => rfl)) (nomark _))
    (pss_one (ps_ret (pe_bl)))
    pss_nil)))))))
  (pss_one (ps_ret (pe_bl))))), ?_⟩
  refine ⟨_, _, _, true, rfl, (fun z => by cases z), .dK h1, kit_dd, true, rfl, iteF ?_⟩
  refine Or.inr ⟨d1, _, rfl, .inl h1, Or.inr ⟨d2, _, rfl, .inl h2, rfl, _, rfl, ?_⟩⟩
  rw [vint, dk_len, dk_len, decide_eq_true rfl]
  refine iteF ?_
  refine ⟨d2, _, rfl, h2, fun o nf nd => ⟨fun i σ H2 => Same (upd H d2 (.frz o (.dK (dk N l f2)))) H2 ∧ ∃ v2 v3, σ = [some (.ref d1), some (.ref d2), v2, v3], ⟨Same.refl _, _, _, rfl⟩, fun i σ H2 _ h => h.1 _ _ upd_same, ?_, ?_⟩⟩
  ·rintro i k v σ H2 hk ⟨s2, v2, v3, rfl⟩
   obtain ⟨j, hj, rfl, rfl⟩ := dk_at hk
   have mj : j ∈ l := List.mem_of_getElem? hj
   have g1 : ∀ {H3 : Hp}, Same (upd H d2 (.frz o (.dK (dk N l f2)))) H3 → DGet H3 d1 (.str (N j)) (some (f1 j)) := fun s3 => get_in Di (.inl (frz_get s3 n12 h1)) lt mj
   have g2 : ∀ {H3 : Hp}, Same (upd H d2 (.frz o (.dK (dk N l f2)))) H3 → DGet H3 d2 (.str (N j)) (some (f2 j)) := fun s3 => get_in Di (.inr ⟨o, s3 _ _ upd_same⟩) lt mj
   have k1 := frz_cl h2 s2 (c1 j mj)
   have k2 := frz_cl h2 s2 (c2 j mj)
   have lk := lok j mj
   generalize D j = c at k1 k2 lk
   refine Or.inr ⟨d1, _, rfl, g1 s2, _, rfl, iteF ?_⟩
   cases c with
   | num n =>
    have k1 : f1 j = .int n := k1
    have k2 : f2 j = .int n := k2
    rw [k1] at g1
    rw [k2] at g2
    refine ⟨_, g1 s2, _, _, _, false, rfl, (fun z => by cases z), .int n, kit_il, ?_⟩
    refine ⟨_, g2 s2, _, _, _, false, rfl, (fun z => by cases z), .int n, kit_il, rfl, _, rfl, iteF ?_⟩
    refine ⟨_, g1 s2, ?_⟩
    refine ⟨_, _, _, false, rfl, (fun z => by cases z), .int n, kit_il, false, rfl, iteT ?_⟩
    refine ⟨by show 1 ≤ sizeLine; decide, fun p hp => ?_⟩
    have s3 := s2.trans (Same.upd hp (HO.lst [V.int n]))
    have e3 : (upd H2 p (HO.lst [V.int n])) p = some (.lst [V.int n]) := upd_same
    generalize upd H2 p (HO.lst [V.int n]) = H3 at s3 e3 ⊢
    refine Or.inl ⟨⟨_, SqL.of e3⟩, comp_list (K := K) (fun _ => true) (fun x => .bl true) (SqL.of e3) (by show 1 < sizeLine; decide) (fun b x H2 R _ _ k => k _ (Same.refl _)) (fun b x H4 R hx _ s4 k => ?_) (fun L H4 hL s4 e => ?_)⟩
    ·obtain rfl := List.mem_singleton.mp hx
     exact ⟨_, _, _, true, rfl, (fun z => by cases z), .int n, kit_ii, true, rfl, iteT ⟨_, _, _, false, rfl, (fun z => by cases z), .int n, kit_ib, false, rfl, k _ (Same.refl _)⟩⟩
    ·refine ⟨L, [true], rfl, SqL.of e, true, rfl, iteF ?_⟩
     refine ⟨_, g1 (s3.trans s4), _, g2 (s3.trans s4), rfl, _, rfl, ?_⟩
     rw [decide_eq_true rfl]
     exact iteF ⟨s3.trans s4, _, _, rfl⟩
   | lst rs =>
    obtain ⟨a1, k1, b1⟩ := k1
    obtain ⟨a2, k2, b2⟩ := k2
    rw [k1] at g1
    rw [k2] at g2
    refine ⟨_, g1 s2, _, _, _, true, rfl, (fun z => by cases z), .lst b1, kit_ll, ?_⟩
    refine ⟨_, g2 s2, _, _, _, true, rfl, (fun z => by cases z), .lst b2, kit_ll, rfl, _, rfl, iteF ?_⟩
    refine ⟨_, g1 s2, ?_⟩
    refine ⟨_, _, _, true, rfl, (fun z => by cases z), .lst b1, kit_ll, true, rfl, iteF ?_⟩
    have lk : rs.length ≤ 1000 := lk.2
    refine Or.inl ⟨⟨_, SqL.of b1⟩, comp_list (K := K) (fun _ => true) (fun x => .bl true) (SqL.of b1) (small1000 (by rw [List.length_map]; exact lk)) (fun b x H2 R _ _ k => k _ (Same.refl _)) (fun b x H4 R hx _ s4 k => ?_) (fun L H4 hL s4 e => ?_)⟩
    ·obtain ⟨n, _, rfl⟩ := List.mem_map.mp hx
     exact ⟨_, _, _, true, rfl, (fun z => by cases z), .int n, kit_ii, true, rfl, iteT ⟨_, _, _, false, rfl, (fun z => by cases z), .int n, kit_ib, false, rfl, k _ (Same.refl _)⟩⟩
    ·rw [filter_true] at e
     refine ⟨L, rs.map (fun _ => true), rfl, SqL.of (by rw [e, List.map_map, List.map_map]; rfl), ?_⟩
     have al : (rs.map (fun _ => true)).all id = true := by simp
     rw [al]
     refine ⟨true, rfl, iteF ?_⟩
     refine ⟨_, g1 (s2.trans s4), _, g2 (s2.trans s4), _, _, .lst (SqL.of (s4 _ _ b1)) (RepAll.ints rs), .lst (SqL.of (s4 _ _ b2)) (RepAll.ints rs), shaped_ints rs, shaped_ints rs, _, rfl, ?_⟩
     rw [eqv_ints, decide_eq_true rfl]
     exact iteF ⟨s2.trans s4, _, _, rfl⟩
  ·rintro σ H2 ⟨s2, v2, v3, rfl⟩
   exact q _ (thaw_same h2 s2)
end
end K21

set_option Elab.async false
set_option linter.all false
set_option maxRecDepth 100000
set_option maxHeartbeats 4000000
namespace K21
open PySem L2
section
variable {P : Program} {w : World} {K : W.Frag} {mg : Str → Option Value} {base : Heap} {A : Adr} {N : Nat → Str}
def gnum : V → Bool
 | .int a => decide (0 ≤ a) && decide (a ≤ 999999999999)
 | _ => false
theorem NumV.g {H : Hp} {v : V} {b : Bool} (h : NumV H v b) : gnum v = b := by
 cases h <;> rfl
def BadV (H : Hp) (v : V) : Prop := NumV H v false ∧ NoL H v
theorem BadV.same {H H' : Hp} {v : V} (h : BadV H v) (s : Same H H') : BadV H' v := ⟨h.1.same s, h.2.same s⟩
theorem bad_good {H : Hp} {v : V} (h : BadV H v) (z : Nat) : GoodV H v z false := by
 by_cases z0 : z = 0
 ·exact .inl ⟨z0, h.1⟩
 ·exact .inr ⟨by omega, .inl ⟨h.2, rfl⟩⟩
theorem bad_int {H : Hp} {a : Int} (h : (decide (0 ≤ a) && decide (a ≤ 999999999999)) = false) : BadV H (.int a) := ⟨by rw [← h]; exact .int a, .int a⟩
theorem bad_at {H : Hp} {p : Addr} (hp : H p = some (.tup [V.int 1, .int 2])) (c : Int) : ∃ v, atI [V.bl true, .int (-1), .int ((10 : Int) ^ (12 : Int).toNat), .str "7", .non, .ref p, .int (-((10 : Int) ^ (12 : Int).toNat)), .int ((10 : Int) ^ (12 : Int).toNat + 5)] (c % 8) = some v ∧ BadV H v := by
 obtain ⟨m, hm, h8⟩ : ∃ m : Nat, c % 8 = (m : Int) ∧ m < 8 := ⟨(c % 8).toNat, by omega, by omega⟩
 rw [hm]
 match m, h8 with
 | 0, _ => exact ⟨_, rfl, .bl _, .bl _⟩
 | 1, _ => exact ⟨_, rfl, bad_int (by decide)⟩
 | 2, _ => exact ⟨_, rfl, bad_int (by decide)⟩
 | 3, _ => exact ⟨_, rfl, .str _, .str _⟩
 | 4, _ => exact ⟨_, rfl, .non, .non⟩
 | 5, _ => exact ⟨_, rfl, .tup hp, .tup hp⟩
 | 6, _ => exact ⟨_, rfl, bad_int (by decide)⟩
 | 7, _ => exact ⟨_, rfl, bad_int (by decide)⟩
def sp_odd : Sp := fun vs H Q _ => ∃ (c : Int) (v : V) (z : Nat) (k : Cl), vs = [.int c, v, .int z] ∧ ClAt H v k ∧ k.fits z ∧ z ≤ 20 ∧ ∀ v' H', Same H H' → GoodV H' v' z false → Q v' H'
theorem h_odd (T : Txt K mg A) : Has P w K mg base 1 "_law_odd" ["_law_cell", "_law_gift_here", "_law_size"] sp_odd := by
 refine T.law_odd.has sc_law_odd (fun vs H Q E h => ?_) (fun f cdv A' outer s H vs Q E hr hu h => ?_)
 ·obtain ⟨c, v, z, k, rfl, _⟩ := h
  rfl
 ·obtain ⟨c, v, z, k, rfl, hv, fit, hz, q⟩ := h
  refine ⟨_, (pss_cons (ps_set (i := 3) sc_law_odd.nd rfl (Or.inl rfl) (pe_ix (ix_all hu) (pe_lst (pa_cons (pe_bl) (pa_cons (pe_un un_neg (pe_int)) (pa_cons (pe_op o_pow (pe_int) (pe_int)) (pa_cons (pe_str) (pa_cons (pe_non) (pa_cons (pe_tup (pa_cons (pe_int) (pa_cons (pe_int) pa_nil))) (pa_cons (pe_un un_neg (pe_op o_pow (pe_int) (pe_int))) (pa_cons (pe_op o_add (pe_op o_pow (pe_int) (pe_int)) (pe_int)) pa_nil))))))))) (pe_op o_mod (fv 0) (pe_int)) (fun _ _ => rfl)))
  (pss_cons (ps_if (pt_cmpR (o_eqU hu) (pe_op o_mod (pe_op o_fdiv (fv 0) (pe_int)) (pe_int)) (pe_int) (nomark _))
   (pss_one (ps_ret (fv 3)))
   pss_nil)
  (pss_cons (ps_if (pt_cmpR (o_eqU hu) (fv 2) (pe_int) (nomark _))
   (pss_one (ps_ret (pe_ix (ix_all hu) (pe_lst (pa_cons (pe_lst (pa_cons (fv 1) pa_nil)) (pa_cons (pe_lst (pa_nil)) (pa_cons (fv 3) pa_nil)))) (pe_op o_mod (pe_op o_fdiv (fv 0) (pe_int)) (pe_int)) (fun _ _ => rfl))))
   pss_nil)
  (pss_cons (ps_set (i := 4) sc_law_odd.nd rfl (Or.inl rfl) (pe_callTy c_listA rfl T.z_list (by boot_by_name) (pa_cons (fv 1) pa_nil)))
  (pss_cons (ps_set (i := 5) sc_law_odd.nd rfl (Or.inl rfl) (pe_op o_mod (pe_op o_fdiv (fv 0) (pe_int)) (pe_int)))
  (pss_cons (ps_if (pt_cmpR (o_eqU hu) (fv 5) (pe_int) (nomark _))
   (pss_one (ps_ret (pe_op o_add (fv 4) (pe_lst (pa_cons (pe_int) pa_nil)))))
   pss_nil)
  (pss_cons (ps_if (pt_cmpR (o_eqU hu) (fv 5) (pe_int) (nomark _))
   (pss_one (ps_ret (pe_slice sl_all (fv 4) (po_some (pe_int)) po_none)))
   pss_nil)
  (pss_cons (ps_if (pt_cmpR (o_eqU hu) (fv 5) (pe_int) (nomark _))
   (pss_one (ps_ret (pe_callTy call_tuple_of rfl T.z_tuple (by boot_by_name) (pa_cons (fv 4) pa_nil))))
   pss_nil)
  (pss_cons (ps_if (pt_cmpR (o_eqU hu) (fv 5) (pe_int) (nomark _))
   (pss_one (ps_ret (pe_ix (ix_all hu) (fv 4) (pe_int) (fun _ _ => rfl))))
   pss_nil)
  (pss_cons (ps_asg (fv 3) (pg_sub (fv 4) (pe_op o_mod (pe_op o_fdiv (fv 0) (pe_int)) (fv 2)) (st_all hu set_list)))
  (pss_one (ps_ret (fv 4))))))))))))), ?_⟩
  refine seq_cut fun M1 K1 => ?_
  refine ⟨1, rfl, ⟨by decide, by decide, by decide⟩, (by show 2 ≤ sizeLine; decide), fun p hp => ?_⟩
  have s1 := Same.upd hp (HO.tup [V.int 1, .int 2])
  have e1 : (upd H p (HO.tup [V.int 1, .int 2])) p = some (.tup [V.int 1, .int 2]) := upd_same
  generalize upd H p (HO.tup [V.int 1, .int 2]) = H1 at s1 e1 ⊢
  refine ⟨⟨by decide, by decide, by decide⟩, _, rfl, ⟨by decide, by decide, by decide⟩, (by show 8 ≤ sizeLine; decide), fun l hl => ?_⟩
  have s2 := Same.upd hl (HO.lst [V.bl true, .int (-1), .int ((10 : Int) ^ (12 : Int).toNat), .str "7", .non, .ref p, .int (-((10 : Int) ^ (12 : Int).toNat)), .int ((10 : Int) ^ (12 : Int).toNat + 5)])
  have e2 : (upd H1 l (HO.lst [V.bl true, .int (-1), .int ((10 : Int) ^ (12 : Int).toNat), .str "7", .non, .ref p, .int (-((10 : Int) ^ (12 : Int).toNat)), .int ((10 : Int) ^ (12 : Int).toNat + 5)])) l = some (.lst [V.bl true, .int (-1), .int ((10 : Int) ^ (12 : Int).toNat), .str "7", .non, .ref p, .int (-((10 : Int) ^ (12 : Int).toNat)), .int ((10 : Int) ^ (12 : Int).toNat + 5)]) := upd_same
  obtain ⟨b, ab, hb⟩ := bad_at (s2 _ _ e1) c
  refine ⟨(by show (0 : Int) < 8; decide), Or.inl ⟨_, b, Or.inl (SqL.of e2), ab, ?_⟩⟩
  refine K1 _ _ ?_
  show tSeq _ _ _ _ _
  generalize upd H1 l (HO.lst [V.bl true, .int (-1), .int ((10 : Int) ^ (12 : Int).toNat), .str "7", .non, .ref p, .int (-((10 : Int) ^ (12 : Int).toNat)), .int ((10 : Int) ^ (12 : Int).toNat + 5)]) = H2 at s2 hb ⊢
  have s12 := s1.trans s2
  have hv := hv.same s12
  have q : ∀ v' H', Same H2 H' → GoodV H' v' z false → Q v' H' := fun v' H' s => q v' H' (s12.trans s)
  clear e2 ab e1 s1 s2 hl hp
  refine seq_cut fun M2 K2 => ?_
  refine ⟨⟨by decide, by decide⟩, (by show (0 : Int) < 3; decide), rfl, _, rfl, ite2 (fun _ => q _ _ (Same.refl _) (bad_good hb z)) (fun _ => K2 _ _ ?_)⟩
  refine seq_cut fun M3 K3 => ?_
  refine ⟨rfl, _, rfl, ?_⟩
  rw [vint]
  by_cases z0 : z = 0
  ·rw [decide_eq_true (show (z : Int) = 0 by omega)]
   refine iteT ?_
   refine ⟨by show 1 ≤ sizeLine; decide, fun p1 hp1 => ?_⟩
   have s3 := Same.upd hp1 (HO.lst [v])
   have e3 : (upd H2 p1 (HO.lst [v])) p1 = some (.lst [v]) := upd_same
   generalize upd H2 p1 (HO.lst [v]) = H3 at s3 e3 ⊢
   refine ⟨Nat.zero_le _, fun p2 hp2 => ?_⟩
   have s4 := Same.upd hp2 (HO.lst [])
   have e4 : (upd H3 p2 (HO.lst [])) p2 = some (.lst []) := upd_same
   generalize upd H3 p2 (HO.lst []) = H4 at s4 e4 ⊢
   refine ⟨by show 3 ≤ sizeLine; decide, fun p3 hp3 => ?_⟩
   have s5 := Same.upd hp3 (HO.lst [V.ref p1, .ref p2, b])
   have e5 : (upd H4 p3 (HO.lst [V.ref p1, .ref p2, b])) p3 = some (.lst [V.ref p1, .ref p2, b]) := upd_same
   generalize upd H4 p3 (HO.lst [V.ref p1, .ref p2, b]) = H5 at s5 e5 ⊢
   obtain ⟨x, ax, hx⟩ : ∃ x, atI [V.ref p1, .ref p2, b] (c / 24 % 3) = some x ∧ GoodV H5 x z false := by
    obtain ⟨m, hm, h3⟩ : ∃ m : Nat, c / 24 % 3 = (m : Int) ∧ m < 3 := ⟨(c / 24 % 3).toNat, by omega, by omega⟩
    rw [hm]
    match m, h3 with
    | 0, _ => exact ⟨_, rfl, .inl ⟨z0, .lst (s5 _ _ (s4 _ _ e3))⟩⟩
    | 1, _ => exact ⟨_, rfl, .inl ⟨z0, .lst (s5 _ _ e4)⟩⟩
    | 2, _ => exact ⟨_, rfl, bad_good (hb.same ((s3.trans s4).trans s5)) z⟩
   exact ⟨⟨by decide, by decide⟩, (by show (0 : Int) < 3; decide), Or.inl ⟨_, x, Or.inl (SqL.of e5), ax, q _ _ ((s3.trans s4).trans s5) hx⟩⟩
  ·rw [decide_eq_false (show ¬ (z : Int) = 0 by omega)]
   refine iteF (K3 _ _ ?_)
   have zp : 0 < z := by omega
   cases k with
   | num n => exact absurd fit.1 z0
   | lst rs =>
   obtain ⟨g, rfl, hg⟩ := hv
   obtain ⟨fl, _, fi⟩ := fit
   refine seq_cut fun M4 K4 => ?_
   refine Or.inl ⟨g, _, rfl, Or.inl (SqL.of hg), fun so hso => K4 _ _ ?_⟩
   show tSeq _ _ _ _ _
   have s3 := Same.upd hso (HO.lst (rs.map V.int))
   have e3 : (upd H2 so (HO.lst (rs.map V.int))) so = some (.lst (rs.map V.int)) := upd_same
   generalize upd H2 so (HO.lst (rs.map V.int)) = H3 at s3 e3 ⊢
   have hb2 := hb
   have hb := hb.same s3
   have q0 := q
   have q : ∀ v' H', Same H3 H' → GoodV H' v' z false → Q v' H' := fun v' H' s => q v' H' (s3.trans s)
   refine seq_cut fun M5 K5 => ?_
   refine ⟨⟨by decide, by decide⟩, (by show (0 : Int) < 5; decide), K5 _ _ ?_⟩
   have lz : (rs.map V.int).length = z := by rw [List.length_map]; exact fl
   refine seq_cut fun M6 K6 => ?_
   refine ⟨rfl, _, rfl, ite2 (fun _ => ?_) (fun _ => K6 _ _ ?_)⟩
   ·refine ⟨by show 1 ≤ sizeLine; decide, fun p1 hp1 => ?_⟩
    have s4 := Same.upd hp1 (HO.lst [V.int 0])
    have e4 : (upd H3 p1 (HO.lst [V.int 0])) p1 = some (.lst [V.int 0]) := upd_same
    generalize upd H3 p1 (HO.lst [V.int 0]) = H4 at s4 e4 ⊢
    refine ⟨so, p1, _, _, rfl, rfl, s4 _ _ e3, e4, sz (by rw [lz]; show z + 1 ≤ 1000; omega), fun p2 hp2 => ?_⟩
    refine q _ _ (s4.trans (Same.upd hp2 _)) (.inr ⟨zp, .inr ⟨p2, _, rfl, upd_same, ?_, .inl ⟨?_, rfl⟩⟩⟩)
    ·rw [List.length_append, lz]
     show z + 1 ≤ 1000
     omega
    ·rw [List.length_append, lz]
     show z + 1 ≠ z
     omega
   refine seq_cut fun M7 K7 => ?_
   refine ⟨rfl, _, rfl, ite2 (fun _ => ?_) (fun _ => K7 _ _ ?_)⟩
   ·refine ⟨1, rfl, Or.inl ⟨so, _, rfl, SqL.of e3, fun p2 hp2 => ?_⟩⟩
    have cl : (cutV (rs.map V.int) (some 1) none).length = z - 1 := by
     unfold cutV
     rw [List.length_take, List.length_drop, lz]
     unfold HT.sIx
     simp
     omega
    refine q _ _ (Same.upd hp2 _) (.inr ⟨zp, .inr ⟨p2, _, rfl, upd_same, by omega, .inl ⟨by omega, rfl⟩⟩⟩)
   refine seq_cut fun M8 K8 => ?_
   refine ⟨rfl, _, rfl, ite2 (fun _ => ?_) (fun _ => K8 _ _ ?_)⟩
   ·refine ⟨so, _, rfl, Or.inl ⟨SqL.of e3, fun p2 hp2 => ?_⟩⟩
    exact q _ _ (Same.upd hp2 _) (.inr ⟨zp, .inl ⟨.tup upd_same, rfl⟩⟩)
   refine seq_cut fun M9 K9 => ?_
   refine ⟨rfl, _, rfl, ite2 (fun _ => ?_) (fun _ => K9 _ _ ?_)⟩
   ·obtain ⟨x, hx, _, ax⟩ := at_map V.int (xs := rs) (k := 0) (by decide) (by omega)
    exact Or.inl ⟨_, _, Or.inl (SqL.of e3), ax, q _ _ (Same.refl _) (.inr ⟨zp, .inl ⟨.int x, rfl⟩⟩)⟩
   obtain ⟨m0, m1⟩ := mod_in (c / 120) (show (0 : Int) < (z : Int) by omega)
   have ix : ixN (rs.map V.int).length (c / 120 % (z : Int)) = some (c / 120 % (z : Int)).toNat := by
    unfold ixN
    rw [if_pos m0, lz, if_pos m1]
   refine ⟨⟨by decide, by decide⟩, (by show (0 : Int) < (z : Int); omega), Or.inl ⟨_, _, e3, ix, ?_⟩⟩
   have nb : ∀ {a : Addr} {o : HO}, H2 a = some o → a ≠ so := fun h z => by rw [z] at h; rw [h] at hso; cases hso
   have sb : Same H2 (upd H3 so (HO.lst ((rs.map V.int).set (c / 120 % (z : Int)).toNat b))) := Same.out s3 hso _
   have lt : (c / 120 % (z : Int)).toNat < (rs.map V.int).length := by omega
   refine q0 _ _ sb (.inr ⟨zp, .inr ⟨so, _, rfl, upd_same, by rw [List.length_set]; omega, .inr ⟨by rw [List.length_set]; exact lz, gnum, fun x hx => ?_, ?_⟩⟩⟩)
   ·rcases List.mem_or_eq_of_mem_set hx with h | h
    ·obtain ⟨n, _, rfl⟩ := List.mem_map.mp h
     exact .int n
    ·rw [h, hb.1.g]
     exact hb2.1.same sb
   ·rw [eq_comm, List.all_eq_false]
    exact ⟨b, List.mem_set lt b, by rw [hb.1.g]; exact Bool.false_ne_true⟩
end
end K21

set_option Elab.async false
set_option linter.all false
set_option maxRecDepth 100000
set_option maxHeartbeats 4000000
namespace K21
open PySem L2
section
variable {P : Program} {w : World} {K : W.Frag} {mg : Str → Option Value} {base : Heap} {A : Adr} {N : Nat → Str}
def rIsA (K : W.Frag) : List V → Hp → VK → Prop := fun xs H Q => (∃ x y t b, xs = [x, y] ∧ cvOf y ≠ .none ∧ TyOf K H x t ∧ W.kitOne K t (cvOf y) = some b ∧ Q (.bl b) H) ∨
  (∃ (a C : Addr) (od : Option Addr) (fl b : Bool) (y : V), xs = [.ref a, y] ∧ H a = some (xo a C od fl) ∧ (∀ dx, od = some dx → ∃ fs, H dx = some (L2.xf dx fs)) ∧ XCl K C ∧ cvOf y ≠ .none ∧ W.kitOne K (.ref C) (cvOf y) = some b ∧ Q (.bl b) H)
theorem c_isK {X : Cx} : CallR X (.builtin "isinstance") (rIsA X.K) := c_isA
def isE (K : W.Frag) (v : V) : TE := tCB (rIsA K) (tCons (fVar 4) (tCons (tC v) tNil))
def tsA (K : W.Frag) (A : Adr) : TS := tAsg (tTup (tCons (tFldX K (fVar 4) "name") (tCons (tOrV (isE K (.ref A.NotAlike)) (isE K (.ref A.Unknown))) tNil))) (gName 3)
def tsB (K : W.Frag) (A : Adr) : TS := tAsg (tTup (tCons (tFldX K (fVar 4) "name") (tCons (tOrV (tNotV (isE K (.ref A.NoGift))) (tNotV (isE K (.ty "ValueError")))) tNil))) (gName 3)
theorem kit_gg (A : Adr) : W.kitOne K (.ref A.NoGift) (.ref A.NoGift) = some true := by
 unfold W.kitOne
 rw [if_pos (by simp)]
def sp_refused (A : Adr) (N : Nat → Str) : Sp := fun vs H Q _ => ∃ (p : Pa) (hv dv : List V) (hd : List HD) (pts : List (List Nat)) (g : Addr) (gi : List Nat) (gf : Nat → V) (G : Nat → Cl) (j : Nat) (rk : Int) (z way : Nat), vs = [.ref p.pa, .ref g, .int way] ∧ PrAt A N H p hv hd dv pts ∧ Hds hd pts ∧ Rd H g (.dK (dk N gi gf)) ∧ (∀ i ∈ gi, i < 25) ∧ AllGood H hd gi gf G j ∧
 hd[j]? = some (.given rk z) ∧ GoodV H (look gi gf j) z false ∧ ∀ t H', Same H H' → H' t = some (.tup [.str (N j), .bl false]) → Q (.ref t) H'
theorem h_refused (T : Txt K mg A) (Di : Dist N) : Has P w K mg base 13 "_law_refused" ["_law_program", "_law_gifts", "_law_way"] (sp_refused A N) := by
 have D_run := h_run (P := P) (w := w) (base := base) T Di
 have D_cells_of := h_cells (P := P) (w := w) (base := base) T Di
 refine T.law_refused.has (k := 12) sc_law_refused (fun vs H Q E h => ?_) (fun f cdv A' outer s' H vs Q E hr hu h => ?_)
 ·obtain ⟨p, hv, dv, hd, pts, g, gi, gf, G, j, rk, z, way, rfl, _⟩ := h
  rfl
 ·obtain ⟨p, hv, dv, hd, pts, g, gi, gf, G, j, rk, z, way, rfl, R, ok, hg, gb, good, hj, bad, q⟩ := h
  refine ⟨_, (pss_cons (ps_set (i := 3) sc_law_refused.nd rfl (Or.inl rfl) (pe_non))
  (pss_cons (ps_if (pt_cmpR (o_eqU hu) (fv 2) (pe_int) (nomark _))
   (pss_one (ps_try (fun b Hd cat => (pss_one (ps_expr (pe_callX cat D_cells_of hr (pa_cons (fv 0) (pa_cons (fv 1) pa_nil))))))
   pss_nil
   (ph_as T.xm_NoGift T.xx_NoGift (i := 4) (ts := tsA K A) sc_law_refused.nd rfl rfl (fun e => (pss_one (ps_set (X := (cxS (cxOf CX0 P w K mg base ["_law_program", "_law_gifts", "_law_way", "_law_told", "e"] "_law_refused" (defScope s_law_refused) f cdv A' outer s' H E).nox e)) (i := 3) sc_law_refused.nd rfl (Or.inl rfl) (pe_tup (pa_cons (pe_fldX (fv 4) rfl) (pa_cons (pe_or (pe_callB c_isK rfl T.z_isinstance (by boot_by_name) (pa_cons (fv 4) (pa_cons (pe_gtup T.xm_NotAlike) pa_nil))) (pe_one (pe_callB c_isK rfl T.z_isinstance (by boot_by_name) (pa_cons (fv 4) (pa_cons (pe_gtup T.xm_Unknown) pa_nil))))) pa_nil)))))) ph_never)))
   (pss_one (ps_if (pt_cmpR (o_eqU hu) (fv 2) (pe_int) (nomark _))
    (pss_one (ps_try (fun b Hd cat => (pss_one (ps_expr (pe_callX cat D_run hr (pa_cons (fv 0) (pa_cons (fv 1) pa_nil))))))
   pss_nil
   (ph_as T.xm_NoGift T.xx_NoGift (i := 4) (ts := tsA K A) sc_law_refused.nd rfl rfl (fun e => (pss_one (ps_set (X := (cxS (cxOf CX0 P w K mg base ["_law_program", "_law_gifts", "_law_way", "_law_told", "e"] "_law_refused" (defScope s_law_refused) f cdv A' outer s' H E).nox e)) (i := 3) sc_law_refused.nd rfl (Or.inl rfl) (pe_tup (pa_cons (pe_fldX (fv 4) rfl) (pa_cons (pe_or (pe_callB c_isK rfl T.z_isinstance (by boot_by_name) (pa_cons (fv 4) (pa_cons (pe_gtup T.xm_NotAlike) pa_nil))) (pe_one (pe_callB c_isK rfl T.z_isinstance (by boot_by_name) (pa_cons (fv 4) (pa_cons (pe_gtup T.xm_Unknown) pa_nil))))) pa_nil)))))) ph_never)))
    (pss_one (ps_try (fun b Hd cat => (pss_one (ps_expr (pe_callX cat D_cells_of hr (pa_cons (fv 0) (pa_cons (fv 1) pa_nil))))))
   pss_nil
   (ph_as T.xm_HushError T.xx_HushError (i := 4) (ts := tsB K A) sc_law_refused.nd rfl rfl (fun e => (pss_one (ps_set (X := (cxS (cxOf CX0 P w K mg base ["_law_program", "_law_gifts", "_law_way", "_law_told", "e"] "_law_refused" (defScope s_law_refused) f cdv A' outer s' H E).nox e)) (i := 3) sc_law_refused.nd rfl (Or.inl rfl) (pe_tup (pa_cons (pe_fldX (fv 4) rfl) (pa_cons (pe_or (pe_not (pe_callB c_isK rfl T.z_isinstance (by boot_by_name) (pa_cons (fv 4) (pa_cons (pe_gtup T.xm_NoGift) pa_nil)))) (pe_one (pe_not (pe_callB c_isK rfl T.z_isinstance (by boot_by_name) (pa_cons (fv 4) (pa_cons (pe_bltn (v := .ty "ValueError") rfl T.z_ValueError (by boot_by_name) rfl) pa_nil)))))) pa_nil)))))) ph_never))))))
  (pss_one (ps_ret (fv 3))))), ?_⟩
  refine ⟨rfl, _, rfl, ite2 (fun _ => ?_) (fun _ => ?_)⟩
  ·refine ⟨p, hv, dv, hd, pts, g, gi, gf, G, j, rfl, R, ok, hg, gb, good, Or.inr ⟨rk, z, hj, bad, fun e dx H1 s1 he hd => ⟨e, A.NoGift, rfl, he, true, T.xx_NoGift, T.xs_NoGift, ?_⟩⟩⟩
   refine (if_pos rfl).mpr ?_
   refine ⟨e, A.NoGift, dx, true, _, _, rfl, he, hd, T.xx_NoGift, T.xn_NoGift_name, rfl, ?_⟩
   refine Or.inr ⟨e, A.NoGift, some dx, true, false, _, rfl, he, fun d h => by cases h; exact ⟨_, hd⟩, T.xx_NoGift, (fun z => by cases z), T.ke_na, false, rfl, iteF ?_⟩
   refine Or.inr ⟨e, A.NoGift, some dx, true, false, _, rfl, he, fun d h => by cases h; exact ⟨_, hd⟩, T.xx_NoGift, (fun z => by cases z), T.ke_un, ?_⟩
   exact ⟨by show 2 ≤ sizeLine; decide, fun t ht => q t _ (s1.trans (Same.upd ht _)) upd_same⟩
  refine ⟨rfl, _, rfl, ite2 (fun _ => ?_) (fun _ => ?_)⟩
  ·refine ⟨p, hv, dv, hd, pts, g, gi, gf, G, j, rfl, R, ok, hg, gb, good, Or.inr ⟨rk, z, hj, bad, fun e dx H1 s1 he hd => ⟨e, A.NoGift, rfl, he, true, T.xx_NoGift, T.xs_NoGift, ?_⟩⟩⟩
   refine (if_pos rfl).mpr ?_
   refine ⟨e, A.NoGift, dx, true, _, _, rfl, he, hd, T.xx_NoGift, T.xn_NoGift_name, rfl, ?_⟩
   refine Or.inr ⟨e, A.NoGift, some dx, true, false, _, rfl, he, fun d h => by cases h; exact ⟨_, hd⟩, T.xx_NoGift, (fun z => by cases z), T.ke_na, false, rfl, iteF ?_⟩
   refine Or.inr ⟨e, A.NoGift, some dx, true, false, _, rfl, he, fun d h => by cases h; exact ⟨_, hd⟩, T.xx_NoGift, (fun z => by cases z), T.ke_un, ?_⟩
   exact ⟨by show 2 ≤ sizeLine; decide, fun t ht => q t _ (s1.trans (Same.upd ht _)) upd_same⟩
  ·refine ⟨p, hv, dv, hd, pts, g, gi, gf, G, j, rfl, R, ok, hg, gb, good, Or.inr ⟨rk, z, hj, bad, fun e dx H1 s1 he hd => ⟨e, A.NoGift, rfl, he, true, T.xx_NoGift, T.ke_hu, ?_⟩⟩⟩
   refine (if_pos rfl).mpr ?_
   refine ⟨e, A.NoGift, dx, true, _, _, rfl, he, hd, T.xx_NoGift, T.xn_NoGift_name, rfl, ?_⟩
   refine Or.inr ⟨e, A.NoGift, some dx, true, true, _, rfl, he, fun d h => by cases h; exact ⟨_, hd⟩, T.xx_NoGift, (fun z => by cases z), kit_gg A, true, rfl, false, rfl, iteF ?_⟩
   refine Or.inr ⟨e, A.NoGift, some dx, true, true, _, rfl, he, fun d h => by cases h; exact ⟨_, hd⟩, T.xx_NoGift, (fun z => by cases z), T.ke_ve, true, rfl, ?_⟩
   exact ⟨by show 2 ≤ sizeLine; decide, fun t ht => q t _ (s1.trans (Same.upd ht _)) upd_same⟩
end
end K21

set_option Elab.async false
set_option linter.all false
set_option maxRecDepth 100000
set_option maxHeartbeats 4000000
namespace K21
open PySem L2
section
variable {P : Program} {w : World} {K : W.Frag} {mg : Str → Option Value} {base : Heap} {A : Adr} {N : Nat → Str}
theorem fold_len : ∀ (pt : List Nat) (l : List Nat), (pt.foldl ins l).length ≤ l.length + pt.length
 | [], _ => Nat.le_refl _
 | i :: r, l => by
  have h1 := fold_len r (ins l i)
  have h2 := ins_len l i
  show (r.foldl ins (ins l i)).length ≤ l.length + (r.length + 1)
  omega
theorem folds_len : ∀ (ps : List (List Nat)) (l : List Nat), (∀ pt ∈ ps, pt.length ≤ 4) → (ps.foldl (fun l pt => pt.foldl ins l) l).length ≤ l.length + 4 * ps.length
 | [], _, _ => Nat.le_refl _
 | pt :: r, l, h => by
  have h1 := folds_len r (pt.foldl ins l) (fun p hp => h p (List.mem_cons_of_mem _ hp))
  have h2 := fold_len pt l
  have h3 := h pt List.mem_cons_self
  show (r.foldl (fun l pt => pt.foldl ins l) (pt.foldl ins l)).length ≤ l.length + 4 * (r.length + 1)
  omega
theorem hix_len (hd : List HD) : ∀ i, (hix hd i).length ≤ i
 | 0 => Nat.le_refl _
 | i + 1 => by
  have := hix_len hd i
  have := ins_len (hix hd i) i
  rw [hix_succ]
  unfold hstep
  split <;> omega
theorem cix_len {hd : List HD} {pts : List (List Nat)} (ok : Hds hd pts) : (cix hd pts pts.length).length ≤ 100 := by
 unfold cix
 rw [List.take_length]
 have h1 := folds_len pts (hix hd hd.length) (fun p hp => (ok.pt p hp).1)
 have := hix_len hd hd.length
 have := ok.len
 have := ok.pl
 omega
theorem AllGood.same {H H' : Hp} {hd : List HD} {gi : List Nat} {gf : Nat → V} {G : Nat → Cl} {m : Nat} (h : AllGood H hd gi gf G m) (s : Same H H') : AllGood H' hd gi gf G m := fun k rk z hk e => ⟨(h k rk z hk e).1.same s, (h k rk z hk e).2⟩
def GVal (H : Hp) (v : V) : Prop := v = .non ∨ ∃ c, ClAt H v c
def KeptV (H : Hp) (v u : V) : Prop := (v = u ∧ (v = .non ∨ ∃ n, v = .int n)) ∨ ∃ (p q : Addr) (rs : List Int), v = .ref p ∧ u = .ref q ∧ H p = some (.lst (rs.map V.int)) ∧ H q = some (.lst (rs.map V.int))
theorem KeptV.same {H H' : Hp} {v u : V} (h : KeptV H v u) (s : Same H H') : KeptV H' v u := by
 rcases h with h | ⟨p, q, rs, e1, e2, h1, h2⟩
 ·exact .inl h
 ·exact .inr ⟨p, q, rs, e1, e2, s _ _ h1, s _ _ h2⟩
theorem KeptV.up {H : Hp} {v u : V} (h : KeptV H v u) {c : Addr} {o o' : HO} (hc : H c = some o) (hn : ∀ xs, o ≠ .lst xs) : KeptV (upd H c o') v u := by
 rcases h with h | ⟨p, q, rs, e1, e2, h1, h2⟩
 ·exact .inl h
 ·have ne : ∀ {a : Addr} {xs : List V}, H a = some (.lst xs) → a ≠ c := fun h z => by rw [z, hc] at h; exact hn _ (Option.some.inj h)
  exact .inr ⟨p, q, rs, e1, e2, by rw [upd_ne (ne h1)]; exact h1, by rw [upd_ne (ne h2)]; exact h2⟩
theorem ints_flat (ks : List Int) : (ks.map V.int).all flatR = true := by
 rw [List.all_eq_true]
 intro x hx
 obtain ⟨n, _, rfl⟩ := List.mem_map.mp hx
 rfl
theorem KeptV.eq {H : Hp} {v u : V} (h : KeptV H v u) : ValEq K H v u := by
 rcases h with ⟨rfl, rfl | ⟨n, rfl⟩⟩ | ⟨p, q, rs, e1, e2, h1, h2⟩
 ·exact .inl ⟨rfl, rfl⟩
 ·exact .inl ⟨rfl, rfl⟩
 ·exact .inr ⟨p, q, _, e1, e2, SqL.of h1, SqL.of h2, ints_flat rs⟩
theorem kept_eq (Di : Dist N) {H : Hp} {gi : List Nat} {gf f : Nat → V} (gb : ∀ j ∈ gi, j < 25) (h : ∀ j ∈ gi, KeptV H (gf j) (f j)) : ∀ k v, L2.valV (dk N gi gf) k = some v → ∃ v', L2.valV (dk N gi f) k = some v' ∧ ValEq K H v v' := fun k v e => by
 obtain ⟨j, hj, rfl, rfl⟩ := dk_val Di gb e
 exact ⟨f j, dk_get Di gb hj, (h j hj).eq⟩
def FV (H0 H : Hp) (v : V) : Prop := (∃ n, v = .int n) ∨ ∃ a xs, v = .ref a ∧ H0 a = none ∧ H a = some (.lst xs) ∧ 0 < xs.length
theorem FV.same {H0 H H' : Hp} {v : V} (h : FV H0 H v) (s : Same H H') : FV H0 H' v := by
 rcases h with h | ⟨a, xs, e, h0, h1, h2⟩
 ·exact .inl h
 ·exact .inr ⟨a, xs, e, h0, s _ _ h1, h2⟩
theorem new_fv {H0 H : Hp} {v : V} {c : Cl} (h : NewAt H0 H v c) (l : lenOk c) : FV H0 H v := by
 cases c with
 | num n => exact .inl ⟨n, h⟩
 | lst rs =>
  obtain ⟨a, e, h0, h1⟩ := h
  exact .inr ⟨a, _, e, h0, h1, by rw [List.length_map]; exact l.1⟩
def sp_twice (A : Adr) (N : Nat → Str) : Sp := fun vs H Q _ => ∃ (p : Pa) (hv dv : List V) (hd : List HD) (pts : List (List Nat)) (g d : Addr) (gi : List Nat) (gf : Nat → V) (G : Nat → Cl), vs = [.ref p.pa, .ref g, .ref d] ∧ PrAt A N H p hv hd dv pts ∧ Hds hd pts ∧ H g = some (.dK (dk N gi gf)) ∧ (∀ i ∈ gi, i < 25) ∧ gi.length ≤ 100 ∧ (∀ j ∈ gi, GVal H (gf j)) ∧ AllGood H hd gi gf G hd.length ∧
 HoldsD N H d (cix hd pts pts.length) (cellOf hd G) ∧ (∀ j ∈ cix hd pts pts.length, lenOk (cellOf hd G j)) ∧ d ≠ g ∧ ∀ H', Same H H' → Q (.bl true) H'
theorem h_twice (T : Txt K mg A) (Di : Dist N) : Has P w K mg base 6 "_law_twice" ["_law_program", "_law_gifts", "_law_due"] (sp_twice A N) := by
 have D_cells_of := h_cells (P := P) (w := w) (base := base) T Di
 have D_law_same := h_same (P := P) (w := w) (base := base) T Di
 refine T.law_twice.has (k := 5) sc_law_twice (fun vs H Q E h => ?_) (fun f cdv A' outer s' H vs Q E hr hu h => ?_)
 ·obtain ⟨p, hv, dv, hd, pts, g, d, gi, gf, G, rfl, _⟩ := h
  rfl
 ·obtain ⟨p, hv, dv, hd, pts, g, d, gi, gf, G, rfl, R, ok, hg, gb, gl, gv, good, hdue, lok, dg, q⟩ := h
  refine ⟨_, (pss_cons (ps_set (i := 3) sc_law_twice.nd rfl (Or.inl rfl) (pe_dnewK))
  (pss_cons (ps_forD PassesOwn.never rfl (fv 1) (monoV 1) (pg_name (i := 4) sc_law_twice.nd rfl (by first | exact Or.inl rfl | exact Or.inr rfl))
   (pss_cons (ps_asg (pe_ix (ix_all hu) (fv 1) (fv 4) (fun _ _ => rfl)) (pg_sub (fv 3) (fv 4) (st_all hu set_list)))
   (pss_one (ps_if (pt_tru (pe_callB c_isinst rfl T.z_isinstance (by boot_by_name) (pa_cons (pe_ix (ix_all hu) (fv 1) (fv 4) (fun _ _ => rfl)) (pa_cons (pe_bltn (v := .ty "list") rfl T.z_list (by boot_by_name) rfl) pa_nil))) (fun _ => rfl))
    (pss_one (ps_asg (pe_callTy c_listA rfl T.z_list (by boot_by_name) (pa_cons (pe_ix (ix_all hu) (fv 1) (fv 4) (fun _ _ => rfl)) pa_nil)) (pg_sub (fv 3) (fv 4) (st_all hu set_list))))
    pss_nil))))
  (pss_cons (ps_set (i := 5) sc_law_twice.nd rfl (Or.inl rfl) (pe_callX cat_none D_cells_of hr (pa_cons (fv 0) (pa_cons (fv 1) pa_nil))))
  (pss_cons (ps_if (PW.pt (pw_or (pt_not (pt_tru (pe_callD D_law_same hr (pa_cons (fv 5) (pa_cons (fv 2) pa_nil))) (fun _ => rfl))) (pw_or1 (pt_cmpR (o_neD hu) (fv 1) (fv 3) (nomark _)))))
   (pss_one (ps_ret (pe_bl)))
   pss_nil)
  (pss_cons (ps_forD PassesOwn.never rfl (fv 2) (monoV 2) (pg_name (i := 4) sc_law_twice.nd rfl (by first | exact Or.inl rfl | exact Or.inr rfl))
   (pss_one (ps_if (pt_tru (pe_callB c_isinst rfl T.z_isinstance (by boot_by_name) (pa_cons (pe_ix (ix_all hu) (fv 5) (fv 4) (fun _ _ => rfl)) (pa_cons (pe_bltn (v := .ty "list") rfl T.z_list (by boot_by_name) rfl) pa_nil))) (fun _ => rfl))
    (pss_one (ps_asg (pe_int) (pg_sub (pe_ix (ix_all hu) (fv 5) (fv 4) (fun _ _ => rfl)) (pe_int) (st_all hu set_list))))
    pss_nil)))
  (pss_cons (ps_asg (pe_int) (pg_sub (fv 5) (pe_str) (st_all hu set_list)))
  (pss_one (ps_ret (pe_and (pe_cmpR (o_eqU hu) (fv 1) (fv 3) (nomark _)) (pe_one (pe_callD D_law_same hr (pa_cons (pe_callX cat_none D_cells_of hr (pa_cons (fv 0) (pa_cons (fv 1) pa_nil))) (pa_cons (fv 2) pa_nil))))))))))))), ?_⟩
  refine seq_cut fun M1 K1 => ?_
  refine fun k hk => K1 _ _ ?_
  show tSeq _ _ _ _ _
  have s1 := Same.upd hk (HO.dK [])
  have e1 : (upd H k (HO.dK [])) k = some (.dK []) := upd_same
  generalize upd H k (HO.dK []) = H1 at s1 e1 ⊢
  have kg : k ≠ g := fun z => by rw [z, hg] at hk; cases hk
  refine seq_cut fun M2 K2 => ?_
  refine ⟨g, _, rfl, s1 _ _ hg, fun o nf nd => ?_⟩
  have gn : gi.Nodup := dk_nodup nd
  have k0 : (upd H g (.frz o (.dK (dk N gi gf)))) k = none := by rw [upd_ne kg]; exact hk
  have sg : Same (upd H g (.frz o (.dK (dk N gi gf)))) (upd H1 g (.frz o (.dK (dk N gi gf)))) := fun a u h => by
   by_cases z : a = g
   ·subst z; rw [upd_same] at h ⊢; exact h
   ·rw [upd_ne z] at h ⊢; exact s1 _ _ h
  refine ⟨fun i σ H2 => Same (upd H g (.frz o (.dK (dk N gi gf)))) H2 ∧ (∃ f, H2 k = some (.dK (dk N (gi.take i) f)) ∧ ∀ j ∈ gi.take i, KeptV H2 (gf j) (f j)) ∧ ∃ v4, σ = [some (.ref p.pa), some (.ref g), some (.ref d), some (.ref k), v4, none], ⟨sg, ⟨fun _ => .non, by rw [upd_ne kg]; exact e1, fun _ h => (by cases h)⟩, _, rfl⟩, fun i σ H2 _ h => h.1 _ _ upd_same, ?_, ?_⟩
  ·rintro i key v σ H2 hki ⟨s2, ⟨f, hk2, kv⟩, v4, rfl⟩
   obtain ⟨j, hj, rfl, rfl⟩ := dk_at hki
   have mj : j ∈ gi := List.mem_of_getElem? hj
   have il : i < gi.length := (List.getElem?_eq_some_iff.mp hj).1
   have jn : j ∉ gi.take i := fun m => by
    obtain ⟨t, ht, e⟩ := List.mem_take_iff_getElem.mp m
    have h1 := (List.getElem?_eq_some_iff.mp hj).2
    have := (List.getElem_inj gn).mp (e.trans h1.symm)
    omega
   have et : gi.take (i + 1) = gi.take i ++ [j] := by rw [List.take_add_one, hj]; rfl
   have tb : ∀ x ∈ gi.take i, x < 25 := fun x hx => gb x (List.mem_of_mem_take hx)
   have tl : (gi.take i).length ≤ 100 := by rw [List.length_take]; omega
   have g2 : ∀ {H3 : Hp}, Same (upd H g (.frz o (.dK (dk N gi gf)))) H3 → DGet H3 g (.str (N j)) (some (gf j)) := fun s3 => get_in Di (.inr ⟨o, s3 _ _ upd_same⟩) gb mj
   refine ⟨_, g2 s2, _, DPut.k (k := .inr (N j)) hk2 (small1000 (by rw [dk_len]; omega)), ?_⟩
   have hk3 : (upd H2 k (.dK (putK (dk N (gi.take i) f) (.inr (N j)) (gf j)))) k = some (.dK (dk N (gi.take (i + 1)) (updF f j (gf j)))) := by rw [upd_same, dk_new Di (gb j mj) tb jn, et]
   have s3 : Same (upd H g (.frz o (.dK (dk N gi gf)))) (upd H2 k (.dK (putK (dk N (gi.take i) f) (.inr (N j)) (gf j)))) := Same.out s2 k0 _
   have kv3 : ∀ x ∈ gi.take i, KeptV (upd H2 k (.dK (putK (dk N (gi.take i) f) (.inr (N j)) (gf j)))) (gf x) (f x) := fun x hx => (kv x hx).up hk2 (fun _ z => by cases z)
   generalize upd H2 k (.dK (putK (dk N (gi.take i) f) (.inr (N j)) (gf j))) = H3 at hk3 s3 kv3 ⊢
   have tail : ∀ (H4 : Hp) (u : V), Same (upd H g (.frz o (.dK (dk N gi gf)))) H4 → H4 k = some (.dK (dk N (gi.take (i + 1)) (updF f j u))) → KeptV H4 (gf j) u → (∀ x ∈ gi.take i, KeptV H4 (gf x) (f x)) → (∃ f, H4 k = some (.dK (dk N (gi.take (i + 1)) f)) ∧ ∀ x ∈ gi.take (i + 1), KeptV H4 (gf x) (f x)) := fun H4 u s4 h4 ku kx => ⟨_, h4, fun x hx => by
    by_cases e : x = j
    ·rw [e, updF_same]; exact ku
    ·rw [updF_ne _ _ e]
     rw [et] at hx
     rcases List.mem_append.mp hx with z | z
     ·exact kx x z
     ·exact absurd (List.mem_singleton.mp z) e⟩
   rcases gv j mj with ev | ⟨c, ev⟩
   ·rw [ev] at g2 hk3 tail
    refine ⟨_, g2 s3, _, _, _, false, rfl, (fun z => by cases z), .non, kit_nl, false, rfl, iteF ?_⟩
    exact ⟨s3, tail H3 .non s3 hk3 (.inl ⟨rfl, .inl rfl⟩) kv3, _, rfl⟩
   cases c with
   | num n =>
    have ev : gf j = .int n := ev
    rw [ev] at g2 hk3 tail
    refine ⟨_, g2 s3, _, _, _, false, rfl, (fun z => by cases z), .int n, kit_il, false, rfl, iteF ?_⟩
    exact ⟨s3, tail H3 (.int n) s3 hk3 (.inl ⟨rfl, .inr ⟨n, rfl⟩⟩) kv3, _, rfl⟩
   | lst rs =>
    obtain ⟨a, ev, ha⟩ := ev
    have ag : a ≠ g := fun z => by rw [z, hg] at ha; cases ha
    rw [ev] at g2 hk3 tail
    have ha3 := frz_get s3 ag ha
    refine ⟨_, g2 s3, _, _, _, true, rfl, (fun z => by cases z), .lst ha3, kit_ll, true, rfl, iteT ?_⟩
    refine ⟨_, g2 s3, Or.inl ⟨a, _, rfl, Or.inl (SqL.of ha3), fun b hb => ?_⟩⟩
    have s4 := Same.upd hb (HO.lst (rs.map V.int))
    have e4 : (upd H3 b (HO.lst (rs.map V.int))) b = some (.lst (rs.map V.int)) := upd_same
    generalize upd H3 b (HO.lst (rs.map V.int)) = H4 at s4 e4 ⊢
    have hk4 := s4 _ _ hk3
    refine ⟨_, DPut.k (k := .inr (N j)) hk4 (small1000 (by rw [dk_len, et, List.length_append]; show _ + 1 ≤ _; omega)), ?_⟩
    have mem : j ∈ gi.take (i + 1) := by rw [et]; simp
    have kb : ∀ {x : Addr} {xs : List V}, H4 x = some (.lst xs) → x ≠ k := fun h z => by rw [z, hk4] at h; cases h
    refine ⟨Same.out (s3.trans s4) k0 _, tail _ (.ref b) (Same.out (s3.trans s4) k0 _) ?_ (.inr ⟨a, b, rs, rfl, rfl, by rw [upd_ne (kb (s4 _ _ ha3))]; exact s4 _ _ ha3, by rw [upd_ne (kb e4)]; exact e4⟩) (fun x hx => ((kv3 x hx).same s4).up hk4 (fun _ z => by cases z)), _, rfl⟩
    rw [upd_same, dk_put Di (fun x hx => gb x (List.mem_of_mem_take hx)) mem]
    congr 2
    refine dk_congr fun x _ => ?_
    by_cases e : x = j
    ·rw [e, updF_same, updF_same]
    ·rw [updF_ne _ _ e, updF_ne _ _ e, updF_ne _ _ e]
  ·rintro σ H2 ⟨s2, ⟨f, hk2, kv⟩, v4, rfl⟩
   rw [dk_len, List.take_length] at hk2 kv
   refine K2 _ _ ?_
   show tSeq _ _ _ _ _
   have sk : Same H (upd H2 g (.dK (dk N gi gf))) := thaw_same hg s2
   have hk3 : (upd H2 g (.dK (dk N gi gf))) k = some (.dK (dk N gi f)) := by rw [upd_ne kg]; exact hk2
   have hg3 : (upd H2 g (.dK (dk N gi gf))) g = some (.dK (dk N gi gf)) := upd_same
   have kv3 : ∀ j ∈ gi, KeptV (upd H2 g (.dK (dk N gi gf))) (gf j) (f j) := fun j hj => (kv j hj).up (s2 _ _ upd_same) (fun _ z => by cases z)
   generalize upd H2 g (.dK (dk N gi gf)) = Hk at sk hk3 hg3 kv3 ⊢
   clear kv hk2 s2 sg s1 e1
   refine seq_cut fun M3 K3 => ?_
   refine ⟨p, hv, dv, hd, pts, g, gi, gf, G, hd.length, rfl, R.same sk, ok, .inl hg3, gb, good.same sk, Or.inl ⟨rfl, fun c H3 s3 c0 C => K3 _ _ ?_⟩⟩
   refine seq_cut fun M4 K4 => ?_
   have hdk := hdue.same sk
   obtain ⟨f2, hd2, lt2, _⟩ := id hdk
   have cd : c ≠ d := fun z => by rw [z, hd2] at c0; cases c0
   refine ⟨c, d, _, _, rfl, C.holds, hdk.same s3, cd, lok, fun H4 s4 => ?_⟩
   refine ⟨true, rfl, iteF ?_⟩
   have s34 := s3.trans s4
   refine ⟨g, k, _, _, rfl, rfl, .inl (s34 _ _ hg3), .inl (s34 _ _ hk3), by rw [dk_len, dk_len], kept_eq Di gb (fun j hj => (kv3 j hj).same s34), _, rfl, iteF ?_⟩
   refine K4 _ _ ?_
   refine seq_cut fun M5 K5 => ?_
   obtain ⟨ff, hc3, clt, cn⟩ := C
   refine ⟨d, _, rfl, s34 _ _ hd2, fun o nf nd => ?_⟩
   have hdH : H4 d = some (.dK (dk N (cix hd pts pts.length) f2)) := s34 _ _ hd2
   have sfr : Same (upd Hk d (.frz o (.dK (dk N (cix hd pts pts.length) f2)))) (upd H4 d (.frz o (.dK (dk N (cix hd pts pts.length) f2)))) := fun a u h => by
    by_cases z : a = d
    ·subst z; rw [upd_same] at h ⊢; exact h
    ·rw [upd_ne z] at h ⊢; exact s34 _ _ h
   have fv0 : ∀ j ∈ cix hd pts pts.length, FV Hk (upd H4 d (.frz o (.dK (dk N (cix hd pts pts.length) f2)))) (ff j) := fun j hj => by
    rcases (new_fv (cn j hj) (lok j hj)).same s4 with h | ⟨a, xs, e, h0, h1, h2⟩
    ·exact .inl h
    ·exact .inr ⟨a, xs, e, h0, by rw [upd_ne (fun z => by rw [z, hdH] at h1; cases h1)]; exact h1, h2⟩
   refine ⟨fun i σ H5 => Same (upd Hk d (.frz o (.dK (dk N (cix hd pts pts.length) f2)))) H5 ∧ H5 c = some (.dK (dk N (cix hd pts pts.length) ff)) ∧ (∀ j ∈ cix hd pts pts.length, FV Hk H5 (ff j)) ∧ ∃ v4, σ = [some (.ref p.pa), some (.ref g), some (.ref d), some (.ref k), v4, some (.ref c)], ⟨sfr, by rw [upd_ne cd]; exact s4 _ _ hc3, fv0, _, rfl⟩, fun i σ H5 _ h => h.1 _ _ upd_same, ?_, ?_⟩
   ·rintro i key v σ H5 hki ⟨s5, hc5, fv5, v4, rfl⟩
    obtain ⟨j, hj, rfl, rfl⟩ := dk_at hki
    have mj : j ∈ cix hd pts pts.length := List.mem_of_getElem? hj
    have gc : DGet H5 c (.str (N j)) (some (ff j)) := get_in Di (.inl hc5) clt mj
    rcases fv5 j mj with ⟨n, e⟩ | ⟨a, xs, e, a0, ha, xl⟩
    ·rw [e] at gc
     exact ⟨_, gc, _, _, _, false, rfl, (fun z => by cases z), .int n, kit_il, false, rfl, iteF ⟨s5, hc5, fv5, _, rfl⟩⟩
    ·rw [e] at gc
     have ix : ixN xs.length 0 = some 0 := by
      unfold ixN
      rw [if_pos (by decide), if_pos (by omega)]
      rfl
     refine ⟨_, gc, _, _, _, true, rfl, (fun z => by cases z), .lst ha, kit_ll, true, rfl, iteT ⟨_, gc, Or.inl ⟨_, _, ha, ix, ?_⟩⟩⟩
     have ad : a ≠ d := fun z => by rw [z, hd2] at a0; cases a0
     refine ⟨Same.out s5 (by rw [upd_ne ad]; exact a0) _, by rw [upd_ne (fun z => by rw [z, ha] at hc5; cases hc5)]; exact hc5, fun t ht => ?_, _, rfl⟩
     rcases fv5 t ht with h | ⟨b, ys, e2, b0, hb, yl⟩
     ·exact .inl h
     ·by_cases z : b = a
      ·exact .inr ⟨b, _, e2, b0, by rw [z]; exact upd_same, by rw [List.length_set]; exact xl⟩
      ·exact .inr ⟨b, ys, e2, b0, by rw [upd_ne z]; exact hb, yl⟩
   ·rintro σ H5 ⟨s5, hc5, fv5, v4, rfl⟩
    refine K5 _ _ ?_
    show tSeq _ _ _ _ _
    have s6 : Same Hk (upd H5 d (.dK (dk N (cix hd pts pts.length) f2))) := thaw_same hd2 s5
    have hc6 : (upd H5 d (.dK (dk N (cix hd pts pts.length) f2))) c = some (.dK (dk N (cix hd pts pts.length) ff)) := by rw [upd_ne cd]; exact hc5
    generalize upd H5 d (.dK (dk N (cix hd pts pts.length) f2)) = H6 at s6 hc6 ⊢
    refine ⟨_, DPut.k (k := .inr "zz") hc6 (small1000 (by rw [dk_len]; have := cix_len ok; omega)), ?_⟩
    have s7 : Same Hk (upd H6 c (.dK (putK (dk N (cix hd pts pts.length) ff) (.inr "zz") (.int 1)))) := Same.out s6 c0 _
    generalize upd H6 c (.dK (putK (dk N (cix hd pts pts.length) ff) (.inr "zz") (.int 1))) = H7 at s7 ⊢
    refine Or.inr ⟨⟨_, _, .inl (s7 _ _ hg3), .inl (s7 _ _ hk3), by rw [dk_len, dk_len], kept_eq Di gb (fun j hj => (kv3 j hj).same s7)⟩, _, rfl, iteT ?_⟩
    have s07 := sk.trans s7
    refine ⟨p, hv, dv, hd, pts, g, gi, gf, G, hd.length, rfl, R.same s07, ok, .inl (s7 _ _ hg3), gb, good.same s07, Or.inl ⟨rfl, fun c2 H8 s8 c20 C2 => ?_⟩⟩
    have cd2 : c2 ≠ d := fun z => by rw [z, s7 _ _ hd2] at c20; cases c20
    exact ⟨c2, d, _, _, rfl, C2.holds, (hdk.same s7).same s8, cd2, lok, fun H9 s9 => q _ ((s07.trans s8).trans s9)⟩
end
end K21

set_option Elab.async false
set_option linter.all false
set_option maxRecDepth 100000
set_option maxHeartbeats 4000000
namespace K21
open PySem L2
section
variable {P : Program} {w : World} {K : W.Frag} {mg : Str → Option Value} {base : Heap} {A : Adr} {N : Nat → Str}
theorem strOk_iff {x : Str} : PyData.strOk x = true ↔ ∀ c ∈ x.cps.toList, c < 0x110000 := by
 unfold PyData.strOk
 rw [← Array.all_toList, List.all_eq_true]
 exact ⟨fun h c hc => of_decide_eq_true (h c hc), fun h c hc => decide_eq_true (h c hc)⟩
theorem strOk_cut {x : Str} (h : PyData.strOk x = true) (lo hi : Option Int) : PyData.strOk (Txt.slice x lo hi) = true := strOk_iff.mpr fun c hc => strOk_iff.mp h c (slice_mem hc)
theorem strOk_app {x y : Str} (h : PyData.strOk x = true) (h2 : PyData.strOk y = true) : PyData.strOk (x ++ y) = true := strOk_iff.mpr fun c hc => by
 have e : (x ++ y).cps = x.cps ++ y.cps := rfl
 rw [e, Array.toList_append] at hc
 rcases List.mem_append.mp hc with q | q
 ·exact strOk_iff.mp h c q
 ·exact strOk_iff.mp h2 c q
theorem letC_ok {k : Int} (h : k < 26) : PyData.strOk ⟨#[letC k]⟩ = true := strOk_iff.mpr fun c hc => by
 have e : c = letC k := by simpa using hc
 rw [e]
 unfold letC
 omega
theorem rep_ok {k n : Int} (h : k < 26) : PyData.strOk (repS ⟨#[letC k]⟩ n) = true := by
 by_cases hn : 1 ≤ n
 ·refine strOk_iff.mpr fun c hc => ?_
  rw [rep_list _ hn] at hc
  rw [List.eq_of_mem_replicate hc]
  unfold letC
  omega
 ·unfold repS
  rw [if_pos (by omega)]
  decide +kernel
theorem nm_ok (c : Int) (k : Nat) : PyData.strOk (nmV c k) = true := by
 unfold nmV
 split
 ·have h : ∀ i : Fin 25, PyData.strOk (words.getD i.val Str.empty) = true := by decide +kernel
  have := mod_in (c / 4 + k) (show (0 : Int) < 25 by decide)
  exact h ⟨((c / 4 + k) % 25).toNat, by omega⟩
 have h1 := mod_in (c / 288) (show (0 : Int) < 26 by decide)
 have h2 := mod_in ((k : Int) + c / 7488) (show (0 : Int) < 26 by decide)
 have h3 := mod_in (c / 4 + (k : Int) / 8) (show (0 : Int) < 26 by decide)
 split
 ·exact rep_ok h3.2
 ·exact strOk_app (strOk_app (strOk_cut (rep_ok h1.2) _ _) (letC_ok h2.2)) (strOk_cut (rep_ok h1.2) _ _)
theorem NX_ok (c : Int) (k : Nat) : PyData.strOk (NX c k) = true := by
 unfold NX
 split
 ·decide +kernel
 ·exact nm_ok c k
theorem tup_rep {H : Hp} {t : Addr} {x : Str} {b : Bool} (h : H t = some (.tup [.str x, .bl b])) : RepD K H (.ref t) (.tuple [.str x, .bool b]) := .tup (SqT.of h) (.cons (.str x) (.cons (.bl b) .nil))
theorem tup_shaped {x : Str} {b : Bool} (h : PyData.strOk x = true) : SeqAt.shaped (.tuple [.str x, .bool b]) = true := by
 simp [SeqAt.shaped, PyData.canLay0, PyData.canLayAll0, PyData.depth, PyData.depthAll, h]
theorem tup_eqv {x : Str} {b : Bool} (h : PyData.strOk x = true) : PyData.eqv (.tuple [.str x, .bool b]) (.tuple [.str x, .bool b]) = true := SeqAt.eqv_refl _ (by simp [PyData.canLay0, PyData.canLayAll0, h])
theorem comp_rgI {lo : Int} {n : Nat} {fr : List Nat} {te : CB → TE} {Q : VK} {σ : St} {H1 : Hp} (R : Nat → V → Hp → Prop) (hn : n < sizeLine)
  (he : ∀ b i H (G : VK), i < n → Same H1 H → (∀ y H', Same H H' → R i y H' → G y H') → te b (some (.int (lo + i)) :: cFr fr σ) H G)
  (mono : ∀ i y H H', Same H H' → R i y H → R i y H') (st : ∀ i y H D ys zs, H D = some (.lst ys) → R i y H → R i y (upd H D (.lst zs)))
  (fin : ∀ D H ys, H1 D = none → Same H1 H → H D = some (.lst ys) → ys.length = n → (∀ (i : Nat) y, ys[i]? = some y → R i y H) → Q (.ref D) H) : tBlock (Itr lo n) 1 fr (fun _ => gName 0) (fun _ => tYes) te Q σ H1 :=
 comp_rel (x := fun i => .int (lo + i)) R hn (fun _ _ => Nat.le_refl _) (fun _ _ h _ => h) (fun _ _ _ _ _ _ y => y) he mono st fin
theorem gh_mem {ns : List Int} {hd : List HD} {k : Nat} {rk : Int} {z : Nat} (e : hd[k]? = some (.given rk z)) : ∀ {i : Nat}, k < i → k ∈ gh ns hd i
 | i + 1, h => by
  rw [gh_succ]
  by_cases hk : k = i
  ·subst hk
   unfold gstep
   rw [e]
   exact ins_me _ _
  ·have ih := gh_mem (ns := ns) e (i := i) (by omega)
   unfold gstep
   split
   ·exact ins_mem ih
   ·split
    ·exact ins_mem ih
    ·exact ih
   ·exact ih
theorem folds_mem {j : Nat} : ∀ (ps : List (List Nat)) (l : List Nat), j ∈ l → j ∈ ps.foldl (fun l pt => pt.foldl ins l) l
 | [], _, h => h
 | _ :: r, _, h => folds_mem r _ (foldl_ins h)
theorem giftC_len (ns : List Int) (k z : Nat) (hz : z ≤ 20) : lenOk (giftC ns k z) := by
 unfold giftC
 split
 ·trivial
 ·show 0 < _ ∧ _ ≤ 1000
  rw [List.length_map, List.length_range]
  omega
theorem cell_len {ns : List Int} {hd : List HD} {pts : List (List Nat)} (ok : Hds hd pts) (j : Nat) : lenOk (cellOf hd (GG ns hd) j) := by
 unfold cellOf GG
 cases e : hd[j]? with
 | none => trivial
 | some h =>
  have zs := ok.zs h (List.mem_of_getElem? e)
  cases h with
  | given rk z => exact giftC_len ns j z zs
  | own z =>
   show lenOk (ownCl z)
   unfold ownCl
   split
   ·trivial
   ·have zs : z ≤ 20 := zs
    show 0 < (zeros z).length ∧ (zeros z).length ≤ 1000
    unfold zeros
    rw [List.length_replicate]
    omega
  | hand rk => trivial
  | lett rk => trivial
theorem NumV.hid {H : Hp} {v : V} {b : Bool} {o : Addr} {kv : List (Key × V)} (ho : H o = some (.dK kv)) (h : NumV H v b) : NumV (hid o H) v b := by
 cases h with
 | int a => exact .int a
 | bl x => exact .bl x
 | str x => exact .str x
 | non => exact .non
 | tup h => exact .tup (hid_get h (fun z => by rw [z, ho] at h; cases h))
 | lst h => exact .lst (hid_get h (fun z => by rw [z, ho] at h; cases h))
theorem NoL.hid {H : Hp} {v : V} {o : Addr} {kv : List (Key × V)} (ho : H o = some (.dK kv)) (h : NoL H v) : NoL (hid o H) v := by
 cases h with
 | int a => exact .int a
 | bl x => exact .bl x
 | str x => exact .str x
 | non => exact .non
 | tup h => exact .tup (hid_get h (fun z => by rw [z, ho] at h; cases h))
theorem GoodV.hid {H : Hp} {v : V} {z : Nat} {b : Bool} {o : Addr} {kv : List (Key × V)} (ho : H o = some (.dK kv)) (h : GoodV H v z b) : GoodV (hid o H) v z b := by
 rcases h with ⟨h0, h⟩ | ⟨h0, ⟨h, hb⟩ | ⟨p, xs, e, h, hl, h2⟩⟩
 ·exact .inl ⟨h0, h.hid ho⟩
 ·exact .inr ⟨h0, .inl ⟨h.hid ho, hb⟩⟩
 ·refine .inr ⟨h0, .inr ⟨p, xs, e, hid_get h (fun z => by rw [z, ho] at h; cases h), hl, ?_⟩⟩
  rcases h2 with h2 | ⟨h2, g, h3, h4⟩
  ·exact .inl h2
  ·exact .inr ⟨h2, g, fun x hx => (h3 x hx).hid ho, h4⟩
theorem non_good (H : Hp) (z : Nat) : GoodV H .non z false := by
 by_cases z0 : z = 0
 ·exact .inl ⟨z0, .non⟩
 ·exact .inr ⟨by omega, .inl ⟨.non, rfl⟩⟩
theorem look_in {idx : List Nat} {f : Nat → V} {k : Nat} (h : k ∈ idx) : look idx f k = f k := if_pos h
theorem look_ins {idx : List Nat} {f : Nat → V} {k i : Nat} {v : V} (h : k ≠ i) : look (ins idx i) (updF f i v) k = look idx f k := by
 unfold look
 rw [updF_ne _ _ h]
 by_cases m : k ∈ idx
 ·rw [if_pos m, if_pos (ins_mem m)]
 ·rw [if_neg m, if_neg (fun z => by rcases ins_old z with e | e; exact h e; exact m e)]
theorem look_me {idx : List Nat} {f : Nat → V} {i : Nat} {v : V} : look (ins idx i) (updF f i v) i = v := by
 rw [look_in (ins_me _ _), updF_same]
theorem look_drop {idx : List Nat} {f : Nat → V} {k i : Nat} : look (idx.filter fun j => decide (j ≠ i)) f k = if k = i then .non else look idx f k := by
 unfold look
 by_cases e : k = i
 ·rw [if_pos e, if_neg (fun z => by have := (List.mem_filter.mp z).2; exact absurd e (of_decide_eq_true this))]
 ·rw [if_neg e]
  by_cases m : k ∈ idx
  ·rw [if_pos m, if_pos (List.mem_filter.mpr ⟨m, decide_eq_true e⟩)]
  ·rw [if_neg m, if_neg (fun z => m (List.mem_filter.mp z).1)]
def hit (hd : List HD) (s0 s1 : Int) (t : Nat) : Bool := inV (.int (t : Int)) [.int s0, .int s1] && (match hd[t]? with | some (.given _ _) => true | _ => false)
theorem hit_given {hd : List HD} {s0 s1 : Int} {t : Nat} (h : hit hd s0 s1 t = true) : ∃ rk z, hd[t]? = some (.given rk z) := by
 unfold hit at h
 have h := (Bool.and_eq_true_iff.mp h).2
 split at h
 ·exact ⟨_, _, by assumption⟩
 ·cases h
structure Odd (N : Nat → Str) (hd : List HD) (s0 s1 : Int) (gi : List Nat) (gf : Nat → V) (B H2 : Hp) (od : Addr) (oi : List Nat) (of_ : Nat → V) (i : Nat) : Prop where
 s : Same B H2
 b0 : B od = none
 d : H2 od = some (.dK (dk N oi of_))
 lt : ∀ x ∈ oi, x < 25
 len : oi.length ≤ 60 + i
 keep : ∀ t, (i ≤ t ∨ hit hd s0 s1 t = false) → look oi of_ t = look gi gf t
 bad : ∀ t rk z, t < i → hit hd s0 s1 t = true → hd[t]? = some (.given rk z) → GoodV B (look oi of_ t) z false
theorem Odd.next {hd : List HD} {s0 s1 : Int} {gi : List Nat} {gf : Nat → V} {B H2 H3 : Hp} {od : Addr} {oi : List Nat} {of_ : Nat → V} {i : Nat} (O : Odd N hd s0 s1 gi gf B H2 od oi of_ i) (h : hit hd s0 s1 i = false) (s : Same H2 H3) : Odd N hd s0 s1 gi gf B H3 od oi of_ (i + 1) :=
 ⟨O.s.trans s, O.b0, s _ _ O.d, O.lt, by have := O.len; omega, fun t ht => O.keep t (by
  rcases ht with ht | ht
  ·exact .inl (by omega)
  ·exact .inr ht), fun t rk z ht hh e => O.bad t rk z (by
  rcases Nat.lt_or_ge t i with q | q
  ·exact q
  ·have : t = i := by omega
   rw [this, h] at hh; cases hh) hh e⟩
theorem Odd.put (Di : Dist N) {hd : List HD} {s0 s1 : Int} {gi : List Nat} {gf : Nat → V} {B H2 H3 : Hp} {od : Addr} {oi : List Nat} {of_ : Nat → V} {i z : Nat} {rk : Int} {v : V} (O : Odd N hd s0 s1 gi gf B H2 od oi of_ i) (i25 : i < 25) (hi : hit hd s0 s1 i = true) (e : hd[i]? = some (.given rk z)) (s : Same H2 H3) (g : GoodV H3 v z false) :
  ∃ B', Same B B' ∧ DPut H3 od (.str (N i)) v (upd H3 od (.dK (dk N (ins oi i) (updF of_ i v)))) ∧ Odd N hd s0 s1 gi gf B' (upd H3 od (.dK (dk N (ins oi i) (updF of_ i v)))) od (ins oi i) (updF of_ i v) (i + 1) := by
 have d3 := s _ _ O.d
 have sB : Same B (hid od H3) := hid_of O.b0 (O.s.trans s)
 refine ⟨hid od H3, sB, ?_, Same.out hid_same (hid_none _ _) _, hid_none _ _, upd_same, ins_lt O.lt i25, by have := O.len; have := ins_len oi i; omega, fun t ht => ?_, fun t rk' z' ht hh e' => ?_⟩
 ·have := DPut.k (k := .inr (N i)) (v := v) d3 (small1000 (by rw [dk_len]; have := O.len; omega))
  rw [dk_ins Di i25 O.lt] at this
  exact this
 ·by_cases ti : t = i
  ·subst ti
   rcases ht with ht | ht
   ·omega
   ·rw [hi] at ht; cases ht
  ·rw [look_ins ti]
   exact O.keep t (by rcases ht with ht | ht; exact .inl (by omega); exact .inr ht)
 ·by_cases ti : t = i
  ·subst ti
   rw [look_me]
   rw [e] at e'
   cases e'
   exact g.hid d3
  ·rw [look_ins ti]
   exact (O.bad t rk' z' (by omega) hh e').same sB
theorem Odd.drop (Di : Dist N) {hd : List HD} {s0 s1 : Int} {gi : List Nat} {gf : Nat → V} {B H2 : Hp} {od : Addr} {oi : List Nat} {of_ : Nat → V} {i : Nat} (O : Odd N hd s0 s1 gi gf B H2 od oi of_ i) (i25 : i < 25) (hi : hit hd s0 s1 i = true) :
  Odd N hd s0 s1 gi gf B (upd H2 od (.dK (dropK (dk N oi of_) (.inr (N i))))) od (oi.filter fun j => decide (j ≠ i)) of_ (i + 1) := by
 refine ⟨Same.out O.s O.b0 _, O.b0, by rw [upd_same, dk_drop Di i25 O.lt], fun x hx => O.lt x (List.mem_filter.mp hx).1, ?_, fun t ht => ?_, fun t rk z ht hh e => ?_⟩
 ·have := O.len
  have := List.length_filter_le (fun j => decide (j ≠ i)) oi
  omega
 ·rw [look_drop]
  by_cases ti : t = i
  ·subst ti
   rcases ht with ht | ht
   ·omega
   ·rw [hi] at ht; cases ht
  ·rw [if_neg ti]
   exact O.keep t (by rcases ht with ht | ht; exact .inl (by omega); exact .inr ht)
 ·rw [look_drop]
  by_cases ti : t = i
  ·rw [if_pos ti]
   exact non_good B z
  ·rw [if_neg ti]
   exact O.bad t rk z (by omega) hh e
theorem hit_index {s0 s1 : Int} {t : Nat} (h : inV (.int (t : Int)) [.int s0, .int s1] = true) : ∃ j, ([V.int s0, .int s1]).findIdx? (fun a => eqV a (.int (t : Int))) = some j := by
 cases e : ([V.int s0, .int s1]).findIdx? (fun a => eqV a (.int (t : Int))) with
 | some j => exact ⟨j, rfl⟩
 | none =>
  have := List.findIdx?_eq_none_iff.mp e
  unfold inV at h
  obtain ⟨x, hx, h2⟩ := List.any_eq_true.mp h
  rw [this x hx] at h2
  cases h2
def sp_law (K : W.Frag) : Sp := fun vs H Q _ => ∃ (a : Addr) (ns : List Int), vs = [.ref a] ∧ SqL K H a (ns.map V.int) ∧ ns.length ≤ 63 ∧ ∀ H', Q (.bl true) H'
end
end K21

set_option Elab.async false
set_option linter.all false
set_option maxRecDepth 100000
set_option maxHeartbeats 4000000
namespace K21
open PySem L2
section
variable {P : Program} {w : World} {K : W.Frag} {mg : Str → Option Value} {base : Heap} {A : Adr}
theorem HeadAt.upL {N : Nat → Str} {H : Hp} {k : Nat} {v : V} {h : HD} {D : Addr} {ys : List V} (x : HeadAt A N H k v h) (hD : H D = some (.lst ys)) (o : HO) : HeadAt A N (upd H D o) k v h := by
 cases h <;> (obtain ⟨a, dx, m, e, h⟩ := x; exact ⟨a, dx, m, e, by rw [upd_ne (fun z => by rw [z, hD] at h; cases h)]; exact h⟩)
theorem pts_ok (c : Int) (m j : Nat) (hj : j ≤ 2) (hm : m ≤ 12) : ∀ pt ∈ ptsOf c m j, pt.length ≤ 4 ∧ ∀ i ∈ pt, m ≤ i ∧ i < 24 := fun pt hpt => by
 obtain ⟨t, ht, rfl⟩ := List.mem_map.mp hpt
 have ht := List.mem_range.mp ht
 have kb := kk_le c m t
 have pb := pn_le c t
 unfold ptAt
 refine ⟨by rw [List.length_map, List.length_range]; exact pb, fun i hi => ?_⟩
 obtain ⟨u, hu, rfl⟩ := List.mem_map.mp hi
 have hu := List.mem_range.mp hu
 omega
theorem hds_ok (ns : List Int) (m : Nat) (hm : m ≤ 12) : Hds ((List.range m).map fun i : Nat => hdOf (cellI ns (3 + i))) (ptsOf (cellI ns 2) m (cellI ns 2 % 3).toNat) := by
 refine ⟨by rw [List.length_map, List.length_range]; exact hm, fun h hh => ?_, ?_, fun pt hpt => ?_⟩
 ·obtain ⟨i, _, rfl⟩ := List.mem_map.mp hh
  exact hdOf_size _
 ·unfold ptsOf
  rw [List.length_map, List.length_range]
  omega
 ·rw [List.length_map, List.length_range]
  exact pts_ok _ _ _ (by omega) hm pt hpt
theorem h_law (T : Txt K mg A) (F : TopFn K mg "law" s_law ["_law_script"]) : Has P w K mg base 20 "law" ["_law_script"] (sp_law K) := by
 have D_law_cell_at := h_cell_at (P := P) (w := w) (base := base) T
 have D_law_head := h_head (P := P) (w := w) (base := base) T
 have D_law_deeds := h_deeds (P := P) (w := w) (base := base) T
 have D_Program_init := h_Program_init (P := P) (w := w) (base := base) T
 have D_law_odd := h_odd (P := P) (w := w) (base := base) T
 refine F.has (k := 19) sc_law (fun vs H Q E h => ?_) (fun f cdv A' outer s' H vs Q E hr hu h => ?_)
 ·obtain ⟨a, ns, rfl, _⟩ := h
  rfl
 ·obtain ⟨a, ns, rfl, hS, hlen, q⟩ := h
  obtain ⟨N, hN⟩ : ∃ N, N = NX (cellI ns 1) := ⟨_, rfl⟩
  have Di : Dist N := hN ▸ NX_dist _
  have Nok : ∀ i, PyData.strOk (N i) = true := fun i => hN ▸ NX_ok _ _
  have N24 : N 24 = "nobody" := by rw [hN]; rfl
  have D_law_dues := h_dues (P := P) (w := w) (base := base) T Di
  have D_law_refused := h_refused (P := P) (w := w) (base := base) T Di
  have D_law_twice := h_twice (P := P) (w := w) (base := base) T Di
  have D_law_same := h_same (P := P) (w := w) (base := base) T Di
  have D_run := h_run (P := P) (w := w) (base := base) T Di
  refine ⟨_, (pss_cons (ps_set (i := 1) sc_law.nd rfl (Or.inl rfl) (pe_op o_add (pe_int) (pe_op o_mod (pe_callD D_law_cell_at hr (pa_cons (fv 0) (pa_cons (pe_int) pa_nil))) (pe_int))))
  (pss_cons (ps_setComp (j := 2) (N := ["_law_k", "_law_script"]) (own := 1) (fr := [0]) (CompOk.of (by kernel_rfl!)) rfl sc_law.nd rfl (Or.inl rfl) (pi_range1 rfl T.z_range (pa_cons (fv 1) pa_nil)) (fun b => pg_name (i := 0) (show List.Nodup (["_law_k", "_law_script"] : List PySem.Str) by decide +kernel) rfl (by first | exact Or.inl rfl | exact Or.inr rfl)) (fun b => pf_nil) (fun b => pe_callD D_law_head hr (pa_cons (fv 1) (pa_cons (fv 0) pa_nil))))
  (pss_cons (ps_set (i := 3) sc_law.nd rfl (Or.inl rfl) (pe_callD D_law_deeds hr (pa_cons (fv 0) (pa_cons (fv 1) pa_nil))))
  (pss_cons (ps_asg (pe_callD D_law_dues hr (pa_cons (fv 2) (pa_cons (fv 3) (pa_cons (fv 0) pa_nil)))) (pg_tup rfl (pgs_cons (pg_name (i := 4) sc_law.nd rfl (by first | exact Or.inl rfl | exact Or.inr rfl)) (pgs_cons (pg_name (i := 5) sc_law.nd rfl (by first | exact Or.inl rfl | exact Or.inr rfl)) (pgs_nil)))))
  (pss_cons (ps_asg (pe_non) (pg_sub (fv 5) (pe_str) (st_all hu set_list)))
  (pss_cons (ps_set (i := 6) sc_law.nd rfl (Or.inl rfl) (pe_makeD T.o_Program D_Program_init hr (pa_cons (pe_callTy c_listA rfl T.z_list (by boot_by_name) (pa_cons (fv 2) pa_nil)) (pa_cons (pe_callTy c_listA rfl T.z_list (by boot_by_name) (pa_cons (fv 3) pa_nil)) (pa_cons (pe_lst (pa_nil)) pa_nil)))))
  (pss_cons (ps_set (i := 7) sc_law.nd rfl (Or.inl rfl) (pe_dnewK))
  (pss_cons (ps_forD PassesOwn.never rfl (fv 5) (monoV 5) (pg_name (i := 8) sc_law.nd rfl (by first | exact Or.inl rfl | exact Or.inr rfl))
   (pss_one (ps_asg (pe_ix (ix_all hu) (fv 5) (fv 8) (fun _ _ => rfl)) (pg_sub (fv 7) (fv 8) (st_all hu set_list)))))
  (pss_cons (ps_set (i := 9) sc_law.nd rfl (Or.inl rfl) (pe_non))
  (pss_cons (ps_set (i := 10) sc_law.nd rfl (Or.inl rfl) (pe_lst (pa_cons (pe_op o_mod (pe_callD D_law_cell_at hr (pa_cons (fv 0) (pa_cons (pe_int) pa_nil))) (fv 1)) (pa_cons (pe_op o_mod (pe_callD D_law_cell_at hr (pa_cons (fv 0) (pa_cons (pe_int) pa_nil))) (fv 1)) pa_nil))))
  (pss_cons (ps_for PassesOwn.never rfl (pi_range1 rfl T.z_range (pa_cons (fv 1) pa_nil)) (pg_name (i := 11) sc_law.nd rfl (by first | exact Or.inl rfl | exact Or.inr rfl))
   (pss_one (ps_if (PW.pt (pw_and (pt_cmpR (o_inA hu) (fv 11) (fv 10) ((by with_unfolding_all rfl))) (pw_and1 (pt_tru (pe_callB c_isinst rfl T.z_isinstance (by boot_by_name) (pa_cons (pe_ix (ix_all hu) (fv 2) (fv 11) (fun _ _ => rfl)) (pa_cons (pe_gtup T.o_GivenRow.mg) pa_nil))) (fun _ => rfl)))))
    (pss_cons (ps_set (i := 8) sc_law.nd rfl (Or.inl rfl) (pe_fld (pe_ix (ix_all hu) (fv 2) (fv 11) (fun _ _ => rfl)) rfl))
    (pss_cons (ps_set (i := 12) sc_law.nd rfl (Or.inl rfl) (pe_callD D_law_cell_at hr (pa_cons (fv 0) (pa_cons (pe_op o_add (pe_int) (m_indexL (fv 10) (pa_cons (fv 11) pa_nil))) pa_nil))))
    (pss_cons (ps_if (pt_cmpR (o_eqU hu) (pe_op o_mod (fv 12) (pe_int)) (pe_int) (nomark _))
     (pss_one (ps_expr (pe_dpop1 (fv 7) (fv 8) ⟨rfl, rfl, rfl, rfl⟩)))
     (pss_one (ps_asg (pe_callD D_law_odd hr (pa_cons (pe_op o_fdiv (fv 12) (pe_int)) (pa_cons (pe_ix (ix_all hu) (fv 5) (fv 8) (fun _ _ => rfl)) (pa_cons (pe_fld (pe_ix (ix_all hu) (fv 2) (fv 11) (fun _ _ => rfl)) rfl) pa_nil)))) (pg_sub (fv 7) (fv 8) (st_all hu set_list)))))
    (pss_one (ps_if (pt_cmpR (o_is) (fv 9) (pe_non) (nomark _))
     (pss_one (ps_set (i := 9) sc_law.nd rfl (Or.inl rfl) (fv 8)))
     pss_nil)))))
    pss_nil)))
  (pss_cons (ps_if (pt_cmpR (o_isnot) (fv 9) (pe_non) (nomark _))
   (pss_one (ps_for PassesOwn.never rfl (pi_range1 rfl T.z_range (pa_cons (pe_int) pa_nil)) (pg_name (i := 13) sc_law.nd rfl (by first | exact Or.inl rfl | exact Or.inr rfl))
    (pss_one (ps_if (pt_cmpR (o_ne hu) (pe_callD D_law_refused hr (pa_cons (fv 6) (pa_cons (fv 7) (pa_cons (fv 13) pa_nil)))) (pe_tup (pa_cons (fv 9) (pa_cons (pe_bl) pa_nil))) (nomark _))
     (pss_one (ps_ret (pe_bl)))
     pss_nil))))
   pss_nil)
  (pss_cons (ps_set (i := 14) sc_law.nd rfl (Or.inl rfl) (pe_dnewK))
  (pss_cons (ps_for PassesOwn.never rfl (pi_any (fv 2)) (pg_name (i := 15) sc_law.nd rfl (by first | exact Or.inl rfl | exact Or.inr rfl))
   (pss_one (ps_if (pt_tru (pe_callB c_isinst rfl T.z_isinstance (by boot_by_name) (pa_cons (fv 15) (pa_cons (pe_gtup T.o_OwnRow.mg) pa_nil))) (fun _ => rfl))
    (pss_one (ps_asg (pe_ix (ix_all hu) (fv 4) (pe_fld (fv 15) rfl) (fun _ _ => rfl)) (pg_sub (fv 14) (pe_fld (fv 15) rfl) (st_all hu set_list))))
    pss_nil)))
  (pss_one (ps_ret (pe_and (pe_callD D_law_twice hr (pa_cons (fv 6) (pa_cons (fv 5) (pa_cons (fv 4) pa_nil)))) (pe_one (pe_callD D_law_same hr (pa_cons (pe_fld (pe_callX cat_none D_run hr (pa_cons (fv 6) (pa_cons (fv 5) pa_nil))) rfl) (pa_cons (fv 14) pa_nil))))))))))))))))))))), ?_⟩
  refine seq_cut fun M1 K1 => ?_
  refine ⟨a, ns, _, rfl, hS, by decide, (by show (0 : Int) < 12; decide), K1 _ _ ?_⟩
  obtain ⟨m, em, m1, m12⟩ : ∃ m : Nat, 1 + cellI ns 0 % 12 = (m : Int) ∧ 1 ≤ m ∧ m ≤ 12 := ⟨(1 + cellI ns 0 % 12).toNat, by omega, by omega, by omega⟩
  dsimp only
  rw [em]
  refine seq_cut fun M2 K2 => ?_
  refine ⟨m, rfl, by omega, by omega, comp_rgI (fun i y H => HeadAt A N H i y (hdOf (cellI ns (3 + i)))) (small1000 (by omega)) (fun b i H2 G hi s2 k => ⟨a, ns, i, by show [V.ref a, .int (0 + (i : Int))] = _; rw [Int.zero_add], s2.seq hS, by omega, fun v H' s h => k v H' s (by rw [hN]; exact h)⟩) (fun i y H H' s h => h.same s) (fun i y H D ys zs hD h => h.upL hD _) (fun hl H2 hv hl0 s2 ehl hvl hat => K2 _ _ ?_)⟩
  have hvl : hv.length = m := by omega
  have ok := hds_ok ns m m12
  have hh2 : HeadsAt A N H2 hv ((List.range m).map fun i : Nat => hdOf (cellI ns (3 + i))) := ⟨by rw [List.length_map, List.length_range]; exact hvl, fun k v e => by
   have kl := (List.getElem?_eq_some_iff.mp e).1
   exact ⟨_, by rw [List.getElem?_map, List.getElem?_range (by omega)]; rfl, hat k v e⟩⟩
  have hdl : ((List.range m).map fun i : Nat => hdOf (cellI ns (3 + i))).length = m := by rw [List.length_map, List.length_range]
  clear hat
  refine seq_cut fun M3 K3 => ?_
  refine ⟨a, ns, m, rfl, s2.seq hS, m12, fun dl dv H3 s3 edl pr => K3 _ _ ?_⟩
  rw [← hN] at pr
  generalize hpts : ptsOf (cellI ns 2) m (cellI ns 2 % 3).toNat = pts at ok pr
  generalize hhd : ((List.range m).map fun i : Nat => hdOf (cellI ns (3 + i))) = hd at ok hh2 hdl
  clear hpts hhd
  refine seq_cut fun M4 K4 => ?_
  refine ⟨hl, dl, a, hv, dv, hd, pts, ns, rfl, s3 _ _ ehl, edl, hh2.same s3, pr, ok, (s2.trans s3).seq hS, fun tp d g H4 etp Tw gl => ?_⟩
  refine ⟨tp, _, rfl, SqT.of etp, rfl, _, _, rfl, _, _, rfl, rfl, K4 _ _ ?_⟩
  obtain ⟨gf0, hg4, gb0, gn0⟩ := id Tw.g
  refine seq_cut fun M5 K5 => ?_
  refine ⟨_, DPut.k (k := .inr "nobody") hg4 (small1000 (by rw [dk_len]; omega)), K5 _ _ ?_⟩
  have s35 : Same H3 (upd H4 g (.dK (putK (dk N (gix ns hd pts pts.length) gf0) (.inr "nobody") .non))) := Same.out Tw.s Tw.g0 _
  have hg5 : (upd H4 g (.dK (putK (dk N (gix ns hd pts pts.length) gf0) (.inr "nobody") .non))) g = some (.dK (dk N (ins (gix ns hd pts pts.length) 24) (updF gf0 24 .non))) := by
   rw [upd_same, ← N24, dk_ins Di (by decide) gb0]
  have due5 : HoldsD N (upd H4 g (.dK (putK (dk N (gix ns hd pts pts.length) gf0) (.inr "nobody") .non))) d (cix hd pts pts.length) (cellOf hd (GG ns hd)) := (Tw.d.up Tw.n hg4 _).holds
  have cl5 : ∀ j ∈ gix ns hd pts pts.length, ClAt (upd H4 g (.dK (putK (dk N (gix ns hd pts pts.length) gf0) (.inr "nobody") .non))) (gf0 j) (gOf ns hd j) := fun j hj => ((gn0 j hj).up hg4 _).cl
  have dg := Tw.n
  generalize upd H4 g (.dK (putK (dk N (gix ns hd pts pts.length) gf0) (.inr "nobody") .non)) = H5 at s35 hg5 due5 cl5 ⊢
  have gb5 : ∀ i ∈ ins (gix ns hd pts pts.length) 24, i < 25 := ins_lt gb0 (by decide)
  have gl5 : (ins (gix ns hd pts pts.length) 24).length ≤ 60 := by have := ins_len (gix ns hd pts pts.length) 24; omega
  have len := ok.len
  have lk5 : ∀ k rk z, hd[k]? = some (.given rk z) → k ∈ gix ns hd pts pts.length ∧ look (ins (gix ns hd pts pts.length) 24) (updF gf0 24 .non) k = gf0 k ∧ GG ns hd k = gOf ns hd k ∧ (GG ns hd k).fits z := fun k rk z e => by
   have kl := (List.getElem?_eq_some_iff.mp e).1
   have mem : k ∈ gix ns hd pts pts.length := folds_mem _ _ (gh_mem e kl)
   refine ⟨mem, ?_, ?_, ?_⟩
   ·rw [look_ins (by omega), look_in mem]
   ·unfold GG gOf
    rw [e]
   ·unfold GG
    rw [e]
    exact gift_fits ns k z
  have good5 : AllGood H5 hd (ins (gix ns hd pts pts.length) 24) (updF gf0 24 .non) (GG ns hd) hd.length := fun k rk z _ e => by
   obtain ⟨mem, l1, l2, l3⟩ := lk5 k rk z e
   rw [l1, l2]
   exact ⟨cl5 k mem, l2 ▸ l3⟩
  have gv5 : ∀ j ∈ ins (gix ns hd pts pts.length) 24, GVal H5 (updF gf0 24 .non j) := fun j hj => by
   by_cases e : j = 24
   ·rw [e, updF_same]; exact .inl rfl
   ·rw [updF_ne _ _ e]
    rcases ins_old hj with z | z
    ·exact absurd z e
    ·exact .inr ⟨_, cl5 j z⟩
  have nn5 : ∀ k rk z, hd[k]? = some (.given rk z) → k ∈ ins (gix ns hd pts pts.length) 24 ∧ updF gf0 24 .non k ≠ .non := fun k rk z e => by
   obtain ⟨mem, l1, l2, l3⟩ := lk5 k rk z e
   have kl := (List.getElem?_eq_some_iff.mp e).1
   refine ⟨ins_mem mem, ?_⟩
   rw [updF_ne _ _ (by omega)]
   have := cl5 k mem
   cases hc : gOf ns hd k with
   | num n => rw [hc] at this; rw [show gf0 k = .int n from this]; exact fun z => by cases z
   | lst rs =>
    rw [hc] at this
    obtain ⟨x, e, _⟩ := this
    rw [e]
    exact fun z => by cases z
  clear lk5 cl5 gn0 gb0 gl hg4
  generalize ins (gix ns hd pts pts.length) 24 = gi at hg5 gb5 gl5 good5 gv5 nn5
  generalize updF gf0 24 .non = gf at hg5 good5 gv5 nn5
  have s05 := (s2.trans s3).trans s35
  refine seq_cut fun M6 K6 => ?_
  refine Or.inl ⟨hl, _, rfl, Or.inl (SqL.of (s35 _ _ (s3 _ _ ehl))), fun l1 h1 => ?_⟩
  have s6 := Same.upd h1 (HO.lst hv)
  have e6 : (upd H5 l1 (HO.lst hv)) l1 = some (.lst hv) := upd_same
  generalize upd H5 l1 (HO.lst hv) = H6 at s6 e6 ⊢
  refine Or.inl ⟨dl, _, rfl, Or.inl (SqL.of (s6 _ _ (s35 _ _ edl))), fun l2 h2 => ?_⟩
  have s7 := Same.upd h2 (HO.lst dv)
  have e7 : (upd H6 l2 (HO.lst dv)) l2 = some (.lst dv) := upd_same
  generalize upd H6 l2 (HO.lst dv) = H7 at s7 e7 ⊢
  refine ⟨Nat.zero_le _, fun l3 h3 => ?_⟩
  have s8 := Same.upd h3 (HO.lst [])
  have e8 : (upd H7 l3 (HO.lst [])) l3 = some (.lst []) := upd_same
  generalize upd H7 l3 (HO.lst []) = H8 at s8 e8 ⊢
  refine fun r dx hr9 hd_ hne_ => mk_Program (SqL.of (s8 _ _ (s7 _ _ e6))) (SqL.of (s8 _ _ e7)) (SqL.of e8) hr9 hd_ fun nh nd nm H9 hnh hnd hnm s9 hlh hld hlm hx9 => ⟨rfl, ?_⟩
  have s59 := (s6.trans s7).trans (s8.trans s9)
  have s39 := s35.trans s59
  have R9 : PrAt A N H9 ⟨r, dx, nh, nd, nm⟩ hv hd dv pts := ⟨hx9, hlh, hld, hlm, hh2.same (s3.trans s39), Paired.mapP pr fun _ _ h => h.same s39⟩
  have hg9 := s59 _ _ hg5
  have due9 := due5.same s59
  have good9 := good5.same s59
  have gv9 : ∀ j ∈ gi, GVal H9 (gf j) := fun j hj => by
   rcases gv5 j hj with e | ⟨c, e⟩
   ·exact .inl e
   ·exact .inr ⟨c, e.same s59⟩
  have hl9 := s59 _ _ (s35 _ _ (s3 _ _ ehl))
  have hh9 := R9.hh
  have S9 : SqL K H9 a (ns.map V.int) := (s05.trans s59).seq hS
  refine K6 _ _ ?_
  clear s59 s39 e8 h3 s8 e7 h2 s7 e6 h1 s6 gv5 good5 due5 hg5 s35 s05
  refine seq_cut fun M7 K7 => ?_
  refine fun od hod => K7 _ _ ?_
  show tSeq _ _ _ _ _
  have s10 := Same.upd hod (HO.dK [])
  have e10 : (upd H9 od (HO.dK [])) od = some (.dK []) := upd_same
  generalize upd H9 od (HO.dK []) = H10 at s10 e10 ⊢
  have og : od ≠ g := fun z => by rw [z, hg9] at hod; cases hod
  refine seq_cut fun M8 K8 => ?_
  refine ⟨g, _, rfl, s10 _ _ hg9, fun o nf ndd => ?_⟩
  have gn : gi.Nodup := dk_nodup ndd
  have o0 : (upd H9 g (.frz o (.dK (dk N gi gf)))) od = none := by rw [upd_ne og]; exact hod
  have sg : Same (upd H9 g (.frz o (.dK (dk N gi gf)))) (upd H10 g (.frz o (.dK (dk N gi gf)))) := fun x u h => by
   by_cases z : x = g
   ·subst z; rw [upd_same] at h ⊢; exact h
   ·rw [upd_ne z] at h ⊢; exact s10 _ _ h
  refine ⟨fun i σ H2 => Same (upd H9 g (.frz o (.dK (dk N gi gf)))) H2 ∧ H2 od = some (.dK (dk N (gi.take i) gf)) ∧ ∃ v8, σ = [some (.ref a), some (.int m), some (.ref hl), some (.ref dl), some (.ref d), some (.ref g), some (.ref r), some (.ref od), v8, none, none, none, none, none, none, none], ⟨sg, by rw [upd_ne og]; exact e10, _, rfl⟩, fun i σ H2 _ h => h.1 _ _ upd_same, ?_, ?_⟩
  ·rintro i key v σ H11 hki ⟨s11, ho11, v8, rfl⟩
   obtain ⟨j, hj, rfl, rfl⟩ := dk_at hki
   have mj : j ∈ gi := List.mem_of_getElem? hj
   have jn : j ∉ gi.take i := fun mm => by
    obtain ⟨t, ht, e⟩ := List.mem_take_iff_getElem.mp mm
    have h1 := (List.getElem?_eq_some_iff.mp hj).2
    have := (List.getElem_inj gn).mp (e.trans h1.symm)
    omega
   have et : gi.take (i + 1) = gi.take i ++ [j] := by rw [List.take_add_one, hj]; rfl
   have tb : ∀ x ∈ gi.take i, x < 25 := fun x hx => gb5 x (List.mem_of_mem_take hx)
   refine ⟨_, get_in Di (.inr ⟨o, s11 _ _ upd_same⟩) gb5 mj, _, DPut.k (k := .inr (N j)) ho11 (small1000 (by rw [dk_len, List.length_take]; omega)), ?_⟩
   refine ⟨Same.out s11 o0 _, ?_, _, rfl⟩
   rw [upd_same, dk_new Di (gb5 j mj) tb jn, et]
   congr 2
   refine dk_congr fun x _ => ?_
   by_cases e : x = j
   ·rw [e, updF_same]
   ·rw [updF_ne _ _ e]
  rintro σ H11 ⟨s11, ho11, v8, rfl⟩
  rw [dk_len, List.take_length] at ho11
  refine K8 _ _ ?_
  show tSeq _ _ _ _ _
  have s912 : Same H9 (upd H11 g (.dK (dk N gi gf))) := thaw_same hg9 s11
  have ho12 : (upd H11 g (.dK (dk N gi gf))) od = some (.dK (dk N gi gf)) := by rw [upd_ne og]; exact ho11
  generalize upd H11 g (.dK (dk N gi gf)) = H12 at s912 ho12 ⊢
  clear sg o0 s11 ho11 e10 s10
  refine seq_cut fun M9 K9 => ?_
  refine K9 _ _ ?_
  refine seq_cut fun M10 K10 => ?_
  refine ⟨a, ns, _, rfl, s912.seq S9, by decide, (by show (0 : Int) < (m : Int); omega), a, ns, _, rfl, s912.seq S9, by decide, (by show (0 : Int) < (m : Int); omega), (by show 2 ≤ sizeLine; decide), fun sp hsp => K10 _ _ ?_⟩
  show tSeq _ _ _ _ (upd H12 sp (HO.lst [V.int (cellI ns 28 % (m : Int)), .int (cellI ns 29 % (m : Int))]))
  generalize cellI ns 28 % (m : Int) = s0
  generalize cellI ns 29 % (m : Int) = s1
  have s13 := Same.upd hsp (HO.lst [V.int s0, .int s1])
  have e13 : (upd H12 sp (HO.lst [V.int s0, .int s1])) sp = some (.lst [V.int s0, .int s1]) := upd_same
  generalize upd H12 sp (HO.lst [V.int s0, .int s1]) = H13 at s13 e13 ⊢
  have ho13 := s13 _ _ ho12
  have spo : sp ≠ od := fun z => by rw [z, ho13] at e13; cases e13
  have sB9 : Same H9 (hid od H13) := hid_of hod (s912.trans s13)
  have O0 : Odd N hd s0 s1 gi gf (hid od H13) H13 od gi gf 0 := ⟨hid_same, hid_none _ _, ho13, gb5, by omega, fun _ _ => rfl, fun t rk z ht => by omega⟩
  have eB : hid od H13 sp = some (.lst [V.int s0, .int s1]) := hid_get e13 spo
  refine seq_cut fun M11 K11 => ?_
  refine ⟨m, rfl, by omega, by omega, ?_⟩
  refine for_range (fun i σ H2 => (∃ B oi of_, Same H9 B ∧ B sp = some (.lst [V.int s0, .int s1]) ∧ Odd N hd s0 s1 gi gf B H2 od oi of_ i) ∧ ∃ v8 bd v11 v12, ((bd = V.non ∧ ∀ t, t < i → hit hd s0 s1 t = false) ∨ (∃ j, j < i ∧ hit hd s0 s1 j = true ∧ (∀ t, t < j → hit hd s0 s1 t = false) ∧ bd = .str (N j))) ∧ σ = [some (.ref a), some (.int m), some (.ref hl), some (.ref dl), some (.ref d), some (.ref g), some (.ref r), some (.ref od), v8, some bd, some (.ref sp), v11, v12, none, none, none]) ⟨⟨_, gi, gf, sB9, eB, O0⟩, _, .non, _, _, .inl ⟨rfl, fun t ht => by omega⟩, rfl⟩ ?_ ?_
  ·rintro i σ H14 hi ⟨⟨B, oi, of_, sB, eB, O⟩, v8, bd, v11, v12, hbd, rfl⟩
   have hi : i < m := by omega
   have hvi := List.getElem?_eq_getElem (l := hv) (i := i) (by omega)
   have a1 : atI hv (0 + (i : Int)) = some hv[i] := by rw [Int.zero_add]; exact atI_nat hvi
   have s14 := sB.trans O.s
   obtain ⟨h, hdi, hat⟩ := hh9.2 i _ hvi
   have hat := hat.same s14
   have i25 : i < 25 := by omega
   refine Or.inl ⟨_, Or.inl (SqL.of (O.s _ _ eB)), rfl, rfl, _, rfl, ?_⟩
   have zi : (0 + (i : Int)) = (i : Int) := Int.zero_add _
   have bdN : hit hd s0 s1 i = false → ((bd = V.non ∧ ∀ t, t < i + 1 → hit hd s0 s1 t = false) ∨ (∃ j, j < i + 1 ∧ hit hd s0 s1 j = true ∧ (∀ t, t < j → hit hd s0 s1 t = false) ∧ bd = .str (N j))) := fun hf => by
    rcases hbd with ⟨e, h⟩ | ⟨j, h1, h2⟩
    ·refine .inl ⟨e, fun t ht => ?_⟩
     rcases Nat.lt_or_ge t i with z | z
     ·exact h t z
     ·have : t = i := by omega
      rw [this]; exact hf
    ·exact .inr ⟨j, by omega, h2⟩
   cases hin : inV (.int (0 + (i : Int))) [.int s0, .int s1] with
   | false =>
    have hf : hit hd s0 s1 i = false := by unfold hit; rw [← zi, hin]; rfl
    exact iteF ⟨⟨B, oi, of_, sB, eB, O.next hf (Same.refl _)⟩, _, bd, _, _, bdN hf, rfl⟩
   | true =>
    refine iteT ?_
    refine Or.inl ⟨_, _, Or.inl (SqL.of (s14 _ _ hl9)), a1, ?_⟩
    cases h with
    | given rk z =>
     have ht : hit hd s0 s1 i = true := by unfold hit; rw [← zi, hin, hdi]; rfl
     have z20 : z ≤ 20 := ok.zs _ (List.mem_of_getElem? hdi)
     obtain ⟨rr, dx, mm, e, ha⟩ := hat
     rw [e] at a1 ⊢
     refine ⟨_, _, _, true, rfl, (fun z => by cases z), T.o_GivenRow.tyOf ha, kitT T.o_GivenRow, true, rfl, iteT ?_⟩
     refine Or.inl ⟨_, _, Or.inl (SqL.of (s14 _ _ hl9)), a1, rr, _, dx, _, _, rfl, ha, T.o_GivenRow.cl, T.n_GivenRow_name, rfl, ?_⟩
     rw [zi] at hin
     obtain ⟨jx, hjx⟩ := hit_index hin
     refine ⟨Or.inl ⟨rfl, _, SqL.of (O.s _ _ eB)⟩, sp, _, _, jx, rfl, rfl, SqL.of (O.s _ _ eB), by show 2 ≤ 1000; decide, rfl, rfl, by rw [zi]; exact hjx, a, ns, _, rfl, s14.seq S9, by omega, ?_⟩
     obtain ⟨mi, nni⟩ := nn5 i rk z hdi
     have lki := O.keep i (.inl (Nat.le_refl _))
     rw [look_in mi] at lki
     have moi : i ∈ oi := by
      by_cases q : i ∈ oi
      ·exact q
      ·unfold look at lki
       rw [if_neg q] at lki
       exact absurd lki.symm nni
     rw [look_in moi] at lki
     have cli := (good9 i rk z (by rw [hdl]; exact hi) hdi).1
     have fti := (good9 i rk z (by rw [hdl]; exact hi) hdi).2
     rw [look_in mi] at cli
     have cl14 := cli.same s14
     have bdS : (bd = V.non → (∃ j, j < i + 1 ∧ hit hd s0 s1 j = true ∧ (∀ t, t < j → hit hd s0 s1 t = false) ∧ V.str (N i) = .str (N j))) ∧ (bd ≠ V.non → ∃ j, j < i + 1 ∧ hit hd s0 s1 j = true ∧ (∀ t, t < j → hit hd s0 s1 t = false) ∧ bd = .str (N j)) := by
      rcases hbd with ⟨e, h⟩ | ⟨j, h1, h2, h3, h4⟩
      ·exact ⟨fun _ => ⟨i, by omega, ht, h, rfl⟩, fun n => absurd e n⟩
      ·exact ⟨fun n => (by rw [h4] at n; cases n), fun _ => ⟨j, by omega, h2, h3, h4⟩⟩
     dsimp only
     refine seq_cut fun M12 K12 => ?_
     refine ⟨(by show (0 : Int) < 5; decide), rfl, _, rfl, ite2 (fun _ => ?_) (fun _ => ?_)⟩
     ·refine ⟨od, rfl, Or.inl ⟨_, .inl O.d⟩, _, .inr (N i), _, O.d, rfl, dk_get Di O.lt moi, K12 _ _ ?_⟩
      refine ⟨rfl, _, rfl, ite2 (fun b => ?_) (fun b => ?_)⟩
      ·exact ⟨⟨B, _, of_, sB, eB, O.drop Di i25 ht⟩, _, _, _, _, .inr (bdS.1 (of_decide_eq_true b)), rfl⟩
      ·exact ⟨⟨B, _, of_, sB, eB, O.drop Di i25 ht⟩, _, bd, _, _, .inr (bdS.2 (fun z => b (decide_eq_true z))), rfl⟩
     ·refine ⟨⟨by decide, by decide⟩, _, get_in Di (.inl (s14 _ _ hg9)) gb5 mi, Or.inl ⟨_, _, Or.inl (SqL.of (s14 _ _ hl9)), a1, rr, _, dx, _, _, rfl, ha, T.o_GivenRow.cl, T.n_GivenRow_size, rfl, _, _, z, _, rfl, cl14, fti, z20, fun v' H15 s15 gd => ?_⟩⟩
      obtain ⟨B', sB', dp, O'⟩ := O.put Di i25 ht hdi s15 gd
      refine ⟨_, dp, K12 _ _ ?_⟩
      refine ⟨rfl, _, rfl, ite2 (fun b => ?_) (fun b => ?_)⟩
      ·exact ⟨⟨B', _, _, sB.trans sB', sB' _ _ eB, O'⟩, _, _, _, _, .inr (bdS.1 (of_decide_eq_true b)), rfl⟩
      ·exact ⟨⟨B', _, _, sB.trans sB', sB' _ _ eB, O'⟩, _, bd, _, _, .inr (bdS.2 (fun z => b (decide_eq_true z))), rfl⟩
    | own z =>
     have hf : hit hd s0 s1 i = false := by unfold hit; rw [hdi, Bool.and_false]
     obtain ⟨rr, dx, mm, e, ha⟩ := hat
     rw [e]
     refine ⟨_, _, _, false, rfl, (fun z => by cases z), T.o_OwnRow.tyOf ha, kitF T.o_OwnRow T.o_GivenRow (cls_ne T 2 3) (cls_ne T 2 0), false, rfl, iteF ?_⟩
     exact ⟨⟨B, oi, of_, sB, eB, O.next hf (Same.refl _)⟩, _, bd, _, _, bdN hf, rfl⟩
    | hand z =>
     have hf : hit hd s0 s1 i = false := by unfold hit; rw [hdi, Bool.and_false]
     obtain ⟨rr, dx, mm, e, ha⟩ := hat
     rw [e]
     refine ⟨_, _, _, false, rfl, (fun z => by cases z), T.o_HandRow.tyOf ha, kitF T.o_HandRow T.o_GivenRow (cls_ne T 2 1) (cls_ne T 2 0), false, rfl, iteF ?_⟩
     exact ⟨⟨B, oi, of_, sB, eB, O.next hf (Same.refl _)⟩, _, bd, _, _, bdN hf, rfl⟩
    | lett z =>
     have hf : hit hd s0 s1 i = false := by unfold hit; rw [hdi, Bool.and_false]
     obtain ⟨rr, dx, mm, e, ha⟩ := hat
     rw [e]
     refine ⟨_, _, _, false, rfl, (fun z => by cases z), T.o_LetRow.tyOf ha, kitF T.o_LetRow T.o_GivenRow (cls_ne T 2 4) (cls_ne T 2 0), false, rfl, iteF ?_⟩
     exact ⟨⟨B, oi, of_, sB, eB, O.next hf (Same.refl _)⟩, _, bd, _, _, bdN hf, rfl⟩
  rintro σ H14 ⟨⟨B, oi, of_, sB, eB, O⟩, v8, bd, v11, v12, hbd, rfl⟩
  have em2 : ((m : Int)).toNat = m := by omega
  rw [em2] at O hbd
  refine K11 _ _ ?_
  have s14 := sB.trans O.s
  clear O0 eB sB9 e13 s13 ho13 spo K11 K10 K9 K8 K7 K6 K5 K4 K3 K2 K1
  refine seq_cut fun M15 K15 => ?_
  have K15' : ∀ (H15 : Hp) (v13 : Option V), Same H9 H15 → M15 [some (.ref a), some (.int m), some (.ref hl), some (.ref dl), some (.ref d), some (.ref g), some (.ref r), some (.ref od), v8, some bd, some (.ref sp), v11, v12, v13, none, none] H15 := fun H15 v13 s15 => by
   refine K15 _ _ ?_
   refine seq_cut fun M16 K16 => ?_
   refine fun ow how => K16 _ _ ?_
   show tSeq _ _ _ _ _
   have s16 := Same.upd how (HO.dK [])
   have e16 : (upd H15 ow (HO.dK [])) ow = some (.dK []) := upd_same
   generalize upd H15 ow (HO.dK []) = H16 at s16 e16 ⊢
   have how9 : H9 ow = none := Same.free s15 how
   refine seq_cut fun M17 K17 => ?_
   obtain ⟨fd, hd9, dlt, dcl⟩ := id due9
   have owd : ow ≠ d := fun z => by rw [z, hd9] at how9; cases how9
   refine Or.inl ⟨⟨_, SqL.of ((s15.trans s16) _ _ hl9)⟩, ?_⟩
   refine for_list (K := K) (xs := hv) (fun i σ H17 => Same H9 H17 ∧ H17 ow = some (.dK (dk N (oix hd i) fd)) ∧ ∃ v15, σ = [some (.ref a), some (.int m), some (.ref hl), some (.ref dl), some (.ref d), some (.ref g), some (.ref r), some (.ref od), v8, some bd, some (.ref sp), v11, v12, v13, some (.ref ow), v15]) ⟨s15.trans s16, e16, _, rfl⟩ (fun i σ H17 _ h => SqL.of (h.1 _ _ hl9)) ?_ ?_
   ·rintro i v σ H17 hvi ⟨s17, e17, v15, rfl⟩
    obtain ⟨h, hdi, hat⟩ := hh9.2 i _ hvi
    have hat := hat.same s17
    have il : i < hd.length := (List.getElem?_eq_some_iff.mp hdi).1
    have ox : oix hd (i + 1) = if isO hd i = true then oix hd i ++ [i] else oix hd i := by
     unfold oix
     rw [List.range_succ, List.filter_append]
     by_cases q : isO hd i = true
     ·rw [if_pos q]; simp [q]
     ·rw [if_neg q]; simp [q]
    cases h with
    | given rk z =>
     obtain ⟨rr, dx, mm, rfl, ha⟩ := hat
     refine ⟨_, _, _, false, rfl, (fun z => by cases z), T.o_GivenRow.tyOf ha, kitF T.o_GivenRow T.o_OwnRow (cls_ne T 3 2) (cls_ne T 3 0), false, rfl, iteF ⟨s17, ?_, _, rfl⟩⟩
     rw [ox, if_neg (by unfold isO; rw [hdi]; exact Bool.false_ne_true)]; exact e17
    | own z =>
     have io : isO hd i = true := by unfold isO; rw [hdi]
     obtain ⟨rr, dx, mm, rfl, ha⟩ := hat
     have mi : i ∈ cix hd pts pts.length := cix_mem (hix_own (List.mem_filter.mpr ⟨List.mem_range.mpr il, io⟩)) _
     have inn : i ∉ oix hd i := fun z => by have := oix_lt z; omega
     have ol : ∀ x ∈ oix hd i, x < 25 := fun x hx => by have := oix_lt hx; omega
     have oll : (oix hd i).length ≤ 12 := by
      have := List.length_filter_le (isO hd) (List.range i)
      rw [List.length_range] at this
      exact Nat.le_trans this (by omega)
     refine ⟨_, _, _, true, rfl, (fun z => by cases z), T.o_OwnRow.tyOf ha, kitT T.o_OwnRow, true, rfl, iteT ?_⟩
     refine ⟨rr, _, dx, _, _, rfl, ha, T.o_OwnRow.cl, T.n_OwnRow_name, rfl, _, get_in Di (.inl (s17 _ _ hd9)) dlt mi, rr, _, dx, _, _, rfl, ha, T.o_OwnRow.cl, T.n_OwnRow_name, rfl, _, DPut.k (k := .inr (N i)) e17 (small1000 (by rw [dk_len]; omega)), ?_⟩
     refine ⟨Same.out s17 how9 _, ?_, _, rfl⟩
     rw [upd_same, dk_new Di (by omega) ol inn, ox, if_pos io]
     congr 2
     refine dk_congr fun x _ => ?_
     by_cases e : x = i
     ·rw [e, updF_same]
     ·rw [updF_ne _ _ e]
    | hand rk =>
     obtain ⟨rr, dx, mm, rfl, ha⟩ := hat
     refine ⟨_, _, _, false, rfl, (fun z => by cases z), T.o_HandRow.tyOf ha, kitF T.o_HandRow T.o_OwnRow (cls_ne T 3 1) (cls_ne T 3 0), false, rfl, iteF ⟨s17, ?_, _, rfl⟩⟩
     rw [ox, if_neg (by unfold isO; rw [hdi]; exact Bool.false_ne_true)]; exact e17
    | lett rk =>
     obtain ⟨rr, dx, mm, rfl, ha⟩ := hat
     refine ⟨_, _, _, false, rfl, (fun z => by cases z), T.o_LetRow.tyOf ha, kitF T.o_LetRow T.o_OwnRow (cls_ne T 3 4) (cls_ne T 3 0), false, rfl, iteF ⟨s17, ?_, _, rfl⟩⟩
     rw [ox, if_neg (by unfold isO; rw [hdi]; exact Bool.false_ne_true)]; exact e17
   ·rintro σ H17 ⟨s17, e17, v15, rfl⟩
    rw [hvl, ← hdl] at e17
    refine K17 _ _ ?_
    refine ⟨⟨r, dx, nh, nd, nm⟩, hv, dv, hd, pts, g, d, gi, gf, GG ns hd, rfl, R9.same s17, ok, s17 _ _ hg9, gb5, by omega, fun j hj => ?_, good9.same s17, due9.same s17, fun j _ => cell_len ok j, dg, fun H18 s18 => ?_⟩
    ·rcases gv9 j hj with e | ⟨c, e⟩
     ·exact .inl e
     ·exact .inr ⟨c, e.same s17⟩
    ·refine ⟨true, rfl, iteT ?_⟩
     have s918 := s17.trans s18
     refine ⟨⟨r, dx, nh, nd, nm⟩, hv, dv, hd, pts, g, gi, gf, GG ns hd, hd.length, rfl, R9.same s918, ok, .inl (s918 _ _ hg9), gb5, good9.same s918, Or.inl ⟨rfl, fun b db l sd t e H19 s19 e0 hb E => ?_⟩⟩
     refine ⟨b, _, db, _, _, rfl, hb, T.o_Book.cl, T.n_Book_ends, rfl, ?_⟩
     have e18 := s18 _ _ e17
     have s919 := s918.trans s19
     have eow : e ≠ ow := fun z => by rw [z, e18] at e0; cases e0
     exact ⟨e, ow, _, _, rfl, E, ⟨fd, s19 _ _ e18, fun x hx => by have := oix_lt hx; omega, fun j hj => (dcl j (cix_mem (hix_own hj) _)).same s919⟩, eow, fun j _ => cell_len ok j, fun H20 _ => q _⟩
  rcases hbd with ⟨rfl, _⟩ | ⟨j, jm, hj, jf, rfl⟩
  ·exact ⟨rfl, _, rfl, iteF (K15' _ _ s14)⟩
  ·obtain ⟨rk, z, hdj⟩ := hit_given hj
   refine ⟨rfl, _, rfl, iteT ?_⟩
   refine ⟨3, rfl, by decide, by decide, ?_⟩
   refine for_range (fun i σ H15 => Same H14 H15 ∧ ∃ v13, σ = [some (.ref a), some (.int m), some (.ref hl), some (.ref dl), some (.ref d), some (.ref g), some (.ref r), some (.ref od), v8, some (.str (N j)), some (.ref sp), v11, v12, v13, none, none]) ⟨Same.refl _, _, rfl⟩ ?_ ?_
   ·rintro i σ H15 hi ⟨s15, v13, rfl⟩
    have s95 := s14.trans s15
    have gd : AllGood H15 hd oi of_ (GG ns hd) j := fun k rk z hk e => by
     rw [O.keep k (.inr (jf k hk))]
     exact ⟨((good9 k rk z (by rw [hdl]; omega) e).1).same s95, (good9 k rk z (by rw [hdl]; omega) e).2⟩
    refine ⟨⟨r, dx, nh, nd, nm⟩, hv, dv, hd, pts, od, oi, of_, GG ns hd, j, rk, z, i, by show [V.ref r, .ref od, .int (0 + (i : Int))] = _; rw [Int.zero_add], R9.same s95, ok, .inl (s15 _ _ O.d), O.lt, gd, hdj, (O.bad j rk z jm hj hdj).same (O.s.trans s15), fun t H16 s16 et => ?_⟩
    refine ⟨by show 2 ≤ sizeLine; decide, fun t2 ht2 => ?_⟩
    refine ⟨_, _, tup_rep (Same.upd ht2 _ _ _ et), tup_rep upd_same, tup_shaped (Nok j), tup_shaped (Nok j), _, rfl, ?_⟩
    rw [tup_eqv (Nok j)]
    exact iteF ⟨(s15.trans s16).trans (Same.upd ht2 _), _, rfl⟩
   ·rintro σ H15 ⟨s15, v13, rfl⟩
    exact K15' _ _ (s14.trans s15)
end
end K21

set_option Elab.async false
set_option linter.all false
set_option maxRecDepth 100000
set_option maxHeartbeats 4000000
namespace K21
open PySem L2
theorem exC {us : List Value} {n : Nat} (h : us.length = n + 1) : ∃ b t, us = b :: t ∧ t.length = n := by
 cases us with
 | nil => cases h
 | cons b t => exact ⟨b, t, rfl, Nat.succ.inj h⟩
theorem exN0 {us : List Value} (h : us.length = 0) : us = [] := by
 cases us with
 | nil => rfl
 | cons b t => cases h
theorem exN1 {us : List Value} (h : us.length = 1) : ∃ b0, us = [b0] := by
 obtain ⟨b0, t, rfl, e⟩ := exC h
 obtain ⟨rfl⟩ := exN0 e
 exact ⟨b0, rfl⟩
theorem exN2 {us : List Value} (h : us.length = 2) : ∃ b0 b1, us = [b0, b1] := by
 obtain ⟨b0, t, rfl, e⟩ := exC h
 obtain ⟨b1, rfl⟩ := exN1 e
 exact ⟨b0, b1, rfl⟩
theorem exN3 {us : List Value} (h : us.length = 3) : ∃ b0 b1 b2, us = [b0, b1, b2] := by
 obtain ⟨b0, t, rfl, e⟩ := exC h
 obtain ⟨b1, b2, rfl⟩ := exN2 e
 exact ⟨b0, b1, b2, rfl⟩
theorem exN4 {us : List Value} (h : us.length = 4) : ∃ b0 b1 b2 b3, us = [b0, b1, b2, b3] := by
 obtain ⟨b0, t, rfl, e⟩ := exC h
 obtain ⟨b1, b2, b3, rfl⟩ := exN3 e
 exact ⟨b0, b1, b2, b3, rfl⟩
theorem exN5 {us : List Value} (h : us.length = 5) : ∃ b0 b1 b2 b3 b4, us = [b0, b1, b2, b3, b4] := by
 obtain ⟨b0, t, rfl, e⟩ := exC h
 obtain ⟨b1, b2, b3, b4, rfl⟩ := exN4 e
 exact ⟨b0, b1, b2, b3, b4, rfl⟩
theorem all_mk {l : W.OpenLaw} {w : World} {K : W.Frag} {h : Heap} {mg : Str → Option Value} {fa f1 f2 f3 f4 f5 f8 f9 f10 f11 f12 f13 f14 f15 f16 f17 f18 f19 f20 f21 A_Row A_HandRow A_GivenRow A_OwnRow A_LetRow A_SetRow A_PutRow A_SendRow A_SayRow A_CallRow A_LastRow A_IfRow A_LoopRow A_DeedRow A_Program A_Book A_Run A_HushError A_NoGift A_NotAlike A_Unknown : Addr} (X : K.In h) (G : h.Ns mainGlobals mg) (hfa : mg "law" = some (.ref fa))
  {od1 an1 : Option Addr} {sl1 : Array (Option Value)} {oc1 kV1 dc1 pm1 cd1 ct1 : Value}
  (a1 : W.nsIn K mainGlobals "is_number" = some (some (.ref f1))) (l1 : K.lookup f1 = some ⟨oc1, od1, .func (W.fnOf "is_number" "is_number" (defArgs s_is_number) (defBody s_is_number) (defScope s_is_number) .none kV1 dc1 pm1 an1 cd1 ct1), sl1⟩) (c1 : W.codeIn K cd1 "is_number" = true) (k1 : W.keepIn K (.ref f1) = true)
  {od2 an2 : Option Addr} {sl2 : Array (Option Value)} {oc2 kV2 dc2 pm2 cd2 ct2 : Value}
  (a2 : W.nsIn K mainGlobals "is_good" = some (some (.ref f2))) (l2 : K.lookup f2 = some ⟨oc2, od2, .func (W.fnOf "is_good" "is_good" (defArgs s_is_good) (defBody s_is_good) (defScope s_is_good) .none kV2 dc2 pm2 an2 cd2 ct2), sl2⟩) (c2 : W.codeIn K cd2 "is_good" = true) (k2 : W.keepIn K (.ref f2) = true)
  {od3 an3 : Option Addr} {sl3 : Array (Option Value)} {oc3 kV3 dc3 pm3 cd3 ct3 : Value}
  (a3 : W.nsIn K mainGlobals "given_cell" = some (some (.ref f3))) (l3 : K.lookup f3 = some ⟨oc3, od3, .func (W.fnOf "given_cell" "given_cell" (defArgs s_given_cell) (defBody s_given_cell) (defScope s_given_cell) .none kV3 dc3 pm3 an3 cd3 ct3), sl3⟩) (c3 : W.codeIn K cd3 "given_cell" = true) (k3 : W.keepIn K (.ref f3) = true)
  {od4 an4 : Option Addr} {sl4 : Array (Option Value)} {oc4 kV4 dc4 pm4 cd4 ct4 : Value}
  (a4 : W.nsIn K mainGlobals "own_cell" = some (some (.ref f4))) (l4 : K.lookup f4 = some ⟨oc4, od4, .func (W.fnOf "own_cell" "own_cell" (defArgs s_own_cell) (defBody s_own_cell) (defScope s_own_cell) .none kV4 dc4 pm4 an4 cd4 ct4), sl4⟩) (c4 : W.codeIn K cd4 "own_cell" = true) (k4 : W.keepIn K (.ref f4) = true)
  {od5 an5 : Option Addr} {sl5 : Array (Option Value)} {oc5 kV5 dc5 pm5 cd5 ct5 : Value}
  (a5 : W.nsIn K mainGlobals "cells_of" = some (some (.ref f5))) (l5 : K.lookup f5 = some ⟨oc5, od5, .func (W.fnOf "cells_of" "cells_of" (defArgs s_cells_of) (defBody s_cells_of) (defScope s_cells_of) .none kV5 dc5 pm5 an5 cd5 ct5), sl5⟩) (c5 : W.codeIn K cd5 "cells_of" = true) (k5 : W.keepIn K (.ref f5) = true)
  {od8 an8 : Option Addr} {sl8 : Array (Option Value)} {oc8 kV8 dc8 pm8 cd8 ct8 : Value}
  (a8 : W.nsIn K mainGlobals "ends_of" = some (some (.ref f8))) (l8 : K.lookup f8 = some ⟨oc8, od8, .func (W.fnOf "ends_of" "ends_of" (defArgs s_ends_of) (defBody s_ends_of) (defScope s_ends_of) .none kV8 dc8 pm8 an8 cd8 ct8), sl8⟩) (c8 : W.codeIn K cd8 "ends_of" = true) (k8 : W.keepIn K (.ref f8) = true)
  {od9 an9 : Option Addr} {sl9 : Array (Option Value)} {oc9 kV9 dc9 pm9 cd9 ct9 : Value}
  (a9 : W.nsIn K mainGlobals "run" = some (some (.ref f9))) (l9 : K.lookup f9 = some ⟨oc9, od9, .func (W.fnOf "run" "run" (defArgs s_run) (defBody s_run) (defScope s_run) .none kV9 dc9 pm9 an9 cd9 ct9), sl9⟩) (c9 : W.codeIn K cd9 "run" = true) (k9 : W.keepIn K (.ref f9) = true)
  {od10 an10 : Option Addr} {sl10 : Array (Option Value)} {oc10 kV10 dc10 pm10 cd10 ct10 : Value}
  (a10 : W.nsIn K mainGlobals "_law_cell_at" = some (some (.ref f10))) (l10 : K.lookup f10 = some ⟨oc10, od10, .func (W.fnOf "_law_cell_at" "_law_cell_at" (defArgs s_law_cell_at) (defBody s_law_cell_at) (defScope s_law_cell_at) .none kV10 dc10 pm10 an10 cd10 ct10), sl10⟩) (c10 : W.codeIn K cd10 "_law_cell_at" = true) (k10 : W.keepIn K (.ref f10) = true)
  {od11 an11 : Option Addr} {sl11 : Array (Option Value)} {oc11 kV11 dc11 pm11 cd11 ct11 : Value}
  (a11 : W.nsIn K mainGlobals "_law_name" = some (some (.ref f11))) (l11 : K.lookup f11 = some ⟨oc11, od11, .func (W.fnOf "_law_name" "_law_name" (defArgs s_law_name) (defBody s_law_name) (defScope s_law_name) .none kV11 dc11 pm11 an11 cd11 ct11), sl11⟩) (c11 : W.codeIn K cd11 "_law_name" = true) (k11 : W.keepIn K (.ref f11) = true)
  {od12 an12 : Option Addr} {sl12 : Array (Option Value)} {oc12 kV12 dc12 pm12 cd12 ct12 : Value}
  (a12 : W.nsIn K mainGlobals "_law_number" = some (some (.ref f12))) (l12 : K.lookup f12 = some ⟨oc12, od12, .func (W.fnOf "_law_number" "_law_number" (defArgs s_law_number) (defBody s_law_number) (defScope s_law_number) .none kV12 dc12 pm12 an12 cd12 ct12), sl12⟩) (c12 : W.codeIn K cd12 "_law_number" = true) (k12 : W.keepIn K (.ref f12) = true)
  {od13 an13 : Option Addr} {sl13 : Array (Option Value)} {oc13 kV13 dc13 pm13 cd13 ct13 : Value}
  (a13 : W.nsIn K mainGlobals "_law_head" = some (some (.ref f13))) (l13 : K.lookup f13 = some ⟨oc13, od13, .func (W.fnOf "_law_head" "_law_head" (defArgs s_law_head) (defBody s_law_head) (defScope s_law_head) .none kV13 dc13 pm13 an13 cd13 ct13), sl13⟩) (c13 : W.codeIn K cd13 "_law_head" = true) (k13 : W.keepIn K (.ref f13) = true)
  {od14 an14 : Option Addr} {sl14 : Array (Option Value)} {oc14 kV14 dc14 pm14 cd14 ct14 : Value}
  (a14 : W.nsIn K mainGlobals "_law_deeds" = some (some (.ref f14))) (l14 : K.lookup f14 = some ⟨oc14, od14, .func (W.fnOf "_law_deeds" "_law_deeds" (defArgs s_law_deeds) (defBody s_law_deeds) (defScope s_law_deeds) .none kV14 dc14 pm14 an14 cd14 ct14), sl14⟩) (c14 : W.codeIn K cd14 "_law_deeds" = true) (k14 : W.keepIn K (.ref f14) = true)
  {od15 an15 : Option Addr} {sl15 : Array (Option Value)} {oc15 kV15 dc15 pm15 cd15 ct15 : Value}
  (a15 : W.nsIn K mainGlobals "_law_gift" = some (some (.ref f15))) (l15 : K.lookup f15 = some ⟨oc15, od15, .func (W.fnOf "_law_gift" "_law_gift" (defArgs s_law_gift) (defBody s_law_gift) (defScope s_law_gift) .none kV15 dc15 pm15 an15 cd15 ct15), sl15⟩) (c15 : W.codeIn K cd15 "_law_gift" = true) (k15 : W.keepIn K (.ref f15) = true)
  {od16 an16 : Option Addr} {sl16 : Array (Option Value)} {oc16 kV16 dc16 pm16 cd16 ct16 : Value}
  (a16 : W.nsIn K mainGlobals "_law_odd" = some (some (.ref f16))) (l16 : K.lookup f16 = some ⟨oc16, od16, .func (W.fnOf "_law_odd" "_law_odd" (defArgs s_law_odd) (defBody s_law_odd) (defScope s_law_odd) .none kV16 dc16 pm16 an16 cd16 ct16), sl16⟩) (c16 : W.codeIn K cd16 "_law_odd" = true) (k16 : W.keepIn K (.ref f16) = true)
  {od17 an17 : Option Addr} {sl17 : Array (Option Value)} {oc17 kV17 dc17 pm17 cd17 ct17 : Value}
  (a17 : W.nsIn K mainGlobals "_law_same" = some (some (.ref f17))) (l17 : K.lookup f17 = some ⟨oc17, od17, .func (W.fnOf "_law_same" "_law_same" (defArgs s_law_same) (defBody s_law_same) (defScope s_law_same) .none kV17 dc17 pm17 an17 cd17 ct17), sl17⟩) (c17 : W.codeIn K cd17 "_law_same" = true) (k17 : W.keepIn K (.ref f17) = true)
  {od18 an18 : Option Addr} {sl18 : Array (Option Value)} {oc18 kV18 dc18 pm18 cd18 ct18 : Value}
  (a18 : W.nsIn K mainGlobals "_law_refused" = some (some (.ref f18))) (l18 : K.lookup f18 = some ⟨oc18, od18, .func (W.fnOf "_law_refused" "_law_refused" (defArgs s_law_refused) (defBody s_law_refused) (defScope s_law_refused) .none kV18 dc18 pm18 an18 cd18 ct18), sl18⟩) (c18 : W.codeIn K cd18 "_law_refused" = true) (k18 : W.keepIn K (.ref f18) = true)
  {od19 an19 : Option Addr} {sl19 : Array (Option Value)} {oc19 kV19 dc19 pm19 cd19 ct19 : Value}
  (a19 : W.nsIn K mainGlobals "_law_twice" = some (some (.ref f19))) (l19 : K.lookup f19 = some ⟨oc19, od19, .func (W.fnOf "_law_twice" "_law_twice" (defArgs s_law_twice) (defBody s_law_twice) (defScope s_law_twice) .none kV19 dc19 pm19 an19 cd19 ct19), sl19⟩) (c19 : W.codeIn K cd19 "_law_twice" = true) (k19 : W.keepIn K (.ref f19) = true)
  {od20 an20 : Option Addr} {sl20 : Array (Option Value)} {oc20 kV20 dc20 pm20 cd20 ct20 : Value}
  (a20 : W.nsIn K mainGlobals "_law_dues" = some (some (.ref f20))) (l20 : K.lookup f20 = some ⟨oc20, od20, .func (W.fnOf "_law_dues" "_law_dues" (defArgs s_law_dues) (defBody s_law_dues) (defScope s_law_dues) .none kV20 dc20 pm20 an20 cd20 ct20), sl20⟩) (c20 : W.codeIn K cd20 "_law_dues" = true) (k20 : W.keepIn K (.ref f20) = true)
  {od21 an21 : Option Addr} {sl21 : Array (Option Value)} {oc21 kV21 dc21 pm21 cd21 ct21 : Value}
  (a21 : W.nsIn K mainGlobals "law" = some (some (.ref f21))) (l21 : K.lookup f21 = some ⟨oc21, od21, .func (W.fnOf "law" "law" (defArgs s_law) (defBody s_law) (defScope s_law) .none kV21 dc21 pm21 an21 cd21 ct21), sl21⟩) (c21 : W.codeIn K cd21 "law" = true) (k21 : W.keepIn K (.ref f21) = true)
  (z_all : W.nsIn K mainGlobals "all" = some none)
  (z_bool : W.nsIn K mainGlobals "bool" = some none)
  (z_dict : W.nsIn K mainGlobals "dict" = some none)
  (z_int : W.nsIn K mainGlobals "int" = some none)
  (z_isinstance : W.nsIn K mainGlobals "isinstance" = some none)
  (z_len : W.nsIn K mainGlobals "len" = some none)
  (z_list : W.nsIn K mainGlobals "list" = some none)
  (z_range : W.nsIn K mainGlobals "range" = some none)
  (z_tuple : W.nsIn K mainGlobals "tuple" = some none)
  (z_ValueError : W.nsIn K mainGlobals "ValueError" = some none)
  {tk_MOST_NUMBER : Tok} (g_MOST_NUMBER : W.nsIn K mainGlobals "MOST_NUMBER" = some (some (.int 999999999999 tk_MOST_NUMBER)))
  (cg : W.specialIn K (.builtin "object.__class__") "__get__" = some (some (.builtin "getset_descriptor.__get__"))) (ct : W.takesIn K (.builtin "object.__class__") = some true)
  {xd_Row : ClassData} (x_Row : W.nsIn K mainGlobals "Row" = some (some (.ref A_Row))) (xl_Row : W.clsIn K A_Row = some xd_Row) (xm_Row : xd_Row.mro = [A_Row].map Value.ref ++ [Value.type "object"])
  (xpg_Row : W.plainGet K A_Row Str.empty = true)
  (xhd_Row : W.hasDictIn K A_Row = true)
  (xpo_Row : W.plainOver K A_Row = true)
  (xsa_Row : W.findIn K (.ref A_Row) "__setattr__" = some (some (.builtin "object.__setattr__")))
  (xty_Row : W.typeIn K (.ref A_Row) = some (.type "type"))
  (xkc_Row : W.findIn K (.ref A_Row) "__class__" = some (some (.builtin "object.__class__")))
  (xmk_Row : W.makesIn K A_Row = true)
  (xkp_Row : W.keepIn K (.ref A_Row) = true)
  {xd_HandRow : ClassData} (x_HandRow : W.nsIn K mainGlobals "HandRow" = some (some (.ref A_HandRow))) (xl_HandRow : W.clsIn K A_HandRow = some xd_HandRow) (xm_HandRow : xd_HandRow.mro = [A_HandRow, A_Row].map Value.ref ++ [Value.type "object"])
  (xpg_HandRow : W.plainGet K A_HandRow Str.empty = true)
  (xhd_HandRow : W.hasDictIn K A_HandRow = true)
  (xpo_HandRow : W.plainOver K A_HandRow = true)
  (xsa_HandRow : W.findIn K (.ref A_HandRow) "__setattr__" = some (some (.builtin "object.__setattr__")))
  (xty_HandRow : W.typeIn K (.ref A_HandRow) = some (.type "type"))
  (xkc_HandRow : W.findIn K (.ref A_HandRow) "__class__" = some (some (.builtin "object.__class__")))
  (xmk_HandRow : W.makesIn K A_HandRow = true)
  (xkp_HandRow : W.keepIn K (.ref A_HandRow) = true)
  {xd_GivenRow : ClassData} (x_GivenRow : W.nsIn K mainGlobals "GivenRow" = some (some (.ref A_GivenRow))) (xl_GivenRow : W.clsIn K A_GivenRow = some xd_GivenRow) (xm_GivenRow : xd_GivenRow.mro = [A_GivenRow, A_Row].map Value.ref ++ [Value.type "object"])
  (xpg_GivenRow : W.plainGet K A_GivenRow Str.empty = true)
  (xhd_GivenRow : W.hasDictIn K A_GivenRow = true)
  (xpo_GivenRow : W.plainOver K A_GivenRow = true)
  (xsa_GivenRow : W.findIn K (.ref A_GivenRow) "__setattr__" = some (some (.builtin "object.__setattr__")))
  (xty_GivenRow : W.typeIn K (.ref A_GivenRow) = some (.type "type"))
  (xkc_GivenRow : W.findIn K (.ref A_GivenRow) "__class__" = some (some (.builtin "object.__class__")))
  (xmk_GivenRow : W.makesIn K A_GivenRow = true)
  (xkp_GivenRow : W.keepIn K (.ref A_GivenRow) = true)
  {xd_OwnRow : ClassData} (x_OwnRow : W.nsIn K mainGlobals "OwnRow" = some (some (.ref A_OwnRow))) (xl_OwnRow : W.clsIn K A_OwnRow = some xd_OwnRow) (xm_OwnRow : xd_OwnRow.mro = [A_OwnRow, A_Row].map Value.ref ++ [Value.type "object"])
  (xpg_OwnRow : W.plainGet K A_OwnRow Str.empty = true)
  (xhd_OwnRow : W.hasDictIn K A_OwnRow = true)
  (xpo_OwnRow : W.plainOver K A_OwnRow = true)
  (xsa_OwnRow : W.findIn K (.ref A_OwnRow) "__setattr__" = some (some (.builtin "object.__setattr__")))
  (xty_OwnRow : W.typeIn K (.ref A_OwnRow) = some (.type "type"))
  (xkc_OwnRow : W.findIn K (.ref A_OwnRow) "__class__" = some (some (.builtin "object.__class__")))
  (xmk_OwnRow : W.makesIn K A_OwnRow = true)
  (xkp_OwnRow : W.keepIn K (.ref A_OwnRow) = true)
  {xd_LetRow : ClassData} (x_LetRow : W.nsIn K mainGlobals "LetRow" = some (some (.ref A_LetRow))) (xl_LetRow : W.clsIn K A_LetRow = some xd_LetRow) (xm_LetRow : xd_LetRow.mro = [A_LetRow, A_Row].map Value.ref ++ [Value.type "object"])
  (xpg_LetRow : W.plainGet K A_LetRow Str.empty = true)
  (xhd_LetRow : W.hasDictIn K A_LetRow = true)
  (xpo_LetRow : W.plainOver K A_LetRow = true)
  (xsa_LetRow : W.findIn K (.ref A_LetRow) "__setattr__" = some (some (.builtin "object.__setattr__")))
  (xty_LetRow : W.typeIn K (.ref A_LetRow) = some (.type "type"))
  (xkc_LetRow : W.findIn K (.ref A_LetRow) "__class__" = some (some (.builtin "object.__class__")))
  (xmk_LetRow : W.makesIn K A_LetRow = true)
  (xkp_LetRow : W.keepIn K (.ref A_LetRow) = true)
  {xd_SetRow : ClassData} (x_SetRow : W.nsIn K mainGlobals "SetRow" = some (some (.ref A_SetRow))) (xl_SetRow : W.clsIn K A_SetRow = some xd_SetRow) (xm_SetRow : xd_SetRow.mro = [A_SetRow, A_Row].map Value.ref ++ [Value.type "object"])
  (xpg_SetRow : W.plainGet K A_SetRow Str.empty = true)
  (xhd_SetRow : W.hasDictIn K A_SetRow = true)
  (xpo_SetRow : W.plainOver K A_SetRow = true)
  (xsa_SetRow : W.findIn K (.ref A_SetRow) "__setattr__" = some (some (.builtin "object.__setattr__")))
  (xty_SetRow : W.typeIn K (.ref A_SetRow) = some (.type "type"))
  (xkc_SetRow : W.findIn K (.ref A_SetRow) "__class__" = some (some (.builtin "object.__class__")))
  (xmk_SetRow : W.makesIn K A_SetRow = true)
  (xkp_SetRow : W.keepIn K (.ref A_SetRow) = true)
  {xd_PutRow : ClassData} (x_PutRow : W.nsIn K mainGlobals "PutRow" = some (some (.ref A_PutRow))) (xl_PutRow : W.clsIn K A_PutRow = some xd_PutRow) (xm_PutRow : xd_PutRow.mro = [A_PutRow, A_Row].map Value.ref ++ [Value.type "object"])
  (xpg_PutRow : W.plainGet K A_PutRow Str.empty = true)
  (xhd_PutRow : W.hasDictIn K A_PutRow = true)
  (xpo_PutRow : W.plainOver K A_PutRow = true)
  (xsa_PutRow : W.findIn K (.ref A_PutRow) "__setattr__" = some (some (.builtin "object.__setattr__")))
  (xty_PutRow : W.typeIn K (.ref A_PutRow) = some (.type "type"))
  (xkc_PutRow : W.findIn K (.ref A_PutRow) "__class__" = some (some (.builtin "object.__class__")))
  (xmk_PutRow : W.makesIn K A_PutRow = true)
  (xkp_PutRow : W.keepIn K (.ref A_PutRow) = true)
  {xd_SendRow : ClassData} (x_SendRow : W.nsIn K mainGlobals "SendRow" = some (some (.ref A_SendRow))) (xl_SendRow : W.clsIn K A_SendRow = some xd_SendRow) (xm_SendRow : xd_SendRow.mro = [A_SendRow, A_Row].map Value.ref ++ [Value.type "object"])
  (xpg_SendRow : W.plainGet K A_SendRow Str.empty = true)
  (xhd_SendRow : W.hasDictIn K A_SendRow = true)
  (xpo_SendRow : W.plainOver K A_SendRow = true)
  (xsa_SendRow : W.findIn K (.ref A_SendRow) "__setattr__" = some (some (.builtin "object.__setattr__")))
  (xty_SendRow : W.typeIn K (.ref A_SendRow) = some (.type "type"))
  (xkc_SendRow : W.findIn K (.ref A_SendRow) "__class__" = some (some (.builtin "object.__class__")))
  (xmk_SendRow : W.makesIn K A_SendRow = true)
  (xkp_SendRow : W.keepIn K (.ref A_SendRow) = true)
  {xd_SayRow : ClassData} (x_SayRow : W.nsIn K mainGlobals "SayRow" = some (some (.ref A_SayRow))) (xl_SayRow : W.clsIn K A_SayRow = some xd_SayRow) (xm_SayRow : xd_SayRow.mro = [A_SayRow, A_Row].map Value.ref ++ [Value.type "object"])
  (xpg_SayRow : W.plainGet K A_SayRow Str.empty = true)
  (xhd_SayRow : W.hasDictIn K A_SayRow = true)
  (xpo_SayRow : W.plainOver K A_SayRow = true)
  (xsa_SayRow : W.findIn K (.ref A_SayRow) "__setattr__" = some (some (.builtin "object.__setattr__")))
  (xty_SayRow : W.typeIn K (.ref A_SayRow) = some (.type "type"))
  (xkc_SayRow : W.findIn K (.ref A_SayRow) "__class__" = some (some (.builtin "object.__class__")))
  (xmk_SayRow : W.makesIn K A_SayRow = true)
  (xkp_SayRow : W.keepIn K (.ref A_SayRow) = true)
  {xd_CallRow : ClassData} (x_CallRow : W.nsIn K mainGlobals "CallRow" = some (some (.ref A_CallRow))) (xl_CallRow : W.clsIn K A_CallRow = some xd_CallRow) (xm_CallRow : xd_CallRow.mro = [A_CallRow, A_Row].map Value.ref ++ [Value.type "object"])
  (xpg_CallRow : W.plainGet K A_CallRow Str.empty = true)
  (xhd_CallRow : W.hasDictIn K A_CallRow = true)
  (xpo_CallRow : W.plainOver K A_CallRow = true)
  (xsa_CallRow : W.findIn K (.ref A_CallRow) "__setattr__" = some (some (.builtin "object.__setattr__")))
  (xty_CallRow : W.typeIn K (.ref A_CallRow) = some (.type "type"))
  (xkc_CallRow : W.findIn K (.ref A_CallRow) "__class__" = some (some (.builtin "object.__class__")))
  (xmk_CallRow : W.makesIn K A_CallRow = true)
  (xkp_CallRow : W.keepIn K (.ref A_CallRow) = true)
  {xd_LastRow : ClassData} (x_LastRow : W.nsIn K mainGlobals "LastRow" = some (some (.ref A_LastRow))) (xl_LastRow : W.clsIn K A_LastRow = some xd_LastRow) (xm_LastRow : xd_LastRow.mro = [A_LastRow, A_Row].map Value.ref ++ [Value.type "object"])
  (xpg_LastRow : W.plainGet K A_LastRow Str.empty = true)
  (xhd_LastRow : W.hasDictIn K A_LastRow = true)
  (xpo_LastRow : W.plainOver K A_LastRow = true)
  (xsa_LastRow : W.findIn K (.ref A_LastRow) "__setattr__" = some (some (.builtin "object.__setattr__")))
  (xty_LastRow : W.typeIn K (.ref A_LastRow) = some (.type "type"))
  (xkc_LastRow : W.findIn K (.ref A_LastRow) "__class__" = some (some (.builtin "object.__class__")))
  (xmk_LastRow : W.makesIn K A_LastRow = true)
  (xkp_LastRow : W.keepIn K (.ref A_LastRow) = true)
  {xd_IfRow : ClassData} (x_IfRow : W.nsIn K mainGlobals "IfRow" = some (some (.ref A_IfRow))) (xl_IfRow : W.clsIn K A_IfRow = some xd_IfRow) (xm_IfRow : xd_IfRow.mro = [A_IfRow, A_Row].map Value.ref ++ [Value.type "object"])
  (xpg_IfRow : W.plainGet K A_IfRow Str.empty = true)
  (xhd_IfRow : W.hasDictIn K A_IfRow = true)
  (xpo_IfRow : W.plainOver K A_IfRow = true)
  (xsa_IfRow : W.findIn K (.ref A_IfRow) "__setattr__" = some (some (.builtin "object.__setattr__")))
  (xty_IfRow : W.typeIn K (.ref A_IfRow) = some (.type "type"))
  (xkc_IfRow : W.findIn K (.ref A_IfRow) "__class__" = some (some (.builtin "object.__class__")))
  (xmk_IfRow : W.makesIn K A_IfRow = true)
  (xkp_IfRow : W.keepIn K (.ref A_IfRow) = true)
  {xd_LoopRow : ClassData} (x_LoopRow : W.nsIn K mainGlobals "LoopRow" = some (some (.ref A_LoopRow))) (xl_LoopRow : W.clsIn K A_LoopRow = some xd_LoopRow) (xm_LoopRow : xd_LoopRow.mro = [A_LoopRow, A_Row].map Value.ref ++ [Value.type "object"])
  (xpg_LoopRow : W.plainGet K A_LoopRow Str.empty = true)
  (xhd_LoopRow : W.hasDictIn K A_LoopRow = true)
  (xpo_LoopRow : W.plainOver K A_LoopRow = true)
  (xsa_LoopRow : W.findIn K (.ref A_LoopRow) "__setattr__" = some (some (.builtin "object.__setattr__")))
  (xty_LoopRow : W.typeIn K (.ref A_LoopRow) = some (.type "type"))
  (xkc_LoopRow : W.findIn K (.ref A_LoopRow) "__class__" = some (some (.builtin "object.__class__")))
  (xmk_LoopRow : W.makesIn K A_LoopRow = true)
  (xkp_LoopRow : W.keepIn K (.ref A_LoopRow) = true)
  {xd_DeedRow : ClassData} (x_DeedRow : W.nsIn K mainGlobals "DeedRow" = some (some (.ref A_DeedRow))) (xl_DeedRow : W.clsIn K A_DeedRow = some xd_DeedRow) (xm_DeedRow : xd_DeedRow.mro = [A_DeedRow, A_Row].map Value.ref ++ [Value.type "object"])
  (xpg_DeedRow : W.plainGet K A_DeedRow Str.empty = true)
  (xhd_DeedRow : W.hasDictIn K A_DeedRow = true)
  (xpo_DeedRow : W.plainOver K A_DeedRow = true)
  (xsa_DeedRow : W.findIn K (.ref A_DeedRow) "__setattr__" = some (some (.builtin "object.__setattr__")))
  (xty_DeedRow : W.typeIn K (.ref A_DeedRow) = some (.type "type"))
  (xkc_DeedRow : W.findIn K (.ref A_DeedRow) "__class__" = some (some (.builtin "object.__class__")))
  (xmk_DeedRow : W.makesIn K A_DeedRow = true)
  (xkp_DeedRow : W.keepIn K (.ref A_DeedRow) = true)
  {xd_Program : ClassData} (x_Program : W.nsIn K mainGlobals "Program" = some (some (.ref A_Program))) (xl_Program : W.clsIn K A_Program = some xd_Program) (xm_Program : xd_Program.mro = [A_Program].map Value.ref ++ [Value.type "object"])
  (xpg_Program : W.plainGet K A_Program Str.empty = true)
  (xhd_Program : W.hasDictIn K A_Program = true)
  (xpo_Program : W.plainOver K A_Program = true)
  (xsa_Program : W.findIn K (.ref A_Program) "__setattr__" = some (some (.builtin "object.__setattr__")))
  (xty_Program : W.typeIn K (.ref A_Program) = some (.type "type"))
  (xkc_Program : W.findIn K (.ref A_Program) "__class__" = some (some (.builtin "object.__class__")))
  (xmk_Program : W.makesIn K A_Program = true)
  (xkp_Program : W.keepIn K (.ref A_Program) = true)
  {xd_Book : ClassData} (x_Book : W.nsIn K mainGlobals "Book" = some (some (.ref A_Book))) (xl_Book : W.clsIn K A_Book = some xd_Book) (xm_Book : xd_Book.mro = [A_Book].map Value.ref ++ [Value.type "object"])
  (xpg_Book : W.plainGet K A_Book Str.empty = true)
  (xhd_Book : W.hasDictIn K A_Book = true)
  (xpo_Book : W.plainOver K A_Book = true)
  (xsa_Book : W.findIn K (.ref A_Book) "__setattr__" = some (some (.builtin "object.__setattr__")))
  (xty_Book : W.typeIn K (.ref A_Book) = some (.type "type"))
  (xkc_Book : W.findIn K (.ref A_Book) "__class__" = some (some (.builtin "object.__class__")))
  (xmk_Book : W.makesIn K A_Book = true)
  (xkp_Book : W.keepIn K (.ref A_Book) = true)
  {xd_Run : ClassData} (x_Run : W.nsIn K mainGlobals "Run" = some (some (.ref A_Run))) (xl_Run : W.clsIn K A_Run = some xd_Run) (xm_Run : xd_Run.mro = [A_Run].map Value.ref ++ [Value.type "object"])
  (xpg_Run : W.plainGet K A_Run Str.empty = true)
  (xhd_Run : W.hasDictIn K A_Run = true)
  (xpo_Run : W.plainOver K A_Run = true)
  (xsa_Run : W.findIn K (.ref A_Run) "__setattr__" = some (some (.builtin "object.__setattr__")))
  (xty_Run : W.typeIn K (.ref A_Run) = some (.type "type"))
  (xkc_Run : W.findIn K (.ref A_Run) "__class__" = some (some (.builtin "object.__class__")))
  (xmk_Run : W.makesIn K A_Run = true)
  (xkp_Run : W.keepIn K (.ref A_Run) = true)
  {nm_HushError q_HushError : Str} {N_HushError : Addr} {bs_HushError : List Value} {sn_HushError : List Str} {sub_HushError : List Value} {ab_HushError : Bool} {col_HushError : Option Bool} {dd_HushError : Option Addr} {k0_HushError k1_HushError k2_HushError k3_HushError k5_HushError : Option Value}
  (x_HushError : W.nsIn K mainGlobals "HushError" = some (some (.ref A_HushError))) (xl_HushError : K.lookup A_HushError = some (excClassObj nm_HushError q_HushError A_HushError N_HushError bs_HushError VEs true sn_HushError sub_HushError ab_HushError col_HushError dd_HushError k0_HushError k1_HushError k2_HushError k3_HushError k5_HushError "ValueError.__new__"))
  (xga_HushError : W.findIn K (.ref A_HushError) "__getattribute__" = some (some (.builtin "BaseException.__getattribute__")))
  (xgh_HushError : W.findIn K (.ref A_HushError) "__getattr__" = some none)
  (xsa_HushError : W.findIn K (.ref A_HushError) "__setattr__" = some (some (.builtin "object.__setattr__")))
  (xcl_HushError : W.findIn K (.ref A_HushError) "__class__" = some (some (.builtin "object.__class__")))
  (xkp_HushError : W.keepIn K (.ref A_HushError) = true) (xsb_HushError : W.subIn K (.ref A_HushError) (.ref A_HushError) = some true)
  {nc_HushError : Value} {nd_HushError : Option Addr} {ne_HushError : Array DictEntry} {nn_HushError : Nat} {nl_HushError : Array (Option Value)} (xn_HushError : K.lookup N_HushError = some ⟨nc_HushError, nd_HushError, .dict ne_HushError nn_HushError, nl_HushError⟩) (xk_HushError : (ne_HushError.toList.all fun e => match e.key with | .str _ _ => true | _ => false) = true) (xi_HushError : W.nsIn K N_HushError "__init__" = some none)
  {nm_NoGift q_NoGift : Str} {N_NoGift : Addr} {bs_NoGift : List Value} {sn_NoGift : List Str} {sub_NoGift : List Value} {ab_NoGift : Bool} {col_NoGift : Option Bool} {dd_NoGift : Option Addr} {k0_NoGift k1_NoGift k2_NoGift k3_NoGift k5_NoGift : Option Value}
  (x_NoGift : W.nsIn K mainGlobals "NoGift" = some (some (.ref A_NoGift))) (xl_NoGift : K.lookup A_NoGift = some (excClassObj nm_NoGift q_NoGift A_NoGift N_NoGift bs_NoGift (.ref A_HushError :: VEs) true sn_NoGift sub_NoGift ab_NoGift col_NoGift dd_NoGift k0_NoGift k1_NoGift k2_NoGift k3_NoGift k5_NoGift "ValueError.__new__"))
  (xga_NoGift : W.findIn K (.ref A_NoGift) "__getattribute__" = some (some (.builtin "BaseException.__getattribute__")))
  (xgh_NoGift : W.findIn K (.ref A_NoGift) "__getattr__" = some none)
  (xsa_NoGift : W.findIn K (.ref A_NoGift) "__setattr__" = some (some (.builtin "object.__setattr__")))
  (xcl_NoGift : W.findIn K (.ref A_NoGift) "__class__" = some (some (.builtin "object.__class__")))
  (xkp_NoGift : W.keepIn K (.ref A_NoGift) = true) (xsb_NoGift : W.subIn K (.ref A_NoGift) (.ref A_NoGift) = some true)
  {fi_NoGift : Addr} {ioc_NoGift ikV_NoGift idc_NoGift ipm_NoGift icd_NoGift ict_NoGift : Value} {iod_NoGift ian_NoGift : Option Addr} {isl_NoGift : Array (Option Value)}
  (xi_NoGift : W.findIn K (.ref A_NoGift) "__init__" = some (some (.ref fi_NoGift))) (xf_NoGift : W.isFn K (.ref fi_NoGift) = true) (xd_NoGift : K.lookup fi_NoGift = some ⟨ioc_NoGift, iod_NoGift, .func (W.fnOf "__init__" "NoGift.__init__" (defArgs s_NoGift_init) (defBody s_NoGift_init) (defScope s_NoGift_init) .none ikV_NoGift idc_NoGift ipm_NoGift ian_NoGift icd_NoGift ict_NoGift), isl_NoGift⟩) (xc_NoGift : W.codeIn K icd_NoGift "NoGift.__init__" = true) (xq_NoGift : W.keepIn K (.ref fi_NoGift) = true)
  (xw_NoGift_name : W.findIn K (.ref A_NoGift) "name" = some none)
  {nm_NotAlike q_NotAlike : Str} {N_NotAlike : Addr} {bs_NotAlike : List Value} {sn_NotAlike : List Str} {sub_NotAlike : List Value} {ab_NotAlike : Bool} {col_NotAlike : Option Bool} {dd_NotAlike : Option Addr} {k0_NotAlike k1_NotAlike k2_NotAlike k3_NotAlike k5_NotAlike : Option Value}
  (x_NotAlike : W.nsIn K mainGlobals "NotAlike" = some (some (.ref A_NotAlike))) (xl_NotAlike : K.lookup A_NotAlike = some (excClassObj nm_NotAlike q_NotAlike A_NotAlike N_NotAlike bs_NotAlike (.ref A_HushError :: VEs) true sn_NotAlike sub_NotAlike ab_NotAlike col_NotAlike dd_NotAlike k0_NotAlike k1_NotAlike k2_NotAlike k3_NotAlike k5_NotAlike "ValueError.__new__"))
  (xga_NotAlike : W.findIn K (.ref A_NotAlike) "__getattribute__" = some (some (.builtin "BaseException.__getattribute__")))
  (xgh_NotAlike : W.findIn K (.ref A_NotAlike) "__getattr__" = some none)
  (xsa_NotAlike : W.findIn K (.ref A_NotAlike) "__setattr__" = some (some (.builtin "object.__setattr__")))
  (xcl_NotAlike : W.findIn K (.ref A_NotAlike) "__class__" = some (some (.builtin "object.__class__")))
  (xkp_NotAlike : W.keepIn K (.ref A_NotAlike) = true) (xsb_NotAlike : W.subIn K (.ref A_NotAlike) (.ref A_NotAlike) = some true)
  {fi_NotAlike : Addr} {ioc_NotAlike ikV_NotAlike idc_NotAlike ipm_NotAlike icd_NotAlike ict_NotAlike : Value} {iod_NotAlike ian_NotAlike : Option Addr} {isl_NotAlike : Array (Option Value)}
  (xi_NotAlike : W.findIn K (.ref A_NotAlike) "__init__" = some (some (.ref fi_NotAlike))) (xf_NotAlike : W.isFn K (.ref fi_NotAlike) = true) (xd_NotAlike : K.lookup fi_NotAlike = some ⟨ioc_NotAlike, iod_NotAlike, .func (W.fnOf "__init__" "NotAlike.__init__" (defArgs s_NotAlike_init) (defBody s_NotAlike_init) (defScope s_NotAlike_init) .none ikV_NotAlike idc_NotAlike ipm_NotAlike ian_NotAlike icd_NotAlike ict_NotAlike), isl_NotAlike⟩) (xc_NotAlike : W.codeIn K icd_NotAlike "NotAlike.__init__" = true) (xq_NotAlike : W.keepIn K (.ref fi_NotAlike) = true)
  (xw_NotAlike_name : W.findIn K (.ref A_NotAlike) "name" = some none)
  {nm_Unknown q_Unknown : Str} {N_Unknown : Addr} {bs_Unknown : List Value} {sn_Unknown : List Str} {sub_Unknown : List Value} {ab_Unknown : Bool} {col_Unknown : Option Bool} {dd_Unknown : Option Addr} {k0_Unknown k1_Unknown k2_Unknown k3_Unknown k5_Unknown : Option Value}
  (x_Unknown : W.nsIn K mainGlobals "Unknown" = some (some (.ref A_Unknown))) (xl_Unknown : K.lookup A_Unknown = some (excClassObj nm_Unknown q_Unknown A_Unknown N_Unknown bs_Unknown (.ref A_HushError :: VEs) true sn_Unknown sub_Unknown ab_Unknown col_Unknown dd_Unknown k0_Unknown k1_Unknown k2_Unknown k3_Unknown k5_Unknown "ValueError.__new__"))
  (xga_Unknown : W.findIn K (.ref A_Unknown) "__getattribute__" = some (some (.builtin "BaseException.__getattribute__")))
  (xgh_Unknown : W.findIn K (.ref A_Unknown) "__getattr__" = some none)
  (xsa_Unknown : W.findIn K (.ref A_Unknown) "__setattr__" = some (some (.builtin "object.__setattr__")))
  (xcl_Unknown : W.findIn K (.ref A_Unknown) "__class__" = some (some (.builtin "object.__class__")))
  (xkp_Unknown : W.keepIn K (.ref A_Unknown) = true) (xsb_Unknown : W.subIn K (.ref A_Unknown) (.ref A_Unknown) = some true)
  {fi_Unknown : Addr} {ioc_Unknown ikV_Unknown idc_Unknown ipm_Unknown icd_Unknown ict_Unknown : Value} {iod_Unknown ian_Unknown : Option Addr} {isl_Unknown : Array (Option Value)}
  (xi_Unknown : W.findIn K (.ref A_Unknown) "__init__" = some (some (.ref fi_Unknown))) (xf_Unknown : W.isFn K (.ref fi_Unknown) = true) (xd_Unknown : K.lookup fi_Unknown = some ⟨ioc_Unknown, iod_Unknown, .func (W.fnOf "__init__" "Unknown.__init__" (defArgs s_Unknown_init) (defBody s_Unknown_init) (defScope s_Unknown_init) .none ikV_Unknown idc_Unknown ipm_Unknown ian_Unknown icd_Unknown ict_Unknown), isl_Unknown⟩) (xc_Unknown : W.codeIn K icd_Unknown "Unknown.__init__" = true) (xq_Unknown : W.keepIn K (.ref fi_Unknown) = true)
  (xw_Unknown_name : W.findIn K (.ref A_Unknown) "name" = some none)
  {fi_Row_init : Addr} {ioc_Row_init ikV_Row_init idc_Row_init ipm_Row_init icd_Row_init ict_Row_init : Value} {iod_Row_init ian_Row_init : Option Addr} {isl_Row_init : Array (Option Value)}
  (xi_Row_init : W.findIn K (.ref A_Row) "__init__" = some (some (.ref fi_Row_init)))
  (xf_Row_init : W.isFn K (.ref fi_Row_init) = true) (xo_Row_init : K.lookup fi_Row_init = some ⟨ioc_Row_init, iod_Row_init, .func (W.fnOf "__init__" "Row.__init__" (defArgs s_Row_init) (defBody s_Row_init) (defScope s_Row_init) .none ikV_Row_init idc_Row_init ipm_Row_init ian_Row_init icd_Row_init ict_Row_init), isl_Row_init⟩) (xc_Row_init : W.codeIn K icd_Row_init "Row.__init__" = true) (xq_Row_init : W.keepIn K (.ref fi_Row_init) = true)
  {fi_HandRow_init : Addr} {ioc_HandRow_init ikV_HandRow_init idc_HandRow_init ipm_HandRow_init icd_HandRow_init ict_HandRow_init : Value} {iod_HandRow_init ian_HandRow_init : Option Addr} {isl_HandRow_init : Array (Option Value)}
  (xi_HandRow_init : W.findIn K (.ref A_HandRow) "__init__" = some (some (.ref fi_HandRow_init)))
  (xf_HandRow_init : W.isFn K (.ref fi_HandRow_init) = true) (xo_HandRow_init : K.lookup fi_HandRow_init = some ⟨ioc_HandRow_init, iod_HandRow_init, .func (W.fnOf "__init__" "HandRow.__init__" (defArgs s_HandRow_init) (defBody s_HandRow_init) (defScope s_HandRow_init) .none ikV_HandRow_init idc_HandRow_init ipm_HandRow_init ian_HandRow_init icd_HandRow_init ict_HandRow_init), isl_HandRow_init⟩) (xc_HandRow_init : W.codeIn K icd_HandRow_init "HandRow.__init__" = true) (xq_HandRow_init : W.keepIn K (.ref fi_HandRow_init) = true)
  (xw_HandRow_name : W.findIn K (.ref A_HandRow) "name" = some none)
  (xw_HandRow_rank : W.findIn K (.ref A_HandRow) "rank" = some none)
  (xw_HandRow_number : W.findIn K (.ref A_HandRow) "number" = some none)
  {fi_GivenRow_init : Addr} {ioc_GivenRow_init ikV_GivenRow_init idc_GivenRow_init ipm_GivenRow_init icd_GivenRow_init ict_GivenRow_init : Value} {iod_GivenRow_init ian_GivenRow_init : Option Addr} {isl_GivenRow_init : Array (Option Value)}
  (xi_GivenRow_init : W.findIn K (.ref A_GivenRow) "__init__" = some (some (.ref fi_GivenRow_init)))
  (xf_GivenRow_init : W.isFn K (.ref fi_GivenRow_init) = true) (xo_GivenRow_init : K.lookup fi_GivenRow_init = some ⟨ioc_GivenRow_init, iod_GivenRow_init, .func (W.fnOf "__init__" "GivenRow.__init__" (defArgs s_GivenRow_init) (defBody s_GivenRow_init) (defScope s_GivenRow_init) .none ikV_GivenRow_init idc_GivenRow_init ipm_GivenRow_init ian_GivenRow_init icd_GivenRow_init ict_GivenRow_init), isl_GivenRow_init⟩) (xc_GivenRow_init : W.codeIn K icd_GivenRow_init "GivenRow.__init__" = true) (xq_GivenRow_init : W.keepIn K (.ref fi_GivenRow_init) = true)
  (xw_GivenRow_name : W.findIn K (.ref A_GivenRow) "name" = some none)
  (xw_GivenRow_rank : W.findIn K (.ref A_GivenRow) "rank" = some none)
  (xw_GivenRow_size : W.findIn K (.ref A_GivenRow) "size" = some none)
  (xw_GivenRow_number : W.findIn K (.ref A_GivenRow) "number" = some none)
  {fi_OwnRow_init : Addr} {ioc_OwnRow_init ikV_OwnRow_init idc_OwnRow_init ipm_OwnRow_init icd_OwnRow_init ict_OwnRow_init : Value} {iod_OwnRow_init ian_OwnRow_init : Option Addr} {isl_OwnRow_init : Array (Option Value)}
  (xi_OwnRow_init : W.findIn K (.ref A_OwnRow) "__init__" = some (some (.ref fi_OwnRow_init)))
  (xf_OwnRow_init : W.isFn K (.ref fi_OwnRow_init) = true) (xo_OwnRow_init : K.lookup fi_OwnRow_init = some ⟨ioc_OwnRow_init, iod_OwnRow_init, .func (W.fnOf "__init__" "OwnRow.__init__" (defArgs s_OwnRow_init) (defBody s_OwnRow_init) (defScope s_OwnRow_init) .none ikV_OwnRow_init idc_OwnRow_init ipm_OwnRow_init ian_OwnRow_init icd_OwnRow_init ict_OwnRow_init), isl_OwnRow_init⟩) (xc_OwnRow_init : W.codeIn K icd_OwnRow_init "OwnRow.__init__" = true) (xq_OwnRow_init : W.keepIn K (.ref fi_OwnRow_init) = true)
  (xw_OwnRow_name : W.findIn K (.ref A_OwnRow) "name" = some none)
  (xw_OwnRow_size : W.findIn K (.ref A_OwnRow) "size" = some none)
  (xw_OwnRow_number : W.findIn K (.ref A_OwnRow) "number" = some none)
  {fi_LetRow_init : Addr} {ioc_LetRow_init ikV_LetRow_init idc_LetRow_init ipm_LetRow_init icd_LetRow_init ict_LetRow_init : Value} {iod_LetRow_init ian_LetRow_init : Option Addr} {isl_LetRow_init : Array (Option Value)}
  (xi_LetRow_init : W.findIn K (.ref A_LetRow) "__init__" = some (some (.ref fi_LetRow_init)))
  (xf_LetRow_init : W.isFn K (.ref fi_LetRow_init) = true) (xo_LetRow_init : K.lookup fi_LetRow_init = some ⟨ioc_LetRow_init, iod_LetRow_init, .func (W.fnOf "__init__" "LetRow.__init__" (defArgs s_LetRow_init) (defBody s_LetRow_init) (defScope s_LetRow_init) .none ikV_LetRow_init idc_LetRow_init ipm_LetRow_init ian_LetRow_init icd_LetRow_init ict_LetRow_init), isl_LetRow_init⟩) (xc_LetRow_init : W.codeIn K icd_LetRow_init "LetRow.__init__" = true) (xq_LetRow_init : W.keepIn K (.ref fi_LetRow_init) = true)
  (xw_LetRow_name : W.findIn K (.ref A_LetRow) "name" = some none)
  (xw_LetRow_rank : W.findIn K (.ref A_LetRow) "rank" = some none)
  (xw_LetRow_number : W.findIn K (.ref A_LetRow) "number" = some none)
  {fi_DeedRow_init : Addr} {ioc_DeedRow_init ikV_DeedRow_init idc_DeedRow_init ipm_DeedRow_init icd_DeedRow_init ict_DeedRow_init : Value} {iod_DeedRow_init ian_DeedRow_init : Option Addr} {isl_DeedRow_init : Array (Option Value)}
  (xi_DeedRow_init : W.findIn K (.ref A_DeedRow) "__init__" = some (some (.ref fi_DeedRow_init)))
  (xf_DeedRow_init : W.isFn K (.ref fi_DeedRow_init) = true) (xo_DeedRow_init : K.lookup fi_DeedRow_init = some ⟨ioc_DeedRow_init, iod_DeedRow_init, .func (W.fnOf "__init__" "DeedRow.__init__" (defArgs s_DeedRow_init) (defBody s_DeedRow_init) (defScope s_DeedRow_init) .none ikV_DeedRow_init idc_DeedRow_init ipm_DeedRow_init ian_DeedRow_init icd_DeedRow_init ict_DeedRow_init), isl_DeedRow_init⟩) (xc_DeedRow_init : W.codeIn K icd_DeedRow_init "DeedRow.__init__" = true) (xq_DeedRow_init : W.keepIn K (.ref fi_DeedRow_init) = true)
  (xw_DeedRow_name : W.findIn K (.ref A_DeedRow) "name" = some none)
  (xw_DeedRow_parts : W.findIn K (.ref A_DeedRow) "parts" = some none)
  (xw_DeedRow_body : W.findIn K (.ref A_DeedRow) "body" = some none)
  (xw_DeedRow_number : W.findIn K (.ref A_DeedRow) "number" = some none)
  {fi_Program_init : Addr} {ioc_Program_init ikV_Program_init idc_Program_init ipm_Program_init icd_Program_init ict_Program_init : Value} {iod_Program_init ian_Program_init : Option Addr} {isl_Program_init : Array (Option Value)}
  (xi_Program_init : W.findIn K (.ref A_Program) "__init__" = some (some (.ref fi_Program_init)))
  (xf_Program_init : W.isFn K (.ref fi_Program_init) = true) (xo_Program_init : K.lookup fi_Program_init = some ⟨ioc_Program_init, iod_Program_init, .func (W.fnOf "__init__" "Program.__init__" (defArgs s_Program_init) (defBody s_Program_init) (defScope s_Program_init) .none ikV_Program_init idc_Program_init ipm_Program_init ian_Program_init icd_Program_init ict_Program_init), isl_Program_init⟩) (xc_Program_init : W.codeIn K icd_Program_init "Program.__init__" = true) (xq_Program_init : W.keepIn K (.ref fi_Program_init) = true)
  (xw_Program_heads : W.findIn K (.ref A_Program) "heads" = some none)
  (xw_Program_deeds : W.findIn K (.ref A_Program) "deeds" = some none)
  (xw_Program_main : W.findIn K (.ref A_Program) "main" = some none)
  {fi_Book_init : Addr} {ioc_Book_init ikV_Book_init idc_Book_init ipm_Book_init icd_Book_init ict_Book_init : Value} {iod_Book_init ian_Book_init : Option Addr} {isl_Book_init : Array (Option Value)}
  (xi_Book_init : W.findIn K (.ref A_Book) "__init__" = some (some (.ref fi_Book_init)))
  (xf_Book_init : W.isFn K (.ref fi_Book_init) = true) (xo_Book_init : K.lookup fi_Book_init = some ⟨ioc_Book_init, iod_Book_init, .func (W.fnOf "__init__" "Book.__init__" (defArgs s_Book_init) (defBody s_Book_init) (defScope s_Book_init) .none ikV_Book_init idc_Book_init ipm_Book_init ian_Book_init icd_Book_init ict_Book_init), isl_Book_init⟩) (xc_Book_init : W.codeIn K icd_Book_init "Book.__init__" = true) (xq_Book_init : W.keepIn K (.ref fi_Book_init) = true)
  (xw_Book_letters : W.findIn K (.ref A_Book) "letters" = some none)
  (xw_Book_said : W.findIn K (.ref A_Book) "said" = some none)
  (xw_Book_trace : W.findIn K (.ref A_Book) "trace" = some none)
  (xw_Book_steps : W.findIn K (.ref A_Book) "steps" = some none)
  (xw_Book_ends : W.findIn K (.ref A_Book) "ends" = some none)
  {fi_Run_init : Addr} {ioc_Run_init ikV_Run_init idc_Run_init ipm_Run_init icd_Run_init ict_Run_init : Value} {iod_Run_init ian_Run_init : Option Addr} {isl_Run_init : Array (Option Value)}
  (xi_Run_init : W.findIn K (.ref A_Run) "__init__" = some (some (.ref fi_Run_init)))
  (xf_Run_init : W.isFn K (.ref fi_Run_init) = true) (xo_Run_init : K.lookup fi_Run_init = some ⟨ioc_Run_init, iod_Run_init, .func (W.fnOf "__init__" "Run.__init__" (defArgs s_Run_init) (defBody s_Run_init) (defScope s_Run_init) .none ikV_Run_init idc_Run_init ipm_Run_init ian_Run_init icd_Run_init ict_Run_init), isl_Run_init⟩) (xc_Run_init : W.codeIn K icd_Run_init "Run.__init__" = true) (xq_Run_init : W.keepIn K (.ref fi_Run_init) = true)
  {fi_Run_do_rows : Addr} {ioc_Run_do_rows ikV_Run_do_rows idc_Run_do_rows ipm_Run_do_rows icd_Run_do_rows ict_Run_do_rows : Value} {iod_Run_do_rows ian_Run_do_rows : Option Addr} {isl_Run_do_rows : Array (Option Value)}
  (xi_Run_do_rows : W.findIn K (.ref A_Run) "do_rows" = some (some (.ref fi_Run_do_rows)))
  (xf_Run_do_rows : W.isFn K (.ref fi_Run_do_rows) = true) (xo_Run_do_rows : K.lookup fi_Run_do_rows = some ⟨ioc_Run_do_rows, iod_Run_do_rows, .func (W.fnOf "do_rows" "Run.do_rows" (defArgs s_Run_do_rows) (defBody s_Run_do_rows) (defScope s_Run_do_rows) .none ikV_Run_do_rows idc_Run_do_rows ipm_Run_do_rows ian_Run_do_rows icd_Run_do_rows ict_Run_do_rows), isl_Run_do_rows⟩) (xc_Run_do_rows : W.codeIn K icd_Run_do_rows "Run.do_rows" = true) (xq_Run_do_rows : W.keepIn K (.ref fi_Run_do_rows) = true)
  (xw_Run_deeds : W.findIn K (.ref A_Run) "deeds" = some none)
  (xw_Run_cells : W.findIn K (.ref A_Run) "cells" = some none)
  (xw_Run_book : W.findIn K (.ref A_Run) "book" = some none)
  (yg_Row_init : W.specialIn K (.ref A_Row) "__getattribute__" = some (some (.builtin "type.__getattribute__"))) (yr_Row_init : W.readsIn K A_Row (.type "type") = true) (yf_Row_init : W.findCls K (.ref A_Row) (.type "type") "__init__" = some (.val (.ref fi_Row_init)))
  (nod : [A_Row, A_HandRow, A_GivenRow, A_OwnRow, A_LetRow, A_SetRow, A_PutRow, A_SendRow, A_SayRow, A_CallRow, A_LastRow, A_IfRow, A_LoopRow, A_DeedRow, A_Program, A_Book, A_Run].Nodup)
  (ke_na : W.kitOne K (.ref A_NoGift) (.ref A_NotAlike) = some false)
  (ke_un : W.kitOne K (.ref A_NoGift) (.ref A_Unknown) = some false)
  (ke_ve : W.kitOne K (.ref A_NoGift) (.type "ValueError") = some true)
  (ke_hu : W.subIn K (.ref A_NoGift) (.ref A_HushError) = some true)
  : ∃ fd : FuncData, (∀ (s : Shared) (v : Value), BindsTo s fd ⟨[v], []⟩ [("_law_script", v)]) ∧ ∀ base : Heap, K.In base → base.Ns mainGlobals mg → FnOk l.prog w K mg base CX0 20 fa fd ["_law_script"] (sp_law K) := by
 have t1 : TopFn K mg "is_number" s_is_number ["thing"] := topFn_mk X G a1 l1 c1 k1 fun _ _ _ _ _ _ us hl => (by obtain ⟨_, rfl⟩ := exN1 hl; rfl)
 have t2 : TopFn K mg "is_good" s_is_good ["gift", "size"] := topFn_mk X G a2 l2 c2 k2 fun _ _ _ _ _ _ us hl => (by obtain ⟨_, _, rfl⟩ := exN2 hl; rfl)
 have t3 : TopFn K mg "given_cell" s_given_cell ["given", "gifts"] := topFn_mk X G a3 l3 c3 k3 fun _ _ _ _ _ _ us hl => (by obtain ⟨_, _, rfl⟩ := exN2 hl; rfl)
 have t4 : TopFn K mg "own_cell" s_own_cell ["own"] := topFn_mk X G a4 l4 c4 k4 fun _ _ _ _ _ _ us hl => (by obtain ⟨_, rfl⟩ := exN1 hl; rfl)
 have t5 : TopFn K mg "cells_of" s_cells_of ["program", "gifts"] := topFn_mk X G a5 l5 c5 k5 fun _ _ _ _ _ _ us hl => (by obtain ⟨_, _, rfl⟩ := exN2 hl; rfl)
 have t8 : TopFn K mg "ends_of" s_ends_of ["program", "cells"] := topFn_mk X G a8 l8 c8 k8 fun _ _ _ _ _ _ us hl => (by obtain ⟨_, _, rfl⟩ := exN2 hl; rfl)
 have t9 : TopFn K mg "run" s_run ["program", "gifts"] := topFn_mk X G a9 l9 c9 k9 fun _ _ _ _ _ _ us hl => (by obtain ⟨_, _, rfl⟩ := exN2 hl; rfl)
 have t10 : TopFn K mg "_law_cell_at" s_law_cell_at ["_law_script", "_law_k"] := topFn_mk X G a10 l10 c10 k10 fun _ _ _ _ _ _ us hl => (by obtain ⟨_, _, rfl⟩ := exN2 hl; rfl)
 have t11 : TopFn K mg "_law_name" s_law_name ["_law_cell", "_law_k"] := topFn_mk X G a11 l11 c11 k11 fun _ _ _ _ _ _ us hl => (by obtain ⟨_, _, rfl⟩ := exN2 hl; rfl)
 have t12 : TopFn K mg "_law_number" s_law_number ["_law_cell"] := topFn_mk X G a12 l12 c12 k12 fun _ _ _ _ _ _ us hl => (by obtain ⟨_, rfl⟩ := exN1 hl; rfl)
 have t13 : TopFn K mg "_law_head" s_law_head ["_law_script", "_law_k"] := topFn_mk X G a13 l13 c13 k13 fun _ _ _ _ _ _ us hl => (by obtain ⟨_, _, rfl⟩ := exN2 hl; rfl)
 have t14 : TopFn K mg "_law_deeds" s_law_deeds ["_law_script", "_law_many"] := topFn_mk X G a14 l14 c14 k14 fun _ _ _ _ _ _ us hl => (by obtain ⟨_, _, rfl⟩ := exN2 hl; rfl)
 have t15 : TopFn K mg "_law_gift" s_law_gift ["_law_script", "_law_k", "_law_size"] := topFn_mk X G a15 l15 c15 k15 fun _ _ _ _ _ _ us hl => (by obtain ⟨_, _, _, rfl⟩ := exN3 hl; rfl)
 have t16 : TopFn K mg "_law_odd" s_law_odd ["_law_cell", "_law_gift_here", "_law_size"] := topFn_mk X G a16 l16 c16 k16 fun _ _ _ _ _ _ us hl => (by obtain ⟨_, _, _, rfl⟩ := exN3 hl; rfl)
 have t17 : TopFn K mg "_law_same" s_law_same ["_law_found", "_law_due"] := topFn_mk X G a17 l17 c17 k17 fun _ _ _ _ _ _ us hl => (by obtain ⟨_, _, rfl⟩ := exN2 hl; rfl)
 have t18 : TopFn K mg "_law_refused" s_law_refused ["_law_program", "_law_gifts", "_law_way"] := topFn_mk X G a18 l18 c18 k18 fun _ _ _ _ _ _ us hl => (by obtain ⟨_, _, _, rfl⟩ := exN3 hl; rfl)
 have t19 : TopFn K mg "_law_twice" s_law_twice ["_law_program", "_law_gifts", "_law_due"] := topFn_mk X G a19 l19 c19 k19 fun _ _ _ _ _ _ us hl => (by obtain ⟨_, _, _, rfl⟩ := exN3 hl; rfl)
 have t20 : TopFn K mg "_law_dues" s_law_dues ["_law_heads", "_law_deeds_here", "_law_script"] := topFn_mk X G a20 l20 c20 k20 fun _ _ _ _ _ _ us hl => (by obtain ⟨_, _, _, rfl⟩ := exN3 hl; rfl)
 have t21 : TopFn K mg "law" s_law ["_law_script"] := topFn_mk X G a21 l21 c21 k21 fun _ _ _ _ _ _ us hl => (by obtain ⟨_, rfl⟩ := exN1 hl; rfl)
 have no_HushError : W.nsOkIn K N_HushError = true := nsOk_of xn_HushError xk_HushError
 have X_HushError : XCl K A_HushError := xcl_top xl_HushError xga_HushError xgh_HushError xsa_HushError xcl_HushError cg ct xkp_HushError
 have X_NoGift : XCl K A_NoGift := xcl_under xl_NoGift xl_HushError no_HushError xi_HushError xga_NoGift xgh_NoGift xsa_NoGift xcl_NoGift cg ct xkp_NoGift
 have I_NoGift : InitFn K mg A_NoGift "NoGift" "NoGift.__init__" s_NoGift_init ["self", "name"] := initFn_mk X G X_NoGift x_NoGift xi_NoGift xf_NoGift xd_NoGift xc_NoGift xq_NoGift fun _ _ _ _ _ _ us hl => (by obtain ⟨_, _, rfl⟩ := exN2 hl; rfl)
 have X_NotAlike : XCl K A_NotAlike := xcl_under xl_NotAlike xl_HushError no_HushError xi_HushError xga_NotAlike xgh_NotAlike xsa_NotAlike xcl_NotAlike cg ct xkp_NotAlike
 have I_NotAlike : InitFn K mg A_NotAlike "NotAlike" "NotAlike.__init__" s_NotAlike_init ["self", "name"] := initFn_mk X G X_NotAlike x_NotAlike xi_NotAlike xf_NotAlike xd_NotAlike xc_NotAlike xq_NotAlike fun _ _ _ _ _ _ us hl => (by obtain ⟨_, _, rfl⟩ := exN2 hl; rfl)
 have X_Unknown : XCl K A_Unknown := xcl_under xl_Unknown xl_HushError no_HushError xi_HushError xga_Unknown xgh_Unknown xsa_Unknown xcl_Unknown cg ct xkp_Unknown
 have I_Unknown : InitFn K mg A_Unknown "Unknown" "Unknown.__init__" s_Unknown_init ["self", "name"] := initFn_mk X G X_Unknown x_Unknown xi_Unknown xf_Unknown xd_Unknown xc_Unknown xq_Unknown fun _ _ _ _ _ _ us hl => (by obtain ⟨_, _, rfl⟩ := exN2 hl; rfl)
 have T : Txt K mg ⟨A_Row, A_HandRow, A_GivenRow, A_OwnRow, A_LetRow, A_SetRow, A_PutRow, A_SendRow, A_SayRow, A_CallRow, A_LastRow, A_IfRow, A_LoopRow, A_DeedRow, A_Program, A_Book, A_Run, A_HushError, A_NoGift, A_NotAlike, A_Unknown⟩ := { is_number := t1, is_good := t2, given_cell := t3, own_cell := t4, cells_of := t5, ends_of := t8, run := t9, law_cell_at := t10, law_name := t11, law_number := t12, law_head := t13, law_deeds := t14, law_gift := t15, law_odd := t16, law_same := t17, law_refused := t18, law_twice := t19, law_dues := t20, z_all := W.mg_none_of X G z_all, z_bool := W.mg_none_of X G z_bool, z_dict := W.mg_none_of X G z_dict, z_int := W.mg_none_of X G z_int, z_isinstance := W.mg_none_of X G z_isinstance, z_len := W.mg_none_of X G z_len, z_list := W.mg_none_of X G z_list, z_range := W.mg_none_of X G z_range, z_tuple := W.mg_none_of X G z_tuple, z_ValueError := W.mg_none_of X G z_ValueError, c_MOST_NUMBER := ⟨_, W.mg_of X G g_MOST_NUMBER⟩, o_Row := ⟨W.mg_of X G x_Row, ⟨xpg_Row, xhd_Row, xpo_Row, xsa_Row⟩, ⟨_, xl_Row, xm_Row⟩, xty_Row, xkc_Row, cg, ct, xmk_Row, xkp_Row⟩, m_Row_init := mFn_mk xi_Row_init xf_Row_init xo_Row_init xc_Row_init xq_Row_init fun _ _ _ _ _ _ us hl => (by obtain ⟨_, _, rfl⟩ := exN2 hl; rfl), o_HandRow := ⟨W.mg_of X G x_HandRow, ⟨xpg_HandRow, xhd_HandRow, xpo_HandRow, xsa_HandRow⟩, ⟨_, xl_HandRow, xm_HandRow⟩, xty_HandRow, xkc_HandRow, cg, ct, xmk_HandRow, xkp_HandRow⟩, m_HandRow_init := mFn_mk xi_HandRow_init xf_HandRow_init xo_HandRow_init xc_HandRow_init xq_HandRow_init fun _ _ _ _ _ _ us hl => (by obtain ⟨_, _, _, _, rfl⟩ := exN4 hl; rfl), n_HandRow_name := xw_HandRow_name, n_HandRow_rank := xw_HandRow_rank, n_HandRow_number := xw_HandRow_number, o_GivenRow := ⟨W.mg_of X G x_GivenRow, ⟨xpg_GivenRow, xhd_GivenRow, xpo_GivenRow, xsa_GivenRow⟩, ⟨_, xl_GivenRow, xm_GivenRow⟩, xty_GivenRow, xkc_GivenRow, cg, ct, xmk_GivenRow, xkp_GivenRow⟩, m_GivenRow_init := mFn_mk xi_GivenRow_init xf_GivenRow_init xo_GivenRow_init xc_GivenRow_init xq_GivenRow_init fun _ _ _ _ _ _ us hl => (by obtain ⟨_, _, _, _, _, rfl⟩ := exN5 hl; rfl), n_GivenRow_name := xw_GivenRow_name, n_GivenRow_rank := xw_GivenRow_rank, n_GivenRow_size := xw_GivenRow_size, n_GivenRow_number := xw_GivenRow_number, o_OwnRow := ⟨W.mg_of X G x_OwnRow, ⟨xpg_OwnRow, xhd_OwnRow, xpo_OwnRow, xsa_OwnRow⟩, ⟨_, xl_OwnRow, xm_OwnRow⟩, xty_OwnRow, xkc_OwnRow, cg, ct, xmk_OwnRow, xkp_OwnRow⟩, m_OwnRow_init := mFn_mk xi_OwnRow_init xf_OwnRow_init xo_OwnRow_init xc_OwnRow_init xq_OwnRow_init fun _ _ _ _ _ _ us hl => (by obtain ⟨_, _, _, _, rfl⟩ := exN4 hl; rfl), n_OwnRow_name := xw_OwnRow_name, n_OwnRow_size := xw_OwnRow_size, n_OwnRow_number := xw_OwnRow_number, o_LetRow := ⟨W.mg_of X G x_LetRow, ⟨xpg_LetRow, xhd_LetRow, xpo_LetRow, xsa_LetRow⟩, ⟨_, xl_LetRow, xm_LetRow⟩, xty_LetRow, xkc_LetRow, cg, ct, xmk_LetRow, xkp_LetRow⟩, m_LetRow_init := mFn_mk xi_LetRow_init xf_LetRow_init xo_LetRow_init xc_LetRow_init xq_LetRow_init fun _ _ _ _ _ _ us hl => (by obtain ⟨_, _, _, _, rfl⟩ := exN4 hl; rfl), n_LetRow_name := xw_LetRow_name, n_LetRow_rank := xw_LetRow_rank, n_LetRow_number := xw_LetRow_number, o_SetRow := ⟨W.mg_of X G x_SetRow, ⟨xpg_SetRow, xhd_SetRow, xpo_SetRow, xsa_SetRow⟩, ⟨_, xl_SetRow, xm_SetRow⟩, xty_SetRow, xkc_SetRow, cg, ct, xmk_SetRow, xkp_SetRow⟩, o_PutRow := ⟨W.mg_of X G x_PutRow, ⟨xpg_PutRow, xhd_PutRow, xpo_PutRow, xsa_PutRow⟩, ⟨_, xl_PutRow, xm_PutRow⟩, xty_PutRow, xkc_PutRow, cg, ct, xmk_PutRow, xkp_PutRow⟩, o_SendRow := ⟨W.mg_of X G x_SendRow, ⟨xpg_SendRow, xhd_SendRow, xpo_SendRow, xsa_SendRow⟩, ⟨_, xl_SendRow, xm_SendRow⟩, xty_SendRow, xkc_SendRow, cg, ct, xmk_SendRow, xkp_SendRow⟩, o_SayRow := ⟨W.mg_of X G x_SayRow, ⟨xpg_SayRow, xhd_SayRow, xpo_SayRow, xsa_SayRow⟩, ⟨_, xl_SayRow, xm_SayRow⟩, xty_SayRow, xkc_SayRow, cg, ct, xmk_SayRow, xkp_SayRow⟩, o_CallRow := ⟨W.mg_of X G x_CallRow, ⟨xpg_CallRow, xhd_CallRow, xpo_CallRow, xsa_CallRow⟩, ⟨_, xl_CallRow, xm_CallRow⟩, xty_CallRow, xkc_CallRow, cg, ct, xmk_CallRow, xkp_CallRow⟩, o_LastRow := ⟨W.mg_of X G x_LastRow, ⟨xpg_LastRow, xhd_LastRow, xpo_LastRow, xsa_LastRow⟩, ⟨_, xl_LastRow, xm_LastRow⟩, xty_LastRow, xkc_LastRow, cg, ct, xmk_LastRow, xkp_LastRow⟩, o_IfRow := ⟨W.mg_of X G x_IfRow, ⟨xpg_IfRow, xhd_IfRow, xpo_IfRow, xsa_IfRow⟩, ⟨_, xl_IfRow, xm_IfRow⟩, xty_IfRow, xkc_IfRow, cg, ct, xmk_IfRow, xkp_IfRow⟩, o_LoopRow := ⟨W.mg_of X G x_LoopRow, ⟨xpg_LoopRow, xhd_LoopRow, xpo_LoopRow, xsa_LoopRow⟩, ⟨_, xl_LoopRow, xm_LoopRow⟩, xty_LoopRow, xkc_LoopRow, cg, ct, xmk_LoopRow, xkp_LoopRow⟩, o_DeedRow := ⟨W.mg_of X G x_DeedRow, ⟨xpg_DeedRow, xhd_DeedRow, xpo_DeedRow, xsa_DeedRow⟩, ⟨_, xl_DeedRow, xm_DeedRow⟩, xty_DeedRow, xkc_DeedRow, cg, ct, xmk_DeedRow, xkp_DeedRow⟩, m_DeedRow_init := mFn_mk xi_DeedRow_init xf_DeedRow_init xo_DeedRow_init xc_DeedRow_init xq_DeedRow_init fun _ _ _ _ _ _ us hl => (by obtain ⟨_, _, _, _, _, rfl⟩ := exN5 hl; rfl), n_DeedRow_name := xw_DeedRow_name, n_DeedRow_parts := xw_DeedRow_parts, n_DeedRow_body := xw_DeedRow_body, n_DeedRow_number := xw_DeedRow_number, o_Program := ⟨W.mg_of X G x_Program, ⟨xpg_Program, xhd_Program, xpo_Program, xsa_Program⟩, ⟨_, xl_Program, xm_Program⟩, xty_Program, xkc_Program, cg, ct, xmk_Program, xkp_Program⟩, m_Program_init := mFn_mk xi_Program_init xf_Program_init xo_Program_init xc_Program_init xq_Program_init fun _ _ _ _ _ _ us hl => (by obtain ⟨_, _, _, _, rfl⟩ := exN4 hl; rfl), n_Program_heads := xw_Program_heads, n_Program_deeds := xw_Program_deeds, n_Program_main := xw_Program_main, o_Book := ⟨W.mg_of X G x_Book, ⟨xpg_Book, xhd_Book, xpo_Book, xsa_Book⟩, ⟨_, xl_Book, xm_Book⟩, xty_Book, xkc_Book, cg, ct, xmk_Book, xkp_Book⟩, m_Book_init := mFn_mk xi_Book_init xf_Book_init xo_Book_init xc_Book_init xq_Book_init fun _ _ _ _ _ _ us hl => (by obtain ⟨_, rfl⟩ := exN1 hl; rfl), n_Book_letters := xw_Book_letters, n_Book_said := xw_Book_said, n_Book_trace := xw_Book_trace, n_Book_steps := xw_Book_steps, n_Book_ends := xw_Book_ends, o_Run := ⟨W.mg_of X G x_Run, ⟨xpg_Run, xhd_Run, xpo_Run, xsa_Run⟩, ⟨_, xl_Run, xm_Run⟩, xty_Run, xkc_Run, cg, ct, xmk_Run, xkp_Run⟩, m_Run_init := mFn_mk xi_Run_init xf_Run_init xo_Run_init xc_Run_init xq_Run_init fun _ _ _ _ _ _ us hl => (by obtain ⟨_, _, _, rfl⟩ := exN3 hl; rfl), m_Run_do_rows := mFn_mk xi_Run_do_rows xf_Run_do_rows xo_Run_do_rows xc_Run_do_rows xq_Run_do_rows fun _ _ _ _ _ _ us hl => (by obtain ⟨_, _, rfl⟩ := exN2 hl; rfl), n_Run_deeds := xw_Run_deeds, n_Run_cells := xw_Run_cells, n_Run_book := xw_Run_book, xx_HushError := X_HushError, xm_HushError := W.mg_of X G x_HushError, xx_NoGift := X_NoGift, xm_NoGift := W.mg_of X G x_NoGift, xs_NoGift := xsb_NoGift, xi_NoGift := I_NoGift, xn_NoGift_name := xw_NoGift_name, xm_NotAlike := W.mg_of X G x_NotAlike, xm_Unknown := W.mg_of X G x_Unknown, of_Row_init := ⟨yg_Row_init, yr_Row_init, _, xi_Row_init, yf_Row_init⟩, nd := nod, ke_na := ke_na, ke_un := ke_un, ke_ve := ke_ve, ke_hu := ke_hu }
 refine ⟨W.fnOf "law" "law" (defArgs s_law) (defBody s_law) (defScope s_law) .none kV21 dc21 pm21 an21 cd21 ct21, fun s v => .of_eq rfl, fun base _ _ => ?_⟩
 have e := hfa.symm.trans (W.mg_of X G a21)
 cases e
 exact has_at (h_law (P := l.prog) (w := w) (base := base) T t21) (W.mg_of X G a21) l21
theorem walk {l : W.OpenLaw} {q : Program} {loose : List Str} {XP : (Str → Option Value) → Heap → Prop} {YP : World → Heap → Prop} {d : DefRec} {K : Params → W.Frag} (hn : l.most = some 63) (hdf : d.params.defaults = []) (hY : ∀ (w : World) (h : Heap), YP w h → (K w.params).In h)
  (F : ∀ (w : World) (mg : Str → Option Value) (fa : Addr) (h : Heap), (K w.params).In h → h.Ns mainGlobals mg → mg d.name = some (.ref fa) → ∃ fd : FuncData, (∀ (s : Shared) (u : Value), BindsTo s fd ⟨[u], []⟩ [("_law_script", u)]) ∧ ∀ base : Heap, (K w.params).In base → base.Ns mainGlobals mg → FnOk l.prog w (K w.params) mg base CX0 20 fa fd ["_law_script"] (sp_law (K w.params))) :
  W.WalkO q loose XP YP l.row.toRowW d [] (fun f vs => PySem.call f vs) :=
 L2.walk_of (n := 63) (k := 20) (x := "_law_script") (CX := fun _ => CX0) (sp := fun w => sp_law (K w.params)) hn (by decide) hdf ⟨rfl, by decide, by decide⟩ hY F (fun _ _ a ns hl _ hS => ⟨a, ns, rfl, hS, hl, fun _ => rfl⟩) fun _ _ _ _ _ z => z
end K21
open PySem PySem.W PyProof.Rows
set_option maxRecDepth 100000 in
set_option maxHeartbeats 0 in
theorem PySem.Challenge.cw_hushrow_k21_what_a_run_begins_with_holds : PySem.Challenge.rw_hushrow_k21_what_a_run_begins_with.Holds := by
 w_on; o_law
 refine W.holds_open (q := K21.seenAt) (loose := []) (Xt := K21.test) (XP := W.XL K21.seenAt []) (Yf := (W.kHook K21.heapK K21.keysK K21.keysK_eq).obs) (Ya := (W.kHook K21.heapK K21.keysK K21.keysK_eq).val) (YP := (W.kHook K21.heapK K21.keysK K21.keysK_eq).says) (N := 13918) K21.left (W.kHook K21.heapK K21.keysK K21.keysK_eq).of (W.kHook K21.heapK K21.keysK K21.keysK_eq).keeps
  (fun s e => W.xl_of s (Bool.and_eq_true_iff.mp e).1) W.XL.keeps (by rfl) (by rfl) (by rfl) (fun s e => W.recFacts_of (Bool.and_eq_true_iff.mp e).2) ?h4 ?h5 ?h6 ⟨rfl, rfl, rfl, rfl, rfl, by decide +kernel⟩ ?hw ?hc
 (case h4 => rfl); (case h5 => first | assumption | decide +kernel); (case h6 => decide +kernel); (case hw => w_witness2)
 k_fill
 refine K21.walk (l := PySem.Challenge.rw_hushrow_k21_what_a_run_begins_with) rfl rfl (fun w h Y => W.kIn_of Y) ?F
 case F =>
  intro w mg fa h KX G hmg
  refine' K21.all_mk KX G hmg ?a1 ?l1 ?c1 ?k1 ?a2 ?l2 ?c2 ?k2 ?a3 ?l3 ?c3 ?k3 ?a4 ?l4 ?c4 ?k4 ?a5 ?l5 ?c5 ?k5 ?a8 ?l8 ?c8 ?k8 ?a9 ?l9 ?c9 ?k9 ?a10 ?l10 ?c10 ?k10 ?a11 ?l11 ?c11 ?k11 ?a12 ?l12 ?c12 ?k12 ?a13 ?l13 ?c13 ?k13 ?a14 ?l14 ?c14 ?k14 ?a15 ?l15 ?c15 ?k15 ?a16 ?l16 ?c16 ?k16 ?a17 ?l17 ?c17 ?k17 ?a18 ?l18 ?c18 ?k18 ?a19 ?l19 ?c19 ?k19 ?a20 ?l20 ?c20 ?k20 ?a21 ?l21 ?c21 ?k21 ?z_all ?z_bool ?z_dict ?z_int ?z_isinstance ?z_len ?z_list ?z_range ?z_tuple ?z_ValueError ?g_MOST_NUMBER ?cg ?ct ?x_Row ?xl_Row ?xm_Row ?xpg_Row ?xhd_Row ?xpo_Row ?xsa_Row ?xty_Row ?xkc_Row ?xmk_Row ?xkp_Row ?x_HandRow ?xl_HandRow ?xm_HandRow ?xpg_HandRow ?xhd_HandRow ?xpo_HandRow ?xsa_HandRow ?xty_HandRow ?xkc_HandRow ?xmk_HandRow ?xkp_HandRow ?x_GivenRow ?xl_GivenRow ?xm_GivenRow ?xpg_GivenRow ?xhd_GivenRow ?xpo_GivenRow ?xsa_GivenRow ?xty_GivenRow ?xkc_GivenRow ?xmk_GivenRow ?xkp_GivenRow ?x_OwnRow ?xl_OwnRow ?xm_OwnRow ?xpg_OwnRow ?xhd_OwnRow ?xpo_OwnRow ?xsa_OwnRow ?xty_OwnRow ?xkc_OwnRow ?xmk_OwnRow ?xkp_OwnRow ?x_LetRow ?xl_LetRow ?xm_LetRow ?xpg_LetRow ?xhd_LetRow ?xpo_LetRow ?xsa_LetRow ?xty_LetRow ?xkc_LetRow ?xmk_LetRow ?xkp_LetRow ?x_SetRow ?xl_SetRow ?xm_SetRow ?xpg_SetRow ?xhd_SetRow ?xpo_SetRow ?xsa_SetRow ?xty_SetRow ?xkc_SetRow ?xmk_SetRow ?xkp_SetRow ?x_PutRow ?xl_PutRow ?xm_PutRow ?xpg_PutRow ?xhd_PutRow ?xpo_PutRow ?xsa_PutRow ?xty_PutRow ?xkc_PutRow ?xmk_PutRow ?xkp_PutRow ?x_SendRow ?xl_SendRow ?xm_SendRow ?xpg_SendRow ?xhd_SendRow ?xpo_SendRow ?xsa_SendRow ?xty_SendRow ?xkc_SendRow ?xmk_SendRow ?xkp_SendRow ?x_SayRow ?xl_SayRow ?xm_SayRow ?xpg_SayRow ?xhd_SayRow ?xpo_SayRow ?xsa_SayRow ?xty_SayRow ?xkc_SayRow ?xmk_SayRow ?xkp_SayRow ?x_CallRow ?xl_CallRow ?xm_CallRow ?xpg_CallRow ?xhd_CallRow ?xpo_CallRow ?xsa_CallRow ?xty_CallRow ?xkc_CallRow ?xmk_CallRow ?xkp_CallRow ?x_LastRow ?xl_LastRow ?xm_LastRow ?xpg_LastRow ?xhd_LastRow ?xpo_LastRow ?xsa_LastRow ?xty_LastRow ?xkc_LastRow ?xmk_LastRow ?xkp_LastRow ?x_IfRow ?xl_IfRow ?xm_IfRow ?xpg_IfRow ?xhd_IfRow ?xpo_IfRow ?xsa_IfRow ?xty_IfRow ?xkc_IfRow ?xmk_IfRow ?xkp_IfRow ?x_LoopRow ?xl_LoopRow ?xm_LoopRow ?xpg_LoopRow ?xhd_LoopRow ?xpo_LoopRow ?xsa_LoopRow ?xty_LoopRow ?xkc_LoopRow ?xmk_LoopRow ?xkp_LoopRow ?x_DeedRow ?xl_DeedRow ?xm_DeedRow ?xpg_DeedRow ?xhd_DeedRow ?xpo_DeedRow ?xsa_DeedRow ?xty_DeedRow ?xkc_DeedRow ?xmk_DeedRow ?xkp_DeedRow ?x_Program ?xl_Program ?xm_Program ?xpg_Program ?xhd_Program ?xpo_Program ?xsa_Program ?xty_Program ?xkc_Program ?xmk_Program ?xkp_Program ?x_Book ?xl_Book ?xm_Book ?xpg_Book ?xhd_Book ?xpo_Book ?xsa_Book ?xty_Book ?xkc_Book ?xmk_Book ?xkp_Book ?x_Run ?xl_Run ?xm_Run ?xpg_Run ?xhd_Run ?xpo_Run ?xsa_Run ?xty_Run ?xkc_Run ?xmk_Run ?xkp_Run ?x_HushError ?xl_HushError ?xga_HushError ?xgh_HushError ?xsa_HushError ?xcl_HushError ?xkp_HushError ?xsb_HushError ?xn_HushError ?xk_HushError ?xi_HushError ?x_NoGift ?xl_NoGift ?xga_NoGift ?xgh_NoGift ?xsa_NoGift ?xcl_NoGift ?xkp_NoGift ?xsb_NoGift ?xi_NoGift ?xf_NoGift ?xd_NoGift ?xc_NoGift ?xq_NoGift ?xw_NoGift_name ?x_NotAlike ?xl_NotAlike ?xga_NotAlike ?xgh_NotAlike ?xsa_NotAlike ?xcl_NotAlike ?xkp_NotAlike ?xsb_NotAlike ?xi_NotAlike ?xf_NotAlike ?xd_NotAlike ?xc_NotAlike ?xq_NotAlike ?xw_NotAlike_name ?x_Unknown ?xl_Unknown ?xga_Unknown ?xgh_Unknown ?xsa_Unknown ?xcl_Unknown ?xkp_Unknown ?xsb_Unknown ?xi_Unknown ?xf_Unknown ?xd_Unknown ?xc_Unknown ?xq_Unknown ?xw_Unknown_name ?xi_Row_init ?xf_Row_init ?xo_Row_init ?xc_Row_init ?xq_Row_init ?xi_HandRow_init ?xf_HandRow_init ?xo_HandRow_init ?xc_HandRow_init ?xq_HandRow_init ?xw_HandRow_name ?xw_HandRow_rank ?xw_HandRow_number ?xi_GivenRow_init ?xf_GivenRow_init ?xo_GivenRow_init ?xc_GivenRow_init ?xq_GivenRow_init ?xw_GivenRow_name ?xw_GivenRow_rank ?xw_GivenRow_size ?xw_GivenRow_number ?xi_OwnRow_init ?xf_OwnRow_init ?xo_OwnRow_init ?xc_OwnRow_init ?xq_OwnRow_init ?xw_OwnRow_name ?xw_OwnRow_size ?xw_OwnRow_number ?xi_LetRow_init ?xf_LetRow_init ?xo_LetRow_init ?xc_LetRow_init ?xq_LetRow_init ?xw_LetRow_name ?xw_LetRow_rank ?xw_LetRow_number ?xi_DeedRow_init ?xf_DeedRow_init ?xo_DeedRow_init ?xc_DeedRow_init ?xq_DeedRow_init ?xw_DeedRow_name ?xw_DeedRow_parts ?xw_DeedRow_body ?xw_DeedRow_number ?xi_Program_init ?xf_Program_init ?xo_Program_init ?xc_Program_init ?xq_Program_init ?xw_Program_heads ?xw_Program_deeds ?xw_Program_main ?xi_Book_init ?xf_Book_init ?xo_Book_init ?xc_Book_init ?xq_Book_init ?xw_Book_letters ?xw_Book_said ?xw_Book_trace ?xw_Book_steps ?xw_Book_ends ?xi_Run_init ?xf_Run_init ?xo_Run_init ?xc_Run_init ?xq_Run_init ?xi_Run_do_rows ?xf_Run_do_rows ?xo_Run_do_rows ?xc_Run_do_rows ?xq_Run_do_rows ?xw_Run_deeds ?xw_Run_cells ?xw_Run_book ?yg_Row_init ?yr_Row_init ?yf_Row_init ?nod ?ke_na ?ke_un ?ke_ve ?ke_hu
  (case a1 => k_is); (case l1 => k_is); (case c1 => k_is); (case k1 => k_is); (case a2 => k_is); (case l2 => k_is)
  (case c2 => k_is); (case k2 => k_is); (case a3 => k_is); (case l3 => k_is); (case c3 => k_is); (case k3 => k_is)
  (case a4 => k_is); (case l4 => k_is); (case c4 => k_is); (case k4 => k_is); (case a5 => k_is); (case l5 => k_is)
  (case c5 => k_is); (case k5 => k_is); (case a8 => k_is); (case l8 => k_is); (case c8 => k_is); (case k8 => k_is)
  (case a9 => k_is); (case l9 => k_is); (case c9 => k_is); (case k9 => k_is); (case a10 => k_is); (case l10 => k_is)
  (case c10 => k_is); (case k10 => k_is); (case a11 => k_is); (case l11 => k_is); (case c11 => k_is); (case k11 => k_is)
  (case a12 => k_is); (case l12 => k_is); (case c12 => k_is); (case k12 => k_is); (case a13 => k_is); (case l13 => k_is)
  (case c13 => k_is); (case k13 => k_is); (case a14 => k_is); (case l14 => k_is); (case c14 => k_is); (case k14 => k_is)
  (case a15 => k_is); (case l15 => k_is); (case c15 => k_is); (case k15 => k_is); (case a16 => k_is); (case l16 => k_is)
  (case c16 => k_is); (case k16 => k_is); (case a17 => k_is); (case l17 => k_is); (case c17 => k_is); (case k17 => k_is)
  (case a18 => k_is); (case l18 => k_is); (case c18 => k_is); (case k18 => k_is); (case a19 => k_is); (case l19 => k_is)
  (case c19 => k_is); (case k19 => k_is); (case a20 => k_is); (case l20 => k_is); (case c20 => k_is); (case k20 => k_is)
  (case a21 => k_is); (case l21 => k_is); (case c21 => k_is); (case k21 => k_is); (case z_all => k_is); (case z_bool => k_is)
  (case z_dict => k_is); (case z_int => k_is); (case z_isinstance => k_is); (case z_len => k_is); (case z_list => k_is); (case z_range => k_is)
  (case z_tuple => k_is); (case z_ValueError => k_is); (case g_MOST_NUMBER => k_is); (case cg => k_is); (case ct => k_is); (case x_Row => k_is)
  (case xl_Row => k_is); (case xm_Row => rfl); (case xpg_Row => k_is); (case xhd_Row => k_is); (case xpo_Row => k_is); (case xsa_Row => k_is)
  (case xty_Row => k_is); (case xkc_Row => k_is); (case xmk_Row => k_is); (case xkp_Row => k_is); (case x_HandRow => k_is); (case xl_HandRow => k_is)
  (case xm_HandRow => rfl); (case xpg_HandRow => k_is); (case xhd_HandRow => k_is); (case xpo_HandRow => k_is); (case xsa_HandRow => k_is); (case xty_HandRow => k_is)
  (case xkc_HandRow => k_is); (case xmk_HandRow => k_is); (case xkp_HandRow => k_is); (case x_GivenRow => k_is); (case xl_GivenRow => k_is); (case xm_GivenRow => rfl)
  (case xpg_GivenRow => k_is); (case xhd_GivenRow => k_is); (case xpo_GivenRow => k_is); (case xsa_GivenRow => k_is); (case xty_GivenRow => k_is); (case xkc_GivenRow => k_is)
  (case xmk_GivenRow => k_is); (case xkp_GivenRow => k_is); (case x_OwnRow => k_is); (case xl_OwnRow => k_is); (case xm_OwnRow => rfl); (case xpg_OwnRow => k_is)
  (case xhd_OwnRow => k_is); (case xpo_OwnRow => k_is); (case xsa_OwnRow => k_is); (case xty_OwnRow => k_is); (case xkc_OwnRow => k_is); (case xmk_OwnRow => k_is)
  (case xkp_OwnRow => k_is); (case x_LetRow => k_is); (case xl_LetRow => k_is); (case xm_LetRow => rfl); (case xpg_LetRow => k_is); (case xhd_LetRow => k_is)
  (case xpo_LetRow => k_is); (case xsa_LetRow => k_is); (case xty_LetRow => k_is); (case xkc_LetRow => k_is); (case xmk_LetRow => k_is); (case xkp_LetRow => k_is)
  (case x_SetRow => k_is); (case xl_SetRow => k_is); (case xm_SetRow => rfl); (case xpg_SetRow => k_is); (case xhd_SetRow => k_is); (case xpo_SetRow => k_is)
  (case xsa_SetRow => k_is); (case xty_SetRow => k_is); (case xkc_SetRow => k_is); (case xmk_SetRow => k_is); (case xkp_SetRow => k_is); (case x_PutRow => k_is)
  (case xl_PutRow => k_is); (case xm_PutRow => rfl); (case xpg_PutRow => k_is); (case xhd_PutRow => k_is); (case xpo_PutRow => k_is); (case xsa_PutRow => k_is)
  (case xty_PutRow => k_is); (case xkc_PutRow => k_is); (case xmk_PutRow => k_is); (case xkp_PutRow => k_is); (case x_SendRow => k_is); (case xl_SendRow => k_is)
  (case xm_SendRow => rfl); (case xpg_SendRow => k_is); (case xhd_SendRow => k_is); (case xpo_SendRow => k_is); (case xsa_SendRow => k_is); (case xty_SendRow => k_is)
  (case xkc_SendRow => k_is); (case xmk_SendRow => k_is); (case xkp_SendRow => k_is); (case x_SayRow => k_is); (case xl_SayRow => k_is); (case xm_SayRow => rfl)
  (case xpg_SayRow => k_is); (case xhd_SayRow => k_is); (case xpo_SayRow => k_is); (case xsa_SayRow => k_is); (case xty_SayRow => k_is); (case xkc_SayRow => k_is)
  (case xmk_SayRow => k_is); (case xkp_SayRow => k_is); (case x_CallRow => k_is); (case xl_CallRow => k_is); (case xm_CallRow => rfl); (case xpg_CallRow => k_is)
  (case xhd_CallRow => k_is); (case xpo_CallRow => k_is); (case xsa_CallRow => k_is); (case xty_CallRow => k_is); (case xkc_CallRow => k_is); (case xmk_CallRow => k_is)
  (case xkp_CallRow => k_is); (case x_LastRow => k_is); (case xl_LastRow => k_is); (case xm_LastRow => rfl); (case xpg_LastRow => k_is); (case xhd_LastRow => k_is)
  (case xpo_LastRow => k_is); (case xsa_LastRow => k_is); (case xty_LastRow => k_is); (case xkc_LastRow => k_is); (case xmk_LastRow => k_is); (case xkp_LastRow => k_is)
  (case x_IfRow => k_is); (case xl_IfRow => k_is); (case xm_IfRow => rfl); (case xpg_IfRow => k_is); (case xhd_IfRow => k_is); (case xpo_IfRow => k_is)
  (case xsa_IfRow => k_is); (case xty_IfRow => k_is); (case xkc_IfRow => k_is); (case xmk_IfRow => k_is); (case xkp_IfRow => k_is); (case x_LoopRow => k_is)
  (case xl_LoopRow => k_is); (case xm_LoopRow => rfl); (case xpg_LoopRow => k_is); (case xhd_LoopRow => k_is); (case xpo_LoopRow => k_is); (case xsa_LoopRow => k_is)
  (case xty_LoopRow => k_is); (case xkc_LoopRow => k_is); (case xmk_LoopRow => k_is); (case xkp_LoopRow => k_is); (case x_DeedRow => k_is); (case xl_DeedRow => k_is)
  (case xm_DeedRow => rfl); (case xpg_DeedRow => k_is); (case xhd_DeedRow => k_is); (case xpo_DeedRow => k_is); (case xsa_DeedRow => k_is); (case xty_DeedRow => k_is)
  (case xkc_DeedRow => k_is); (case xmk_DeedRow => k_is); (case xkp_DeedRow => k_is); (case x_Program => k_is); (case xl_Program => k_is); (case xm_Program => rfl)
  (case xpg_Program => k_is); (case xhd_Program => k_is); (case xpo_Program => k_is); (case xsa_Program => k_is); (case xty_Program => k_is); (case xkc_Program => k_is)
  (case xmk_Program => k_is); (case xkp_Program => k_is); (case x_Book => k_is); (case xl_Book => k_is); (case xm_Book => rfl); (case xpg_Book => k_is)
  (case xhd_Book => k_is); (case xpo_Book => k_is); (case xsa_Book => k_is); (case xty_Book => k_is); (case xkc_Book => k_is); (case xmk_Book => k_is)
  (case xkp_Book => k_is); (case x_Run => k_is); (case xl_Run => k_is); (case xm_Run => rfl); (case xpg_Run => k_is); (case xhd_Run => k_is)
  (case xpo_Run => k_is); (case xsa_Run => k_is); (case xty_Run => k_is); (case xkc_Run => k_is); (case xmk_Run => k_is); (case xkp_Run => k_is)
  (case x_HushError => k_is); (case xl_HushError => k_is); (case xga_HushError => k_is); (case xgh_HushError => k_is); (case xsa_HushError => k_is); (case xcl_HushError => k_is)
  (case xkp_HushError => k_is); (case xsb_HushError => k_is); (case xn_HushError => k_is); (case xk_HushError => rfl); (case xi_HushError => k_is); (case x_NoGift => k_is)
  (case xl_NoGift => k_is); (case xga_NoGift => k_is); (case xgh_NoGift => k_is); (case xsa_NoGift => k_is); (case xcl_NoGift => k_is); (case xkp_NoGift => k_is)
  (case xsb_NoGift => k_is); (case xi_NoGift => k_is); (case xf_NoGift => k_is); (case xd_NoGift => k_is); (case xc_NoGift => k_is); (case xq_NoGift => k_is)
  (case xw_NoGift_name => k_is); (case x_NotAlike => k_is); (case xl_NotAlike => k_is); (case xga_NotAlike => k_is); (case xgh_NotAlike => k_is); (case xsa_NotAlike => k_is)
  (case xcl_NotAlike => k_is); (case xkp_NotAlike => k_is); (case xsb_NotAlike => k_is); (case xi_NotAlike => k_is); (case xf_NotAlike => k_is); (case xd_NotAlike => k_is)
  (case xc_NotAlike => k_is); (case xq_NotAlike => k_is); (case xw_NotAlike_name => k_is); (case x_Unknown => k_is); (case xl_Unknown => k_is); (case xga_Unknown => k_is)
  (case xgh_Unknown => k_is); (case xsa_Unknown => k_is); (case xcl_Unknown => k_is); (case xkp_Unknown => k_is); (case xsb_Unknown => k_is); (case xi_Unknown => k_is)
  (case xf_Unknown => k_is); (case xd_Unknown => k_is); (case xc_Unknown => k_is); (case xq_Unknown => k_is); (case xw_Unknown_name => k_is); (case xi_Row_init => k_is)
  (case xf_Row_init => k_is); (case xo_Row_init => k_is); (case xc_Row_init => k_is); (case xq_Row_init => k_is); (case xi_HandRow_init => k_is); (case xf_HandRow_init => k_is)
  (case xo_HandRow_init => k_is); (case xc_HandRow_init => k_is); (case xq_HandRow_init => k_is); (case xw_HandRow_name => k_is); (case xw_HandRow_rank => k_is); (case xw_HandRow_number => k_is)
  (case xi_GivenRow_init => k_is); (case xf_GivenRow_init => k_is); (case xo_GivenRow_init => k_is); (case xc_GivenRow_init => k_is); (case xq_GivenRow_init => k_is); (case xw_GivenRow_name => k_is)
  (case xw_GivenRow_rank => k_is); (case xw_GivenRow_size => k_is); (case xw_GivenRow_number => k_is); (case xi_OwnRow_init => k_is); (case xf_OwnRow_init => k_is); (case xo_OwnRow_init => k_is)
  (case xc_OwnRow_init => k_is); (case xq_OwnRow_init => k_is); (case xw_OwnRow_name => k_is); (case xw_OwnRow_size => k_is); (case xw_OwnRow_number => k_is); (case xi_LetRow_init => k_is)
  (case xf_LetRow_init => k_is); (case xo_LetRow_init => k_is); (case xc_LetRow_init => k_is); (case xq_LetRow_init => k_is); (case xw_LetRow_name => k_is); (case xw_LetRow_rank => k_is)
  (case xw_LetRow_number => k_is); (case xi_DeedRow_init => k_is); (case xf_DeedRow_init => k_is); (case xo_DeedRow_init => k_is); (case xc_DeedRow_init => k_is); (case xq_DeedRow_init => k_is)
  (case xw_DeedRow_name => k_is); (case xw_DeedRow_parts => k_is); (case xw_DeedRow_body => k_is); (case xw_DeedRow_number => k_is); (case xi_Program_init => k_is); (case xf_Program_init => k_is)
  (case xo_Program_init => k_is); (case xc_Program_init => k_is); (case xq_Program_init => k_is); (case xw_Program_heads => k_is); (case xw_Program_deeds => k_is); (case xw_Program_main => k_is)
  (case xi_Book_init => k_is); (case xf_Book_init => k_is); (case xo_Book_init => k_is); (case xc_Book_init => k_is); (case xq_Book_init => k_is); (case xw_Book_letters => k_is)
  (case xw_Book_said => k_is); (case xw_Book_trace => k_is); (case xw_Book_steps => k_is); (case xw_Book_ends => k_is); (case xi_Run_init => k_is); (case xf_Run_init => k_is)
  (case xo_Run_init => k_is); (case xc_Run_init => k_is); (case xq_Run_init => k_is); (case xi_Run_do_rows => k_is); (case xf_Run_do_rows => k_is); (case xo_Run_do_rows => k_is)
  (case xc_Run_do_rows => k_is); (case xq_Run_do_rows => k_is); (case xw_Run_deeds => k_is); (case xw_Run_cells => k_is); (case xw_Run_book => k_is); (case yg_Row_init => k_is)
  (case yr_Row_init => k_is); (case yf_Row_init => k_is); (case nod => decide); (case ke_na => first | k_is | rfl | kernel_rfl); (case ke_un => first | k_is | rfl | kernel_rfl); (case ke_ve => first | k_is | rfl | kernel_rfl)
  (case ke_hu => first | k_is | rfl | kernel_rfl)

