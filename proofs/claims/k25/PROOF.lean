import PyProof.Rows.All
import Wide.All
import OpenK.AllK
import Wide.FinOn
import Lean
import PyProof.EqAt
import PyProof.EqKinds
import PyProof.TupleCall
import PyProof.AttrMissSeq
import KE.KDictList
import PyProof.WalksEnum
import PyProof.EnumMake
import PyProof.ZipIter
import PyProof.Rows.ZipGen
import PySem.Challenge.RW_hushrow_k25_rounds
set_option Elab.async false
set_option linter.all false
set_option maxRecDepth 100000
namespace Hd
open PySem PySem.W PySem.Calls PyProof.Rows
def runT (tb : String → Option Builtin) (p : Program) (w : World) (n₀ : Nat) (ann : Option Value) : Nat → SharedT → Thread → Option SharedT
  | 0, _, _ => none
  | n + 1, s, t => match through t with
    | true => some s
    | false => match stepOk n₀ ann t with
      | false => none
      | true => match stepT (denote tb) p w s t with
        | some (s', t') => runT tb p w n₀ ann n s' t'
        | none => none
theorem run_of {tb : String → Option Builtin} {p : Program} {w : World} {n₀ : Nat} {ann : Option Value} : ∀ {n : Nat} {s s' : SharedT} {t : Thread},
    runT tb p w n₀ ann n s t = some s' → topRun tb p w n₀ ann n s.abs t = some s'.abs
  | 0, _, _, _, h => by cases h
  | n + 1, s, s', t, h => by
    unfold runT at h
    unfold topRun
    cases he : through t with
    | true => rw [he] at h; cases h; rfl
    | false =>
      rw [he] at h
      cases hk : stepOk n₀ ann t with
      | false => rw [hk] at h; cases h
      | true =>
        rw [hk] at h
        cases hs : stepT (denote tb) p w s t with
        | none => rw [hs] at h; cases h
        | some r => obtain ⟨s₂, t₂⟩ := r; rw [hs] at h; rw [stepT_spec hs]; exact run_of h
def looks (p q : Program) (loose : List Str) (Xt : Shared → Bool) {α : Type} (Yf : Shared → α) (g0 : Bool) (H : Heap) (s : Shared) :=
  (staticsOk (importedModules p.main.body) H s.heap && namesBound p s.heap && gensDone s && laidKept H s.heap, openSeen q loose (importedModules p.main.body) Xt g0 s, Yf s)
def treeOf : List Obj → Nat → BT → BT
  | [], _, t => t
  | o :: r, i, t => treeOf r (i + 1) (t.ins i o)
theorem left_of {p q : Program} {loose : List Str} {Xt : Shared → Bool} {α : Type} {Yf : Shared → α} {Ya : World → α} {N : Nat} {g0 : Bool} {H₀ : Params → Heap} {gs₀ : Array GenState} {d₀ : Drawn} {k₀ m₀ n₀ : Nat} {ann : Option Value} {T₀ : Params → BT} {life : Life}
    (opn : ∀ w : World, (fencedOpening treeTable p w N).map (fun s => (s.heap, s.gens, s.drawn, s.toks)) = some (H₀ w.params, gs₀, d₀, k₀))
    (size : ∀ w : World, ((H₀ w.params).isNs mainGlobals && gs₀.size == 0, (H₀ w.params).objs.size, (H₀ w.params).nsMap mainGlobals "__annotations__") = (true, m₀, ann))
    (tree : ∀ P : Params, absHeap (T₀ P) n₀ life = H₀ P)
    (look : ∀ (w : World) (os : OsState), (runT treeTable p w m₀ ann N ⟨T₀ w.params, n₀, life, gs₀, d₀, k₀, os⟩ (topStub p)).map (fun s => looks p q loose Xt Yf g0 (H₀ w.params) s.abs) = some (true, openGood q loose, Ya w)) :
    LeftO p q loose Xt Yf Ya N g0 := fun w => by
  obtain ⟨⟨h, gs, d, k, os⟩, e, e'⟩ := Option.map_eq_some_iff.mp (opn w)
  obtain ⟨rfl, rfl, rfl, rfl⟩ : h = H₀ w.params ∧ gs = gs₀ ∧ d = d₀ ∧ k = k₀ := by simpa using e'
  obtain ⟨z1, z2, z3⟩ : _ ∧ _ ∧ _ := by simpa only [Prod.mk.injEq] using size w
  obtain ⟨s, hs, hl⟩ := Option.map_eq_some_iff.mp (look w os)
  obtain ⟨l1, l23⟩ := Prod.mk.inj hl
  obtain ⟨l2, l3⟩ := Prod.mk.inj l23
  have r := run_of hs
  have t : topFrom treeTable p w N ⟨H₀ w.params, gs, d, k, os⟩ = some s.abs := by
    unfold topFrom
    dsimp only
    rw [z1, z2, z3]
    unfold SharedT.abs at r
    dsimp only at r
    rw [tree w.params] at r
    show (topRun treeTable p w m₀ ann N ⟨H₀ w.params, gs, d, k, os⟩ (topStub p)).bind _ = _
    rw [r]
    show (match staticsOk (importedModules p.main.body) (H₀ w.params) s.abs.heap && namesBound p s.abs.heap && gensDone s.abs && laidKept (H₀ w.params) s.abs.heap with | true => _ | false => _) = _
    rw [l1]
    rfl
  unfold openEnds
  rw [e]
  show (topFrom treeTable p w N _).map _ = _
  rw [t]
  exact congrArg some (Prod.ext l2 l3)
end Hd

set_option Elab.async false
set_option linter.all false
set_option maxRecDepth 100000
namespace L2
open PySem PySem.Spec PyProof.Rows
def inClass (s : Stmt) (j : Nat) : Stmt := match s with
  | .ClassDef _ _ _ body _ _ _ _ _ _ _ => body.getD j (.Pass ⟨0, 0, 0, 0⟩)
  | _ => .Pass ⟨0, 0, 0, 0⟩
def defArgs (s : Stmt) : Arguments := match s with
  | .FunctionDef _ a _ _ _ _ _ _ _ _ => a
  | _ => { posonlyargs := [], args := [], vararg := none, kwonlyargs := [], kw_defaults := [], kwarg := none, defaults := [] }
def defBody (s : Stmt) : List Stmt := match s with
  | .FunctionDef _ _ b _ _ _ _ _ _ _ => b
  | _ => []
def defScope (s : Stmt) : Scope := match s with
  | .FunctionDef _ _ _ _ _ _ sc _ _ _ => sc
  | _ => { kind := .function, names := [], isGenerator := false, isCoroutine := false }

end L2
namespace K25
open PySem
def top (i : Nat) : Stmt := PySem.Challenge.pw_hushrow_k25_rounds.main.body.getD i (.Pass ⟨0, 0, 0, 0⟩)
end K25

set_option Elab.async false
set_option linter.all false
set_option maxRecDepth 100000
set_option maxHeartbeats 0
namespace K25
open PySem L2 PySem.W
abbrev E (P : Params) (x : Str) (t : Nat) (v : Value) : DictEntry := ⟨PyData.keyHash P x, .str x t, v⟩
def heapK (P : Params) : PySem.W.Frag :=
  (nat_lit 2, ⟨.none, none, .dict #[] 0, #[]⟩) ::
  (nat_lit 3, ⟨(.type "dict"), none, .dict #[E P "__name__" 165 (.str "law_hushrow_k25_rounds" 1056), E P "__doc__" 166 .none, E P "__package__" 167 .none, E P "__loader__" 168 (.builtin "__main__.__loader__#opaque"), E P "__spec__" 169 .none, E P "__annotations__" 170 (.ref 6), E P "__builtins__" 171 (.ref 4), E P "__file__" 173 (.str "/claim/cut.py" 172), E P "__cached__" 174 .none, E P "_wall" 193 (.ref 21), E P "Book" 227 (.ref 38), E P "HushError" 247 (.ref 52), E P "NoGift" 272 (.ref 72), E P "Row" 317 (.ref 105), E P "HandRow" 352 (.ref 133), E P "GivenRow" 389 (.ref 159), E P "OwnRow" 424 (.ref 185), E P "SetRow" 473 (.ref 225), E P "PutRow" 524 (.ref 265), E P "SendRow" 566 (.ref 298), E P "SayRow" 617 (.ref 338), E P "CallRow" 659 (.ref 371), E P "LastRow" 682 (.ref 390), E P "IfRow" 730 (.ref 423), E P "LoopRow" 778 (.ref 456), E P "DeedRow" 815 (.ref 482), E P "Program" 848 (.ref 501), E P "MOST_NUMBER" 852 (.int (999999999999) 851), E P "is_number" 859 (.ref 512), E P "is_good" 865 (.ref 517), E P "given_cell" 874 (.ref 524), E P "own_cell" 881 (.ref 531), E P "cells_of" 893 (.ref 538), E P "ROUND" 897 (.int (1000000000000) 896), E P "reckon" 906 (.ref 545), E P "round_place" 914 (.ref 552), E P "Run" 1039 (.ref 637), E P "ends_of" 1045 (.ref 646), E P "run" 1055 (.ref 653), E P "_law_cell_at" 1065 (.ref 660), E P "_law_draws" 1071 (.ref 665), E P "_law_body" 1087 (.ref 672), E P "_law_spots" 1095 (.ref 679), E P "_law_rows" 1106 (.ref 686), E P "_law_program" 1117 (.ref 693), E P "_law_tell" 1127 (.ref 700), E P "_law_test" 1137 (.ref 707), E P "_law_inner" 1149 (.ref 714), E P "_law_follow" 1164 (.ref 721), E P "_law_same" 1173 (.ref 728), E P "law" 1185 (.ref 735)] 51, #[]⟩) ::
  (nat_lit 15, ⟨(.type "tuple"), none, .seq #[] 0, #[]⟩) ::
  (nat_lit 17, ⟨(.type "tuple"), none, .seq #[(.str "k" 190)] 0, #[]⟩) ::
  (nat_lit 18, ⟨(.type "tuple"), none, .seq #[] 0, #[]⟩) ::
  (nat_lit 20, ⟨(.type "code"), none, .fields #[(.str "_wall" 187), (.str "_wall" 188), (.str "/claim/cut.py" 189), (.int (1) 0), (.int (1) 0), (.int (0) 0), (.int (0) 0), (.int (3) 0), (.ref 15), (.bool true), (.int (181) 0), (.ref 16), .none, (.ref 17), (.ref 18), (.ref 19), (.int (191) 0), (.int (1) 0), (.str "/claim/cut.py" 192)], #[]⟩) ::
  (nat_lit 21, ⟨(.type "function"), none, .func (PySem.W.fnOf "_wall" "_wall" (defArgs (top 0)) (defBody (top 0)) (defScope (top 0)) .none .none .none (.str "__main__" 164) none (.ref 20) .none), #[]⟩) ::
  (nat_lit 29, ⟨(.type "tuple"), none, .seq #[] 0, #[]⟩) ::
  (nat_lit 31, ⟨(.type "tuple"), none, .seq #[(.str "self" 211)] 0, #[]⟩) ::
  (nat_lit 32, ⟨(.type "tuple"), none, .seq #[] 0, #[]⟩) ::
  (nat_lit 34, ⟨(.type "code"), none, .fields #[(.str "__init__" 208), (.str "Book.__init__" 209), (.str "/claim/cut.py" 210), (.int (7) 0), (.int (1) 0), (.int (0) 0), (.int (0) 0), (.int (3) 0), (.ref 29), (.bool true), (.int (181) 0), (.ref 30), .none, (.ref 31), (.ref 32), (.ref 33), (.int (212) 0), (.int (7) 0), (.str "/claim/cut.py" 213)], #[]⟩) ::
  (nat_lit 35, ⟨(.type "function"), none, .func (PySem.W.fnOf "__init__" "Book.__init__" (defArgs (inClass (top 2) 0)) (defBody (inClass (top 2) 0)) (defScope (inClass (top 2) 0)) .none .none .none (.str "hushrow.books" 194) none (.ref 34) .none), #[]⟩) ::
  (nat_lit 36, ⟨(.type "tuple"), none, .seq #[(.str "ends" 215), (.str "letters" 216), (.str "said" 217), (.str "steps" 218), (.str "trace" 219)] 0, #[]⟩) ::
  (nat_lit 37, ⟨(.type "dict"), none, .dict #[E P "__module__" 203 (.str "hushrow.books" 194), E P "__firstlineno__" 207 (.int (5) 206), E P "__init__" 214 (.ref 35), E P "__static_attributes__" 220 (.ref 36), E P "__dict__" 222 (.ref 39), E P "__weakref__" 224 (.ref 40), E P "__doc__" 225 .none] 4, #[]⟩) ::
  (nat_lit 38, ⟨(.type "type"), none, .cls { name := "Book", bases := [(.type "object")], mro := [(.ref 38), (.type "object")], ns := 37, qualname := "Book", hasDict := true, slotNames := [], subclasses := [], abstract := false, collection := none, hasDel := false }, #[none, none, (some (.str "Book" 196)), (some (.str "Book" 204)), (some (.builtin "object.__new__")), (some (.bool true))]⟩) ::
  (nat_lit 39, ⟨(.type "getset_descriptor"), none, .fields #[(.str "__dict__" 221), (.ref 38), (.builtin "function.__dict__"), (.builtin "function.__dict__#set")], #[]⟩) ::
  (nat_lit 40, ⟨(.type "getset_descriptor"), none, .fields #[(.str "__weakref__" 223), (.ref 38), (.builtin "ExceptionGroup.__weakref__"), .none], #[]⟩) ::
  (nat_lit 43, ⟨(.type "tuple"), none, .seq #[(.type "ValueError")] 0, #[]⟩) ::
  (nat_lit 50, ⟨(.type "tuple"), none, .seq #[] 0, #[]⟩) ::
  (nat_lit 51, ⟨(.type "dict"), none, .dict #[E P "__module__" 237 (.str "hushrow.errors" 228), E P "__firstlineno__" 241 (.int (14) 240), E P "__static_attributes__" 242 (.ref 50), E P "__weakref__" 244 (.ref 53), E P "__doc__" 245 .none] 3, #[]⟩) ::
  (nat_lit 52, ⟨(.type "type"), none, .cls { name := "HushError", bases := [(.type "ValueError")], mro := [(.ref 52), (.type "ValueError"), (.type "Exception"), (.type "BaseException"), (.type "object")], ns := 51, qualname := "HushError", hasDict := true, slotNames := [], subclasses := [(.ref 72)], abstract := false, collection := none, hasDel := false }, #[(some (.ref 43)), none, (some (.str "HushError" 230)), (some (.str "HushError" 238)), (some (.builtin "ValueError.__new__")), (some (.bool true))]⟩) ::
  (nat_lit 53, ⟨(.type "getset_descriptor"), none, .fields #[(.str "__weakref__" 243), (.ref 52), (.builtin "ExceptionGroup.__weakref__"), .none], #[]⟩) ::
  (nat_lit 56, ⟨(.type "tuple"), none, .seq #[(.ref 52)] 0, #[]⟩) ::
  (nat_lit 63, ⟨(.type "tuple"), none, .seq #[] 0, #[]⟩) ::
  (nat_lit 65, ⟨(.type "tuple"), none, .seq #[(.str "self" 263), (.str "name" 264)] 0, #[]⟩) ::
  (nat_lit 66, ⟨(.type "tuple"), none, .seq #[] 0, #[]⟩) ::
  (nat_lit 68, ⟨(.type "code"), none, .fields #[(.str "__init__" 260), (.str "NoGift.__init__" 261), (.str "/claim/cut.py" 262), (.int (18) 0), (.int (2) 0), (.int (0) 0), (.int (0) 0), (.int (3) 0), (.ref 63), (.bool true), (.int (181) 0), (.ref 64), .none, (.ref 65), (.ref 66), (.ref 67), (.int (265) 0), (.int (18) 0), (.str "/claim/cut.py" 266)], #[]⟩) ::
  (nat_lit 69, ⟨(.type "function"), none, .func (PySem.W.fnOf "__init__" "NoGift.__init__" (defArgs (inClass (top 5) 0)) (defBody (inClass (top 5) 0)) (defScope (inClass (top 5) 0)) .none .none .none (.str "hushrow.errors" 228) none (.ref 68) .none), #[]⟩) ::
  (nat_lit 70, ⟨(.type "tuple"), none, .seq #[(.str "name" 268)] 0, #[]⟩) ::
  (nat_lit 71, ⟨(.type "dict"), none, .dict #[E P "__module__" 255 (.str "hushrow.errors" 228), E P "__firstlineno__" 259 (.int (16) 258), E P "__init__" 267 (.ref 69), E P "__static_attributes__" 269 (.ref 70), E P "__doc__" 270 .none] 2, #[]⟩) ::
  (nat_lit 72, ⟨(.type "type"), none, .cls { name := "NoGift", bases := [(.ref 52)], mro := [(.ref 72), (.ref 52), (.type "ValueError"), (.type "Exception"), (.type "BaseException"), (.type "object")], ns := 71, qualname := "NoGift", hasDict := true, slotNames := [], subclasses := [], abstract := false, collection := none, hasDel := false }, #[(some (.ref 56)), none, (some (.str "NoGift" 248)), (some (.str "NoGift" 256)), (some (.builtin "ValueError.__new__")), (some (.bool true))]⟩) ::
  (nat_lit 82, ⟨(.type "tuple"), none, .seq #[] 0, #[]⟩) ::
  (nat_lit 84, ⟨(.type "tuple"), none, .seq #[(.str "self" 290), (.str "number" 291)] 0, #[]⟩) ::
  (nat_lit 85, ⟨(.type "tuple"), none, .seq #[] 0, #[]⟩) ::
  (nat_lit 87, ⟨(.type "code"), none, .fields #[(.str "__init__" 287), (.str "Row.__init__" 288), (.str "/claim/cut.py" 289), (.int (23) 0), (.int (2) 0), (.int (0) 0), (.int (0) 0), (.int (3) 0), (.ref 82), (.bool true), (.int (181) 0), (.ref 83), .none, (.ref 84), (.ref 85), (.ref 86), (.int (292) 0), (.int (23) 0), (.str "/claim/cut.py" 293)], #[]⟩) ::
  (nat_lit 88, ⟨(.type "function"), none, .func (PySem.W.fnOf "__init__" "Row.__init__" (defArgs (inClass (top 7) 0)) (defBody (inClass (top 7) 0)) (defScope (inClass (top 7) 0)) .none .none .none (.str "hushrow.rows" 273) none (.ref 87) .none), #[]⟩) ::
  (nat_lit 89, ⟨(.type "tuple"), none, .seq #[] 0, #[]⟩) ::
  (nat_lit 91, ⟨(.type "tuple"), none, .seq #[(.str "self" 298)] 0, #[]⟩) ::
  (nat_lit 92, ⟨(.type "tuple"), none, .seq #[] 0, #[]⟩) ::
  (nat_lit 94, ⟨(.type "code"), none, .fields #[(.str "reads" 295), (.str "Row.reads" 296), (.str "/claim/cut.py" 297), (.int (26) 0), (.int (1) 0), (.int (0) 0), (.int (0) 0), (.int (3) 0), (.ref 89), (.bool true), (.int (181) 0), (.ref 90), .none, (.ref 91), (.ref 92), (.ref 93), (.int (299) 0), (.int (26) 0), (.str "/claim/cut.py" 300)], #[]⟩) ::
  (nat_lit 95, ⟨(.type "function"), none, .func (PySem.W.fnOf "reads" "Row.reads" (defArgs (inClass (top 7) 1)) (defBody (inClass (top 7) 1)) (defScope (inClass (top 7) 1)) .none .none .none (.str "hushrow.rows" 273) none (.ref 94) .none), #[]⟩) ::
  (nat_lit 96, ⟨(.type "tuple"), none, .seq #[] 0, #[]⟩) ::
  (nat_lit 98, ⟨(.type "tuple"), none, .seq #[(.str "self" 305)] 0, #[]⟩) ::
  (nat_lit 99, ⟨(.type "tuple"), none, .seq #[] 0, #[]⟩) ::
  (nat_lit 101, ⟨(.type "code"), none, .fields #[(.str "target" 302), (.str "Row.target" 303), (.str "/claim/cut.py" 304), (.int (29) 0), (.int (1) 0), (.int (0) 0), (.int (0) 0), (.int (3) 0), (.ref 96), (.bool true), (.int (181) 0), (.ref 97), .none, (.ref 98), (.ref 99), (.ref 100), (.int (306) 0), (.int (29) 0), (.str "/claim/cut.py" 307)], #[]⟩) ::
  (nat_lit 102, ⟨(.type "function"), none, .func (PySem.W.fnOf "target" "Row.target" (defArgs (inClass (top 7) 2)) (defBody (inClass (top 7) 2)) (defScope (inClass (top 7) 2)) .none .none .none (.str "hushrow.rows" 273) none (.ref 101) .none), #[]⟩) ::
  (nat_lit 103, ⟨(.type "tuple"), none, .seq #[(.str "number" 309)] 0, #[]⟩) ::
  (nat_lit 104, ⟨(.type "dict"), none, .dict #[E P "__module__" 282 (.str "hushrow.rows" 273), E P "__firstlineno__" 286 (.int (21) 285), E P "__init__" 294 (.ref 88), E P "reads" 301 (.ref 95), E P "target" 308 (.ref 102), E P "__static_attributes__" 310 (.ref 103), E P "__dict__" 312 (.ref 106), E P "__weakref__" 314 (.ref 107), E P "__doc__" 315 .none] 4, #[]⟩) ::
  (nat_lit 105, ⟨(.type "type"), none, .cls { name := "Row", bases := [(.type "object")], mro := [(.ref 105), (.type "object")], ns := 104, qualname := "Row", hasDict := true, slotNames := [], subclasses := [(.ref 133), (.ref 159), (.ref 185), (.ref 225), (.ref 265), (.ref 298), (.ref 338), (.ref 371), (.ref 390), (.ref 423), (.ref 456), (.ref 482)], abstract := false, collection := none, hasDel := false }, #[none, none, (some (.str "Row" 275)), (some (.str "Row" 283)), (some (.builtin "object.__new__")), (some (.bool true))]⟩) ::
  (nat_lit 106, ⟨(.type "getset_descriptor"), none, .fields #[(.str "__dict__" 311), (.ref 105), (.builtin "function.__dict__"), (.builtin "function.__dict__#set")], #[]⟩) ::
  (nat_lit 107, ⟨(.type "getset_descriptor"), none, .fields #[(.str "__weakref__" 313), (.ref 105), (.builtin "ExceptionGroup.__weakref__"), .none], #[]⟩) ::
  (nat_lit 110, ⟨(.type "tuple"), none, .seq #[(.ref 105)] 0, #[]⟩) ::
  (nat_lit 117, ⟨(.type "tuple"), none, .seq #[] 0, #[]⟩) ::
  (nat_lit 119, ⟨(.type "tuple"), none, .seq #[(.str "self" 333), (.str "number" 334), (.str "name" 335), (.str "rank" 336)] 0, #[]⟩) ::
  (nat_lit 120, ⟨(.type "tuple"), none, .seq #[] 0, #[]⟩) ::
  (nat_lit 122, ⟨(.type "code"), none, .fields #[(.str "__init__" 330), (.str "HandRow.__init__" 331), (.str "/claim/cut.py" 332), (.int (33) 0), (.int (4) 0), (.int (0) 0), (.int (0) 0), (.int (3) 0), (.ref 117), (.bool true), (.int (181) 0), (.ref 118), .none, (.ref 119), (.ref 120), (.ref 121), (.int (337) 0), (.int (33) 0), (.str "/claim/cut.py" 338)], #[]⟩) ::
  (nat_lit 123, ⟨(.type "function"), none, .func (PySem.W.fnOf "__init__" "HandRow.__init__" (defArgs (inClass (top 8) 0)) (defBody (inClass (top 8) 0)) (defScope (inClass (top 8) 0)) .none .none .none (.str "hushrow.rows" 273) none (.ref 122) .none), #[]⟩) ::
  (nat_lit 124, ⟨(.type "tuple"), none, .seq #[] 0, #[]⟩) ::
  (nat_lit 126, ⟨(.type "tuple"), none, .seq #[(.str "self" 343)] 0, #[]⟩) ::
  (nat_lit 127, ⟨(.type "tuple"), none, .seq #[] 0, #[]⟩) ::
  (nat_lit 129, ⟨(.type "code"), none, .fields #[(.str "shown" 340), (.str "HandRow.shown" 341), (.str "/claim/cut.py" 342), (.int (38) 0), (.int (1) 0), (.int (0) 0), (.int (0) 0), (.int (3) 0), (.ref 124), (.bool true), (.int (181) 0), (.ref 125), .none, (.ref 126), (.ref 127), (.ref 128), (.int (344) 0), (.int (38) 0), (.str "/claim/cut.py" 345)], #[]⟩) ::
  (nat_lit 130, ⟨(.type "function"), none, .func (PySem.W.fnOf "shown" "HandRow.shown" (defArgs (inClass (top 8) 1)) (defBody (inClass (top 8) 1)) (defScope (inClass (top 8) 1)) .none .none .none (.str "hushrow.rows" 273) none (.ref 129) .none), #[]⟩) ::
  (nat_lit 131, ⟨(.type "tuple"), none, .seq #[(.str "name" 347), (.str "rank" 348)] 0, #[]⟩) ::
  (nat_lit 132, ⟨(.type "dict"), none, .dict #[E P "__module__" 325 (.str "hushrow.rows" 273), E P "__firstlineno__" 329 (.int (31) 328), E P "__init__" 339 (.ref 123), E P "shown" 346 (.ref 130), E P "__static_attributes__" 349 (.ref 131), E P "__doc__" 350 .none] 2, #[]⟩) ::
  (nat_lit 133, ⟨(.type "type"), none, .cls { name := "HandRow", bases := [(.ref 105)], mro := [(.ref 133), (.ref 105), (.type "object")], ns := 132, qualname := "HandRow", hasDict := true, slotNames := [], subclasses := [], abstract := false, collection := none, hasDel := false }, #[(some (.ref 110)), none, (some (.str "HandRow" 318)), (some (.str "HandRow" 326)), (some (.builtin "object.__new__")), (some (.bool true))]⟩) ::
  (nat_lit 136, ⟨(.type "tuple"), none, .seq #[(.ref 105)] 0, #[]⟩) ::
  (nat_lit 143, ⟨(.type "tuple"), none, .seq #[] 0, #[]⟩) ::
  (nat_lit 145, ⟨(.type "tuple"), none, .seq #[(.str "self" 368), (.str "number" 369), (.str "name" 370), (.str "rank" 371), (.str "size" 372)] 0, #[]⟩) ::
  (nat_lit 146, ⟨(.type "tuple"), none, .seq #[] 0, #[]⟩) ::
  (nat_lit 148, ⟨(.type "code"), none, .fields #[(.str "__init__" 365), (.str "GivenRow.__init__" 366), (.str "/claim/cut.py" 367), (.int (42) 0), (.int (5) 0), (.int (0) 0), (.int (0) 0), (.int (3) 0), (.ref 143), (.bool true), (.int (181) 0), (.ref 144), .none, (.ref 145), (.ref 146), (.ref 147), (.int (373) 0), (.int (42) 0), (.str "/claim/cut.py" 374)], #[]⟩) ::
  (nat_lit 149, ⟨(.type "function"), none, .func (PySem.W.fnOf "__init__" "GivenRow.__init__" (defArgs (inClass (top 9) 0)) (defBody (inClass (top 9) 0)) (defScope (inClass (top 9) 0)) .none .none .none (.str "hushrow.rows" 273) none (.ref 148) .none), #[]⟩) ::
  (nat_lit 150, ⟨(.type "tuple"), none, .seq #[] 0, #[]⟩) ::
  (nat_lit 152, ⟨(.type "tuple"), none, .seq #[(.str "self" 379)] 0, #[]⟩) ::
  (nat_lit 153, ⟨(.type "tuple"), none, .seq #[] 0, #[]⟩) ::
  (nat_lit 155, ⟨(.type "code"), none, .fields #[(.str "shown" 376), (.str "GivenRow.shown" 377), (.str "/claim/cut.py" 378), (.int (48) 0), (.int (1) 0), (.int (0) 0), (.int (0) 0), (.int (3) 0), (.ref 150), (.bool true), (.int (181) 0), (.ref 151), .none, (.ref 152), (.ref 153), (.ref 154), (.int (380) 0), (.int (48) 0), (.str "/claim/cut.py" 381)], #[]⟩) ::
  (nat_lit 156, ⟨(.type "function"), none, .func (PySem.W.fnOf "shown" "GivenRow.shown" (defArgs (inClass (top 9) 1)) (defBody (inClass (top 9) 1)) (defScope (inClass (top 9) 1)) .none .none .none (.str "hushrow.rows" 273) none (.ref 155) .none), #[]⟩) ::
  (nat_lit 157, ⟨(.type "tuple"), none, .seq #[(.str "name" 383), (.str "rank" 384), (.str "size" 385)] 0, #[]⟩) ::
  (nat_lit 158, ⟨(.type "dict"), none, .dict #[E P "__module__" 360 (.str "hushrow.rows" 273), E P "__firstlineno__" 364 (.int (40) 363), E P "__init__" 375 (.ref 149), E P "shown" 382 (.ref 156), E P "__static_attributes__" 386 (.ref 157), E P "__doc__" 387 .none] 2, #[]⟩) ::
  (nat_lit 159, ⟨(.type "type"), none, .cls { name := "GivenRow", bases := [(.ref 105)], mro := [(.ref 159), (.ref 105), (.type "object")], ns := 158, qualname := "GivenRow", hasDict := true, slotNames := [], subclasses := [], abstract := false, collection := none, hasDel := false }, #[(some (.ref 136)), none, (some (.str "GivenRow" 353)), (some (.str "GivenRow" 361)), (some (.builtin "object.__new__")), (some (.bool true))]⟩) ::
  (nat_lit 162, ⟨(.type "tuple"), none, .seq #[(.ref 105)] 0, #[]⟩) ::
  (nat_lit 169, ⟨(.type "tuple"), none, .seq #[] 0, #[]⟩) ::
  (nat_lit 171, ⟨(.type "tuple"), none, .seq #[(.str "self" 405), (.str "number" 406), (.str "name" 407), (.str "size" 408)] 0, #[]⟩) ::
  (nat_lit 172, ⟨(.type "tuple"), none, .seq #[] 0, #[]⟩) ::
  (nat_lit 174, ⟨(.type "code"), none, .fields #[(.str "__init__" 402), (.str "OwnRow.__init__" 403), (.str "/claim/cut.py" 404), (.int (52) 0), (.int (4) 0), (.int (0) 0), (.int (0) 0), (.int (3) 0), (.ref 169), (.bool true), (.int (181) 0), (.ref 170), .none, (.ref 171), (.ref 172), (.ref 173), (.int (409) 0), (.int (52) 0), (.str "/claim/cut.py" 410)], #[]⟩) ::
  (nat_lit 175, ⟨(.type "function"), none, .func (PySem.W.fnOf "__init__" "OwnRow.__init__" (defArgs (inClass (top 10) 0)) (defBody (inClass (top 10) 0)) (defScope (inClass (top 10) 0)) .none .none .none (.str "hushrow.rows" 273) none (.ref 174) .none), #[]⟩) ::
  (nat_lit 176, ⟨(.type "tuple"), none, .seq #[] 0, #[]⟩) ::
  (nat_lit 178, ⟨(.type "tuple"), none, .seq #[(.str "self" 415)] 0, #[]⟩) ::
  (nat_lit 179, ⟨(.type "tuple"), none, .seq #[] 0, #[]⟩) ::
  (nat_lit 181, ⟨(.type "code"), none, .fields #[(.str "shown" 412), (.str "OwnRow.shown" 413), (.str "/claim/cut.py" 414), (.int (57) 0), (.int (1) 0), (.int (0) 0), (.int (0) 0), (.int (3) 0), (.ref 176), (.bool true), (.int (181) 0), (.ref 177), .none, (.ref 178), (.ref 179), (.ref 180), (.int (416) 0), (.int (57) 0), (.str "/claim/cut.py" 417)], #[]⟩) ::
  (nat_lit 182, ⟨(.type "function"), none, .func (PySem.W.fnOf "shown" "OwnRow.shown" (defArgs (inClass (top 10) 1)) (defBody (inClass (top 10) 1)) (defScope (inClass (top 10) 1)) .none .none .none (.str "hushrow.rows" 273) none (.ref 181) .none), #[]⟩) ::
  (nat_lit 183, ⟨(.type "tuple"), none, .seq #[(.str "name" 419), (.str "size" 420)] 0, #[]⟩) ::
  (nat_lit 184, ⟨(.type "dict"), none, .dict #[E P "__module__" 397 (.str "hushrow.rows" 273), E P "__firstlineno__" 401 (.int (50) 400), E P "__init__" 411 (.ref 175), E P "shown" 418 (.ref 182), E P "__static_attributes__" 421 (.ref 183), E P "__doc__" 422 .none] 2, #[]⟩) ::
  (nat_lit 185, ⟨(.type "type"), none, .cls { name := "OwnRow", bases := [(.ref 105)], mro := [(.ref 185), (.ref 105), (.type "object")], ns := 184, qualname := "OwnRow", hasDict := true, slotNames := [], subclasses := [], abstract := false, collection := none, hasDel := false }, #[(some (.ref 162)), none, (some (.str "OwnRow" 390)), (some (.str "OwnRow" 398)), (some (.builtin "object.__new__")), (some (.bool true))]⟩) ::
  (nat_lit 188, ⟨(.type "tuple"), none, .seq #[(.ref 105)] 0, #[]⟩) ::
  (nat_lit 195, ⟨(.type "tuple"), none, .seq #[] 0, #[]⟩) ::
  (nat_lit 197, ⟨(.type "tuple"), none, .seq #[(.str "self" 440), (.str "number" 441), (.str "name" 442), (.str "value" 443)] 0, #[]⟩) ::
  (nat_lit 198, ⟨(.type "tuple"), none, .seq #[] 0, #[]⟩) ::
  (nat_lit 200, ⟨(.type "code"), none, .fields #[(.str "__init__" 437), (.str "SetRow.__init__" 438), (.str "/claim/cut.py" 439), (.int (61) 0), (.int (4) 0), (.int (0) 0), (.int (0) 0), (.int (3) 0), (.ref 195), (.bool true), (.int (181) 0), (.ref 196), .none, (.ref 197), (.ref 198), (.ref 199), (.int (444) 0), (.int (61) 0), (.str "/claim/cut.py" 445)], #[]⟩) ::
  (nat_lit 201, ⟨(.type "function"), none, .func (PySem.W.fnOf "__init__" "SetRow.__init__" (defArgs (inClass (top 11) 0)) (defBody (inClass (top 11) 0)) (defScope (inClass (top 11) 0)) .none .none .none (.str "hushrow.rows" 273) none (.ref 200) .none), #[]⟩) ::
  (nat_lit 202, ⟨(.type "tuple"), none, .seq #[] 0, #[]⟩) ::
  (nat_lit 204, ⟨(.type "tuple"), none, .seq #[(.str "self" 450)] 0, #[]⟩) ::
  (nat_lit 205, ⟨(.type "tuple"), none, .seq #[] 0, #[]⟩) ::
  (nat_lit 207, ⟨(.type "code"), none, .fields #[(.str "shown" 447), (.str "SetRow.shown" 448), (.str "/claim/cut.py" 449), (.int (66) 0), (.int (1) 0), (.int (0) 0), (.int (0) 0), (.int (3) 0), (.ref 202), (.bool true), (.int (181) 0), (.ref 203), .none, (.ref 204), (.ref 205), (.ref 206), (.int (451) 0), (.int (66) 0), (.str "/claim/cut.py" 452)], #[]⟩) ::
  (nat_lit 208, ⟨(.type "function"), none, .func (PySem.W.fnOf "shown" "SetRow.shown" (defArgs (inClass (top 11) 1)) (defBody (inClass (top 11) 1)) (defScope (inClass (top 11) 1)) .none .none .none (.str "hushrow.rows" 273) none (.ref 207) .none), #[]⟩) ::
  (nat_lit 209, ⟨(.type "tuple"), none, .seq #[] 0, #[]⟩) ::
  (nat_lit 211, ⟨(.type "tuple"), none, .seq #[(.str "self" 457)] 0, #[]⟩) ::
  (nat_lit 212, ⟨(.type "tuple"), none, .seq #[] 0, #[]⟩) ::
  (nat_lit 214, ⟨(.type "code"), none, .fields #[(.str "reads" 454), (.str "SetRow.reads" 455), (.str "/claim/cut.py" 456), (.int (69) 0), (.int (1) 0), (.int (0) 0), (.int (0) 0), (.int (3) 0), (.ref 209), (.bool true), (.int (181) 0), (.ref 210), .none, (.ref 211), (.ref 212), (.ref 213), (.int (458) 0), (.int (69) 0), (.str "/claim/cut.py" 459)], #[]⟩) ::
  (nat_lit 215, ⟨(.type "function"), none, .func (PySem.W.fnOf "reads" "SetRow.reads" (defArgs (inClass (top 11) 2)) (defBody (inClass (top 11) 2)) (defScope (inClass (top 11) 2)) .none .none .none (.str "hushrow.rows" 273) none (.ref 214) .none), #[]⟩) ::
  (nat_lit 216, ⟨(.type "tuple"), none, .seq #[] 0, #[]⟩) ::
  (nat_lit 218, ⟨(.type "tuple"), none, .seq #[(.str "self" 464)] 0, #[]⟩) ::
  (nat_lit 219, ⟨(.type "tuple"), none, .seq #[] 0, #[]⟩) ::
  (nat_lit 221, ⟨(.type "code"), none, .fields #[(.str "target" 461), (.str "SetRow.target" 462), (.str "/claim/cut.py" 463), (.int (72) 0), (.int (1) 0), (.int (0) 0), (.int (0) 0), (.int (3) 0), (.ref 216), (.bool true), (.int (181) 0), (.ref 217), .none, (.ref 218), (.ref 219), (.ref 220), (.int (465) 0), (.int (72) 0), (.str "/claim/cut.py" 466)], #[]⟩) ::
  (nat_lit 222, ⟨(.type "function"), none, .func (PySem.W.fnOf "target" "SetRow.target" (defArgs (inClass (top 11) 3)) (defBody (inClass (top 11) 3)) (defScope (inClass (top 11) 3)) .none .none .none (.str "hushrow.rows" 273) none (.ref 221) .none), #[]⟩) ::
  (nat_lit 223, ⟨(.type "tuple"), none, .seq #[(.str "name" 468), (.str "value" 469)] 0, #[]⟩) ::
  (nat_lit 224, ⟨(.type "dict"), none, .dict #[E P "__module__" 432 (.str "hushrow.rows" 273), E P "__firstlineno__" 436 (.int (59) 435), E P "__init__" 446 (.ref 201), E P "shown" 453 (.ref 208), E P "reads" 460 (.ref 215), E P "target" 467 (.ref 222), E P "__static_attributes__" 470 (.ref 223), E P "__doc__" 471 .none] 2, #[]⟩) ::
  (nat_lit 225, ⟨(.type "type"), none, .cls { name := "SetRow", bases := [(.ref 105)], mro := [(.ref 225), (.ref 105), (.type "object")], ns := 224, qualname := "SetRow", hasDict := true, slotNames := [], subclasses := [], abstract := false, collection := none, hasDel := false }, #[(some (.ref 188)), none, (some (.str "SetRow" 425)), (some (.str "SetRow" 433)), (some (.builtin "object.__new__")), (some (.bool true))]⟩) ::
  (nat_lit 228, ⟨(.type "tuple"), none, .seq #[(.ref 105)] 0, #[]⟩) ::
  (nat_lit 235, ⟨(.type "tuple"), none, .seq #[] 0, #[]⟩) ::
  (nat_lit 237, ⟨(.type "tuple"), none, .seq #[(.str "self" 489), (.str "number" 490), (.str "name" 491), (.str "place" 492), (.str "value" 493)] 0, #[]⟩) ::
  (nat_lit 238, ⟨(.type "tuple"), none, .seq #[] 0, #[]⟩) ::
  (nat_lit 240, ⟨(.type "code"), none, .fields #[(.str "__init__" 486), (.str "PutRow.__init__" 487), (.str "/claim/cut.py" 488), (.int (76) 0), (.int (5) 0), (.int (0) 0), (.int (0) 0), (.int (3) 0), (.ref 235), (.bool true), (.int (181) 0), (.ref 236), .none, (.ref 237), (.ref 238), (.ref 239), (.int (494) 0), (.int (76) 0), (.str "/claim/cut.py" 495)], #[]⟩) ::
  (nat_lit 241, ⟨(.type "function"), none, .func (PySem.W.fnOf "__init__" "PutRow.__init__" (defArgs (inClass (top 12) 0)) (defBody (inClass (top 12) 0)) (defScope (inClass (top 12) 0)) .none .none .none (.str "hushrow.rows" 273) none (.ref 240) .none), #[]⟩) ::
  (nat_lit 242, ⟨(.type "tuple"), none, .seq #[] 0, #[]⟩) ::
  (nat_lit 244, ⟨(.type "tuple"), none, .seq #[(.str "self" 500)] 0, #[]⟩) ::
  (nat_lit 245, ⟨(.type "tuple"), none, .seq #[] 0, #[]⟩) ::
  (nat_lit 247, ⟨(.type "code"), none, .fields #[(.str "shown" 497), (.str "PutRow.shown" 498), (.str "/claim/cut.py" 499), (.int (82) 0), (.int (1) 0), (.int (0) 0), (.int (0) 0), (.int (3) 0), (.ref 242), (.bool true), (.int (181) 0), (.ref 243), .none, (.ref 244), (.ref 245), (.ref 246), (.int (501) 0), (.int (82) 0), (.str "/claim/cut.py" 502)], #[]⟩) ::
  (nat_lit 248, ⟨(.type "function"), none, .func (PySem.W.fnOf "shown" "PutRow.shown" (defArgs (inClass (top 12) 1)) (defBody (inClass (top 12) 1)) (defScope (inClass (top 12) 1)) .none .none .none (.str "hushrow.rows" 273) none (.ref 247) .none), #[]⟩) ::
  (nat_lit 249, ⟨(.type "tuple"), none, .seq #[] 0, #[]⟩) ::
  (nat_lit 251, ⟨(.type "tuple"), none, .seq #[(.str "self" 507)] 0, #[]⟩) ::
  (nat_lit 252, ⟨(.type "tuple"), none, .seq #[] 0, #[]⟩) ::
  (nat_lit 254, ⟨(.type "code"), none, .fields #[(.str "reads" 504), (.str "PutRow.reads" 505), (.str "/claim/cut.py" 506), (.int (85) 0), (.int (1) 0), (.int (0) 0), (.int (0) 0), (.int (3) 0), (.ref 249), (.bool true), (.int (181) 0), (.ref 250), .none, (.ref 251), (.ref 252), (.ref 253), (.int (508) 0), (.int (85) 0), (.str "/claim/cut.py" 509)], #[]⟩) ::
  (nat_lit 255, ⟨(.type "function"), none, .func (PySem.W.fnOf "reads" "PutRow.reads" (defArgs (inClass (top 12) 2)) (defBody (inClass (top 12) 2)) (defScope (inClass (top 12) 2)) .none .none .none (.str "hushrow.rows" 273) none (.ref 254) .none), #[]⟩) ::
  (nat_lit 256, ⟨(.type "tuple"), none, .seq #[] 0, #[]⟩) ::
  (nat_lit 258, ⟨(.type "tuple"), none, .seq #[(.str "self" 514)] 0, #[]⟩) ::
  (nat_lit 259, ⟨(.type "tuple"), none, .seq #[] 0, #[]⟩) ::
  (nat_lit 261, ⟨(.type "code"), none, .fields #[(.str "target" 511), (.str "PutRow.target" 512), (.str "/claim/cut.py" 513), (.int (88) 0), (.int (1) 0), (.int (0) 0), (.int (0) 0), (.int (3) 0), (.ref 256), (.bool true), (.int (181) 0), (.ref 257), .none, (.ref 258), (.ref 259), (.ref 260), (.int (515) 0), (.int (88) 0), (.str "/claim/cut.py" 516)], #[]⟩) ::
  (nat_lit 262, ⟨(.type "function"), none, .func (PySem.W.fnOf "target" "PutRow.target" (defArgs (inClass (top 12) 3)) (defBody (inClass (top 12) 3)) (defScope (inClass (top 12) 3)) .none .none .none (.str "hushrow.rows" 273) none (.ref 261) .none), #[]⟩) ::
  (nat_lit 263, ⟨(.type "tuple"), none, .seq #[(.str "name" 518), (.str "place" 519), (.str "value" 520)] 0, #[]⟩) ::
  (nat_lit 264, ⟨(.type "dict"), none, .dict #[E P "__module__" 481 (.str "hushrow.rows" 273), E P "__firstlineno__" 485 (.int (74) 484), E P "__init__" 496 (.ref 241), E P "shown" 503 (.ref 248), E P "reads" 510 (.ref 255), E P "target" 517 (.ref 262), E P "__static_attributes__" 521 (.ref 263), E P "__doc__" 522 .none] 2, #[]⟩) ::
  (nat_lit 265, ⟨(.type "type"), none, .cls { name := "PutRow", bases := [(.ref 105)], mro := [(.ref 265), (.ref 105), (.type "object")], ns := 264, qualname := "PutRow", hasDict := true, slotNames := [], subclasses := [], abstract := false, collection := none, hasDel := false }, #[(some (.ref 228)), none, (some (.str "PutRow" 474)), (some (.str "PutRow" 482)), (some (.builtin "object.__new__")), (some (.bool true))]⟩) ::
  (nat_lit 268, ⟨(.type "tuple"), none, .seq #[(.ref 105)] 0, #[]⟩) ::
  (nat_lit 275, ⟨(.type "tuple"), none, .seq #[] 0, #[]⟩) ::
  (nat_lit 277, ⟨(.type "tuple"), none, .seq #[(.str "self" 540), (.str "number" 541), (.str "name" 542), (.str "value" 543)] 0, #[]⟩) ::
  (nat_lit 278, ⟨(.type "tuple"), none, .seq #[] 0, #[]⟩) ::
  (nat_lit 280, ⟨(.type "code"), none, .fields #[(.str "__init__" 537), (.str "SendRow.__init__" 538), (.str "/claim/cut.py" 539), (.int (92) 0), (.int (4) 0), (.int (0) 0), (.int (0) 0), (.int (3) 0), (.ref 275), (.bool true), (.int (181) 0), (.ref 276), .none, (.ref 277), (.ref 278), (.ref 279), (.int (544) 0), (.int (92) 0), (.str "/claim/cut.py" 545)], #[]⟩) ::
  (nat_lit 281, ⟨(.type "function"), none, .func (PySem.W.fnOf "__init__" "SendRow.__init__" (defArgs (inClass (top 13) 0)) (defBody (inClass (top 13) 0)) (defScope (inClass (top 13) 0)) .none .none .none (.str "hushrow.rows" 273) none (.ref 280) .none), #[]⟩) ::
  (nat_lit 282, ⟨(.type "tuple"), none, .seq #[] 0, #[]⟩) ::
  (nat_lit 284, ⟨(.type "tuple"), none, .seq #[(.str "self" 550)] 0, #[]⟩) ::
  (nat_lit 285, ⟨(.type "tuple"), none, .seq #[] 0, #[]⟩) ::
  (nat_lit 287, ⟨(.type "code"), none, .fields #[(.str "shown" 547), (.str "SendRow.shown" 548), (.str "/claim/cut.py" 549), (.int (97) 0), (.int (1) 0), (.int (0) 0), (.int (0) 0), (.int (3) 0), (.ref 282), (.bool true), (.int (181) 0), (.ref 283), .none, (.ref 284), (.ref 285), (.ref 286), (.int (551) 0), (.int (97) 0), (.str "/claim/cut.py" 552)], #[]⟩) ::
  (nat_lit 288, ⟨(.type "function"), none, .func (PySem.W.fnOf "shown" "SendRow.shown" (defArgs (inClass (top 13) 1)) (defBody (inClass (top 13) 1)) (defScope (inClass (top 13) 1)) .none .none .none (.str "hushrow.rows" 273) none (.ref 287) .none), #[]⟩) ::
  (nat_lit 289, ⟨(.type "tuple"), none, .seq #[] 0, #[]⟩) ::
  (nat_lit 291, ⟨(.type "tuple"), none, .seq #[(.str "self" 557)] 0, #[]⟩) ::
  (nat_lit 292, ⟨(.type "tuple"), none, .seq #[] 0, #[]⟩) ::
  (nat_lit 294, ⟨(.type "code"), none, .fields #[(.str "reads" 554), (.str "SendRow.reads" 555), (.str "/claim/cut.py" 556), (.int (100) 0), (.int (1) 0), (.int (0) 0), (.int (0) 0), (.int (3) 0), (.ref 289), (.bool true), (.int (181) 0), (.ref 290), .none, (.ref 291), (.ref 292), (.ref 293), (.int (558) 0), (.int (100) 0), (.str "/claim/cut.py" 559)], #[]⟩) ::
  (nat_lit 295, ⟨(.type "function"), none, .func (PySem.W.fnOf "reads" "SendRow.reads" (defArgs (inClass (top 13) 2)) (defBody (inClass (top 13) 2)) (defScope (inClass (top 13) 2)) .none .none .none (.str "hushrow.rows" 273) none (.ref 294) .none), #[]⟩) ::
  (nat_lit 296, ⟨(.type "tuple"), none, .seq #[(.str "name" 561), (.str "value" 562)] 0, #[]⟩) ::
  (nat_lit 297, ⟨(.type "dict"), none, .dict #[E P "__module__" 532 (.str "hushrow.rows" 273), E P "__firstlineno__" 536 (.int (90) 535), E P "__init__" 546 (.ref 281), E P "shown" 553 (.ref 288), E P "reads" 560 (.ref 295), E P "__static_attributes__" 563 (.ref 296), E P "__doc__" 564 .none] 2, #[]⟩) ::
  (nat_lit 298, ⟨(.type "type"), none, .cls { name := "SendRow", bases := [(.ref 105)], mro := [(.ref 298), (.ref 105), (.type "object")], ns := 297, qualname := "SendRow", hasDict := true, slotNames := [], subclasses := [], abstract := false, collection := none, hasDel := false }, #[(some (.ref 268)), none, (some (.str "SendRow" 525)), (some (.str "SendRow" 533)), (some (.builtin "object.__new__")), (some (.bool true))]⟩) ::
  (nat_lit 301, ⟨(.type "tuple"), none, .seq #[(.ref 105)] 0, #[]⟩) ::
  (nat_lit 308, ⟨(.type "tuple"), none, .seq #[] 0, #[]⟩) ::
  (nat_lit 310, ⟨(.type "tuple"), none, .seq #[(.str "self" 582), (.str "number" 583), (.str "name" 584), (.str "value" 585), (.str "mark" 586)] 0, #[]⟩) ::
  (nat_lit 311, ⟨(.type "tuple"), none, .seq #[] 0, #[]⟩) ::
  (nat_lit 313, ⟨(.type "code"), none, .fields #[(.str "__init__" 579), (.str "SayRow.__init__" 580), (.str "/claim/cut.py" 581), (.int (104) 0), (.int (5) 0), (.int (0) 0), (.int (0) 0), (.int (3) 0), (.ref 308), (.bool true), (.int (181) 0), (.ref 309), .none, (.ref 310), (.ref 311), (.ref 312), (.int (587) 0), (.int (104) 0), (.str "/claim/cut.py" 588)], #[]⟩) ::
  (nat_lit 314, ⟨(.type "function"), none, .func (PySem.W.fnOf "__init__" "SayRow.__init__" (defArgs (inClass (top 14) 0)) (defBody (inClass (top 14) 0)) (defScope (inClass (top 14) 0)) .none .none .none (.str "hushrow.rows" 273) none (.ref 313) .none), #[]⟩) ::
  (nat_lit 315, ⟨(.type "tuple"), none, .seq #[] 0, #[]⟩) ::
  (nat_lit 317, ⟨(.type "tuple"), none, .seq #[(.str "self" 593)] 0, #[]⟩) ::
  (nat_lit 318, ⟨(.type "tuple"), none, .seq #[] 0, #[]⟩) ::
  (nat_lit 320, ⟨(.type "code"), none, .fields #[(.str "shown" 590), (.str "SayRow.shown" 591), (.str "/claim/cut.py" 592), (.int (110) 0), (.int (1) 0), (.int (0) 0), (.int (0) 0), (.int (3) 0), (.ref 315), (.bool true), (.int (181) 0), (.ref 316), .none, (.ref 317), (.ref 318), (.ref 319), (.int (594) 0), (.int (110) 0), (.str "/claim/cut.py" 595)], #[]⟩) ::
  (nat_lit 321, ⟨(.type "function"), none, .func (PySem.W.fnOf "shown" "SayRow.shown" (defArgs (inClass (top 14) 1)) (defBody (inClass (top 14) 1)) (defScope (inClass (top 14) 1)) .none .none .none (.str "hushrow.rows" 273) none (.ref 320) .none), #[]⟩) ::
  (nat_lit 322, ⟨(.type "tuple"), none, .seq #[] 0, #[]⟩) ::
  (nat_lit 324, ⟨(.type "tuple"), none, .seq #[(.str "self" 600)] 0, #[]⟩) ::
  (nat_lit 325, ⟨(.type "tuple"), none, .seq #[] 0, #[]⟩) ::
  (nat_lit 327, ⟨(.type "code"), none, .fields #[(.str "reads" 597), (.str "SayRow.reads" 598), (.str "/claim/cut.py" 599), (.int (113) 0), (.int (1) 0), (.int (0) 0), (.int (0) 0), (.int (3) 0), (.ref 322), (.bool true), (.int (181) 0), (.ref 323), .none, (.ref 324), (.ref 325), (.ref 326), (.int (601) 0), (.int (113) 0), (.str "/claim/cut.py" 602)], #[]⟩) ::
  (nat_lit 328, ⟨(.type "function"), none, .func (PySem.W.fnOf "reads" "SayRow.reads" (defArgs (inClass (top 14) 2)) (defBody (inClass (top 14) 2)) (defScope (inClass (top 14) 2)) .none .none .none (.str "hushrow.rows" 273) none (.ref 327) .none), #[]⟩) ::
  (nat_lit 329, ⟨(.type "tuple"), none, .seq #[] 0, #[]⟩) ::
  (nat_lit 331, ⟨(.type "tuple"), none, .seq #[(.str "self" 607)] 0, #[]⟩) ::
  (nat_lit 332, ⟨(.type "tuple"), none, .seq #[] 0, #[]⟩) ::
  (nat_lit 334, ⟨(.type "code"), none, .fields #[(.str "target" 604), (.str "SayRow.target" 605), (.str "/claim/cut.py" 606), (.int (116) 0), (.int (1) 0), (.int (0) 0), (.int (0) 0), (.int (3) 0), (.ref 329), (.bool true), (.int (181) 0), (.ref 330), .none, (.ref 331), (.ref 332), (.ref 333), (.int (608) 0), (.int (116) 0), (.str "/claim/cut.py" 609)], #[]⟩) ::
  (nat_lit 335, ⟨(.type "function"), none, .func (PySem.W.fnOf "target" "SayRow.target" (defArgs (inClass (top 14) 3)) (defBody (inClass (top 14) 3)) (defScope (inClass (top 14) 3)) .none .none .none (.str "hushrow.rows" 273) none (.ref 334) .none), #[]⟩) ::
  (nat_lit 336, ⟨(.type "tuple"), none, .seq #[(.str "mark" 611), (.str "name" 612), (.str "value" 613)] 0, #[]⟩) ::
  (nat_lit 337, ⟨(.type "dict"), none, .dict #[E P "__module__" 574 (.str "hushrow.rows" 273), E P "__firstlineno__" 578 (.int (102) 577), E P "__init__" 589 (.ref 314), E P "shown" 596 (.ref 321), E P "reads" 603 (.ref 328), E P "target" 610 (.ref 335), E P "__static_attributes__" 614 (.ref 336), E P "__doc__" 615 .none] 2, #[]⟩) ::
  (nat_lit 338, ⟨(.type "type"), none, .cls { name := "SayRow", bases := [(.ref 105)], mro := [(.ref 338), (.ref 105), (.type "object")], ns := 337, qualname := "SayRow", hasDict := true, slotNames := [], subclasses := [], abstract := false, collection := none, hasDel := false }, #[(some (.ref 301)), none, (some (.str "SayRow" 567)), (some (.str "SayRow" 575)), (some (.builtin "object.__new__")), (some (.bool true))]⟩) ::
  (nat_lit 341, ⟨(.type "tuple"), none, .seq #[(.ref 105)] 0, #[]⟩) ::
  (nat_lit 348, ⟨(.type "tuple"), none, .seq #[] 0, #[]⟩) ::
  (nat_lit 350, ⟨(.type "tuple"), none, .seq #[(.str "self" 633), (.str "number" 634), (.str "name" 635), (.str "things" 636)] 0, #[]⟩) ::
  (nat_lit 351, ⟨(.type "tuple"), none, .seq #[] 0, #[]⟩) ::
  (nat_lit 353, ⟨(.type "code"), none, .fields #[(.str "__init__" 630), (.str "CallRow.__init__" 631), (.str "/claim/cut.py" 632), (.int (120) 0), (.int (4) 0), (.int (0) 0), (.int (0) 0), (.int (3) 0), (.ref 348), (.bool true), (.int (181) 0), (.ref 349), .none, (.ref 350), (.ref 351), (.ref 352), (.int (637) 0), (.int (120) 0), (.str "/claim/cut.py" 638)], #[]⟩) ::
  (nat_lit 354, ⟨(.type "function"), none, .func (PySem.W.fnOf "__init__" "CallRow.__init__" (defArgs (inClass (top 15) 0)) (defBody (inClass (top 15) 0)) (defScope (inClass (top 15) 0)) .none .none .none (.str "hushrow.rows" 273) none (.ref 353) .none), #[]⟩) ::
  (nat_lit 355, ⟨(.type "tuple"), none, .seq #[] 0, #[]⟩) ::
  (nat_lit 357, ⟨(.type "tuple"), none, .seq #[(.str "self" 643)] 0, #[]⟩) ::
  (nat_lit 358, ⟨(.type "tuple"), none, .seq #[] 0, #[]⟩) ::
  (nat_lit 360, ⟨(.type "code"), none, .fields #[(.str "shown" 640), (.str "CallRow.shown" 641), (.str "/claim/cut.py" 642), (.int (125) 0), (.int (1) 0), (.int (0) 0), (.int (0) 0), (.int (3) 0), (.ref 355), (.bool true), (.int (181) 0), (.ref 356), .none, (.ref 357), (.ref 358), (.ref 359), (.int (644) 0), (.int (125) 0), (.str "/claim/cut.py" 645)], #[]⟩) ::
  (nat_lit 361, ⟨(.type "function"), none, .func (PySem.W.fnOf "shown" "CallRow.shown" (defArgs (inClass (top 15) 1)) (defBody (inClass (top 15) 1)) (defScope (inClass (top 15) 1)) .none .none .none (.str "hushrow.rows" 273) none (.ref 360) .none), #[]⟩) ::
  (nat_lit 362, ⟨(.type "tuple"), none, .seq #[] 0, #[]⟩) ::
  (nat_lit 364, ⟨(.type "tuple"), none, .seq #[(.str "self" 650)] 0, #[]⟩) ::
  (nat_lit 365, ⟨(.type "tuple"), none, .seq #[] 0, #[]⟩) ::
  (nat_lit 367, ⟨(.type "code"), none, .fields #[(.str "reads" 647), (.str "CallRow.reads" 648), (.str "/claim/cut.py" 649), (.int (128) 0), (.int (1) 0), (.int (0) 0), (.int (0) 0), (.int (3) 0), (.ref 362), (.bool true), (.int (181) 0), (.ref 363), .none, (.ref 364), (.ref 365), (.ref 366), (.int (651) 0), (.int (128) 0), (.str "/claim/cut.py" 652)], #[]⟩) ::
  (nat_lit 368, ⟨(.type "function"), none, .func (PySem.W.fnOf "reads" "CallRow.reads" (defArgs (inClass (top 15) 2)) (defBody (inClass (top 15) 2)) (defScope (inClass (top 15) 2)) .none .none .none (.str "hushrow.rows" 273) none (.ref 367) .none), #[]⟩) ::
  (nat_lit 369, ⟨(.type "tuple"), none, .seq #[(.str "name" 654), (.str "things" 655)] 0, #[]⟩) ::
  (nat_lit 370, ⟨(.type "dict"), none, .dict #[E P "__module__" 625 (.str "hushrow.rows" 273), E P "__firstlineno__" 629 (.int (118) 628), E P "__init__" 639 (.ref 354), E P "shown" 646 (.ref 361), E P "reads" 653 (.ref 368), E P "__static_attributes__" 656 (.ref 369), E P "__doc__" 657 .none] 2, #[]⟩) ::
  (nat_lit 371, ⟨(.type "type"), none, .cls { name := "CallRow", bases := [(.ref 105)], mro := [(.ref 371), (.ref 105), (.type "object")], ns := 370, qualname := "CallRow", hasDict := true, slotNames := [], subclasses := [], abstract := false, collection := none, hasDel := false }, #[(some (.ref 341)), none, (some (.str "CallRow" 618)), (some (.str "CallRow" 626)), (some (.builtin "object.__new__")), (some (.bool true))]⟩) ::
  (nat_lit 374, ⟨(.type "tuple"), none, .seq #[(.ref 105)] 0, #[]⟩) ::
  (nat_lit 381, ⟨(.type "tuple"), none, .seq #[] 0, #[]⟩) ::
  (nat_lit 383, ⟨(.type "tuple"), none, .seq #[(.str "self" 675)] 0, #[]⟩) ::
  (nat_lit 384, ⟨(.type "tuple"), none, .seq #[] 0, #[]⟩) ::
  (nat_lit 386, ⟨(.type "code"), none, .fields #[(.str "shown" 672), (.str "LastRow.shown" 673), (.str "/claim/cut.py" 674), (.int (132) 0), (.int (1) 0), (.int (0) 0), (.int (0) 0), (.int (3) 0), (.ref 381), (.bool true), (.int (181) 0), (.ref 382), .none, (.ref 383), (.ref 384), (.ref 385), (.int (676) 0), (.int (132) 0), (.str "/claim/cut.py" 677)], #[]⟩) ::
  (nat_lit 387, ⟨(.type "function"), none, .func (PySem.W.fnOf "shown" "LastRow.shown" (defArgs (inClass (top 16) 0)) (defBody (inClass (top 16) 0)) (defScope (inClass (top 16) 0)) .none .none .none (.str "hushrow.rows" 273) none (.ref 386) .none), #[]⟩) ::
  (nat_lit 388, ⟨(.type "tuple"), none, .seq #[] 0, #[]⟩) ::
  (nat_lit 389, ⟨(.type "dict"), none, .dict #[E P "__module__" 667 (.str "hushrow.rows" 273), E P "__firstlineno__" 671 (.int (130) 670), E P "shown" 678 (.ref 387), E P "__static_attributes__" 679 (.ref 388), E P "__doc__" 680 .none] 2, #[]⟩) ::
  (nat_lit 390, ⟨(.type "type"), none, .cls { name := "LastRow", bases := [(.ref 105)], mro := [(.ref 390), (.ref 105), (.type "object")], ns := 389, qualname := "LastRow", hasDict := true, slotNames := [], subclasses := [], abstract := false, collection := none, hasDel := false }, #[(some (.ref 374)), none, (some (.str "LastRow" 660)), (some (.str "LastRow" 668)), (some (.builtin "object.__new__")), (some (.bool true))]⟩) ::
  (nat_lit 393, ⟨(.type "tuple"), none, .seq #[(.ref 105)] 0, #[]⟩) ::
  (nat_lit 400, ⟨(.type "tuple"), none, .seq #[] 0, #[]⟩) ::
  (nat_lit 402, ⟨(.type "tuple"), none, .seq #[(.str "self" 698), (.str "number" 699), (.str "value" 700), (.str "first" 701), (.str "other" 702), (.str "left" 703), (.str "right" 704)] 0, #[]⟩) ::
  (nat_lit 403, ⟨(.type "tuple"), none, .seq #[] 0, #[]⟩) ::
  (nat_lit 405, ⟨(.type "code"), none, .fields #[(.str "__init__" 695), (.str "IfRow.__init__" 696), (.str "/claim/cut.py" 697), (.int (136) 0), (.int (7) 0), (.int (0) 0), (.int (0) 0), (.int (3) 0), (.ref 400), (.bool true), (.int (181) 0), (.ref 401), .none, (.ref 402), (.ref 403), (.ref 404), (.int (705) 0), (.int (136) 0), (.str "/claim/cut.py" 706)], #[]⟩) ::
  (nat_lit 406, ⟨(.type "function"), none, .func (PySem.W.fnOf "__init__" "IfRow.__init__" (defArgs (inClass (top 17) 0)) (defBody (inClass (top 17) 0)) (defScope (inClass (top 17) 0)) .none .none .none (.str "hushrow.rows" 273) none (.ref 405) .none), #[]⟩) ::
  (nat_lit 407, ⟨(.type "tuple"), none, .seq #[] 0, #[]⟩) ::
  (nat_lit 409, ⟨(.type "tuple"), none, .seq #[(.str "self" 711)] 0, #[]⟩) ::
  (nat_lit 410, ⟨(.type "tuple"), none, .seq #[] 0, #[]⟩) ::
  (nat_lit 412, ⟨(.type "code"), none, .fields #[(.str "shown" 708), (.str "IfRow.shown" 709), (.str "/claim/cut.py" 710), (.int (144) 0), (.int (1) 0), (.int (0) 0), (.int (0) 0), (.int (3) 0), (.ref 407), (.bool true), (.int (181) 0), (.ref 408), .none, (.ref 409), (.ref 410), (.ref 411), (.int (712) 0), (.int (144) 0), (.str "/claim/cut.py" 713)], #[]⟩) ::
  (nat_lit 413, ⟨(.type "function"), none, .func (PySem.W.fnOf "shown" "IfRow.shown" (defArgs (inClass (top 17) 1)) (defBody (inClass (top 17) 1)) (defScope (inClass (top 17) 1)) .none .none .none (.str "hushrow.rows" 273) none (.ref 412) .none), #[]⟩) ::
  (nat_lit 414, ⟨(.type "tuple"), none, .seq #[] 0, #[]⟩) ::
  (nat_lit 416, ⟨(.type "tuple"), none, .seq #[(.str "self" 718)] 0, #[]⟩) ::
  (nat_lit 417, ⟨(.type "tuple"), none, .seq #[] 0, #[]⟩) ::
  (nat_lit 419, ⟨(.type "code"), none, .fields #[(.str "reads" 715), (.str "IfRow.reads" 716), (.str "/claim/cut.py" 717), (.int (147) 0), (.int (1) 0), (.int (0) 0), (.int (0) 0), (.int (3) 0), (.ref 414), (.bool true), (.int (181) 0), (.ref 415), .none, (.ref 416), (.ref 417), (.ref 418), (.int (719) 0), (.int (147) 0), (.str "/claim/cut.py" 720)], #[]⟩) ::
  (nat_lit 420, ⟨(.type "function"), none, .func (PySem.W.fnOf "reads" "IfRow.reads" (defArgs (inClass (top 17) 2)) (defBody (inClass (top 17) 2)) (defScope (inClass (top 17) 2)) .none .none .none (.str "hushrow.rows" 273) none (.ref 419) .none), #[]⟩) ::
  (nat_lit 421, ⟨(.type "tuple"), none, .seq #[(.str "first" 722), (.str "left" 723), (.str "other" 724), (.str "right" 725), (.str "value" 726)] 0, #[]⟩) ::
  (nat_lit 422, ⟨(.type "dict"), none, .dict #[E P "__module__" 690 (.str "hushrow.rows" 273), E P "__firstlineno__" 694 (.int (134) 693), E P "__init__" 707 (.ref 406), E P "shown" 714 (.ref 413), E P "reads" 721 (.ref 420), E P "__static_attributes__" 727 (.ref 421), E P "__doc__" 728 .none] 2, #[]⟩) ::
  (nat_lit 423, ⟨(.type "type"), none, .cls { name := "IfRow", bases := [(.ref 105)], mro := [(.ref 423), (.ref 105), (.type "object")], ns := 422, qualname := "IfRow", hasDict := true, slotNames := [], subclasses := [], abstract := false, collection := none, hasDel := false }, #[(some (.ref 393)), none, (some (.str "IfRow" 683)), (some (.str "IfRow" 691)), (some (.builtin "object.__new__")), (some (.bool true))]⟩) ::
  (nat_lit 426, ⟨(.type "tuple"), none, .seq #[(.ref 105)] 0, #[]⟩) ::
  (nat_lit 433, ⟨(.type "tuple"), none, .seq #[] 0, #[]⟩) ::
  (nat_lit 435, ⟨(.type "tuple"), none, .seq #[(.str "self" 746), (.str "number" 747), (.str "thing" 748), (.str "most" 749), (.str "body" 750), (.str "left" 751), (.str "right" 752)] 0, #[]⟩) ::
  (nat_lit 436, ⟨(.type "tuple"), none, .seq #[] 0, #[]⟩) ::
  (nat_lit 438, ⟨(.type "code"), none, .fields #[(.str "__init__" 743), (.str "LoopRow.__init__" 744), (.str "/claim/cut.py" 745), (.int (151) 0), (.int (7) 0), (.int (0) 0), (.int (0) 0), (.int (3) 0), (.ref 433), (.bool true), (.int (181) 0), (.ref 434), .none, (.ref 435), (.ref 436), (.ref 437), (.int (753) 0), (.int (151) 0), (.str "/claim/cut.py" 754)], #[]⟩) ::
  (nat_lit 439, ⟨(.type "function"), none, .func (PySem.W.fnOf "__init__" "LoopRow.__init__" (defArgs (inClass (top 18) 0)) (defBody (inClass (top 18) 0)) (defScope (inClass (top 18) 0)) .none .none .none (.str "hushrow.rows" 273) none (.ref 438) .none), #[]⟩) ::
  (nat_lit 440, ⟨(.type "tuple"), none, .seq #[] 0, #[]⟩) ::
  (nat_lit 442, ⟨(.type "tuple"), none, .seq #[(.str "self" 759)] 0, #[]⟩) ::
  (nat_lit 443, ⟨(.type "tuple"), none, .seq #[] 0, #[]⟩) ::
  (nat_lit 445, ⟨(.type "code"), none, .fields #[(.str "shown" 756), (.str "LoopRow.shown" 757), (.str "/claim/cut.py" 758), (.int (159) 0), (.int (1) 0), (.int (0) 0), (.int (0) 0), (.int (3) 0), (.ref 440), (.bool true), (.int (181) 0), (.ref 441), .none, (.ref 442), (.ref 443), (.ref 444), (.int (760) 0), (.int (159) 0), (.str "/claim/cut.py" 761)], #[]⟩) ::
  (nat_lit 446, ⟨(.type "function"), none, .func (PySem.W.fnOf "shown" "LoopRow.shown" (defArgs (inClass (top 18) 1)) (defBody (inClass (top 18) 1)) (defScope (inClass (top 18) 1)) .none .none .none (.str "hushrow.rows" 273) none (.ref 445) .none), #[]⟩) ::
  (nat_lit 447, ⟨(.type "tuple"), none, .seq #[] 0, #[]⟩) ::
  (nat_lit 449, ⟨(.type "tuple"), none, .seq #[(.str "self" 766)] 0, #[]⟩) ::
  (nat_lit 450, ⟨(.type "tuple"), none, .seq #[] 0, #[]⟩) ::
  (nat_lit 452, ⟨(.type "code"), none, .fields #[(.str "reads" 763), (.str "LoopRow.reads" 764), (.str "/claim/cut.py" 765), (.int (162) 0), (.int (1) 0), (.int (0) 0), (.int (0) 0), (.int (3) 0), (.ref 447), (.bool true), (.int (181) 0), (.ref 448), .none, (.ref 449), (.ref 450), (.ref 451), (.int (767) 0), (.int (162) 0), (.str "/claim/cut.py" 768)], #[]⟩) ::
  (nat_lit 453, ⟨(.type "function"), none, .func (PySem.W.fnOf "reads" "LoopRow.reads" (defArgs (inClass (top 18) 2)) (defBody (inClass (top 18) 2)) (defScope (inClass (top 18) 2)) .none .none .none (.str "hushrow.rows" 273) none (.ref 452) .none), #[]⟩) ::
  (nat_lit 454, ⟨(.type "tuple"), none, .seq #[(.str "body" 770), (.str "left" 771), (.str "most" 772), (.str "right" 773), (.str "thing" 774)] 0, #[]⟩) ::
  (nat_lit 455, ⟨(.type "dict"), none, .dict #[E P "__module__" 738 (.str "hushrow.rows" 273), E P "__firstlineno__" 742 (.int (149) 741), E P "__init__" 755 (.ref 439), E P "shown" 762 (.ref 446), E P "reads" 769 (.ref 453), E P "__static_attributes__" 775 (.ref 454), E P "__doc__" 776 .none] 2, #[]⟩) ::
  (nat_lit 456, ⟨(.type "type"), none, .cls { name := "LoopRow", bases := [(.ref 105)], mro := [(.ref 456), (.ref 105), (.type "object")], ns := 455, qualname := "LoopRow", hasDict := true, slotNames := [], subclasses := [], abstract := false, collection := none, hasDel := false }, #[(some (.ref 426)), none, (some (.str "LoopRow" 731)), (some (.str "LoopRow" 739)), (some (.builtin "object.__new__")), (some (.bool true))]⟩) ::
  (nat_lit 459, ⟨(.type "tuple"), none, .seq #[(.ref 105)] 0, #[]⟩) ::
  (nat_lit 466, ⟨(.type "tuple"), none, .seq #[] 0, #[]⟩) ::
  (nat_lit 468, ⟨(.type "tuple"), none, .seq #[(.str "self" 794), (.str "number" 795), (.str "name" 796), (.str "parts" 797), (.str "body" 798)] 0, #[]⟩) ::
  (nat_lit 469, ⟨(.type "tuple"), none, .seq #[] 0, #[]⟩) ::
  (nat_lit 471, ⟨(.type "code"), none, .fields #[(.str "__init__" 791), (.str "DeedRow.__init__" 792), (.str "/claim/cut.py" 793), (.int (166) 0), (.int (5) 0), (.int (0) 0), (.int (0) 0), (.int (3) 0), (.ref 466), (.bool true), (.int (181) 0), (.ref 467), .none, (.ref 468), (.ref 469), (.ref 470), (.int (799) 0), (.int (166) 0), (.str "/claim/cut.py" 800)], #[]⟩) ::
  (nat_lit 472, ⟨(.type "function"), none, .func (PySem.W.fnOf "__init__" "DeedRow.__init__" (defArgs (inClass (top 19) 0)) (defBody (inClass (top 19) 0)) (defScope (inClass (top 19) 0)) .none .none .none (.str "hushrow.rows" 273) none (.ref 471) .none), #[]⟩) ::
  (nat_lit 473, ⟨(.type "tuple"), none, .seq #[] 0, #[]⟩) ::
  (nat_lit 475, ⟨(.type "tuple"), none, .seq #[(.str "self" 805)] 0, #[]⟩) ::
  (nat_lit 476, ⟨(.type "tuple"), none, .seq #[] 0, #[]⟩) ::
  (nat_lit 478, ⟨(.type "code"), none, .fields #[(.str "shown" 802), (.str "DeedRow.shown" 803), (.str "/claim/cut.py" 804), (.int (172) 0), (.int (1) 0), (.int (0) 0), (.int (0) 0), (.int (3) 0), (.ref 473), (.bool true), (.int (181) 0), (.ref 474), .none, (.ref 475), (.ref 476), (.ref 477), (.int (806) 0), (.int (172) 0), (.str "/claim/cut.py" 807)], #[]⟩) ::
  (nat_lit 479, ⟨(.type "function"), none, .func (PySem.W.fnOf "shown" "DeedRow.shown" (defArgs (inClass (top 19) 1)) (defBody (inClass (top 19) 1)) (defScope (inClass (top 19) 1)) .none .none .none (.str "hushrow.rows" 273) none (.ref 478) .none), #[]⟩) ::
  (nat_lit 480, ⟨(.type "tuple"), none, .seq #[(.str "body" 809), (.str "name" 810), (.str "parts" 811)] 0, #[]⟩) ::
  (nat_lit 481, ⟨(.type "dict"), none, .dict #[E P "__module__" 786 (.str "hushrow.rows" 273), E P "__firstlineno__" 790 (.int (164) 789), E P "__init__" 801 (.ref 472), E P "shown" 808 (.ref 479), E P "__static_attributes__" 812 (.ref 480), E P "__doc__" 813 .none] 2, #[]⟩) ::
  (nat_lit 482, ⟨(.type "type"), none, .cls { name := "DeedRow", bases := [(.ref 105)], mro := [(.ref 482), (.ref 105), (.type "object")], ns := 481, qualname := "DeedRow", hasDict := true, slotNames := [], subclasses := [], abstract := false, collection := none, hasDel := false }, #[(some (.ref 459)), none, (some (.str "DeedRow" 779)), (some (.str "DeedRow" 787)), (some (.builtin "object.__new__")), (some (.bool true))]⟩) ::
  (nat_lit 492, ⟨(.type "tuple"), none, .seq #[] 0, #[]⟩) ::
  (nat_lit 494, ⟨(.type "tuple"), none, .seq #[(.str "self" 831), (.str "heads" 832), (.str "deeds" 833), (.str "main" 834)] 0, #[]⟩) ::
  (nat_lit 495, ⟨(.type "tuple"), none, .seq #[] 0, #[]⟩) ::
  (nat_lit 497, ⟨(.type "code"), none, .fields #[(.str "__init__" 828), (.str "Program.__init__" 829), (.str "/claim/cut.py" 830), (.int (176) 0), (.int (4) 0), (.int (0) 0), (.int (0) 0), (.int (3) 0), (.ref 492), (.bool true), (.int (181) 0), (.ref 493), .none, (.ref 494), (.ref 495), (.ref 496), (.int (835) 0), (.int (176) 0), (.str "/claim/cut.py" 836)], #[]⟩) ::
  (nat_lit 498, ⟨(.type "function"), none, .func (PySem.W.fnOf "__init__" "Program.__init__" (defArgs (inClass (top 20) 0)) (defBody (inClass (top 20) 0)) (defScope (inClass (top 20) 0)) .none .none .none (.str "hushrow.rows" 273) none (.ref 497) .none), #[]⟩) ::
  (nat_lit 499, ⟨(.type "tuple"), none, .seq #[(.str "deeds" 838), (.str "heads" 839), (.str "main" 840)] 0, #[]⟩) ::
  (nat_lit 500, ⟨(.type "dict"), none, .dict #[E P "__module__" 823 (.str "hushrow.rows" 273), E P "__firstlineno__" 827 (.int (174) 826), E P "__init__" 837 (.ref 498), E P "__static_attributes__" 841 (.ref 499), E P "__dict__" 843 (.ref 502), E P "__weakref__" 845 (.ref 503), E P "__doc__" 846 .none] 4, #[]⟩) ::
  (nat_lit 501, ⟨(.type "type"), none, .cls { name := "Program", bases := [(.type "object")], mro := [(.ref 501), (.type "object")], ns := 500, qualname := "Program", hasDict := true, slotNames := [], subclasses := [], abstract := false, collection := none, hasDel := false }, #[none, none, (some (.str "Program" 816)), (some (.str "Program" 824)), (some (.builtin "object.__new__")), (some (.bool true))]⟩) ::
  (nat_lit 502, ⟨(.type "getset_descriptor"), none, .fields #[(.str "__dict__" 842), (.ref 501), (.builtin "function.__dict__"), (.builtin "function.__dict__#set")], #[]⟩) ::
  (nat_lit 503, ⟨(.type "getset_descriptor"), none, .fields #[(.str "__weakref__" 844), (.ref 501), (.builtin "ExceptionGroup.__weakref__"), .none], #[]⟩) ::
  (nat_lit 506, ⟨(.type "tuple"), none, .seq #[] 0, #[]⟩) ::
  (nat_lit 508, ⟨(.type "tuple"), none, .seq #[(.str "thing" 856)] 0, #[]⟩) ::
  (nat_lit 509, ⟨(.type "tuple"), none, .seq #[] 0, #[]⟩) ::
  (nat_lit 511, ⟨(.type "code"), none, .fields #[(.str "is_number" 853), (.str "is_number" 854), (.str "/claim/cut.py" 855), (.int (182) 0), (.int (1) 0), (.int (0) 0), (.int (0) 0), (.int (3) 0), (.ref 506), (.bool true), (.int (181) 0), (.ref 507), .none, (.ref 508), (.ref 509), (.ref 510), (.int (857) 0), (.int (182) 0), (.str "/claim/cut.py" 858)], #[]⟩) ::
  (nat_lit 512, ⟨(.type "function"), none, .func (PySem.W.fnOf "is_number" "is_number" (defArgs (top 23)) (defBody (top 23)) (defScope (top 23)) .none .none .none (.str "hushrow.gifts" 849) none (.ref 511) .none), #[]⟩) ::
  (nat_lit 513, ⟨(.type "tuple"), none, .seq #[] 0, #[]⟩) ::
  (nat_lit 516, ⟨(.type "code"), none, .fields #[(.str "is_good" 860), (.str "is_good" 861), (.str "/claim/cut.py" 862), (.int (186) 0), (.int (2) 0), (.int (0) 0), (.int (0) 0), (.int (3) 0), (.ref 513), (.bool true), (.int (181) 0), (.ref 514), .none, .none, .none, (.ref 515), (.int (863) 0), (.int (186) 0), (.str "/claim/cut.py" 864)], #[]⟩) ::
  (nat_lit 517, ⟨(.type "function"), none, .func (PySem.W.fnOf "is_good" "is_good" (defArgs (top 24)) (defBody (top 24)) (defScope (top 24)) .none .none .none (.str "hushrow.gifts" 849) none (.ref 516) .none), #[]⟩) ::
  (nat_lit 518, ⟨(.type "tuple"), none, .seq #[] 0, #[]⟩) ::
  (nat_lit 520, ⟨(.type "tuple"), none, .seq #[(.str "given" 869), (.str "gifts" 870), (.str "gift" 871)] 0, #[]⟩) ::
  (nat_lit 521, ⟨(.type "tuple"), none, .seq #[] 0, #[]⟩) ::
  (nat_lit 523, ⟨(.type "code"), none, .fields #[(.str "given_cell" 866), (.str "given_cell" 867), (.str "/claim/cut.py" 868), (.int (190) 0), (.int (2) 0), (.int (0) 0), (.int (0) 0), (.int (3) 0), (.ref 518), (.bool true), (.int (181) 0), (.ref 519), .none, (.ref 520), (.ref 521), (.ref 522), (.int (872) 0), (.int (190) 0), (.str "/claim/cut.py" 873)], #[]⟩) ::
  (nat_lit 524, ⟨(.type "function"), none, .func (PySem.W.fnOf "given_cell" "given_cell" (defArgs (top 25)) (defBody (top 25)) (defScope (top 25)) .none .none .none (.str "hushrow.gifts" 849) none (.ref 523) .none), #[]⟩) ::
  (nat_lit 525, ⟨(.type "tuple"), none, .seq #[] 0, #[]⟩) ::
  (nat_lit 527, ⟨(.type "tuple"), none, .seq #[(.str "own" 878)] 0, #[]⟩) ::
  (nat_lit 528, ⟨(.type "tuple"), none, .seq #[] 0, #[]⟩) ::
  (nat_lit 530, ⟨(.type "code"), none, .fields #[(.str "own_cell" 875), (.str "own_cell" 876), (.str "/claim/cut.py" 877), (.int (195) 0), (.int (1) 0), (.int (0) 0), (.int (0) 0), (.int (3) 0), (.ref 525), (.bool true), (.int (181) 0), (.ref 526), .none, (.ref 527), (.ref 528), (.ref 529), (.int (879) 0), (.int (195) 0), (.str "/claim/cut.py" 880)], #[]⟩) ::
  (nat_lit 531, ⟨(.type "function"), none, .func (PySem.W.fnOf "own_cell" "own_cell" (defArgs (top 26)) (defBody (top 26)) (defScope (top 26)) .none .none .none (.str "hushrow.gifts" 849) none (.ref 530) .none), #[]⟩) ::
  (nat_lit 532, ⟨(.type "tuple"), none, .seq #[] 0, #[]⟩) ::
  (nat_lit 534, ⟨(.type "tuple"), none, .seq #[(.str "program" 885), (.str "gifts" 886), (.str "cells" 887), (.str "head" 888), (.str "deed" 889), (.str "part" 890)] 0, #[]⟩) ::
  (nat_lit 535, ⟨(.type "tuple"), none, .seq #[] 0, #[]⟩) ::
  (nat_lit 537, ⟨(.type "code"), none, .fields #[(.str "cells_of" 882), (.str "cells_of" 883), (.str "/claim/cut.py" 884), (.int (197) 0), (.int (2) 0), (.int (0) 0), (.int (0) 0), (.int (3) 0), (.ref 532), (.bool true), (.int (181) 0), (.ref 533), .none, (.ref 534), (.ref 535), (.ref 536), (.int (891) 0), (.int (197) 0), (.str "/claim/cut.py" 892)], #[]⟩) ::
  (nat_lit 538, ⟨(.type "function"), none, .func (PySem.W.fnOf "cells_of" "cells_of" (defArgs (top 27)) (defBody (top 27)) (defScope (top 27)) .none .none .none (.str "hushrow.gifts" 849) none (.ref 537) .none), #[]⟩) ::
  (nat_lit 539, ⟨(.type "tuple"), none, .seq #[] 0, #[]⟩) ::
  (nat_lit 541, ⟨(.type "tuple"), none, .seq #[(.str "one" 901), (.str "word" 902), (.str "other" 903)] 0, #[]⟩) ::
  (nat_lit 542, ⟨(.type "tuple"), none, .seq #[] 0, #[]⟩) ::
  (nat_lit 544, ⟨(.type "code"), none, .fields #[(.str "reckon" 898), (.str "reckon" 899), (.str "/claim/cut.py" 900), (.int (210) 0), (.int (3) 0), (.int (0) 0), (.int (0) 0), (.int (3) 0), (.ref 539), (.bool true), (.int (181) 0), (.ref 540), .none, (.ref 541), (.ref 542), (.ref 543), (.int (904) 0), (.int (210) 0), (.str "/claim/cut.py" 905)], #[]⟩) ::
  (nat_lit 545, ⟨(.type "function"), none, .func (PySem.W.fnOf "reckon" "reckon" (defArgs (top 30)) (defBody (top 30)) (defScope (top 30)) .none .none .none (.str "hushrow.sums" 894) none (.ref 544) .none), #[]⟩) ::
  (nat_lit 546, ⟨(.type "tuple"), none, .seq #[] 0, #[]⟩) ::
  (nat_lit 548, ⟨(.type "tuple"), none, .seq #[(.str "place" 910), (.str "size" 911)] 0, #[]⟩) ::
  (nat_lit 549, ⟨(.type "tuple"), none, .seq #[] 0, #[]⟩) ::
  (nat_lit 551, ⟨(.type "code"), none, .fields #[(.str "round_place" 907), (.str "round_place" 908), (.str "/claim/cut.py" 909), (.int (224) 0), (.int (2) 0), (.int (0) 0), (.int (0) 0), (.int (3) 0), (.ref 546), (.bool true), (.int (181) 0), (.ref 547), .none, (.ref 548), (.ref 549), (.ref 550), (.int (912) 0), (.int (224) 0), (.str "/claim/cut.py" 913)], #[]⟩) ::
  (nat_lit 552, ⟨(.type "function"), none, .func (PySem.W.fnOf "round_place" "round_place" (defArgs (top 31)) (defBody (top 31)) (defScope (top 31)) .none .none .none (.str "hushrow.sums" 894) none (.ref 551) .none), #[]⟩) ::
  (nat_lit 560, ⟨(.type "tuple"), none, .seq #[] 0, #[]⟩) ::
  (nat_lit 562, ⟨(.type "tuple"), none, .seq #[(.str "self" 932), (.str "program" 933), (.str "cells" 934), (.str "deed" 935)] 0, #[]⟩) ::
  (nat_lit 563, ⟨(.type "tuple"), none, .seq #[] 0, #[]⟩) ::
  (nat_lit 565, ⟨(.type "code"), none, .fields #[(.str "__init__" 929), (.str "Run.__init__" 930), (.str "/claim/cut.py" 931), (.int (229) 0), (.int (3) 0), (.int (0) 0), (.int (0) 0), (.int (3) 0), (.ref 560), (.bool true), (.int (181) 0), (.ref 561), .none, (.ref 562), (.ref 563), (.ref 564), (.int (936) 0), (.int (229) 0), (.str "/claim/cut.py" 937)], #[]⟩) ::
  (nat_lit 566, ⟨(.type "function"), none, .func (PySem.W.fnOf "__init__" "Run.__init__" (defArgs (inClass (top 33) 0)) (defBody (inClass (top 33) 0)) (defScope (inClass (top 33) 0)) .none .none .none (.str "hushrow.runner" 915) none (.ref 565) .none), #[]⟩) ::
  (nat_lit 567, ⟨(.type "tuple"), none, .seq #[] 0, #[]⟩) ::
  (nat_lit 569, ⟨(.type "tuple"), none, .seq #[(.str "self" 942), (.str "thing" 943)] 0, #[]⟩) ::
  (nat_lit 570, ⟨(.type "tuple"), none, .seq #[] 0, #[]⟩) ::
  (nat_lit 572, ⟨(.type "code"), none, .fields #[(.str "number_at" 939), (.str "Run.number_at" 940), (.str "/claim/cut.py" 941), (.int (236) 0), (.int (2) 0), (.int (0) 0), (.int (0) 0), (.int (3) 0), (.ref 567), (.bool true), (.int (181) 0), (.ref 568), .none, (.ref 569), (.ref 570), (.ref 571), (.int (944) 0), (.int (236) 0), (.str "/claim/cut.py" 945)], #[]⟩) ::
  (nat_lit 573, ⟨(.type "function"), none, .func (PySem.W.fnOf "number_at" "Run.number_at" (defArgs (inClass (top 33) 1)) (defBody (inClass (top 33) 1)) (defScope (inClass (top 33) 1)) .none .none .none (.str "hushrow.runner" 915) none (.ref 572) .none), #[]⟩) ::
  (nat_lit 574, ⟨(.type "tuple"), none, .seq #[] 0, #[]⟩) ::
  (nat_lit 576, ⟨(.type "tuple"), none, .seq #[(.str "self" 950), (.str "value" 951), (.str "behind" 952), (.str "numbers" 953)] 0, #[]⟩) ::
  (nat_lit 577, ⟨(.type "tuple"), none, .seq #[] 0, #[]⟩) ::
  (nat_lit 579, ⟨(.type "code"), none, .fields #[(.str "number_for" 947), (.str "Run.number_for" 948), (.str "/claim/cut.py" 949), (.int (239) 0), (.int (2) 0), (.int (0) 0), (.int (0) 0), (.int (3) 0), (.ref 574), (.bool true), (.int (181) 0), (.ref 575), .none, (.ref 576), (.ref 577), (.ref 578), (.int (954) 0), (.int (239) 0), (.str "/claim/cut.py" 955)], #[]⟩) ::
  (nat_lit 580, ⟨(.type "function"), none, .func (PySem.W.fnOf "number_for" "Run.number_for" (defArgs (inClass (top 33) 2)) (defBody (inClass (top 33) 2)) (defScope (inClass (top 33) 2)) .none .none .none (.str "hushrow.runner" 915) none (.ref 579) .none), #[]⟩) ::
  (nat_lit 581, ⟨(.type "tuple"), none, .seq #[] 0, #[]⟩) ::
  (nat_lit 583, ⟨(.type "tuple"), none, .seq #[(.str "self" 960), (.str "row" 961)] 0, #[]⟩) ::
  (nat_lit 584, ⟨(.type "tuple"), none, .seq #[] 0, #[]⟩) ::
  (nat_lit 586, ⟨(.type "code"), none, .fields #[(.str "number_told" 957), (.str "Run.number_told" 958), (.str "/claim/cut.py" 959), (.int (248) 0), (.int (2) 0), (.int (0) 0), (.int (0) 0), (.int (3) 0), (.ref 581), (.bool true), (.int (181) 0), (.ref 582), .none, (.ref 583), (.ref 584), (.ref 585), (.int (962) 0), (.int (248) 0), (.str "/claim/cut.py" 963)], #[]⟩) ::
  (nat_lit 587, ⟨(.type "function"), none, .func (PySem.W.fnOf "number_told" "Run.number_told" (defArgs (inClass (top 33) 3)) (defBody (inClass (top 33) 3)) (defScope (inClass (top 33) 3)) .none .none .none (.str "hushrow.runner" 915) none (.ref 586) .none), #[]⟩) ::
  (nat_lit 588, ⟨(.type "tuple"), none, .seq #[] 0, #[]⟩) ::
  (nat_lit 590, ⟨(.type "tuple"), none, .seq #[(.str "self" 968), (.str "count" 969), (.str "book" 970)] 0, #[]⟩) ::
  (nat_lit 591, ⟨(.type "tuple"), none, .seq #[] 0, #[]⟩) ::
  (nat_lit 593, ⟨(.type "code"), none, .fields #[(.str "pass_steps" 965), (.str "Run.pass_steps" 966), (.str "/claim/cut.py" 967), (.int (253) 0), (.int (2) 0), (.int (0) 0), (.int (0) 0), (.int (3) 0), (.ref 588), (.bool true), (.int (181) 0), (.ref 589), .none, (.ref 590), (.ref 591), (.ref 592), (.int (971) 0), (.int (253) 0), (.str "/claim/cut.py" 972)], #[]⟩) ::
  (nat_lit 594, ⟨(.type "function"), none, .func (PySem.W.fnOf "pass_steps" "Run.pass_steps" (defArgs (inClass (top 33) 4)) (defBody (inClass (top 33) 4)) (defScope (inClass (top 33) 4)) .none .none .none (.str "hushrow.runner" 915) none (.ref 593) .none), #[]⟩) ::
  (nat_lit 595, ⟨(.type "tuple"), none, .seq #[] 0, #[]⟩) ::
  (nat_lit 597, ⟨(.type "tuple"), none, .seq #[(.str "self" 977), (.str "rows" 978), (.str "ending" 979), (.str "row" 980)] 0, #[]⟩) ::
  (nat_lit 598, ⟨(.type "tuple"), none, .seq #[] 0, #[]⟩) ::
  (nat_lit 600, ⟨(.type "code"), none, .fields #[(.str "do_rows" 974), (.str "Run.do_rows" 975), (.str "/claim/cut.py" 976), (.int (257) 0), (.int (2) 0), (.int (0) 0), (.int (0) 0), (.int (3) 0), (.ref 595), (.bool true), (.int (181) 0), (.ref 596), .none, (.ref 597), (.ref 598), (.ref 599), (.int (981) 0), (.int (257) 0), (.str "/claim/cut.py" 982)], #[]⟩) ::
  (nat_lit 601, ⟨(.type "function"), none, .func (PySem.W.fnOf "do_rows" "Run.do_rows" (defArgs (inClass (top 33) 5)) (defBody (inClass (top 33) 5)) (defScope (inClass (top 33) 5)) .none .none .none (.str "hushrow.runner" 915) none (.ref 600) .none), #[]⟩) ::
  (nat_lit 602, ⟨(.type "tuple"), none, .seq #[] 0, #[]⟩) ::
  (nat_lit 604, ⟨(.type "tuple"), none, .seq #[(.str "self" 987), (.str "row" 988), (.str "book" 989), (.str "told" 990)] 0, #[]⟩) ::
  (nat_lit 605, ⟨(.type "tuple"), none, .seq #[] 0, #[]⟩) ::
  (nat_lit 607, ⟨(.type "code"), none, .fields #[(.str "do_row" 984), (.str "Run.do_row" 985), (.str "/claim/cut.py" 986), (.int (264) 0), (.int (2) 0), (.int (0) 0), (.int (0) 0), (.int (3) 0), (.ref 602), (.bool true), (.int (181) 0), (.ref 603), .none, (.ref 604), (.ref 605), (.ref 606), (.int (991) 0), (.int (264) 0), (.str "/claim/cut.py" 992)], #[]⟩) ::
  (nat_lit 608, ⟨(.type "function"), none, .func (PySem.W.fnOf "do_row" "Run.do_row" (defArgs (inClass (top 33) 6)) (defBody (inClass (top 33) 6)) (defScope (inClass (top 33) 6)) .none .none .none (.str "hushrow.runner" 915) none (.ref 607) .none), #[]⟩) ::
  (nat_lit 609, ⟨(.type "tuple"), none, .seq #[] 0, #[]⟩) ::
  (nat_lit 611, ⟨(.type "tuple"), none, .seq #[(.str "self" 997), (.str "row" 998), (.str "numbers" 999)] 0, #[]⟩) ::
  (nat_lit 612, ⟨(.type "tuple"), none, .seq #[] 0, #[]⟩) ::
  (nat_lit 614, ⟨(.type "code"), none, .fields #[(.str "do_put" 994), (.str "Run.do_put" 995), (.str "/claim/cut.py" 996), (.int (286) 0), (.int (2) 0), (.int (0) 0), (.int (0) 0), (.int (3) 0), (.ref 609), (.bool true), (.int (181) 0), (.ref 610), .none, (.ref 611), (.ref 612), (.ref 613), (.int (1000) 0), (.int (286) 0), (.str "/claim/cut.py" 1001)], #[]⟩) ::
  (nat_lit 615, ⟨(.type "function"), none, .func (PySem.W.fnOf "do_put" "Run.do_put" (defArgs (inClass (top 33) 7)) (defBody (inClass (top 33) 7)) (defScope (inClass (top 33) 7)) .none .none .none (.str "hushrow.runner" 915) none (.ref 614) .none), #[]⟩) ::
  (nat_lit 616, ⟨(.type "tuple"), none, .seq #[] 0, #[]⟩) ::
  (nat_lit 619, ⟨(.type "code"), none, .fields #[(.str "do_call" 1003), (.str "Run.do_call" 1004), (.str "/claim/cut.py" 1005), (.int (290) 0), (.int (2) 0), (.int (0) 0), (.int (0) 0), (.int (3) 0), (.ref 616), (.bool true), (.int (181) 0), (.ref 617), .none, .none, .none, (.ref 618), (.int (1006) 0), (.int (290) 0), (.str "/claim/cut.py" 1007)], #[]⟩) ::
  (nat_lit 620, ⟨(.type "function"), none, .func (PySem.W.fnOf "do_call" "Run.do_call" (defArgs (inClass (top 33) 8)) (defBody (inClass (top 33) 8)) (defScope (inClass (top 33) 8)) .none .none .none (.str "hushrow.runner" 915) none (.ref 619) .none), #[]⟩) ::
  (nat_lit 621, ⟨(.type "tuple"), none, .seq #[] 0, #[]⟩) ::
  (nat_lit 623, ⟨(.type "tuple"), none, .seq #[(.str "self" 1012), (.str "row" 1013), (.str "ending" 1014)] 0, #[]⟩) ::
  (nat_lit 624, ⟨(.type "tuple"), none, .seq #[] 0, #[]⟩) ::
  (nat_lit 626, ⟨(.type "code"), none, .fields #[(.str "do_if" 1009), (.str "Run.do_if" 1010), (.str "/claim/cut.py" 1011), (.int (297) 0), (.int (2) 0), (.int (0) 0), (.int (0) 0), (.int (3) 0), (.ref 621), (.bool true), (.int (181) 0), (.ref 622), .none, (.ref 623), (.ref 624), (.ref 625), (.int (1015) 0), (.int (297) 0), (.str "/claim/cut.py" 1016)], #[]⟩) ::
  (nat_lit 627, ⟨(.type "function"), none, .func (PySem.W.fnOf "do_if" "Run.do_if" (defArgs (inClass (top 33) 9)) (defBody (inClass (top 33) 9)) (defScope (inClass (top 33) 9)) .none .none .none (.str "hushrow.runner" 915) none (.ref 626) .none), #[]⟩) ::
  (nat_lit 628, ⟨(.type "tuple"), none, .seq #[] 0, #[]⟩) ::
  (nat_lit 630, ⟨(.type "tuple"), none, .seq #[(.str "self" 1021), (.str "row" 1022), (.str "wanted" 1023), (.str "done" 1024), (.str "ending" 1025)] 0, #[]⟩) ::
  (nat_lit 631, ⟨(.type "tuple"), none, .seq #[] 0, #[]⟩) ::
  (nat_lit 633, ⟨(.type "code"), none, .fields #[(.str "do_loop" 1018), (.str "Run.do_loop" 1019), (.str "/claim/cut.py" 1020), (.int (306) 0), (.int (2) 0), (.int (0) 0), (.int (0) 0), (.int (3) 0), (.ref 628), (.bool true), (.int (181) 0), (.ref 629), .none, (.ref 630), (.ref 631), (.ref 632), (.int (1026) 0), (.int (306) 0), (.str "/claim/cut.py" 1027)], #[]⟩) ::
  (nat_lit 634, ⟨(.type "function"), none, .func (PySem.W.fnOf "do_loop" "Run.do_loop" (defArgs (inClass (top 33) 10)) (defBody (inClass (top 33) 10)) (defScope (inClass (top 33) 10)) .none .none .none (.str "hushrow.runner" 915) none (.ref 633) .none), #[]⟩) ::
  (nat_lit 635, ⟨(.type "tuple"), none, .seq #[(.str "book" 1029), (.str "cells" 1030), (.str "deeds" 1031)] 0, #[]⟩) ::
  (nat_lit 636, ⟨(.type "dict"), none, .dict #[E P "__module__" 924 (.str "hushrow.runner" 915), E P "__firstlineno__" 928 (.int (227) 927), E P "__init__" 938 (.ref 566), E P "number_at" 946 (.ref 573), E P "number_for" 956 (.ref 580), E P "number_told" 964 (.ref 587), E P "pass_steps" 973 (.ref 594), E P "do_rows" 983 (.ref 601), E P "do_row" 993 (.ref 608), E P "do_put" 1002 (.ref 615), E P "do_call" 1008 (.ref 620), E P "do_if" 1017 (.ref 627), E P "do_loop" 1028 (.ref 634), E P "__static_attributes__" 1032 (.ref 635), E P "__dict__" 1034 (.ref 638), E P "__weakref__" 1036 (.ref 639), E P "__doc__" 1037 .none] 4, #[]⟩) ::
  (nat_lit 637, ⟨(.type "type"), none, .cls { name := "Run", bases := [(.type "object")], mro := [(.ref 637), (.type "object")], ns := 636, qualname := "Run", hasDict := true, slotNames := [], subclasses := [], abstract := false, collection := none, hasDel := false }, #[none, none, (some (.str "Run" 917)), (some (.str "Run" 925)), (some (.builtin "object.__new__")), (some (.bool true))]⟩) ::
  (nat_lit 638, ⟨(.type "getset_descriptor"), none, .fields #[(.str "__dict__" 1033), (.ref 637), (.builtin "function.__dict__"), (.builtin "function.__dict__#set")], #[]⟩) ::
  (nat_lit 639, ⟨(.type "getset_descriptor"), none, .fields #[(.str "__weakref__" 1035), (.ref 637), (.builtin "ExceptionGroup.__weakref__"), .none], #[]⟩) ::
  (nat_lit 642, ⟨(.type "tuple"), none, .seq #[] 0, #[]⟩) ::
  (nat_lit 645, ⟨(.type "code"), none, .fields #[(.str "ends_of" 1040), (.str "ends_of" 1041), (.str "/claim/cut.py" 1042), (.int (316) 0), (.int (2) 0), (.int (0) 0), (.int (0) 0), (.int (3) 0), (.ref 642), (.bool true), (.int (181) 0), (.ref 643), .none, .none, .none, (.ref 644), (.int (1043) 0), (.int (316) 0), (.str "/claim/cut.py" 1044)], #[]⟩) ::
  (nat_lit 646, ⟨(.type "function"), none, .func (PySem.W.fnOf "ends_of" "ends_of" (defArgs (top 34)) (defBody (top 34)) (defScope (top 34)) .none .none .none (.str "hushrow.runner" 915) none (.ref 645) .none), #[]⟩) ::
  (nat_lit 647, ⟨(.type "tuple"), none, .seq #[] 0, #[]⟩) ::
  (nat_lit 649, ⟨(.type "tuple"), none, .seq #[(.str "program" 1049), (.str "gifts" 1050), (.str "state" 1051), (.str "book" 1052)] 0, #[]⟩) ::
  (nat_lit 650, ⟨(.type "tuple"), none, .seq #[] 0, #[]⟩) ::
  (nat_lit 652, ⟨(.type "code"), none, .fields #[(.str "run" 1046), (.str "run" 1047), (.str "/claim/cut.py" 1048), (.int (318) 0), (.int (2) 0), (.int (0) 0), (.int (0) 0), (.int (3) 0), (.ref 647), (.bool true), (.int (181) 0), (.ref 648), .none, (.ref 649), (.ref 650), (.ref 651), (.int (1053) 0), (.int (318) 0), (.str "/claim/cut.py" 1054)], #[]⟩) ::
  (nat_lit 653, ⟨(.type "function"), none, .func (PySem.W.fnOf "run" "run" (defArgs (top 35)) (defBody (top 35)) (defScope (top 35)) .none .none .none (.str "hushrow.runner" 915) none (.ref 652) .none), #[]⟩) ::
  (nat_lit 654, ⟨(.type "tuple"), none, .seq #[] 0, #[]⟩) ::
  (nat_lit 656, ⟨(.type "tuple"), none, .seq #[(.str "_law_script" 1061), (.str "_law_k" 1062)] 0, #[]⟩) ::
  (nat_lit 657, ⟨(.type "tuple"), none, .seq #[] 0, #[]⟩) ::
  (nat_lit 659, ⟨(.type "code"), none, .fields #[(.str "_law_cell_at" 1058), (.str "_law_cell_at" 1059), (.str "/claim/cut.py" 1060), (.int (325) 0), (.int (2) 0), (.int (0) 0), (.int (0) 0), (.int (3) 0), (.ref 654), (.bool true), (.int (181) 0), (.ref 655), .none, (.ref 656), (.ref 657), (.ref 658), (.int (1063) 0), (.int (325) 0), (.str "/claim/cut.py" 1064)], #[]⟩) ::
  (nat_lit 660, ⟨(.type "function"), none, .func (PySem.W.fnOf "_law_cell_at" "_law_cell_at" (defArgs (top 37)) (defBody (top 37)) (defScope (top 37)) .none .none .none (.str "law_hushrow_k25_rounds" 1056) none (.ref 659) .none), #[]⟩) ::
  (nat_lit 661, ⟨(.type "tuple"), none, .seq #[] 0, #[]⟩) ::
  (nat_lit 664, ⟨(.type "code"), none, .fields #[(.str "_law_draws" 1066), (.str "_law_draws" 1067), (.str "/claim/cut.py" 1068), (.int (329) 0), (.int (1) 0), (.int (0) 0), (.int (0) 0), (.int (3) 0), (.ref 661), (.bool true), (.int (181) 0), (.ref 662), .none, .none, .none, (.ref 663), (.int (1069) 0), (.int (329) 0), (.str "/claim/cut.py" 1070)], #[]⟩) ::
  (nat_lit 665, ⟨(.type "function"), none, .func (PySem.W.fnOf "_law_draws" "_law_draws" (defArgs (top 38)) (defBody (top 38)) (defScope (top 38)) .none .none .none (.str "law_hushrow_k25_rounds" 1056) none (.ref 664) .none), #[]⟩) ::
  (nat_lit 666, ⟨(.type "tuple"), none, .seq #[] 0, #[]⟩) ::
  (nat_lit 668, ⟨(.type "tuple"), none, .seq #[(.str "_law_shape" 1075), (.str "_law_at" 1076), (.str "_law_idles" 1077), (.str "_law_here" 1078), (.str "_law_there" 1079), (.str "_law_inner_here" 1080), (.str "_law_loop" 1081), (.str "_law_test_here" 1082), (.str "_law_rows_here" 1083), (.str "_law_behind" 1084)] 0, #[]⟩) ::
  (nat_lit 669, ⟨(.type "tuple"), none, .seq #[] 0, #[]⟩) ::
  (nat_lit 671, ⟨(.type "code"), none, .fields #[(.str "_law_body" 1072), (.str "_law_body" 1073), (.str "/claim/cut.py" 1074), (.int (347) 0), (.int (2) 0), (.int (0) 0), (.int (0) 0), (.int (3) 0), (.ref 666), (.bool true), (.int (181) 0), (.ref 667), .none, (.ref 668), (.ref 669), (.ref 670), (.int (1085) 0), (.int (347) 0), (.str "/claim/cut.py" 1086)], #[]⟩) ::
  (nat_lit 672, ⟨(.type "function"), none, .func (PySem.W.fnOf "_law_body" "_law_body" (defArgs (top 39)) (defBody (top 39)) (defScope (top 39)) .none .none .none (.str "law_hushrow_k25_rounds" 1056) none (.ref 671) .none), #[]⟩) ::
  (nat_lit 673, ⟨(.type "tuple"), none, .seq #[] 0, #[]⟩) ::
  (nat_lit 675, ⟨(.type "tuple"), none, .seq #[(.str "_law_shape" 1091), (.str "_law_at" 1092)] 0, #[]⟩) ::
  (nat_lit 676, ⟨(.type "tuple"), none, .seq #[] 0, #[]⟩) ::
  (nat_lit 678, ⟨(.type "code"), none, .fields #[(.str "_law_spots" 1088), (.str "_law_spots" 1089), (.str "/claim/cut.py" 1090), (.int (360) 0), (.int (2) 0), (.int (0) 0), (.int (0) 0), (.int (3) 0), (.ref 673), (.bool true), (.int (181) 0), (.ref 674), .none, (.ref 675), (.ref 676), (.ref 677), (.int (1093) 0), (.int (360) 0), (.str "/claim/cut.py" 1094)], #[]⟩) ::
  (nat_lit 679, ⟨(.type "function"), none, .func (PySem.W.fnOf "_law_spots" "_law_spots" (defArgs (top 40)) (defBody (top 40)) (defScope (top 40)) .none .none .none (.str "law_hushrow_k25_rounds" 1056) none (.ref 678) .none), #[]⟩) ::
  (nat_lit 680, ⟨(.type "tuple"), none, .seq #[] 0, #[]⟩) ::
  (nat_lit 682, ⟨(.type "tuple"), none, .seq #[(.str "_law_shape" 1099), (.str "_law_at" 1100), (.str "_law_rows_here" 1101), (.str "_law_loop" 1102), (.str "_law_behind" 1103)] 0, #[]⟩) ::
  (nat_lit 683, ⟨(.type "tuple"), none, .seq #[] 0, #[]⟩) ::
  (nat_lit 685, ⟨(.type "code"), none, .fields #[(.str "_law_rows" 1096), (.str "_law_rows" 1097), (.str "/claim/cut.py" 1098), (.int (364) 0), (.int (2) 0), (.int (0) 0), (.int (0) 0), (.int (3) 0), (.ref 680), (.bool true), (.int (181) 0), (.ref 681), .none, (.ref 682), (.ref 683), (.ref 684), (.int (1104) 0), (.int (364) 0), (.str "/claim/cut.py" 1105)], #[]⟩) ::
  (nat_lit 686, ⟨(.type "function"), none, .func (PySem.W.fnOf "_law_rows" "_law_rows" (defArgs (top 41)) (defBody (top 41)) (defScope (top 41)) .none .none .none (.str "law_hushrow_k25_rounds" 1056) none (.ref 685) .none), #[]⟩) ::
  (nat_lit 687, ⟨(.type "tuple"), none, .seq #[] 0, #[]⟩) ::
  (nat_lit 689, ⟨(.type "tuple"), none, .seq #[(.str "_law_shape" 1110), (.str "_law_heads" 1111), (.str "_law_rows_here" 1112), (.str "_law_behind" 1113), (.str "_law_calls" 1114)] 0, #[]⟩) ::
  (nat_lit 690, ⟨(.type "tuple"), none, .seq #[] 0, #[]⟩) ::
  (nat_lit 692, ⟨(.type "code"), none, .fields #[(.str "_law_program" 1107), (.str "_law_program" 1108), (.str "/claim/cut.py" 1109), (.int (368) 0), (.int (1) 0), (.int (0) 0), (.int (0) 0), (.int (3) 0), (.ref 687), (.bool true), (.int (181) 0), (.ref 688), .none, (.ref 689), (.ref 690), (.ref 691), (.int (1115) 0), (.int (368) 0), (.str "/claim/cut.py" 1116)], #[]⟩) ::
  (nat_lit 693, ⟨(.type "function"), none, .func (PySem.W.fnOf "_law_program" "_law_program" (defArgs (top 42)) (defBody (top 42)) (defScope (top 42)) .none .none .none (.str "law_hushrow_k25_rounds" 1056) none (.ref 692) .none), #[]⟩) ::
  (nat_lit 694, ⟨(.type "tuple"), none, .seq #[] 0, #[]⟩) ::
  (nat_lit 696, ⟨(.type "tuple"), none, .seq #[(.str "_law_book" 1121), (.str "_law_at" 1122), (.str "_law_hand" 1123), (.str "_law_told" 1124)] 0, #[]⟩) ::
  (nat_lit 697, ⟨(.type "tuple"), none, .seq #[] 0, #[]⟩) ::
  (nat_lit 699, ⟨(.type "code"), none, .fields #[(.str "_law_tell" 1118), (.str "_law_tell" 1119), (.str "/claim/cut.py" 1120), (.int (375) 0), (.int (4) 0), (.int (0) 0), (.int (0) 0), (.int (3) 0), (.ref 694), (.bool true), (.int (181) 0), (.ref 695), .none, (.ref 696), (.ref 697), (.ref 698), (.int (1125) 0), (.int (375) 0), (.str "/claim/cut.py" 1126)], #[]⟩) ::
  (nat_lit 700, ⟨(.type "function"), none, .func (PySem.W.fnOf "_law_tell" "_law_tell" (defArgs (top 43)) (defBody (top 43)) (defScope (top 43)) .none .none .none (.str "law_hushrow_k25_rounds" 1056) none (.ref 699) .none), #[]⟩) ::
  (nat_lit 701, ⟨(.type "tuple"), none, .seq #[] 0, #[]⟩) ::
  (nat_lit 703, ⟨(.type "tuple"), none, .seq #[(.str "_law_shape" 1131), (.str "_law_book" 1132), (.str "_law_at" 1133), (.str "_law_count" 1134)] 0, #[]⟩) ::
  (nat_lit 704, ⟨(.type "tuple"), none, .seq #[] 0, #[]⟩) ::
  (nat_lit 706, ⟨(.type "code"), none, .fields #[(.str "_law_test" 1128), (.str "_law_test" 1129), (.str "/claim/cut.py" 1130), (.int (380) 0), (.int (4) 0), (.int (0) 0), (.int (0) 0), (.int (3) 0), (.ref 701), (.bool true), (.int (181) 0), (.ref 702), .none, (.ref 703), (.ref 704), (.ref 705), (.int (1135) 0), (.int (380) 0), (.str "/claim/cut.py" 1136)], #[]⟩) ::
  (nat_lit 707, ⟨(.type "function"), none, .func (PySem.W.fnOf "_law_test" "_law_test" (defArgs (top 44)) (defBody (top 44)) (defScope (top 44)) .none .none .none (.str "law_hushrow_k25_rounds" 1056) none (.ref 706) .none), #[]⟩) ::
  (nat_lit 708, ⟨(.type "tuple"), none, .seq #[] 0, #[]⟩) ::
  (nat_lit 710, ⟨(.type "tuple"), none, .seq #[(.str "_law_shape" 1141), (.str "_law_book" 1142), (.str "_law_at" 1143), (.str "_law_count" 1144), (.str "_law_rounds" 1145), (.str "_law_k" 1146)] 0, #[]⟩) ::
  (nat_lit 711, ⟨(.type "tuple"), none, .seq #[] 0, #[]⟩) ::
  (nat_lit 713, ⟨(.type "code"), none, .fields #[(.str "_law_inner" 1138), (.str "_law_inner" 1139), (.str "/claim/cut.py" 1140), (.int (385) 0), (.int (4) 0), (.int (0) 0), (.int (0) 0), (.int (3) 0), (.ref 708), (.bool true), (.int (181) 0), (.ref 709), .none, (.ref 710), (.ref 711), (.ref 712), (.int (1147) 0), (.int (385) 0), (.str "/claim/cut.py" 1148)], #[]⟩) ::
  (nat_lit 714, ⟨(.type "function"), none, .func (PySem.W.fnOf "_law_inner" "_law_inner" (defArgs (top 45)) (defBody (top 45)) (defScope (top 45)) .none .none .none (.str "law_hushrow_k25_rounds" 1056) none (.ref 713) .none), #[]⟩) ::
  (nat_lit 715, ⟨(.type "tuple"), none, .seq #[] 0, #[]⟩) ::
  (nat_lit 717, ⟨(.type "tuple"), none, .seq #[(.str "_law_shape" 1153), (.str "_law_book" 1154), (.str "_law_at" 1155), (.str "_law_idles" 1156), (.str "_law_rounds" 1157), (.str "_law_here" 1158), (.str "_law_there" 1159), (.str "_law_behind" 1160), (.str "_law_count" 1161)] 0, #[]⟩) ::
  (nat_lit 718, ⟨(.type "tuple"), none, .seq #[] 0, #[]⟩) ::
  (nat_lit 720, ⟨(.type "code"), none, .fields #[(.str "_law_follow" 1150), (.str "_law_follow" 1151), (.str "/claim/cut.py" 1152), (.int (396) 0), (.int (3) 0), (.int (0) 0), (.int (0) 0), (.int (3) 0), (.ref 715), (.bool true), (.int (181) 0), (.ref 716), .none, (.ref 717), (.ref 718), (.ref 719), (.int (1162) 0), (.int (396) 0), (.str "/claim/cut.py" 1163)], #[]⟩) ::
  (nat_lit 721, ⟨(.type "function"), none, .func (PySem.W.fnOf "_law_follow" "_law_follow" (defArgs (top 46)) (defBody (top 46)) (defScope (top 46)) .none .none .none (.str "law_hushrow_k25_rounds" 1056) none (.ref 720) .none), #[]⟩) ::
  (nat_lit 722, ⟨(.type "tuple"), none, .seq #[] 0, #[]⟩) ::
  (nat_lit 724, ⟨(.type "tuple"), none, .seq #[(.str "_law_found" 1168), (.str "_law_due" 1169), (.str "_law_k" 1170)] 0, #[]⟩) ::
  (nat_lit 725, ⟨(.type "tuple"), none, .seq #[] 0, #[]⟩) ::
  (nat_lit 727, ⟨(.type "code"), none, .fields #[(.str "_law_same" 1165), (.str "_law_same" 1166), (.str "/claim/cut.py" 1167), (.int (419) 0), (.int (2) 0), (.int (0) 0), (.int (0) 0), (.int (3) 0), (.ref 722), (.bool true), (.int (181) 0), (.ref 723), .none, (.ref 724), (.ref 725), (.ref 726), (.int (1171) 0), (.int (419) 0), (.str "/claim/cut.py" 1172)], #[]⟩) ::
  (nat_lit 728, ⟨(.type "function"), none, .func (PySem.W.fnOf "_law_same" "_law_same" (defArgs (top 47)) (defBody (top 47)) (defScope (top 47)) .none .none .none (.str "law_hushrow_k25_rounds" 1056) none (.ref 727) .none), #[]⟩) ::
  (nat_lit 729, ⟨(.type "tuple"), none, .seq #[] 0, #[]⟩) ::
  (nat_lit 731, ⟨(.type "tuple"), none, .seq #[(.str "_law_script" 1177), (.str "_law_shape" 1178), (.str "_law_book" 1179), (.str "_law_behind" 1180), (.str "_law_k" 1181), (.str "_law_found" 1182)] 0, #[]⟩) ::
  (nat_lit 732, ⟨(.type "tuple"), none, .seq #[] 0, #[]⟩) ::
  (nat_lit 734, ⟨(.type "code"), none, .fields #[(.str "law" 1174), (.str "law" 1175), (.str "/claim/cut.py" 1176), (.int (434) 0), (.int (1) 0), (.int (0) 0), (.int (0) 0), (.int (3) 0), (.ref 729), (.bool true), (.int (181) 0), (.ref 730), .none, (.ref 731), (.ref 732), (.ref 733), (.int (1183) 0), (.int (434) 0), (.str "/claim/cut.py" 1184)], #[]⟩) ::
  (nat_lit 735, ⟨(.type "function"), none, .func (PySem.W.fnOf "law" "law" (defArgs (top 48)) (defBody (top 48)) (defScope (top 48)) .none .none .none (.str "law_hushrow_k25_rounds" 1056) none (.ref 734) .none), #[]⟩) :: []
def keysK : List Addr := [2, 3, 15, 17, 18, 20, 21, 29, 31, 32, 34, 35, 36, 37, 38, 39, 40, 43, 50, 51, 52, 53, 56, 63, 65, 66, 68, 69, 70, 71, 72, 82, 84, 85, 87, 88, 89, 91, 92, 94, 95, 96, 98, 99, 101, 102, 103, 104, 105, 106, 107, 110, 117, 119, 120, 122, 123, 124, 126, 127, 129, 130, 131, 132, 133, 136, 143, 145, 146, 148, 149, 150, 152, 153, 155, 156, 157, 158, 159, 162, 169, 171, 172, 174, 175, 176, 178, 179, 181, 182, 183, 184, 185, 188, 195, 197, 198, 200, 201, 202, 204, 205, 207, 208, 209, 211, 212, 214, 215, 216, 218, 219, 221, 222, 223, 224, 225, 228, 235, 237, 238, 240, 241, 242, 244, 245, 247, 248, 249, 251, 252, 254, 255, 256, 258, 259, 261, 262, 263, 264, 265, 268, 275, 277, 278, 280, 281, 282, 284, 285, 287, 288, 289, 291, 292, 294, 295, 296, 297, 298, 301, 308, 310, 311, 313, 314, 315, 317, 318, 320, 321, 322, 324, 325, 327, 328, 329, 331, 332, 334, 335, 336, 337, 338, 341, 348, 350, 351, 353, 354, 355, 357, 358, 360, 361, 362, 364, 365, 367, 368, 369, 370, 371, 374, 381, 383, 384, 386, 387, 388, 389, 390, 393, 400, 402, 403, 405, 406, 407, 409, 410, 412, 413, 414, 416, 417, 419, 420, 421, 422, 423, 426, 433, 435, 436, 438, 439, 440, 442, 443, 445, 446, 447, 449, 450, 452, 453, 454, 455, 456, 459, 466, 468, 469, 471, 472, 473, 475, 476, 478, 479, 480, 481, 482, 492, 494, 495, 497, 498, 499, 500, 501, 502, 503, 506, 508, 509, 511, 512, 513, 516, 517, 518, 520, 521, 523, 524, 525, 527, 528, 530, 531, 532, 534, 535, 537, 538, 539, 541, 542, 544, 545, 546, 548, 549, 551, 552, 560, 562, 563, 565, 566, 567, 569, 570, 572, 573, 574, 576, 577, 579, 580, 581, 583, 584, 586, 587, 588, 590, 591, 593, 594, 595, 597, 598, 600, 601, 602, 604, 605, 607, 608, 609, 611, 612, 614, 615, 616, 619, 620, 621, 623, 624, 626, 627, 628, 630, 631, 633, 634, 635, 636, 637, 638, 639, 642, 645, 646, 647, 649, 650, 652, 653, 654, 656, 657, 659, 660, 661, 664, 665, 666, 668, 669, 671, 672, 673, 675, 676, 678, 679, 680, 682, 683, 685, 686, 687, 689, 690, 692, 693, 694, 696, 697, 699, 700, 701, 703, 704, 706, 707, 708, 710, 711, 713, 714, 715, 717, 718, 720, 721, 722, 724, 725, 727, 728, 729, 731, 732, 734, 735]
theorem keysK_eq (P : Params) : keysK = (heapK P).map (·.1) := by kernel_rfl
abbrev prog : Program := PySem.Challenge.pw_hushrow_k25_rounds
abbrev law : PySem.W.OpenLaw := PySem.Challenge.rw_hushrow_k25_rounds
def seenAt : Program := { prog with main := { prog.main with body := [top 0, top 2, top 4, top 5, top 7, top 8, top 9, top 10, top 11, top 12, top 13, top 14, top 15, top 16, top 17, top 18, top 19, top 20, top 22, top 23, top 24, top 25, top 26, top 27, top 29, top 30, top 31, top 33, top 34, top 35, top 37, top 38, top 39, top 40, top 41, top 42, top 43, top 44, top 45, top 46, top 47, top 48] } }
abbrev hook : PySem.W.Hook := PySem.W.kHook heapK keysK keysK_eq
abbrev test : Shared → Bool := fun s => xlAt seenAt [] s && recOk (RowW.records law.row.toRowW) s
abbrev seenK : Shared → List (Option Obj) := fun s => keysK.map s.heap.get?
abbrev dueK : World → List (Option Obj) := fun w => (heapK w.params).map fun p => some p.2
noncomputable def T₀ (P : Params) : BT := Hd.treeOf (boot_heap P).objs.toList 0 .nil
noncomputable def lookL (w : World) (os : OsState) := (Hd.runT treeTable prog w 11 (some (.ref 6)) 12386 ⟨T₀ w.params, 11, {}, Array.mk [], boot_drawn, boot_toks, os⟩ (topStub prog)).map fun s => Hd.looks prog seenAt [] test seenK true (boot_heap w.params) s.abs
noncomputable def lookR (w : World) (os : OsState) := some (true, openGood seenAt [], dueK w)
theorem lookL_self : lookL = lookL := rfl
theorem lookR_self : lookR = lookR := rfl
end K25
lay_quick K25.lookL K25.lookR
name_quick K25lookL for K25.lookL by K25.lookL_self
name_quick K25lookR for K25.lookR by K25.lookR_self
namespace K25
open PySem L2 PySem.W
theorem looks_quick : PySem.W.Fast.K25lookL = PySem.W.Fast.K25lookR := by kernel_rfl
theorem looks_same : lookL = lookR := PySem.W.Fast.K25lookL_eq.trans (looks_quick.trans PySem.W.Fast.K25lookR_eq.symm)
theorem tree_is (P : Params) : absHeap (T₀ P) 11 {} = boot_heap P := by kernel_rfl
theorem size_is (w : World) : ((boot_heap w.params).isNs mainGlobals && (Array.mk [] : Array GenState).size == 0, (boot_heap w.params).objs.size, (boot_heap w.params).nsMap mainGlobals "__annotations__") = (true, 11, some (.ref 6)) := by kernel_rfl
theorem left : LeftO prog seenAt [] test hook.obs hook.val 12386 := Hd.left_of (boot_open (p := prog) (N := 12386) (by kernel_rfl) rfl (fun _ => rfl)) size_is tree_is fun w os => congrFun (congrFun looks_same w) os
end K25

set_option Elab.async false
set_option linter.all false
set_option maxRecDepth 100000
namespace L2
open PySem PySem.Spec PyProof.Rows
abbrev Key := Sum Int Str
def keyIs : Key → Value → Bool
  | .inl k, v => Value.isInt k v
  | .inr x, v => Value.isStrOf x v
def keyH (w : World) : Key → Int
  | .inl k => hashInt k
  | .inr x => hashStr w x
theorem keyIs_shape : ∀ {k : Key} {v : Value}, keyIs k v = true → (∃ i t, k = Sum.inl i ∧ v = Value.int i t) ∨ (∃ x t, k = Sum.inr x ∧ v = Value.str x t)
  | .inl i, v, h => by
    obtain ⟨t, e⟩ := Value.isInt_shape (k := i) (v := v) h
    exact .inl ⟨i, t, rfl, e⟩
  | .inr x, v, h => by
    obtain ⟨t, e⟩ := Value.isStrOf_shape (x := x) (v := v) h
    exact .inr ⟨x, t, rfl, e⟩
theorem keyIs_int (i : Int) (t : Tok) : keyIs (.inl i) (.int i t) = true := by simp [keyIs, Value.isInt]
theorem keyIs_str (x : Str) (t : Tok) : keyIs (.inr x) (.str x t) = true := by simp [keyIs, Value.isStrOf]
theorem key_ll (a b : Int) : decide ((Sum.inl a : Key) = Sum.inl b) = (a == b) := by
  by_cases e : a = b
  · subst e; simp
  · have h : ¬ (Sum.inl a : Key) = Sum.inl b := fun q => e (Sum.inl.inj q)
    rw [decide_eq_false h]
    exact (beq_eq_false_iff_ne.mpr e).symm
theorem key_rr (a b : Str) : decide ((Sum.inr a : Key) = Sum.inr b) = decide (a = b) := by
  by_cases e : a = b
  · subst e; simp
  · have h : ¬ (Sum.inr a : Key) = Sum.inr b := fun q => e (Sum.inr.inj q)
    rw [decide_eq_false h, decide_eq_false e]
theorem key_lr (a : Int) (b : Str) : decide ((Sum.inl a : Key) = Sum.inr b) = false := decide_eq_false (fun q => nomatch q)
theorem key_rl (a : Str) (b : Int) : decide ((Sum.inr a : Key) = Sum.inl b) = false := decide_eq_false (fun q => nomatch q)
def mixKind (prog : Program) (w : World) : PySem.KeyKind prog w Key where
  is := keyIs
  hash := keyH w
  inj := fun v a b ha hb => by
    rcases keyIs_shape ha with ⟨i, t, rfl, rfl⟩ | ⟨x, t, rfl, rfl⟩
    · rcases keyIs_shape hb with ⟨j, u, rfl, e⟩ | ⟨y, u, rfl, e⟩
      · injection e with e1 _; rw [e1]
      · exact nomatch e
    · rcases keyIs_shape hb with ⟨j, u, rfl, e⟩ | ⟨y, u, rfl, e⟩
      · exact nomatch e
      · injection e with e1 _; rw [e1]
  byValue := fun k v h => by
    rcases keyIs_shape h with ⟨i, t, rfl, rfl⟩ | ⟨x, t, rfl, rfl⟩ <;> rfl
  pyHash := fun hv h => by
    rcases keyIs_shape hv with ⟨i, t, rfl, rfl⟩ | ⟨x, t, rfl, rfl⟩
    · exact wpAny_pyHash_int h
    · exact wpAny_pyHash_str h
  eqBool := fun hu hv h => by
    rcases keyIs_shape hu with ⟨i, t, rfl, rfl⟩ | ⟨x, t, rfl, rfl⟩
    · rcases keyIs_shape hv with ⟨j, u, rfl, rfl⟩ | ⟨y, u, rfl, rfl⟩
      · rw [key_ll] at h; exact wpAny_eqBool_int h
      · rw [key_lr] at h; exact SeqAt.EqAt.int_str i t y u _ _ _ _ h
    · rcases keyIs_shape hv with ⟨j, u, rfl, rfl⟩ | ⟨y, u, rfl, rfl⟩
      · rw [key_rl] at h; exact SeqAt.EqAt.str_int x t j u _ _ _ _ h
      · rw [key_rr] at h; exact wpAny_eqBool_str h
  «strs» := fun k x t v h => by
    rcases keyIs_shape h with ⟨i, u, rfl, e⟩ | ⟨y, u, rfl, e⟩
    · exact nomatch e
    · injection e with e1 _
      subst e1
      cases v <;> rfl
theorem mixKind_int (prog : Program) (w : World) (i : Int) (t : Tok) : (mixKind prog w).is (.inl i) (.int i t) = true := keyIs_int i t
theorem mixKind_str (prog : Program) (w : World) (x : Str) (t : Tok) : (mixKind prog w).is (.inr x) (.str x t) = true := keyIs_str x t
end L2
namespace L2
open PySem PySem.Spec PyProof.Rows
inductive V where
  | non | bl (b : Bool) | int (i : Int) | str (x : Str) | byt (b : Array UInt8) | flt (b : UInt64) | ref (a : Addr) | ty (n : String)
  deriving DecidableEq
def RelV : V → Value → Prop
  | .non, u => u = Value.none
  | .bl b, u => u = Value.bool b
  | .int i, u => ∃ t, u = Value.int i t
  | .str x, u => ∃ t, u = Value.str x t
  | .byt b, u => ∃ t, u = Value.bytes b t
  | .flt b, u => ∃ t, u = Value.float b t
  | .ref a, u => u = Value.ref a
  | .ty n, u => u = Value.type n
abbrev Vals : List V → List Value → Prop := Paired RelV
theorem Vals.length {xs : List V} {us : List Value} (r : Vals xs us) : xs.length = us.length := Paired.length r
theorem Vals.get : ∀ {xs : List V} {us : List Value} {i : Nat} {x : V}, Vals xs us → xs[i]? = some x → ∃ u, us[i]? = some u ∧ RelV x u
  | _, _, _, _, .nil, e => by simp at e
  | _, _, 0, _, .cons r _, e => by simp at e; subst e; exact ⟨_, rfl, r⟩
  | _, _, i + 1, x, .cons _ t, e => by
    obtain ⟨u, h1, h2⟩ := Vals.get (i := i) (x := x) t (by simpa using e)
    exact ⟨u, by simpa using h1, h2⟩
theorem Vals.set {x : V} {u : Value} (r : RelV x u) : ∀ {xs : List V} {us : List Value} (i : Nat), Vals xs us → Vals (xs.set i x) (us.set i u)
  | _, _, _, .nil => .nil
  | _, _, 0, .cons _ t => .cons r t
  | _, _, i + 1, .cons q t => .cons q (Vals.set r i t)
theorem Vals.append : ∀ {xs ys : List V} {us ws : List Value}, Vals xs us → Vals ys ws → Vals (xs ++ ys) (us ++ ws)
  | _, _, _, _, .nil, s => s
  | _, _, _, _, .cons r t, s => .cons r (Vals.append t s)
def RelO : Option V → Option Value → Prop
  | some v, some u => RelV v u
  | none, none => True
  | _, _ => False
def KV {κ : Type} : List (κ × V) → List (κ × Value) → Prop := Paired fun (p : κ × V) (q : κ × Value) => p.1 = q.1 ∧ RelV p.2 q.2
def kV : Key → V
  | .inl i => .int i
  | .inr x => .str x
inductive HO where
  | lst (xs : List V)
  | tup (xs : List V)
  | dK (kvs : List (Key × V)) | dT (kvs : List (List Key × V))
  | set (S : Int → Bool) (n : Nat)
  | ins (C dx : Addr) (fs : List (Str × V))
  | own (x : Addr)
  | xd (fs : List (Str × V))
  | met (f x : Addr)
  | rng (lo hi : Int)
  | frz (o : Obj) (u : HO)
  | tbl (ps : Array Value)
  | ext (φ : Heap → Prop)
abbrev Hp := Addr → Option HO
def upd (H : Hp) (a : Addr) (o : HO) : Hp := fun b => if b = a then some o else H b
theorem upd_same {H : Hp} {a : Addr} {o : HO} : upd H a o a = some o := by unfold upd; rw [if_pos rfl]
theorem upd_ne {H : Hp} {a b : Addr} {o : HO} (h : b ≠ a) : upd H a o b = H b := by unfold upd; rw [if_neg h]
theorem upd_upd {H : Hp} {a : Addr} {o u : HO} : upd (upd H a o) a u = upd H a u := by
  funext b; unfold upd; split <;> rfl
theorem ne_of {H : Hp} {a b : Addr} {o u : HO} (h : H a = some o) (h' : H b = some u) (d : o ≠ u) : a ≠ b := by
  intro e; subst e; rw [h] at h'; exact d (Option.some.inj h')
theorem ne_of_none {H : Hp} {a b : Addr} {o : HO} (h : H a = some o) (h' : H b = none) : a ≠ b := by
  intro e; subst e; rw [h] at h'; cases h'
section
variable (P : Program) (w : World)
def ObjOk (H : Hp) (h : Heap) (a : Addr) : HO → Prop
  | .lst xs => xs.length ≤ sizeLine ∧ ∃ (its : List Value) (n : Nat), Vals xs its ∧ h.get? a = some { cls := .type "list", data := .seq its.toArray n }
  | .tup xs => xs.length ≤ sizeLine ∧ ∃ its : List Value, Vals xs its ∧ IsTup h a its.toArray
  | .dK kvs => kvs.length ≤ sizeLine ∧ (a == sysModules) = false ∧ ∃ vs, KV kvs vs ∧ h.DictOf (mixKind P w) a vs
  | .dT kvs => kvs.length ≤ sizeLine ∧ (a == sysModules) = false ∧ ∃ xs : List (List Key × Addr × Value),
      Paired (fun (p : List Key × V) (q : List Key × Addr × Value) => p.1 = q.1 ∧ H q.2.1 = some (.tup (p.1.map kV)) ∧ RelV p.2 q.2.2) kvs xs ∧
      ∃ o es ep, h.get? a = some o ∧ o.ExactDict ∧ o.data = .dict es ep ∧ es.toList = xs.map (entryOfKey (tupleKind (mixKind P w))) ∧ (xs.map (·.1)).Nodup
  | .set S n => h.SetOf (intKind P w) a S n
  | .ins C dx fs => H dx = some (.own a) ∧ fs.length ≤ 1000 ∧ dx ≠ a ∧ h.get? a = some (PySem.W.instObj C dx) ∧
      ∃ mA, h.Ns1 dx mA ∧ (∀ f, RelO (fs.lookup f) (mA f)) ∧ PySem.Within mA (fs.map (·.1))
  | .own _ => ∃ o, h.get? a = some o
  | .xd fs => ∃ mA, h.Ns1 a mA ∧ ∀ f, RelO (fs.lookup f) (mA f)
  | .rng lo hi => ∃ t u v, h.get? a = some { cls := .type "range", data := .fields #[.int lo t, .int hi u, .int 1 v] }
  | .frz o u => h.get? a = some o ∧ ObjOk H h a u
  | .tbl ps => h.get? a = some { cls := .none, data := .fields ps }
  | .met f x => h.get? a = some (PySem.W.methodObj (.ref f) (.ref x))
  | .ext φ => φ h ∧ (∃ o, h.get? a = some o) ∧ ∀ h1 h2 : Heap, φ h1 → (∀ o, h1.get? a = some o → h2.get? a = some o) → φ h2
def HOk (H : Hp) (h : Heap) : Prop := ∀ a o, H a = some o → ObjOk P w H h a o
end
section
variable {P : Program} {w : World} {H H' : Hp} {h h' : Heap} {a : Addr} {o : HO}
theorem ObjOk.lt (x : ObjOk P w H h a o) : a < h.objs.size := by
  cases o with
  | lst xs => obtain ⟨_, _, _, _, e⟩ := x; exact Heap.lt_size e
  | tup xs => obtain ⟨_, _, _, p⟩ := x; exact p.lt
  | dK kvs => obtain ⟨_, _, _, _, o, _, _, e, _⟩ := x; exact Heap.lt_size e
  | dT kvs => obtain ⟨_, _, _, _, o, _, _, e, _⟩ := x; exact Heap.lt_size e
  | set S n => obtain ⟨o, _, _, _, e, _⟩ := x; exact Heap.lt_size e
  | ins C dx fs => obtain ⟨_, _, _, e, _⟩ := x; exact Heap.lt_size e
  | own y => obtain ⟨_, e⟩ := x; exact Heap.lt_size e
  | xd fs => obtain ⟨_, ⟨_, _, _, e, _⟩, _⟩ := x; exact Heap.lt_size e
  | rng lo hi => obtain ⟨_, _, _, e⟩ := x; exact Heap.lt_size e
  | frz ob u => obtain ⟨e, _⟩ := x; exact Heap.lt_size e
  | tbl ps => exact Heap.lt_size (show h.get? a = some _ from x)
  | met f y => exact Heap.lt_size (show h.get? a = some _ from x)
  | ext φ => obtain ⟨_, ⟨_, e⟩, _⟩ := x; exact Heap.lt_size e
theorem Paired.mapP {α β : Type} {F G : α → β → Prop} : ∀ {l₁ : List α} {l₂ : List β}, Paired F l₁ l₂ → (∀ a b, F a b → G a b) → Paired G l₁ l₂
  | _, _, .nil, _ => .nil
  | _, _, .cons r t, f => .cons (f _ _ r) (Paired.mapP t f)
theorem ObjOk.stay (x : ObjOk P w H h a o) (k : ∀ b u, (b = a ∨ H b = some (.own a)) → h.get? b = some u → h'.get? b = some u)
    (ho : ∀ b, H b = some (.own a) → H' b = some (.own a)) (ht : ∀ b xs, H b = some (.tup xs) → H' b = some (.tup xs)) : ObjOk P w H' h' a o := by
  induction o with
  | lst xs => obtain ⟨z, its, n, r, e⟩ := x; exact ⟨z, its, n, r, k _ _ (.inl rfl) e⟩
  | tup xs => obtain ⟨z, its, r, ob, e, c⟩ := x; exact ⟨z, its, r, ob, k _ _ (.inl rfl) e, c⟩
  | dK kvs => obtain ⟨z, y, vs, r, ob, es, ep, e, c⟩ := x; exact ⟨z, y, vs, r, ob, es, ep, k _ _ (.inl rfl) e, c⟩
  | dT kvs =>
    obtain ⟨z, y, xs, r, ob, es, ep, e, c⟩ := x
    exact ⟨z, y, xs, Paired.mapP r fun p q z => ⟨z.1, ht _ _ z.2.1, z.2.2⟩, ob, es, ep, k _ _ (.inl rfl) e, c⟩
  | set S n => obtain ⟨ob, es, ep, t, e, c⟩ := x; exact ⟨ob, es, ep, t, k _ _ (.inl rfl) e, c⟩
  | ins C dx fs =>
    obtain ⟨d, z, ne, e, mA, ⟨od, es, ep, e2, c⟩, r⟩ := x
    exact ⟨ho _ d, z, ne, k _ _ (.inl rfl) e, mA, ⟨od, es, ep, k _ _ (.inr d) e2, c⟩, r⟩
  | own y => obtain ⟨ob, e⟩ := x; exact ⟨ob, k _ _ (.inl rfl) e⟩
  | xd fs => obtain ⟨mA, ⟨od, es, ep, e, c⟩, r⟩ := x; exact ⟨mA, ⟨od, es, ep, k _ _ (.inl rfl) e, c⟩, r⟩
  | rng lo hi => obtain ⟨t, u, v, e⟩ := x; exact ⟨t, u, v, k _ _ (.inl rfl) e⟩
  | frz ob u ih => obtain ⟨e, q⟩ := x; exact ⟨k _ _ (.inl rfl) e, ih q⟩
  | tbl ps =>
    have e : h.get? a = some { cls := .none, data := .fields ps } := x
    show h'.get? a = some { cls := .none, data := .fields ps }
    exact k a _ (.inl rfl) e
  | met f y =>
    have e : h.get? a = some (PySem.W.methodObj (.ref f) (.ref y)) := x
    show h'.get? a = some (PySem.W.methodObj (.ref f) (.ref y))
    exact k a _ (.inl rfl) e
  | ext φ => obtain ⟨p, ⟨o, e⟩, st⟩ := x; exact ⟨st _ _ p fun o q => k _ _ (.inl rfl) q, ⟨o, k _ _ (.inl rfl) e⟩, st⟩
theorem HOk.lt (x : HOk P w H h) (e : H a = some o) : a < h.objs.size := (x a o e).lt
theorem HOk.fresh (x : HOk P w H h) (e : h.objs.size ≤ a) : H a = none := by
  cases q : H a with
  | none => rfl
  | some u => exact absurd (Nat.lt_of_lt_of_le (x.lt q) e) (Nat.lt_irrefl _)
theorem HOk.kept (x : HOk P w H h) (k : ∀ b u, h.get? b = some u → h'.get? b = some u) : HOk P w H h' := fun a o e =>
  (x a o e).stay (fun b u _ q => k b u q) (fun _ q => q) fun _ _ q => q
theorem HOk.laid (x : HOk P w H h) (k : ∀ b u, h.get? b = some u → h'.get? b = some u) (hp : h.objs.size ≤ a) (new : ObjOk P w (upd H a o) h' a o) : HOk P w (upd H a o) h' := fun b u e => by
  have hn := x.fresh hp
  by_cases hb : b = a
  · subst hb; rw [upd_same] at e; cases e; exact new
  · rw [upd_ne hb] at e
    exact (x b u e).stay (fun c v _ q => k c v q) (fun c q => by rw [upd_ne (ne_of_none q hn)]; exact q) fun c xs q => by rw [upd_ne (ne_of_none q hn)]; exact q
end
def Rd (H : Hp) (a : Addr) (u : HO) : Prop := H a = some u ∨ ∃ o, H a = some (.frz o u)
theorem Rd.ok {P : Program} {w : World} {H : Hp} {h : Heap} {a : Addr} {u : HO} (r : Rd H a u) (x : HOk P w H h) : ObjOk P w H h a u := by
  rcases r with r | ⟨o, r⟩
  · exact x a u r
  · obtain ⟨_, q⟩ := x a _ r
    exact q
def Mut : Option HO → Prop
  | some (.lst _) => True
  | some (.dK _) => True
  | some (.dT _) => True
  | some (.set _ _) => True
  | some (.ins _ _ _) => True
  | some (.ext _) => True
  | _ => False
section
variable {P : Program} {w : World} {H : Hp} {h h' : Heap} {x e : Addr} {o' : HO}
theorem HOk.write (ok : HOk P w H h) (mu : Mut (H x)) (he : e = x ∨ H e = some (.own x)) (k : ∀ b u, b ≠ e → h.get? b = some u → h'.get? b = some u) (heo : ∃ u, h'.get? e = some u)
    (new : ObjOk P w (upd H x o') h' x o') : HOk P w (upd H x o') h' := fun b u q => by
  have nown : ∀ c y, H c = some (.own y) → c ≠ x := fun c y r z => by subst z; rw [r] at mu; exact mu
  have ntup : ∀ c xs, H c = some (.tup xs) → c ≠ x := fun c xs r z => by subst z; rw [r] at mu; exact mu
  by_cases hb : b = x
  · subst hb; rw [upd_same] at q; cases q; exact new
  · rw [upd_ne hb] at q
    by_cases hbe : b = e
    · have q' : H b = some (.own x) := by
        rcases he with z | z
        · exact absurd (hbe.trans z) hb
        · rw [hbe]; exact z
      rw [q] at q'; cases q'
      obtain ⟨v, hv⟩ := heo
      exact ⟨v, by rw [hbe]; exact hv⟩
    · refine (ok b u q).stay (fun c v hc r => k c v ?_ r) (fun c r => by rw [upd_ne (nown c b r)]; exact r) fun c xs r => by rw [upd_ne (ntup c xs r)]; exact r
      rcases hc with rfl | hc
      · exact hbe
      · rintro rfl
        rcases he with z | z
        · exact nown c b hc z
        · rw [hc] at z; cases z; exact hb rfl
end
structure Un (fs ex : List Addr) (H H' : Hp) (h h' : Heap) : Prop where
  keep : ∀ b o, h.get? b = some o → H b = none → b ∉ fs → b ∉ ex → h'.get? b = some o
  slot : ∀ b o, h.get? b = some o → H b = none → b ∈ fs → b ∉ ex → ∃ sl, h'.get? b = some { o with slots := sl }
  free : ∀ b o, h.get? b = some o → H b = none → b ∉ ex → H' b = none
  there : ∀ b o, h.get? b = some o → b ∉ ex → ∃ o', h'.get? b = some o'
  tups : ∀ b xs, H b = some (.tup xs) → H' b = some (.tup xs)
  frzs : ∀ b o u, H b = some (.frz o u) → H' b = some (.frz o u)
  tbls : ∀ b ps, H b = some (.tbl ps) → ∃ more, H' b = some (.tbl (ps ++ more))
section
variable {fs fs' ex ex' : List Addr} {H H1 H2 : Hp} {h h1 h2 h' : Heap} {a x e : Addr} {o : HO}
theorem Un.any (u : Un fs ex H H1 h h1) {b : Addr} {ob : Obj} (q : h.get? b = some ob) (n : H b = none) (hx : b ∉ ex) : ∃ sl, h1.get? b = some { ob with slots := sl } := by
  by_cases hb : b ∈ fs
  · exact u.slot b ob q n hb hx
  · exact ⟨ob.slots, u.keep b ob q n hb hx⟩
theorem Un.kept (k : ∀ b u, h.get? b = some u → h'.get? b = some u) : Un fs ex H H h h' :=
  ⟨fun b ob q _ _ _ => k b ob q, fun b ob q _ _ _ => ⟨ob.slots, k b ob q⟩, fun _ _ _ n _ => n, fun b ob q _ => ⟨ob, k b ob q⟩, fun _ _ q => q, fun _ _ _ q => q, fun _ ps q => ⟨#[], by rw [q]; simp⟩⟩
theorem Un.refl : Un fs ex H H h h := Un.kept fun _ _ q => q
theorem Un.laid (k : ∀ b u, h.get? b = some u → h'.get? b = some u) (hp : h.objs.size ≤ a) (hn : H a = none) : Un fs ex H (upd H a o) h h' where
  keep := fun b u q _ _ _ => k b u q
  slot := fun b u q _ _ _ => ⟨u.slots, k b u q⟩
  free := fun b u q n _ => by rw [upd_ne (Nat.ne_of_lt (Nat.lt_of_lt_of_le (Heap.lt_size q) hp))]; exact n
  there := fun b u q _ => ⟨u, k b u q⟩
  tups := fun b xs q => by rw [upd_ne (ne_of_none q hn)]; exact q
  frzs := fun b u xs q => by rw [upd_ne (ne_of_none q hn)]; exact q
  tbls := fun b ps q => ⟨#[], by rw [upd_ne (ne_of_none q hn), q]; simp⟩
theorem Un.write (mu : Mut (H x)) (he : e = x ∨ H e = some (.own x)) (k : ∀ b u, b ≠ e → h.get? b = some u → h'.get? b = some u) (heo : ∃ u, h'.get? e = some u) : Un fs ex H (upd H x o) h h' := by
  have hx : ∀ b, H b = none → b ≠ x := fun b n z => by subst z; rw [n] at mu; exact mu
  have hb : ∀ b, H b = none → b ≠ e := fun b n z => by
    subst z
    rcases he with r | r
    · exact hx b n r
    · rw [n] at r; cases r
  have hm : ∀ b u, H b = some u → ¬ Mut (some u) → b ≠ x := fun b u q nm z => by subst z; rw [q] at mu; exact nm mu
  refine ⟨fun b u q n _ _ => k b u (hb b n) q, fun b u q n _ _ => ⟨u.slots, k b u (hb b n) q⟩, fun b u q n _ => by rw [upd_ne (hx b n)]; exact n, fun b u q _ => ?_,
    fun b xs q => by rw [upd_ne (hm b _ q fun z => z)]; exact q, fun b u xs q => by rw [upd_ne (hm b _ q fun z => z)]; exact q, fun b ps q => ⟨#[], by rw [upd_ne (hm b _ q fun z => z), q]; simp⟩⟩
  by_cases hbe : b = e
  · subst hbe; exact heo
  · exact ⟨u, k b u hbe q⟩
end
def trk (h : Heap) (H : Hp) : List Addr := (List.range h.objs.size).filter fun a => (H a).isSome
def hidT (h : Heap) (H : Hp) : Heap := PySem.W.hideAll h (trk h H)
theorem hidT_size (h : Heap) (H : Hp) : (hidT h H).objs.size = h.objs.size := PySem.W.hideAll_size _ _
theorem hidT_get {h : Heap} {H : Hp} {b : Addr} {o : Obj} (e : h.get? b = some o) (n : H b = none) : (hidT h H).get? b = some o :=
  PySem.W.hideAll_get _ e fun hm => by
    have q : (H b).isSome = true := (List.mem_filter.mp hm).2
    rw [n] at q; simp at q
theorem of_hidT {h : Heap} {H : Hp} {b : Addr} {o : Obj} (e : (hidT h H).get? b = some o) : h.get? b = some o ∧ H b = none := by
  have e' : h.get? b = some o := PySem.W.of_hideAll (trk h H) e
  refine ⟨e', ?_⟩
  cases q : H b with
  | none => rfl
  | some x =>
    have hm : b ∈ trk h H := List.mem_filter.mpr ⟨List.mem_range.mpr (Heap.lt_size e'), by simp [q]⟩
    have z : (hidT h H).get? b = none := PySem.W.hideAll_none (trk h H) hm
    rw [z] at e; cases e
def allNews (g h : Heap) (L : Addr) : List (Addr × Obj) := (List.range h.objs.size).filterMap fun a => if a = L ∨ (g.get? a).isSome = true then none else (h.get? a).map fun o => (a, o)
def rest (g h : Heap) (L d : Addr) : List (Addr × Obj) := (allNews g h L).filter fun p => decide (p.1 ≠ d)
end L2
namespace L2
open PySem PySem.Spec PyProof.Rows
structure Mod (K : PySem.W.Frag) (mg : Str → Option Value) (base : Heap) : Prop where
  kin : K.In base
  glob : base.Ns mainGlobals mg
  blt : ∃ mb, base.Ns builtinsNs mb ∧ ∀ x : Str, x ≠ "__name__" → mb x = bootBuiltins x
  nolimit : base.NoLimit
structure Cx where
  prog : Program
  w : World
  K : PySem.W.Frag
  mg : Str → Option Value
  base : Heap
  A : Around
  N : List Str
  s₀ : Shared
  H₀ : Hp
  env : Env
  outer : List Env
  stack : List Env
  ex : List Addr
  fn : Str → Bool
  calm : Bool
  pn : List (Addr × Obj)
  xe : Value → Shared → Prop
def frs (l : List Env) : List Addr := l.filterMap (·.frame)
abbrev Cx.fs (X : Cx) : List Addr := frs X.outer
def Vis (sc : Scope) (x : Str) : Prop := sc.names.lookup x = some .local ∨ sc.names.lookup x = some .cell ∨ sc.names.lookup x = some .free
def Loc (sc : Scope) (x : Str) : Prop := sc.names.lookup x = some .local ∨ sc.names.lookup x = some .cell
def Look (env : Env) (h : Heap) (m : Str → Option Value) (x : Str) (u : Value) : Prop :=
  (env.kindOf x = some .local ∧ m x = some u) ∨ ((env.kindOf x = some .cell ∨ env.kindOf x = some .free) ∧ ∃ c, env.cells.lookup x = some c ∧ h.IsCell c (some u))
structure Cx.Ok (X : Cx) : Prop where
  mod : Mod X.K X.mg X.base
  kind : X.env.scope.kind = .function
  glob : X.env.globals = mainGlobals
  blt : X.env.builtins = builtinsNs
  above : X.s₀.heap.objs.size ≤ X.env.locals
  inj : ∀ x y c, X.env.cells.lookup x = some c → X.env.cells.lookup y = some c → x = y
  has : ∀ x, (X.env.kindOf x = some .cell ∨ X.env.kindOf x = some .free) → ∃ c, X.env.cells.lookup x = some c
  cab : ∀ x c, X.fn x = true → X.env.cells.lookup x = some c → X.s₀.heap.objs.size ≤ c
  hd : X.calm = true → X.A.handled = none
  frames : X.A.frames = some X.stack
  stk : X.stack = X.outer ∨ (X.stack = X.env :: X.outer ∧ X.env.frame = some X.env.locals)
  exf : ∀ b ∈ X.ex, b ≠ X.env.locals ∧ ∀ x c, X.env.cells.lookup x = some c → c ≠ b
  bs : ∀ b o, X.base.get? b = some o → X.s₀.heap.get? b = some o ∧ X.H₀ b = none
  bsz : X.base.objs.size ≤ X.s₀.heap.objs.size
  noex : ∀ b o, X.base.get? b = some o → b ∉ X.ex
  exfs : ∀ b ∈ X.ex, b ∉ X.fs
  funs : X.s₀.heap.FunFrames X.base X.outer
  frf : ∀ b ∈ X.fs, X.H₀ b = none
structure Inv (X : Cx) (pins : List (Addr × Obj)) (σ : List (Option V)) (H : Hp) (s : Shared) : Prop where
  ok : X.Ok
  os : s.os = X.s₀.os
  bare : AllBare s.gens
  base : Un X.fs X.ex X.H₀ H X.s₀.heap s.heap
  loc : ∃ m, s.heap.Ns X.env.locals m ∧ ∀ (i : Nat) (x : Str) (v : V), X.N[i]? = some x → σ[i]? = some (some v) → Vis X.env.scope x → ∃ u, RelV v u ∧ Look X.env s.heap m x u
  cell : ∀ x c, X.env.cells.lookup x = some c → ∃ v, s.heap.IsCell c v
  free : H X.env.locals = none
  freeC : ∀ x c, X.env.cells.lookup x = some c → H c = none
  pin : ∀ p ∈ X.pn ++ pins, s.heap.get? p.1 = some p.2 ∧ H p.1 = none ∧ p.1 ≠ X.env.locals ∧ p.1 ∉ X.fs ∧ ∀ v, p.2.data ≠ .cell v
  hok : HOk X.prog X.w H s.heap
  len : σ.length = X.N.length
section
variable {X : Cx} {pins : List (Addr × Obj)} {σ : List (Option V)} {H H' : Hp} {s : Shared} {h' : Heap}
theorem Cx.Ok.nofr (ok : X.Ok) {b : Addr} {o : Obj} (e : X.base.get? b = some o) : b ∉ X.fs := fun hb => by
  have := (ok.funs.mem hb).1
  rw [e] at this; cases this
theorem Inv.bs (I : Inv X pins σ H s) : ∀ b o, X.base.get? b = some o → s.heap.get? b = some o ∧ H b = none := fun b o e =>
  ⟨I.base.keep b o (I.ok.bs b o e).1 (I.ok.bs b o e).2 (I.ok.nofr e) (I.ok.noex b o e), I.base.free b o (I.ok.bs b o e).1 (I.ok.bs b o e).2 (I.ok.noex b o e)⟩
theorem Inv.bk (I : Inv X pins σ H s) : ∀ b o, X.base.get? b = some o → s.heap.get? b = some o := fun b o e => (I.bs b o e).1
theorem Inv.mod (I : Inv X pins σ H s) : Mod X.K X.mg X.base := I.ok.mod
theorem Inv.kIn (I : Inv X pins σ H s) : X.K.In s.heap := I.ok.mod.kin.keeps I.bk
theorem Inv.lt (I : Inv X pins σ H s) : X.env.locals < s.heap.objs.size := let ⟨_, hn, _⟩ := I.loc; hn.lt
theorem Inv.sz (I : Inv X pins σ H s) : X.s₀.heap.objs.size ≤ s.heap.objs.size := Nat.le_trans I.ok.above (Nat.le_of_lt I.lt)
theorem Inv.nofs (I : Inv X pins σ H s) {a : Addr} (h : s.heap.objs.size ≤ a) : a ∉ X.fs := fun hb => by
  obtain ⟨_, o, ho, _⟩ := I.ok.funs.mem hb
  exact absurd (Nat.lt_of_lt_of_le (Heap.lt_size ho) (Nat.le_trans I.sz h)) (Nat.lt_irrefl _)
theorem Inv.cne (I : Inv X pins σ H s) : ∀ x c, X.env.cells.lookup x = some c → c ≠ X.env.locals := fun x c e z => by
  obtain ⟨v, o, ho, hd⟩ := I.cell x c e
  obtain ⟨m, ⟨o', es, ep, ho', hd', _⟩, _⟩ := I.loc
  rw [z, ho'] at ho; cases ho; rw [hd'] at hd; cases hd
theorem Inv.funs (I : Inv X pins σ H s) : s.heap.FunFrames X.base X.outer := by
  have all : ∀ (l : List Env), (∀ b ∈ frs l, b ∈ X.fs) → X.s₀.heap.FunFrames X.base l → s.heap.FunFrames X.base l := by
    intro l
    induction l with
    | nil => intro _ _; trivial
    | cons env r ih =>
      intro hs hl
      obtain ⟨hk, ⟨L, o, hf, hn, ho, hd⟩, hr⟩ := hl
      have hL : L ∈ X.fs := hs L (by unfold frs; rw [List.filterMap_cons, hf]; exact List.mem_cons_self)
      obtain ⟨sl, e⟩ := I.base.slot L o ho (I.ok.frf L hL) hL fun z => I.ok.exfs L z hL
      exact ⟨hk, ⟨L, _, hf, hn, e, hd⟩, ih (fun b hb => hs b (by unfold frs; rw [List.filterMap_cons, hf]; exact List.mem_cons_of_mem _ hb)) hr⟩
  exact all X.outer (fun _ hb => hb) I.ok.funs
theorem Inv.stack (I : Inv X pins σ H s) : s.heap.FunFrames X.base X.stack := by
  rcases I.ok.stk with e | ⟨e, hf⟩
  · rw [e]; exact I.funs
  · rw [e]
    obtain ⟨m, hn, _⟩ := I.loc
    refine .cons (by rw [I.ok.kind]; decide) hf hn ?_ I.funs
    exact Heap.get?_none_of_le (Nat.le_trans I.ok.bsz I.ok.above)
theorem Inv.stkSub (I : Inv X pins σ H s) : ∀ b ∈ frs X.stack, b ∈ X.env.locals :: X.fs := fun b hb => by
  rcases I.ok.stk with e | ⟨e, hf⟩
  · rw [e] at hb; exact List.mem_cons_of_mem _ hb
  · rw [e] at hb
    unfold frs at hb
    rw [List.filterMap_cons, hf] at hb
    exact hb
theorem Inv.stkFree (I : Inv X pins σ H s) : ∀ b ∈ frs X.stack, H b = none := fun b hb => by
  rcases List.mem_cons.mp (I.stkSub b hb) with e | hb
  · rw [e]; exact I.free
  · obtain ⟨_, o, ho, _⟩ := I.ok.funs.mem hb
    exact I.base.free b o ho (I.ok.frf b hb) fun z => I.ok.exfs b z hb
theorem Inv.step {g' : Array GenState} {t' : Nat} {d' : Drawn} {ch : List Addr} (I : Inv X pins σ H s)
    (hch : ∀ b ∈ ch, (b ∈ X.ex ∨ X.s₀.heap.objs.size ≤ b) ∧ b ≠ X.env.locals ∧ (∀ x c, X.env.cells.lookup x = some c → c ≠ b) ∧ ∀ p ∈ X.pn ++ pins, p.1 ≠ b)
    (keep : ∀ b o, b ≠ X.env.locals → b ∉ X.fs → b ∉ ch → s.heap.get? b = some o → H b = none → h'.get? b = some o)
    (slot : ∀ b o, b ≠ X.env.locals → b ∈ X.fs → b ∉ ch → s.heap.get? b = some o → H b = none → ∃ sl, h'.get? b = some { o with slots := sl }) (free : ∀ b o, b ∉ ch → s.heap.get? b = some o → H b = none → H' b = none)
    (there : ∀ b o, b ∉ ch → s.heap.get? b = some o → ∃ o', h'.get? b = some o')
    (tups : ∀ b xs, H b = some (.tup xs) → H' b = some (.tup xs)) (frzs : ∀ b o u, H b = some (.frz o u) → H' b = some (.frz o u)) (tbls : ∀ b ps, H b = some (.tbl ps) → ∃ more, H' b = some (.tbl (ps ++ more)))
    (ns : ∀ m, s.heap.Ns X.env.locals m → h'.Ns X.env.locals m) (hok : HOk X.prog X.w H' h') (hg : AllBare g') :
    Inv X pins σ H' { s with heap := h', gens := g', drawn := d', toks := t' } := by
  have neL : ∀ b o, X.s₀.heap.get? b = some o → b ≠ X.env.locals := fun b o e => Nat.ne_of_lt (Nat.lt_of_lt_of_le (Heap.lt_size e) I.ok.above)
  have neC : ∀ b o, X.s₀.heap.get? b = some o → b ∉ X.ex → b ∉ ch := fun b o e hx hb => by
    rcases (hch b hb).1 with z | z
    · exact hx z
    · exact absurd (Nat.lt_of_lt_of_le (Heap.lt_size e) z) (Nat.lt_irrefl _)
  have cellK : ∀ x c, X.env.cells.lookup x = some c → ∀ v, s.heap.IsCell c v → h'.IsCell c v := fun x c e v ⟨o, ho, hd⟩ => by
    have nch : c ∉ ch := fun z => (hch c z).2.2.1 x c e rfl
    by_cases hc : c ∈ X.fs
    · obtain ⟨sl, q⟩ := slot c o (I.cne x c e) hc nch ho (I.freeC x c e)
      exact ⟨_, q, hd⟩
    · exact ⟨o, keep c o (I.cne x c e) hc nch ho (I.freeC x c e), hd⟩
  refine ⟨I.ok, I.os, hg, ⟨fun b o e n hb hx => ?_, fun b o e n hb hx => ?_, fun b o e n hx => ?_, fun b o e hx => ?_, fun b xs e => tups b xs (I.base.tups b xs e), fun b o xs e => frzs b o xs (I.base.frzs b o xs e), fun b ps e => ?_⟩, ?_, fun x c e => ?_, ?_, fun x c e => ?_, fun p hp => ?_, hok, I.len⟩
  · exact keep b o (neL b o e) hb (neC b o e hx) (I.base.keep b o e n hb hx) (I.base.free b o e n hx)
  · obtain ⟨sl, e1⟩ := I.base.slot b o e n hb hx
    obtain ⟨sl', e2⟩ := slot b _ (neL b o e) hb (neC b o e hx) e1 (I.base.free b o e n hx)
    exact ⟨sl', e2⟩
  · obtain ⟨o', e1⟩ := I.base.there b o e hx
    exact free b o' (neC b o e hx) e1 (I.base.free b o e n hx)
  · obtain ⟨o', e1⟩ := I.base.there b o e hx
    exact there b o' (neC b o e hx) e1
  · obtain ⟨m1, e1⟩ := I.base.tbls b ps e
    obtain ⟨m2, e2⟩ := tbls b _ e1
    exact ⟨m1 ++ m2, by rw [e2, Array.append_assoc]⟩
  · obtain ⟨m, hn, hl⟩ := I.loc
    refine ⟨m, ns m hn, fun i x v e1 e2 e3 => ?_⟩
    obtain ⟨u, r, l⟩ := hl i x v e1 e2 e3
    refine ⟨u, r, ?_⟩
    rcases l with l | ⟨k, c, e, z⟩
    · exact .inl l
    · exact .inr ⟨k, c, e, cellK x c e _ z⟩
  · obtain ⟨v, z⟩ := I.cell x c e
    exact ⟨v, cellK x c e v z⟩
  · obtain ⟨m, ⟨o, _, _, ho, _⟩, _⟩ := I.loc
    exact free _ o (fun z => (hch _ z).2.1 rfl) ho I.free
  · obtain ⟨v, o, ho, hd⟩ := I.cell x c e
    exact free c o (fun z => (hch c z).2.2.1 x c e rfl) ho (I.freeC x c e)
  · obtain ⟨e, n, ne, nf, d⟩ := I.pin p hp
    have nch : p.1 ∉ ch := fun z => (hch p.1 z).2.2.2 p hp rfl
    exact ⟨keep p.1 p.2 ne nf nch e n, free p.1 p.2 nch e n, ne, nf, d⟩
theorem Inv.un {t' : Nat} (I : Inv X pins σ H s) (u : Un X.fs [] H H' s.heap h') (hok : HOk X.prog X.w H' h') : Inv X pins σ H' { s with heap := h', toks := t' } := by
  obtain ⟨m, ⟨o, es, ep, ho, r⟩, _⟩ := id I.loc
  obtain ⟨sl, hL⟩ := u.any ho I.free (by simp)
  exact I.step (g' := s.gens) (d' := s.drawn) (ch := []) (fun _ z => nomatch z) (fun b o _ hb _ e n => u.keep b o e n hb (by simp)) (fun b o _ hb _ e n => u.slot b o e n hb (by simp)) (fun b o _ e n => u.free b o e n (by simp)) (fun b o _ e => u.there b o e (by simp)) u.tups u.frzs u.tbls (fun m' hm => by
    obtain ⟨o', es', ep', ho', r'⟩ := hm
    rw [ho] at ho'; cases ho'
    exact ⟨_, es', ep', hL, r'⟩) hok I.bare
theorem Inv.call {g' : Array GenState} {t' : Nat} {d' : Drawn} {ch : List Addr} (I : Inv X pins σ H s) (u : Un (frs X.stack) ch H H' s.heap h') (hok : HOk X.prog X.w H' h') (hg : AllBare g')
    (hch : ∀ b ∈ ch, (b ∈ X.ex ∨ X.s₀.heap.objs.size ≤ b) ∧ b ≠ X.env.locals ∧ (∀ x c, X.env.cells.lookup x = some c → c ≠ b) ∧ ∀ p ∈ X.pn ++ pins, p.1 ≠ b) :
    Inv X pins σ H' { s with heap := h', gens := g', drawn := d', toks := t' } := by
  obtain ⟨m, ⟨o, es, ep, ho, r⟩, _⟩ := id I.loc
  obtain ⟨sl, hL⟩ := u.any ho I.free fun z => (hch _ z).2.1 rfl
  exact I.step (ch := ch) hch (fun b o hL hb hc e n => u.keep b o e n (fun z => (List.mem_cons.mp (I.stkSub b z)).elim hL hb) hc) (fun b o _ _ hc e n => u.any e n hc) (fun b o hc e n => u.free b o e n hc) (fun b o hc e => u.there b o e hc) u.tups u.frzs u.tbls (fun m' hm => by
    obtain ⟨o', es', ep', ho', r'⟩ := hm
    rw [ho] at ho'; cases ho'
    exact ⟨_, es', ep', hL, r'⟩) hok hg
theorem Inv.turned {t' : Nat} {it : Addr} (I : Inv X pins σ H s) (k : ∀ b o, b ≠ it → s.heap.get? b = some o → h'.get? b = some o) (hn : H it = none) (hL : it ≠ X.env.locals)
    (h1 : it ∈ X.ex ∨ X.s₀.heap.objs.size ≤ it) (h2 : ∀ x c, X.env.cells.lookup x = some c → c ≠ it) (h3 : ∀ p ∈ X.pn ++ pins, p.1 ≠ it) : Inv X pins σ H { s with heap := h', toks := t' } := by
  have nit : ∀ b u, H b = some u → b ≠ it := fun b u e z => by rw [z, hn] at e; cases e
  refine I.step (g' := s.gens) (d' := s.drawn) (ch := [it]) (fun b hb => ?_) (fun b o _ _ hc e _ => k b o (fun z => hc (by simp [z])) e) (fun b o _ _ hc e _ => ⟨o.slots, k b o (fun z => hc (by simp [z])) e⟩) (fun _ _ _ _ n => n)
    (fun b o hc e => ⟨o, k b o (fun z => hc (by simp [z])) e⟩) (fun _ _ e => e) (fun _ _ _ e => e) (fun b ps e => ⟨#[], by rw [e]; simp⟩) (fun m hm => ?_) (fun b u e => ?_) I.bare
  · have e : b = it := by simpa using hb
    subst e
    exact ⟨h1, hL, h2, h3⟩
  · obtain ⟨o, es, ep, ho, r⟩ := hm
    exact ⟨o, es, ep, k _ o (Ne.symm hL) ho, r⟩
  · refine (I.hok b u e).stay (fun c v hc q => k c v ?_ q) (fun _ q => q) fun _ _ q => q
    rcases hc with z | z
    · rw [z]; exact nit b u e
    · exact nit c _ z
theorem Inv.tok (I : Inv X pins σ H s) (t : Nat) : Inv X pins σ H { s with toks := t } := I.un (h' := s.heap) (t' := t) Un.refl I.hok
theorem Inv.kept {t' : Nat} (I : Inv X pins σ H s) (k : ∀ b u, s.heap.get? b = some u → h'.get? b = some u) : Inv X pins σ H { s with heap := h', toks := t' } := I.un (Un.kept k) (I.hok.kept k)
theorem Inv.laid {a : Addr} {o : HO} {t' : Nat} (I : Inv X pins σ H s) (k : ∀ b u, s.heap.get? b = some u → h'.get? b = some u) (hp : s.heap.objs.size ≤ a) (new : ObjOk X.prog X.w (upd H a o) h' a o) :
    Inv X pins σ (upd H a o) { s with heap := h', toks := t' } := I.un (Un.laid k hp (I.hok.fresh hp)) (I.hok.laid k hp new)
theorem Inv.write {x e : Addr} {o : HO} {t' : Nat} (I : Inv X pins σ H s) (mu : Mut (H x)) (he : e = x ∨ H e = some (.own x)) (k : ∀ b u, b ≠ e → s.heap.get? b = some u → h'.get? b = some u) (heo : ∃ u, h'.get? e = some u)
    (new : ObjOk X.prog X.w (upd H x o) h' x o) : Inv X pins σ (upd H x o) { s with heap := h', toks := t' } := I.un (Un.write mu he k heo) (I.hok.write mu he k heo new)
theorem Inv.pins_of {pins' : List (Addr × Obj)} (I : Inv X pins σ H s) (h : ∀ p ∈ pins', s.heap.get? p.1 = some p.2 ∧ H p.1 = none ∧ p.1 ≠ X.env.locals ∧ p.1 ∉ X.fs ∧ ∀ v, p.2.data ≠ .cell v) : Inv X pins' σ H s :=
  ⟨I.ok, I.os, I.bare, I.base, I.loc, I.cell, I.free, I.freeC, fun p hp => (List.mem_append.mp hp).elim (fun z => I.pin p (List.mem_append_left _ z)) (h p), I.hok, I.len⟩
theorem nodup_ix {N : List Str} (hN : N.Nodup) {i j : Nat} {x : Str} (a : N[i]? = some x) (b : N[j]? = some x) : i = j := by
  obtain ⟨h1, e1⟩ := List.getElem?_eq_some_iff.mp a
  obtain ⟨h2, e2⟩ := List.getElem?_eq_some_iff.mp b
  exact (List.getElem_inj hN).mp (e1.trans e2.symm)
theorem store_ok2 {M : Model} {A : Around} {E : Value → Shared → Prop} {i : Nat} {x : Str} {v : V} {u : Value} {Q : Unit → Shared → Prop} (I : Inv X pins σ H s) (hN : X.N.Nodup) (hi : X.N[i]? = some x) (hx : Loc X.env.scope x) (r : RelV v u)
    (h : ∀ s', Inv X pins (σ.set i (some v)) H s' → (∃ a, Heap.SameBut a s.heap s'.heap ∧ (a = X.env.locals ∨ X.env.cells.lookup x = some a)) → Q () s') (hf : X.fn x = true ∨ X.env.scope.names.lookup x = some .local := by first | exact .inl rfl | exact .inr rfl | assumption) : wpAny M A (storeName X.env x u) Q E s := by
  obtain ⟨m, hn, hl⟩ := id I.loc
  have hcls : (X.env.scope.kind == .class || (X.env.scope.kind == .module && X.env.locals != X.env.globals)) = false := by rw [I.ok.kind]; rfl
  have hiσ : i < σ.length := by rw [I.len]; exact (List.getElem?_eq_some_iff.mp hi).1
  have cne := I.cne
  have tracked : ∀ {a : Addr} {h' : Heap}, (∃ o, s.heap.get? a = some o ∧ H a = none) → Heap.SameBut a s.heap h' → HOk X.prog X.w H h' := fun {a h'} ha hs b ob e => by
    obtain ⟨_, _, hfree⟩ := ha
    refine (I.hok b ob e).stay (fun c w' hc q => (hs.2 c ?_).trans q) (fun _ q => q) fun _ _ q => q
    rintro rfl
    rcases hc with rfl | hc
    · rw [hfree] at e; cases e
    · rw [hfree] at hc; cases hc
  rcases hx with hk | hk
  · refine wpAny_storeName_local hk hn (fun h' hn' hs => ?_) hcls
    obtain ⟨oL, _, _, hoL, _⟩ := id hn
    refine h _ ⟨I.ok, I.os, I.bare, ⟨fun b o e n hb hx => ?_, fun b o e n hb hx => ?_, I.base.free, fun b o e hx => ?_, I.base.tups, I.base.frzs, I.base.tbls⟩, ⟨_, hn', fun j y v' e1 e2 e3 => ?_⟩, fun y c e => ?_, I.free, I.freeC, fun p hp => ?_, tracked ⟨oL, hoL, I.free⟩ hs, by simpa using I.len⟩ ⟨_, hs, .inl rfl⟩
    · exact (hs.2 b (Nat.ne_of_lt (Nat.lt_of_lt_of_le (Heap.lt_size e) I.ok.above))).trans (I.base.keep b o e n hb hx)
    · obtain ⟨sl, e1⟩ := I.base.slot b o e n hb hx
      exact ⟨sl, (hs.2 b (Nat.ne_of_lt (Nat.lt_of_lt_of_le (Heap.lt_size e) I.ok.above))).trans e1⟩
    · obtain ⟨o', e1⟩ := I.base.there b o e hx
      exact ⟨o', (hs.2 b (Nat.ne_of_lt (Nat.lt_of_lt_of_le (Heap.lt_size e) I.ok.above))).trans e1⟩
    · by_cases hj : j = i
      · subst hj
        rw [hi] at e1; cases e1
        rw [List.getElem?_set_self hiσ] at e2
        cases e2
        exact ⟨u, r, .inl ⟨hk, by simp⟩⟩
      · rw [List.getElem?_set_ne (Ne.symm hj)] at e2
        obtain ⟨u', r', q⟩ := hl j y v' e1 e2 e3
        refine ⟨u', r', ?_⟩
        rcases q with ⟨k, e⟩ | ⟨k, c, e, z⟩
        · refine .inl ⟨k, ?_⟩
          have : y ≠ x := fun e => hj (nodup_ix hN e1 (e ▸ hi))
          simp [this, e]
        · exact .inr ⟨k, c, e, z.sameBut hs (cne y c e)⟩
    · obtain ⟨w', z⟩ := I.cell y c e
      exact ⟨w', z.sameBut hs (cne y c e)⟩
    · obtain ⟨e, n, ne, nf, d⟩ := I.pin p hp
      exact ⟨(hs.2 p.1 ne).trans e, n, ne, nf, d⟩
  · have hfn : X.fn x = true := by
      rcases hf with z | z
      · exact z
      · rw [z] at hk; cases hk
    obtain ⟨c, hc⟩ := I.ok.has x (.inl hk)
    obtain ⟨w', z⟩ := I.cell x c hc
    refine wpAny_storeName_cell I.ok.kind hk hc z (fun h' hc' hs => ?_)
    obtain ⟨oc, hoc, hocd⟩ := id z
    refine h { s with heap := h' } ⟨I.ok, I.os, I.bare, ⟨fun b o e n hb hx => ?_, fun b o e n hb hx => ?_, I.base.free, fun b o e hx => ?_, I.base.tups, I.base.frzs, I.base.tbls⟩, ⟨m, hn.sameBut hs (Ne.symm (cne x c hc)), fun j y v' e1 e2 e3 => ?_⟩, fun y c' e => ?_, I.free, I.freeC, fun p hp => ?_, tracked ⟨oc, hoc, I.freeC x c hc⟩ hs, by simpa using I.len⟩ ⟨c, hs, .inr hc⟩
    · exact (hs.2 b (Nat.ne_of_lt (Nat.lt_of_lt_of_le (Heap.lt_size e) (I.ok.cab x c hfn hc)))).trans (I.base.keep b o e n hb hx)
    · obtain ⟨sl, e1⟩ := I.base.slot b o e n hb hx
      exact ⟨sl, (hs.2 b (Nat.ne_of_lt (Nat.lt_of_lt_of_le (Heap.lt_size e) (I.ok.cab x c hfn hc)))).trans e1⟩
    · obtain ⟨o', e1⟩ := I.base.there b o e hx
      exact ⟨o', (hs.2 b (Nat.ne_of_lt (Nat.lt_of_lt_of_le (Heap.lt_size e) (I.ok.cab x c hfn hc)))).trans e1⟩
    · by_cases hj : j = i
      · subst hj
        rw [hi] at e1; cases e1
        rw [List.getElem?_set_self hiσ] at e2
        cases e2
        exact ⟨u, r, .inr ⟨.inl hk, c, hc, hc'⟩⟩
      · rw [List.getElem?_set_ne (Ne.symm hj)] at e2
        obtain ⟨u', r', q⟩ := hl j y v' e1 e2 e3
        refine ⟨u', r', ?_⟩
        rcases q with q | ⟨k, c', e, z'⟩
        · exact .inl q
        · refine .inr ⟨k, c', e, z'.sameBut hs ?_⟩
          rintro rfl
          exact hj (nodup_ix hN e1 (I.ok.inj _ _ _ e hc ▸ hi))
    · by_cases hcc : c' = c
      · subst hcc; exact ⟨_, hc'⟩
      · obtain ⟨w2, z2⟩ := I.cell y c' e
        exact ⟨w2, z2.sameBut hs hcc⟩
    · obtain ⟨e, n, ne, nf, d⟩ := I.pin p hp
      refine ⟨(hs.2 p.1 ?_).trans e, n, ne, nf, d⟩
      intro q
      rw [q, hoc] at e
      have q' : oc = p.2 := Option.some.inj e
      exact d w' (by rw [← q']; exact hocd)
theorem store_ok {M : Model} {A : Around} {E : Value → Shared → Prop} {i : Nat} {x : Str} {v : V} {u : Value} {Q : Unit → Shared → Prop} (I : Inv X pins σ H s) (hN : X.N.Nodup) (hi : X.N[i]? = some x) (hx : Loc X.env.scope x) (r : RelV v u)
    (h : ∀ s', Inv X pins (σ.set i (some v)) H s' → Q () s') (hf : X.fn x = true ∨ X.env.scope.names.lookup x = some .local := by first | exact .inl rfl | exact .inr rfl | assumption) : wpAny M A (storeName X.env x u) Q E s :=
  store_ok2 I hN hi hx r (fun s' I' _ => h s' I') hf
theorem Inv.call' {s' : Shared} {ch : List Addr} (I : Inv X pins σ H s) (ho : s'.os = s.os) (u : Un (frs X.stack) ch H H' s.heap s'.heap) (hok : HOk X.prog X.w H' s'.heap) (hg : AllBare s'.gens)
    (hch : ∀ b ∈ ch, (b ∈ X.ex ∨ X.s₀.heap.objs.size ≤ b) ∧ b ≠ X.env.locals ∧ (∀ x c, X.env.cells.lookup x = some c → c ≠ b) ∧ ∀ p ∈ X.pn ++ pins, p.1 ≠ b) : Inv X pins σ H' s' := by
  obtain ⟨h', g', d', t', o'⟩ := s'
  have e : o' = s.os := ho
  subst e
  exact I.call (g' := g') (t' := t') (d' := d') u hok hg hch
end
abbrev XK := Value → Option Addr → Hp → Prop
abbrev St := List (Option V)
abbrev VK := V → Hp → Prop
abbrev TE := St → Hp → VK → Prop
abbrev TT := St → Hp → (Bool → Hp → Prop) → Prop
abbrev TA := St → Hp → (List V → Hp → Prop) → Prop
structure Ends where
  nx : St → Hp → Prop
  rt : VK
  bk : St → Hp → Prop := fun _ _ => False
  ct : St → Hp → Prop := fun _ _ => False
abbrev TS := Ends → St → Hp → Prop
def EP (X : Cx) (pins : List (Addr × Obj)) (σ : St) (Q : VK) (u : Value) (s' : Shared) : Prop := ∃ v H', Inv X pins σ H' s' ∧ RelV v u ∧ Q v H'
def TP (X : Cx) (pins : List (Addr × Obj)) (σ : St) (Q : Bool → Hp → Prop) (b : Bool) (s' : Shared) : Prop := ∃ H', Inv X pins σ H' s' ∧ Q b H'
def AP (X : Cx) (pins : List (Addr × Obj)) (σ : St) (Q : List V → Hp → Prop) (us : List Value) (s' : Shared) : Prop := ∃ vs H', Inv X pins σ H' s' ∧ Vals vs us ∧ Q vs H'
def SP (X : Cx) (pins : List (Addr × Obj)) (D : Ends) (f : Flow) (s' : Shared) : Prop :=
  match f with
  | .next => ∃ σ' H', Inv X pins σ' H' s' ∧ D.nx σ' H'
  | .brk => ∃ σ' H', Inv X pins σ' H' s' ∧ D.bk σ' H'
  | .cont => ∃ σ' H', Inv X pins σ' H' s' ∧ D.ct σ' H'
  | .ret u => ∃ v σ' H', Inv X pins σ' H' s' ∧ RelV v u ∧ D.rt v H'
def PE (X : Cx) (e : Expr) (t : TE) : Prop :=
  ∀ (pins : List (Addr × Obj)) (s : Shared) (σ : St) (H : Hp) (Q : VK), Inv X pins σ H s → t σ H Q → wpAny (model X.prog X.w) X.A (eval e X.env) (EP X pins σ Q) X.xe s
def PT (X : Cx) (e : Expr) (t : TT) : Prop :=
  ∀ (pins : List (Addr × Obj)) (s : Shared) (σ : St) (H : Hp) (Q : Bool → Hp → Prop), Inv X pins σ H s → t σ H Q → wpAny (model X.prog X.w) X.A (isTrue e X.env (eval e X.env)) (TP X pins σ Q) X.xe s
def PW (X : Cx) (e : Expr) (t : TT) : Prop :=
  ∀ (whole : Sem Value) (pins : List (Addr × Obj)) (s : Shared) (σ : St) (H : Hp) (Q : Bool → Hp → Prop), Inv X pins σ H s → t σ H Q → wpAny (model X.prog X.w) X.A (isTrue e X.env whole) (TP X pins σ Q) X.xe s
theorem PW.pt {X : Cx} {e : Expr} {t : TT} (h : PW X e t) : PT X e t := h _
def PA (X : Cx) (es : List Expr) (t : TA) : Prop :=
  ∀ (pos : Pos) (pins : List (Addr × Obj)) (s : Shared) (σ : St) (H : Hp) (Q : List V → Hp → Prop), Inv X pins σ H s → t σ H Q → wpAny (model X.prog X.w) X.A (spliced (backTo pos (starEach es X.env))) (AP X pins σ Q) X.xe s
def PS (X : Cx) (st : Stmt) (t : TS) : Prop :=
  ∀ (pins : List (Addr × Obj)) (s : Shared) (σ : St) (H : Hp) (D : Ends), Inv X pins σ H s → t D σ H → wpAny (model X.prog X.w) X.A (exec st X.env) (SP X pins D) X.xe s
def PSs (X : Cx) (st : List Stmt) (t : TS) : Prop :=
  ∀ (pins : List (Addr × Obj)) (s : Shared) (σ : St) (H : Hp) (D : Ends), Inv X pins σ H s → t D σ H → wpAny (model X.prog X.w) X.A (execs st X.env) (SP X pins D) X.xe s
theorem thn {α : Type} {t : Sem α} {Q Q' : α → Shared → Prop} {M : Model} {A : Around} {E : Value → Shared → Prop} {s : Shared} (h : wpAny M A t Q E s) (hQ : ∀ a s, Q a s → Q' a s) : wpAny M A t Q' E s := wpAny_mono h hQ fun _ _ x => x
end L2
namespace L2
open PySem PySem.Spec PyProof.Rows
section
variable {X : Cx}
def tVar (i : Nat) : TE := fun σ H Q => ∃ v, σ[i]? = some (some v) ∧ Q v H
def tC (v : V) : TE := fun _ H Q => Q v H
theorem pe_var {i : Nat} {x : Str} {pos : Pos} (hN : X.N[i]? = some x) (hv : Vis X.env.scope x) (hd : (x == ("__debug__" : Str)) = false := by decide) (hcd : (x == ("__classdict__" : Str)) = false := by decide) : PE X (.Name x pos) (tVar i) := by
  intro pins s σ H Q I h
  obtain ⟨v, e, h⟩ := h
  obtain ⟨m, hn, hl⟩ := I.loc
  obtain ⟨u, r, l⟩ := hl i x v hN e hv
  have fin : EP X pins σ Q u s := ⟨v, H, I, r, h⟩
  rcases l with ⟨hk, hm⟩ | ⟨hk, c, hc, hcell⟩
  · exact wpAny_Name (wpAny_loadName_local I.ok.kind hk hn hm fin) hd
  · rcases hk with hk | hk
    · exact wpAny_Name (wpAny_loadName_cell I.ok.kind hk hc hcell fin) hd
    · exact wpAny_Name (wpAny_loadName_free I.ok.kind hk hc hcell fin hcd) hd
theorem pe_int {i j pos} : PE X (.Constant (.int i) j pos) (tC (.int i)) := fun _ _ _ H _ I h => wpAny_Constant_int ⟨.int i, H, I.tok _, ⟨_, rfl⟩, h⟩
theorem pe_bl {b j pos} : PE X (.Constant (.bool b) j pos) (tC (.bl b)) := fun _ _ _ H _ I h => Constant_bool ⟨.bl b, H, I, rfl, h⟩
theorem pe_non {j pos} : PE X (.Constant .none j pos) (tC .non) := fun _ _ _ H _ I h => Constant_none ⟨.non, H, I, rfl, h⟩
theorem pe_str {x j pos} : PE X (.Constant (.str x) j pos) (tC (.str x)) := fun _ _ _ H _ I h => Calls.Constant_str ⟨.str x, H, I.tok _, ⟨_, rfl⟩, h⟩
def Gl (X : Cx) (x : Str) : Prop := X.env.kindOf x = some .globalImplicit
theorem ld_glob {E : Value → Shared → Prop} {pins : List (Addr × Obj)} {s : Shared} {σ : St} {H : Hp} {x : Str} {u : Value} {pos : Pos} {Q : Value → Shared → Prop} (I : Inv X pins σ H s) (hg : Gl X x) (hm : X.mg x = some u) (h : Q u s)
    (hd : (x == ("__debug__" : Str)) = false := by decide) : wpAny (model X.prog X.w) X.A (eval (.Name x pos) X.env) Q E s :=
  Calls.Name_function_global I.ok.kind hg (Calls.loadGlobal_global (by rw [I.ok.glob]; exact I.mod.glob.keeps I.bk) hm h) hd
theorem ld_blt {E : Value → Shared → Prop} {pins : List (Addr × Obj)} {s : Shared} {σ : St} {H : Hp} {x : Str} {u : Value} {pos : Pos} {Q : Value → Shared → Prop} (I : Inv X pins σ H s) (hg : Gl X x) (hm : X.mg x = none) (hv : bootBuiltins x = some u) (h : Q u s)
    (hn : x ≠ "__name__" := by decide) (hd : (x == ("__debug__" : Str)) = false := by decide) : wpAny (model X.prog X.w) X.A (eval (.Name x pos) X.env) Q E s := by
  obtain ⟨mb, h1, h2⟩ := I.mod.blt
  exact Calls.Name_function_global I.ok.kind hg (Calls.loadGlobal_builtin (by rw [I.ok.glob]; exact I.mod.glob.keeps I.bk) hm (by rw [I.ok.blt]; exact h1.keeps I.bk) ((h2 x hn).trans hv) h) hd
theorem pe_glob {x : Str} {v : V} {u : Value} {pos : Pos} (hg : Gl X x) (hm : X.mg x = some u) (r : RelV v u) (hd : (x == ("__debug__" : Str)) = false := by decide) : PE X (.Name x pos) (tC v) :=
  fun _ _ _ H _ I h => ld_glob I hg hm ⟨v, H, I, r, h⟩ hd
theorem pe_bltn {x : Str} {v : V} {u : Value} {pos : Pos} (hg : Gl X x) (hm : X.mg x = none) (hv : bootBuiltins x = some u) (r : RelV v u) (hn : x ≠ "__name__" := by decide) (hd : (x == ("__debug__" : Str)) = false := by decide) : PE X (.Name x pos) (tC v) :=
  fun _ _ _ H _ I h => ld_blt I hg hm hv ⟨v, H, I, r, h⟩ hn hd
def t2I (ta tb : TE) (k : Int → Int → Hp → Prop) : St → Hp → Prop := fun σ H => ta σ H fun x H1 => tb σ H1 fun y H2 => ∃ i j, x = .int i ∧ y = .int j ∧ k i j H2
def tAdd (ta tb : TE) : TE := fun σ H Q => t2I ta tb (fun i j H2 => Q (.int (i + j)) H2) σ H
def tSub (ta tb : TE) : TE := fun σ H Q => t2I ta tb (fun i j H2 => Q (.int (i - j)) H2) σ H
def tMul (ta tb : TE) : TE := fun σ H Q => t2I ta tb (fun i j H2 => (-(2 ^ 64) < i ∧ i < 2 ^ 64) ∧ Q (.int (i * j)) H2) σ H
variable {a b : Expr} {ta tb : TE} {pos : Pos}
def PC (X : Cx) (op : CmpOp) (a b : Expr) (t : TE) : Prop :=
  ∀ (pins : List (Addr × Obj)) (s : Shared) (σ : St) (H : Hp) (Q : VK), Inv X pins σ H s → t σ H Q →
    wpAny (model X.prog X.w) X.A (eval a X.env) (fun v s₁ => wpAny (model X.prog X.w) X.A (eval b X.env) (fun u s₂ => wpAny (model X.prog X.w) X.A (compareOp op v u) (EP X pins σ Q) X.xe s₂) X.xe s₁) X.xe s
def tCmp (p : Int → Int → Bool) (ta tb : TE) : TE := fun σ H Q => t2I ta tb (fun i j H2 => Q (.bl (p i j)) H2) σ H
abbrev tLt : TE → TE → TE := tCmp fun i j => decide (i < j)
abbrev tLe : TE → TE → TE := tCmp fun i j => decide (i ≤ j)
abbrev tGt : TE → TE → TE := tCmp fun i j => decide (j < i)
abbrev tGe : TE → TE → TE := tCmp fun i j => decide (j ≤ i)
abbrev tEqI : TE → TE → TE := tCmp fun i j => decide (i = j)
abbrev tNeI : TE → TE → TE := tCmp fun i j => !decide (i = j)
def tIsN (ta : TE) : TE := fun σ H Q => ta σ H fun x H1 => Q (.bl (decide (x = .non))) H1
def tNotN (ta : TE) : TE := fun σ H Q => ta σ H fun x H1 => Q (.bl (!decide (x = .non))) H1
def tB (t : TE) : TT := fun σ H Q => t σ H fun x H1 => ∃ c, x = .bl c ∧ Q c H1
variable {tA tB' : TT} {rest : List Expr}
def tAnd (t u : TT) : TT := fun σ H Q => t σ H fun c H1 => if c = true then u σ H1 Q else Q false H1
def tOr (t u : TT) : TT := fun σ H Q => t σ H fun c H1 => if c = true then Q true H1 else u σ H1 Q
def tNot (t : TT) : TT := fun σ H Q => t σ H fun c H1 => Q (!c) H1
theorem pw_or1 (ha : PT X a tA) : PW X (.BoolOp .Or [a] pos) tA := by
  intro wh pins s σ H Q I h
  refine isTrue_or (thn (ha pins s σ H Q I h) fun c s1 e => ?_)
  cases c with
  | false => exact isTrue_or_nil e
  | true => exact e
theorem pw_or (ha : PT X a tA) (hb : PW X (.BoolOp .Or (b :: rest) pos) tB') : PW X (.BoolOp .Or (a :: b :: rest) pos) (tOr tA tB') := by
  intro wh pins s σ H Q I h
  refine isTrue_or (thn (ha pins s σ H _ I h) fun c s1 ⟨H1, I1, q1⟩ => ?_)
  cases c with
  | true => exact ⟨H1, I1, q1⟩
  | false => exact hb wh pins s1 σ H1 Q I1 q1
theorem pt_not (ha : PT X a tA) : PT X (.UnaryOp .Not a pos) (tNot tA) := by
  intro pins s σ H Q I h
  exact isTrue_not (ha pins s σ H (fun c H1 => Q (!c) H1) I h)
def tAndV (ta tb : TE) : TE := fun σ H Q => ta σ H fun x H1 => ∃ c, x = .bl c ∧ if c = true then tb σ H1 Q else Q (.bl false) H1
def tOrV (ta tb : TE) : TE := fun σ H Q => ta σ H fun x H1 => ∃ c, x = .bl c ∧ if c = true then Q (.bl true) H1 else tb σ H1 Q
def tNotV (ta : TE) : TE := fun σ H Q => ta σ H fun x H1 => ∃ c, x = .bl c ∧ Q (.bl (!c)) H1
theorem pe_one {op} {t : TE} (h : PE X a t) : PE X (.BoolOp op [a] pos) t := fun pins s σ H Q I hw => BoolOp_one (h pins s σ H Q I hw)
theorem pe_and (ha : PE X a ta) (hb : PE X (.BoolOp .And (b :: rest) pos) tb) : PE X (.BoolOp .And (a :: b :: rest) pos) (tAndV ta tb) := by
  intro pins s σ H Q I h
  refine BoolOp_and (thn (ha pins s σ H _ I h) fun v s1 ⟨x, H1, I1, r1, q1⟩ => ?_)
  obtain ⟨c, rfl, q1⟩ := q1
  cases r1
  refine wpAny_truthy_bool ?_
  cases c with
  | true => exact hb pins s1 σ H1 Q I1 q1
  | false => exact ⟨.bl false, H1, I1, rfl, q1⟩
def tIf (t : TT) (ta tb : TE) : TE := fun σ H Q => t σ H fun c H1 => if c = true then ta σ H1 Q else tb σ H1 Q
theorem pe_ifExp {c : Expr} (hc : PT X c tA) (ha : PE X a ta) (hb : PE X b tb) : PE X (.IfExp c a b pos) (tIf tA ta tb) := by
  intro pins s σ H Q I h
  refine wpAny_IfExp (thn (hc pins s σ H _ I h) fun d s1 ⟨H1, I1, q1⟩ => ?_)
  cases d with
  | true => exact ha pins s1 σ H1 Q I1 q1
  | false => exact hb pins s1 σ H1 Q I1 q1
end
end L2
namespace L2
open PySem PySem.Spec PyProof.Rows
def SqL (K : PySem.W.Frag) (H : Hp) (a : Addr) (xs : List V) : Prop :=
  Rd H a (.lst xs) ∨
    ∃ (o : Obj) (its : Array Value) (n : Nat), K.lookup a = some o ∧ o.cls = .type "list" ∧ o.dict = none ∧ o.data = .seq its n ∧ its.size ≤ sizeLine ∧ Vals xs its.toList
def SqT (K : PySem.W.Frag) (H : Hp) (a : Addr) (xs : List V) : Prop :=
  Rd H a (.tup xs) ∨
    ∃ (o : Obj) (its : Array Value) (n : Nat), K.lookup a = some o ∧ o.cls = .type "tuple" ∧ o.data = .seq its n ∧ its.size ≤ sizeLine ∧ Vals xs its.toList
def absV : Value → Option V
  | .none => some .non
  | .bool b => some (.bl b)
  | .int i _ => some (.int i)
  | .str x _ => some (.str x)
  | .bytes b _ => some (.byt b)
  | .float b _ => some (.flt b)
  | .ref a => some (.ref a)
  | .type n => some (.ty n)
  | _ => none
theorem RelV.abs {x : V} {u : Value} (r : RelV x u) : absV u = some x := by
  cases x with
  | non => cases r; rfl
  | bl _ => cases r; rfl
  | int _ => obtain ⟨t, rfl⟩ := r; rfl
  | str _ => obtain ⟨t, rfl⟩ := r; rfl
  | byt _ => obtain ⟨t, rfl⟩ := r; rfl
  | flt _ => obtain ⟨t, rfl⟩ := r; rfl
  | ref _ => cases r; rfl
  | ty _ => cases r; rfl
theorem RelV.inj {x y : V} {u : Value} (r : RelV x u) (q : RelV y u) : x = y := Option.some.inj (r.abs.symm.trans q.abs)
theorem Vals.inj : ∀ {xs ys : List V} {us : List Value}, Vals xs us → Vals ys us → xs = ys
  | _, _, _, .nil, .nil => rfl
  | _, _, _, .cons r t, .cons r' t' => by rw [r.inj r', Vals.inj t t']
section
variable {X : Cx} {pins : List (Addr × Obj)} {σ : St} {H : Hp} {s : Shared} {a : Addr} {xs ys : List V}
theorem SqL.of {K : PySem.W.Frag} (h : H a = some (.lst xs)) : SqL K H a xs := .inl (.inl h)
theorem SqT.of {K : PySem.W.Frag} (h : H a = some (.tup xs)) : SqT K H a xs := .inl (.inl h)
theorem Inv.list (I : Inv X pins σ H s) (h : SqL X.K H a xs) : ∃ its : List Value, Vals xs its ∧ PlainL s.heap a its.toArray ∧ xs.length ≤ sizeLine := by
  rcases h with h | ⟨o, its, n, hk, hc, hd, hs, hz, r⟩
  · obtain ⟨z, its, n, r, e⟩ := h.ok I.hok
    exact ⟨its, r, ⟨_, n, e, rfl, rfl, rfl⟩, z⟩
  · refine ⟨its.toList, r, ⟨o, n, I.kIn a o hk, hc, hd, by simpa using hs⟩, ?_⟩
    have e := r.length
    simp only [Array.length_toList] at e
    omega
theorem Inv.tuple (I : Inv X pins σ H s) (h : SqT X.K H a xs) : ∃ its : List Value, Vals xs its ∧ IsTup s.heap a its.toArray ∧ xs.length ≤ sizeLine := by
  rcases h with h | ⟨o, its, n, hk, hc, hs, hz, r⟩
  · obtain ⟨z, its, r, p⟩ := h.ok I.hok
    exact ⟨its, r, p, z⟩
  · refine ⟨its.toList, r, ⟨o, I.kIn a o hk, hc, n, by simpa using hs⟩, ?_⟩
    have e := r.length
    simp only [Array.length_toList] at e
    omega
theorem Inv.list_inj (I : Inv X pins σ H s) (h : SqL X.K H a xs) (h' : SqL X.K H a ys) : xs = ys := by
  obtain ⟨its, r, ⟨o, n, e, _, _, d⟩, _⟩ := I.list h
  obtain ⟨its', r', ⟨o', n', e', _, _, d'⟩, _⟩ := I.list h'
  rw [e] at e'; cases e'
  rw [d] at d'
  injection d' with d1 _
  have : its = its' := by simpa using congrArg Array.toList d1
  subst this
  exact r.inj r'
theorem Inv.tuple_inj (I : Inv X pins σ H s) (h : SqT X.K H a xs) (h' : SqT X.K H a ys) : xs = ys := by
  obtain ⟨its, r, ⟨o, e, _, n, d⟩, _⟩ := I.tuple h
  obtain ⟨its', r', ⟨o', e', _, n', d'⟩, _⟩ := I.tuple h'
  rw [e] at e'; cases e'
  rw [d] at d'
  injection d' with d1 _
  have : its = its' := by simpa using congrArg Array.toList d1
  subst this
  exact r.inj r'
end
abbrev Cx.wish (X : Cx) (E : Value → Shared → Prop) : Cx := { X with xe := E }
abbrev Cx.nox (X : Cx) : Cx := X.wish fun _ _ => False
theorem Cx.Ok.wish {X : Cx} (ok : X.Ok) (E : Value → Shared → Prop) : (X.wish E).Ok :=
  ⟨ok.mod, ok.kind, ok.glob, ok.blt, ok.above, ok.inj, ok.has, ok.cab, ok.hd, ok.frames, ok.stk, ok.exf, ok.bs, ok.bsz, ok.noex, ok.exfs, ok.funs, ok.frf⟩
theorem Cx.Ok.unwish {X : Cx} {E : Value → Shared → Prop} (ok : (X.wish E).Ok) : X.Ok :=
  ⟨ok.mod, ok.kind, ok.glob, ok.blt, ok.above, ok.inj, ok.has, ok.cab, ok.hd, ok.frames, ok.stk, ok.exf, ok.bs, ok.bsz, ok.noex, ok.exfs, ok.funs, ok.frf⟩
section
variable {X : Cx} {pins : List (Addr × Obj)} {σ : St} {H : Hp} {s : Shared} {E : Value → Shared → Prop}
theorem Inv.wish (I : Inv X pins σ H s) (E : Value → Shared → Prop) : Inv (X.wish E) pins σ H s := ⟨I.ok.wish E, I.os, I.bare, I.base, I.loc, I.cell, I.free, I.freeC, I.pin, I.hok, I.len⟩
theorem Inv.unwish (I : Inv (X.wish E) pins σ H s) : Inv X pins σ H s := ⟨I.ok.unwish, I.os, I.bare, I.base, I.loc, I.cell, I.free, I.freeC, I.pin, I.hok, I.len⟩
theorem SP.unwish {D : Ends} {f : Flow} {s' : Shared} (h : SP (X.wish E) pins D f s') : SP X pins D f s' := by
  cases f with
  | next => obtain ⟨σ', H', I, q⟩ := h; exact ⟨σ', H', I.unwish, q⟩
  | brk => obtain ⟨σ', H', I, q⟩ := h; exact ⟨σ', H', I.unwish, q⟩
  | cont => obtain ⟨σ', H', I, q⟩ := h; exact ⟨σ', H', I.unwish, q⟩
  | ret u => obtain ⟨v, σ', H', I, r, q⟩ := h; exact ⟨v, σ', H', I.unwish, r, q⟩
theorem PSs.nox {st : List Stmt} {t : TS} (h : PSs X.nox st t) : PSs X st t := fun pins s σ H D I hw =>
  wpAny_mono (h pins s σ H D (I.wish _) hw) (fun _ _ q => q.unwish) fun _ _ z => False.elim z
end
section
variable {X : Cx} {st : Stmt} {rest : List Stmt} {t u : TS} {e : Expr} {te : TE} {pos : Pos}
def tNext : TS := fun D σ H => D.nx σ H
def tSeq (t u : TS) : TS := fun D σ H => t { D with nx := u D } σ H
theorem pss_nil : PSs X [] tNext := fun _ _ σ H _ I h => wpAny_execs_nil ⟨σ, H, I, h⟩
theorem pss_cons (h1 : PS X st t) (h2 : PSs X rest u) : PSs X (st :: rest) (tSeq t u) := by
  intro pins s σ H D I h
  refine wpAny_execs_cons (thn (h1 pins s σ H { D with nx := u D } I h) fun f s1 q => ?_)
  cases f with
  | next =>
    obtain ⟨σ', H', I', q⟩ := q
    exact h2 pins s1 σ' H' D I' q
  | ret v => exact q
  | brk => exact q
  | cont => exact q
theorem pss_one (h1 : PS X st t) : PSs X [st] t := by
  intro pins s σ H D I h
  refine wpAny_execs_cons (thn (h1 pins s σ H D I h) fun f s1 q => ?_)
  cases f with
  | next => exact wpAny_execs_nil q
  | ret v => exact q
  | brk => exact q
  | cont => exact q
def tBreak : TS := fun D σ H => D.bk σ H
def tCont : TS := fun D σ H => D.ct σ H
theorem ps_break : PS X (.Break pos) tBreak := fun _ _ σ H _ I h => wpAny_Break ⟨σ, H, I, h⟩
theorem Inv.quiet {pins : List (Addr × Obj)} {σ : St} {H : Hp} {s : Shared} (I : Inv X pins σ H s) : interactive X.env = false := by simp [interactive, I.ok.kind]
def tDrop (te : TE) : TS := fun D σ H => te σ H fun _ H1 => D.nx σ H1
theorem ps_expr (he : PE X e te) (hs : swapsWith e none pos.line X.env = pure false := by rfl) : PS X (.Expr e pos) (tDrop te) := by
  intro pins s σ H D I h
  exact wpAny_Expr_any (thn (he pins s σ H _ I h) fun v s1 ⟨x, H1, I1, r1, q1⟩ => ⟨σ, H1, I1, q1⟩) I.quiet hs
def tRet (te : TE) : TS := fun D σ H => te σ H D.rt
theorem ps_ret (he : PE X e te) : PS X (.Return (some e) pos) (tRet te) := by
  intro pins s σ H D I h
  exact wpAny_Return_some (thn (he pins s σ H _ I h) fun v s1 ⟨x, H1, I1, r1, q1⟩ => ⟨x, σ, H1, I1, r1, q1⟩)
def tRetN : TS := fun D _ H => D.rt .non H
def tIfS (c : TT) (t u : TS) : TS := fun D σ H => c σ H fun b H1 => if b = true then t D σ H1 else u D σ H1
theorem ps_if {c : Expr} {a b : List Stmt} {tc : TT} (hc : PT X c tc) (ha : PSs X a t) (hb : PSs X b u) : PS X (.If c a b pos) (tIfS tc t u) := by
  intro pins s σ H D I h
  refine wpAny_If (thn (hc pins s σ H _ I h) fun d s1 ⟨H1, I1, q1⟩ => ?_)
  cases d with
  | true => exact ha pins s1 σ H1 D I1 q1
  | false => exact hb pins s1 σ H1 D I1 q1
def tNever : TS := fun _ _ _ => False
theorem pss_never {sts : List Stmt} : PSs X sts tNever := fun _ _ _ _ _ _ h => h.elim
end
abbrev TG := V → St → Hp → (St → Hp → Prop) → Prop
abbrev TGs := List V → St → Hp → (St → Hp → Prop) → Prop
def PG (X : Cx) (target : Expr) (t : TG) : Prop :=
  ∀ (pins : List (Addr × Obj)) (s : Shared) (σ : St) (H : Hp) (v : V) (u : Value) (Q : St → Hp → Prop), Inv X pins σ H s → RelV v u → t v σ H Q →
    wpAny (model X.prog X.w) X.A (assign target X.env u) (fun _ s' => ∃ σ' H', Inv X pins σ' H' s' ∧ Q σ' H') X.xe s
def PGs (X : Cx) (ts : List Expr) (t : TGs) : Prop :=
  ∀ (pins : List (Addr × Obj)) (s : Shared) (σ : St) (H : Hp) (vs : List V) (us : List Value) (Q : St → Hp → Prop), Inv X pins σ H s → Vals vs us → t vs σ H Q →
    wpAny (model X.prog X.w) X.A (assignInOrder ((assignEach ts X.env).map (·.2)) us) (fun _ s' => ∃ σ' H', Inv X pins σ' H' s' ∧ Q σ' H') X.xe s
abbrev TSet := V → V → V → Hp → (Hp → Prop) → Prop
def PSet (X : Cx) (t : TSet) : Prop :=
  ∀ (pins : List (Addr × Obj)) (s : Shared) (σ : St) (H : Hp) (o i v : V) (ov iv u : Value) (Q : Hp → Prop), Inv X pins σ H s → RelV o ov → RelV i iv → RelV v u → t o i v H Q →
    wpAny (model X.prog X.w) X.A (setItem ov iv u) (fun _ s' => ∃ H', Inv X pins σ H' s' ∧ Q H') X.xe s
abbrev TIp := V → V → Hp → VK → Prop
def PIp (X : Cx) (op : Operator) (t : TIp) : Prop :=
  ∀ (pins : List (Addr × Obj)) (s : Shared) (σ : St) (H : Hp) (x y : V) (v u : Value) (Q : VK), Inv X pins σ H s → RelV x v → RelV y u → t x y H Q →
    wpAny (model X.prog X.w) X.A (inplaceOp op v u) (EP X pins σ Q) X.xe s
section
variable {X : Cx} {pos : Pos}
def gName (i : Nat) : TG := fun v σ H Q => Q (σ.set i (some v)) H
theorem pg_name {i : Nat} {x : Str} (hN : X.N.Nodup) (hi : X.N[i]? = some x) (hx : Loc X.env.scope x) (hf : X.fn x = true ∨ X.env.scope.names.lookup x = some .local := by first | exact .inl rfl | exact .inr rfl | assumption) : PG X (.Name x pos) (gName i) := by
  intro pins s σ H v u Q I r h
  exact wpAny_assign_Name (store_ok I hN hi hx r (fun s' I' => ⟨_, H, I', h⟩) hf)
def gNil : TGs := fun vs σ H Q => vs = [] ∧ Q σ H
def gCons (t : TG) (u : TGs) : TGs := fun vs σ H Q => ∃ v r, vs = v :: r ∧ t v σ H fun σ' H' => u r σ' H' Q
theorem pgs_nil : PGs X [] gNil := by
  intro pins s σ H vs us Q I r h
  obtain ⟨e, h⟩ := h
  subst e
  cases r
  exact assignInOrder_nil ⟨σ, H, I, h⟩
theorem pgs_cons {e : Expr} {es : List Expr} {t : TG} {u : TGs} (h1 : PG X e t) (h2 : PGs X es u)
    (hs : (assignEach (e :: es) X.env).map (·.2) = assign e X.env :: (assignEach es X.env).map (·.2) := by rfl) : PGs X (e :: es) (gCons t u) := by
  intro pins s σ H vs us Q I r h
  obtain ⟨v, vr, e1, h⟩ := h
  subst e1
  cases r with
  | cons r rr =>
    rw [hs]
    refine assignInOrder_cons (thn (h1 pins s σ H _ _ _ I r h) fun _ s1 ⟨σ1, H1, I1, q1⟩ => ?_)
    exact h2 pins s1 σ1 H1 _ _ Q I1 rr q1
def gTup (K : PySem.W.Frag) (n : Nat) (t : TGs) : TG := fun v σ H Q => ∃ a xs, v = .ref a ∧ SqT K H a xs ∧ xs.length = n ∧ t xs σ H Q
theorem pg_tup {es : List Expr} {k : Nat} {t : TGs} {n : Nat} (hc : X.calm = true) (h : PGs X es t)
    (hn : (assignEach es X.env).length = n := by rfl) (hst : (assignEach es X.env).findIdx? (·.1) = none := by rfl) : PG X (.Tuple es k pos) (gTup X.K n t) := by
  intro pins s σ H v u Q I r hw
  obtain ⟨a, xs, e1, hq, hl, hw⟩ := hw
  subst e1
  cases r
  obtain ⟨its, rv, ht, hz⟩ := I.tuple hq
  refine assign_Tuple_tuple (I.ok.hd hc) ht (by simp [hn, ← hl, rv.length]) hst fun h' hx => ?_
  have I1 : Inv X pins σ H { s with heap := h' } := I.kept (t' := s.toks) fun b o e => hx b o (Nat.ne_of_lt (Heap.lt_size e)) e
  exact h pins _ σ H xs _ Q I1 (by simpa using rv) hw
def gSub (to ti : TE) (t : TSet) : TG := fun v σ H Q => to σ H fun o H1 => ti σ H1 fun i H2 => t o i v H2 fun H3 => Q σ H3
theorem pg_sub {o i : Expr} {to ti : TE} {t : TSet} (ho : PE X o to) (hi : PE X i ti) (hs : PSet X t)
    (ha : ∀ v, assign (.Subscript o i pos) X.env v = (do
      let ov ← holding [v] (eval o X.env)
      let iv ← holding [v, ov] (eval i X.env)
      standAt pos
      holding [v, ov, iv] (setItem ov iv v)
      release [v, ov, iv] []) := by intro _; rfl) : PG X (.Subscript o i pos) (gSub to ti t) := by
  intro pins s σ H v u Q I r h
  rw [ha]
  refine wpAny_bind (wpAny_holding (thn (ho pins s σ H _ I h) fun ov s1 ⟨x, H1, I1, r1, q1⟩ => ?_))
  refine wpAny_bind (wpAny_holding (thn (hi pins s1 σ H1 _ I1 q1) fun iv s2 ⟨y, H2, I2, r2, q2⟩ => ?_))
  refine wpAny_bind (wpAny_standAt (wpAny_bind (wpAny_holding (thn (hs pins s2 σ H2 x y v ov iv u _ I2 r1 r2 r q2) fun _ s3 ⟨H3, I3, q3⟩ => ?_))))
  exact wpAny_release ⟨σ, H3, I3, q3⟩
def tAsg (te : TE) (g : TG) : TS := fun D σ H => te σ H fun x H1 => g x σ H1 D.nx
theorem ps_asg {tg e : Expr} {te : TE} {g : TG} (he : PE X e te) (hg : PG X tg g) (hs : swapsWithSole [tg] e pos.line X.env = pure false := by rfl) (hw : swappedStores [tg] e X.env = pure none := by rfl)
    (h1 : (assignEach [tg] X.env).map (·.2) = [assign tg X.env] := by rfl) : PS X (.Assign [tg] e pos) (tAsg te g) := by
  intro pins s σ H D I h
  refine wpAny_Assign_stores (thn (he pins s σ H _ I h) fun v s1 ⟨x, H1, I1, r1, q1⟩ => ?_) hs hw
  rw [h1]
  exact thn (hg pins s1 σ H1 x v _ I1 r1 q1) fun _ s2 q => q
theorem ps_set {i : Nat} {x : Str} {e : Expr} {te : TE} {pos' : Pos} (hN : X.N.Nodup) (hi : X.N[i]? = some x) (hx : Loc X.env.scope x) (he : PE X e te) (hs : swapsWith e (some (.Name x pos')) pos.line X.env = pure false := by rfl) (hf : X.fn x = true ∨ X.env.scope.names.lookup x = some .local := by first | exact .inl rfl | exact .inr rfl | assumption) :
    PS X (.Assign [.Name x pos'] e pos) (tAsg te (gName i)) := by
  intro pins s σ H D I h
  refine wpAny_Assign_Name (thn (he pins s σ H _ I h) fun v s1 ⟨y, H1, I1, r1, q1⟩ => ?_) hs
  exact store_ok I1 hN hi hx r1 (fun s2 I2 => ⟨_, H1, I2, q1⟩) hf
def tPar (i j : Nat) (ta : TA) : TS := fun D σ H => ta σ H fun vs H1 => ∃ v w, vs = [v, w] ∧ D.nx ((σ.set i (some v)).set j (some w)) H1
def tAug (i : Nat) (te : TE) (ti : TIp) : TS := fun D σ H => ∃ x, σ[i]? = some (some x) ∧ te σ H fun y H1 => ti x y H1 fun z H2 => D.nx (σ.set i (some z)) H2
theorem ps_aug {i : Nat} {x : Str} {e : Expr} {te : TE} {op : Operator} {ti : TIp} {pos' : Pos} (hN : X.N.Nodup) (hi : X.N[i]? = some x) (hx : Loc X.env.scope x) (he : PE X e te) (ho : PIp X op ti) (hf : X.fn x = true ∨ X.env.scope.names.lookup x = some .local := by first | exact .inl rfl | exact .inr rfl | assumption) :
    PS X (.AugAssign (.Name x pos') op e pos) (tAug i te ti) := by
  intro pins s σ H D I h
  obtain ⟨v, e1, h⟩ := h
  obtain ⟨m, hn, hl⟩ := I.loc
  have vis : Vis X.env.scope x := by rcases hx with k | k; exact .inl k; exact .inr (.inl k)
  obtain ⟨u, r, l⟩ := hl i x v hi e1 vis
  refine wpAny_AugAssign_Name ?_
  have go : wpAny (model X.prog X.w) X.A (eval e X.env) (fun w s₂ => wpAny (model X.prog X.w) X.A (inplaceOp op u w) (fun r s₃ => wpAny (model X.prog X.w) X.A (storeName X.env x r) (fun _ => SP X pins D .next) X.xe s₃) X.xe s₂) X.xe s := by
    refine thn (he pins s σ H _ I h) fun w s1 ⟨y, H1, I1, r1, q1⟩ => ?_
    refine thn (ho pins s1 σ H1 v y u w _ I1 r r1 q1) fun z s2 ⟨zv, H2, I2, r2, q2⟩ => ?_
    exact store_ok I2 hN hi hx r2 (fun s3 I3 => ⟨_, H2, I3, q2⟩) hf
  rcases l with ⟨hk, hm⟩ | ⟨hk, c, hc, hcell⟩
  · exact wpAny_loadName_local I.ok.kind hk hn hm go
  · rcases hk with hk | hk
    · exact wpAny_loadName_cell I.ok.kind hk hc hcell go
    · rcases hx with k | k
      · have : X.env.scope.names.lookup x = some .free := hk
        rw [k] at this; cases this
      · have : X.env.scope.names.lookup x = some .free := hk
        rw [k] at this; cases this
def tAugS (to ti te : TE) (tget : V → V → Hp → VK → Prop) (tip : TIp) (tset : TSet) : TS := fun D σ H => to σ H fun o H1 => ti σ H1 fun i H2 => tget o i H2 fun x H3 => te σ H3 fun y H4 => tip x y H4 fun z H5 => tset o i z H5 fun H6 => D.nx σ H6
def PGet (X : Cx) (t : V → V → Hp → VK → Prop) : Prop :=
  ∀ (pins : List (Addr × Obj)) (s : Shared) (σ : St) (H : Hp) (o i : V) (ov iv : Value) (Q : VK), Inv X pins σ H s → RelV o ov → RelV i iv → t o i H Q →
    wpAny (model X.prog X.w) X.A (getItem ov iv) (EP X pins σ Q) X.xe s
def ipI (f : Int → Int → Int) : TIp := fun x y H Q => ∃ i j, x = .int i ∧ y = .int j ∧ Q (.int (f i j)) H
theorem ip_add : PIp X .Add (ipI fun i j => i + j) := by
  intro pins s σ H x y v u Q I r1 r2 h
  obtain ⟨i, j, e1, e2, q⟩ := h
  subst e1; subst e2
  obtain ⟨t, rfl⟩ := r1
  obtain ⟨t', rfl⟩ := r2
  exact iadd_int ⟨.int _, H, I.tok _, ⟨_, rfl⟩, q⟩
end
section
variable {X : Cx} {pos : Pos}
def tWhile (c : TT) (tb : TS) : TS := fun D σ H => ∃ W : Nat → St → Hp → Prop, (∃ m, W m σ H) ∧ ∀ m σ H, W m σ H →
  c σ H fun b H1 => if b = true then ∃ N : St → Hp → Prop, (∀ σ' H', N σ' H' → ∃ m', m' < m ∧ W m' σ' H') ∧ tb { D with nx := N, ct := N, bk := D.nx } σ H1 else D.nx σ H1
theorem ps_while {c : Expr} {body : List Stmt} {tc : TT} {tb : TS} (hp : PassesOwn (model X.prog X.w) X.A X.env X.xe) (hc : PT X c tc) (hb : PSs X body tb) : PS X (.While c body [] pos) (tWhile tc tb) := by
  intro pins s σ H D I h
  obtain ⟨W, ⟨m0, w0⟩, turn⟩ := h
  refine wpAny_While (codeAny_whileLoop (fun n s' => ∃ σ' H', Inv X pins σ' H' s' ∧ W n σ' H') ?_ m0 ⟨σ, H, I, w0⟩)
  rintro n s1 ⟨σ1, H1, I1, w1⟩
  refine wpAny_passesOwn hp (thn (hc pins s1 σ1 H1 _ I1 (turn n σ1 H1 w1)) fun b s2 ⟨H2, I2, q2⟩ => ?_)
  cases b with
  | true =>
    obtain ⟨N, hN, q2⟩ := q2
    rw [if_pos rfl]
    refine wpAny_passesOwn hp (thn (hb pins s2 σ1 H2 _ I2 q2) fun f s3 q3 => ?_)
    cases f with
    | next =>
      obtain ⟨σ3, H3, I3, n3⟩ := q3
      obtain ⟨m', hm, w3⟩ := hN σ3 H3 n3
      exact ⟨m', hm, σ3, H3, I3, w3⟩
    | cont =>
      obtain ⟨σ3, H3, I3, n3⟩ := q3
      obtain ⟨m', hm, w3⟩ := hN σ3 H3 n3
      exact ⟨m', hm, σ3, H3, I3, w3⟩
    | brk => exact q3
    | ret v => exact q3
  | false =>
    rw [if_neg Bool.false_ne_true]
    exact wpAny_execs_nil ⟨σ1, H2, I2, q2⟩
end
structure It where
  go : Nat → Hp → Prop
  yld : Nat → Hp → V → Hp → Prop
  stop : Nat → Hp → Prop
def FpOk (X : Cx) (pins : List (Addr × Obj)) (H : Hp) (b : Addr) : Prop :=
  H b = none ∧ b ≠ X.env.locals ∧ b ∉ X.fs ∧ (b ∈ X.ex ∨ X.s₀.heap.objs.size ≤ b) ∧ (∀ x c, X.env.cells.lookup x = some c → c ≠ b) ∧ ∀ p ∈ X.pn ++ pins, p.1 ≠ b
theorem Inv.fpOk {X : Cx} {pins : List (Addr × Obj)} {σ : St} {H H' : Hp} {s : Shared} {b : Addr} (I : Inv X pins σ H s) (hb : s.heap.objs.size ≤ b) (hn : H' b = none) : FpOk X pins H' b := by
  refine ⟨hn, Nat.ne_of_gt (Nat.lt_of_lt_of_le I.lt hb), I.nofs hb, .inr (Nat.le_trans I.sz hb), fun x c e z => ?_, fun p hp z => ?_⟩
  · obtain ⟨v, q⟩ := I.cell x c e
    exact absurd (Nat.lt_of_lt_of_le q.lt (by rw [z]; exact hb)) (Nat.lt_irrefl _)
  · exact absurd (Nat.lt_of_lt_of_le (Heap.lt_size (I.pin p hp).1) (by rw [z]; exact hb)) (Nat.lt_irrefl _)
structure Turn (P : Program) (w : World) (K : PySem.W.Frag) (tg : Expr) (J : It) (fp : List Addr) (it : Addr) (tn : Nat → Heap → Prop) : Prop where
  mem : it ∈ fp
  obj : ∀ i h, tn i h → ∀ b ∈ fp, ∃ o, h.get? b = some o ∧ ∀ v, o.data ≠ .cell v
  keep : ∀ i h h', tn i h → (∀ b ∈ fp, ∀ o, h.get? b = some o → h'.get? b = some o) → tn i h'
  item : ∀ (X : Cx), X.prog = P → X.w = w → X.K = K → X.calm = true → ∀ (i : Nat) (pins : List (Addr × Obj)) (s : Shared) (σ : St) (H : Hp) (E : Value → Shared → Prop), Inv X pins σ H s → (∀ b ∈ fp, FpOk X pins H b) → tn i s.heap → J.go i H →
    wpAny (model P w) X.A (pyNext (.ref it)) (fun r s1 => ∃ u, r = some u ∧
      wpAny (model P w) X.A (letOwnedTupleGo tg (.ref it) u) (fun _ s2 => ∃ x H', Inv X pins σ H' s2 ∧ RelV x u ∧ J.yld i H x H' ∧ tn (i + 1) s2.heap ∧ ∀ b ∈ fp, H' b = none) E s1) E s
  done : ∀ (X : Cx), X.prog = P → X.w = w → X.K = K → X.calm = true → ∀ (i : Nat) (pins : List (Addr × Obj)) (s : Shared) (σ : St) (H : Hp) (E : Value → Shared → Prop), Inv X pins σ H s → (∀ b ∈ fp, FpOk X pins H b) → tn i s.heap → J.stop i H →
    wpAny (model P w) X.A (pyNext (.ref it)) (fun r s1 => r = none ∧ Inv X pins σ H s1) E s
  self : ∀ (A : Around) (i : Nat) (s : Shared) (Q : Value → Shared → Prop) (E : Value → Shared → Prop), tn i s.heap → Q (.ref it) s → wpAny (model P w) A (pyIter (.ref it)) Q E s
abbrev TI := St → Hp → (It → Hp → Prop) → Prop
def PIE (X : Cx) (pins : List (Addr × Obj)) (σ : St) (tg : Expr) (R : It → Hp → Prop) (itv : Value) (s2 : Shared) : Prop :=
  ∃ (it : Addr) (fp : List Addr) (tn : Nat → Heap → Prop) (J : It) (H' : Hp), itv = .ref it ∧ Inv X pins σ H' s2 ∧ Turn X.prog X.w X.K tg J fp it tn ∧ tn 0 s2.heap ∧ (∀ b ∈ fp, FpOk X pins H' b) ∧ R J H'
def PI (X : Cx) (tg iter : Expr) (wi : TI) : Prop :=
  ∀ (pins : List (Addr × Obj)) (s : Shared) (σ : St) (H : Hp) (R : It → Hp → Prop), Inv X pins σ H s → wi σ H R →
    wpAny (model X.prog X.w) X.A (eval iter X.env) (fun v s1 => wpAny (model X.prog X.w) X.A (pyIter v) (PIE X pins σ tg R) X.xe s1) X.xe s
theorem go_of {M : Model} {A : Around} {E : Value → Shared → Prop} {s : Shared} {tg : Expr} {it : Addr} {u : Value} {o : Obj} {n : String} {vs : Array Value} {Q : Unit → Shared → Prop} (ho : s.heap.get? it = some o) (hc : o.cls = .type n) (hd : o.data = .fields vs)
    (hn : ["enumerate", "zip", "dict_itemiterator", "dict_reverseitemiterator", "odict_iterator", "itertools.zip_longest", "itertools.pairwise"].contains n = false) (hQ : Q () s) : wpAny M A (letOwnedTupleGo tg (.ref it) u) Q E s := by
  unfold letOwnedTupleGo
  cases tg <;> first
    | exact wpAny_pure hQ
    | (cases u <;> first
        | exact wpAny_pure hQ
        | (refine wpAny_bind (wpAny_load ho ?_)
           rw [hc, hd]
           show wpAny M A (if (["enumerate", "zip", "dict_itemiterator", "dict_reverseitemiterator", "odict_iterator", "itertools.zip_longest", "itertools.pairwise"].contains n && vs[0]? == some (rawInt _)) = true then _ else _) Q E s
           rw [if_neg (by intro h; rw [hn, Bool.false_and] at h; cases h)]
           exact wpAny_pure hQ))
def Itl (K : PySem.W.Frag) (a : Addr) : It :=
  ⟨fun i H => ∃ xs x, SqL K H a xs ∧ xs[i]? = some x, fun i H x H' => H' = H ∧ ∀ xs, SqL K H a xs → xs[i]? = some x, fun i H => ∃ xs, SqL K H a xs ∧ xs.length ≤ i⟩
def Itt (K : PySem.W.Frag) (a : Addr) : It :=
  ⟨fun i H => ∃ xs x, SqT K H a xs ∧ xs[i]? = some x, fun i H x H' => H' = H ∧ ∀ xs, SqT K H a xs → xs[i]? = some x, fun i H => ∃ xs, SqT K H a xs ∧ xs.length ≤ i⟩
def Itr (lo : Int) (n : Nat) : It := ⟨fun i _ => i < n, fun i H x H' => H' = H ∧ x = .int (lo + i), fun i _ => n ≤ i⟩
theorem turn_list {P : Program} {w : World} {K : PySem.W.Frag} {tg : Expr} (a it : Addr) : Turn P w K tg (Itl K a) [it] it (fun i h => h.IsListIter it a i) where
  mem := by simp
  obj := fun i h st b hb => by
    have e : b = it := by simpa using hb
    subst e
    obtain ⟨o, e, c, d⟩ := st
    exact ⟨o, e, fun v z => by rw [d] at z; cases z⟩
  keep := fun i h h' st k => st.at fun o e => k it (by simp) o e
  item := by
    intro X hP hw hK hc i pins s σ H E I hf st hg
    subst hP hw hK
    obtain ⟨xs, x, hq, hx⟩ := hg
    obtain ⟨its, rv, p, hz⟩ := I.list hq
    obtain ⟨u, hu, ru⟩ := rv.get hx
    obtain ⟨f0, f1, f2, f3, f4, f5⟩ := hf it (by simp)
    refine wpAny_pyNext_list_item st p.isList (x := u) (by simpa using hu) fun h' st' sb => ?_
    have I1 : Inv X pins σ H { s with heap := h' } := I.turned (t' := s.toks) (fun b o hb e => (sb.2 b hb).trans e) f0 f1 f3 f4 f5
    obtain ⟨o, e, c, d⟩ := id st'
    exact ⟨u, rfl, go_of (s := { s with heap := h' }) e c d (by decide) ⟨x, H, I1, ru, ⟨rfl, fun ys hy => by rw [I.list_inj hy hq]; exact hx⟩, st', fun b hb => (hf b hb).1⟩⟩
  done := by
    intro X hP hw hK hc i pins s σ H E I hf st hg
    subst hP hw hK
    obtain ⟨xs, hq, hx⟩ := hg
    obtain ⟨its, rv, p, hz⟩ := I.list hq
    obtain ⟨f0, f1, f2, f3, f4, f5⟩ := hf it (by simp)
    have hl := rv.length
    exact wpAny_pyNext_list_end (I.ok.hd hc) st p.isList (by simp; omega) fun h' eb => ⟨rfl, I.turned (t' := s.toks) (fun b o hb e => eb b o hb e) f0 f1 f3 f4 f5⟩
  self := fun _ _ _ _ _ st h => wpAny_pyIter_listiter st h
theorem turn_tuple {P : Program} {w : World} {K : PySem.W.Frag} {tg : Expr} (a it : Addr) : Turn P w K tg (Itt K a) [it] it (fun i h => h.IsTupleIter it a i) where
  mem := by simp
  obj := fun i h st b hb => by
    have e : b = it := by simpa using hb
    subst e
    obtain ⟨o, e, c, d⟩ := st
    exact ⟨o, e, fun v z => by rw [d] at z; cases z⟩
  keep := fun i h h' st k => st.at fun o e => k it (by simp) o e
  item := by
    intro X hP hw hK hc i pins s σ H E I hf st hg
    subst hP hw hK
    obtain ⟨xs, x, hq, hx⟩ := hg
    obtain ⟨its, rv, p, hz⟩ := I.tuple hq
    obtain ⟨u, hu, ru⟩ := rv.get hx
    obtain ⟨f0, f1, f2, f3, f4, f5⟩ := hf it (by simp)
    refine wpAny_pyNext_tuple_item st (show s.heap.IsTuple a its.toArray from p) (x := u) (by simpa using hu) fun h' st' sb => ?_
    have I1 : Inv X pins σ H { s with heap := h' } := I.turned (t' := s.toks) (fun b o hb e => (sb.2 b hb).trans e) f0 f1 f3 f4 f5
    obtain ⟨o, e, c, d⟩ := id st'
    exact ⟨u, rfl, go_of (s := { s with heap := h' }) e c d (by decide) ⟨x, H, I1, ru, ⟨rfl, fun ys hy => by rw [I.tuple_inj hy hq]; exact hx⟩, st', fun b hb => (hf b hb).1⟩⟩
  done := by
    intro X hP hw hK hc i pins s σ H E I hf st hg
    subst hP hw hK
    obtain ⟨xs, hq, hx⟩ := hg
    obtain ⟨its, rv, p, hz⟩ := I.tuple hq
    obtain ⟨f0, f1, f2, f3, f4, f5⟩ := hf it (by simp)
    have hl := rv.length
    exact wpAny_pyNext_tuple_end (I.ok.hd hc) st (show s.heap.IsTuple a its.toArray from p) (by simp; omega) fun h' eb => ⟨rfl, I.turned (t' := s.toks) (fun b o hb e => eb b o hb e) f0 f1 f3 f4 f5⟩
  self := fun _ _ _ _ _ st h => wpAny_pyIter_tupleiter st h
theorem turn_range {P : Program} {w : World} {K : PySem.W.Frag} {tg : Expr} (it : Addr) (lo : Int) (n : Nat) : Turn P w K tg (Itr lo n) [it] it (fun i h => IsRangeIter h it (lo + (i : Nat) * 1) ((n : Int) - (i : Nat)) 1) where
  mem := by simp
  obj := fun i h st b hb => by
    have e : b = it := by simpa using hb
    subst e
    exact ⟨_, st, fun v z => by
      have z' : Data.fields _ = Data.cell v := z
      cases z'⟩
  keep := fun i h h' st k => k it (by simp) _ st
  item := by
    intro X hP hw hK hc i pins s σ H E I hf st hg
    subst hP hw hK
    obtain ⟨f0, f1, f2, f3, f4, f5⟩ := hf it (by simp)
    have W := Walks.range (prog := X.prog) (w := X.w) (I.ok.hd hc) it lo 1 n
    refine W.item i s _ _ hg st fun v h' tk hv st' kk => ?_
    obtain ⟨t, rfl⟩ := hv
    have I1 : Inv X pins σ H { s with heap := h', toks := tk } := I.turned (fun b o hb e => kk b o (by simpa using hb) e) f0 f1 f3 f4 f5
    refine ⟨_, rfl, go_of (s := { s with heap := h', toks := tk }) (n := "range_iterator") st' rfl rfl (by decide) ⟨.int (lo + i), H, I1, ⟨t, ?_⟩, ⟨rfl, rfl⟩, st', fun b hb => (hf b hb).1⟩⟩
    rw [Int.mul_one]
  done := by
    intro X hP hw hK hc i pins s σ H E I hf st hg
    subst hP hw hK
    obtain ⟨f0, f1, f2, f3, f4, f5⟩ := hf it (by simp)
    exact wpAny_pyNext_range_end (I.ok.hd hc) st (by have : n ≤ i := hg; omega) fun h' eb => ⟨rfl, I.turned (t' := s.toks) (fun b o hb e => eb b o hb e) f0 f1 f3 f4 f5⟩
  self := fun _ _ _ _ _ st h => wpAny_pyIter_rangeiter st h
end L2
namespace L2
open PySem PySem.Spec PyProof.Rows
section
variable {X : Cx} {tg : Expr}
def iList (K : PySem.W.Frag) (tl : TE) : TI := fun σ H R => tl σ H fun x H1 => ∃ a, x = .ref a ∧ (∃ xs, SqL K H1 a xs) ∧ R (Itl K a) H1
def iTup (K : PySem.W.Frag) (tl : TE) : TI := fun σ H R => tl σ H fun x H1 => ∃ a, x = .ref a ∧ (∃ xs, SqT K H1 a xs) ∧ R (Itt K a) H1
theorem range_it {pins : List (Addr × Obj)} {σ : St} {H : Hp} {s : Shared} {R : It → Hp → Prop} {E : Value → Shared → Prop} {lo hi : Int} {t u v : Tok} {tk : Nat} (I : Inv X pins σ H s) (h1 : -(2 ^ 62) ≤ lo) (h2 : lo < 2 ^ 62) (h3 : -(2 ^ 62) ≤ hi) (h4 : hi < 2 ^ 62)
    (q : R (Itr lo (hi - lo).toNat) H) : wpAny (model X.prog X.w) X.A (pyIter (.ref s.heap.objs.size)) (PIE X pins σ tg R) E { s with heap := s.heap.push { cls := .type "range", data := .fields #[.int lo t, .int hi u, .int 1 v] }, toks := tk } := by
  refine wpAny_pyIter_range (IsRange.new ..) (small_one h1 h2 h3 h4) ?_
  have I1 : Inv X pins σ H { s with heap := s.heap.push { cls := .type "range", data := .fields #[.int lo t, .int hi u, .int 1 v] }, toks := tk } := I.kept fun b o e => Heap.get?_push_of_some _ e
  refine ⟨(s.heap.push { cls := .type "range", data := .fields #[.int lo t, .int hi u, .int 1 v] }).objs.size, [(s.heap.push { cls := .type "range", data := .fields #[.int lo t, .int hi u, .int 1 v] }).objs.size], _, _, H, rfl,
    I1.kept (t' := tk) fun b o e => Heap.get?_push_of_some _ e, turn_range _ lo (hi - lo).toNat, ?_, fun b hb => ?_, q⟩
  · have e1 : lo + ((0 : Nat) : Int) * 1 = lo := by simp
    have e2 : (((hi - lo).toNat : Nat) : Int) - ((0 : Nat) : Int) = Builtin.Range.rangeSize lo hi 1 := by rw [rangeSize_one]; split <;> omega
    show IsRangeIter _ _ (lo + ((0 : Nat) : Int) * 1) ((((hi - lo).toNat : Nat) : Int) - ((0 : Nat) : Int)) 1
    rw [e1, e2]
    exact Heap.get?_push_size _ rfl
  · have e : b = (s.heap.push { cls := .type "range", data := .fields #[.int lo t, .int hi u, .int 1 v] }).objs.size := by simpa using hb
    subst e
    exact I1.fpOk (Nat.le_refl _) (I1.hok.fresh (Nat.le_refl _))
def iRng1 (ta : TA) : TI := fun σ H R => ta σ H fun vs H1 => ∃ j : Int, vs = [.int j] ∧ -(2 ^ 62) ≤ j ∧ j < 2 ^ 62 ∧ R (Itr 0 j.toNat) H1
def iRng2 (ta : TA) : TI := fun σ H R => ta σ H fun vs H1 => ∃ i j : Int, vs = [.int i, .int j] ∧ (-(2 ^ 62) ≤ i ∧ i < 2 ^ 62 ∧ -(2 ^ 62) ≤ j ∧ j < 2 ^ 62) ∧ R (Itr i (j - i).toNat) H1
theorem pi_range1 {a : Expr} {ta : TA} {p pos : Pos} (hg : Gl X "range") (hm : X.mg "range" = none) (ha : PA X [a] ta) (hs : starEach [a] X.env = [(false, eval a X.env)] := by rfl) : PI X tg (.Call (.Name "range" p) [a] [] pos) (iRng1 ta) := by
  intro pins s σ H R I h
  refine Call_ (ld_blt I hg hm boot_range (PyProof.Rows.callWith_type1 (thn (ha pos pins s σ H _ I h) fun us s1 ⟨vs, H1, I1, r1, q1⟩ => ?_) hs rfl))
  obtain ⟨j, e, q1, q2, q⟩ := q1
  subst e
  cases r1 with
  | cons r rr =>
    cases rr
    obtain ⟨t, rfl⟩ := r
    exact call_range_1 (range_it I1 (by omega) (by omega) q1 q2 (by simpa using q))
theorem pi_range2 {a b : Expr} {ta : TA} {p pos : Pos} (hg : Gl X "range") (hm : X.mg "range" = none) (ha : PA X [a, b] ta) (hs : starEach [a, b] X.env = [(false, eval a X.env), (false, eval b X.env)] := by rfl) (hs2 : starEach [b] X.env = [(false, eval b X.env)] := by rfl) :
    PI X tg (.Call (.Name "range" p) [a, b] [] pos) (iRng2 ta) := by
  intro pins s σ H R I h
  refine Call_ (ld_blt I hg hm boot_range (PyProof.Rows.callWith_type1 (thn (ha pos pins s σ H _ I h) fun us s1 ⟨vs, H1, I1, r1, q1⟩ => ?_) (by rw [hs, hs2]) (by rw [hs2]; rfl)))
  obtain ⟨i, j, e, ⟨q1, q2, q3, q4⟩, q⟩ := q1
  subst e
  cases r1 with
  | cons r rr =>
    cases rr with
    | cons r' rr =>
      cases rr
      obtain ⟨t, rfl⟩ := r
      obtain ⟨t', rfl⟩ := r'
      exact call_range_2 (range_it I1 q1 q2 q3 q4 q)
def tFor (wi : TI) (g : TG) (tb : TS) : TS := fun D σ H => wi σ H fun J H1 => ∃ W : Nat → Nat → St → Hp → Prop, (∃ m, W 0 m σ H1) ∧ ∀ i m σ H, W i m σ H →
  (J.stop i H ∧ D.nx σ H) ∨ (J.go i H ∧ ∃ N : St → Hp → Prop, (∀ σ' H', N σ' H' → ∃ m', m' < m ∧ W (i + 1) m' σ' H') ∧ ∀ x H', J.yld i H x H' → g x σ H' fun σ2 H2 => tb { D with nx := N, ct := N, bk := D.nx } σ2 H2)
def pinsAt (fp : List Addr) (h : Heap) : List (Addr × Obj) := fp.filterMap fun b => (h.get? b).map fun o => (b, o)
theorem mem_pinsAt {fp : List Addr} {h : Heap} {b : Addr} {o : Obj} (hb : b ∈ fp) (e : h.get? b = some o) : (b, o) ∈ pinsAt fp h := List.mem_filterMap.mpr ⟨b, hb, by rw [e]; rfl⟩
theorem of_pinsAt {fp : List Addr} {h : Heap} {p : Addr × Obj} (hp : p ∈ pinsAt fp h) : p.1 ∈ fp ∧ h.get? p.1 = some p.2 := by
  obtain ⟨b, hb, e⟩ := List.mem_filterMap.mp hp
  cases q : h.get? b with
  | none => rw [q] at e; cases e
  | some o =>
    rw [q] at e
    have e' : (b, o) = p := Option.some.inj e
    subst e'
    exact ⟨hb, q⟩
theorem Inv.pinned {pins : List (Addr × Obj)} {σ : St} {H : Hp} {s : Shared} {fp : List Addr} (I : Inv X pins σ H s) (hf : ∀ b ∈ fp, FpOk X pins H b) (ho : ∀ b ∈ fp, ∃ o, s.heap.get? b = some o ∧ ∀ v, o.data ≠ .cell v) : Inv X (pins ++ pinsAt fp s.heap) σ H s :=
  I.pins_of fun p hp => (List.mem_append.mp hp).elim (fun z => I.pin p (List.mem_append_right _ z)) fun z => by
    obtain ⟨hb, e⟩ := of_pinsAt z
    obtain ⟨f0, f1, f2, _⟩ := hf p.1 hb
    obtain ⟨o, e', d⟩ := ho p.1 hb
    rw [e] at e'; cases e'
    exact ⟨e, f0, f1, f2, d⟩
theorem Inv.unpinned {pins pl : List (Addr × Obj)} {σ : St} {H : Hp} {s : Shared} (I : Inv X (pins ++ pl) σ H s) : Inv X pins σ H s := I.pins_of fun p hp => I.pin p (List.mem_append_right _ (List.mem_append_left _ hp))
theorem ps_for {iter : Expr} {body : List Stmt} {wi : TI} {g : TG} {tb : TS} {pos : Pos} (hp : PassesOwn (model X.prog X.w) X.A X.env X.xe) (hc : X.calm = true) (hi : PI X tg iter wi) (hg : PG X tg g) (hb : PSs X body tb)
    (hs : ∀ x, foldedSetIterable iter X.env x = pure x := by intro _; rfl) : PS X (.For tg iter body [] pos) (tFor wi g tb) := by
  intro pins s σ H D I h
  refine wpAny_For (thn (hi pins s σ H _ I h) fun v s1 h1 => thn h1 fun itv s2 h2 => ?_) hs
  obtain ⟨it, fp, tn, J, H2, e, I2, T, st2, f2, W, ⟨m0, w0⟩, turn⟩ := h2
  subst e
  have stat : ∀ {H' : Hp}, (∀ b ∈ fp, H' b = none) → ∀ b ∈ fp, FpOk X pins H' b := fun hn b hb => ⟨hn b hb, (f2 b hb).2⟩
  refine codeAny_forLoop_any (fun n s' => ∃ i σ' H', Inv X pins σ' H' s' ∧ tn i s'.heap ∧ (∀ b ∈ fp, H' b = none) ∧ W i n σ' H') ?_ m0 ⟨0, σ, H2, I2, st2, fun b hb => (f2 b hb).1, w0⟩
  rintro n s3 ⟨i, σ3, H3, I3, st3, fr3, w3⟩
  rcases turn i n σ3 H3 w3 with ⟨stop, qn⟩ | ⟨go, N, hN, step⟩
  · refine wpAny_passesOwn hp (thn (T.done X rfl rfl rfl hc i pins s3 σ3 H3 X.xe I3 (stat fr3) st3 stop) fun r s4 ⟨hr, I4⟩ => ?_)
    subst hr
    exact wpAny_execs_nil ⟨σ3, H3, I4, qn⟩
  · refine wpAny_passesOwn hp (thn (T.item X rfl rfl rfl hc i pins s3 σ3 H3 X.xe I3 (stat fr3) st3 go) fun r s4 ⟨u, hr, h4⟩ => ?_)
    subst hr
    refine wpAny_passesOwn hp (thn h4 fun _ s5 ⟨x, H5, I5, r5, y5, st5, fr5⟩ => ?_)
    have I5' := I5.pinned (stat fr5) (T.obj _ _ st5)
    refine wpAny_passesOwn hp (thn (hg _ s5 σ3 H5 x u _ I5' r5 (step x H5 y5)) fun _ s6 ⟨σ6, H6, I6, q6⟩ => ?_)
    refine wpAny_passesOwn hp (thn (hb _ s6 σ6 H6 _ I6 q6) fun f s7 q7 => ?_)
    have again : ∀ {σ7 : St} {H7 : Hp}, Inv X (pins ++ pinsAt fp s5.heap) σ7 H7 s7 → N σ7 H7 → ∃ m, m < n ∧ ∃ i σ' H', Inv X pins σ' H' s7 ∧ tn i s7.heap ∧ (∀ b ∈ fp, H' b = none) ∧ W i m σ' H' := fun {σ7 H7} I7 n7 => by
      obtain ⟨m', hm, w7⟩ := hN σ7 H7 n7
      refine ⟨m', hm, i + 1, σ7, H7, I7.unpinned, T.keep _ _ _ st5 fun b hb o e => (I7.pin (b, o) (List.mem_append_right _ (List.mem_append_right _ (mem_pinsAt hb e)))).1, fun b hb => ?_, w7⟩
      obtain ⟨o, e, d⟩ := T.obj _ _ st5 b hb
      exact (I7.pin (b, o) (List.mem_append_right _ (List.mem_append_right _ (mem_pinsAt hb e)))).2.1
    cases f with
    | next => obtain ⟨σ7, H7, I7, n7⟩ := q7; exact again I7 n7
    | cont => obtain ⟨σ7, H7, I7, n7⟩ := q7; exact again I7 n7
    | brk => obtain ⟨σ7, H7, I7, q7⟩ := q7; exact ⟨σ7, H7, I7.unpinned, q7⟩
    | ret v => obtain ⟨x7, σ7, H7, I7, r7, q7⟩ := q7; exact ⟨x7, σ7, H7, I7.unpinned, r7, q7⟩
end
theorem for_list {K : PySem.W.Frag} {a : Addr} {xs : List V} {g : TG} {tb : TS} {D : Ends} {σ : St} {H : Hp} (Pv : Nat → St → Hp → Prop) (h0 : Pv 0 σ H) (hl : ∀ i σ H, i ≤ xs.length → Pv i σ H → SqL K H a xs)
    (hs : ∀ i x σ H, xs[i]? = some x → Pv i σ H → g x σ H fun σ2 H2 => tb { D with nx := Pv (i + 1), ct := Pv (i + 1), bk := D.nx } σ2 H2) (hd : ∀ σ H, Pv xs.length σ H → D.nx σ H) :
    ∃ W : Nat → Nat → St → Hp → Prop, (∃ m, W 0 m σ H) ∧ ∀ i m σ H, W i m σ H →
      ((Itl K a).stop i H ∧ D.nx σ H) ∨ ((Itl K a).go i H ∧ ∃ N : St → Hp → Prop, (∀ σ' H', N σ' H' → ∃ m', m' < m ∧ W (i + 1) m' σ' H') ∧ ∀ x H', (Itl K a).yld i H x H' → g x σ H' fun σ2 H2 => tb { D with nx := N, ct := N, bk := D.nx } σ2 H2) := by
  refine ⟨fun i m σ H => m = xs.length - i ∧ i ≤ xs.length ∧ Pv i σ H, ⟨xs.length, by simp, Nat.zero_le _, h0⟩, ?_⟩
  rintro i m σ H ⟨rfl, hi, p⟩
  have q := hl i σ H hi p
  by_cases hlt : i < xs.length
  · refine .inr ⟨⟨xs, xs[i], q, by simp [hlt]⟩, Pv (i + 1), fun σ' H' p' => ⟨xs.length - (i + 1), by omega, rfl, hlt, p'⟩, fun x H' y => ?_⟩
    obtain ⟨e, y⟩ := y
    subst e
    exact hs i x σ _ (y xs q) p
  · have e : i = xs.length := by omega
    subst e
    exact .inl ⟨⟨xs, q, Nat.le_refl _⟩, hd σ H p⟩
theorem for_range {lo : Int} {n : Nat} {g : TG} {tb : TS} {D : Ends} {σ : St} {H : Hp} (Pv : Nat → St → Hp → Prop) (h0 : Pv 0 σ H)
    (hs : ∀ i σ H, i < n → Pv i σ H → g (.int (lo + i)) σ H fun σ2 H2 => tb { D with nx := Pv (i + 1), ct := Pv (i + 1), bk := D.nx } σ2 H2) (hd : ∀ σ H, Pv n σ H → D.nx σ H) :
    ∃ W : Nat → Nat → St → Hp → Prop, (∃ m, W 0 m σ H) ∧ ∀ i m σ H, W i m σ H →
      ((Itr lo n).stop i H ∧ D.nx σ H) ∨ ((Itr lo n).go i H ∧ ∃ N : St → Hp → Prop, (∀ σ' H', N σ' H' → ∃ m', m' < m ∧ W (i + 1) m' σ' H') ∧ ∀ x H', (Itr lo n).yld i H x H' → g x σ H' fun σ2 H2 => tb { D with nx := N, ct := N, bk := D.nx } σ2 H2) := by
  refine ⟨fun i m σ H => m = n - i ∧ i ≤ n ∧ Pv i σ H, ⟨n, by simp, Nat.zero_le _, h0⟩, ?_⟩
  rintro i m σ H ⟨rfl, hi, p⟩
  by_cases hlt : i < n
  · refine .inr ⟨hlt, Pv (i + 1), fun σ' H' p' => ⟨n - (i + 1), by omega, rfl, hlt, p'⟩, fun x H' y => ?_⟩
    obtain ⟨e, y⟩ := y
    subst e y
    exact hs i σ _ hlt p
  · have e : i = n := by omega
    subst e
    exact .inl ⟨Nat.le_refl _, hd σ H p⟩
end L2
namespace L2
open PySem PySem.Spec PyProof.Rows
abbrev R2 := V → V → Hp → VK → Prop
def OpR (X : Cx) (f : Value → Value → Sem Value) (r : R2) : Prop :=
  ∀ (pins : List (Addr × Obj)) (s : Shared) (σ : St) (H : Hp) (x y : V) (v u : Value) (Q : VK), Inv X pins σ H s → RelV x v → RelV y u → r x y H Q →
    wpAny (model X.prog X.w) X.A (f v u) (EP X pins σ Q) X.xe s
def UnR (X : Cx) (f : Value → Sem Value) (r : V → Hp → VK → Prop) : Prop :=
  ∀ (pins : List (Addr × Obj)) (s : Shared) (σ : St) (H : Hp) (x : V) (v : Value) (Q : VK), Inv X pins σ H s → RelV x v → r x H Q →
    wpAny (model X.prog X.w) X.A (f v) (EP X pins σ Q) X.xe s
def CallR (X : Cx) (f : Value) (r : List V → Hp → VK → Prop) : Prop :=
  ∀ (pins : List (Addr × Obj)) (s : Shared) (σ : St) (H : Hp) (xs : List V) (us : List Value) (Q : VK), Inv X pins σ H s → Vals xs us → r xs H Q →
    wpAny (model X.prog X.w) X.A (call f us) (EP X pins σ Q) X.xe s
def TruR (X : Cx) (r : V → Hp → (Bool → Hp → Prop) → Prop) : Prop :=
  ∀ (pins : List (Addr × Obj)) (s : Shared) (σ : St) (H : Hp) (x : V) (v : Value) (Q : Bool → Hp → Prop), Inv X pins σ H s → RelV x v → r x H Q →
    wpAny (model X.prog X.w) X.A (truthy v) (TP X pins σ Q) X.xe s
def tOp (r : R2) (ta tb : TE) : TE := fun σ H Q => ta σ H fun x H1 => tb σ H1 fun y H2 => r x y H2 Q
def tUn (r : V → Hp → VK → Prop) (ta : TE) : TE := fun σ H Q => ta σ H fun x H1 => r x H1 Q
def rI (C : Int → Int → Prop) (g : Int → Int → V) : R2 := fun x y H Q => ∃ i j, x = .int i ∧ y = .int j ∧ C i j ∧ Q (g i j) H
def rI0 (g : Int → Int → V) : R2 := fun x y H Q => ∃ i j, x = .int i ∧ y = .int j ∧ Q (g i j) H
def rU (g : Int → V) : V → Hp → VK → Prop := fun x H Q => ∃ i, x = .int i ∧ Q (g i) H
section
variable {X : Cx} {a b c : Expr} {ta tb tc : TE} {pos : Pos}
theorem binT (ha : PE X a ta) (hb : PE X b tb) {pins : List (Addr × Obj)} {s : Shared} {σ : St} {H : Hp} {R : V → V → Hp → Prop} (I : Inv X pins σ H s)
    (h : ta σ H fun x H1 => tb σ H1 fun y H2 => R x y H2) {Q : Value → Shared → Prop} {f : Value → Value → Sem Value}
    (hf : ∀ v u s2 x y H2, Inv X pins σ H2 s2 → RelV x v → RelV y u → R x y H2 → wpAny (model X.prog X.w) X.A (f v u) Q X.xe s2) :
    wpAny (model X.prog X.w) X.A (eval a X.env) (fun v s₁ => wpAny (model X.prog X.w) X.A (eval b X.env) (fun u s₂ => wpAny (model X.prog X.w) X.A (f v u) Q X.xe s₂) X.xe s₁) X.xe s := by
  refine thn (ha pins s σ H _ I h) fun v s1 ⟨x, H1, I1, r1, q1⟩ => ?_
  refine thn (hb pins s1 σ H1 _ I1 q1) fun u s2 ⟨y, H2, I2, r2, q2⟩ => ?_
  exact hf v u s2 x y H2 I2 r1 r2 q2
theorem pe_op {op : Operator} {r : R2} (ho : OpR X (binaryOp op) r) (ha : PE X a ta) (hb : PE X b tb) : PE X (.BinOp a op b pos) (tOp r ta tb) := by
  intro pins s σ H Q I h
  exact wpAny_BinOp (binT ha hb I h fun v u s2 x y H2 I2 rx ry q => ho pins s2 σ H2 x y v u Q I2 rx ry q)
theorem opI {f : Value → Value → Sem Value} {C : Int → Int → Prop} {g : Int → Int → Int}
    (rule : ∀ (i j : Int) (t u : Tok) (s : Shared) (Q : Value → Shared → Prop) (E : Value → Shared → Prop), C i j → Q (.int (g i j) s.toks) { s with toks := s.toks + 1 } → wpAny (model X.prog X.w) X.A (f (.int i t) (.int j u)) Q E s) :
    OpR X f (rI C fun i j => .int (g i j)) := by
  intro pins s σ H x y v u Q I rx ry h
  obtain ⟨i, j, rfl, rfl, hc, q⟩ := h
  obtain ⟨t, rfl⟩ := rx
  obtain ⟨t', rfl⟩ := ry
  exact rule i j t t' s _ _ hc ⟨.int (g i j), H, I.tok _, ⟨_, rfl⟩, q⟩
theorem opI0 {f : Value → Value → Sem Value} {g : Int → Int → Int}
    (rule : ∀ (i j : Int) (t u : Tok) (s : Shared) (Q : Value → Shared → Prop) (E : Value → Shared → Prop), Q (.int (g i j) s.toks) { s with toks := s.toks + 1 } → wpAny (model X.prog X.w) X.A (f (.int i t) (.int j u)) Q E s) :
    OpR X f (rI0 fun i j => .int (g i j)) := by
  intro pins s σ H x y v u Q I rx ry h
  obtain ⟨i, j, rfl, rfl, q⟩ := h
  obtain ⟨t, rfl⟩ := rx
  obtain ⟨t', rfl⟩ := ry
  exact rule i j t t' s _ _ ⟨.int (g i j), H, I.tok _, ⟨_, rfl⟩, q⟩
theorem opB0 {f : Value → Value → Sem Value} {g : Int → Int → Bool}
    (rule : ∀ (i j : Int) (t u : Tok) (s : Shared) (Q : Value → Shared → Prop) (E : Value → Shared → Prop), Q (.bool (g i j)) s → wpAny (model X.prog X.w) X.A (f (.int i t) (.int j u)) Q E s) :
    OpR X f (rI0 fun i j => .bl (g i j)) := by
  intro pins s σ H x y v u Q I rx ry h
  obtain ⟨i, j, rfl, rfl, q⟩ := h
  obtain ⟨t, rfl⟩ := rx
  obtain ⟨t', rfl⟩ := ry
  exact rule i j t t' s _ _ ⟨.bl (g i j), H, I, rfl, q⟩
def CDiv (i j : Int) : Prop := 0 < j ∧ j < 1073741824
def CDivN (i j : Int) : Prop := j ≠ 0 ∧ j.natAbs < 1073741824
def CPow (i j : Int) : Prop := 0 ≤ j ∧ j ≤ 1000000 ∧ i.natAbs < 2 ^ 64
def CMul (i j : Int) : Prop := (-(2 ^ 64) < i ∧ i < 2 ^ 64) ∨ (-(2 ^ 64) < j ∧ j < 2 ^ 64)
theorem CMul.ok {i j : Int} (h : CMul i j) : IntMulOk i j := by
  rcases h with ⟨h1, h2⟩ | ⟨h1, h2⟩
  · exact .of_left (intBits_le_64 h1 h2)
  · exact .of_right (intBits_le_64 h1 h2)
theorem op_add : OpR X (binaryOp .Add) (rI0 fun i j => .int (i + j)) := opI0 fun _ _ _ _ _ _ _ q => add_int q
theorem op_sub : OpR X (binaryOp .Sub) (rI0 fun i j => .int (i - j)) := opI0 fun _ _ _ _ _ _ _ q => sub_int q
theorem op_mul : OpR X (binaryOp .Mult) (rI CMul fun i j => .int (i * j)) := opI fun _ _ _ _ _ _ _ hc q => mul_int q hc.ok
theorem op_mod : OpR X (binaryOp .Mod) (rI (fun _ j => 0 < j) fun i j => .int (i % j)) := opI fun i j _ _ _ _ _ hc q => by
  have h1 : (0 : Int) < j := hc
  exact mod_int' (by omega) (by rw [Int.fmod_eq_emod_of_nonneg i (by omega)]; exact q)
theorem op_pow : OpR X (binaryOp .Pow) (rI CPow fun i j => .int (i ^ j.toNat)) := opI fun _ _ _ _ _ _ _ hc q => pow_int_small hc.1 hc.2.1 hc.2.2 q
end
def scal : V → V → Bool
  | .non, .non => true | .non, .int _ => true | .int _, .non => true | .non, .bl _ => true | .bl _, .non => true | .non, .str _ => true | .str _, .non => true
  | .int _, .int _ => true | .bl _, .bl _ => true | .str _, .str _ => true | .byt _, .byt _ => true
  | .int _, .str _ => true | .str _, .int _ => true | .bl _, .str _ => true | .str _, .bl _ => true
  | _, _ => false
def rEq : R2 := fun x y H Q => scal x y = true ∧ Q (.bl (decide (x = y))) H
def rNe : R2 := fun x y H Q => scal x y = true ∧ Q (.bl (!decide (x = y))) H
theorem dec_int {i j : Int} : decide (V.int i = V.int j) = (i == j) := by
  rw [Bool.eq_iff_iff]
  simp
theorem dec_bl {i j : Bool} : decide (V.bl i = V.bl j) = (i == j) := by
  rw [Bool.eq_iff_iff]
  simp
theorem dec_str {i j : Str} : decide (V.str i = V.str j) = (i == j) := by
  rw [Bool.eq_iff_iff]
  simp
theorem dec_byt {i j : Array UInt8} : decide (V.byt i = V.byt j) = (i.toList == j.toList) := by
  rw [Bool.eq_iff_iff]
  cases i
  cases j
  simp
section
variable {X : Cx} {a b c : Expr} {ta tb tc : TE} {pos : Pos}
theorem fin_bl {pins : List (Addr × Obj)} {σ : St} {H : Hp} {s : Shared} {Q : VK} {k k' : Bool} (I : Inv X pins σ H s) (q : Q (.bl k) H) (e : k = k') : EP X pins σ Q (.bool k') s := by
  subst e
  exact ⟨.bl k, H, I, rfl, q⟩
theorem op_eq : OpR X (compareOp .Eq) rEq := by
  intro pins s σ H x y v u Q I rx ry h
  obtain ⟨hs, q⟩ := h
  cases x with
  | non =>
    cases rx
    cases y with
    | non => cases ry; exact PySem.EqNone.eq_none_none (fin_bl I q (by simp))
    | bl j => cases ry; exact PySem.EqNone.eq_none_bool (fin_bl I q (by simp))
    | int j => obtain ⟨t', rfl⟩ := ry; exact PySem.EqNone.eq_none_int (fin_bl I q (by simp))
    | str j => obtain ⟨t', rfl⟩ := ry; exact PySem.EqNone.eq_none_str (fin_bl I q (by simp))
    | _ => exact absurd (show false = true from hs) Bool.false_ne_true
  | bl i =>
    cases rx
    cases y with
    | non => cases ry; exact PySem.EqNone.eq_bool_none (fin_bl I q (by simp))
    | bl j => cases ry; exact eq_bool (fin_bl I q dec_bl)
    | str j => obtain ⟨t', rfl⟩ := ry; exact PySem.EqMixed.eq_bool_str (fin_bl I q (by simp))
    | _ => exact absurd (show false = true from hs) Bool.false_ne_true
  | int i =>
    obtain ⟨t, rfl⟩ := rx
    cases y with
    | non => cases ry; exact PySem.EqNone.eq_int_none (fin_bl I q (by simp))
    | int j => obtain ⟨t', rfl⟩ := ry; exact eq_int (fin_bl I q dec_int)
    | str j => obtain ⟨t', rfl⟩ := ry; exact PySem.EqMixed.eq_int_str (fin_bl I q (by simp))
    | _ => exact absurd (show false = true from hs) Bool.false_ne_true
  | str i =>
    obtain ⟨t, rfl⟩ := rx
    cases y with
    | non => cases ry; exact PySem.EqNone.eq_str_none (fin_bl I q (by simp))
    | bl j => cases ry; exact PySem.EqMixed.eq_str_bool (fin_bl I q (by simp))
    | int j => obtain ⟨t', rfl⟩ := ry; exact PySem.EqMixed.eq_str_int (fin_bl I q (by simp))
    | str j => obtain ⟨t', rfl⟩ := ry; exact eq_str (fin_bl I q dec_str)
    | _ => exact absurd (show false = true from hs) Bool.false_ne_true
  | byt i =>
    obtain ⟨t, rfl⟩ := rx
    cases y with
    | byt j => obtain ⟨t', rfl⟩ := ry; exact PySem.W.eq_bytes (fin_bl I q dec_byt)
    | _ => exact absurd (show false = true from hs) Bool.false_ne_true
  | _ => cases y <;> exact absurd (show false = true from hs) Bool.false_ne_true
theorem op_ne : OpR X (compareOp .NotEq) rNe := by
  intro pins s σ H x y v u Q I rx ry h
  obtain ⟨hs, q⟩ := h
  cases x with
  | non =>
    cases rx
    cases y with
    | non => cases ry; exact PySem.EqNone.ne_none_none (fin_bl I q (by simp))
    | bl j => cases ry; exact PySem.EqNone.ne_none_bool (fin_bl I q (by simp))
    | int j => obtain ⟨t', rfl⟩ := ry; exact PySem.EqNone.ne_none_int (fin_bl I q (by simp))
    | str j => obtain ⟨t', rfl⟩ := ry; exact PySem.EqNone.ne_none_str (fin_bl I q (by simp))
    | _ => exact absurd (show false = true from hs) Bool.false_ne_true
  | bl i =>
    cases rx
    cases y with
    | non => cases ry; exact PySem.EqNone.ne_bool_none (fin_bl I q (by simp))
    | bl j => cases ry; exact ne_bool (fin_bl I q (congrArg not dec_bl))
    | str j => obtain ⟨t', rfl⟩ := ry; exact PySem.EqMixed.ne_bool_str (fin_bl I q (by simp))
    | _ => exact absurd (show false = true from hs) Bool.false_ne_true
  | int i =>
    obtain ⟨t, rfl⟩ := rx
    cases y with
    | non => cases ry; exact PySem.EqNone.ne_int_none (fin_bl I q (by simp))
    | int j => obtain ⟨t', rfl⟩ := ry; exact ne_int (fin_bl I q (congrArg not dec_int))
    | str j => obtain ⟨t', rfl⟩ := ry; exact PySem.EqMixed.ne_int_str (fin_bl I q (by simp))
    | _ => exact absurd (show false = true from hs) Bool.false_ne_true
  | str i =>
    obtain ⟨t, rfl⟩ := rx
    cases y with
    | non => cases ry; exact PySem.EqNone.ne_str_none (fin_bl I q (by simp))
    | bl j => cases ry; exact PySem.EqMixed.ne_str_bool (fin_bl I q (by simp))
    | int j => obtain ⟨t', rfl⟩ := ry; exact PySem.EqMixed.ne_str_int (fin_bl I q (by simp))
    | str j => obtain ⟨t', rfl⟩ := ry; exact ne_str (fin_bl I q (congrArg not dec_str))
    | _ => exact absurd (show false = true from hs) Bool.false_ne_true
  | byt i =>
    obtain ⟨t, rfl⟩ := rx
    cases y with
    | byt j => obtain ⟨t', rfl⟩ := ry; exact PySem.W.ne_bytes (fin_bl I q (congrArg not dec_byt))
    | _ => exact absurd (show false = true from hs) Bool.false_ne_true
  | _ => cases y <;> exact absurd (show false = true from hs) Bool.false_ne_true
theorem op_lt : OpR X (compareOp .Lt) (rI0 fun i j => .bl (decide (i < j))) := opB0 fun _ _ _ _ _ _ _ q => lt_int q
theorem op_le : OpR X (compareOp .LtE) (rI0 fun i j => .bl (decide (i ≤ j))) := opB0 fun _ _ _ _ _ _ _ q => le_int q
theorem op_isN : OpR X (compareOp .Is) (fun x y H Q => y = .non ∧ Q (.bl (decide (x = .non))) H) := by
  intro pins s σ H x y v u Q I rx ry h
  obtain ⟨rfl, q⟩ := h
  cases ry
  refine is_none_gen (fin_bl I q ?_)
  cases x <;> first
    | (cases rx; rfl)
    | (obtain ⟨t, rfl⟩ := rx; rfl)
def isObj : HO → Bool
  | .lst _ => true
  | .ins _ _ _ => true
  | _ => false
theorem OpR.or {f : Value → Value → Sem Value} {r r' : R2} (h : OpR X f r) (h' : OpR X f r') : OpR X f (fun x y H Q => r x y H Q ∨ r' x y H Q) := by
  intro pins s σ H x y v u Q I rx ry q
  rcases q with q | q
  · exact h pins s σ H x y v u Q I rx ry q
  · exact h' pins s σ H x y v u Q I rx ry q
theorem nomark (b : Expr) {op : CmpOp} (h : op ≠ .In := by decide) (h2 : op ≠ .NotIn := by decide) : behindInMarks op b = false := by
  have e1 : (op == CmpOp.In) = false := by cases op <;> first | rfl | exact absurd rfl h
  have e2 : (op == CmpOp.NotIn) = false := by cases op <;> first | rfl | exact absurd rfl h2
  cases b <;> simp [behindInMarks, e1, e2]
theorem pe_cmpR {op : CmpOp} {r : R2} (ho : OpR X (compareOp op) r) (ha : PE X a ta) (hb : PE X b tb) (hm : behindInMarks op b = false) : PE X (.Compare a [op] [b] pos) (tOp r ta tb) := by
  intro pins s σ H Q I h
  exact wpAny_Compare1 (binT ha hb I h fun v u s2 x y H2 I2 rx ry q => ho pins s2 σ H2 x y v u Q I2 rx ry q) hm
def tTest (t : TE) : TT := fun σ H Q => t σ H fun x H' => ∃ k, x = .bl k ∧ Q k H'
theorem pt_cmpR {op : CmpOp} {r : R2} (ho : OpR X (compareOp op) r) (ha : PE X a ta) (hb : PE X b tb) (hm : behindInMarks op b = false) : PT X (.Compare a [op] [b] pos) (tTest (tOp r ta tb)) := by
  intro pins s σ H Q I h
  refine wpAny_isTrue_Compare1 (thn (ha pins s σ H _ I h) fun v s1 ⟨x, H1, I1, r1, q1⟩ => thn (hb pins s1 σ H1 _ I1 q1) fun u s2 ⟨y, H2, I2, r2, q2⟩ =>
    thn (ho pins s2 σ H2 x y v u _ I2 r1 r2 q2) fun c s3 ⟨z, H3, I3, r3, k, e, q3⟩ => ?_) hm
  subst e
  cases r3
  exact wpAny_truthy_bool ⟨H3, I3, q3⟩
def tChain (r r' : R2) (ta tb tc : TE) : TE := fun σ H Q => ta σ H fun x H1 => tb σ H1 fun y H2 => r x y H2 fun z H3 => ∃ k, z = .bl k ∧
  (if k = true then tc σ H3 fun w' H4 => r' y w' H4 Q else Q (.bl false) H3)
theorem pe_chain {op op' : CmpOp} {r r' : R2} (ho : OpR X (compareOp op) r) (ho' : OpR X (compareOp op') r') (ha : PE X a ta) (hb : PE X b tb) (hc : PE X c tc)
    (hm : lastMarks [op, op'] [b, c] = false := by with_unfolding_all rfl) : PE X (.Compare a [op, op'] [b, c] pos) (tChain r r' ta tb tc) := by
  intro pins s σ H Q I h
  refine Compare_chain (thn (ha pins s σ H _ I h) fun v s1 ⟨x, H1, I1, r1, q1⟩ => chain_link (thn (hb pins s1 σ H1 _ I1 q1) fun u s2 ⟨y, H2, I2, r2, q2⟩ =>
    thn (ho pins s2 σ H2 x y v u _ I2 r1 r2 q2) fun d s3 ⟨z, H3, I3, r3, k, e, q3⟩ => ?_)) hm
  subst e
  cases r3
  refine wpAny_truthy_bool ?_
  cases k with
  | false => exact ite_ff ⟨.bl false, H3, I3, rfl, q3⟩
  | true => exact ite_tt (chain_last (thn (hc pins s3 σ H3 _ I3 q3) fun w' s4 ⟨z', H4, I4, r4, q4⟩ => ho' pins s4 σ H4 y z' u w' Q I4 r2 r4 q4))
theorem pt_chain {op op' : CmpOp} {r r' : R2} (ho : OpR X (compareOp op) r) (ho' : OpR X (compareOp op') r') (ha : PE X a ta) (hb : PE X b tb) (hc : PE X c tc)
    (hm : lastMarks [op, op'] [b, c] = false := by with_unfolding_all rfl) : PT X (.Compare a [op, op'] [b, c] pos) (tTest (tChain r r' ta tb tc)) := by
  intro pins s σ H Q I h
  refine isTrue_chain (thn (ha pins s σ H _ I h) fun v s1 ⟨x, H1, I1, r1, q1⟩ => test_link (thn (hb pins s1 σ H1 _ I1 q1) fun u s2 ⟨y, H2, I2, r2, q2⟩ =>
    thn (ho pins s2 σ H2 x y v u _ I2 r1 r2 q2) fun d s3 ⟨z, H3, I3, r3, k, e, q3⟩ => ?_)) hm
  subst e
  cases r3
  refine wpAny_truthy_bool ?_
  cases k with
  | false =>
    obtain ⟨k', e', q'⟩ := q3
    cases e'
    exact ite_ff ⟨H3, I3, q'⟩
  | true =>
    refine ite_tt (test_last (thn (hc pins s3 σ H3 _ I3 q3) fun w' s4 ⟨z', H4, I4, r4, q4⟩ => thn (ho' pins s4 σ H4 y z' u w' _ I4 r2 r4 q4) fun d' s5 ⟨z2, H5, I5, r5, k2, e2, q5⟩ => ?_))
    subst e2
    cases r5
    exact wpAny_truthy_bool ⟨H5, I5, q5⟩
def TruV (K : PySem.W.Frag) (x : V) (H : Hp) (k : Bool) : Prop :=
  match x with
  | .non => k = false
  | .bl b => k = b
  | .int i => k = (i != 0)
  | .str y => y.length ≤ sizeLine ∧ k = ((y.length : Int) != 0)
  | .byt y => y.size ≤ sizeLine ∧ k = ((y.size : Int) != 0)
  | .ref p => (∃ xs, SqL K H p xs ∧ k = !xs.isEmpty) ∨ (∃ xs, SqT K H p xs ∧ k = !xs.isEmpty) ∨ ∃ kvs, H p = some (.dK kvs) ∧ k = !kvs.isEmpty
  | _ => False
theorem isEmpty_kv {κ : Type} {kvs : List (κ × V)} {vs : List (κ × Value)} (r : KV kvs vs) : (!vs.isEmpty) = !kvs.isEmpty := by
  cases r <;> rfl
theorem isEmpty_of {xs : List V} {its : List Value} (r : Vals xs its) : (!its.toArray.isEmpty) = !xs.isEmpty := by
  cases r <;> simp
theorem line63 : (sizeLine : Nat) < 2 ^ 63 := by rw [sizeLine_eq]; decide
theorem tru_ok : TruR X (fun x H Q => ∃ k, TruV X.K x H k ∧ Q k H) := by
  intro pins s σ H x v Q I rx h
  obtain ⟨k, e, q⟩ := h
  have hl := line63
  have hs : sizeLine = 16777216 := sizeLine_eq
  cases x with
  | non =>
    cases rx
    have e' : k = false := e
    subst e'
    exact truthy_none ⟨H, I, q⟩
  | bl b =>
    cases rx
    have e' : k = b := e
    subst e'
    exact wpAny_truthy_bool ⟨H, I, q⟩
  | int i =>
    obtain ⟨t, rfl⟩ := rx
    have e' : k = (i != 0) := e
    subst e'
    exact PySem.P.truthy_int ⟨H, I, q⟩
  | str y =>
    obtain ⟨t, rfl⟩ := rx
    obtain ⟨hy, e'⟩ : y.length ≤ sizeLine ∧ k = ((y.length : Int) != 0) := e
    subst e'
    exact PySem.P.truthy_str (by omega) ⟨H, I.tok _, q⟩
  | byt y =>
    obtain ⟨t, rfl⟩ := rx
    obtain ⟨hy, e'⟩ : y.size ≤ sizeLine ∧ k = ((y.size : Int) != 0) := e
    subst e'
    exact PySem.W.truthy_bytes (by omega) ⟨H, I.tok _, q⟩
  | ref p =>
    cases rx
    have e' : (∃ xs, SqL X.K H p xs ∧ k = !xs.isEmpty) ∨ (∃ xs, SqT X.K H p xs ∧ k = !xs.isEmpty) ∨ ∃ kvs, H p = some (.dK kvs) ∧ k = !kvs.isEmpty := e
    rcases e' with ⟨xs, hx, e'⟩ | ⟨xs, hx, e'⟩ | ⟨kvs, hx, e'⟩
    · subst e'
      obtain ⟨its, r, pl, hz⟩ := I.list hx
      have hlen := r.length
      exact wpAny_truthy_list pl.isList (by simp only [List.size_toArray]; omega) ⟨H, I.tok _, by rw [isEmpty_of r]; exact q⟩
    · subst e'
      obtain ⟨its, r, pl, hz⟩ := I.tuple hx
      have hlen := r.length
      exact truthy_tuple pl (by simp only [List.size_toArray]; omega) ⟨H, I.tok _, by rw [isEmpty_of r]; exact q⟩
    · subst e'
      obtain ⟨hz, hS, vs, r, m⟩ : kvs.length ≤ sizeLine ∧ (p == sysModules) = false ∧ ∃ vs, KV kvs vs ∧ s.heap.DictOf (mixKind X.prog X.w) p vs := I.hok p _ hx
      have hlen : kvs.length = vs.length := Paired.length r
      exact wpAny_truthy_dict hS m (by omega) ⟨H, I.tok _, by rw [isEmpty_kv r]; exact q⟩
  | _ => exact (show False from e).elim
theorem pt_truth (ha : PE X a ta) (he : ∀ whole, isTrue a X.env whole = (do let v ← whole; standAt a.pos; holding [v] (truthy v))) :
    PT X a (fun σ H Q => ta σ H fun x H' => ∃ k, TruV X.K x H' k ∧ Q k H') := by
  intro pins s σ H Q I h
  exact isTrue_plain (thn (ha pins s σ H _ I h) fun v s1 ⟨x, H1, I1, r1, q1⟩ => tru_ok pins s1 σ H1 x v Q I1 r1 q1) (he _)
theorem op_add_str : OpR X (binaryOp .Add) (fun x y H Q => ∃ i j, x = .str i ∧ y = .str j ∧ i.length + j.length ≤ sizeLine ∧ Q (.str (i ++ j)) H) := by
  intro pins s σ H x y v u Q I rx ry h
  obtain ⟨i, j, rfl, rfl, hz, q⟩ := h
  obtain ⟨t, rfl⟩ := rx
  obtain ⟨t', rfl⟩ := ry
  exact add_str (fun t' tk => ⟨.str (i ++ j), H, I.tok _, ⟨_, rfl⟩, q⟩) hz
def PlainIxT (b : Expr) : Prop := ∀ o i, subscripted b false o i = operate [o, i] (getItem o i)
theorem vals1 {x : V} {us : List Value} (r : Vals [x] us) : ∃ u, us = [u] ∧ RelV x u := by
  cases r with
  | cons r1 r2 => cases r2; exact ⟨_, rfl, r1⟩
theorem vals2 {x y : V} {us : List Value} (r : Vals [x, y] us) : ∃ u w', us = [u, w'] ∧ RelV x u ∧ RelV y w' := by
  cases r with
  | cons r1 r2 =>
    cases r2 with
    | cons r3 r4 => cases r4; exact ⟨_, _, rfl, r1, r3⟩
theorem call_min2 (hc : X.calm = true) : CallR X (.builtin "min") (fun xs H Q => ∃ i j, xs = [.int i, .int j] ∧ Q (.int (if j < i then j else i)) H) := by
  intro pins s σ H xs us Q I r h
  obtain ⟨i, j, rfl, q⟩ := h
  obtain ⟨u, w', rfl, ⟨t, rfl⟩, ⟨t', rfl⟩⟩ := vals2 r
  refine min_two_ints (I.ok.hd hc) fun h' tk k => ⟨_, H, I.kept k, ?_, q⟩
  by_cases hj : j < i
  · rw [if_pos hj, if_pos hj]; exact ⟨_, rfl⟩
  · rw [if_neg hj, if_neg hj]; exact ⟨_, rfl⟩
def LenV (K : PySem.W.Frag) (x : V) (H : Hp) (n : Nat) : Prop :=
  match x with
  | .str y => y.length ≤ sizeLine ∧ n = y.length
  | .byt y => y.size ≤ sizeLine ∧ n = y.size
  | .ref p => (∃ xs, SqL K H p xs ∧ n = xs.length) ∨ ∃ xs, SqT K H p xs ∧ n = xs.length
  | _ => False
theorem call_len : CallR X (.builtin "len") (fun xs H Q => ∃ x n, xs = [x] ∧ LenV X.K x H n ∧ Q (.int n) H) := by
  intro pins s σ H xs us Q I r h
  obtain ⟨x, n, rfl, e, q⟩ := h
  obtain ⟨u, rfl, rx⟩ := vals1 r
  have hl := line63
  have hs : sizeLine = 16777216 := sizeLine_eq
  cases x with
  | str y =>
    obtain ⟨t, rfl⟩ := rx
    obtain ⟨hy, e'⟩ : y.length ≤ sizeLine ∧ n = y.length := e
    subst e'
    exact len_str (by omega) ⟨.int _, H, I.tok _, ⟨_, rfl⟩, q⟩
  | byt y =>
    obtain ⟨t, rfl⟩ := rx
    obtain ⟨hy, e'⟩ : y.size ≤ sizeLine ∧ n = y.size := e
    subst e'
    exact PySem.W.len_bytes (by omega) ⟨.int _, H, I.tok _, ⟨_, rfl⟩, q⟩
  | ref p =>
    cases rx
    have e' : (∃ xs, SqL X.K H p xs ∧ n = xs.length) ∨ ∃ xs, SqT X.K H p xs ∧ n = xs.length := e
    rcases e' with ⟨xs, hx, e'⟩ | ⟨xs, hx, e'⟩
    · subst e'
      obtain ⟨its, r', pl, hz⟩ := I.list hx
      have hlen := r'.length
      exact Calls.call_len_list pl.isList (by simp only [List.size_toArray]; omega) ⟨.int xs.length, H, I.tok _, ⟨_, by simp only [List.size_toArray]; rw [hlen]⟩, q⟩
    · subst e'
      obtain ⟨its, r', pl, hz⟩ := I.tuple hx
      have hlen := r'.length
      exact len_tuple pl (by simp only [List.size_toArray]; omega) ⟨.int xs.length, H, I.tok _, ⟨_, by simp only [List.size_toArray]; rw [hlen]⟩, q⟩
  | _ => exact (show False from e).elim
end
end L2
namespace L2
open PySem PySem.Spec PyProof.Rows
structure ObjM (h : Heap) (x dx C : Addr) (mA : Str → Option Value) : Prop where
  obj : h.get? x = some (PySem.W.instObj C dx)
  ns : h.Ns1 dx mA
  ne : dx ≠ x
theorem lookIn_ns {h : Heap} {dx : Addr} {mA : Str → Option Value} (n : h.Ns1 dx mA) : ∃ od, h.get? dx = some od ∧ ∀ name, PySem.W.lookIn name od = some (mA name) := by
  obtain ⟨o, es, ep, ho, hd, hk, _, hm⟩ := n
  refine ⟨o, ho, fun name => ?_⟩
  have e := hm name
  unfold nsFind findBy at e
  rw [← Array.find?_toList] at e
  unfold PySem.W.lookIn
  rw [hd]
  dsimp only
  split
  · rename_i y q
    rw [q] at e
    exact congrArg some e
  · rename_i q
    rw [q] at e
    have a : es.toList.any (·.refKey) = false := by
      rw [List.any_eq_false]
      intro y hy
      obtain ⟨z, t, hkey⟩ := hk y (Array.mem_toList_iff.mp hy)
      simp [DictEntry.refKey, hkey]
    have a' : ¬ es.toList.any (·.refKey) = true := by rw [a]; exact Bool.false_ne_true
    rw [if_neg a']
    exact congrArg some e
theorem ObjM.look {h : Heap} {x dx C : Addr} {mA : Str → Option Value} (I : ObjM h x dx C mA) : ∃ od, PySem.W.InstAt h x (PySem.W.instObj C dx) C (some od) ∧ ∀ name, PySem.W.lookIn name od = some (mA name) :=
  let ⟨od, ho, hl⟩ := lookIn_ns I.ns
  ⟨od, ⟨I.obj, rfl, rfl, ho⟩, hl⟩
section
variable {prog : Program} {w : World} {A : Around} {E : Value → Shared → Prop} {s : Shared} {K : PySem.W.Frag} {x dx C f : Addr} {mA : Str → Option Value} {name : Str} {v : Value}
theorem get_map {expr : Bool} {Q : Value → Shared → Prop} (X : K.In s.heap) (I : ObjM s.heap x dx C mA) (hg : PySem.W.plainGet K C name = true) (hh : PySem.W.hasDictIn K C = true)
    (ha : PySem.W.findIn K (.ref C) name = some none) (hv : mA name = some v) (hv' : PySem.W.handedIn v = true) (h : Q v { s with toks := s.toks + 1 }) :
    wpAny (model prog w) A (getAttr (.ref x) name expr) Q E s := by
  obtain ⟨od, J, hl⟩ := I.look
  exact PySem.W.get_value X J (PySem.W.plainGet_of hg).1 (PySem.W.findObj_own hh ha rfl (by rw [hl, hv])) hv' h
theorem get_meth {pl : Sem Bool} {Q : Value × List Value → Shared → Prop} (X : K.In s.heap) (I : ObjM s.heap x dx C mA) (hg : PySem.W.plainGet K C name = true)
    (hf : PySem.W.findIn K (.ref C) name = some (some (.ref f))) (ht : PySem.W.isFn K (.ref f) = true) (hv : mA name = none) (h : Q (.ref f, [.ref x]) s) :
    wpAny (model prog w) A (getMethod (.ref x) name pl) Q E s := by
  obtain ⟨od, J, hl⟩ := I.look
  exact PySem.W.method_fn X J (PySem.W.plainGet_of hg).1 (PySem.W.plainGet_of hg).2 hf (beq_iff_eq.mp ht) (by show (PySem.W.lookIn name od).map (·.isSome) = some false; rw [hl, hv]; rfl) h
theorem set_map {ns : List Str} {Q : Unit → Shared → Prop} (X : K.In s.heap) (I : ObjM s.heap x dx C mA)
    (hs : PySem.W.findIn K (.ref C) "__setattr__" = some (some (.builtin "object.__setattr__"))) (hp : PySem.W.plainOver K C = true) (ht : PySem.W.takerIn K C name = some none) (hh : PySem.W.hasDictIn K C = true)
    (hw : PySem.Within mA ns) (hsz : ns.length ≤ sizeLine)
    (h : ∀ h', ObjM h' x dx C (fun y => if y = name then some v else mA y) → Heap.SameBut dx s.heap h' → Q () { s with heap := h', toks := s.toks + 2 }) :
    wpAny (model prog w) A (setAttr (.ref x) name v) Q E s := by
  obtain ⟨od, J, hl⟩ := I.look
  refine PySem.W.set_plain X J hs (PySem.W.osa_open (s := { s with toks := s.toks + 1 }) (r := none) X J hp ht fun b => ?_)
  obtain ⟨cd, hc, hd'⟩ := PySem.W.any_some hh
  have hx : s.heap.get? x = some ⟨.ref C, some dx, .plain, #[]⟩ := I.obj
  refine wpAny_bind (wpAny_pure (wpAny_bind (wpAny_bind (wpAny_loadPart hx (wpAny_bind (PySem.W.Looks.here (s := { s with toks := s.toks + 1 }) (PySem.W.looks_clsIn X hc) ?_))))))
  rw [hd']
  refine wpAny_pure (a := some dx) (wpAny_bind (wpAny_pure (wpAny_bind ?_)))
  refine wpAny_nsSet1 (s := { s with toks := s.toks + 1 }) I.ns fun h' hn2 hs2 => ?_
  obtain ⟨oD, esD, epD, hoD, hdD, hcD⟩ := hn2.count (PySem.Within.cons name v hw)
  refine wpAny_bind (wpAny_lookBehind hoD (by rw [hdD]; exact pastItsLine_dict (Nat.le_trans hcD (by rw [List.length_cons]; omega))) ?_)
  exact wpAny_pure (h _ ⟨(hs2.2 _ (Ne.symm I.ne)).trans I.obj, hn2, I.ne⟩ hs2)
theorem make_map {R : Result → Shared → Prop} {vs : List Value} {kw : List (Str × Value)} (X : K.In s.heap) (hm : PySem.W.makesIn K C = true)
    (hi : PySem.W.findIn K (.ref C) "__init__" = some (some (.ref f))) (hf : PySem.W.typeIn K (.ref f) = some (.type "function"))
    (h : codeAny (model prog w) (A.under (.builtin "type.__call__" ⟨.ref C :: vs, kw⟩)) (.call (.ref f) ⟨.ref (s.heap.objs.size + 1) :: vs, kw⟩) (PySem.W.InitBack (s.heap.objs.size + 1) R)
      { s with heap := (s.heap.push PySem.W.emptyDict).push (PySem.W.instObj C s.heap.objs.size) }) :
    codeAny (model prog w) A (.call (.ref C) ⟨vs, kw⟩) R s := by
  obtain ⟨hh, g, d, t, os⟩ := s
  exact PySem.W.make_core (PySem.W.makes_of X hm) (PySem.W.looks_findIn X hi) (fun self => PySem.W.bind_fn X self hf) (.inl rfl) h
end
def putF (f : Str) (v : V) : List (Str × V) → List (Str × V)
  | [] => [(f, v)]
  | (g, x) :: r => if g = f then (g, v) :: r else (g, x) :: putF f v r
theorem lookup_putF (f g : Str) (v : V) : ∀ fs : List (Str × V), (putF f v fs).lookup g = if g = f then some v else fs.lookup g
  | [] => by
    show List.lookup g [(f, v)] = _
    by_cases h : g = f
    · have hb : (g == f) = true := beq_iff_eq.mpr h
      simp only [List.lookup, hb, if_pos h]
    · have hb : (g == f) = false := beq_eq_false_iff_ne.mpr h
      simp only [List.lookup, hb, if_neg h]
  | (k, x) :: r => by
    have ih := lookup_putF f g v r
    rw [show putF f v ((k, x) :: r) = (if k = f then (k, v) :: r else (k, x) :: putF f v r) from rfl]
    by_cases hk : k = f
    · rw [if_pos hk]
      by_cases h : g = k
      · have hb : (g == k) = true := beq_iff_eq.mpr h
        simp only [List.lookup, hb, if_pos (h.trans hk)]
      · have hb : (g == k) = false := beq_eq_false_iff_ne.mpr h
        simp only [List.lookup, hb, if_neg (fun e : g = f => h (e.trans hk.symm))]
    · rw [if_neg hk]
      by_cases h : g = k
      · have hb : (g == k) = true := beq_iff_eq.mpr h
        simp only [List.lookup, hb, if_neg (fun e : g = f => hk (h.symm.trans e))]
      · have hb : (g == k) = false := beq_eq_false_iff_ne.mpr h
        simp only [List.lookup, hb]
        exact ih
theorem keys_putF (f : Str) (v : V) : ∀ fs : List (Str × V), f ∈ (putF f v fs).map (·.1) ∧ ∀ g, g ∈ fs.map (·.1) → g ∈ (putF f v fs).map (·.1)
  | [] => ⟨by simp [putF], fun g h => by simp at h⟩
  | (k, x) :: r => by
    obtain ⟨i1, i2⟩ := keys_putF f v r
    rw [show putF f v ((k, x) :: r) = (if k = f then (k, v) :: r else (k, x) :: putF f v r) from rfl]
    by_cases hk : k = f
    · rw [if_pos hk]
      subst hk
      exact ⟨by simp, fun g h => by simpa using h⟩
    · rw [if_neg hk]
      refine ⟨?_, fun g h => ?_⟩
      · rw [List.map_cons]
        exact List.mem_cons_of_mem _ i1
      · rw [List.map_cons] at h ⊢
        rcases List.mem_cons.mp h with e | e
        · exact List.mem_cons.mpr (.inl e)
        · exact List.mem_cons_of_mem _ (i2 g e)
theorem length_putF (f : Str) (v : V) : ∀ fs : List (Str × V), (putF f v fs).length ≤ fs.length + 1
  | [] => by simp [putF]
  | (k, x) :: r => by
    have ih := length_putF f v r
    rw [show putF f v ((k, x) :: r) = (if k = f then (k, v) :: r else (k, x) :: putF f v r) from rfl]
    by_cases hk : k = f
    · rw [if_pos hk, List.length_cons, List.length_cons]; omega
    · rw [if_neg hk, List.length_cons, List.length_cons]; omega
theorem RelO.some_of {v : V} {o : Option Value} (r : RelO (some v) o) : ∃ u, o = some u ∧ RelV v u := by
  cases o with
  | none => exact (show False from r).elim
  | some u => exact ⟨u, rfl, r⟩
theorem RelO.none_of {o : Option Value} (r : RelO none o) : o = none := by
  cases o with
  | none => rfl
  | some u => exact (show False from r).elim
theorem handed_of {v : V} {u : Value} (r : RelV v u) : PySem.W.handedIn u = true := by
  cases v with
  | non => cases (show u = Value.none from r); rfl
  | bl b => cases (show u = Value.bool b from r); rfl
  | int i => obtain ⟨t, e⟩ := (show ∃ t, u = Value.int i t from r); cases e; rfl
  | str x => obtain ⟨t, e⟩ := (show ∃ t, u = Value.str x t from r); cases e; rfl
  | byt b => obtain ⟨t, e⟩ := (show ∃ t, u = Value.bytes b t from r); cases e; rfl
  | flt b => obtain ⟨t, e⟩ := (show ∃ t, u = Value.float b t from r); cases e; rfl
  | ref a => cases (show u = Value.ref a from r); rfl
  | ty n => cases (show u = Value.type n from r); rfl
section
variable {P : Program} {w : World} {H H' : Hp} {h h' : Heap} {a C dx : Addr} {fs fs' : List (Str × V)}
theorem ins_get (hok : HOk P w H h) (e : H a = some (.ins C dx fs)) : ∃ mA, ObjM h a dx C mA ∧ (∀ f, RelO (fs.lookup f) (mA f)) ∧ PySem.Within mA (fs.map (·.1)) ∧ fs.length ≤ 1000 ∧ H dx = some (.own a) := by
  obtain ⟨d, z, ne, ob, mA, n, r, q⟩ := (show ObjOk P w H h a (.ins C dx fs) from hok a _ e)
  exact ⟨mA, ⟨ob, n, ne⟩, r, q, z, d⟩
end
structure Cls (K : PySem.W.Frag) (C : Addr) : Prop where
  pg : PySem.W.plainGet K C Str.empty = true
  hd : PySem.W.hasDictIn K C = true
  po : PySem.W.plainOver K C = true
  sa : PySem.W.findIn K (.ref C) "__setattr__" = some (some (.builtin "object.__setattr__"))
theorem Cls.get {K : PySem.W.Frag} {C : Addr} (c : Cls K C) (f : Str) : PySem.W.plainGet K C f = true := c.pg
def NoAttr (K : PySem.W.Frag) (C : Addr) (f : Str) : Prop := PySem.W.findIn K (.ref C) f = some none
theorem NoAttr.taker {K : PySem.W.Frag} {C : Addr} {f : Str} (n : NoAttr K C f) : PySem.W.takerIn K C f = some none := by
  unfold PySem.W.takerIn
  rw [show PySem.W.findIn K (.ref C) f = some none from n]
  rfl
structure Con (K : PySem.W.Frag) (C : Addr) (f : Str) (v : V) (u : Value) : Prop where
  at_ : PySem.W.findIn K (.ref C) f = some (some u)
  rel : RelV v u
  get : PySem.W.specialIn K u "__get__" = some none
  cp : PySem.W.copiedNames.contains f = false
structure Meth (K : PySem.W.Frag) (C : Addr) (m : Str) (f : Addr) : Prop where
  at_ : PySem.W.findIn K (.ref C) m = some (some (.ref f))
  fn : PySem.W.isFn K (.ref f) = true
  kp : PySem.W.keepIn K (.ref f) = true
section
variable {X : Cx} {pins : List (Addr × Obj)} {σ : St} {H : Hp} {s : Shared} {a C dx : Addr} {fs : List (Str × V)} {f : Str} {v : V} {A : Around} {E : Value → Shared → Prop}
theorem getattr_ok {b : Bool} {Q : Value → Shared → Prop} (I : Inv X pins σ H s) (e : H a = some (.ins C dx fs)) (c : Cls X.K C) (n : NoAttr X.K C f) (l : fs.lookup f = some v)
    (h : ∀ u s', Inv X pins σ H s' → RelV v u → Q u s') : wpAny (model X.prog X.w) A (getAttr (.ref a) f b) Q E s := by
  obtain ⟨mA, O, r, _, _, _⟩ := ins_get I.hok e
  obtain ⟨u, hu, ru⟩ := RelO.some_of (v := v) (o := mA f) (by rw [← l]; exact r f)
  exact get_map I.kIn O (c.get f) c.hd n hu (handed_of ru) (h u _ (I.tok _) ru)
theorem getmeth_ok {m : Str} {g : Addr} {pl : Sem Bool} {Q : Value × List Value → Shared → Prop} (I : Inv X pins σ H s) (e : H a = some (.ins C dx fs)) (c : Cls X.K C) (k : Meth X.K C m g) (l : fs.lookup m = none)
    (h : Q (.ref g, [.ref a]) s) : wpAny (model X.prog X.w) A (getMethod (.ref a) m pl) Q E s := by
  obtain ⟨mA, O, r, _, _, _⟩ := ins_get I.hok e
  have hn : mA m = none := RelO.none_of (by rw [← l]; exact r m)
  exact get_meth I.kIn O (c.get m) k.at_ k.fn hn h
theorem setattr_ok {y : V} {u : Value} {Q : Unit → Shared → Prop} (I : Inv X pins σ H s) (e : H a = some (.ins C dx fs)) (c : Cls X.K C) (n : NoAttr X.K C f) (hl : fs.length < 1000) (ry : RelV y u)
    (h : ∀ s', Inv X pins σ (upd H a (.ins C dx (putF f y fs))) s' → Q () s') : wpAny (model X.prog X.w) A (setAttr (.ref a) f u) Q E s := by
  obtain ⟨mA, O, r, wi, _, ho⟩ := ins_get I.hok e
  have hz : (fs.map (·.1)).length ≤ sizeLine := by rw [List.length_map, sizeLine_eq]; omega
  refine set_map I.kIn O c.sa c.po n.taker c.hd wi hz fun h' O' sb => h _ ?_
  have hd : ∃ o, h'.get? dx = some o := let ⟨o, _, _, e', _⟩ := O'.ns; ⟨o, e'⟩
  refine I.write (x := a) (e := dx) (by rw [e]; exact True.intro) (.inr ho) (fun b q hb z => (sb.2 b hb).trans z) hd ?_
  refine ⟨by rw [upd_ne O.ne]; exact ho, ?_, O.ne, O'.obj, _, O'.ns, fun g => ?_, fun g hg => ?_⟩
  · have := length_putF f y fs; omega
  · show RelO ((putF f y fs).lookup g) (if g = f then some u else mA g)
    rw [lookup_putF]
    by_cases q : g = f
    · rw [if_pos q, if_pos q]; exact ry
    · rw [if_neg q, if_neg q]; exact r g
  · by_cases q : g = f
    · rw [q]; exact (keys_putF f y fs).1
    · refine (keys_putF f y fs).2 g (wi g fun z => hg ?_)
      show (if g = f then some u else mA g) = none
      rw [if_neg q]; exact z
theorem Inv.made (I : Inv X pins σ H s) : Inv X pins σ (upd (upd H s.heap.objs.size (.own (s.heap.objs.size + 1))) (s.heap.objs.size + 1) (.ins C s.heap.objs.size []))
    { s with heap := (s.heap.push PySem.W.emptyDict).push (PySem.W.instObj C s.heap.objs.size) } := by
  have e1 : (s.heap.push PySem.W.emptyDict).get? s.heap.objs.size = some PySem.W.emptyDict := Heap.get?_push_size s.heap rfl
  have e2 : ((s.heap.push PySem.W.emptyDict).push (PySem.W.instObj C s.heap.objs.size)).get? (s.heap.objs.size + 1) = some (PySem.W.instObj C s.heap.objs.size) := by
    have := Heap.get?_push_size (s.heap.push PySem.W.emptyDict) (o := PySem.W.instObj C s.heap.objs.size) rfl
    rwa [Heap.size_push] at this
  have e3 : (s.heap.push PySem.W.emptyDict).Ns s.heap.objs.size (fun _ => none) := ⟨PySem.W.emptyDict, #[], _, e1, rfl, (fun e he => absurd he (by simp)), fun _ => rfl⟩
  have I1 := I.laid (a := s.heap.objs.size) (o := .own (s.heap.objs.size + 1)) (h' := s.heap.push PySem.W.emptyDict) (t' := s.toks) (fun b u q => Heap.get?_push_of_some _ q) (Nat.le_refl _) ⟨_, e1⟩
  refine I1.laid (a := s.heap.objs.size + 1) (o := .ins C s.heap.objs.size []) (t' := s.toks) (fun b u q => Heap.get?_push_of_some _ q) (Nat.le_of_eq (Heap.size_push _ _)) ?_
  have ne : s.heap.objs.size ≠ s.heap.objs.size + 1 := Nat.ne_of_lt (Nat.lt_succ_self _)
  refine ⟨by rw [upd_ne ne, upd_same], Nat.zero_le _, ne, e2, fun _ => none, (Heap.Ns1.of_empty e3).at fun o q => Heap.get?_push_of_some _ q, fun _ => True.intro, fun y hy => absurd rfl hy⟩
theorem attr_of {prog : Program} {w : World} {env : Env} {e : Expr} {f : Str} {pos : Pos} {s : Shared} {Q : Value → Shared → Prop} (hb : attributeBase e f env (eval e env) = eval e env)
    (h : wpAny (model prog w) A (eval e env) (fun o s₁ => wpAny (model prog w) A (getAttr o f true) Q E s₁) E s) : wpAny (model prog w) A (eval (.Attribute e f pos) env) Q E s :=
  Attribute_any_ h (by rw [arm_eval_Attribute, hb])
end
def tFld (K : PySem.W.Frag) (ta : TE) (f : Str) : TE := fun σ H Q => ta σ H fun x H1 => ∃ a C dx fs v, x = .ref a ∧ H1 a = some (.ins C dx fs) ∧ Cls K C ∧ NoAttr K C f ∧ fs.lookup f = some v ∧ Q v H1
def tCon (K : PySem.W.Frag) (ta : TE) (f : Str) : TE := fun σ H Q => ta σ H fun x H1 => ∃ a C dx fs v u, x = .ref a ∧ H1 a = some (.ins C dx fs) ∧ Cls K C ∧ Con K C f v u ∧ fs.lookup f = none ∧ Q v H1
def sFld (K : PySem.W.Frag) (ta tv : TE) (f : Str) : TS := fun D σ H => tv σ H fun y H1 => ta σ H1 fun x H2 => ∃ a C dx fs, x = .ref a ∧ H2 a = some (.ins C dx fs) ∧ Cls K C ∧ NoAttr K C f ∧ fs.length < 1000 ∧
  D.nx σ (upd H2 a (.ins C dx (putF f y fs)))
def InOp (X : Cx) (op : Operator) (rd : V → V → Hp → VK → Prop) : Prop :=
  ∀ (pins : List (Addr × Obj)) (s : Shared) (σ : St) (H : Hp) (x y : V) (u v : Value) (Q : VK), Inv X pins σ H s → RelV x u → RelV y v → rd x y H Q → wpAny (model X.prog X.w) X.A (inplaceOp op u v) (EP X pins σ Q) X.xe s
def sFldAug (K : PySem.W.Frag) (ta tv : TE) (rd : V → V → Hp → VK → Prop) (f : Str) : TS := fun D σ H => ta σ H fun x H1 => ∃ a C dx fs v, x = .ref a ∧ H1 a = some (.ins C dx fs) ∧ Cls K C ∧ NoAttr K C f ∧ fs.lookup f = some v ∧
  tv σ H1 fun y H2 => rd v y H2 fun z H3 => ∃ dx' fs', H3 a = some (.ins C dx' fs') ∧ fs'.length < 1000 ∧ D.nx σ (upd H3 a (.ins C dx' (putF f z fs')))
section
variable {X : Cx} {o e value : Expr} {f : Str} {pos pos' tpos : Pos} {ta tv : TE}
theorem pe_fld (he : PE X e ta) (hb : attributeBase e f X.env (eval e X.env) = eval e X.env) : PE X (.Attribute e f pos) (tFld X.K ta f) := by
  intro pins s σ H Q I h
  refine attr_of hb (thn (he pins s σ H _ I h) fun u s1 ⟨x, H1, I1, rx, a, C, dx, fs, v, ex, ea, c, n, l, q⟩ => ?_)
  subst ex
  obtain rfl : u = Value.ref a := rx
  exact getattr_ok I1 ea c n l fun u' s2 I2 ru => ⟨v, H1, I2, ru, q⟩
theorem ps_fld (ha : PE X o ta) (hv : PE X value tv) (hs : swapsWith value (some (.Attribute o f pos')) pos.line X.env = pure false) : PS X (.Assign [.Attribute o f pos'] value pos) (sFld X.K ta tv f) := by
  intro pins s σ H D I h
  refine plainObj_wpAny_Assign_Attribute (thn (hv pins s σ H _ I h) fun u s1 ⟨y, H1, I1, ry, q⟩ => thn (ha pins s1 σ H1 _ I1 q) fun ov s2 ⟨x, H2, I2, rx, a, C, dx, fs, ex, ea, c, n, l, q2⟩ => ?_) hs
  subst ex
  obtain rfl : ov = Value.ref a := rx
  exact setattr_ok I2 ea c n l ry fun s3 I3 => ⟨σ, _, I3, q2⟩
theorem ps_fldaug {op : Operator} {rd : V → V → Hp → VK → Prop} (ha : PE X o ta) (hv : PE X value tv) (hop : InOp X op rd) : PS X (.AugAssign (.Attribute o f tpos) op value pos) (sFldAug X.K ta tv rd f) := by
  intro pins s σ H D I h
  refine wpAny_AugAssign_AttributeAny (thn (ha pins s σ H _ I h) fun ov s1 ⟨x, H1, I1, rx, a, C, dx, fs, v, ex, ea, c, n, l, q⟩ => ?_)
  subst ex
  obtain rfl : ov = Value.ref a := rx
  refine getattr_ok I1 ea c n l fun u s2 I2 ru => thn (hv pins s2 σ H1 _ I2 q) fun w3 s3 ⟨y, H2, I3, ry, q3⟩ => thn (hop pins s3 σ H2 v y u w3 _ I3 ru ry q3) fun w4 s4 ⟨z, H3, I4, rz, dx', fs', ea', l', q4⟩ => ?_
  exact setattr_ok I4 ea' c n l' rz fun s5 I5 => ⟨σ, _, I5, q4⟩
def rAdd : V → V → Hp → VK → Prop := fun x y H Q => ∃ i j, x = .int i ∧ y = .int j ∧ Q (.int (i + j)) H
def rSub : V → V → Hp → VK → Prop := fun x y H Q => ∃ i j, x = .int i ∧ y = .int j ∧ Q (.int (i - j)) H
theorem in_add : InOp X .Add rAdd := by
  rintro pins s σ H x y u v Q I rx ry ⟨i, j, rfl, rfl, q⟩
  obtain ⟨t, rfl⟩ := (show ∃ t, u = Value.int i t from rx)
  obtain ⟨t', rfl⟩ := (show ∃ t', v = Value.int j t' from ry)
  exact PyProof.Rows.iadd_int ⟨.int (i + j), H, I.tok _, ⟨_, rfl⟩, q⟩
end
section
variable {X : Cx} {pins : List (Addr × Obj)} {σ : St} {H : Hp} {s : Shared} {A : Around} {E : Value → Shared → Prop} {Q : Value → Shared → Prop} {c : Value} {b : Bool}
inductive TyOf (K : PySem.W.Frag) (H : Hp) : V → Value → Prop where
  | non : TyOf K H .non (.type "NoneType")
  | bl (x : Bool) : TyOf K H (.bl x) (.type "bool")
  | int (i : Int) : TyOf K H (.int i) (.type "int")
  | str (x : Str) : TyOf K H (.str x) (.type "str")
  | flt (x : UInt64) : TyOf K H (.flt x) (.type "float")
  | lst {a : Addr} {xs : List V} (e : H a = some (.lst xs)) : TyOf K H (.ref a) (.type "list")
  | frz {a : Addr} {o : Obj} {xs : List V} (e : H a = some (.frz o (.lst xs))) : TyOf K H (.ref a) (.type "list")
  | tup {a : Addr} {xs : List V} (e : H a = some (.tup xs)) : TyOf K H (.ref a) (.type "tuple")
  | dK {a : Addr} {kvs : List (Key × V)} (e : H a = some (.dK kvs)) : TyOf K H (.ref a) (.type "dict")
  | dT {a : Addr} {kvs : List (List Key × V)} (e : H a = some (.dT kvs)) : TyOf K H (.ref a) (.type "dict")
  | ins {a C dx : Addr} {fs : List (Str × V)} (e : H a = some (.ins C dx fs)) (cl : Cls K C) (ha : PySem.W.findIn K (.ref C) "__class__" = some (some (.builtin "object.__class__")))
      (hn : PySem.W.specialIn K (.builtin "object.__class__") "__get__" = some (some (.builtin "getset_descriptor.__get__"))) (htk : PySem.W.takesIn K (.builtin "object.__class__") = some true)
      (hm : PySem.W.mroIn K C (.type "object") = some true) : TyOf K H (.ref a) (.ref C)
theorem isinst_ok {x : V} {u t : Value} (I : Inv X pins σ H s) (rx : RelV x u) (ty : TyOf X.K H x t) (e : PySem.W.kitOne X.K t c = some b) (h : ∀ tk, Q (.bool b) { s with toks := tk }) :
    wpAny (model X.prog X.w) A (call (.builtin "isinstance") [u, c]) Q E s := by
  cases ty with
  | non => cases (show u = Value.none from rx); exact PySem.W.kia_one PySem.W.kitx_none I.kIn True.intro e (fun z => nomatch z) h
  | bl y => cases (show u = Value.bool y from rx); exact PySem.W.kia_one PySem.W.kitx_bool I.kIn True.intro e (fun z => nomatch z) h
  | int i => obtain ⟨t, q⟩ := (show ∃ t, u = Value.int i t from rx); cases q; exact PySem.W.kia_one PySem.W.kitx_int I.kIn True.intro e (fun z => nomatch z) h
  | str y => obtain ⟨t, q⟩ := (show ∃ t, u = Value.str y t from rx); cases q; exact PySem.W.kia_one PySem.W.kitx_str I.kIn True.intro e (fun z => nomatch z) h
  | flt y => obtain ⟨t, q⟩ := (show ∃ t, u = Value.float y t from rx); cases q; exact PySem.W.kia_one PySem.W.kitx_float I.kIn True.intro e (fun z => nomatch z) h
  | @lst a xs ea =>
    cases (show u = Value.ref a from rx)
    obtain ⟨_, _, n, _, h1⟩ := (show ObjOk X.prog X.w H s.heap a (.lst xs) from I.hok a _ ea)
    exact PySem.W.kia_one PySem.W.kitx_list I.kIn ⟨_, h1, rfl⟩ e (fun z => nomatch z) h
  | @frz a ob xs ea =>
    cases (show u = Value.ref a from rx)
    obtain ⟨_, _, _, n, _, h1⟩ := (show ObjOk X.prog X.w H s.heap a (.frz ob (.lst xs)) from I.hok a _ ea)
    exact PySem.W.kia_one PySem.W.kitx_list I.kIn ⟨_, h1, rfl⟩ e (fun z => nomatch z) h
  | @tup a xs ea =>
    cases (show u = Value.ref a from rx)
    obtain ⟨_, _, _, p⟩ := (show ObjOk X.prog X.w H s.heap a (.tup xs) from I.hok a _ ea)
    obtain ⟨o, h1, h2, _⟩ := p
    exact PySem.W.kia_one PySem.W.kitx_tuple I.kIn ⟨o, h1, h2⟩ e (fun z => nomatch z) h
  | @dK a kvs ea =>
    cases (show u = Value.ref a from rx)
    obtain ⟨_, _, vs, _, p⟩ := (show ObjOk X.prog X.w H s.heap a (.dK kvs) from I.hok a _ ea)
    obtain ⟨o, es, ep, h1, h2, _⟩ := p
    exact PySem.W.kia_one PySem.W.kitx_dict I.kIn ⟨o, h1, h2.1⟩ e (fun z => nomatch z) h
  | @dT a kvs ea =>
    cases (show u = Value.ref a from rx)
    obtain ⟨_, _, xs, _, o, es, ep, h1, h2, _⟩ := (show ObjOk X.prog X.w H s.heap a (.dT kvs) from I.hok a _ ea)
    exact PySem.W.kia_one PySem.W.kitx_dict I.kIn ⟨o, h1, h2.1⟩ e (fun z => nomatch z) h
  | @ins a C dx fs ea cl ha hn htk hm =>
    cases (show u = Value.ref a from rx)
    obtain ⟨mA, O, _⟩ := ins_get I.hok ea
    obtain ⟨od, J, _⟩ := O.look
    exact PySem.W.kia_one (PySem.W.kitx_own (cl.get _) cl.hd ha hn htk hm) I.kIn J e (fun z => nomatch z) h
end
end L2
namespace L2
open PySem PySem.Spec PyProof.Rows
structure Room (k : Nat) (A : Around) : Prop where
  hd : A.handled = none
  dp : A.depth + 3 * k + 5 < recursionLimit
  un : A.units + 16 * k + 200 < cLine
theorem Room.mono {j k : Nat} {A : Around} (r : Room k A) (h : j ≤ k) : Room j A := ⟨r.hd, by have := r.dp; omega, by have := r.un; omega⟩
theorem Room.deeper {k : Nat} {A : Around} (r : Room (k + 1) A) (env : Env) : Room k (A.deeper env) :=
  ⟨r.hd, by have := r.dp; show A.depth + 1 + 3 * k + 5 < _; omega, by have := r.un; show A.units + 3 + 16 * k + 200 < _; omega⟩
theorem make_depth {A : Around} {C : Addr} {us : List Value} {kw : List (Str × Value)} : (A.under (.builtin "type.__call__" ⟨.ref C :: us, kw⟩)).depth = A.depth + 1 := by
  first | rfl | simp [Around.under, Code.weight, Code.isCreation, Code.isGuard, Code.isCaller, Code.frames, Code.isFrame, guardIds]
theorem make_units {A : Around} {C : Addr} {us : List Value} {kw : List (Str × Value)} : (A.under (.builtin "type.__call__" ⟨.ref C :: us, kw⟩)).units = A.units + 1 := by
  first | rfl | simp [Around.under, Code.cUnits, Code.frames, Code.isFrame]
theorem Room.make {k : Nat} {A : Around} (r : Room (k + 1) A) (C : Addr) (us : List Value) (kw : List (Str × Value)) : Room k (A.under (.builtin "type.__call__" ⟨.ref C :: us, kw⟩)) :=
  ⟨r.hd, by have := r.dp; rw [make_depth]; omega, by have := r.un; rw [make_units]; omega⟩
theorem Room.depth {k : Nat} {A : Around} (r : Room k A) : A.depth < recursionLimit := by have := r.dp; omega
theorem Room.units {k : Nat} {A : Around} (r : Room k A) : A.units + 64 < cLine := by have := r.un; omega
def tNil : TA := fun _ H Q => Q [] H
def tCons (ta : TE) (tr : TA) : TA := fun σ H Q => ta σ H fun x H1 => tr σ H1 fun xs H2 => Q (x :: xs) H2
section
variable {X : Cx} {e : Expr} {es : List Expr} {te : TE} {t : TA} {pos : Pos}
theorem pa_nil : PA X [] tNil := fun _ _ _ _ H Q I h => Calls.spliced_nil ⟨[], H, I, .nil, h⟩
theorem pa_cons (ha : PE X e te) (hr : PA X es t) (hs : starEach (e :: es) X.env = (false, eval e X.env) :: starEach es X.env := by rfl) : PA X (e :: es) (tCons te t) := by
  intro pos pins s σ H Q I h
  rw [hs]
  show wpAny _ _ (spliced ((false, eval e X.env) :: backTo pos (starEach es X.env))) _ _ s
  refine Calls.spliced_cons (thn (ha pins s σ H _ I h) fun u s1 ⟨x, H1, I1, r1, q1⟩ => ?_)
  exact thn (hr pos pins s1 σ H1 _ I1 q1) fun us s2 ⟨xs, H2, I2, r2, q2⟩ => ⟨x :: xs, H2, I2, .cons r1 r2, q2⟩
def tTup (t : TA) : TE := fun σ H Q => t σ H fun xs H1 => xs.length ≤ sizeLine ∧ ∀ p, H1 p = none → Q (.ref p) (upd H1 p (.tup xs))
def tLst (t : TA) : TE := fun σ H Q => t σ H fun xs H1 => xs.length ≤ sizeLine ∧ ∀ p, H1 p = none → Q (.ref p) (upd H1 p (.lst xs))
theorem pe_tup {x1} (h : PA X es t) : PE X (.Tuple es x1 pos) (tTup t) := by
  intro pins s σ H Q I hq
  refine wpAny_Tuple_spliced (thn (h pos pins s σ H _ I hq) fun us s1 ⟨xs, H1, I1, r, z, q⟩ => ⟨by rw [← r.length]; exact z, ?_⟩)
  have hf : H1 s1.heap.objs.size = none := I1.hok.fresh (Nat.le_refl _)
  refine ⟨.ref s1.heap.objs.size, upd H1 s1.heap.objs.size (.tup xs), I1.laid (t' := s1.toks) (fun b u e => Heap.get?_push_of_some _ e) (Nat.le_refl _) ?_, rfl, q _ hf⟩
  exact ⟨z, us, r, ⟨_, Heap.get?_push_size _ rfl, rfl, _, rfl⟩⟩
theorem pe_lst (h : PA X es t) : PE X (.List es pos) (tLst t) := by
  intro pins s σ H Q I hq
  refine wpAny_List_spliced (thn (h pos pins s σ H _ I hq) fun us s1 ⟨xs, H1, I1, r, z, q⟩ => ⟨by rw [← r.length]; exact z, ?_⟩)
  have hf : H1 s1.heap.objs.size = none := I1.hok.fresh (Nat.le_refl _)
  refine ⟨.ref s1.heap.objs.size, upd H1 s1.heap.objs.size (.lst xs), I1.laid (t' := s1.toks) (fun b u e => Heap.get?_push_of_some _ e) (Nat.le_refl _) ?_, rfl, q _ hf⟩
  exact ⟨z, us, 0, r, Heap.get?_push_size _ rfl⟩
end
abbrev Sp := List V → Hp → VK → XK → Prop
abbrev CXT := List Env → Hp → Shared → XK → Value → Shared → Prop
structure Env0 (P : Program) (w : World) (K : PySem.W.Frag) (mg : Str → Option Value) (base : Heap) (A : Around) (outer : List Env) (s : Shared) (H : Hp) : Prop where
  frames : A.frames = some outer
  mod : Mod K mg base
  bs : ∀ b o, base.get? b = some o → s.heap.get? b = some o ∧ H b = none
  bsz : base.objs.size ≤ s.heap.objs.size
  funs : s.heap.FunFrames base outer
  frf : ∀ b ∈ frs outer, H b = none
  hok : HOk P w H s.heap
  bare : AllBare s.gens
def CE (outer : List Env) (P : Program) (w : World) (H : Hp) (s : Shared) (Q : VK) (u : Value) (s' : Shared) : Prop :=
  ∃ v H', s'.os = s.os ∧ AllBare s'.gens ∧ Un (frs outer) [] H H' s.heap s'.heap ∧ HOk P w H' s'.heap ∧ RelV v u ∧ Q v H'
def CR (CX : CXT) (outer : List Env) (P : Program) (w : World) (H : Hp) (s : Shared) (Q : VK) (E : XK) (r : Result) (s' : Shared) : Prop :=
  match r with
  | .ok (.ret u) => CE outer P w H s Q u s'
  | .ok _ => False
  | .error e => CX outer H s E e s'
structure FnOk (P : Program) (w : World) (K : PySem.W.Frag) (mg : Str → Option Value) (base : Heap) (CX : CXT) (k : Nat) (f : Addr) (fd : FuncData) (ps : List Str) (sp : Sp) : Prop where
  len : ∀ vs H Q E, sp vs H Q E → vs.length = ps.length
  run : ∀ (A : Around) (outer : List Env) (s : Shared) (H : Hp) (args : Args) (us : List Value) (vs : List V) (Q : VK) (E : XK), Room k A → Env0 P w K mg base A outer s H → BindsTo s fd args (ps.zip us) → Vals vs us → sp vs H Q E →
    codeAny (model P w) A (.call (.ref f) args) (CR CX outer P w H s Q E) s
theorem Env0.make {P : Program} {w : World} {K : PySem.W.Frag} {mg : Str → Option Value} {base : Heap} {A : Around} {outer : List Env} {s : Shared} {H : Hp} (e : Env0 P w K mg base A outer s H) (C : Addr) (us : List Value) (kw : List (Str × Value)) :
    Env0 P w K mg base (A.under (.builtin "type.__call__" ⟨.ref C :: us, kw⟩)) outer s H := ⟨by first | exact e.frames | (simpa [Around.under, Code.envs, Code.isFrame, pushEnvs] using e.frames), e.mod, e.bs, e.bsz, e.funs, e.frf, e.hok, e.bare⟩
section
variable {X : Cx} {pins : List (Addr × Obj)} {σ : St} {H : Hp} {s s' : Shared}
theorem Inv.env0 (I : Inv X pins σ H s) : Env0 X.prog X.w X.K X.mg X.base X.A X.stack s H :=
  ⟨I.ok.frames, I.ok.mod, I.bs, Nat.le_trans I.ok.bsz I.sz, I.stack, I.stkFree, I.hok, I.bare⟩
theorem Inv.after {Q : VK} {u : Value} (I : Inv X pins σ H s) (h : CE X.stack X.prog X.w H s Q u s') : EP X pins σ Q u s' := by
  obtain ⟨v, H', os, bare, un, hok, r, q⟩ := h
  obtain ⟨hh, g, d, t, os'⟩ := s'
  obtain rfl : os' = s.os := os
  exact ⟨v, H', I.call (h' := hh) (g' := g) (d' := d) (t' := t) (ch := []) un hok bare (fun b z => absurd z (by simp)), r, q⟩
end
def tCall (sp : Sp) (dvs : List V) (E : XK) (t : TA) : TE := fun σ H Q => t σ H fun vs H1 => sp (vs ++ dvs) H1 Q E
def tMeth (C : Addr) (m : Str) (sp : Sp) (dvs : List V) (E : XK) (ta : TE) (t : TA) : TE := fun σ H Q => ta σ H fun x H1 => ∃ a dx fs, x = .ref a ∧ H1 a = some (.ins C dx fs) ∧ fs.lookup m = none ∧
  t σ H1 fun vs H2 => sp (x :: (vs ++ dvs)) H2 Q E
def tMake (C : Addr) (sp : Sp) (dvs : List V) (E : XK) (t : TA) : TE := fun σ H Q => t σ H fun vs H1 => ∀ x dx, H1 x = none → H1 dx = none → dx ≠ x →
  sp (.ref x :: (vs ++ dvs)) (upd (upd H1 dx (.own x)) x (.ins C dx [])) (fun v H2 => v = .non ∧ Q (.ref x) H2) E
def Binds (K : PySem.W.Frag) (fd : FuncData) (ps : List Str) (ds : List Value) : Prop :=
  ∀ (s : Shared) (us : List Value), K.In s.heap → (us ++ ds).length = ps.length → BindsTo s fd ⟨us, []⟩ (ps.zip (us ++ ds))
theorem Binds.all {K : PySem.W.Frag} {fd : FuncData} {ps : List Str} (h : ∀ us : List Value, us.length = ps.length → bindArgs fd ⟨us, []⟩ = pure (ps.zip us)) : Binds K fd ps [] := fun s us _ hl => by
  rw [List.append_nil] at hl ⊢
  exact .of_eq (h us hl)
def Passes (CX : CXT) (X : Cx) (E : XK) : Prop := ∀ (pins : List (Addr × Obj)) (σ : St) (H : Hp) (s : Shared) (e : Value) (s' : Shared), Inv X pins σ H s → CX X.stack H s E e s' → X.xe e s'
section
variable {X : Cx} {CX : CXT} {k : Nat} {f C : Addr} {fd : FuncData} {ps : List Str} {sp : Sp} {dvs : List V} {ds : List Value} {E : XK} {x m : Str} {p pos apos : Pos} {e o : Expr} {es : List Expr} {ta : TE} {t : TA}
theorem run_fn {pins : List (Addr × Obj)} {σ : St} {H : Hp} {s : Shared} {Q : VK} {us : List Value} {vs : List V} (F : FnOk X.prog X.w X.K X.mg X.base CX k f fd ps sp) (hr : Room k X.A) (hb : Binds X.K fd ps ds) (hd : Vals dvs ds) (hx : Passes CX X E)
    (I : Inv X pins σ H s) (r : Vals vs us) (h : sp (vs ++ dvs) H Q E) : wpAny (model X.prog X.w) X.A (call (.ref f) us) (EP X pins σ Q) X.xe s := by
  have r2 : Vals (vs ++ dvs) (us ++ ds) := r.append hd
  have hl : (us ++ ds).length = ps.length := by rw [← r2.length]; exact F.len _ _ _ _ h
  refine wpAny_call (codeAny_mono (F.run X.A X.stack s H ⟨us, []⟩ (us ++ ds) (vs ++ dvs) Q E hr I.env0 (hb s us I.kIn hl) r2 h) fun r s' hq => ?_)
  cases r with
  | error e => exact hx pins σ H s e s' I hq
  | ok fl =>
    cases fl with
    | ret u => exact I.after hq
    | next => exact False.elim hq
    | brk => exact False.elim hq
    | cont => exact False.elim hq
theorem pe_call (F : FnOk X.prog X.w X.K X.mg X.base CX k f fd ps sp) (hr : Room k X.A) (hg : Gl X x) (hm : X.mg x = some (.ref f)) (hk : PySem.W.keepIn X.K (.ref f) = true) (hb : Binds X.K fd ps ds) (hd : Vals dvs ds) (hx : Passes CX X E)
    (ha : PA X (e :: es) t) (hdb : (x == ("__debug__" : Str)) = false := by decide) (he : starEach (e :: es) X.env = (false, eval e X.env) :: starEach es X.env := by rfl) (hpl : (backTo pos (starEach es X.env)).any (·.1) = false := by rfl) :
    PE X (.Call (.Name x p) (e :: es) [] pos) (tCall sp dvs E t) := by
  intro pins s σ H Q I h
  refine wpAny_Call_Name_kw (ld_glob I hg hm ?_ hdb)
  refine PySem.W.callWith_K (h₀ := X.base) I.ok.mod.kin hk (thn (ha pos pins s σ H _ I h) fun us s1 ⟨vs, H1, I1, r, q⟩ => ⟨I1.kIn, ?_⟩) he hpl
  exact run_fn F hr hb hd hx I1 r q
theorem pe_meth {pl : Sem Bool} (he : PE X o ta) (c : Cls X.K C) (hm : Meth X.K C m f) (F : FnOk X.prog X.w X.K X.mg X.base CX k f fd ps sp) (hr : Room k X.A) (hb : Binds X.K fd ps ds) (hd : Vals dvs ds) (hx : Passes CX X E) (ha : PA X (e :: es) t)
    (hst : starEach (e :: es) X.env = (false, eval e X.env) :: starEach es X.env := by rfl) (hpl : (backTo pos (starEach es X.env)).any (·.1) = false := by rfl)
    (ht : eval (.Call (.Attribute o m apos) (e :: es) [] pos) X.env = (do
      let ov ← eval o X.env
      standAt apos.atName
      let (f, first) ← holding [ov] (getMethod ov m pl)
      callWith pos f first (backTo pos (starEach (e :: es) X.env)) (backToKw pos (keywordEach [] X.env))) := by rfl) :
    PE X (.Call (.Attribute o m apos) (e :: es) [] pos) (tMeth C m sp dvs E ta t) := by
  intro pins s σ H Q I h
  refine PySem.W.methodCall_KW (pl := pl) (thn (he pins s σ H _ I h) fun u s1 ⟨x, H1, I1, rx, a, dx, fs, ex, ea, l, q⟩ => ?_) ht
  subst ex
  obtain rfl : u = Value.ref a := rx
  refine getmeth_ok I1 ea c hm l ?_
  refine PySem.W.callWith_K (first := [.ref a]) (h₀ := X.base) I.ok.mod.kin hm.kp (thn (ha pos pins s1 σ H1 _ I1 q) fun us s2 ⟨vs, H2, I2, r, q2⟩ => ⟨I2.kIn, ?_⟩) hst hpl
  exact run_fn (us := .ref a :: us) (vs := .ref a :: vs) F hr hb hd hx I2 (.cons rfl r) q2
structure Mk (K : PySem.W.Frag) (C f : Addr) : Prop where
  makes : PySem.W.makesIn K C = true
  init : PySem.W.findIn K (.ref C) "__init__" = some (some (.ref f))
  fn : PySem.W.isFn K (.ref f) = true
  kp : PySem.W.keepIn K (.ref C) = true
theorem run_make {pins : List (Addr × Obj)} {σ : St} {H : Hp} {s : Shared} {Q : VK} {us : List Value} {vs : List V} (M : Mk X.K C f) (F : FnOk X.prog X.w X.K X.mg X.base CX k f fd ps sp) (hr : Room (k + 1) X.A) (hb : Binds X.K fd ps ds) (hd : Vals dvs ds)
    (hx : Passes CX X E) (I : Inv X pins σ H s) (r : Vals vs us)
    (h : ∀ x dx, H x = none → H dx = none → dx ≠ x → sp (.ref x :: (vs ++ dvs)) (upd (upd H dx (.own x)) x (.ins C dx [])) (fun v H2 => v = .non ∧ Q (.ref x) H2) E) :
    wpAny (model X.prog X.w) X.A (call (.ref C) us) (EP X pins σ Q) X.xe s := by
  have hq := h (s.heap.objs.size + 1) s.heap.objs.size (I.hok.fresh (Nat.le_succ _)) (I.hok.fresh (Nat.le_refl _)) (Nat.ne_of_lt (Nat.lt_succ_self _))
  have I2 := Inv.made (C := C) I
  have r2 : Vals (V.ref (s.heap.objs.size + 1) :: (vs ++ dvs)) (Value.ref (s.heap.objs.size + 1) :: (us ++ ds)) := .cons rfl (r.append hd)
  have hl : (Value.ref (s.heap.objs.size + 1) :: us ++ ds).length = ps.length := by
    have e := r2.length
    rw [F.len _ _ _ _ hq] at e
    exact e.symm
  refine wpAny_call (make_map (f := f) I.kIn M.makes M.init (beq_iff_eq.mp M.fn) (codeAny_mono (F.run _ X.stack _ _ ⟨Value.ref (s.heap.objs.size + 1) :: us, []⟩ (Value.ref (s.heap.objs.size + 1) :: (us ++ ds)) _ _ E (hr.make C us [])
    (I2.env0.make C us []) (hb _ (Value.ref (s.heap.objs.size + 1) :: us) I2.kIn hl) r2 hq) fun r s' hq' => ?_))
  cases r with
  | error e => exact hx pins σ _ _ e s' I2 hq'
  | ok fl =>
    cases fl with
    | ret u =>
      obtain ⟨v, H', I3, rv, ev, q3⟩ := I2.after hq'
      subst ev
      exact ⟨rv, ⟨V.ref (s.heap.objs.size + 1), H', I3, rfl, q3⟩⟩
    | next => exact False.elim hq'
    | brk => exact False.elim hq'
    | cont => exact False.elim hq'
theorem pe_make (M : Mk X.K C f) (F : FnOk X.prog X.w X.K X.mg X.base CX k f fd ps sp) (hr : Room (k + 1) X.A) (hg : Gl X x) (hm : X.mg x = some (.ref C)) (hb : Binds X.K fd ps ds) (hd : Vals dvs ds) (hx : Passes CX X E)
    (ha : PA X (e :: es) t) (hdb : (x == ("__debug__" : Str)) = false := by decide) (he : starEach (e :: es) X.env = (false, eval e X.env) :: starEach es X.env := by rfl) (hpl : (backTo pos (starEach es X.env)).any (·.1) = false := by rfl) :
    PE X (.Call (.Name x p) (e :: es) [] pos) (tMake C sp dvs E t) := by
  intro pins s σ H Q I h
  refine wpAny_Call_Name_kw (ld_glob I hg hm ?_ hdb)
  refine PySem.W.callWith_K (h₀ := X.base) I.ok.mod.kin M.kp (thn (ha pos pins s σ H _ I h) fun us s1 ⟨vs, H1, I1, r, q⟩ => ⟨I1.kIn, ?_⟩) he hpl
  exact run_make M F hr hb hd hx I1 r q
theorem pe_make0 (M : Mk X.K C f) (F : FnOk X.prog X.w X.K X.mg X.base CX k f fd ps sp) (hr : Room (k + 1) X.A) (hg : Gl X x) (hm : X.mg x = some (.ref C)) (hb : Binds X.K fd ps ds) (hd : Vals dvs ds) (hx : Passes CX X E)
    (hdb : (x == ("__debug__" : Str)) = false := by decide) : PE X (.Call (.Name x p) [] [] pos) (tMake C sp dvs E tNil) := by
  intro pins s σ H Q I h
  refine wpAny_Call_Name_kw (ld_glob I hg hm ?_ hdb)
  exact PySem.W.callWith_K0 I.kIn M.kp (run_make (us := []) M F hr hb hd hx I .nil h)
end
def PK (X : Cx) (kws : List Keyword) (t : TA) : Prop :=
  ∀ (pos : Pos) (pins : List (Addr × Obj)) (s : Shared) (σ : St) (H : Hp) (Q : List V → Hp → Prop), Inv X pins σ H s → t σ H Q → wpAny (model X.prog X.w) X.A (evalAll ((backToKw pos (keywordEach kws X.env)).map (·.2))) (AP X pins σ Q) X.xe s
section
variable {X : Cx} {CX : CXT} {k : Nat} {f C : Addr} {fd : FuncData} {ps ks : List Str} {sp : Sp} {E : XK} {x m : Str} {p pos apos kpos : Pos} {e o : Expr} {es : List Expr} {kws : List Keyword} {te ta : TE} {t tk : TA} {nm : Option Str}
structure KBinds (K : PySem.W.Frag) (fd : FuncData) (ps ks : List Str) (g : List Value → List Value → List Value) (gV : List V → List V → List V) : Prop where
  to : ∀ (s : Shared) (us ws : List Value), K.In s.heap → (g us ws).length = ps.length → BindsTo s fd ⟨us, ks.zip ws⟩ (ps.zip (g us ws))
  rel : ∀ {vs : List V} {us : List Value} {zs : List V} {ws : List Value}, Vals vs us → Vals zs ws → Vals (gV vs zs) (g us ws)
def tCallK (sp : Sp) (gV : List V → List V → List V) (E : XK) (t tk : TA) : TE := fun σ H Q => t σ H fun vs H1 => tk σ H1 fun zs H2 => sp (gV vs zs) H2 Q E
variable {g : List Value → List Value → List Value} {gV : List V → List V → List V}
end
structure FnScope (N P : List Str) (sc : Scope) : Prop where
  kind : sc.kind = .function
  co : sc.isCoroutine = false
  gen : sc.isGenerator = false
  nd : N.Nodup
  pre : N.take P.length = P
  par : ∀ x ∈ P, sc.names.lookup x = some .local ∨ sc.names.lookup x = some .cell
  nofree : ∀ y ∈ sc.names, y.2 ≠ .free
theorem bindL_out {kindOf : Str → Option NameKind} {x : Str} : ∀ {binds : List (Str × Value)} {m : Str → Option Value}, (∀ v, (x, v) ∉ binds) → bindL kindOf binds m x = m x
  | [], _, _ => rfl
  | (n, v) :: r, m, h => by
    unfold bindL
    rw [bindL_out fun w hw => h w (List.mem_cons_of_mem _ hw)]
    split
    · have : x ≠ n := by rintro rfl; exact h v List.mem_cons_self
      simp [this]
    · rfl
theorem bindC_out {kindOf : Str → Option NameKind} {x : Str} : ∀ {binds : List (Str × Value)} {m : Str → Option Value}, (∀ v, (x, v) ∉ binds) → bindC kindOf binds m x = m x
  | [], _, _ => rfl
  | (n, v) :: r, m, h => by
    unfold bindC
    rw [bindC_out fun w hw => h w (List.mem_cons_of_mem _ hw)]
    split
    · rfl
    · have : x ≠ n := by rintro rfl; exact h v List.mem_cons_self
      simp [this]
theorem bindL_get {kindOf : Str → Option NameKind} {x : Str} {v : Value} : ∀ {P : List Str} {vs : List Value} {i : Nat} {m : Str → Option Value}, P.Nodup → P[i]? = some x → vs[i]? = some v → kindOf x = some .local →
    bindL kindOf (P.zip vs) m x = some v
  | [], _, _, _, _, h, _, _ => by simp at h
  | _ :: _, [], _, _, _, _, h, _ => by simp at h
  | p :: P, w :: vs, 0, m, nd, h1, h2, hk => by
    simp at h1 h2; subst h1; subst h2
    show bindL kindOf ((p, w) :: P.zip vs) m p = _
    unfold bindL
    rw [bindL_out fun v hv => (List.nodup_cons.mp nd).1 (List.of_mem_zip hv).1, if_pos hk]
    simp
  | p :: P, w :: vs, i + 1, m, nd, h1, h2, hk => by
    show bindL kindOf ((p, w) :: P.zip vs) m x = _
    unfold bindL
    exact bindL_get (i := i) (List.nodup_cons.mp nd).2 (by simpa using h1) (by simpa using h2) hk
theorem bindC_get {kindOf : Str → Option NameKind} {x : Str} {v : Value} : ∀ {P : List Str} {vs : List Value} {i : Nat} {m : Str → Option Value}, P.Nodup → P[i]? = some x → vs[i]? = some v → kindOf x ≠ some .local →
    bindC kindOf (P.zip vs) m x = some v
  | [], _, _, _, _, h, _, _ => by simp at h
  | _ :: _, [], _, _, _, _, h, _ => by simp at h
  | p :: P, w :: vs, 0, m, nd, h1, h2, hk => by
    simp at h1 h2; subst h1; subst h2
    show bindC kindOf ((p, w) :: P.zip vs) m p = _
    unfold bindC
    rw [bindC_out fun v hv => (List.nodup_cons.mp nd).1 (List.of_mem_zip hv).1, if_neg hk]
    simp
  | p :: P, w :: vs, i + 1, m, nd, h1, h2, hk => by
    show bindC kindOf ((p, w) :: P.zip vs) m x = _
    unfold bindC
    exact bindC_get (i := i) (List.nodup_cons.mp nd).2 (by simpa using h1) (by simpa using h2) hk
def start (N : List Str) (vs : List V) : St := vs.map some ++ List.replicate (N.length - vs.length) none
def cxOf (CX : CXT) (P : Program) (w : World) (K : PySem.W.Frag) (mg : Str → Option Value) (base : Heap) (N : List Str) (qual : Str) (scope : Scope) (f : Addr) (cd : Value) (A : Around) (outer : List Env) (s : Shared) (H : Hp) (E : XK) : Cx where
  prog := P
  w := w
  K := K
  mg := mg
  base := base
  A := A.deeper (envOfC qual scope s.heap.objs.size f cd)
  N := N
  s₀ := s
  H₀ := H
  env := envOfC qual scope s.heap.objs.size f cd
  outer := outer
  stack := envOfC qual scope s.heap.objs.size f cd :: outer
  ex := []
  calm := true
  fn := fun _ => true
  pn := []
  xe := fun e s' => wpAny (model P w) (A.deeper (envOfC qual scope s.heap.objs.size f cd)) (leaving (envOfC qual scope s.heap.objs.size f cd) e) (fun _ s'' => CX outer H s E e s'') (fun e' s'' => CX outer H s E e' s'') s'
theorem cell_has {sc : Scope} {n : Nat} {x : Str} (h : sc.names.lookup x = some .cell) : ∃ c, (cellsFrom n sc.names []).lookup x = some c := by
  have q := PySem.W.cellsFrom_some sc.names n [] (.inl h)
  exact Option.isSome_iff_exists.mp q
theorem inv_start {CX : CXT} {P : Program} {w : World} {K : PySem.W.Frag} {mg : Str → Option Value} {base : Heap} {N ps : List Str} {qual : Str} {scope : Scope} {f : Addr} {cd : Value} {A : Around} {outer : List Env} {s s1 : Shared} {H : Hp} {E : XK} {us : List Value} {vs : List V}
    (S : FnScope N ps scope) (hd : A.handled = none) (e0 : Env0 P w K mg base A outer s H) (hl : vs.length = ps.length) (r : Vals vs us)
    (x : InCallC s s.heap.objs.size (bindL (envOfC qual scope s.heap.objs.size f cd).kindOf (ps.zip us) fun _ => none) (cellsFrom (s.heap.objs.size + 1) scope.names []) (bindC (envOfC qual scope s.heap.objs.size f cd).kindOf (ps.zip us) fun _ => none) s1) :
    Inv (cxOf CX P w K mg base N qual scope f cd A outer s H E) [] (start N vs) H s1 := by
  have hpl : ps.length ≤ N.length := by have := congrArg List.length S.pre; rw [List.length_take] at this; omega
  obtain ⟨h1, tk, rfl, hk⟩ := x.done
  have noA : ∀ b : Addr, b ∉ (cxOf CX P w K mg base N qual scope f cd A outer s H E).ex := fun b z => absurd (show b ∈ ([] : List Addr) from z) (by simp)
  refine ⟨⟨e0.mod, S.kind, rfl, rfl, Nat.le_refl _, fun y z c h1 h2 => ?_, fun y hy => ?_, fun y c _ h => ?_, fun _ => hd, Around.frames_deeper e0.frames, .inr ⟨rfl, rfl⟩, fun b z => absurd z (noA b), e0.bs, e0.bsz, fun b _ _ => noA b, fun b z => absurd z (noA b), e0.funs, e0.frf⟩,
    rfl, e0.bare, Un.kept hk, ⟨_, x.toInCall.ns, fun i y v h1 h2 h3 => ?_⟩, fun y c h => ⟨_, x.cell y c h⟩, e0.hok.fresh (Nat.le_refl _), fun y c h => ?_, fun p hp => absurd (show p ∈ ([] : List (Addr × Obj)) from hp) (by simp), e0.hok.kept hk, ?_⟩
  · exact name_of_addr x.apart (PySem.mem_of_lookup h1) (PySem.mem_of_lookup h2)
  · have hy : scope.names.lookup y = some .cell ∨ scope.names.lookup y = some .free := hy
    rcases hy with hy | hy
    · exact cell_has hy
    · exact absurd rfl (S.nofree _ (PySem.mem_of_lookup hy))
  · exact Nat.le_of_lt (x.above y c (PySem.mem_of_lookup h))
  · have hi : i < vs.length := by
      unfold start at h2
      by_cases hi : i < vs.length
      · exact hi
      · rw [List.getElem?_append_right (by simpa using hi)] at h2
        rw [List.getElem?_replicate] at h2
        split at h2 <;> cases h2
    have ha : vs[i]? = some v := by
      unfold start at h2
      rw [List.getElem?_append_left (by simpa using hi), List.getElem?_map] at h2
      cases e : vs[i]? with
      | none => rw [e] at h2; cases h2
      | some a => rw [e] at h2; cases h2; rfl
    obtain ⟨u, hu, rv⟩ := r.get ha
    have hp : ps[i]? = some y := by
      rw [← S.pre, List.getElem?_take_of_lt (by omega)]; exact h1
    have ndP : ps.Nodup := by rw [← S.pre]; exact S.nd.sublist (List.take_sublist _ _)
    refine ⟨u, rv, ?_⟩
    rcases S.par y (List.mem_of_getElem? hp) with k | k
    · exact .inl ⟨k, bindL_get ndP hp hu k⟩
    · obtain ⟨c, e⟩ := cell_has (n := s.heap.objs.size + 1) k
      refine .inr ⟨.inl k, c, e, ?_⟩
      have q := x.cell y c e
      rw [bindC_get ndP hp hu (by show scope.names.lookup y ≠ _; rw [k]; decide)] at q
      exact q
  · exact e0.hok.fresh (Nat.le_of_lt (x.above y c (PySem.mem_of_lookup h)))
  · unfold start
    show _ = N.length
    rw [List.length_append, List.length_map, List.length_replicate]
    omega
theorem fn_of {CX : CXT} {P : Program} {w : World} {K : PySem.W.Frag} {mg : Str → Option Value} {base : Heap} {k : Nat} {f : Addr} {name qual : Str} {params : Arguments} {body : List Stmt} {scope : Scope} {dV kV doc pm cdv ct oc : Value} {an od : Option Addr}
    {osl : Array (Option Value)} {N ps : List Str} {sp : Sp} (lk : K.lookup f = some ⟨oc, od, .func (PySem.W.fnOf name qual params body scope dV kV doc pm an cdv ct), osl⟩) (hcd : PySem.W.codeIn K cdv qual = true) (S : FnScope N ps scope)
    (len : ∀ vs H Q E, sp vs H Q E → vs.length = ps.length)
    (hbody : ∀ (A : Around) (outer : List Env) (s : Shared) (H : Hp) (vs : List V) (Q : VK) (E : XK), Room k (A.deeper (envOfC qual scope s.heap.objs.size f cdv)) → sp vs H Q E →
      ∃ t, PSs (cxOf CX P w K mg base N qual scope f cdv A outer s H E) body t ∧ t { nx := fun _ H' => Q .non H', rt := Q } (start N vs) H) :
    FnOk P w K mg base CX (k + 1) f (PySem.W.fnOf name qual params body scope dV kV doc pm an cdv ct) ps sp := by
  refine ⟨len, fun A outer s H args us vs Q E hr e0 hb r hsp => ?_⟩
  have hl := len _ _ _ _ hsp
  have KX : K.In s.heap := e0.mod.kin.keeps fun b o e => (e0.bs b o e).1
  have lim : s.heap.NoLimit := e0.mod.nolimit.keeps fun b o e => (e0.bs b o e).1
  have hkind : ∀ y ∈ ps.zip us, scope.names.lookup y.1 = some .local ∨ (scope.names.lookup y.1 = some .cell ∧ ((cellsFrom (s.heap.objs.size + 1) scope.names []).lookup y.1).isSome = true) := fun ⟨n, v⟩ hy => by
    rcases S.par n (List.of_mem_zip hy).1 with q | q
    · exact .inl q
    · exact .inr ⟨q, PySem.W.cellsFrom_some _ _ _ (.inl q)⟩
  refine codeAny_call_function hr.depth (KX _ _ lk) rfl S.co S.gen rfl (PySem.W.codeRec_of KX hcd) (hb _ _ _ _ ?_)
  refine wpAny_newFunctionEnv_cells S.kind hkind fun env he s1 x => ?_
  subst he
  refine ⟨lim.keeps x.toInCall.keep, codeAny_func ?_⟩
  obtain ⟨t, ht, hq⟩ := hbody A outer s H vs Q E (hr.deeper _) hsp
  have I : Inv (cxOf CX P w K mg base N qual scope f cdv A outer s H E) [] (start N vs) H s1 := inv_start S hr.hd e0 hl r x
  refine wpAny_mono (ht [] s1 (start N vs) H _ I hq) (fun fl s' hs => ?_) fun e s' hs => hs
  have fin : ∀ {σ' : St} {H' : Hp} {v : V} {u : Value}, Inv (cxOf CX P w K mg base N qual scope f cdv A outer s H E) [] σ' H' s' → RelV v u → Q v H' → CE outer P w H s Q u s' :=
    fun {σ' H' v u} J rv q => ⟨v, H', J.os, J.bare, J.base, J.hok, rv, q⟩
  cases fl with
  | ret u =>
    obtain ⟨v, σ', H', J, rv, q⟩ := hs
    exact fin J rv q
  | next =>
    obtain ⟨σ', H', J, q⟩ := hs
    exact fin (v := V.non) (u := Value.none) J rfl q
  | brk =>
    obtain ⟨_, _, _, q⟩ := hs
    exact False.elim q
  | cont =>
    obtain ⟨_, _, _, q⟩ := hs
    exact False.elim q
end L2
namespace L2
open PySem PySem.Spec PyProof.Rows
section
variable {X : Cx} {x : Str} {p pos : Pos} {e : Expr} {es : List Expr} {t : TA} {id T : String} {r : List V → Hp → VK → Prop}
def tCB (r : List V → Hp → VK → Prop) (t : TA) : TE := fun σ H Q => t σ H fun vs H1 => r vs H1 Q
theorem pe_callB (hc : CallR X (.builtin id) r) (hg : Gl X x) (hm : X.mg x = none) (hv : bootBuiltins x = some (.builtin id)) (ha : PA X (e :: es) t) (hn : x ≠ "__name__" := by decide) (hdb : (x == ("__debug__" : Str)) = false := by decide)
    (he : starEach (e :: es) X.env = (false, eval e X.env) :: starEach es X.env := by rfl) (hpl : (backTo pos (starEach es X.env)).any (·.1) = false := by rfl) : PE X (.Call (.Name x p) (e :: es) [] pos) (tCB r t) := by
  intro pins s σ H Q I h
  refine wpAny_Call_Name_kw (ld_blt I hg hm hv ?_ hn hdb)
  exact PyProof.Rows.callWith_builtin1 (thn (ha pos pins s σ H _ I h) fun us s1 ⟨vs, H1, I1, r1, q1⟩ => hc pins s1 σ H1 vs us Q I1 r1 q1) he hpl
theorem pe_callTy (hc : CallR X (.type T) r) (hg : Gl X x) (hm : X.mg x = none) (hv : bootBuiltins x = some (.type T)) (ha : PA X (e :: es) t) (hn : x ≠ "__name__" := by decide) (hdb : (x == ("__debug__" : Str)) = false := by decide)
    (he : starEach (e :: es) X.env = (false, eval e X.env) :: starEach es X.env := by rfl) (hpl : (backTo pos (starEach es X.env)).any (·.1) = false := by rfl) : PE X (.Call (.Name x p) (e :: es) [] pos) (tCB r t) := by
  intro pins s σ H Q I h
  refine wpAny_Call_Name_kw (ld_blt I hg hm hv ?_ hn hdb)
  exact PyProof.Rows.callWith_type1 (thn (ha pos pins s σ H _ I h) fun us s1 ⟨vs, H1, I1, r1, q1⟩ => hc pins s1 σ H1 vs us Q I1 r1 q1) he hpl
end
end L2
namespace HT
open PySem PyProof.Rows
def lexLt : List Int → List Int → Bool
  | [], [] => false
  | [], _ :: _ => true
  | _ :: _, [] => false
  | x :: xs, y :: ys => if x = y then lexLt xs ys else decide (x < y)
section
open PySem.SeqAt
open PySem.AutoSeq1 (wpAny_loadPart')
open PySem.MeetsSeq PySem.MeetsSeq2 PySem.MeetsSeq3
end
section
variable {prog : Program} {w : World} {A : Around} {E : Value → Shared → Prop} {s : Shared}
def sIx (n d : Nat) : Option Int → Nat
  | none => d
  | some v => if v < 0 then (v + (n : Int)).toNat else min v.toNat n
end
end HT
namespace L2
open PySem PySem.Spec PyProof.Rows
abbrev TO := St → Hp → (Option Int → Hp → Prop) → Prop
def PO (X : Cx) (e : Option Expr) (t : TO) : Prop :=
  ∀ (pins : List (Addr × Obj)) (s : Shared) (σ : St) (H : Hp) (Q : Option Int → Hp → Prop), Inv X pins σ H s → t σ H Q →
    wpAny (model X.prog X.w) X.A (evalPart e X.env) (fun u s' => ∃ o H', Inv X pins σ H' s' ∧ IsPart u o ∧ Q o H') X.xe s
def tNoPart : TO := fun _ H Q => Q none H
def tPart (t : TE) : TO := fun σ H Q => t σ H fun x H1 => ∃ i, x = .int i ∧ Q (some i) H1
section
variable {X : Cx} {e : Expr} {te : TE} {lo hi : Option Expr} {tl th : TO} {pos p2 : Pos}
def SlR (X : Cx) (r : V → Option Int → Option Int → Hp → VK → Prop) : Prop :=
  ∀ (pins : List (Addr × Obj)) (s : Shared) (σ : St) (H : Hp) (x : V) (v vl vu : Value) (lo hi : Option Int) (sl : Addr) (Q : VK), Inv X pins σ H s → RelV x v → s.heap.IsSliceOf sl vl vu .none → IsPart vl lo → IsPart vu hi → r x lo hi H Q →
    ∃ T id, typeLookup (.type T) "__getitem__" = pure (some (.builtin id)) ∧ s.TypeIs v T ∧ wpAny (model X.prog X.w) X.A (getItem v (.ref sl)) (EP X pins σ Q) X.xe s
def tSl (r : V → Option Int → Option Int → Hp → VK → Prop) (te : TE) (tl th : TO) : TE := fun σ H Q => te σ H fun x H1 => tl σ H1 fun l H2 => th σ H2 fun u H3 => r x l u H3 Q
def cutV (xs : List V) (lo hi : Option Int) : List V := (xs.drop (HT.sIx xs.length 0 lo)).take (HT.sIx xs.length xs.length hi - HT.sIx xs.length 0 lo)
def rSlT (K : PySem.W.Frag) : V → Option Int → Option Int → Hp → VK → Prop := fun x lo hi H Q => ∃ a xs, x = .ref a ∧ SqT K H a xs ∧
  ¬ (HT.sIx xs.length 0 lo = 0 ∧ HT.sIx xs.length xs.length hi = xs.length) ∧ ∀ p, H p = none → Q (.ref p) (upd H p (.tup (cutV xs lo hi)))
def rLtT (K : PySem.W.Frag) : R2 := fun x y H Q => ∃ a b ns ms, x = .ref a ∧ y = .ref b ∧ SqT K H a (ns.map V.int) ∧ SqT K H b (ms.map V.int) ∧ Q (.bl (HT.lexLt ns ms)) H
def rCatT (K : PySem.W.Frag) : R2 := fun x y H Q => ∃ a b xs ys, x = .ref a ∧ y = .ref b ∧ SqT K H a xs ∧ SqT K H b ys ∧ xs ≠ [] ∧ xs.length + ys.length ≤ sizeLine ∧
  (ys = [] → Q (.ref a) H) ∧ (ys ≠ [] → ∀ p, H p = none → Q (.ref p) (upd H p (.tup (xs ++ ys))))
end
end L2
namespace L2
open PySem PySem.Spec PyProof.Rows
def ixN (n : Nat) (i : Int) : Option Nat := if 0 ≤ i then (if i < n then some i.toNat else none) else if -(n : Int) ≤ i then some (i + n).toNat else none
def atI {α : Type} (xs : List α) (i : Int) : Option α := (ixN xs.length i).bind fun j => xs[j]?
theorem ixN_seq {n : Nat} {i : Int} {j : Nat} (h : ixN n i = some j) : seqIndex? i n = some j ∧ j < n ∧ -(n : Int) ≤ i ∧ i < n := by
  unfold ixN at h
  by_cases h0 : 0 ≤ i
  · rw [if_pos h0] at h
    by_cases h1 : i < n
    · rw [if_pos h1] at h
      have e : i.toNat = j := Option.some.inj h
      exact ⟨by rw [seqIndex_of h0 h1, e], by omega, by omega, h1⟩
    · rw [if_neg h1] at h; cases h
  · rw [if_neg h0] at h
    by_cases h1 : -(n : Int) ≤ i
    · rw [if_pos h1] at h
      have e : (i + n).toNat = j := Option.some.inj h
      exact ⟨by rw [seqIndex_neg (by omega) h1, e], by omega, h1, by omega⟩
    · rw [if_neg h1] at h; cases h
theorem atI_get {α : Type} {xs : List α} {i : Int} {v : α} (h : atI xs i = some v) : ∃ j, seqIndex? i xs.length = some j ∧ xs[j]? = some v ∧ j < xs.length ∧ -(xs.length : Int) ≤ i ∧ i < xs.length := by
  unfold atI at h
  cases e : ixN xs.length i with
  | none => rw [e] at h; cases h
  | some j =>
    rw [e] at h
    obtain ⟨h1, h2, h3, h4⟩ := ixN_seq e
    exact ⟨j, h1, h, h2, h3, h4⟩
theorem atI_nat {α : Type} {xs : List α} {j : Nat} {v : α} (h : xs[j]? = some v) : atI xs (j : Int) = some v := by
  have hj : j < xs.length := (List.getElem?_eq_some_iff.mp h).1
  have e : ixN xs.length (j : Int) = some j := by
    unfold ixN
    rw [if_pos (by omega), if_pos (by omega)]; simp
  unfold atI; rw [e]; exact h
def PlainIx (b : Expr) : Prop := ∀ o i, subscripted b false o i = operate [o, i] (getItem o i)
def IxR (X : Cx) (r : R2) : Prop :=
  ∀ (value slice : Expr) (pins : List (Addr × Obj)) (s : Shared) (σ : St) (H : Hp) (x y : V) (v u : Value) (Q : VK), Inv X pins σ H s → RelV x v → RelV y u → r x y H Q →
    subscripted slice false v u = operate [v, u] (getItem v u) → wpAny (model X.prog X.w) X.A (subscriptTail value slice v u) (EP X pins σ Q) X.xe s
def MtR (X : Cx) (id : String) (r : V → List V → Hp → VK → Prop) : Prop :=
  ∀ (pins : List (Addr × Obj)) (s : Shared) (σ : St) (H : Hp) (x : V) (xs : List V) (v : Value) (us : List Value) (Q : VK), Inv X pins σ H s → RelV x v → Vals xs us → r x xs H Q →
    wpAny (model X.prog X.w) X.A (call (.builtin id) (v :: us)) (EP X pins σ Q) X.xe s
section
variable {X : Cx} {a b : Expr} {ta tb : TE} {pos : Pos}
theorem pe_ix {r : R2} (hr : IxR X r) (ha : PE X a ta) (hb : PE X b tb) (hs : PlainIx b) : PE X (.Subscript a b pos) (tOp r ta tb) := by
  intro pins s σ H Q I h
  exact Subscript_ (binT ha hb I h fun v u s2 x y H2 I2 rx ry q => hr a b pins s2 σ H2 x y v u Q I2 rx ry q (hs _ _))
def rIxL (K : PySem.W.Frag) : R2 := fun x y H Q => ∃ p xs i v, x = .ref p ∧ y = .int i ∧ SqL K H p xs ∧ atI xs i = some v ∧ Q v H
def rIxT (K : PySem.W.Frag) : R2 := fun x y H Q => ∃ p xs i v, x = .ref p ∧ y = .int i ∧ SqT K H p xs ∧ atI xs i = some v ∧ Q v H
def rIxS : R2 := fun x y H Q => ∃ z i c, x = .str z ∧ y = .int i ∧ z.length ≤ sizeLine ∧ atI z.cps.toList i = some c ∧ Q (.str ⟨#[c]⟩) H
theorem ix_list : IxR X (rIxL X.K) := by
  intro value slice pins s σ H x y v u Q I rx ry h hs
  obtain ⟨p, xs, i, z, rfl, rfl, hq, he, q⟩ := h
  cases rx
  obtain ⟨t, rfl⟩ := ry
  obtain ⟨its, r, pl, hz⟩ := I.list hq
  obtain ⟨j, h1, h2, h3, h4, h5⟩ := atI_get he
  obtain ⟨w, ew, rw'⟩ := r.get h2
  have hl := r.length
  have hn := line63
  have fin : EP X pins σ Q w s := ⟨z, H, I, rw', q⟩
  by_cases h0 : 0 ≤ i
  · have hj : i.toNat = j := by
      rw [seqIndex_of h0 h5] at h1
      exact Option.some.inj h1
    exact item_listR pl.isList h0 (by omega) (by rw [hj]; simpa using ew) fin hs
  · have hj : (i + (its.toArray.size : Int)).toNat = j := by
      rw [seqIndex_neg (by omega) h4] at h1
      rw [List.size_toArray, ← hl]
      exact Option.some.inj h1
    exact subscriptTail_builtinR (x := w) pl.isList.typeIs slot_list_getitem.lookup
      (wpAny_getItem_list_neg (Q := fun r s' => r = w ∧ EP X pins σ Q r s') pl.isList (by omega) (by rw [List.size_toArray] <;> omega) (by omega) (by rw [hj]; simpa using ew) ⟨rfl, fin⟩) hs
theorem ix_tup : IxR X (rIxT X.K) := by
  intro value slice pins s σ H x y v u Q I rx ry h hs
  obtain ⟨p, xs, i, z, rfl, rfl, hq, he, q⟩ := h
  cases rx
  obtain ⟨t, rfl⟩ := ry
  obtain ⟨its, r, pl, hz⟩ := I.tuple hq
  obtain ⟨j, h1, h2, h3, h4, h5⟩ := atI_get he
  obtain ⟨w, ew, rw'⟩ := r.get h2
  have hl := r.length
  have hn := line63
  have fin : EP X pins σ Q w s := ⟨z, H, I, rw', q⟩
  exact subscriptTail_builtinR (x := w) pl.typeIs slot_tuple_getitem.lookup
    (getItem_tuple (j := j) (Q := fun r s' => r = w ∧ EP X pins σ Q r s') pl (by omega) (by omega) (by rw [List.size_toArray, ← hl]; exact h1) (by simpa using ew) ⟨rfl, fin⟩) hs
theorem ix_str : IxR X rIxS := by
  intro value slice pins s σ H x y v u Q I rx ry h hs
  obtain ⟨z, i, c, rfl, rfl, hz, he, q⟩ := h
  obtain ⟨t, rfl⟩ := rx
  obtain ⟨t', rfl⟩ := ry
  obtain ⟨j, h1, h2, h3, h4, h5⟩ := atI_get he
  have hl : z.cps.toList.length = z.length := by simp [Str.length]
  rw [hl] at h1 h4 h5
  have hn := line63
  exact tail_any (typeIs_str s z t) slot_str_getitem.lookup (getItem_str (c := c) (by
    have e1 : decide (i < -(2 ^ 63 : Int)) = false := decide_eq_false (by omega)
    have e2 : decide (i ≥ 2 ^ 63) = false := decide_eq_false (by omega)
    rw [e1, e2, Bool.or_false]) (by rw [h1]; simpa using h2) ⟨.str ⟨#[c]⟩, H, I.tok _, ⟨_, rfl⟩, q⟩) hs
def rIx (K : PySem.W.Frag) : R2 := fun x y H Q => rIxL K x y H Q ∨ rIxT K x y H Q ∨ rIxS x y H Q
theorem mapSeq_set (its : List Value) (n j : Nat) (u : Value) : Obj.mapSeq (·.setIfInBounds j u) { cls := .type "list", data := .seq its.toArray n } = { cls := .type "list", data := .seq (its.set j u).toArray n } := by
  simp [Obj.mapSeq]
theorem Inv.lst {pins : List (Addr × Obj)} {σ : St} {H : Hp} {s : Shared} {p : Addr} {xs : List V} (I : Inv X pins σ H s) (h : H p = some (.lst xs)) :
    ∃ (its : List Value) (n : Nat), Vals xs its ∧ s.heap.get? p = some { cls := .type "list", data := .seq its.toArray n } ∧ xs.length ≤ sizeLine := by
  obtain ⟨z, its, n, r, e⟩ := I.hok p _ h
  exact ⟨its, n, r, e, z⟩
theorem Inv.lstUpd {pins : List (Addr × Obj)} {σ : St} {H : Hp} {s : Shared} {p : Addr} {xs ys : List V} {its its' : List Value} {n n' : Nat} {f : Obj → Obj} (I : Inv X pins σ H s) (h : H p = some (.lst xs))
    (ho : s.heap.get? p = some { cls := .type "list", data := .seq its.toArray n }) (hf : f { cls := .type "list", data := .seq its.toArray n } = { cls := .type "list", data := .seq its'.toArray n' }) (r : Vals ys its') (hz : ys.length ≤ sizeLine) (t : Nat) :
    Inv X pins σ (upd H p (.lst ys)) { s with heap := s.heap.update p f, toks := t } := by
  have e : (s.heap.update p f).get? p = some { cls := .type "list", data := .seq its'.toArray n' } := by
    rw [Heap.get?_update_self f ho (by rw [hf] <;> rfl), hf]
  refine I.write (x := p) (e := p) (by rw [h]; trivial) (.inl rfl) (fun b u hb q => (Heap.get?_update_other _ _ (Ne.symm hb)).trans q) ⟨_, e⟩ ?_
  exact ⟨hz, its', n', r, e⟩
def rSetL : V → V → V → Hp → (Hp → Prop) → Prop := fun o i v H Q => ∃ p xs k j, o = .ref p ∧ i = .int k ∧ H p = some (.lst xs) ∧ ixN xs.length k = some j ∧ Q (upd H p (.lst (xs.set j v)))
theorem set_list : PSet X rSetL := by
  intro pins s σ H o i v ov iv u Q I ro ri rv h
  obtain ⟨p, xs, k, j, rfl, rfl, hp, hj, q⟩ := h
  cases ro
  obtain ⟨t, rfl⟩ := ri
  obtain ⟨its, n, r, ho, hz⟩ := I.lst hp
  obtain ⟨h1, h2, h3, h4⟩ := ixN_seq hj
  have hl := r.length
  have hn := line63
  have I' : Inv X pins σ (upd H p (.lst (xs.set j v))) { s with heap := s.heap.update p (Obj.mapSeq (·.setIfInBounds j u)) } :=
    I.lstUpd hp ho (mapSeq_set its n j u) (r.set rv j) (by rw [List.length_set]; exact hz) s.toks
  by_cases h0 : 0 ≤ k
  · have hk : k.toNat = j := by
      rw [seqIndex_of h0 h4] at h1
      exact Option.some.inj h1
    exact PySem.W.ki_setAt ho h0 (by omega) (by rw [List.size_toArray, ← hl]; exact h4) (by rw [hk]; exact ⟨_, I', q⟩)
  · have hk : (k + (its.toArray.size : Int)).toNat = j := by
      rw [seqIndex_neg (by omega) h3] at h1
      rw [List.size_toArray, ← hl]
      exact Option.some.inj h1
    exact PySem.W.ki_setBack ho (by omega) (by rw [List.size_toArray, ← hl]; exact h3) (by omega) (by rw [hk]; exact ⟨_, I', q⟩)
def rSlL (K : PySem.W.Frag) : V → Option Int → Option Int → Hp → VK → Prop := fun x lo hi H Q => ∃ a xs, x = .ref a ∧ SqL K H a xs ∧ ∀ p, H p = none → Q (.ref p) (upd H p (.lst (cutV xs lo hi)))
def flatV : V → Bool
  | .non => true
  | .bl _ => true
  | .int _ => true
  | .str _ => true
  | _ => false
def eqV : V → V → Bool
  | .non, .non => true
  | .bl a, .bl b => a == b
  | .bl a, .int b => (if a then 1 else 0) == b
  | .int a, .bl b => a == (if b then 1 else 0)
  | .int a, .int b => a == b
  | .str a, .str b => a == b
  | _, _ => false
def eqU (x : V) (u : Value) : Bool := match u with
  | .none => eqV .non x
  | .bool b => eqV (.bl b) x
  | .int i _ => eqV (.int i) x
  | .str z _ => eqV (.str z) x
  | _ => false
def inV (x : V) (xs : List V) : Bool := xs.any fun y => eqV y x
def rIn (K : PySem.W.Frag) (neg : Bool) : R2 := fun x y H Q => ∃ p xs, y = .ref p ∧ (SqL K H p xs ∨ SqT K H p xs) ∧ flatV x = true ∧ xs.all flatV = true ∧ Q (.bl (if neg then !inV x xs else inV x xs)) H
theorem CallR.or {f : Value} {r r' : List V → Hp → VK → Prop} (h : CallR X f r) (h' : CallR X f r') : CallR X f (fun xs H Q => r xs H Q ∨ r' xs H Q) := by
  intro pins s σ H xs us Q I rs q
  rcases q with q | q
  · exact h pins s σ H xs us Q I rs q
  · exact h' pins s σ H xs us Q I rs q
theorem call_list_of : CallR X (.type "list") (fun xs H Q => ∃ p ys, xs = [.ref p] ∧ (SqL X.K H p ys ∨ SqT X.K H p ys) ∧ ∀ l, H l = none → Q (.ref l) (upd H l (.lst ys))) := by
  intro pins s σ H xs us Q I r h
  obtain ⟨p, ys, rfl, hq, q⟩ := h
  obtain ⟨u, rfl, rx⟩ := vals1 r
  cases rx
  have fin : ∀ (its : List Value), Vals ys its → ys.length ≤ sizeLine → ∀ (h' : Heap) (c' : Nat), (∀ b o', s.heap.get? b = some o' → h'.get? b = some o') →
      h'.get? s.heap.objs.size = some { cls := .type "list", dict := none, data := .seq its.toArray c', slots := #[] } → EP X pins σ Q (.ref s.heap.objs.size) { s with heap := h' } := fun its r' hz h' c' kp e =>
    ⟨.ref s.heap.objs.size, _, I.laid (t' := s.toks) kp (Nat.le_refl _) (show ObjOk X.prog X.w _ h' _ (.lst ys) from ⟨hz, its, c', r', e⟩), rfl, q _ (I.hok.fresh (Nat.le_refl _))⟩
  rcases hq with hq | hq
  · obtain ⟨its, r', pl, hz⟩ := I.list hq
    have hlen := r'.length
    obtain ⟨o, ho, hc, n, hd⟩ := pl.isList
    exact call_list_seq p (.inl rfl) ho hc hd (fun h' c' kp e => fin its r' hz h' c' kp e) (by simp only [List.size_toArray] <;> omega)
  · obtain ⟨its, r', pl, hz⟩ := I.tuple hq
    have hlen := r'.length
    obtain ⟨o, ho, hc, n, hd⟩ := pl
    exact call_list_seq p (.inr rfl) ho hc hd (fun h' c' kp e => fin its r' hz h' c' kp e) (by simp only [List.size_toArray] <;> omega)
def tyV (K : PySem.W.Frag) (T : String) (x : V) (H : Hp) : Prop := match x with
  | .str _ => T = "str"
  | .int _ => T = "int"
  | .ref p => (T = "list" ∧ ∃ xs, SqL K H p xs) ∨ (T = "tuple" ∧ ∃ o, K.lookup p = some o ∧ o.cls = .type "tuple" ∧ o.dict = none) ∨
      (T = "dict" ∧ ((∃ kvs, H p = some (.dK kvs)) ∨ ∃ kvs, H p = some (.dT kvs))) ∨ (T = "set" ∧ ∃ S n, H p = some (.set S n))
  | _ => False
theorem tyV_is {pins : List (Addr × Obj)} {σ : St} {H : Hp} {s : Shared} {T : String} {x : V} {v : Value} (I : Inv X pins σ H s) (r : RelV x v) (ty : tyV X.K T x H) :
    s.TypeIs v T ∧ ∀ a, v = .ref a → ∃ ob, s.heap.get? a = some ob ∧ ob.dict = none := by
  cases x with
  | str z =>
    obtain ⟨t, rfl⟩ := r
    cases (show T = "str" from ty)
    exact ⟨typeIs_str s z t, fun _ e => nomatch e⟩
  | int i =>
    obtain ⟨t, rfl⟩ := r
    cases (show T = "int" from ty)
    exact ⟨typeIs_int s i t, fun _ e => nomatch e⟩
  | ref p =>
    cases r
    rcases ty with ⟨rfl, xs, hq⟩ | ⟨rfl, o, hk, hc, hd⟩ | ⟨rfl, hk⟩ | ⟨rfl, S, n, hk⟩
    · obtain ⟨its, _, pl, _⟩ := I.list hq
      refine ⟨pl.isList.typeIs, fun a e => ?_⟩
      cases e
      obtain ⟨o, n, e, c, hd, _⟩ := pl
      exact ⟨o, e, hd⟩
    · refine ⟨⟨o, I.kIn p o hk, hc⟩, fun a e => ?_⟩
      cases e
      exact ⟨o, I.kIn _ o hk, hd⟩
    · have z : ∃ o, s.heap.get? p = some o ∧ o.ExactDict := by
        rcases hk with ⟨kvs, hk⟩ | ⟨kvs, hk⟩
        · obtain ⟨_, _, _, _, o, _, _, e, ex, _⟩ := I.hok p _ hk
          exact ⟨o, e, ex⟩
        · obtain ⟨_, _, _, _, o, _, _, e, ex, _⟩ := I.hok p _ hk
          exact ⟨o, e, ex⟩
      obtain ⟨o, e, ex⟩ := z
      refine ⟨⟨o, e, ex.1⟩, fun a e2 => ?_⟩
      cases e2
      exact ⟨o, e, ex.2.1⟩
    · obtain ⟨o, _, _, _, e, ex, _⟩ := I.hok p _ hk
      refine ⟨⟨o, e, ex.1⟩, fun a e2 => ?_⟩
      cases e2
      exact ⟨o, e, ex.2.1⟩
  | _ => exact False.elim ty
def tBM0 (K : PySem.W.Frag) (T : String) (r : V → List V → Hp → VK → Prop) (to : TE) : TE := fun σ H Q => to σ H fun x H1 => tyV K T x H1 ∧ r x [] H1 Q
def tBM (K : PySem.W.Frag) (T : String) (r : V → List V → Hp → VK → Prop) (to : TE) (t : TA) : TE := fun σ H Q => to σ H fun x H1 => tyV K T x H1 ∧ t σ H1 fun xs H2 => r x xs H2 Q
variable {o e : Expr} {es : List Expr} {to : TE} {t : TA} {name : Str} {apos cpos : Pos} {T id : String} {r : V → List V → Hp → VK → Prop}
theorem pe_bm (pa : PlainAttrs T) (slot : Slot T name id) (hty : typeOf (.builtin id) = pure (.type "method_descriptor")) (hm : MtR X id r) (ho : PE X o to) (ha : PA X (e :: es) t)
    (hbase : attributeBase o name X.env (eval o X.env) = eval o X.env := by rfl)
    (hfew : ((backTo cpos (starEach (e :: es) X.env)).all (fun x => !x.1) && (backToKw cpos (keywordEach [] X.env)).all (fun x => x.1.isSome)
      && decide ((e :: es).length + ([] : List Keyword).length + (if ([] : List Keyword).isEmpty then 0 else 1) < 30)) = true := by rfl)
    (hline : (apos.endLine == cpos.line) = true := by rfl) (hs : starEach (e :: es) X.env = (false, eval e X.env) :: starEach es X.env := by rfl) (hplain : (backTo cpos (starEach es X.env)).any (·.1) = false := by rfl) :
    PE X (.Call (.Attribute o name apos) (e :: es) [] cpos) (tBM X.K T r to t) := by
  intro pins s σ H Q I h
  refine wpAny_Call_method_late hbase hfew hline rfl (thn (ho pins s σ H _ I h) fun v s1 ⟨x, H1, I1, r1, ty, q1⟩ => ?_)
  obtain ⟨h1, h2⟩ := tyV_is I1 r1 ty
  refine ⟨T, id, pa, slot, hty, h1, h2, ?_⟩
  have hA := ha cpos pins s1 σ H1 _ I1 q1
  rw [hs] at hA ⊢
  refine Calls.callWith_builtin (by show (false || (backTo cpos (starEach es X.env)).any (·.1)) = false; rw [hplain] <;> rfl) (Calls.evalArgs_plain ?_)
  exact thn hA fun us s2 ⟨vs, H2, I2, r2, q2⟩ => hm pins s2 σ H2 x vs v us Q I2 r1 r2 q2
end
end L2
namespace L2
open PySem PySem.Spec PyProof.Rows
def MtM (X : Cx) (id : String) (r : V → List V → Hp → VK → Prop) : Prop :=
  ∀ (pins : List (Addr × Obj)) (s : Shared) (σ : St) (H : Hp) (x : V) (xs : List V) (v : Value) (us : List Value) (Q : VK), Inv X pins σ H s → RelV x v → Vals xs us → r x xs H Q →
    wpAny (model X.prog X.w) X.A (call (.builtin id) (v :: us)) (EP X pins σ Q) X.xe s
theorem Vals.one : ∀ {x : V} {us : List Value}, Vals [x] us → ∃ u, us = [u] ∧ RelV x u
  | _, _, .cons r .nil => ⟨_, rfl, r⟩
theorem Vals.rep {xs : List V} {us : List Value} (h : Vals xs us) : ∀ k : Nat, Vals (List.replicate k xs).flatten (List.replicate k us).flatten
  | 0 => .nil
  | k + 1 => by
    rw [List.replicate_succ, List.replicate_succ, List.flatten_cons, List.flatten_cons]
    exact Vals.append h (Vals.rep h k)
theorem foldl_rep (its : List Value) : ∀ (k : Nat) (acc : List Value),
    List.foldl (fun x1 x2 => x1 ++ x2) acc.toArray (List.replicate k its.toArray) = (acc ++ (List.replicate k its).flatten).toArray
  | 0, acc => by simp
  | k + 1, acc => by
    have e : acc.toArray ++ its.toArray = (acc ++ its).toArray := by simp
    have e2 : (acc ++ its) ++ (List.replicate k its).flatten = acc ++ (List.replicate (k + 1) its).flatten := by
      rw [List.replicate_succ, List.flatten_cons, List.append_assoc]
    rw [← e2, ← foldl_rep its k (acc ++ its), ← e, List.replicate_succ, List.foldl_cons]
section
variable {X : Cx} {pins : List (Addr × Obj)} {σ : St} {H : Hp} {s : Shared} {l b : Addr} {xs ys zs : List V}
theorem Inv.lset {its its' : List Value} {n : Nat} {f : Array Value → Array Value} {t' : Nat} (I : Inv X pins σ H s) (hH : H l = some (.lst xs))
    (e : s.heap.get? l = some { cls := .type "list", data := .seq its.toArray n }) (hf : f its.toArray = its'.toArray) (hv : Vals ys its') (hz : ys.length ≤ sizeLine) :
    Inv X pins σ (upd H l (.lst ys)) { s with heap := s.heap.update l (Obj.mapSeq f), toks := t' } := by
  have q := PySem.IsL.update e f
  rw [hf] at q
  refine I.write (x := l) (e := l) (by rw [hH]; exact trivial) (.inl rfl) (fun b' u hb hu => (Heap.get?_update_other s.heap (Obj.mapSeq f) (Ne.symm hb)).trans hu) ⟨_, q⟩ ?_
  exact ⟨hz, its', _, hv, q⟩
theorem Inv.lnew {its : List Value} {t' : Nat} (I : Inv X pins σ H s) (hv : Vals ys its) (hz : ys.length ≤ sizeLine) :
    Inv X pins σ (upd H s.heap.objs.size (.lst ys)) { s with heap := s.heap.push { cls := .type "list", data := .seq its.toArray }, toks := t' } :=
  I.laid (fun _ _ q => Heap.get?_push_of_some _ q) (Nat.le_refl _) ⟨hz, its, 0, hv, Heap.get?_push_size _ rfl⟩
theorem Inv.fresh (I : Inv X pins σ H s) : H s.heap.objs.size = none := I.hok.fresh (Nat.le_refl _)
theorem Inv.lstM (I : Inv X pins σ H s) (hH : H l = some (.lst xs)) : xs.length ≤ sizeLine ∧ ∃ (its : List Value) (n : Nat), Vals xs its ∧ xs.length = its.length ∧ s.heap.get? l = some { cls := .type "list", data := .seq its.toArray n } := by
  obtain ⟨z, its, n, r, e⟩ := I.hok l _ hH
  exact ⟨z, its, n, r, r.length, e⟩
theorem notLongL {n : Nat} (h : n ≤ sizeLine) : Builtin.List.listTooLong n = false := by
  unfold Builtin.List.listTooLong
  exact decide_eq_false (by omega)
end
section
variable {X : Cx}
def rAppend : V → List V → Hp → VK → Prop := fun x vs H Q => ∃ l xs y, x = .ref l ∧ vs = [y] ∧ H l = some (.lst xs) ∧ xs.length < sizeLine ∧ Q .non (upd H l (.lst (xs ++ [y])))
theorem mt_append : MtM X "list.append" rAppend := by
  intro pins s σ H x vs v us Q I rx rv h
  obtain ⟨l, xs, y, rfl, rfl, hH, hz, q⟩ := h
  cases rx
  obtain ⟨u, rfl, ru⟩ := rv.one
  obtain ⟨z, its, n, r, hl, e⟩ := I.lstM hH
  refine call_meets F.slot_list_append ⟨_, e, rfl⟩ F.entry_list_append (F.args_list_append_2 _ _) (PySem.list_append l its.toArray n u (by rw [List.size_toArray]; omega)) ⟨e, ?_⟩
  refine ⟨.non, _, I.lset (its' := its ++ [u]) hH e (by simp) (r.append (.cons ru .nil)) ?_, rfl, q⟩
  rw [List.length_append, List.length_singleton]
  omega
def rExtend : V → List V → Hp → VK → Prop := fun x vs H Q => ∃ l b xs zs, x = .ref l ∧ vs = [.ref b] ∧ H l = some (.lst xs) ∧ H b = some (.lst zs) ∧ xs.length + zs.length ≤ sizeLine ∧ Q .non (upd H l (.lst (xs ++ zs)))
def rPop : V → List V → Hp → VK → Prop := fun x vs H Q => ∃ l xs y, x = .ref l ∧ vs = [] ∧ H l = some (.lst xs) ∧ xs[xs.length - 1]? = some y ∧ Q y (upd H l (.lst xs.dropLast))
def rPopAt : V → List V → Hp → VK → Prop := fun x vs H Q => ∃ l xs i k y, x = .ref l ∧ vs = [.int i] ∧ H l = some (.lst xs) ∧ -(2 ^ 63) ≤ i ∧ i < 2 ^ 63 ∧ seqIndex? i xs.length = some k ∧ xs[k]? = some y ∧ Q y (upd H l (.lst (xs.eraseIdx k)))
def rReverse : V → List V → Hp → VK → Prop := fun x vs H Q => ∃ l xs, x = .ref l ∧ vs = [] ∧ H l = some (.lst xs) ∧ Q .non (upd H l (.lst xs.reverse))
def rClear : V → List V → Hp → VK → Prop := fun x vs H Q => ∃ l xs, x = .ref l ∧ vs = [] ∧ H l = some (.lst xs) ∧ Q .non (upd H l (.lst []))
def rCat : R2 := fun x y H Q => ∃ l b xs zs, x = .ref l ∧ y = .ref b ∧ H l = some (.lst xs) ∧ H b = some (.lst zs) ∧ xs.length + zs.length ≤ sizeLine ∧ ∀ p, H p = none → Q (.ref p) (upd H p (.lst (xs ++ zs)))
theorem op_cat : OpR X (binaryOp .Add) rCat := by
  intro pins s σ H x y v u Q I rx ry h
  obtain ⟨l, b, xs, zs, rfl, rfl, hH, hB, hz, q⟩ := h
  cases rx
  cases ry
  obtain ⟨z, its, n, r, hl, e⟩ := I.lstM hH
  obtain ⟨z2, its2, n2, r2, hl2, e2⟩ := I.lstM hB
  refine PySem.P.add_list e e2 ?_ (by rw [List.size_toArray, List.size_toArray]; omega)
  have ea : its.toArray ++ its2.toArray = (its ++ its2).toArray := by simp
  rw [ea]
  exact ⟨.ref _, _, I.lnew (t' := s.toks) (r.append r2) (by rw [List.length_append]; omega), rfl, q _ I.fresh⟩
def rRep : R2 := fun x y H Q => ∃ l k xs, x = .ref l ∧ y = .int k ∧ H l = some (.lst xs) ∧ -(2 ^ 63) ≤ k ∧ k < 2 ^ 63 ∧ xs.length * k.toNat ≤ sizeLine ∧
  ∀ p, H p = none → Q (.ref p) (upd H p (.lst (List.replicate k.toNat xs).flatten))
theorem len_rep {α : Type} (xs : List α) (k : Nat) : (List.replicate k xs).flatten.length = k * xs.length := by
  induction k with
  | zero => simp
  | succ k ih => rw [List.replicate_succ, List.flatten_cons, List.length_append, ih, Nat.succ_mul, Nat.add_comm]
theorem op_rep : OpR X (binaryOp .Mult) rRep := by
  intro pins s σ H x y v u Q I rx ry h
  obtain ⟨l, k, xs, rfl, rfl, hH, h1, h2, hz, q⟩ := h
  cases rx
  obtain ⟨t, rfl⟩ := ry
  obtain ⟨z, its, n, r, hl, e⟩ := I.lstM hH
  have hlen : its.toArray.size * k.toNat ≤ sizeLine := by rw [List.size_toArray, ← hl]; exact hz
  have hcap : ¬ its.toArray.size * k.toNat > (2 ^ 63 - 1) / 8 := by
    have : (sizeLine : Nat) ≤ (2 ^ 63 - 1) / 8 := by decide
    omega
  have hfit : ¬ (!Builtin.List.listFitsIndex k) = true := by
    rw [fitsIndex_both h1 h2]
    exact Bool.false_ne_true
  have hlong : ¬ Builtin.List.listTooLong (its.toArray.size * k.toNat) = true := by
    rw [notLongL hlen]
    exact Bool.false_ne_true
  have hnew : List.foldl (fun x1 x2 => x1 ++ x2) #[] (List.replicate (if its.toArray.isEmpty = true then 0 else k.toNat) its.toArray) = (List.replicate k.toNat its).flatten.toArray := by
    have f0 : ∀ m : Nat, List.foldl (fun x1 x2 => x1 ++ x2) #[] (List.replicate m its.toArray) = (List.replicate m its).flatten.toArray := fun m => by
      have := foldl_rep its m []
      rw [List.nil_append] at this
      exact this
    rw [f0]
    cases its with
    | nil => simp
    | cons a r' => rw [if_neg (by simp)]
  refine wpAny_binaryOp_repeat_ref (T := "list") (U := "int") (by decide) ⟨_, e, rfl⟩ (fun s' => typeIs_int s' k t) noFill_list_mul F.fills_int_mul F.slot_int_rmul repeat_list F.slot_int_index.lookup
    (call_meets F.slot_int_rmul (typeIs_int s k t) F.entry_int_rmul (F.args_int_rmul_2 _ _) (int___rmul___int_list k t l its.toArray n)
      ⟨e, rfl, ⟨_, e, rfl⟩, call_meets F.slot_list_mul ⟨_, e, rfl⟩ F.entry_list_mul (F.args_list_mul_2 _ _) (AutoListH.list___mul___list_int_3 l its.toArray n k t hfit hcap hlong) ⟨e, ?_⟩⟩)
  rw [hnew]
  exact ⟨.ref _, _, I.lnew (t' := s.toks) (r.rep k.toNat) (by rw [len_rep, Nat.mul_comm]; exact hz), rfl, q _ I.fresh⟩
end
section
variable {prog : Program} {w : World} {A : Around} {E : Value → Shared → Prop} {s : Shared}
end
section
variable {X : Cx}
end
end L2
namespace Att
open PySem PySem.W PySem.Calls PyProof.Rows
theorem ints_of_wellAll {P : Params} {h : Heap} : ∀ (ns : List Int) (vs : List Value), WellAll P h vs (ns.map WData.int) → IntsAre vs ns := by
  intro ns
  induction ns with
  | nil =>
    intro vs w
    rw [List.map_nil] at w
    cases w
    exact .nil
  | cons n ns ih =>
    intro vs w
    rw [List.map_cons] at w
    cases w with
    | cons a b =>
      cases a
      exact .cons _ _ (ih _ b)
theorem script_of {l : OpenLaw} {n : Nat} (hn : l.most = some n) {P : Params} {h : Heap} {args : List WData} {vals : List Value}
    (hpre : l.row.toRowW.claim.pre args = true) (hwl : WellAll P h vals args) :
    ∃ a vs ns, vals = [Value.ref a] ∧ args = [WData.list (ns.map WData.int)] ∧ h.get? a = some { cls := .type "list", data := .seq vs.toArray } ∧ IntsAre vs ns ∧ ns.length ≤ n := by
  have hsh : WShape.hasAll [] args [.list .int] = true := (pre_splitW hpre).1
  have hc : l.pre.holds [] { args := args } = true := (pre_splitW hpre).2
  obtain ⟨d, r, rfl, h1, h2⟩ := hasAllW_cons hsh
  obtain rfl := hasAllW_nil h2
  obtain ⟨xs, rfl, h3⟩ := hasW_list h1
  obtain ⟨ns, rfl⟩ := items_int h3
  have hlen : ns.length ≤ n := by
    unfold OpenLaw.pre at hc
    have h4 : (WTm.not (.lt (.lit (.int (n : Int))) (.len (.arg 0)))).holds [] { args := [.list (ns.map .int)] } = true := by
      have h4 := (holds_andW hc).1
      rw [hn] at h4
      exact h4
    have h5 := condW_of h4 (w_not (w_lt w_lit (w_len_list (w_arg rfl))))
    rw [List.length_map] at h5
    refine Nat.le_of_not_lt fun q => ?_
    have q' : (n : Int) < ((ns.length : Nat) : Int) := by omega
    first
      | (rw [decide_eq_true q'] at h5; exact absurd h5 (by decide))
      | (simp at h5; omega)
  cases hwl with
  | cons w1 w2 =>
    cases w2
    cases w1 with
    | list ho hall => exact ⟨_, _, ns, rfl, rfl, ho, ints_of_wellAll ns _ hall, hlen⟩
theorem post_true (l : OpenLaw) (args : List WData) : l.row.toRowW.claim.post args (.bool true) args = true :=
  postW_of (r := l.row.toRowW) (X := (true == true))
    (show WShape.has [] (.bool true) .bool = true by first | rfl | decide | simp [WShape.has, WShape.arms, WShape.armsAll])
    (show (WTm.eq .res (.lit (.bool true))).value [] { args := args, res := some (.bool true), after := args } = some (.bool (true == true)) from w_eq_bool (w_res rfl) w_lit) rfl
theorem attach_call {l : OpenLaw} {n : Nat} {q : Program} {loose : List Str} {XP : (Str → Option Value) → Heap → Prop} {YP : World → Heap → Prop} {d : DefRec}
    (hn : l.most = some n) (hdf : d.params.defaults = [])
    (call : ∀ (w : World) (s₀ s₁ : Shared) (mg mb : Str → Option Value) (fa : Addr) (o : Obj) (pm cd doc : Value) (a : Addr) (vs : List Value) (ns : List Int),
      Ground q loose [] XP w s₀ mg mb s₁.heap → YP w s₁.heap →
      s₁.heap.get? fa = some o → o.data = .func (docDef d.name d.params d.body d.scope pm cd doc) → s₁.heap.CodeRec cd d.name → mg d.name = some (.ref fa) →
      s₁.heap.get? a = some { cls := .type "list", data := .seq vs.toArray } → IntsAre vs ns → ns.length ≤ n → s₁.gens = #[] →
      codeAny (model l.prog w) callerA (.call (.ref fa) ⟨[.ref a], []⟩) (fun r s' => r = .ok (.ret (.bool true)) ∧ OldK s₁.heap s'.heap ∧ s'.os = s₁.os ∧ AllBare s'.gens) s₁) :
    WalkO q loose XP YP l.row.toRowW d [] (fun f vs => PySem.call f vs) := by
  intro w s₀ s₁ mg mb G Y fa o pm cd doc dV kV ho hd hcd hD hmg hg args vals as hpre hlay hrd hwl hlo
  obtain rfl : dV = .none := Dflts.none hD hdf
  obtain rfl : kV = .none := Dflts.noKw hD
  obtain ⟨a, vs, ns, rfl, rfl, hobj, hints, hlen⟩ := script_of hn hpre hwl
  refine enter_call (codeAny_mono (call w s₀ s₁ mg mb fa o pm cd doc a vs ns G Y ho (fd_plain hd) hcd hmg hobj hints hlen hg) fun r s' hq => ?_)
  obtain ⟨rfl, h2, h3, h4⟩ := hq
  exact ⟨.inl ⟨.bool true, .bool true, [], rfl, fun _ => rfl, .bool true, post_true l _, fun _ => ⟨List.Pairwise.nil, fun _ hm => (nomatch hm)⟩⟩, h2, h3, h4⟩
section
variable {prog : Program} {w : World} {A : Around} {E : Value → Shared → Prop} {s : Shared} {K : Frag}
def noObjs (h : Heap) : Heap := { h with objs := #[] }
def ledger (h : Heap) (L d : Addr) : List (Addr × Obj) := (List.range h.objs.size).filterMap fun a => if a = L ∨ a = d then none else (h.get? a).map fun o => (a, o)
end
end Att
namespace L2
open PySem PySem.Spec PyProof.Rows
theorem vals_ints : ∀ {vs : List Value} {ns : List Int}, IntsAre vs ns → Vals (ns.map V.int) vs
  | _, _, .nil => .nil
  | _, _, .cons n t h => .cons ⟨t, rfl⟩ (vals_ints h)
def Only (H : Hp) : Prop := ∀ b, H b = none ∨ ∃ o xs, H b = some (.frz o (.lst xs))
theorem law_call {P : Program} {w : World} {K : PySem.W.Frag} {mg mb : Str → Option Value} {CX : CXT} {k : Nat} {fa a : Addr} {fd : FuncData} {x : Str} {sp : Sp} {s₁ : Shared} {vs : List Value} {ns : List Int}
    (KX : K.In s₁.heap) (hns : s₁.heap.Ns mainGlobals mg) (hb : s₁.heap.Ns builtinsNs mb) (hbb : ∀ x : Str, x ≠ "__name__" → mb x = bootBuiltins x) (hlim : s₁.heap.NoLimit) (hg : s₁.gens = #[])
    (ha : s₁.heap.get? a = some { cls := .type "list", data := .seq vs.toArray }) (hi : IntsAre vs ns) (hl : ns.length ≤ sizeLine) (hr : Room k callerA)
    (F : ∀ base : Heap, K.In base → base.Ns mainGlobals mg → FnOk P w K mg base CX k fa fd [x] sp) (hbind : ∀ (s : Shared) (u : Value), BindsTo s fd ⟨[u], []⟩ [(x, u)])
    (hsp : ∀ H : Hp, Only H → SqL K H a (ns.map V.int) → sp [.ref a] H (fun v _ => v = .bl true) fun _ _ _ => False)
    (hCX : ∀ H e s', CX [] H s₁ (fun _ _ _ => False) e s' → False) :
    codeAny (model P w) callerA (.call (.ref fa) ⟨[.ref a], []⟩) (fun r s' => r = .ok (.ret (.bool true)) ∧ OldK s₁.heap s'.heap ∧ s'.os = s₁.os ∧ AllBare s'.gens) s₁ := by
  have rv := vals_ints hi
  have lenV := hi.length
  have core : ∀ H : Hp, Only H → SqL K H a (ns.map V.int) → HOk P w H s₁.heap → (∀ b, H b ≠ none → b = a) → (H a ≠ none → K.lookup a = none) →
      codeAny (model P w) callerA (.call (.ref fa) ⟨[.ref a], []⟩) (fun r s' => r = .ok (.ret (.bool true)) ∧ OldK s₁.heap s'.heap ∧ s'.os = s₁.os ∧ AllBare s'.gens) s₁ := by
    intro H hO hS hok hA hK
    have base_of : ∀ {b : Addr} {o : Obj}, s₁.heap.get? b = some o → H b = none → (hidT s₁.heap H).get? b = some o := fun e n => hidT_get e n
    have noA : ∀ {b : Addr} {o : Obj} {es : Array DictEntry} {ep : Nat}, s₁.heap.get? b = some o → o.data = .dict es ep → H b = none := fun {b o es ep} e d => by
      cases q : H b with
      | none => rfl
      | some u =>
        have e' : b = a := hA b (by rw [q]; simp)
        subst e'
        rw [ha] at e; cases e
        have d' : Data.seq vs.toArray _ = Data.dict es ep := d
        cases d'
    have nsK : ∀ {b : Addr} {m : Str → Option Value}, s₁.heap.Ns b m → (hidT s₁.heap H).Ns b m := fun {b m} ⟨o, es, ep, e, d, r⟩ => ⟨o, es, ep, base_of e (noA e d), d, r⟩
    have hKb : K.In (hidT s₁.heap H) := fun b o e => base_of (KX b o e) (by
      cases q : H b with
      | none => rfl
      | some u =>
        have e' : b = a := hA b (by rw [q]; simp)
        subst e'
        rw [hK (by rw [q]; simp)] at e; cases e)
    have hM : Mod K mg (hidT s₁.heap H) := ⟨hKb, nsK hns, ⟨mb, nsK hb, hbb⟩, let ⟨mc, h1, h2⟩ := hlim; ⟨mc, nsK h1, h2⟩⟩
    have e0 : Env0 P w K mg (hidT s₁.heap H) callerA [] s₁ H := ⟨rfl, hM, fun b o e => of_hidT e, Nat.le_of_eq (hidT_size _ _), trivial, fun b hb => absurd (show b ∈ ([] : List Addr) from hb) (by simp), hok, .of_eq hg⟩
    refine codeAny_mono ((F _ hKb (nsK hns)).run callerA [] s₁ H ⟨[.ref a], []⟩ [.ref a] [.ref a] _ _ hr e0 (hbind s₁ (.ref a)) (.cons rfl .nil) (hsp H hO hS)) fun r s' h => ?_
    cases r with
    | error e => exact (hCX H e s' h).elim
    | ok fl =>
      cases fl with
      | next => exact False.elim h
      | brk => exact False.elim h
      | cont => exact False.elim h
      | ret u =>
        obtain ⟨v, H', os, bare, un, hok', r', q⟩ := h
        have q' : v = .bl true := q
        subst q'
        obtain rfl : u = Value.bool true := r'
        refine ⟨rfl, OldK.of_keep fun b o e => ?_, os, bare⟩
        cases q : H b with
        | none => exact un.keep b o e q (by intro z; exact absurd (show b ∈ ([] : List Addr) from z) (by simp)) (by simp)
        | some u =>
          rcases hO b with z | ⟨ob, xs, z⟩
          · rw [q] at z; cases z
          · have z2 := un.frzs b ob _ z
            obtain ⟨e1, _⟩ := hok b _ z
            obtain ⟨e2, _⟩ := hok' b _ z2
            rw [e] at e1; cases e1
            exact e2
  cases hk : K.lookup a with
  | some o =>
    have e := KX a o hk
    rw [ha] at e
    cases e
    refine core (fun _ => none) (fun _ => .inl rfl) (.inr ⟨_, vs.toArray, _, hk, rfl, rfl, rfl, by rw [List.size_toArray, lenV]; exact hl, by simpa using rv⟩) (fun b u z => by have z' : (none : Option HO) = some u := z; cases z') (fun b z => absurd rfl z) fun z => absurd rfl z
  | none =>
    refine core (fun b => if b = a then some (.frz { cls := .type "list", data := .seq vs.toArray } (.lst (ns.map V.int))) else none) (fun b => ?_) (.inl (.inr ⟨{ cls := .type "list", data := .seq vs.toArray }, if_pos rfl⟩)) (fun b u z => ?_) (fun b z => ?_) fun _ => hk
    · by_cases hb : b = a
      · exact .inr ⟨_, _, if_pos hb⟩
      · exact .inl (if_neg hb)
    · by_cases hb : b = a
      · have z' := (if_pos hb).symm.trans z
        cases z'
        subst hb
        exact ⟨ha, by rw [List.length_map]; exact hl, vs, _, rv, ha⟩
      · have z' := (if_neg hb).symm.trans z
        cases z'
    · by_cases hb : b = a
      · exact hb
      · exact absurd (if_neg hb) z
end L2
namespace L2
open PySem PySem.Spec PyProof.Rows
abbrev KOf {K : PySem.W.Frag} {h : Heap} (_ : K.In h) : PySem.W.Frag := K
theorem walk_of {l : PySem.W.OpenLaw} {n k : Nat} {q : Program} {loose : List Str} {XP : (Str → Option Value) → Heap → Prop} {YP : World → Heap → Prop} {d : DefRec} {K : Params → PySem.W.Frag} {CX : World → CXT} {sp : World → Sp} {x : Str}
    (hn : l.most = some n) (hn2 : n ≤ sizeLine) (hdf : d.params.defaults = []) (hr : Room k callerA)
    (hY : ∀ (w : World) (h : Heap), YP w h → (K w.params).In h)
    (F : ∀ (w : World) (mg : Str → Option Value) (fa : Addr) (h : Heap), (K w.params).In h → h.Ns mainGlobals mg → mg d.name = some (.ref fa) →
      ∃ fd : FuncData, (∀ (s : Shared) (u : Value), BindsTo s fd ⟨[u], []⟩ [(x, u)]) ∧
        ∀ base : Heap, (K w.params).In base → base.Ns mainGlobals mg → FnOk l.prog w (K w.params) mg base (CX w) k fa fd [x] (sp w))
    (hsp : ∀ (w : World) (H : Hp) (a : Addr) (ns : List Int), ns.length ≤ n → Only H → SqL (K w.params) H a (ns.map V.int) → sp w [.ref a] H (fun v _ => v = .bl true) fun _ _ _ => False)
    (hCX : ∀ (w : World) (H : Hp) (s : Shared) (e : Value) (s' : Shared), CX w [] H s (fun _ _ _ => False) e s' → False) :
    PySem.W.WalkO q loose XP YP l.row.toRowW d [] (fun f vs => PySem.call f vs) := by
  refine Att.attach_call hn hdf fun w s₀ s₁ mg mb fa o pm cd doc a vs ns G Y ho hd hcd hmg hobj hints hlen hg => ?_
  have KX := hY w _ Y
  obtain ⟨fd, hb, hF⟩ := F w mg fa _ KX G.T.g hmg
  exact law_call KX G.T.g G.T.b G.T.builtins G.T.nolimit hg hobj hints (Nat.le_trans hlen hn2) hr hF hb (fun H hO hS => hsp w H a ns hlen hO hS) fun H e s' => hCX w H s₁ e s'
end L2
namespace L2
open PySem PySem.Spec PyProof.Rows
abbrev CX0 : CXT := fun _ _ _ _ _ _ => False
abbrev E0 : XK := fun _ _ _ => False
theorem pass0 {X : Cx} : Passes CX0 X E0 := fun _ _ _ _ _ _ _ h => h.elim
structure Fun (K : PySem.W.Frag) (x qual : Str) (st : Stmt) (f : Addr) (fd : FuncData) : Prop where
  ex : ∃ (oc : Value) (od : Option Addr) (kV doc pm : Value) (an : Option Addr) (cdv ct : Value) (osl : Array (Option Value)),
    fd = PySem.W.fnOf x qual (defArgs st) (defBody st) (defScope st) .none kV doc pm an cdv ct ∧ K.lookup f = some ⟨oc, od, .func fd, osl⟩ ∧ PySem.W.codeIn K cdv qual = true
  kp : PySem.W.keepIn K (.ref f) = true
section
variable {P : Program} {w : World} {K : PySem.W.Frag} {mg : Str → Option Value} {base : Heap}
theorem Fun.ok {x qual : Str} {st : Stmt} {f : Addr} {fd : FuncData} {N ps : List Str} {k : Nat} {sp : Sp} (F : Fun K x qual st f fd) (S : FnScope N ps (defScope st)) (len : ∀ vs H Q E, sp vs H Q E → vs.length = ps.length)
    (hbody : ∀ (cdv : Value) (A : Around) (outer : List Env) (s : Shared) (H : Hp) (vs : List V) (Q : VK) (E : XK), Room k (A.deeper (envOfC qual (defScope st) s.heap.objs.size f cdv)) → sp vs H Q E →
      ∃ t, PSs (cxOf CX0 P w K mg base N qual (defScope st) f cdv A outer s H E).nox (defBody st) t ∧ t { nx := fun _ H' => Q .non H', rt := Q } (start N vs) H) : FnOk P w K mg base CX0 (k + 1) f fd ps sp := by
  obtain ⟨oc, od, kV, doc, pm, an, cdv, ct, osl, rfl, lk, hcd⟩ := F.ex
  refine fn_of lk hcd S len fun A outer s H vs Q E hr hsp => ?_
  obtain ⟨t, h, q⟩ := hbody cdv A outer s H vs Q E hr hsp
  exact ⟨t, h.nox, q⟩
theorem Fun.binds {x qual : Str} {st : Stmt} {f : Addr} {fd : FuncData} {ps : List Str} (F : Fun K x qual st f fd)
    (h : ∀ (kV doc pm : Value) (an : Option Addr) (cdv ct : Value) (us : List Value), us.length = ps.length → bindArgs (PySem.W.fnOf x qual (defArgs st) (defBody st) (defScope st) .none kV doc pm an cdv ct) ⟨us, []⟩ = pure (ps.zip us)) : Binds K fd ps [] := by
  obtain ⟨oc, od, kV, doc, pm, an, cdv, ct, osl, rfl, lk, hcd⟩ := F.ex
  exact .all (h kV doc pm an cdv ct)
theorem fun_mk {x qual : Str} {st : Stmt} {f : Addr} {oc : Value} {od an : Option Addr} {osl : Array (Option Value)} {kV doc pm cdv ct : Value} (l : K.lookup f = some ⟨oc, od, .func (PySem.W.fnOf x qual (defArgs st) (defBody st) (defScope st) .none kV doc pm an cdv ct), osl⟩)
    (c : PySem.W.codeIn K cdv qual = true) (k : PySem.W.keepIn K (.ref f) = true) : Fun K x qual st f (PySem.W.fnOf x qual (defArgs st) (defBody st) (defScope st) .none kV doc pm an cdv ct) := ⟨⟨oc, od, kV, doc, pm, an, cdv, ct, osl, rfl, l, c⟩, k⟩
end
theorem small1000 {n : Nat} (h : n ≤ 1000) : n < sizeLine := Nat.lt_of_le_of_lt h (by decide)
section
variable {X : Cx}
end
theorem iteF {A B : Prop} (h : B) : if false = true then A else B := by
  rw [if_neg Bool.false_ne_true]
  exact h
theorem iteT {A B : Prop} (h : A) : if true = true then A else B := by
  rw [if_pos rfl]
  exact h
theorem ite2 {c A B : Prop} [Decidable c] (h1 : c → A) (h2 : ¬ c → B) : if c then A else B := by
  by_cases h : c
  · rw [if_pos h]
    exact h1 h
  · rw [if_neg h]
    exact h2 h
def Same (H H' : Hp) : Prop := ∀ b o, H b = some o → H' b = some o
theorem Same.refl (H : Hp) : Same H H := fun _ _ h => h
theorem Same.trans {H H1 H2 : Hp} (a : Same H H1) (b : Same H1 H2) : Same H H2 := fun c o h => b c o (a c o h)
theorem Same.free {H H' : Hp} (e : Same H H') {l : Addr} (h : H' l = Option.none) : H l = Option.none := by
  cases q : H l with
  | none => rfl
  | some o =>
    rw [e l o q] at h
    cases h
theorem Same.seq {K : PySem.W.Frag} {H H' : Hp} {a : Addr} {xs : List V} (e : Same H H') (h : SqL K H a xs) : SqL K H' a xs := by
  rcases h with (h | ⟨o, h⟩) | h
  · exact .inl (.inl (e _ _ h))
  · exact .inl (.inr ⟨o, e _ _ h⟩)
  · exact .inr h
end L2

set_option Elab.async false
set_option linter.all false
set_option maxRecDepth 100000
namespace L2
open PySem PySem.Spec PyProof.Rows
theorem forIn_yield_fold {α β : Type} {l : List α} {f : α → β → Sem (ForInStep β)} (g : β → α → β) (c : β) (h : ∀ x ∈ l, ∀ c, f x c = pure (.yield (g c x))) :
    forIn l c f = pure (l.foldl g c) := by
  induction l generalizing c with
  | nil => rfl
  | cons x l ih =>
    rw [List.forIn_cons, h x List.mem_cons_self, pure_bind]
    exact ih _ fun y hy => h y (List.mem_cons_of_mem _ hy)
def clStep (env : Env) (cs : List (Str × Addr)) (x : Str × NameKind) : List (Str × Addr) :=
  if x.2 == .free then (x.1, (env.cells.lookup x.1).getD 0) :: cs else cs
def clOf (env : Env) (names : List (Str × NameKind)) : List (Str × Addr) := names.foldl (clStep env) []
theorem closureFor_clOf {scope : Scope} {env : Env} (h : ∀ x ∈ scope.names, x.2 = .free → ∃ c, env.cells.lookup x.1 = some c) : closureFor scope env = pure (clOf env scope.names) := by
  simp only [closureFor]
  rw [forIn_yield_fold (clStep env) [] (fun x hx c => by
    obtain ⟨n, kind⟩ := x
    cases hk : kind == NameKind.free with
    | false => simp only [clStep, hk, Bool.false_eq_true, if_false]
    | true =>
      obtain ⟨a, ha⟩ := h (n, kind) hx (by simpa using hk)
      have ha' : env.cells.lookup n = some a := ha
      simp only [clStep, hk, if_true, cellOf, ha', Option.getD_some, pure_bind])]
  rfl
theorem clOf_mem {env : Env} : ∀ {names : List (Str × NameKind)} {cs : List (Str × Addr)} {n : Str} {c : Addr}, (n, c) ∈ names.foldl (clStep env) cs → (n, c) ∈ cs ∨ ((n, NameKind.free) ∈ names ∧ c = (env.cells.lookup n).getD 0)
  | [], _, _, _, h => .inl h
  | (m, k) :: r, cs, n, c, h => by
    rcases clOf_mem (names := r) (cs := clStep env cs (m, k)) h with h | ⟨h, e⟩
    · unfold clStep at h
      by_cases hk : (k == NameKind.free) = true
      · rw [if_pos hk] at h
        rcases List.mem_cons.mp h with e | h
        · cases e
          have hk' : k = .free := by simpa using hk
          subst hk'
          exact .inr ⟨List.mem_cons_self, rfl⟩
        · exact .inl h
      · rw [if_neg hk] at h
        exact .inl h
    · exact .inr ⟨List.mem_cons_of_mem _ h, e⟩
theorem clOf_keep {env : Env} {p : Str × Addr} : ∀ {names : List (Str × NameKind)} {cs : List (Str × Addr)}, p ∈ cs → p ∈ names.foldl (clStep env) cs
  | [], _, h => h
  | x :: r, cs, h => clOf_keep (names := r) (cs := clStep env cs x) (by
    unfold clStep
    split
    · exact List.mem_cons_of_mem _ h
    · exact h)
theorem clOf_in {env : Env} {n : Str} : ∀ {names : List (Str × NameKind)} {cs : List (Str × Addr)}, (n, NameKind.free) ∈ names → (n, (env.cells.lookup n).getD 0) ∈ names.foldl (clStep env) cs
  | x :: r, cs, h => by
    rcases List.mem_cons.mp h with e | h
    · subst e
      refine clOf_keep (names := r) (cs := clStep env cs (n, .free)) ?_
      unfold clStep
      rw [if_pos (by rfl)]
      exact List.mem_cons_self
    · exact clOf_in (names := r) h
theorem lookup_of_mem {α : Type} : ∀ {l : List (Str × α)} {n : Str} {c : α}, (n, c) ∈ l → ∃ c', l.lookup n = some c'
  | (k, v) :: r, n, c, h => by
    rw [List.lookup_cons]
    cases hb : n == k with
    | true => exact ⟨v, rfl⟩
    | false =>
      rcases List.mem_cons.mp h with e | h
      · cases e; simp at hb
      · exact lookup_of_mem h
theorem cellsFrom_mem : ∀ {names : List (Str × NameKind)} {k : Nat} {acc : List (Str × Addr)} {n : Str} {c : Addr}, (n, c) ∈ cellsFrom k names acc → (n, c) ∈ acc ∨ (k ≤ c ∧ (n, NameKind.cell) ∈ names)
  | [], _, _, _, _, h => .inl h
  | (m, kd) :: r, k, acc, n, c, h => by
    unfold cellsFrom at h
    by_cases hk : (kd == NameKind.cell) = true
    · rw [if_pos hk] at h
      have hk' : kd = .cell := by simpa using hk
      subst hk'
      rcases cellsFrom_mem (names := r) h with h | ⟨h1, h2⟩
      · rcases List.mem_cons.mp h with e | h
        · cases e
          exact .inr ⟨Nat.le_refl _, List.mem_cons_self⟩
        · exact .inl h
      · exact .inr ⟨by omega, List.mem_cons_of_mem _ h2⟩
    · rw [if_neg hk] at h
      rcases cellsFrom_mem (names := r) h with h | ⟨h1, h2⟩
      · exact .inl h
      · exact .inr ⟨h1, List.mem_cons_of_mem _ h2⟩
theorem cellsFrom_inj : ∀ {names : List (Str × NameKind)} {k : Nat} {acc : List (Str × Addr)}, (∀ n c, (n, c) ∈ acc → c < k) → (∀ n n' c, (n, c) ∈ acc → (n', c) ∈ acc → n = n') →
    ∀ {n n' : Str} {c : Addr}, (n, c) ∈ cellsFrom k names acc → (n', c) ∈ cellsFrom k names acc → n = n'
  | [], _, _, _, hi, _, _, _, h, h' => hi _ _ _ h h'
  | (m, kd) :: r, k, acc, hl, hi, n, n', c, h, h' => by
    unfold cellsFrom at h h'
    by_cases hk : (kd == NameKind.cell) = true
    · rw [if_pos hk] at h h'
      refine cellsFrom_inj (names := r) (acc := (m, k) :: acc) (fun a b hab => ?_) (fun a a' b ha ha' => ?_) h h'
      · rcases List.mem_cons.mp hab with e | e
        · cases e; exact Nat.lt_succ_self _
        · exact Nat.lt_succ_of_lt (hl _ _ e)
      · rcases List.mem_cons.mp ha with e | e <;> rcases List.mem_cons.mp ha' with e' | e'
        · cases e; cases e'; rfl
        · cases e; exact absurd (hl _ _ e') (Nat.lt_irrefl _)
        · cases e'; exact absurd (hl _ _ e) (Nat.lt_irrefl _)
        · exact hi _ _ _ e e'
    · rw [if_neg hk] at h h'
      exact cellsFrom_inj (names := r) hl hi h h'
theorem cellsFrom_cell : ∀ {names : List (Str × NameKind)} {h : Heap} {acc : List (Str × Addr)} {n : Str} {c : Addr}, (n, c) ∈ cellsFrom h.objs.size names acc → (n, c) ∈ acc ∨ (pushCells h names).IsCell c none
  | [], _, _, _, _, q => .inl q
  | (m, kd) :: r, h, acc, n, c, q => by
    unfold cellsFrom at q
    unfold pushCells
    by_cases hk : (kd == NameKind.cell) = true
    · rw [if_pos hk] at q
      rw [if_pos hk]
      have e : h.objs.size + 1 = (h.push { cls := .type "cell", data := .cell none }).objs.size := (Heap.size_push ..).symm
      rw [e] at q
      rcases cellsFrom_cell (names := r) q with q | q
      · rcases List.mem_cons.mp q with e' | q
        · cases e'
          exact .inr ⟨_, pushCells_keeps r _ _ _ (Heap.get?_push_size _ rfl), rfl⟩
        · exact .inl q
      · exact .inr q
    · rw [if_neg hk] at q
      rw [if_neg hk]
      exact cellsFrom_cell (names := r) q
theorem cellsFrom_acc {x : Str} : ∀ {names : List (Str × NameKind)} {k : Nat} {acc : List (Str × Addr)}, (x, NameKind.cell) ∉ names → (cellsFrom k names acc).lookup x = acc.lookup x
  | [], _, _, _ => rfl
  | (m, kd) :: r, k, acc, h => by
    unfold cellsFrom
    have hr : (x, NameKind.cell) ∉ r := fun z => h (List.mem_cons_of_mem _ z)
    by_cases hk : (kd == NameKind.cell) = true
    · have hk' : kd = .cell := by simpa using hk
      subst hk'
      rw [if_pos hk, cellsFrom_acc hr, List.lookup_cons]
      have ne : (x == m) = false := by
        cases hb : x == m with
        | false => rfl
        | true => exact absurd (by rw [beq_iff_eq.mp hb]; exact List.mem_cons_self) h
      rw [ne]
    · rw [if_neg hk]
      exact cellsFrom_acc hr
section
variable {M : Model} {A : Around} {E : Value → Shared → Prop} {s : Shared}
theorem newCompEnv_ {scope : Scope} {globals : Addr} {cl : List (Str × Addr)} {qual : Str} {env0 : Env} {Q : Env → Shared → Prop}
    (h : Q (newEnv scope s.heap.objs.size globals (cellsFrom (s.heap.objs.size + 1) scope.names cl) qual none .none (some env0) builtinsNs) { s with heap := pushCells (s.heap.push { cls := .type "dict", data := .dict #[] }) scope.names }) :
    wpAny M A (newFunctionEnv scope globals cl [] qual none .none (some env0)) Q E s := by
  simp only [newFunctionEnv, Option.isSome_some, if_true]
  refine wpAny_bind (wpAny_alloc ?_)
  refine wpAny_bind (wpAny_layCells _ (fun name kind cells => by cases hkc : kind == NameKind.cell <;> simp [hkc]) _ _ _ _ ?_)
  rw [show ({ s with heap := s.heap.push { cls := .type "dict", data := .dict #[] } } : Shared).heap.objs.size = s.heap.objs.size + 1 from Heap.size_push ..]
  refine wpAny_bind ?_
  rw [List.forIn_nil]
  exact wpAny_pure (wpAny_pure h)
end
structure CB where
  C : Addr
  ex : List Addr
  s : Shared
  H : Hp
def cxC (X : Cx) (N : List Str) (scope : Scope) (b : CB) : Cx := { X with
  N := N
  s₀ := b.s
  H₀ := b.H
  env := compEnvC scope (cellsFrom (b.C + 1) scope.names (clOf X.env scope.names)) b.C X.env
  outer := X.stack
  ex := b.ex
  fn := fun x => scope.names.lookup x == some .cell
  pn := []
  xe := fun _ _ => False }
theorem lookup_relabel {env : Env} {x : Str} : ∀ {names : List (Str × NameKind)},
    (names.map fun (n, k) => if (k == NameKind.free && env.scope.kind == .function && env.kindOf n == some .cell) then (n, NameKind.cell) else (n, k)).lookup x =
      (names.lookup x).map fun k => if (k == NameKind.free && env.scope.kind == .function && env.kindOf x == some .cell) then NameKind.cell else k
  | [] => rfl
  | (n, k) :: r => by
    have ih := @lookup_relabel env x r
    show List.lookup x ((if (k == NameKind.free && env.scope.kind == .function && env.kindOf n == some .cell) = true then (n, NameKind.cell) else (n, k)) :: _) = _
    cases hx : x == n with
    | true =>
      have e : x = n := beq_iff_eq.mp hx
      subst e
      by_cases hc : (k == NameKind.free && env.scope.kind == .function && env.kindOf x == some .cell) = true
      · rw [if_pos hc]; simp only [List.lookup_cons, hx, Option.map_some, hc, if_true]
      · rw [if_neg hc]; simp only [List.lookup_cons, hx, Option.map_some]; rw [if_neg hc]
    | false =>
      by_cases hc : (k == NameKind.free && env.scope.kind == .function && env.kindOf n == some .cell) = true
      · rw [if_pos hc]; simp only [List.lookup_cons, hx]; exact ih
      · rw [if_neg hc]; simp only [List.lookup_cons, hx]; exact ih
structure CompOk (psc : Scope) (PN N : List Str) (own : Nat) (fr : List Nat) (scope : Scope) : Prop where
  kind : scope.kind = .function
  nd : (scope.names.map (·.1)).Nodup
  free : ∀ x ∈ scope.names, x.2 = .free → psc.names.lookup x.1 = some .cell ∨ psc.names.lookup x.1 = some .free
  len : N.length = own + fr.length
  frn : ∀ i, i < fr.length → N[own + i]? = (fr[i]?).bind fun j => PN[j]?
  frk : ∀ i, i < fr.length → ∀ y, N[own + i]? = some y → scope.names.lookup y = some .free
def compOkB (psc : Scope) (PN N : List Str) (own : Nat) (fr : List Nat) (scope : Scope) : Bool :=
  scope.kind == .function && decide (scope.names.map (·.1)).Nodup && scope.names.all (fun x => x.2 != .free || (psc.names.lookup x.1 == some .cell || psc.names.lookup x.1 == some .free)) &&
    (N.length == own + fr.length) && ((fr.map fun j => PN[j]?) == (N.drop own).map some) && (N.drop own).all (fun y => scope.names.lookup y == some .free)
theorem CompOk.of {psc : Scope} {PN N : List Str} {own : Nat} {fr : List Nat} {scope : Scope} (h : compOkB psc PN N own fr scope = true) : CompOk psc PN N own fr scope := by
  unfold compOkB at h
  simp only [Bool.and_eq_true] at h
  obtain ⟨⟨⟨⟨⟨h1, h2⟩, h3⟩, h4⟩, h5⟩, h6⟩ := h
  have h4' : N.length = own + fr.length := eq_of_beq h4
  have h5' : (fr.map fun j => PN[j]?) = (N.drop own).map some := eq_of_beq h5
  have dr : ∀ i, N[own + i]? = (N.drop own)[i]? := fun i => by rw [List.getElem?_drop]
  refine ⟨eq_of_beq h1, of_decide_eq_true h2, fun x hx hk => ?_, h4', fun i hi => ?_, fun i hi y hy => ?_⟩
  · have q := List.all_eq_true.mp h3 x hx
    rw [hk] at q
    simpa using q
  · have q := congrArg (fun l => l[i]?) h5'
    simp only [List.getElem?_map] at q
    rw [dr]
    have ej : fr[i]? = some fr[i] := List.getElem?_eq_getElem hi
    rw [ej] at q ⊢
    cases e : (N.drop own)[i]? with
    | none => rw [e] at q; cases q
    | some y =>
      rw [e] at q
      exact (Option.some.inj q).symm
  · rw [dr] at hy
    have q := List.all_eq_true.mp h6 y (List.mem_of_getElem? hy)
    simpa using q
def cSt (own : Nat) (fr : List Nat) (σ : St) : St := List.replicate own none ++ fr.map fun j => (σ[j]?).getD none
theorem nodup_lookup {α : Type} : ∀ {l : List (Str × α)} {n : Str} {k : α}, (l.map (·.1)).Nodup → (n, k) ∈ l → l.lookup n = some k
  | (m, v) :: r, n, k, nd, h => by
    rw [List.map_cons, List.nodup_cons] at nd
    rw [List.lookup_cons]
    rcases List.mem_cons.mp h with e | h
    · cases e; simp
    · have ne : (n == m) = false := by
        cases hb : n == m with
        | false => rfl
        | true => exact absurd (List.mem_map.mpr ⟨(n, k), h, beq_iff_eq.mp hb⟩) nd.1
      rw [ne]
      exact nodup_lookup nd.2 h
section
variable {X : Cx} {pins : List (Addr × Obj)} {σ : St} {H : Hp} {s : Shared} {N : List Str} {own : Nat} {fr : List Nat} {scope : Scope}
theorem CompOk.cells (S : CompOk X.env.scope X.N N own fr scope) (ok : X.Ok) : ∀ x ∈ scope.names, x.2 = .free → ∃ c, X.env.cells.lookup x.1 = some c := fun x hx hk =>
  ok.has x.1 (S.free x hx hk)
theorem CompOk.cl (S : CompOk X.env.scope X.N N own fr scope) (ok : X.Ok) {n : Str} {c : Addr} (h : (n, c) ∈ clOf X.env scope.names) : X.env.cells.lookup n = some c := by
  rcases clOf_mem h with h | ⟨h, e⟩
  · cases h
  · obtain ⟨c', e'⟩ := S.cells ok (n, .free) h rfl
    have e2 : X.env.cells.lookup n = some c' := e'
    rw [e2] at e
    rw [e, e2]
    rfl
theorem inv_comp {D C : Addr} {h' : Heap} {fp : List Addr} (S : CompOk X.env.scope X.N N own fr scope) (I : Inv X pins σ H s) (hD : D = s.heap.objs.size) (hC : C = s.heap.objs.size + 1)
    (hh : h' = pushCells ((s.heap.push { cls := .type "list", data := .seq #[] }).push { cls := .type "dict", data := .dict #[] }) scope.names) (hfp : ∀ b ∈ fp, FpOk X pins H b) (hlt : ∀ b ∈ fp, b < s.heap.objs.size) :
    Inv (cxC X N scope ⟨C, fp, s, H⟩) [] (cSt own fr σ) (upd H D (.lst [])) { s with heap := h' } := by
  subst hD hC
  have eD : (s.heap.push { cls := .type "list", data := .seq #[] }).objs.size = s.heap.objs.size + 1 := Heap.size_push ..
  have eC : ((s.heap.push { cls := .type "list", data := .seq #[] }).push { cls := .type "dict", data := .dict #[] }).objs.size = s.heap.objs.size + 2 := by rw [Heap.size_push, eD]
  have keep : ∀ b o, s.heap.get? b = some o → h'.get? b = some o := fun b o e => by
    rw [hh]
    exact pushCells_keeps _ _ _ _ (Heap.get?_push_of_some _ (Heap.get?_push_of_some _ e))
  have lst : h'.get? s.heap.objs.size = some { cls := .type "list", data := .seq #[] } := by
    rw [hh]
    exact pushCells_keeps _ _ _ _ (Heap.get?_push_of_some _ (Heap.get?_push_size _ rfl))
  have dct : h'.get? (s.heap.objs.size + 1) = some { cls := .type "dict", data := .dict #[] } := by
    rw [hh]
    refine pushCells_keeps _ _ _ _ ?_
    have := Heap.get?_push_size (s.heap.push { cls := .type "list", data := .seq #[] }) (o := { cls := .type "dict", data := .dict #[] }) rfl
    rw [eD] at this
    exact this
  have hnD : H s.heap.objs.size = none := I.hok.fresh (Nat.le_refl _)
  have hnC : H (s.heap.objs.size + 1) = none := I.hok.fresh (Nat.le_succ _)
  have inCl : ∀ {n : Str} {c : Addr}, (n, c) ∈ clOf X.env scope.names → X.env.cells.lookup n = some c := fun h => S.cl I.ok h
  have clt : ∀ {n : Str} {c : Addr}, X.env.cells.lookup n = some c → c < s.heap.objs.size := fun h => by
    obtain ⟨v, z⟩ := I.cell _ _ h
    exact z.lt
  have cases_ : ∀ {n : Str} {c : Addr}, (cellsFrom (s.heap.objs.size + 1 + 1) scope.names (clOf X.env scope.names)).lookup n = some c → X.env.cells.lookup n = some c ∨ (s.heap.objs.size + 2 ≤ c ∧ (n, NameKind.cell) ∈ scope.names ∧ h'.IsCell c none) := fun {n c} h => by
    have hm := PySem.mem_of_lookup h
    have hcell := hm
    rw [show s.heap.objs.size + 1 + 1 = ((s.heap.push { cls := .type "list", data := .seq #[] }).push { cls := .type "dict", data := .dict #[] }).objs.size from eC.symm] at hcell
    rcases cellsFrom_mem hm with h1 | ⟨h1, h2⟩
    · exact .inl (inCl h1)
    · rcases cellsFrom_cell hcell with h3 | h3
      · exact .inl (inCl h3)
      · exact .inr ⟨h1, h2, by rw [hh]; exact h3⟩
  have kindOf : ∀ x, (cxC X N scope ⟨s.heap.objs.size + 1, fp, s, H⟩).env.kindOf x = (scope.names.lookup x).map fun k => if (k == NameKind.free && X.env.scope.kind == .function && X.env.kindOf x == some .cell) then NameKind.cell else k := fun x => lookup_relabel
  have hasName : ∀ x, ((cxC X N scope ⟨s.heap.objs.size + 1, fp, s, H⟩).env.kindOf x = some .cell ∨ (cxC X N scope ⟨s.heap.objs.size + 1, fp, s, H⟩).env.kindOf x = some .free) → ∃ c, (cellsFrom (s.heap.objs.size + 1 + 1) scope.names (clOf X.env scope.names)).lookup x = some c := fun x hx => by
    rw [kindOf] at hx
    have h2 : scope.names.lookup x = some .cell ∨ scope.names.lookup x = some .free := by
      cases e : scope.names.lookup x with
      | none => rw [e] at hx; rcases hx with z | z <;> cases z
      | some k =>
        rw [e] at hx
        by_cases hk : k = .free
        · exact .inr (by rw [hk])
        · have hk' : (k == NameKind.free) = false := by simpa using hk
          simp only [Option.map_some, hk', Bool.false_and, Bool.false_eq_true, if_false] at hx
          rcases hx with z | z
          · exact .inl z
          · exact .inr z
    rcases h2 with h2 | h2
    · exact Option.isSome_iff_exists.mp (PySem.W.cellsFrom_some scope.names _ _ (.inl h2))
    · obtain ⟨c, hc⟩ := lookup_of_mem (clOf_in (env := X.env) (cs := []) (PySem.mem_of_lookup h2))
      exact Option.isSome_iff_exists.mp (PySem.W.cellsFrom_some scope.names _ _ (.inr (by rw [show (clOf X.env scope.names).lookup x = some c from hc]; rfl)))
  have cellAt : ∀ x c, (cellsFrom (s.heap.objs.size + 1 + 1) scope.names (clOf X.env scope.names)).lookup x = some c → ∃ v, h'.IsCell c v := fun x c e => by
    rcases cases_ e with q | ⟨_, _, q⟩
    · obtain ⟨v, o, ho, hd⟩ := I.cell x c q
      exact ⟨v, o, keep c o ho, hd⟩
    · exact ⟨none, q⟩
  refine ⟨⟨I.ok.mod, S.kind, I.ok.glob, I.ok.blt, Nat.le_succ _, fun y z c h1 h2 => ?_, hasName, fun y c hy h => ?_, I.ok.hd, I.ok.frames, .inl rfl, fun b hb => ⟨?_, fun x c e z => ?_⟩, fun b o e => I.bs b o e, Nat.le_trans I.ok.bsz I.sz, fun b o e hb => ?_, fun b hb hf => ?_, I.stack, I.stkFree⟩,
    rfl, I.bare, ?_, ⟨fun _ => none, ⟨_, #[], _, dct, rfl, fun e he => absurd he (by simp), fun _ => rfl⟩, fun i x v h1 h2 h3 => ?_⟩, cellAt, ?_, fun x c e => ?_, fun p hp => absurd (show p ∈ ([] : List (Addr × Obj)) from hp) (by simp), ?_, ?_⟩
  ·
    refine cellsFrom_inj (fun n c hm => ?_) (fun n n' c hm hm' => I.ok.inj n n' c (inCl hm) (inCl hm')) (PySem.mem_of_lookup h1) (PySem.mem_of_lookup h2)
    exact Nat.lt_succ_of_lt (Nat.lt_succ_of_lt (clt (inCl hm)))
  ·
    have hy' : scope.names.lookup y = some .cell := by simpa using (show (scope.names.lookup y == some .cell) = true from hy)
    rcases cases_ h with q | ⟨q, _⟩
    · rcases cellsFrom_mem (PySem.mem_of_lookup h) with q2 | ⟨q2, _⟩
      · rcases clOf_mem q2 with z | ⟨z, _⟩
        · cases z
        · have := nodup_lookup S.nd z
          rw [hy'] at this
          cases this
      · exact Nat.le_trans (Nat.le_add_right _ 2) q2
    · exact Nat.le_trans (Nat.le_add_right _ 2) q
  · exact Nat.ne_of_lt (Nat.lt_succ_of_lt (hlt b hb))
  · rcases cases_ e with q | ⟨q, _⟩
    · exact (hfp b hb).2.2.2.2.1 x c q z
    · have hb' := hlt b hb
      rw [← z] at hb'
      exact absurd (Nat.lt_of_lt_of_le hb' (Nat.le_trans (Nat.le_add_right _ 2) q)) (Nat.lt_irrefl _)
  · rcases (hfp b hb).2.2.2.1 with z | z
    · exact I.ok.noex b o e z
    · exact Nat.lt_irrefl _ (Nat.lt_of_lt_of_le (Heap.lt_size e) (Nat.le_trans I.ok.bsz z))
  · rcases List.mem_cons.mp (I.stkSub b hf) with z | z
    · exact (hfp b hb).2.1 z
    · exact (hfp b hb).2.2.1 z
  · exact Un.laid keep (Nat.le_refl _) hnD
  ·
    have h1 : N[i]? = some x := h1
    have hlen : i < N.length := (List.getElem?_eq_some_iff.mp h1).1
    by_cases hi : i < own
    · exfalso
      have h2' : (cSt own fr σ)[i]? = some none := by
        unfold cSt
        rw [List.getElem?_append_left (by simpa using hi), List.getElem?_replicate, if_pos hi]
      rw [h2'] at h2
      cases h2
    · have hfi : i - own < fr.length := by have := S.len; omega
      have ei : own + (i - own) = i := by omega
      have hk := S.frk (i - own) hfi x (by rw [ei]; exact h1)
      have hn := S.frn (i - own) hfi
      rw [ei, h1] at hn
      have ej : fr[i - own]? = some fr[i - own] := List.getElem?_eq_getElem hfi
      rw [ej] at hn
      have hn' : X.N[fr[i - own]]? = some x := hn.symm
      have h2' : (cSt own fr σ)[i]? = some ((σ[fr[i - own]]?).getD none) := by
        unfold cSt
        rw [List.getElem?_append_right (by simpa using Nat.not_lt.mp hi), List.length_replicate, List.getElem?_map, ej]
        rfl
      rw [h2'] at h2
      have h2'' : (σ[fr[i - own]]?).getD none = some v := Option.some.inj h2
      have hσ : σ[fr[i - own]]? = some (some v) := by
        cases e : σ[fr[i - own]]? with
        | none => rw [e] at h2''; cases h2''
        | some w => rw [e] at h2''; exact congrArg some h2''
      obtain ⟨m, hm, hl⟩ := I.loc
      have hfree := S.free (x, .free) (PySem.mem_of_lookup hk) rfl
      obtain ⟨u, r, l⟩ := hl _ x v hn' hσ (hfree.elim (fun z => .inr (.inl z)) fun z => .inr (.inr z))
      refine ⟨u, r, .inr ?_⟩
      have hcell : ∃ c, X.env.cells.lookup x = some c ∧ s.heap.IsCell c (some u) := by
        rcases l with ⟨l, _⟩ | ⟨_, c, e, z⟩
        · exfalso
          rcases hfree with z | z
          · have l' : X.env.scope.names.lookup x = some .local := l
            have z' : X.env.scope.names.lookup x = some .cell := z
            rw [l'] at z'; cases z'
          · have l' : X.env.scope.names.lookup x = some .local := l
            have z' : X.env.scope.names.lookup x = some .free := z
            rw [l'] at z'; cases z'
        · exact ⟨c, e, z⟩
      obtain ⟨c, e, o, ho, hd⟩ := hcell
      refine ⟨?_, c, ?_, o, keep c o ho, hd⟩
      · rw [kindOf, hk]
        by_cases z : (X.env.scope.kind == .function && X.env.kindOf x == some .cell) = true
        · left
          simp only [Option.map_some, beq_self_eq_true, Bool.true_and, z, if_true]
        · right
          simp only [Option.map_some, beq_self_eq_true, Bool.true_and]
          rw [if_neg z]
      · show (cellsFrom (s.heap.objs.size + 1 + 1) scope.names (clOf X.env scope.names)).lookup x = some c
        rw [cellsFrom_acc fun z => by
          have := nodup_lookup S.nd z
          rw [hk] at this
          cases this]
        obtain ⟨c', hc'⟩ := lookup_of_mem (clOf_in (env := X.env) (cs := []) (PySem.mem_of_lookup hk))
        have hc2 : (clOf X.env scope.names).lookup x = some c' := hc'
        rw [hc2]
        have := inCl (PySem.mem_of_lookup hc2)
        rw [e] at this
        exact this.symm
  · show upd H s.heap.objs.size (.lst []) (s.heap.objs.size + 1) = none
    rw [upd_ne (Nat.ne_of_gt (Nat.lt_succ_self _))]
    exact hnC
  · rcases cases_ e with q | ⟨q, _⟩
    · have := clt q
      rw [upd_ne (Nat.ne_of_lt this)]
      exact I.freeC x c q
    · rw [upd_ne (Nat.ne_of_gt (Nat.lt_of_lt_of_le (Nat.lt_add_of_pos_right (by decide)) q))]
      exact I.hok.fresh (Nat.le_trans (Nat.le_add_right _ 2) q)
  · exact I.hok.laid keep (Nat.le_refl _) ⟨Nat.zero_le _, [], 0, .nil, lst⟩
  · show (cSt own fr σ).length = N.length
    unfold cSt
    rw [List.length_append, List.length_replicate, List.length_map, S.len]
end
def PF (X : Cx) (ifs : List Expr) (t : TT) : Prop :=
  ∀ (pins : List (Addr × Obj)) (s : Shared) (σ : St) (H : Hp) (Q : Bool → Hp → Prop), Inv X pins σ H s → t σ H Q →
    wpAny (model X.prog X.w) X.A (forIn ifs true fun c r => if r = true then do let ok ← isTrue c X.env (eval c X.env); pure (ForInStep.yield ok) else pure (ForInStep.yield r)) (TP X pins σ Q) X.xe s
def tYes : TT := fun _ H Q => Q true H
theorem pf_nil {X : Cx} : PF X [] tYes := fun _ _ _ H _ I h => wpAny_tests_nil ⟨H, I, h⟩
theorem pf_one {X : Cx} {c : Expr} {t : TT} (h : PT X c t) : PF X [c] t := fun pins s σ H Q I hw => wpAny_tests_one (h pins s σ H Q I hw)
theorem compLoop_any {prog : Program} {w : World} {A : Around} {R : Result → Shared → Prop} {s : Shared} {elt target iter : Expr} {ifs : List Expr} {scope : Scope} {pos : Pos} {it acc : Value} {env : Env} (I : Nat → Shared → Prop)
    (turn : ∀ n s, I n s → wpAny (model prog w) A (pyNext it) (fun r s₁ => match r with
      | none => R (.ok .next) s₁
      | some v => wpAny (model prog w) A (letOwnedTupleGo target it v) (fun _ s₁' => wpAny (model prog w) A (assign target env v) (fun _ s₂ =>
          wpAny (model prog w) A (forIn ifs true fun c r => if r = true then do let ok ← isTrue c env (eval c env); pure (ForInStep.yield ok) else pure (ForInStep.yield r)) (fun ok s₃ =>
            if ok = true then wpAny (model prog w) A (eval elt env) (fun x s₄ =>
              wpAny (model prog w) A (call (.builtin "list.append") [acc, x]) (fun _ s₅ => ∃ m, m < n ∧ I m s₅) (fun _ _ => False) s₄) (fun _ _ => False) s₃
            else ∃ m, m < n ∧ I m s₃) (fun _ _ => False) s₂) (fun _ _ => False) s₁') (fun _ _ => False) s₁) (fun _ _ => False) s)
    (n : Nat) (h : I n s) :
    codeAny (model prog w) A (.compLoop (.ListComp elt [⟨target, iter, ifs, 0⟩] scope pos) 0 it acc env) R s := by
  refine codeAny_loop rfl I (fun n s hI => ?_) n h
  show wpAny _ A ((compTurn (.ListComp elt [⟨target, iter, ifs, 0⟩] scope pos) 0 it acc env).onRaise (fun x => do noteFrame x env; theTreesLotGoes x)) _ _ s
  refine wpAny_noted ?_
  rw [compTurn_list]
  have no : ∀ {α : Type} {t : Sem α} {Q : α → Shared → Prop} {E' : Value → Shared → Prop} {s' : Shared}, wpAny (model prog w) A t Q (fun _ _ => False) s' → wpAny (model prog w) A t Q E' s' := fun h => wpAny_mono h (fun _ _ q => q) fun _ _ z => z.elim
  refine wpAny_bind (wpAny_standAt (wpAny_bind (no (wpAny_mono (turn n s hI) (fun r s₁ h₁ => ?_) fun _ _ h' => h'))))
  cases r with
  | none => exact wpAny_pure h₁
  | some v =>
    refine wpAny_bind (no (wpAny_mono h₁ (fun _ s₁' h₁' => ?_) fun _ _ h' => h'))
    refine wpAny_bind (no (wpAny_mono h₁' (fun _ s₂ h₂ => wpAny_bind (no (wpAny_mono h₂ (fun ok s₃ h₃ => ?_) fun _ _ h' => h'))) fun _ _ h' => h'))
    cases ok with
    | false => exact wpAny_pure ⟨rfl, h₃⟩
    | true =>
      exact wpAny_bind (wpAny_bind (no (wpAny_mono h₃ (fun x s₄ h₄ => wpAny_bind (no (wpAny_mono h₄ (fun _ s₅ h₅ => wpAny_pure (wpAny_pure ⟨rfl, h₅⟩)) fun _ _ h' => h'))) fun _ _ h' => h')))
structure tBlock (J : It) (own : Nat) (fr : List Nat) (g : CB → TG) (tf : CB → TT) (te : CB → TE) (Q : VK) (σ : St) (H1 : Hp) : Prop where
  go : ∀ (b : CB) (D : Addr), H1 D = none → ∃ W : Nat → Nat → St → Hp → Prop, (∃ m, W 0 m (cSt own fr σ) (upd H1 D (.lst []))) ∧ ∀ i m σ' H', W i m σ' H' →
    (J.stop i H' ∧ Q (.ref D) H') ∨ (J.go i H' ∧ ∃ M : St → Hp → Prop, (∀ σ2 H2, M σ2 H2 → ∃ m', m' < m ∧ W (i + 1) m' σ2 H2) ∧ ∀ x H2, J.yld i H' x H2 → g b x σ' H2 fun σ3 H3 => tf b σ3 H3 fun k H4 =>
      if k = true then te b σ3 H4 fun y H5 => ∃ ys, H5 D = some (.lst ys) ∧ ys.length < sizeLine ∧ M σ3 (upd H5 D (.lst (ys ++ [y]))) else M σ3 H4)
def tComp (wi : TI) (own : Nat) (fr : List Nat) (g : CB → TG) (tf : CB → TT) (te : CB → TE) : TE := fun σ H Q => wi σ H fun J H1 => tBlock J own fr g tf te Q σ H1
section
variable {X : Cx} {tg iter elt : Expr} {ifs : List Expr} {scope : Scope} {pos : Pos} {N : List Str} {own : Nat} {fr : List Nat} {wi : TI} {g : CB → TG} {tf : CB → TT} {te : CB → TE}
theorem comp_run {use : Option (Value → Sem Unit)} {R : Value → Shared → Prop} {pins : List (Addr × Obj)} {s : Shared} {σ : St} {H : Hp} {Q : VK} (S : CompOk X.env.scope X.N N own fr scope) (hc : X.calm = true) (hi : PI X tg iter wi)
    (hg : ∀ b, PG (cxC X N scope b) tg (g b)) (hf : ∀ b, PF (cxC X N scope b) ifs (tf b)) (he : ∀ b, PE (cxC X N scope b) elt (te b)) (hs : ∀ x, foldedSetIterable iter X.env x = pure x) (I : Inv X pins σ H s) (h : tComp wi own fr g tf te σ H Q)
    (fin : ∀ (D C : Addr) (oC : Obj) (m : Str → Option Value) (H' : Hp) (s' : Shared), Inv X (pins ++ [(C, oC)]) σ H' s' → X.s₀.heap.objs.size ≤ C → (∀ p ∈ X.pn ++ pins, p.1 ≠ C) → (∀ h' : Heap, h'.get? C = some oC → h'.Ns C m) → Q (.ref D) H' → compPost (model X.prog X.w) X.A X.xe use R (.ref D) C (.ok .next) s') :
    wpAny (model X.prog X.w) X.A (comprehension (.ListComp elt [⟨tg, iter, ifs, 0⟩] scope pos) scope X.env (firstIterPos [⟨tg, iter, ifs, 0⟩] pos) (newList []) false (eval iter X.env) use) R X.xe s := by
  refine wpAny_comprehension_free rfl hs (closureFor_clOf (S.cells I.ok)) S.kind (fun x hx hk => ?_) (thn (hi pins s σ H _ I h) fun v s1 h1 => thn h1 fun itv s2 h2 => ?_)
  · have := nodup_lookup S.nd (show (x.1, x.2) ∈ scope.names from hx)
    rw [this, hk]
  obtain ⟨it, fp, tn, J, H2, e, I2, T, st2, f2, q⟩ := h2
  subst e
  refine wpAny_newObj_type ?_
  refine newCompEnv_ ?_
  have eD : (s2.heap.push { cls := .type "list", data := .seq #[] }).objs.size = s2.heap.objs.size + 1 := Heap.size_push ..
  have hD : H2 s2.heap.objs.size = none := I2.hok.fresh (Nat.le_refl _)
  have hlt : ∀ b ∈ fp, b < s2.heap.objs.size := fun b hb => by
    obtain ⟨o, ho, _⟩ := T.obj 0 _ st2 b hb
    exact Heap.lt_size ho
  obtain ⟨W, ⟨m0, w0⟩, turn⟩ := q.go ⟨s2.heap.objs.size + 1, fp, s2, H2⟩ s2.heap.objs.size hD
  have IX := inv_comp (fp := fp) S I2 rfl rfl rfl f2 hlt
  have st4 : tn 0 (pushCells ((s2.heap.push { cls := .type "list", data := .seq #[] }).push { cls := .type "dict", data := .dict #[] }) scope.names) :=
    T.keep 0 _ _ st2 fun b _ o e => pushCells_keeps _ _ _ _ (Heap.get?_push_of_some _ (Heap.get?_push_of_some _ e))
  have fr0 : ∀ b ∈ fp, upd H2 s2.heap.objs.size (.lst []) b = none := fun b hb => by
    rw [upd_ne (Nat.ne_of_lt (hlt b hb))]
    exact (f2 b hb).1
  have cne : ∀ b ∈ fp, ∀ x c, (cxC X N scope ⟨s2.heap.objs.size + 1, fp, s2, H2⟩).env.cells.lookup x = some c → c ≠ b := fun b hb => ((IX.ok.exf b hb).2)
  have stat : ∀ {H' : Hp}, (∀ b ∈ fp, H' b = none) → ∀ b ∈ fp, FpOk (cxC X N scope ⟨s2.heap.objs.size + 1, fp, s2, H2⟩) [] H' b := fun hn b hb =>
    ⟨hn b hb, (IX.ok.exf b hb).1, IX.ok.exfs b hb, .inl hb, cne b hb, fun p hp => absurd (show p ∈ ([] : List (Addr × Obj)) from hp) (by simp)⟩
  have e4 : ∀ cenv : Env, cenv = newEnv scope (s2.heap.push { cls := .type "list", data := .seq #[] }).objs.size X.env.globals (cellsFrom ((s2.heap.push { cls := .type "list", data := .seq #[] }).objs.size + 1) scope.names (clOf X.env scope.names)) X.env.qual none .none (some X.env) builtinsNs →
      ({ cenv with scope := relabel scope X.env } : Env) = (cxC X N scope ⟨s2.heap.objs.size + 1, fp, s2, H2⟩).env ∧ cenv.locals = s2.heap.objs.size + 1 := fun cenv e => by
    subst e
    rw [eD]
    exact ⟨rfl, rfl⟩
  obtain ⟨e5, e6⟩ := e4 _ rfl
  have loop : codeAny (model X.prog X.w) X.A (.compLoop (.ListComp elt [⟨tg, iter, ifs, 0⟩] scope pos) 0 (.ref it) (.ref s2.heap.objs.size) (cxC X N scope ⟨s2.heap.objs.size + 1, fp, s2, H2⟩).env)
      (compPost (model X.prog X.w) X.A X.xe use R (.ref s2.heap.objs.size) (s2.heap.objs.size + 1)) { s2 with heap := pushCells ((s2.heap.push { cls := .type "list", data := .seq #[] }).push { cls := .type "dict", data := .dict #[] }) scope.names } := by
    refine compLoop_any (fun n s' => ∃ i σ' H', Inv (cxC X N scope ⟨s2.heap.objs.size + 1, fp, s2, H2⟩) [] σ' H' s' ∧ tn i s'.heap ∧ (∀ b ∈ fp, H' b = none) ∧ W i n σ' H') ?_ m0 ⟨0, _, _, IX, st4, fr0, w0⟩
    rintro n s5 ⟨i, σ5, H5, I5, st5, fr5, w5⟩
    rcases turn i n σ5 H5 w5 with ⟨stop, qn⟩ | ⟨go, M, hM, step⟩
    · refine thn (T.done (cxC X N scope ⟨s2.heap.objs.size + 1, fp, s2, H2⟩) rfl rfl rfl hc i [] s5 σ5 H5 (fun _ _ => False) I5 (stat fr5) st5 stop) fun r s6 ⟨hr, I6⟩ => ?_
      subst hr
      obtain ⟨m, hn, _⟩ := I6.loc
      obtain ⟨oC, es, ep, hoC, hd, hk, hm⟩ := id hn
      have IB : Inv X pins σ H5 s6 := I2.call' (ch := fp) I6.os I6.base I6.hok I6.bare fun b hb => ⟨(f2 b hb).2.2.2.1, (f2 b hb).2.1, (f2 b hb).2.2.2.2.1, (f2 b hb).2.2.2.2.2⟩
      have young : s2.heap.objs.size ≤ s2.heap.objs.size + 1 := Nat.le_succ _
      refine fin s2.heap.objs.size (s2.heap.objs.size + 1) oC m H5 s6 (IB.pins_of fun p hp => ?_) (Nat.le_trans I2.sz young) (fun p hp => Nat.ne_of_lt (Nat.lt_of_lt_of_le (Heap.lt_size (I2.pin p hp).1) young)) (fun h' e => ⟨oC, es, ep, e, hd, hk, hm⟩) qn
      rcases List.mem_append.mp hp with z | z
      · exact IB.pin p (List.mem_append_right _ z)
      · have ep' : p = (s2.heap.objs.size + 1, oC) := by simpa using z
        subst ep'
        exact ⟨hoC, I6.free, Nat.ne_of_gt (Nat.lt_of_lt_of_le I2.lt young), I2.nofs young, fun v z => by rw [hd] at z; cases z⟩
    · refine thn (T.item (cxC X N scope ⟨s2.heap.objs.size + 1, fp, s2, H2⟩) rfl rfl rfl hc i [] s5 σ5 H5 (fun _ _ => False) I5 (stat fr5) st5 go) fun r s6 ⟨u, hr, h6⟩ => ?_
      subst hr
      refine thn h6 fun _ s7 ⟨x, H7, I7, r7, y7, st7, fr7⟩ => ?_
      have I7' := I7.pinned (stat fr7) (T.obj _ _ st7)
      refine thn (hg _ _ s7 σ5 H7 x u _ I7' r7 (step x H7 y7)) fun _ s8 ⟨σ8, H8, I8, q8⟩ => ?_
      refine thn (hf _ _ s8 σ8 H8 _ I8 q8) fun k s9 ⟨H9, I9, q9⟩ => ?_
      have again : ∀ {H10 : Hp} {s10 : Shared}, Inv (cxC X N scope ⟨s2.heap.objs.size + 1, fp, s2, H2⟩) ([] ++ pinsAt fp s7.heap) σ8 H10 s10 → M σ8 H10 →
          ∃ m, m < n ∧ ∃ i σ' H', Inv (cxC X N scope ⟨s2.heap.objs.size + 1, fp, s2, H2⟩) [] σ' H' s10 ∧ tn i s10.heap ∧ (∀ b ∈ fp, H' b = none) ∧ W i m σ' H' := fun {H10 s10} I10 q10 => by
        obtain ⟨m', hm, w10⟩ := hM σ8 H10 q10
        refine ⟨m', hm, i + 1, σ8, H10, I10.unpinned, T.keep _ _ _ st7 fun b hb o e => (I10.pin (b, o) (List.mem_append_right _ (List.mem_append_right _ (mem_pinsAt hb e)))).1, fun b hb => ?_, w10⟩
        obtain ⟨o, e, d⟩ := T.obj _ _ st7 b hb
        exact (I10.pin (b, o) (List.mem_append_right _ (List.mem_append_right _ (mem_pinsAt hb e)))).2.1
      cases k with
      | false => exact again I9 q9
      | true =>
        refine thn (he _ _ s9 σ8 H9 _ I9 q9) fun w10 s10 ⟨y, H10, I10, r10, ys, hys, hz, q10⟩ => ?_
        refine thn (mt_append _ s10 σ8 H10 (.ref s2.heap.objs.size) [y] (.ref s2.heap.objs.size) [w10] (fun _ H' => M σ8 H') I10 rfl (.cons r10 .nil) ⟨_, ys, y, rfl, rfl, hys, hz, q10⟩) fun _ s11 ⟨_, H11, I11, _, q11⟩ => ?_
        exact again I11 q11
  have go : codeAny (model X.prog X.w) X.A (.compStart (.ListComp elt [⟨tg, iter, ifs, 0⟩] scope pos) 0 (.ref it) (.ref s2.heap.objs.size) (cxC X N scope ⟨s2.heap.objs.size + 1, fp, s2, H2⟩).env)
      (compPost (model X.prog X.w) X.A X.xe use R (.ref s2.heap.objs.size) (s2.heap.objs.size + 1)) { s2 with heap := pushCells ((s2.heap.push { cls := .type "list", data := .seq #[] }).push { cls := .type "dict", data := .dict #[] }) scope.names } :=
    codeAny_compStart_list loop (T.self _ 0 _ _ _ st4 loop)
  have fin2 : ∀ (env' : Env) (L : Addr), env' = (cxC X N scope ⟨s2.heap.objs.size + 1, fp, s2, H2⟩).env → L = s2.heap.objs.size + 1 →
      codeAny (model X.prog X.w) X.A (.compStart (.ListComp elt [⟨tg, iter, ifs, 0⟩] scope pos) 0 (.ref it) (.ref s2.heap.objs.size) env') (compPost (model X.prog X.w) X.A X.xe use R (.ref s2.heap.objs.size) L)
        { s2 with heap := pushCells ((s2.heap.push { cls := .type "list", data := .seq #[] }).push { cls := .type "dict", data := .dict #[] }) scope.names } := by
    intro env' L h1 h2
    subst h1 h2
    exact go
  exact fin2 _ _ e5 e6
theorem comp_gone {pins : List (Addr × Obj)} {C : Addr} {oC : Obj} {σ' : St} {H' : Hp} {s' : Shared} {h' : Heap} (I : Inv X (pins ++ [(C, oC)]) σ' H' s') (hy : X.s₀.heap.objs.size ≤ C) (hp : ∀ p ∈ X.pn ++ pins, p.1 ≠ C) (sb : Heap.SameBut C s'.heap h') :
    Inv X pins σ' H' { s' with heap := h' } := by
  have pC := I.pin (C, oC) (List.mem_append_right _ (List.mem_append_right _ (by simp)))
  have I2 : Inv X pins σ' H' s' := I.unpinned
  refine I2.turned (it := C) (t' := s'.toks) (fun b o hb e => (sb.2 b hb).trans e) pC.2.1 pC.2.2.1 (.inr hy) (fun x c e z => ?_) hp
  obtain ⟨v, o, ho, hd⟩ := I2.cell x c e
  rw [z, pC.1] at ho
  cases ho
  exact pC.2.2.2.2 v hd
theorem pe_comp (S : CompOk X.env.scope X.N N own fr scope) (hc : X.calm = true) (hi : PI X tg iter wi) (hg : ∀ b, PG (cxC X N scope b) tg (g b)) (hf : ∀ b, PF (cxC X N scope b) ifs (tf b)) (he : ∀ b, PE (cxC X N scope b) elt (te b))
    (hs : ∀ x, foldedSetIterable iter X.env x = pure x := by intro _; rfl) : PE X (.ListComp elt [⟨tg, iter, ifs, 0⟩] scope pos) (tComp wi own fr g tf te) := by
  intro pins s σ H Q I h
  rw [eval_ListComp]
  refine comp_run (use := none) S hc hi hg hf he hs I h fun D C oC m H' s' I' hy hp hm q => ?_
  have pC := I'.pin (C, oC) (List.mem_append_right _ (List.mem_append_right _ (by simp)))
  exact ⟨m, hm _ pC.1, fun h' sb => ⟨.ref D, H', comp_gone I' hy hp sb, rfl, q⟩⟩
theorem ps_setComp {j : Nat} {y : Str} {py spos : Pos} (S : CompOk X.env.scope X.N N own fr scope) (hc : X.calm = true) (hN : X.N.Nodup) (hj : X.N[j]? = some y) (hy : Loc X.env.scope y) (hi : PI X tg iter wi) (hg : ∀ b, PG (cxC X N scope b) tg (g b)) (hf : ∀ b, PF (cxC X N scope b) ifs (tf b))
    (he : ∀ b, PE (cxC X N scope b) elt (te b)) (hfn : X.fn y = true ∨ X.env.scope.names.lookup y = some .local := by first | exact .inl rfl | exact .inr rfl | assumption) (hs : ∀ x, foldedSetIterable iter X.env x = pure x := by intro _; rfl)
    (hsw : swapsWith (.ListComp elt [⟨tg, iter, ifs, 0⟩] scope pos) (some (.Name y py)) spos.line X.env = pure true := by rfl) :
    PS X (.Assign [.Name y py] (.ListComp elt [⟨tg, iter, ifs, 0⟩] scope pos) spos) (tAsg (tComp wi own fr g tf te) (gName j)) := by
  intro pins s σ H D I h
  rw [exec_Assign_Name_used _ _ _ _ hsw]
  refine wpAny_bind (wpAny_standAt (wpAny_bind ?_))
  show wpAny _ _ (do let _ ← comprehension (.ListComp elt [⟨tg, iter, ifs, 0⟩] scope pos) scope X.env _ (newList []) false (eval iter X.env) (some (assign (.Name y py) X.env))) _ _ s
  refine wpAny_bind (thn (comp_run (use := some (assign (.Name y py) X.env)) (R := fun _ s' => SP X pins D .next s') S hc hi hg hf he hs I h fun D' C oC m H' s' I' hy' hp hm q => ?_) fun _ s' q => wpAny_pure (wpAny_pure q))
  show wpAny _ _ (assign (.Name y py) X.env (.ref D')) _ _ s'
  refine thn (pg_name hN hj hy hfn _ s' σ H' (.ref D') (.ref D') _ I' rfl q) fun _ s'' ⟨σ2, H2, I2, q2⟩ => ?_
  have pC := I2.pin (C, oC) (List.mem_append_right _ (List.mem_append_right _ (by simp)))
  exact ⟨m, hm _ pC.1, fun h' sb => ⟨σ2, H2, comp_gone I2 hy' hp sb, q2⟩⟩
end
end L2

set_option Elab.async false
set_option linter.all false
set_option maxRecDepth 100000
namespace L2
open PySem PySem.Spec PyProof.Rows
theorem PE.imp {X : Cx} {e : Expr} {t t' : TE} (h : PE X e t) (k : ∀ σ H Q, t' σ H Q → t σ H Q) : PE X e t' := fun pins s σ H Q I q => h pins s σ H Q I (k σ H Q q)
theorem OpR.imp {X : Cx} {f : Value → Value → Sem Value} {r r' : R2} (h : OpR X f r) (k : ∀ x y H Q, r' x y H Q → r x y H Q) : OpR X f r' := fun pins s σ H x y v u Q I rx ry q => h pins s σ H x y v u Q I rx ry (k x y H Q q)
def fVar (i : Nat) : TE := fun σ H Q => match σ[i]? with
  | some (some v) => Q v H
  | _ => False
section
variable {X : Cx}
theorem fv (i : Nat) {x : Str} {pos : Pos} (hN : X.N[i]? = some x := by rfl) (hv : Vis X.env.scope x := by first | exact Or.inl rfl | exact Or.inr (Or.inl rfl) | exact Or.inr (Or.inr rfl)) (hd : (x == ("__debug__" : Str)) = false := by decide)
    (hcd : (x == ("__classdict__" : Str)) = false := by decide) : PE X (.Name x pos) (fVar i) := (pe_var hN hv hd hcd).imp fun σ H Q q => by
  unfold fVar at q
  cases e : σ[i]? with
  | none => rw [e] at q; exact q.elim
  | some o =>
    cases o with
    | none => rw [e] at q; exact q.elim
    | some v => rw [e] at q; exact ⟨v, e, q⟩
def fAdd : R2 := fun x y H Q => match x, y with
  | .int i, .int j => Q (.int (i + j)) H
  | .str a, .str b => a.length + b.length ≤ sizeLine ∧ Q (.str (a ++ b)) H
  | .ref p, .ref q => rCat (.ref p) (.ref q) H Q
  | _, _ => False
theorem o_add : OpR X (binaryOp .Add) fAdd := by
  intro pins s σ H x y v u Q I rx ry h
  cases x with
  | int i =>
    cases y with
    | int j => exact op_add pins s σ H _ _ v u Q I rx ry ⟨i, j, rfl, rfl, h⟩
    | _ => exact (show False from h).elim
  | str a =>
    cases y with
    | str b => exact op_add_str pins s σ H _ _ v u Q I rx ry ⟨a, b, rfl, rfl, h.1, h.2⟩
    | _ => exact (show False from h).elim
  | ref p =>
    cases y with
    | ref q => exact op_cat pins s σ H _ _ v u Q I rx ry h
    | _ => exact (show False from h).elim
  | _ => cases y <;> exact (show False from h).elim
def fInt (C : Int → Int → Prop) (g : Int → Int → V) : R2 := fun x y H Q => match x, y with
  | .int i, .int j => C i j ∧ Q (g i j) H
  | _, _ => False
def fInt0 (g : Int → Int → V) : R2 := fun x y H Q => match x, y with
  | .int i, .int j => Q (g i j) H
  | _, _ => False
theorem OpR.fInt {f : Value → Value → Sem Value} {C : Int → Int → Prop} {g : Int → Int → V} (h : OpR X f (rI C g)) : OpR X f (fInt C g) := h.imp fun x y H Q q => by
  cases x with
  | int i =>
    cases y with
    | int j => exact ⟨i, j, rfl, rfl, q.1, q.2⟩
    | _ => exact (show False from q).elim
  | _ => cases y <;> exact (show False from q).elim
theorem OpR.fInt0 {f : Value → Value → Sem Value} {g : Int → Int → V} (h : OpR X f (rI0 g)) : OpR X f (fInt0 g) := h.imp fun x y H Q q => by
  cases x with
  | int i =>
    cases y with
    | int j => exact ⟨i, j, rfl, rfl, q⟩
    | _ => exact (show False from q).elim
  | _ => cases y <;> exact (show False from q).elim
theorem o_sub : OpR X (binaryOp .Sub) (fInt0 fun i j => .int (i - j)) := op_sub.fInt0
theorem o_mul : OpR X (binaryOp .Mult) (fInt CMul fun i j => .int (i * j)) := op_mul.fInt
def CDivW (_ j : Int) : Prop := 0 < j ∧ j < 2 ^ 64
theorem log2_64 {j : Int} (h : CDivW 0 j) : j.natAbs.log2 < 9000 := by
  have h1 : j.natAbs < 2 ^ 64 := by
    have h2 : j < 2 ^ 64 := h.2
    have h3 : 0 < j := h.1
    omega
  have h0 : j.natAbs ≠ 0 := by have h3 : 0 < j := h.1; omega
  have := (Nat.log2_lt h0).mpr h1
  omega
theorem o_fdiv : OpR X (binaryOp .FloorDiv) (fInt CDivW fun i j => .int (i / j)) := (opI fun i j _ _ _ _ _ hc q => by
  have h1 : (0 : Int) < j := hc.1
  exact floordiv_int (by omega) (by rw [Int.fdiv_eq_ediv_of_nonneg i (by omega)]; exact q) (.inl (PyProof.noPylong_of_log2 (log2_64 hc)))).fInt
theorem o_mod : OpR X (binaryOp .Mod) (fInt (fun _ j => 0 < j) fun i j => .int (i % j)) := op_mod.fInt
theorem o_pow : OpR X (binaryOp .Pow) (fInt CPow fun i j => .int (i ^ j.toNat)) := op_pow.fInt
theorem o_lt : OpR X (compareOp .Lt) (fInt0 fun i j => .bl (decide (i < j))) := op_lt.fInt0
theorem o_le : OpR X (compareOp .LtE) (fInt0 fun i j => .bl (decide (i ≤ j))) := op_le.fInt0
mutual
inductive RepD (K : PySem.W.Frag) (H : Hp) : V → PyData → Prop where
  | non : RepD K H .non .none
  | bl (b : Bool) : RepD K H (.bl b) (.bool b)
  | int (i : Int) : RepD K H (.int i) (.int i)
  | str (x : Str) : RepD K H (.str x) (.str x)
  | lst {a : Addr} {xs : List V} {ds : List PyData} (h : SqL K H a xs) (r : RepAll K H xs ds) : RepD K H (.ref a) (.list ds)
  | tup {a : Addr} {xs : List V} {ds : List PyData} (h : SqT K H a xs) (r : RepAll K H xs ds) : RepD K H (.ref a) (.tuple ds)
inductive RepAll (K : PySem.W.Frag) (H : Hp) : List V → List PyData → Prop where
  | nil : RepAll K H [] []
  | cons {x : V} {xs : List V} {d : PyData} {ds : List PyData} (h : RepD K H x d) (r : RepAll K H xs ds) : RepAll K H (x :: xs) (d :: ds)
end
mutual
theorem Inv.reads {pins : List (Addr × Obj)} {σ : St} {H : Hp} {s : Shared} (I : Inv X pins σ H s) : ∀ {x : V} {d : PyData} {u : Value}, RepD X.K H x d → RelV x u → ∃ as, Reads s.heap u d as
  | _, _, _, .non, r => by cases r; exact ⟨_, .none⟩
  | _, _, _, .bl b, r => by cases r; exact ⟨_, .bool b⟩
  | _, _, _, .int i, r => by obtain ⟨t, rfl⟩ := r; exact ⟨_, .int i t⟩
  | _, _, _, .str x, r => by obtain ⟨t, rfl⟩ := r; exact ⟨_, .str x t⟩
  | _, _, _, .lst h q, r => by
    cases r
    obtain ⟨its, rv, ⟨o, n, e, hc, _, hd⟩, _⟩ := I.list h
    obtain ⟨as, z⟩ := I.readsAll q rv
    exact ⟨_, .list e hc hd (by simpa using z)⟩
  | _, _, _, .tup h q, r => by
    cases r
    obtain ⟨its, rv, ⟨o, e, hc, n, hd⟩, _⟩ := I.tuple h
    obtain ⟨as, z⟩ := I.readsAll q rv
    exact ⟨_, .tuple e hc hd (by simpa using z)⟩
theorem Inv.readsAll {pins : List (Addr × Obj)} {σ : St} {H : Hp} {s : Shared} (I : Inv X pins σ H s) : ∀ {xs : List V} {ds : List PyData} {us : List Value}, RepAll X.K H xs ds → Vals xs us → ∃ as, ReadsAll s.heap us ds as
  | _, _, _, .nil, r => by cases r; exact ⟨_, .nil⟩
  | _, _, _, .cons h q, r => by
    cases r with
    | cons r1 r2 =>
      obtain ⟨as, z⟩ := I.reads h r1
      obtain ⟨bs, z2⟩ := I.readsAll q r2
      exact ⟨_, .cons z z2⟩
end
def fEq (K : PySem.W.Frag) : R2 := fun x y H Q => match x, y with
  | .ref p, .ref q => ∃ d e, RepD K H (.ref p) d ∧ RepD K H (.ref q) e ∧ SeqAt.shaped d = true ∧ SeqAt.shaped e = true ∧ Q (.bl (PyData.eqv d e)) H
  | x, y => scal x y = true ∧ Q (.bl (decide (x = y))) H
def fNe (K : PySem.W.Frag) : R2 := fun x y H Q => match x, y with
  | .ref p, .ref q => ∃ d e, RepD K H (.ref p) d ∧ RepD K H (.ref q) e ∧ SeqAt.shaped d = true ∧ SeqAt.shaped e = true ∧ Q (.bl (!PyData.eqv d e)) H
  | x, y => scal x y = true ∧ Q (.bl (!decide (x = y))) H
theorem o_eq (hu : X.A.units + 64 < cLine) : OpR X (compareOp .Eq) (fEq X.K) := by
  intro pins s σ H x y v u Q I rx ry h
  by_cases hr : ∃ p q, x = V.ref p ∧ y = V.ref q
  · obtain ⟨p, q, rfl, rfl⟩ := hr
    obtain ⟨d, e, hd, he, sd, se, hq⟩ := h
    obtain ⟨as, z1⟩ := I.reads hd rx
    obtain ⟨bs, z2⟩ := I.reads he ry
    exact eq_dataH z1 z2 sd se hu ⟨.bl _, H, I, rfl, hq⟩
  · refine op_eq pins s σ H x y v u Q I rx ry ?_
    cases x <;> cases y <;> first | exact h | exact absurd ⟨_, _, rfl, rfl⟩ hr
theorem o_ne (hu : X.A.units + 64 < cLine) : OpR X (compareOp .NotEq) (fNe X.K) := by
  intro pins s σ H x y v u Q I rx ry h
  by_cases hr : ∃ p q, x = V.ref p ∧ y = V.ref q
  · obtain ⟨p, q, rfl, rfl⟩ := hr
    obtain ⟨d, e, hd, he, sd, se, hq⟩ := h
    obtain ⟨as, z1⟩ := I.reads hd rx
    obtain ⟨bs, z2⟩ := I.reads he ry
    exact ne_dataH z1 z2 sd se hu ⟨.bl _, H, I, rfl, hq⟩
  · refine op_ne pins s σ H x y v u Q I rx ry ?_
    cases x <;> cases y <;> first | exact h | exact absurd ⟨_, _, rfl, rfl⟩ hr
def fIn (K : PySem.W.Frag) (neg : Bool) : R2 := fun x y H Q => match y with
  | .str j => ∃ i, x = .str i ∧ Q (.bl (if neg then !(!(Builtin.Str.occurrences j i 0 j.length 1).isEmpty) else !(Builtin.Str.occurrences j i 0 j.length 1).isEmpty)) H
  | .ref p => ∃ xs, (SqL K H p xs ∨ SqT K H p xs) ∧ flatV x = true ∧ xs.all flatV = true ∧ Q (.bl (if neg then !inV x xs else inV x xs)) H
  | _ => False
theorem o_is : OpR X (compareOp .Is) (fun x y H Q => y = .non ∧ Q (.bl (decide (x = .non))) H) := op_isN
def fIx (K : PySem.W.Frag) : R2 := fun x y H Q => match x, y with
  | .ref p, .int i => ∃ xs v, (SqL K H p xs ∨ SqT K H p xs) ∧ atI xs i = some v ∧ Q v H
  | .str z, .int i => ∃ c, z.length ≤ sizeLine ∧ atI z.cps.toList i = some c ∧ Q (.str ⟨#[c]⟩) H
  | _, _ => False
theorem ix_any : IxR X (fIx X.K) := by
  intro value slice pins s σ H x y v u Q I rx ry h hs
  cases x with
  | ref p =>
    cases y with
    | int i =>
      obtain ⟨xs, w, h1 | h1, h2, q⟩ := h
      · exact ix_list value slice pins s σ H _ _ v u Q I rx ry ⟨p, xs, i, w, rfl, rfl, h1, h2, q⟩ hs
      · exact ix_tup value slice pins s σ H _ _ v u Q I rx ry ⟨p, xs, i, w, rfl, rfl, h1, h2, q⟩ hs
    | _ => exact (show False from h).elim
  | str z =>
    cases y with
    | int i =>
      obtain ⟨c, h1, h2, q⟩ := h
      exact ix_str value slice pins s σ H _ _ v u Q I rx ry ⟨z, i, c, rfl, rfl, h1, h2, q⟩ hs
    | _ => exact (show False from h).elim
  | _ => cases y <;> exact (show False from h).elim
def rSlS : V → Option Int → Option Int → Hp → VK → Prop := fun x lo hi H Q => ∃ z, x = .str z ∧ z.length ≤ sizeLine ∧ Q (.str (Txt.slice z lo hi)) H
def Its (x : Str) : It := ⟨fun i _ => i < x.cps.size, fun i H v H' => H' = H ∧ ∃ c, x.cps[i]? = some c ∧ v = .str ⟨#[c]⟩, fun i _ => x.cps.size ≤ i⟩
theorem turn_str {P : Program} {w : World} {K : PySem.W.Frag} {tg : Expr} {T : String} (hT : T = "str_ascii_iterator" ∨ T = "str_iterator") (it : Addr) (x : Str) (t : Tok) : Turn P w K tg (Its x) [it] it (fun i h => i ≤ x.cps.size ∧ h.IsStrIter it T x t i) where
  mem := by simp
  obj := fun i h st b hb => by
    have e : b = it := by simpa using hb
    subst e
    obtain ⟨_, o, e, c, d⟩ := st
    exact ⟨o, e, fun v z => by rw [d] at z; cases z⟩
  keep := fun i h h' st k => by
    obtain ⟨hi, o, e, r⟩ := st
    exact ⟨hi, o, k it (by simp) o e, r⟩
  item := by
    intro X hP hw hK hc i pins s σ H E I hf st hg
    subst hP hw hK
    obtain ⟨f0, f1, f2, f3, f4, f5⟩ := hf it (by simp)
    have W : Walks X.prog X.w X.A it [it] [it] x.cps.size (SignAt x) (fun i h => h.IsStrIter it T x t i) := by
      rcases hT with rfl | rfl
      · exact Walks.strAscii (I.ok.hd hc) it x t
      · exact Walks.strWide (I.ok.hd hc) it x t
    refine W.item i s _ _ hg st.2 fun v h' tk hv st' kk => ?_
    obtain ⟨c, u, hcp, rfl⟩ := hv
    have I1 : Inv X pins σ H { s with heap := h', toks := tk } := I.turned (fun b o hb e => kk b o (by simpa using hb) e) f0 f1 f3 f4 f5
    obtain ⟨o, e, c', d⟩ := id st'
    refine ⟨_, rfl, go_of (s := { s with heap := h', toks := tk }) e c' d (by rcases hT with rfl | rfl <;> decide) ⟨.str ⟨#[c]⟩, H, I1, ⟨u, rfl⟩, ⟨rfl, c, hcp, rfl⟩, ⟨hg, st'⟩, fun b hb => (hf b hb).1⟩⟩
  done := by
    intro X hP hw hK hc i pins s σ H E I hf st hg
    subst hP hw hK
    obtain ⟨f0, f1, f2, f3, f4, f5⟩ := hf it (by simp)
    have W : Walks X.prog X.w X.A it [it] [it] x.cps.size (SignAt x) (fun i h => h.IsStrIter it T x t i) := by
      rcases hT with rfl | rfl
      · exact Walks.strAscii (I.ok.hd hc) it x t
      · exact Walks.strWide (I.ok.hd hc) it x t
    have e : i = x.cps.size := Nat.le_antisymm st.1 hg
    subst e
    exact W.done s _ _ st.2 fun h' tk kk => ⟨rfl, I.turned (fun b o hb e => kk b o (by simpa using hb) e) f0 f1 f3 f4 f5⟩
  self := fun A i s Q E st h => by
    rcases hT with rfl | rfl
    · exact wpAny_pyIter_striter_ascii st.2 h
    · exact wpAny_pyIter_striter_wide st.2 h
def iAny (K : PySem.W.Frag) (tl : TE) : TI := fun σ H R => tl σ H fun x H1 => match x with
  | .ref a => ((∃ xs, SqL K H1 a xs) ∧ R (Itl K a) H1) ∨ ((∃ xs, SqT K H1 a xs) ∧ R (Itt K a) H1)
  | .str z => R (Its z) H1
  | _ => False
theorem pi_any {tg l : Expr} {tl : TE} (hl : PE X l tl) : PI X tg l (iAny X.K tl) := by
  intro pins s σ H R I h
  refine thn (hl pins s σ H _ I h) fun v s1 ⟨x, H1, I1, r1, q1⟩ => ?_
  cases x with
  | ref a =>
    cases r1
    rcases q1 with ⟨⟨xs, hq⟩, q⟩ | ⟨⟨xs, hq⟩, q⟩
    · obtain ⟨its, rv, p, hz⟩ := I1.list hq
      refine wpAny_pyIter_list p.isList ?_
      refine ⟨s1.heap.objs.size, [s1.heap.objs.size], _, _, H1, rfl, I1.kept (t' := s1.toks) fun b o e => Heap.get?_push_of_some _ e, turn_list a _, ⟨_, Heap.get?_push_size _ rfl, rfl, rfl⟩, fun b hb => ?_, q⟩
      have e : b = s1.heap.objs.size := by simpa using hb
      subst e
      exact I1.fpOk (Nat.le_refl _) (I1.hok.fresh (Nat.le_refl _))
    · obtain ⟨its, rv, p, hz⟩ := I1.tuple hq
      refine wpAny_pyIter_tuple (show s1.heap.IsTuple a its.toArray from p) ?_
      refine ⟨s1.heap.objs.size, [s1.heap.objs.size], _, _, H1, rfl, I1.kept (t' := s1.toks) fun b o e => Heap.get?_push_of_some _ e, turn_tuple a _, ⟨_, Heap.get?_push_size _ rfl, rfl, rfl⟩, fun b hb => ?_, q⟩
      have e : b = s1.heap.objs.size := by simpa using hb
      subst e
      exact I1.fpOk (Nat.le_refl _) (I1.hok.fresh (Nat.le_refl _))
  | str z =>
    obtain ⟨t, rfl⟩ := r1
    refine wpAny_pyIter_strU ?_
    refine ⟨s1.heap.objs.size, [s1.heap.objs.size], _, _, H1, rfl, I1.kept (t' := s1.toks) fun b o e => Heap.get?_push_of_some _ e, turn_str (T := strIterType z) ?_ _ z t, ⟨Nat.zero_le _, _, Heap.get?_push_size _ rfl, rfl, rfl⟩, fun b hb => ?_, q1⟩
    · unfold strIterType
      split
      · exact .inl rfl
      · exact .inr rfl
    · have e : b = s1.heap.objs.size := by simpa using hb
      subst e
      exact I1.fpOk (Nat.le_refl _) (I1.hok.fresh (Nat.le_refl _))
  | _ => exact (show False from q1).elim
theorem pt_tru {a : Expr} {ta : TE} (ha : PE X a ta) (he : ∀ whole, isTrue a X.env whole = (do let v ← whole; standAt a.pos; holding [v] (truthy v))) :
    PT X a (fun σ H Q => ta σ H fun x H' => ∃ k, TruV X.K x H' k ∧ Q k H') := pt_truth ha he
theorem pe_notV {a : Expr} {ta : TE} {pos : Pos} (ha : PE X a ta) : PE X (.UnaryOp .Not a pos) (fun σ H Q => ta σ H fun x H1 => ∃ k, TruV X.K x H1 k ∧ Q (.bl (!k)) H1) := by
  intro pins s σ H Q I h
  refine UnaryOp_ (thn (ha pins s σ H _ I h) fun v s1 ⟨x, H1, I1, r1, q1⟩ => ?_)
  obtain ⟨k, ht, q⟩ := q1
  exact not_of (thn (tru_ok pins s1 σ H1 x v (fun b H2 => Q (.bl (!b)) H2) I1 r1 ⟨k, ht, q⟩) fun b s2 ⟨H2, I2, q2⟩ => ⟨.bl (!b), H2, I2, rfl, q2⟩)
theorem c_len : CallR X (.builtin "len") (fun xs H Q => ∃ x n, xs = [x] ∧ LenV X.K x H n ∧ Q (.int n) H) := call_len
theorem c_list : CallR X (.type "list") (fun xs H Q => ∃ p ys, xs = [.ref p] ∧ (SqL X.K H p ys ∨ SqT X.K H p ys) ∧ ∀ l, H l = none → Q (.ref l) (upd H l (.lst ys))) := call_list_of
theorem bools_get {bs : List Bool} {its : List Value} (r : Vals (bs.map V.bl) its) {i : Nat} {v : Value} (h : its[i]? = some v) : ∃ b, bs[i]? = some b ∧ v = .bool b := by
  have hi : i < its.length := (List.getElem?_eq_some_iff.mp h).1
  have hl := r.length
  rw [List.length_map] at hl
  have hb : bs[i]? = some bs[i] := List.getElem?_eq_getElem (by omega)
  obtain ⟨u, hu, ru⟩ := r.get (i := i) (x := V.bl bs[i]) (by rw [List.getElem?_map, hb]; rfl)
  rw [h] at hu
  cases hu
  exact ⟨_, hb, ru⟩
theorem c_all (hc : X.calm = true := by rfl) : CallR X (.builtin "all") (fun xs H Q => ∃ (p : Addr) (bs : List Bool), xs = [.ref p] ∧ SqL X.K H p (bs.map V.bl) ∧ Q (.bl (bs.all id)) H) := by
  intro pins s σ H xs us Q I r h
  obtain ⟨p, bs, rfl, hq, q⟩ := h
  obtain ⟨u, rfl, rx⟩ := vals1 r
  cases rx
  obtain ⟨its, rv, pl, hz⟩ := I.list hq
  have hl := pl.isList
  have hlt : p < s.heap.objs.size := by obtain ⟨_, e, _⟩ := hl; exact Heap.lt_size e
  have hlen : its.toArray.size = bs.length := by have := rv.length; rw [List.length_map] at this; rw [List.size_toArray]; omega
  refine call_all_walk (wpAny_pyIter_list hl ?_)
  refine ⟨s.heap.objs.size, [s.heap.objs.size, p], [s.heap.objs.size], its.toArray.size, _, _, fun i => (bs[i]?).getD true, rfl, Walks.list (A := X.A.in1) (I.ok.hd hc) _ p (Nat.ne_of_lt hlt) its.toArray,
    ⟨⟨_, Heap.get?_push_size _ rfl, rfl, rfl⟩, hl.push _⟩, fun i v s' Q' E' hP hQ => ?_, fun h' tk hk => ?_⟩
  · obtain ⟨b, e, rfl⟩ := bools_get rv (by simpa using hP)
    simp only [e, Option.getD_some] at hQ
    exact wpAny_truthy_bool hQ
  · rw [hlen, LSm.range_all bs]
    exact ⟨.bl _, H, I.kept (LSm.kept_iter hk), rfl, q⟩
def cvOf : V → Value
  | .ty n => .type n
  | .ref a => .ref a
  | _ => .none
theorem cvOf_rel {y : V} {u : Value} (r : RelV y u) (h : cvOf y ≠ .none) : u = cvOf y := by
  cases y with
  | ty n => exact r
  | ref a => exact r
  | _ => exact absurd rfl h
theorem c_isinst : CallR X (.builtin "isinstance") (fun xs H Q => ∃ x y t b, xs = [x, y] ∧ cvOf y ≠ .none ∧ TyOf X.K H x t ∧ PySem.W.kitOne X.K t (cvOf y) = some b ∧ Q (.bl b) H) := by
  intro pins s σ H xs us Q I r h
  obtain ⟨x, y, t, b, rfl, hy, ty, e, q⟩ := h
  obtain ⟨u, w', rfl, rx, ry⟩ := vals2 r
  rw [cvOf_rel ry hy]
  exact isinst_ok I rx ty e fun tk => ⟨.bl b, H, I.tok _, rfl, q⟩
theorem m_append {o e : Expr} {to : TE} {t : TA} {apos cpos : Pos} (ho : PE X o to) (ha : PA X [e] t) (hbase : attributeBase o "append" X.env (eval o X.env) = eval o X.env := by rfl)
    (hfew : ((backTo cpos (starEach [e] X.env)).all (fun x => !x.1) && (backToKw cpos (keywordEach [] X.env)).all (fun x => x.1.isSome)
      && decide ([e].length + ([] : List Keyword).length + (if ([] : List Keyword).isEmpty then 0 else 1) < 30)) = true := by rfl)
    (hline : (apos.endLine == cpos.line) = true := by rfl) (hs : starEach [e] X.env = (false, eval e X.env) :: starEach [] X.env := by rfl) (hplain : (backTo cpos (starEach [] X.env)).any (·.1) = false := by rfl) :
    PE X (.Call (.Attribute o "append" apos) [e] [] cpos) (tBM X.K "list" rAppend to t) := pe_bm PySem.F.plainAttrs_list PySem.F.slot_list_append PySem.F.type_list_append mt_append ho ha hbase hfew hline hs hplain
end
def Has (P : Program) (w : World) (K : PySem.W.Frag) (mg : Str → Option Value) (base : Heap) (k : Nat) (x : Str) (ps : List Str) (sp : Sp) : Prop :=
  ∃ f fd, FnOk P w K mg base CX0 k f fd ps sp ∧ Binds K fd ps [] ∧ PySem.W.keepIn K (.ref f) = true ∧ mg x = some (.ref f) ∧ ∃ oc od osl, K.lookup f = some ⟨oc, od, .func fd, osl⟩
structure TopFn (K : PySem.W.Frag) (mg : Str → Option Value) (x : Str) (st : Stmt) (ps : List Str) : Prop where
  ex : ∃ f fd, Fun K x x st f fd ∧ Binds K fd ps [] ∧ mg x = some (.ref f)
theorem pe_callD {X : Cx} {j k : Nat} {x : Str} {ps : List Str} {sp : Sp} {e : Expr} {es : List Expr} {t : TA} {p pos : Pos} (D : Has X.prog X.w X.K X.mg X.base j x ps sp) (hr : Room k X.A) (ha : PA X (e :: es) t) (hj : j ≤ k := by decide) (hg : Gl X x := by rfl)
    (hdb : (x == ("__debug__" : Str)) = false := by decide) (he : starEach (e :: es) X.env = (false, eval e X.env) :: starEach es X.env := by rfl) (hpl : (backTo pos (starEach es X.env)).any (·.1) = false := by rfl) :
    PE X (.Call (.Name x p) (e :: es) [] pos) (tCall sp [] E0 t) := by
  obtain ⟨f, fd, F, b, kp, m, _⟩ := D
  exact pe_call F (hr.mono hj) hg m kp b .nil pass0 ha hdb he hpl
theorem TopFn.has {P : Program} {w : World} {K : PySem.W.Frag} {mg : Str → Option Value} {base : Heap} {x : Str} {st : Stmt} {N ps : List Str} {k : Nat} {sp : Sp} (F : TopFn K mg x st ps) (S : FnScope N ps (defScope st)) (len : ∀ vs H Q E, sp vs H Q E → vs.length = ps.length)
    (hbody : ∀ (f : Addr) (cdv : Value) (A : Around) (outer : List Env) (s : Shared) (H : Hp) (vs : List V) (Q : VK) (E : XK), Room k (A.deeper (envOfC x (defScope st) s.heap.objs.size f cdv)) → (A.deeper (envOfC x (defScope st) s.heap.objs.size f cdv)).units + 64 < cLine → sp vs H Q E →
      ∃ t, PSs (cxOf CX0 P w K mg base N x (defScope st) f cdv A outer s H E).nox (defBody st) t ∧ t { nx := fun _ H' => Q .non H', rt := Q } (start N vs) H) : Has P w K mg base (k + 1) x ps sp := by
  obtain ⟨f, fd, F, b, m⟩ := F.ex
  obtain ⟨oc, od, kV, doc, pm, an, cdv, ct, osl, e, lk, hcd⟩ := F.ex
  exact ⟨f, fd, F.ok S len fun cdv A outer s H vs Q E hr h => hbody f cdv A outer s H vs Q E hr hr.units h, b, F.kp, m, oc, od, osl, lk⟩
end L2

set_option Elab.async false
set_option linter.all false
set_option maxRecDepth 100000
namespace L2
open PySem PySem.Spec PyProof.Rows
theorem Same.upd {H : Hp} {p : Addr} (h : H p = none) (o : HO) : Same H (upd H p o) := fun b u q => by rw [upd_ne (ne_of_none q h)]; exact q
theorem Same.tup {K : PySem.W.Frag} {H H' : Hp} {a : Addr} {xs : List V} (e : Same H H') (h : SqT K H a xs) : SqT K H' a xs := by
  rcases h with (h | ⟨o, h⟩) | h
  · exact .inl (.inl (e _ _ h))
  · exact .inl (.inr ⟨o, e _ _ h⟩)
  · exact .inr h
mutual
theorem Same.rep {K : PySem.W.Frag} {H H' : Hp} (e : Same H H') : ∀ {x : V} {d : PyData}, RepD K H x d → RepD K H' x d
  | _, _, .non => .non
  | _, _, .bl b => .bl b
  | _, _, .int i => .int i
  | _, _, .str x => .str x
  | _, _, .lst h r => .lst (e.seq h) (e.repAll r)
  | _, _, .tup h r => .tup (e.tup h) (e.repAll r)
theorem Same.repAll {K : PySem.W.Frag} {H H' : Hp} (e : Same H H') : ∀ {xs : List V} {ds : List PyData}, RepAll K H xs ds → RepAll K H' xs ds
  | _, _, .nil => .nil
  | _, _, .cons h r => .cons (e.rep h) (e.repAll r)
end
def cFr (fr : List Nat) (σ : St) : St := fr.map fun j => (σ[j]?).getD none
theorem comp_turns {J : It} {n : Nat} {x : Nat → V} {fr : List Nat} {tf : CB → TT} {te : CB → TE} {Q : VK} {σ : St} {H1 : Hp} (p : Nat → Bool) (f : Nat → V) (hn : n < sizeLine)
    (stop : ∀ H, Same H1 H → J.stop n H) (go : ∀ i H, i < n → Same H1 H → J.go i H) (yld : ∀ i H v H', i < n → Same H1 H → J.yld i H v H' → H' = H ∧ v = x i)
    (hf : ∀ b i H (R : Bool → Hp → Prop), i < n → Same H1 H → (∀ H', Same H H' → R (p i) H') → tf b (some (x i) :: cFr fr σ) H R)
    (he : ∀ b i H (R : VK), i < n → p i = true → Same H1 H → (∀ H', Same H H' → R (f i) H') → te b (some (x i) :: cFr fr σ) H R)
    (fin : ∀ D H, H1 D = none → Same H1 H → H D = some (.lst (((List.range n).filter p).map f)) → Q (.ref D) H) : tBlock J 1 fr (fun _ => gName 0) tf te Q σ H1 := by
  refine ⟨fun b D hD => ?_⟩
  have lenf : ∀ i, (((List.range i).filter p).map f).length ≤ i := fun i => by
    rw [List.length_map]
    exact Nat.le_trans (List.length_filter_le _ _) (Nat.le_of_eq List.length_range)
  refine ⟨fun i m σ' H' => m = n - i ∧ i ≤ n ∧ (∃ v0, σ' = v0 :: cFr fr σ) ∧ Same H1 H' ∧ H' D = some (.lst (((List.range i).filter p).map f)), ⟨n, rfl, Nat.zero_le _, ⟨none, rfl⟩, Same.upd hD _, upd_same⟩, ?_⟩
  rintro i m σ' H' ⟨rfl, hi, ⟨v0, rfl⟩, sm, hl⟩
  by_cases hlt : i < n
  · refine .inr ⟨go i H' hlt sm, fun σ2 H2 => (∃ v0, σ2 = v0 :: cFr fr σ) ∧ Same H1 H2 ∧ H2 D = some (.lst (((List.range (i + 1)).filter p).map f)), fun σ2 H2 q => ⟨n - (i + 1), by omega, rfl, hlt, q⟩, fun v H2 y => ?_⟩
    obtain ⟨rfl, rfl⟩ := yld i H' v H2 hlt sm y
    show tf b (some (x i) :: cFr fr σ) _ _
    refine hf b i _ _ hlt sm fun H3 s3 => ?_
    have e1 : (List.range (i + 1)).filter p = (List.range i).filter p ++ (if p i then [i] else []) := by
      rw [List.range_succ, List.filter_append]
      congr 1
      cases hp : p i <;> simp [hp]
    cases hp : p i with
    | false =>
      rw [if_neg Bool.false_ne_true]
      refine ⟨⟨_, rfl⟩, sm.trans s3, ?_⟩
      rw [s3 _ _ hl, e1, hp]
      simp
    | true =>
      rw [if_pos rfl]
      refine he b i _ _ hlt hp (sm.trans s3) fun H4 s4 => ⟨_, s4 _ _ (s3 _ _ hl), ?_, ⟨_, rfl⟩, ?_, ?_⟩
      · exact Nat.lt_of_le_of_lt (lenf i) (Nat.lt_trans hlt hn)
      · have sm4 : Same H1 H4 := sm.trans (s3.trans s4)
        intro c o q
        by_cases hc : c = D
        · rw [hc, hD] at q; cases q
        · rw [upd_ne hc]; exact sm4 c o q
      · rw [upd_same, e1, hp]
        simp
  · have e : i = n := by omega
    subst e
    exact .inl ⟨stop H' sm, fin D H' hD sm hl⟩
theorem map_range {α : Type} {β : Type} (xs : List α) (d : α) (f : α → β) : (List.range xs.length).map (fun i => f (xs.getD i d)) = xs.map f := by
  apply List.ext_getElem?
  intro i
  rw [List.getElem?_map, List.getElem?_map]
  by_cases h : i < xs.length
  · rw [List.getElem?_range h, List.getElem?_eq_getElem h]
    simp [List.getD, List.getElem?_eq_getElem h]
  · rw [List.getElem?_eq_none (by simpa using h), List.getElem?_eq_none (by simpa using h)]
    rfl
theorem filter_range {α : Type} {β : Type} (p : α → Bool) (f : α → β) (d : α) : ∀ (xs : List α), ((List.range xs.length).filter fun i => p (xs.getD i d)).map (fun i => f (xs.getD i d)) = (xs.filter p).map f := by
  intro xs
  have e := map_range xs d id
  have e2 : xs = (List.range xs.length).map fun i => xs.getD i d := by simpa using e.symm
  have e3 : xs.filter p = ((List.range xs.length).filter fun i => p (xs.getD i d)).map fun i => xs.getD i d := by
    conv => lhs; rw [e2]
    rw [List.filter_map]
    rfl
  rw [e3, List.map_map]
  rfl
theorem comp_list {K : PySem.W.Frag} {a : Addr} {xs : List V} {fr : List Nat} {tf : CB → TT} {te : CB → TE} {Q : VK} {σ : St} {H1 : Hp} (p : V → Bool) (f : V → V) (hx : SqL K H1 a xs) (hn : xs.length < sizeLine)
    (hf : ∀ b x H (R : Bool → Hp → Prop), x ∈ xs → Same H1 H → (∀ H', Same H H' → R (p x) H') → tf b (some x :: cFr fr σ) H R)
    (he : ∀ b x H (R : VK), x ∈ xs → p x = true → Same H1 H → (∀ H', Same H H' → R (f x) H') → te b (some x :: cFr fr σ) H R)
    (fin : ∀ D H, H1 D = none → Same H1 H → H D = some (.lst ((xs.filter p).map f)) → Q (.ref D) H) : tBlock (Itl K a) 1 fr (fun _ => gName 0) tf te Q σ H1 := by
  have mem : ∀ i, i < xs.length → xs.getD i .non ∈ xs := fun i h => by
    rw [List.getD_eq_getElem?_getD, List.getElem?_eq_getElem h]
    exact List.getElem_mem h
  refine comp_turns (x := fun i => xs.getD i .non) (fun i => p (xs.getD i .non)) (fun i => f (xs.getD i .non)) hn (fun H s => ⟨xs, s.seq hx, Nat.le_refl _⟩) (fun i H h s => ⟨xs, xs[i], s.seq hx, List.getElem?_eq_getElem h⟩)
    (fun i H v H' h s y => ⟨y.1, ?_⟩) (fun b i H R h s k => hf b _ H R (mem i h) s k) (fun b i H R h hp s k => he b _ H R (mem i h) hp s k) fun D H hD s e => fin D H hD s ?_
  · have := y.2 xs (s.seq hx)
    rw [List.getD_eq_getElem?_getD, this]
    rfl
  · rw [e, filter_range p f]
section
variable {X : Cx}
def rSlAny (K : PySem.W.Frag) : V → Option Int → Option Int → Hp → VK → Prop := fun x lo hi H Q => rSlL K x lo hi H Q ∨ rSlT K x lo hi H Q
end
theorem topFn_mk {K : PySem.W.Frag} {mg : Str → Option Value} {h : Heap} {x : Str} {st : Stmt} {ps : List Str} {f : Addr} {oc : Value} {od an : Option Addr} {osl : Array (Option Value)} {kV doc pm cdv ct : Value} (X : K.In h) (G : h.Ns mainGlobals mg)
    (a : PySem.W.nsIn K mainGlobals x = some (some (.ref f))) (l : K.lookup f = some ⟨oc, od, .func (PySem.W.fnOf x x (defArgs st) (defBody st) (defScope st) .none kV doc pm an cdv ct), osl⟩) (c : PySem.W.codeIn K cdv x = true) (k : PySem.W.keepIn K (.ref f) = true)
    (hb : ∀ (kV doc pm : Value) (an : Option Addr) (cdv ct : Value) (us : List Value), us.length = ps.length → bindArgs (PySem.W.fnOf x x (defArgs st) (defBody st) (defScope st) .none kV doc pm an cdv ct) ⟨us, []⟩ = pure (ps.zip us)) : TopFn K mg x st ps :=
  ⟨f, _, fun_mk l c k, (fun_mk l c k).binds hb, PySem.W.mg_of X G a⟩
theorem has_at {P : Program} {w : World} {K : PySem.W.Frag} {mg : Str → Option Value} {base : Heap} {k : Nat} {x : Str} {ps : List Str} {sp : Sp} {f : Addr} {oc : Value} {od : Option Addr} {osl : Array (Option Value)} {fd : FuncData} (D : Has P w K mg base k x ps sp) (m : mg x = some (.ref f))
    (l : K.lookup f = some ⟨oc, od, .func fd, osl⟩) : FnOk P w K mg base CX0 k f fd ps sp := by
  obtain ⟨g, gd, F, b, kp, mg', _, _, _, l'⟩ := id D
  rw [m] at mg'
  cases mg'
  rw [l] at l'
  cases l'
  exact F
end L2

set_option Elab.async false
set_option linter.all false
set_option maxRecDepth 100000
namespace L2
open PySem PySem.Spec PyProof.Rows
def maxL : List Int → Option Int
  | [] => none
  | x :: r => some (r.foldl (fun m y => if y > m then y else m) x)
def bestTo (ns : List Int) (j : Nat) : Int := (ns.take (j + 1)).tail.foldl (fun m y => if y > m then y else m) (ns.headD 0)
section
variable {prog : Program} {w : World} {A : Around} {R : Result → Shared → Prop} {I l : Addr} {its : Array Value} {ns : List Int} {St : Nat → Heap → Prop} {fp wr : List Addr} {d : Value}
end
def CallRK (X : Cx) (f : Value) (ks : List Str) (r : List V → List V → Hp → VK → Prop) : Prop :=
  ∀ (pins : List (Addr × Obj)) (s : Shared) (σ : St) (H : Hp) (xs zs : List V) (us ws : List Value) (Q : VK), Inv X pins σ H s → Vals xs us → Vals zs ws → r xs zs H Q → wpAny (model X.prog X.w) X.A (call f us (ks.zip ws)) (EP X pins σ Q) X.xe s
section
variable {X : Cx}
end
end L2

set_option Elab.async false
set_option linter.all false
set_option maxRecDepth 100000
namespace L2
open PySem PySem.Spec PyProof.Rows
section
variable {X : Cx}
def fSl (K : PySem.W.Frag) : V → Option Int → Option Int → Hp → VK → Prop := fun x lo hi H Q => match x with
  | .str z => z.length ≤ sizeLine ∧ Q (.str (Txt.slice z lo hi)) H
  | x => rSlL K x lo hi H Q ∨ rSlT K x lo hi H Q
theorem c_min (hc : X.calm = true := by rfl) : CallR X (.builtin "min") (fun xs H Q => ∃ i j, xs = [.int i, .int j] ∧ Q (.int (if j < i then j else i)) H) := call_min2 hc
theorem pe_gint {x : Str} {z : Int} {pos : Pos} (h : ∃ t, X.mg x = some (.int z t)) (hg : Gl X x := by rfl) (hd : (x == ("__debug__" : Str)) = false := by decide) : PE X (.Name x pos) (tC (.int z)) := by
  obtain ⟨t, e⟩ := h
  exact pe_glob hg e ⟨t, rfl⟩ hd
end
def inS (sg : Str) (c : Nat) : Bool := !(Builtin.Str.occurrences sg ⟨#[c]⟩ 0 sg.length 1).isEmpty
abbrev LET : Str := "abcdefghijklmnopqrstuvwxyz"
abbrev FIG : Str := "0123456789"
end L2

set_option Elab.async false
set_option linter.all false
set_option maxRecDepth 100000
namespace L2
open PySem PySem.Spec PyProof.Rows
def Itr3 (lo c : Int) (n : Nat) : It := ⟨fun i _ => i < n, fun i H x H' => H' = H ∧ x = .int (lo + i * c), fun i _ => n ≤ i⟩
def rangeN (lo hi c : Int) : Nat := (Builtin.Range.rangeSize lo hi c).toNat
def iRng3 (ta : TA) : TI := fun σ H R => ta σ H fun vs H1 => ∃ i j c : Int, vs = [.int i, .int j, .int c] ∧ Builtin.Range.small i j c = true ∧ 0 < c ∧ c < 1000 ∧ 0 ≤ Builtin.Range.rangeSize i j c ∧ R (Itr3 i c (rangeN i j c)) H1
section
variable {X : Cx} {tg : Expr}
def evens {α : Type} (xs : List α) : List α := (List.range ((xs.length + 1) / 2)).filterMap fun m => xs[m * 2]?
def tEvens (K : PySem.W.Frag) (te : TE) : TE := fun σ H Q => te σ H fun x H1 => ∃ a xs, x = .ref a ∧ SqT K H1 a xs ∧ ∀ p, H1 p = none → Q (.ref p) (upd H1 p (.tup (evens xs)))
theorem pe_gtup {x : Str} {pos : Pos} {a : Addr} (h : X.mg x = some (.ref a)) (hg : Gl X x := by rfl) (hd : (x == ("__debug__" : Str)) = false := by decide) : PE X (.Name x pos) (tC (.ref a)) := pe_glob hg h rfl hd
end
end L2

set_option Elab.async false
set_option linter.all false
set_option maxRecDepth 100000
namespace L2
open PySem PySem.Spec PyProof.Rows
end L2

set_option Elab.async false
set_option linter.all false
set_option maxRecDepth 100000
namespace L2
open PySem PySem.Spec PyProof.Rows
theorem comp_rel {J : It} {n : Nat} {x : Nat → V} {fr : List Nat} {te : CB → TE} {Q : VK} {σ : St} {H1 : Hp} (R : Nat → V → Hp → Prop) (hn : n < sizeLine)
    (stop : ∀ H, Same H1 H → J.stop n H) (go : ∀ i H, i < n → Same H1 H → J.go i H) (yld : ∀ i H v H', i < n → Same H1 H → J.yld i H v H' → H' = H ∧ v = x i)
    (he : ∀ b i H (G : VK), i < n → Same H1 H → (∀ y H', Same H H' → R i y H' → G y H') → te b (some (x i) :: cFr fr σ) H G)
    (mono : ∀ i y H H', Same H H' → R i y H → R i y H') (st : ∀ i y H D ys zs, H D = some (.lst ys) → R i y H → R i y (upd H D (.lst zs)))
    (fin : ∀ D H ys, H1 D = none → Same H1 H → H D = some (.lst ys) → ys.length = n → (∀ (i : Nat) y, ys[i]? = some y → R i y H) → Q (.ref D) H) : tBlock J 1 fr (fun _ => gName 0) (fun _ => tYes) te Q σ H1 := by
  refine ⟨fun b D hD => ?_⟩
  refine ⟨fun i m σ' H' => m = n - i ∧ i ≤ n ∧ (∃ v0, σ' = v0 :: cFr fr σ) ∧ Same H1 H' ∧ ∃ ys, H' D = some (.lst ys) ∧ ys.length = i ∧ ∀ (j : Nat) y, ys[j]? = some y → R j y H', ⟨n, rfl, Nat.zero_le _, ⟨none, rfl⟩, Same.upd hD _, [], upd_same, rfl, fun j y h => by cases h⟩, ?_⟩
  rintro i m σ' H' ⟨rfl, hi, ⟨v0, rfl⟩, sm, ys, hl, hy, hR⟩
  by_cases hlt : i < n
  · refine .inr ⟨go i H' hlt sm, fun σ2 H2 => (∃ v0, σ2 = v0 :: cFr fr σ) ∧ Same H1 H2 ∧ ∃ ys, H2 D = some (.lst ys) ∧ ys.length = i + 1 ∧ ∀ (j : Nat) y, ys[j]? = some y → R j y H2, fun σ2 H2 q => ⟨n - (i + 1), by omega, rfl, hlt, q⟩, fun v H2 y => ?_⟩
    obtain ⟨rfl, rfl⟩ := yld i H' v H2 hlt sm y
    refine he b i _ _ hlt sm fun z H4 s4 rz => ⟨ys, s4 _ _ hl, by omega, ⟨_, rfl⟩, ?_, ys ++ [z], upd_same, by simp [hy], fun j y' hj => ?_⟩
    · intro c o q
      by_cases hc : c = D
      · rw [hc, hD] at q; cases q
      · rw [upd_ne hc]; exact (sm.trans s4) c o q
    · have hD4 := s4 _ _ hl
      by_cases hji : j < ys.length
      · rw [List.getElem?_append_left hji] at hj
        exact st _ _ _ _ _ _ hD4 (mono _ _ _ _ s4 (hR j y' hj))
      · by_cases e : j = ys.length
        · subst e
          rw [List.getElem?_append_right (Nat.le_refl _)] at hj
          simp at hj
          subst hj
          rw [hy]
          exact st _ _ _ _ _ _ hD4 rz
        · rw [List.getElem?_eq_none (by simp; omega)] at hj
          cases hj
  · have e : i = n := by omega
    subst e
    exact .inl ⟨stop H' sm, fin D H' ys hD sm hl hy hR⟩
end L2

set_option Elab.async false
set_option linter.all false
set_option maxRecDepth 100000
namespace L2
open PySem PySem.Spec PyProof.Rows
section
variable {P : Program} {w : World} {K : PySem.W.Frag} {mg : Str → Option Value} {base : Heap}
structure MFn (K : PySem.W.Frag) (C : Addr) (m qual : Str) (st : Stmt) (ps : List Str) : Prop where
  ex : ∃ f fd, Fun K m qual st f fd ∧ Binds K fd ps [] ∧ Meth K C m f
def HasM (P : Program) (w : World) (K : PySem.W.Frag) (mg : Str → Option Value) (base : Heap) (k : Nat) (C : Addr) (m : Str) (ps : List Str) (sp : Sp) : Prop :=
  ∃ f fd, FnOk P w K mg base CX0 k f fd ps sp ∧ Binds K fd ps [] ∧ Meth K C m f
theorem MFn.has {C : Addr} {m qual : Str} {st : Stmt} {N ps : List Str} {k : Nat} {sp : Sp} (F : MFn K C m qual st ps) (S : FnScope N ps (defScope st)) (len : ∀ vs H Q E, sp vs H Q E → vs.length = ps.length)
    (hbody : ∀ (f : Addr) (cdv : Value) (A : Around) (outer : List Env) (s : Shared) (H : Hp) (vs : List V) (Q : VK) (E : XK), Room k (A.deeper (envOfC qual (defScope st) s.heap.objs.size f cdv)) → (A.deeper (envOfC qual (defScope st) s.heap.objs.size f cdv)).units + 64 < cLine → sp vs H Q E →
      ∃ t, PSs (cxOf CX0 P w K mg base N qual (defScope st) f cdv A outer s H E).nox (defBody st) t ∧ t { nx := fun _ H' => Q .non H', rt := Q } (start N vs) H) : HasM P w K mg base (k + 1) C m ps sp := by
  obtain ⟨f, fd, F, b, m⟩ := F.ex
  exact ⟨f, fd, F.ok S len fun cdv A outer s H vs Q E hr h => hbody f cdv A outer s H vs Q E hr hr.units h, b, m⟩
structure OwnC (K : PySem.W.Frag) (mg : Str → Option Value) (C : Addr) (x : Str) (up : List Addr) : Prop where
  mg : mg x = some (.ref C)
  cl : Cls K C
  mro : ∃ cd, PySem.W.clsIn K C = some cd ∧ cd.mro = up.map Value.ref ++ [Value.type "object"]
  ty : PySem.W.typeIn K (.ref C) = some (.type "type")
  kc : PySem.W.findIn K (.ref C) "__class__" = some (some (.builtin "object.__class__"))
  cg : PySem.W.specialIn K (.builtin "object.__class__") "__get__" = some (some (.builtin "getset_descriptor.__get__"))
  ct : PySem.W.takesIn K (.builtin "object.__class__") = some true
  mks : PySem.W.makesIn K C = true
  kp : PySem.W.keepIn K (.ref C) = true
variable {C D : Addr} {x y : Str} {up vp : List Addr}
theorem OwnC.sub (O : OwnC K mg C x up) (b : Value) : PySem.W.mroIn K C b = some ((up.map Value.ref ++ [Value.type "object"]).contains b) := by
  obtain ⟨cd, h1, h2⟩ := O.mro
  unfold PySem.W.mroIn
  rw [h1]
  show (if cd.mro.isEmpty = true then none else some (cd.mro.contains b)) = _
  rw [h2, if_neg (by cases up <;> simp)]
theorem refs_contains (up : List Addr) (D : Addr) : (up.map Value.ref ++ [Value.type "object"]).contains (Value.ref D) = decide (D ∈ up) := by
  induction up with
  | nil => rfl
  | cons a r ih =>
    show ((Value.ref D == Value.ref a) || (r.map Value.ref ++ [Value.type "object"]).contains (Value.ref D)) = _
    rw [ih]
    by_cases h : D = a
    · subst h; simp
    · have : (Value.ref D == Value.ref a) = false := by
        rw [Bool.eq_false_iff]
        intro z
        exact h (Value.ref.inj (beq_iff_eq.mp z))
      rw [this, Bool.false_or]
      simp [h]
theorem OwnC.kit (O : OwnC K mg C x up) (U : OwnC K mg D y vp) (hs : C ∈ up) : PySem.W.kitOne K (.ref C) (.ref D) = some (decide (D ∈ up)) := by
  unfold PySem.W.kitOne
  split
  · rename_i q
    have : C = D := Value.ref.inj (beq_iff_eq.mp q)
    rw [← this, decide_eq_true hs]
  · obtain ⟨cd, h1, _⟩ := U.mro
    unfold PySem.W.kitCls
    dsimp only
    rw [h1, U.ty]
    rw [if_pos (by rfl)]
    show PySem.W.mroIn K C (.ref D) = _
    rw [O.sub, refs_contains]
theorem OwnC.tyOf (O : OwnC K mg C x up) {H : Hp} {a dx : Addr} {fs : List (Str × V)} (e : H a = some (.ins C dx fs)) : TyOf K H (.ref a) (.ref C) :=
  .ins e O.cl O.kc O.cg O.ct ((O.sub _).trans (by simp))
end
section
variable {X : Cx} {k j : Nat} {C : Addr} {x m : Str} {ps : List Str} {sp : Sp} {o e : Expr} {es : List Expr} {ta : TE} {t : TA} {p apos pos : Pos} {up : List Addr}
theorem pe_makeD (O : OwnC X.K X.mg C x up) (D : HasM X.prog X.w X.K X.mg X.base j C "__init__" ps sp) (hr : Room k X.A) (ha : PA X (e :: es) t) (hj : j + 1 ≤ k := by decide) (hg : Gl X x := by rfl) (hdb : (x == ("__debug__" : Str)) = false := by decide)
    (he : starEach (e :: es) X.env = (false, eval e X.env) :: starEach es X.env := by rfl) (hpl : (backTo pos (starEach es X.env)).any (·.1) = false := by rfl) : PE X (.Call (.Name x p) (e :: es) [] pos) (tMake C sp [] E0 t) := by
  obtain ⟨f, fd, F, b, m⟩ := D
  exact pe_make ⟨O.mks, m.at_, m.fn, O.kp⟩ F (hr.mono hj) hg O.mg b .nil pass0 ha hdb he hpl
theorem pe_makeD0 (O : OwnC X.K X.mg C x up) (D : HasM X.prog X.w X.K X.mg X.base j C "__init__" ps sp) (hr : Room k X.A) (hj : j + 1 ≤ k := by decide) (hg : Gl X x := by rfl) (hdb : (x == ("__debug__" : Str)) = false := by decide) : PE X (.Call (.Name x p) [] [] pos) (tMake C sp [] E0 tNil) := by
  obtain ⟨f, fd, F, b, m⟩ := D
  exact pe_make0 ⟨O.mks, m.at_, m.fn, O.kp⟩ F (hr.mono hj) hg O.mg b .nil pass0 hdb
theorem pe_methD {pl : Sem Bool} (he : PE X o ta) (c : Cls X.K C) (D : HasM X.prog X.w X.K X.mg X.base j C m ps sp) (hr : Room k X.A) (ha : PA X (e :: es) t) (hj : j ≤ k := by decide)
    (hst : starEach (e :: es) X.env = (false, eval e X.env) :: starEach es X.env := by rfl) (hpl : (backTo pos (starEach es X.env)).any (·.1) = false := by rfl)
    (ht : eval (.Call (.Attribute o m apos) (e :: es) [] pos) X.env = (do
      let ov ← eval o X.env
      standAt apos.atName
      let (f, first) ← holding [ov] (getMethod ov m pl)
      callWith pos f first (backTo pos (starEach (e :: es) X.env)) (backToKw pos (keywordEach [] X.env))) := by rfl) :
    PE X (.Call (.Attribute o m apos) (e :: es) [] pos) (tMeth C m sp [] E0 ta t) := by
  obtain ⟨f, fd, F, b, hm⟩ := D
  exact pe_meth (pl := pl) he c hm F (hr.mono hj) b .nil pass0 ha hst hpl ht
def tMethV (M : Addr → Sp → Prop) (m : Str) (ta : TE) (t : TA) : TE := fun σ H Q => ta σ H fun x H1 => ∃ a C dx fs sp, x = .ref a ∧ H1 a = some (.ins C dx fs) ∧ fs.lookup m = none ∧ M C sp ∧ t σ H1 fun vs H2 => sp (x :: vs) H2 Q E0
structure OfC (K : PySem.W.Frag) (C : Addr) (m : Str) : Prop where
  ga : PySem.W.specialIn K (.ref C) "__getattribute__" = some (some (.builtin "type.__getattribute__"))
  rd : PySem.W.readsIn K C (.type "type") = true
  fc : ∃ f, PySem.W.findIn K (.ref C) m = some (some (.ref f)) ∧ PySem.W.findCls K (.ref C) (.type "type") m = some (.val (.ref f))
theorem pe_callOf {pl : Sem Bool} (O : OwnC X.K X.mg C x up) (W : OfC X.K C m) (D : HasM X.prog X.w X.K X.mg X.base j C m ps sp) (hr : Room k X.A) (ha : PA X (e :: es) t) (hj : j ≤ k := by decide) (hg : Gl X x := by rfl) (hdb : (x == ("__debug__" : Str)) = false := by decide)
    (hst : starEach (e :: es) X.env = (false, eval e X.env) :: starEach es X.env := by rfl) (hpl : (backTo pos (starEach es X.env)).any (·.1) = false := by rfl)
    (ht : eval (.Call (.Attribute (.Name x p) m apos) (e :: es) [] pos) X.env = (do
      let ov ← eval (.Name x p) X.env
      standAt apos.atName
      let (f, first) ← holding [ov] (getMethod ov m pl)
      callWith pos f first (backTo pos (starEach (e :: es) X.env)) (backToKw pos (keywordEach [] X.env))) := by rfl) :
    PE X (.Call (.Attribute (.Name x p) m apos) (e :: es) [] pos) (tCall sp [] E0 t) := by
  obtain ⟨f, fd, F, b, hm⟩ := D
  intro pins s σ H Q I h
  refine PySem.W.methodCall_KW (pl := pl) (ld_glob I hg O.mg ?_ hdb) ht
  obtain ⟨f', h1, h2⟩ := W.fc
  have ef : f = f' := by
    have := hm.at_.symm.trans h1
    cases this
    rfl
  subst ef
  refine PySem.W.method_cls I.kIn W.ga (PySem.W.cls_value I.kIn W.rd h2 rfl ?_)
  refine PySem.W.callWith_K (h₀ := X.base) I.ok.mod.kin hm.kp (thn (ha pos pins _ σ H _ (I.tok _) h) fun us s2 ⟨vs, H2, I2, r, q2⟩ => ⟨I2.kIn, ?_⟩) hst hpl
  exact run_fn (us := us) (vs := vs) F (hr.mono hj) b .nil pass0 I2 r q2
end
theorem mFn_mk {K : PySem.W.Frag} {C : Addr} {m qual : Str} {st : Stmt} {ps : List Str} {f : Addr} {oc : Value} {od an : Option Addr} {osl : Array (Option Value)} {kV doc pm cdv ct : Value}
    (a : PySem.W.findIn K (.ref C) m = some (some (.ref f))) (fn : PySem.W.isFn K (.ref f) = true) (l : K.lookup f = some ⟨oc, od, .func (PySem.W.fnOf m qual (defArgs st) (defBody st) (defScope st) .none kV doc pm an cdv ct), osl⟩) (c : PySem.W.codeIn K cdv qual = true) (k : PySem.W.keepIn K (.ref f) = true)
    (hb : ∀ (kV doc pm : Value) (an : Option Addr) (cdv ct : Value) (us : List Value), us.length = ps.length → bindArgs (PySem.W.fnOf m qual (defArgs st) (defBody st) (defScope st) .none kV doc pm an cdv ct) ⟨us, []⟩ = pure (ps.zip us)) : MFn K C m qual st ps :=
  ⟨f, _, fun_mk l c k, (fun_mk l c k).binds hb, ⟨a, fn, k⟩⟩
end L2
namespace L2
open PySem PySem.Spec PyProof.Rows
def But (x : Addr) (H H' : Hp) : Prop := ∀ b, b ≠ x → ∀ o, H b = some o → H' b = some o
theorem But.refl (x : Addr) (H : Hp) : But x H H := fun _ _ _ h => h
theorem But.trans {x : Addr} {H H1 H2 : Hp} (a : But x H H1) (b : But x H1 H2) : But x H H2 := fun c hc o h => b c hc o (a c hc o h)
theorem But.at (x : Addr) (H : Hp) (o : HO) : But x H (upd H x o) := fun b hb u q => by rw [upd_ne hb]; exact q
theorem But.new {x p : Addr} {H : Hp} (h : H p = none) (o : HO) : But x H (upd H p o) := fun b _ u q => by rw [upd_ne (ne_of_none q h)]; exact q
theorem But.of {x : Addr} {H H' : Hp} (s : Same H H') : But x H H' := fun b _ o h => s b o h
theorem But.same {x dx : Addr} {H H' : Hp} {o o' : HO} (b : But x (upd (upd H dx o) x o') H') (hx : H x = none) (hd : H dx = none) : Same H H' := fun a u q => by
  have h1 : a ≠ x := fun z => by rw [z, hx] at q; cases q
  have h2 : a ≠ dx := fun z => by rw [z, hd] at q; cases q
  exact b a h1 u (by rw [upd_ne h1, upd_ne h2]; exact q)
theorem SqL.but {K : PySem.W.Frag} {H H' : Hp} {x t C dx : Addr} {fs : List (Str × V)} {xs : List V} (h : SqL K H t xs) (hx : H x = some (.ins C dx fs)) (b : But x H H') : SqL K H' t xs := by
  rcases h with (h | ⟨o, h⟩) | h
  · exact .inl (.inl (b t (fun z => by rw [z, hx] at h; cases h) _ h))
  · exact .inl (.inr ⟨o, b t (fun z => by rw [z, hx] at h; cases h) _ h⟩)
  · exact .inr h
theorem SqL.new {K : PySem.W.Frag} {H : Hp} {t x dx : Addr} {xs : List V} {o o' : HO} (h : SqL K H t xs) (hx : H x = none) (hd : H dx = none) : SqL K (upd (upd H dx o) x o') t xs :=
  Same.seq (fun a u q => by
    have h1 : a ≠ x := fun z => by rw [z, hx] at q; cases q
    have h2 : a ≠ dx := fun z => by rw [z, hd] at q; cases q
    rw [upd_ne h1, upd_ne h2]; exact q) h
end L2
namespace L2
open PySem
theorem new_none {H : Hp} {x dx p : Addr} {o o' : HO} (hx : H x = none) (hd : H dx = none) (h : upd (upd H dx o) x o' p = none) : H p = none := by
  unfold upd at h
  split at h
  · cases h
  · split at h
    · cases h
    · exact h
end L2
namespace L2
open PySem
theorem But.none {x p : Addr} {H H' : Hp} (b : But x H H') (e : p ≠ x) (h : H' p = Option.none) : H p = Option.none := by
  cases z : H p with
  | none => rfl
  | some o => exact absurd (h.symm.trans (b _ e _ z)) (by intro w; cases w)
end L2

set_option Elab.async false
set_option linter.all false
set_option maxRecDepth 100000
namespace L2
open PySem PySem.Spec PyProof.Rows
section
variable {X : Cx}
def flatR : V → Bool
  | .flt _ => false
  | .byt _ => false
  | _ => true
theorem eqAt_same {x : V} {u v : Value} (hx : flatR x = true) (ru : RelV x u) (rv : RelV x v) (A : Around) (s : Shared) : SeqAt.EqAt A s u v true := by
  cases x with
  | non => cases ru; cases rv; exact .same _
  | bl b => cases ru; cases rv; exact .same _
  | int i =>
    obtain ⟨t, rfl⟩ := ru
    obtain ⟨t', rfl⟩ := rv
    have := SeqAt.EqAt.int_int (A := A) (s := s) i t i t'
    rwa [beq_self_eq_true] at this
  | str y =>
    obtain ⟨t, rfl⟩ := ru
    obtain ⟨t', rfl⟩ := rv
    have := SeqAt.EqAt.str_str (A := A) (s := s) y t y t'
    rwa [beq_self_eq_true] at this
  | byt _ => cases hx
  | flt _ => cases hx
  | ref a => cases ru; cases rv; exact .same _
  | ty n => cases ru; cases rv; exact .same _
theorem o_eqS (hu : X.A.units + 64 < cLine) : OpR X (compareOp .Eq) (fun x y H Q => ∃ p q xs, x = .ref p ∧ y = .ref q ∧ SqL X.K H p xs ∧ SqL X.K H q xs ∧ xs.all flatR = true ∧ Q (.bl true) H) := by
  intro pins s σ H x y v u Q I rx ry h
  obtain ⟨p, q, xs, rfl, rfl, hp, hq, hf, k⟩ := h
  cases rx
  cases ry
  obtain ⟨its, r1, ⟨o, n, e1, c1, _, d1⟩, _⟩ := I.list hp
  obtain ⟨jts, r2, ⟨o2, n2, e2, c2, _, d2⟩, _⟩ := I.list hq
  have l1 := r1.length
  have l2 := r2.length
  refine SeqAt.eq_listAt (e := fun _ => true) ⟨o, e1, c1, n, d1⟩ ⟨o2, e2, c2, n2, d2⟩ (by simp; omega) (by omega) (fun j h1 h2 => ?_) ?_
  · simp at h1 h2
    obtain ⟨x, hx⟩ : ∃ x, xs[j]? = some x := ⟨xs[j]'(by omega), List.getElem?_eq_getElem (by omega)⟩
    obtain ⟨u1, g1, w1⟩ := r1.get hx
    obtain ⟨u2, g2, w2⟩ := r2.get hx
    have z1 : its.toArray[j]'(by simpa using h1) = u1 := by
      have := List.getElem?_eq_getElem h1
      rw [g1] at this
      simpa using (Option.some.inj this).symm
    have z2 : jts.toArray[j]'(by simpa using h2) = u2 := by
      have := List.getElem?_eq_getElem h2
      rw [g2] at this
      simpa using (Option.some.inj this).symm
    rw [z1, z2]
    exact eqAt_same (List.all_eq_true.mp hf x (List.mem_of_getElem? hx)) w1 w2 _ _
  · have : ((List.range its.toArray.size).all fun _ => true) = true := by simp
    rw [this]
    exact ⟨.bl true, H, I, rfl, k⟩
def fEqA (K : PySem.W.Frag) : R2 := fun x y H Q => match x, y with
  | .ref p, .ref q => (∃ d e, RepD K H (.ref p) d ∧ RepD K H (.ref q) e ∧ SeqAt.shaped d = true ∧ SeqAt.shaped e = true ∧ Q (.bl (PyData.eqv d e)) H) ∨ (∃ xs, SqL K H p xs ∧ SqL K H q xs ∧ xs.all flatR = true ∧ Q (.bl true) H)
  | x, y => scal x y = true ∧ Q (.bl (decide (x = y))) H
theorem o_eqA (hu : X.A.units + 64 < cLine) : OpR X (compareOp .Eq) (fEqA X.K) := ((o_eq hu).or (o_eqS hu)).imp fun x y H Q q => by
  by_cases hr : ∃ p q, x = V.ref p ∧ y = V.ref q
  · obtain ⟨p, q', rfl, rfl⟩ := hr
    rcases q with q | ⟨xs, h1, h2, h3, h4⟩
    · exact .inl q
    · exact .inr ⟨p, q', xs, rfl, rfl, h1, h2, h3, h4⟩
  · refine .inl ?_
    cases x <;> cases y <;> first | exact q | exact absurd ⟨_, _, rfl, rfl⟩ hr
theorem c_intB : CallR X (.type "int") (fun xs H Q => ∃ b, xs = [.bl b] ∧ Q (.int (if b = true then 1 else 0)) H) := by
  intro pins s σ H xs us Q I r h
  obtain ⟨b, rfl, q⟩ := h
  obtain ⟨u, rfl, rfl⟩ := vals1 r
  exact PySem.call_int_bool ⟨.int _, H, I.tok _, ⟨_, rfl⟩, q⟩
end
end L2

set_option Elab.async false
set_option linter.all false
set_option maxRecDepth 100000
namespace L2
open PySem PySem.Spec PyProof.Rows
section
variable {κ : Type} [DecidableEq κ]
def valV (kvs : List (κ × V)) (k : κ) : Option V := (kvs.find? fun kv => decide (kv.1 = k)).map (·.2)
def putK (kvs : List (κ × V)) (k : κ) (v : V) : List (κ × V) :=
  if (kvs.any fun kv => decide (kv.1 = k)) = true then kvs.map (fun kv => if kv.1 = k then (kv.1, v) else kv) else kvs ++ [(k, v)]
def dropK (kvs : List (κ × V)) (k : κ) : List (κ × V) := kvs.filter fun kv => decide (kv.1 ≠ k)
theorem valV_pos {p : κ × V} {r : List (κ × V)} {k : κ} (e : p.1 = k) : valV (p :: r) k = some p.2 := by simp [valV, List.find?_cons, e]
theorem valV_neg {p : κ × V} {r : List (κ × V)} {k : κ} (e : ¬ p.1 = k) : valV (p :: r) k = valV r k := by simp [valV, List.find?_cons, e]
theorem valV_any (k : κ) : ∀ kvs : List (κ × V), (kvs.any fun kv => decide (kv.1 = k)) = (valV kvs k).isSome
  | [] => rfl
  | p :: r => by
    rw [List.any_cons]
    by_cases e : p.1 = k
    · simp only [valV_pos e, decide_eq_true e, Bool.true_or, Option.isSome_some]
    · rw [valV_neg e, decide_eq_false e, Bool.false_or]; exact valV_any k r
theorem length_putK (kvs : List (κ × V)) (k : κ) (v : V) : (putK kvs k v).length ≤ kvs.length + 1 := by
  unfold putK
  split
  · rw [List.length_map]; omega
  · rw [List.length_append, List.length_cons, List.length_nil]; omega
theorem RelO.isSome_eq {o : Option V} {u : Option Value} (r : RelO o u) : o.isSome = u.isSome := by
  cases o with
  | none => cases u with
    | none => rfl
    | some _ => exact (show False from r).elim
  | some _ => cases u with
    | none => exact (show False from r).elim
    | some _ => rfl
theorem RelO.getD {o : Option V} {u : Option Value} {d : V} {d' : Value} (r : RelO o u) (rd : RelV d d') : RelV (o.getD d) (u.getD d') := by
  cases o with
  | none => cases u with
    | none => exact rd
    | some _ => exact (show False from r).elim
  | some _ => cases u with
    | none => exact (show False from r).elim
    | some _ => exact r
theorem KV.val {kvs : List (κ × V)} {vs : List (κ × Value)} (r : KV kvs vs) (k : κ) : RelO (valV kvs k) (valueAt vs k) := by
  unfold KV at r
  induction r with
  | nil => exact True.intro
  | @cons p q ps qs h t ih =>
    obtain ⟨h1, h2⟩ := h
    by_cases e : p.1 = k
    · have e' : q.1 = k := h1.symm.trans e
      have b : valueAt (q :: qs) k = some q.2 := by simp [valueAt, List.find?_cons, e']
      rw [valV_pos e, b]; exact h2
    · have e' : ¬ q.1 = k := fun z => e (h1.trans z)
      have b : valueAt (q :: qs) k = valueAt qs k := by simp [valueAt, List.find?_cons, e']
      rw [valV_neg e, b]; exact ih
theorem KV.any {kvs : List (κ × V)} {vs : List (κ × Value)} (r : KV kvs vs) (k : κ) : (kvs.any fun kv => decide (kv.1 = k)) = vs.any fun kv => decide (kv.1 = k) := by
  unfold KV at r
  induction r with
  | nil => rfl
  | cons h t ih => rw [List.any_cons, List.any_cons, ih, h.1]
theorem KV.repl {kvs : List (κ × V)} {vs : List (κ × Value)} (r : KV kvs vs) (k : κ) {y : V} {u : Value} (ry : RelV y u) :
    KV (kvs.map fun kv => if kv.1 = k then (kv.1, y) else kv) (vs.map fun kv => if kv.1 = k then (kv.1, u) else kv) := by
  unfold KV at r ⊢
  induction r with
  | nil => exact .nil
  | @cons p q ps qs h t ih =>
    rw [List.map_cons, List.map_cons]
    refine .cons ?_ ih
    obtain ⟨h1, h2⟩ := h
    by_cases e : p.1 = k
    · rw [if_pos e, if_pos (h1.symm.trans e)]; exact ⟨h1, ry⟩
    · rw [if_neg e, if_neg (fun z => e (h1.trans z))]; exact ⟨h1, h2⟩
theorem KV.put {kvs : List (κ × V)} {vs : List (κ × Value)} (r : KV kvs vs) (k : κ) {y : V} {u : Value} (ry : RelV y u) : KV (putK kvs k y) (stored vs k u) := by
  unfold putK stored
  rw [r.any k]
  by_cases e : (vs.any fun kv => decide (kv.1 = k)) = true
  · rw [if_pos e, if_pos e]; exact r.repl k ry
  · rw [if_neg e, if_neg e]; exact Paired.snoc r ⟨rfl, ry⟩
theorem KV.keys {kvs : List (κ × V)} {vs : List (κ × Value)} (r : KV kvs vs) : kvs.map (·.1) = vs.map (·.1) := by
  unfold KV at r
  induction r with
  | nil => rfl
  | cons h t ih => rw [List.map_cons, List.map_cons, ih, h.1]
theorem KV.length {kvs : List (κ × V)} {vs : List (κ × Value)} (r : KV kvs vs) : kvs.length = vs.length := Paired.length r
end
theorem kV_is {P : Program} {w : World} {k : Key} {u : Value} (r : RelV (kV k) u) : (mixKind P w).is k u = true := by
  cases k with
  | inl i => obtain ⟨t, e⟩ := (show ∃ t, u = Value.int i t from r); subst e; exact mixKind_int P w i t
  | inr x => obtain ⟨t, e⟩ := (show ∃ t, u = Value.str x t from r); subst e; exact mixKind_str P w x t
theorem items_are {P : Program} {w : World} : ∀ {ks : List Key} {us : List Value}, Vals (ks.map kV) us → ItemsAre (mixKind P w) ks us
  | [], _, r => by rw [List.map_nil] at r; cases r; exact .nil
  | k :: ks, _, r => by
    rw [List.map_cons] at r
    cases r with
    | cons h t => exact .cons (kV_is h) (items_are t)
abbrev KT (H : Hp) : List (List Key × V) → List (List Key × Addr × Value) → Prop := Paired fun p q => p.1 = q.1 ∧ H q.2.1 = some (.tup (p.1.map kV)) ∧ RelV p.2 q.2.2
theorem KT.val {H : Hp} {kvs : List (List Key × V)} {xs : List (List Key × Addr × Value)} (r : KT H kvs xs) (k : List Key) : RelO (valV kvs k) ((atKey xs k).map (·.2)) := by
  induction r with
  | nil => exact True.intro
  | @cons p q ps qs h t ih =>
    obtain ⟨h1, _, h2⟩ := h
    by_cases e : p.1 = k
    · have e' : q.1 = k := h1.symm.trans e
      have b : atKey (q :: qs) k = some q.2 := by simp [atKey, List.find?_cons, e']
      rw [valV_pos e, b]; exact h2
    · have e' : ¬ q.1 = k := fun z => e (h1.trans z)
      have b : atKey (q :: qs) k = atKey qs k := by simp [atKey, List.find?_cons, e']
      rw [valV_neg e, b]; exact ih
theorem KT.repl {H : Hp} {kvs : List (List Key × V)} {xs : List (List Key × Addr × Value)} (r : KT H kvs xs) (k : List Key) {y : V} {u : Value} (ry : RelV y u) :
    KT H (kvs.map fun kv => if kv.1 = k then (kv.1, y) else kv) (xs.map (putAt k u)) := by
  induction r with
  | nil => exact .nil
  | @cons p q ps qs h t ih =>
    rw [List.map_cons, List.map_cons]
    refine .cons ?_ ih
    obtain ⟨h1, h2, h3⟩ := h
    unfold putAt
    by_cases e : p.1 = k
    · rw [if_pos e, if_pos (h1.symm.trans e)]; exact ⟨h1, h2, ry⟩
    · rw [if_neg e, if_neg (fun z => e (h1.trans z))]; exact ⟨h1, h2, h3⟩
theorem KT.put {H : Hp} {kvs : List (List Key × V)} {xs : List (List Key × Addr × Value)} (r : KT H kvs xs) (k : List Key) {b : Addr} {y : V} {u : Value} (hb : H b = some (.tup (k.map kV))) (ry : RelV y u) :
    KT H (putK kvs k y) (storedH xs k b u) := by
  have e : (kvs.any fun kv => decide (kv.1 = k)) = (atKey xs k).isSome := by
    rw [valV_any, (r.val k).isSome_eq, Option.isSome_map]
  unfold putK storedH
  rw [e]
  by_cases q : (atKey xs k).isSome = true
  · rw [if_pos q, if_pos q]; exact r.repl k ry
  · rw [if_neg q, if_neg q]; exact Paired.snoc r ⟨rfl, hb, ry⟩
theorem KT.keeps {H H' : Hp} {kvs : List (List Key × V)} {xs : List (List Key × Addr × Value)} (r : KT H kvs xs) (ht : ∀ b ys, H b = some (.tup ys) → H' b = some (.tup ys)) : KT H' kvs xs :=
  Paired.mapP r fun _ _ z => ⟨z.1, ht _ _ z.2.1, z.2.2⟩
section
variable {P : Program} {w : World} {H : Hp} {h : Heap} {a : Addr}
theorem rd_of {u : HO} (ok : HOk P w H h) (e : Rd H a u) : ObjOk P w H h a u := e.ok ok
theorem dk_rd {kvs : List (Key × V)} (ok : HOk P w H h) (e : Rd H a (.dK kvs)) : kvs.length ≤ sizeLine ∧ (a == sysModules) = false ∧ ∃ vs, KV kvs vs ∧ h.DictOf (mixKind P w) a vs :=
  show ObjOk P w H h a (.dK kvs) from rd_of ok e
theorem dk_of {kvs : List (Key × V)} (ok : HOk P w H h) (e : H a = some (.dK kvs)) : kvs.length ≤ sizeLine ∧ (a == sysModules) = false ∧ ∃ vs, KV kvs vs ∧ h.DictOf (mixKind P w) a vs := dk_rd ok (.inl e)
theorem key_of {ks : List Key} (ok : HOk P w H h) (e : H a = some (.tup (ks.map kV))) : (tupleKind (mixKind P w)).is h ks a := by
  obtain ⟨_, its, r, o, h1, h2, n, h3⟩ := (show ObjOk P w H h a (.tup (ks.map kV)) from ok a _ e)
  exact ⟨o, its.toArray, n, h1, h2, h3, by simpa using items_are r⟩
theorem dt_rd {kvs : List (List Key × V)} (ok : HOk P w H h) (e : Rd H a (.dT kvs)) : kvs.length ≤ sizeLine ∧ (a == sysModules) = false ∧
    ∃ xs, KT H kvs xs ∧ h.DictOfH (tupleKind (mixKind P w)) a xs := by
  obtain ⟨z, y, xs, r, o, es, ep, h1, h2, h3, h4, h5⟩ := (show ObjOk P w H h a (.dT kvs) from rd_of ok e)
  refine ⟨z, y, xs, r, o, es, ep, h1, h2, h3, h4, fun x hx => ?_, h5⟩
  have all : ∀ {l : List (List Key × V)} {m : List (List Key × Addr × Value)}, KT H l m → ∀ x ∈ m, (tupleKind (mixKind P w)).is h x.1 x.2.1 := by
    intro l m q
    induction q with
    | nil => intro x hx; exact nomatch hx
    | @cons p q ps qs hq t ih =>
      intro x hx
      rcases List.mem_cons.mp hx with e | hx
      · subst e
        exact key_of ok (by rw [← hq.1]; exact hq.2.1)
      · exact ih x hx
  exact all r x hx
theorem dt_of {kvs : List (List Key × V)} (ok : HOk P w H h) (e : H a = some (.dT kvs)) : kvs.length ≤ sizeLine ∧ (a == sysModules) = false ∧
    ∃ xs, KT H kvs xs ∧ h.DictOfH (tupleKind (mixKind P w)) a xs := dt_rd ok (.inl e)
end
def DGet (H : Hp) (a : Addr) (y : V) (r : Option V) : Prop :=
  (∃ kvs k, Rd H a (.dK kvs) ∧ y = kV k ∧ r = valV kvs k) ∨ ∃ kvs k b, Rd H a (.dT kvs) ∧ y = .ref b ∧ H b = some (.tup (k.map kV)) ∧ r = valV kvs k
def DPut (H : Hp) (a : Addr) (y v : V) (H' : Hp) : Prop :=
  (∃ kvs k, H a = some (.dK kvs) ∧ y = kV k ∧ kvs.length < sizeLine ∧ H' = upd H a (.dK (putK kvs k v))) ∨
  ∃ kvs k b, H a = some (.dT kvs) ∧ y = .ref b ∧ H b = some (.tup (k.map kV)) ∧ kvs.length < sizeLine ∧ H' = upd H a (.dT (putK kvs k v))
theorem DGet.k {H : Hp} {a : Addr} {kvs : List (Key × V)} {k : Key} (e : H a = some (.dK kvs)) : DGet H a (kV k) (valV kvs k) := .inl ⟨kvs, k, .inl e, rfl, rfl⟩
theorem DPut.k {H : Hp} {a : Addr} {kvs : List (Key × V)} {k : Key} {v : V} (e : H a = some (.dK kvs)) (hl : kvs.length < sizeLine) : DPut H a (kV k) v (upd H a (.dK (putK kvs k v))) := .inl ⟨kvs, k, e, rfl, hl, rfl⟩
section
variable {X : Cx} {pins : List (Addr × Obj)} {σ : St} {H : Hp} {s : Shared} {a : Addr} {y v : V} {u r : Value} {o : Option V} {A : Around} {E : Value → Shared → Prop}
theorem Inv.big (I : Inv X pins σ H s) : sysModules < s.heap.objs.size := by
  have h : mainGlobals < s.heap.objs.size := (I.mod.glob.keeps I.bk).lt
  exact Nat.lt_trans (by decide) h
theorem d_getItem {Q : Value → Shared → Prop} (hu : A.units + 1 < cLine) (I : Inv X pins σ H s) (g : DGet H a y (some v)) (ry : RelV y u) (h : ∀ w' s', Inv X pins σ H s' → RelV v w' → Q w' s') :
    wpAny (model X.prog X.w) A (getItem (.ref a) u) Q E s := by
  rcases g with ⟨kvs, k, e, ey, l⟩ | ⟨kvs, k, b, e, ey, eb, l⟩
  · subst ey
    obtain ⟨z, hd, vs, rel, dd⟩ := dk_rd I.hok e
    obtain ⟨w', hw, rw'⟩ := RelO.some_of (v := v) (o := valueAt vs k) (by rw [l]; exact rel.val k)
    exact wpAny_getItem_of (kV_is ry) dd.mapOf hw (h w' _ (I.tok _) rw')
  · subst ey
    cases (show u = Value.ref b from ry)
    obtain ⟨z, hd, xs, rel, dd⟩ := dt_rd I.hok e
    obtain ⟨w', hw, rw'⟩ := RelO.some_of (v := v) (o := (atKey xs k).map (·.2)) (by rw [l]; exact rel.val k)
    obtain ⟨p, hp, hp2⟩ := Option.map_eq_some_iff.mp hw
    refine wpAny_getItem_heap (tupleKind_room_in1 hu) (key_of I.hok eb) dd hp ?_
    rw [hp2]
    exact h w' _ (I.tok _) rw'
theorem d_write {h' : Heap} {t' : Nat} {ob : HO} (I : Inv X pins σ H s) (mu : Mut (H a)) (hs : Heap.SameBut a s.heap h') (he : ∃ q, h'.get? a = some q) (new : ObjOk X.prog X.w (upd H a ob) h' a ob) :
    Inv X pins σ (upd H a ob) { s with heap := h', toks := t' } :=
  I.write (x := a) (e := a) mu (.inl rfl) (fun b q hb z => (hs.2 b hb).trans z) he new
theorem dk_new {P : Program} {w : World} {H' : Hp} {h' : Heap} {kvs : List (Key × V)} {vs : List (Key × Value)} (z : kvs.length ≤ sizeLine) (hd : (a == sysModules) = false) (rel : KV kvs vs) (dd : h'.DictOf (mixKind P w) a vs) :
    ObjOk P w H' h' a (.dK kvs) := ⟨z, hd, vs, rel, dd⟩
theorem d_setItem {H' : Hp} {Q : Unit → Shared → Prop} (hu : A.units + 1 < cLine) (I : Inv X pins σ H s) (g : DPut H a y v H') (ry : RelV y u) (rv : RelV v r) (h : ∀ s', Inv X pins σ H' s' → Q () s') :
    wpAny (model X.prog X.w) A (setItem (.ref a) u r) Q E s := by
  rcases g with ⟨kvs, k, e, ey, l, eH⟩ | ⟨kvs, k, b, e, ey, eb, l, eH⟩
  · subst ey eH
    obtain ⟨z, hd, vs, rel, dd⟩ := dk_of I.hok e
    have hz : vs.length ≤ sizeLine := by rw [← rel.length]; exact z
    have hl : (putK kvs k v).length ≤ sizeLine := by have := length_putK kvs k v; omega
    refine wpAny_setItem_pairs (hsz := hz) (kV_is ry) dd fun h' dd' hs => h _ ?_
    have he : ∃ q, h'.get? a = some q := let ⟨q, _, _, hq, _⟩ := dd'; ⟨q, hq⟩
    exact d_write I (by rw [e]; exact True.intro) hs he (dk_new hl hd (rel.put k rv) dd')
  · subst ey eH
    cases (show u = Value.ref b from ry)
    obtain ⟨z, hd, xs, rel, dd⟩ := dt_of I.hok e
    have hz : xs.length ≤ sizeLine := by rw [← Paired.length rel]; exact z
    have hl : (putK kvs k v).length ≤ sizeLine := by have := length_putK kvs k v; omega
    refine wpAny_setItem_heap (hsz := hz) (tupleKind_room_in1 hu) (key_of I.hok eb) dd fun h' dd' hs => h _ ?_
    obtain ⟨q, es, ep, hq, h2, h3, h4, _, h5⟩ := dd'
    refine d_write I (by rw [e]; exact True.intro) hs ⟨q, hq⟩ ⟨hl, hd, _, (rel.put k eb rv).keeps fun c ys ec => ?_, q, es, ep, hq, h2, h3, h4, h5⟩
    rw [upd_ne (ne_of ec e (fun z => nomatch z))]
    exact ec
end
section
variable {X : Cx} {pins : List (Addr × Obj)} {σ : St} {H : Hp} {s : Shared} {a : Addr} {kvs : List (Key × V)} {k : Key} {u : Value} {A : Around} {E : Value → Shared → Prop}
theorem d_len {Q : Value → Shared → Prop} (I : Inv X pins σ H s) (e : Rd H a (.dK kvs)) (h : ∀ t s', Inv X pins σ H s' → Q (.int kvs.length t) s') : wpAny (model X.prog X.w) A (call (.builtin "len") [.ref a]) Q E s := by
  obtain ⟨z, hd, vs, rel, dd⟩ := dk_rd I.hok e
  refine call_len_dict hd dd (by rw [← rel.length]; rw [sizeLine_eq] at z; omega) ?_
  rw [← rel.length]
  exact h _ _ (I.tok _)
end
def NoSl (i : Expr) : Prop := ∀ ov iv, subscripted i false ov iv = operate [ov, iv] (getItem ov iv)
theorem dict_typeIs {X : Cx} {pins : List (Addr × Obj)} {σ : St} {H : Hp} {s : Shared} {a : Addr} {y : V} {o : Option V} (I : Inv X pins σ H s) (g : DGet H a y o) : s.TypeIs (.ref a) "dict" := by
  rcases g with ⟨kvs, k, e, _, _⟩ | ⟨kvs, k, b, e, _, _, _⟩
  · obtain ⟨_, _, vs, _, dd⟩ := dk_rd I.hok e
    exact dd.typeIs
  · obtain ⟨_, _, xs, _, dd⟩ := dt_rd I.hok e
    exact dd.typeIs
def tDGet (td ty : TE) : TE := fun σ H Q => td σ H fun x H1 => ty σ H1 fun y H2 => ∃ a v, x = .ref a ∧ DGet H2 a y (some v) ∧ Q v H2
def tDIn (ty td : TE) : TE := fun σ H Q => ty σ H fun y H1 => td σ H1 fun x H2 => ∃ a o, x = .ref a ∧ DGet H2 a y o ∧ Q (.bl o.isSome) H2
def tDNotIn (ty td : TE) : TE := fun σ H Q => ty σ H fun y H1 => td σ H1 fun x H2 => ∃ a o, x = .ref a ∧ DGet H2 a y o ∧ Q (.bl (!o.isSome)) H2
def sDPut (td ty tv : TE) : TS := fun D σ H => tv σ H fun v H1 => td σ H1 fun x H2 => ty σ H2 fun y H3 => ∃ a H4, x = .ref a ∧ DPut H3 a y v H4 ∧ D.nx σ H4
def sDAug (td ty tv : TE) (rd : V → V → Hp → VK → Prop) : TS := fun D σ H => td σ H fun x H1 => ty σ H1 fun y H2 => ∃ a v, x = .ref a ∧ DGet H2 a y (some v) ∧
  tv σ H2 fun y2 H3 => rd v y2 H3 fun z H4 => ∃ H5, DPut H4 a y z H5 ∧ D.nx σ H5
def sDDel (td ty : TE) : TS := fun D σ H => td σ H fun x H1 => ty σ H1 fun y H2 => ∃ a kvs k, x = .ref a ∧ H2 a = some (.dK kvs) ∧ y = kV k ∧ (valV kvs k).isSome = true ∧ D.nx σ (upd H2 a (.dK (dropK kvs k)))
section
variable {X : Cx} {o i e value : Expr} {pos pos' tpos : Pos} {td ty tv : TE}
end
theorem dk_empty {P : Program} {w : World} {H : Hp} (h : Heap) (hb : sysModules < h.objs.size) : ObjOk P w H (h.push { cls := .type "dict", data := .dict #[] }) h.objs.size (.dK []) :=
  ⟨Nat.zero_le _, beq_eq_false_iff_ne.mpr (Ne.symm (Nat.ne_of_lt hb)), [], .nil, Heap.DictOf.new h⟩
def tDNewK : TE := fun _ H Q => ∀ p, H p = none → Q (.ref p) (upd H p (.dK []))
def tDNewT : TE := fun _ H Q => ∀ p, H p = none → Q (.ref p) (upd H p (.dT []))
section
variable {X : Cx} {pos : Pos}
theorem pe_dnewK : PE X (.Dict [] [] pos) tDNewK := fun pins s σ H Q I h =>
  wpAny_Dict_empty ⟨.ref s.heap.objs.size, _, I.laid (a := s.heap.objs.size) (o := .dK []) (t' := s.toks) (fun _ _ q => Heap.get?_push_of_some _ q) (Nat.le_refl _) (dk_empty s.heap I.big), rfl, h _ (I.hok.fresh (Nat.le_refl _))⟩
end
def tPairs : List (TE × TE) → St → Hp → (List (V × V) → Hp → Prop) → Prop
  | [], _, H, Q => Q [] H
  | (tk, tv) :: r, σ, H, Q => tk σ H fun x H1 => tv σ H1 fun y H2 => tPairs r σ H2 fun ps H3 => Q ((x, y) :: ps) H3
abbrev VV : List (V × V) → List (Value × Value) → Prop := Paired fun p q => RelV p.1 q.1 ∧ RelV p.2 q.2
def PPs (X : Cx) (pos : Pos) (keys : List (Option Expr)) (values : List Expr) (trs : List (TE × TE)) : Prop :=
  ∀ (pins : List (Addr × Obj)) (s : Shared) (σ : St) (H : Hp) (Q : List (V × V) → Hp → Prop), Inv X pins σ H s → tPairs trs σ H Q →
    wpAny (model X.prog X.w) X.A (evalPairs (pairTrees keys values X.env pos)) (fun vs s' => ∃ ps H', Inv X pins σ H' s' ∧ VV ps vs ∧ Q ps H') X.xe s
theorem pps_nil {X : Cx} {pos : Pos} : PPs X pos [] [] [] := fun pins s σ H Q I h => pairTrees_nil_walk ⟨[], H, I, .nil, h⟩
theorem pps_cons {X : Cx} {pos : Pos} {k v : Expr} {ks : List (Option Expr)} {vs : List Expr} {tk tv : TE} {trs : List (TE × TE)} (hk : PE X k tk) (hv : PE X v tv) (hr : PPs X pos ks vs trs) :
    PPs X pos (some k :: ks) (v :: vs) ((tk, tv) :: trs) := fun pins s σ H Q I h =>
  pairTrees_cons_walk (thn (hk pins s σ H _ I h) fun u s1 ⟨x, H1, I1, rx, q1⟩ => thn (hv pins s1 σ H1 _ I1 q1) fun w2 s2 ⟨y, H2, I2, ry, q2⟩ =>
    thn (hr pins s2 σ H2 _ I2 q2) fun ws s3 ⟨ps, H3, I3, rel, q3⟩ => ⟨(x, y) :: ps, H3, I3, .cons ⟨rx, ry⟩ rel, q3⟩)
def mergeK (kvs more : List (Key × V)) : List (Key × V) := more.foldl (fun acc kv => putK acc kv.1 kv.2) kvs
theorem KV.merge : ∀ {more : List (Key × V)} {rs : List (Key × Value)} {kvs : List (Key × V)} {vs : List (Key × Value)}, KV more rs → KV kvs vs → KV (mergeK kvs more) (merged vs rs) := by
  intro more rs kvs vs r
  unfold KV at r
  induction r generalizing kvs vs with
  | nil => intro q; exact q
  | @cons p q ps qs h t ih =>
    intro r0
    have e : KV (putK kvs p.1 p.2) (stored vs q.1 q.2) := by
      have := r0.put p.1 h.2
      rw [← h.1]; exact this
    exact ih e
theorem length_mergeK : ∀ (more kvs : List (Key × V)), (mergeK kvs more).length ≤ kvs.length + more.length
  | [], kvs => by show kvs.length ≤ kvs.length + 0; omega
  | p :: r, kvs => by
    have h1 := length_mergeK r (putK kvs p.1 p.2)
    have h2 := length_putK kvs p.1 p.2
    show (mergeK (putK kvs p.1 p.2) r).length ≤ _
    rw [List.length_cons]; omega
theorem carries_of {P : Program} {w : World} : ∀ {kvs : List (Key × V)} {ws : List (Value × Value)}, VV (kvs.map fun kv => (kV kv.1, kv.2)) ws → ∃ rs, Carries (mixKind P w) ws rs ∧ KV kvs rs
  | [], _, r => by rw [List.map_nil] at r; cases r; exact ⟨[], True.intro, .nil⟩
  | p :: kvs, _, r => by
    rw [List.map_cons] at r
    cases r with
    | @cons a b as bs h t =>
      obtain ⟨rs, c, q⟩ := carries_of (P := P) (w := w) t
      obtain ⟨b1, b2⟩ := b
      exact ⟨(p.1, b2) :: rs, ⟨kV_is h.1, rfl, c⟩, .cons ⟨rfl, h.2⟩ q⟩
def tDisp (trs : List (TE × TE)) : TE := fun σ H Q => ∀ p, H p = none → tPairs trs σ (upd H p (.dK [])) fun ps H2 => H2 p = some (.dK []) ∧ ∃ kvs : List (Key × V), ps = kvs.map (fun kv => (kV kv.1, kv.2)) ∧ kvs.length ≤ 15 ∧ Q (.ref p) (upd H2 p (.dK (mergeK [] kvs)))
theorem pe_disp {X : Cx} {pos : Pos} {keys : List (Option Expr)} {values : List Expr} {trs : List (TE × TE)} (h : PPs X pos keys values trs) (hall : keys.all (·.isSome) = true) (hl : keys.length = values.length) (h0 : keys ≠ [])
    (h15 : keys.length ≤ 15) : PE X (.Dict keys values pos) (tDisp trs) := by
  intro pins s σ H Q I q
  have hn := I.hok.fresh (Nat.le_refl s.heap.objs.size)
  have I1 := I.laid (a := s.heap.objs.size) (o := .dK []) (h' := s.heap.push { cls := .type "dict", data := .dict #[] }) (t' := s.toks) (fun _ _ q => Heap.get?_push_of_some _ q) (Nat.le_refl _) (dk_empty s.heap I.big)
  refine wpAny_Dict_walk (knd := mixKind X.prog X.w) hall hl h0 h15 (thn (h pins _ σ _ _ I1 (q _ hn)) fun ws s2 ⟨ps, H2, I2, rel, e, kvs, ep, lk, q2⟩ => ?_)
  subst ep
  obtain ⟨rs, c, rk⟩ := carries_of (P := X.prog) (w := X.w) rel
  obtain ⟨z, hd, vs0, r0, dd⟩ := dk_of I2.hok e
  cases r0
  refine ⟨rs, c, dd, fun h' dd' hs => ⟨.ref s.heap.objs.size, _, ?_, rfl, q2⟩⟩
  have hz : (mergeK [] kvs).length ≤ sizeLine := by
    have h1 := length_mergeK kvs []
    rw [List.length_nil] at h1
    rw [sizeLine_eq]; omega
  have he : ∃ q, h'.get? s.heap.objs.size = some q := let ⟨q, _, _, hq, _⟩ := dd'; ⟨q, hq⟩
  exact d_write I2 (by rw [e]; exact True.intro) hs he (dk_new hz hd (rk.merge .nil) dd')
structure M1 (X : Cx) (o : Expr) (m : Str) (apos : Pos) (e : Expr) (cpos : Pos) : Prop where
  base : attributeBase o m X.env (eval o X.env) = eval o X.env
  few : ((backTo cpos (starEach [e] X.env)).all (fun x => !x.1) && (backToKw cpos (keywordEach [] X.env)).all (fun x => x.1.isSome)
    && decide (([e] : List Expr).length + ([] : List Keyword).length + (if ([] : List Keyword).isEmpty then 0 else 1) < 30)) = true
  line : (apos.endLine == cpos.line) = true
  trees : backTo cpos (starEach [e] X.env) = [(false, eval e X.env)]
structure M2 (X : Cx) (o : Expr) (m : Str) (apos : Pos) (e f : Expr) (cpos : Pos) : Prop where
  base : attributeBase o m X.env (eval o X.env) = eval o X.env
  few : ((backTo cpos (starEach [e, f] X.env)).all (fun x => !x.1) && (backToKw cpos (keywordEach [] X.env)).all (fun x => x.1.isSome)
    && decide (([e, f] : List Expr).length + ([] : List Keyword).length + (if ([] : List Keyword).isEmpty then 0 else 1) < 30)) = true
  line : (apos.endLine == cpos.line) = true
  trees : backTo cpos (starEach [e, f] X.env) = [(false, eval e X.env), (false, eval f X.env)]
def IsD (H : Hp) (a : Addr) : Prop := (∃ kvs, Rd H a (.dK kvs)) ∨ ∃ kvs, Rd H a (.dT kvs)
theorem isD_at {X : Cx} {pins : List (Addr × Obj)} {σ : St} {H : Hp} {s : Shared} {a : Addr} (I : Inv X pins σ H s) (d : IsD H a) :
    s.TypeIs (.ref a) "dict" ∧ (∀ b, Value.ref a = .ref b → ∃ ob, s.heap.get? b = some ob ∧ ob.dict = none) ∧ (a == sysModules) = false := by
  rcases d with ⟨kvs, e⟩ | ⟨kvs, e⟩
  · obtain ⟨_, hd, vs, _, dd⟩ := dk_rd I.hok e
    refine ⟨dd.typeIs, fun b q => ?_, hd⟩
    cases q
    obtain ⟨ob, _, _, h1, h2, _⟩ := dd
    exact ⟨ob, h1, h2.2.1⟩
  · obtain ⟨_, hd, xs, _, dd⟩ := dt_rd I.hok e
    refine ⟨dd.typeIs, fun b q => ?_, hd⟩
    cases q
    obtain ⟨ob, _, _, h1, h2, _⟩ := dd
    exact ⟨ob, h1, h2.2.1⟩
section
variable {X : Cx} {pins : List (Addr × Obj)} {σ : St} {H : Hp} {s : Shared} {a : Addr} {y d : V} {u r : Value} {o : Option V} {A : Around} {E : Value → Shared → Prop}
theorem d_get1 {Q : Value → Shared → Prop} (hu : A.units + 1 < cLine) (I : Inv X pins σ H s) (g : DGet H a y o) (ry : RelV y u) (h : ∀ w' s', Inv X pins σ H s' → RelV (o.getD .non) w' → Q w' s') :
    wpAny (model X.prog X.w) A (call (.builtin "dict.get") [.ref a, u]) Q E s := by
  rcases g with ⟨kvs, k, e, ey, l⟩ | ⟨kvs, k, b, e, ey, eb, l⟩
  · subst ey
    obtain ⟨z, hd, vs, rel, dd⟩ := dk_rd I.hok e
    refine call_meetsIn PySem.F.slot_dict_get dd.typeIs PySem.F.entry_dict_get (PySem.F.args_dict_get_2 _ _) (meets_dict_get (mixKind X.prog X.w) a (kV_is ry) hd) ⟨_, dd.mapOf, h _ _ (I.tok _) ?_⟩
    rw [l]
    exact (rel.val k).getD rfl
  · subst ey
    cases (show u = Value.ref b from ry)
    obtain ⟨z, hd, xs, rel, dd⟩ := dt_rd I.hok e
    refine call_meetsIn PySem.F.slot_dict_get dd.typeIs PySem.F.entry_dict_get (PySem.F.args_dict_get_2 _ _) (meetsH_dict_get (tupleKind (mixKind X.prog X.w)) a b hd) ⟨tupleKind_room_in1 hu, k, xs, key_of I.hok eb, dd, h _ _ (I.tok _) ?_⟩
    rw [l]
    exact (rel.val k).getD rfl
end
def tDGet1 (td ty : TE) : TE := fun σ H Q => td σ H fun x H1 => ∃ a, x = .ref a ∧ IsD H1 a ∧ ty σ H1 fun y H2 => ∃ o, DGet H2 a y o ∧ Q (o.getD .non) H2
def tDGet2 (td ty tx : TE) : TE := fun σ H Q => td σ H fun x H1 => ∃ a, x = .ref a ∧ IsD H1 a ∧ ty σ H1 fun y H2 => tx σ H2 fun z H3 => ∃ o, DGet H3 a y o ∧ Q (o.getD z) H3
def tDPop1 (td ty : TE) : TE := fun σ H Q => td σ H fun x H1 => ∃ a, x = .ref a ∧ IsD H1 a ∧ ty σ H1 fun y H2 => ∃ kvs k v, H2 a = some (.dK kvs) ∧ y = kV k ∧ valV kvs k = some v ∧ Q v (upd H2 a (.dK (dropK kvs k)))
def tDPop2 (td ty tx : TE) : TE := fun σ H Q => td σ H fun x H1 => ∃ a, x = .ref a ∧ IsD H1 a ∧ ty σ H1 fun y H2 => tx σ H2 fun z H3 => ∃ kvs k, H3 a = some (.dK kvs) ∧ y = kV k ∧
  (∀ v, valV kvs k = some v → Q v (upd H3 a (.dK (dropK kvs k)))) ∧ (valV kvs k = none → Q z H3)
section
variable {X : Cx} {o e f : Expr} {apos cpos : Pos} {td ty tx : TE}
theorem pe_dget1 (hu : X.A.units + 1 < cLine) (ho : PE X o td) (he : PE X e ty) (m : M1 X o "get" apos e cpos) : PE X (.Call (.Attribute o "get" apos) [e] [] cpos) (tDGet1 td ty) := by
  intro pins s σ H Q I h
  refine wpAny_Call_method m.base m.few m.line PySem.F.plainAttrs_dict PySem.F.slot_dict_get PySem.F.type_dict_get (thn (ho pins s σ H _ I h) fun u s1 ⟨x, H1, I1, rx, a, ex, d, q1⟩ => ?_)
  subst ex
  obtain rfl : u = Value.ref a := rx
  obtain ⟨t1, t2, _⟩ := isD_at I1 d
  refine ⟨t1, t2, ?_⟩
  rw [m.trees]
  refine Calls.callWith_builtin rfl (Calls.evalArgs_plain (Calls.spliced_cons (thn (he pins s1 σ H1 _ I1 q1) fun iv s2 ⟨y, H2, I2, ry, ov, g, q2⟩ => Calls.spliced_nil ?_)))
  exact d_get1 hu I2 g ry fun w' s3 I3 rw' => ⟨_, H2, I3, rw', q2⟩
end
section
variable {X : Cx} {pins : List (Addr × Obj)} {σ : St} {H : Hp} {s : Shared} {a : Addr} {kvs : List (Key × V)} {A : Around} {E : Value → Shared → Prop}
end
section
variable {X : Cx} {pins : List (Addr × Obj)} {σ : St} {H : Hp} {s : Shared} {a : Addr} {y : V} {u : Value} {A : Around} {E : Value → Shared → Prop}
end
end L2

set_option Elab.async false
set_option linter.all false
set_option maxRecDepth 100000
namespace L2
open PySem PySem.Spec PyProof.Rows
section
variable {X : Cx}
theorem ix_dictK (hu : X.A.units + 64 < cLine) : IxR X (fun x y H Q => ∃ a v, x = .ref a ∧ DGet H a y (some v) ∧ Q v H) := by
  intro value slice pins s σ H x y v u Q I rx ry h hs
  obtain ⟨a, z, rfl, g, q⟩ := h
  cases rx
  have hT := dict_typeIs I g
  unfold subscriptTail
  refine wpAny_bind ?_
  rw [getitemInPython_of_ne hT.not_modules]
  refine wpAny_bind (wpAny_specialOf hT PySem.F.slot_dict_getitem.lookup ?_)
  have h₂ : wpAny (model X.prog X.w) X.A (getItem (.ref a) u) (EP X pins σ Q) X.xe s := d_getItem (by omega) I g ry fun w' s3 I3 rw' => ⟨z, H, I3, rw', q⟩
  have fin : wpAny (model X.prog X.w) X.A (subscripted slice false (.ref a) u) (fun r s₃ => wpAny (model X.prog X.w) X.A (letTemporaryGo value (.ref a) r >>= fun _ => pure r) (EP X pins σ Q) X.xe s₃) X.xe s := by
    rw [hs]
    exact wpAny_operating (wpAny_mono h₂ (fun r s₃ h₃ => wpAny_bind (wpAny_letTemporaryGo (wpAny_pure h₃))) fun _ _ x => x)
  first
    | exact wpAny_pure (wpAny_bind fin)
    | exact wpAny_bind (wpAny_pure (wpAny_bind fin))
    | exact wpAny_bind fin
def fIxA (K : PySem.W.Frag) : R2 := fun x y H Q => match x, y with
  | .ref p, .int i => (∃ xs v, (SqL K H p xs ∨ SqT K H p xs) ∧ atI xs i = some v ∧ Q v H) ∨ (∃ v, DGet H p (.int i) (some v) ∧ Q v H)
  | .ref p, .str k => ∃ v, DGet H p (.str k) (some v) ∧ Q v H
  | .str z, .int i => ∃ c, z.length ≤ sizeLine ∧ atI z.cps.toList i = some c ∧ Q (.str ⟨#[c]⟩) H
  | _, _ => False
theorem ix_all (hu : X.A.units + 64 < cLine) : IxR X (fIxA X.K) := by
  intro value slice pins s σ H x y v u Q I rx ry h hs
  cases x with
  | ref p =>
    cases y with
    | int i =>
      rcases h with h | ⟨w, g, q⟩
      · exact ix_any value slice pins s σ H _ _ v u Q I rx ry h hs
      · exact ix_dictK hu value slice pins s σ H _ _ v u Q I rx ry ⟨p, w, rfl, g, q⟩ hs
    | str k =>
      obtain ⟨w, g, q⟩ := h
      exact ix_dictK hu value slice pins s σ H _ _ v u Q I rx ry ⟨p, w, rfl, g, q⟩ hs
    | _ => exact (show False from h).elim
  | str z =>
    cases y with
    | int i => exact ix_any value slice pins s σ H _ _ v u Q I rx ry h hs
    | _ => exact (show False from h).elim
  | _ => cases y <;> exact (show False from h).elim
theorem st_dictK (hu : X.A.units + 64 < cLine) : PSet X (fun o i v H Q => ∃ a H', o = .ref a ∧ DPut H a i v H' ∧ Q H') := by
  intro pins s σ H o i v ov iv u Q I ro ri rv h
  obtain ⟨a, H', rfl, g, q⟩ := h
  cases ro
  exact d_setItem (by omega) I g ri rv fun s4 I4 => ⟨H', I4, q⟩
def fSetA : TSet := fun o i v H Q => match o, i with
  | .ref p, .int k => (∃ xs j, H p = some (.lst xs) ∧ ixN xs.length k = some j ∧ Q (upd H p (.lst (xs.set j v)))) ∨ (∃ H', DPut H p (.int k) v H' ∧ Q H')
  | .ref p, .str k => ∃ H', DPut H p (.str k) v H' ∧ Q H'
  | _, _ => False
theorem st_all (hu : X.A.units + 64 < cLine) (hl : PSet X rSetL) : PSet X fSetA := by
  intro pins s σ H o i v ov iv u Q I ro ri rv h
  cases o with
  | ref p =>
    cases i with
    | int k =>
      rcases h with ⟨xs, j, h1, h2, q⟩ | ⟨H', g, q⟩
      · exact hl pins s σ H _ _ v ov iv u Q I ro ri rv ⟨p, xs, k, j, rfl, rfl, h1, h2, q⟩
      · exact st_dictK hu pins s σ H _ _ v ov iv u Q I ro ri rv ⟨p, H', rfl, g, q⟩
    | str k =>
      obtain ⟨H', g, q⟩ := h
      exact st_dictK hu pins s σ H _ _ v ov iv u Q I ro ri rv ⟨p, H', rfl, g, q⟩
    | _ => exact (show False from h).elim
  | _ => cases i <;> exact (show False from h).elim
theorem c_lenD : CallR X (.builtin "len") (fun xs H Q => ∃ a kvs, xs = [.ref a] ∧ Rd H a (.dK kvs) ∧ Q (.int (kvs.length : Nat)) H) := by
  intro pins s σ H xs us Q I r h
  obtain ⟨a, kvs, rfl, e, q⟩ := h
  obtain ⟨u, rfl, rfl⟩ := vals1 r
  exact d_len I e fun t s' I' => ⟨.int _, H, I', ⟨_, rfl⟩, q⟩
end
end L2

set_option Elab.async false
set_option linter.all false
set_option maxRecDepth 100000
namespace PySem
open Sem (wp)
section
variable {prog : Program} {w : World} {A : Around} {E : Value → Shared → Prop} {s : Shared}
theorem list_no_keys : typeLookup (.type "list") "keys" = pure none := am_miss_of_fast (by kernel_rfl)
theorem keys_of_list {a : Addr} {o : Obj} {xs : Array Value} {k : Nat} {Q : Option Value → Shared → Prop} (hx : s.heap.get? a = some o) (hc : o.cls = .type "list") (hdat : o.data = .seq xs k) (hd : o.dict = none) (hA : A.handled = none)
    (h : ∀ h' tk, (∀ b ob, s.heap.get? b = some ob → h'.get? b = some ob) → Q none { s with heap := h', toks := tk }) : wpAny (model prog w) A (getAttr? (.ref a) "keys") Q E s := by
  obtain ⟨c, dct, dat, sl⟩ := o
  simp only at hc hdat hd
  subst hc hdat hd
  obtain ⟨hp, g, d, tk, os⟩ := s
  have hT : ∀ tk', (⟨hp, g, d, tk', os⟩ : Shared).TypeIs (.ref a) "list" := fun _ => ⟨_, hx, rfl⟩
  have f1 := sub_AttributeError
  have f3 := F.slot_list_getattribute.lookup
  have f4 := F.slot_list_getattribute.bind (.ref a)
  have f5 := am_list_getattr_none
  have hmiss := list_no_keys
  have hname : (["__module__", "__name__", "__qualname__", "__doc__", "__annotations__"] : List Str).contains "keys" = false := by decide +kernel
  unfold getAttr? getAttrBy? getAttrBy
  repeat (any_goals (first | assumption | exact hT _ | ((with_reducible show wpAny _ _ (call (Value.builtin "list.__getattribute__") _ _) _ _ _); refine call_meets F.slot_list_getattribute (hT _) am_entry_list_getattribute (F.args_list_getattribute_2 _ _) (meets_getattribute_miss_list a xs k sl "keys" _ hmiss hname (by decide)) ⟨hx, hA, fun h' tk' e hx' => ?_⟩) | wp_step))
  obtain ⟨t', u', he⟩ := hx'.there
  have hTe : (⟨h', g, d, tk', os⟩ : Shared).TypeIs (.ref e) "AttributeError" := ⟨_, he, rfl⟩
  show wpAny _ _ (getattributeRaised _ _ _ _ _ _ _) _ _ _
  unfold getattributeRaised
  repeat (any_goals (first | assumption | wp_step))
  exact h _ _ hx'.keeps
end
end PySem
namespace L2
open PySem PySem.Spec PyProof.Rows
theorem entry_upd_loop : entryFor table "dict.update.loop" = some Builtin.«dict.update.loop» := entryFor_of_tree (by kernel_rfl)
theorem plain_upd_loop : plainId "dict.update.loop" = true := by decide +kernel
section
variable {X : Cx} {pins : List (Addr × Obj)} {σ : St} {H0 : Hp} {A : Around}
theorem pair_items {prog : Program} {w : World} {E : Value → Shared → Prop} {s : Shared} {t : Addr} {its : Array Value} {Q : List Value → Shared → Prop} (h : s.heap.IsTuple t its) (q : Q its.toList s) : wpAny (model prog w) A (Builtin.Dict.pairItems (.ref t)) Q E s := by
  obtain ⟨o, ho, hc, n, hd⟩ := h
  unfold Builtin.Dict.pairItems
  refine wpAny_bind (wpAny_typeOf ⟨o, ho, hc⟩ ?_)
  rw [if_pos (by decide)]
  refine wpAny_bind ?_
  obtain ⟨c, dct, dat, sl⟩ := o
  simp only at hc hd
  subst hc hd
  obtain ⟨hp, g, d, tk, os⟩ := s
  repeat (any_goals (first | assumption | wp_step))
theorem take_merge (kvs : List (Key × V)) (i : Nat) {k : Key} {v : V} (h : kvs[i]? = some (k, v)) : mergeK [] (kvs.take (i + 1)) = putK (mergeK [] (kvs.take i)) k v := by
  unfold mergeK
  rw [List.take_add_one, h, List.foldl_append]
  rfl
theorem upd_loop (hc : X.calm = true) {l p it : Addr} {ps : List Addr} {kvs : List (Key × V)} {R : Result → Shared → Prop} (hA : A.handled = none) (hl : SqL X.K H0 l (ps.map V.ref)) (hlen : ps.length = kvs.length) (hn : kvs.length ≤ 1000)
    (hps : ∀ (i : Nat) t k v, ps[i]? = some t → kvs[i]? = some (k, v) → SqT X.K H0 t [kV k, v]) (hp : H0 p = none)
    (fin : ∀ s', Inv X pins σ (upd H0 p (.dK (mergeK [] kvs))) s' → R (.ok (.ret .none)) s') :
    ∀ (n i : Nat) (s : Shared), n + i = ps.length → Inv X pins σ (upd H0 p (.dK (mergeK [] (kvs.take i)))) s → FpOk X pins (upd H0 p (.dK (mergeK [] (kvs.take i)))) it → s.heap.IsListIter it l i →
      codeAny (model X.prog X.w) A (.builtin "dict.update.loop" ⟨[.ref p, .ref it, rawInt i, .none], []⟩) R s := by
  intro n
  induction n with
  | zero =>
    intro i s hi I hf st
    refine codeAny_builtin entry_upd_loop ?_
    rw [Around.under_plainId plain_upd_loop _]
    have sm := Same.upd hp (.dK (mergeK [] (kvs.take i)))
    obtain ⟨its, rv, pl, hz⟩ := I.list (sm.seq hl)
    have hll := rv.length
    rw [List.length_map] at hll
    obtain ⟨f0, f1, f2, f3, f4, f5⟩ := hf
    unfold Builtin.«dict.update.loop»
    refine wpAny_bind (wpAny_pyNext_list_end hA st pl.isList (by simp; omega) fun h' eb => ?_)
    have I' : Inv X pins σ (upd H0 p (.dK (mergeK [] (kvs.take i)))) { s with heap := h' } := I.turned (t' := s.toks) (fun b o hb e => eb b o hb e) f0 f1 f3 f4 f5
    rw [List.take_of_length_le (by omega)] at I'
    exact wpAny_bind (wpAny_pure (wpAny_pure (fin _ I')))
  | succ n ih =>
    intro i s hi I hf st
    refine codeAny_builtin entry_upd_loop ?_
    rw [Around.under_plainId plain_upd_loop _]
    have sm := Same.upd hp (.dK (mergeK [] (kvs.take i)))
    obtain ⟨its, rv, pl, hz⟩ := I.list (sm.seq hl)
    have hll := rv.length
    rw [List.length_map] at hll
    obtain ⟨t, ht⟩ : ∃ t, ps[i]? = some t := ⟨ps[i]'(by omega), List.getElem?_eq_getElem (by omega)⟩
    obtain ⟨⟨k, v⟩, hk⟩ : ∃ kv, kvs[i]? = some kv := ⟨kvs[i]'(by omega), List.getElem?_eq_getElem (by omega)⟩
    obtain ⟨u, hu1, hu2⟩ := rv.get (x := .ref t) (i := i) (by rw [List.getElem?_map, ht]; rfl)
    cases hu2
    obtain ⟨f0, f1, f2, f3, f4, f5⟩ := hf
    unfold Builtin.«dict.update.loop»
    refine wpAny_bind (wpAny_pyNext_list_item st pl.isList (x := .ref t) (by simpa using hu1) fun h' st' sb => ?_)
    have I1 : Inv X pins σ (upd H0 p (.dK (mergeK [] (kvs.take i)))) { s with heap := h' } := I.turned (t' := s.toks) (fun b o hb e => (sb.2 b hb).trans e) f0 f1 f3 f4 f5
    obtain ⟨jts, rj, pt, _⟩ := I1.tuple (sm.tup (hps i t k v ht hk))
    obtain ⟨u1, u2, e12, r1, r2⟩ : ∃ u1 u2, jts = [u1, u2] ∧ RelV (kV k) u1 ∧ RelV v u2 := by
      cases rj with
      | cons r1 q => cases q with
        | cons r2 q => cases q; exact ⟨_, _, rfl, r1, r2⟩
    subst e12
    refine wpAny_bind (wpAny_holding (wpAny_bind (wpAny_tryCatch (pair_items pt ?_))))
    show wpAny _ _ (holding [u1, u2] (dictSet p u1 u2)) _ _ _
    refine wpAny_holding ?_
    obtain ⟨z, hd, vs, rel, dd⟩ := dk_of I1.hok (upd_same (H := H0) (a := p) (o := .dK (mergeK [] (kvs.take i))))
    have hz' : vs.length ≤ sizeLine := by rw [← rel.length]; exact z
    have hlk : (mergeK [] (kvs.take i)).length ≤ 1000 := by
      have := length_mergeK (kvs.take i) []
      rw [List.length_take, List.length_nil] at this
      omega
    have hlp : (putK (mergeK [] (kvs.take i)) k v).length ≤ sizeLine := by
      have h1 := length_putK (mergeK [] (kvs.take i)) k v
      have h2 := small1000 hlk
      omega
    refine wpAny_dictSet_pairs (hsz := hz') (kV_is r1) dd fun h2 dd' hs => ?_
    have he : ∃ q, h2.get? p = some q := let ⟨q, _, _, hq, _⟩ := dd'; ⟨q, hq⟩
    have I2 := d_write (t' := s.toks + 1) (ob := .dK (putK (mergeK [] (kvs.take i)) k v)) I1 (by rw [upd_same]; exact True.intro) hs he (dk_new hlp hd (rel.put k r2) dd')
    rw [upd_upd, ← take_merge kvs i hk] at I2
    have hne : it ≠ p := fun z => by rw [z, upd_same] at f0; cases f0
    have f0' : upd H0 p (.dK (mergeK [] (kvs.take (i + 1)))) it = none := by
      rw [upd_ne hne] at f0 ⊢
      exact f0
    refine wpAny_pure ⟨plainId_quiet plain_upd_loop _, ?_⟩
    have ec : ((i : Int) + 1) = ((i + 1 : Nat) : Int) := by push_cast; rfl
    rw [ec]
    exact ih (i + 1) _ (by omega) I2 ⟨f0', f1, f2, f3, f4, f5⟩ (st'.at fun o e => (hs.2 it hne).trans e)
theorem c_dictP (hc : X.calm = true := by rfl) : CallR X (.type "dict") (fun xs H Q => ∃ (l : Addr) (ps : List Addr) (kvs : List (Key × V)), xs = [.ref l] ∧ SqL X.K H l (ps.map V.ref) ∧ ps.length = kvs.length ∧ kvs.length ≤ 1000 ∧
    (∀ (i : Nat) t k v, ps[i]? = some t → kvs[i]? = some (k, v) → SqT X.K H t [kV k, v]) ∧ ∀ p, H p = none → Q (.ref p) (upd H p (.dK (mergeK [] kvs)))) := by
  intro pins s σ H xs us Q I r h
  obtain ⟨l, ps, kvs, rfl, hl, hlen, hn, hps, q⟩ := h
  obtain ⟨u, rfl, rfl⟩ := vals1 r
  have hA := I.ok.hd hc
  have hp := I.hok.fresh (Nat.le_refl s.heap.objs.size)
  have I1 := I.laid (a := s.heap.objs.size) (o := .dK []) (t' := s.toks) (h' := s.heap.push { cls := .type "dict", data := .dict #[] }) (fun _ _ q => Heap.get?_push_of_some _ q) (Nat.le_refl _) (dk_empty s.heap I.big)
  refine callType_codes (Q₁ := fun obj s₁ => obj = .ref s.heap.objs.size ∧ s₁ = { s with heap := s.heap.push { cls := .type "dict", data := .dict #[] } }) F.kt_called_dict (F.kt_typeCall_dict_1 _) F.entry_dict_init (kt_code_dict_new _ ⟨rfl, rfl⟩) ?_
  rintro obj s₁ ⟨rfl, rfl⟩
  have hnew : (s.heap.push { cls := .type "dict", data := .dict #[] }).DictOf (mixKind X.prog X.w) s.heap.objs.size [] := Heap.DictOf.new s.heap
  have sm := Same.upd hp (.dK [])
  obtain ⟨its, rv, pl, hz⟩ := I1.list (sm.seq hl)
  obtain ⟨o, n, ho, hoc, hod, hos⟩ := id pl
  refine ⟨hnew.typeIs, F.args_dict_init_2 _ _, ?_⟩
  unfold Builtin.«dict.__init__»
  refine wpAny_bind ?_
  unfold Builtin.Dict.selfAndRest
  refine wpAny_bind (wpAny_notOrdered_dict hnew.typeIs ?_)
  show wpAny _ _ (pure (s.heap.objs.size, [Value.ref l])) _ _ _
  refine wpAny_pure ?_
  show wpAny _ _ (Builtin.Dict.updateFrom "dict.__init__" s.heap.objs.size (.ref l) [] .none) _ _ _
  unfold Builtin.Dict.updateFrom
  refine wpAny_bind (wpAny_typeOf ⟨o, ho, hoc⟩ ?_)
  rw [if_pos (by decide)]
  refine wpAny_bind (keys_of_list ho hoc hos hod hA fun h2 tk2 k2 => ?_)
  have I2 : Inv X pins σ (upd H s.heap.objs.size (.dK [])) { s with heap := h2, toks := tk2 } := I1.kept (t' := tk2) k2
  rw [if_pos (show (none : Option Value).isNone = true from rfl)]
  obtain ⟨its2, rv2, pl2, _⟩ := I2.list (sm.seq hl)
  refine wpAny_bind (wpAny_rule (wpAny_bind (wpAny_pyIter_list pl2.isList ?_)))
  refine wpAny_pure ⟨plainId_quiet plain_upd_loop _, ?_⟩
  have I3 := I2.kept (h' := h2.push { cls := .type "list_iterator", data := .fields #[.ref l, .int 0 0] }) (t' := tk2) fun b o e => Heap.get?_push_of_some _ e
  have fp := I2.fpOk (H' := upd H s.heap.objs.size (.dK [])) (Nat.le_refl _) (I2.hok.fresh (Nat.le_refl _))
  refine upd_loop (X := X) (H0 := H) (A := X.A.in1) (p := s.heap.objs.size) (kvs := kvs) hc hA hl hlen hn hps hp (fun s' I' => ?_) ps.length 0 _ rfl I3 fp ⟨_, Heap.get?_push_size _ rfl, rfl, rfl⟩
  exact ⟨rfl, .ref s.heap.objs.size, _, I', rfl, q _ hp⟩
end
end L2

set_option Elab.async false
set_option linter.all false
set_option maxRecDepth 100000
namespace L2
open PySem PySem.Spec PyProof.Rows
section
variable {X : Cx} {pins : List (Addr × Obj)} {σ : St} {H : Hp} {s : Shared}
theorem Inv.turnedL {h' : Heap} {t' : Nat} {ch : List Addr} (I : Inv X pins σ H s) (hf : ∀ b ∈ ch, FpOk X pins H b) (k : ∀ b o, b ∉ ch → s.heap.get? b = some o → h'.get? b = some o) : Inv X pins σ H { s with heap := h', toks := t' } := by
  have nit : ∀ b u, H b = some u → b ∉ ch := fun b u e z => by rw [(hf b z).1] at e; cases e
  refine I.step (g' := s.gens) (d' := s.drawn) (ch := ch) (fun b hb => ⟨(hf b hb).2.2.2.1, (hf b hb).2.1, (hf b hb).2.2.2.2.1, (hf b hb).2.2.2.2.2⟩) (fun b o _ _ hc e _ => k b o hc e) (fun b o _ _ hc e _ => ⟨o.slots, k b o hc e⟩) (fun _ _ _ _ n => n)
    (fun b o hc e => ⟨o, k b o hc e⟩) (fun _ _ e => e) (fun _ _ _ e => e) (fun b ps e => ⟨#[], by rw [e]; simp⟩) (fun m hm => ?_) (fun b u e => ?_) I.bare
  · obtain ⟨o, es, ep, ho, r⟩ := hm
    exact ⟨o, es, ep, k _ o (fun z => (hf _ z).2.1 rfl) ho, r⟩
  · refine (I.hok b u e).stay (fun c v hc q => k c v ?_ q) (fun _ q => q) fun _ _ q => q
    rcases hc with rfl | hc
    · exact nit _ _ e
    · exact nit _ _ hc
theorem Inv.track {T : Addr} {u : HO} (I : Inv X pins σ H s) (hf : FpOk X pins H T) (hz : X.s₀.heap.objs.size ≤ T) (new : ObjOk X.prog X.w (upd H T u) s.heap T u) : Inv X pins σ (upd H T u) s := by
  obtain ⟨f0, f1, f2, f3, f4, f5⟩ := hf
  have ne0 : ∀ b o, X.s₀.heap.get? b = some o → b ≠ T := fun b o e => Nat.ne_of_lt (Nat.lt_of_lt_of_le (Heap.lt_size e) hz)
  have neS : ∀ b v, H b = some v → b ≠ T := fun b v e z => by rw [z, f0] at e; cases e
  refine ⟨I.ok, I.os, I.bare, ⟨I.base.keep, I.base.slot, fun b o e n hx => by rw [upd_ne (ne0 b o e)]; exact I.base.free b o e n hx, I.base.there, fun b xs e => by
      have := I.base.tups b xs e
      rw [upd_ne (neS b _ this)]; exact this, fun b o v e => by
      have := I.base.frzs b o v e
      rw [upd_ne (neS b _ this)]; exact this, fun b ps e => by
      obtain ⟨more, q⟩ := I.base.tbls b ps e
      exact ⟨more, by rw [upd_ne (neS b _ q)]; exact q⟩⟩, I.loc, I.cell, by rw [upd_ne (Ne.symm f1)]; exact I.free, fun x c e => by rw [upd_ne (f4 x c e)]; exact I.freeC x c e,
    fun p hp => by rw [upd_ne (f5 p hp)]; exact I.pin p hp, fun b v e => ?_, I.len⟩
  by_cases hb : b = T
  · subst hb; rw [upd_same] at e; cases e; exact new
  · rw [upd_ne hb] at e
    exact (I.hok b v e).stay (fun _ _ _ q => q) (fun c q => by rw [upd_ne (neS c _ q)]; exact q) fun c xs q => by rw [upd_ne (neS c _ q)]; exact q
def Ite (K : PySem.W.Frag) (a : Addr) : It :=
  ⟨fun i H => ∃ xs x, SqL K H a xs ∧ xs[i]? = some x, fun i H x H' => ∃ T v, x = .ref T ∧ H T = none ∧ H' = upd H T (.tup [.int (i : Nat), v]) ∧ ∀ xs, SqL K H a xs → xs[i]? = some v, fun i H => ∃ xs, SqL K H a xs ∧ xs.length ≤ i⟩
def iEnum (K : PySem.W.Frag) (ta : TA) : TI := fun σ H R => ta σ H fun vs H1 => ∃ a, vs = [.ref a] ∧ (∃ xs, SqL K H1 a xs) ∧ R (Ite K a) H1
end
def Itd (d : Addr) (o : Obj) (kvs : List (Key × V)) : It :=
  ⟨fun i H => H d = some (.frz o (.dK kvs)) ∧ i < kvs.length, fun i H x H' => H' = H ∧ ∃ k v, kvs[i]? = some (k, v) ∧ x = kV k, fun i H => H d = some (.frz o (.dK kvs)) ∧ kvs.length ≤ i⟩
theorem is_kV {P : Program} {w : World} {k : Key} {u : Value} (h : (mixKind P w).is k u = true) : RelV (kV k) u := by
  cases k with
  | inl i => obtain ⟨t, e⟩ := Value.isInt_shape (show Value.isInt i u = true from h); exact ⟨t, e⟩
  | inr x => obtain ⟨t, e⟩ := Value.isStrOf_shape (show Value.isStrOf x u = true from h); exact ⟨t, e⟩
section
variable {X : Cx}
end
end L2

set_option Elab.async false
set_option linter.all false
set_option maxRecDepth 100000
namespace L2
open PySem PySem.Spec PyProof.Rows
theorem paired_of_get {α β : Type} {F : α → β → Prop} : ∀ {l₁ : List α} {l₂ : List β}, l₁.length = l₂.length → (∀ (i : Nat) a b, l₁[i]? = some a → l₂[i]? = some b → F a b) → Paired F l₁ l₂
  | [], [], _, _ => .nil
  | [], _ :: _, h, _ => by simp at h
  | _ :: _, [], h, _ => by simp at h
  | x :: xs, y :: ys, h, f => .cons (f 0 x y rfl rfl) (paired_of_get (by simpa using h) fun i a b ha hb => f (i + 1) a b (by simpa using ha) (by simpa using hb))
theorem paired_at {α β : Type} {F : α → β → Prop} {l₁ : List α} {l₂ : List β} (h : Paired F l₁ l₂) : ∀ {i : Nat} {a : α} {b : β}, l₁[i]? = some a → l₂[i]? = some b → F a b := by
  induction h with
  | nil => intro i a b h; simp at h
  | cons r t ih =>
    intro i a b ha hb
    cases i with
    | zero => simp only [List.getElem?_cons_zero, Option.some.injEq] at ha hb; subst ha hb; exact r
    | succ j => exact ih (by simpa using ha) (by simpa using hb)
section
variable {X : Cx} {tg : Expr}
def NoFrz (X : Cx) (d : Addr) : Prop := ∀ o u, X.H₀ d ≠ some (.frz o u)
def iDict (X : Cx) (tl : TE) : TI := fun σ H R => tl σ H fun x H1 => ∃ d kvs, x = .ref d ∧ H1 d = some (.dK kvs) ∧ ∀ o, NoFrz X d → (kvs.map (·.1)).Nodup → R (Itd d o kvs) (upd H1 d (.frz o (.dK kvs)))
def thawN (X : Cx) (D : Ends) : St → Hp → Prop := fun σ H => ∃ d o kvs, NoFrz X d ∧ H d = some (.frz o (.dK kvs)) ∧ D.nx σ (upd H d (.dK kvs))
def tForD (X : Cx) (tl : TE) (g : TG) (tb : TS) : TS := fun D σ H => tl σ H fun x H1 => ∃ d kvs, x = .ref d ∧ H1 d = some (.dK kvs) ∧ ∀ o, NoFrz X d → (kvs.map (·.1)).Nodup → ∃ Pv : Nat → St → Hp → Prop, Pv 0 σ (upd H1 d (.frz o (.dK kvs))) ∧
  (∀ i σ H, i ≤ kvs.length → Pv i σ H → H d = some (.frz o (.dK kvs))) ∧
  (∀ i k v σ H, kvs[i]? = some (k, v) → Pv i σ H → g (kV k) σ H fun σ2 H2 => tb { D with nx := Pv (i + 1), ct := Pv (i + 1), bk := thawN X D } σ2 H2) ∧ ∀ σ H, Pv kvs.length σ H → D.nx σ (upd H d (.dK kvs))
theorem c_listD (hc : X.calm = true := by rfl) : CallR X (.type "list") (fun xs H Q => ∃ d kvs, xs = [.ref d] ∧ Rd H d (.dK kvs) ∧ ∀ l, H l = none → Q (.ref l) (upd H l (.lst (kvs.map fun kv => kV kv.1)))) := by
  intro pins s σ H xs us Q I r h
  obtain ⟨d, kvs, rfl, e, q⟩ := h
  obtain ⟨u, rfl, rfl⟩ := vals1 r
  obtain ⟨z, hs, vs, rel, dd⟩ := dk_rd I.hok e
  obtain ⟨ep, dat⟩ := dd.dictAt
  have hl := rel.length
  refine PySem.W.kdl_call (PySem.W.kdl_dict (knd := mixKind X.prog X.w) (kvs := vs) (ep := ep) hs) (I.ok.hd hc) dat (by omega) fun h' tk acc c hk hS hacc => ?_
  have hp := I.hok.fresh (Nat.le_refl s.heap.objs.size)
  refine ⟨.ref s.heap.objs.size, _, I.laid (a := s.heap.objs.size) (o := .lst (kvs.map fun kv => kV kv.1)) (t' := tk) hk (Nat.le_refl _) ⟨by rw [List.length_map]; exact z, acc.toList, c, ?_, by simpa using hS⟩, rfl, q _ hp⟩
  have hsz : acc.size = vs.length := hacc.1
  refine paired_of_get (by simp [hsz, hl]) fun i x y hx hy => ?_
  rw [List.getElem?_map] at hx
  obtain ⟨k, v, hv, hk⟩ := hacc.2 i y (by rw [← Array.getElem?_toList]; exact hy)
  cases hkv : kvs[i]? with
  | none => rw [hkv] at hx; cases hx
  | some kv =>
    rw [hkv] at hx
    have hx' : kV kv.1 = x := Option.some.inj hx
    have := congrArg (fun l => l[i]?) rel.keys
    simp only [List.getElem?_map, hkv, hv] at this
    have hkk : kv.1 = k := by simpa using this
    rw [← hx', hkk]
    exact is_kV hk
end
section
variable {prog : Program} {w : World} {K : Type} [DecidableEq K] {knd : KeyKind prog w K} {A : Around} {E : Value → Shared → Prop} {s : Shared}
theorem shows_all {d : Addr} {Q : Unit → Shared → Prop} (hd : (d == sysModules) = false) (q : Q () s) : wpAny (model prog w) A (Builtin.Dict.showsAll d) Q E s := by
  unfold Builtin.Dict.showsAll
  rw [if_neg (by rw [hd]; exact Bool.false_ne_true)]
  exact wpAny_pure q
theorem find_pairs {k : K} {v : Value} {es : List DictEntry} {lvs : List (K × Value)} (h : Pairs knd es lvs) : valueAt lvs k = some v → ∃ j e, (es.findIdx? fun e => knd.is k e.key) = some j ∧ es[j]? = some e ∧ e.val = v := by
  induction h with
  | nil => intro z; cases z
  | @cons e kv es lvs h1 h2 t ih =>
    intro z
    by_cases hk : kv.1 = k
    · subst hk
      have : valueAt (kv :: lvs) kv.1 = some kv.2 := by simp [valueAt, List.find?_cons]
      rw [this] at z
      exact ⟨0, e, by rw [List.findIdx?_cons, if_pos h1], rfl, by rw [h2]; exact Option.some.inj z⟩
    · have : valueAt (kv :: lvs) k = valueAt lvs k := by simp [valueAt, List.find?_cons, hk]
      rw [this] at z
      obtain ⟨j, f, hj, hf, hv⟩ := ih z
      have hn : ¬ knd.is k e.key = true := fun q => hk (knd.inj _ _ _ h1 q)
      exact ⟨j + 1, f, by rw [List.findIdx?_cons, if_neg hn, hj]; rfl, hf, hv⟩
theorem same_pairs {id : String} {a b : Addr} {kvs lvs : List (K × Value)} {Q : Bool → Shared → Prop} (hda : (a == sysModules) = false) (hdb : (b == sysModules) = false) (ha : s.heap.DictOf knd a kvs) (hb : s.heap.DictOf knd b lvs) (hl : kvs.length = lvs.length)
    (hv : ∀ (i : Nat) k v, kvs[i]? = some (k, v) → ∃ v', valueAt lvs k = some v' ∧ SeqAt.EqAt A s v v' true) (q : Q true s) : wpAny (model prog w) A (Builtin.Dict.samePairs id a b) Q E s := by
  obtain ⟨o, es, ep, ho, hx, hd, hk, hp, hn⟩ := ha
  obtain ⟨o2, es2, ep2, ho2, hx2, hd2, hk2, hp2, hn2⟩ := hb
  have hz : es.size = kvs.length := by rw [← hp.length]; simp
  have hz2 : es2.size = lvs.length := by rw [← hp2.length]; simp
  unfold Builtin.Dict.samePairs
  refine wpAny_bind (shows_all hda ?_)
  refine wpAny_bind (shows_all hdb ?_)
  refine wpAny_bind (wpAny_dictEntries ho hd ?_)
  refine wpAny_bind (wpAny_dictEntries ho2 hd2 ?_)
  rw [if_neg (by simp; omega)]
  refine wpAny_bind (wpAny_dictEpoch ho hd ?_)
  refine wpAny_bind ?_
  rw [Std.Legacy.Range.forIn_eq_forIn_range']
  simp only [Std.Legacy.Range.size, Nat.sub_zero, Nat.add_sub_cancel, Nat.div_one]
  refine wpAny_forIn_list _ (fun rest b s' => b = (none, ()) ∧ s' = s ∧ ∀ i ∈ rest, i < es.size) _ ?_ ?_ _ _ ⟨rfl, rfl, fun i hi => ?_⟩
  · rintro i rest c s' ⟨rfl, rfl, hr⟩
    have hi : i < es.size := hr i (by simp)
    refine wpAny_bind (wpAny_dictEntries ho hd ?_)
    rw [Array.getElem?_eq_getElem hi]
    obtain ⟨⟨k, v⟩, hkv⟩ : ∃ kv, kvs[i]? = some kv := ⟨kvs[i]'(by omega), List.getElem?_eq_getElem (by omega)⟩
    obtain ⟨hkey, hval⟩ := hp.get? (e := es[i]) (by simp [hi]) hkv
    obtain ⟨k', hk', hh⟩ := hk es[i] (Array.getElem_mem hi)
    obtain ⟨v', hv', he⟩ := hv i k v hkv
    have hkk : k' = k := knd.inj _ _ _ hk' hkey
    subst hkk
    show wpAny _ _ (holding [es[i].key, es[i].val] _ >>= _) _ _ _
    refine wpAny_bind (wpAny_holding ?_)
    rw [hh, hval]
    refine wpAny_bind (wpAny_dictFind_of hkey ho2 hd2 hk2 ?_)
    obtain ⟨j, f, hj, hf, hfv⟩ := find_pairs hp2 hv'
    rw [← List.findIdx?_toArray, Array.toArray_toList] at hj
    rw [Array.getElem?_toList] at hf
    rw [hj]
    refine wpAny_bind (wpAny_dictEntries ho2 hd2 ?_)
    rw [hf]
    show wpAny _ _ (holding [f.val] (eqBool v f.val)) _ _ _
    rw [hfv]
    refine wpAny_holding (he _ _ _ _ ?_)
    rw [if_neg (by decide)]
    refine wpAny_bind (wpAny_dictEpoch ho hd ?_)
    rw [if_neg (by simp)]
    exact wpAny_pure ⟨rfl, rfl, fun z hz => hr z (List.mem_cons_of_mem _ hz)⟩
  · rintro c s' ⟨rfl, rfl, _⟩
    exact wpAny_pure q
  · have := (List.mem_range'_1.mp hi).2
    omega
end
theorem valV_at {κ : Type} [DecidableEq κ] : ∀ {kvs : List (κ × V)} {i : Nat} {k : κ} {v : V}, (kvs.map (·.1)).Nodup → kvs[i]? = some (k, v) → valV kvs k = some v
  | [], i, k, v, _, h => by simp at h
  | p :: r, 0, k, v, _, h => by
    simp only [List.getElem?_cons_zero, Option.some.injEq] at h
    subst h
    exact valV_pos (p := (k, v)) rfl
  | p :: r, i + 1, k, v, hn, h => by
    rw [List.map_cons] at hn
    have hr := List.nodup_cons.mp hn
    have hi : r[i]? = some (k, v) := by simpa using h
    have hne : ¬ p.1 = k := fun z => hr.1 (by rw [z]; exact List.mem_map_of_mem (f := (·.1)) (List.mem_of_getElem? hi))
    rw [valV_neg hne]
    exact valV_at hr.2 hi
section
variable {X : Cx}
def ValEq (K : PySem.W.Frag) (H : Hp) (v v' : V) : Prop := (v = v' ∧ flatR v = true) ∨ ∃ p q xs, v = .ref p ∧ v' = .ref q ∧ SqL K H p xs ∧ SqL K H q xs ∧ xs.all flatR = true
theorem eqAt_of {pins : List (Addr × Obj)} {σ : St} {H : Hp} {s : Shared} {A : Around} {v v' : V} {u u' : Value} (I : Inv X pins σ H s) (hu : A.units < cLine) (h : ValEq X.K H v v') (r : RelV v u) (r' : RelV v' u') : SeqAt.EqAt A s u u' true := by
  rcases h with ⟨rfl, hf⟩ | ⟨p, q, xs, rfl, rfl, hp, hq, hf⟩
  · exact eqAt_same hf r r' A s
  · cases r
    cases r'
    by_cases hpq : p = q
    · subst hpq; exact .same _
    · obtain ⟨its, r1, ⟨o, n, e1, c1, _, d1⟩, _⟩ := I.list hp
      obtain ⟨jts, r2, ⟨o2, n2, e2, c2, _, d2⟩, _⟩ := I.list hq
      have l1 := r1.length
      have l2 := r2.length
      have hR := SeqAt.RcAt.lists (A := A) (s := s) (e := fun _ => true) (l := p) (b := q) (items := its.toArray) (items2 := jts.toArray) ⟨o, e1, c1, n, d1⟩ ⟨o2, e2, c2, n2, d2⟩ (by simp; omega) hu (fun j h1 h2 => by
        simp at h1 h2
        obtain ⟨x, hx⟩ : ∃ x, xs[j]? = some x := ⟨xs[j]'(by omega), List.getElem?_eq_getElem (by omega)⟩
        obtain ⟨u1, g1, w1⟩ := r1.get hx
        obtain ⟨u2, g2, w2⟩ := r2.get hx
        have z1 : its.toArray[j]'(by simpa using h1) = u1 := by
          have := List.getElem?_eq_getElem h1
          rw [g1] at this
          simpa using (Option.some.inj this).symm
        have z2 : jts.toArray[j]'(by simpa using h2) = u2 := by
          have := List.getElem?_eq_getElem h2
          rw [g2] at this
          simpa using (Option.some.inj this).symm
        rw [z1, z2]
        exact eqAt_same (List.all_eq_true.mp hf x (List.mem_of_getElem? hx)) w1 w2 _ _)
      have : ((List.range its.toArray.size).all fun _ => true) = true := by simp
      rw [this] at hR
      exact .of_refs hpq hR
theorem o_eqD (hu : X.A.units + 64 < cLine) : OpR X (compareOp .Eq) (fun x y H Q => ∃ a b kvs lvs, x = .ref a ∧ y = .ref b ∧ Rd H a (.dK kvs) ∧ Rd H b (.dK lvs) ∧ kvs.length = lvs.length ∧
    (∀ k v, valV kvs k = some v → ∃ v', valV lvs k = some v' ∧ ValEq X.K H v v') ∧ Q (.bl true) H) := by
  intro pins s σ H x y v u Q I rx ry h
  obtain ⟨a, b, kvs, lvs, rfl, rfl, ha, hb, hl, hv, q⟩ := h
  cases rx
  cases ry
  obtain ⟨z, hs, vs, rel, dd⟩ := dk_rd I.hok ha
  obtain ⟨z2, hs2, vs2, rel2, dd2⟩ := dk_rd I.hok hb
  have e1 := rel.length
  have e2 := rel2.length
  refine wpAny_richCompare_same_room (op := .Eq) dd.typeIs dd2.typeIs PySem.F.slot_dict_eq (wpAny_call_entry PySem.F.slot_dict_eq dd.typeIs PySem.F.entry_dict_eq ?_ (PySem.F.args_dict_eq_2 _ _)) (by omega)
  show wpAny _ _ (Builtin.Dict.dictSlotArgs "__eq__" ⟨[.ref a, .ref b], []⟩ >>= _) _ _ _
  refine wpAny_bind ?_
  unfold Builtin.Dict.dictSlotArgs
  refine wpAny_bind (wpAny_notOrdered_dict dd.typeIs ?_)
  show wpAny _ _ (pure (Value.ref a, Value.ref b)) _ _ _
  refine wpAny_pure ?_
  refine wpAny_bind (wpAny_isInstance (T := "dict") (b := true) dd2.typeIs (by rw [isSubtype_type]; kernel_rfl) ?_)
  show wpAny _ _ (Builtin.Dict.samePairs "dict.__eq__" a b >>= _) _ _ _
  refine wpAny_bind (same_pairs hs hs2 dd dd2 (by omega) (fun i k v hi => ?_) ?_)
  · obtain ⟨⟨k', v'⟩, hkv⟩ : ∃ kv, kvs[i]? = some kv := ⟨kvs[i]'(by have := (List.getElem?_eq_some_iff.mp hi).1; omega), List.getElem?_eq_getElem _⟩
    have hr : k' = k ∧ RelV v' v := paired_at rel hkv hi
    obtain ⟨rfl, hrv⟩ := hr
    obtain ⟨w', hw, hq⟩ := hv k' v' (valV_at (by rw [rel.keys]; exact (dd.dictAt.choose_spec).nodup) hkv)
    have hval := rel2.val k'
    rw [hw] at hval
    cases hvv : valueAt vs2 k' with
    | none => rw [hvv] at hval; exact (show False from hval).elim
    | some u' =>
      rw [hvv] at hval
      exact ⟨u', rfl, eqAt_of I (show X.A.units + 1 < cLine by omega) hq hrv hval⟩
  · show wpAny _ _ (ret (.bool true)) _ _ _
    exact wpAny_pure ⟨.bool true, rfl, (fun z => nomatch z), .bl true, H, I, rfl, q⟩
end
end L2

set_option Elab.async false
set_option linter.all false
set_option maxRecDepth 100000
namespace L2
open PySem PySem.Spec PyProof.Rows
section
variable {X : Cx}
structure SplitOk (z y : Str) (ws : List Str) : Prop where
  h1 : (decide (z.length < y.length) || decide (Builtin.Str.strKind z < Builtin.Str.strKind y)) = false
  hy : (y.length == 0) = false
  hf : (Builtin.Str.occurrences z y 0 z.length (z.length + 1)).isEmpty = false
  hx : z.length ≤ sizeLine
  hn : ws.length ≤ sizeLine
  e : Builtin.Str.partsBetween z (Builtin.Str.occurrences z y 0 z.length (z.length + 1)) y.length = ws
def repS (z : Str) (n : Int) : Str := if n < 1 then Str.empty else if (n == 1 || z.length == 0) = true then z else ⟨(List.replicate n.toNat z.cps).foldl (· ++ ·) #[]⟩
def fMulA : R2 := fun x y H Q => match x, y with
  | .int i, .int j => CMul i j ∧ Q (.int (i * j)) H
  | .str z, .int n => n < 1000 ∧ -1000 < n ∧ z.length ≤ 1000 ∧ Q (.str (repS z n)) H
  | .ref p, .int k => ∃ xs, H p = some (.lst xs) ∧ -(2 ^ 63) ≤ k ∧ k < 2 ^ 63 ∧ xs.length * k.toNat ≤ sizeLine ∧ ∀ l, H l = none → Q (.ref l) (upd H l (.lst (List.replicate k.toNat xs).flatten))
  | _, _ => False
theorem fold_size (xs : List (Array Nat)) : ∀ acc : Array Nat, (xs.foldl (· ++ ·) acc).size = acc.size + (xs.map (·.size)).sum := by
  induction xs with
  | nil => intro acc; simp
  | cons x r ih => intro acc; rw [List.foldl_cons, ih, Array.size_append, List.map_cons, List.sum_cons]; omega
theorem rep_size (z : Str) (n : Nat) : (⟨(List.replicate n z.cps).foldl (· ++ ·) #[]⟩ : Str).length = n * z.length := by
  show ((List.replicate n z.cps).foldl (· ++ ·) #[]).size = _
  rw [fold_size, List.map_replicate]
  have : ∀ m k : Nat, (List.replicate m k).sum = m * k := fun m k => by
    induction m with
    | zero => simp
    | succ m ih => rw [List.replicate_succ, List.sum_cons, ih, Nat.succ_mul]; omega
  rw [this]
  simp [Str.length]
theorem o_mulA : OpR X (binaryOp .Mult) fMulA := by
  intro pins s σ H x y v u Q I rx ry h
  cases x with
  | int i =>
    cases y with
    | int j => exact o_mul pins s σ H _ _ v u Q I rx ry h
    | _ => exact (show False from h).elim
  | str z =>
    cases y with
    | int n =>
      obtain ⟨h1, h2, h3, q⟩ := h
      obtain ⟨t, rfl⟩ := rx
      obtain ⟨t2, rfl⟩ := ry
      have hb : ¬ n < 1 → n.toNat * z.length ≤ 1000000 := fun hn => by
        have e1 : n.toNat ≤ 1000 := by omega
        exact Nat.le_trans (Nat.mul_le_mul e1 h3) (by decide)
      refine P.mul_str (by rw [decide_eq_false (by omega), decide_eq_false (by omega)]; rfl) (fun hn _ => ?_) (fun hn _ => ?_) ?_
      · intro z1
        have h0 : (0 : Int) < n := by omega
        have := Int.lt_mul_of_ediv_lt h0 z1
        have e2 : ((z.length : Int)) * n ≤ 1000 * 1000 := Int.mul_le_mul (by omega) (by omega) (by omega) (by decide)
        omega
      · unfold Builtin.Str.tooLong
        have := hb hn
        rw [Nat.mul_comm] at this
        refine decide_eq_false ?_
        rw [sizeLine_eq]
        omega
      · unfold repS at q
        by_cases c1 : n < 1
        · rw [if_pos c1] at q ⊢
          exact ⟨by decide, .str _, H, I.tok _, ⟨_, rfl⟩, q⟩
        · rw [if_neg c1] at q ⊢
          by_cases c2 : (n == 1 || z.length == 0) = true
          · rw [if_pos c2] at q ⊢
            exact ⟨.str _, H, I, ⟨_, rfl⟩, q⟩
          · rw [if_neg c2] at q ⊢
            refine ⟨?_, .str _, H, I.tok _, ⟨_, rfl⟩, q⟩
            rw [rep_size]
            have := hb c1
            rw [sizeLine_eq]
            omega
    | _ => exact (show False from h).elim
  | ref p =>
    cases y with
    | int k =>
      obtain ⟨xs, h1, h2, h3, h4, q⟩ := h
      exact op_rep pins s σ H _ _ v u Q I rx ry ⟨p, k, xs, rfl, rfl, h1, h2, h3, h4, q⟩
    | _ => exact (show False from h).elim
  | _ => cases y <;> exact (show False from h).elim
end
end L2

set_option Elab.async false
set_option linter.all false
set_option maxRecDepth 100000
namespace L2
open PySem PySem.Spec PyProof.Rows
section
variable {X : Cx}
def DictEq (K : PySem.W.Frag) (H : Hp) (a b : Addr) : Prop := ∃ kvs lvs, Rd H a (.dK kvs) ∧ Rd H b (.dK lvs) ∧ kvs.length = lvs.length ∧ ∀ k v, valV kvs k = some v → ∃ v', valV lvs k = some v' ∧ ValEq K H v v'
def fEqU (K : PySem.W.Frag) : R2 := fun x y H Q => match x, y with
  | .ref p, .ref q => ((∃ d e, RepD K H (.ref p) d ∧ RepD K H (.ref q) e ∧ SeqAt.shaped d = true ∧ SeqAt.shaped e = true ∧ Q (.bl (PyData.eqv d e)) H) ∨ (∃ xs, SqL K H p xs ∧ SqL K H q xs ∧ xs.all flatR = true ∧ Q (.bl true) H)) ∨ (DictEq K H p q ∧ Q (.bl true) H)
  | x, y => scal x y = true ∧ Q (.bl (decide (x = y))) H
theorem o_eqU (hu : X.A.units + 64 < cLine) : OpR X (compareOp .Eq) (fEqU X.K) := ((o_eqA hu).or (o_eqD hu)).imp fun x y H Q q => by
  by_cases hr : ∃ p q, x = V.ref p ∧ y = V.ref q
  · obtain ⟨p, q', rfl, rfl⟩ := hr
    rcases q with q | ⟨⟨kvs, lvs, h1, h2, h3, h4⟩, h5⟩
    · exact .inl q
    · exact .inr ⟨p, q', kvs, lvs, rfl, rfl, h1, h2, h3, h4, h5⟩
  · refine .inl ?_
    cases x <;> cases y <;> first | exact q | exact absurd ⟨_, _, rfl, rfl⟩ hr
theorem c_lenA : CallR X (.builtin "len") (fun xs H Q => (∃ x n, xs = [x] ∧ LenV X.K x H n ∧ Q (.int n) H) ∨ ∃ a kvs, xs = [.ref a] ∧ Rd H a (.dK kvs) ∧ Q (.int (kvs.length : Nat)) H) := c_len.or c_lenD
theorem c_listA (hc : X.calm = true := by rfl) : CallR X (.type "list") (fun xs H Q => (∃ p ys, xs = [.ref p] ∧ (SqL X.K H p ys ∨ SqT X.K H p ys) ∧ ∀ l, H l = none → Q (.ref l) (upd H l (.lst ys))) ∨ ∃ d kvs, xs = [.ref d] ∧ Rd H d (.dK kvs) ∧ ∀ l, H l = none → Q (.ref l) (upd H l (.lst (kvs.map fun kv => kV kv.1)))) := c_list.or (c_listD hc)
end
end L2

set_option Elab.async false
set_option linter.all false
set_option maxRecDepth 100000
namespace L2
open PySem PySem.Spec PyProof.Rows
section
variable {X : Cx} {pins : List (Addr × Obj)} {σ : St} {H : Hp} {s : Shared}
def Itz (K : PySem.W.Frag) (a b : Addr) : It :=
  ⟨fun i H => ∃ xs ys x y, SqL K H a xs ∧ SqL K H b ys ∧ xs[i]? = some x ∧ ys[i]? = some y,
   fun i H v H' => ∃ T x y, v = .ref T ∧ H T = none ∧ H' = upd H T (.tup [x, y]) ∧ ∀ xs ys, SqL K H a xs → SqL K H b ys → xs[i]? = some x ∧ ys[i]? = some y,
   fun i H => ∃ xs ys, SqL K H a xs ∧ SqL K H b ys ∧ (xs.length ≤ i ∨ ys.length ≤ i)⟩
def ZipAt (z TI TO i1 i2 a b : Addr) (i : Nat) (h : Heap) : Prop := IsZip h z TI TO .none ∧ IsPair h TI (.ref i1) (.ref i2) ∧ (∃ u v, IsPair h TO u v) ∧ h.IsListIter i1 a i ∧ h.IsListIter i2 b i
theorem turn_zip {P : Program} {w : World} {K : PySem.W.Frag} {elts : List Expr} {x1} {pos : Pos} {a b z TI TO i1 i2 : Addr} (D : ZipApart z TI TO i1 i2 a b) :
    Turn P w K (.Tuple elts x1 pos) (Itz K a b) [z, TI, TO, i1, i2] z (ZipAt z TI TO i1 i2 a b) where
  mem := by simp
  obj := fun i h st c hc => by
    obtain ⟨hz, hI, ⟨u, v, hO⟩, ⟨o1, e1, _, d1⟩, ⟨o2, e2, _, d2⟩⟩ := st
    simp only [List.mem_cons, List.not_mem_nil, or_false] at hc
    rcases hc with rfl | rfl | rfl | rfl | rfl
    · exact ⟨_, hz, fun v q => by cases (show Data.fields _ = Data.cell v from q)⟩
    · exact ⟨_, hI, fun v q => by cases (show Data.seq _ _ = Data.cell v from q)⟩
    · exact ⟨_, hO, fun v q => by cases (show Data.seq _ _ = Data.cell v from q)⟩
    · exact ⟨o1, e1, fun v q => by rw [d1] at q; cases q⟩
    · exact ⟨o2, e2, fun v q => by rw [d2] at q; cases q⟩
  keep := fun i h h' st k => by
    obtain ⟨hz, hI, ⟨u, v, hO⟩, h1, h2⟩ := st
    exact ⟨k z (by simp) _ hz, k TI (by simp) _ hI, ⟨u, v, k TO (by simp) _ hO⟩, h1.at fun o e => k i1 (by simp) o e, h2.at fun o e => k i2 (by simp) o e⟩
  item := by
    intro X hP hw hK hc i pins s σ H E I hf st hg
    subst hP hw hK
    obtain ⟨xs, ys, x, y, hq, hq', hx, hy⟩ := hg
    obtain ⟨its, rv, p, hz'⟩ := I.list hq
    obtain ⟨its', rv', p', hz''⟩ := I.list hq'
    obtain ⟨u, hu, ru⟩ := rv.get hx
    obtain ⟨v, hv, rv2⟩ := rv'.get hy
    obtain ⟨hz, hI, ⟨u0, v0, hO⟩, h1, h2⟩ := st
    have hT := I.fpOk (H' := H) (Nat.le_refl s.heap.objs.size) (I.hok.fresh (Nat.le_refl _))
    have lt : ∀ {c : Addr} {o : Obj}, s.heap.get? c = some o → s.heap.objs.size ≠ c := fun e => Nat.ne_of_gt (Heap.lt_size e)
    refine wpAny_pyNext_zip_item D hz hI hO h1 h2 p.isList p'.isList (x := u) (y := v) (by simpa using hu) (by simpa using hv) fun h' a1 a2 a3 a4 a5 a6 a7 => ?_
    have I1 : Inv X pins σ H { s with heap := h', toks := s.toks } := I.turnedL (ch := [z, TI, TO, i1, i2]) hf fun c o hc q => a7 c o (fun e => hc (by simp [e])) (fun e => hc (by simp [e])) (fun e => hc (by simp [e])) (fun e => hc (by simp [e])) q
    have I2 := I1.track (u := .tup [x, y]) hT I.sz ⟨by show 2 ≤ sizeLine; decide, [u, v], .cons ru (.cons rv2 .nil), ⟨_, a5, rfl, _, rfl⟩⟩
    refine ⟨_, rfl, wpAny_letOwnedTupleGo_zip (s := { s with heap := h' }) a1 fun h2' hz2 hs2 => ?_⟩
    have f0 := hf z (by simp)
    have hI' : h'.get? TI = _ := a7 TI _ D.TIz D.TITO D.TIi1 D.TIi2 hI
    have zT : z ≠ s.heap.objs.size := Ne.symm (lt hz)
    refine ⟨.ref s.heap.objs.size, _, I2.turned (t' := s.toks) (it := z) (fun c o hc q => (hs2.2 c hc).trans q) (by rw [upd_ne zT]; exact f0.1) f0.2.1 f0.2.2.2.1 f0.2.2.2.2.1 f0.2.2.2.2.2, rfl,
      ⟨_, x, y, rfl, hT.1, rfl, fun xs' ys' q q' => by rw [I.list_inj q hq, I.list_inj q' hq']; exact ⟨hx, hy⟩⟩, ⟨hz2, (hs2.2 TI D.TIz).trans hI', ⟨u, v, (hs2.2 TO D.TOz).trans a2⟩, a3.at fun o q => (hs2.2 i1 D.i1z).trans q, a4.at fun o q => (hs2.2 i2 D.i2z).trans q⟩, fun c hc => ?_⟩
    have cT : c ≠ s.heap.objs.size := by
      simp only [List.mem_cons, List.not_mem_nil, or_false] at hc
      rcases hc with rfl | rfl | rfl | rfl | rfl
      · exact zT
      · exact Ne.symm (lt hI)
      · exact Ne.symm (lt hO)
      · obtain ⟨o, e, _⟩ := h1; exact Ne.symm (lt e)
      · obtain ⟨o, e, _⟩ := h2; exact Ne.symm (lt e)
    rw [upd_ne cT]
    exact (hf c hc).1
  done := by
    intro X hP hw hK hc i pins s σ H E I hf st hg
    subst hP hw hK
    obtain ⟨xs, ys, hq, hq', hx⟩ := hg
    obtain ⟨its, rv, p, hz'⟩ := I.list hq
    obtain ⟨its', rv', p', hz''⟩ := I.list hq'
    obtain ⟨hz, hI, ⟨u0, v0, hO⟩, h1, h2⟩ := st
    have hl := rv.length
    have hl' := rv'.length
    refine wpAny_pyNext_zip_end (I.ok.hd hc) D hz hI hO h1 h2 p.isList p'.isList (by simp; omega) fun h' eb => ⟨rfl, ?_⟩
    exact I.turnedL (ch := [z, TI, TO, i1, i2]) hf fun c o hc q => eb c o (fun e => hc (by simp [e])) (fun e => hc (by simp [e])) (fun e => hc (by simp [e])) (fun e => hc (by simp [e])) q
  self := fun _ _ _ _ _ st h => wpAny_pyIter_zip st.1 h
def iZip (K : PySem.W.Frag) (ta : TA) : TI := fun σ H R => ta σ H fun vs H1 => ∃ a b, vs = [.ref a, .ref b] ∧ (∃ xs, SqL K H1 a xs) ∧ (∃ ys, SqL K H1 b ys) ∧ R (Itz K a b) H1
theorem boot_zip' : bootBuiltins "zip" = some (.type "zip") := by decide +kernel
theorem pi_zip {a b : Expr} {ta : TA} {p pos : Pos} {elts : List Expr} {x1} {pos2 : Pos} (hg : Gl X "zip") (hm : X.mg "zip" = none) (ha : PA X [a, b] ta) (he : starEach [a, b] X.env = (false, eval a X.env) :: starEach [b] X.env := by rfl)
    (hpl : (backTo pos (starEach [b] X.env)).any (·.1) = false := by rfl) : PI X (.Tuple elts x1 pos2) (.Call (.Name "zip" p) [a, b] [] pos) (iZip X.K ta) := by
  intro pins s σ H R I h
  refine Call_ (ld_blt I hg hm boot_zip' (PyProof.Rows.callWith_type1 (thn (ha pos pins s σ H _ I h) fun us s1 ⟨vs, H1, I1, r1, q1⟩ => ?_) he hpl))
  obtain ⟨a, b, e, ⟨xs, hq⟩, ⟨ys, hq'⟩, q⟩ := q1
  subst e
  obtain ⟨u, v, rfl, ru, rv⟩ := vals2 r1
  cases ru
  cases rv
  obtain ⟨its, rv1, p1, hz1⟩ := I1.list hq
  obtain ⟨its', rv2, p2, hz2⟩ := I1.list hq'
  have lt : ∀ {c : Addr} {zs : Array Value}, s1.heap.IsList c zs → c < s1.heap.objs.size := fun h => by obtain ⟨o, e, _⟩ := h; exact Heap.lt_size e
  refine call_zip_2 p1.isList p2.isList fun h' hz hI hO h1 h2 hsz hk => ?_
  refine wpAny_pyIter_zip hz ?_
  refine ⟨s1.heap.objs.size + 4, [s1.heap.objs.size + 4, s1.heap.objs.size + 2, s1.heap.objs.size + 3, s1.heap.objs.size, s1.heap.objs.size + 1], _, _, H1, rfl, I1.kept (t' := s1.toks) hk, turn_zip (zipApart_new (lt p1.isList) (lt p2.isList)), ⟨hz, hI, ⟨_, _, hO⟩, h1, h2⟩, fun c hc => ?_, q⟩
  have le : s1.heap.objs.size ≤ c := by
    simp only [List.mem_cons, List.not_mem_nil, or_false] at hc
    rcases hc with h | h | h | h | h
    · rw [h]; exact Nat.le_add_right _ _
    · rw [h]; exact Nat.le_add_right _ _
    · rw [h]; exact Nat.le_add_right _ _
    · rw [h]; exact Nat.le_refl _
    · rw [h]; exact Nat.le_add_right _ _
  exact I1.fpOk le (I1.hok.fresh le)
end
theorem for_zip {K : PySem.W.Frag} {a b : Addr} {xs ys : List V} {g : TG} {tb : TS} {D : Ends} {σ : St} {H : Hp} (Pv : Nat → St → Hp → Prop) (h0 : Pv 0 σ H) (hl : ∀ i σ H, i ≤ xs.length → Pv i σ H → SqL K H a xs ∧ SqL K H b ys) (hle : xs.length = ys.length)
    (hs : ∀ i x y σ H T, xs[i]? = some x → ys[i]? = some y → Pv i σ H → H T = none → g (.ref T) σ (upd H T (.tup [x, y])) fun σ2 H2 => tb { D with nx := Pv (i + 1), ct := Pv (i + 1), bk := D.nx } σ2 H2) (hd : ∀ σ H, Pv xs.length σ H → D.nx σ H) :
    ∃ W : Nat → Nat → St → Hp → Prop, (∃ m, W 0 m σ H) ∧ ∀ i m σ H, W i m σ H →
      ((Itz K a b).stop i H ∧ D.nx σ H) ∨ ((Itz K a b).go i H ∧ ∃ N : St → Hp → Prop, (∀ σ' H', N σ' H' → ∃ m', m' < m ∧ W (i + 1) m' σ' H') ∧ ∀ x H', (Itz K a b).yld i H x H' → g x σ H' fun σ2 H2 => tb { D with nx := N, ct := N, bk := D.nx } σ2 H2) := by
  refine ⟨fun i m σ H => m = xs.length - i ∧ i ≤ xs.length ∧ Pv i σ H, ⟨xs.length, by simp, Nat.zero_le _, h0⟩, ?_⟩
  rintro i m σ H ⟨rfl, hi, p⟩
  obtain ⟨q, q'⟩ := hl i σ H hi p
  by_cases hlt : i < xs.length
  · have hlt' : i < ys.length := by omega
    refine .inr ⟨⟨xs, ys, xs[i], ys[i], q, q', by simp [hlt], by simp [hlt']⟩, Pv (i + 1), fun σ' H' p' => ⟨xs.length - (i + 1), by omega, rfl, hlt, p'⟩, fun v H' y => ?_⟩
    obtain ⟨T, x, y, rfl, hT, rfl, h⟩ := y
    obtain ⟨e1, e2⟩ := h xs ys q q'
    exact hs i x y σ _ T e1 e2 p hT
  · have e : i = xs.length := by omega
    subst e
    exact .inl ⟨⟨xs, ys, q, q', Or.inl (Nat.le_refl _)⟩, hd σ H p⟩
theorem comp_relF {K : PySem.W.Frag} {a : Addr} {xs : List V} {fr : List Nat} {tf : CB → TT} {te : CB → TE} {Q : VK} {σ : St} {H1 : Hp} (p : V → Bool) (R : V → Hp → Prop) (hx : SqL K H1 a xs) (hn : xs.length < sizeLine)
    (hf : ∀ b x H (G : Bool → Hp → Prop), x ∈ xs → Same H1 H → (∀ H', Same H H' → G (p x) H') → tf b (some x :: cFr fr σ) H G)
    (he : ∀ b x H (G : VK), x ∈ xs → p x = true → Same H1 H → (∀ y H', Same H H' → R y H' → G y H') → te b (some x :: cFr fr σ) H G)
    (mono : ∀ y H H', Same H H' → R y H → R y H') (st : ∀ y H D ys zs, H D = some (.lst ys) → R y H → R y (upd H D (.lst zs)))
    (fin : ∀ D H ys, H1 D = none → Same H1 H → H D = some (.lst ys) → ys.length ≤ xs.length → (∀ y ∈ ys, R y H) → Q (.ref D) H) : tBlock (Itl K a) 1 fr (fun _ => gName 0) tf te Q σ H1 := by
  refine ⟨fun b D hD => ?_⟩
  refine ⟨fun i m σ' H' => m = xs.length - i ∧ i ≤ xs.length ∧ (∃ v0, σ' = v0 :: cFr fr σ) ∧ Same H1 H' ∧ ∃ ys, H' D = some (.lst ys) ∧ ys.length ≤ i ∧ ∀ y ∈ ys, R y H', ⟨xs.length, rfl, Nat.zero_le _, ⟨none, rfl⟩, Same.upd hD _, [], upd_same, Nat.le_refl _, fun y h => by cases h⟩, ?_⟩
  rintro i m σ' H' ⟨rfl, hi, ⟨v0, rfl⟩, sm, ys, hl, hy, hR⟩
  by_cases hlt : i < xs.length
  · refine .inr ⟨⟨xs, xs[i], sm.seq hx, List.getElem?_eq_getElem hlt⟩, fun σ2 H2 => (∃ v0, σ2 = v0 :: cFr fr σ) ∧ Same H1 H2 ∧ ∃ ys, H2 D = some (.lst ys) ∧ ys.length ≤ i + 1 ∧ ∀ y ∈ ys, R y H2, fun σ2 H2 q => ⟨xs.length - (i + 1), by omega, rfl, hlt, q⟩, fun v H2 y => ?_⟩
    obtain ⟨rfl, yv⟩ := y
    have ev := yv xs (sm.seq hx)
    have mem : v ∈ xs := List.mem_of_getElem? ev
    show tf b (some v :: cFr fr σ) _ _
    refine hf b v _ _ mem sm fun H3 s3 => ?_
    cases hp : p v with
    | false =>
      rw [if_neg Bool.false_ne_true]
      exact ⟨⟨_, rfl⟩, sm.trans s3, ys, s3 _ _ hl, by omega, fun y h => mono _ _ _ s3 (hR y h)⟩
    | true =>
      rw [if_pos rfl]
      refine he b v _ _ mem hp (sm.trans s3) fun z H4 s4 rz => ⟨ys, s4 _ _ (s3 _ _ hl), by omega, ⟨_, rfl⟩, ?_, ys ++ [z], upd_same, by simp; omega, fun y h => ?_⟩
      · intro c o q
        by_cases hc : c = D
        · rw [hc, hD] at q; cases q
        · rw [upd_ne hc]; exact (sm.trans (s3.trans s4)) c o q
      · have hD4 := s4 _ _ (s3 _ _ hl)
        rcases List.mem_append.mp h with h | h
        · exact st _ _ _ _ _ hD4 (mono _ _ _ (s3.trans s4) (hR y h))
        · rw [List.mem_singleton] at h
          subst h
          exact st _ _ _ _ _ hD4 rz
  · have e : i = xs.length := by omega
    subst e
    exact .inl ⟨⟨xs, sm.seq hx, Nat.le_refl _⟩, fin D H' ys hD sm hl hy hR⟩
end L2

set_option Elab.async false
set_option linter.all false
set_option maxRecDepth 100000
set_option maxHeartbeats 4000000
namespace K25
open PySem L2
abbrev s_wall : Stmt := top 0
abbrev s_is_number : Stmt := top 23
theorem sc_is_number : FnScope ["thing"] ["thing"] (defScope s_is_number) := ⟨rfl, rfl, rfl, by decide +kernel, rfl, by decide +kernel, by decide +kernel⟩
abbrev s_is_good : Stmt := top 24
theorem sc_is_good : FnScope ["gift", "size"] ["gift", "size"] (defScope s_is_good) := ⟨rfl, rfl, rfl, by decide +kernel, rfl, by decide +kernel, by decide +kernel⟩
abbrev s_given_cell : Stmt := top 25
theorem sc_given_cell : FnScope ["given", "gifts", "gift"] ["given", "gifts"] (defScope s_given_cell) := ⟨rfl, rfl, rfl, by decide +kernel, rfl, by decide +kernel, by decide +kernel⟩
abbrev s_own_cell : Stmt := top 26
theorem sc_own_cell : FnScope ["own"] ["own"] (defScope s_own_cell) := ⟨rfl, rfl, rfl, by decide +kernel, rfl, by decide +kernel, by decide +kernel⟩
abbrev s_cells_of : Stmt := top 27
theorem sc_cells_of : FnScope ["program", "gifts", "cells", "head", "deed", "part"] ["program", "gifts"] (defScope s_cells_of) := ⟨rfl, rfl, rfl, by decide +kernel, rfl, by decide +kernel, by decide +kernel⟩
abbrev s_reckon : Stmt := top 30
theorem sc_reckon : FnScope ["one", "word", "other"] ["one", "word", "other"] (defScope s_reckon) := ⟨rfl, rfl, rfl, by decide +kernel, rfl, by decide +kernel, by decide +kernel⟩
abbrev s_round_place : Stmt := top 31
abbrev s_ends_of : Stmt := top 34
theorem sc_ends_of : FnScope ["program", "cells"] ["program", "cells"] (defScope s_ends_of) := ⟨rfl, rfl, rfl, by decide +kernel, rfl, by decide +kernel, by decide +kernel⟩
abbrev s_run : Stmt := top 35
theorem sc_run : FnScope ["program", "gifts", "state", "book"] ["program", "gifts"] (defScope s_run) := ⟨rfl, rfl, rfl, by decide +kernel, rfl, by decide +kernel, by decide +kernel⟩
abbrev s_law_cell_at : Stmt := top 37
theorem sc_law_cell_at : FnScope ["_law_script", "_law_k"] ["_law_script", "_law_k"] (defScope s_law_cell_at) := ⟨rfl, rfl, rfl, by decide +kernel, rfl, by decide +kernel, by decide +kernel⟩
abbrev s_law_draws : Stmt := top 38
theorem sc_law_draws : FnScope ["_law_script", "_law_shape"] ["_law_script"] (defScope s_law_draws) := ⟨rfl, rfl, rfl, by decide +kernel, rfl, by decide +kernel, by decide +kernel⟩
abbrev s_law_body : Stmt := top 39
theorem sc_law_body : FnScope ["_law_shape", "_law_at", "_law_idles", "_law_here", "_law_there", "_law_inner_here", "_law_loop", "_law_test_here", "_law_rows_here", "_law_behind"] ["_law_shape", "_law_at"] (defScope s_law_body) := ⟨rfl, rfl, rfl, by decide +kernel, rfl, by decide +kernel, by decide +kernel⟩
abbrev s_law_spots : Stmt := top 40
theorem sc_law_spots : FnScope ["_law_shape", "_law_at"] ["_law_shape", "_law_at"] (defScope s_law_spots) := ⟨rfl, rfl, rfl, by decide +kernel, rfl, by decide +kernel, by decide +kernel⟩
abbrev s_law_rows : Stmt := top 41
theorem sc_law_rows : FnScope ["_law_shape", "_law_at", "_law_rows_here", "_law_loop", "_law_behind"] ["_law_shape", "_law_at"] (defScope s_law_rows) := ⟨rfl, rfl, rfl, by decide +kernel, rfl, by decide +kernel, by decide +kernel⟩
abbrev s_law_program : Stmt := top 42
theorem sc_law_program : FnScope ["_law_shape", "_law_heads", "_law_rows_here", "_law_behind", "_law_calls"] ["_law_shape"] (defScope s_law_program) := ⟨rfl, rfl, rfl, by decide +kernel, rfl, by decide +kernel, by decide +kernel⟩
abbrev s_law_tell : Stmt := top 43
theorem sc_law_tell : FnScope ["_law_book", "_law_at", "_law_hand", "_law_told"] ["_law_book", "_law_at", "_law_hand", "_law_told"] (defScope s_law_tell) := ⟨rfl, rfl, rfl, by decide +kernel, rfl, by decide +kernel, by decide +kernel⟩
abbrev s_law_test : Stmt := top 44
theorem sc_law_test : FnScope ["_law_shape", "_law_book", "_law_at", "_law_count"] ["_law_shape", "_law_book", "_law_at", "_law_count"] (defScope s_law_test) := ⟨rfl, rfl, rfl, by decide +kernel, rfl, by decide +kernel, by decide +kernel⟩
abbrev s_law_inner : Stmt := top 45
theorem sc_law_inner : FnScope ["_law_shape", "_law_book", "_law_at", "_law_count", "_law_rounds", "_law_k"] ["_law_shape", "_law_book", "_law_at", "_law_count"] (defScope s_law_inner) := ⟨rfl, rfl, rfl, by decide +kernel, rfl, by decide +kernel, by decide +kernel⟩
abbrev s_law_follow : Stmt := top 46
theorem sc_law_follow : FnScope ["_law_shape", "_law_book", "_law_at", "_law_idles", "_law_rounds", "_law_here", "_law_there", "_law_behind", "_law_count"] ["_law_shape", "_law_book", "_law_at"] (defScope s_law_follow) := ⟨rfl, rfl, rfl, by decide +kernel, rfl, by decide +kernel, by decide +kernel⟩
abbrev s_law_same : Stmt := top 47
theorem sc_law_same : FnScope ["_law_found", "_law_due", "_law_k"] ["_law_found", "_law_due"] (defScope s_law_same) := ⟨rfl, rfl, rfl, by decide +kernel, rfl, by decide +kernel, by decide +kernel⟩
abbrev s_law : Stmt := top 48
theorem sc_law : FnScope ["_law_script", "_law_shape", "_law_book", "_law_behind", "_law_k", "_law_found"] ["_law_script"] (defScope s_law) := ⟨rfl, rfl, rfl, by decide +kernel, rfl, by decide +kernel, by decide +kernel⟩
abbrev s_Book_init : Stmt := inClass (top 2) 0
theorem sc_Book_init : FnScope ["self"] ["self"] (defScope s_Book_init) := ⟨rfl, rfl, rfl, by decide +kernel, rfl, by decide +kernel, by decide +kernel⟩
abbrev s_Row_init : Stmt := inClass (top 7) 0
theorem sc_Row_init : FnScope ["self", "number"] ["self", "number"] (defScope s_Row_init) := ⟨rfl, rfl, rfl, by decide +kernel, rfl, by decide +kernel, by decide +kernel⟩
abbrev s_Row_reads : Stmt := inClass (top 7) 1
abbrev s_Row_target : Stmt := inClass (top 7) 2
abbrev s_HandRow_init : Stmt := inClass (top 8) 0
theorem sc_HandRow_init : FnScope ["self", "number", "name", "rank"] ["self", "number", "name", "rank"] (defScope s_HandRow_init) := ⟨rfl, rfl, rfl, by decide +kernel, rfl, by decide +kernel, by decide +kernel⟩
abbrev s_HandRow_shown : Stmt := inClass (top 8) 1
abbrev s_GivenRow_init : Stmt := inClass (top 9) 0
theorem sc_GivenRow_init : FnScope ["self", "number", "name", "rank", "size"] ["self", "number", "name", "rank", "size"] (defScope s_GivenRow_init) := ⟨rfl, rfl, rfl, by decide +kernel, rfl, by decide +kernel, by decide +kernel⟩
abbrev s_GivenRow_shown : Stmt := inClass (top 9) 1
abbrev s_OwnRow_init : Stmt := inClass (top 10) 0
theorem sc_OwnRow_init : FnScope ["self", "number", "name", "size"] ["self", "number", "name", "size"] (defScope s_OwnRow_init) := ⟨rfl, rfl, rfl, by decide +kernel, rfl, by decide +kernel, by decide +kernel⟩
abbrev s_OwnRow_shown : Stmt := inClass (top 10) 1
abbrev s_SetRow_init : Stmt := inClass (top 11) 0
theorem sc_SetRow_init : FnScope ["self", "number", "name", "value"] ["self", "number", "name", "value"] (defScope s_SetRow_init) := ⟨rfl, rfl, rfl, by decide +kernel, rfl, by decide +kernel, by decide +kernel⟩
abbrev s_SetRow_shown : Stmt := inClass (top 11) 1
abbrev s_SetRow_reads : Stmt := inClass (top 11) 2
abbrev s_SetRow_target : Stmt := inClass (top 11) 3
abbrev s_PutRow_init : Stmt := inClass (top 12) 0
abbrev s_PutRow_shown : Stmt := inClass (top 12) 1
abbrev s_PutRow_reads : Stmt := inClass (top 12) 2
abbrev s_PutRow_target : Stmt := inClass (top 12) 3
abbrev s_SendRow_init : Stmt := inClass (top 13) 0
theorem sc_SendRow_init : FnScope ["self", "number", "name", "value"] ["self", "number", "name", "value"] (defScope s_SendRow_init) := ⟨rfl, rfl, rfl, by decide +kernel, rfl, by decide +kernel, by decide +kernel⟩
abbrev s_SendRow_shown : Stmt := inClass (top 13) 1
abbrev s_SendRow_reads : Stmt := inClass (top 13) 2
abbrev s_SayRow_init : Stmt := inClass (top 14) 0
abbrev s_SayRow_shown : Stmt := inClass (top 14) 1
abbrev s_SayRow_reads : Stmt := inClass (top 14) 2
abbrev s_SayRow_target : Stmt := inClass (top 14) 3
abbrev s_CallRow_init : Stmt := inClass (top 15) 0
theorem sc_CallRow_init : FnScope ["self", "number", "name", "things"] ["self", "number", "name", "things"] (defScope s_CallRow_init) := ⟨rfl, rfl, rfl, by decide +kernel, rfl, by decide +kernel, by decide +kernel⟩
abbrev s_CallRow_shown : Stmt := inClass (top 15) 1
abbrev s_CallRow_reads : Stmt := inClass (top 15) 2
abbrev s_LastRow_shown : Stmt := inClass (top 16) 0
abbrev s_IfRow_init : Stmt := inClass (top 17) 0
theorem sc_IfRow_init : FnScope ["self", "number", "value", "first", "other", "left", "right"] ["self", "number", "value", "first", "other", "left", "right"] (defScope s_IfRow_init) := ⟨rfl, rfl, rfl, by decide +kernel, rfl, by decide +kernel, by decide +kernel⟩
abbrev s_IfRow_shown : Stmt := inClass (top 17) 1
abbrev s_IfRow_reads : Stmt := inClass (top 17) 2
abbrev s_LoopRow_init : Stmt := inClass (top 18) 0
theorem sc_LoopRow_init : FnScope ["self", "number", "thing", "most", "body", "left", "right"] ["self", "number", "thing", "most", "body", "left", "right"] (defScope s_LoopRow_init) := ⟨rfl, rfl, rfl, by decide +kernel, rfl, by decide +kernel, by decide +kernel⟩
abbrev s_LoopRow_shown : Stmt := inClass (top 18) 1
abbrev s_LoopRow_reads : Stmt := inClass (top 18) 2
abbrev s_DeedRow_init : Stmt := inClass (top 19) 0
theorem sc_DeedRow_init : FnScope ["self", "number", "name", "parts", "body"] ["self", "number", "name", "parts", "body"] (defScope s_DeedRow_init) := ⟨rfl, rfl, rfl, by decide +kernel, rfl, by decide +kernel, by decide +kernel⟩
abbrev s_DeedRow_shown : Stmt := inClass (top 19) 1
abbrev s_Program_init : Stmt := inClass (top 20) 0
theorem sc_Program_init : FnScope ["self", "heads", "deeds", "main"] ["self", "heads", "deeds", "main"] (defScope s_Program_init) := ⟨rfl, rfl, rfl, by decide +kernel, rfl, by decide +kernel, by decide +kernel⟩
abbrev s_Run_init : Stmt := inClass (top 33) 0
theorem sc_Run_init : FnScope ["self", "program", "cells", "deed"] ["self", "program", "cells"] (defScope s_Run_init) := ⟨rfl, rfl, rfl, by decide +kernel, rfl, by decide +kernel, by decide +kernel⟩
abbrev s_Run_number_at : Stmt := inClass (top 33) 1
theorem sc_Run_number_at : FnScope ["self", "thing"] ["self", "thing"] (defScope s_Run_number_at) := ⟨rfl, rfl, rfl, by decide +kernel, rfl, by decide +kernel, by decide +kernel⟩
abbrev s_Run_number_for : Stmt := inClass (top 33) 2
theorem sc_Run_number_for : FnScope ["self", "value", "behind", "numbers"] ["self", "value"] (defScope s_Run_number_for) := ⟨rfl, rfl, rfl, by decide +kernel, rfl, by decide +kernel, by decide +kernel⟩
abbrev s_Run_number_told : Stmt := inClass (top 33) 3
theorem sc_Run_number_told : FnScope ["self", "row"] ["self", "row"] (defScope s_Run_number_told) := ⟨rfl, rfl, rfl, by decide +kernel, rfl, by decide +kernel, by decide +kernel⟩
abbrev s_Run_pass_steps : Stmt := inClass (top 33) 4
theorem sc_Run_pass_steps : FnScope ["self", "count", "book"] ["self", "count"] (defScope s_Run_pass_steps) := ⟨rfl, rfl, rfl, by decide +kernel, rfl, by decide +kernel, by decide +kernel⟩
abbrev s_Run_do_rows : Stmt := inClass (top 33) 5
theorem sc_Run_do_rows : FnScope ["self", "rows", "ending", "row"] ["self", "rows"] (defScope s_Run_do_rows) := ⟨rfl, rfl, rfl, by decide +kernel, rfl, by decide +kernel, by decide +kernel⟩
abbrev s_Run_do_row : Stmt := inClass (top 33) 6
theorem sc_Run_do_row : FnScope ["self", "row", "book", "told"] ["self", "row"] (defScope s_Run_do_row) := ⟨rfl, rfl, rfl, by decide +kernel, rfl, by decide +kernel, by decide +kernel⟩
abbrev s_Run_do_put : Stmt := inClass (top 33) 7
abbrev s_Run_do_call : Stmt := inClass (top 33) 8
theorem sc_Run_do_call : FnScope ["self", "row", "deed", "numbers", "part", "number"] ["self", "row"] (defScope s_Run_do_call) := ⟨rfl, rfl, rfl, by decide +kernel, rfl, by decide +kernel, by decide +kernel⟩
abbrev s_Run_do_if : Stmt := inClass (top 33) 9
theorem sc_Run_do_if : FnScope ["self", "row", "ending"] ["self", "row"] (defScope s_Run_do_if) := ⟨rfl, rfl, rfl, by decide +kernel, rfl, by decide +kernel, by decide +kernel⟩
abbrev s_Run_do_loop : Stmt := inClass (top 33) 10
theorem sc_Run_do_loop : FnScope ["self", "row", "wanted", "done", "ending"] ["self", "row"] (defScope s_Run_do_loop) := ⟨rfl, rfl, rfl, by decide +kernel, rfl, by decide +kernel, by decide +kernel⟩
structure Adr where
  Book : Addr
  Row : Addr
  HandRow : Addr
  GivenRow : Addr
  OwnRow : Addr
  SetRow : Addr
  PutRow : Addr
  SendRow : Addr
  SayRow : Addr
  CallRow : Addr
  LastRow : Addr
  IfRow : Addr
  LoopRow : Addr
  DeedRow : Addr
  Program : Addr
  Run : Addr
structure Txt (K : PySem.W.Frag) (mg : Str → Option Value) (A : Adr) : Prop where
  is_number : TopFn K mg "is_number" s_is_number ["thing"]
  is_good : TopFn K mg "is_good" s_is_good ["gift", "size"]
  given_cell : TopFn K mg "given_cell" s_given_cell ["given", "gifts"]
  own_cell : TopFn K mg "own_cell" s_own_cell ["own"]
  cells_of : TopFn K mg "cells_of" s_cells_of ["program", "gifts"]
  reckon : TopFn K mg "reckon" s_reckon ["one", "word", "other"]
  ends_of : TopFn K mg "ends_of" s_ends_of ["program", "cells"]
  run : TopFn K mg "run" s_run ["program", "gifts"]
  law_cell_at : TopFn K mg "_law_cell_at" s_law_cell_at ["_law_script", "_law_k"]
  law_draws : TopFn K mg "_law_draws" s_law_draws ["_law_script"]
  law_body : TopFn K mg "_law_body" s_law_body ["_law_shape", "_law_at"]
  law_spots : TopFn K mg "_law_spots" s_law_spots ["_law_shape", "_law_at"]
  law_rows : TopFn K mg "_law_rows" s_law_rows ["_law_shape", "_law_at"]
  law_program : TopFn K mg "_law_program" s_law_program ["_law_shape"]
  law_tell : TopFn K mg "_law_tell" s_law_tell ["_law_book", "_law_at", "_law_hand", "_law_told"]
  law_test : TopFn K mg "_law_test" s_law_test ["_law_shape", "_law_book", "_law_at", "_law_count"]
  law_inner : TopFn K mg "_law_inner" s_law_inner ["_law_shape", "_law_book", "_law_at", "_law_count"]
  law_follow : TopFn K mg "_law_follow" s_law_follow ["_law_shape", "_law_book", "_law_at"]
  law_same : TopFn K mg "_law_same" s_law_same ["_law_found", "_law_due"]
  z_all : mg "all" = none
  z_bool : mg "bool" = none
  z_dict : mg "dict" = none
  z_int : mg "int" = none
  z_isinstance : mg "isinstance" = none
  z_len : mg "len" = none
  z_list : mg "list" = none
  z_min : mg "min" = none
  z_range : mg "range" = none
  z_str : mg "str" = none
  z_tuple : mg "tuple" = none
  z_zip : mg "zip" = none
  c_MOST_NUMBER : ∃ t, mg "MOST_NUMBER" = some (.int 999999999999 t)
  c_ROUND : ∃ t, mg "ROUND" = some (.int 1000000000000 t)
  o_Book : OwnC K mg A.Book "Book" [A.Book]
  m_Book_init : MFn K A.Book "__init__" "Book.__init__" s_Book_init ["self"]
  n_Book_letters : NoAttr K A.Book "letters"
  n_Book_said : NoAttr K A.Book "said"
  n_Book_trace : NoAttr K A.Book "trace"
  n_Book_steps : NoAttr K A.Book "steps"
  n_Book_ends : NoAttr K A.Book "ends"
  o_Row : OwnC K mg A.Row "Row" [A.Row]
  m_Row_init : MFn K A.Row "__init__" "Row.__init__" s_Row_init ["self", "number"]
  o_HandRow : OwnC K mg A.HandRow "HandRow" [A.HandRow, A.Row]
  m_HandRow_init : MFn K A.HandRow "__init__" "HandRow.__init__" s_HandRow_init ["self", "number", "name", "rank"]
  n_HandRow_name : NoAttr K A.HandRow "name"
  n_HandRow_rank : NoAttr K A.HandRow "rank"
  n_HandRow_number : NoAttr K A.HandRow "number"
  o_GivenRow : OwnC K mg A.GivenRow "GivenRow" [A.GivenRow, A.Row]
  m_GivenRow_init : MFn K A.GivenRow "__init__" "GivenRow.__init__" s_GivenRow_init ["self", "number", "name", "rank", "size"]
  n_GivenRow_name : NoAttr K A.GivenRow "name"
  n_GivenRow_rank : NoAttr K A.GivenRow "rank"
  n_GivenRow_size : NoAttr K A.GivenRow "size"
  n_GivenRow_number : NoAttr K A.GivenRow "number"
  o_OwnRow : OwnC K mg A.OwnRow "OwnRow" [A.OwnRow, A.Row]
  m_OwnRow_init : MFn K A.OwnRow "__init__" "OwnRow.__init__" s_OwnRow_init ["self", "number", "name", "size"]
  n_OwnRow_name : NoAttr K A.OwnRow "name"
  n_OwnRow_size : NoAttr K A.OwnRow "size"
  n_OwnRow_number : NoAttr K A.OwnRow "number"
  o_SetRow : OwnC K mg A.SetRow "SetRow" [A.SetRow, A.Row]
  m_SetRow_init : MFn K A.SetRow "__init__" "SetRow.__init__" s_SetRow_init ["self", "number", "name", "value"]
  n_SetRow_name : NoAttr K A.SetRow "name"
  n_SetRow_value : NoAttr K A.SetRow "value"
  n_SetRow_number : NoAttr K A.SetRow "number"
  o_PutRow : OwnC K mg A.PutRow "PutRow" [A.PutRow, A.Row]
  o_SendRow : OwnC K mg A.SendRow "SendRow" [A.SendRow, A.Row]
  m_SendRow_init : MFn K A.SendRow "__init__" "SendRow.__init__" s_SendRow_init ["self", "number", "name", "value"]
  n_SendRow_name : NoAttr K A.SendRow "name"
  n_SendRow_value : NoAttr K A.SendRow "value"
  n_SendRow_number : NoAttr K A.SendRow "number"
  o_SayRow : OwnC K mg A.SayRow "SayRow" [A.SayRow, A.Row]
  o_CallRow : OwnC K mg A.CallRow "CallRow" [A.CallRow, A.Row]
  m_CallRow_init : MFn K A.CallRow "__init__" "CallRow.__init__" s_CallRow_init ["self", "number", "name", "things"]
  n_CallRow_name : NoAttr K A.CallRow "name"
  n_CallRow_things : NoAttr K A.CallRow "things"
  n_CallRow_number : NoAttr K A.CallRow "number"
  o_LastRow : OwnC K mg A.LastRow "LastRow" [A.LastRow, A.Row]
  m_LastRow_init : MFn K A.LastRow "__init__" "Row.__init__" s_Row_init ["self", "number"]
  n_LastRow_number : NoAttr K A.LastRow "number"
  o_IfRow : OwnC K mg A.IfRow "IfRow" [A.IfRow, A.Row]
  m_IfRow_init : MFn K A.IfRow "__init__" "IfRow.__init__" s_IfRow_init ["self", "number", "value", "first", "other", "left", "right"]
  n_IfRow_value : NoAttr K A.IfRow "value"
  n_IfRow_first : NoAttr K A.IfRow "first"
  n_IfRow_other : NoAttr K A.IfRow "other"
  n_IfRow_left : NoAttr K A.IfRow "left"
  n_IfRow_right : NoAttr K A.IfRow "right"
  n_IfRow_number : NoAttr K A.IfRow "number"
  o_LoopRow : OwnC K mg A.LoopRow "LoopRow" [A.LoopRow, A.Row]
  m_LoopRow_init : MFn K A.LoopRow "__init__" "LoopRow.__init__" s_LoopRow_init ["self", "number", "thing", "most", "body", "left", "right"]
  n_LoopRow_thing : NoAttr K A.LoopRow "thing"
  n_LoopRow_most : NoAttr K A.LoopRow "most"
  n_LoopRow_body : NoAttr K A.LoopRow "body"
  n_LoopRow_left : NoAttr K A.LoopRow "left"
  n_LoopRow_right : NoAttr K A.LoopRow "right"
  n_LoopRow_number : NoAttr K A.LoopRow "number"
  o_DeedRow : OwnC K mg A.DeedRow "DeedRow" [A.DeedRow, A.Row]
  m_DeedRow_init : MFn K A.DeedRow "__init__" "DeedRow.__init__" s_DeedRow_init ["self", "number", "name", "parts", "body"]
  n_DeedRow_name : NoAttr K A.DeedRow "name"
  n_DeedRow_parts : NoAttr K A.DeedRow "parts"
  n_DeedRow_body : NoAttr K A.DeedRow "body"
  n_DeedRow_number : NoAttr K A.DeedRow "number"
  o_Program : OwnC K mg A.Program "Program" [A.Program]
  m_Program_init : MFn K A.Program "__init__" "Program.__init__" s_Program_init ["self", "heads", "deeds", "main"]
  n_Program_heads : NoAttr K A.Program "heads"
  n_Program_deeds : NoAttr K A.Program "deeds"
  n_Program_main : NoAttr K A.Program "main"
  o_Run : OwnC K mg A.Run "Run" [A.Run]
  m_Run_init : MFn K A.Run "__init__" "Run.__init__" s_Run_init ["self", "program", "cells"]
  m_Run_number_at : MFn K A.Run "number_at" "Run.number_at" s_Run_number_at ["self", "thing"]
  m_Run_number_for : MFn K A.Run "number_for" "Run.number_for" s_Run_number_for ["self", "value"]
  m_Run_number_told : MFn K A.Run "number_told" "Run.number_told" s_Run_number_told ["self", "row"]
  m_Run_pass_steps : MFn K A.Run "pass_steps" "Run.pass_steps" s_Run_pass_steps ["self", "count"]
  m_Run_do_rows : MFn K A.Run "do_rows" "Run.do_rows" s_Run_do_rows ["self", "rows"]
  m_Run_do_row : MFn K A.Run "do_row" "Run.do_row" s_Run_do_row ["self", "row"]
  m_Run_do_call : MFn K A.Run "do_call" "Run.do_call" s_Run_do_call ["self", "row"]
  m_Run_do_if : MFn K A.Run "do_if" "Run.do_if" s_Run_do_if ["self", "row"]
  m_Run_do_loop : MFn K A.Run "do_loop" "Run.do_loop" s_Run_do_loop ["self", "row"]
  n_Run_deeds : NoAttr K A.Run "deeds"
  n_Run_cells : NoAttr K A.Run "cells"
  n_Run_book : NoAttr K A.Run "book"
  of_Row_init : OfC K A.Row "__init__"
  nd : [A.Book, A.Row, A.HandRow, A.GivenRow, A.OwnRow, A.SetRow, A.PutRow, A.SendRow, A.SayRow, A.CallRow, A.LastRow, A.IfRow, A.LoopRow, A.DeedRow, A.Program, A.Run].Nodup
end K25

set_option Elab.async false
set_option linter.all false
set_option maxRecDepth 100000
set_option maxHeartbeats 4000000
namespace K25
open PySem L2
section
variable {P : Program} {w : World} {K : PySem.W.Frag} {mg : Str → Option Value} {base : Heap} {A : Adr}
theorem kit_ii : PySem.W.kitOne K (.type "int") (.type "int") = some true := by kernel_rfl!
theorem kit_ib : PySem.W.kitOne K (.type "int") (.type "bool") = some false := by kernel_rfl!
theorem kit_tt : PySem.W.kitOne K (.type "tuple") (.type "tuple") = some true := by kernel_rfl!
theorem kit_ll : PySem.W.kitOne K (.type "list") (.type "list") = some true := by kernel_rfl!
theorem sz {n : Nat} (h : n ≤ 1000) : n ≤ sizeLine := Nat.le_of_lt (small1000 h)
theorem mod_in (x : Int) {m : Int} (hm : 0 < m) : 0 ≤ x % m ∧ x % m < m := ⟨Int.emod_nonneg x (show m ≠ 0 by omega), Int.emod_lt_of_pos x hm⟩
theorem at_list {α : Type} {xs : List α} {k : Int} (h0 : 0 ≤ k) (h1 : k < (xs.length : Int)) : ∃ x, xs[k.toNat]? = some x ∧ atI xs k = some x := by
  have hk : k.toNat < xs.length := by omega
  have e := atI_nat (xs := xs) (j := k.toNat) (List.getElem?_eq_getElem hk)
  rw [show ((k.toNat : Nat) : Int) = k by omega] at e
  exact ⟨_, List.getElem?_eq_getElem hk, e⟩
theorem at_map {α : Type} (f : α → V) {xs : List α} {k : Int} (h0 : 0 ≤ k) (h1 : k < (xs.length : Int)) : ∃ x, x ∈ xs ∧ xs[k.toNat]? = some x ∧ atI (xs.map f) k = some (f x) := by
  obtain ⟨x, e1, e2⟩ := at_list (xs := xs.map f) h0 (by rw [List.length_map]; exact h1)
  rw [List.getElem?_map] at e1
  cases h : xs[k.toNat]? with
  | none => rw [h] at e1; cases e1
  | some y =>
    rw [h] at e1
    have : f y = x := Option.some.inj e1
    exact ⟨y, List.mem_of_getElem? h, rfl, by rw [this]; exact e2⟩
theorem vint (i j : Int) : decide (V.int i = V.int j) = decide (i = j) := decide_eq_decide.mpr ⟨fun h => V.int.inj h, fun h => by rw [h]⟩
theorem vstr (i j : Str) : decide (V.str i = V.str j) = decide (i = j) := decide_eq_decide.mpr ⟨fun h => V.str.inj h, fun h => by rw [h]⟩
theorem small_mul {a b : Int} (h0 : -(2 ^ 64) < a) (h1 : a < 2 ^ 64) : CMul a b := Or.inl ⟨h0, h1⟩
def sp_cell_at (K : PySem.W.Frag) : Sp := fun vs H Q _ => ∃ (a : Addr) (ns : List Int) (k : Int), vs = [.ref a, .int k] ∧ SqL K H a (ns.map V.int) ∧ 0 ≤ k ∧ ∀ n : Int, Q (.int n) H
theorem h_cell_at (T : Txt K mg A) : Has P w K mg base 1 "_law_cell_at" ["_law_script", "_law_k"] (sp_cell_at K) := by
  refine T.law_cell_at.has sc_law_cell_at (fun vs H Q E h => ?_) (fun f cdv A' outer s H vs Q E hr hu h => ?_)
  · obtain ⟨a, ns, k, rfl, _⟩ := h
    rfl
  · obtain ⟨a, ns, k, rfl, hS, h0, q⟩ := h
    refine ⟨_, (pss_cons (ps_if (pt_cmpR (o_lt) (fv 1) (pe_callB c_lenA rfl T.z_len (by boot_by_name) (pa_cons (fv 0) pa_nil)) (nomark _))
      (pss_one (ps_ret (pe_ix (ix_all hu) (fv 0) (fv 1) (fun _ _ => rfl))))
      pss_nil)
    (pss_one (ps_ret (pe_int)))), ?_⟩
    refine Or.inl ⟨_, _, rfl, Or.inl ⟨_, hS, rfl⟩, _, rfl, ?_⟩
    refine ite2 (fun c => ?_) (fun c => ?_)
    · have c' : k < (((ns.map V.int).length : Nat) : Int) := of_decide_eq_true c
      rw [List.length_map] at c'
      obtain ⟨n, _, _, e⟩ := at_map V.int h0 c'
      exact Or.inl ⟨_, _, Or.inl hS, e, q n⟩
    · exact q 0
end
end K25

set_option Elab.async false
set_option linter.all false
set_option maxRecDepth 100000
set_option maxHeartbeats 4000000
namespace K25
open PySem L2
section
variable {P : Program} {w : World} {K : PySem.W.Frag} {mg : Str → Option Value} {base : Heap} {A : Adr}
def sp_Row_init (K : PySem.W.Frag) (A : Adr) : Sp := fun vs H Q _ => ∃ (x C dx : Addr) (fs : List (Str × V)) (n : V), vs = [.ref x, n] ∧ H x = some (.ins C dx fs) ∧ Cls K C ∧ NoAttr K C "number" ∧ fs.length < 1000 ∧ Q .non (upd H x (.ins C dx (putF "number" n fs)))
theorem h_Row_init_of {C : Addr} (F : MFn K C "__init__" "Row.__init__" s_Row_init ["self", "number"]) : HasM P w K mg base 2 C "__init__" ["self", "number"] (sp_Row_init K A) := by
  refine F.has (k := 1) sc_Row_init (fun vs H Q E h => ?_) (fun f cdv A' outer s H vs Q E hr hu h => ?_)
  · obtain ⟨x, C, dx, fs, n, rfl, _⟩ := h
    rfl
  · obtain ⟨x, C, dx, fs, n, rfl, hx, c, na, hl, q⟩ := h
    refine ⟨_, (pss_one (ps_fld (fv 0) (fv 1) rfl)), ?_⟩
    exact ⟨x, C, dx, fs, rfl, hx, c, na, hl, q⟩
theorem h_Row_init (T : Txt K mg A) : HasM P w K mg base 2 A.Row "__init__" ["self", "number"] (sp_Row_init K A) := h_Row_init_of T.m_Row_init
def sp_HandRow_init (K : PySem.W.Frag) (A : Adr) : Sp := fun vs H Q _ => ∃ (x dx : Addr) (v_number v_name v_rank : V), vs = [.ref x, v_number, v_name, v_rank] ∧ H x = some (.ins A.HandRow dx []) ∧ ∀ (H' : Hp), But x H H' → H' x = some (.ins A.HandRow dx [("number", v_number), ("name", v_name), ("rank", v_rank)]) → Q .non H'
theorem h_HandRow_init (T : Txt K mg A) : HasM P w K mg base 3 A.HandRow "__init__" ["self", "number", "name", "rank"] (sp_HandRow_init K A) := by
  have D_Row_init := h_Row_init (P := P) (w := w) (base := base) T
  refine T.m_HandRow_init.has (k := 2) sc_HandRow_init (fun vs H Q E h => ?_) (fun f cdv A' outer s H vs Q E hr hu h => ?_)
  · obtain ⟨x, dx, v_number, v_name, v_rank, rfl, _⟩ := h
    rfl
  · obtain ⟨x, dx, v_number, v_name, v_rank, rfl, hx, q⟩ := h
    refine ⟨_, (pss_cons (ps_expr (pe_callOf T.o_Row T.of_Row_init D_Row_init hr (pa_cons (fv 0) (pa_cons (fv 1) pa_nil))))
    (pss_cons (ps_fld (fv 0) (fv 2) rfl)
    (pss_one (ps_fld (fv 0) (fv 3) rfl)))), ?_⟩
    have b0 : But x H H := But.refl x H
    refine ⟨x, A.HandRow, dx, [], v_number, rfl, hx, T.o_HandRow.cl, T.n_HandRow_number, by decide, ?_⟩
    generalize hg1 : upd H x _ = H1
    have b1 : But x H H1 := hg1 ▸ b0.trans (But.at x _ _)
    have i1 : H1 x = some (.ins A.HandRow dx [("number", v_number)]) := hg1 ▸ upd_same
    refine ⟨x, A.HandRow, dx, [("number", v_number)], rfl, i1, T.o_HandRow.cl, T.n_HandRow_name, by simp, ?_⟩
    generalize hg2 : upd H1 x _ = H2
    have b2 : But x H H2 := hg2 ▸ b1.trans (But.at x _ _)
    have i2 : H2 x = some (.ins A.HandRow dx [("number", v_number), ("name", v_name)]) := hg2 ▸ upd_same
    refine ⟨x, A.HandRow, dx, [("number", v_number), ("name", v_name)], rfl, i2, T.o_HandRow.cl, T.n_HandRow_rank, by simp, ?_⟩
    generalize hg3 : upd H2 x _ = H3
    have b3 : But x H H3 := hg3 ▸ b2.trans (But.at x _ _)
    have i3 : H3 x = some (.ins A.HandRow dx [("number", v_number), ("name", v_name), ("rank", v_rank)]) := hg3 ▸ upd_same
    exact q H3 b3 i3
theorem mk_HandRow {H : Hp} {x dx : Addr} {R : VK} {v_number v_name v_rank : V} (hx : H x = none) (hd : H dx = none) (q : ∀ (H' : Hp), Same H H' → H' x = some (.ins A.HandRow dx [("number", v_number), ("name", v_name), ("rank", v_rank)]) → R .non H') : sp_HandRow_init K A (.ref x :: ([v_number, v_name, v_rank] ++ [])) (upd (upd H dx (.own x)) x (.ins A.HandRow dx [])) R E0 :=
  ⟨x, dx, _, _, _, rfl, upd_same, fun H' b i => q H' (b.same hx hd) i⟩
def sp_GivenRow_init (K : PySem.W.Frag) (A : Adr) : Sp := fun vs H Q _ => ∃ (x dx : Addr) (v_number v_name v_rank v_size : V), vs = [.ref x, v_number, v_name, v_rank, v_size] ∧ H x = some (.ins A.GivenRow dx []) ∧ ∀ (H' : Hp), But x H H' → H' x = some (.ins A.GivenRow dx [("number", v_number), ("name", v_name), ("rank", v_rank), ("size", v_size)]) → Q .non H'
theorem h_GivenRow_init (T : Txt K mg A) : HasM P w K mg base 3 A.GivenRow "__init__" ["self", "number", "name", "rank", "size"] (sp_GivenRow_init K A) := by
  have D_Row_init := h_Row_init (P := P) (w := w) (base := base) T
  refine T.m_GivenRow_init.has (k := 2) sc_GivenRow_init (fun vs H Q E h => ?_) (fun f cdv A' outer s H vs Q E hr hu h => ?_)
  · obtain ⟨x, dx, v_number, v_name, v_rank, v_size, rfl, _⟩ := h
    rfl
  · obtain ⟨x, dx, v_number, v_name, v_rank, v_size, rfl, hx, q⟩ := h
    refine ⟨_, (pss_cons (ps_expr (pe_callOf T.o_Row T.of_Row_init D_Row_init hr (pa_cons (fv 0) (pa_cons (fv 1) pa_nil))))
    (pss_cons (ps_fld (fv 0) (fv 2) rfl)
    (pss_cons (ps_fld (fv 0) (fv 3) rfl)
    (pss_one (ps_fld (fv 0) (fv 4) rfl))))), ?_⟩
    have b0 : But x H H := But.refl x H
    refine ⟨x, A.GivenRow, dx, [], v_number, rfl, hx, T.o_GivenRow.cl, T.n_GivenRow_number, by decide, ?_⟩
    generalize hg1 : upd H x _ = H1
    have b1 : But x H H1 := hg1 ▸ b0.trans (But.at x _ _)
    have i1 : H1 x = some (.ins A.GivenRow dx [("number", v_number)]) := hg1 ▸ upd_same
    refine ⟨x, A.GivenRow, dx, [("number", v_number)], rfl, i1, T.o_GivenRow.cl, T.n_GivenRow_name, by simp, ?_⟩
    generalize hg2 : upd H1 x _ = H2
    have b2 : But x H H2 := hg2 ▸ b1.trans (But.at x _ _)
    have i2 : H2 x = some (.ins A.GivenRow dx [("number", v_number), ("name", v_name)]) := hg2 ▸ upd_same
    refine ⟨x, A.GivenRow, dx, [("number", v_number), ("name", v_name)], rfl, i2, T.o_GivenRow.cl, T.n_GivenRow_rank, by simp, ?_⟩
    generalize hg3 : upd H2 x _ = H3
    have b3 : But x H H3 := hg3 ▸ b2.trans (But.at x _ _)
    have i3 : H3 x = some (.ins A.GivenRow dx [("number", v_number), ("name", v_name), ("rank", v_rank)]) := hg3 ▸ upd_same
    refine ⟨x, A.GivenRow, dx, [("number", v_number), ("name", v_name), ("rank", v_rank)], rfl, i3, T.o_GivenRow.cl, T.n_GivenRow_size, by simp, ?_⟩
    generalize hg4 : upd H3 x _ = H4
    have b4 : But x H H4 := hg4 ▸ b3.trans (But.at x _ _)
    have i4 : H4 x = some (.ins A.GivenRow dx [("number", v_number), ("name", v_name), ("rank", v_rank), ("size", v_size)]) := hg4 ▸ upd_same
    exact q H4 b4 i4
theorem mk_GivenRow {H : Hp} {x dx : Addr} {R : VK} {v_number v_name v_rank v_size : V} (hx : H x = none) (hd : H dx = none) (q : ∀ (H' : Hp), Same H H' → H' x = some (.ins A.GivenRow dx [("number", v_number), ("name", v_name), ("rank", v_rank), ("size", v_size)]) → R .non H') : sp_GivenRow_init K A (.ref x :: ([v_number, v_name, v_rank, v_size] ++ [])) (upd (upd H dx (.own x)) x (.ins A.GivenRow dx [])) R E0 :=
  ⟨x, dx, _, _, _, _, rfl, upd_same, fun H' b i => q H' (b.same hx hd) i⟩
def sp_OwnRow_init (K : PySem.W.Frag) (A : Adr) : Sp := fun vs H Q _ => ∃ (x dx : Addr) (v_number v_name v_size : V), vs = [.ref x, v_number, v_name, v_size] ∧ H x = some (.ins A.OwnRow dx []) ∧ ∀ (H' : Hp), But x H H' → H' x = some (.ins A.OwnRow dx [("number", v_number), ("name", v_name), ("size", v_size)]) → Q .non H'
theorem h_OwnRow_init (T : Txt K mg A) : HasM P w K mg base 3 A.OwnRow "__init__" ["self", "number", "name", "size"] (sp_OwnRow_init K A) := by
  have D_Row_init := h_Row_init (P := P) (w := w) (base := base) T
  refine T.m_OwnRow_init.has (k := 2) sc_OwnRow_init (fun vs H Q E h => ?_) (fun f cdv A' outer s H vs Q E hr hu h => ?_)
  · obtain ⟨x, dx, v_number, v_name, v_size, rfl, _⟩ := h
    rfl
  · obtain ⟨x, dx, v_number, v_name, v_size, rfl, hx, q⟩ := h
    refine ⟨_, (pss_cons (ps_expr (pe_callOf T.o_Row T.of_Row_init D_Row_init hr (pa_cons (fv 0) (pa_cons (fv 1) pa_nil))))
    (pss_cons (ps_fld (fv 0) (fv 2) rfl)
    (pss_one (ps_fld (fv 0) (fv 3) rfl)))), ?_⟩
    have b0 : But x H H := But.refl x H
    refine ⟨x, A.OwnRow, dx, [], v_number, rfl, hx, T.o_OwnRow.cl, T.n_OwnRow_number, by decide, ?_⟩
    generalize hg1 : upd H x _ = H1
    have b1 : But x H H1 := hg1 ▸ b0.trans (But.at x _ _)
    have i1 : H1 x = some (.ins A.OwnRow dx [("number", v_number)]) := hg1 ▸ upd_same
    refine ⟨x, A.OwnRow, dx, [("number", v_number)], rfl, i1, T.o_OwnRow.cl, T.n_OwnRow_name, by simp, ?_⟩
    generalize hg2 : upd H1 x _ = H2
    have b2 : But x H H2 := hg2 ▸ b1.trans (But.at x _ _)
    have i2 : H2 x = some (.ins A.OwnRow dx [("number", v_number), ("name", v_name)]) := hg2 ▸ upd_same
    refine ⟨x, A.OwnRow, dx, [("number", v_number), ("name", v_name)], rfl, i2, T.o_OwnRow.cl, T.n_OwnRow_size, by simp, ?_⟩
    generalize hg3 : upd H2 x _ = H3
    have b3 : But x H H3 := hg3 ▸ b2.trans (But.at x _ _)
    have i3 : H3 x = some (.ins A.OwnRow dx [("number", v_number), ("name", v_name), ("size", v_size)]) := hg3 ▸ upd_same
    exact q H3 b3 i3
theorem mk_OwnRow {H : Hp} {x dx : Addr} {R : VK} {v_number v_name v_size : V} (hx : H x = none) (hd : H dx = none) (q : ∀ (H' : Hp), Same H H' → H' x = some (.ins A.OwnRow dx [("number", v_number), ("name", v_name), ("size", v_size)]) → R .non H') : sp_OwnRow_init K A (.ref x :: ([v_number, v_name, v_size] ++ [])) (upd (upd H dx (.own x)) x (.ins A.OwnRow dx [])) R E0 :=
  ⟨x, dx, _, _, _, rfl, upd_same, fun H' b i => q H' (b.same hx hd) i⟩
def sp_SetRow_init (K : PySem.W.Frag) (A : Adr) : Sp := fun vs H Q _ => ∃ (x dx : Addr) (v_number v_name v_value : V), vs = [.ref x, v_number, v_name, v_value] ∧ H x = some (.ins A.SetRow dx []) ∧ ∀ (H' : Hp), But x H H' → H' x = some (.ins A.SetRow dx [("number", v_number), ("name", v_name), ("value", v_value)]) → Q .non H'
theorem h_SetRow_init (T : Txt K mg A) : HasM P w K mg base 3 A.SetRow "__init__" ["self", "number", "name", "value"] (sp_SetRow_init K A) := by
  have D_Row_init := h_Row_init (P := P) (w := w) (base := base) T
  refine T.m_SetRow_init.has (k := 2) sc_SetRow_init (fun vs H Q E h => ?_) (fun f cdv A' outer s H vs Q E hr hu h => ?_)
  · obtain ⟨x, dx, v_number, v_name, v_value, rfl, _⟩ := h
    rfl
  · obtain ⟨x, dx, v_number, v_name, v_value, rfl, hx, q⟩ := h
    refine ⟨_, (pss_cons (ps_expr (pe_callOf T.o_Row T.of_Row_init D_Row_init hr (pa_cons (fv 0) (pa_cons (fv 1) pa_nil))))
    (pss_cons (ps_fld (fv 0) (fv 2) rfl)
    (pss_one (ps_fld (fv 0) (fv 3) rfl)))), ?_⟩
    have b0 : But x H H := But.refl x H
    refine ⟨x, A.SetRow, dx, [], v_number, rfl, hx, T.o_SetRow.cl, T.n_SetRow_number, by decide, ?_⟩
    generalize hg1 : upd H x _ = H1
    have b1 : But x H H1 := hg1 ▸ b0.trans (But.at x _ _)
    have i1 : H1 x = some (.ins A.SetRow dx [("number", v_number)]) := hg1 ▸ upd_same
    refine ⟨x, A.SetRow, dx, [("number", v_number)], rfl, i1, T.o_SetRow.cl, T.n_SetRow_name, by simp, ?_⟩
    generalize hg2 : upd H1 x _ = H2
    have b2 : But x H H2 := hg2 ▸ b1.trans (But.at x _ _)
    have i2 : H2 x = some (.ins A.SetRow dx [("number", v_number), ("name", v_name)]) := hg2 ▸ upd_same
    refine ⟨x, A.SetRow, dx, [("number", v_number), ("name", v_name)], rfl, i2, T.o_SetRow.cl, T.n_SetRow_value, by simp, ?_⟩
    generalize hg3 : upd H2 x _ = H3
    have b3 : But x H H3 := hg3 ▸ b2.trans (But.at x _ _)
    have i3 : H3 x = some (.ins A.SetRow dx [("number", v_number), ("name", v_name), ("value", v_value)]) := hg3 ▸ upd_same
    exact q H3 b3 i3
theorem mk_SetRow {H : Hp} {x dx : Addr} {R : VK} {v_number v_name v_value : V} (hx : H x = none) (hd : H dx = none) (q : ∀ (H' : Hp), Same H H' → H' x = some (.ins A.SetRow dx [("number", v_number), ("name", v_name), ("value", v_value)]) → R .non H') : sp_SetRow_init K A (.ref x :: ([v_number, v_name, v_value] ++ [])) (upd (upd H dx (.own x)) x (.ins A.SetRow dx [])) R E0 :=
  ⟨x, dx, _, _, _, rfl, upd_same, fun H' b i => q H' (b.same hx hd) i⟩
def sp_SendRow_init (K : PySem.W.Frag) (A : Adr) : Sp := fun vs H Q _ => ∃ (x dx : Addr) (v_number v_name v_value : V), vs = [.ref x, v_number, v_name, v_value] ∧ H x = some (.ins A.SendRow dx []) ∧ ∀ (H' : Hp), But x H H' → H' x = some (.ins A.SendRow dx [("number", v_number), ("name", v_name), ("value", v_value)]) → Q .non H'
theorem h_SendRow_init (T : Txt K mg A) : HasM P w K mg base 3 A.SendRow "__init__" ["self", "number", "name", "value"] (sp_SendRow_init K A) := by
  have D_Row_init := h_Row_init (P := P) (w := w) (base := base) T
  refine T.m_SendRow_init.has (k := 2) sc_SendRow_init (fun vs H Q E h => ?_) (fun f cdv A' outer s H vs Q E hr hu h => ?_)
  · obtain ⟨x, dx, v_number, v_name, v_value, rfl, _⟩ := h
    rfl
  · obtain ⟨x, dx, v_number, v_name, v_value, rfl, hx, q⟩ := h
    refine ⟨_, (pss_cons (ps_expr (pe_callOf T.o_Row T.of_Row_init D_Row_init hr (pa_cons (fv 0) (pa_cons (fv 1) pa_nil))))
    (pss_cons (ps_fld (fv 0) (fv 2) rfl)
    (pss_one (ps_fld (fv 0) (fv 3) rfl)))), ?_⟩
    have b0 : But x H H := But.refl x H
    refine ⟨x, A.SendRow, dx, [], v_number, rfl, hx, T.o_SendRow.cl, T.n_SendRow_number, by decide, ?_⟩
    generalize hg1 : upd H x _ = H1
    have b1 : But x H H1 := hg1 ▸ b0.trans (But.at x _ _)
    have i1 : H1 x = some (.ins A.SendRow dx [("number", v_number)]) := hg1 ▸ upd_same
    refine ⟨x, A.SendRow, dx, [("number", v_number)], rfl, i1, T.o_SendRow.cl, T.n_SendRow_name, by simp, ?_⟩
    generalize hg2 : upd H1 x _ = H2
    have b2 : But x H H2 := hg2 ▸ b1.trans (But.at x _ _)
    have i2 : H2 x = some (.ins A.SendRow dx [("number", v_number), ("name", v_name)]) := hg2 ▸ upd_same
    refine ⟨x, A.SendRow, dx, [("number", v_number), ("name", v_name)], rfl, i2, T.o_SendRow.cl, T.n_SendRow_value, by simp, ?_⟩
    generalize hg3 : upd H2 x _ = H3
    have b3 : But x H H3 := hg3 ▸ b2.trans (But.at x _ _)
    have i3 : H3 x = some (.ins A.SendRow dx [("number", v_number), ("name", v_name), ("value", v_value)]) := hg3 ▸ upd_same
    exact q H3 b3 i3
theorem mk_SendRow {H : Hp} {x dx : Addr} {R : VK} {v_number v_name v_value : V} (hx : H x = none) (hd : H dx = none) (q : ∀ (H' : Hp), Same H H' → H' x = some (.ins A.SendRow dx [("number", v_number), ("name", v_name), ("value", v_value)]) → R .non H') : sp_SendRow_init K A (.ref x :: ([v_number, v_name, v_value] ++ [])) (upd (upd H dx (.own x)) x (.ins A.SendRow dx [])) R E0 :=
  ⟨x, dx, _, _, _, rfl, upd_same, fun H' b i => q H' (b.same hx hd) i⟩
def sp_CallRow_init (K : PySem.W.Frag) (A : Adr) : Sp := fun vs H Q _ => ∃ (x dx : Addr) (v_number v_name : V) (t_things : Addr) (l_things : List V), vs = [.ref x, v_number, v_name, .ref t_things] ∧ H x = some (.ins A.CallRow dx []) ∧ SqL K H t_things l_things ∧ ∀ (n_things : Addr) (H' : Hp), H n_things = none → But x H H' → H' n_things = some (.lst l_things) → H' x = some (.ins A.CallRow dx [("number", v_number), ("name", v_name), ("things", .ref n_things)]) → Q .non H'
theorem h_CallRow_init (T : Txt K mg A) : HasM P w K mg base 3 A.CallRow "__init__" ["self", "number", "name", "things"] (sp_CallRow_init K A) := by
  have D_Row_init := h_Row_init (P := P) (w := w) (base := base) T
  refine T.m_CallRow_init.has (k := 2) sc_CallRow_init (fun vs H Q E h => ?_) (fun f cdv A' outer s H vs Q E hr hu h => ?_)
  · obtain ⟨x, dx, v_number, v_name, t_things, l_things, rfl, _⟩ := h
    rfl
  · obtain ⟨x, dx, v_number, v_name, t_things, l_things, rfl, hx, s_things, q⟩ := h
    refine ⟨_, (pss_cons (ps_expr (pe_callOf T.o_Row T.of_Row_init D_Row_init hr (pa_cons (fv 0) (pa_cons (fv 1) pa_nil))))
    (pss_cons (ps_fld (fv 0) (fv 2) rfl)
    (pss_one (ps_fld (fv 0) (pe_callTy c_list rfl T.z_list (by boot_by_name) (pa_cons (fv 3) pa_nil)) rfl)))), ?_⟩
    have b0 : But x H H := But.refl x H
    refine ⟨x, A.CallRow, dx, [], v_number, rfl, hx, T.o_CallRow.cl, T.n_CallRow_number, by decide, ?_⟩
    generalize hg1 : upd H x _ = H1
    have b1 : But x H H1 := hg1 ▸ b0.trans (But.at x _ _)
    have i1 : H1 x = some (.ins A.CallRow dx [("number", v_number)]) := hg1 ▸ upd_same
    refine ⟨x, A.CallRow, dx, [("number", v_number)], rfl, i1, T.o_CallRow.cl, T.n_CallRow_name, by simp, ?_⟩
    generalize hg2 : upd H1 x _ = H2
    have b2 : But x H H2 := hg2 ▸ b1.trans (But.at x _ _)
    have i2 : H2 x = some (.ins A.CallRow dx [("number", v_number), ("name", v_name)]) := hg2 ▸ upd_same
    refine ⟨_, l_things, rfl, .inl (SqL.but s_things hx b2), fun n_things f_things => ?_⟩
    have e_things : n_things ≠ x := fun z => by rw [z] at f_things; exact absurd (f_things.symm.trans i2) (by intro z; cases z)
    have a_things : H n_things = none := b2.none e_things f_things
    generalize hg3 : upd H2 n_things (HO.lst l_things) = H3
    have b3 : But x H H3 := hg3 ▸ b2.trans (But.new f_things _)
    have i3 : H3 x = some (.ins A.CallRow dx [("number", v_number), ("name", v_name)]) := hg3 ▸ (upd_ne (Ne.symm e_things)).trans i2
    have k3_things : H3 n_things = some (.lst l_things) := hg3 ▸ upd_same
    refine ⟨x, A.CallRow, dx, [("number", v_number), ("name", v_name)], rfl, i3, T.o_CallRow.cl, T.n_CallRow_things, by simp, ?_⟩
    generalize hg4 : upd H3 x _ = H4
    have b4 : But x H H4 := hg4 ▸ b3.trans (But.at x _ _)
    have i4 : H4 x = some (.ins A.CallRow dx [("number", v_number), ("name", v_name), ("things", .ref n_things)]) := hg4 ▸ upd_same
    have k4_things : H4 n_things = some (.lst l_things) := hg4 ▸ (upd_ne e_things).trans k3_things
    exact q n_things H4 a_things b4 k4_things i4
theorem mk_CallRow {H : Hp} {x dx : Addr} {R : VK} {v_number v_name : V} {t_things : Addr} {l_things : List V} (s_things : SqL K H t_things l_things) (hx : H x = none) (hd : H dx = none) (q : ∀ (n_things : Addr) (H' : Hp), H n_things = none → Same H H' → H' n_things = some (.lst l_things) → H' x = some (.ins A.CallRow dx [("number", v_number), ("name", v_name), ("things", .ref n_things)]) → R .non H') : sp_CallRow_init K A (.ref x :: ([v_number, v_name, .ref t_things] ++ [])) (upd (upd H dx (.own x)) x (.ins A.CallRow dx [])) R E0 :=
  ⟨x, dx, _, _, _, _, rfl, upd_same, s_things.new hx hd, fun n_things H' f_things b g_things i => q n_things H' (new_none hx hd f_things) (b.same hx hd) g_things i⟩
def sp_LastRow_init (K : PySem.W.Frag) (A : Adr) : Sp := fun vs H Q _ => ∃ (x dx : Addr) (v_number : V), vs = [.ref x, v_number] ∧ H x = some (.ins A.LastRow dx []) ∧ ∀ (H' : Hp), But x H H' → H' x = some (.ins A.LastRow dx [("number", v_number)]) → Q .non H'
theorem h_LastRow_init (T : Txt K mg A) : HasM P w K mg base 3 A.LastRow "__init__" ["self", "number"] (sp_LastRow_init K A) := by
  refine T.m_LastRow_init.has (k := 2) sc_Row_init (fun vs H Q E h => ?_) (fun f cdv A' outer s H vs Q E hr hu h => ?_)
  · obtain ⟨x, dx, v_number, rfl, _⟩ := h
    rfl
  · obtain ⟨x, dx, v_number, rfl, hx, q⟩ := h
    refine ⟨_, (pss_one (ps_fld (fv 0) (fv 1) rfl)), ?_⟩
    have b0 : But x H H := But.refl x H
    refine ⟨x, A.LastRow, dx, [], rfl, hx, T.o_LastRow.cl, T.n_LastRow_number, by simp, ?_⟩
    generalize hg1 : upd H x _ = H1
    have b1 : But x H H1 := hg1 ▸ b0.trans (But.at x _ _)
    have i1 : H1 x = some (.ins A.LastRow dx [("number", v_number)]) := hg1 ▸ upd_same
    exact q H1 b1 i1
theorem mk_LastRow {H : Hp} {x dx : Addr} {R : VK} {v_number : V} (hx : H x = none) (hd : H dx = none) (q : ∀ (H' : Hp), Same H H' → H' x = some (.ins A.LastRow dx [("number", v_number)]) → R .non H') : sp_LastRow_init K A (.ref x :: ([v_number] ++ [])) (upd (upd H dx (.own x)) x (.ins A.LastRow dx [])) R E0 :=
  ⟨x, dx, _, rfl, upd_same, fun H' b i => q H' (b.same hx hd) i⟩
def sp_IfRow_init (K : PySem.W.Frag) (A : Adr) : Sp := fun vs H Q _ => ∃ (x dx : Addr) (v_number v_value v_left v_right : V) (t_first : Addr) (l_first : List V) (t_other : Addr) (l_other : List V), vs = [.ref x, v_number, v_value, .ref t_first, .ref t_other, v_left, v_right] ∧ H x = some (.ins A.IfRow dx []) ∧ SqL K H t_first l_first ∧ SqL K H t_other l_other ∧ ∀ (n_first n_other : Addr) (H' : Hp), H n_first = none → H n_other = none → n_first ≠ n_other → But x H H' → H' n_first = some (.lst l_first) → H' n_other = some (.lst l_other) → H' x = some (.ins A.IfRow dx [("number", v_number), ("value", v_value), ("first", .ref n_first), ("other", .ref n_other), ("left", v_left), ("right", v_right)]) → Q .non H'
theorem h_IfRow_init (T : Txt K mg A) : HasM P w K mg base 3 A.IfRow "__init__" ["self", "number", "value", "first", "other", "left", "right"] (sp_IfRow_init K A) := by
  have D_Row_init := h_Row_init (P := P) (w := w) (base := base) T
  refine T.m_IfRow_init.has (k := 2) sc_IfRow_init (fun vs H Q E h => ?_) (fun f cdv A' outer s H vs Q E hr hu h => ?_)
  · obtain ⟨x, dx, v_number, v_value, v_left, v_right, t_first, l_first, t_other, l_other, rfl, _⟩ := h
    rfl
  · obtain ⟨x, dx, v_number, v_value, v_left, v_right, t_first, l_first, t_other, l_other, rfl, hx, s_first, s_other, q⟩ := h
    refine ⟨_, (pss_cons (ps_expr (pe_callOf T.o_Row T.of_Row_init D_Row_init hr (pa_cons (fv 0) (pa_cons (fv 1) pa_nil))))
    (pss_cons (ps_fld (fv 0) (fv 2) rfl)
    (pss_cons (ps_fld (fv 0) (pe_callTy c_list rfl T.z_list (by boot_by_name) (pa_cons (fv 3) pa_nil)) rfl)
    (pss_cons (ps_fld (fv 0) (pe_callTy c_list rfl T.z_list (by boot_by_name) (pa_cons (fv 4) pa_nil)) rfl)
    (pss_cons (ps_fld (fv 0) (fv 5) rfl)
    (pss_one (ps_fld (fv 0) (fv 6) rfl))))))), ?_⟩
    have b0 : But x H H := But.refl x H
    refine ⟨x, A.IfRow, dx, [], v_number, rfl, hx, T.o_IfRow.cl, T.n_IfRow_number, by decide, ?_⟩
    generalize hg1 : upd H x _ = H1
    have b1 : But x H H1 := hg1 ▸ b0.trans (But.at x _ _)
    have i1 : H1 x = some (.ins A.IfRow dx [("number", v_number)]) := hg1 ▸ upd_same
    refine ⟨x, A.IfRow, dx, [("number", v_number)], rfl, i1, T.o_IfRow.cl, T.n_IfRow_value, by simp, ?_⟩
    generalize hg2 : upd H1 x _ = H2
    have b2 : But x H H2 := hg2 ▸ b1.trans (But.at x _ _)
    have i2 : H2 x = some (.ins A.IfRow dx [("number", v_number), ("value", v_value)]) := hg2 ▸ upd_same
    refine ⟨_, l_first, rfl, .inl (SqL.but s_first hx b2), fun n_first f_first => ?_⟩
    have e_first : n_first ≠ x := fun z => by rw [z] at f_first; exact absurd (f_first.symm.trans i2) (by intro z; cases z)
    have a_first : H n_first = none := b2.none e_first f_first
    generalize hg3 : upd H2 n_first (HO.lst l_first) = H3
    have b3 : But x H H3 := hg3 ▸ b2.trans (But.new f_first _)
    have i3 : H3 x = some (.ins A.IfRow dx [("number", v_number), ("value", v_value)]) := hg3 ▸ (upd_ne (Ne.symm e_first)).trans i2
    have k3_first : H3 n_first = some (.lst l_first) := hg3 ▸ upd_same
    refine ⟨x, A.IfRow, dx, [("number", v_number), ("value", v_value)], rfl, i3, T.o_IfRow.cl, T.n_IfRow_first, by simp, ?_⟩
    generalize hg4 : upd H3 x _ = H4
    have b4 : But x H H4 := hg4 ▸ b3.trans (But.at x _ _)
    have i4 : H4 x = some (.ins A.IfRow dx [("number", v_number), ("value", v_value), ("first", .ref n_first)]) := hg4 ▸ upd_same
    have k4_first : H4 n_first = some (.lst l_first) := hg4 ▸ (upd_ne e_first).trans k3_first
    refine ⟨_, l_other, rfl, .inl (SqL.but s_other hx b4), fun n_other f_other => ?_⟩
    have e_other : n_other ≠ x := fun z => by rw [z] at f_other; exact absurd (f_other.symm.trans i4) (by intro z; cases z)
    have a_other : H n_other = none := b4.none e_other f_other
    have d_first_other : n_first ≠ n_other := fun z => by have w := k4_first; rw [z] at w; exact absurd (f_other.symm.trans w) (by intro w; cases w)
    generalize hg5 : upd H4 n_other (HO.lst l_other) = H5
    have b5 : But x H H5 := hg5 ▸ b4.trans (But.new f_other _)
    have i5 : H5 x = some (.ins A.IfRow dx [("number", v_number), ("value", v_value), ("first", .ref n_first)]) := hg5 ▸ (upd_ne (Ne.symm e_other)).trans i4
    have k5_first : H5 n_first = some (.lst l_first) := hg5 ▸ (upd_ne d_first_other).trans k4_first
    have k5_other : H5 n_other = some (.lst l_other) := hg5 ▸ upd_same
    refine ⟨x, A.IfRow, dx, [("number", v_number), ("value", v_value), ("first", .ref n_first)], rfl, i5, T.o_IfRow.cl, T.n_IfRow_other, by simp, ?_⟩
    generalize hg6 : upd H5 x _ = H6
    have b6 : But x H H6 := hg6 ▸ b5.trans (But.at x _ _)
    have i6 : H6 x = some (.ins A.IfRow dx [("number", v_number), ("value", v_value), ("first", .ref n_first), ("other", .ref n_other)]) := hg6 ▸ upd_same
    have k6_first : H6 n_first = some (.lst l_first) := hg6 ▸ (upd_ne e_first).trans k5_first
    have k6_other : H6 n_other = some (.lst l_other) := hg6 ▸ (upd_ne e_other).trans k5_other
    refine ⟨x, A.IfRow, dx, [("number", v_number), ("value", v_value), ("first", .ref n_first), ("other", .ref n_other)], rfl, i6, T.o_IfRow.cl, T.n_IfRow_left, by simp, ?_⟩
    generalize hg7 : upd H6 x _ = H7
    have b7 : But x H H7 := hg7 ▸ b6.trans (But.at x _ _)
    have i7 : H7 x = some (.ins A.IfRow dx [("number", v_number), ("value", v_value), ("first", .ref n_first), ("other", .ref n_other), ("left", v_left)]) := hg7 ▸ upd_same
    have k7_first : H7 n_first = some (.lst l_first) := hg7 ▸ (upd_ne e_first).trans k6_first
    have k7_other : H7 n_other = some (.lst l_other) := hg7 ▸ (upd_ne e_other).trans k6_other
    refine ⟨x, A.IfRow, dx, [("number", v_number), ("value", v_value), ("first", .ref n_first), ("other", .ref n_other), ("left", v_left)], rfl, i7, T.o_IfRow.cl, T.n_IfRow_right, by simp, ?_⟩
    generalize hg8 : upd H7 x _ = H8
    have b8 : But x H H8 := hg8 ▸ b7.trans (But.at x _ _)
    have i8 : H8 x = some (.ins A.IfRow dx [("number", v_number), ("value", v_value), ("first", .ref n_first), ("other", .ref n_other), ("left", v_left), ("right", v_right)]) := hg8 ▸ upd_same
    have k8_first : H8 n_first = some (.lst l_first) := hg8 ▸ (upd_ne e_first).trans k7_first
    have k8_other : H8 n_other = some (.lst l_other) := hg8 ▸ (upd_ne e_other).trans k7_other
    exact q n_first n_other H8 a_first a_other d_first_other b8 k8_first k8_other i8
theorem mk_IfRow {H : Hp} {x dx : Addr} {R : VK} {v_number v_value v_left v_right : V} {t_first : Addr} {l_first : List V} (s_first : SqL K H t_first l_first) {t_other : Addr} {l_other : List V} (s_other : SqL K H t_other l_other) (hx : H x = none) (hd : H dx = none) (q : ∀ (n_first n_other : Addr) (H' : Hp), H n_first = none → H n_other = none → Same H H' → H' n_first = some (.lst l_first) → H' n_other = some (.lst l_other) → H' x = some (.ins A.IfRow dx [("number", v_number), ("value", v_value), ("first", .ref n_first), ("other", .ref n_other), ("left", v_left), ("right", v_right)]) → R .non H') : sp_IfRow_init K A (.ref x :: ([v_number, v_value, .ref t_first, .ref t_other, v_left, v_right] ++ [])) (upd (upd H dx (.own x)) x (.ins A.IfRow dx [])) R E0 :=
  ⟨x, dx, _, _, _, _, _, _, _, _, rfl, upd_same, s_first.new hx hd, s_other.new hx hd, fun n_first n_other H' f_first f_other _ b g_first g_other i => q n_first n_other H' (new_none hx hd f_first) (new_none hx hd f_other) (b.same hx hd) g_first g_other i⟩
def sp_LoopRow_init (K : PySem.W.Frag) (A : Adr) : Sp := fun vs H Q _ => ∃ (x dx : Addr) (v_number v_thing v_most v_left v_right : V) (t_body : Addr) (l_body : List V), vs = [.ref x, v_number, v_thing, v_most, .ref t_body, v_left, v_right] ∧ H x = some (.ins A.LoopRow dx []) ∧ SqL K H t_body l_body ∧ ∀ (n_body : Addr) (H' : Hp), H n_body = none → But x H H' → H' n_body = some (.lst l_body) → H' x = some (.ins A.LoopRow dx [("number", v_number), ("thing", v_thing), ("most", v_most), ("body", .ref n_body), ("left", v_left), ("right", v_right)]) → Q .non H'
theorem h_LoopRow_init (T : Txt K mg A) : HasM P w K mg base 3 A.LoopRow "__init__" ["self", "number", "thing", "most", "body", "left", "right"] (sp_LoopRow_init K A) := by
  have D_Row_init := h_Row_init (P := P) (w := w) (base := base) T
  refine T.m_LoopRow_init.has (k := 2) sc_LoopRow_init (fun vs H Q E h => ?_) (fun f cdv A' outer s H vs Q E hr hu h => ?_)
  · obtain ⟨x, dx, v_number, v_thing, v_most, v_left, v_right, t_body, l_body, rfl, _⟩ := h
    rfl
  · obtain ⟨x, dx, v_number, v_thing, v_most, v_left, v_right, t_body, l_body, rfl, hx, s_body, q⟩ := h
    refine ⟨_, (pss_cons (ps_expr (pe_callOf T.o_Row T.of_Row_init D_Row_init hr (pa_cons (fv 0) (pa_cons (fv 1) pa_nil))))
    (pss_cons (ps_fld (fv 0) (fv 2) rfl)
    (pss_cons (ps_fld (fv 0) (fv 3) rfl)
    (pss_cons (ps_fld (fv 0) (pe_callTy c_list rfl T.z_list (by boot_by_name) (pa_cons (fv 4) pa_nil)) rfl)
    (pss_cons (ps_fld (fv 0) (fv 5) rfl)
    (pss_one (ps_fld (fv 0) (fv 6) rfl))))))), ?_⟩
    have b0 : But x H H := But.refl x H
    refine ⟨x, A.LoopRow, dx, [], v_number, rfl, hx, T.o_LoopRow.cl, T.n_LoopRow_number, by decide, ?_⟩
    generalize hg1 : upd H x _ = H1
    have b1 : But x H H1 := hg1 ▸ b0.trans (But.at x _ _)
    have i1 : H1 x = some (.ins A.LoopRow dx [("number", v_number)]) := hg1 ▸ upd_same
    refine ⟨x, A.LoopRow, dx, [("number", v_number)], rfl, i1, T.o_LoopRow.cl, T.n_LoopRow_thing, by simp, ?_⟩
    generalize hg2 : upd H1 x _ = H2
    have b2 : But x H H2 := hg2 ▸ b1.trans (But.at x _ _)
    have i2 : H2 x = some (.ins A.LoopRow dx [("number", v_number), ("thing", v_thing)]) := hg2 ▸ upd_same
    refine ⟨x, A.LoopRow, dx, [("number", v_number), ("thing", v_thing)], rfl, i2, T.o_LoopRow.cl, T.n_LoopRow_most, by simp, ?_⟩
    generalize hg3 : upd H2 x _ = H3
    have b3 : But x H H3 := hg3 ▸ b2.trans (But.at x _ _)
    have i3 : H3 x = some (.ins A.LoopRow dx [("number", v_number), ("thing", v_thing), ("most", v_most)]) := hg3 ▸ upd_same
    refine ⟨_, l_body, rfl, .inl (SqL.but s_body hx b3), fun n_body f_body => ?_⟩
    have e_body : n_body ≠ x := fun z => by rw [z] at f_body; exact absurd (f_body.symm.trans i3) (by intro z; cases z)
    have a_body : H n_body = none := b3.none e_body f_body
    generalize hg4 : upd H3 n_body (HO.lst l_body) = H4
    have b4 : But x H H4 := hg4 ▸ b3.trans (But.new f_body _)
    have i4 : H4 x = some (.ins A.LoopRow dx [("number", v_number), ("thing", v_thing), ("most", v_most)]) := hg4 ▸ (upd_ne (Ne.symm e_body)).trans i3
    have k4_body : H4 n_body = some (.lst l_body) := hg4 ▸ upd_same
    refine ⟨x, A.LoopRow, dx, [("number", v_number), ("thing", v_thing), ("most", v_most)], rfl, i4, T.o_LoopRow.cl, T.n_LoopRow_body, by simp, ?_⟩
    generalize hg5 : upd H4 x _ = H5
    have b5 : But x H H5 := hg5 ▸ b4.trans (But.at x _ _)
    have i5 : H5 x = some (.ins A.LoopRow dx [("number", v_number), ("thing", v_thing), ("most", v_most), ("body", .ref n_body)]) := hg5 ▸ upd_same
    have k5_body : H5 n_body = some (.lst l_body) := hg5 ▸ (upd_ne e_body).trans k4_body
    refine ⟨x, A.LoopRow, dx, [("number", v_number), ("thing", v_thing), ("most", v_most), ("body", .ref n_body)], rfl, i5, T.o_LoopRow.cl, T.n_LoopRow_left, by simp, ?_⟩
    generalize hg6 : upd H5 x _ = H6
    have b6 : But x H H6 := hg6 ▸ b5.trans (But.at x _ _)
    have i6 : H6 x = some (.ins A.LoopRow dx [("number", v_number), ("thing", v_thing), ("most", v_most), ("body", .ref n_body), ("left", v_left)]) := hg6 ▸ upd_same
    have k6_body : H6 n_body = some (.lst l_body) := hg6 ▸ (upd_ne e_body).trans k5_body
    refine ⟨x, A.LoopRow, dx, [("number", v_number), ("thing", v_thing), ("most", v_most), ("body", .ref n_body), ("left", v_left)], rfl, i6, T.o_LoopRow.cl, T.n_LoopRow_right, by simp, ?_⟩
    generalize hg7 : upd H6 x _ = H7
    have b7 : But x H H7 := hg7 ▸ b6.trans (But.at x _ _)
    have i7 : H7 x = some (.ins A.LoopRow dx [("number", v_number), ("thing", v_thing), ("most", v_most), ("body", .ref n_body), ("left", v_left), ("right", v_right)]) := hg7 ▸ upd_same
    have k7_body : H7 n_body = some (.lst l_body) := hg7 ▸ (upd_ne e_body).trans k6_body
    exact q n_body H7 a_body b7 k7_body i7
theorem mk_LoopRow {H : Hp} {x dx : Addr} {R : VK} {v_number v_thing v_most v_left v_right : V} {t_body : Addr} {l_body : List V} (s_body : SqL K H t_body l_body) (hx : H x = none) (hd : H dx = none) (q : ∀ (n_body : Addr) (H' : Hp), H n_body = none → Same H H' → H' n_body = some (.lst l_body) → H' x = some (.ins A.LoopRow dx [("number", v_number), ("thing", v_thing), ("most", v_most), ("body", .ref n_body), ("left", v_left), ("right", v_right)]) → R .non H') : sp_LoopRow_init K A (.ref x :: ([v_number, v_thing, v_most, .ref t_body, v_left, v_right] ++ [])) (upd (upd H dx (.own x)) x (.ins A.LoopRow dx [])) R E0 :=
  ⟨x, dx, _, _, _, _, _, _, _, rfl, upd_same, s_body.new hx hd, fun n_body H' f_body b g_body i => q n_body H' (new_none hx hd f_body) (b.same hx hd) g_body i⟩
def sp_DeedRow_init (K : PySem.W.Frag) (A : Adr) : Sp := fun vs H Q _ => ∃ (x dx : Addr) (v_number v_name : V) (t_parts : Addr) (l_parts : List V) (t_body : Addr) (l_body : List V), vs = [.ref x, v_number, v_name, .ref t_parts, .ref t_body] ∧ H x = some (.ins A.DeedRow dx []) ∧ SqL K H t_parts l_parts ∧ SqL K H t_body l_body ∧ ∀ (n_parts n_body : Addr) (H' : Hp), H n_parts = none → H n_body = none → n_parts ≠ n_body → But x H H' → H' n_parts = some (.lst l_parts) → H' n_body = some (.lst l_body) → H' x = some (.ins A.DeedRow dx [("number", v_number), ("name", v_name), ("parts", .ref n_parts), ("body", .ref n_body)]) → Q .non H'
theorem h_DeedRow_init (T : Txt K mg A) : HasM P w K mg base 3 A.DeedRow "__init__" ["self", "number", "name", "parts", "body"] (sp_DeedRow_init K A) := by
  have D_Row_init := h_Row_init (P := P) (w := w) (base := base) T
  refine T.m_DeedRow_init.has (k := 2) sc_DeedRow_init (fun vs H Q E h => ?_) (fun f cdv A' outer s H vs Q E hr hu h => ?_)
  · obtain ⟨x, dx, v_number, v_name, t_parts, l_parts, t_body, l_body, rfl, _⟩ := h
    rfl
  · obtain ⟨x, dx, v_number, v_name, t_parts, l_parts, t_body, l_body, rfl, hx, s_parts, s_body, q⟩ := h
    refine ⟨_, (pss_cons (ps_expr (pe_callOf T.o_Row T.of_Row_init D_Row_init hr (pa_cons (fv 0) (pa_cons (fv 1) pa_nil))))
    (pss_cons (ps_fld (fv 0) (fv 2) rfl)
    (pss_cons (ps_fld (fv 0) (pe_callTy c_list rfl T.z_list (by boot_by_name) (pa_cons (fv 3) pa_nil)) rfl)
    (pss_one (ps_fld (fv 0) (pe_callTy c_list rfl T.z_list (by boot_by_name) (pa_cons (fv 4) pa_nil)) rfl))))), ?_⟩
    have b0 : But x H H := But.refl x H
    refine ⟨x, A.DeedRow, dx, [], v_number, rfl, hx, T.o_DeedRow.cl, T.n_DeedRow_number, by decide, ?_⟩
    generalize hg1 : upd H x _ = H1
    have b1 : But x H H1 := hg1 ▸ b0.trans (But.at x _ _)
    have i1 : H1 x = some (.ins A.DeedRow dx [("number", v_number)]) := hg1 ▸ upd_same
    refine ⟨x, A.DeedRow, dx, [("number", v_number)], rfl, i1, T.o_DeedRow.cl, T.n_DeedRow_name, by simp, ?_⟩
    generalize hg2 : upd H1 x _ = H2
    have b2 : But x H H2 := hg2 ▸ b1.trans (But.at x _ _)
    have i2 : H2 x = some (.ins A.DeedRow dx [("number", v_number), ("name", v_name)]) := hg2 ▸ upd_same
    refine ⟨_, l_parts, rfl, .inl (SqL.but s_parts hx b2), fun n_parts f_parts => ?_⟩
    have e_parts : n_parts ≠ x := fun z => by rw [z] at f_parts; exact absurd (f_parts.symm.trans i2) (by intro z; cases z)
    have a_parts : H n_parts = none := b2.none e_parts f_parts
    generalize hg3 : upd H2 n_parts (HO.lst l_parts) = H3
    have b3 : But x H H3 := hg3 ▸ b2.trans (But.new f_parts _)
    have i3 : H3 x = some (.ins A.DeedRow dx [("number", v_number), ("name", v_name)]) := hg3 ▸ (upd_ne (Ne.symm e_parts)).trans i2
    have k3_parts : H3 n_parts = some (.lst l_parts) := hg3 ▸ upd_same
    refine ⟨x, A.DeedRow, dx, [("number", v_number), ("name", v_name)], rfl, i3, T.o_DeedRow.cl, T.n_DeedRow_parts, by simp, ?_⟩
    generalize hg4 : upd H3 x _ = H4
    have b4 : But x H H4 := hg4 ▸ b3.trans (But.at x _ _)
    have i4 : H4 x = some (.ins A.DeedRow dx [("number", v_number), ("name", v_name), ("parts", .ref n_parts)]) := hg4 ▸ upd_same
    have k4_parts : H4 n_parts = some (.lst l_parts) := hg4 ▸ (upd_ne e_parts).trans k3_parts
    refine ⟨_, l_body, rfl, .inl (SqL.but s_body hx b4), fun n_body f_body => ?_⟩
    have e_body : n_body ≠ x := fun z => by rw [z] at f_body; exact absurd (f_body.symm.trans i4) (by intro z; cases z)
    have a_body : H n_body = none := b4.none e_body f_body
    have d_parts_body : n_parts ≠ n_body := fun z => by have w := k4_parts; rw [z] at w; exact absurd (f_body.symm.trans w) (by intro w; cases w)
    generalize hg5 : upd H4 n_body (HO.lst l_body) = H5
    have b5 : But x H H5 := hg5 ▸ b4.trans (But.new f_body _)
    have i5 : H5 x = some (.ins A.DeedRow dx [("number", v_number), ("name", v_name), ("parts", .ref n_parts)]) := hg5 ▸ (upd_ne (Ne.symm e_body)).trans i4
    have k5_parts : H5 n_parts = some (.lst l_parts) := hg5 ▸ (upd_ne d_parts_body).trans k4_parts
    have k5_body : H5 n_body = some (.lst l_body) := hg5 ▸ upd_same
    refine ⟨x, A.DeedRow, dx, [("number", v_number), ("name", v_name), ("parts", .ref n_parts)], rfl, i5, T.o_DeedRow.cl, T.n_DeedRow_body, by simp, ?_⟩
    generalize hg6 : upd H5 x _ = H6
    have b6 : But x H H6 := hg6 ▸ b5.trans (But.at x _ _)
    have i6 : H6 x = some (.ins A.DeedRow dx [("number", v_number), ("name", v_name), ("parts", .ref n_parts), ("body", .ref n_body)]) := hg6 ▸ upd_same
    have k6_parts : H6 n_parts = some (.lst l_parts) := hg6 ▸ (upd_ne e_parts).trans k5_parts
    have k6_body : H6 n_body = some (.lst l_body) := hg6 ▸ (upd_ne e_body).trans k5_body
    exact q n_parts n_body H6 a_parts a_body d_parts_body b6 k6_parts k6_body i6
theorem mk_DeedRow {H : Hp} {x dx : Addr} {R : VK} {v_number v_name : V} {t_parts : Addr} {l_parts : List V} (s_parts : SqL K H t_parts l_parts) {t_body : Addr} {l_body : List V} (s_body : SqL K H t_body l_body) (hx : H x = none) (hd : H dx = none) (q : ∀ (n_parts n_body : Addr) (H' : Hp), H n_parts = none → H n_body = none → Same H H' → H' n_parts = some (.lst l_parts) → H' n_body = some (.lst l_body) → H' x = some (.ins A.DeedRow dx [("number", v_number), ("name", v_name), ("parts", .ref n_parts), ("body", .ref n_body)]) → R .non H') : sp_DeedRow_init K A (.ref x :: ([v_number, v_name, .ref t_parts, .ref t_body] ++ [])) (upd (upd H dx (.own x)) x (.ins A.DeedRow dx [])) R E0 :=
  ⟨x, dx, _, _, _, _, _, _, rfl, upd_same, s_parts.new hx hd, s_body.new hx hd, fun n_parts n_body H' f_parts f_body _ b g_parts g_body i => q n_parts n_body H' (new_none hx hd f_parts) (new_none hx hd f_body) (b.same hx hd) g_parts g_body i⟩
def sp_Program_init (K : PySem.W.Frag) (A : Adr) : Sp := fun vs H Q _ => ∃ (x dx : Addr) (t_heads : Addr) (l_heads : List V) (t_deeds : Addr) (l_deeds : List V) (t_main : Addr) (l_main : List V), vs = [.ref x, .ref t_heads, .ref t_deeds, .ref t_main] ∧ H x = some (.ins A.Program dx []) ∧ SqL K H t_heads l_heads ∧ SqL K H t_deeds l_deeds ∧ SqL K H t_main l_main ∧ ∀ (n_heads n_deeds n_main : Addr) (H' : Hp), H n_heads = none → H n_deeds = none → H n_main = none → n_heads ≠ n_deeds → n_heads ≠ n_main → n_deeds ≠ n_main → But x H H' → H' n_heads = some (.lst l_heads) → H' n_deeds = some (.lst l_deeds) → H' n_main = some (.lst l_main) → H' x = some (.ins A.Program dx [("heads", .ref n_heads), ("deeds", .ref n_deeds), ("main", .ref n_main)]) → Q .non H'
theorem h_Program_init (T : Txt K mg A) : HasM P w K mg base 3 A.Program "__init__" ["self", "heads", "deeds", "main"] (sp_Program_init K A) := by
  refine T.m_Program_init.has (k := 2) sc_Program_init (fun vs H Q E h => ?_) (fun f cdv A' outer s H vs Q E hr hu h => ?_)
  · obtain ⟨x, dx, t_heads, l_heads, t_deeds, l_deeds, t_main, l_main, rfl, _⟩ := h
    rfl
  · obtain ⟨x, dx, t_heads, l_heads, t_deeds, l_deeds, t_main, l_main, rfl, hx, s_heads, s_deeds, s_main, q⟩ := h
    refine ⟨_, (pss_cons (ps_fld (fv 0) (pe_callTy c_list rfl T.z_list (by boot_by_name) (pa_cons (fv 1) pa_nil)) rfl)
    (pss_cons (ps_fld (fv 0) (pe_callTy c_list rfl T.z_list (by boot_by_name) (pa_cons (fv 2) pa_nil)) rfl)
    (pss_one (ps_fld (fv 0) (pe_callTy c_list rfl T.z_list (by boot_by_name) (pa_cons (fv 3) pa_nil)) rfl)))), ?_⟩
    have b0 : But x H H := But.refl x H
    refine ⟨_, l_heads, rfl, .inl (SqL.but s_heads hx b0), fun n_heads f_heads => ?_⟩
    have e_heads : n_heads ≠ x := fun z => by rw [z] at f_heads; exact absurd (f_heads.symm.trans hx) (by intro z; cases z)
    have a_heads : H n_heads = none := b0.none e_heads f_heads
    generalize hg1 : upd H n_heads (HO.lst l_heads) = H1
    have b1 : But x H H1 := hg1 ▸ b0.trans (But.new f_heads _)
    have i1 : H1 x = some (.ins A.Program dx []) := hg1 ▸ (upd_ne (Ne.symm e_heads)).trans hx
    have k1_heads : H1 n_heads = some (.lst l_heads) := hg1 ▸ upd_same
    refine ⟨x, A.Program, dx, [], rfl, i1, T.o_Program.cl, T.n_Program_heads, by simp, ?_⟩
    generalize hg2 : upd H1 x _ = H2
    have b2 : But x H H2 := hg2 ▸ b1.trans (But.at x _ _)
    have i2 : H2 x = some (.ins A.Program dx [("heads", .ref n_heads)]) := hg2 ▸ upd_same
    have k2_heads : H2 n_heads = some (.lst l_heads) := hg2 ▸ (upd_ne e_heads).trans k1_heads
    refine ⟨_, l_deeds, rfl, .inl (SqL.but s_deeds hx b2), fun n_deeds f_deeds => ?_⟩
    have e_deeds : n_deeds ≠ x := fun z => by rw [z] at f_deeds; exact absurd (f_deeds.symm.trans i2) (by intro z; cases z)
    have a_deeds : H n_deeds = none := b2.none e_deeds f_deeds
    have d_heads_deeds : n_heads ≠ n_deeds := fun z => by have w := k2_heads; rw [z] at w; exact absurd (f_deeds.symm.trans w) (by intro w; cases w)
    generalize hg3 : upd H2 n_deeds (HO.lst l_deeds) = H3
    have b3 : But x H H3 := hg3 ▸ b2.trans (But.new f_deeds _)
    have i3 : H3 x = some (.ins A.Program dx [("heads", .ref n_heads)]) := hg3 ▸ (upd_ne (Ne.symm e_deeds)).trans i2
    have k3_heads : H3 n_heads = some (.lst l_heads) := hg3 ▸ (upd_ne d_heads_deeds).trans k2_heads
    have k3_deeds : H3 n_deeds = some (.lst l_deeds) := hg3 ▸ upd_same
    refine ⟨x, A.Program, dx, [("heads", .ref n_heads)], rfl, i3, T.o_Program.cl, T.n_Program_deeds, by simp, ?_⟩
    generalize hg4 : upd H3 x _ = H4
    have b4 : But x H H4 := hg4 ▸ b3.trans (But.at x _ _)
    have i4 : H4 x = some (.ins A.Program dx [("heads", .ref n_heads), ("deeds", .ref n_deeds)]) := hg4 ▸ upd_same
    have k4_heads : H4 n_heads = some (.lst l_heads) := hg4 ▸ (upd_ne e_heads).trans k3_heads
    have k4_deeds : H4 n_deeds = some (.lst l_deeds) := hg4 ▸ (upd_ne e_deeds).trans k3_deeds
    refine ⟨_, l_main, rfl, .inl (SqL.but s_main hx b4), fun n_main f_main => ?_⟩
    have e_main : n_main ≠ x := fun z => by rw [z] at f_main; exact absurd (f_main.symm.trans i4) (by intro z; cases z)
    have a_main : H n_main = none := b4.none e_main f_main
    have d_heads_main : n_heads ≠ n_main := fun z => by have w := k4_heads; rw [z] at w; exact absurd (f_main.symm.trans w) (by intro w; cases w)
    have d_deeds_main : n_deeds ≠ n_main := fun z => by have w := k4_deeds; rw [z] at w; exact absurd (f_main.symm.trans w) (by intro w; cases w)
    generalize hg5 : upd H4 n_main (HO.lst l_main) = H5
    have b5 : But x H H5 := hg5 ▸ b4.trans (But.new f_main _)
    have i5 : H5 x = some (.ins A.Program dx [("heads", .ref n_heads), ("deeds", .ref n_deeds)]) := hg5 ▸ (upd_ne (Ne.symm e_main)).trans i4
    have k5_heads : H5 n_heads = some (.lst l_heads) := hg5 ▸ (upd_ne d_heads_main).trans k4_heads
    have k5_deeds : H5 n_deeds = some (.lst l_deeds) := hg5 ▸ (upd_ne d_deeds_main).trans k4_deeds
    have k5_main : H5 n_main = some (.lst l_main) := hg5 ▸ upd_same
    refine ⟨x, A.Program, dx, [("heads", .ref n_heads), ("deeds", .ref n_deeds)], rfl, i5, T.o_Program.cl, T.n_Program_main, by simp, ?_⟩
    generalize hg6 : upd H5 x _ = H6
    have b6 : But x H H6 := hg6 ▸ b5.trans (But.at x _ _)
    have i6 : H6 x = some (.ins A.Program dx [("heads", .ref n_heads), ("deeds", .ref n_deeds), ("main", .ref n_main)]) := hg6 ▸ upd_same
    have k6_heads : H6 n_heads = some (.lst l_heads) := hg6 ▸ (upd_ne e_heads).trans k5_heads
    have k6_deeds : H6 n_deeds = some (.lst l_deeds) := hg6 ▸ (upd_ne e_deeds).trans k5_deeds
    have k6_main : H6 n_main = some (.lst l_main) := hg6 ▸ (upd_ne e_main).trans k5_main
    exact q n_heads n_deeds n_main H6 a_heads a_deeds a_main d_heads_deeds d_heads_main d_deeds_main b6 k6_heads k6_deeds k6_main i6
theorem mk_Program {H : Hp} {x dx : Addr} {R : VK} {t_heads : Addr} {l_heads : List V} (s_heads : SqL K H t_heads l_heads) {t_deeds : Addr} {l_deeds : List V} (s_deeds : SqL K H t_deeds l_deeds) {t_main : Addr} {l_main : List V} (s_main : SqL K H t_main l_main) (hx : H x = none) (hd : H dx = none) (q : ∀ (n_heads n_deeds n_main : Addr) (H' : Hp), H n_heads = none → H n_deeds = none → H n_main = none → Same H H' → H' n_heads = some (.lst l_heads) → H' n_deeds = some (.lst l_deeds) → H' n_main = some (.lst l_main) → H' x = some (.ins A.Program dx [("heads", .ref n_heads), ("deeds", .ref n_deeds), ("main", .ref n_main)]) → R .non H') : sp_Program_init K A (.ref x :: ([.ref t_heads, .ref t_deeds, .ref t_main] ++ [])) (upd (upd H dx (.own x)) x (.ins A.Program dx [])) R E0 :=
  ⟨x, dx, _, _, _, _, _, _, rfl, upd_same, s_heads.new hx hd, s_deeds.new hx hd, s_main.new hx hd, fun n_heads n_deeds n_main H' f_heads f_deeds f_main _ _ _ b g_heads g_deeds g_main i => q n_heads n_deeds n_main H' (new_none hx hd f_heads) (new_none hx hd f_deeds) (new_none hx hd f_main) (b.same hx hd) g_heads g_deeds g_main i⟩
end
end K25

set_option Elab.async false
set_option linter.all false
set_option maxRecDepth 100000
set_option maxHeartbeats 4000000
namespace K25
open PySem L2
section
variable {P : Program} {w : World} {K : PySem.W.Frag} {mg : Str → Option Value} {base : Heap} {A : Adr}
def rkn (a b : Int) (x : Str) : Int :=
  if decide (V.str x = V.str "+") = true then (a + b) % 1000000000000
  else if decide (V.str x = V.str "-") = true then (a - b) % 1000000000000
  else if decide (V.str x = V.str "*") = true then (a * b) % 1000000000000
  else if decide (V.str x = V.str "over") = true then (if decide (V.int b = V.int 0) = true then 0 else a / b)
  else if decide (V.str x = V.str "rest") = true then (if decide (V.int b = V.int 0) = true then a else a % b)
  else if decide (V.str x = V.str "<") = true then (if decide (a < b) = true then 1 else 0)
  else (if decide (V.int a = V.int b) = true then 1 else 0)
def In (n : Int) : Prop := 0 ≤ n ∧ n < 1000000000000
theorem rkn_in {a b : Int} (ha : In a) (hb : In b) (x : Str) : In (rkn a b x) := by
  have md : ∀ z : Int, In (z % 1000000000000) := fun z => mod_in z (by decide)
  have t1 : In 1 := ⟨by decide, by decide⟩
  have t0 : In 0 := ⟨by decide, by decide⟩
  unfold rkn
  split
  · exact md _
  split
  · exact md _
  split
  · exact md _
  split
  · split
    · exact t0
    · rename_i h
      rw [vint, decide_eq_true_iff] at h
      have hp : 0 < b := by have := hb.1; omega
      refine ⟨Int.ediv_nonneg ha.1 hb.1, Int.lt_of_le_of_lt (Int.ediv_le_self b ha.1) ha.2⟩
  split
  · split
    · exact ha
    · rename_i h
      rw [vint, decide_eq_true_iff] at h
      have hp : 0 < b := by have := hb.1; omega
      have := mod_in a hp
      exact ⟨this.1, Int.lt_trans this.2 hb.2⟩
  split
  · split
    · exact t1
    · exact t0
  · split
    · exact t1
    · exact t0
structure S where
  c : Int
  g : Int
  t : Int
  steps : Int
  trace : List (List V)
  letters : List (List V)
structure S.ok (s : S) : Prop where
  c : In s.c
  g : In s.g
  t : In s.t
inductive Val where
  | n (i : Int) | c | op (w : Str) (i : Int)
def valV : Val → List V
  | .n i => [.int i]
  | .c => [.str "c"]
  | .op w i => [.str "c", .str w, .int i]
def Val.ok : Val → Prop
  | .n i => In i
  | .c => True
  | .op w i => In i ∧ w ≠ "at"
def Val.num (s : S) : Val → Int
  | .n i => i
  | .c => s.c
  | .op w i => rkn s.c i w
theorem Val.num_in {s : S} (hs : s.ok) {v : Val} (h : v.ok) : In (v.num s) := by
  cases v with
  | n i => exact h
  | c => exact hs.c
  | op w i => exact rkn_in hs.c h.1 w
inductive Th where
  | i (n : Int) | t | g
def Th.v : Th → V
  | .i n => .int n
  | .t => .str "t"
  | .g => .str "g"
def Th.num (s : S) : Th → Int
  | .i n => n
  | .t => s.t
  | .g => s.g
inductive Rw where
  | set (n : Int) (x : Bool) (v : Val)
  | snd (n : Int) (h : Str) (v : Val)
  | last (n : Int)
  | ite (n : Int) (v : Val) (a b : List Rw) (l r : Int)
  | loop (n : Int) (th : Th) (m : Int) (b : List Rw) (l r : Int)
  | call (n : Int)
def S.tell (s : S) (n : Int) (v : V) : S := { s with steps := s.steps + 1, trace := s.trace ++ [[.int n, .int (s.steps + 1), v]] }
def S.send (s : S) (n : Int) (h : Str) (v : Int) : S := { s.tell n (.int v) with letters := s.letters ++ [[.int (s.steps + 1), .int n, .str h, .int v]] }
def S.idle (s : S) (n : Int) : S := { s with steps := s.steps + n }
def S.put (s : S) (x : Bool) (v : Int) : S := if x = true then { s with c := v } else { s with t := v }
def leaf (s : S) : Rw → S × Bool
  | .set n x v => ((s.tell n .non).put x (v.num s), false)
  | .snd n h v => (s.send n h (v.num s), false)
  | .last n => (s.tell n .non, true)
  | _ => (s, false)
def rounds (body : S → S × Bool) (l : Int) : Nat → Nat → S → S × Nat
  | 0, k, s => (s, k)
  | n + 1, k, s => if (body s).2 = true then ((body s).1.idle l, k + 1) else rounds body l n (k + 1) ((body s).1.idle l)
def step (f : S → Rw → S × Bool) (p : S × Bool) (r : Rw) : S × Bool := ((f p.1 r).1, p.2 || (f p.1 r).2)
def rowsBy (f : S → Rw → S × Bool) (s : S) (xs : List Rw) : S × Bool := xs.foldl (step f) (s, false)
def doRow (F : List Rw) : Nat → S → Rw → S × Bool
  | 0, s, r => leaf s r
  | d + 1, s, .ite n v a b l r => if v.num s ≠ 0 then let q := rowsBy (doRow F d) (s.tell n .non) a; (q.1.idle l, q.2) else let q := rowsBy (doRow F d) (s.tell n .non) b; (q.1.idle r, q.2)
  | d + 1, s, .loop n th m b l r => let q := rounds (fun s => rowsBy (doRow F d) s b) l (if m < th.num s then m else th.num s).toNat 0 (s.tell n .non); (q.1.idle (r * (m - q.2)), false)
  | d + 1, s, .call n => ((rowsBy (doRow F d) (s.tell n .non) F).1, false)
  | _ + 1, s, r => leaf s r
def cnt (F : List Rw) : Nat → Rw → Nat
  | 0, _ => 1
  | d + 1, .ite _ _ a b _ _ => 1 + (a.map (cnt F d)).sum + (b.map (cnt F d)).sum
  | d + 1, .loop _ _ m b _ _ => 1 + m.toNat * (b.map (cnt F d)).sum
  | d + 1, .call _ => 1 + (F.map (cnt F d)).sum
  | _ + 1, _ => 1
def S.room (s : S) (n : Nat) : Prop := s.trace.length + n ≤ 1000 ∧ s.letters.length + n ≤ 1000
theorem S.room.le {s : S} {j k : Nat} (h : s.room k) (hj : j ≤ k) : s.room j := ⟨by have := h.1; omega, by have := h.2; omega⟩
end
end K25

set_option Elab.async false
set_option linter.all false
set_option maxRecDepth 100000
set_option maxHeartbeats 4000000
namespace K25
open PySem L2
section
variable {P : Program} {w : World} {K : PySem.W.Frag} {mg : Str → Option Value} {base : Heap} {A : Adr}
def More (s1 s2 : S) (n : Nat) : Prop := s2.trace.length ≤ s1.trace.length + n ∧ s2.letters.length ≤ s1.letters.length + n
theorem More.trans {s1 s2 s3 : S} {m n : Nat} (a : More s1 s2 m) (b : More s2 s3 n) : More s1 s3 (m + n) := ⟨by have := a.1; have := b.1; omega, by have := a.2; have := b.2; omega⟩
theorem More.le {s1 s2 : S} {m n : Nat} (a : More s1 s2 m) (h : m ≤ n) : More s1 s2 n := ⟨by have := a.1; omega, by have := a.2; omega⟩
theorem More.refl (s : S) : More s s 0 := ⟨Nat.le_refl _, Nat.le_refl _⟩
theorem More.idle {s1 s2 : S} {n : Nat} (a : More s1 s2 n) (i : Int) : More s1 (s2.idle i) n := a
theorem more_tell (s : S) (n : Int) (v : V) : More s (s.tell n v) 1 := ⟨by simp [S.tell], by simp [S.tell]⟩
theorem more_leaf (s : S) (r : Rw) : More s (leaf s r).1 1 := by
  cases r with
  | set n x v => cases x <;> simp [leaf, S.put, More, S.tell]
  | snd n h v => simp [leaf, S.send, More, S.tell]
  | last n => exact more_tell s n .non
  | _ => simp [leaf, More]
theorem more_rows {f : S → Rw → S × Bool} {c : Rw → Nat} (h : ∀ s r, More s (f s r).1 (c r)) : ∀ (xs : List Rw) (p : S × Bool), More p.1 (xs.foldl (step f) p).1 (xs.map c).sum
  | [], p => More.refl _
  | x :: r, p => by
    have h1 := h p.1 x
    have h2 := more_rows h r (step f p x)
    exact h1.trans h2
theorem more_rounds {body : S → S × Bool} {k : Nat} (h : ∀ s, More s (body s).1 k) (l : Int) : ∀ (n j : Nat) (s : S), More s (rounds body l n j s).1 (n * k)
  | 0, _, s => by simp only [rounds, Nat.zero_mul]; exact More.refl s
  | n + 1, j, s => by
    have h1 := (h s).idle l
    have h2 := more_rounds h l n (j + 1) ((body s).1.idle l)
    simp only [rounds]
    rw [Nat.succ_mul]
    split
    · exact h1.le (by omega)
    · exact (h1.trans h2).le (by omega)
theorem more_row (F : List Rw) : ∀ (d : Nat) (s : S) (r : Rw), More s (doRow F d s r).1 (cnt F d r)
  | 0, s, r => more_leaf s r
  | d + 1, s, .ite n v a b l r => by
    have h1 := (more_tell s n .non).trans (more_rows (more_row F d) a (s.tell n .non, false))
    have h2 := (more_tell s n .non).trans (more_rows (more_row F d) b (s.tell n .non, false))
    simp only [doRow, cnt]
    split
    · exact (h1.idle l).le (by omega)
    · exact (h2.idle r).le (by omega)
  | d + 1, s, .loop n th m b l r => by
    have h2 := more_rounds (body := fun s => rowsBy (doRow F d) s b) (fun s => more_rows (more_row F d) b (s, false)) l (if m < th.num s then m else th.num s).toNat 0 (s.tell n .non)
    have h1 := (more_tell s n .non).trans h2
    simp only [doRow, cnt]
    refine (h1.idle _).le ?_
    have : (if m < th.num s then m else th.num s).toNat ≤ m.toNat := by split <;> omega
    have := Nat.mul_le_mul_right (b.map (cnt F d)).sum this
    omega
  | d + 1, s, .call n => by
    have h1 := (more_tell s n .non).trans (more_rows (more_row F d) F (s.tell n .non, false))
    exact h1
  | d + 1, s, .set n x v => more_leaf s _
  | d + 1, s, .snd n h v => more_leaf s _
  | d + 1, s, .last n => more_leaf s _
theorem S.room.more {s1 s2 : S} {n k : Nat} (h : s1.room (n + k)) (m : More s1 s2 n) : s2.room k := ⟨by have := h.1; have := m.1; omega, by have := h.2; have := m.2; omega⟩
theorem S.ok.tell {s : S} (h : s.ok) (n : Int) (v : V) : (s.tell n v).ok := ⟨h.c, h.g, h.t⟩
theorem S.ok.idle {s : S} (h : s.ok) (n : Int) : (s.idle n).ok := ⟨h.c, h.g, h.t⟩
theorem S.ok.put {s : S} (h : s.ok) (x : Bool) {v : Int} (hv : In v) : (s.put x v).ok := by
  cases x
  · exact ⟨h.c, h.g, hv⟩
  · exact ⟨hv, h.g, h.t⟩
abbrev cls (A : Adr) : List Addr := [A.Book, A.Row, A.HandRow, A.GivenRow, A.OwnRow, A.SetRow, A.PutRow, A.SendRow, A.SayRow, A.CallRow, A.LastRow, A.IfRow, A.LoopRow, A.DeedRow, A.Program, A.Run]
theorem cls_ne (T : Txt K mg A) (i j : Nat) (hi : i < 16 := by decide) (hj : j < 16 := by decide) (h : i ≠ j := by decide) : (cls A)[i]'hi ≠ (cls A)[j]'hj := fun e => h ((List.getElem_inj T.nd).mp e)
theorem kitT {C : Addr} {x : Str} {up : List Addr} (O : OwnC K mg C x up) (hs : C ∈ up := by exact List.mem_cons_self) : PySem.W.kitOne K (.ref C) (.ref C) = some true := by
  rw [O.kit O hs, decide_eq_true hs]
theorem kitF {C D R : Addr} {x y : Str} {vp : List Addr} (O : OwnC K mg C x [C, R]) (U : OwnC K mg D y vp) (h1 : D ≠ C) (h2 : D ≠ R) : PySem.W.kitOne K (.ref C) (.ref D) = some false := by
  rw [O.kit U List.mem_cons_self, decide_eq_false]
  intro m
  rcases List.mem_cons.mp m with e | m
  · exact h1 e
  · rcases List.mem_cons.mp m with e | m
    · exact h2 e
    · cases m
def nm (x : Bool) : Str := if x = true then "c" else "t"
structure SetAt (A : Adr) (H : Hp) (v : V) (n : Int) (x : Bool) (val : Val) (a dx p : Addr) : Prop where
  v : v = .ref a
  a : H a = some (.ins A.SetRow dx [("number", .int n), ("name", .str (nm x)), ("value", .ref p)])
  p : H p = some (.tup (valV val))
structure SndAt (A : Adr) (H : Hp) (v : V) (n : Int) (h : Str) (val : Val) (a dx p : Addr) : Prop where
  v : v = .ref a
  a : H a = some (.ins A.SendRow dx [("number", .int n), ("name", .str h), ("value", .ref p)])
  p : H p = some (.tup (valV val))
structure LastAt (A : Adr) (H : Hp) (v : V) (n : Int) (a dx : Addr) : Prop where
  v : v = .ref a
  a : H a = some (.ins A.LastRow dx [("number", .int n)])
structure IfAt (A : Adr) (H : Hp) (R : V → Rw → Prop) (v : V) (n : Int) (val : Val) (as bs : List Rw) (l r : Int) (a dx p q₁ q₂ : Addr) (xs ys : List V) : Prop where
  v : v = .ref a
  a : H a = some (.ins A.IfRow dx [("number", .int n), ("value", .ref p), ("first", .ref q₁), ("other", .ref q₂), ("left", .int l), ("right", .int r)])
  p : H p = some (.tup (valV val))
  q₁ : H q₁ = some (.lst xs)
  r₁ : PySem.Paired R xs as
  q₂ : H q₂ = some (.lst ys)
  r₂ : PySem.Paired R ys bs
structure LoopAt (A : Adr) (H : Hp) (R : V → Rw → Prop) (v : V) (n : Int) (th : Th) (m : Int) (b : List Rw) (l r : Int) (a dx q : Addr) (xs : List V) : Prop where
  v : v = .ref a
  a : H a = some (.ins A.LoopRow dx [("number", .int n), ("thing", th.v), ("most", .int m), ("body", .ref q), ("left", .int l), ("right", .int r)])
  hq : H q = some (.lst xs)
  hr : PySem.Paired R xs b
  hm : 0 ≤ m ∧ m ≤ 1000
  rb : 0 ≤ r ∧ r ≤ 1000
structure CallAt (A : Adr) (H : Hp) (R : V → Rw → Prop) (dk : List (Key × V)) (F : List Rw) (v : V) (n dn : Int) (a dx q dd ddx pq bq : Addr) (xs : List V) : Prop where
  v : v = .ref a
  a : H a = some (.ins A.CallRow dx [("number", .int n), ("name", .str "f"), ("things", .ref q)])
  q : H q = some (.lst [])
  k : dk = [(.inr "f", .ref dd)]
  d : H dd = some (.ins A.DeedRow ddx [("number", .int dn), ("name", .str "f"), ("parts", .ref pq), ("body", .ref bq)])
  p : H pq = some (.lst [])
  b : H bq = some (.lst xs)
  r : PySem.Paired R xs F
def LeafAt (A : Adr) (H : Hp) (v : V) : Rw → Prop
  | .set n x val => val.ok ∧ ∃ a dx p, SetAt A H v n x val a dx p
  | .snd n h val => val.ok ∧ ∃ a dx p, SndAt A H v n h val a dx p
  | .last n => ∃ a dx, LastAt A H v n a dx
  | _ => False
def RowAt (A : Adr) (dk : List (Key × V)) (F : List Rw) (H : Hp) : Nat → V → Rw → Prop
  | 0, v, r => LeafAt A H v r
  | d + 1, v, .ite n val as bs l r => val.ok ∧ ∃ a dx p q₁ q₂ xs ys, IfAt A H (RowAt A dk F H d) v n val as bs l r a dx p q₁ q₂ xs ys
  | d + 1, v, .loop n th m b l r => ∃ a dx q xs, LoopAt A H (RowAt A dk F H d) v n th m b l r a dx q xs
  | d + 1, v, .call n => ∃ dn a dx q dd ddx pq bq xs, CallAt A H (RowAt A dk F H d) dk F v n dn a dx q dd ddx pq bq xs
  | _ + 1, v, r => LeafAt A H v r
theorem LeafAt.same {H H' : Hp} (s : Same H H') {v : V} : ∀ {r : Rw}, LeafAt A H v r → LeafAt A H' v r
  | .set _ _ _, ⟨o, a, dx, p, h⟩ => ⟨o, a, dx, p, h.v, s _ _ h.a, s _ _ h.p⟩
  | .snd _ _ _, ⟨o, a, dx, p, h⟩ => ⟨o, a, dx, p, h.v, s _ _ h.a, s _ _ h.p⟩
  | .last _, ⟨a, dx, h⟩ => ⟨a, dx, h.v, s _ _ h.a⟩
  | .ite _ _ _ _ _ _, h => h
  | .loop _ _ _ _ _ _, h => h
  | .call _, h => h
theorem RowAt.same {dk : List (Key × V)} {F : List Rw} {H H' : Hp} (s : Same H H') : ∀ {d : Nat} {v : V} {r : Rw}, RowAt A dk F H d v r → RowAt A dk F H' d v r
  | 0, _, _, h => LeafAt.same s h
  | d + 1, _, .ite _ _ _ _ _ _, ⟨o, a, dx, p, q₁, q₂, xs, ys, h⟩ => ⟨o, a, dx, p, q₁, q₂, xs, ys, h.v, s _ _ h.a, s _ _ h.p, s _ _ h.q₁, Paired.mapP h.r₁ fun _ _ => RowAt.same s, s _ _ h.q₂, Paired.mapP h.r₂ fun _ _ => RowAt.same s⟩
  | d + 1, _, .loop _ _ _ _ _ _, ⟨a, dx, q, xs, h⟩ => ⟨a, dx, q, xs, h.v, s _ _ h.a, s _ _ h.hq, Paired.mapP h.hr fun _ _ => RowAt.same s, h.hm, h.rb⟩
  | d + 1, _, .call _, ⟨dn, a, dx, q, dd, ddx, pq, bq, xs, h⟩ => ⟨dn, a, dx, q, dd, ddx, pq, bq, xs, h.v, s _ _ h.a, s _ _ h.q, h.k, s _ _ h.d, s _ _ h.p, s _ _ h.b, Paired.mapP h.r fun _ _ => RowAt.same s⟩
  | _ + 1, _, .set _ _ _, h => LeafAt.same (r := .set _ _ _) s h
  | _ + 1, _, .snd _ _ _, h => LeafAt.same (r := .snd _ _ _) s h
  | _ + 1, _, .last _, h => LeafAt.same (r := .last _) s h
end
end K25

set_option Elab.async false
set_option linter.all false
set_option maxRecDepth 100000
set_option maxHeartbeats 4000000
namespace K25
open PySem L2
section
variable {P : Program} {w : World} {K : PySem.W.Frag} {mg : Str → Option Value} {base : Heap} {A : Adr}
theorem Same.out {H0 H : Hp} (s : Same H0 H) {x : Addr} (h : H0 x = none) (u : HO) : Same H0 (upd H x u) := fun a o q => by
  rw [upd_ne (ne_of_none q h)]
  exact s a o q
def Tups (H : Hp) (xs : List V) (ws : List (List V)) : Prop := PySem.Paired (fun v w => ∃ p, v = V.ref p ∧ H p = some (.tup w)) xs ws
def Stay (H H' : Hp) : Prop := ∀ p w, H p = some (.tup w) → H' p = some (.tup w)
theorem Tups.stay {H H' : Hp} (s : Stay H H') {xs : List V} {ws : List (List V)} (h : Tups H xs ws) : Tups H' xs ws := Paired.mapP h fun _ _ ⟨p, e, q⟩ => ⟨p, e, s p _ q⟩
theorem Same.stay {H H' : Hp} (s : Same H H') : Stay H H' := fun p w h => s p _ h
theorem Stay.trans {H H1 H2 : Hp} (a : Stay H H1) (b : Stay H1 H2) : Stay H H2 := fun p w h => b p w (a p w h)
theorem Stay.at {H : Hp} {a : Addr} {o u : HO} (h : H a = some o) (n : ∀ w, o ≠ .tup w) : Stay H (upd H a u) := fun p w q => by
  rw [upd_ne (fun z => by rw [z, h] at q; exact n w (Option.some.inj q))]
  exact q
theorem Tups.len {H : Hp} {xs : List V} {ws : List (List V)} (h : Tups H xs ws) : xs.length = ws.length := Paired.length h
theorem paired_get {α β : Type} {F : α → β → Prop} : ∀ {l₁ : List α} {l₂ : List β} {i : Nat} {a : α}, PySem.Paired F l₁ l₂ → l₁[i]? = some a → ∃ b, l₂[i]? = some b ∧ F a b
  | _, _, _, _, .nil, e => by simp at e
  | _, _, 0, _, .cons r _, e => by simp at e; subst e; exact ⟨_, rfl, r⟩
  | _, _, i + 1, _, .cons _ t, e => by
    obtain ⟨b, h1, h2⟩ := paired_get (i := i) t (by simpa using e)
    exact ⟨b, by simpa using h1, h2⟩
theorem drop_at {α : Type} {xs : List α} {i : Nat} {x : α} (h : xs[i]? = some x) : xs.drop i = x :: xs.drop (i + 1) := by
  obtain ⟨hi, e⟩ := List.getElem?_eq_some_iff.mp h
  rw [List.drop_eq_getElem_cons hi, e]
theorem Same.but {H0 H H' : Hp} {b : Addr} (s : Same H0 H) (h : H0 b = none) (t : But b H H') : Same H0 H' := fun a o q => t a (fun z => by rw [z, h] at q; cases q) o (s a o q)
def sp_reckon : Sp := fun vs H Q _ => ∃ (a b : Int) (x : Str), vs = [.int a, .str x, .int b] ∧ 0 ≤ a ∧ a < 1000000000000 ∧ 0 ≤ b ∧ b < 1000000000000 ∧ Q (.int (rkn a b x)) H
theorem h_reckon (T : Txt K mg A) : Has P w K mg base 1 "reckon" ["one", "word", "other"] sp_reckon := by
  refine T.reckon.has sc_reckon (fun vs H Q E h => ?_) (fun f cdv A outer s H vs Q E hr hu h => ?_)
  · obtain ⟨a, b, x, rfl, _⟩ := h
    rfl
  · obtain ⟨a, b, x, rfl, a0, a1, b0, b1, q⟩ := h
    refine ⟨_, (pss_cons (ps_if (pt_cmpR (o_eqU hu) (fv 1) (pe_str) (nomark _))
      (pss_one (ps_ret (pe_op o_mod (pe_op o_add (fv 0) (fv 2)) (pe_gint T.c_ROUND))))
      pss_nil)
    (pss_cons (ps_if (pt_cmpR (o_eqU hu) (fv 1) (pe_str) (nomark _))
      (pss_one (ps_ret (pe_op o_mod (pe_op o_sub (fv 0) (fv 2)) (pe_gint T.c_ROUND))))
      pss_nil)
    (pss_cons (ps_if (pt_cmpR (o_eqU hu) (fv 1) (pe_str) (nomark _))
      (pss_one (ps_ret (pe_op o_mod (pe_op o_mulA (fv 0) (fv 2)) (pe_gint T.c_ROUND))))
      pss_nil)
    (pss_cons (ps_if (pt_cmpR (o_eqU hu) (fv 1) (pe_str) (nomark _))
      (pss_one (ps_ret (pe_ifExp (pt_cmpR (o_eqU hu) (fv 2) (pe_int) (nomark _)) (pe_int) (pe_op o_fdiv (fv 0) (fv 2)))))
      pss_nil)
    (pss_cons (ps_if (pt_cmpR (o_eqU hu) (fv 1) (pe_str) (nomark _))
      (pss_one (ps_ret (pe_ifExp (pt_cmpR (o_eqU hu) (fv 2) (pe_int) (nomark _)) (fv 0) (pe_op o_mod (fv 0) (fv 2)))))
      pss_nil)
    (pss_cons (ps_if (pt_cmpR (o_eqU hu) (fv 1) (pe_str) (nomark _))
      (pss_one (ps_ret (pe_ifExp (pt_cmpR (o_lt) (fv 0) (fv 2) (nomark _)) (pe_int) (pe_int))))
      pss_nil)
    (pss_one (ps_ret (pe_ifExp (pt_cmpR (o_eqU hu) (fv 0) (fv 2) (nomark _)) (pe_int) (pe_int)))))))))), ?_⟩
    unfold rkn at q
    refine ⟨rfl, _, rfl, ite2 (fun c => ?_) (fun c => ?_)⟩
    · rw [if_pos c] at q
      exact ⟨(by show (0 : Int) < 1000000000000; decide), q⟩
    rw [if_neg c] at q
    refine ⟨rfl, _, rfl, ite2 (fun c => ?_) (fun c => ?_)⟩
    · rw [if_pos c] at q
      exact ⟨(by show (0 : Int) < 1000000000000; decide), q⟩
    rw [if_neg c] at q
    refine ⟨rfl, _, rfl, ite2 (fun c => ?_) (fun c => ?_)⟩
    · rw [if_pos c] at q
      exact ⟨.inl ⟨by omega, by omega⟩, (by show (0 : Int) < 1000000000000; decide), q⟩
    rw [if_neg c] at q
    refine ⟨rfl, _, rfl, ite2 (fun c => ?_) (fun c => ?_)⟩
    · rw [if_pos c] at q
      refine ⟨rfl, _, rfl, ite2 (fun d => ?_) (fun d => ?_)⟩
      · rw [if_pos d] at q
        exact q
      · rw [if_neg d] at q
        have hb : b ≠ 0 := fun z => d (by rw [z]; rfl)
        exact ⟨⟨by omega, by omega⟩, q⟩
    rw [if_neg c] at q
    refine ⟨rfl, _, rfl, ite2 (fun c => ?_) (fun c => ?_)⟩
    · rw [if_pos c] at q
      refine ⟨rfl, _, rfl, ite2 (fun d => ?_) (fun d => ?_)⟩
      · rw [if_pos d] at q
        exact q
      · rw [if_neg d] at q
        have hb : b ≠ 0 := fun z => d (by rw [z]; rfl)
        exact ⟨by omega, q⟩
    rw [if_neg c] at q
    refine ⟨rfl, _, rfl, ite2 (fun c => ?_) (fun c => ?_)⟩
    · rw [if_pos c] at q
      refine ⟨_, rfl, ite2 (fun d => ?_) (fun d => ?_)⟩
      · rw [if_pos d] at q
        exact q
      · rw [if_neg d] at q
        exact q
    rw [if_neg c] at q
    refine ⟨rfl, _, rfl, ite2 (fun d => ?_) (fun d => ?_)⟩
    · rw [if_pos d] at q
      exact q
    · rw [if_neg d] at q
      exact q
def sp_isnum : Sp := fun vs H Q _ => ∃ a : Int, vs = [.int a] ∧ 0 ≤ a ∧ a ≤ 999999999999 ∧ Q (.bl true) H
theorem h_isnum (T : Txt K mg A) : Has P w K mg base 1 "is_number" ["thing"] sp_isnum := by
  refine T.is_number.has sc_is_number (fun vs H Q E h => ?_) (fun f cdv A outer s H vs Q E hr hu h => ?_)
  · obtain ⟨a, rfl, _⟩ := h
    rfl
  · obtain ⟨a, rfl, h0, h1, q⟩ := h
    refine ⟨_, (pss_cons (ps_if (PW.pt (pw_or (pt_tru (pe_callB c_isinst rfl T.z_isinstance (by boot_by_name) (pa_cons (fv 0) (pa_cons (pe_bltn (v := .ty "bool") rfl T.z_bool (by boot_by_name) rfl) pa_nil))) (fun _ => rfl)) (pw_or1 (pt_not (pt_tru (pe_callB c_isinst rfl T.z_isinstance (by boot_by_name) (pa_cons (fv 0) (pa_cons (pe_bltn (v := .ty "int") rfl T.z_int (by boot_by_name) rfl) pa_nil))) (fun _ => rfl))))))
      (pss_one (ps_ret (pe_bl)))
      pss_nil)
    (pss_one (ps_ret (pe_chain (o_le) (o_le) (pe_int) (fv 0) (pe_gint T.c_MOST_NUMBER))))), ?_⟩
    refine ⟨_, _, _, false, rfl, (fun z => by cases z), .int a, kit_ib, false, rfl, iteF ?_⟩
    refine ⟨_, _, _, true, rfl, (fun z => by cases z), .int a, kit_ii, true, rfl, iteF ?_⟩
    refine ⟨_, rfl, ite2 (fun c => ?_) (fun c => absurd (decide_eq_true h0) c)⟩
    have e : decide (a ≤ 999999999999) = true := decide_eq_true h1
    show Q (.bl (decide (a ≤ 999999999999))) H
    rw [e]
    exact q
theorem Gd {H : Hp} {g : Addr} {x : Int} (h : H g = some (.dK [(.inr "g", .int x)])) : DGet H g (.str "g") (some (.int x)) := DGet.k (k := .inr "g") h
def sp_isgood : Sp := fun vs H Q _ => ∃ a : Int, vs = [.int a, .int 0] ∧ 0 ≤ a ∧ a ≤ 999999999999 ∧ Q (.bl true) H
theorem h_isgood (T : Txt K mg A) : Has P w K mg base 2 "is_good" ["gift", "size"] sp_isgood := by
  have D_is_number := h_isnum (P := P) (w := w) (base := base) T
  refine T.is_good.has sc_is_good (fun vs H Q E h => ?_) (fun f cdv A outer s H vs Q E hr hu h => ?_)
  · obtain ⟨a, rfl, _⟩ := h
    rfl
  · obtain ⟨a, rfl, h0, h1, q⟩ := h
    refine ⟨_, (pss_cons (ps_if (pt_cmpR (o_eqU hu) (fv 1) (pe_int) (nomark _))
      (pss_one (ps_ret (pe_callD D_is_number hr (pa_cons (fv 0) pa_nil))))
      pss_nil)
    (pss_one (ps_ret (pe_and (pe_callB c_isinst rfl T.z_isinstance (by boot_by_name) (pa_cons (fv 0) (pa_cons (pe_bltn (v := .ty "list") rfl T.z_list (by boot_by_name) rfl) pa_nil))) (pe_and (pe_cmpR (o_eqU hu) (pe_callB c_lenA rfl T.z_len (by boot_by_name) (pa_cons (fv 0) pa_nil)) (fv 1) (nomark _)) (pe_one (pe_callB c_all rfl T.z_all (by boot_by_name) (pa_cons (pe_comp (N := ["thing"]) (own := 1) (fr := []) (CompOk.of (by kernel_rfl!)) rfl (pi_any (fv 0)) (fun b => pg_name (i := 0) (show List.Nodup (["thing"] : List PySem.Str) by decide +kernel) rfl (by first | exact Or.inl rfl | exact Or.inr rfl)) (fun b => pf_nil) (fun b => pe_callD D_is_number hr (pa_cons (fv 0) pa_nil))) pa_nil)))))))), ?_⟩
    refine ⟨rfl, _, rfl, ite2 (fun c => ?_) (fun c => absurd rfl c)⟩
    exact ⟨a, rfl, h0, h1, q⟩
def sp_given (A : Adr) : Sp := fun vs H Q _ => ∃ (a g dx : Addr) (x n rk : Int), vs = [.ref a, .ref g] ∧ H g = some (.dK [(.inr "g", .int x)]) ∧ H a = some (.ins A.GivenRow dx [("number", .int n), ("name", .str "g"), ("rank", .int rk), ("size", .int 0)]) ∧ In x ∧ Q (.int x) H
theorem h_given (T : Txt K mg A) : Has P w K mg base 3 "given_cell" ["given", "gifts"] (sp_given A) := by
  have D_is_good := h_isgood (P := P) (w := w) (base := base) T
  refine T.given_cell.has sc_given_cell (fun vs H Q E h => ?_) (fun f cdv A' outer s H vs Q E hr hu h => ?_)
  · obtain ⟨a, g, dx, x, n, rk, rfl, _⟩ := h
    rfl
  · obtain ⟨a, g, dx, x, n, rk, rfl, G, ha, hx, q⟩ := h
    have x1 := hx.2
    refine ⟨_, (pss_cons (ps_set (i := 2) sc_given_cell.nd rfl (Or.inl rfl) (pe_dget1 (Nat.lt_of_le_of_lt (Nat.add_le_add_left (show 1 ≤ 64 by decide) _) hu) (fv 1) (pe_fld (fv 0) rfl) ⟨rfl, rfl, rfl, rfl⟩))
    (pss_cons (ps_if (pt_not (pt_tru (pe_callD D_is_good hr (pa_cons (fv 2) (pa_cons (pe_fld (fv 0) rfl) pa_nil))) (fun _ => rfl)))
      pss_never
      pss_nil)
    (pss_one (ps_ret (pe_ifExp (pt_cmpR (o_eqU hu) (pe_fld (fv 0) rfl) (pe_int) (nomark _)) (fv 2) (pe_callTy c_listA rfl T.z_list (by boot_by_name) (pa_cons (fv 2) pa_nil))))))), ?_⟩
    refine ⟨g, rfl, Or.inl ⟨_, Or.inl G⟩, a, _, dx, _, _, rfl, ha, T.o_GivenRow.cl, T.n_GivenRow_name, rfl, _, Gd G, ?_⟩
    refine ⟨a, _, dx, _, _, rfl, ha, T.o_GivenRow.cl, T.n_GivenRow_size, rfl, x, rfl, hx.1, by omega, true, rfl, iteF ?_⟩
    exact ⟨a, _, dx, _, _, rfl, ha, T.o_GivenRow.cl, T.n_GivenRow_size, rfl, rfl, _, rfl, iteT q⟩
def sp_own (A : Adr) : Sp := fun vs H Q _ => ∃ (a dx : Addr) (n : Int) (x : Str), vs = [.ref a] ∧ H a = some (.ins A.OwnRow dx [("number", .int n), ("name", .str x), ("size", .int 0)]) ∧ Q (.int 0) H
theorem h_own (T : Txt K mg A) : Has P w K mg base 1 "own_cell" ["own"] (sp_own A) := by
  refine T.own_cell.has sc_own_cell (fun vs H Q E h => ?_) (fun f cdv A' outer s H vs Q E hr hu h => ?_)
  · obtain ⟨a, dx, n, x, rfl, _⟩ := h
    rfl
  · obtain ⟨a, dx, n, x, rfl, ha, q⟩ := h
    refine ⟨_, (pss_one (ps_ret (pe_ifExp (pt_cmpR (o_eqU hu) (pe_fld (fv 0) rfl) (pe_int) (nomark _)) (pe_int) (pe_op o_mulA (pe_lst (pa_cons (pe_int) pa_nil)) (pe_fld (fv 0) rfl))))), ?_⟩
    exact ⟨a, _, dx, _, _, rfl, ha, T.o_OwnRow.cl, T.n_OwnRow_size, rfl, rfl, _, rfl, iteT q⟩
structure Pa where
  pa : Addr
  dp : Addr
  hd : Addr
  dd : Addr
  mn : Addr
  a1 : Addr
  a2 : Addr
  a3 : Addr
  a4 : Addr
  a5 : Addr
  d1 : Addr
  d2 : Addr
  d3 : Addr
  d4 : Addr
  d5 : Addr
structure PrAt (A : Adr) (H : Hp) (p : Pa) (ds xs : List V) : Prop where
  pr : H p.pa = some (.ins A.Program p.dp [("heads", .ref p.hd), ("deeds", .ref p.dd), ("main", .ref p.mn)])
  hd : H p.hd = some (.lst [.ref p.a1, .ref p.a2, .ref p.a3, .ref p.a4, .ref p.a5])
  dd : H p.dd = some (.lst ds)
  mn : H p.mn = some (.lst xs)
  h1 : H p.a1 = some (.ins A.HandRow p.d1 [("number", .int 1), ("name", .str "h"), ("rank", .int 0)])
  h2 : H p.a2 = some (.ins A.HandRow p.d2 [("number", .int 2), ("name", .str "k"), ("rank", .int 1)])
  h3 : H p.a3 = some (.ins A.OwnRow p.d3 [("number", .int 3), ("name", .str "c"), ("size", .int 0)])
  h4 : H p.a4 = some (.ins A.GivenRow p.d4 [("number", .int 4), ("name", .str "g"), ("rank", .int 2), ("size", .int 0)])
  h5 : H p.a5 = some (.ins A.OwnRow p.d5 [("number", .int 5), ("name", .str "t"), ("size", .int 0)])
theorem PrAt.same {H H' : Hp} {p : Pa} {ds xs : List V} (R : PrAt A H p ds xs) (s : Same H H') : PrAt A H' p ds xs := ⟨s _ _ R.pr, s _ _ R.hd, s _ _ R.dd, s _ _ R.mn, s _ _ R.h1, s _ _ R.h2, s _ _ R.h3, s _ _ R.h4, s _ _ R.h5⟩
def DeedsAt (A : Adr) (H : Hp) (ds : List V) (dk : List (Key × V)) : Prop := (ds = [] ∧ dk = []) ∨ ∃ (a dx pq bq : Addr) (n : Int), ds = [.ref a] ∧ dk = [(.inr "f", .ref a)] ∧ H a = some (.ins A.DeedRow dx [("number", .int n), ("name", .str "f"), ("parts", .ref pq), ("body", .ref bq)]) ∧ H pq = some (.lst [])
theorem DeedsAt.same {H H' : Hp} {ds : List V} {dk : List (Key × V)} (R : DeedsAt A H ds dk) (s : Same H H') : DeedsAt A H' ds dk := by
  rcases R with h | ⟨a, dx, pq, bq, n, h1, h2, h3, h4⟩
  · exact Or.inl h
  · exact Or.inr ⟨a, dx, pq, bq, n, h1, h2, s _ _ h3, s _ _ h4⟩
def cellsK (c g t : Int) : List (Key × V) := [(.inr "c", .int c), (.inr "g", .int g), (.inr "t", .int t)]
def sp_cells (A : Adr) : Sp := fun vs H Q _ => ∃ (p : Pa) (g : Addr) (x : Int) (ds xs : List V) (dk : List (Key × V)), vs = [.ref p.pa, .ref g] ∧ PrAt A H p ds xs ∧ DeedsAt A H ds dk ∧ H g = some (.dK [(.inr "g", .int x)]) ∧ In x ∧
  ∀ c H', Same H H' → H' c = some (.dK (cellsK 0 x 0)) → H c = none → Q (.ref c) H'
def cellsTo (x : Int) : Nat → List (Key × V)
  | 0 => []
  | 1 => []
  | 2 => []
  | 3 => [(.inr "c", .int 0)]
  | 4 => [(.inr "c", .int 0), (.inr "g", .int x)]
  | _ => cellsK 0 x 0
theorem h_cells (T : Txt K mg A) : Has P w K mg base 4 "cells_of" ["program", "gifts"] (sp_cells A) := by
  have D_given_cell := h_given (P := P) (w := w) (base := base) T
  have D_own_cell := h_own (P := P) (w := w) (base := base) T
  refine T.cells_of.has sc_cells_of (fun vs H Q E h => ?_) (fun f cdv A' outer s H vs Q E hr hu h => ?_)
  · obtain ⟨p, g, x, ds, xs, dk, rfl, _⟩ := h
    rfl
  · obtain ⟨p, g, x, ds, xs, dk, rfl, R, DA, G, hx, q⟩ := h
    refine ⟨_, (pss_cons (ps_set (i := 2) sc_cells_of.nd rfl (Or.inl rfl) (pe_dnewK))
    (pss_cons (ps_for PassesOwn.never rfl (pi_any (pe_fld (fv 0) rfl)) (pg_name (i := 3) sc_cells_of.nd rfl (by first | exact Or.inl rfl | exact Or.inr rfl))
      (pss_one (ps_if (pt_tru (pe_callB c_isinst rfl T.z_isinstance (by boot_by_name) (pa_cons (fv 3) (pa_cons (pe_gtup T.o_GivenRow.mg) pa_nil))) (fun _ => rfl))
        (pss_one (ps_asg (pe_callD D_given_cell hr (pa_cons (fv 3) (pa_cons (fv 1) pa_nil))) (pg_sub (fv 2) (pe_fld (fv 3) rfl) (st_all hu set_list))))
        (pss_one (ps_if (pt_tru (pe_callB c_isinst rfl T.z_isinstance (by boot_by_name) (pa_cons (fv 3) (pa_cons (pe_gtup T.o_OwnRow.mg) pa_nil))) (fun _ => rfl))
          (pss_one (ps_asg (pe_callD D_own_cell hr (pa_cons (fv 3) pa_nil)) (pg_sub (fv 2) (pe_fld (fv 3) rfl) (st_all hu set_list))))
          pss_nil)))))
    (pss_cons (ps_for PassesOwn.never rfl (pi_any (pe_fld (fv 0) rfl)) (pg_name (i := 4) sc_cells_of.nd rfl (by first | exact Or.inl rfl | exact Or.inr rfl))
      (pss_one (ps_for PassesOwn.never rfl (pi_any (pe_fld (fv 4) rfl)) (pg_name (i := 5) sc_cells_of.nd rfl (by first | exact Or.inl rfl | exact Or.inr rfl))
        pss_never)))
    (pss_one (ps_ret (fv 2)))))), ?_⟩
    refine fun c hc => ?_
    have s1 := Same.upd hc (HO.dK [])
    have e1 : (upd H c (HO.dK [])) c = some (.dK []) := upd_same
    generalize upd H c (HO.dK []) = H1 at s1 e1 ⊢
    refine ⟨p.pa, _, p.dp, _, _, rfl, s1 _ _ R.pr, T.o_Program.cl, T.n_Program_heads, rfl, Or.inl ⟨⟨_, SqL.of (s1 _ _ R.hd)⟩, ?_⟩⟩
    refine for_list (K := K) (xs := [.ref p.a1, .ref p.a2, .ref p.a3, .ref p.a4, .ref p.a5]) (fun i σ H2 => Same H H2 ∧ H2 c = some (.dK (cellsTo x i)) ∧ ∃ v, σ = [some (.ref p.pa), some (.ref g), some (.ref c), v, none, none]) ⟨s1, e1, none, rfl⟩ (fun i σ H2 _ h => SqL.of (h.1 _ _ R.hd)) ?_ ?_
    · rintro i v σ H2 hv ⟨s2, hc2, z, rfl⟩
      match i, hv, hc2 with
      | 0, hv, hc2 =>
        cases hv
        refine ⟨_, _, _, false, rfl, (fun z => by cases z), T.o_HandRow.tyOf (s2 _ _ R.h1), kitF T.o_HandRow T.o_GivenRow (cls_ne T 3 2) (cls_ne T 3 1), false, rfl, iteF ?_⟩
        refine ⟨_, _, _, false, rfl, (fun z => by cases z), T.o_HandRow.tyOf (s2 _ _ R.h1), kitF T.o_HandRow T.o_OwnRow (cls_ne T 4 2) (cls_ne T 4 1), false, rfl, iteF ?_⟩
        exact ⟨s2, hc2, _, rfl⟩
      | 1, hv, hc2 =>
        cases hv
        refine ⟨_, _, _, false, rfl, (fun z => by cases z), T.o_HandRow.tyOf (s2 _ _ R.h2), kitF T.o_HandRow T.o_GivenRow (cls_ne T 3 2) (cls_ne T 3 1), false, rfl, iteF ?_⟩
        refine ⟨_, _, _, false, rfl, (fun z => by cases z), T.o_HandRow.tyOf (s2 _ _ R.h2), kitF T.o_HandRow T.o_OwnRow (cls_ne T 4 2) (cls_ne T 4 1), false, rfl, iteF ?_⟩
        exact ⟨s2, hc2, _, rfl⟩
      | 2, hv, hc2 =>
        cases hv
        refine ⟨_, _, _, false, rfl, (fun z => by cases z), T.o_OwnRow.tyOf (s2 _ _ R.h3), kitF T.o_OwnRow T.o_GivenRow (cls_ne T 3 4) (cls_ne T 3 1), false, rfl, iteF ?_⟩
        refine ⟨_, _, _, true, rfl, (fun z => by cases z), T.o_OwnRow.tyOf (s2 _ _ R.h3), kitT T.o_OwnRow, true, rfl, iteT ?_⟩
        refine ⟨p.a3, p.d3, _, _, rfl, s2 _ _ R.h3, p.a3, _, p.d3, _, _, rfl, s2 _ _ R.h3, T.o_OwnRow.cl, T.n_OwnRow_name, rfl, _, DPut.k (k := .inr "c") hc2 (show 0 < sizeLine by decide), ?_⟩
        exact ⟨Same.out s2 hc _, upd_same, _, rfl⟩
      | 3, hv, hc2 =>
        cases hv
        refine ⟨_, _, _, true, rfl, (fun z => by cases z), T.o_GivenRow.tyOf (s2 _ _ R.h4), kitT T.o_GivenRow, true, rfl, iteT ?_⟩
        refine ⟨p.a4, g, p.d4, x, _, _, rfl, s2 _ _ G, s2 _ _ R.h4, hx, ?_⟩
        refine ⟨p.a4, _, p.d4, _, _, rfl, s2 _ _ R.h4, T.o_GivenRow.cl, T.n_GivenRow_name, rfl, _, DPut.k (k := .inr "g") hc2 (show 1 < sizeLine by decide), ?_⟩
        exact ⟨Same.out s2 hc _, upd_same, _, rfl⟩
      | 4, hv, hc2 =>
        cases hv
        refine ⟨_, _, _, false, rfl, (fun z => by cases z), T.o_OwnRow.tyOf (s2 _ _ R.h5), kitF T.o_OwnRow T.o_GivenRow (cls_ne T 3 4) (cls_ne T 3 1), false, rfl, iteF ?_⟩
        refine ⟨_, _, _, true, rfl, (fun z => by cases z), T.o_OwnRow.tyOf (s2 _ _ R.h5), kitT T.o_OwnRow, true, rfl, iteT ?_⟩
        refine ⟨p.a5, p.d5, _, _, rfl, s2 _ _ R.h5, p.a5, _, p.d5, _, _, rfl, s2 _ _ R.h5, T.o_OwnRow.cl, T.n_OwnRow_name, rfl, _, DPut.k (k := .inr "t") hc2 (show 2 < sizeLine by decide), ?_⟩
        exact ⟨Same.out s2 hc _, upd_same, _, rfl⟩
      | i + 5, hv, hc2 => cases hv
    · rintro σ H2 ⟨s2, hc2, z, rfl⟩
      refine ⟨p.pa, _, p.dp, _, _, rfl, s2 _ _ R.pr, T.o_Program.cl, T.n_Program_deeds, rfl, Or.inl ⟨⟨_, SqL.of (s2 _ _ R.dd)⟩, ?_⟩⟩
      refine for_list (K := K) (xs := ds) (fun i σ H3 => H3 = H2 ∧ ∃ v3 v4, σ = [some (.ref p.pa), some (.ref g), some (.ref c), v3, v4, none]) ⟨rfl, _, _, rfl⟩ (fun i σ H3 _ h => by rw [h.1]; exact SqL.of (s2 _ _ R.dd)) ?_ ?_
      · rintro i v σ H3 hv ⟨rfl, v3, v4, rfl⟩
        rcases DA with ⟨rfl, _⟩ | ⟨a, dx, pq, bq, n, rfl, _, ha, hp⟩
        · cases hv
        · obtain rfl : v = .ref a := by
            have := List.mem_of_getElem? hv
            simpa using this
          refine ⟨a, _, dx, _, _, rfl, s2 _ _ ha, T.o_DeedRow.cl, T.n_DeedRow_parts, rfl, Or.inl ⟨⟨_, SqL.of (s2 _ _ hp)⟩, ?_⟩⟩
          refine for_list (K := K) (xs := []) (fun i σ H4 => H4 = H3 ∧ ∃ v3 v4, σ = [some (.ref p.pa), some (.ref g), some (.ref c), v3, v4, none]) ⟨rfl, _, _, rfl⟩ (fun i σ H4 _ h => by rw [h.1]; exact SqL.of (s2 _ _ hp)) ?_ ?_
          · rintro i v σ H4 hx _
            cases hx
          · rintro σ H4 ⟨rfl, v3, v4, rfl⟩
            exact ⟨rfl, _, _, rfl⟩
      · rintro σ H3 ⟨rfl, v3, v4, rfl⟩
        exact q c _ s2 hc2 hc
structure NewBook (A : Adr) (H : Hp) (x dx l sd t e : Addr) : Prop where
  b : H x = some (.ins A.Book dx [("letters", .ref l), ("said", .ref sd), ("trace", .ref t), ("steps", .int 0), ("ends", .ref e)])
  hl : H l = some (.lst [])
  hs : H sd = some (.lst [])
  ht : H t = some (.lst [])
  tl : t ≠ l
  dt : sd ≠ t
  dl : sd ≠ l
def sp_Book_init (A : Adr) : Sp := fun vs H Q _ => ∃ x dx, vs = [.ref x] ∧ H x = some (.ins A.Book dx []) ∧ ∀ (l sd t e : Addr) (H' : Hp), H l = none → H sd = none → H t = none → But x H H' → NewBook A H' x dx l sd t e → Q .non H'
theorem h_Book_init (T : Txt K mg A) : HasM P w K mg base 1 A.Book "__init__" ["self"] (sp_Book_init A) := by
  refine T.m_Book_init.has (k := 0) sc_Book_init (fun vs H Q E h => ?_) (fun f cdv A' outer s H vs Q E hr hu h => ?_)
  · obtain ⟨x, dx, rfl, _⟩ := h
    rfl
  · obtain ⟨x, dx, rfl, hx, q⟩ := h
    refine ⟨_, (pss_cons (ps_fld (fv 0) (pe_lst (pa_nil)) rfl)
    (pss_cons (ps_fld (fv 0) (pe_lst (pa_nil)) rfl)
    (pss_cons (ps_fld (fv 0) (pe_lst (pa_nil)) rfl)
    (pss_cons (ps_fld (fv 0) (pe_int) rfl)
    (pss_one (ps_fld (fv 0) (pe_dnewK) rfl)))))), ?_⟩
    refine ⟨Nat.zero_le _, fun l hl => ?_⟩
    have lx : l ≠ x := fun z => by rw [z, hx] at hl; cases hl
    have b1 : But x H (upd H l (HO.lst [])) := But.new hl _
    have x1 : (upd H l (HO.lst [])) x = some (.ins A.Book dx []) := by rw [upd_ne (Ne.symm lx)]; exact hx
    have l1 : (upd H l (HO.lst [])) l = some (.lst []) := upd_same
    generalize upd H l (HO.lst []) = H1 at b1 x1 l1 ⊢
    refine ⟨x, _, dx, _, rfl, x1, T.o_Book.cl, T.n_Book_letters, by decide, ?_⟩
    have b2 : But x H (upd H1 x (.ins A.Book dx (putF "letters" (.ref l) []))) := b1.trans (But.at x _ _)
    have x2 : (upd H1 x (.ins A.Book dx (putF "letters" (.ref l) []))) x = some (.ins A.Book dx [("letters", .ref l)]) := upd_same
    have l2 : (upd H1 x (.ins A.Book dx (putF "letters" (.ref l) []))) l = some (.lst []) := by rw [upd_ne lx]; exact l1
    generalize upd H1 x (.ins A.Book dx (putF "letters" (.ref l) [])) = H2 at b2 x2 l2 ⊢
    refine ⟨Nat.zero_le _, fun sd hsd => ?_⟩
    have sx : sd ≠ x := fun z => by rw [z, x2] at hsd; cases hsd
    have dl : sd ≠ l := fun z => by rw [z, l2] at hsd; cases hsd
    have sd0 : H sd = none := b2.none sx hsd
    have b3 : But x H (upd H2 sd (HO.lst [])) := b2.trans (But.new hsd _)
    have x3 : (upd H2 sd (HO.lst [])) x = some (.ins A.Book dx [("letters", .ref l)]) := by rw [upd_ne (Ne.symm sx)]; exact x2
    have l3 : (upd H2 sd (HO.lst [])) l = some (.lst []) := by rw [upd_ne (Ne.symm dl)]; exact l2
    have s3 : (upd H2 sd (HO.lst [])) sd = some (.lst []) := upd_same
    generalize upd H2 sd (HO.lst []) = H3 at b3 x3 l3 s3 ⊢
    refine ⟨x, _, dx, _, rfl, x3, T.o_Book.cl, T.n_Book_said, by simp, ?_⟩
    have b4 : But x H (upd H3 x (.ins A.Book dx (putF "said" (.ref sd) [("letters", .ref l)]))) := b3.trans (But.at x _ _)
    have x4 : (upd H3 x (.ins A.Book dx (putF "said" (.ref sd) [("letters", .ref l)]))) x = some (.ins A.Book dx [("letters", .ref l), ("said", .ref sd)]) := upd_same
    have l4 : (upd H3 x (.ins A.Book dx (putF "said" (.ref sd) [("letters", .ref l)]))) l = some (.lst []) := by rw [upd_ne lx]; exact l3
    have s4 : (upd H3 x (.ins A.Book dx (putF "said" (.ref sd) [("letters", .ref l)]))) sd = some (.lst []) := by rw [upd_ne sx]; exact s3
    generalize upd H3 x (.ins A.Book dx (putF "said" (.ref sd) [("letters", .ref l)])) = H4 at b4 x4 l4 s4 ⊢
    refine ⟨Nat.zero_le _, fun t ht => ?_⟩
    have tx : t ≠ x := fun z => by rw [z, x4] at ht; cases ht
    have tl : t ≠ l := fun z => by rw [z, l4] at ht; cases ht
    have ts : t ≠ sd := fun z => by rw [z, s4] at ht; cases ht
    have t0 : H t = none := b4.none tx ht
    have b5 : But x H (upd H4 t (HO.lst [])) := b4.trans (But.new ht _)
    have x5 : (upd H4 t (HO.lst [])) x = some (.ins A.Book dx [("letters", .ref l), ("said", .ref sd)]) := by rw [upd_ne (Ne.symm tx)]; exact x4
    have l5 : (upd H4 t (HO.lst [])) l = some (.lst []) := by rw [upd_ne (Ne.symm tl)]; exact l4
    have s5 : (upd H4 t (HO.lst [])) sd = some (.lst []) := by rw [upd_ne (Ne.symm ts)]; exact s4
    have t5 : (upd H4 t (HO.lst [])) t = some (.lst []) := upd_same
    generalize upd H4 t (HO.lst []) = H5 at b5 x5 l5 s5 t5 ⊢
    refine ⟨x, _, dx, _, rfl, x5, T.o_Book.cl, T.n_Book_trace, by simp, ?_⟩
    have b6 : But x H (upd H5 x (.ins A.Book dx (putF "trace" (.ref t) [("letters", .ref l), ("said", .ref sd)]))) := b5.trans (But.at x _ _)
    have x6 : (upd H5 x (.ins A.Book dx (putF "trace" (.ref t) [("letters", .ref l), ("said", .ref sd)]))) x = some (.ins A.Book dx [("letters", .ref l), ("said", .ref sd), ("trace", .ref t)]) := upd_same
    have l6 : (upd H5 x (.ins A.Book dx (putF "trace" (.ref t) [("letters", .ref l), ("said", .ref sd)]))) l = some (.lst []) := by rw [upd_ne lx]; exact l5
    have s6 : (upd H5 x (.ins A.Book dx (putF "trace" (.ref t) [("letters", .ref l), ("said", .ref sd)]))) sd = some (.lst []) := by rw [upd_ne sx]; exact s5
    have t6 : (upd H5 x (.ins A.Book dx (putF "trace" (.ref t) [("letters", .ref l), ("said", .ref sd)]))) t = some (.lst []) := by rw [upd_ne tx]; exact t5
    generalize upd H5 x (.ins A.Book dx (putF "trace" (.ref t) [("letters", .ref l), ("said", .ref sd)])) = H6 at b6 x6 l6 s6 t6 ⊢
    refine ⟨x, _, dx, _, rfl, x6, T.o_Book.cl, T.n_Book_steps, by simp, ?_⟩
    have b7 : But x H (upd H6 x (.ins A.Book dx (putF "steps" (.int 0) [("letters", .ref l), ("said", .ref sd), ("trace", .ref t)]))) := b6.trans (But.at x _ _)
    have x7 : (upd H6 x (.ins A.Book dx (putF "steps" (.int 0) [("letters", .ref l), ("said", .ref sd), ("trace", .ref t)]))) x = some (.ins A.Book dx [("letters", .ref l), ("said", .ref sd), ("trace", .ref t), ("steps", .int 0)]) := upd_same
    have l7 : (upd H6 x (.ins A.Book dx (putF "steps" (.int 0) [("letters", .ref l), ("said", .ref sd), ("trace", .ref t)]))) l = some (.lst []) := by rw [upd_ne lx]; exact l6
    have s7 : (upd H6 x (.ins A.Book dx (putF "steps" (.int 0) [("letters", .ref l), ("said", .ref sd), ("trace", .ref t)]))) sd = some (.lst []) := by rw [upd_ne sx]; exact s6
    have t7 : (upd H6 x (.ins A.Book dx (putF "steps" (.int 0) [("letters", .ref l), ("said", .ref sd), ("trace", .ref t)]))) t = some (.lst []) := by rw [upd_ne tx]; exact t6
    generalize upd H6 x (.ins A.Book dx (putF "steps" (.int 0) [("letters", .ref l), ("said", .ref sd), ("trace", .ref t)])) = H7 at b7 x7 l7 s7 t7 ⊢
    refine fun e he => ?_
    have ex : e ≠ x := fun z => by rw [z, x7] at he; cases he
    have n8 := Same.upd he (HO.dK [])
    refine ⟨x, _, dx, _, rfl, n8 _ _ x7, T.o_Book.cl, T.n_Book_ends, by simp, ?_⟩
    refine q l sd t e _ hl sd0 t0 ((b7.trans (But.of n8)).trans (But.at x _ _)) ⟨upd_same, ?_, ?_, ?_, tl, Ne.symm ts, dl⟩
    · rw [upd_ne lx]; exact n8 _ _ l7
    · rw [upd_ne sx]; exact n8 _ _ s7
    · rw [upd_ne tx]; exact n8 _ _ t7
end
end K25

set_option Elab.async false
set_option linter.all false
set_option maxRecDepth 100000
set_option maxHeartbeats 4000000
namespace K25
open PySem L2
section
variable {P : Program} {w : World} {K : PySem.W.Frag} {mg : Str → Option Value} {base : Heap} {A : Adr}
theorem kit_is : PySem.W.kitOne K (.type "int") (.type "str") = some false := by kernel_rfl!
theorem kit_ss : PySem.W.kitOne K (.type "str") (.type "str") = some true := by kernel_rfl!
structure Ra where
  s : Addr
  ds : Addr
  d : Addr
  c : Addr
  b : Addr
  db : Addr
  sd : Addr
  e : Addr
  t : Addr
  l : Addr
structure RunAt (A : Adr) (dk : List (Key × V)) (H : Hp) (r : Ra) (k : S) : Prop where
  hs : H r.s = some (.ins A.Run r.ds [("deeds", .ref r.d), ("cells", .ref r.c), ("book", .ref r.b)])
  hb : H r.b = some (.ins A.Book r.db [("letters", .ref r.l), ("said", .ref r.sd), ("trace", .ref r.t), ("steps", .int k.steps), ("ends", .ref r.e)])
  hd : H r.sd = some (.lst [])
  hk : H r.d = some (.dK dk)
  hc : H r.c = some (.dK (cellsK k.c k.g k.t))
  ht : ∃ xs, H r.t = some (.lst xs) ∧ Tups H xs k.trace
  hl : ∃ xs, H r.l = some (.lst xs) ∧ Tups H xs k.letters
  sb : r.s ≠ r.b
  tl : r.t ≠ r.l
  dt : r.sd ≠ r.t
  dl : r.sd ≠ r.l
  cd : r.d ≠ r.c
variable {dk : List (Key × V)}
theorem RunAt.same {H H' : Hp} {r : Ra} {k : S} (R : RunAt A dk H r k) (s : Same H H') : RunAt A dk H' r k := by
  obtain ⟨h1, h2, h3, h4, h4', ⟨xs, h5, h6⟩, ⟨ys, h7, h8⟩, n1, n2, n3, n4, n5⟩ := R
  exact ⟨s _ _ h1, s _ _ h2, s _ _ h3, s _ _ h4, s _ _ h4', ⟨xs, s _ _ h5, h6.stay (Same.stay s)⟩, ⟨ys, s _ _ h7, h8.stay (Same.stay s)⟩, n1, n2, n3, n4, n5⟩
theorem RunAt.steps {H : Hp} {r : Ra} {k : S} (R : RunAt A dk H r k) (n : Int) : RunAt A dk (upd H r.b (.ins A.Book r.db (putF "steps" (.int n) [("letters", .ref r.l), ("said", .ref r.sd), ("trace", .ref r.t), ("steps", .int k.steps), ("ends", .ref r.e)]))) r { k with steps := n } := by
  obtain ⟨h1, h2, h3, h4, h4', ⟨xs, h5, h6⟩, ⟨ys, h7, h8⟩, n1, n2, n3, n4, n5⟩ := R
  have st := Stay.at (u := .ins A.Book r.db (putF "steps" (.int n) [("letters", .ref r.l), ("said", .ref r.sd), ("trace", .ref r.t), ("steps", .int k.steps), ("ends", .ref r.e)])) h2 (fun w e => by cases e)
  have ne : ∀ {a : Addr} {o : HO}, H a = some o → (∀ C dx fs, o ≠ .ins C dx fs) → a ≠ r.b := fun ha hn z => by rw [z, h2] at ha; exact hn _ _ _ (Option.some.inj ha).symm
  refine ⟨by rw [upd_ne n1]; exact h1, upd_same, ?_, ?_, ?_, ⟨xs, ?_, h6.stay st⟩, ⟨ys, ?_, h8.stay st⟩, n1, n2, n3, n4, n5⟩
  · rw [upd_ne (ne h3 (fun _ _ _ z => by cases z))]; exact h3
  · rw [upd_ne (ne h4 (fun _ _ _ z => by cases z))]; exact h4
  · rw [upd_ne (ne h4' (fun _ _ _ z => by cases z))]; exact h4'
  · rw [upd_ne (ne h5 (fun _ _ _ z => by cases z))]; exact h5
  · rw [upd_ne (ne h7 (fun _ _ _ z => by cases z))]; exact h7
theorem RunAt.trace {H : Hp} {r : Ra} {p : Addr} {k : S} {xs w : List V} (R : RunAt A dk H r k) (hp : H p = none) (ht : H r.t = some (.lst xs)) : RunAt A dk (upd (upd H p (.tup w)) r.t (.lst (xs ++ [.ref p]))) r { k with trace := k.trace ++ [w] } := by
  obtain ⟨h1, h2, h3, h4, h4', ⟨xs', h5, h6⟩, ⟨ys, h7, h8⟩, n1, n2, n3, n4, n5⟩ := R
  rw [ht] at h5
  cases h5
  have sm := Same.upd hp (HO.tup w)
  have st : Stay H (upd (upd H p (.tup w)) r.t (.lst (xs ++ [.ref p]))) := (Same.stay sm).trans (Stay.at (sm _ _ ht) fun w e => by cases e)
  have pt : p ≠ r.t := fun z => by rw [z, ht] at hp; cases hp
  have ne : ∀ {a : Addr} {o : HO}, H a = some o → (∀ xs, o ≠ .lst xs) → a ≠ r.t := fun ha hn z => by rw [z, ht] at ha; exact hn _ (Option.some.inj ha).symm
  refine ⟨?_, ?_, ?_, ?_, ?_, ⟨_, upd_same, PySem.Paired.snoc (h6.stay st) ⟨p, rfl, by rw [upd_ne pt]; exact upd_same⟩⟩, ⟨ys, ?_, h8.stay st⟩, n1, n2, n3, n4, n5⟩
  · rw [upd_ne (ne h1 (fun _ z => by cases z))]; exact sm _ _ h1
  · rw [upd_ne (ne h2 (fun _ z => by cases z))]; exact sm _ _ h2
  · rw [upd_ne n3]; exact sm _ _ h3
  · rw [upd_ne (ne h4 (fun _ z => by cases z))]; exact sm _ _ h4
  · rw [upd_ne (ne h4' (fun _ z => by cases z))]; exact sm _ _ h4'
  · rw [upd_ne (Ne.symm n2)]; exact sm _ _ h7
theorem RunAt.letter {H : Hp} {r : Ra} {p : Addr} {k : S} {xs w : List V} (R : RunAt A dk H r k) (hp : H p = none) (ht : H r.l = some (.lst xs)) : RunAt A dk (upd (upd H p (.tup w)) r.l (.lst (xs ++ [.ref p]))) r { k with letters := k.letters ++ [w] } := by
  obtain ⟨h1, h2, h3, h4, h4', ⟨ys, h7, h8⟩, ⟨xs', h5, h6⟩, n1, n2, n3, n4, n5⟩ := R
  rw [ht] at h5
  cases h5
  have sm := Same.upd hp (HO.tup w)
  have st : Stay H (upd (upd H p (.tup w)) r.l (.lst (xs ++ [.ref p]))) := (Same.stay sm).trans (Stay.at (sm _ _ ht) fun w e => by cases e)
  have pt : p ≠ r.l := fun z => by rw [z, ht] at hp; cases hp
  have ne : ∀ {a : Addr} {o : HO}, H a = some o → (∀ xs, o ≠ .lst xs) → a ≠ r.l := fun ha hn z => by rw [z, ht] at ha; exact hn _ (Option.some.inj ha).symm
  refine ⟨?_, ?_, ?_, ?_, ?_, ⟨ys, ?_, h8.stay st⟩, ⟨_, upd_same, PySem.Paired.snoc (h6.stay st) ⟨p, rfl, by rw [upd_ne pt]; exact upd_same⟩⟩, n1, n2, n3, n4, n5⟩
  · rw [upd_ne (ne h1 (fun _ z => by cases z))]; exact sm _ _ h1
  · rw [upd_ne (ne h2 (fun _ z => by cases z))]; exact sm _ _ h2
  · rw [upd_ne n4]; exact sm _ _ h3
  · rw [upd_ne (ne h4 (fun _ z => by cases z))]; exact sm _ _ h4
  · rw [upd_ne (ne h4' (fun _ z => by cases z))]; exact sm _ _ h4'
  · rw [upd_ne n2]; exact sm _ _ h7
theorem put_c {c g t v : Int} : putK (cellsK c g t) (.inr "c") (.int v) = cellsK v g t := rfl
theorem put_t {c g t v : Int} : putK (cellsK c g t) (.inr "t") (.int v) = cellsK c g v := rfl
theorem RunAt.put {H : Hp} {r : Ra} {k : S} (R : RunAt A dk H r k) (x : Bool) (v : Int) : RunAt A dk (upd H r.c (.dK (putK (cellsK k.c k.g k.t) (.inr (nm x)) (.int v)))) r (k.put x v) := by
  obtain ⟨h1, h2, h3, h4, h4', ⟨xs, h5, h6⟩, ⟨ys, h7, h8⟩, n1, n2, n3, n4, n5⟩ := R
  have e : putK (cellsK k.c k.g k.t) (.inr (nm x)) (.int v) = cellsK (k.put x v).c (k.put x v).g (k.put x v).t := by
    cases x
    · exact put_t
    · exact put_c
  have f1 : (k.put x v).steps = k.steps ∧ (k.put x v).trace = k.trace ∧ (k.put x v).letters = k.letters := by cases x <;> exact ⟨rfl, rfl, rfl⟩
  obtain ⟨f1, f2, f3⟩ := f1
  have st := Stay.at (u := .dK (putK (cellsK k.c k.g k.t) (.inr (nm x)) (.int v))) h4' (fun w e => by cases e)
  have ne : ∀ {a : Addr} {o : HO}, H a = some o → (∀ kv, o ≠ .dK kv) → a ≠ r.c := fun ha hn z => by rw [z, h4'] at ha; exact hn _ (Option.some.inj ha).symm
  refine ⟨?_, ?_, ?_, ?_, ?_, ⟨xs, ?_, ?_⟩, ⟨ys, ?_, ?_⟩, n1, n2, n3, n4, n5⟩
  · rw [upd_ne (ne h1 (fun _ z => by cases z))]; exact h1
  · rw [upd_ne (ne h2 (fun _ z => by cases z)), f1]; exact h2
  · rw [upd_ne (ne h3 (fun _ z => by cases z))]; exact h3
  · rw [upd_ne n5]; exact h4
  · rw [upd_same, e]
  · rw [upd_ne (ne h5 (fun _ z => by cases z))]; exact h5
  · rw [f2]; exact h6.stay st
  · rw [upd_ne (ne h7 (fun _ z => by cases z))]; exact h7
  · rw [f3]; exact h8.stay st
theorem RunAt.gc {H : Hp} {r : Ra} {k : S} (R : RunAt A dk H r k) : DGet H r.c (.str "c") (some (.int k.c)) := DGet.k (k := .inr "c") R.hc
theorem RunAt.gg {H : Hp} {r : Ra} {k : S} (R : RunAt A dk H r k) : DGet H r.c (.str "g") (some (.int k.g)) := DGet.k (k := .inr "g") R.hc
theorem RunAt.gt {H : Hp} {r : Ra} {k : S} (R : RunAt A dk H r k) : DGet H r.c (.str "t") (some (.int k.t)) := DGet.k (k := .inr "t") R.hc
def S.new (x : Int) : S := ⟨0, x, 0, 0, [], []⟩
def sp_Run_init (A : Adr) : Sp := fun vs H Q _ => ∃ (s ds c : Addr) (p : Pa) (x : Int) (dl xs : List V) (dk : List (Key × V)), vs = [.ref s, .ref p.pa, .ref c] ∧ H s = some (.ins A.Run ds []) ∧ PrAt A H p dl xs ∧ DeedsAt A H dl dk ∧ H c = some (.dK (cellsK 0 x 0)) ∧
  ∀ (d b db sd e t l : Addr) (H' : Hp), But s H H' → H b = none → H t = none → H l = none → RunAt A dk H' ⟨s, ds, d, c, b, db, sd, e, t, l⟩ (S.new x) → Q .non H'
theorem h_Run_init (T : Txt K mg A) : HasM P w K mg base 3 A.Run "__init__" ["self", "program", "cells"] (sp_Run_init A) := by
  have D_Book_init := h_Book_init (P := P) (w := w) (base := base) T
  refine T.m_Run_init.has (k := 2) sc_Run_init (fun vs H Q E h => ?_) (fun f cdv A' outer s' H vs Q E hr hu h => ?_)
  · obtain ⟨s, ds, c, p, x, dl, xs, dk, rfl, _⟩ := h
    rfl
  · obtain ⟨s, ds, c, p, x, dl, xs, dk, rfl, hs, R, DA, G, q⟩ := h
    refine ⟨_, (pss_cons (ps_fld (fv 0) (pe_dnewK) rfl)
    (pss_cons (ps_for PassesOwn.never rfl (pi_any (pe_fld (fv 1) rfl)) (pg_name (i := 3) sc_Run_init.nd rfl (by first | exact Or.inl rfl | exact Or.inr rfl))
      (pss_one (ps_asg (fv 3) (pg_sub (pe_fld (fv 0) rfl) (pe_fld (fv 3) rfl) (st_all hu set_list)))))
    (pss_cons (ps_fld (fv 0) (fv 2) rfl)
    (pss_one (ps_fld (fv 0) (pe_makeD0 T.o_Book D_Book_init hr) rfl))))), ?_⟩
    refine fun d hd => ?_
    have sm1 := Same.upd hd (HO.dK [])
    have ds0 : d ≠ s := fun z => by rw [z, hs] at hd; cases hd
    refine ⟨s, _, ds, _, rfl, sm1 _ _ hs, T.o_Run.cl, T.n_Run_deeds, by simp, ?_⟩
    have b2 : But s H (upd (upd H d (HO.dK [])) s (.ins A.Run ds (putF "deeds" (.ref d) []))) := (But.of sm1).trans (But.at s _ _)
    have x2 : (upd (upd H d (HO.dK [])) s (.ins A.Run ds (putF "deeds" (.ref d) []))) s = some (.ins A.Run ds [("deeds", .ref d)]) := upd_same
    have d2 : (upd (upd H d (HO.dK [])) s (.ins A.Run ds (putF "deeds" (.ref d) []))) d = some (.dK []) := by rw [upd_ne ds0]; exact upd_same
    generalize upd (upd H d (HO.dK [])) s (.ins A.Run ds (putF "deeds" (.ref d) [])) = H2 at b2 x2 d2 ⊢
    have ps : p.pa ≠ s := fun z => by have := R.pr; rw [z, hs] at this; exact absurd (HO.ins.inj (Option.some.inj this)).1 (cls_ne T 15 14)
    have dds : p.dd ≠ s := fun z => by have := R.dd; rw [z, hs] at this; cases this
    have ddd : p.dd ≠ d := fun z => by have := R.dd; rw [z, hd] at this; cases this
    refine ⟨p.pa, _, p.dp, _, _, rfl, b2 _ ps _ R.pr, T.o_Program.cl, T.n_Program_deeds, rfl, Or.inl ⟨⟨_, SqL.of (b2 _ dds _ R.dd)⟩, ?_⟩⟩
    refine for_list (K := K) (xs := dl) (fun i σ H3 => But s H H3 ∧ H3 s = some (.ins A.Run ds [("deeds", .ref d)]) ∧ H3 d = some (.dK (dk.take i)) ∧ ∃ v, σ = [some (.ref s), some (.ref p.pa), some (.ref c), v]) ⟨b2, x2, d2, _, rfl⟩ (fun i σ H3 _ h => SqL.of (h.1 _ dds _ R.dd)) ?_ ?_
    · rintro i v σ H3 hv ⟨b3, x3, d3, z, rfl⟩
      rcases DA with ⟨rfl, _⟩ | ⟨a, dx, pq, bq, n, rfl, rfl, ha, hp⟩
      · cases hv
      · match i, hv with
        | 0, hv =>
          cases hv
          have as : a ≠ s := fun z => by rw [z, hs] at ha; exact absurd (HO.ins.inj (Option.some.inj ha)).1 (cls_ne T 15 13)
          have ha3 := b3 _ as _ ha
          refine ⟨s, _, ds, _, _, rfl, x3, T.o_Run.cl, T.n_Run_deeds, rfl, a, _, dx, _, _, rfl, ha3, T.o_DeedRow.cl, T.n_DeedRow_name, rfl, _, DPut.k (k := .inr "f") d3 (show 0 < sizeLine by decide), ?_⟩
          refine ⟨fun b hb o ho => ?_, ?_, upd_same, _, rfl⟩
          · rw [upd_ne (fun z => by rw [z, hd] at ho; cases ho)]
            exact b3 b hb o ho
          · rw [upd_ne (Ne.symm ds0)]; exact x3
        | i + 1, hv => cases hv
    · rintro σ H3 ⟨b3, x3, d3, z, rfl⟩
      have d3' : H3 d = some (.dK dk) := by
        rcases DA with ⟨rfl, rfl⟩ | ⟨a, dx, pq, bq, n, rfl, rfl, ha, hp⟩ <;> exact d3
      refine ⟨s, _, ds, _, rfl, x3, T.o_Run.cl, T.n_Run_cells, by simp, ?_⟩
      have b4 : But s H (upd H3 s (.ins A.Run ds (putF "cells" (.ref c) [("deeds", .ref d)]))) := b3.trans (But.at s _ _)
      have x4 : (upd H3 s (.ins A.Run ds (putF "cells" (.ref c) [("deeds", .ref d)]))) s = some (.ins A.Run ds [("deeds", .ref d), ("cells", .ref c)]) := upd_same
      have d4 : (upd H3 s (.ins A.Run ds (putF "cells" (.ref c) [("deeds", .ref d)]))) d = some (.dK dk) := by rw [upd_ne ds0]; exact d3'
      generalize upd H3 s (.ins A.Run ds (putF "cells" (.ref c) [("deeds", .ref d)])) = H4 at b4 x4 d4 ⊢
      refine fun b db hb hdb hne => ⟨b, db, rfl, upd_same, fun l sd t e H5 nl ns nt bt nb => ⟨rfl, ?_⟩⟩
      have sm5 : Same H4 H5 := But.same bt hb hdb
      have l4 := new_none hb hdb nl
      have t4 := new_none hb hdb nt
      have bs : b ≠ s := fun z => by rw [z, x4] at hb; cases hb
      have ls : l ≠ s := fun z => by rw [z, x4] at l4; cases l4
      have ts : t ≠ s := fun z => by rw [z, x4] at t4; cases t4
      have ss : sd ≠ s := fun z => by have := new_none hb hdb ns; rw [z, x4] at this; cases this
      have cs : c ≠ s := fun z => by rw [z, hs] at G; cases G
      have c5 := sm5 _ _ (b4 _ cs _ G)
      have cd : d ≠ c := fun z => by rw [z, G] at hd; cases hd
      refine ⟨s, _, ds, _, rfl, sm5 _ _ x4, T.o_Run.cl, T.n_Run_book, by simp, ?_⟩
      refine q d b db sd e t l _ ((b4.trans (But.of sm5)).trans (But.at s _ _)) (b4.none bs hb) (b4.none ts t4) (b4.none ls l4) ⟨upd_same, ?_, ?_, ?_, ?_, ⟨[], ?_, .nil⟩, ⟨[], ?_, .nil⟩, Ne.symm bs, nb.tl, nb.dt, nb.dl, cd⟩
      · rw [upd_ne bs]; exact nb.b
      · rw [upd_ne ss]; exact nb.hs
      · rw [upd_ne ds0]; exact sm5 _ _ d4
      · rw [upd_ne cs]; exact c5
      · rw [upd_ne ts]; exact nb.ht
      · rw [upd_ne ls]; exact nb.hl
end
end K25

set_option Elab.async false
set_option linter.all false
set_option maxRecDepth 100000
set_option maxHeartbeats 4000000
namespace K25
open PySem L2
section
variable {P : Program} {w : World} {K : PySem.W.Frag} {mg : Str → Option Value} {base : Heap} {A : Adr}
def AtV (k : S) (v : V) (i : Int) : Prop := v = .int i ∨ (v = .str "c" ∧ i = k.c) ∨ (v = .str "g" ∧ i = k.g) ∨ (v = .str "t" ∧ i = k.t)
def sp_at (A : Adr) (dk : List (Key × V)) : Sp := fun vs H Q _ => ∃ (r : Ra) (k : S) (v : V) (i : Int), vs = [.ref r.s, v] ∧ RunAt A dk H r k ∧ AtV k v i ∧ Q (.int i) H
variable {dk : List (Key × V)} {F : List Rw}
theorem h_at (T : Txt K mg A) : HasM P w K mg base 1 A.Run "number_at" ["self", "thing"] (sp_at A dk) := by
  refine T.m_Run_number_at.has (k := 0) sc_Run_number_at (fun vs H Q E h => ?_) (fun f cdv A' outer s' H vs Q E hr hu h => ?_)
  · obtain ⟨r, k, v, i, rfl, _⟩ := h
    rfl
  · obtain ⟨r, k, v, i, rfl, R, h, q⟩ := h
    refine ⟨_, (pss_one (ps_ret (pe_ifExp (pt_tru (pe_callB c_isinst rfl T.z_isinstance (by boot_by_name) (pa_cons (fv 1) (pa_cons (pe_bltn (v := .ty "str") rfl T.z_str (by boot_by_name) rfl) pa_nil))) (fun _ => rfl)) (pe_ix (ix_all hu) (pe_fld (fv 0) rfl) (fv 1) (fun _ _ => rfl)) (fv 1)))), ?_⟩
    rcases h with rfl | ⟨rfl, rfl⟩ | ⟨rfl, rfl⟩ | ⟨rfl, rfl⟩
    · exact ⟨_, _, _, false, rfl, (fun z => by cases z), .int i, kit_is, false, rfl, iteF q⟩
    · exact ⟨_, _, _, true, rfl, (fun z => by cases z), .str "c", kit_ss, true, rfl, iteT ⟨r.s, _, r.ds, _, _, rfl, R.hs, T.o_Run.cl, T.n_Run_cells, rfl, _, R.gc, q⟩⟩
    · exact ⟨_, _, _, true, rfl, (fun z => by cases z), .str "g", kit_ss, true, rfl, iteT ⟨r.s, _, r.ds, _, _, rfl, R.hs, T.o_Run.cl, T.n_Run_cells, rfl, _, R.gg, q⟩⟩
    · exact ⟨_, _, _, true, rfl, (fun z => by cases z), .str "t", kit_ss, true, rfl, iteT ⟨r.s, _, r.ds, _, _, rfl, R.hs, T.o_Run.cl, T.n_Run_cells, rfl, _, R.gt, q⟩⟩
def sp_for (A : Adr) (dk : List (Key × V)) : Sp := fun vs H Q _ => ∃ (r : Ra) (k : S) (p : Addr) (val : Val), vs = [.ref r.s, .ref p] ∧ RunAt A dk H r k ∧ k.ok ∧ H p = some (.tup (valV val)) ∧ val.ok ∧ Q (.int (val.num k)) H
theorem h_for (T : Txt K mg A) : HasM P w K mg base 3 A.Run "number_for" ["self", "value"] (sp_for A dk) := by
  have D_number_at := h_at (P := P) (w := w) (base := base) (dk := dk) T
  have D_reckon := h_reckon (P := P) (w := w) (base := base) T
  refine T.m_Run_number_for.has (k := 2) sc_Run_number_for (fun vs H Q E h => ?_) (fun f cdv A' outer s' H vs Q E hr hu h => ?_)
  · obtain ⟨r, k, p, val, rfl, _⟩ := h
    rfl
  · obtain ⟨r, k, p, val, rfl, R, ok, hp, vo, q⟩ := h
    have hT : SqT K H p (valV val) := SqT.of hp
    refine ⟨_, (pss_cons (ps_if (pt_cmpR (o_eqU hu) (pe_callB c_lenA rfl T.z_len (by boot_by_name) (pa_cons (fv 1) pa_nil)) (pe_int) (nomark _))
      (pss_one (ps_ret (pe_methD (fv 0) T.o_Run.cl D_number_at hr (pa_cons (pe_ix (ix_all hu) (fv 1) (pe_int) (fun _ _ => rfl)) pa_nil))))
      pss_nil)
    (pss_cons (ps_set (i := 2) sc_Run_number_for.nd rfl (Or.inl rfl) (pe_methD (fv 0) T.o_Run.cl D_number_at hr (pa_cons (pe_ix (ix_all hu) (fv 1) (pe_int) (fun _ _ => rfl)) pa_nil)))
    (pss_cons (ps_if (pt_cmpR (o_eqU hu) (pe_ix (ix_all hu) (fv 1) (pe_int) (fun _ _ => rfl)) (pe_str) (nomark _))
      pss_never
      pss_nil)
    (pss_one (ps_ret (pe_callD D_reckon hr (pa_cons (pe_methD (fv 0) T.o_Run.cl D_number_at hr (pa_cons (pe_ix (ix_all hu) (fv 1) (pe_int) (fun _ _ => rfl)) pa_nil)) (pa_cons (pe_ix (ix_all hu) (fv 1) (pe_int) (fun _ _ => rfl)) (pa_cons (fv 2) pa_nil))))))))), ?_⟩
    refine Or.inl ⟨_, _, rfl, Or.inr ⟨_, hT, rfl⟩, rfl, _, rfl, ?_⟩
    cases val with
    | n i =>
      refine ite2 (fun b => ?_) (fun b => absurd rfl b)
      exact ⟨r.s, r.ds, _, rfl, R.hs, rfl, Or.inl ⟨_, _, Or.inr hT, rfl, r, k, _, _, rfl, R, Or.inl rfl, q⟩⟩
    | c =>
      refine ite2 (fun b => ?_) (fun b => absurd rfl b)
      exact ⟨r.s, r.ds, _, rfl, R.hs, rfl, Or.inl ⟨_, _, Or.inr hT, rfl, r, k, _, _, rfl, R, Or.inr (Or.inl ⟨rfl, rfl⟩), q⟩⟩
    | op x i =>
      refine ite2 (fun b => absurd b (by show ¬ decide (V.int 3 = V.int 1) = true; decide)) (fun b => ?_)
      refine ⟨r.s, r.ds, _, rfl, R.hs, rfl, Or.inl ⟨_, _, Or.inr hT, rfl, r, k, _, _, rfl, R, Or.inl rfl, ?_⟩⟩
      refine Or.inl ⟨_, _, Or.inr hT, rfl, rfl, _, rfl, ?_⟩
      refine ite2 (fun b => absurd (of_decide_eq_true b) (fun z => vo.2 (V.str.inj z))) (fun b => ?_)
      refine ⟨r.s, r.ds, _, rfl, R.hs, rfl, Or.inl ⟨_, _, Or.inr hT, rfl, r, k, _, _, rfl, R, Or.inr (Or.inl ⟨rfl, rfl⟩), ?_⟩⟩
      exact Or.inl ⟨_, _, Or.inr hT, rfl, k.c, i, _, rfl, ok.c.1, ok.c.2, vo.1.1, vo.1.2, q⟩
def sp_told (K : PySem.W.Frag) (A : Adr) (dk : List (Key × V)) : Sp := fun vs H Q _ => ∃ (r : Ra) (k : S) (a : Addr), vs = [.ref r.s, .ref a] ∧ RunAt A dk H r k ∧ k.ok ∧
  ((∃ (dx p : Addr) (n : Int) (h : Str) (val : Val), val.ok ∧ SndAt A H (.ref a) n h val a dx p ∧ Q (.int (val.num k)) H) ∨ (∃ C : Addr, TyOf K H (.ref a) (.ref C) ∧ PySem.W.kitOne K (.ref C) (.ref A.SendRow) = some false ∧ PySem.W.kitOne K (.ref C) (.ref A.SayRow) = some false ∧ Q .non H))
theorem h_told (T : Txt K mg A) : HasM P w K mg base 4 A.Run "number_told" ["self", "row"] (sp_told K A dk) := by
  have D_number_for := h_for (P := P) (w := w) (base := base) (dk := dk) T
  refine T.m_Run_number_told.has (k := 3) sc_Run_number_told (fun vs H Q E h => ?_) (fun f cdv A' outer s' H vs Q E hr hu h => ?_)
  · obtain ⟨r, k, a, rfl, _⟩ := h
    rfl
  · obtain ⟨r, k, a, rfl, R, ok, h⟩ := h
    refine ⟨_, (pss_cons (ps_if (PW.pt (pw_or (pt_tru (pe_callB c_isinst rfl T.z_isinstance (by boot_by_name) (pa_cons (fv 1) (pa_cons (pe_gtup T.o_SendRow.mg) pa_nil))) (fun _ => rfl)) (pw_or1 (pt_tru (pe_callB c_isinst rfl T.z_isinstance (by boot_by_name) (pa_cons (fv 1) (pa_cons (pe_gtup T.o_SayRow.mg) pa_nil))) (fun _ => rfl)))))
      (pss_one (ps_ret (pe_methD (fv 0) T.o_Run.cl D_number_for hr (pa_cons (pe_fld (fv 1) rfl) pa_nil))))
      pss_nil)
    (pss_one (ps_ret (pe_non)))), ?_⟩
    rcases h with ⟨dx, p, n, hh, val, vo, ⟨_, ha, hp⟩, q⟩ | ⟨C, ty, k1, k2, q⟩
    · refine ⟨_, _, _, true, rfl, (fun z => by cases z), T.o_SendRow.tyOf ha, kitT T.o_SendRow, true, rfl, iteT ?_⟩
      exact ⟨r.s, r.ds, _, rfl, R.hs, rfl, a, _, dx, _, _, rfl, ha, T.o_SendRow.cl, T.n_SendRow_value, rfl, r, k, p, val, rfl, R, ok, hp, vo, q⟩
    · refine ⟨_, _, _, false, rfl, (fun z => by cases z), ty, k1, false, rfl, iteF ?_⟩
      exact ⟨_, _, _, false, rfl, (fun z => by cases z), ty, k2, false, rfl, iteF q⟩
def sp_pass (A : Adr) (dk : List (Key × V)) : Sp := fun vs H Q _ => ∃ (r : Ra) (n : Int) (k : S), vs = [.ref r.s, .int n] ∧ RunAt A dk H r k ∧ ∀ H', But r.b H H' → RunAt A dk H' r (k.idle n) → Q .non H'
theorem h_pass (T : Txt K mg A) : HasM P w K mg base 1 A.Run "pass_steps" ["self", "count"] (sp_pass A dk) := by
  refine T.m_Run_pass_steps.has (k := 0) sc_Run_pass_steps (fun vs H Q E h => ?_) (fun f cdv A' outer s' H vs Q E hr hu h => ?_)
  · obtain ⟨r, n, k, rfl, _⟩ := h
    rfl
  · obtain ⟨r, n, k, rfl, R, q⟩ := h
    refine ⟨_, (pss_cons (ps_set (i := 2) sc_Run_pass_steps.nd rfl (Or.inl rfl) (pe_fld (fv 0) rfl))
    (pss_one (ps_fldaug (fv 2) (fv 1) in_add))), ?_⟩
    refine ⟨r.s, _, r.ds, _, _, rfl, R.hs, T.o_Run.cl, T.n_Run_book, rfl, ?_⟩
    refine ⟨r.b, _, r.db, _, _, rfl, R.hb, T.o_Book.cl, T.n_Book_steps, rfl, _, _, rfl, rfl, r.db, _, R.hb, by simp, ?_⟩
    exact q _ (But.at r.b _ _) (R.steps (k.steps + n))
structure Fresh (H0 : Hp) (r : Ra) : Prop where
  b : H0 r.b = none
  t : H0 r.t = none
  l : H0 r.l = none
  c : H0 r.c = none
def After (A : Adr) (dk : List (Key × V)) (H0 : Hp) (r : Ra) (q : S × Bool) (Q : VK) : Prop := ∀ H', Same H0 H' → RunAt A dk H' r q.1 → q.1.ok → Q (.bl q.2) H'
def sp_doRow (A : Adr) (dk : List (Key × V)) (F : List Rw) (d : Nat) : Sp := fun vs H Q _ => ∃ (r : Ra) (k : S) (v : V) (rw : Rw) (H0 : Hp), vs = [.ref r.s, v] ∧ Same H0 H ∧ Fresh H0 r ∧ RunAt A dk H r k ∧ k.ok ∧ RowAt A dk F H0 d v rw ∧ k.room (cnt F d rw) ∧ After A dk H0 r (doRow F d k rw) Q
def sp_doRows (A : Adr) (dk : List (Key × V)) (F : List Rw) (d : Nat) : Sp := fun vs H Q _ => ∃ (r : Ra) (k : S) (q : Addr) (xs : List V) (rows : List Rw) (H0 : Hp), vs = [.ref r.s, .ref q] ∧ Same H0 H ∧ Fresh H0 r ∧ RunAt A dk H r k ∧ k.ok ∧ H0 q = some (.lst xs) ∧
  PySem.Paired (RowAt A dk F H0 d) xs rows ∧ k.room (rows.map (cnt F d)).sum ∧ After A dk H0 r (rowsBy (doRow F d) k rows) Q
def sp_doRowsN (A : Adr) (dk : List (Key × V)) (F : List Rw) : Nat → Sp
  | 0 => fun _ _ _ _ => False
  | d + 1 => sp_doRows A dk F d
theorem fold_step {α β : Type} (f : β → α → β) (b : β) {xs : List α} {i : Nat} {x : α} (h : xs[i]? = some x) : (xs.take (i + 1)).foldl f b = f ((xs.take i).foldl f b) x := by
  rw [List.take_add_one, h]
  simp
theorem h_doRows_of {j d : Nat} (T : Txt K mg A) (D : HasM P w K mg base j A.Run "do_row" ["self", "row"] (sp_doRow A dk F d)) : HasM P w K mg base (j + 1) A.Run "do_rows" ["self", "rows"] (sp_doRows A dk F d) := by
  have D_do_row := D
  refine T.m_Run_do_rows.has (k := j) sc_Run_do_rows (fun vs H Q E h => ?_) (fun f cdv A' outer s' H vs Q E hr hu h => ?_)
  · obtain ⟨r, k, q, xs, rows, H0, rfl, _⟩ := h
    rfl
  · obtain ⟨r, k, q, xs, rows, H0, rfl, s0, Fr, R, ok, hq, pr, rm, g⟩ := h
    refine ⟨_, (pss_cons (ps_set (i := 2) sc_Run_do_rows.nd rfl (Or.inl rfl) (pe_bl))
    (pss_cons (ps_for PassesOwn.never rfl (pi_any (fv 1)) (pg_name (i := 3) sc_Run_do_rows.nd rfl (by first | exact Or.inl rfl | exact Or.inr rfl))
      (pss_one (ps_if (pt_tru (pe_methD (hj := by omega) (fv 0) T.o_Run.cl D_do_row hr (pa_cons (fv 3) pa_nil)) (fun _ => rfl))
        (pss_one (ps_set (i := 2) sc_Run_do_rows.nd rfl (Or.inl rfl) (pe_bl)))
        pss_nil)))
    (pss_one (ps_ret (fv 2))))), ?_⟩
    refine Or.inl ⟨⟨_, SqL.of (s0 _ _ hq)⟩, for_list (K := K) (xs := xs) (fun i σ H2 => Same H0 H2 ∧ RunAt A dk H2 r ((rows.take i).foldl (step (doRow F d)) (k, false)).1 ∧ ((rows.take i).foldl (step (doRow F d)) (k, false)).1.ok ∧ ((rows.take i).foldl (step (doRow F d)) (k, false)).1.room ((rows.drop i).map (cnt F d)).sum ∧
      ∃ v, σ = [some (.ref r.s), some (.ref q), some (.bl ((rows.take i).foldl (step (doRow F d)) (k, false)).2), v]) ⟨s0, R, ok, rm, none, rfl⟩ (fun i σ H2 _ h => SqL.of (h.1 _ _ hq)) ?_ ?_⟩
    · rintro i v σ H2 hx ⟨s2, R2, ok2, rm2, z, rfl⟩
      obtain ⟨rw, hrw, W⟩ := paired_get pr hx
      rw [fold_step _ _ hrw]
      rw [drop_at hrw, List.map_cons, List.sum_cons] at rm2
      generalize (rows.take i).foldl (step (doRow F d)) (k, false) = k2 at R2 rm2 ok2 ⊢
      obtain ⟨k2, e2⟩ := k2
      refine ⟨r.s, r.ds, _, rfl, R2.hs, rfl, r, k2, v, rw, H0, rfl, s2, Fr, R2, ok2, W, rm2.le (by omega), fun H3 s3 R3 ok3 => ⟨_, rfl, ?_⟩⟩
      have rm3 := S.room.more rm2 (more_row F d k2 rw)
      cases hb : (doRow F d k2 rw).2 with
      | true =>
        refine iteT ?_
        exact ⟨s3, R3, ok3, rm3, _, by simp only [step, hb, Bool.or_true]; rfl⟩
      | false =>
        refine iteF ?_
        exact ⟨s3, R3, ok3, rm3, _, by simp only [step, hb, Bool.or_false]; rfl⟩
    · rintro σ H2 ⟨s2, R2, ok2, rm2, z, rfl⟩
      have hl : xs.length = rows.length := Paired.length pr
      rw [hl, List.take_length] at R2 ok2
      rw [hl, List.take_length]
      exact g H2 s2 R2 ok2
end
end K25

set_option Elab.async false
set_option linter.all false
set_option maxRecDepth 100000
set_option maxHeartbeats 4000000
namespace K25
open PySem L2
section
variable {P : Program} {w : World} {K : PySem.W.Frag} {mg : Str → Option Value} {base : Heap} {A : Adr} {dk : List (Key × V)} {F : List Rw}
theorem seq_named {i : Nat} {v : V} {t u : TS} {D : Ends} {σ : St} {H : Hp} (h : ∀ N : St → Hp → Prop, (∀ σ H, u D σ H → N σ H) → t { D with nx := N } (σ.set i (some v)) H) : gName i v σ H (tSeq t u D) := h (u D) fun _ _ z => z
theorem num_tell (k : S) (n : Int) (v : V) (val : Val) : val.num (k.tell n v) = val.num k := by cases val <;> rfl
def sp_doIf (A : Adr) (dk : List (Key × V)) (F : List Rw) (d : Nat) : Sp := fun vs H Q _ => ∃ (r : Ra) (k : S) (n : Int) (val : Val) (as bs : List Rw) (l r0 : Int) (a dx p q₁ q₂ : Addr) (xs ys : List V) (H0 : Hp), vs = [.ref r.s, .ref a] ∧ Same H0 H ∧ Fresh H0 r ∧ RunAt A dk H r k ∧ k.ok ∧ val.ok ∧
  IfAt A H0 (RowAt A dk F H0 d) (.ref a) n val as bs l r0 a dx p q₁ q₂ xs ys ∧ k.room ((as.map (cnt F d)).sum + (bs.map (cnt F d)).sum) ∧
  After A dk H0 r (if val.num k ≠ 0 then ((rowsBy (doRow F d) k as).1.idle l, (rowsBy (doRow F d) k as).2) else ((rowsBy (doRow F d) k bs).1.idle r0, (rowsBy (doRow F d) k bs).2)) Q
def sp_doIfN (A : Adr) (dk : List (Key × V)) (F : List Rw) : Nat → Sp
  | 0 => fun _ _ _ _ => False
  | d + 1 => sp_doIf A dk F d
theorem h_doIf {j : Nat} (hj : 3 ≤ j) (T : Txt K mg A) : ∀ {n : Nat}, HasM P w K mg base j A.Run "do_rows" ["self", "rows"] (sp_doRowsN A dk F n) → HasM P w K mg base (j + 1) A.Run "do_if" ["self", "row"] (sp_doIfN A dk F n)
  | 0, _ => T.m_Run_do_if.has (k := j) sc_Run_do_if (fun _ _ _ _ h => h.elim) (fun _ _ _ _ _ _ _ _ _ _ _ h => h.elim)
  | d + 1, D => by
    have D_do_rows := D
    have D_number_for := h_for (P := P) (w := w) (base := base) (dk := dk) T
    have D_pass_steps := h_pass (P := P) (w := w) (base := base) (dk := dk) T
    refine T.m_Run_do_if.has (k := j) sc_Run_do_if (fun vs H Q E h => ?_) (fun f cdv A' outer s' H vs Q E hr hu h => ?_)
    · obtain ⟨r, k, n, val, as, bs, l, r0, a, dx, p, q₁, q₂, xs, ys, H0, rfl, _⟩ := h
      rfl
    · obtain ⟨r, k, n, val, as, bs, l, r0, a, dx, p, q₁, q₂, xs, ys, H0, rfl, s0, Fr, R, ok, vo, ⟨_, ha, hp, hq₁, r₁, hq₂, r₂⟩, rm, q⟩ := h
      refine ⟨_, (pss_cons (ps_if (pt_cmpR (o_ne hu) (pe_methD (hj := by omega) (fv 0) T.o_Run.cl D_number_for hr (pa_cons (pe_fld (fv 1) rfl) pa_nil)) (pe_int) (nomark _))
      (pss_cons (ps_set (i := 2) sc_Run_do_if.nd rfl (Or.inl rfl) (pe_methD (hj := by omega) (fv 0) T.o_Run.cl D_do_rows hr (pa_cons (pe_fld (fv 1) rfl) pa_nil)))
      (pss_one (ps_expr (pe_methD (hj := by omega) (fv 0) T.o_Run.cl D_pass_steps hr (pa_cons (pe_fld (fv 1) rfl) pa_nil)))))
      (pss_cons (ps_set (i := 2) sc_Run_do_if.nd rfl (Or.inl rfl) (pe_methD (hj := by omega) (fv 0) T.o_Run.cl D_do_rows hr (pa_cons (pe_fld (fv 1) rfl) pa_nil)))
      (pss_one (ps_expr (pe_methD (hj := by omega) (fv 0) T.o_Run.cl D_pass_steps hr (pa_cons (pe_fld (fv 1) rfl) pa_nil))))))
    (pss_one (ps_ret (fv 2)))), ?_⟩
      refine ⟨r.s, r.ds, _, rfl, R.hs, rfl, a, _, dx, _, _, rfl, s0 _ _ ha, T.o_IfRow.cl, T.n_IfRow_value, rfl, r, k, p, val, rfl, R, ok, s0 _ _ hp, vo, rfl, _, rfl, ?_⟩
      rw [vint]
      refine ite2 (fun c => ?_) (fun c => ?_)
      · have hc : val.num k ≠ 0 := by simpa using c
        rw [if_pos hc] at q
        refine ⟨r.s, r.ds, _, rfl, R.hs, rfl, a, _, dx, _, _, rfl, s0 _ _ ha, T.o_IfRow.cl, T.n_IfRow_first, rfl, r, k, q₁, xs, as, H0, rfl, s0, Fr, R, ok, hq₁, r₁, rm.le (by omega), fun H2 s2 R2 ok2 => ?_⟩
        refine ⟨r.s, r.ds, _, rfl, R2.hs, rfl, a, _, dx, _, _, rfl, s2 _ _ ha, T.o_IfRow.cl, T.n_IfRow_left, rfl, r, l, _, rfl, R2, fun H3 b3 R3 => ?_⟩
        exact q H3 (Same.but s2 Fr.b b3) R3 (ok2.idle l)
      · have hc : ¬ val.num k ≠ 0 := by simpa using c
        rw [if_neg hc] at q
        refine ⟨r.s, r.ds, _, rfl, R.hs, rfl, a, _, dx, _, _, rfl, s0 _ _ ha, T.o_IfRow.cl, T.n_IfRow_other, rfl, r, k, q₂, ys, bs, H0, rfl, s0, Fr, R, ok, hq₂, r₂, rm.le (by omega), fun H2 s2 R2 ok2 => ?_⟩
        refine ⟨r.s, r.ds, _, rfl, R2.hs, rfl, a, _, dx, _, _, rfl, s2 _ _ ha, T.o_IfRow.cl, T.n_IfRow_right, rfl, r, r0, _, rfl, R2, fun H3 b3 R3 => ?_⟩
        exact q H3 (Same.but s2 Fr.b b3) R3 (ok2.idle r0)
def sp_doCall (A : Adr) (dk : List (Key × V)) (F : List Rw) (d : Nat) : Sp := fun vs H Q _ => ∃ (r : Ra) (k : S) (n dn : Int) (a dx q dd ddx pq bq : Addr) (xs : List V) (H0 : Hp), vs = [.ref r.s, .ref a] ∧ Same H0 H ∧ Fresh H0 r ∧ RunAt A dk H r k ∧ k.ok ∧
  CallAt A H0 (RowAt A dk F H0 d) dk F (.ref a) n dn a dx q dd ddx pq bq xs ∧ k.room (F.map (cnt F d)).sum ∧ ∀ H', Same H0 H' → RunAt A dk H' r (rowsBy (doRow F d) k F).1 → (rowsBy (doRow F d) k F).1.ok → Q .non H'
def sp_doCallN (A : Adr) (dk : List (Key × V)) (F : List Rw) : Nat → Sp
  | 0 => fun _ _ _ _ => False
  | d + 1 => sp_doCall A dk F d
theorem h_doCall {j : Nat} (hj : 3 ≤ j) (T : Txt K mg A) : ∀ {n : Nat}, HasM P w K mg base j A.Run "do_rows" ["self", "rows"] (sp_doRowsN A dk F n) → HasM P w K mg base (j + 1) A.Run "do_call" ["self", "row"] (sp_doCallN A dk F n)
  | 0, _ => T.m_Run_do_call.has (k := j) sc_Run_do_call (fun _ _ _ _ h => h.elim) (fun _ _ _ _ _ _ _ _ _ _ _ h => h.elim)
  | d + 1, D => by
    have D_do_rows := D
    have D_number_at := h_at (P := P) (w := w) (base := base) (dk := dk) T
    refine T.m_Run_do_call.has (k := j) sc_Run_do_call (fun vs H Q E h => ?_) (fun f cdv A' outer s' H vs Q E hr hu h => ?_)
    · obtain ⟨r, k, n, dn, a, dx, q, dd, ddx, pq, bq, xs, H0, rfl, _⟩ := h
      rfl
    · obtain ⟨r, k, n, dn, a, dx, q, dd, ddx, pq, bq, xs, H0, rfl, s0, Fr, R, ok, ⟨_, ha, hq, hdk, hd, hp, hb, pr⟩, rm, g⟩ := h
      have gd : DGet H r.d (.str "f") (some (.ref dd)) := by
        have := R.hk
        rw [hdk] at this
        exact DGet.k (k := .inr "f") this
      refine ⟨_, (pss_cons (ps_set (i := 2) sc_Run_do_call.nd rfl (Or.inl rfl) (pe_ix (ix_all hu) (pe_fld (fv 0) rfl) (pe_fld (fv 1) rfl) (fun _ _ => rfl)))
    (pss_cons (ps_setComp (j := 3) (N := ["thing", "self"]) (own := 1) (fr := [0]) (CompOk.of (by kernel_rfl!)) rfl sc_Run_do_call.nd rfl (Or.inl rfl) (pi_any (pe_fld (fv 1) rfl)) (fun b => pg_name (i := 0) (show List.Nodup (["thing", "self"] : List PySem.Str) by decide +kernel) rfl (by first | exact Or.inl rfl | exact Or.inr rfl)) (fun b => pf_nil) (fun b => pe_methD (hj := by omega) (fv 1) T.o_Run.cl D_number_at hr (pa_cons (fv 0) pa_nil)))
    (pss_cons (ps_for PassesOwn.never rfl (pi_zip rfl T.z_zip (pa_cons (pe_fld (fv 2) rfl) (pa_cons (fv 3) pa_nil))) (pg_tup rfl (pgs_cons (pg_name (i := 4) sc_Run_do_call.nd rfl (by first | exact Or.inl rfl | exact Or.inr rfl)) (pgs_cons (pg_name (i := 5) sc_Run_do_call.nd rfl (by first | exact Or.inl rfl | exact Or.inr rfl)) (pgs_nil))))
      pss_never)
    (pss_one (ps_expr (pe_methD (hj := by omega) (fv 0) T.o_Run.cl D_do_rows hr (pa_cons (pe_fld (fv 2) rfl) pa_nil))))))), ?_⟩
      refine ⟨r.s, _, r.ds, _, _, rfl, R.hs, T.o_Run.cl, T.n_Run_deeds, rfl, a, _, dx, _, _, rfl, s0 _ _ ha, T.o_CallRow.cl, T.n_CallRow_name, rfl, _, gd, ?_⟩
      refine ⟨a, _, dx, _, _, rfl, s0 _ _ ha, T.o_CallRow.cl, T.n_CallRow_things, rfl, Or.inl ⟨⟨_, SqL.of (s0 _ _ hq)⟩, comp_list (K := K) (fun _ => true) (fun v => v) (SqL.of (s0 _ _ hq)) (by decide) (fun b x H2 S hx _ _ => by cases hx) (fun b x H2 S hx _ _ _ => by cases hx) (fun D H2 hD s2 e => ?_)⟩⟩
      have e' : H2 D = some (.lst []) := e
      have s02 := s0.trans s2
      refine ⟨dd, _, ddx, _, _, rfl, s02 _ _ hd, T.o_DeedRow.cl, T.n_DeedRow_parts, rfl, _, _, rfl, ⟨_, SqL.of (s02 _ _ hp)⟩, ⟨_, SqL.of e'⟩, ?_⟩
      refine for_zip (K := K) (xs := []) (ys := []) (fun i σ H3 => H3 = H2 ∧ σ = [some (.ref r.s), some (.ref a), some (.ref dd), some (.ref D), none, none]) ⟨rfl, rfl⟩ (fun i σ H3 _ h => by rw [h.1]; exact ⟨SqL.of (s02 _ _ hp), SqL.of e'⟩) rfl ?_ ?_
      · rintro i x y σ H3 T' hx _ _ _
        cases hx
      · rintro σ H3 ⟨rfl, rfl⟩
        have R3 := R.same s2
        exact ⟨r.s, r.ds, _, rfl, R3.hs, rfl, dd, _, ddx, _, _, rfl, s02 _ _ hd, T.o_DeedRow.cl, T.n_DeedRow_body, rfl, r, k, bq, xs, F, H0, rfl, s02, Fr, R3, ok, hb, pr, rm, fun H4 s4 R4 ok4 => g H4 s4 R4 ok4⟩
end
end K25

set_option Elab.async false
set_option linter.all false
set_option maxRecDepth 100000
set_option maxHeartbeats 4000000
namespace K25
open PySem L2
section
variable {P : Program} {w : World} {K : PySem.W.Frag} {mg : Str → Option Value} {base : Heap} {A : Adr} {dk : List (Key × V)} {F : List Rw}
abbrev runOf (F : List Rw) (d : Nat) (k : S) (th : Th) (m : Int) (b : List Rw) (l : Int) : S × Nat := rounds (fun s => rowsBy (doRow F d) s b) l (if m < th.num k then m else th.num k).toNat 0 k
def sp_doLoop (A : Adr) (dk : List (Key × V)) (F : List Rw) (d : Nat) : Sp := fun vs H Q _ => ∃ (r : Ra) (k : S) (n : Int) (th : Th) (m : Int) (b : List Rw) (l r0 : Int) (a dx q : Addr) (xs : List V) (H0 : Hp), vs = [.ref r.s, .ref a] ∧ Same H0 H ∧ Fresh H0 r ∧ RunAt A dk H r k ∧ k.ok ∧
  LoopAt A H0 (RowAt A dk F H0 d) (.ref a) n th m b l r0 a dx q xs ∧ k.room (m.toNat * (b.map (cnt F d)).sum) ∧
  ∀ H', Same H0 H' → RunAt A dk H' r ((runOf F d k th m b l).1.idle (r0 * (m - (runOf F d k th m b l).2))) → ((runOf F d k th m b l).1.idle (r0 * (m - (runOf F d k th m b l).2))).ok → Q .non H'
def sp_doLoopN (A : Adr) (dk : List (Key × V)) (F : List Rw) : Nat → Sp
  | 0 => fun _ _ _ _ => False
  | d + 1 => sp_doLoop A dk F d
theorem at_th (k : S) (th : Th) : AtV k th.v (th.num k) := by
  cases th with
  | i n => exact Or.inl rfl
  | t => exact Or.inr (Or.inr (Or.inr ⟨rfl, rfl⟩))
  | g => exact Or.inr (Or.inr (Or.inl ⟨rfl, rfl⟩))
theorem seq_named2 {i i' : Nat} {v v' : V} {t u : TS} {D : Ends} {σ : St} {H : Hp} (h : ∀ N : St → Hp → Prop, (∀ σ H, u D σ H → N σ H) → t { D with nx := N } ((σ.set i (some v)).set i' (some v')) H) : gName i v σ H (tSeq (tAsg (tC v') (gName i')) (tSeq t u) D) := h (u D) fun _ _ z => z
theorem rounds_le (body : S → S × Bool) (l : Int) : ∀ (n j : Nat) (s : S), j ≤ (rounds body l n j s).2 ∧ (rounds body l n j s).2 ≤ n + j
  | 0, j, s => by simp [rounds]
  | n + 1, j, s => by
    simp only [rounds]
    split
    · simp; omega
    · have := rounds_le body l n (j + 1) ((body s).1.idle l)
      omega
theorem h_doLoop {j : Nat} (hj : 3 ≤ j) (T : Txt K mg A) : ∀ {n : Nat}, HasM P w K mg base j A.Run "do_rows" ["self", "rows"] (sp_doRowsN A dk F n) → HasM P w K mg base (j + 1) A.Run "do_loop" ["self", "row"] (sp_doLoopN A dk F n)
  | 0, _ => T.m_Run_do_loop.has (k := j) sc_Run_do_loop (fun _ _ _ _ h => h.elim) (fun _ _ _ _ _ _ _ _ _ _ _ h => h.elim)
  | d + 1, D => by
    have D_do_rows := D
    have D_number_at := h_at (P := P) (w := w) (base := base) (dk := dk) T
    have D_pass_steps := h_pass (P := P) (w := w) (base := base) (dk := dk) T
    refine T.m_Run_do_loop.has (k := j) sc_Run_do_loop (fun vs H Q E h => ?_) (fun f cdv A' outer s' H vs Q E hr hu h => ?_)
    · obtain ⟨r, k, n, th, m, b, l, r0, a, dx, q, xs, H0, rfl, _⟩ := h
      rfl
    · obtain ⟨r, k, n, th, m, b, l, r0, a, dx, q, xs, H0, rfl, s0, Fr, R, ok, ⟨_, ha, hq, pr, hm, hrb⟩, rm, g⟩ := h
      refine ⟨_, (pss_cons (ps_set (i := 2) sc_Run_do_loop.nd rfl (Or.inl rfl) (pe_callB c_min rfl T.z_min (by boot_by_name) (pa_cons (pe_methD (hj := by omega) (fv 0) T.o_Run.cl D_number_at hr (pa_cons (pe_fld (fv 1) rfl) pa_nil)) (pa_cons (pe_fld (fv 1) rfl) pa_nil))))
    (pss_cons (ps_set (i := 3) sc_Run_do_loop.nd rfl (Or.inl rfl) (pe_int))
    (pss_cons (ps_while PassesOwn.never (pt_cmpR (o_lt) (fv 3) (fv 2) (nomark _))
      (pss_cons (ps_aug (i := 3) sc_Run_do_loop.nd rfl (by first | exact Or.inl rfl | exact Or.inr rfl) (pe_int) ip_add)
      (pss_cons (ps_set (i := 4) sc_Run_do_loop.nd rfl (Or.inl rfl) (pe_methD (hj := by omega) (fv 0) T.o_Run.cl D_do_rows hr (pa_cons (pe_fld (fv 1) rfl) pa_nil)))
      (pss_cons (ps_expr (pe_methD (hj := by omega) (fv 0) T.o_Run.cl D_pass_steps hr (pa_cons (pe_fld (fv 1) rfl) pa_nil)))
      (pss_one (ps_if (pt_tru (fv 4) (fun _ => rfl))
        (pss_one (ps_break))
        pss_nil))))))
    (pss_one (ps_expr (pe_methD (hj := by omega) (fv 0) T.o_Run.cl D_pass_steps hr (pa_cons (pe_op o_mulA (pe_fld (fv 1) rfl) (pe_op o_sub (pe_fld (fv 1) rfl) (fv 3))) pa_nil))))))), ?_⟩
      refine ⟨r.s, r.ds, _, rfl, R.hs, rfl, a, _, dx, _, _, rfl, s0 _ _ ha, T.o_LoopRow.cl, T.n_LoopRow_thing, rfl, r, k, th.v, _, rfl, R, at_th k th, ?_⟩
      refine ⟨a, _, dx, _, _, rfl, s0 _ _ ha, T.o_LoopRow.cl, T.n_LoopRow_most, rfl, _, _, rfl, ?_⟩
      dsimp only
      refine seq_named2 fun N KN => ?_
      have rl := rounds_le (fun s => rowsBy (doRow F d) s b) l (if m < th.num k then m else th.num k).toNat 0 k
      have wm : (if m < th.num k then m else th.num k) ≤ m := by split <;> omega
      have tail : ∀ (kk : S) (jj : Nat) (v4 : Option V) (Hx : Hp), Same H0 Hx → RunAt A dk Hx r kk → kk.ok → runOf F d k th m b l = (kk, jj) → N [some (.ref r.s), some (.ref a), some (.int (if m < th.num k then m else th.num k)), some (.int (jj : Int)), v4] Hx := by
        intro kk jj v4 Hx sx Rx okx ex
        refine KN _ _ ?_
        have rl' : 0 ≤ (runOf F d k th m b l).2 ∧ (runOf F d k th m b l).2 ≤ (if m < th.num k then m else th.num k).toNat + 0 := rl
        rw [ex] at rl' g
        dsimp only at rl'
        refine ⟨r.s, r.ds, _, rfl, Rx.hs, rfl, a, _, dx, _, _, rfl, sx _ _ ha, T.o_LoopRow.cl, T.n_LoopRow_right, rfl, a, _, dx, _, _, rfl, sx _ _ ha, T.o_LoopRow.cl, T.n_LoopRow_most, rfl, small_mul (by omega) (by omega), ?_⟩
        exact ⟨r, _, kk, rfl, Rx, fun H3 b3 R3 => g H3 (Same.but sx Fr.b b3) R3 (okx.idle _)⟩
      refine ⟨fun mm σ Hx => ∃ (jj : Nat) (kj : S) (v4 : Option V), mm + jj = (if m < th.num k then m else th.num k).toNat ∧ σ = [some (.ref r.s), some (.ref a), some (.int (if m < th.num k then m else th.num k)), some (.int (jj : Int)), v4] ∧ Same H0 Hx ∧ RunAt A dk Hx r kj ∧ kj.ok ∧ kj.room (mm * (b.map (cnt F d)).sum) ∧ rounds (fun s => rowsBy (doRow F d) s b) l mm jj kj = runOf F d k th m b l,
        ⟨_, 0, k, none, Nat.add_zero _, rfl, s0, R, ok, rm.le (Nat.mul_le_mul_right _ (by omega)), rfl⟩, ?_⟩
      rintro mm σ Hx ⟨jj, kj, v4, hmm, rfl, sx, Rx, okx, rmx, ex⟩
      refine ⟨_, rfl, ite2 (fun c => ?_) (fun c => ?_)⟩
      · have hc : (jj : Int) < (if m < th.num k then m else th.num k) := of_decide_eq_true c
        obtain ⟨m', rfl⟩ : ∃ m', mm = m' + 1 := ⟨mm - 1, by omega⟩
        rw [Nat.succ_mul] at rmx
        refine ⟨fun σ' H' => ∃ (jj : Nat) (kj : S) (v4 : Option V), m' + jj = (if m < th.num k then m else th.num k).toNat ∧ σ' = [some (.ref r.s), some (.ref a), some (.int (if m < th.num k then m else th.num k)), some (.int (jj : Int)), v4] ∧ Same H0 H' ∧ RunAt A dk H' r kj ∧ kj.ok ∧ kj.room (m' * (b.map (cnt F d)).sum) ∧ rounds (fun s => rowsBy (doRow F d) s b) l m' jj kj = runOf F d k th m b l, fun σ' H' h' => ⟨m', Nat.lt_succ_self _, h'⟩, ?_⟩
        refine ⟨_, rfl, _, _, rfl, rfl, ?_⟩
        refine ⟨r.s, r.ds, _, rfl, Rx.hs, rfl, a, _, dx, _, _, rfl, sx _ _ ha, T.o_LoopRow.cl, T.n_LoopRow_body, rfl, r, kj, q, xs, b, H0, rfl, sx, Fr, Rx, okx, hq, pr, rmx.le (by omega), fun H2 s2 R2 ok2 => ?_⟩
        refine ⟨r.s, r.ds, _, rfl, R2.hs, rfl, a, _, dx, _, _, rfl, s2 _ _ ha, T.o_LoopRow.cl, T.n_LoopRow_left, rfl, r, l, _, rfl, R2, fun H3 b3 R3 => ?_⟩
        have s3 := Same.but s2 Fr.b b3
        have rm3 : ((rowsBy (doRow F d) kj b).1.idle l).room (m' * (b.map (cnt F d)).sum) := S.room.more (n := (b.map (cnt F d)).sum) (rmx.le (by omega)) ((more_rows (more_row F d) b (kj, false)).idle l)
        simp only [rounds] at ex
        refine ⟨_, rfl, ?_⟩
        cases hb : (rowsBy (doRow F d) kj b).2 with
        | true =>
          refine iteT ?_
          rw [hb, if_pos rfl] at ex
          exact tail _ (jj + 1) _ H3 s3 R3 (ok2.idle l) ex.symm
        | false =>
          refine iteF ?_
          rw [hb, if_neg Bool.false_ne_true] at ex
          exact ⟨jj + 1, _, _, by omega, rfl, s3, R3, ok2.idle l, rm3, ex⟩
      · have hc : ¬ (jj : Int) < (if m < th.num k then m else th.num k) := fun z => c (decide_eq_true z)
        obtain rfl : mm = 0 := by omega
        exact tail kj jj v4 Hx sx Rx okx ex.symm
end
end K25

set_option Elab.async false
set_option linter.all false
set_option maxRecDepth 100000
set_option maxHeartbeats 4000000
namespace K25
open PySem L2
section
variable {P : Program} {w : World} {K : PySem.W.Frag} {mg : Str → Option Value} {base : Heap} {A : Adr} {dk : List (Key × V)} {F : List Rw}
theorem num_idle (k : S) (n : Int) (val : Val) : val.num (k.idle n) = val.num k := by cases val <;> rfl
theorem th_tell (k : S) (n : Int) (v : V) (th : Th) : th.num (k.tell n v) = th.num k := by cases th <;> rfl
theorem tlen_of {H : Hp} {k : S} (hr : k.room 1) {xs : List V} (h : Tups H xs k.trace) : xs.length < sizeLine := by
  have := h.len
  have h1 := hr.1
  have : sizeLine ≥ 1001 := by decide
  omega
theorem llen_of {H : Hp} {k : S} (hr : k.room 1) {xs : List V} (h : Tups H xs k.letters) : xs.length < sizeLine := by
  have := h.len
  have h1 := hr.2
  have : sizeLine ≥ 1001 := by decide
  omega
theorem cnt_pos (F : List Rw) (d : Nat) (r : Rw) : 1 ≤ cnt F d r := by
  cases d with
  | zero => exact Nat.le_refl 1
  | succ d => cases r <;> simp only [cnt] <;> omega
theorem h_doRow {j d : Nat} (hj : 4 ≤ j) (T : Txt K mg A) (D1 : HasM P w K mg base j A.Run "do_if" ["self", "row"] (sp_doIfN A dk F d)) (D2 : HasM P w K mg base j A.Run "do_loop" ["self", "row"] (sp_doLoopN A dk F d)) (D3 : HasM P w K mg base j A.Run "do_call" ["self", "row"] (sp_doCallN A dk F d)) :
    HasM P w K mg base (j + 1) A.Run "do_row" ["self", "row"] (sp_doRow A dk F d) := by
  have D_do_if := D1
  have D_do_loop := D2
  have D_do_call := D3
  have D_number_told := h_told (P := P) (w := w) (base := base) (dk := dk) T
  have D_number_for := h_for (P := P) (w := w) (base := base) (dk := dk) T
  have D_pass_steps := h_pass (P := P) (w := w) (base := base) (dk := dk) T
  refine T.m_Run_do_row.has (k := j) sc_Run_do_row (fun vs H Q E h => ?_) (fun f cdv A' outer s' H vs Q E hr hu h => ?_)
  · obtain ⟨r, k, v, rw, H0, rfl, _⟩ := h
    rfl
  · obtain ⟨r, k, v, rw, H0, rfl, s0, Fr, R, ok, W, rm, q⟩ := h
    refine ⟨_, (pss_cons (ps_expr (pe_methD (hj := by omega) (fv 0) T.o_Run.cl D_pass_steps hr (pa_cons (pe_int) pa_nil)))
    (pss_cons (ps_set (i := 2) sc_Run_do_row.nd rfl (Or.inl rfl) (pe_fld (fv 0) rfl))
    (pss_cons (ps_set (i := 3) sc_Run_do_row.nd rfl (Or.inl rfl) (pe_methD (hj := by omega) (fv 0) T.o_Run.cl D_number_told hr (pa_cons (fv 1) pa_nil)))
    (pss_cons (ps_expr (m_append (pe_fld (fv 2) rfl) (pa_cons (pe_tup (pa_cons (pe_fld (fv 1) rfl) (pa_cons (pe_fld (fv 2) rfl) (pa_cons (fv 3) pa_nil)))) pa_nil)))
    (pss_cons (ps_if (pt_tru (pe_callB c_isinst rfl T.z_isinstance (by boot_by_name) (pa_cons (fv 1) (pa_cons (pe_gtup T.o_SetRow.mg) pa_nil))) (fun _ => rfl))
      (pss_one (ps_asg (pe_methD (hj := by omega) (fv 0) T.o_Run.cl D_number_for hr (pa_cons (pe_fld (fv 1) rfl) pa_nil)) (pg_sub (pe_fld (fv 0) rfl) (pe_fld (fv 1) rfl) (st_all hu set_list))))
      (pss_one (ps_if (pt_tru (pe_callB c_isinst rfl T.z_isinstance (by boot_by_name) (pa_cons (fv 1) (pa_cons (pe_gtup T.o_PutRow.mg) pa_nil))) (fun _ => rfl))
        pss_never
        (pss_one (ps_if (pt_tru (pe_callB c_isinst rfl T.z_isinstance (by boot_by_name) (pa_cons (fv 1) (pa_cons (pe_gtup T.o_SendRow.mg) pa_nil))) (fun _ => rfl))
          (pss_one (ps_expr (m_append (pe_fld (fv 2) rfl) (pa_cons (pe_tup (pa_cons (pe_fld (fv 2) rfl) (pa_cons (pe_fld (fv 1) rfl) (pa_cons (pe_fld (fv 1) rfl) (pa_cons (fv 3) pa_nil))))) pa_nil))))
          (pss_one (ps_if (pt_tru (pe_callB c_isinst rfl T.z_isinstance (by boot_by_name) (pa_cons (fv 1) (pa_cons (pe_gtup T.o_SayRow.mg) pa_nil))) (fun _ => rfl))
            pss_never
            (pss_one (ps_if (pt_tru (pe_callB c_isinst rfl T.z_isinstance (by boot_by_name) (pa_cons (fv 1) (pa_cons (pe_gtup T.o_CallRow.mg) pa_nil))) (fun _ => rfl))
              (pss_one (ps_expr (pe_methD (hj := by omega) (fv 0) T.o_Run.cl D_do_call hr (pa_cons (fv 1) pa_nil))))
              (pss_one (ps_if (pt_tru (pe_callB c_isinst rfl T.z_isinstance (by boot_by_name) (pa_cons (fv 1) (pa_cons (pe_gtup T.o_IfRow.mg) pa_nil))) (fun _ => rfl))
                (pss_one (ps_ret (pe_methD (hj := by omega) (fv 0) T.o_Run.cl D_do_if hr (pa_cons (fv 1) pa_nil))))
                (pss_one (ps_if (pt_tru (pe_callB c_isinst rfl T.z_isinstance (by boot_by_name) (pa_cons (fv 1) (pa_cons (pe_gtup T.o_LoopRow.mg) pa_nil))) (fun _ => rfl))
                  (pss_one (ps_expr (pe_methD (hj := by omega) (fv 0) T.o_Run.cl D_do_loop hr (pa_cons (fv 1) pa_nil))))
                  pss_nil)))))))))))))
    (pss_one (ps_ret (pe_callB c_isinst rfl T.z_isinstance (by boot_by_name) (pa_cons (fv 1) (pa_cons (pe_gtup T.o_LastRow.mg) pa_nil)))))))))), ?_⟩
    refine ⟨r.s, r.ds, _, rfl, R.hs, rfl, r, 1, k, rfl, R, fun H2 b2 R2 => ?_⟩
    have s2 : Same H0 H2 := Same.but s0 Fr.b b2
    refine ⟨r.s, _, r.ds, _, _, rfl, R2.hs, T.o_Run.cl, T.n_Run_book, rfl, ?_⟩
    obtain ⟨ts, ht, tt⟩ := R2.ht
    have rm1 : k.room 1 := rm.le (cnt_pos F d rw)
    have tlen := tlen_of (k := k.idle 1) rm1 tt
    cases rw with
    | set n x val =>
      have W' : val.ok ∧ ∃ a dx p, SetAt A H0 v n x val a dx p := by cases d <;> exact W
      obtain ⟨vo, a, dx, p, rfl, ha, hp⟩ := W'
      refine ⟨r.s, r.ds, _, rfl, R2.hs, rfl, r, _, a, rfl, R2, ok.idle 1, Or.inr ⟨_, T.o_SetRow.tyOf (s2 _ _ ha), kitF T.o_SetRow T.o_SendRow (cls_ne T 7 5) (cls_ne T 7 1), kitF T.o_SetRow T.o_SayRow (cls_ne T 8 5) (cls_ne T 8 1), ?_⟩⟩
      refine ⟨r.b, _, r.db, _, _, rfl, R2.hb, T.o_Book.cl, T.n_Book_trace, rfl, Or.inl ⟨rfl, _, SqL.of ht⟩, a, _, dx, _, _, rfl, s2 _ _ ha, T.o_SetRow.cl, T.n_SetRow_number, rfl, r.b, _, r.db, _, _, rfl, R2.hb, T.o_Book.cl, T.n_Book_steps, rfl, ?_⟩
      refine ⟨(show 3 ≤ sizeLine by decide), fun p3 hp3 => ⟨_, _, _, rfl, rfl, Same.upd hp3 _ _ _ ht, tlen, ?_⟩⟩
      have R4 : RunAt A dk _ r (k.tell n .non) := R2.trace (w := [.int n, .int (k.idle 1).steps, .non]) hp3 ht
      have s4 : Same H0 _ := Same.out (s2.trans (Same.upd hp3 (HO.tup [.int n, .int (k.idle 1).steps, .non]))) Fr.t (HO.lst (ts ++ [.ref p3]))
      generalize upd (upd H2 p3 (HO.tup [.int n, .int (k.idle 1).steps, .non])) r.t (HO.lst (ts ++ [.ref p3])) = H4 at R4 s4 ⊢
      have ha4 := s4 _ _ ha
      have ok4 := ok.tell n .non
      refine ⟨_, _, _, true, rfl, (fun z => by cases z), T.o_SetRow.tyOf ha4, kitT T.o_SetRow, true, rfl, iteT ?_⟩
      refine ⟨r.s, r.ds, _, rfl, R4.hs, rfl, a, _, dx, _, _, rfl, ha4, T.o_SetRow.cl, T.n_SetRow_value, rfl, r, k.tell n .non, p, val, rfl, R4, ok4, s4 _ _ hp, vo, ?_⟩
      rw [num_tell]
      refine ⟨r.s, _, r.ds, _, _, rfl, R4.hs, T.o_Run.cl, T.n_Run_cells, rfl, a, _, dx, _, _, rfl, ha4, T.o_SetRow.cl, T.n_SetRow_name, rfl, _, DPut.k (k := .inr (nm x)) R4.hc (show 3 < sizeLine by decide), ?_⟩
      have R5 := R4.put x (val.num k)
      have s5 : Same H0 _ := Same.out s4 Fr.c (HO.dK (putK (cellsK (k.tell n .non).c (k.tell n .non).g (k.tell n .non).t) (.inr (nm x)) (.int (val.num k))))
      have ha5 := s5 _ _ ha
      refine ⟨_, _, _, false, rfl, (fun z => by cases z), T.o_SetRow.tyOf ha5, kitF T.o_SetRow T.o_LastRow (cls_ne T 10 5) (cls_ne T 10 1), ?_⟩
      have e : doRow F d k (.set n x val) = ((k.tell n .non).put x (val.num k), false) := by cases d <;> rfl
      rw [e] at q
      exact q _ s5 R5 (ok4.put x (Val.num_in ok vo))
    | snd n hh val =>
      have W' : val.ok ∧ ∃ a dx p, SndAt A H0 v n hh val a dx p := by cases d <;> exact W
      obtain ⟨vo, a, dx, p, rfl, ha, hp⟩ := W'
      refine ⟨r.s, r.ds, _, rfl, R2.hs, rfl, r, k.idle 1, a, rfl, R2, ok.idle 1, Or.inl ⟨dx, p, n, hh, val, vo, ⟨rfl, s2 _ _ ha, s2 _ _ hp⟩, ?_⟩⟩
      rw [num_idle]
      refine ⟨r.b, _, r.db, _, _, rfl, R2.hb, T.o_Book.cl, T.n_Book_trace, rfl, Or.inl ⟨rfl, _, SqL.of ht⟩, a, _, dx, _, _, rfl, s2 _ _ ha, T.o_SendRow.cl, T.n_SendRow_number, rfl, r.b, _, r.db, _, _, rfl, R2.hb, T.o_Book.cl, T.n_Book_steps, rfl, ?_⟩
      refine ⟨(show 3 ≤ sizeLine by decide), fun p3 hp3 => ⟨_, _, _, rfl, rfl, Same.upd hp3 _ _ _ ht, tlen, ?_⟩⟩
      have R4 : RunAt A dk _ r (k.tell n (.int (val.num k))) := R2.trace (w := [.int n, .int (k.idle 1).steps, .int (val.num k)]) hp3 ht
      have s4 : Same H0 _ := Same.out (s2.trans (Same.upd hp3 (HO.tup [.int n, .int (k.idle 1).steps, .int (val.num k)]))) Fr.t (HO.lst (ts ++ [.ref p3]))
      generalize upd (upd H2 p3 (HO.tup [.int n, .int (k.idle 1).steps, .int (val.num k)])) r.t (HO.lst (ts ++ [.ref p3])) = H4 at R4 s4 ⊢
      have ha4 := s4 _ _ ha
      refine ⟨_, _, _, false, rfl, (fun z => by cases z), T.o_SendRow.tyOf ha4, kitF T.o_SendRow T.o_SetRow (cls_ne T 5 7) (cls_ne T 5 1), false, rfl, iteF ?_⟩
      refine ⟨_, _, _, false, rfl, (fun z => by cases z), T.o_SendRow.tyOf ha4, kitF T.o_SendRow T.o_PutRow (cls_ne T 6 7) (cls_ne T 6 1), false, rfl, iteF ?_⟩
      refine ⟨_, _, _, true, rfl, (fun z => by cases z), T.o_SendRow.tyOf ha4, kitT T.o_SendRow, true, rfl, iteT ?_⟩
      obtain ⟨ls, hl, tl⟩ := R4.hl
      refine ⟨r.b, _, r.db, _, _, rfl, R4.hb, T.o_Book.cl, T.n_Book_letters, rfl, Or.inl ⟨rfl, _, SqL.of hl⟩, r.b, _, r.db, _, _, rfl, R4.hb, T.o_Book.cl, T.n_Book_steps, rfl, a, _, dx, _, _, rfl, ha4, T.o_SendRow.cl, T.n_SendRow_number, rfl, a, _, dx, _, _, rfl, ha4, T.o_SendRow.cl, T.n_SendRow_name, rfl, ?_⟩
      refine ⟨(show 4 ≤ sizeLine by decide), fun p5 hp5 => ⟨_, _, _, rfl, rfl, Same.upd hp5 _ _ _ hl, llen_of (k := k) rm1 tl, ?_⟩⟩
      have R6 := R4.letter (w := [.int (k.steps + 1), .int n, .str hh, .int (val.num k)]) hp5 hl
      have s6 : Same H0 _ := Same.out (s4.trans (Same.upd hp5 (HO.tup [.int (k.steps + 1), .int n, .str hh, .int (val.num k)]))) Fr.l (HO.lst (ls ++ [.ref p5]))
      have ha6 := s6 _ _ ha
      refine ⟨_, _, _, false, rfl, (fun z => by cases z), T.o_SendRow.tyOf ha6, kitF T.o_SendRow T.o_LastRow (cls_ne T 10 7) (cls_ne T 10 1), ?_⟩
      have e : doRow F d k (.snd n hh val) = (k.send n hh (val.num k), false) := by cases d <;> rfl
      rw [e] at q
      exact q _ s6 R6 ⟨ok.c, ok.g, ok.t⟩
    | last n =>
      have W' : ∃ a dx, LastAt A H0 v n a dx := by cases d <;> exact W
      obtain ⟨a, dx, rfl, ha⟩ := W'
      refine ⟨r.s, r.ds, _, rfl, R2.hs, rfl, r, _, a, rfl, R2, ok.idle 1, Or.inr ⟨_, T.o_LastRow.tyOf (s2 _ _ ha), kitF T.o_LastRow T.o_SendRow (cls_ne T 7 10) (cls_ne T 7 1), kitF T.o_LastRow T.o_SayRow (cls_ne T 8 10) (cls_ne T 8 1), ?_⟩⟩
      refine ⟨r.b, _, r.db, _, _, rfl, R2.hb, T.o_Book.cl, T.n_Book_trace, rfl, Or.inl ⟨rfl, _, SqL.of ht⟩, a, _, dx, _, _, rfl, s2 _ _ ha, T.o_LastRow.cl, T.n_LastRow_number, rfl, r.b, _, r.db, _, _, rfl, R2.hb, T.o_Book.cl, T.n_Book_steps, rfl, ?_⟩
      refine ⟨(show 3 ≤ sizeLine by decide), fun p3 hp3 => ⟨_, _, _, rfl, rfl, Same.upd hp3 _ _ _ ht, tlen, ?_⟩⟩
      have R4 : RunAt A dk _ r (k.tell n .non) := R2.trace (w := [.int n, .int (k.idle 1).steps, .non]) hp3 ht
      have s4 : Same H0 _ := Same.out (s2.trans (Same.upd hp3 (HO.tup [.int n, .int (k.idle 1).steps, .non]))) Fr.t (HO.lst (ts ++ [.ref p3]))
      generalize upd (upd H2 p3 (HO.tup [.int n, .int (k.idle 1).steps, .non])) r.t (HO.lst (ts ++ [.ref p3])) = H4 at R4 s4 ⊢
      have ha4 := s4 _ _ ha
      have ok4 := ok.tell n .non
      refine ⟨_, _, _, false, rfl, (fun z => by cases z), T.o_LastRow.tyOf ha4, kitF T.o_LastRow T.o_SetRow (cls_ne T 5 10) (cls_ne T 5 1), false, rfl, iteF ?_⟩
      refine ⟨_, _, _, false, rfl, (fun z => by cases z), T.o_LastRow.tyOf ha4, kitF T.o_LastRow T.o_PutRow (cls_ne T 6 10) (cls_ne T 6 1), false, rfl, iteF ?_⟩
      refine ⟨_, _, _, false, rfl, (fun z => by cases z), T.o_LastRow.tyOf ha4, kitF T.o_LastRow T.o_SendRow (cls_ne T 7 10) (cls_ne T 7 1), false, rfl, iteF ?_⟩
      refine ⟨_, _, _, false, rfl, (fun z => by cases z), T.o_LastRow.tyOf ha4, kitF T.o_LastRow T.o_SayRow (cls_ne T 8 10) (cls_ne T 8 1), false, rfl, iteF ?_⟩
      refine ⟨_, _, _, false, rfl, (fun z => by cases z), T.o_LastRow.tyOf ha4, kitF T.o_LastRow T.o_CallRow (cls_ne T 9 10) (cls_ne T 9 1), false, rfl, iteF ?_⟩
      refine ⟨_, _, _, false, rfl, (fun z => by cases z), T.o_LastRow.tyOf ha4, kitF T.o_LastRow T.o_IfRow (cls_ne T 11 10) (cls_ne T 11 1), false, rfl, iteF ?_⟩
      refine ⟨_, _, _, false, rfl, (fun z => by cases z), T.o_LastRow.tyOf ha4, kitF T.o_LastRow T.o_LoopRow (cls_ne T 12 10) (cls_ne T 12 1), false, rfl, iteF ?_⟩
      refine ⟨_, _, _, true, rfl, (fun z => by cases z), T.o_LastRow.tyOf ha4, kitT T.o_LastRow, ?_⟩
      have e : doRow F d k (.last n) = (k.tell n .non, true) := by cases d <;> rfl
      rw [e] at q
      exact q _ s4 R4 ok4
    | ite n val as bs l0 r0 =>
      cases d with
      | zero => exact W.elim
      | succ d =>
      obtain ⟨vo, a, dx, p, q1, q2, xs1, ys1, I⟩ := W
      obtain ⟨rfl, ha, hp, hq1, r1, hq2, r2⟩ := I
      refine ⟨r.s, r.ds, _, rfl, R2.hs, rfl, r, _, a, rfl, R2, ok.idle 1, Or.inr ⟨_, T.o_IfRow.tyOf (s2 _ _ ha), kitF T.o_IfRow T.o_SendRow (cls_ne T 7 11) (cls_ne T 7 1), kitF T.o_IfRow T.o_SayRow (cls_ne T 8 11) (cls_ne T 8 1), ?_⟩⟩
      refine ⟨r.b, _, r.db, _, _, rfl, R2.hb, T.o_Book.cl, T.n_Book_trace, rfl, Or.inl ⟨rfl, _, SqL.of ht⟩, a, _, dx, _, _, rfl, s2 _ _ ha, T.o_IfRow.cl, T.n_IfRow_number, rfl, r.b, _, r.db, _, _, rfl, R2.hb, T.o_Book.cl, T.n_Book_steps, rfl, ?_⟩
      refine ⟨(show 3 ≤ sizeLine by decide), fun p3 hp3 => ⟨_, _, _, rfl, rfl, Same.upd hp3 _ _ _ ht, tlen, ?_⟩⟩
      have R4 : RunAt A dk _ r (k.tell n .non) := R2.trace (w := [.int n, .int (k.idle 1).steps, .non]) hp3 ht
      have s4 : Same H0 _ := Same.out (s2.trans (Same.upd hp3 (HO.tup [.int n, .int (k.idle 1).steps, .non]))) Fr.t (HO.lst (ts ++ [.ref p3]))
      generalize upd (upd H2 p3 (HO.tup [.int n, .int (k.idle 1).steps, .non])) r.t (HO.lst (ts ++ [.ref p3])) = H4 at R4 s4 ⊢
      have ha4 := s4 _ _ ha
      have ok4 := ok.tell n .non
      refine ⟨_, _, _, false, rfl, (fun z => by cases z), T.o_IfRow.tyOf ha4, kitF T.o_IfRow T.o_SetRow (cls_ne T 5 11) (cls_ne T 5 1), false, rfl, iteF ?_⟩
      refine ⟨_, _, _, false, rfl, (fun z => by cases z), T.o_IfRow.tyOf ha4, kitF T.o_IfRow T.o_PutRow (cls_ne T 6 11) (cls_ne T 6 1), false, rfl, iteF ?_⟩
      refine ⟨_, _, _, false, rfl, (fun z => by cases z), T.o_IfRow.tyOf ha4, kitF T.o_IfRow T.o_SendRow (cls_ne T 7 11) (cls_ne T 7 1), false, rfl, iteF ?_⟩
      refine ⟨_, _, _, false, rfl, (fun z => by cases z), T.o_IfRow.tyOf ha4, kitF T.o_IfRow T.o_SayRow (cls_ne T 8 11) (cls_ne T 8 1), false, rfl, iteF ?_⟩
      refine ⟨_, _, _, false, rfl, (fun z => by cases z), T.o_IfRow.tyOf ha4, kitF T.o_IfRow T.o_CallRow (cls_ne T 9 11) (cls_ne T 9 1), false, rfl, iteF ?_⟩
      refine ⟨_, _, _, true, rfl, (fun z => by cases z), T.o_IfRow.tyOf ha4, kitT T.o_IfRow, true, rfl, iteT ?_⟩
      have e : (if val.num (k.tell n .non) ≠ 0 then ((rowsBy (doRow F d) (k.tell n .non) as).1.idle l0, (rowsBy (doRow F d) (k.tell n .non) as).2) else ((rowsBy (doRow F d) (k.tell n .non) bs).1.idle r0, (rowsBy (doRow F d) (k.tell n .non) bs).2)) = doRow F (d + 1) k (.ite n val as bs l0 r0) := by rw [num_tell]; rfl
      refine ⟨r.s, r.ds, _, rfl, R4.hs, rfl, r, k.tell n .non, n, val, as, bs, l0, r0, a, dx, p, q1, q2, xs1, ys1, H0, rfl, s4, Fr, R4, ok4, vo, ⟨rfl, ha, hp, hq1, r1, hq2, r2⟩, ?_, ?_⟩
      · simp only [cnt] at rm
        exact S.room.more (n := 1) (rm.le (by omega)) (more_tell k n .non)
      · rw [e]
        exact q
    | loop n th m b l0 r0 =>
      cases d with
      | zero => exact W.elim
      | succ d =>
      obtain ⟨a, dx, qq, xs1, I⟩ := W
      obtain ⟨rfl, ha, hq1, r1, hm, hrb⟩ := I
      refine ⟨r.s, r.ds, _, rfl, R2.hs, rfl, r, _, a, rfl, R2, ok.idle 1, Or.inr ⟨_, T.o_LoopRow.tyOf (s2 _ _ ha), kitF T.o_LoopRow T.o_SendRow (cls_ne T 7 12) (cls_ne T 7 1), kitF T.o_LoopRow T.o_SayRow (cls_ne T 8 12) (cls_ne T 8 1), ?_⟩⟩
      refine ⟨r.b, _, r.db, _, _, rfl, R2.hb, T.o_Book.cl, T.n_Book_trace, rfl, Or.inl ⟨rfl, _, SqL.of ht⟩, a, _, dx, _, _, rfl, s2 _ _ ha, T.o_LoopRow.cl, T.n_LoopRow_number, rfl, r.b, _, r.db, _, _, rfl, R2.hb, T.o_Book.cl, T.n_Book_steps, rfl, ?_⟩
      refine ⟨(show 3 ≤ sizeLine by decide), fun p3 hp3 => ⟨_, _, _, rfl, rfl, Same.upd hp3 _ _ _ ht, tlen, ?_⟩⟩
      have R4 : RunAt A dk _ r (k.tell n .non) := R2.trace (w := [.int n, .int (k.idle 1).steps, .non]) hp3 ht
      have s4 : Same H0 _ := Same.out (s2.trans (Same.upd hp3 (HO.tup [.int n, .int (k.idle 1).steps, .non]))) Fr.t (HO.lst (ts ++ [.ref p3]))
      generalize upd (upd H2 p3 (HO.tup [.int n, .int (k.idle 1).steps, .non])) r.t (HO.lst (ts ++ [.ref p3])) = H4 at R4 s4 ⊢
      have ha4 := s4 _ _ ha
      have ok4 := ok.tell n .non
      refine ⟨_, _, _, false, rfl, (fun z => by cases z), T.o_LoopRow.tyOf ha4, kitF T.o_LoopRow T.o_SetRow (cls_ne T 5 12) (cls_ne T 5 1), false, rfl, iteF ?_⟩
      refine ⟨_, _, _, false, rfl, (fun z => by cases z), T.o_LoopRow.tyOf ha4, kitF T.o_LoopRow T.o_PutRow (cls_ne T 6 12) (cls_ne T 6 1), false, rfl, iteF ?_⟩
      refine ⟨_, _, _, false, rfl, (fun z => by cases z), T.o_LoopRow.tyOf ha4, kitF T.o_LoopRow T.o_SendRow (cls_ne T 7 12) (cls_ne T 7 1), false, rfl, iteF ?_⟩
      refine ⟨_, _, _, false, rfl, (fun z => by cases z), T.o_LoopRow.tyOf ha4, kitF T.o_LoopRow T.o_SayRow (cls_ne T 8 12) (cls_ne T 8 1), false, rfl, iteF ?_⟩
      refine ⟨_, _, _, false, rfl, (fun z => by cases z), T.o_LoopRow.tyOf ha4, kitF T.o_LoopRow T.o_CallRow (cls_ne T 9 12) (cls_ne T 9 1), false, rfl, iteF ?_⟩
      refine ⟨_, _, _, false, rfl, (fun z => by cases z), T.o_LoopRow.tyOf ha4, kitF T.o_LoopRow T.o_IfRow (cls_ne T 11 12) (cls_ne T 11 1), false, rfl, iteF ?_⟩
      refine ⟨_, _, _, true, rfl, (fun z => by cases z), T.o_LoopRow.tyOf ha4, kitT T.o_LoopRow, true, rfl, iteT ?_⟩
      have e : doRow F (d + 1) k (.loop n th m b l0 r0) = ((runOf F d (k.tell n .non) th m b l0).1.idle (r0 * (m - (runOf F d (k.tell n .non) th m b l0).2)), false) := by
        simp only [doRow, runOf, th_tell]
      rw [e] at q
      refine ⟨r.s, r.ds, _, rfl, R4.hs, rfl, r, k.tell n .non, n, th, m, b, l0, r0, a, dx, qq, xs1, H0, rfl, s4, Fr, R4, ok4, ⟨rfl, ha, hq1, r1, hm, hrb⟩, ?_, fun H5 s5 R5 ok5 => ?_⟩
      · simp only [cnt] at rm
        exact S.room.more (n := 1) rm (more_tell k n .non)
      · have ha5 := s5 _ _ ha
        refine ⟨_, _, _, false, rfl, (fun z => by cases z), T.o_LoopRow.tyOf ha5, kitF T.o_LoopRow T.o_LastRow (cls_ne T 10 12) (cls_ne T 10 1), ?_⟩
        exact q _ s5 R5 ok5
    | call n =>
      cases d with
      | zero => exact W.elim
      | succ d =>
      obtain ⟨dn, a, dx, qq, dd, ddx, pq, bq, xs1, I⟩ := W
      obtain ⟨rfl, ha, hq1, hdk, hd, hpq, hbq, r1⟩ := I
      refine ⟨r.s, r.ds, _, rfl, R2.hs, rfl, r, _, a, rfl, R2, ok.idle 1, Or.inr ⟨_, T.o_CallRow.tyOf (s2 _ _ ha), kitF T.o_CallRow T.o_SendRow (cls_ne T 7 9) (cls_ne T 7 1), kitF T.o_CallRow T.o_SayRow (cls_ne T 8 9) (cls_ne T 8 1), ?_⟩⟩
      refine ⟨r.b, _, r.db, _, _, rfl, R2.hb, T.o_Book.cl, T.n_Book_trace, rfl, Or.inl ⟨rfl, _, SqL.of ht⟩, a, _, dx, _, _, rfl, s2 _ _ ha, T.o_CallRow.cl, T.n_CallRow_number, rfl, r.b, _, r.db, _, _, rfl, R2.hb, T.o_Book.cl, T.n_Book_steps, rfl, ?_⟩
      refine ⟨(show 3 ≤ sizeLine by decide), fun p3 hp3 => ⟨_, _, _, rfl, rfl, Same.upd hp3 _ _ _ ht, tlen, ?_⟩⟩
      have R4 : RunAt A dk _ r (k.tell n .non) := R2.trace (w := [.int n, .int (k.idle 1).steps, .non]) hp3 ht
      have s4 : Same H0 _ := Same.out (s2.trans (Same.upd hp3 (HO.tup [.int n, .int (k.idle 1).steps, .non]))) Fr.t (HO.lst (ts ++ [.ref p3]))
      generalize upd (upd H2 p3 (HO.tup [.int n, .int (k.idle 1).steps, .non])) r.t (HO.lst (ts ++ [.ref p3])) = H4 at R4 s4 ⊢
      have ha4 := s4 _ _ ha
      have ok4 := ok.tell n .non
      refine ⟨_, _, _, false, rfl, (fun z => by cases z), T.o_CallRow.tyOf ha4, kitF T.o_CallRow T.o_SetRow (cls_ne T 5 9) (cls_ne T 5 1), false, rfl, iteF ?_⟩
      refine ⟨_, _, _, false, rfl, (fun z => by cases z), T.o_CallRow.tyOf ha4, kitF T.o_CallRow T.o_PutRow (cls_ne T 6 9) (cls_ne T 6 1), false, rfl, iteF ?_⟩
      refine ⟨_, _, _, false, rfl, (fun z => by cases z), T.o_CallRow.tyOf ha4, kitF T.o_CallRow T.o_SendRow (cls_ne T 7 9) (cls_ne T 7 1), false, rfl, iteF ?_⟩
      refine ⟨_, _, _, false, rfl, (fun z => by cases z), T.o_CallRow.tyOf ha4, kitF T.o_CallRow T.o_SayRow (cls_ne T 8 9) (cls_ne T 8 1), false, rfl, iteF ?_⟩
      refine ⟨_, _, _, true, rfl, (fun z => by cases z), T.o_CallRow.tyOf ha4, kitT T.o_CallRow, true, rfl, iteT ?_⟩
      refine ⟨r.s, r.ds, _, rfl, R4.hs, rfl, r, k.tell n .non, n, dn, a, dx, qq, dd, ddx, pq, bq, xs1, H0, rfl, s4, Fr, R4, ok4, ⟨rfl, ha, hq1, hdk, hd, hpq, hbq, r1⟩, ?_, fun H5 s5 R5 ok5 => ?_⟩
      · simp only [cnt] at rm
        exact S.room.more (n := 1) rm (more_tell k n .non)
      · have ha5 := s5 _ _ ha
        refine ⟨_, _, _, false, rfl, (fun z => by cases z), T.o_CallRow.tyOf ha5, kitF T.o_CallRow T.o_LastRow (cls_ne T 10 9) (cls_ne T 10 1), ?_⟩
        exact q _ s5 R5 ok5
theorem h_doRows (T : Txt K mg A) : ∀ n, HasM P w K mg base (3 * n + 5) A.Run "do_rows" ["self", "rows"] (sp_doRowsN A dk F n)
  | 0 => T.m_Run_do_rows.has (k := 4) sc_Run_do_rows (fun _ _ _ _ h => h.elim) (fun _ _ _ _ _ _ _ _ _ _ _ h => h.elim)
  | d + 1 => h_doRows_of T (h_doRow (by omega) T (h_doIf (by omega) T (h_doRows T d)) (h_doLoop (by omega) T (h_doRows T d)) (h_doCall (by omega) T (h_doRows T d)))
end
end K25

set_option Elab.async false
set_option linter.all false
set_option maxRecDepth 100000
set_option maxHeartbeats 4000000
namespace K25
open PySem L2
section
variable {P : Program} {w : World} {K : PySem.W.Frag} {mg : Str → Option Value} {base : Heap} {A : Adr} {dk : List (Key × V)} {F : List Rw}
def IsP (y : V) (H : Hp) : Prop := ∃ t k v, y = V.ref t ∧ H t = some (.tup [.str k, v])
theorem pairs_of {K : PySem.W.Frag} {H : Hp} : ∀ ys : List V, (∀ y ∈ ys, IsP y H) → ∃ (ps : List Addr) (kvs : List (Key × V)), ys = ps.map V.ref ∧ ps.length = kvs.length ∧ kvs.length = ys.length ∧ ∀ (i : Nat) t k v, ps[i]? = some t → kvs[i]? = some (k, v) → SqT K H t [kV k, v]
  | [], _ => ⟨[], [], rfl, rfl, rfl, fun i t k v h => by cases h⟩
  | y :: r, h => by
    obtain ⟨t, k, v, rfl, e⟩ := h y List.mem_cons_self
    obtain ⟨ps, kvs, rfl, h2, h3, h4⟩ := pairs_of (K := K) r fun z hz => h z (List.mem_cons_of_mem _ hz)
    refine ⟨t :: ps, (.inr k, v) :: kvs, rfl, by simp [h2], by simp [h3], fun i t' k' v' a b => ?_⟩
    cases i with
    | zero =>
      simp at a b
      obtain ⟨rfl, rfl⟩ := b
      subst a
      exact SqT.of e
    | succ i => exact h4 i t' k' v' (by simpa using a) (by simpa using b)
def sp_ends (A : Adr) : Sp := fun vs H Q _ => ∃ (p : Pa) (c : Addr) (x y z : Int) (ds xs : List V), vs = [.ref p.pa, .ref c] ∧ PrAt A H p ds xs ∧ H c = some (.dK (cellsK x y z)) ∧ ∀ e H', Same H H' → Q (.ref e) H'
theorem h_ends (T : Txt K mg A) : Has P w K mg base 1 "ends_of" ["program", "cells"] (sp_ends A) := by
  refine T.ends_of.has sc_ends_of (fun vs H Q E h => ?_) (fun f cdv A' outer s' H vs Q E hr hu h => ?_)
  · obtain ⟨p, c, x, y, z, ds, xs, rfl, _⟩ := h
    rfl
  · obtain ⟨p, c, x, y, z, ds, xs, rfl, R, hc, q⟩ := h
    refine ⟨_, (pss_one (ps_ret (pe_callTy c_dictP rfl T.z_dict (by boot_by_name) (pa_cons (pe_comp (N := ["head", "cells"]) (own := 1) (fr := [1]) (CompOk.of (by kernel_rfl!)) rfl (pi_any (pe_fld (fv 0) rfl)) (fun b => pg_name (i := 0) (show List.Nodup (["head", "cells"] : List PySem.Str) by decide +kernel) rfl (by first | exact Or.inl rfl | exact Or.inr rfl)) (fun b => pf_one (pt_tru (pe_callB c_isinst rfl T.z_isinstance (by boot_by_name) (pa_cons (fv 0) (pa_cons (pe_gtup T.o_OwnRow.mg) pa_nil))) (fun _ => rfl))) (fun b => pe_tup (pa_cons (pe_fld (fv 0) rfl) (pa_cons (pe_ix (ix_all hu) (fv 1) (pe_fld (fv 0) rfl) (fun _ _ => rfl)) pa_nil)))) pa_nil)))), ?_⟩
    refine ⟨p.pa, _, p.dp, _, _, rfl, R.pr, T.o_Program.cl, T.n_Program_heads, rfl, Or.inl ⟨⟨_, SqL.of R.hd⟩, comp_relF (K := K) (fun v => decide (v = .ref p.a3) || decide (v = .ref p.a5)) IsP (SqL.of R.hd) (by show 5 < sizeLine; decide) (fun b v H2 G hv s2 k => ?_) (fun b v H2 G hv hp s2 k => ?_) ?_ ?_ (fun D H2 ys hD s2 e le all => ?_)⟩⟩
    · have ne : ∀ {a b : Addr} {C C' : Addr} {dx dx' : Addr} {fs fs' : List (Str × V)}, H a = some (.ins C dx fs) → H b = some (.ins C' dx' fs') → C ≠ C' → a ≠ b := fun h1 h2 hn z => by rw [z, h2] at h1; exact hn (HO.ins.inj (Option.some.inj h1)).1.symm
      have fl : ∀ {a : Addr}, a ≠ p.a3 → a ≠ p.a5 → (decide (V.ref a = .ref p.a3) || decide (V.ref a = .ref p.a5)) = false := fun h1 h2 => by
        rw [decide_eq_false (fun z => h1 (V.ref.inj z)), decide_eq_false (fun z => h2 (V.ref.inj z))]; rfl
      simp only [List.mem_cons, List.not_mem_nil, or_false] at hv
      rcases hv with rfl | rfl | rfl | rfl | rfl
      · rw [fl (ne R.h1 R.h3 (cls_ne T 2 4)) (ne R.h1 R.h5 (cls_ne T 2 4))] at k
        exact ⟨_, _, _, false, rfl, (fun z => by cases z), T.o_HandRow.tyOf (s2 _ _ R.h1), kitF T.o_HandRow T.o_OwnRow (cls_ne T 4 2) (cls_ne T 4 1), false, rfl, k _ (Same.refl _)⟩
      · rw [fl (ne R.h2 R.h3 (cls_ne T 2 4)) (ne R.h2 R.h5 (cls_ne T 2 4))] at k
        exact ⟨_, _, _, false, rfl, (fun z => by cases z), T.o_HandRow.tyOf (s2 _ _ R.h2), kitF T.o_HandRow T.o_OwnRow (cls_ne T 4 2) (cls_ne T 4 1), false, rfl, k _ (Same.refl _)⟩
      · have e : (decide (V.ref p.a3 = .ref p.a3) || decide (V.ref p.a3 = .ref p.a5)) = true := by simp
        rw [e] at k
        exact ⟨_, _, _, true, rfl, (fun z => by cases z), T.o_OwnRow.tyOf (s2 _ _ R.h3), kitT T.o_OwnRow, true, rfl, k _ (Same.refl _)⟩
      · rw [fl (ne R.h4 R.h3 (cls_ne T 3 4)) (ne R.h4 R.h5 (cls_ne T 3 4))] at k
        exact ⟨_, _, _, false, rfl, (fun z => by cases z), T.o_GivenRow.tyOf (s2 _ _ R.h4), kitF T.o_GivenRow T.o_OwnRow (cls_ne T 4 3) (cls_ne T 4 1), false, rfl, k _ (Same.refl _)⟩
      · have e : (decide (V.ref p.a5 = .ref p.a3) || decide (V.ref p.a5 = .ref p.a5)) = true := by simp
        rw [e] at k
        exact ⟨_, _, _, true, rfl, (fun z => by cases z), T.o_OwnRow.tyOf (s2 _ _ R.h5), kitT T.o_OwnRow, true, rfl, k _ (Same.refl _)⟩
    · rw [Bool.or_eq_true, decide_eq_true_iff, decide_eq_true_iff] at hp
      rcases hp with rfl | rfl
      · exact ⟨p.a3, _, p.d3, _, _, rfl, s2 _ _ R.h3, T.o_OwnRow.cl, T.n_OwnRow_name, rfl, p.a3, _, p.d3, _, _, rfl, s2 _ _ R.h3, T.o_OwnRow.cl, T.n_OwnRow_name, rfl, _, DGet.k (k := .inr "c") (s2 _ _ hc), (show 2 ≤ sizeLine by decide), fun t ht => k _ _ (Same.upd ht _) ⟨t, _, _, rfl, upd_same⟩⟩
      · exact ⟨p.a5, _, p.d5, _, _, rfl, s2 _ _ R.h5, T.o_OwnRow.cl, T.n_OwnRow_name, rfl, p.a5, _, p.d5, _, _, rfl, s2 _ _ R.h5, T.o_OwnRow.cl, T.n_OwnRow_name, rfl, _, DGet.k (k := .inr "t") (s2 _ _ hc), (show 2 ≤ sizeLine by decide), fun t ht => k _ _ (Same.upd ht _) ⟨t, _, _, rfl, upd_same⟩⟩
    · rintro y H2 H3 s ⟨t, k, v, e1, e2⟩
      exact ⟨t, k, v, e1, s _ _ e2⟩
    · rintro y H2 D ys zs hD ⟨t, k, v, e1, e2⟩
      exact ⟨t, k, v, e1, by rw [upd_ne (fun z => by rw [z, hD] at e2; cases e2)]; exact e2⟩
    · obtain ⟨ps, kvs, rfl, h2, h3, h4⟩ := pairs_of (K := K) ys all
      have le5 : (ps.map V.ref).length ≤ 5 := le
      exact ⟨D, ps, kvs, rfl, SqL.of e, h2, by omega, h4, fun p4 hp4 => q p4 _ (s2.trans (Same.upd hp4 _))⟩
structure DoneBk (A : Adr) (H : Hp) (b db l sd t e : Addr) (k : S) : Prop where
  hb : H b = some (.ins A.Book db [("letters", .ref l), ("said", .ref sd), ("trace", .ref t), ("steps", .int k.steps), ("ends", .ref e)])
  hd : H sd = some (.lst [])
  ht : ∃ xs, H t = some (.lst xs) ∧ Tups H xs k.trace
  hl : ∃ xs, H l = some (.lst xs) ∧ Tups H xs k.letters
def sp_run (A : Adr) : Sp := fun vs H Q _ => ∃ (p : Pa) (g : Addr) (x : Int) (ds xs : List V) (dk : List (Key × V)) (F rows : List Rw), vs = [.ref p.pa, .ref g] ∧ PrAt A H p ds xs ∧ DeedsAt A H ds dk ∧ H g = some (.dK [(.inr "g", .int x)]) ∧ In x ∧ PySem.Paired (RowAt A dk F H 3) xs rows ∧ (rows.map (cnt F 3)).sum ≤ 1000 ∧
  ∀ (b db l sd t e : Addr) (H' : Hp), Same H H' → DoneBk A H' b db l sd t e (rowsBy (doRow F 3) (S.new x) rows).1 → Q (.ref b) H'
theorem h_run (T : Txt K mg A) : Has P w K mg base 18 "run" ["program", "gifts"] (sp_run A) := by
  refine T.run.has (k := 17) sc_run (fun vs H Q E h => ?_) (fun f cdv A' outer s' H vs Q E hr hu h => ?_)
  · obtain ⟨p, g, x, ds, xs, dk, F, rows, rfl, _⟩ := h
    rfl
  · obtain ⟨p, g, x, ds, xs, dk, F, rows, rfl, R, DA, G, hx, pr, rm, q⟩ := h
    have D_cells_of := h_cells (P := P) (w := w) (base := base) T
    have D_Run_init := h_Run_init (P := P) (w := w) (base := base) T
    have D_do_rows := h_doRows (P := P) (w := w) (base := base) (dk := dk) (F := F) T 4
    have D_ends_of := h_ends (P := P) (w := w) (base := base) T
    refine ⟨_, (pss_cons (ps_set (i := 2) sc_run.nd rfl (Or.inl rfl) (pe_makeD T.o_Run D_Run_init hr (pa_cons (fv 0) (pa_cons (pe_callD D_cells_of hr (pa_cons (fv 0) (pa_cons (fv 1) pa_nil))) pa_nil))))
    (pss_cons (ps_expr (pe_methD (fv 2) T.o_Run.cl D_do_rows hr (pa_cons (pe_fld (fv 0) rfl) pa_nil)))
    (pss_cons (ps_set (i := 3) sc_run.nd rfl (Or.inl rfl) (pe_fld (fv 2) rfl))
    (pss_cons (ps_fld (fv 3) (pe_callD D_ends_of hr (pa_cons (fv 0) (pa_cons (pe_fld (fv 2) rfl) pa_nil))) rfl)
    (pss_one (ps_ret (fv 3))))))), ?_⟩
    refine ⟨p, g, x, ds, xs, dk, rfl, R, DA, G, hx, fun c H1 s1 hc1 nc => ?_⟩
    refine fun s ds' hs hds hne => ?_
    have sm : Same H1 (upd (upd H1 ds' (.own s)) s (.ins A.Run ds' [])) := But.same (But.refl _ _) hs hds
    refine ⟨s, ds', c, p, x, ds, xs, dk, rfl, upd_same, (R.same s1).same sm, (DA.same s1).same sm, sm _ _ hc1, fun d b db sd e t l H2 b2 nb nt nl R2 => ⟨rfl, ?_⟩⟩
    have s12 : Same H1 H2 := But.same b2 hs hds
    have s2 : Same H H2 := s1.trans s12
    have Fr : Fresh H ⟨s, ds', d, c, b, db, sd, e, t, l⟩ := ⟨Same.free s1 (new_none hs hds nb), Same.free s1 (new_none hs hds nt), Same.free s1 (new_none hs hds nl), nc⟩
    have ok0 : (S.new x).ok := ⟨(show In 0 from ⟨by decide, by decide⟩), hx, (show In 0 from ⟨by decide, by decide⟩)⟩
    refine ⟨s, ds', _, rfl, R2.hs, rfl, p.pa, _, p.dp, _, _, rfl, s2 _ _ R.pr, T.o_Program.cl, T.n_Program_main, rfl, ⟨s, ds', d, c, b, db, sd, e, t, l⟩, S.new x, p.mn, xs, rows, H, rfl, s2, Fr, R2, ok0, R.mn, pr, ⟨by simpa [S.new] using rm, by simpa [S.new] using rm⟩, fun H3 s3 R3 ok3 => ?_⟩
    refine ⟨s, _, ds', _, _, rfl, R3.hs, T.o_Run.cl, T.n_Run_book, rfl, ?_⟩
    refine ⟨s, _, ds', _, _, rfl, R3.hs, T.o_Run.cl, T.n_Run_cells, rfl, p, c, _, _, _, ds, xs, rfl, R.same s3, R3.hc, fun e' H4 s4 => ?_⟩
    have R4 := R3.same s4
    have hb4 := R4.hb
    obtain ⟨ts, ht, tt⟩ := R4.ht
    obtain ⟨ls, hl, tl⟩ := R4.hl
    refine ⟨b, _, db, _, rfl, hb4, T.o_Book.cl, T.n_Book_ends, by simp, ?_⟩
    have st := Stay.at (u := .ins A.Book db (putF "ends" (.ref e') [("letters", .ref l), ("said", .ref sd), ("trace", .ref t), ("steps", .int (rowsBy (doRow F 3) (S.new x) rows).1.steps), ("ends", .ref e)])) hb4 (fun w e => by cases e)
    have ne : ∀ {a : Addr} {o : HO}, H4 a = some o → (∀ C dx fs, o ≠ .ins C dx fs) → a ≠ b := fun ha hn z => by rw [z, hb4] at ha; exact hn _ _ _ (Option.some.inj ha).symm
    refine q b db l sd t e' _ (Same.out (s3.trans s4) Fr.b _) ⟨upd_same, ?_, ⟨ts, ?_, tt.stay st⟩, ⟨ls, ?_, tl.stay st⟩⟩
    · rw [upd_ne (ne R4.hd (fun _ _ _ z => by cases z))]; exact R4.hd
    · rw [upd_ne (ne ht (fun _ _ _ z => by cases z))]; exact ht
    · rw [upd_ne (ne hl (fun _ _ _ z => by cases z))]; exact hl
end
end K25

set_option Elab.async false
set_option linter.all false
set_option maxRecDepth 100000
set_option maxHeartbeats 4000000
namespace K25
open PySem L2
section
variable {P : Program} {w : World} {K : PySem.W.Frag} {mg : Str → Option Value} {base : Heap} {A : Adr}
theorem put_steps {a b c : V} {n : V} : putK [((.inr "steps" : Key), a), (.inr "letters", b), (.inr "trace", c)] (.inr "steps") n = [(.inr "steps", n), (.inr "letters", b), (.inr "trace", c)] := rfl
structure LawBook (H : Hp) (d t l : Addr) (b : S) : Prop where
  hd : H d = some (.dK [(.inr "steps", .int b.steps), (.inr "letters", .ref l), (.inr "trace", .ref t)])
  ht : ∃ xs, H t = some (.lst xs) ∧ Tups H xs b.trace
  hl : ∃ xs, H l = some (.lst xs) ∧ Tups H xs b.letters
  ne : t ≠ l
theorem LawBook.same {H H' : Hp} {d t l : Addr} {b : S} (B : LawBook H d t l b) (s : Same H H') : LawBook H' d t l b := by
  obtain ⟨hd, ⟨xs, h1, h2⟩, ⟨ys, h3, h4⟩, ne⟩ := B
  exact ⟨s _ _ hd, ⟨xs, s _ _ h1, h2.stay (Same.stay s)⟩, ⟨ys, s _ _ h3, h4.stay (Same.stay s)⟩, ne⟩
theorem LawBook.gs {H : Hp} {d t l : Addr} {b : S} (B : LawBook H d t l b) : DGet H d (.str "steps") (some (.int b.steps)) := DGet.k (k := .inr "steps") B.hd
theorem LawBook.gt {H : Hp} {d t l : Addr} {b : S} (B : LawBook H d t l b) : DGet H d (.str "trace") (some (.ref t)) := DGet.k (k := .inr "trace") B.hd
theorem LawBook.gl {H : Hp} {d t l : Addr} {b : S} (B : LawBook H d t l b) : DGet H d (.str "letters") (some (.ref l)) := DGet.k (k := .inr "letters") B.hd
theorem LawBook.set {H : Hp} {d t l : Addr} {b : S} (B : LawBook H d t l b) (n : Int) : LawBook (upd H d (.dK (putK [(.inr "steps", .int b.steps), (.inr "letters", .ref l), (.inr "trace", .ref t)] (.inr "steps") (.int n)))) d t l { b with steps := n } := by
  obtain ⟨hd, ⟨xs, h1, h2⟩, ⟨ys, h3, h4⟩, ne⟩ := B
  have st : Stay H (upd H d (.dK (putK [(.inr "steps", .int b.steps), (.inr "letters", .ref l), (.inr "trace", .ref t)] (.inr "steps") (.int n)))) := Stay.at hd fun w e => by cases e
  exact ⟨by rw [upd_same, put_steps], ⟨xs, by rw [upd_ne (fun z => by rw [z, hd] at h1; cases h1)]; exact h1, h2.stay st⟩, ⟨ys, by rw [upd_ne (fun z => by rw [z, hd] at h3; cases h3)]; exact h3, h4.stay st⟩, ne⟩
theorem LawBook.trace {H : Hp} {d t l p : Addr} {b : S} {xs w : List V} (B : LawBook H d t l b) (hp : H p = none) (ht : H t = some (.lst xs)) : LawBook (upd (upd H p (.tup w)) t (.lst (xs ++ [.ref p]))) d t l { b with trace := b.trace ++ [w] } := by
  obtain ⟨hd, ⟨xs', h1, h2⟩, ⟨ys, h3, h4⟩, ne⟩ := B
  rw [ht] at h1
  cases h1
  have e1 : (upd H p (.tup w)) t = some (.lst xs) := Same.upd hp _ _ _ ht
  have st : Stay H (upd (upd H p (.tup w)) t (.lst (xs ++ [.ref p]))) := (Same.stay (Same.upd hp _)).trans (Stay.at e1 fun w e => by cases e)
  have dt : d ≠ t := fun z => by rw [z, ht] at hd; cases hd
  have pt : p ≠ t := fun z => by rw [z, ht] at hp; cases hp
  refine ⟨by rw [upd_ne dt]; exact Same.upd hp _ _ _ hd, ⟨_, upd_same, PySem.Paired.snoc (h2.stay st) ⟨p, rfl, by rw [upd_ne pt]; exact upd_same⟩⟩, ⟨ys, by rw [upd_ne (Ne.symm ne)]; exact Same.upd hp _ _ _ h3, h4.stay st⟩, ne⟩
theorem LawBook.letter {H : Hp} {d t l p : Addr} {b : S} {xs w : List V} (B : LawBook H d t l b) (hp : H p = none) (ht : H l = some (.lst xs)) : LawBook (upd (upd H p (.tup w)) l (.lst (xs ++ [.ref p]))) d t l { b with letters := b.letters ++ [w] } := by
  obtain ⟨hd, ⟨ys, h3, h4⟩, ⟨xs', h1, h2⟩, ne⟩ := B
  rw [ht] at h1
  cases h1
  have e1 : (upd H p (.tup w)) l = some (.lst xs) := Same.upd hp _ _ _ ht
  have st : Stay H (upd (upd H p (.tup w)) l (.lst (xs ++ [.ref p]))) := (Same.stay (Same.upd hp _)).trans (Stay.at e1 fun w e => by cases e)
  have dt : d ≠ l := fun z => by rw [z, ht] at hd; cases hd
  have pt : p ≠ l := fun z => by rw [z, ht] at hp; cases hp
  refine ⟨by rw [upd_ne dt]; exact Same.upd hp _ _ _ hd, ⟨ys, by rw [upd_ne ne]; exact Same.upd hp _ _ _ h3, h4.stay st⟩, ⟨_, upd_same, PySem.Paired.snoc (h2.stay st) ⟨p, rfl, by rw [upd_ne pt]; exact upd_same⟩⟩, ne⟩
structure Sh where
  count : Int
  th : Th
  most : Int
  i0 : Int
  i1 : Int
  i2 : Int
  i3 : Int
  i4 : Int
  i5 : Int
  set : Int
  inner : Int
  innermost : Int
  innerlast : Int
  stop : Int
  twice : Int
  ahead : Int
structure Sh.ok (h : Sh) : Prop where
  count : In h.count
  th : h.th = .t ∨ h.th = .g ∨ h.th = .i h.count
  most : 1 ≤ h.most ∧ h.most ≤ 30
  i0 : 0 ≤ h.i0 ∧ h.i0 ≤ 20
  i1 : 0 ≤ h.i1 ∧ h.i1 ≤ 20
  i2 : 0 ≤ h.i2 ∧ h.i2 ≤ 20
  i3 : 0 ≤ h.i3 ∧ h.i3 ≤ 20
  i4 : 0 ≤ h.i4 ∧ h.i4 ≤ 20
  i5 : 0 ≤ h.i5 ∧ h.i5 ≤ 20
  set : In h.set
  inner : 0 ≤ h.inner ∧ h.inner ≤ 4
  innermost : 1 ≤ h.innermost ∧ h.innermost ≤ 3
  innerlast : h.innerlast = 0 ∨ h.innerlast = 1
  stop : 0 ≤ h.stop ∧ h.stop ≤ 11
  twice : h.twice = 0 ∨ h.twice = 1
  ahead : h.ahead = 0 ∨ h.ahead = 1
def shK (h : Sh) (il : Addr) : List (Key × V) := [(.inr "count", .int h.count), (.inr "by", h.th.v), (.inr "most", .int h.most), (.inr "idles", .ref il), (.inr "set", .int h.set), (.inr "inner", .int h.inner), (.inr "innermost", .int h.innermost), (.inr "innerlast", .int h.innerlast), (.inr "stop", .int h.stop), (.inr "twice", .int h.twice), (.inr "ahead", .int h.ahead)]
def idl (h : Sh) : List V := [.int h.i0, .int h.i1, .int h.i2, .int h.i3, .int h.i4, .int h.i5]
structure ShAt (H : Hp) (d il : Addr) (h : Sh) : Prop where
  d : H d = some (.dK (shK h il))
  l : H il = some (.lst (idl h))
theorem ShAt.same {H H' : Hp} {d il : Addr} {h : Sh} (R : ShAt H d il h) (s : Same H H') : ShAt H' d il h := ⟨s _ _ R.d, s _ _ R.l⟩
theorem ShAt.g_count {H : Hp} {d il : Addr} {h : Sh} (R : ShAt H d il h) : DGet H d (.str "count") (some (.int h.count)) := DGet.k (k := .inr "count") R.d
theorem ShAt.g_by {H : Hp} {d il : Addr} {h : Sh} (R : ShAt H d il h) : DGet H d (.str "by") (some (h.th.v)) := DGet.k (k := .inr "by") R.d
theorem ShAt.g_most {H : Hp} {d il : Addr} {h : Sh} (R : ShAt H d il h) : DGet H d (.str "most") (some (.int h.most)) := DGet.k (k := .inr "most") R.d
theorem ShAt.g_idles {H : Hp} {d il : Addr} {h : Sh} (R : ShAt H d il h) : DGet H d (.str "idles") (some (.ref il)) := DGet.k (k := .inr "idles") R.d
theorem ShAt.g_set {H : Hp} {d il : Addr} {h : Sh} (R : ShAt H d il h) : DGet H d (.str "set") (some (.int h.set)) := DGet.k (k := .inr "set") R.d
theorem ShAt.g_inner {H : Hp} {d il : Addr} {h : Sh} (R : ShAt H d il h) : DGet H d (.str "inner") (some (.int h.inner)) := DGet.k (k := .inr "inner") R.d
theorem ShAt.g_innermost {H : Hp} {d il : Addr} {h : Sh} (R : ShAt H d il h) : DGet H d (.str "innermost") (some (.int h.innermost)) := DGet.k (k := .inr "innermost") R.d
theorem ShAt.g_innerlast {H : Hp} {d il : Addr} {h : Sh} (R : ShAt H d il h) : DGet H d (.str "innerlast") (some (.int h.innerlast)) := DGet.k (k := .inr "innerlast") R.d
theorem ShAt.g_stop {H : Hp} {d il : Addr} {h : Sh} (R : ShAt H d il h) : DGet H d (.str "stop") (some (.int h.stop)) := DGet.k (k := .inr "stop") R.d
theorem ShAt.g_twice {H : Hp} {d il : Addr} {h : Sh} (R : ShAt H d il h) : DGet H d (.str "twice") (some (.int h.twice)) := DGet.k (k := .inr "twice") R.d
theorem ShAt.g_ahead {H : Hp} {d il : Addr} {h : Sh} (R : ShAt H d il h) : DGet H d (.str "ahead") (some (.int h.ahead)) := DGet.k (k := .inr "ahead") R.d
def sp_tell : Sp := fun vs H Q _ => ∃ (bd t l : Addr) (s : S) (n : Int) (hh : Str) (v : V) (H0 : Hp), vs = [.ref bd, .int n, .str hh, v] ∧ Same H0 H ∧ LawBook H bd t l s ∧ H0 bd = none ∧ H0 t = none ∧ H0 l = none ∧ s.room 1 ∧
  ((hh = "" ∧ ∀ H', Same H0 H' → LawBook H' bd t l (s.tell n v) → Q .non H') ∨ (hh ≠ "" ∧ ∃ i, v = .int i ∧ ∀ H', Same H0 H' → LawBook H' bd t l (s.send n hh i) → Q .non H'))
theorem h_tell (T : Txt K mg A) : Has P w K mg base 1 "_law_tell" ["_law_book", "_law_at", "_law_hand", "_law_told"] sp_tell := by
  refine T.law_tell.has sc_law_tell (fun vs H Q E h => ?_) (fun f cdv A' outer s' H vs Q E hr hu h => ?_)
  · obtain ⟨bd, t, l, s, n, hh, v, H0, rfl, _⟩ := h
    rfl
  · obtain ⟨bd, t, l, s, n, hh, v, H0, rfl, s0, B, nb, nt, nl, rm, q⟩ := h
    refine ⟨_, (pss_cons (ps_asg (pe_op o_add (pe_ix (ix_all hu) (fv 0) (pe_str) (fun _ _ => rfl)) (pe_int)) (pg_sub (fv 0) (pe_str) (st_all hu set_list)))
    (pss_cons (ps_expr (m_append (pe_ix (ix_all hu) (fv 0) (pe_str) (fun _ _ => rfl)) (pa_cons (pe_tup (pa_cons (fv 1) (pa_cons (pe_ix (ix_all hu) (fv 0) (pe_str) (fun _ _ => rfl)) (pa_cons (fv 3) pa_nil)))) pa_nil)))
    (pss_one (ps_if (pt_cmpR (o_ne hu) (fv 2) (pe_str) (nomark _))
      (pss_one (ps_expr (m_append (pe_ix (ix_all hu) (fv 0) (pe_str) (fun _ _ => rfl)) (pa_cons (pe_tup (pa_cons (pe_ix (ix_all hu) (fv 0) (pe_str) (fun _ _ => rfl)) (pa_cons (fv 1) (pa_cons (fv 2) (pa_cons (fv 3) pa_nil))))) pa_nil))))
      pss_nil)))), ?_⟩
    refine ⟨_, B.gs, _, DPut.k (k := .inr "steps") B.hd (show 3 < sizeLine by decide), ?_⟩
    have B3 := B.set (s.steps + 1)
    have s3 : Same H0 _ := Same.out s0 nb (HO.dK (putK [((.inr "steps" : Key), V.int s.steps), (.inr "letters", .ref l), (.inr "trace", .ref t)] (.inr "steps") (.int (s.steps + 1))))
    generalize upd H bd (HO.dK (putK [((.inr "steps" : Key), V.int s.steps), (.inr "letters", .ref l), (.inr "trace", .ref t)] (.inr "steps") (.int (s.steps + 1)))) = H3 at B3 s3 ⊢
    obtain ⟨ts, ht, tt⟩ := B3.ht
    refine ⟨_, B3.gt, Or.inl ⟨rfl, _, SqL.of ht⟩, _, B3.gs, ?_⟩
    refine ⟨(show 3 ≤ sizeLine by decide), fun p4 hp4 => ⟨_, _, _, rfl, rfl, Same.upd hp4 _ _ _ ht, tlen_of (k := { s with steps := s.steps + 1 }) rm tt, ?_⟩⟩
    have B5 : LawBook _ bd t l (s.tell n v) := B3.trace (w := [.int n, .int (s.steps + 1), v]) hp4 ht
    have s5 : Same H0 _ := Same.out (s3.trans (Same.upd hp4 (HO.tup [.int n, .int (s.steps + 1), v]))) nt (HO.lst (ts ++ [.ref p4]))
    generalize upd (upd H3 p4 (HO.tup [.int n, .int (s.steps + 1), v])) t (HO.lst (ts ++ [.ref p4])) = H5 at B5 s5 ⊢
    refine ⟨rfl, _, rfl, ?_⟩
    rw [vstr]
    rcases q with ⟨rfl, q⟩ | ⟨hne, i, rfl, q⟩
    · refine ite2 (fun c => absurd c (by decide)) (fun _ => q H5 s5 B5)
    · refine ite2 (fun _ => ?_) (fun c => absurd (by simpa using hne) c)
      obtain ⟨ls, hl5, tl5⟩ := B5.hl
      refine ⟨_, B5.gl, Or.inl ⟨rfl, _, SqL.of hl5⟩, _, B5.gs, ?_⟩
      refine ⟨(show 4 ≤ sizeLine by decide), fun p6 hp6 => ⟨_, _, _, rfl, rfl, Same.upd hp6 _ _ _ hl5, llen_of (k := s) rm tl5, ?_⟩⟩
      have B7 := B5.letter (w := [.int (s.steps + 1), .int n, .str hh, .int i]) hp6 hl5
      exact q _ (Same.out (s5.trans (Same.upd hp6 _)) nl _) B7
end
end K25

set_option Elab.async false
set_option linter.all false
set_option maxRecDepth 100000
set_option maxHeartbeats 4000000
namespace K25
open PySem L2
section
variable {P : Program} {w : World} {K : PySem.W.Frag} {mg : Str → Option Value} {base : Heap} {A : Adr}
def testR (h : Sh) (s : S) (at_ c : Int) : S := if c = h.stop then ((s.tell at_ .non).tell (at_ + 1) .non).idle h.i4 else (s.tell at_ .non).idle h.i5
def oneR (h : Sh) (at_ c : Int) (s : S) : S := if h.innerlast = 1 then ((s.send (at_ + 1) "k" (c * 100)).tell (at_ + 2) .non).idle h.i2 else (s.send (at_ + 1) "k" (c * 100)).idle h.i2
def innerN (h : Sh) : Int := if h.innerlast = 1 then (if 1 < (if h.innermost < h.inner then h.innermost else h.inner) then 1 else (if h.innermost < h.inner then h.innermost else h.inner)) else (if h.innermost < h.inner then h.innermost else h.inner)
def itR (f : S → S) : Nat → S → S
  | 0, s => s
  | n + 1, s => f (itR f n s)
def innerR (h : Sh) (s : S) (at_ c : Int) : S := (itR (oneR h at_ c) (innerN h).toNat (s.tell at_ .non)).idle (h.i3 * (h.innermost - innerN h))
theorem more_it {f : S → S} {k : Nat} (hf : ∀ s, More s (f s) k) : ∀ (n : Nat) (s : S), More s (itR f n s) (n * k)
  | 0, s => by rw [Nat.zero_mul]; exact More.refl s
  | n + 1, s => by
    rw [Nat.succ_mul]
    exact (more_it hf n s).trans (hf _)
theorem more_send (s : S) (n : Int) (h : Str) (v : Int) : More s (s.send n h v) 1 := ⟨by simp [S.send, S.tell], by simp [S.send, S.tell]⟩
theorem more_one (h : Sh) (a c : Int) (s : S) : More s (oneR h a c s) 2 := by
  unfold oneR
  split
  · exact ((more_send s _ _ _).trans (more_tell _ _ _)).idle _
  · exact ((more_send s _ _ _).idle _).le (by decide)
theorem more_test (h : Sh) (s : S) (a c : Int) : More s (testR h s a c) 2 := by
  unfold testR
  split
  · exact ((more_tell s _ _).trans (more_tell _ _ _)).idle _
  · exact ((more_tell s _ _).idle _).le (by decide)
theorem innerN_le {h : Sh} (ok : h.ok) : 0 ≤ innerN h ∧ innerN h ≤ 3 := by
  have h1 := ok.inner
  have h2 := ok.innermost
  unfold innerN
  split <;> (repeat' split) <;> omega
theorem more_inner {h : Sh} (ok : h.ok) (s : S) (a c : Int) : More s (innerR h s a c) 7 := by
  have := innerN_le ok
  have m := more_it (more_one h a c) (innerN h).toNat (s.tell a .non)
  exact (((more_tell s a .non).trans m).idle _).le (by omega)
structure Bkn (H0 H : Hp) (bd t l : Addr) (k : S) : Prop where
  s : Same H0 H
  b : LawBook H bd t l k
  nb : H0 bd = none
  nt : H0 t = none
  nl : H0 l = none
def sp_test (h : Sh) : Sp := fun vs H Q _ => ∃ (sd il bd t l : Addr) (s : S) (a c : Int) (H0 : Hp), vs = [.ref sd, .ref bd, .int a, .int c] ∧ ShAt H0 sd il h ∧ Bkn H0 H bd t l s ∧ s.room 2 ∧ ∀ H', Bkn H0 H' bd t l (testR h s a c) → Q .non H'
theorem LawBook.idle {H : Hp} {d t l : Addr} {b : S} (B : LawBook H d t l b) (n : Int) : LawBook (upd H d (.dK (putK [(.inr "steps", .int b.steps), (.inr "letters", .ref l), (.inr "trace", .ref t)] (.inr "steps") (.int (b.steps + n))))) d t l (b.idle n) := B.set _
theorem h_test (T : Txt K mg A) (h : Sh) : Has P w K mg base 2 "_law_test" ["_law_shape", "_law_book", "_law_at", "_law_count"] (sp_test h) := by
  have D_law_tell := h_tell (P := P) (w := w) (base := base) T
  refine T.law_test.has sc_law_test (fun vs H Q E h => ?_) (fun f cdv A' outer s' H vs Q E hr hu hh => ?_)
  · obtain ⟨sd, il, bd, t, l, s, a, c, H0, rfl, _⟩ := h
    rfl
  · obtain ⟨sd, il, bd, t, l, s, a, c, H0, rfl, SA, B, rm, q⟩ := hh
    refine ⟨_, (pss_cons (ps_expr (pe_callD D_law_tell hr (pa_cons (fv 1) (pa_cons (fv 2) (pa_cons (pe_str) (pa_cons (pe_non) pa_nil))))))
    (pss_cons (ps_if (pt_cmpR (o_eqU hu) (fv 3) (pe_ix (ix_all hu) (fv 0) (pe_str) (fun _ _ => rfl)) (nomark _))
      (pss_one (ps_expr (pe_callD D_law_tell hr (pa_cons (fv 1) (pa_cons (pe_op o_add (fv 2) (pe_int)) (pa_cons (pe_str) (pa_cons (pe_non) pa_nil)))))))
      pss_nil)
    (pss_one (ps_asg (pe_op o_add (pe_ix (ix_all hu) (fv 1) (pe_str) (fun _ _ => rfl)) (pe_ix (ix_all hu) (pe_ix (ix_all hu) (fv 0) (pe_str) (fun _ _ => rfl)) (pe_op o_add (pe_int) (pe_callTy c_intB rfl T.z_int (by boot_by_name) (pa_cons (pe_cmpR (o_ne hu) (fv 3) (pe_ix (ix_all hu) (fv 0) (pe_str) (fun _ _ => rfl)) (nomark _)) pa_nil))) (fun _ _ => rfl))) (pg_sub (fv 1) (pe_str) (st_all hu set_list)))))), ?_⟩
    refine ⟨bd, t, l, s, a, "", .non, H0, rfl, B.s, B.b, B.nb, B.nt, B.nl, rm.le (by decide), Or.inl ⟨rfl, fun H1 s1 B1 => ?_⟩⟩
    have rm1 := S.room.more (n := 1) (k := 1) rm (more_tell s a .non)
    refine ⟨_, (SA.same s1).g_stop, rfl, _, rfl, ?_⟩
    rw [vint]
    refine ite2 (fun e => ?_) (fun e => ?_)
    · have e' : c = h.stop := of_decide_eq_true e
      have er : testR h s a c = ((s.tell a .non).tell (a + 1) .non).idle h.i4 := if_pos e'
      refine ⟨bd, t, l, _, _, "", .non, H0, rfl, s1, B1, B.nb, B.nt, B.nl, rm1, Or.inl ⟨rfl, fun H2 s2 B2 => ?_⟩⟩
      refine ⟨_, B2.gs, _, (SA.same s2).g_idles, _, (SA.same s2).g_stop, rfl, _, rfl, ?_⟩
      rw [vint, e]
      refine Or.inl ⟨_, _, Or.inl (SqL.of ((SA.same s2).l)), rfl, ?_⟩
      refine ⟨_, DPut.k (k := .inr "steps") B2.hd (show 3 < sizeLine by decide), q _ ?_⟩
      rw [er]
      exact ⟨Same.out s2 B.nb _, B2.idle _, B.nb, B.nt, B.nl⟩
    · have e' : c ≠ h.stop := fun z => e (decide_eq_true z)
      have er : testR h s a c = (s.tell a .non).idle h.i5 := if_neg e'
      refine ⟨_, B1.gs, _, (SA.same s1).g_idles, _, (SA.same s1).g_stop, rfl, _, rfl, ?_⟩
      rw [vint, decide_eq_false e']
      refine Or.inl ⟨_, _, Or.inl (SqL.of ((SA.same s1).l)), rfl, ?_⟩
      refine ⟨_, DPut.k (k := .inr "steps") B1.hd (show 3 < sizeLine by decide), q _ ?_⟩
      rw [er]
      exact ⟨Same.out s1 B.nb _, B1.idle _, B.nb, B.nt, B.nl⟩
theorem Bkn.tl {H0 H : Hp} {bd t l : Addr} {k : S} (B : Bkn H0 H bd t l k) (rm : k.room 1) {n : Int} {R : Hp → Prop} (q : ∀ H', Bkn H0 H' bd t l (k.tell n .non) → R H') : Same H0 H ∧ LawBook H bd t l k ∧ H0 bd = none ∧ H0 t = none ∧ H0 l = none ∧ k.room 1 ∧
  ((("" : Str) = "" ∧ ∀ H', Same H0 H' → LawBook H' bd t l (k.tell n .non) → R H') ∨ (("" : Str) ≠ "" ∧ ∃ i, V.non = .int i ∧ ∀ H', Same H0 H' → LawBook H' bd t l (k.send n "" i) → R H')) :=
  ⟨B.s, B.b, B.nb, B.nt, B.nl, rm, Or.inl ⟨rfl, fun H1 s1 B1 => q H1 ⟨s1, B1, B.nb, B.nt, B.nl⟩⟩⟩
theorem Bkn.sd {H0 H : Hp} {bd t l : Addr} {k : S} (B : Bkn H0 H bd t l k) (rm : k.room 1) {n : Int} {hh : Str} (hn : hh ≠ "") {i : Int} {R : Hp → Prop} (q : ∀ H', Bkn H0 H' bd t l (k.send n hh i) → R H') : Same H0 H ∧ LawBook H bd t l k ∧ H0 bd = none ∧ H0 t = none ∧ H0 l = none ∧ k.room 1 ∧
  ((hh = "" ∧ ∀ H', Same H0 H' → LawBook H' bd t l (k.tell n (.int i)) → R H') ∨ (hh ≠ "" ∧ ∃ j, V.int i = .int j ∧ ∀ H', Same H0 H' → LawBook H' bd t l (k.send n hh j) → R H')) :=
  ⟨B.s, B.b, B.nb, B.nt, B.nl, rm, Or.inr ⟨hn, i, rfl, fun H1 s1 B1 => q H1 ⟨s1, B1, B.nb, B.nt, B.nl⟩⟩⟩
theorem Bkn.id {H0 H : Hp} {bd t l : Addr} {k : S} (B : Bkn H0 H bd t l k) (n : Int) : Bkn H0 (upd H bd (.dK (putK [(.inr "steps", .int k.steps), (.inr "letters", .ref l), (.inr "trace", .ref t)] (.inr "steps") (.int (k.steps + n))))) bd t l (k.idle n) := ⟨Same.out B.s B.nb _, B.b.idle _, B.nb, B.nt, B.nl⟩
def sp_inner (h : Sh) : Sp := fun vs H Q _ => ∃ (sd il bd t l : Addr) (s : S) (a c : Int) (H0 : Hp), vs = [.ref sd, .ref bd, .int a, .int c] ∧ 0 ≤ c ∧ c ≤ 30 ∧ h.ok ∧ ShAt H0 sd il h ∧ Bkn H0 H bd t l s ∧ s.room 7 ∧ ∀ H', Bkn H0 H' bd t l (innerR h s a c) → Q .non H'
theorem h_inner (T : Txt K mg A) (h : Sh) : Has P w K mg base 2 "_law_inner" ["_law_shape", "_law_book", "_law_at", "_law_count"] (sp_inner h) := by
  have D_law_tell := h_tell (P := P) (w := w) (base := base) T
  refine T.law_inner.has sc_law_inner (fun vs H Q E h => ?_) (fun f cdv A' outer s' H vs Q E hr hu hh => ?_)
  · obtain ⟨sd, il, bd, t, l, s, a, c, H0, rfl, _⟩ := h
    rfl
  · obtain ⟨sd, il, bd, t, l, s, a, c, H0, rfl, c0, c1, ok, SA, B, rm, q⟩ := hh
    refine ⟨_, (pss_cons (ps_expr (pe_callD D_law_tell hr (pa_cons (fv 1) (pa_cons (fv 2) (pa_cons (pe_str) (pa_cons (pe_non) pa_nil))))))
    (pss_cons (ps_set (i := 4) sc_law_inner.nd rfl (Or.inl rfl) (pe_callB c_min rfl T.z_min (by boot_by_name) (pa_cons (pe_ix (ix_all hu) (fv 0) (pe_str) (fun _ _ => rfl)) (pa_cons (pe_ix (ix_all hu) (fv 0) (pe_str) (fun _ _ => rfl)) pa_nil))))
    (pss_cons (ps_if (pt_cmpR (o_eqU hu) (pe_ix (ix_all hu) (fv 0) (pe_str) (fun _ _ => rfl)) (pe_int) (nomark _))
      (pss_one (ps_set (i := 4) sc_law_inner.nd rfl (Or.inl rfl) (pe_callB c_min rfl T.z_min (by boot_by_name) (pa_cons (fv 4) (pa_cons (pe_int) pa_nil)))))
      pss_nil)
    (pss_cons (ps_for PassesOwn.never rfl (pi_range1 rfl T.z_range (pa_cons (fv 4) pa_nil)) (pg_name (i := 5) sc_law_inner.nd rfl (by first | exact Or.inl rfl | exact Or.inr rfl))
      (pss_cons (ps_expr (pe_callD D_law_tell hr (pa_cons (fv 1) (pa_cons (pe_op o_add (fv 2) (pe_int)) (pa_cons (pe_str) (pa_cons (pe_op o_mulA (fv 3) (pe_int)) pa_nil))))))
      (pss_cons (ps_if (pt_cmpR (o_eqU hu) (pe_ix (ix_all hu) (fv 0) (pe_str) (fun _ _ => rfl)) (pe_int) (nomark _))
        (pss_one (ps_expr (pe_callD D_law_tell hr (pa_cons (fv 1) (pa_cons (pe_op o_add (fv 2) (pe_int)) (pa_cons (pe_str) (pa_cons (pe_non) pa_nil)))))))
        pss_nil)
      (pss_one (ps_asg (pe_op o_add (pe_ix (ix_all hu) (fv 1) (pe_str) (fun _ _ => rfl)) (pe_ix (ix_all hu) (pe_ix (ix_all hu) (fv 0) (pe_str) (fun _ _ => rfl)) (pe_int) (fun _ _ => rfl))) (pg_sub (fv 1) (pe_str) (st_all hu set_list)))))))
    (pss_one (ps_asg (pe_op o_add (pe_ix (ix_all hu) (fv 1) (pe_str) (fun _ _ => rfl)) (pe_op o_mulA (pe_ix (ix_all hu) (pe_ix (ix_all hu) (fv 0) (pe_str) (fun _ _ => rfl)) (pe_int) (fun _ _ => rfl)) (pe_op o_sub (pe_ix (ix_all hu) (fv 0) (pe_str) (fun _ _ => rfl)) (fv 4)))) (pg_sub (fv 1) (pe_str) (st_all hu set_list)))))))), ?_⟩
    refine ⟨bd, t, l, _, _, _, _, H0, rfl, B.tl (rm.le (by decide)) fun H1 B1 => ?_⟩
    have rm1 : (s.tell a .non).room 6 := S.room.more (n := 1) (k := 6) rm (more_tell s a .non)
    refine ⟨_, (SA.same B1.s).g_inner, _, (SA.same B1.s).g_innermost, _, _, rfl, ?_⟩
    dsimp only
    refine seq_named fun N KN => ?_
    have tail : N [some (.ref sd), some (.ref bd), some (.int a), some (.int c), some (.int (innerN h)), none] H1 := by
      refine KN _ _ ?_
      have nb := innerN_le ok
      refine ⟨_, rfl, by omega, by omega, ?_⟩
      refine for_range (fun i σ H2 => Bkn H0 H2 bd t l (itR (oneR h a c) i (s.tell a .non)) ∧ ∃ z, σ = [some (.ref sd), some (.ref bd), some (.int a), some (.int c), some (.int (innerN h)), z]) ⟨B1, none, rfl⟩ ?_ ?_
      · rintro i σ H2 hi ⟨B2, z, rfl⟩
        have hi3 : i < 3 := by omega
        have rm2 : (itR (oneR h a c) i (s.tell a .non)).room 2 := S.room.more (n := i * 2) (k := 2) (rm1.le (by omega)) (more_it (more_one h a c) i _)
        refine ⟨Or.inr ⟨by omega, by omega⟩, bd, t, l, _, _, _, _, H0, rfl, B2.sd (rm2.le (by decide)) (by decide) fun H3 B3 => ?_⟩
        refine ⟨_, (SA.same B3.s).g_innerlast, rfl, _, rfl, ?_⟩
        rw [vint]
        refine ite2 (fun e => ?_) (fun e => ?_)
        · refine ⟨bd, t, l, _, _, _, _, H0, rfl, B3.tl (S.room.more (n := 1) (k := 1) rm2 (more_send _ _ _ _)) fun H4 B4 => ?_⟩
          refine ⟨_, B4.b.gs, _, (SA.same B4.s).g_idles, Or.inl ⟨_, _, Or.inl (SqL.of ((SA.same B4.s).l)), rfl, ?_⟩⟩
          refine ⟨_, DPut.k (k := .inr "steps") B4.b.hd (show 3 < sizeLine by decide), ?_, _, rfl⟩
          have er : itR (oneR h a c) (i + 1) (s.tell a .non) = (((itR (oneR h a c) i (s.tell a .non)).send (a + 1) "k" (c * 100)).tell (a + 2) .non).idle h.i2 := if_pos (of_decide_eq_true e)
          rw [er]
          exact B4.id _
        · refine ⟨_, B3.b.gs, _, (SA.same B3.s).g_idles, Or.inl ⟨_, _, Or.inl (SqL.of ((SA.same B3.s).l)), rfl, ?_⟩⟩
          refine ⟨_, DPut.k (k := .inr "steps") B3.b.hd (show 3 < sizeLine by decide), ?_, _, rfl⟩
          have er : itR (oneR h a c) (i + 1) (s.tell a .non) = ((itR (oneR h a c) i (s.tell a .non)).send (a + 1) "k" (c * 100)).idle h.i2 := if_neg (fun z => e (decide_eq_true z))
          rw [er]
          exact B3.id _
      · rintro σ H2 ⟨B2, z, rfl⟩
        have o1 := ok.i3
        have o2 := ok.innermost
        refine ⟨_, B2.b.gs, _, (SA.same B2.s).g_idles, Or.inl ⟨_, _, Or.inl (SqL.of ((SA.same B2.s).l)), rfl, ?_⟩⟩
        refine ⟨_, (SA.same B2.s).g_innermost, Or.inr ⟨by omega, by omega⟩, _, DPut.k (k := .inr "steps") B2.b.hd (show 3 < sizeLine by decide), q _ (B2.id _)⟩
    refine ⟨_, (SA.same B1.s).g_innerlast, rfl, _, rfl, ?_⟩
    rw [vint]
    refine ite2 (fun e => ?_) (fun e => ?_)
    · have eN : innerN h = _ := if_pos (of_decide_eq_true e)
      rw [eN] at tail
      exact ⟨_, _, rfl, tail⟩
    · have eN : innerN h = _ := if_neg (fun z => e (decide_eq_true z))
      rw [eN] at tail
      exact tail
end
end K25

set_option Elab.async false
set_option linter.all false
set_option maxRecDepth 100000
set_option maxHeartbeats 4000000
namespace K25
open PySem L2
section
variable {P : Program} {w : World} {K : PySem.W.Frag} {mg : Str → Option Value} {base : Heap} {A : Adr}
def hereR (h : Sh) (a : Int) : Int := if h.ahead = 1 then a + 7 else a + 3
def thereR (h : Sh) (a : Int) : Int := if h.ahead = 1 then a + 3 else a + 6 + h.innerlast
def midR (h : Sh) (a c : Int) (s : S) : S := if h.ahead = 1 then innerR h (testR h s (thereR h a) c) (hereR h a) c else testR h (innerR h s (hereR h a) c) (thereR h a) c
def roundR (h : Sh) (a : Int) (c : Int) (s : S) : S := ((midR h a c ((s.tell (a + 1) .non).tell (a + 2) .non)).send (a + 10 + h.innerlast) "h" c).idle h.i0
def minR (h : Sh) : Int := if h.most < h.count then h.most else h.count
def followN (h : Sh) : Int := if 0 < h.stop ∧ h.stop < minR h then h.stop else minR h
def itC (f : Int → S → S) : Nat → S → S
  | 0, s => s
  | n + 1, s => f (1 + (n : Int)) (itC f n s)
def followR (h : Sh) (s : S) (a : Int) : S := ((itC (roundR h (a + 2)) (followN h).toNat (((s.tell a .non).tell (a + 1) .non).tell (a + 2) .non)).idle (h.i1 * (h.most - followN h))).send (a + 2 + 10 + h.innerlast + 2) "h" (followN h + 1000)
theorem more_itC {f : Int → S → S} {k : Nat} (hf : ∀ c s, More s (f c s) k) : ∀ (n : Nat) (s : S), More s (itC f n s) (n * k)
  | 0, s => by rw [Nat.zero_mul]; exact More.refl s
  | n + 1, s => by
    rw [Nat.succ_mul]
    exact (more_itC hf n s).trans (hf _ _)
theorem more_mid {h : Sh} (ok : h.ok) (a c : Int) (s : S) : More s (midR h a c s) 9 := by
  unfold midR
  split
  · exact (more_test h s _ c).trans (more_inner ok _ _ c)
  · exact (more_inner ok s _ c).trans (more_test h _ _ c)
theorem more_round {h : Sh} (ok : h.ok) (a c : Int) (s : S) : More s (roundR h a c s) 12 :=
  ((((more_tell s (a + 1) .non).trans (more_tell _ (a + 2) .non)).trans (more_mid ok a c _)).trans (more_send _ _ _ _)).idle _
theorem followN_le {h : Sh} (ok : h.ok) : 0 ≤ followN h ∧ followN h ≤ 30 ∧ followN h ≤ h.most := by
  have h1 := ok.count.1
  have h2 := ok.most
  have h3 := ok.stop
  unfold followN minR
  split <;> (repeat' split) <;> omega
def sp_spots (h : Sh) : Sp := fun vs H Q _ => ∃ (sd il : Addr) (a : Int), vs = [.ref sd, .int a] ∧ ShAt H sd il h ∧ ∀ p H', Same H H' → H' p = some (.tup [.int (hereR h a), .int (thereR h a)]) → Q (.ref p) H'
theorem h_spots (T : Txt K mg A) (h : Sh) : Has P w K mg base 1 "_law_spots" ["_law_shape", "_law_at"] (sp_spots h) := by
  refine T.law_spots.has sc_law_spots (fun vs H Q E h => ?_) (fun f cdv A' outer s' H vs Q E hr hu hh => ?_)
  · obtain ⟨sd, il, a, rfl, _⟩ := h
    rfl
  · obtain ⟨sd, il, a, rfl, SA, q⟩ := hh
    refine ⟨_, (pss_cons (ps_if (pt_cmpR (o_eqU hu) (pe_ix (ix_all hu) (fv 0) (pe_str) (fun _ _ => rfl)) (pe_int) (nomark _))
      (pss_one (ps_ret (pe_tup (pa_cons (pe_op o_add (fv 1) (pe_int)) (pa_cons (pe_op o_add (fv 1) (pe_int)) pa_nil)))))
      pss_nil)
    (pss_one (ps_ret (pe_tup (pa_cons (pe_op o_add (fv 1) (pe_int)) (pa_cons (pe_op o_add (pe_op o_add (fv 1) (pe_int)) (pe_ix (ix_all hu) (fv 0) (pe_str) (fun _ _ => rfl))) pa_nil)))))), ?_⟩
    refine ⟨_, SA.g_ahead, rfl, _, rfl, ?_⟩
    rw [vint]
    refine ite2 (fun e => ?_) (fun e => ?_)
    · have e' := of_decide_eq_true e
      unfold hereR thereR at q
      rw [if_pos e', if_pos e'] at q
      exact ⟨(show 2 ≤ sizeLine by decide), fun p hp => q p _ (Same.upd hp _) upd_same⟩
    · have e' : ¬ h.ahead = 1 := fun z => e (decide_eq_true z)
      unfold hereR thereR at q
      rw [if_neg e', if_neg e'] at q
      exact ⟨_, SA.g_innerlast, (show 2 ≤ sizeLine by decide), fun p hp => q p _ (Same.upd hp _) upd_same⟩
theorem Bkn.same {H0 H H' : Hp} {bd t l : Addr} {k : S} (B : Bkn H0 H bd t l k) (s : Same H H') : Bkn H0 H' bd t l k := ⟨B.s.trans s, B.b.same s, B.nb, B.nt, B.nl⟩
def sp_follow : Sp := fun vs H Q _ => ∃ (h : Sh) (sd il bd t l : Addr) (s : S) (a : Int) (H0 : Hp), vs = [.ref sd, .ref bd, .int a] ∧ h.ok ∧ ShAt H0 sd il h ∧ Bkn H0 H bd t l s ∧ s.room 364 ∧ ∀ H', Bkn H0 H' bd t l (followR h s a) → Q .non H'
theorem h_follow (T : Txt K mg A) : Has P w K mg base 3 "_law_follow" ["_law_shape", "_law_book", "_law_at"] sp_follow := by
  have D_law_tell := h_tell (P := P) (w := w) (base := base) T
  refine T.law_follow.has sc_law_follow (fun vs H Q E h => ?_) (fun f cdv A' outer s' H vs Q E hr hu hh => ?_)
  · obtain ⟨h, sd, il, bd, t, l, s, a, H0, rfl, _⟩ := h
    rfl
  · obtain ⟨h, sd, il, bd, t, l, s, a, H0, rfl, ok, SA, B, rm, q⟩ := hh
    have D_law_test := h_test (P := P) (w := w) (base := base) T h
    have D_law_inner := h_inner (P := P) (w := w) (base := base) T h
    have D_law_spots := h_spots (P := P) (w := w) (base := base) T h
    refine ⟨_, (pss_cons (ps_set (i := 3) sc_law_follow.nd rfl (Or.inl rfl) (pe_ix (ix_all hu) (fv 0) (pe_str) (fun _ _ => rfl)))
    (pss_cons (ps_expr (pe_callD D_law_tell hr (pa_cons (fv 1) (pa_cons (fv 2) (pa_cons (pe_str) (pa_cons (pe_non) pa_nil))))))
    (pss_cons (ps_expr (pe_callD D_law_tell hr (pa_cons (fv 1) (pa_cons (pe_op o_add (fv 2) (pe_int)) (pa_cons (pe_str) (pa_cons (pe_non) pa_nil))))))
    (pss_cons (ps_set (i := 2) sc_law_follow.nd rfl (Or.inl rfl) (pe_op o_add (fv 2) (pe_int)))
    (pss_cons (ps_expr (pe_callD D_law_tell hr (pa_cons (fv 1) (pa_cons (fv 2) (pa_cons (pe_str) (pa_cons (pe_non) pa_nil))))))
    (pss_cons (ps_set (i := 4) sc_law_follow.nd rfl (Or.inl rfl) (pe_callB c_min rfl T.z_min (by boot_by_name) (pa_cons (pe_ix (ix_all hu) (fv 0) (pe_str) (fun _ _ => rfl)) (pa_cons (pe_ix (ix_all hu) (fv 0) (pe_str) (fun _ _ => rfl)) pa_nil))))
    (pss_cons (ps_if (pt_chain (o_lt) (o_lt) (pe_int) (pe_ix (ix_all hu) (fv 0) (pe_str) (fun _ _ => rfl)) (fv 4))
      (pss_one (ps_set (i := 4) sc_law_follow.nd rfl (Or.inl rfl) (pe_ix (ix_all hu) (fv 0) (pe_str) (fun _ _ => rfl))))
      pss_nil)
    (pss_cons (ps_asg (pe_callD D_law_spots hr (pa_cons (fv 0) (pa_cons (fv 2) pa_nil))) (pg_tup rfl (pgs_cons (pg_name (i := 5) sc_law_follow.nd rfl (by first | exact Or.inl rfl | exact Or.inr rfl)) (pgs_cons (pg_name (i := 6) sc_law_follow.nd rfl (by first | exact Or.inl rfl | exact Or.inr rfl)) (pgs_nil)))))
    (pss_cons (ps_set (i := 7) sc_law_follow.nd rfl (Or.inl rfl) (pe_op o_add (pe_op o_add (fv 2) (pe_int)) (pe_ix (ix_all hu) (fv 0) (pe_str) (fun _ _ => rfl))))
    (pss_cons (ps_for PassesOwn.never rfl (pi_range2 rfl T.z_range (pa_cons (pe_int) (pa_cons (pe_op o_add (fv 4) (pe_int)) pa_nil))) (pg_name (i := 8) sc_law_follow.nd rfl (by first | exact Or.inl rfl | exact Or.inr rfl))
      (pss_cons (ps_expr (pe_callD D_law_tell hr (pa_cons (fv 1) (pa_cons (pe_op o_add (fv 2) (pe_int)) (pa_cons (pe_str) (pa_cons (pe_non) pa_nil))))))
      (pss_cons (ps_expr (pe_callD D_law_tell hr (pa_cons (fv 1) (pa_cons (pe_op o_add (fv 2) (pe_int)) (pa_cons (pe_str) (pa_cons (pe_non) pa_nil))))))
      (pss_cons (ps_if (pt_cmpR (o_eqU hu) (pe_ix (ix_all hu) (fv 0) (pe_str) (fun _ _ => rfl)) (pe_int) (nomark _))
        (pss_one (ps_expr (pe_callD D_law_test hr (pa_cons (fv 0) (pa_cons (fv 1) (pa_cons (fv 6) (pa_cons (fv 8) pa_nil)))))))
        pss_nil)
      (pss_cons (ps_expr (pe_callD D_law_inner hr (pa_cons (fv 0) (pa_cons (fv 1) (pa_cons (fv 5) (pa_cons (fv 8) pa_nil))))))
      (pss_cons (ps_if (pt_cmpR (o_eqU hu) (pe_ix (ix_all hu) (fv 0) (pe_str) (fun _ _ => rfl)) (pe_int) (nomark _))
        (pss_one (ps_expr (pe_callD D_law_test hr (pa_cons (fv 0) (pa_cons (fv 1) (pa_cons (fv 6) (pa_cons (fv 8) pa_nil)))))))
        pss_nil)
      (pss_cons (ps_expr (pe_callD D_law_tell hr (pa_cons (fv 1) (pa_cons (fv 7) (pa_cons (pe_str) (pa_cons (fv 8) pa_nil))))))
      (pss_one (ps_asg (pe_op o_add (pe_ix (ix_all hu) (fv 1) (pe_str) (fun _ _ => rfl)) (pe_ix (ix_all hu) (fv 3) (pe_int) (fun _ _ => rfl))) (pg_sub (fv 1) (pe_str) (st_all hu set_list)))))))))))
    (pss_cons (ps_asg (pe_op o_add (pe_ix (ix_all hu) (fv 1) (pe_str) (fun _ _ => rfl)) (pe_op o_mulA (pe_ix (ix_all hu) (fv 3) (pe_int) (fun _ _ => rfl)) (pe_op o_sub (pe_ix (ix_all hu) (fv 0) (pe_str) (fun _ _ => rfl)) (fv 4)))) (pg_sub (fv 1) (pe_str) (st_all hu set_list)))
    (pss_one (ps_expr (pe_callD D_law_tell hr (pa_cons (fv 1) (pa_cons (pe_op o_add (fv 7) (pe_int)) (pa_cons (pe_str) (pa_cons (pe_op o_add (fv 4) (pe_int)) pa_nil)))))))))))))))))), ?_⟩
    refine ⟨_, (SA.same B.s).g_idles, ?_⟩
    refine ⟨bd, t, l, _, _, _, _, H0, rfl, B.tl (rm.le (by decide)) fun H1 B1 => ?_⟩
    have rm1 : (s.tell a .non).room 363 := S.room.more (n := 1) (k := 363) rm (more_tell s a .non)
    refine ⟨bd, t, l, _, _, _, _, H0, rfl, B1.tl (rm1.le (by decide)) fun H2 B2 => ?_⟩
    have rm2 : ((s.tell a .non).tell (a + 1) .non).room 362 := S.room.more (n := 1) (k := 362) rm1 (more_tell _ _ .non)
    refine ⟨bd, t, l, _, _, _, _, H0, rfl, B2.tl (rm2.le (by decide)) fun H3 B3 => ?_⟩
    have rm3 : (((s.tell a .non).tell (a + 1) .non).tell (a + 2) .non).room 361 := S.room.more (n := 1) (k := 361) rm2 (more_tell _ _ .non)
    refine ⟨_, (SA.same B3.s).g_count, _, (SA.same B3.s).g_most, _, _, rfl, ?_⟩
    dsimp only
    refine seq_named fun N KN => ?_
    have nb := followN_le ok
    have tail : N [some (.ref sd), some (.ref bd), some (.int (a + 2)), some (.ref il), some (.int (followN h)), none, none, none, none] H3 := by
      refine KN _ _ ?_
      refine ⟨sd, il, a + 2, rfl, SA.same B3.s, fun p H4 s4 hp4 => ?_⟩
      refine ⟨p, _, rfl, SqT.of hp4, rfl, _, _, rfl, _, _, rfl, rfl, ?_⟩
      have B4 := B3.same s4
      refine ⟨_, (SA.same B4.s).g_innerlast, ?_⟩
      refine ⟨_, _, rfl, ⟨by decide, by decide, by omega, by omega⟩, ?_⟩
      have eN : ((followN h + 1) - 1).toNat = (followN h).toNat := by omega
      rw [eN]
      refine for_range (lo := 1) (fun i σ H5 => Bkn H0 H5 bd t l (itC (roundR h (a + 2)) i (((s.tell a .non).tell (a + 1) .non).tell (a + 2) .non)) ∧ ∃ z, σ = [some (.ref sd), some (.ref bd), some (.int (a + 2)), some (.ref il), some (.int (followN h)), some (.int (hereR h (a + 2))), some (.int (thereR h (a + 2))), some (.int (a + 2 + 10 + h.innerlast)), z]) ⟨B4, none, rfl⟩ ?_ ?_
      · rintro i σ H5 hi ⟨B5, z, rfl⟩
        have hi30 : i < 30 := by omega
        have rm5 : (itC (roundR h (a + 2)) i (((s.tell a .non).tell (a + 1) .non).tell (a + 2) .non)).room 12 := S.room.more (n := i * 12) (k := 12) (rm3.le (by omega)) (more_itC (more_round ok (a + 2)) i _)
        have eS : itC (roundR h (a + 2)) (i + 1) (((s.tell a .non).tell (a + 1) .non).tell (a + 2) .non) = roundR h (a + 2) (1 + (i : Int)) (itC (roundR h (a + 2)) i (((s.tell a .non).tell (a + 1) .non).tell (a + 2) .non)) := rfl
        rw [eS]
        generalize itC (roundR h (a + 2)) i (((s.tell a .non).tell (a + 1) .non).tell (a + 2) .non) = k at B5 rm5 ⊢
        refine ⟨bd, t, l, _, _, _, _, H0, rfl, B5.tl (rm5.le (by decide)) fun H6 B6 => ?_⟩
        have rm6 := S.room.more (n := 1) (k := 11) rm5 (more_tell k (a + 2 + 1) .non)
        refine ⟨bd, t, l, _, _, _, _, H0, rfl, B6.tl (rm6.le (by decide)) fun H7 B7 => ?_⟩
        have rm7 := S.room.more (n := 1) (k := 10) rm6 (more_tell _ (a + 2 + 2) .non)
        unfold roundR
        generalize ((k.tell (a + 2 + 1) .non).tell (a + 2 + 2) .non) = k2 at B7 rm7 ⊢
        refine ⟨_, (SA.same B7.s).g_ahead, rfl, _, rfl, ?_⟩
        rw [vint]
        refine ite2 (fun e => ?_) (fun e => ?_)
        · have e' := of_decide_eq_true e
          have em : midR h (a + 2) (1 + (i : Int)) k2 = _ := if_pos e'
          rw [em]
          refine ⟨sd, il, bd, t, l, k2, _, _, H0, rfl, SA, B7, rm7.le (by decide), fun H8 B8 => ?_⟩
          have rm8 := S.room.more (n := 2) (k := 8) rm7 (more_test h k2 (thereR h (a + 2)) (1 + (i : Int)))
          refine ⟨sd, il, bd, t, l, _, _, _, H0, rfl, by omega, by omega, ok, SA, B8, rm8.le (by decide), fun H9 B9 => ?_⟩
          have rm9 := S.room.more (n := 7) (k := 1) rm8 (more_inner ok _ (hereR h (a + 2)) (1 + (i : Int)))
          refine ⟨_, (SA.same B9.s).g_ahead, rfl, _, rfl, ?_⟩
          rw [vint]
          refine ite2 (fun c => absurd (of_decide_eq_true c) (by omega)) (fun _ => ?_)
          refine ⟨bd, t, l, _, _, _, _, H0, rfl, B9.sd rm9 (by decide) fun H10 B10 => ?_⟩
          refine ⟨_, B10.b.gs, Or.inl ⟨_, _, Or.inl (SqL.of ((SA.same B10.s).l)), rfl, ?_⟩⟩
          exact ⟨_, DPut.k (k := .inr "steps") B10.b.hd (show 3 < sizeLine by decide), B10.id _, _, rfl⟩
        · have e' : ¬ h.ahead = 1 := fun z => e (decide_eq_true z)
          have e0 : h.ahead = 0 := by have := ok.ahead; omega
          have em : midR h (a + 2) (1 + (i : Int)) k2 = _ := if_neg e'
          rw [em]
          refine ⟨sd, il, bd, t, l, _, _, _, H0, rfl, by omega, by omega, ok, SA, B7, rm7.le (by decide), fun H9 B9 => ?_⟩
          have rm9 := S.room.more (n := 7) (k := 3) rm7 (more_inner ok k2 (hereR h (a + 2)) (1 + (i : Int)))
          refine ⟨_, (SA.same B9.s).g_ahead, rfl, _, rfl, ?_⟩
          rw [vint]
          refine ite2 (fun _ => ?_) (fun c => absurd (decide_eq_true e0) c)
          refine ⟨sd, il, bd, t, l, _, _, _, H0, rfl, SA, B9, rm9.le (by decide), fun H8 B8 => ?_⟩
          have rm8 := S.room.more (n := 2) (k := 1) rm9 (more_test h _ (thereR h (a + 2)) (1 + (i : Int)))
          refine ⟨bd, t, l, _, _, _, _, H0, rfl, B8.sd rm8 (by decide) fun H10 B10 => ?_⟩
          refine ⟨_, B10.b.gs, Or.inl ⟨_, _, Or.inl (SqL.of ((SA.same B10.s).l)), rfl, ?_⟩⟩
          exact ⟨_, DPut.k (k := .inr "steps") B10.b.hd (show 3 < sizeLine by decide), B10.id _, _, rfl⟩
      · rintro σ H5 ⟨B5, z, rfl⟩
        have o1 := ok.i1
        have o2 := ok.most
        have rm5 := S.room.more (n := (followN h).toNat * 12) (k := 1) (rm3.le (by omega)) (more_itC (more_round ok (a + 2)) (followN h).toNat (((s.tell a .non).tell (a + 1) .non).tell (a + 2) .non))
        refine ⟨_, B5.b.gs, Or.inl ⟨_, _, Or.inl (SqL.of ((SA.same B5.s).l)), rfl, ?_⟩⟩
        refine ⟨_, (SA.same B5.s).g_most, Or.inr ⟨by omega, by omega⟩, _, DPut.k (k := .inr "steps") B5.b.hd (show 3 < sizeLine by decide), ?_⟩
        exact ⟨bd, t, l, _, _, _, _, H0, rfl, (B5.id _).sd rm5 (by decide) fun H6 B6 => q H6 B6⟩
    refine ⟨_, (SA.same B3.s).g_stop, _, rfl, ite2 (fun c1 => ⟨_, rfl, ite2 (fun c2 => ?_) (fun c2 => ?_)⟩) (fun c1 => ⟨_, rfl, iteF ?_⟩)⟩
    · have eN : followN h = _ := if_pos ⟨of_decide_eq_true c1, of_decide_eq_true c2⟩
      rw [eN] at tail
      exact ⟨_, (SA.same B3.s).g_stop, tail⟩
    · have eN : followN h = _ := if_neg (fun z => c2 (decide_eq_true z.2))
      rw [eN] at tail
      exact tail
    · have eN : followN h = _ := if_neg (fun z => c1 (decide_eq_true z.1))
      rw [eN] at tail
      exact tail
end
end K25

set_option Elab.async false
set_option linter.all false
set_option maxRecDepth 100000
set_option maxHeartbeats 4000000
namespace K25
open PySem L2
section
variable {P : Program} {w : World} {K : PySem.W.Frag} {mg : Str → Option Value} {base : Heap} {A : Adr}
def loopW (h : Sh) (a : Int) : Rw := .loop (hereR h a) (.i h.inner) h.innermost (.snd (hereR h a + 1) "k" (.op "*" 100) :: (if h.innerlast = 1 then [.last (hereR h a + 2)] else [])) h.i2 h.i3
def testW (h : Sh) (a : Int) : Rw := .ite (thereR h a) (.op "=" h.stop) [.last (thereR h a + 1)] [] h.i4 h.i5
def midW (h : Sh) (a : Int) : List Rw := if h.ahead = 1 then [testW h a, loopW h a] else [loopW h a, testW h a]
def bodyW (h : Sh) (a : Int) : Rw := .loop a h.th h.most (([.set (a + 1) true (.op "+" 1), .set (a + 2) false (.n h.set)] ++ midW h a) ++ [.snd (a + 10 + h.innerlast) "h" .c]) h.i0 h.i1
theorem RowAt.set {dk : List (Key × V)} {F : List Rw} {H : Hp} {v : V} {n : Int} {x : Bool} {val : Val} {a dx p : Addr} (o : val.ok) (h : SetAt A H v n x val a dx p) (d : Nat) : RowAt A dk F H d v (.set n x val) := by cases d <;> exact ⟨o, a, dx, p, h⟩
theorem RowAt.snd {dk : List (Key × V)} {F : List Rw} {H : Hp} {v : V} {n : Int} {x : Str} {val : Val} {a dx p : Addr} (o : val.ok) (h : SndAt A H v n x val a dx p) (d : Nat) : RowAt A dk F H d v (.snd n x val) := by cases d <;> exact ⟨o, a, dx, p, h⟩
theorem RowAt.last {dk : List (Key × V)} {F : List Rw} {H : Hp} {v : V} {n : Int} {a dx : Addr} (h : LastAt A H v n a dx) (d : Nat) : RowAt A dk F H d v (.last n) := by cases d <;> exact ⟨a, dx, h⟩
abbrev Any (A : Adr) (H : Hp) (e : Nat) (v : V) (r : Rw) : Prop := ∀ (dk : List (Key × V)) (F : List Rw) (d : Nat), RowAt A dk F H (d + e) v r
theorem Any.same {H H' : Hp} {e : Nat} {v : V} {r : Rw} (h : Any A H e v r) (s : Same H H') : Any A H' e v r := fun dk F d => (h dk F d).same s
def sp_body (A : Adr) (h : Sh) : Sp := fun vs H Q _ => ∃ (sd il : Addr) (a : Int), vs = [.ref sd, .int a] ∧ h.ok ∧ ShAt H sd il h ∧ ∀ p v H', Same H H' → H' p = some (.tup [v, .int (a + 10 + h.innerlast + 2)]) → Any A H' 2 v (bodyW h a) → Q (.ref p) H'
theorem h_body (T : Txt K mg A) (h : Sh) : Has P w K mg base 5 "_law_body" ["_law_shape", "_law_at"] (sp_body A h) := by
  have D_law_spots := h_spots (P := P) (w := w) (base := base) T h
  have D_SendRow_init := h_SendRow_init (P := P) (w := w) (base := base) T
  have D_SetRow_init := h_SetRow_init (P := P) (w := w) (base := base) T
  have D_LastRow_init := h_LastRow_init (P := P) (w := w) (base := base) T
  have D_LoopRow_init := h_LoopRow_init (P := P) (w := w) (base := base) T
  have D_IfRow_init := h_IfRow_init (P := P) (w := w) (base := base) T
  refine T.law_body.has (k := 4) sc_law_body (fun vs H Q E h => ?_) (fun f cdv A' outer s' H vs Q E hr hu hh => ?_)
  · obtain ⟨sd, il, a, rfl, _⟩ := h
    rfl
  · obtain ⟨sd, il, a, rfl, ok, SA, q⟩ := hh
    refine ⟨_, (pss_cons (ps_set (i := 2) sc_law_body.nd rfl (Or.inl rfl) (pe_ix (ix_all hu) (fv 0) (pe_str) (fun _ _ => rfl)))
    (pss_cons (ps_asg (pe_callD D_law_spots hr (pa_cons (fv 0) (pa_cons (fv 1) pa_nil))) (pg_tup rfl (pgs_cons (pg_name (i := 3) sc_law_body.nd rfl (by first | exact Or.inl rfl | exact Or.inr rfl)) (pgs_cons (pg_name (i := 4) sc_law_body.nd rfl (by first | exact Or.inl rfl | exact Or.inr rfl)) (pgs_nil)))))
    (pss_cons (ps_set (i := 5) sc_law_body.nd rfl (Or.inl rfl) (pe_lst (pa_cons (pe_makeD T.o_SendRow D_SendRow_init hr (pa_cons (pe_op o_add (fv 3) (pe_int)) (pa_cons (pe_str) (pa_cons (pe_tup (pa_cons (pe_str) (pa_cons (pe_str) (pa_cons (pe_int) pa_nil)))) pa_nil)))) pa_nil)))
    (pss_cons (ps_if (pt_cmpR (o_eqU hu) (pe_ix (ix_all hu) (fv 0) (pe_str) (fun _ _ => rfl)) (pe_int) (nomark _))
      (pss_one (ps_expr (m_append (fv 5) (pa_cons (pe_makeD T.o_LastRow D_LastRow_init hr (pa_cons (pe_op o_add (fv 3) (pe_int)) pa_nil)) pa_nil))))
      pss_nil)
    (pss_cons (ps_set (i := 6) sc_law_body.nd rfl (Or.inl rfl) (pe_makeD T.o_LoopRow D_LoopRow_init hr (pa_cons (fv 3) (pa_cons (pe_ix (ix_all hu) (fv 0) (pe_str) (fun _ _ => rfl)) (pa_cons (pe_ix (ix_all hu) (fv 0) (pe_str) (fun _ _ => rfl)) (pa_cons (fv 5) (pa_cons (pe_ix (ix_all hu) (fv 2) (pe_int) (fun _ _ => rfl)) (pa_cons (pe_ix (ix_all hu) (fv 2) (pe_int) (fun _ _ => rfl)) pa_nil))))))))
    (pss_cons (ps_set (i := 7) sc_law_body.nd rfl (Or.inl rfl) (pe_makeD T.o_IfRow D_IfRow_init hr (pa_cons (fv 4) (pa_cons (pe_tup (pa_cons (pe_str) (pa_cons (pe_str) (pa_cons (pe_ix (ix_all hu) (fv 0) (pe_str) (fun _ _ => rfl)) pa_nil)))) (pa_cons (pe_lst (pa_cons (pe_makeD T.o_LastRow D_LastRow_init hr (pa_cons (pe_op o_add (fv 4) (pe_int)) pa_nil)) pa_nil)) (pa_cons (pe_lst (pa_nil)) (pa_cons (pe_ix (ix_all hu) (fv 2) (pe_int) (fun _ _ => rfl)) (pa_cons (pe_ix (ix_all hu) (fv 2) (pe_int) (fun _ _ => rfl)) pa_nil))))))))
    (pss_cons (ps_set (i := 8) sc_law_body.nd rfl (Or.inl rfl) (pe_lst (pa_cons (pe_makeD T.o_SetRow D_SetRow_init hr (pa_cons (pe_op o_add (fv 1) (pe_int)) (pa_cons (pe_str) (pa_cons (pe_tup (pa_cons (pe_str) (pa_cons (pe_str) (pa_cons (pe_int) pa_nil)))) pa_nil)))) (pa_cons (pe_makeD T.o_SetRow D_SetRow_init hr (pa_cons (pe_op o_add (fv 1) (pe_int)) (pa_cons (pe_str) (pa_cons (pe_tup (pa_cons (pe_ix (ix_all hu) (fv 0) (pe_str) (fun _ _ => rfl)) pa_nil)) pa_nil)))) pa_nil))))
    (pss_cons (ps_set (i := 8) sc_law_body.nd rfl (Or.inl rfl) (pe_op o_add (fv 8) (pe_ix (ix_all hu) (pe_lst (pa_cons (pe_lst (pa_cons (fv 6) (pa_cons (fv 7) pa_nil))) (pa_cons (pe_lst (pa_cons (fv 7) (pa_cons (fv 6) pa_nil))) pa_nil))) (pe_ix (ix_all hu) (fv 0) (pe_str) (fun _ _ => rfl)) (fun _ _ => rfl))))
    (pss_cons (ps_set (i := 9) sc_law_body.nd rfl (Or.inl rfl) (pe_op o_add (pe_op o_add (fv 1) (pe_int)) (pe_ix (ix_all hu) (fv 0) (pe_str) (fun _ _ => rfl))))
    (pss_cons (ps_expr (m_append (fv 8) (pa_cons (pe_makeD T.o_SendRow D_SendRow_init hr (pa_cons (fv 9) (pa_cons (pe_str) (pa_cons (pe_tup (pa_cons (pe_str) pa_nil)) pa_nil)))) pa_nil)))
    (pss_one (ps_ret (pe_tup (pa_cons (pe_makeD T.o_LoopRow D_LoopRow_init hr (pa_cons (fv 1) (pa_cons (pe_ix (ix_all hu) (fv 0) (pe_str) (fun _ _ => rfl)) (pa_cons (pe_ix (ix_all hu) (fv 0) (pe_str) (fun _ _ => rfl)) (pa_cons (fv 8) (pa_cons (pe_ix (ix_all hu) (fv 2) (pe_int) (fun _ _ => rfl)) (pa_cons (pe_ix (ix_all hu) (fv 2) (pe_int) (fun _ _ => rfl)) pa_nil))))))) (pa_cons (pe_op o_add (fv 9) (pe_int)) pa_nil))))))))))))))), ?_⟩
    refine ⟨_, SA.g_idles, sd, il, a, rfl, SA, fun p1 H1 s1 hp1 => ?_⟩
    refine ⟨p1, _, rfl, SqT.of hp1, rfl, _, _, rfl, _, _, rfl, rfl, ?_⟩
    refine ⟨(show 3 ≤ sizeLine by decide), fun p2 hp2 => ?_⟩
    have s2 : Same H1 (upd H1 p2 (HO.tup [V.str "c", .str "*", .int 100])) := Same.upd hp2 _
    have e2 : (upd H1 p2 (HO.tup [V.str "c", .str "*", .int 100])) p2 = some (.tup (valV (.op "*" 100))) := upd_same
    generalize upd H1 p2 (HO.tup [V.str "c", .str "*", .int 100]) = H2 at s2 e2 ⊢
    refine fun r3 dx3 hr3 hd_ hne_ => mk_SendRow hr3 hd_ fun H3 s3 hx3 => ⟨rfl, ?_⟩
    refine ⟨(show 1 ≤ sizeLine by decide), fun R4 hR4 => ?_⟩
    have s4 : Same H3 (upd H3 R4 (HO.lst [V.ref r3])) := Same.upd hR4 _
    have e4 : (upd H3 R4 (HO.lst [V.ref r3])) R4 = some (.lst [V.ref r3]) := upd_same
    generalize upd H3 R4 (HO.lst [V.ref r3]) = H4 at s4 e4 ⊢
    have s14 : Same H H4 := ((s1.trans s2).trans s3).trans s4
    have sn4 : SndAt A H4 (.ref r3) (hereR h a + 1) "k" (.op "*" 100) r3 dx3 p2 := ⟨rfl, s4 _ _ hx3, s4 _ _ (s3 _ _ e2)⟩
    dsimp only
    refine seq_named fun N KN => ?_
    have tail : ∀ (H5 : Hp) (xs : List V), Same H H5 → H5 R4 = some (.lst xs) → (∀ dk F d, PySem.Paired (RowAt A dk F H5 d) xs (.snd (hereR h a + 1) "k" (.op "*" 100) :: (if h.innerlast = 1 then [.last (hereR h a + 2)] else []))) →
        N [some (.ref sd), some (.int a), some (.ref il), some (.int (hereR h a)), some (.int (thereR h a)), some (.ref R4), none, none, none, none] H5 := by
      intro H5 xs s5 e5 ih
      refine KN _ _ ?_
      refine ⟨_, (SA.same s5).g_inner, _, (SA.same s5).g_innermost, Or.inl ⟨_, _, Or.inl (SqL.of (SA.same s5).l), rfl, Or.inl ⟨_, _, Or.inl (SqL.of (SA.same s5).l), rfl, ?_⟩⟩⟩
      refine fun r6 dx6 hr6 hd_ hne_ => mk_LoopRow (SqL.of e5) hr6 hd_ fun n6 H6 hn6 s6 hb6 hx6 => ⟨rfl, ?_⟩
      have t6 : Same H H6 := s5.trans s6
      have L6 : Any A H6 1 (.ref r6) (loopW h a) := fun dk F d => ⟨r6, dx6, n6, xs, rfl, hx6, hb6, Paired.mapP (ih dk F d) fun _ _ => RowAt.same s6, ⟨by have := ok.innermost; omega, by have := ok.innermost; omega⟩, ⟨by have := ok.i3; omega, by have := ok.i3; omega⟩⟩
      refine ⟨_, (SA.same t6).g_stop, (show 3 ≤ sizeLine by decide), fun p7 hp7 => ?_⟩
      have s7 : Same H6 (upd H6 p7 (HO.tup [V.str "c", .str "=", .int h.stop])) := Same.upd hp7 _
      have e7 : (upd H6 p7 (HO.tup [V.str "c", .str "=", .int h.stop])) p7 = some (.tup (valV (.op "=" h.stop))) := upd_same
      generalize upd H6 p7 (HO.tup [V.str "c", .str "=", .int h.stop]) = H7 at s7 e7 ⊢
      refine fun r8 dx8 hr8 hd_ hne_ => mk_LastRow hr8 hd_ fun H8 s8 hx8 => ⟨rfl, ?_⟩
      refine ⟨(show 1 ≤ sizeLine by decide), fun l9 hl9 => ?_⟩
      refine ⟨Nat.zero_le _, fun l10 hl10 => ?_⟩
      have s10 : Same H8 (upd (upd H8 l9 (HO.lst [V.ref r8])) l10 (HO.lst [])) := (Same.upd hl9 _).trans (Same.upd hl10 _)
      have n10 : l9 ≠ l10 := fun z => by rw [← z, upd_same] at hl10; cases hl10
      have e9 : (upd (upd H8 l9 (HO.lst [V.ref r8])) l10 (HO.lst [])) l9 = some (.lst [V.ref r8]) := by rw [upd_ne n10]; exact upd_same
      have e10 : (upd (upd H8 l9 (HO.lst [V.ref r8])) l10 (HO.lst [])) l10 = some (.lst []) := upd_same
      generalize upd (upd H8 l9 (HO.lst [V.ref r8])) l10 (HO.lst []) = H10 at s10 e9 e10 ⊢
      have t610 : Same H6 H10 := (s7.trans s8).trans s10
      have t10 : Same H H10 := t6.trans t610
      refine Or.inl ⟨_, _, Or.inl (SqL.of (SA.same t10).l), rfl, Or.inl ⟨_, _, Or.inl (SqL.of (SA.same t10).l), rfl, ?_⟩⟩
      refine fun r11 dx11 hr11 hd_ hne_ => mk_IfRow (SqL.of e9) (SqL.of e10) hr11 hd_ fun nf no H11 hnf hno s11 hfl hol hx11 => ⟨rfl, ?_⟩
      have I11 : Any A H11 1 (.ref r11) (testW h a) := fun dk F d => ⟨⟨⟨ok.stop.1, by have := ok.stop.2; omega⟩, by decide⟩, r11, dx11, p7, nf, no, [.ref r8], [], rfl, hx11, s11 _ _ (s10 _ _ (s8 _ _ e7)), hfl, .cons (RowAt.last ⟨rfl, s11 _ _ (s10 _ _ hx8)⟩ d) .nil, hol, .nil⟩
      have L11 := L6.same (t610.trans s11)
      have t11 := t10.trans s11
      refine ⟨(show 3 ≤ sizeLine by decide), fun p12 hp12 => ?_⟩
      have s12 : Same H11 (upd H11 p12 (HO.tup [V.str "c", .str "+", .int 1])) := Same.upd hp12 _
      have e12 : (upd H11 p12 (HO.tup [V.str "c", .str "+", .int 1])) p12 = some (.tup (valV (.op "+" 1))) := upd_same
      generalize upd H11 p12 (HO.tup [V.str "c", .str "+", .int 1]) = H12 at s12 e12 ⊢
      refine fun r13 dx13 hr13 hd_ hne_ => mk_SetRow hr13 hd_ fun H13 s13 hx13 => ⟨rfl, ?_⟩
      have t13 := (t11.trans s12).trans s13
      refine ⟨_, (SA.same t13).g_set, (show 1 ≤ sizeLine by decide), fun p14 hp14 => ?_⟩
      have s14' : Same H13 (upd H13 p14 (HO.tup [V.int h.set])) := Same.upd hp14 _
      have e14 : (upd H13 p14 (HO.tup [V.int h.set])) p14 = some (.tup (valV (.n h.set))) := upd_same
      generalize upd H13 p14 (HO.tup [V.int h.set]) = H14 at s14' e14 ⊢
      refine fun r15 dx15 hr15 hd_ hne_ => mk_SetRow hr15 hd_ fun H15 s15 hx15 => ⟨rfl, ?_⟩
      have S1 : Any A H15 0 (.ref r13) (.set (a + 1) true (.op "+" 1)) := fun dk F d => RowAt.set (val := .op "+" 1) ⟨⟨by decide, by decide⟩, by decide⟩ ⟨rfl, s15 _ _ (s14' _ _ hx13), s15 _ _ (s14' _ _ (s13 _ _ e12))⟩ _
      have S2 : Any A H15 0 (.ref r15) (.set (a + 2) false (.n h.set)) := fun dk F d => RowAt.set (val := .n h.set) ok.set ⟨rfl, hx15, s15 _ _ e14⟩ _
      have t1115 : Same H11 H15 := ((s12.trans s13).trans s14').trans s15
      have t15 := t11.trans t1115
      have I15 := I11.same t1115
      have L15 := L11.same t1115
      refine ⟨(show 2 ≤ sizeLine by decide), fun R16 hR16 => ?_⟩
      have s16 : Same H15 (upd H15 R16 (HO.lst [V.ref r13, .ref r15])) := Same.upd hR16 _
      have e16 : (upd H15 R16 (HO.lst [V.ref r13, .ref r15])) R16 = some (.lst [V.ref r13, .ref r15]) := upd_same
      generalize upd H15 R16 (HO.lst [V.ref r13, .ref r15]) = H16 at s16 e16 ⊢
      refine ⟨(show 2 ≤ sizeLine by decide), fun l17 hl17 => ?_⟩
      have s17 : Same H16 (upd H16 l17 (HO.lst [V.ref r6, .ref r11])) := Same.upd hl17 _
      have e17 : (upd H16 l17 (HO.lst [V.ref r6, .ref r11])) l17 = some (.lst [V.ref r6, .ref r11]) := upd_same
      generalize upd H16 l17 (HO.lst [V.ref r6, .ref r11]) = H17 at s17 e17 ⊢
      refine ⟨(show 2 ≤ sizeLine by decide), fun l18 hl18 => ?_⟩
      have s18 : Same H17 (upd H17 l18 (HO.lst [V.ref r11, .ref r6])) := Same.upd hl18 _
      have e18 : (upd H17 l18 (HO.lst [V.ref r11, .ref r6])) l18 = some (.lst [V.ref r11, .ref r6]) := upd_same
      generalize upd H17 l18 (HO.lst [V.ref r11, .ref r6]) = H18 at s18 e18 ⊢
      refine ⟨(show 2 ≤ sizeLine by decide), fun l19 hl19 => ?_⟩
      have s19 : Same H18 (upd H18 l19 (HO.lst [V.ref l17, .ref l18])) := Same.upd hl19 _
      have e19 : (upd H18 l19 (HO.lst [V.ref l17, .ref l18])) l19 = some (.lst [V.ref l17, .ref l18]) := upd_same
      generalize upd H18 l19 (HO.lst [V.ref l17, .ref l18]) = H19 at s19 e19 ⊢
      have t1519 : Same H15 H19 := ((s16.trans s17).trans s18).trans s19
      have t19 := t15.trans t1519
      have hm : ∃ lx xs, atI [V.ref l17, .ref l18] h.ahead = some (.ref lx) ∧ H19 lx = some (.lst xs) ∧ xs.length = 2 ∧ ∀ dk F d, PySem.Paired (RowAt A dk F H19 (d + 1)) xs (midW h a) := by
        rcases ok.ahead with e | e
        · refine ⟨l17, _, by rw [e]; rfl, s19 _ _ (s18 _ _ e17), rfl, fun dk F d => ?_⟩
          rw [show midW h a = [loopW h a, testW h a] from if_neg (by omega)]
          exact .cons (L15.same t1519 dk F d) (.cons (I15.same t1519 dk F d) .nil)
        · refine ⟨l18, _, by rw [e]; rfl, s19 _ _ e18, rfl, fun dk F d => ?_⟩
          rw [show midW h a = [testW h a, loopW h a] from if_pos e]
          exact .cons (I15.same t1519 dk F d) (.cons (L15.same t1519 dk F d) .nil)
      obtain ⟨lx, mx, ex1, ex2, ex3, mh⟩ := hm
      refine ⟨_, (SA.same t19).g_ahead, Or.inl ⟨_, _, Or.inl (SqL.of e19), ex1, ?_⟩⟩
      refine ⟨R16, lx, _, _, rfl, rfl, s19 _ _ (s18 _ _ (s17 _ _ e16)), ex2, sz (by simp [ex3]), fun R20 hR20 => ?_⟩
      have s20 : Same H19 (upd H19 R20 (HO.lst ([V.ref r13, .ref r15] ++ mx))) := Same.upd hR20 _
      have e20 : (upd H19 R20 (HO.lst ([V.ref r13, .ref r15] ++ mx))) R20 = some (.lst ([V.ref r13, .ref r15] ++ mx)) := upd_same
      generalize upd H19 R20 (HO.lst ([V.ref r13, .ref r15] ++ mx)) = H20 at s20 e20 ⊢
      have t20 := t19.trans s20
      refine ⟨_, (SA.same t20).g_innerlast, ?_⟩
      refine ⟨Or.inl ⟨rfl, _, SqL.of e20⟩, (show 1 ≤ sizeLine by decide), fun p21 hp21 => ?_⟩
      have s21 : Same H20 (upd H20 p21 (HO.tup [V.str "c"])) := Same.upd hp21 _
      have e21 : (upd H20 p21 (HO.tup [V.str "c"])) p21 = some (.tup (valV .c)) := upd_same
      generalize upd H20 p21 (HO.tup [V.str "c"]) = H21 at s21 e21 ⊢
      refine fun r22 dx22 hr22 hd_ hne_ => mk_SendRow hr22 hd_ fun H22 s22 hx22 => ⟨rfl, ?_⟩
      have e22 := s22 _ _ (s21 _ _ e20)
      refine ⟨_, _, _, rfl, rfl, e22, small1000 (by simp [ex3]), ?_⟩
      have pR : p21 ≠ R20 := fun z => by rw [z, e20] at hp21; cases hp21
      have rR : r22 ≠ R20 := fun z => by rw [z, s21 _ _ e20] at hr22; cases hr22
      have t1923 : Same H19 (upd H22 R20 (HO.lst (([V.ref r13, .ref r15] ++ mx) ++ [.ref r22]))) := Same.out ((s20.trans s21).trans s22) hR20 _
      have e23 : (upd H22 R20 (HO.lst (([V.ref r13, .ref r15] ++ mx) ++ [.ref r22]))) R20 = some (.lst (([V.ref r13, .ref r15] ++ mx) ++ [.ref r22])) := upd_same
      have x23 : (upd H22 R20 (HO.lst (([V.ref r13, .ref r15] ++ mx) ++ [.ref r22]))) r22 = some (.ins A.SendRow dx22 [("number", .int (a + 10 + h.innerlast)), ("name", .str "h"), ("value", .ref p21)]) := by rw [upd_ne rR]; exact hx22
      have y23 : (upd H22 R20 (HO.lst (([V.ref r13, .ref r15] ++ mx) ++ [.ref r22]))) p21 = some (.tup (valV .c)) := by rw [upd_ne pR]; exact s22 _ _ e21
      generalize upd H22 R20 (HO.lst (([V.ref r13, .ref r15] ++ mx) ++ [.ref r22])) = H23 at t1923 e23 x23 y23 ⊢
      have t23 := t19.trans t1923
      refine ⟨_, (SA.same t23).g_by, _, (SA.same t23).g_most, Or.inl ⟨_, _, Or.inl (SqL.of (SA.same t23).l), rfl, Or.inl ⟨_, _, Or.inl (SqL.of (SA.same t23).l), rfl, ?_⟩⟩⟩
      refine fun r24 dx24 hr24 hd_ hne_ => mk_LoopRow (SqL.of e23) hr24 hd_ fun n24 H24 hn24 s24 hb24 hx24 => ⟨rfl, ?_⟩
      refine ⟨(show 2 ≤ sizeLine by decide), fun p25 hp25 => ?_⟩
      have s25 := Same.upd hp25 (HO.tup [V.ref r24, .int (a + 10 + h.innerlast + 2)])
      have t1525 := ((t1519.trans t1923).trans s24).trans s25
      have t1925 := (t1923.trans s24).trans s25
      refine q p25 (.ref r24) _ ((t23.trans s24).trans s25) upd_same fun dk F d => ⟨r24, dx24, n24, _, rfl, s25 _ _ hx24, s25 _ _ hb24, ?_, ⟨by have := ok.most; omega, by have := ok.most; omega⟩, ⟨by have := ok.i1; omega, by have := ok.i1; omega⟩⟩
      exact PySem.Paired.snoc (.cons (S1.same t1525 dk F (d + 1)) (.cons (S2.same t1525 dk F (d + 1)) (Paired.mapP (mh dk F d) fun _ _ => RowAt.same t1925))) (RowAt.snd (val := .c) trivial ⟨rfl, s25 _ _ (s24 _ _ x23), s25 _ _ (s24 _ _ y23)⟩ (d + 1))
    refine ⟨_, (SA.same s14).g_innerlast, rfl, _, rfl, ?_⟩
    rw [vint]
    have o1 : (Val.op "*" 100).ok := ⟨⟨by decide, by decide⟩, by decide⟩
    refine ite2 (fun e => ?_) (fun e => ?_)
    · have e' := of_decide_eq_true e
      refine ⟨Or.inl ⟨rfl, _, SqL.of e4⟩, ?_⟩
      refine fun r5 dx5 hr5 hd_ hne_ => mk_LastRow hr5 hd_ fun H5 s5 hx5 => ⟨rfl, ?_⟩
      refine ⟨_, _, _, rfl, rfl, s5 _ _ e4, (show 1 < sizeLine by decide), ?_⟩
      have rR : r5 ≠ R4 := fun z => by rw [z, e4] at hr5; cases hr5
      have n3 : r3 ≠ R4 := fun z => by rw [z, hR4] at hx3; cases hx3
      have n2 : p2 ≠ R4 := fun z => by have := s3 _ _ e2; rw [z, hR4] at this; cases this
      have n0 : H R4 = none := Same.free ((s1.trans s2).trans s3) hR4
      refine tail _ [V.ref r3, .ref r5] (Same.out (s14.trans s5) n0 _) upd_same fun dk F d => ?_
      rw [if_pos e']
      refine .cons (RowAt.snd o1 ⟨rfl, by rw [upd_ne n3]; exact s5 _ _ sn4.a, by rw [upd_ne n2]; exact s5 _ _ sn4.p⟩ d) (.cons (RowAt.last ⟨rfl, by rw [upd_ne rR]; exact hx5⟩ d) .nil)
    · have e' : ¬ h.innerlast = 1 := fun z => e (decide_eq_true z)
      refine tail H4 [V.ref r3] s14 e4 fun dk F d => ?_
      rw [if_neg e']
      exact .cons (RowAt.snd o1 sn4 d) .nil
end
end K25

set_option Elab.async false
set_option linter.all false
set_option maxRecDepth 100000
set_option maxHeartbeats 4000000
namespace K25
open PySem L2
section
variable {P : Program} {w : World} {K : PySem.W.Frag} {mg : Str → Option Value} {base : Heap} {A : Adr}
def behW (h : Sh) (a : Int) : Int := a + 2 + 10 + h.innerlast + 2
def rowsW (h : Sh) (a : Int) : List Rw := [.set a false (.n h.count), .set (a + 1) true (.n 0)] ++ [bodyW h (a + 2), .snd (behW h a) "h" (.op "+" 1000)]
def sp_rows (A : Adr) : Sp := fun vs H Q _ => ∃ (h : Sh) (sd il : Addr) (a : Int), vs = [.ref sd, .int a] ∧ h.ok ∧ ShAt H sd il h ∧ ∀ p L xs H', Same H H' → H' p = some (.tup [.ref L, .int (behW h a + 1)]) → H' L = some (.lst xs) → (∀ dk F d, PySem.Paired (RowAt A dk F H' (d + 2)) xs (rowsW h a)) → Q (.ref p) H'
theorem h_rows (T : Txt K mg A) : Has P w K mg base 6 "_law_rows" ["_law_shape", "_law_at"] (sp_rows A) := by
  have D_SendRow_init := h_SendRow_init (P := P) (w := w) (base := base) T
  have D_SetRow_init := h_SetRow_init (P := P) (w := w) (base := base) T
  refine T.law_rows.has (k := 5) sc_law_rows (fun vs H Q E h => ?_) (fun f cdv A' outer s' H vs Q E hr hu hh => ?_)
  · obtain ⟨h, sd, il, a, rfl, _⟩ := h
    rfl
  · obtain ⟨h, sd, il, a, rfl, ok, SA, q⟩ := hh
    have D_law_body := h_body (P := P) (w := w) (base := base) T h
    refine ⟨_, (pss_cons (ps_set (i := 2) sc_law_rows.nd rfl (Or.inl rfl) (pe_lst (pa_cons (pe_makeD T.o_SetRow D_SetRow_init hr (pa_cons (fv 1) (pa_cons (pe_str) (pa_cons (pe_tup (pa_cons (pe_ix (ix_all hu) (fv 0) (pe_str) (fun _ _ => rfl)) pa_nil)) pa_nil)))) (pa_cons (pe_makeD T.o_SetRow D_SetRow_init hr (pa_cons (pe_op o_add (fv 1) (pe_int)) (pa_cons (pe_str) (pa_cons (pe_tup (pa_cons (pe_int) pa_nil)) pa_nil)))) pa_nil))))
    (pss_cons (ps_asg (pe_callD D_law_body hr (pa_cons (fv 0) (pa_cons (pe_op o_add (fv 1) (pe_int)) pa_nil))) (pg_tup rfl (pgs_cons (pg_name (i := 3) sc_law_rows.nd rfl (by first | exact Or.inl rfl | exact Or.inr rfl)) (pgs_cons (pg_name (i := 4) sc_law_rows.nd rfl (by first | exact Or.inl rfl | exact Or.inr rfl)) (pgs_nil)))))
    (pss_one (ps_ret (pe_tup (pa_cons (pe_op o_add (fv 2) (pe_lst (pa_cons (fv 3) (pa_cons (pe_makeD T.o_SendRow D_SendRow_init hr (pa_cons (fv 4) (pa_cons (pe_str) (pa_cons (pe_tup (pa_cons (pe_str) (pa_cons (pe_str) (pa_cons (pe_int) pa_nil)))) pa_nil)))) pa_nil)))) (pa_cons (pe_op o_add (fv 4) (pe_int)) pa_nil))))))), ?_⟩
    refine ⟨_, SA.g_count, (show 1 ≤ sizeLine by decide), fun p1 hp1 => ?_⟩
    have s1 : Same H (upd H p1 (HO.tup [V.int h.count])) := Same.upd hp1 _
    have e1 : (upd H p1 (HO.tup [V.int h.count])) p1 = some (.tup (valV (.n h.count))) := upd_same
    generalize upd H p1 (HO.tup [V.int h.count]) = H1 at s1 e1 ⊢
    refine fun r2 dx2 hr2 hd_ hne_ => mk_SetRow hr2 hd_ fun H2 s2 hx2 => ⟨rfl, ?_⟩
    refine ⟨(show 1 ≤ sizeLine by decide), fun p3 hp3 => ?_⟩
    have s3 : Same H2 (upd H2 p3 (HO.tup [V.int 0])) := Same.upd hp3 _
    have e3 : (upd H2 p3 (HO.tup [V.int 0])) p3 = some (.tup (valV (.n 0))) := upd_same
    generalize upd H2 p3 (HO.tup [V.int 0]) = H3 at s3 e3 ⊢
    refine fun r4 dx4 hr4 hd_ hne_ => mk_SetRow hr4 hd_ fun H4 s4 hx4 => ⟨rfl, ?_⟩
    have S1 : Any A H4 0 (.ref r2) (.set a false (.n h.count)) := fun dk F d => RowAt.set (val := .n h.count) ok.count ⟨rfl, s4 _ _ (s3 _ _ hx2), s4 _ _ (s3 _ _ (s2 _ _ e1))⟩ _
    have S2 : Any A H4 0 (.ref r4) (.set (a + 1) true (.n 0)) := fun dk F d => RowAt.set (val := .n 0) ⟨by decide, by decide⟩ ⟨rfl, hx4, s4 _ _ e3⟩ _
    have t4 := ((s1.trans s2).trans s3).trans s4
    refine ⟨(show 2 ≤ sizeLine by decide), fun R5 hR5 => ?_⟩
    have s5 : Same H4 (upd H4 R5 (HO.lst [V.ref r2, .ref r4])) := Same.upd hR5 _
    have e5 : (upd H4 R5 (HO.lst [V.ref r2, .ref r4])) R5 = some (.lst [V.ref r2, .ref r4]) := upd_same
    generalize upd H4 R5 (HO.lst [V.ref r2, .ref r4]) = H5 at s5 e5 ⊢
    refine ⟨sd, il, a + 2, rfl, ok, SA.same (t4.trans s5), fun p6 v6 H6 s6 hp6 B6 => ?_⟩
    refine ⟨p6, _, rfl, SqT.of hp6, rfl, v6, _, rfl, _, _, rfl, rfl, ?_⟩
    refine ⟨(show 3 ≤ sizeLine by decide), fun p7 hp7 => ?_⟩
    have s7 : Same H6 (upd H6 p7 (HO.tup [V.str "c", .str "+", .int 1000])) := Same.upd hp7 _
    have e7 : (upd H6 p7 (HO.tup [V.str "c", .str "+", .int 1000])) p7 = some (.tup (valV (.op "+" 1000))) := upd_same
    generalize upd H6 p7 (HO.tup [V.str "c", .str "+", .int 1000]) = H7 at s7 e7 ⊢
    refine fun r8 dx8 hr8 hd_ hne_ => mk_SendRow hr8 hd_ fun H8 s8 hx8 => ⟨rfl, ?_⟩
    have S3 : Any A H8 0 (.ref r8) (.snd (behW h a) "h" (.op "+" 1000)) := fun dk F d => RowAt.snd (val := .op "+" 1000) ⟨⟨by decide, by decide⟩, by decide⟩ ⟨rfl, hx8, s8 _ _ e7⟩ _
    refine ⟨(show 2 ≤ sizeLine by decide), fun l9 hl9 => ?_⟩
    have s9 : Same H8 (upd H8 l9 (HO.lst [v6, .ref r8])) := Same.upd hl9 _
    have e9 : (upd H8 l9 (HO.lst [v6, .ref r8])) l9 = some (.lst [v6, .ref r8]) := upd_same
    generalize upd H8 l9 (HO.lst [v6, .ref r8]) = H9 at s9 e9 ⊢
    have t59 := ((s6.trans s7).trans s8).trans s9
    refine ⟨R5, l9, _, _, rfl, rfl, t59 _ _ e5, e9, (show 4 ≤ sizeLine by decide), fun L hL => ?_⟩
    refine ⟨(show 2 ≤ sizeLine by decide), fun p10 hp10 => ?_⟩
    have s10 := (Same.upd hL (HO.lst ([V.ref r2, .ref r4] ++ [v6, .ref r8]))).trans (Same.upd hp10 (HO.tup [V.ref L, .int (behW h a + 1)]))
    have pL : L ≠ p10 := fun z => by rw [← z, upd_same] at hp10; cases hp10
    have t49 := (s5.trans t59).trans s10
    refine q p10 L _ _ (t4.trans t49) upd_same (by rw [upd_ne pL]; exact upd_same) fun dk F d => ?_
    exact .cons (S1.same t49 dk F (d + 2)) (.cons (S2.same t49 dk F (d + 2)) (.cons (B6.same (((s7.trans s8).trans s9).trans s10) dk F d) (.cons (S3.same (s9.trans s10) dk F (d + 2)) .nil)))
def mainW (h : Sh) : List Rw := if h.twice = 0 then rowsW h 7 else [.call (behW h 7 + 1 + 2), .call (behW h 7 + 1 + 3)]
def sp_program (A : Adr) : Sp := fun vs H Q _ => ∃ (h : Sh) (sd il : Addr), vs = [.ref sd] ∧ h.ok ∧ ShAt H sd il h ∧ ∀ (p : Pa) (ds xs : List V) (dk : List (Key × V)) (H' : Hp), Same H H' → PrAt A H' p ds xs → DeedsAt A H' ds dk → PySem.Paired (RowAt A dk (rowsW h 7) H' 3) xs (mainW h) → Q (.ref p.pa) H'
theorem h_program (T : Txt K mg A) : Has P w K mg base 7 "_law_program" ["_law_shape"] (sp_program A) := by
  have D_law_rows := h_rows (P := P) (w := w) (base := base) T
  have D_HandRow_init := h_HandRow_init (P := P) (w := w) (base := base) T
  have D_OwnRow_init := h_OwnRow_init (P := P) (w := w) (base := base) T
  have D_GivenRow_init := h_GivenRow_init (P := P) (w := w) (base := base) T
  have D_CallRow_init := h_CallRow_init (P := P) (w := w) (base := base) T
  have D_DeedRow_init := h_DeedRow_init (P := P) (w := w) (base := base) T
  have D_Program_init := h_Program_init (P := P) (w := w) (base := base) T
  refine T.law_program.has (k := 6) sc_law_program (fun vs H Q E h => ?_) (fun f cdv A' outer s' H vs Q E hr hu hh => ?_)
  · obtain ⟨h, sd, il, rfl, _⟩ := h
    rfl
  · obtain ⟨h, sd, il, rfl, ok, SA, q⟩ := hh
    refine ⟨_, (pss_cons (ps_set (i := 1) sc_law_program.nd rfl (Or.inl rfl) (pe_lst (pa_cons (pe_makeD T.o_HandRow D_HandRow_init hr (pa_cons (pe_int) (pa_cons (pe_str) (pa_cons (pe_int) pa_nil)))) (pa_cons (pe_makeD T.o_HandRow D_HandRow_init hr (pa_cons (pe_int) (pa_cons (pe_str) (pa_cons (pe_int) pa_nil)))) (pa_cons (pe_makeD T.o_OwnRow D_OwnRow_init hr (pa_cons (pe_int) (pa_cons (pe_str) (pa_cons (pe_int) pa_nil)))) (pa_cons (pe_makeD T.o_GivenRow D_GivenRow_init hr (pa_cons (pe_int) (pa_cons (pe_str) (pa_cons (pe_int) (pa_cons (pe_int) pa_nil))))) (pa_cons (pe_makeD T.o_OwnRow D_OwnRow_init hr (pa_cons (pe_int) (pa_cons (pe_str) (pa_cons (pe_int) pa_nil)))) pa_nil)))))))
    (pss_cons (ps_if (pt_cmpR (o_eqU hu) (pe_ix (ix_all hu) (fv 0) (pe_str) (fun _ _ => rfl)) (pe_int) (nomark _))
      (pss_one (ps_ret (pe_makeD T.o_Program D_Program_init hr (pa_cons (fv 1) (pa_cons (pe_lst (pa_nil)) (pa_cons (pe_ix (ix_all hu) (pe_callD D_law_rows hr (pa_cons (fv 0) (pa_cons (pe_int) pa_nil))) (pe_int) (fun _ _ => rfl)) pa_nil))))))
      pss_nil)
    (pss_cons (ps_asg (pe_callD D_law_rows hr (pa_cons (fv 0) (pa_cons (pe_int) pa_nil))) (pg_tup rfl (pgs_cons (pg_name (i := 2) sc_law_program.nd rfl (by first | exact Or.inl rfl | exact Or.inr rfl)) (pgs_cons (pg_name (i := 3) sc_law_program.nd rfl (by first | exact Or.inl rfl | exact Or.inr rfl)) (pgs_nil)))))
    (pss_cons (ps_set (i := 4) sc_law_program.nd rfl (Or.inl rfl) (pe_lst (pa_cons (pe_makeD T.o_CallRow D_CallRow_init hr (pa_cons (pe_op o_add (fv 3) (pe_int)) (pa_cons (pe_str) (pa_cons (pe_lst (pa_nil)) pa_nil)))) (pa_cons (pe_makeD T.o_CallRow D_CallRow_init hr (pa_cons (pe_op o_add (fv 3) (pe_int)) (pa_cons (pe_str) (pa_cons (pe_lst (pa_nil)) pa_nil)))) pa_nil))))
    (pss_one (ps_ret (pe_makeD T.o_Program D_Program_init hr (pa_cons (fv 1) (pa_cons (pe_lst (pa_cons (pe_makeD T.o_DeedRow D_DeedRow_init hr (pa_cons (pe_int) (pa_cons (pe_str) (pa_cons (pe_lst (pa_nil)) (pa_cons (fv 2) pa_nil))))) pa_nil)) (pa_cons (fv 4) pa_nil)))))))))), ?_⟩
    refine fun r1 dx1 hr1 hd_ hne_ => mk_HandRow hr1 hd_ fun H1 s1 hx1 => ⟨rfl, ?_⟩
    refine fun r2 dx2 hr2 hd_ hne_ => mk_HandRow hr2 hd_ fun H2 s2 hx2 => ⟨rfl, ?_⟩
    refine fun r3 dx3 hr3 hd_ hne_ => mk_OwnRow hr3 hd_ fun H3 s3 hx3 => ⟨rfl, ?_⟩
    refine fun r4 dx4 hr4 hd_ hne_ => mk_GivenRow hr4 hd_ fun H4 s4 hx4 => ⟨rfl, ?_⟩
    refine fun r5 dx5 hr5 hd_ hne_ => mk_OwnRow hr5 hd_ fun H5 s5 hx5 => ⟨rfl, ?_⟩
    refine ⟨(show 5 ≤ sizeLine by decide), fun l6 hl6 => ?_⟩
    have s6 : Same H5 (upd H5 l6 (HO.lst [V.ref r1, .ref r2, .ref r3, .ref r4, .ref r5])) := Same.upd hl6 _
    have e6 : (upd H5 l6 (HO.lst [V.ref r1, .ref r2, .ref r3, .ref r4, .ref r5])) l6 = some (.lst [V.ref r1, .ref r2, .ref r3, .ref r4, .ref r5]) := upd_same
    generalize upd H5 l6 (HO.lst [V.ref r1, .ref r2, .ref r3, .ref r4, .ref r5]) = H6 at s6 e6 ⊢
    have t6 := ((((s1.trans s2).trans s3).trans s4).trans s5).trans s6
    have k1 := s6 _ _ (s5 _ _ (s4 _ _ (s3 _ _ (s2 _ _ hx1))))
    have k2 := s6 _ _ (s5 _ _ (s4 _ _ (s3 _ _ hx2)))
    have k3 := s6 _ _ (s5 _ _ (s4 _ _ hx3))
    have k4 := s6 _ _ (s5 _ _ hx4)
    have k5 := s6 _ _ hx5
    refine ⟨_, (SA.same t6).g_twice, rfl, _, rfl, ?_⟩
    rw [vint]
    refine ite2 (fun e => ?_) (fun e => ?_)
    · have e' := of_decide_eq_true e
      refine ⟨Nat.zero_le _, fun l7 hl7 => ?_⟩
      have s7 : Same H6 (upd H6 l7 (HO.lst [])) := Same.upd hl7 _
      have e7 : (upd H6 l7 (HO.lst [])) l7 = some (.lst []) := upd_same
      generalize upd H6 l7 (HO.lst []) = H7 at s7 e7 ⊢
      refine ⟨h, sd, il, 7, rfl, ok, SA.same (t6.trans s7), fun p8 L xs H8 s8 hp8 hL8 pr => ?_⟩
      refine Or.inl ⟨_, _, Or.inr (SqT.of hp8), rfl, ?_⟩
      have t68 := s7.trans s8
      refine fun r dx hr9 hd_ hne_ => mk_Program (SqL.of (t68 _ _ e6)) (SqL.of (s8 _ _ e7)) (SqL.of hL8) hr9 hd_ fun nh nd nm H9 hnh hnd hnm s9 hlh9 hld9 hlm9 hx9 => ⟨rfl, ?_⟩
      have t69 := t68.trans s9
      refine q ⟨r, dx, nh, nd, nm, r1, r2, r3, r4, r5, dx1, dx2, dx3, dx4, dx5⟩ [] xs [] H9 (t6.trans t69) ⟨hx9, hlh9, hld9, hlm9, t69 _ _ k1, t69 _ _ k2, t69 _ _ k3, t69 _ _ k4, t69 _ _ k5⟩ (Or.inl ⟨rfl, rfl⟩) ?_
      rw [show mainW h = rowsW h 7 from if_pos e']
      exact Paired.mapP (pr [] (rowsW h 7) 1) fun _ _ => RowAt.same s9
    · have e' : ¬ h.twice = 0 := fun z => e (decide_eq_true z)
      refine ⟨h, sd, il, 7, rfl, ok, SA.same t6, fun p8 L xs H8 s8 hp8 hL8 pr => ?_⟩
      refine ⟨p8, _, rfl, SqT.of hp8, rfl, _, _, rfl, _, _, rfl, rfl, ?_⟩
      refine ⟨Nat.zero_le _, fun l9 hl9 => ?_⟩
      have s9 : Same H8 (upd H8 l9 (HO.lst [])) := Same.upd hl9 _
      have e9 : (upd H8 l9 (HO.lst [])) l9 = some (.lst []) := upd_same
      generalize upd H8 l9 (HO.lst []) = H9 at s9 e9 ⊢
      refine fun r10 dx10 hr10 hd_ hne_ => mk_CallRow (SqL.of e9) hr10 hd_ fun n10 H10 hn10 s10 hl10 hx10 => ⟨rfl, ?_⟩
      refine ⟨Nat.zero_le _, fun l11 hl11 => ?_⟩
      have s11 : Same H10 (upd H10 l11 (HO.lst [])) := Same.upd hl11 _
      have e11 : (upd H10 l11 (HO.lst [])) l11 = some (.lst []) := upd_same
      generalize upd H10 l11 (HO.lst []) = H11 at s11 e11 ⊢
      refine fun r12 dx12 hr12 hd_ hne_ => mk_CallRow (SqL.of e11) hr12 hd_ fun n12 H12 hn12 s12 hl12 hx12 => ⟨rfl, ?_⟩
      refine ⟨(show 2 ≤ sizeLine by decide), fun l13 hl13 => ?_⟩
      have s13 : Same H12 (upd H12 l13 (HO.lst [V.ref r10, .ref r12])) := Same.upd hl13 _
      have e13 : (upd H12 l13 (HO.lst [V.ref r10, .ref r12])) l13 = some (.lst [V.ref r10, .ref r12]) := upd_same
      generalize upd H12 l13 (HO.lst [V.ref r10, .ref r12]) = H13 at s13 e13 ⊢
      refine ⟨Nat.zero_le _, fun l14 hl14 => ?_⟩
      have s14 : Same H13 (upd H13 l14 (HO.lst [])) := Same.upd hl14 _
      have e14 : (upd H13 l14 (HO.lst [])) l14 = some (.lst []) := upd_same
      generalize upd H13 l14 (HO.lst []) = H14 at s14 e14 ⊢
      have t814 : Same H8 H14 := (((((s9.trans s10).trans s11).trans s12).trans s13).trans s14)
      refine fun r15 dx15 hr15 hd_ hne_ => mk_DeedRow (SqL.of e14) (SqL.of (t814 _ _ hL8)) hr15 hd_ fun np nb H15 hnp hnb s15 hlp hlb hx15 => ⟨rfl, ?_⟩
      refine ⟨(show 1 ≤ sizeLine by decide), fun l16 hl16 => ?_⟩
      have s16 : Same H15 (upd H15 l16 (HO.lst [V.ref r15])) := Same.upd hl16 _
      have e16 : (upd H15 l16 (HO.lst [V.ref r15])) l16 = some (.lst [V.ref r15]) := upd_same
      generalize upd H15 l16 (HO.lst [V.ref r15]) = H16 at s16 e16 ⊢
      have t816 := (t814.trans s15).trans s16
      have t616 := s8.trans t816
      have t1316 := (s14.trans s15).trans s16
      refine fun r dx hr17 hd_ hne_ => mk_Program (SqL.of (t616 _ _ e6)) (SqL.of e16) (SqL.of (t1316 _ _ e13)) hr17 hd_ fun nh nd nm H17 hnh hnd hnm s17 hlh17 hld17 hlm17 hx17 => ⟨rfl, ?_⟩
      have t617 := t616.trans s17
      have t1017 := ((s11.trans s12).trans s13).trans (t1316.trans s17)
      have t1217 := s13.trans (t1316.trans s17)
      have t1517 := s16.trans s17
      have pr17 : PySem.Paired (RowAt A [(.inr "f", .ref r15)] (rowsW h 7) H17 2) xs (rowsW h 7) := Paired.mapP (pr _ (rowsW h 7) 0) fun _ _ => RowAt.same (t816.trans s17)
      refine q ⟨r, dx, nh, nd, nm, r1, r2, r3, r4, r5, dx1, dx2, dx3, dx4, dx5⟩ [.ref r15] [.ref r10, .ref r12] [(.inr "f", .ref r15)] H17 (t6.trans t617) ⟨hx17, hlh17, hld17, hlm17, t617 _ _ k1, t617 _ _ k2, t617 _ _ k3, t617 _ _ k4, t617 _ _ k5⟩ (Or.inr ⟨r15, dx15, np, nb, 6, rfl, rfl, t1517 _ _ hx15, t1517 _ _ hlp⟩) ?_
      rw [show mainW h = [.call (behW h 7 + 1 + 2), .call (behW h 7 + 1 + 3)] from if_neg e']
      exact .cons ⟨6, r10, dx10, n10, r15, dx15, np, nb, xs, rfl, t1017 _ _ hx10, t1017 _ _ hl10, rfl, t1517 _ _ hx15, t1517 _ _ hlp, t1517 _ _ hlb, pr17⟩ (.cons ⟨6, r12, dx12, n12, r15, dx15, np, nb, xs, rfl, t1217 _ _ hx12, t1217 _ _ hl12, rfl, t1517 _ _ hx15, t1517 _ _ hlp, t1517 _ _ hlb, pr17⟩ .nil)
end
end K25

set_option Elab.async false
set_option linter.all false
set_option maxRecDepth 100000
set_option maxHeartbeats 4000000
namespace K25
open PySem L2
section
structure Rel (c : Int) (s r : S) : Prop where
  st : s.steps = r.steps
  tr : s.trace = r.trace
  le : s.letters = r.letters
  c : s.c = c
theorem Rel.tell {c : Int} {s r : S} (h : Rel c s r) (n : Int) (v : V) : Rel c (s.tell n v) (r.tell n v) := ⟨by simp [S.tell, h.st], by simp [S.tell, h.st, h.tr], h.le, h.c⟩
theorem Rel.send {c : Int} {s r : S} (h : Rel c s r) (n : Int) (x : Str) (v : Int) : Rel c (s.send n x v) (r.send n x v) := ⟨by simp [S.send, S.tell, h.st], by simp [S.send, S.tell, h.st, h.tr], by simp [S.send, h.st, h.le], h.c⟩
theorem Rel.idle {c : Int} {s r : S} (h : Rel c s r) (n : Int) : Rel c (s.idle n) (r.idle n) := ⟨by simp [S.idle, h.st], h.tr, h.le, h.c⟩
theorem Rel.putc {c : Int} {s r : S} (h : Rel c s r) (n : Int) : Rel n (s.put true n) r := ⟨h.st, h.tr, h.le, rfl⟩
theorem Rel.putt {c : Int} {s r : S} (h : Rel c s r) (n : Int) : Rel c (s.put false n) r := ⟨h.st, h.tr, h.le, h.c⟩
theorem do_set (F : List Rw) (d : Nat) (s : S) (n : Int) (x : Bool) (v : Val) : doRow F d s (.set n x v) = ((s.tell n .non).put x (v.num s), false) := by cases d <;> rfl
theorem do_snd (F : List Rw) (d : Nat) (s : S) (n : Int) (x : Str) (v : Val) : doRow F d s (.snd n x v) = (s.send n x (v.num s), false) := by cases d <;> rfl
theorem do_last (F : List Rw) (d : Nat) (s : S) (n : Int) : doRow F d s (.last n) = (s.tell n .non, true) := by cases d <;> rfl
theorem mod_id {x : Int} (h0 : 0 ≤ x) (h1 : x < 1000000000000) : x % 1000000000000 = x := Int.emod_eq_of_lt h0 h1
theorem rkn_add (a b : Int) : rkn a b "+" = (a + b) % 1000000000000 := if_pos rfl
theorem rkn_mul (a b : Int) : rkn a b "*" = (a * b) % 1000000000000 := by
  unfold rkn
  rw [if_neg (by decide), if_neg (by decide), if_pos (by decide)]
theorem rkn_eq (a b : Int) : rkn a b "=" = if a = b then 1 else 0 := by
  unfold rkn
  rw [if_neg (by decide), if_neg (by decide), if_neg (by decide), if_neg (by decide), if_neg (by decide), if_neg (by decide), vint]
  simp
def stopN (stop : Int) (k n : Nat) : Nat := if (k : Int) < stop ∧ stop ≤ ((k + n : Nat) : Int) then stop.toNat else k + n
theorem rounds_C {body : S → S × Bool} {l stop : Int} {f : Int → S → S} {r0 : S} {I : Nat → S → S → Prop} {m : Nat} (hb : ∀ k s r, k < m → ¬ (0 < stop ∧ stop ≤ (k : Int)) → I k s r → (body s).2 = decide ((k : Int) + 1 = stop) ∧ I (k + 1) ((body s).1.idle l) (f (1 + (k : Int)) r)) :
    ∀ (n k : Nat) (s : S), k + n ≤ m → ¬ (0 < stop ∧ stop ≤ (k : Int)) → I k s (itC f k r0) → I (stopN stop k n) (rounds body l n k s).1 (itC f (stopN stop k n) r0) ∧ (rounds body l n k s).2 = stopN stop k n
  | 0, k, s, _, hs, h => by
    have e : stopN stop k 0 = k := by unfold stopN; split <;> omega
    rw [e]
    exact ⟨h, rfl⟩
  | n + 1, k, s, hm, hs, h => by
    obtain ⟨h1, h2⟩ := hb k s _ (by omega) hs h
    simp only [rounds]
    by_cases c : (k : Int) + 1 = stop
    · rw [h1, decide_eq_true c]
      have e : stopN stop k (n + 1) = k + 1 := by unfold stopN; rw [if_pos (by omega)]; omega
      rw [e]
      exact ⟨h2, rfl⟩
    · rw [h1, decide_eq_false c]
      have h3 := rounds_C hb n (k + 1) ((body s).1.idle l) (by omega) (by omega) h2
      have e : stopN stop k (n + 1) = stopN stop (k + 1) n := by
        unfold stopN
        split <;> split <;> omega
      rw [e]
      exact h3
theorem itC_const (g : S → S) : ∀ (n : Nat) (r : S), itC (fun _ => g) n r = itR g n r
  | 0, _ => rfl
  | n + 1, r => by show g (itC _ n r) = g (itR g n r); rw [itC_const g n r]
theorem inner_eq {h : Sh} (ok : h.ok) {c : Int} {s r : S} (hc : 0 ≤ c ∧ c ≤ 30) (R : Rel c s r) (F : List Rw) (d : Nat) (a : Int) : (doRow F (d + 1) s (loopW h a)).2 = false ∧ Rel c (doRow F (d + 1) s (loopW h a)).1 (innerR h r (hereR h a) c) := by
  refine ⟨rfl, ?_⟩
  have o1 := ok.inner
  have o2 := ok.innermost
  have o3 := ok.innerlast
  have val : ∀ s : S, s.c = c → Val.num s (.op "*" 100) = c * 100 := fun s e => by
    show rkn s.c 100 "*" = _
    rw [e, rkn_mul, mod_id (by omega) (by omega)]
  have key := rounds_C (body := fun s => rowsBy (doRow F d) s (.snd (hereR h a + 1) "k" (.op "*" 100) :: (if h.innerlast = 1 then [.last (hereR h a + 2)] else []))) (l := h.i2) (stop := h.innerlast) (f := fun _ => oneR h (hereR h a) c) (r0 := r.tell (hereR h a) .non) (I := fun _ s r => Rel c s r) (m := 30)
    (fun k s r hk hs R => by
      unfold oneR
      by_cases e : h.innerlast = 1
      · rw [if_pos e, if_pos e]
        have : k = 0 := by omega
        subst this
        simp only [rowsBy, List.foldl_cons, List.foldl_nil, step, do_snd, do_last, val s R.c]
        refine ⟨?_, ((R.send _ _ _).tell _ _).idle _⟩
        rw [e]
        decide
      · rw [if_neg e, if_neg e]
        simp only [rowsBy, List.foldl_cons, List.foldl_nil, step, do_snd, val s R.c]
        refine ⟨?_, (R.send _ _ _).idle _⟩
        rw [decide_eq_false (by omega)]
        rfl) (if h.innermost < h.inner then h.innermost else h.inner).toNat 0 (s.tell (hereR h a) .non) (by split <;> omega) (by omega) (R.tell _ _)
  have eN : stopN h.innerlast 0 (if h.innermost < h.inner then h.innermost else h.inner).toNat = (innerN h).toNat := by
    unfold stopN innerN
    rcases o3 with e | e <;> rw [e] <;> (repeat' split) <;> omega
  rw [eN] at key
  have nn := innerN_le ok
  have k2 := key.2
  have := key.1.idle (h.i3 * (h.innermost - innerN h))
  rw [itC_const] at this
  show Rel c (S.idle _ (h.i3 * (h.innermost - _))) _
  have e2 : (((rounds (fun s => rowsBy (doRow F d) s (.snd (hereR h a + 1) "k" (.op "*" 100) :: (if h.innerlast = 1 then [.last (hereR h a + 2)] else []))) h.i2 (if h.innermost < h.inner then h.innermost else h.inner).toNat 0 (s.tell (hereR h a) .non)).2 : Nat) : Int) = innerN h := by rw [k2]; omega
  exact e2 ▸ this
theorem test_eq {h : Sh} {c : Int} {s r : S} (R : Rel c s r) (F : List Rw) (d : Nat) (a : Int) : (doRow F (d + 1) s (testW h a)).2 = decide (c = h.stop) ∧ Rel c (doRow F (d + 1) s (testW h a)).1 (testR h r (thereR h a) c) := by
  have val : Val.num s (.op "=" h.stop) = if c = h.stop then 1 else 0 := by
    show rkn s.c h.stop "=" = _
    rw [R.c, rkn_eq]
  unfold testW testR
  simp only [doRow, val]
  by_cases e : c = h.stop
  · rw [if_pos e, if_pos e, if_pos (by decide), decide_eq_true e]
    simp only [rowsBy, List.foldl_cons, List.foldl_nil, step, do_last]
    exact ⟨rfl, ((R.tell _ _).tell _ _).idle _⟩
  · rw [if_neg e, if_neg e, if_neg (by decide), decide_eq_false e]
    simp only [rowsBy, List.foldl_nil]
    exact ⟨trivial, (R.tell _ _).idle _⟩
theorem mid_eq {h : Sh} (ok : h.ok) {c : Int} {s r : S} (hc : 0 ≤ c ∧ c ≤ 30) (R : Rel c s r) (F : List Rw) (d : Nat) (a : Int) : ((midW h a).foldl (step (doRow F (d + 1))) (s, false)).2 = decide (c = h.stop) ∧ Rel c ((midW h a).foldl (step (doRow F (d + 1))) (s, false)).1 (midR h a c r) := by
  unfold midW midR
  by_cases e : h.ahead = 1
  · rw [if_pos e, if_pos e]
    obtain ⟨h1, h2⟩ := test_eq R F d a
    obtain ⟨h3, h4⟩ := inner_eq ok hc h2 F d a
    simp only [List.foldl_cons, List.foldl_nil, step]
    rw [h1, h3]
    exact ⟨by simp, h4⟩
  · rw [if_neg e, if_neg e]
    obtain ⟨h3, h4⟩ := inner_eq ok hc R F d a
    obtain ⟨h1, h2⟩ := test_eq (h := h) h4 F d a
    simp only [List.foldl_cons, List.foldl_nil, step]
    rw [h1, h3]
    exact ⟨by simp, h2⟩
end
end K25

set_option Elab.async false
set_option linter.all false
set_option maxRecDepth 100000
set_option maxHeartbeats 4000000
namespace K25
open PySem L2
section
theorem fold_app {f : S → Rw → S × Bool} (xs ys : List Rw) (p : S × Bool) : (xs ++ ys).foldl (step f) p = ys.foldl (step f) (xs.foldl (step f) p) := List.foldl_append
theorem body_eq {h : Sh} (ok : h.ok) {k : Nat} {s r : S} (hk : k < 30) (R : Rel k s r) (F : List Rw) (d : Nat) (a : Int) :
    (rowsBy (doRow F (d + 1)) s (([.set (a + 1) true (.op "+" 1), .set (a + 2) false (.n h.set)] ++ midW h a) ++ [.snd (a + 10 + h.innerlast) "h" .c])).2 = decide ((k : Int) + 1 = h.stop) ∧
    Rel ((k + 1 : Nat) : Int) ((rowsBy (doRow F (d + 1)) s (([.set (a + 1) true (.op "+" 1), .set (a + 2) false (.n h.set)] ++ midW h a) ++ [.snd (a + 10 + h.innerlast) "h" .c])).1.idle h.i0) (roundR h a (1 + (k : Int)) r) := by
  have val : ∀ s : S, s.c = k → Val.num s (.op "+" 1) = 1 + (k : Int) := fun s e => by
    show rkn s.c 1 "+" = _
    rw [e, rkn_add, mod_id (by omega) (by omega)]
    omega
  unfold rowsBy
  rw [fold_app, fold_app]
  simp only [List.foldl_cons, List.foldl_nil, step, do_set, val s R.c, Bool.or_false]
  have R2 : Rel (1 + (k : Int)) ((((s.tell (a + 1) .non).put true (1 + (k : Int))).tell (a + 2) .non).put false (Val.num ((s.tell (a + 1) .non).put true (1 + (k : Int))) (.n h.set))) ((r.tell (a + 1) .non).tell (a + 2) .non) := (((R.tell _ _).putc _).tell _ _).putt _
  obtain ⟨h1, h2⟩ := mid_eq ok (c := 1 + (k : Int)) ⟨by omega, by omega⟩ R2 F d a
  rw [h1, do_snd]
  refine ⟨?_, ?_⟩
  · rw [Int.add_comm]
    simp
  · have h3 := (h2.send (a + 10 + h.innerlast) "h" (1 + (k : Int))).idle h.i0
    have e : Val.num ((midW h a).foldl (step (doRow F (d + 1))) ((((s.tell (a + 1) .non).put true (1 + (k : Int))).tell (a + 2) .non).put false (Val.num ((s.tell (a + 1) .non).put true (1 + (k : Int))) (.n h.set)), false)).1 .c = 1 + (k : Int) := h2.c
    rw [show (((k + 1 : Nat) : Int)) = 1 + (k : Int) by omega]
    exact e.symm ▸ h3
theorem loop_eq {h : Sh} (ok : h.ok) {s r : S} (R : Rel 0 s r) (ht : h.th.num s = h.count) (F : List Rw) (d : Nat) (a : Int) : (doRow F (d + 2) s (bodyW h a)).2 = false ∧ Rel (followN h) (doRow F (d + 2) s (bodyW h a)).1 ((itC (roundR h a) (followN h).toNat (r.tell a .non)).idle (h.i1 * (h.most - followN h))) := by
  refine ⟨rfl, ?_⟩
  have o1 := ok.most
  have o2 := ok.count.1
  have o3 := ok.stop
  have nn := followN_le ok
  have key := rounds_C (body := fun s => rowsBy (doRow F (d + 1)) s (([.set (a + 1) true (.op "+" 1), .set (a + 2) false (.n h.set)] ++ midW h a) ++ [.snd (a + 10 + h.innerlast) "h" .c])) (l := h.i0) (stop := h.stop) (f := roundR h a) (r0 := r.tell a .non) (I := fun k s r => Rel k s r) (m := 30)
    (fun k s r hk hs R => body_eq ok hk R F d a) (if h.most < h.th.num s then h.most else h.th.num s).toNat 0 (s.tell a .non) (by rw [ht]; split <;> omega) (by omega) (R.tell _ _)
  have eN : stopN h.stop 0 (if h.most < h.th.num s then h.most else h.th.num s).toNat = (followN h).toNat := by
    rw [ht]
    unfold stopN followN minR
    (repeat' split) <;> omega
  rw [eN] at key
  have k2 := key.2
  have k1 := key.1.idle (h.i1 * (h.most - followN h))
  have e2 : (((rounds (fun s => rowsBy (doRow F (d + 1)) s (([.set (a + 1) true (.op "+" 1), .set (a + 2) false (.n h.set)] ++ midW h a) ++ [.snd (a + 10 + h.innerlast) "h" .c])) h.i0 (if h.most < h.th.num s then h.most else h.th.num s).toNat 0 (s.tell a .non)).2 : Nat) : Int) = followN h := by rw [k2]; omega
  rw [show (((followN h).toNat : Nat) : Int) = followN h by omega] at k1
  exact e2 ▸ k1
theorem follow_eq {h : Sh} (ok : h.ok) {c : Int} {s r : S} (R : Rel c s r) (hg : s.g = h.count) (F : List Rw) (d : Nat) (a : Int) : ∃ c', Rel c' (rowsBy (doRow F (d + 2)) s (rowsW h a)).1 (followR h r a) := by
  refine ⟨followN h, ?_⟩
  unfold rowsBy rowsW
  rw [fold_app]
  simp only [List.foldl_cons, List.foldl_nil, step, do_set, Bool.or_false]
  have R2 : Rel 0 ((((s.tell a .non).put false h.count).tell (a + 1) .non).put true 0) ((r.tell a .non).tell (a + 1) .non) := (((R.tell _ _).putt _).tell _ _).putc _
  have ht : h.th.num ((((s.tell a .non).put false h.count).tell (a + 1) .non).put true 0) = h.count := by
    rcases ok.th with e | e | e <;> rw [e]
    · rfl
    · exact hg
    · rfl
  obtain ⟨_, h2⟩ := loop_eq ok R2 ht F d (a + 2)
  have nn := followN_le ok
  have e : ∀ s : S, s.c = followN h → Val.num s (.op "+" 1000) = followN h + 1000 := fun s e => by
    show rkn s.c 1000 "+" = _
    rw [e, rkn_add, mod_id (by omega) (by omega)]
  have h3 := h2.send (behW h a) "h" (followN h + 1000)
  rw [do_snd, show Val.num ((s.tell a .non).put false (Val.num s (.n h.count))) (.n 0) = 0 from rfl, show Val.num s (.n h.count) = h.count from rfl, e _ h2.c]
  exact h3
theorem g_leaf (s : S) (r : Rw) : (leaf s r).1.g = s.g := by
  cases r with
  | set n x v => cases x <;> rfl
  | _ => rfl
theorem g_rows {f : S → Rw → S × Bool} (hf : ∀ s r, (f s r).1.g = s.g) : ∀ (xs : List Rw) (p : S × Bool), (xs.foldl (step f) p).1.g = p.1.g
  | [], _ => rfl
  | x :: r, p => (g_rows hf r _).trans (hf p.1 x)
theorem g_rounds {body : S → S × Bool} (hf : ∀ s, (body s).1.g = s.g) (l : Int) : ∀ (n k : Nat) (s : S), (rounds body l n k s).1.g = s.g
  | 0, _, _ => rfl
  | n + 1, k, s => by
    simp only [rounds]
    split
    · exact hf s
    · exact (g_rounds hf l n (k + 1) _).trans (hf s)
theorem g_row (F : List Rw) : ∀ (d : Nat) (s : S) (r : Rw), (doRow F d s r).1.g = s.g
  | 0, s, r => g_leaf s r
  | d + 1, s, .ite n v a b l r => by
    simp only [doRow]
    split
    · exact g_rows (g_row F d) a _
    · exact g_rows (g_row F d) b _
  | d + 1, s, .loop n th m b l r => by
    simp only [doRow]
    exact g_rounds (fun s => g_rows (g_row F d) b (s, false)) l _ 0 _
  | d + 1, s, .call n => g_rows (g_row F d) F _
  | _ + 1, s, .set n x v => g_leaf s _
  | _ + 1, s, .snd n h v => g_leaf s _
  | _ + 1, s, .last n => g_leaf s _
def accountR (h : Sh) : S := if h.twice = 0 then followR h (S.new h.count) 7 else followR h ((followR h ((S.new h.count).tell (behW h 7 + 1 + 2) .non) 7).tell (behW h 7 + 1 + 3) .non) 7
theorem main_eq {h : Sh} (ok : h.ok) : ∃ c', Rel c' (rowsBy (doRow (rowsW h 7) 3) (S.new h.count) (mainW h)).1 (accountR h) := by
  have R0 : Rel 0 (S.new h.count) (S.new h.count) := ⟨rfl, rfl, rfl, rfl⟩
  unfold mainW accountR
  by_cases e : h.twice = 0
  · rw [if_pos e, if_pos e]
    exact follow_eq ok R0 rfl _ 1 7
  · rw [if_neg e, if_neg e]
    obtain ⟨c1, R1⟩ := follow_eq ok (R0.tell (behW h 7 + 1 + 2) .non) rfl (rowsW h 7) 0 7
    have g1 : (rowsBy (doRow (rowsW h 7) 2) ((S.new h.count).tell (behW h 7 + 1 + 2) .non) (rowsW h 7)).1.g = h.count := g_rows (g_row _ 2) _ _
    exact follow_eq ok (R1.tell (behW h 7 + 1 + 3) .non) g1 (rowsW h 7) 0 7
theorem more_follow {h : Sh} (ok : h.ok) (s : S) (a : Int) : More s (followR h s a) 364 := by
  have nn := followN_le ok
  have m := more_itC (more_round ok (a + 2)) (followN h).toNat (((s.tell a .non).tell (a + 1) .non).tell (a + 2) .non)
  exact ((((((more_tell s a .non).trans (more_tell _ (a + 1) .non)).trans (more_tell _ (a + 2) .non)).trans m).idle _).trans (more_send _ _ _ _)).le (by omega)
theorem cnt_set (F : List Rw) (d : Nat) (n : Int) (x : Bool) (v : Val) : cnt F d (.set n x v) = 1 := by cases d <;> rfl
theorem cnt_snd (F : List Rw) (d : Nat) (n : Int) (x : Str) (v : Val) : cnt F d (.snd n x v) = 1 := by cases d <;> rfl
theorem cnt_last (F : List Rw) (d : Nat) (n : Int) : cnt F d (.last n) = 1 := by cases d <;> rfl
theorem cnt_loop {h : Sh} (ok : h.ok) (F : List Rw) (d : Nat) (a : Int) : cnt F (d + 1) (loopW h a) ≤ 7 := by
  have o := ok.innermost
  have : (1 + h.innermost.toNat * ((.snd (hereR h a + 1) "k" (.op "*" 100) :: (if h.innerlast = 1 then [.last (hereR h a + 2)] else [])).map (cnt F d)).sum) ≤ 7 := by
    split
    · simp only [List.map_cons, List.map_nil, List.sum_cons, List.sum_nil, cnt_snd, cnt_last]
      omega
    · simp only [List.map_cons, List.map_nil, List.sum_cons, List.sum_nil, cnt_snd]
      omega
  exact this
theorem cnt_test (h : Sh) (F : List Rw) (d : Nat) (a : Int) : cnt F (d + 1) (testW h a) = 2 := by
  unfold testW
  simp only [cnt, List.map_cons, List.map_nil, List.sum_cons, List.sum_nil, cnt_last]
  rfl
theorem cnt_body {h : Sh} (ok : h.ok) (F : List Rw) (d : Nat) (a : Int) : cnt F (d + 2) (bodyW h a) ≤ 361 := by
  have o := ok.most
  have l := cnt_loop ok F d a
  have t := cnt_test h F d a
  unfold bodyW
  simp only [cnt, List.map_append, List.sum_append, List.map_cons, List.map_nil, List.sum_cons, List.sum_nil, cnt_set, cnt_snd]
  have m : ((midW h a).map (cnt F (d + 1))).sum ≤ 9 := by
    unfold midW
    split <;> simp only [List.map_cons, List.map_nil, List.sum_cons, List.sum_nil] <;> omega
  have : h.most.toNat * (1 + (1 + 0) + ((midW h a).map (cnt F (d + 1))).sum + (1 + 0)) ≤ 30 * 12 := Nat.mul_le_mul (by omega) (by omega)
  omega
theorem cnt_rows {h : Sh} (ok : h.ok) (F : List Rw) (d : Nat) (a : Int) : ((rowsW h a).map (cnt F (d + 2))).sum ≤ 364 := by
  have b := cnt_body ok F d (a + 2)
  unfold rowsW
  simp only [List.map_append, List.sum_append, List.map_cons, List.map_nil, List.sum_cons, List.sum_nil, cnt_set, cnt_snd]
  omega
theorem cnt_main {h : Sh} (ok : h.ok) : ((mainW h).map (cnt (rowsW h 7) 3)).sum ≤ 1000 := by
  unfold mainW
  split
  · exact Nat.le_trans (cnt_rows ok _ 1 7) (by decide)
  · have b : ((rowsW h 7).map (cnt (rowsW h 7) 2)).sum ≤ 364 := cnt_rows ok (rowsW h 7) 0 7
    simp only [List.map_cons, List.map_nil, List.sum_cons, List.sum_nil, cnt]
    omega
end
end K25

set_option Elab.async false
set_option linter.all false
set_option maxRecDepth 100000
set_option maxHeartbeats 4000000
namespace K25
open PySem L2
section
variable {P : Program} {w : World} {K : PySem.W.Frag} {mg : Str → Option Value} {base : Heap} {A : Adr}
theorem comp_relR {lo : Int} {n : Nat} {fr : List Nat} {te : CB → TE} {Q : VK} {σ : St} {H1 : Hp} (R : V → Prop) (hn : n < sizeLine)
    (he : ∀ b i H (G : VK), i < n → Same H1 H → (∀ y H', Same H H' → R y → G y H') → te b (some (.int (lo + i)) :: cFr fr σ) H G)
    (fin : ∀ D H ys, H1 D = none → Same H1 H → H D = some (.lst ys) → ys.length = n → (∀ y ∈ ys, R y) → Q (.ref D) H) : tBlock (Itr lo n) 1 fr (fun _ => gName 0) (fun _ => tYes) te Q σ H1 :=
  comp_rel (x := fun i => .int (lo + i)) (fun _ y _ => R y) hn (fun _ _ => Nat.le_refl _) (fun _ _ h _ => h) (fun _ _ _ _ _ _ y => y) he (fun _ _ _ _ _ r => r) (fun _ _ _ _ _ _ _ r => r)
    fun D H ys h1 h2 h3 h4 h5 => fin D H ys h1 h2 h3 h4 fun y hy => by
      obtain ⟨i, hi⟩ := List.getElem?_of_mem hy
      exact h5 i y hi
theorem ints_of (C : Int → Prop) : ∀ ys : List V, (∀ y ∈ ys, ∃ n, y = .int n ∧ C n) → ∃ rs : List Int, ys = rs.map V.int ∧ ∀ a ∈ rs, C a
  | [], _ => ⟨[], rfl, fun a h => by cases h⟩
  | y :: r, h => by
    obtain ⟨n, rfl, c⟩ := h y List.mem_cons_self
    obtain ⟨rs, rfl, d⟩ := ints_of C r fun z hz => h z (List.mem_cons_of_mem _ hz)
    exact ⟨n :: rs, rfl, fun a ha => by rcases List.mem_cons.mp ha with rfl | ha; exact c; exact d a ha⟩
theorem seq_name {t u : TS} {D : Ends} {σ : St} {H : Hp} (h : ∀ N : St → Hp → Prop, (∀ σ H, u D σ H → N σ H) → t { D with nx := N } σ H) : tSeq t u D σ H := h (u D) fun _ _ z => z
def sp_draws (K : PySem.W.Frag) : Sp := fun vs H Q _ => ∃ (a : Addr) (ns : List Int), vs = [.ref a] ∧ SqL K H a (ns.map V.int) ∧ ∀ (sd il : Addr) (h : Sh) (H' : Hp), Same H H' → h.ok → ShAt H' sd il h → Q (.ref sd) H'
theorem h_draws (T : Txt K mg A) : Has P w K mg base 2 "_law_draws" ["_law_script"] (sp_draws K) := by
  have D_law_cell_at := h_cell_at (P := P) (w := w) (base := base) T
  refine T.law_draws.has sc_law_draws (fun vs H Q E h => ?_) (fun f cdv A' outer s' H vs Q E hr hu hh => ?_)
  · obtain ⟨a, ns, rfl, _⟩ := h
    rfl
  · obtain ⟨a, ns, rfl, hS, q⟩ := hh
    refine ⟨_, (pss_cons (ps_set (i := 1) sc_law_draws.nd rfl (Or.inl rfl) (pe_dnewK))
    (pss_cons (ps_asg (pe_op o_mod (pe_callD D_law_cell_at hr (pa_cons (fv 0) (pa_cons (pe_int) pa_nil))) (pe_int)) (pg_sub (fv 1) (pe_str) (st_all hu set_list)))
    (pss_cons (ps_if (pt_cmpR (o_eqU hu) (pe_op o_mod (pe_op o_fdiv (pe_callD D_law_cell_at hr (pa_cons (fv 0) (pa_cons (pe_int) pa_nil))) (pe_int)) (pe_int)) (pe_int) (nomark _))
      (pss_one (ps_asg (pe_op o_add (pe_int) (pe_op o_mod (pe_op o_fdiv (pe_callD D_law_cell_at hr (pa_cons (fv 0) (pa_cons (pe_int) pa_nil))) (pe_int)) (pe_int))) (pg_sub (fv 1) (pe_str) (st_all hu set_list))))
      pss_nil)
    (pss_cons (ps_if (pt_cmpR (o_eqU hu) (pe_op o_mod (pe_op o_fdiv (pe_callD D_law_cell_at hr (pa_cons (fv 0) (pa_cons (pe_int) pa_nil))) (pe_int)) (pe_int)) (pe_int) (nomark _))
      (pss_one (ps_asg (pe_op o_mod (pe_op o_fdiv (pe_callD D_law_cell_at hr (pa_cons (fv 0) (pa_cons (pe_int) pa_nil))) (pe_int)) (pe_op o_pow (pe_int) (pe_int))) (pg_sub (fv 1) (pe_str) (st_all hu set_list))))
      pss_nil)
    (pss_cons (ps_asg (pe_ix (ix_all hu) (pe_lst (pa_cons (pe_str) (pa_cons (pe_str) (pa_cons (pe_ix (ix_all hu) (fv 1) (pe_str) (fun _ _ => rfl)) pa_nil)))) (pe_op o_mod (pe_callD D_law_cell_at hr (pa_cons (fv 0) (pa_cons (pe_int) pa_nil))) (pe_int)) (fun _ _ => rfl)) (pg_sub (fv 1) (pe_str) (st_all hu set_list)))
    (pss_cons (ps_asg (pe_op o_add (pe_int) (pe_op o_mod (pe_callD D_law_cell_at hr (pa_cons (fv 0) (pa_cons (pe_int) pa_nil))) (pe_int))) (pg_sub (fv 1) (pe_str) (st_all hu set_list)))
    (pss_cons (ps_asg (pe_comp (N := ["_law_k", "_law_script"]) (own := 1) (fr := [0]) (CompOk.of (by kernel_rfl!)) rfl (pi_range1 rfl T.z_range (pa_cons (pe_int) pa_nil)) (fun b => pg_name (i := 0) (show List.Nodup (["_law_k", "_law_script"] : List PySem.Str) by decide +kernel) rfl (by first | exact Or.inl rfl | exact Or.inr rfl)) (fun b => pf_nil) (fun b => pe_op o_mod (pe_callD D_law_cell_at hr (pa_cons (fv 1) (pa_cons (pe_op o_add (pe_int) (fv 0)) pa_nil))) (pe_int))) (pg_sub (fv 1) (pe_str) (st_all hu set_list)))
    (pss_cons (ps_asg (pe_ix (ix_all hu) (pe_lst (pa_cons (pe_int) (pa_cons (pe_int) (pa_cons (pe_int) (pa_cons (pe_op o_mod (pe_op o_fdiv (pe_callD D_law_cell_at hr (pa_cons (fv 0) (pa_cons (pe_int) pa_nil))) (pe_int)) (pe_op o_pow (pe_int) (pe_int))) pa_nil))))) (pe_op o_mod (pe_callD D_law_cell_at hr (pa_cons (fv 0) (pa_cons (pe_int) pa_nil))) (pe_int)) (fun _ _ => rfl)) (pg_sub (fv 1) (pe_str) (st_all hu set_list)))
    (pss_cons (ps_asg (pe_op o_mod (pe_callD D_law_cell_at hr (pa_cons (fv 0) (pa_cons (pe_int) pa_nil))) (pe_int)) (pg_sub (fv 1) (pe_str) (st_all hu set_list)))
    (pss_cons (ps_asg (pe_op o_add (pe_int) (pe_op o_mod (pe_op o_fdiv (pe_callD D_law_cell_at hr (pa_cons (fv 0) (pa_cons (pe_int) pa_nil))) (pe_int)) (pe_int))) (pg_sub (fv 1) (pe_str) (st_all hu set_list)))
    (pss_cons (ps_asg (pe_op o_mod (pe_op o_fdiv (pe_callD D_law_cell_at hr (pa_cons (fv 0) (pa_cons (pe_int) pa_nil))) (pe_int)) (pe_int)) (pg_sub (fv 1) (pe_str) (st_all hu set_list)))
    (pss_cons (ps_asg (pe_op o_mod (pe_callD D_law_cell_at hr (pa_cons (fv 0) (pa_cons (pe_int) pa_nil))) (pe_int)) (pg_sub (fv 1) (pe_str) (st_all hu set_list)))
    (pss_cons (ps_asg (pe_op o_mod (pe_callD D_law_cell_at hr (pa_cons (fv 0) (pa_cons (pe_int) pa_nil))) (pe_int)) (pg_sub (fv 1) (pe_str) (st_all hu set_list)))
    (pss_cons (ps_asg (pe_op o_mod (pe_op o_fdiv (pe_callD D_law_cell_at hr (pa_cons (fv 0) (pa_cons (pe_int) pa_nil))) (pe_int)) (pe_int)) (pg_sub (fv 1) (pe_str) (st_all hu set_list)))
    (pss_one (ps_ret (fv 1))))))))))))))))), ?_⟩
    refine fun sd hsd => ?_
    have s1 : Same H (upd H sd (HO.dK [])) := Same.upd hsd _
    have e1 : (upd H sd (HO.dK [])) sd = some (.dK []) := upd_same
    generalize upd H sd (HO.dK []) = H1 at s1 e1 ⊢
    have big : (0 : Int) < 10 ^ (12 : Int).toNat := by decide
    have st : ∀ {H2 : Hp} (ks ks' : List (Key × V)) (k : Str) (v : V), Same H H2 → putK ks (.inr k) v = ks' → Same H (upd H2 sd (.dK (putK ks (.inr k) v))) ∧ (upd H2 sd (.dK (putK ks (.inr k) v))) sd = some (.dK ks') := fun ks ks' k v s2 e => ⟨Same.out s2 hsd _, by rw [upd_same, e]⟩
    refine ⟨a, ns, 0, rfl, s1.seq hS, by decide, fun c0 => ⟨(by show (0 : Int) < 10; decide), _, DPut.k (k := .inr "count") e1 (show 0 < sizeLine by decide), ?_⟩⟩
    have i0 : In (c0 % 10) := ⟨(mod_in c0 (by decide)).1, by have := (mod_in c0 (show (0 : Int) < 10 by decide)).2; omega⟩
    obtain ⟨s2, e2⟩ := st [] [(.inr "count", .int (c0 % 10))] "count" (.int (c0 % 10)) s1 rfl
    generalize upd H1 sd (HO.dK (putK [] (.inr "count") (.int (c0 % 10)))) = H2 at s2 e2 ⊢
    generalize c0 % 10 = c at i0 e2 ⊢
    dsimp only
    refine seq_name fun N1 KN1 => ?_
    have tail1 : ∀ (c : Int) (H2 : Hp), In c → Same H H2 → H2 sd = some (.dK [(.inr "count", .int c)]) → N1 [some (.ref a), some (.ref sd)] H2 := by
      intro c H2 i0 s2 e2
      refine KN1 _ _ ?_
      refine seq_name fun N2 KN2 => ?_
      have tail2 : ∀ (c : Int) (H2 : Hp), In c → Same H H2 → H2 sd = some (.dK [(.inr "count", .int c)]) → N2 [some (.ref a), some (.ref sd)] H2 := by
        intro c H2 i0 s2 e2
        refine KN2 _ _ ?_
        refine ⟨_, DGet.k (k := .inr "count") e2, (show 3 ≤ sizeLine by decide), fun l3 hl3 => ?_⟩
        have s3 : Same H2 (upd H2 l3 (HO.lst [V.str "t", .str "g", .int c])) := Same.upd hl3 _
        have e3 : (upd H2 l3 (HO.lst [V.str "t", .str "g", .int c])) l3 = some (.lst [V.str "t", .str "g", .int c]) := upd_same
        generalize upd H2 l3 (HO.lst [V.str "t", .str "g", .int c]) = H3 at s3 e3 ⊢
        refine ⟨a, ns, 1, rfl, (s2.trans s3).seq hS, by decide, fun n1 => ⟨(by show (0 : Int) < 3; decide), ?_⟩⟩
        have ht : ∃ th : Th, atI [V.str "t", .str "g", .int c] (n1 % 3) = some th.v ∧ (th = .t ∨ th = .g ∨ th = .i c) := by
          obtain ⟨z0, z1⟩ := mod_in n1 (show (0 : Int) < 3 by decide)
          generalize n1 % 3 = z at z0 z1 ⊢
          have : z = 0 ∨ z = 1 ∨ z = 2 := by omega
          rcases this with rfl | rfl | rfl
          · exact ⟨.t, rfl, .inl rfl⟩
          · exact ⟨.g, rfl, .inr (.inl rfl)⟩
          · exact ⟨.i c, rfl, .inr (.inr rfl)⟩
        obtain ⟨th, ht1, ht2⟩ := ht
        have e3' := s3 _ _ e2
        refine Or.inl ⟨_, _, Or.inl (SqL.of e3), ht1, _, DPut.k (k := .inr "by") e3' (show 1 < sizeLine by decide), ?_⟩
        obtain ⟨s4, e4⟩ := st [(.inr "count", .int c)] [(.inr "count", .int c), (.inr "by", th.v)] "by" th.v (s2.trans s3) rfl
        generalize upd H3 sd (HO.dK (putK [(.inr "count", .int c)] (.inr "by") th.v)) = H4 at s4 e4 ⊢
        refine ⟨a, ns, 2, rfl, s4.seq hS, by decide, fun n2 => ⟨(by show (0 : Int) < 30; decide), _, DPut.k (k := .inr "most") e4 (show 2 < sizeLine by decide), ?_⟩⟩
        have b2 := mod_in n2 (show (0 : Int) < 30 by decide)
        obtain ⟨s5, e5⟩ := st [(.inr "count", .int c), (.inr "by", th.v)] [(.inr "count", .int c), (.inr "by", th.v), (.inr "most", .int (1 + n2 % 30))] "most" (.int (1 + n2 % 30)) s4 rfl
        generalize upd H4 sd (HO.dK (putK [(.inr "count", .int c), (.inr "by", th.v)] (.inr "most") (.int (1 + n2 % 30)))) = H5 at s5 e5 ⊢
        generalize n2 % 30 = most at b2 e5 ⊢
        refine ⟨6, rfl, by decide, by decide, comp_relR (n := 6) (fun y => ∃ n, y = .int n ∧ 0 ≤ n ∧ n ≤ 20) (by decide) (fun b i Hc G hi sc k => ?_) (fun il Hc ys hD sc eD ly ry => ?_)⟩
        · refine ⟨a, ns, _, rfl, (s5.trans sc).seq hS, by omega, fun n => ⟨(by show (0 : Int) < 21; decide), k _ _ (Same.refl _) ⟨_, rfl, (mod_in n (by decide)).1, ?_⟩⟩⟩
          have := (mod_in n (show (0 : Int) < 21 by decide)).2
          omega
        obtain ⟨rs, rfl, hrs⟩ := ints_of (fun n => 0 ≤ n ∧ n ≤ 20) ys ry
        rw [List.length_map] at ly
        match rs, ly, hrs, eD with
        | [j0, j1, j2, j3, j4, j5], _, hrs, eD =>
        have o0 := hrs j0 (by simp)
        have o1 := hrs j1 (by simp)
        have o2 := hrs j2 (by simp)
        have o3 := hrs j3 (by simp)
        have o4 := hrs j4 (by simp)
        have o5 := hrs j5 (by simp)
        refine ⟨_, DPut.k (k := .inr "idles") (sc _ _ e5) (show 3 < sizeLine by decide), ?_⟩
        have ilsd : il ≠ sd := fun z => by rw [z, e5] at hD; cases hD
        have il0 : ∀ {H2 : Hp} (u : HO), H2 il = some (.lst [V.int j0, .int j1, .int j2, .int j3, .int j4, .int j5]) → (upd H2 sd u) il = some (.lst [V.int j0, .int j1, .int j2, .int j3, .int j4, .int j5]) := fun u z => by rw [upd_ne ilsd]; exact z
        obtain ⟨s6, e6⟩ := st [(.inr "count", .int c), (.inr "by", th.v), (.inr "most", .int (1 + most))] [(.inr "count", .int c), (.inr "by", th.v), (.inr "most", .int (1 + most)), (.inr "idles", .ref il)] "idles" (.ref il) (s5.trans sc) rfl
        have il6 := il0 (.dK (putK [(.inr "count", .int c), (.inr "by", th.v), (.inr "most", .int (1 + most))] (.inr "idles") (.ref il))) eD
        generalize upd Hc sd (HO.dK (putK [(.inr "count", .int c), (.inr "by", th.v), (.inr "most", .int (1 + most))] (.inr "idles") (.ref il))) = H6 at s6 e6 il6 ⊢
        refine ⟨a, ns, 9, rfl, s6.seq hS, by decide, fun n9 => ⟨⟨by decide, by decide⟩, ⟨by decide, by decide, by decide⟩, big, (show 4 ≤ sizeLine by decide), fun l7 hl7 => ?_⟩⟩
        have x9 : In (n9 / 4 % 10 ^ (12 : Int).toNat) := mod_in (n9 / 4) big
        dsimp only
        generalize n9 / 4 % 10 ^ (12 : Int).toNat = xx at x9 ⊢
        have s7 : Same H6 (upd H6 l7 (HO.lst [V.int 0, .int 1, .int 50, .int xx])) := Same.upd hl7 _
        have e7 : (upd H6 l7 (HO.lst [V.int 0, .int 1, .int 50, .int xx])) l7 = some (.lst [V.int 0, .int 1, .int 50, .int xx]) := upd_same
        generalize upd H6 l7 (HO.lst [V.int 0, .int 1, .int 50, .int xx]) = H7 at s7 e7 ⊢
        refine ⟨a, ns, 9, rfl, (s6.trans s7).seq hS, by decide, fun m9 => ⟨(by show (0 : Int) < 4; decide), ?_⟩⟩
        have hv : ∃ v : Int, atI [V.int 0, .int 1, .int 50, .int xx] (m9 % 4) = some (.int v) ∧ In v := by
          obtain ⟨z0, z1⟩ := mod_in m9 (show (0 : Int) < 4 by decide)
          generalize m9 % 4 = z at z0 z1 ⊢
          have : z = 0 ∨ z = 1 ∨ z = 2 ∨ z = 3 := by omega
          rcases this with rfl | rfl | rfl | rfl
          · exact ⟨0, rfl, by decide, by decide⟩
          · exact ⟨1, rfl, by decide, by decide⟩
          · exact ⟨50, rfl, by decide, by decide⟩
          · exact ⟨xx, rfl, x9⟩
        obtain ⟨sv, hv1, hv2⟩ := hv
        refine Or.inl ⟨_, _, Or.inl (SqL.of e7), hv1, _, DPut.k (k := .inr "set") (s7 _ _ e6) (show 4 < sizeLine by decide), ?_⟩
        obtain ⟨s8, e8⟩ := st [(.inr "count", .int c), (.inr "by", th.v), (.inr "most", .int (1 + most)), (.inr "idles", .ref il)] [(.inr "count", .int c), (.inr "by", th.v), (.inr "most", .int (1 + most)), (.inr "idles", .ref il), (.inr "set", .int sv)] "set" (.int sv) (s6.trans s7) rfl
        have il8 := il0 (.dK (putK [(.inr "count", .int c), (.inr "by", th.v), (.inr "most", .int (1 + most)), (.inr "idles", .ref il)] (.inr "set") (.int sv))) (s7 _ _ il6)
        generalize upd H7 sd (HO.dK (putK [(.inr "count", .int c), (.inr "by", th.v), (.inr "most", .int (1 + most)), (.inr "idles", .ref il)] (.inr "set") (.int sv))) = H8 at s8 e8 il8 ⊢
        refine ⟨a, ns, 10, rfl, s8.seq hS, by decide, fun z8 => ⟨(by show (0 : Int) < 5; decide), _, DPut.k (k := .inr "inner") e8 (show 5 < sizeLine by decide), ?_⟩⟩
        have b_inner := mod_in (z8) (show (0 : Int) < 5 by decide)
        try dsimp only
        generalize z8 % 5 = m_inner at b_inner ⊢
        obtain ⟨s9, e9⟩ := st [(.inr "count", .int c), (.inr "by", th.v), (.inr "most", .int (1 + most)), (.inr "idles", .ref il), (.inr "set", .int sv)] [(.inr "count", .int c), (.inr "by", th.v), (.inr "most", .int (1 + most)), (.inr "idles", .ref il), (.inr "set", .int sv), (.inr "inner", .int m_inner)] "inner" (.int m_inner) (s8) rfl
        have il9 := il0 (.dK (putK [(.inr "count", .int c), (.inr "by", th.v), (.inr "most", .int (1 + most)), (.inr "idles", .ref il), (.inr "set", .int sv)] (.inr "inner") (.int m_inner))) il8
        generalize upd H8 sd (HO.dK (putK [(.inr "count", .int c), (.inr "by", th.v), (.inr "most", .int (1 + most)), (.inr "idles", .ref il), (.inr "set", .int sv)] (.inr "inner") (.int m_inner))) = H9 at s9 e9 il9 ⊢
        refine ⟨a, ns, 10, rfl, s9.seq hS, by decide, fun z9 => ⟨⟨by decide, by decide⟩, (by show (0 : Int) < 3; decide), _, DPut.k (k := .inr "innermost") e9 (show 6 < sizeLine by decide), ?_⟩⟩
        have b_innermost := mod_in (z9 / 5) (show (0 : Int) < 3 by decide)
        try dsimp only
        generalize z9 / 5 % 3 = m_innermost at b_innermost ⊢
        obtain ⟨s10, e10⟩ := st [(.inr "count", .int c), (.inr "by", th.v), (.inr "most", .int (1 + most)), (.inr "idles", .ref il), (.inr "set", .int sv), (.inr "inner", .int m_inner)] [(.inr "count", .int c), (.inr "by", th.v), (.inr "most", .int (1 + most)), (.inr "idles", .ref il), (.inr "set", .int sv), (.inr "inner", .int m_inner), (.inr "innermost", .int (1 + m_innermost))] "innermost" (.int (1 + m_innermost)) (s9) rfl
        have il10 := il0 (.dK (putK [(.inr "count", .int c), (.inr "by", th.v), (.inr "most", .int (1 + most)), (.inr "idles", .ref il), (.inr "set", .int sv), (.inr "inner", .int m_inner)] (.inr "innermost") (.int (1 + m_innermost)))) il9
        generalize upd H9 sd (HO.dK (putK [(.inr "count", .int c), (.inr "by", th.v), (.inr "most", .int (1 + most)), (.inr "idles", .ref il), (.inr "set", .int sv), (.inr "inner", .int m_inner)] (.inr "innermost") (.int (1 + m_innermost)))) = H10 at s10 e10 il10 ⊢
        refine ⟨a, ns, 10, rfl, s10.seq hS, by decide, fun z10 => ⟨⟨by decide, by decide⟩, (by show (0 : Int) < 2; decide), _, DPut.k (k := .inr "innerlast") e10 (show 7 < sizeLine by decide), ?_⟩⟩
        have b_innerlast := mod_in (z10 / 15) (show (0 : Int) < 2 by decide)
        try dsimp only
        generalize z10 / 15 % 2 = m_innerlast at b_innerlast ⊢
        obtain ⟨s11, e11⟩ := st [(.inr "count", .int c), (.inr "by", th.v), (.inr "most", .int (1 + most)), (.inr "idles", .ref il), (.inr "set", .int sv), (.inr "inner", .int m_inner), (.inr "innermost", .int (1 + m_innermost))] [(.inr "count", .int c), (.inr "by", th.v), (.inr "most", .int (1 + most)), (.inr "idles", .ref il), (.inr "set", .int sv), (.inr "inner", .int m_inner), (.inr "innermost", .int (1 + m_innermost)), (.inr "innerlast", .int m_innerlast)] "innerlast" (.int m_innerlast) (s10) rfl
        have il11 := il0 (.dK (putK [(.inr "count", .int c), (.inr "by", th.v), (.inr "most", .int (1 + most)), (.inr "idles", .ref il), (.inr "set", .int sv), (.inr "inner", .int m_inner), (.inr "innermost", .int (1 + m_innermost))] (.inr "innerlast") (.int m_innerlast))) il10
        generalize upd H10 sd (HO.dK (putK [(.inr "count", .int c), (.inr "by", th.v), (.inr "most", .int (1 + most)), (.inr "idles", .ref il), (.inr "set", .int sv), (.inr "inner", .int m_inner), (.inr "innermost", .int (1 + m_innermost))] (.inr "innerlast") (.int m_innerlast))) = H11 at s11 e11 il11 ⊢
        refine ⟨a, ns, 11, rfl, s11.seq hS, by decide, fun z11 => ⟨(by show (0 : Int) < 12; decide), _, DPut.k (k := .inr "stop") e11 (show 8 < sizeLine by decide), ?_⟩⟩
        have b_stop := mod_in (z11) (show (0 : Int) < 12 by decide)
        try dsimp only
        generalize z11 % 12 = m_stop at b_stop ⊢
        obtain ⟨s12, e12⟩ := st [(.inr "count", .int c), (.inr "by", th.v), (.inr "most", .int (1 + most)), (.inr "idles", .ref il), (.inr "set", .int sv), (.inr "inner", .int m_inner), (.inr "innermost", .int (1 + m_innermost)), (.inr "innerlast", .int m_innerlast)] [(.inr "count", .int c), (.inr "by", th.v), (.inr "most", .int (1 + most)), (.inr "idles", .ref il), (.inr "set", .int sv), (.inr "inner", .int m_inner), (.inr "innermost", .int (1 + m_innermost)), (.inr "innerlast", .int m_innerlast), (.inr "stop", .int m_stop)] "stop" (.int m_stop) (s11) rfl
        have il12 := il0 (.dK (putK [(.inr "count", .int c), (.inr "by", th.v), (.inr "most", .int (1 + most)), (.inr "idles", .ref il), (.inr "set", .int sv), (.inr "inner", .int m_inner), (.inr "innermost", .int (1 + m_innermost)), (.inr "innerlast", .int m_innerlast)] (.inr "stop") (.int m_stop))) il11
        generalize upd H11 sd (HO.dK (putK [(.inr "count", .int c), (.inr "by", th.v), (.inr "most", .int (1 + most)), (.inr "idles", .ref il), (.inr "set", .int sv), (.inr "inner", .int m_inner), (.inr "innermost", .int (1 + m_innermost)), (.inr "innerlast", .int m_innerlast)] (.inr "stop") (.int m_stop))) = H12 at s12 e12 il12 ⊢
        refine ⟨a, ns, 12, rfl, s12.seq hS, by decide, fun z12 => ⟨(by show (0 : Int) < 2; decide), _, DPut.k (k := .inr "twice") e12 (show 9 < sizeLine by decide), ?_⟩⟩
        have b_twice := mod_in (z12) (show (0 : Int) < 2 by decide)
        try dsimp only
        generalize z12 % 2 = m_twice at b_twice ⊢
        obtain ⟨s13, e13⟩ := st [(.inr "count", .int c), (.inr "by", th.v), (.inr "most", .int (1 + most)), (.inr "idles", .ref il), (.inr "set", .int sv), (.inr "inner", .int m_inner), (.inr "innermost", .int (1 + m_innermost)), (.inr "innerlast", .int m_innerlast), (.inr "stop", .int m_stop)] [(.inr "count", .int c), (.inr "by", th.v), (.inr "most", .int (1 + most)), (.inr "idles", .ref il), (.inr "set", .int sv), (.inr "inner", .int m_inner), (.inr "innermost", .int (1 + m_innermost)), (.inr "innerlast", .int m_innerlast), (.inr "stop", .int m_stop), (.inr "twice", .int m_twice)] "twice" (.int m_twice) (s12) rfl
        have il13 := il0 (.dK (putK [(.inr "count", .int c), (.inr "by", th.v), (.inr "most", .int (1 + most)), (.inr "idles", .ref il), (.inr "set", .int sv), (.inr "inner", .int m_inner), (.inr "innermost", .int (1 + m_innermost)), (.inr "innerlast", .int m_innerlast), (.inr "stop", .int m_stop)] (.inr "twice") (.int m_twice))) il12
        generalize upd H12 sd (HO.dK (putK [(.inr "count", .int c), (.inr "by", th.v), (.inr "most", .int (1 + most)), (.inr "idles", .ref il), (.inr "set", .int sv), (.inr "inner", .int m_inner), (.inr "innermost", .int (1 + m_innermost)), (.inr "innerlast", .int m_innerlast), (.inr "stop", .int m_stop)] (.inr "twice") (.int m_twice))) = H13 at s13 e13 il13 ⊢
        refine ⟨a, ns, 12, rfl, s13.seq hS, by decide, fun z13 => ⟨⟨by decide, by decide⟩, (by show (0 : Int) < 2; decide), _, DPut.k (k := .inr "ahead") e13 (show 10 < sizeLine by decide), ?_⟩⟩
        have b_ahead := mod_in (z13 / 2) (show (0 : Int) < 2 by decide)
        try dsimp only
        generalize z13 / 2 % 2 = m_ahead at b_ahead ⊢
        obtain ⟨s14, e14⟩ := st [(.inr "count", .int c), (.inr "by", th.v), (.inr "most", .int (1 + most)), (.inr "idles", .ref il), (.inr "set", .int sv), (.inr "inner", .int m_inner), (.inr "innermost", .int (1 + m_innermost)), (.inr "innerlast", .int m_innerlast), (.inr "stop", .int m_stop), (.inr "twice", .int m_twice)] [(.inr "count", .int c), (.inr "by", th.v), (.inr "most", .int (1 + most)), (.inr "idles", .ref il), (.inr "set", .int sv), (.inr "inner", .int m_inner), (.inr "innermost", .int (1 + m_innermost)), (.inr "innerlast", .int m_innerlast), (.inr "stop", .int m_stop), (.inr "twice", .int m_twice), (.inr "ahead", .int m_ahead)] "ahead" (.int m_ahead) (s13) rfl
        have il14 := il0 (.dK (putK [(.inr "count", .int c), (.inr "by", th.v), (.inr "most", .int (1 + most)), (.inr "idles", .ref il), (.inr "set", .int sv), (.inr "inner", .int m_inner), (.inr "innermost", .int (1 + m_innermost)), (.inr "innerlast", .int m_innerlast), (.inr "stop", .int m_stop), (.inr "twice", .int m_twice)] (.inr "ahead") (.int m_ahead))) il13
        generalize upd H13 sd (HO.dK (putK [(.inr "count", .int c), (.inr "by", th.v), (.inr "most", .int (1 + most)), (.inr "idles", .ref il), (.inr "set", .int sv), (.inr "inner", .int m_inner), (.inr "innermost", .int (1 + m_innermost)), (.inr "innerlast", .int m_innerlast), (.inr "stop", .int m_stop), (.inr "twice", .int m_twice)] (.inr "ahead") (.int m_ahead))) = H14 at s14 e14 il14 ⊢
        refine q sd il ⟨c, th, 1 + most, j0, j1, j2, j3, j4, j5, sv, m_inner, 1 + m_innermost, m_innerlast, m_stop, m_twice, m_ahead⟩ H14 s14 ⟨i0, ht2, ⟨by show 1 ≤ 1 + most; omega, by show 1 + most ≤ 30; omega⟩, o0, o1, o2, o3, o4, o5, hv2, ⟨b_inner.1, by show m_inner ≤ 4; omega⟩, ⟨by show 1 ≤ 1 + m_innermost; omega, by show 1 + m_innermost ≤ 3; omega⟩, by show m_innerlast = 0 ∨ m_innerlast = 1; omega, ⟨b_stop.1, by show m_stop ≤ 11; omega⟩, by show m_twice = 0 ∨ m_twice = 1; omega, by show m_ahead = 0 ∨ m_ahead = 1; omega⟩ ⟨e14, il14⟩
      refine ⟨a, ns, 0, rfl, s2.seq hS, by decide, fun d0 => ⟨⟨by decide, by decide⟩, (by show (0 : Int) < 3; decide), rfl, _, rfl, ite2 (fun _ => ?_) (fun _ => tail2 c H2 i0 s2 e2)⟩⟩
      refine ⟨a, ns, 0, rfl, s2.seq hS, by decide, fun d1 => ⟨⟨by decide, by decide⟩, ⟨by decide, by decide, by decide⟩, big, _, DPut.k (k := .inr "count") e2 (show 1 < sizeLine by decide), ?_⟩⟩
      obtain ⟨s3, e3⟩ := st [(.inr "count", .int c)] [(.inr "count", .int (d1 / 30 % 10 ^ (12 : Int).toNat))] "count" (.int (d1 / 30 % 10 ^ (12 : Int).toNat)) s2 rfl
      exact tail2 _ _ (mod_in _ big) s3 e3
    refine ⟨a, ns, 0, rfl, s2.seq hS, by decide, fun d0 => ⟨⟨by decide, by decide⟩, (by show (0 : Int) < 3; decide), rfl, _, rfl, ite2 (fun _ => ?_) (fun _ => tail1 c H2 i0 s2 e2)⟩⟩
    refine ⟨a, ns, 0, rfl, s2.seq hS, by decide, fun d1 => ⟨⟨by decide, by decide⟩, (by show (0 : Int) < 11; decide), _, DPut.k (k := .inr "count") e2 (show 1 < sizeLine by decide), ?_⟩⟩
    obtain ⟨s3, e3⟩ := st [(.inr "count", .int c)] [(.inr "count", .int (30 + d1 / 30 % 11))] "count" (.int (30 + d1 / 30 % 11)) s2 rfl
    have b := mod_in (d1 / 30) (show (0 : Int) < 11 by decide)
    exact tail1 _ _ ⟨by omega, by omega⟩ s3 e3
end
end K25

set_option Elab.async false
set_option linter.all false
set_option maxRecDepth 100000
set_option maxHeartbeats 4000000
namespace K25
open PySem L2
section
variable {P : Program} {w : World} {K : PySem.W.Frag} {mg : Str → Option Value} {base : Heap} {A : Adr}
theorem kit_si : PySem.W.kitOne K (.type "str") (.type "int") = some false := by kernel_rfl!
theorem kit_ti : PySem.W.kitOne K (.type "tuple") (.type "int") = some false := by kernel_rfl!
theorem kit_li : PySem.W.kitOne K (.type "list") (.type "int") = some false := by kernel_rfl!
theorem kit_ts : PySem.W.kitOne K (.type "tuple") (.type "str") = some false := by kernel_rfl!
theorem kit_ls : PySem.W.kitOne K (.type "list") (.type "str") = some false := by kernel_rfl!
theorem kit_tl : PySem.W.kitOne K (.type "tuple") (.type "list") = some false := by kernel_rfl!
theorem kit_lt : PySem.W.kitOne K (.type "list") (.type "tuple") = some false := by kernel_rfl!
def flat : V → Prop
  | .non => True
  | .int _ => True
  | .str _ => True
  | _ => False
def SameV (H : Hp) : Nat → V → V → Prop
  | 0, v, u => v = u ∧ flat v
  | d + 1, v, u => (v = u ∧ flat v) ∨ ∃ p q xs ys, v = .ref p ∧ u = .ref q ∧ ((H p = some (.tup xs) ∧ H q = some (.tup ys)) ∨ (H p = some (.lst xs) ∧ H q = some (.lst ys))) ∧ xs.length ≤ 1000 ∧ PySem.Paired (SameV H d) xs ys
def sp_same (d : Nat) : Sp := fun vs H Q _ => ∃ v u, vs = [v, u] ∧ SameV H d v u ∧ Q (.bl true) H
def sp_sameN : Nat → Sp
  | 0 => fun _ _ _ _ => False
  | d + 1 => sp_same d
theorem h_same (T : Txt K mg A) : ∀ n, Has P w K mg base (n + 1) "_law_same" ["_law_found", "_law_due"] (sp_sameN n)
  | 0 => T.law_same.has (k := 0) sc_law_same (fun _ _ _ _ h => h.elim) (fun _ _ _ _ _ _ _ _ _ _ _ h => h.elim)
  | d + 1 => by
    have D_law_same := h_same T d
    refine T.law_same.has (k := d + 1) sc_law_same (fun vs H Q E h => ?_) (fun f cdv A' outer s' H vs Q E hr hu h => ?_)
    · obtain ⟨v, u, rfl, _⟩ := h
      rfl
    · obtain ⟨v, u, rfl, S, q⟩ := h
      have S' : (v = u ∧ flat v) ∨ ∃ e p r xs ys, d = e + 1 ∧ v = .ref p ∧ u = .ref r ∧ ((H p = some (.tup xs) ∧ H r = some (.tup ys)) ∨ (H p = some (.lst xs) ∧ H r = some (.lst ys))) ∧ xs.length ≤ 1000 ∧ PySem.Paired (SameV H e) xs ys := by
        cases d with
        | zero => exact Or.inl S
        | succ d =>
          rcases S with S | ⟨p, r, xs, ys, S⟩
          · exact Or.inl S
          · exact Or.inr ⟨d, p, r, xs, ys, rfl, S⟩
      refine ⟨_, (pss_cons (ps_if (pt_cmpR (o_is) (fv 1) (pe_non) (nomark _))
      (pss_one (ps_ret (pe_cmpR (o_is) (fv 0) (pe_non) (nomark _))))
      pss_nil)
    (pss_cons (ps_if (pt_tru (pe_callB c_isinst rfl T.z_isinstance (by boot_by_name) (pa_cons (fv 1) (pa_cons (pe_bltn (v := .ty "int") rfl T.z_int (by boot_by_name) rfl) pa_nil))) (fun _ => rfl))
      (pss_one (ps_ret (pe_and (pe_callB c_isinst rfl T.z_isinstance (by boot_by_name) (pa_cons (fv 0) (pa_cons (pe_bltn (v := .ty "int") rfl T.z_int (by boot_by_name) rfl) pa_nil))) (pe_and (pe_notV (pe_callB c_isinst rfl T.z_isinstance (by boot_by_name) (pa_cons (fv 0) (pa_cons (pe_bltn (v := .ty "bool") rfl T.z_bool (by boot_by_name) rfl) pa_nil)))) (pe_one (pe_cmpR (o_eqU hu) (fv 0) (fv 1) (nomark _)))))))
      pss_nil)
    (pss_cons (ps_if (pt_tru (pe_callB c_isinst rfl T.z_isinstance (by boot_by_name) (pa_cons (fv 1) (pa_cons (pe_bltn (v := .ty "str") rfl T.z_str (by boot_by_name) rfl) pa_nil))) (fun _ => rfl))
      (pss_one (ps_ret (pe_and (pe_callB c_isinst rfl T.z_isinstance (by boot_by_name) (pa_cons (fv 0) (pa_cons (pe_bltn (v := .ty "str") rfl T.z_str (by boot_by_name) rfl) pa_nil))) (pe_one (pe_cmpR (o_eqU hu) (fv 0) (fv 1) (nomark _))))))
      pss_nil)
    (pss_cons (ps_if (PW.pt (pw_or (pt_cmpR (o_ne hu) (pe_callB c_isinst rfl T.z_isinstance (by boot_by_name) (pa_cons (fv 1) (pa_cons (pe_bltn (v := .ty "list") rfl T.z_list (by boot_by_name) rfl) pa_nil))) (pe_callB c_isinst rfl T.z_isinstance (by boot_by_name) (pa_cons (fv 0) (pa_cons (pe_bltn (v := .ty "list") rfl T.z_list (by boot_by_name) rfl) pa_nil))) (nomark _)) (pw_or1 (pt_cmpR (o_ne hu) (pe_callB c_isinst rfl T.z_isinstance (by boot_by_name) (pa_cons (fv 1) (pa_cons (pe_bltn (v := .ty "tuple") rfl T.z_tuple (by boot_by_name) rfl) pa_nil))) (pe_callB c_isinst rfl T.z_isinstance (by boot_by_name) (pa_cons (fv 0) (pa_cons (pe_bltn (v := .ty "tuple") rfl T.z_tuple (by boot_by_name) rfl) pa_nil))) (nomark _)))))
      (pss_one (ps_ret (pe_bl)))
      pss_nil)
    (pss_cons (ps_if (pt_cmpR (o_ne hu) (pe_callB c_lenA rfl T.z_len (by boot_by_name) (pa_cons (fv 0) pa_nil)) (pe_callB c_lenA rfl T.z_len (by boot_by_name) (pa_cons (fv 1) pa_nil)) (nomark _))
      (pss_one (ps_ret (pe_bl)))
      pss_nil)
    (pss_cons (ps_for PassesOwn.never rfl (pi_range1 rfl T.z_range (pa_cons (pe_callB c_lenA rfl T.z_len (by boot_by_name) (pa_cons (fv 1) pa_nil)) pa_nil)) (pg_name (i := 2) sc_law_same.nd rfl (by first | exact Or.inl rfl | exact Or.inr rfl))
      (pss_one (ps_if (pt_not (pt_tru (pe_callD (hj := by omega) D_law_same hr (pa_cons (pe_ix (ix_all hu) (fv 0) (fv 2) (fun _ _ => rfl)) (pa_cons (pe_ix (ix_all hu) (fv 1) (fv 2) (fun _ _ => rfl)) pa_nil))) (fun _ => rfl)))
        (pss_one (ps_ret (pe_bl)))
        pss_nil)))
    (pss_one (ps_ret (pe_bl))))))))), ?_⟩
      rcases S' with ⟨rfl, fl⟩ | ⟨e, p, r, xs, ys, rfl, rfl, rfl, hpq, hl, pr⟩
      · cases v with
        | non => exact ⟨rfl, _, rfl, ite2 (fun _ => ⟨rfl, q⟩) (fun c => absurd rfl c)⟩
        | int i =>
          refine ⟨rfl, _, rfl, ite2 (fun c => absurd (of_decide_eq_true c) (by intro z; cases z)) (fun _ => ?_)⟩
          refine ⟨_, _, _, true, rfl, (fun z => by cases z), .int i, kit_ii, true, rfl, iteT ?_⟩
          refine ⟨_, _, _, true, rfl, (fun z => by cases z), .int i, kit_ii, _, rfl, iteT ?_⟩
          refine ⟨_, _, _, false, rfl, (fun z => by cases z), .int i, kit_ib, false, rfl, _, rfl, iteT ⟨rfl, ?_⟩⟩
          rw [decide_eq_true rfl]
          exact q
        | str y =>
          refine ⟨rfl, _, rfl, ite2 (fun c => absurd (of_decide_eq_true c) (by intro z; cases z)) (fun _ => ?_)⟩
          refine ⟨_, _, _, false, rfl, (fun z => by cases z), .str y, kit_si, false, rfl, iteF ?_⟩
          refine ⟨_, _, _, true, rfl, (fun z => by cases z), .str y, kit_ss, true, rfl, iteT ?_⟩
          refine ⟨_, _, _, true, rfl, (fun z => by cases z), .str y, kit_ss, _, rfl, iteT ⟨rfl, ?_⟩⟩
          rw [decide_eq_true rfl]
          exact q
        | _ => exact fl.elim
      · rcases hpq with ⟨hp, hr'⟩ | ⟨hp, hr'⟩
        ·
          have n1 : ¬ decide (V.ref r = V.non) = true := fun c => absurd (of_decide_eq_true c) (by intro z; cases z)
          have le : xs.length = ys.length := Paired.length pr
          refine ⟨rfl, _, rfl, ite2 (fun c => absurd c n1) (fun _ => ?_)⟩
          refine ⟨_, _, _, false, rfl, (fun z => by cases z), .tup hr', kit_ti, false, rfl, iteF ?_⟩
          refine ⟨_, _, _, false, rfl, (fun z => by cases z), .tup hr', kit_ts, false, rfl, iteF ?_⟩
          refine ⟨_, _, _, false, rfl, (fun z => by cases z), .tup hr', kit_tl, _, _, _, false, rfl, (fun z => by cases z), .tup hp, kit_tl, rfl, _, rfl, ite2 (fun c => absurd c (by decide)) (fun _ => ?_)⟩
          refine ⟨_, _, _, true, rfl, (fun z => by cases z), .tup hr', kit_tt, _, _, _, true, rfl, (fun z => by cases z), .tup hp, kit_tt, rfl, _, rfl, ite2 (fun c => absurd c (by decide)) (fun _ => ?_)⟩
          refine Or.inl ⟨_, _, rfl, Or.inr ⟨_, SqT.of hp, rfl⟩, Or.inl ⟨_, _, rfl, Or.inr ⟨_, SqT.of hr', rfl⟩, rfl, _, rfl, ite2 (fun c => absurd c ?_) (fun _ => ?_)⟩⟩
          · rw [vint, le]
            simp
          refine Or.inl ⟨_, _, rfl, Or.inr ⟨_, SqT.of hr', rfl⟩, (ys.length : Int), rfl, by omega, by omega, ?_⟩
          refine for_range (fun i σ H2 => H2 = H ∧ ∃ z, σ = [some (.ref p), some (.ref r), z]) ⟨rfl, none, rfl⟩ ?_ ?_
          · rintro i σ H2 hi ⟨rfl, z, rfl⟩
            have hi' : i < ys.length := by omega
            have e1 := List.getElem?_eq_getElem (l := xs) (i := i) (by omega)
            obtain ⟨u, e2, su⟩ := paired_get pr e1
            have a1 : atI xs (0 + (i : Int)) = some xs[i] := by rw [Int.zero_add]; exact atI_nat e1
            have a2 : atI ys (0 + (i : Int)) = some u := by rw [Int.zero_add]; exact atI_nat e2
            exact Or.inl ⟨_, _, Or.inr (SqT.of hp), a1, Or.inl ⟨_, _, Or.inr (SqT.of hr'), a2, _, _, rfl, su, true, rfl, iteF ⟨rfl, _, rfl⟩⟩⟩
          · rintro σ H2 ⟨rfl, z, rfl⟩
            exact q
        ·
          have n1 : ¬ decide (V.ref r = V.non) = true := fun c => absurd (of_decide_eq_true c) (by intro z; cases z)
          have le : xs.length = ys.length := Paired.length pr
          refine ⟨rfl, _, rfl, ite2 (fun c => absurd c n1) (fun _ => ?_)⟩
          refine ⟨_, _, _, false, rfl, (fun z => by cases z), .lst hr', kit_li, false, rfl, iteF ?_⟩
          refine ⟨_, _, _, false, rfl, (fun z => by cases z), .lst hr', kit_ls, false, rfl, iteF ?_⟩
          refine ⟨_, _, _, true, rfl, (fun z => by cases z), .lst hr', kit_ll, _, _, _, true, rfl, (fun z => by cases z), .lst hp, kit_ll, rfl, _, rfl, ite2 (fun c => absurd c (by decide)) (fun _ => ?_)⟩
          refine ⟨_, _, _, false, rfl, (fun z => by cases z), .lst hr', kit_lt, _, _, _, false, rfl, (fun z => by cases z), .lst hp, kit_lt, rfl, _, rfl, ite2 (fun c => absurd c (by decide)) (fun _ => ?_)⟩
          refine Or.inl ⟨_, _, rfl, Or.inl ⟨_, SqL.of hp, rfl⟩, Or.inl ⟨_, _, rfl, Or.inl ⟨_, SqL.of hr', rfl⟩, rfl, _, rfl, ite2 (fun c => absurd c ?_) (fun _ => ?_)⟩⟩
          · rw [vint, le]
            simp
          refine Or.inl ⟨_, _, rfl, Or.inl ⟨_, SqL.of hr', rfl⟩, (ys.length : Int), rfl, by omega, by omega, ?_⟩
          refine for_range (fun i σ H2 => H2 = H ∧ ∃ z, σ = [some (.ref p), some (.ref r), z]) ⟨rfl, none, rfl⟩ ?_ ?_
          · rintro i σ H2 hi ⟨rfl, z, rfl⟩
            have hi' : i < ys.length := by omega
            have e1 := List.getElem?_eq_getElem (l := xs) (i := i) (by omega)
            obtain ⟨u, e2, su⟩ := paired_get pr e1
            have a1 : atI xs (0 + (i : Int)) = some xs[i] := by rw [Int.zero_add]; exact atI_nat e1
            have a2 : atI ys (0 + (i : Int)) = some u := by rw [Int.zero_add]; exact atI_nat e2
            exact Or.inl ⟨_, _, Or.inl (SqL.of hp), a1, Or.inl ⟨_, _, Or.inl (SqL.of hr'), a2, _, _, rfl, su, true, rfl, iteF ⟨rfl, _, rfl⟩⟩⟩
          · rintro σ H2 ⟨rfl, z, rfl⟩
            exact q
end
end K25

set_option Elab.async false
set_option linter.all false
set_option maxRecDepth 100000
set_option maxHeartbeats 4000000
namespace K25
open PySem L2
section
variable {P : Program} {w : World} {K : PySem.W.Frag} {mg : Str → Option Value} {base : Heap} {A : Adr}
def S.flat (k : S) : Prop := (∀ w ∈ k.trace, w.length ≤ 1000 ∧ ∀ v ∈ w, K25.flat v) ∧ ∀ w ∈ k.letters, w.length ≤ 1000 ∧ ∀ v ∈ w, K25.flat v
theorem S.flat.tell {k : S} (h : k.flat) (n : Int) {v : V} (hv : K25.flat v) : (k.tell n v).flat := by
  refine ⟨fun w hw => ?_, h.2⟩
  rcases List.mem_append.mp hw with hw | hw
  · exact h.1 w hw
  · rw [List.mem_singleton] at hw
    subst hw
    refine ⟨(show 3 ≤ 1000 by decide), fun u hu => ?_⟩
    simp only [List.mem_cons, List.not_mem_nil, or_false] at hu
    rcases hu with rfl | rfl | rfl
    · trivial
    · trivial
    · exact hv
theorem S.flat.send {k : S} (h : k.flat) (n : Int) (x : Str) (v : Int) : (k.send n x v).flat := by
  refine ⟨(h.tell n (v := .int v) trivial).1, fun w hw => ?_⟩
  rcases List.mem_append.mp hw with hw | hw
  · exact h.2 w hw
  · rw [List.mem_singleton] at hw
    subst hw
    refine ⟨(show 4 ≤ 1000 by decide), fun u hu => ?_⟩
    simp only [List.mem_cons, List.not_mem_nil, or_false] at hu
    rcases hu with rfl | rfl | rfl | rfl <;> trivial
theorem S.flat.idle {k : S} (h : k.flat) (n : Int) : (k.idle n).flat := h
theorem flat_it {f : S → S} (hf : ∀ s, s.flat → (f s).flat) : ∀ (n : Nat) (s : S), s.flat → (itR f n s).flat
  | 0, _, h => h
  | n + 1, s, h => hf _ (flat_it hf n s h)
theorem flat_itC {f : Int → S → S} (hf : ∀ c s, s.flat → (f c s).flat) : ∀ (n : Nat) (s : S), s.flat → (itC f n s).flat
  | 0, _, h => h
  | n + 1, s, h => hf _ _ (flat_itC hf n s h)
theorem flat_test (h : Sh) {s : S} (a c : Int) (f : s.flat) : (testR h s a c).flat := by
  unfold testR
  split
  · exact ((f.tell a (v := .non) trivial).tell (a + 1) (v := .non) trivial).idle _
  · exact (f.tell a (v := .non) trivial).idle _
theorem flat_inner (h : Sh) {s : S} (a c : Int) (f : s.flat) : (innerR h s a c).flat := by
  refine S.flat.idle (flat_it (fun s f => ?_) _ _ (f.tell a (v := .non) trivial)) _
  unfold oneR
  split
  · exact ((f.send _ _ _).tell _ (v := .non) trivial).idle _
  · exact (f.send _ _ _).idle _
theorem flat_follow (h : Sh) {s : S} (a : Int) (f : s.flat) : (followR h s a).flat := by
  refine S.flat.send (S.flat.idle (flat_itC (fun c s f => ?_) _ _ (((f.tell a (v := .non) trivial).tell (a + 1) (v := .non) trivial).tell (a + 2) (v := .non) trivial)) _) _ _ _
  have f2 := ((f.tell (a + 2 + 1) (v := .non) trivial).tell (a + 2 + 2) (v := .non) trivial)
  refine S.flat.idle (S.flat.send ?_ _ _ _) _
  unfold midR
  split
  · exact flat_inner h _ c (flat_test h _ c f2)
  · exact flat_test h _ c (flat_inner h _ c f2)
theorem flat_account (h : Sh) : (accountR h).flat := by
  have f0 : (S.new h.count).flat := ⟨fun w h => (by cases h), fun w h => (by cases h)⟩
  unfold accountR
  split
  · exact flat_follow h 7 f0
  · exact flat_follow h 7 ((flat_follow h 7 (f0.tell _ (v := .non) trivial)).tell _ (v := .non) trivial)
theorem more_account {h : Sh} (ok : h.ok) : More (S.new h.count) (accountR h) 730 := by
  unfold accountR
  split
  · exact (more_follow ok _ 7).le (by decide)
  · exact (((more_tell _ (behW h 7 + 1 + 2) .non).trans (more_follow ok _ 7)).trans (more_tell _ (behW h 7 + 1 + 3) .non)).trans (more_follow ok _ 7)
theorem same_flat {H : Hp} : ∀ {ws : List V}, (∀ v ∈ ws, flat v) → PySem.Paired (SameV H 0) ws ws
  | [], _ => .nil
  | v :: r, h => .cons ⟨rfl, h v List.mem_cons_self⟩ (same_flat fun u hu => h u (List.mem_cons_of_mem _ hu))
theorem same_tups {H : Hp} : ∀ {xs ys : List V} {ws : List (List V)}, Tups H xs ws → Tups H ys ws → (∀ w ∈ ws, w.length ≤ 1000 ∧ ∀ v ∈ w, flat v) → PySem.Paired (SameV H 1) xs ys
  | _, _, _, .nil, .nil, _ => .nil
  | _, _, _, .cons ⟨p, e, hp⟩ t, .cons ⟨q, e', hq⟩ t', h =>
    .cons (Or.inr ⟨p, q, _, _, e, e', Or.inl ⟨hp, hq⟩, (h _ List.mem_cons_self).1, same_flat (h _ List.mem_cons_self).2⟩) (same_tups t t' fun w hw => h w (List.mem_cons_of_mem _ hw))
theorem same_list {H : Hp} {p q : Addr} {xs ys : List V} {ws : List (List V)} (hp : H p = some (.lst xs)) (hq : H q = some (.lst ys)) (t : Tups H xs ws) (t' : Tups H ys ws) (h : ∀ w ∈ ws, w.length ≤ 1000 ∧ ∀ v ∈ w, flat v) (hl : ws.length ≤ 1000) : SameV H 2 (.ref p) (.ref q) :=
  Or.inr ⟨p, q, xs, ys, rfl, rfl, Or.inr ⟨hp, hq⟩, by rw [t.len]; exact hl, same_tups t t' h⟩
def sp_law (K : PySem.W.Frag) : Sp := fun vs H Q _ => ∃ (a : Addr) (ns : List Int), vs = [.ref a] ∧ SqL K H a (ns.map V.int) ∧ ns.length ≤ 63 ∧ ∀ H', Q (.bl true) H'
end
end K25

set_option Elab.async false
set_option linter.all false
set_option maxRecDepth 100000
set_option maxHeartbeats 4000000
namespace K25
open PySem L2
section
variable {P : Program} {w : World} {K : PySem.W.Frag} {mg : Str → Option Value} {base : Heap} {A : Adr}
theorem h_law (T : Txt K mg A) (F : TopFn K mg "law" s_law ["_law_script"]) : Has P w K mg base 20 "law" ["_law_script"] (sp_law K) := by
  have D_law_draws := h_draws (P := P) (w := w) (base := base) T
  have D_law_tell := h_tell (P := P) (w := w) (base := base) T
  have D_law_follow := h_follow (P := P) (w := w) (base := base) T
  have D_law_rows := h_rows (P := P) (w := w) (base := base) T
  have D_law_program := h_program (P := P) (w := w) (base := base) T
  have D_law_same := h_same (P := P) (w := w) (base := base) T 3
  have D_run := h_run (P := P) (w := w) (base := base) T
  refine F.has (k := 19) sc_law (fun vs H Q E h => ?_) (fun f cdv A' outer s H vs Q E hr hu h => ?_)
  · obtain ⟨a, ns, rfl, _⟩ := h
    rfl
  · obtain ⟨a, ns, rfl, hS, hlen, q⟩ := h
    refine ⟨_, (pss_cons (ps_set (i := 1) sc_law.nd rfl (Or.inl rfl) (pe_callD D_law_draws hr (pa_cons (fv 0) pa_nil)))
    (pss_cons (ps_set (i := 2) sc_law.nd rfl (Or.inl rfl) (pe_disp (pps_cons (pe_str) (pe_int) (pps_cons (pe_str) (pe_lst (pa_nil)) (pps_cons (pe_str) (pe_lst (pa_nil)) (pps_nil)))) rfl rfl (by intro z; cases z) (by decide)))
    (pss_cons (ps_if (pt_cmpR (o_eqU hu) (pe_ix (ix_all hu) (fv 1) (pe_str) (fun _ _ => rfl)) (pe_int) (nomark _))
      (pss_one (ps_expr (pe_callD D_law_follow hr (pa_cons (fv 1) (pa_cons (fv 2) (pa_cons (pe_int) pa_nil))))))
      (pss_cons (ps_set (i := 3) sc_law.nd rfl (Or.inl rfl) (pe_ix (ix_all hu) (pe_callD D_law_rows hr (pa_cons (fv 1) (pa_cons (pe_int) pa_nil))) (pe_int) (fun _ _ => rfl)))
      (pss_one (ps_for PassesOwn.never rfl (pi_range1 rfl T.z_range (pa_cons (pe_int) pa_nil)) (pg_name (i := 4) sc_law.nd rfl (by first | exact Or.inl rfl | exact Or.inr rfl))
        (pss_cons (ps_expr (pe_callD D_law_tell hr (pa_cons (fv 2) (pa_cons (pe_op o_add (pe_op o_add (fv 3) (pe_int)) (fv 4)) (pa_cons (pe_str) (pa_cons (pe_non) pa_nil))))))
        (pss_one (ps_expr (pe_callD D_law_follow hr (pa_cons (fv 1) (pa_cons (fv 2) (pa_cons (pe_int) pa_nil)))))))))))
    (pss_cons (ps_set (i := 5) sc_law.nd rfl (Or.inl rfl) (pe_callD D_run hr (pa_cons (pe_callD D_law_program hr (pa_cons (fv 1) pa_nil)) (pa_cons (pe_disp (pps_cons (pe_str) (pe_ix (ix_all hu) (fv 1) (pe_str) (fun _ _ => rfl)) (pps_nil)) rfl rfl (by intro z; cases z) (by decide)) pa_nil))))
    (pss_cons (ps_if (PW.pt (pw_or (pt_not (pt_tru (pe_callD D_law_same hr (pa_cons (pe_fld (fv 5) rfl) (pa_cons (pe_ix (ix_all hu) (fv 2) (pe_str) (fun _ _ => rfl)) pa_nil))) (fun _ => rfl))) (pw_or1 (pt_not (pt_tru (pe_callD D_law_same hr (pa_cons (pe_fld (fv 5) rfl) (pa_cons (pe_ix (ix_all hu) (fv 2) (pe_str) (fun _ _ => rfl)) pa_nil))) (fun _ => rfl))))))
      (pss_one (ps_ret (pe_bl)))
      pss_nil)
    (pss_one (ps_ret (pe_and (pe_callD D_law_same hr (pa_cons (pe_fld (fv 5) rfl) (pa_cons (pe_ix (ix_all hu) (fv 2) (pe_str) (fun _ _ => rfl)) pa_nil))) (pe_one (pe_cmpR (o_eqU hu) (pe_fld (fv 5) rfl) (pe_lst (pa_nil)) (nomark _))))))))))), ?_⟩
    refine ⟨a, ns, rfl, hS, fun sd il h H1 s1 ok SA => ?_⟩
    refine fun bd hbd => ?_
    have s2 : Same H1 (upd H1 bd (HO.dK [])) := Same.upd hbd _
    have e2 : (upd H1 bd (HO.dK [])) bd = some (.dK []) := upd_same
    generalize upd H1 bd (HO.dK []) = H2 at s2 e2 ⊢
    refine ⟨Nat.zero_le _, fun l hl => ⟨Nat.zero_le _, fun t ht => ?_⟩⟩
    have s3 : Same H2 (upd (upd H2 l (HO.lst [])) t (HO.lst [])) := (Same.upd hl _).trans (Same.upd ht _)
    have tl : l ≠ t := fun z => by rw [← z, upd_same] at ht; cases ht
    have e3l : (upd (upd H2 l (HO.lst [])) t (HO.lst [])) l = some (.lst []) := by rw [upd_ne tl]; exact upd_same
    have e3t : (upd (upd H2 l (HO.lst [])) t (HO.lst [])) t = some (.lst []) := upd_same
    have nl : H1 l = none := Same.free s2 hl
    have nt : H1 t = none := Same.free (s2.trans (Same.upd hl _)) ht
    generalize upd (upd H2 l (HO.lst [])) t (HO.lst []) = H3 at s3 e3l e3t ⊢
    refine ⟨s3 _ _ e2, [(.inr "steps", .int 0), (.inr "letters", .ref l), (.inr "trace", .ref t)], rfl, (show 3 ≤ 15 by decide), ?_⟩
    have B4 : Bkn H1 (upd H3 bd (HO.dK (mergeK [] [(.inr "steps", .int 0), (.inr "letters", .ref l), (.inr "trace", .ref t)]))) bd t l (S.new h.count) := by
      have tb : t ≠ bd := fun z => by rw [z, s3 _ _ e2] at e3t; cases e3t
      have lb : l ≠ bd := fun z => by rw [z, s3 _ _ e2] at e3l; cases e3l
      exact ⟨Same.out (s2.trans s3) hbd _, ⟨upd_same, ⟨[], by rw [upd_ne tb]; exact e3t, .nil⟩, ⟨[], by rw [upd_ne lb]; exact e3l, .nil⟩, Ne.symm tl⟩, hbd, nt, nl⟩
    generalize upd H3 bd (HO.dK (mergeK [] [(.inr "steps", .int 0), (.inr "letters", .ref l), (.inr "trace", .ref t)])) = H4 at B4 ⊢
    have rm0 : (S.new h.count).room 1000 := ⟨by simp [S.new], by simp [S.new]⟩
    dsimp only
    refine seq_named fun N KN => ?_
    have tail : ∀ (v3 v4 : Option V) (H5 : Hp), Bkn H1 H5 bd t l (accountR h) → N [some (.ref a), some (.ref sd), some (.ref bd), v3, v4, none] H5 := by
      intro v3 v4 H5 B5
      refine KN _ _ ?_
      refine ⟨h, sd, il, rfl, ok, SA.same B5.s, fun p ds xs dk H6 s6 PR DA pr => ?_⟩
      refine fun g hg => ?_
      have s7 : Same H6 (upd H6 g (HO.dK [])) := Same.upd hg _
      have e7 : (upd H6 g (HO.dK [])) g = some (.dK []) := upd_same
      have t7 : Same H5 (upd H6 g (HO.dK [])) := s6.trans s7
      refine ⟨_, (SA.same (B5.s.trans t7)).g_count, e7, [(.inr "g", .int h.count)], rfl, (show 1 ≤ 15 by decide), ?_⟩
      have s8 : Same H6 (upd (upd H6 g (HO.dK [])) g (HO.dK (mergeK [] [(.inr "g", .int h.count)]))) := Same.out s7 hg _
      have e8 : (upd (upd H6 g (HO.dK [])) g (HO.dK (mergeK [] [(.inr "g", .int h.count)]))) g = some (.dK [(.inr "g", .int h.count)]) := upd_same
      generalize upd (upd H6 g (HO.dK [])) g (HO.dK (mergeK [] [(.inr "g", .int h.count)])) = H8 at s8 e8 ⊢
      refine ⟨p, g, h.count, ds, xs, dk, rowsW h 7, mainW h, rfl, PR.same s8, DA.same s8, e8, ok.count, Paired.mapP pr fun _ _ => RowAt.same s8, cnt_main ok, fun b db l' sd' t' e H9 s9 DB => ?_⟩
      obtain ⟨c', RR⟩ := main_eq ok
      have B9 := (B5.same ((s6.trans s8).trans s9)).b
      have ff := flat_account h
      have fm := more_account ok
      obtain ⟨ts, hts, tts⟩ := B9.ht
      obtain ⟨ls, hls, tls⟩ := B9.hl
      obtain ⟨ts', hts', tts'⟩ := DB.ht
      obtain ⟨ls', hls', tls'⟩ := DB.hl
      rw [RR.tr] at tts'
      rw [RR.le] at tls'
      have hb := DB.hb
      rw [RR.st] at hb
      have le1 : (accountR h).trace.length ≤ 1000 := by have := fm.1; simp [S.new] at this; omega
      have le2 : (accountR h).letters.length ≤ 1000 := by have := fm.2; simp [S.new] at this; omega
      refine ⟨b, _, db, _, _, rfl, hb, T.o_Book.cl, T.n_Book_trace, rfl, _, B9.gt, _, _, rfl, same_list hts' hts tts' tts ff.1 le1, true, rfl, iteF ?_⟩
      refine ⟨b, _, db, _, _, rfl, hb, T.o_Book.cl, T.n_Book_steps, rfl, _, B9.gs, _, _, rfl, Or.inl ⟨rfl, trivial⟩, true, rfl, iteF ?_⟩
      refine ⟨b, _, db, _, _, rfl, hb, T.o_Book.cl, T.n_Book_letters, rfl, _, B9.gl, _, _, rfl, same_list hls' hls tls' tls ff.2 le2, true, rfl, iteT ?_⟩
      exact ⟨b, _, db, _, _, rfl, hb, T.o_Book.cl, T.n_Book_said, rfl, Nat.zero_le _, fun l9 hl9 => Or.inl (Or.inr ⟨[], SqL.of (Same.upd hl9 _ _ _ DB.hd), SqL.of upd_same, rfl, q _⟩)⟩
    refine ⟨_, (SA.same B4.s).g_twice, rfl, _, rfl, ?_⟩
    rw [vint]
    refine ite2 (fun e => ?_) (fun e => ?_)
    · have e' := of_decide_eq_true e
      refine ⟨h, sd, il, bd, t, l, _, _, H1, rfl, ok, SA, B4, rm0.le (by decide), fun H5 B5 => tail _ _ H5 ?_⟩
      rw [show accountR h = followR h (S.new h.count) 7 from if_pos e']
      exact B5
    · have e' : ¬ h.twice = 0 := fun z => e (decide_eq_true z)
      have ea : accountR h = followR h ((followR h ((S.new h.count).tell (behW h 7 + 1 + 2) .non) 7).tell (behW h 7 + 1 + 3) .non) 7 := if_neg e'
      refine ⟨h, sd, il, 7, rfl, ok, SA.same B4.s, fun p5 L5 xs5 H5 s5 hp5 hL5 _ => ?_⟩
      refine Or.inl ⟨_, _, Or.inr (SqT.of hp5), rfl, ?_⟩
      have B5 := B4.same s5
      refine ⟨2, rfl, by decide, by decide, ?_⟩
      refine for_range (fun i σ H6 => (∃ k, Bkn H1 H6 bd t l k ∧ More (S.new h.count) k (365 * i) ∧ (i = 0 → k = S.new h.count) ∧ (i = 1 → k = followR h ((S.new h.count).tell (behW h 7 + 1 + 2) .non) 7) ∧ (i = 2 → k = accountR h)) ∧ ∃ z, σ = [some (.ref a), some (.ref sd), some (.ref bd), some (.int (behW h 7 + 1)), z, none]) ⟨⟨_, B5, More.refl _, fun _ => rfl, fun z => absurd z (by decide), fun z => absurd z (by decide)⟩, none, rfl⟩ ?_ ?_
      · rintro i σ H6 hi ⟨⟨k, B6, m6, k0, k1, k2⟩, z, rfl⟩
        have hi2 : i < 2 := hi
        have rm6 : k.room 365 := S.room.more (n := 365 * i) (k := 365) (rm0.le (by omega)) m6
        refine ⟨bd, t, l, _, _, _, _, H1, rfl, B6.tl (rm6.le (by decide)) fun H7 B7 => ?_⟩
        refine ⟨h, sd, il, bd, t, l, _, _, H1, rfl, ok, SA, B7, S.room.more (n := 1) (k := 364) rm6 (more_tell _ _ _), fun H8 B8 => ⟨⟨_, B8, ((m6.trans (more_tell _ _ _)).trans (more_follow ok _ 7)).le (by omega), fun z => by omega, fun z => ?_, fun z => ?_⟩, _, rfl⟩⟩
        · have : i = 0 := by omega
          subst this
          rw [k0 rfl, show behW h 7 + 1 + 2 + (0 + ((0 : Nat) : Int)) = behW h 7 + 1 + 2 by omega]
        · have : i = 1 := by omega
          subst this
          rw [k1 rfl, ea]
          rw [show behW h 7 + 1 + 2 + (0 + ((1 : Nat) : Int)) = behW h 7 + 1 + 3 by omega]
      · rintro σ H6 ⟨⟨k, B6, m6, k0, k1, k2⟩, z, rfl⟩
        rw [k2 rfl] at B6
        exact tail _ _ H6 B6
end
end K25

set_option Elab.async false
set_option linter.all false
set_option maxRecDepth 100000
set_option maxHeartbeats 4000000
namespace K25
open PySem L2
theorem all_mk {l : PySem.W.OpenLaw} {w : World} {K : PySem.W.Frag} {h : Heap} {mg : Str → Option Value} {fa f1 f2 f3 f4 f5 f6 f8 f9 f10 f11 f12 f13 f14 f15 f16 f17 f18 f19 f20 f21 A_Book A_Row A_HandRow A_GivenRow A_OwnRow A_SetRow A_PutRow A_SendRow A_SayRow A_CallRow A_LastRow A_IfRow A_LoopRow A_DeedRow A_Program A_Run : Addr} (X : K.In h) (G : h.Ns mainGlobals mg) (hfa : mg "law" = some (.ref fa))
    {od1 an1 : Option Addr} {sl1 : Array (Option Value)} {oc1 kV1 dc1 pm1 cd1 ct1 : Value}
    (a1 : PySem.W.nsIn K mainGlobals "is_number" = some (some (.ref f1))) (l1 : K.lookup f1 = some ⟨oc1, od1, .func (PySem.W.fnOf "is_number" "is_number" (defArgs s_is_number) (defBody s_is_number) (defScope s_is_number) .none kV1 dc1 pm1 an1 cd1 ct1), sl1⟩) (c1 : PySem.W.codeIn K cd1 "is_number" = true) (k1 : PySem.W.keepIn K (.ref f1) = true)
    {od2 an2 : Option Addr} {sl2 : Array (Option Value)} {oc2 kV2 dc2 pm2 cd2 ct2 : Value}
    (a2 : PySem.W.nsIn K mainGlobals "is_good" = some (some (.ref f2))) (l2 : K.lookup f2 = some ⟨oc2, od2, .func (PySem.W.fnOf "is_good" "is_good" (defArgs s_is_good) (defBody s_is_good) (defScope s_is_good) .none kV2 dc2 pm2 an2 cd2 ct2), sl2⟩) (c2 : PySem.W.codeIn K cd2 "is_good" = true) (k2 : PySem.W.keepIn K (.ref f2) = true)
    {od3 an3 : Option Addr} {sl3 : Array (Option Value)} {oc3 kV3 dc3 pm3 cd3 ct3 : Value}
    (a3 : PySem.W.nsIn K mainGlobals "given_cell" = some (some (.ref f3))) (l3 : K.lookup f3 = some ⟨oc3, od3, .func (PySem.W.fnOf "given_cell" "given_cell" (defArgs s_given_cell) (defBody s_given_cell) (defScope s_given_cell) .none kV3 dc3 pm3 an3 cd3 ct3), sl3⟩) (c3 : PySem.W.codeIn K cd3 "given_cell" = true) (k3 : PySem.W.keepIn K (.ref f3) = true)
    {od4 an4 : Option Addr} {sl4 : Array (Option Value)} {oc4 kV4 dc4 pm4 cd4 ct4 : Value}
    (a4 : PySem.W.nsIn K mainGlobals "own_cell" = some (some (.ref f4))) (l4 : K.lookup f4 = some ⟨oc4, od4, .func (PySem.W.fnOf "own_cell" "own_cell" (defArgs s_own_cell) (defBody s_own_cell) (defScope s_own_cell) .none kV4 dc4 pm4 an4 cd4 ct4), sl4⟩) (c4 : PySem.W.codeIn K cd4 "own_cell" = true) (k4 : PySem.W.keepIn K (.ref f4) = true)
    {od5 an5 : Option Addr} {sl5 : Array (Option Value)} {oc5 kV5 dc5 pm5 cd5 ct5 : Value}
    (a5 : PySem.W.nsIn K mainGlobals "cells_of" = some (some (.ref f5))) (l5 : K.lookup f5 = some ⟨oc5, od5, .func (PySem.W.fnOf "cells_of" "cells_of" (defArgs s_cells_of) (defBody s_cells_of) (defScope s_cells_of) .none kV5 dc5 pm5 an5 cd5 ct5), sl5⟩) (c5 : PySem.W.codeIn K cd5 "cells_of" = true) (k5 : PySem.W.keepIn K (.ref f5) = true)
    {od6 an6 : Option Addr} {sl6 : Array (Option Value)} {oc6 kV6 dc6 pm6 cd6 ct6 : Value}
    (a6 : PySem.W.nsIn K mainGlobals "reckon" = some (some (.ref f6))) (l6 : K.lookup f6 = some ⟨oc6, od6, .func (PySem.W.fnOf "reckon" "reckon" (defArgs s_reckon) (defBody s_reckon) (defScope s_reckon) .none kV6 dc6 pm6 an6 cd6 ct6), sl6⟩) (c6 : PySem.W.codeIn K cd6 "reckon" = true) (k6 : PySem.W.keepIn K (.ref f6) = true)
    {od8 an8 : Option Addr} {sl8 : Array (Option Value)} {oc8 kV8 dc8 pm8 cd8 ct8 : Value}
    (a8 : PySem.W.nsIn K mainGlobals "ends_of" = some (some (.ref f8))) (l8 : K.lookup f8 = some ⟨oc8, od8, .func (PySem.W.fnOf "ends_of" "ends_of" (defArgs s_ends_of) (defBody s_ends_of) (defScope s_ends_of) .none kV8 dc8 pm8 an8 cd8 ct8), sl8⟩) (c8 : PySem.W.codeIn K cd8 "ends_of" = true) (k8 : PySem.W.keepIn K (.ref f8) = true)
    {od9 an9 : Option Addr} {sl9 : Array (Option Value)} {oc9 kV9 dc9 pm9 cd9 ct9 : Value}
    (a9 : PySem.W.nsIn K mainGlobals "run" = some (some (.ref f9))) (l9 : K.lookup f9 = some ⟨oc9, od9, .func (PySem.W.fnOf "run" "run" (defArgs s_run) (defBody s_run) (defScope s_run) .none kV9 dc9 pm9 an9 cd9 ct9), sl9⟩) (c9 : PySem.W.codeIn K cd9 "run" = true) (k9 : PySem.W.keepIn K (.ref f9) = true)
    {od10 an10 : Option Addr} {sl10 : Array (Option Value)} {oc10 kV10 dc10 pm10 cd10 ct10 : Value}
    (a10 : PySem.W.nsIn K mainGlobals "_law_cell_at" = some (some (.ref f10))) (l10 : K.lookup f10 = some ⟨oc10, od10, .func (PySem.W.fnOf "_law_cell_at" "_law_cell_at" (defArgs s_law_cell_at) (defBody s_law_cell_at) (defScope s_law_cell_at) .none kV10 dc10 pm10 an10 cd10 ct10), sl10⟩) (c10 : PySem.W.codeIn K cd10 "_law_cell_at" = true) (k10 : PySem.W.keepIn K (.ref f10) = true)
    {od11 an11 : Option Addr} {sl11 : Array (Option Value)} {oc11 kV11 dc11 pm11 cd11 ct11 : Value}
    (a11 : PySem.W.nsIn K mainGlobals "_law_draws" = some (some (.ref f11))) (l11 : K.lookup f11 = some ⟨oc11, od11, .func (PySem.W.fnOf "_law_draws" "_law_draws" (defArgs s_law_draws) (defBody s_law_draws) (defScope s_law_draws) .none kV11 dc11 pm11 an11 cd11 ct11), sl11⟩) (c11 : PySem.W.codeIn K cd11 "_law_draws" = true) (k11 : PySem.W.keepIn K (.ref f11) = true)
    {od12 an12 : Option Addr} {sl12 : Array (Option Value)} {oc12 kV12 dc12 pm12 cd12 ct12 : Value}
    (a12 : PySem.W.nsIn K mainGlobals "_law_body" = some (some (.ref f12))) (l12 : K.lookup f12 = some ⟨oc12, od12, .func (PySem.W.fnOf "_law_body" "_law_body" (defArgs s_law_body) (defBody s_law_body) (defScope s_law_body) .none kV12 dc12 pm12 an12 cd12 ct12), sl12⟩) (c12 : PySem.W.codeIn K cd12 "_law_body" = true) (k12 : PySem.W.keepIn K (.ref f12) = true)
    {od13 an13 : Option Addr} {sl13 : Array (Option Value)} {oc13 kV13 dc13 pm13 cd13 ct13 : Value}
    (a13 : PySem.W.nsIn K mainGlobals "_law_spots" = some (some (.ref f13))) (l13 : K.lookup f13 = some ⟨oc13, od13, .func (PySem.W.fnOf "_law_spots" "_law_spots" (defArgs s_law_spots) (defBody s_law_spots) (defScope s_law_spots) .none kV13 dc13 pm13 an13 cd13 ct13), sl13⟩) (c13 : PySem.W.codeIn K cd13 "_law_spots" = true) (k13 : PySem.W.keepIn K (.ref f13) = true)
    {od14 an14 : Option Addr} {sl14 : Array (Option Value)} {oc14 kV14 dc14 pm14 cd14 ct14 : Value}
    (a14 : PySem.W.nsIn K mainGlobals "_law_rows" = some (some (.ref f14))) (l14 : K.lookup f14 = some ⟨oc14, od14, .func (PySem.W.fnOf "_law_rows" "_law_rows" (defArgs s_law_rows) (defBody s_law_rows) (defScope s_law_rows) .none kV14 dc14 pm14 an14 cd14 ct14), sl14⟩) (c14 : PySem.W.codeIn K cd14 "_law_rows" = true) (k14 : PySem.W.keepIn K (.ref f14) = true)
    {od15 an15 : Option Addr} {sl15 : Array (Option Value)} {oc15 kV15 dc15 pm15 cd15 ct15 : Value}
    (a15 : PySem.W.nsIn K mainGlobals "_law_program" = some (some (.ref f15))) (l15 : K.lookup f15 = some ⟨oc15, od15, .func (PySem.W.fnOf "_law_program" "_law_program" (defArgs s_law_program) (defBody s_law_program) (defScope s_law_program) .none kV15 dc15 pm15 an15 cd15 ct15), sl15⟩) (c15 : PySem.W.codeIn K cd15 "_law_program" = true) (k15 : PySem.W.keepIn K (.ref f15) = true)
    {od16 an16 : Option Addr} {sl16 : Array (Option Value)} {oc16 kV16 dc16 pm16 cd16 ct16 : Value}
    (a16 : PySem.W.nsIn K mainGlobals "_law_tell" = some (some (.ref f16))) (l16 : K.lookup f16 = some ⟨oc16, od16, .func (PySem.W.fnOf "_law_tell" "_law_tell" (defArgs s_law_tell) (defBody s_law_tell) (defScope s_law_tell) .none kV16 dc16 pm16 an16 cd16 ct16), sl16⟩) (c16 : PySem.W.codeIn K cd16 "_law_tell" = true) (k16 : PySem.W.keepIn K (.ref f16) = true)
    {od17 an17 : Option Addr} {sl17 : Array (Option Value)} {oc17 kV17 dc17 pm17 cd17 ct17 : Value}
    (a17 : PySem.W.nsIn K mainGlobals "_law_test" = some (some (.ref f17))) (l17 : K.lookup f17 = some ⟨oc17, od17, .func (PySem.W.fnOf "_law_test" "_law_test" (defArgs s_law_test) (defBody s_law_test) (defScope s_law_test) .none kV17 dc17 pm17 an17 cd17 ct17), sl17⟩) (c17 : PySem.W.codeIn K cd17 "_law_test" = true) (k17 : PySem.W.keepIn K (.ref f17) = true)
    {od18 an18 : Option Addr} {sl18 : Array (Option Value)} {oc18 kV18 dc18 pm18 cd18 ct18 : Value}
    (a18 : PySem.W.nsIn K mainGlobals "_law_inner" = some (some (.ref f18))) (l18 : K.lookup f18 = some ⟨oc18, od18, .func (PySem.W.fnOf "_law_inner" "_law_inner" (defArgs s_law_inner) (defBody s_law_inner) (defScope s_law_inner) .none kV18 dc18 pm18 an18 cd18 ct18), sl18⟩) (c18 : PySem.W.codeIn K cd18 "_law_inner" = true) (k18 : PySem.W.keepIn K (.ref f18) = true)
    {od19 an19 : Option Addr} {sl19 : Array (Option Value)} {oc19 kV19 dc19 pm19 cd19 ct19 : Value}
    (a19 : PySem.W.nsIn K mainGlobals "_law_follow" = some (some (.ref f19))) (l19 : K.lookup f19 = some ⟨oc19, od19, .func (PySem.W.fnOf "_law_follow" "_law_follow" (defArgs s_law_follow) (defBody s_law_follow) (defScope s_law_follow) .none kV19 dc19 pm19 an19 cd19 ct19), sl19⟩) (c19 : PySem.W.codeIn K cd19 "_law_follow" = true) (k19 : PySem.W.keepIn K (.ref f19) = true)
    {od20 an20 : Option Addr} {sl20 : Array (Option Value)} {oc20 kV20 dc20 pm20 cd20 ct20 : Value}
    (a20 : PySem.W.nsIn K mainGlobals "_law_same" = some (some (.ref f20))) (l20 : K.lookup f20 = some ⟨oc20, od20, .func (PySem.W.fnOf "_law_same" "_law_same" (defArgs s_law_same) (defBody s_law_same) (defScope s_law_same) .none kV20 dc20 pm20 an20 cd20 ct20), sl20⟩) (c20 : PySem.W.codeIn K cd20 "_law_same" = true) (k20 : PySem.W.keepIn K (.ref f20) = true)
    {od21 an21 : Option Addr} {sl21 : Array (Option Value)} {oc21 kV21 dc21 pm21 cd21 ct21 : Value}
    (a21 : PySem.W.nsIn K mainGlobals "law" = some (some (.ref f21))) (l21 : K.lookup f21 = some ⟨oc21, od21, .func (PySem.W.fnOf "law" "law" (defArgs s_law) (defBody s_law) (defScope s_law) .none kV21 dc21 pm21 an21 cd21 ct21), sl21⟩) (c21 : PySem.W.codeIn K cd21 "law" = true) (k21 : PySem.W.keepIn K (.ref f21) = true)
    (z_all : PySem.W.nsIn K mainGlobals "all" = some none)
    (z_bool : PySem.W.nsIn K mainGlobals "bool" = some none)
    (z_dict : PySem.W.nsIn K mainGlobals "dict" = some none)
    (z_int : PySem.W.nsIn K mainGlobals "int" = some none)
    (z_isinstance : PySem.W.nsIn K mainGlobals "isinstance" = some none)
    (z_len : PySem.W.nsIn K mainGlobals "len" = some none)
    (z_list : PySem.W.nsIn K mainGlobals "list" = some none)
    (z_min : PySem.W.nsIn K mainGlobals "min" = some none)
    (z_range : PySem.W.nsIn K mainGlobals "range" = some none)
    (z_str : PySem.W.nsIn K mainGlobals "str" = some none)
    (z_tuple : PySem.W.nsIn K mainGlobals "tuple" = some none)
    (z_zip : PySem.W.nsIn K mainGlobals "zip" = some none)
    {tk_MOST_NUMBER : Tok} (g_MOST_NUMBER : PySem.W.nsIn K mainGlobals "MOST_NUMBER" = some (some (.int 999999999999 tk_MOST_NUMBER)))
    {tk_ROUND : Tok} (g_ROUND : PySem.W.nsIn K mainGlobals "ROUND" = some (some (.int 1000000000000 tk_ROUND)))
    (cg : PySem.W.specialIn K (.builtin "object.__class__") "__get__" = some (some (.builtin "getset_descriptor.__get__"))) (ct : PySem.W.takesIn K (.builtin "object.__class__") = some true)
    {xd_Book : ClassData} (x_Book : PySem.W.nsIn K mainGlobals "Book" = some (some (.ref A_Book))) (xl_Book : PySem.W.clsIn K A_Book = some xd_Book) (xm_Book : xd_Book.mro = [A_Book].map Value.ref ++ [Value.type "object"])
    (xpg_Book : PySem.W.plainGet K A_Book Str.empty = true)
    (xhd_Book : PySem.W.hasDictIn K A_Book = true)
    (xpo_Book : PySem.W.plainOver K A_Book = true)
    (xsa_Book : PySem.W.findIn K (.ref A_Book) "__setattr__" = some (some (.builtin "object.__setattr__")))
    (xty_Book : PySem.W.typeIn K (.ref A_Book) = some (.type "type"))
    (xkc_Book : PySem.W.findIn K (.ref A_Book) "__class__" = some (some (.builtin "object.__class__")))
    (xmk_Book : PySem.W.makesIn K A_Book = true)
    (xkp_Book : PySem.W.keepIn K (.ref A_Book) = true)
    {xd_Row : ClassData} (x_Row : PySem.W.nsIn K mainGlobals "Row" = some (some (.ref A_Row))) (xl_Row : PySem.W.clsIn K A_Row = some xd_Row) (xm_Row : xd_Row.mro = [A_Row].map Value.ref ++ [Value.type "object"])
    (xpg_Row : PySem.W.plainGet K A_Row Str.empty = true)
    (xhd_Row : PySem.W.hasDictIn K A_Row = true)
    (xpo_Row : PySem.W.plainOver K A_Row = true)
    (xsa_Row : PySem.W.findIn K (.ref A_Row) "__setattr__" = some (some (.builtin "object.__setattr__")))
    (xty_Row : PySem.W.typeIn K (.ref A_Row) = some (.type "type"))
    (xkc_Row : PySem.W.findIn K (.ref A_Row) "__class__" = some (some (.builtin "object.__class__")))
    (xmk_Row : PySem.W.makesIn K A_Row = true)
    (xkp_Row : PySem.W.keepIn K (.ref A_Row) = true)
    {xd_HandRow : ClassData} (x_HandRow : PySem.W.nsIn K mainGlobals "HandRow" = some (some (.ref A_HandRow))) (xl_HandRow : PySem.W.clsIn K A_HandRow = some xd_HandRow) (xm_HandRow : xd_HandRow.mro = [A_HandRow, A_Row].map Value.ref ++ [Value.type "object"])
    (xpg_HandRow : PySem.W.plainGet K A_HandRow Str.empty = true)
    (xhd_HandRow : PySem.W.hasDictIn K A_HandRow = true)
    (xpo_HandRow : PySem.W.plainOver K A_HandRow = true)
    (xsa_HandRow : PySem.W.findIn K (.ref A_HandRow) "__setattr__" = some (some (.builtin "object.__setattr__")))
    (xty_HandRow : PySem.W.typeIn K (.ref A_HandRow) = some (.type "type"))
    (xkc_HandRow : PySem.W.findIn K (.ref A_HandRow) "__class__" = some (some (.builtin "object.__class__")))
    (xmk_HandRow : PySem.W.makesIn K A_HandRow = true)
    (xkp_HandRow : PySem.W.keepIn K (.ref A_HandRow) = true)
    {xd_GivenRow : ClassData} (x_GivenRow : PySem.W.nsIn K mainGlobals "GivenRow" = some (some (.ref A_GivenRow))) (xl_GivenRow : PySem.W.clsIn K A_GivenRow = some xd_GivenRow) (xm_GivenRow : xd_GivenRow.mro = [A_GivenRow, A_Row].map Value.ref ++ [Value.type "object"])
    (xpg_GivenRow : PySem.W.plainGet K A_GivenRow Str.empty = true)
    (xhd_GivenRow : PySem.W.hasDictIn K A_GivenRow = true)
    (xpo_GivenRow : PySem.W.plainOver K A_GivenRow = true)
    (xsa_GivenRow : PySem.W.findIn K (.ref A_GivenRow) "__setattr__" = some (some (.builtin "object.__setattr__")))
    (xty_GivenRow : PySem.W.typeIn K (.ref A_GivenRow) = some (.type "type"))
    (xkc_GivenRow : PySem.W.findIn K (.ref A_GivenRow) "__class__" = some (some (.builtin "object.__class__")))
    (xmk_GivenRow : PySem.W.makesIn K A_GivenRow = true)
    (xkp_GivenRow : PySem.W.keepIn K (.ref A_GivenRow) = true)
    {xd_OwnRow : ClassData} (x_OwnRow : PySem.W.nsIn K mainGlobals "OwnRow" = some (some (.ref A_OwnRow))) (xl_OwnRow : PySem.W.clsIn K A_OwnRow = some xd_OwnRow) (xm_OwnRow : xd_OwnRow.mro = [A_OwnRow, A_Row].map Value.ref ++ [Value.type "object"])
    (xpg_OwnRow : PySem.W.plainGet K A_OwnRow Str.empty = true)
    (xhd_OwnRow : PySem.W.hasDictIn K A_OwnRow = true)
    (xpo_OwnRow : PySem.W.plainOver K A_OwnRow = true)
    (xsa_OwnRow : PySem.W.findIn K (.ref A_OwnRow) "__setattr__" = some (some (.builtin "object.__setattr__")))
    (xty_OwnRow : PySem.W.typeIn K (.ref A_OwnRow) = some (.type "type"))
    (xkc_OwnRow : PySem.W.findIn K (.ref A_OwnRow) "__class__" = some (some (.builtin "object.__class__")))
    (xmk_OwnRow : PySem.W.makesIn K A_OwnRow = true)
    (xkp_OwnRow : PySem.W.keepIn K (.ref A_OwnRow) = true)
    {xd_SetRow : ClassData} (x_SetRow : PySem.W.nsIn K mainGlobals "SetRow" = some (some (.ref A_SetRow))) (xl_SetRow : PySem.W.clsIn K A_SetRow = some xd_SetRow) (xm_SetRow : xd_SetRow.mro = [A_SetRow, A_Row].map Value.ref ++ [Value.type "object"])
    (xpg_SetRow : PySem.W.plainGet K A_SetRow Str.empty = true)
    (xhd_SetRow : PySem.W.hasDictIn K A_SetRow = true)
    (xpo_SetRow : PySem.W.plainOver K A_SetRow = true)
    (xsa_SetRow : PySem.W.findIn K (.ref A_SetRow) "__setattr__" = some (some (.builtin "object.__setattr__")))
    (xty_SetRow : PySem.W.typeIn K (.ref A_SetRow) = some (.type "type"))
    (xkc_SetRow : PySem.W.findIn K (.ref A_SetRow) "__class__" = some (some (.builtin "object.__class__")))
    (xmk_SetRow : PySem.W.makesIn K A_SetRow = true)
    (xkp_SetRow : PySem.W.keepIn K (.ref A_SetRow) = true)
    {xd_PutRow : ClassData} (x_PutRow : PySem.W.nsIn K mainGlobals "PutRow" = some (some (.ref A_PutRow))) (xl_PutRow : PySem.W.clsIn K A_PutRow = some xd_PutRow) (xm_PutRow : xd_PutRow.mro = [A_PutRow, A_Row].map Value.ref ++ [Value.type "object"])
    (xpg_PutRow : PySem.W.plainGet K A_PutRow Str.empty = true)
    (xhd_PutRow : PySem.W.hasDictIn K A_PutRow = true)
    (xpo_PutRow : PySem.W.plainOver K A_PutRow = true)
    (xsa_PutRow : PySem.W.findIn K (.ref A_PutRow) "__setattr__" = some (some (.builtin "object.__setattr__")))
    (xty_PutRow : PySem.W.typeIn K (.ref A_PutRow) = some (.type "type"))
    (xkc_PutRow : PySem.W.findIn K (.ref A_PutRow) "__class__" = some (some (.builtin "object.__class__")))
    (xmk_PutRow : PySem.W.makesIn K A_PutRow = true)
    (xkp_PutRow : PySem.W.keepIn K (.ref A_PutRow) = true)
    {xd_SendRow : ClassData} (x_SendRow : PySem.W.nsIn K mainGlobals "SendRow" = some (some (.ref A_SendRow))) (xl_SendRow : PySem.W.clsIn K A_SendRow = some xd_SendRow) (xm_SendRow : xd_SendRow.mro = [A_SendRow, A_Row].map Value.ref ++ [Value.type "object"])
    (xpg_SendRow : PySem.W.plainGet K A_SendRow Str.empty = true)
    (xhd_SendRow : PySem.W.hasDictIn K A_SendRow = true)
    (xpo_SendRow : PySem.W.plainOver K A_SendRow = true)
    (xsa_SendRow : PySem.W.findIn K (.ref A_SendRow) "__setattr__" = some (some (.builtin "object.__setattr__")))
    (xty_SendRow : PySem.W.typeIn K (.ref A_SendRow) = some (.type "type"))
    (xkc_SendRow : PySem.W.findIn K (.ref A_SendRow) "__class__" = some (some (.builtin "object.__class__")))
    (xmk_SendRow : PySem.W.makesIn K A_SendRow = true)
    (xkp_SendRow : PySem.W.keepIn K (.ref A_SendRow) = true)
    {xd_SayRow : ClassData} (x_SayRow : PySem.W.nsIn K mainGlobals "SayRow" = some (some (.ref A_SayRow))) (xl_SayRow : PySem.W.clsIn K A_SayRow = some xd_SayRow) (xm_SayRow : xd_SayRow.mro = [A_SayRow, A_Row].map Value.ref ++ [Value.type "object"])
    (xpg_SayRow : PySem.W.plainGet K A_SayRow Str.empty = true)
    (xhd_SayRow : PySem.W.hasDictIn K A_SayRow = true)
    (xpo_SayRow : PySem.W.plainOver K A_SayRow = true)
    (xsa_SayRow : PySem.W.findIn K (.ref A_SayRow) "__setattr__" = some (some (.builtin "object.__setattr__")))
    (xty_SayRow : PySem.W.typeIn K (.ref A_SayRow) = some (.type "type"))
    (xkc_SayRow : PySem.W.findIn K (.ref A_SayRow) "__class__" = some (some (.builtin "object.__class__")))
    (xmk_SayRow : PySem.W.makesIn K A_SayRow = true)
    (xkp_SayRow : PySem.W.keepIn K (.ref A_SayRow) = true)
    {xd_CallRow : ClassData} (x_CallRow : PySem.W.nsIn K mainGlobals "CallRow" = some (some (.ref A_CallRow))) (xl_CallRow : PySem.W.clsIn K A_CallRow = some xd_CallRow) (xm_CallRow : xd_CallRow.mro = [A_CallRow, A_Row].map Value.ref ++ [Value.type "object"])
    (xpg_CallRow : PySem.W.plainGet K A_CallRow Str.empty = true)
    (xhd_CallRow : PySem.W.hasDictIn K A_CallRow = true)
    (xpo_CallRow : PySem.W.plainOver K A_CallRow = true)
    (xsa_CallRow : PySem.W.findIn K (.ref A_CallRow) "__setattr__" = some (some (.builtin "object.__setattr__")))
    (xty_CallRow : PySem.W.typeIn K (.ref A_CallRow) = some (.type "type"))
    (xkc_CallRow : PySem.W.findIn K (.ref A_CallRow) "__class__" = some (some (.builtin "object.__class__")))
    (xmk_CallRow : PySem.W.makesIn K A_CallRow = true)
    (xkp_CallRow : PySem.W.keepIn K (.ref A_CallRow) = true)
    {xd_LastRow : ClassData} (x_LastRow : PySem.W.nsIn K mainGlobals "LastRow" = some (some (.ref A_LastRow))) (xl_LastRow : PySem.W.clsIn K A_LastRow = some xd_LastRow) (xm_LastRow : xd_LastRow.mro = [A_LastRow, A_Row].map Value.ref ++ [Value.type "object"])
    (xpg_LastRow : PySem.W.plainGet K A_LastRow Str.empty = true)
    (xhd_LastRow : PySem.W.hasDictIn K A_LastRow = true)
    (xpo_LastRow : PySem.W.plainOver K A_LastRow = true)
    (xsa_LastRow : PySem.W.findIn K (.ref A_LastRow) "__setattr__" = some (some (.builtin "object.__setattr__")))
    (xty_LastRow : PySem.W.typeIn K (.ref A_LastRow) = some (.type "type"))
    (xkc_LastRow : PySem.W.findIn K (.ref A_LastRow) "__class__" = some (some (.builtin "object.__class__")))
    (xmk_LastRow : PySem.W.makesIn K A_LastRow = true)
    (xkp_LastRow : PySem.W.keepIn K (.ref A_LastRow) = true)
    {xd_IfRow : ClassData} (x_IfRow : PySem.W.nsIn K mainGlobals "IfRow" = some (some (.ref A_IfRow))) (xl_IfRow : PySem.W.clsIn K A_IfRow = some xd_IfRow) (xm_IfRow : xd_IfRow.mro = [A_IfRow, A_Row].map Value.ref ++ [Value.type "object"])
    (xpg_IfRow : PySem.W.plainGet K A_IfRow Str.empty = true)
    (xhd_IfRow : PySem.W.hasDictIn K A_IfRow = true)
    (xpo_IfRow : PySem.W.plainOver K A_IfRow = true)
    (xsa_IfRow : PySem.W.findIn K (.ref A_IfRow) "__setattr__" = some (some (.builtin "object.__setattr__")))
    (xty_IfRow : PySem.W.typeIn K (.ref A_IfRow) = some (.type "type"))
    (xkc_IfRow : PySem.W.findIn K (.ref A_IfRow) "__class__" = some (some (.builtin "object.__class__")))
    (xmk_IfRow : PySem.W.makesIn K A_IfRow = true)
    (xkp_IfRow : PySem.W.keepIn K (.ref A_IfRow) = true)
    {xd_LoopRow : ClassData} (x_LoopRow : PySem.W.nsIn K mainGlobals "LoopRow" = some (some (.ref A_LoopRow))) (xl_LoopRow : PySem.W.clsIn K A_LoopRow = some xd_LoopRow) (xm_LoopRow : xd_LoopRow.mro = [A_LoopRow, A_Row].map Value.ref ++ [Value.type "object"])
    (xpg_LoopRow : PySem.W.plainGet K A_LoopRow Str.empty = true)
    (xhd_LoopRow : PySem.W.hasDictIn K A_LoopRow = true)
    (xpo_LoopRow : PySem.W.plainOver K A_LoopRow = true)
    (xsa_LoopRow : PySem.W.findIn K (.ref A_LoopRow) "__setattr__" = some (some (.builtin "object.__setattr__")))
    (xty_LoopRow : PySem.W.typeIn K (.ref A_LoopRow) = some (.type "type"))
    (xkc_LoopRow : PySem.W.findIn K (.ref A_LoopRow) "__class__" = some (some (.builtin "object.__class__")))
    (xmk_LoopRow : PySem.W.makesIn K A_LoopRow = true)
    (xkp_LoopRow : PySem.W.keepIn K (.ref A_LoopRow) = true)
    {xd_DeedRow : ClassData} (x_DeedRow : PySem.W.nsIn K mainGlobals "DeedRow" = some (some (.ref A_DeedRow))) (xl_DeedRow : PySem.W.clsIn K A_DeedRow = some xd_DeedRow) (xm_DeedRow : xd_DeedRow.mro = [A_DeedRow, A_Row].map Value.ref ++ [Value.type "object"])
    (xpg_DeedRow : PySem.W.plainGet K A_DeedRow Str.empty = true)
    (xhd_DeedRow : PySem.W.hasDictIn K A_DeedRow = true)
    (xpo_DeedRow : PySem.W.plainOver K A_DeedRow = true)
    (xsa_DeedRow : PySem.W.findIn K (.ref A_DeedRow) "__setattr__" = some (some (.builtin "object.__setattr__")))
    (xty_DeedRow : PySem.W.typeIn K (.ref A_DeedRow) = some (.type "type"))
    (xkc_DeedRow : PySem.W.findIn K (.ref A_DeedRow) "__class__" = some (some (.builtin "object.__class__")))
    (xmk_DeedRow : PySem.W.makesIn K A_DeedRow = true)
    (xkp_DeedRow : PySem.W.keepIn K (.ref A_DeedRow) = true)
    {xd_Program : ClassData} (x_Program : PySem.W.nsIn K mainGlobals "Program" = some (some (.ref A_Program))) (xl_Program : PySem.W.clsIn K A_Program = some xd_Program) (xm_Program : xd_Program.mro = [A_Program].map Value.ref ++ [Value.type "object"])
    (xpg_Program : PySem.W.plainGet K A_Program Str.empty = true)
    (xhd_Program : PySem.W.hasDictIn K A_Program = true)
    (xpo_Program : PySem.W.plainOver K A_Program = true)
    (xsa_Program : PySem.W.findIn K (.ref A_Program) "__setattr__" = some (some (.builtin "object.__setattr__")))
    (xty_Program : PySem.W.typeIn K (.ref A_Program) = some (.type "type"))
    (xkc_Program : PySem.W.findIn K (.ref A_Program) "__class__" = some (some (.builtin "object.__class__")))
    (xmk_Program : PySem.W.makesIn K A_Program = true)
    (xkp_Program : PySem.W.keepIn K (.ref A_Program) = true)
    {xd_Run : ClassData} (x_Run : PySem.W.nsIn K mainGlobals "Run" = some (some (.ref A_Run))) (xl_Run : PySem.W.clsIn K A_Run = some xd_Run) (xm_Run : xd_Run.mro = [A_Run].map Value.ref ++ [Value.type "object"])
    (xpg_Run : PySem.W.plainGet K A_Run Str.empty = true)
    (xhd_Run : PySem.W.hasDictIn K A_Run = true)
    (xpo_Run : PySem.W.plainOver K A_Run = true)
    (xsa_Run : PySem.W.findIn K (.ref A_Run) "__setattr__" = some (some (.builtin "object.__setattr__")))
    (xty_Run : PySem.W.typeIn K (.ref A_Run) = some (.type "type"))
    (xkc_Run : PySem.W.findIn K (.ref A_Run) "__class__" = some (some (.builtin "object.__class__")))
    (xmk_Run : PySem.W.makesIn K A_Run = true)
    (xkp_Run : PySem.W.keepIn K (.ref A_Run) = true)
    {fi_Book_init : Addr} {ioc_Book_init ikV_Book_init idc_Book_init ipm_Book_init icd_Book_init ict_Book_init : Value} {iod_Book_init ian_Book_init : Option Addr} {isl_Book_init : Array (Option Value)}
    (xi_Book_init : PySem.W.findIn K (.ref A_Book) "__init__" = some (some (.ref fi_Book_init)))
    (xf_Book_init : PySem.W.isFn K (.ref fi_Book_init) = true) (xo_Book_init : K.lookup fi_Book_init = some ⟨ioc_Book_init, iod_Book_init, .func (PySem.W.fnOf "__init__" "Book.__init__" (defArgs s_Book_init) (defBody s_Book_init) (defScope s_Book_init) .none ikV_Book_init idc_Book_init ipm_Book_init ian_Book_init icd_Book_init ict_Book_init), isl_Book_init⟩) (xc_Book_init : PySem.W.codeIn K icd_Book_init "Book.__init__" = true) (xq_Book_init : PySem.W.keepIn K (.ref fi_Book_init) = true)
    (xw_Book_letters : PySem.W.findIn K (.ref A_Book) "letters" = some none)
    (xw_Book_said : PySem.W.findIn K (.ref A_Book) "said" = some none)
    (xw_Book_trace : PySem.W.findIn K (.ref A_Book) "trace" = some none)
    (xw_Book_steps : PySem.W.findIn K (.ref A_Book) "steps" = some none)
    (xw_Book_ends : PySem.W.findIn K (.ref A_Book) "ends" = some none)
    {fi_Row_init : Addr} {ioc_Row_init ikV_Row_init idc_Row_init ipm_Row_init icd_Row_init ict_Row_init : Value} {iod_Row_init ian_Row_init : Option Addr} {isl_Row_init : Array (Option Value)}
    (xi_Row_init : PySem.W.findIn K (.ref A_Row) "__init__" = some (some (.ref fi_Row_init)))
    (xf_Row_init : PySem.W.isFn K (.ref fi_Row_init) = true) (xo_Row_init : K.lookup fi_Row_init = some ⟨ioc_Row_init, iod_Row_init, .func (PySem.W.fnOf "__init__" "Row.__init__" (defArgs s_Row_init) (defBody s_Row_init) (defScope s_Row_init) .none ikV_Row_init idc_Row_init ipm_Row_init ian_Row_init icd_Row_init ict_Row_init), isl_Row_init⟩) (xc_Row_init : PySem.W.codeIn K icd_Row_init "Row.__init__" = true) (xq_Row_init : PySem.W.keepIn K (.ref fi_Row_init) = true)
    {fi_HandRow_init : Addr} {ioc_HandRow_init ikV_HandRow_init idc_HandRow_init ipm_HandRow_init icd_HandRow_init ict_HandRow_init : Value} {iod_HandRow_init ian_HandRow_init : Option Addr} {isl_HandRow_init : Array (Option Value)}
    (xi_HandRow_init : PySem.W.findIn K (.ref A_HandRow) "__init__" = some (some (.ref fi_HandRow_init)))
    (xf_HandRow_init : PySem.W.isFn K (.ref fi_HandRow_init) = true) (xo_HandRow_init : K.lookup fi_HandRow_init = some ⟨ioc_HandRow_init, iod_HandRow_init, .func (PySem.W.fnOf "__init__" "HandRow.__init__" (defArgs s_HandRow_init) (defBody s_HandRow_init) (defScope s_HandRow_init) .none ikV_HandRow_init idc_HandRow_init ipm_HandRow_init ian_HandRow_init icd_HandRow_init ict_HandRow_init), isl_HandRow_init⟩) (xc_HandRow_init : PySem.W.codeIn K icd_HandRow_init "HandRow.__init__" = true) (xq_HandRow_init : PySem.W.keepIn K (.ref fi_HandRow_init) = true)
    (xw_HandRow_name : PySem.W.findIn K (.ref A_HandRow) "name" = some none)
    (xw_HandRow_rank : PySem.W.findIn K (.ref A_HandRow) "rank" = some none)
    (xw_HandRow_number : PySem.W.findIn K (.ref A_HandRow) "number" = some none)
    {fi_GivenRow_init : Addr} {ioc_GivenRow_init ikV_GivenRow_init idc_GivenRow_init ipm_GivenRow_init icd_GivenRow_init ict_GivenRow_init : Value} {iod_GivenRow_init ian_GivenRow_init : Option Addr} {isl_GivenRow_init : Array (Option Value)}
    (xi_GivenRow_init : PySem.W.findIn K (.ref A_GivenRow) "__init__" = some (some (.ref fi_GivenRow_init)))
    (xf_GivenRow_init : PySem.W.isFn K (.ref fi_GivenRow_init) = true) (xo_GivenRow_init : K.lookup fi_GivenRow_init = some ⟨ioc_GivenRow_init, iod_GivenRow_init, .func (PySem.W.fnOf "__init__" "GivenRow.__init__" (defArgs s_GivenRow_init) (defBody s_GivenRow_init) (defScope s_GivenRow_init) .none ikV_GivenRow_init idc_GivenRow_init ipm_GivenRow_init ian_GivenRow_init icd_GivenRow_init ict_GivenRow_init), isl_GivenRow_init⟩) (xc_GivenRow_init : PySem.W.codeIn K icd_GivenRow_init "GivenRow.__init__" = true) (xq_GivenRow_init : PySem.W.keepIn K (.ref fi_GivenRow_init) = true)
    (xw_GivenRow_name : PySem.W.findIn K (.ref A_GivenRow) "name" = some none)
    (xw_GivenRow_rank : PySem.W.findIn K (.ref A_GivenRow) "rank" = some none)
    (xw_GivenRow_size : PySem.W.findIn K (.ref A_GivenRow) "size" = some none)
    (xw_GivenRow_number : PySem.W.findIn K (.ref A_GivenRow) "number" = some none)
    {fi_OwnRow_init : Addr} {ioc_OwnRow_init ikV_OwnRow_init idc_OwnRow_init ipm_OwnRow_init icd_OwnRow_init ict_OwnRow_init : Value} {iod_OwnRow_init ian_OwnRow_init : Option Addr} {isl_OwnRow_init : Array (Option Value)}
    (xi_OwnRow_init : PySem.W.findIn K (.ref A_OwnRow) "__init__" = some (some (.ref fi_OwnRow_init)))
    (xf_OwnRow_init : PySem.W.isFn K (.ref fi_OwnRow_init) = true) (xo_OwnRow_init : K.lookup fi_OwnRow_init = some ⟨ioc_OwnRow_init, iod_OwnRow_init, .func (PySem.W.fnOf "__init__" "OwnRow.__init__" (defArgs s_OwnRow_init) (defBody s_OwnRow_init) (defScope s_OwnRow_init) .none ikV_OwnRow_init idc_OwnRow_init ipm_OwnRow_init ian_OwnRow_init icd_OwnRow_init ict_OwnRow_init), isl_OwnRow_init⟩) (xc_OwnRow_init : PySem.W.codeIn K icd_OwnRow_init "OwnRow.__init__" = true) (xq_OwnRow_init : PySem.W.keepIn K (.ref fi_OwnRow_init) = true)
    (xw_OwnRow_name : PySem.W.findIn K (.ref A_OwnRow) "name" = some none)
    (xw_OwnRow_size : PySem.W.findIn K (.ref A_OwnRow) "size" = some none)
    (xw_OwnRow_number : PySem.W.findIn K (.ref A_OwnRow) "number" = some none)
    {fi_SetRow_init : Addr} {ioc_SetRow_init ikV_SetRow_init idc_SetRow_init ipm_SetRow_init icd_SetRow_init ict_SetRow_init : Value} {iod_SetRow_init ian_SetRow_init : Option Addr} {isl_SetRow_init : Array (Option Value)}
    (xi_SetRow_init : PySem.W.findIn K (.ref A_SetRow) "__init__" = some (some (.ref fi_SetRow_init)))
    (xf_SetRow_init : PySem.W.isFn K (.ref fi_SetRow_init) = true) (xo_SetRow_init : K.lookup fi_SetRow_init = some ⟨ioc_SetRow_init, iod_SetRow_init, .func (PySem.W.fnOf "__init__" "SetRow.__init__" (defArgs s_SetRow_init) (defBody s_SetRow_init) (defScope s_SetRow_init) .none ikV_SetRow_init idc_SetRow_init ipm_SetRow_init ian_SetRow_init icd_SetRow_init ict_SetRow_init), isl_SetRow_init⟩) (xc_SetRow_init : PySem.W.codeIn K icd_SetRow_init "SetRow.__init__" = true) (xq_SetRow_init : PySem.W.keepIn K (.ref fi_SetRow_init) = true)
    (xw_SetRow_name : PySem.W.findIn K (.ref A_SetRow) "name" = some none)
    (xw_SetRow_value : PySem.W.findIn K (.ref A_SetRow) "value" = some none)
    (xw_SetRow_number : PySem.W.findIn K (.ref A_SetRow) "number" = some none)
    {fi_SendRow_init : Addr} {ioc_SendRow_init ikV_SendRow_init idc_SendRow_init ipm_SendRow_init icd_SendRow_init ict_SendRow_init : Value} {iod_SendRow_init ian_SendRow_init : Option Addr} {isl_SendRow_init : Array (Option Value)}
    (xi_SendRow_init : PySem.W.findIn K (.ref A_SendRow) "__init__" = some (some (.ref fi_SendRow_init)))
    (xf_SendRow_init : PySem.W.isFn K (.ref fi_SendRow_init) = true) (xo_SendRow_init : K.lookup fi_SendRow_init = some ⟨ioc_SendRow_init, iod_SendRow_init, .func (PySem.W.fnOf "__init__" "SendRow.__init__" (defArgs s_SendRow_init) (defBody s_SendRow_init) (defScope s_SendRow_init) .none ikV_SendRow_init idc_SendRow_init ipm_SendRow_init ian_SendRow_init icd_SendRow_init ict_SendRow_init), isl_SendRow_init⟩) (xc_SendRow_init : PySem.W.codeIn K icd_SendRow_init "SendRow.__init__" = true) (xq_SendRow_init : PySem.W.keepIn K (.ref fi_SendRow_init) = true)
    (xw_SendRow_name : PySem.W.findIn K (.ref A_SendRow) "name" = some none)
    (xw_SendRow_value : PySem.W.findIn K (.ref A_SendRow) "value" = some none)
    (xw_SendRow_number : PySem.W.findIn K (.ref A_SendRow) "number" = some none)
    {fi_CallRow_init : Addr} {ioc_CallRow_init ikV_CallRow_init idc_CallRow_init ipm_CallRow_init icd_CallRow_init ict_CallRow_init : Value} {iod_CallRow_init ian_CallRow_init : Option Addr} {isl_CallRow_init : Array (Option Value)}
    (xi_CallRow_init : PySem.W.findIn K (.ref A_CallRow) "__init__" = some (some (.ref fi_CallRow_init)))
    (xf_CallRow_init : PySem.W.isFn K (.ref fi_CallRow_init) = true) (xo_CallRow_init : K.lookup fi_CallRow_init = some ⟨ioc_CallRow_init, iod_CallRow_init, .func (PySem.W.fnOf "__init__" "CallRow.__init__" (defArgs s_CallRow_init) (defBody s_CallRow_init) (defScope s_CallRow_init) .none ikV_CallRow_init idc_CallRow_init ipm_CallRow_init ian_CallRow_init icd_CallRow_init ict_CallRow_init), isl_CallRow_init⟩) (xc_CallRow_init : PySem.W.codeIn K icd_CallRow_init "CallRow.__init__" = true) (xq_CallRow_init : PySem.W.keepIn K (.ref fi_CallRow_init) = true)
    (xw_CallRow_name : PySem.W.findIn K (.ref A_CallRow) "name" = some none)
    (xw_CallRow_things : PySem.W.findIn K (.ref A_CallRow) "things" = some none)
    (xw_CallRow_number : PySem.W.findIn K (.ref A_CallRow) "number" = some none)
    (xi_LastRow_init : PySem.W.findIn K (.ref A_LastRow) "__init__" = some (some (.ref fi_Row_init)))
    (xw_LastRow_number : PySem.W.findIn K (.ref A_LastRow) "number" = some none)
    {fi_IfRow_init : Addr} {ioc_IfRow_init ikV_IfRow_init idc_IfRow_init ipm_IfRow_init icd_IfRow_init ict_IfRow_init : Value} {iod_IfRow_init ian_IfRow_init : Option Addr} {isl_IfRow_init : Array (Option Value)}
    (xi_IfRow_init : PySem.W.findIn K (.ref A_IfRow) "__init__" = some (some (.ref fi_IfRow_init)))
    (xf_IfRow_init : PySem.W.isFn K (.ref fi_IfRow_init) = true) (xo_IfRow_init : K.lookup fi_IfRow_init = some ⟨ioc_IfRow_init, iod_IfRow_init, .func (PySem.W.fnOf "__init__" "IfRow.__init__" (defArgs s_IfRow_init) (defBody s_IfRow_init) (defScope s_IfRow_init) .none ikV_IfRow_init idc_IfRow_init ipm_IfRow_init ian_IfRow_init icd_IfRow_init ict_IfRow_init), isl_IfRow_init⟩) (xc_IfRow_init : PySem.W.codeIn K icd_IfRow_init "IfRow.__init__" = true) (xq_IfRow_init : PySem.W.keepIn K (.ref fi_IfRow_init) = true)
    (xw_IfRow_value : PySem.W.findIn K (.ref A_IfRow) "value" = some none)
    (xw_IfRow_first : PySem.W.findIn K (.ref A_IfRow) "first" = some none)
    (xw_IfRow_other : PySem.W.findIn K (.ref A_IfRow) "other" = some none)
    (xw_IfRow_left : PySem.W.findIn K (.ref A_IfRow) "left" = some none)
    (xw_IfRow_right : PySem.W.findIn K (.ref A_IfRow) "right" = some none)
    (xw_IfRow_number : PySem.W.findIn K (.ref A_IfRow) "number" = some none)
    {fi_LoopRow_init : Addr} {ioc_LoopRow_init ikV_LoopRow_init idc_LoopRow_init ipm_LoopRow_init icd_LoopRow_init ict_LoopRow_init : Value} {iod_LoopRow_init ian_LoopRow_init : Option Addr} {isl_LoopRow_init : Array (Option Value)}
    (xi_LoopRow_init : PySem.W.findIn K (.ref A_LoopRow) "__init__" = some (some (.ref fi_LoopRow_init)))
    (xf_LoopRow_init : PySem.W.isFn K (.ref fi_LoopRow_init) = true) (xo_LoopRow_init : K.lookup fi_LoopRow_init = some ⟨ioc_LoopRow_init, iod_LoopRow_init, .func (PySem.W.fnOf "__init__" "LoopRow.__init__" (defArgs s_LoopRow_init) (defBody s_LoopRow_init) (defScope s_LoopRow_init) .none ikV_LoopRow_init idc_LoopRow_init ipm_LoopRow_init ian_LoopRow_init icd_LoopRow_init ict_LoopRow_init), isl_LoopRow_init⟩) (xc_LoopRow_init : PySem.W.codeIn K icd_LoopRow_init "LoopRow.__init__" = true) (xq_LoopRow_init : PySem.W.keepIn K (.ref fi_LoopRow_init) = true)
    (xw_LoopRow_thing : PySem.W.findIn K (.ref A_LoopRow) "thing" = some none)
    (xw_LoopRow_most : PySem.W.findIn K (.ref A_LoopRow) "most" = some none)
    (xw_LoopRow_body : PySem.W.findIn K (.ref A_LoopRow) "body" = some none)
    (xw_LoopRow_left : PySem.W.findIn K (.ref A_LoopRow) "left" = some none)
    (xw_LoopRow_right : PySem.W.findIn K (.ref A_LoopRow) "right" = some none)
    (xw_LoopRow_number : PySem.W.findIn K (.ref A_LoopRow) "number" = some none)
    {fi_DeedRow_init : Addr} {ioc_DeedRow_init ikV_DeedRow_init idc_DeedRow_init ipm_DeedRow_init icd_DeedRow_init ict_DeedRow_init : Value} {iod_DeedRow_init ian_DeedRow_init : Option Addr} {isl_DeedRow_init : Array (Option Value)}
    (xi_DeedRow_init : PySem.W.findIn K (.ref A_DeedRow) "__init__" = some (some (.ref fi_DeedRow_init)))
    (xf_DeedRow_init : PySem.W.isFn K (.ref fi_DeedRow_init) = true) (xo_DeedRow_init : K.lookup fi_DeedRow_init = some ⟨ioc_DeedRow_init, iod_DeedRow_init, .func (PySem.W.fnOf "__init__" "DeedRow.__init__" (defArgs s_DeedRow_init) (defBody s_DeedRow_init) (defScope s_DeedRow_init) .none ikV_DeedRow_init idc_DeedRow_init ipm_DeedRow_init ian_DeedRow_init icd_DeedRow_init ict_DeedRow_init), isl_DeedRow_init⟩) (xc_DeedRow_init : PySem.W.codeIn K icd_DeedRow_init "DeedRow.__init__" = true) (xq_DeedRow_init : PySem.W.keepIn K (.ref fi_DeedRow_init) = true)
    (xw_DeedRow_name : PySem.W.findIn K (.ref A_DeedRow) "name" = some none)
    (xw_DeedRow_parts : PySem.W.findIn K (.ref A_DeedRow) "parts" = some none)
    (xw_DeedRow_body : PySem.W.findIn K (.ref A_DeedRow) "body" = some none)
    (xw_DeedRow_number : PySem.W.findIn K (.ref A_DeedRow) "number" = some none)
    {fi_Program_init : Addr} {ioc_Program_init ikV_Program_init idc_Program_init ipm_Program_init icd_Program_init ict_Program_init : Value} {iod_Program_init ian_Program_init : Option Addr} {isl_Program_init : Array (Option Value)}
    (xi_Program_init : PySem.W.findIn K (.ref A_Program) "__init__" = some (some (.ref fi_Program_init)))
    (xf_Program_init : PySem.W.isFn K (.ref fi_Program_init) = true) (xo_Program_init : K.lookup fi_Program_init = some ⟨ioc_Program_init, iod_Program_init, .func (PySem.W.fnOf "__init__" "Program.__init__" (defArgs s_Program_init) (defBody s_Program_init) (defScope s_Program_init) .none ikV_Program_init idc_Program_init ipm_Program_init ian_Program_init icd_Program_init ict_Program_init), isl_Program_init⟩) (xc_Program_init : PySem.W.codeIn K icd_Program_init "Program.__init__" = true) (xq_Program_init : PySem.W.keepIn K (.ref fi_Program_init) = true)
    (xw_Program_heads : PySem.W.findIn K (.ref A_Program) "heads" = some none)
    (xw_Program_deeds : PySem.W.findIn K (.ref A_Program) "deeds" = some none)
    (xw_Program_main : PySem.W.findIn K (.ref A_Program) "main" = some none)
    {fi_Run_init : Addr} {ioc_Run_init ikV_Run_init idc_Run_init ipm_Run_init icd_Run_init ict_Run_init : Value} {iod_Run_init ian_Run_init : Option Addr} {isl_Run_init : Array (Option Value)}
    (xi_Run_init : PySem.W.findIn K (.ref A_Run) "__init__" = some (some (.ref fi_Run_init)))
    (xf_Run_init : PySem.W.isFn K (.ref fi_Run_init) = true) (xo_Run_init : K.lookup fi_Run_init = some ⟨ioc_Run_init, iod_Run_init, .func (PySem.W.fnOf "__init__" "Run.__init__" (defArgs s_Run_init) (defBody s_Run_init) (defScope s_Run_init) .none ikV_Run_init idc_Run_init ipm_Run_init ian_Run_init icd_Run_init ict_Run_init), isl_Run_init⟩) (xc_Run_init : PySem.W.codeIn K icd_Run_init "Run.__init__" = true) (xq_Run_init : PySem.W.keepIn K (.ref fi_Run_init) = true)
    {fi_Run_number_at : Addr} {ioc_Run_number_at ikV_Run_number_at idc_Run_number_at ipm_Run_number_at icd_Run_number_at ict_Run_number_at : Value} {iod_Run_number_at ian_Run_number_at : Option Addr} {isl_Run_number_at : Array (Option Value)}
    (xi_Run_number_at : PySem.W.findIn K (.ref A_Run) "number_at" = some (some (.ref fi_Run_number_at)))
    (xf_Run_number_at : PySem.W.isFn K (.ref fi_Run_number_at) = true) (xo_Run_number_at : K.lookup fi_Run_number_at = some ⟨ioc_Run_number_at, iod_Run_number_at, .func (PySem.W.fnOf "number_at" "Run.number_at" (defArgs s_Run_number_at) (defBody s_Run_number_at) (defScope s_Run_number_at) .none ikV_Run_number_at idc_Run_number_at ipm_Run_number_at ian_Run_number_at icd_Run_number_at ict_Run_number_at), isl_Run_number_at⟩) (xc_Run_number_at : PySem.W.codeIn K icd_Run_number_at "Run.number_at" = true) (xq_Run_number_at : PySem.W.keepIn K (.ref fi_Run_number_at) = true)
    {fi_Run_number_for : Addr} {ioc_Run_number_for ikV_Run_number_for idc_Run_number_for ipm_Run_number_for icd_Run_number_for ict_Run_number_for : Value} {iod_Run_number_for ian_Run_number_for : Option Addr} {isl_Run_number_for : Array (Option Value)}
    (xi_Run_number_for : PySem.W.findIn K (.ref A_Run) "number_for" = some (some (.ref fi_Run_number_for)))
    (xf_Run_number_for : PySem.W.isFn K (.ref fi_Run_number_for) = true) (xo_Run_number_for : K.lookup fi_Run_number_for = some ⟨ioc_Run_number_for, iod_Run_number_for, .func (PySem.W.fnOf "number_for" "Run.number_for" (defArgs s_Run_number_for) (defBody s_Run_number_for) (defScope s_Run_number_for) .none ikV_Run_number_for idc_Run_number_for ipm_Run_number_for ian_Run_number_for icd_Run_number_for ict_Run_number_for), isl_Run_number_for⟩) (xc_Run_number_for : PySem.W.codeIn K icd_Run_number_for "Run.number_for" = true) (xq_Run_number_for : PySem.W.keepIn K (.ref fi_Run_number_for) = true)
    {fi_Run_number_told : Addr} {ioc_Run_number_told ikV_Run_number_told idc_Run_number_told ipm_Run_number_told icd_Run_number_told ict_Run_number_told : Value} {iod_Run_number_told ian_Run_number_told : Option Addr} {isl_Run_number_told : Array (Option Value)}
    (xi_Run_number_told : PySem.W.findIn K (.ref A_Run) "number_told" = some (some (.ref fi_Run_number_told)))
    (xf_Run_number_told : PySem.W.isFn K (.ref fi_Run_number_told) = true) (xo_Run_number_told : K.lookup fi_Run_number_told = some ⟨ioc_Run_number_told, iod_Run_number_told, .func (PySem.W.fnOf "number_told" "Run.number_told" (defArgs s_Run_number_told) (defBody s_Run_number_told) (defScope s_Run_number_told) .none ikV_Run_number_told idc_Run_number_told ipm_Run_number_told ian_Run_number_told icd_Run_number_told ict_Run_number_told), isl_Run_number_told⟩) (xc_Run_number_told : PySem.W.codeIn K icd_Run_number_told "Run.number_told" = true) (xq_Run_number_told : PySem.W.keepIn K (.ref fi_Run_number_told) = true)
    {fi_Run_pass_steps : Addr} {ioc_Run_pass_steps ikV_Run_pass_steps idc_Run_pass_steps ipm_Run_pass_steps icd_Run_pass_steps ict_Run_pass_steps : Value} {iod_Run_pass_steps ian_Run_pass_steps : Option Addr} {isl_Run_pass_steps : Array (Option Value)}
    (xi_Run_pass_steps : PySem.W.findIn K (.ref A_Run) "pass_steps" = some (some (.ref fi_Run_pass_steps)))
    (xf_Run_pass_steps : PySem.W.isFn K (.ref fi_Run_pass_steps) = true) (xo_Run_pass_steps : K.lookup fi_Run_pass_steps = some ⟨ioc_Run_pass_steps, iod_Run_pass_steps, .func (PySem.W.fnOf "pass_steps" "Run.pass_steps" (defArgs s_Run_pass_steps) (defBody s_Run_pass_steps) (defScope s_Run_pass_steps) .none ikV_Run_pass_steps idc_Run_pass_steps ipm_Run_pass_steps ian_Run_pass_steps icd_Run_pass_steps ict_Run_pass_steps), isl_Run_pass_steps⟩) (xc_Run_pass_steps : PySem.W.codeIn K icd_Run_pass_steps "Run.pass_steps" = true) (xq_Run_pass_steps : PySem.W.keepIn K (.ref fi_Run_pass_steps) = true)
    {fi_Run_do_rows : Addr} {ioc_Run_do_rows ikV_Run_do_rows idc_Run_do_rows ipm_Run_do_rows icd_Run_do_rows ict_Run_do_rows : Value} {iod_Run_do_rows ian_Run_do_rows : Option Addr} {isl_Run_do_rows : Array (Option Value)}
    (xi_Run_do_rows : PySem.W.findIn K (.ref A_Run) "do_rows" = some (some (.ref fi_Run_do_rows)))
    (xf_Run_do_rows : PySem.W.isFn K (.ref fi_Run_do_rows) = true) (xo_Run_do_rows : K.lookup fi_Run_do_rows = some ⟨ioc_Run_do_rows, iod_Run_do_rows, .func (PySem.W.fnOf "do_rows" "Run.do_rows" (defArgs s_Run_do_rows) (defBody s_Run_do_rows) (defScope s_Run_do_rows) .none ikV_Run_do_rows idc_Run_do_rows ipm_Run_do_rows ian_Run_do_rows icd_Run_do_rows ict_Run_do_rows), isl_Run_do_rows⟩) (xc_Run_do_rows : PySem.W.codeIn K icd_Run_do_rows "Run.do_rows" = true) (xq_Run_do_rows : PySem.W.keepIn K (.ref fi_Run_do_rows) = true)
    {fi_Run_do_row : Addr} {ioc_Run_do_row ikV_Run_do_row idc_Run_do_row ipm_Run_do_row icd_Run_do_row ict_Run_do_row : Value} {iod_Run_do_row ian_Run_do_row : Option Addr} {isl_Run_do_row : Array (Option Value)}
    (xi_Run_do_row : PySem.W.findIn K (.ref A_Run) "do_row" = some (some (.ref fi_Run_do_row)))
    (xf_Run_do_row : PySem.W.isFn K (.ref fi_Run_do_row) = true) (xo_Run_do_row : K.lookup fi_Run_do_row = some ⟨ioc_Run_do_row, iod_Run_do_row, .func (PySem.W.fnOf "do_row" "Run.do_row" (defArgs s_Run_do_row) (defBody s_Run_do_row) (defScope s_Run_do_row) .none ikV_Run_do_row idc_Run_do_row ipm_Run_do_row ian_Run_do_row icd_Run_do_row ict_Run_do_row), isl_Run_do_row⟩) (xc_Run_do_row : PySem.W.codeIn K icd_Run_do_row "Run.do_row" = true) (xq_Run_do_row : PySem.W.keepIn K (.ref fi_Run_do_row) = true)
    {fi_Run_do_call : Addr} {ioc_Run_do_call ikV_Run_do_call idc_Run_do_call ipm_Run_do_call icd_Run_do_call ict_Run_do_call : Value} {iod_Run_do_call ian_Run_do_call : Option Addr} {isl_Run_do_call : Array (Option Value)}
    (xi_Run_do_call : PySem.W.findIn K (.ref A_Run) "do_call" = some (some (.ref fi_Run_do_call)))
    (xf_Run_do_call : PySem.W.isFn K (.ref fi_Run_do_call) = true) (xo_Run_do_call : K.lookup fi_Run_do_call = some ⟨ioc_Run_do_call, iod_Run_do_call, .func (PySem.W.fnOf "do_call" "Run.do_call" (defArgs s_Run_do_call) (defBody s_Run_do_call) (defScope s_Run_do_call) .none ikV_Run_do_call idc_Run_do_call ipm_Run_do_call ian_Run_do_call icd_Run_do_call ict_Run_do_call), isl_Run_do_call⟩) (xc_Run_do_call : PySem.W.codeIn K icd_Run_do_call "Run.do_call" = true) (xq_Run_do_call : PySem.W.keepIn K (.ref fi_Run_do_call) = true)
    {fi_Run_do_if : Addr} {ioc_Run_do_if ikV_Run_do_if idc_Run_do_if ipm_Run_do_if icd_Run_do_if ict_Run_do_if : Value} {iod_Run_do_if ian_Run_do_if : Option Addr} {isl_Run_do_if : Array (Option Value)}
    (xi_Run_do_if : PySem.W.findIn K (.ref A_Run) "do_if" = some (some (.ref fi_Run_do_if)))
    (xf_Run_do_if : PySem.W.isFn K (.ref fi_Run_do_if) = true) (xo_Run_do_if : K.lookup fi_Run_do_if = some ⟨ioc_Run_do_if, iod_Run_do_if, .func (PySem.W.fnOf "do_if" "Run.do_if" (defArgs s_Run_do_if) (defBody s_Run_do_if) (defScope s_Run_do_if) .none ikV_Run_do_if idc_Run_do_if ipm_Run_do_if ian_Run_do_if icd_Run_do_if ict_Run_do_if), isl_Run_do_if⟩) (xc_Run_do_if : PySem.W.codeIn K icd_Run_do_if "Run.do_if" = true) (xq_Run_do_if : PySem.W.keepIn K (.ref fi_Run_do_if) = true)
    {fi_Run_do_loop : Addr} {ioc_Run_do_loop ikV_Run_do_loop idc_Run_do_loop ipm_Run_do_loop icd_Run_do_loop ict_Run_do_loop : Value} {iod_Run_do_loop ian_Run_do_loop : Option Addr} {isl_Run_do_loop : Array (Option Value)}
    (xi_Run_do_loop : PySem.W.findIn K (.ref A_Run) "do_loop" = some (some (.ref fi_Run_do_loop)))
    (xf_Run_do_loop : PySem.W.isFn K (.ref fi_Run_do_loop) = true) (xo_Run_do_loop : K.lookup fi_Run_do_loop = some ⟨ioc_Run_do_loop, iod_Run_do_loop, .func (PySem.W.fnOf "do_loop" "Run.do_loop" (defArgs s_Run_do_loop) (defBody s_Run_do_loop) (defScope s_Run_do_loop) .none ikV_Run_do_loop idc_Run_do_loop ipm_Run_do_loop ian_Run_do_loop icd_Run_do_loop ict_Run_do_loop), isl_Run_do_loop⟩) (xc_Run_do_loop : PySem.W.codeIn K icd_Run_do_loop "Run.do_loop" = true) (xq_Run_do_loop : PySem.W.keepIn K (.ref fi_Run_do_loop) = true)
    (xw_Run_deeds : PySem.W.findIn K (.ref A_Run) "deeds" = some none)
    (xw_Run_cells : PySem.W.findIn K (.ref A_Run) "cells" = some none)
    (xw_Run_book : PySem.W.findIn K (.ref A_Run) "book" = some none)
    (yg_Row_init : PySem.W.specialIn K (.ref A_Row) "__getattribute__" = some (some (.builtin "type.__getattribute__"))) (yr_Row_init : PySem.W.readsIn K A_Row (.type "type") = true) (yf_Row_init : PySem.W.findCls K (.ref A_Row) (.type "type") "__init__" = some (.val (.ref fi_Row_init)))
    (nod : [A_Book, A_Row, A_HandRow, A_GivenRow, A_OwnRow, A_SetRow, A_PutRow, A_SendRow, A_SayRow, A_CallRow, A_LastRow, A_IfRow, A_LoopRow, A_DeedRow, A_Program, A_Run].Nodup)
    : ∃ fd : FuncData, (∀ (s : Shared) (v : Value), BindsTo s fd ⟨[v], []⟩ [("_law_script", v)]) ∧ ∀ base : Heap, K.In base → base.Ns mainGlobals mg → FnOk l.prog w K mg base CX0 20 fa fd ["_law_script"] (sp_law K) := by
  have t1 : TopFn K mg "is_number" s_is_number ["thing"] := topFn_mk X G a1 l1 c1 k1 fun _ _ _ _ _ _ us hl => match us, hl with | [_], _ => rfl
  have t2 : TopFn K mg "is_good" s_is_good ["gift", "size"] := topFn_mk X G a2 l2 c2 k2 fun _ _ _ _ _ _ us hl => match us, hl with | [_, _], _ => rfl
  have t3 : TopFn K mg "given_cell" s_given_cell ["given", "gifts"] := topFn_mk X G a3 l3 c3 k3 fun _ _ _ _ _ _ us hl => match us, hl with | [_, _], _ => rfl
  have t4 : TopFn K mg "own_cell" s_own_cell ["own"] := topFn_mk X G a4 l4 c4 k4 fun _ _ _ _ _ _ us hl => match us, hl with | [_], _ => rfl
  have t5 : TopFn K mg "cells_of" s_cells_of ["program", "gifts"] := topFn_mk X G a5 l5 c5 k5 fun _ _ _ _ _ _ us hl => match us, hl with | [_, _], _ => rfl
  have t6 : TopFn K mg "reckon" s_reckon ["one", "word", "other"] := topFn_mk X G a6 l6 c6 k6 fun _ _ _ _ _ _ us hl => match us, hl with | [_, _, _], _ => rfl
  have t8 : TopFn K mg "ends_of" s_ends_of ["program", "cells"] := topFn_mk X G a8 l8 c8 k8 fun _ _ _ _ _ _ us hl => match us, hl with | [_, _], _ => rfl
  have t9 : TopFn K mg "run" s_run ["program", "gifts"] := topFn_mk X G a9 l9 c9 k9 fun _ _ _ _ _ _ us hl => match us, hl with | [_, _], _ => rfl
  have t10 : TopFn K mg "_law_cell_at" s_law_cell_at ["_law_script", "_law_k"] := topFn_mk X G a10 l10 c10 k10 fun _ _ _ _ _ _ us hl => match us, hl with | [_, _], _ => rfl
  have t11 : TopFn K mg "_law_draws" s_law_draws ["_law_script"] := topFn_mk X G a11 l11 c11 k11 fun _ _ _ _ _ _ us hl => match us, hl with | [_], _ => rfl
  have t12 : TopFn K mg "_law_body" s_law_body ["_law_shape", "_law_at"] := topFn_mk X G a12 l12 c12 k12 fun _ _ _ _ _ _ us hl => match us, hl with | [_, _], _ => rfl
  have t13 : TopFn K mg "_law_spots" s_law_spots ["_law_shape", "_law_at"] := topFn_mk X G a13 l13 c13 k13 fun _ _ _ _ _ _ us hl => match us, hl with | [_, _], _ => rfl
  have t14 : TopFn K mg "_law_rows" s_law_rows ["_law_shape", "_law_at"] := topFn_mk X G a14 l14 c14 k14 fun _ _ _ _ _ _ us hl => match us, hl with | [_, _], _ => rfl
  have t15 : TopFn K mg "_law_program" s_law_program ["_law_shape"] := topFn_mk X G a15 l15 c15 k15 fun _ _ _ _ _ _ us hl => match us, hl with | [_], _ => rfl
  have t16 : TopFn K mg "_law_tell" s_law_tell ["_law_book", "_law_at", "_law_hand", "_law_told"] := topFn_mk X G a16 l16 c16 k16 fun _ _ _ _ _ _ us hl => match us, hl with | [_, _, _, _], _ => rfl
  have t17 : TopFn K mg "_law_test" s_law_test ["_law_shape", "_law_book", "_law_at", "_law_count"] := topFn_mk X G a17 l17 c17 k17 fun _ _ _ _ _ _ us hl => match us, hl with | [_, _, _, _], _ => rfl
  have t18 : TopFn K mg "_law_inner" s_law_inner ["_law_shape", "_law_book", "_law_at", "_law_count"] := topFn_mk X G a18 l18 c18 k18 fun _ _ _ _ _ _ us hl => match us, hl with | [_, _, _, _], _ => rfl
  have t19 : TopFn K mg "_law_follow" s_law_follow ["_law_shape", "_law_book", "_law_at"] := topFn_mk X G a19 l19 c19 k19 fun _ _ _ _ _ _ us hl => match us, hl with | [_, _, _], _ => rfl
  have t20 : TopFn K mg "_law_same" s_law_same ["_law_found", "_law_due"] := topFn_mk X G a20 l20 c20 k20 fun _ _ _ _ _ _ us hl => match us, hl with | [_, _], _ => rfl
  have t21 : TopFn K mg "law" s_law ["_law_script"] := topFn_mk X G a21 l21 c21 k21 fun _ _ _ _ _ _ us hl => match us, hl with | [_], _ => rfl
  have T : Txt K mg ⟨A_Book, A_Row, A_HandRow, A_GivenRow, A_OwnRow, A_SetRow, A_PutRow, A_SendRow, A_SayRow, A_CallRow, A_LastRow, A_IfRow, A_LoopRow, A_DeedRow, A_Program, A_Run⟩ := { is_number := t1, is_good := t2, given_cell := t3, own_cell := t4, cells_of := t5, reckon := t6, ends_of := t8, run := t9, law_cell_at := t10, law_draws := t11, law_body := t12, law_spots := t13, law_rows := t14, law_program := t15, law_tell := t16, law_test := t17, law_inner := t18, law_follow := t19, law_same := t20, z_all := PySem.W.mg_none_of X G z_all, z_bool := PySem.W.mg_none_of X G z_bool, z_dict := PySem.W.mg_none_of X G z_dict, z_int := PySem.W.mg_none_of X G z_int, z_isinstance := PySem.W.mg_none_of X G z_isinstance, z_len := PySem.W.mg_none_of X G z_len, z_list := PySem.W.mg_none_of X G z_list, z_min := PySem.W.mg_none_of X G z_min, z_range := PySem.W.mg_none_of X G z_range, z_str := PySem.W.mg_none_of X G z_str, z_tuple := PySem.W.mg_none_of X G z_tuple, z_zip := PySem.W.mg_none_of X G z_zip, c_MOST_NUMBER := ⟨_, PySem.W.mg_of X G g_MOST_NUMBER⟩, c_ROUND := ⟨_, PySem.W.mg_of X G g_ROUND⟩, o_Book := ⟨PySem.W.mg_of X G x_Book, ⟨xpg_Book, xhd_Book, xpo_Book, xsa_Book⟩, ⟨_, xl_Book, xm_Book⟩, xty_Book, xkc_Book, cg, ct, xmk_Book, xkp_Book⟩, m_Book_init := mFn_mk xi_Book_init xf_Book_init xo_Book_init xc_Book_init xq_Book_init fun _ _ _ _ _ _ us hl => match us, hl with | [_], _ => rfl, n_Book_letters := xw_Book_letters, n_Book_said := xw_Book_said, n_Book_trace := xw_Book_trace, n_Book_steps := xw_Book_steps, n_Book_ends := xw_Book_ends, o_Row := ⟨PySem.W.mg_of X G x_Row, ⟨xpg_Row, xhd_Row, xpo_Row, xsa_Row⟩, ⟨_, xl_Row, xm_Row⟩, xty_Row, xkc_Row, cg, ct, xmk_Row, xkp_Row⟩, m_Row_init := mFn_mk xi_Row_init xf_Row_init xo_Row_init xc_Row_init xq_Row_init fun _ _ _ _ _ _ us hl => match us, hl with | [_, _], _ => rfl, o_HandRow := ⟨PySem.W.mg_of X G x_HandRow, ⟨xpg_HandRow, xhd_HandRow, xpo_HandRow, xsa_HandRow⟩, ⟨_, xl_HandRow, xm_HandRow⟩, xty_HandRow, xkc_HandRow, cg, ct, xmk_HandRow, xkp_HandRow⟩, m_HandRow_init := mFn_mk xi_HandRow_init xf_HandRow_init xo_HandRow_init xc_HandRow_init xq_HandRow_init fun _ _ _ _ _ _ us hl => match us, hl with | [_, _, _, _], _ => rfl, n_HandRow_name := xw_HandRow_name, n_HandRow_rank := xw_HandRow_rank, n_HandRow_number := xw_HandRow_number, o_GivenRow := ⟨PySem.W.mg_of X G x_GivenRow, ⟨xpg_GivenRow, xhd_GivenRow, xpo_GivenRow, xsa_GivenRow⟩, ⟨_, xl_GivenRow, xm_GivenRow⟩, xty_GivenRow, xkc_GivenRow, cg, ct, xmk_GivenRow, xkp_GivenRow⟩, m_GivenRow_init := mFn_mk xi_GivenRow_init xf_GivenRow_init xo_GivenRow_init xc_GivenRow_init xq_GivenRow_init fun _ _ _ _ _ _ us hl => match us, hl with | [_, _, _, _, _], _ => rfl, n_GivenRow_name := xw_GivenRow_name, n_GivenRow_rank := xw_GivenRow_rank, n_GivenRow_size := xw_GivenRow_size, n_GivenRow_number := xw_GivenRow_number, o_OwnRow := ⟨PySem.W.mg_of X G x_OwnRow, ⟨xpg_OwnRow, xhd_OwnRow, xpo_OwnRow, xsa_OwnRow⟩, ⟨_, xl_OwnRow, xm_OwnRow⟩, xty_OwnRow, xkc_OwnRow, cg, ct, xmk_OwnRow, xkp_OwnRow⟩, m_OwnRow_init := mFn_mk xi_OwnRow_init xf_OwnRow_init xo_OwnRow_init xc_OwnRow_init xq_OwnRow_init fun _ _ _ _ _ _ us hl => match us, hl with | [_, _, _, _], _ => rfl, n_OwnRow_name := xw_OwnRow_name, n_OwnRow_size := xw_OwnRow_size, n_OwnRow_number := xw_OwnRow_number, o_SetRow := ⟨PySem.W.mg_of X G x_SetRow, ⟨xpg_SetRow, xhd_SetRow, xpo_SetRow, xsa_SetRow⟩, ⟨_, xl_SetRow, xm_SetRow⟩, xty_SetRow, xkc_SetRow, cg, ct, xmk_SetRow, xkp_SetRow⟩, m_SetRow_init := mFn_mk xi_SetRow_init xf_SetRow_init xo_SetRow_init xc_SetRow_init xq_SetRow_init fun _ _ _ _ _ _ us hl => match us, hl with | [_, _, _, _], _ => rfl, n_SetRow_name := xw_SetRow_name, n_SetRow_value := xw_SetRow_value, n_SetRow_number := xw_SetRow_number, o_PutRow := ⟨PySem.W.mg_of X G x_PutRow, ⟨xpg_PutRow, xhd_PutRow, xpo_PutRow, xsa_PutRow⟩, ⟨_, xl_PutRow, xm_PutRow⟩, xty_PutRow, xkc_PutRow, cg, ct, xmk_PutRow, xkp_PutRow⟩, o_SendRow := ⟨PySem.W.mg_of X G x_SendRow, ⟨xpg_SendRow, xhd_SendRow, xpo_SendRow, xsa_SendRow⟩, ⟨_, xl_SendRow, xm_SendRow⟩, xty_SendRow, xkc_SendRow, cg, ct, xmk_SendRow, xkp_SendRow⟩, m_SendRow_init := mFn_mk xi_SendRow_init xf_SendRow_init xo_SendRow_init xc_SendRow_init xq_SendRow_init fun _ _ _ _ _ _ us hl => match us, hl with | [_, _, _, _], _ => rfl, n_SendRow_name := xw_SendRow_name, n_SendRow_value := xw_SendRow_value, n_SendRow_number := xw_SendRow_number, o_SayRow := ⟨PySem.W.mg_of X G x_SayRow, ⟨xpg_SayRow, xhd_SayRow, xpo_SayRow, xsa_SayRow⟩, ⟨_, xl_SayRow, xm_SayRow⟩, xty_SayRow, xkc_SayRow, cg, ct, xmk_SayRow, xkp_SayRow⟩, o_CallRow := ⟨PySem.W.mg_of X G x_CallRow, ⟨xpg_CallRow, xhd_CallRow, xpo_CallRow, xsa_CallRow⟩, ⟨_, xl_CallRow, xm_CallRow⟩, xty_CallRow, xkc_CallRow, cg, ct, xmk_CallRow, xkp_CallRow⟩, m_CallRow_init := mFn_mk xi_CallRow_init xf_CallRow_init xo_CallRow_init xc_CallRow_init xq_CallRow_init fun _ _ _ _ _ _ us hl => match us, hl with | [_, _, _, _], _ => rfl, n_CallRow_name := xw_CallRow_name, n_CallRow_things := xw_CallRow_things, n_CallRow_number := xw_CallRow_number, o_LastRow := ⟨PySem.W.mg_of X G x_LastRow, ⟨xpg_LastRow, xhd_LastRow, xpo_LastRow, xsa_LastRow⟩, ⟨_, xl_LastRow, xm_LastRow⟩, xty_LastRow, xkc_LastRow, cg, ct, xmk_LastRow, xkp_LastRow⟩, m_LastRow_init := mFn_mk xi_LastRow_init xf_Row_init xo_Row_init xc_Row_init xq_Row_init fun _ _ _ _ _ _ us hl => match us, hl with | [_, _], _ => rfl, n_LastRow_number := xw_LastRow_number, o_IfRow := ⟨PySem.W.mg_of X G x_IfRow, ⟨xpg_IfRow, xhd_IfRow, xpo_IfRow, xsa_IfRow⟩, ⟨_, xl_IfRow, xm_IfRow⟩, xty_IfRow, xkc_IfRow, cg, ct, xmk_IfRow, xkp_IfRow⟩, m_IfRow_init := mFn_mk xi_IfRow_init xf_IfRow_init xo_IfRow_init xc_IfRow_init xq_IfRow_init fun _ _ _ _ _ _ us hl => match us, hl with | [_, _, _, _, _, _, _], _ => rfl, n_IfRow_value := xw_IfRow_value, n_IfRow_first := xw_IfRow_first, n_IfRow_other := xw_IfRow_other, n_IfRow_left := xw_IfRow_left, n_IfRow_right := xw_IfRow_right, n_IfRow_number := xw_IfRow_number, o_LoopRow := ⟨PySem.W.mg_of X G x_LoopRow, ⟨xpg_LoopRow, xhd_LoopRow, xpo_LoopRow, xsa_LoopRow⟩, ⟨_, xl_LoopRow, xm_LoopRow⟩, xty_LoopRow, xkc_LoopRow, cg, ct, xmk_LoopRow, xkp_LoopRow⟩, m_LoopRow_init := mFn_mk xi_LoopRow_init xf_LoopRow_init xo_LoopRow_init xc_LoopRow_init xq_LoopRow_init fun _ _ _ _ _ _ us hl => match us, hl with | [_, _, _, _, _, _, _], _ => rfl, n_LoopRow_thing := xw_LoopRow_thing, n_LoopRow_most := xw_LoopRow_most, n_LoopRow_body := xw_LoopRow_body, n_LoopRow_left := xw_LoopRow_left, n_LoopRow_right := xw_LoopRow_right, n_LoopRow_number := xw_LoopRow_number, o_DeedRow := ⟨PySem.W.mg_of X G x_DeedRow, ⟨xpg_DeedRow, xhd_DeedRow, xpo_DeedRow, xsa_DeedRow⟩, ⟨_, xl_DeedRow, xm_DeedRow⟩, xty_DeedRow, xkc_DeedRow, cg, ct, xmk_DeedRow, xkp_DeedRow⟩, m_DeedRow_init := mFn_mk xi_DeedRow_init xf_DeedRow_init xo_DeedRow_init xc_DeedRow_init xq_DeedRow_init fun _ _ _ _ _ _ us hl => match us, hl with | [_, _, _, _, _], _ => rfl, n_DeedRow_name := xw_DeedRow_name, n_DeedRow_parts := xw_DeedRow_parts, n_DeedRow_body := xw_DeedRow_body, n_DeedRow_number := xw_DeedRow_number, o_Program := ⟨PySem.W.mg_of X G x_Program, ⟨xpg_Program, xhd_Program, xpo_Program, xsa_Program⟩, ⟨_, xl_Program, xm_Program⟩, xty_Program, xkc_Program, cg, ct, xmk_Program, xkp_Program⟩, m_Program_init := mFn_mk xi_Program_init xf_Program_init xo_Program_init xc_Program_init xq_Program_init fun _ _ _ _ _ _ us hl => match us, hl with | [_, _, _, _], _ => rfl, n_Program_heads := xw_Program_heads, n_Program_deeds := xw_Program_deeds, n_Program_main := xw_Program_main, o_Run := ⟨PySem.W.mg_of X G x_Run, ⟨xpg_Run, xhd_Run, xpo_Run, xsa_Run⟩, ⟨_, xl_Run, xm_Run⟩, xty_Run, xkc_Run, cg, ct, xmk_Run, xkp_Run⟩, m_Run_init := mFn_mk xi_Run_init xf_Run_init xo_Run_init xc_Run_init xq_Run_init fun _ _ _ _ _ _ us hl => match us, hl with | [_, _, _], _ => rfl, m_Run_number_at := mFn_mk xi_Run_number_at xf_Run_number_at xo_Run_number_at xc_Run_number_at xq_Run_number_at fun _ _ _ _ _ _ us hl => match us, hl with | [_, _], _ => rfl, m_Run_number_for := mFn_mk xi_Run_number_for xf_Run_number_for xo_Run_number_for xc_Run_number_for xq_Run_number_for fun _ _ _ _ _ _ us hl => match us, hl with | [_, _], _ => rfl, m_Run_number_told := mFn_mk xi_Run_number_told xf_Run_number_told xo_Run_number_told xc_Run_number_told xq_Run_number_told fun _ _ _ _ _ _ us hl => match us, hl with | [_, _], _ => rfl, m_Run_pass_steps := mFn_mk xi_Run_pass_steps xf_Run_pass_steps xo_Run_pass_steps xc_Run_pass_steps xq_Run_pass_steps fun _ _ _ _ _ _ us hl => match us, hl with | [_, _], _ => rfl, m_Run_do_rows := mFn_mk xi_Run_do_rows xf_Run_do_rows xo_Run_do_rows xc_Run_do_rows xq_Run_do_rows fun _ _ _ _ _ _ us hl => match us, hl with | [_, _], _ => rfl, m_Run_do_row := mFn_mk xi_Run_do_row xf_Run_do_row xo_Run_do_row xc_Run_do_row xq_Run_do_row fun _ _ _ _ _ _ us hl => match us, hl with | [_, _], _ => rfl, m_Run_do_call := mFn_mk xi_Run_do_call xf_Run_do_call xo_Run_do_call xc_Run_do_call xq_Run_do_call fun _ _ _ _ _ _ us hl => match us, hl with | [_, _], _ => rfl, m_Run_do_if := mFn_mk xi_Run_do_if xf_Run_do_if xo_Run_do_if xc_Run_do_if xq_Run_do_if fun _ _ _ _ _ _ us hl => match us, hl with | [_, _], _ => rfl, m_Run_do_loop := mFn_mk xi_Run_do_loop xf_Run_do_loop xo_Run_do_loop xc_Run_do_loop xq_Run_do_loop fun _ _ _ _ _ _ us hl => match us, hl with | [_, _], _ => rfl, n_Run_deeds := xw_Run_deeds, n_Run_cells := xw_Run_cells, n_Run_book := xw_Run_book, of_Row_init := ⟨yg_Row_init, yr_Row_init, _, xi_Row_init, yf_Row_init⟩, nd := nod }
  refine ⟨PySem.W.fnOf "law" "law" (defArgs s_law) (defBody s_law) (defScope s_law) .none kV21 dc21 pm21 an21 cd21 ct21, fun s v => .of_eq rfl, fun base _ _ => ?_⟩
  have e := hfa.symm.trans (PySem.W.mg_of X G a21)
  cases e
  exact has_at (h_law (P := l.prog) (w := w) (base := base) T t21) (PySem.W.mg_of X G a21) l21
theorem walk {l : PySem.W.OpenLaw} {q : Program} {loose : List Str} {XP : (Str → Option Value) → Heap → Prop} {YP : World → Heap → Prop} {d : DefRec} {K : Params → PySem.W.Frag} (hn : l.most = some 63) (hdf : d.params.defaults = []) (hY : ∀ (w : World) (h : Heap), YP w h → (K w.params).In h)
    (F : ∀ (w : World) (mg : Str → Option Value) (fa : Addr) (h : Heap), (K w.params).In h → h.Ns mainGlobals mg → mg d.name = some (.ref fa) → ∃ fd : FuncData, (∀ (s : Shared) (u : Value), BindsTo s fd ⟨[u], []⟩ [("_law_script", u)]) ∧ ∀ base : Heap, (K w.params).In base → base.Ns mainGlobals mg → FnOk l.prog w (K w.params) mg base CX0 20 fa fd ["_law_script"] (sp_law (K w.params))) :
    PySem.W.WalkO q loose XP YP l.row.toRowW d [] (fun f vs => PySem.call f vs) :=
  L2.walk_of (n := 63) (k := 20) (x := "_law_script") (CX := fun _ => CX0) (sp := fun w => sp_law (K w.params)) hn (by decide) hdf ⟨rfl, by decide, by decide⟩ hY F (fun _ _ a ns hl _ hS => ⟨a, ns, rfl, hS, hl, fun _ => rfl⟩) fun _ _ _ _ _ z => z
end K25
open PySem PySem.W PyProof.Rows
set_option maxRecDepth 100000 in
set_option maxHeartbeats 0 in
theorem PySem.Challenge.cw_hushrow_k25_rounds_holds : PySem.Challenge.rw_hushrow_k25_rounds.Holds := by
  w_on; o_law
  refine PySem.W.holds_open (q := K25.seenAt) (loose := []) (Xt := K25.test) (XP := PySem.W.XL K25.seenAt []) (Yf := (PySem.W.kHook K25.heapK K25.keysK K25.keysK_eq).obs) (Ya := (PySem.W.kHook K25.heapK K25.keysK K25.keysK_eq).val) (YP := (PySem.W.kHook K25.heapK K25.keysK K25.keysK_eq).says) (N := 12386) K25.left (PySem.W.kHook K25.heapK K25.keysK K25.keysK_eq).of (PySem.W.kHook K25.heapK K25.keysK K25.keysK_eq).keeps
    (fun s e => PySem.W.xl_of s (Bool.and_eq_true_iff.mp e).1) PySem.W.XL.keeps (by rfl) (by rfl) (by rfl) (fun s e => PySem.W.recFacts_of (Bool.and_eq_true_iff.mp e).2) ?h4 ?h5 ?h6 ⟨rfl, rfl, rfl, rfl, rfl, by decide +kernel⟩ ?hw ?hc
  (case h4 => rfl); (case h5 => first | assumption | decide +kernel); (case h6 => decide +kernel); (case hw => w_witness2)
  k_fill
  refine K25.walk (l := PySem.Challenge.rw_hushrow_k25_rounds) rfl rfl (fun w h Y => PySem.W.kIn_of Y) ?F
  case F =>
    intro w mg fa h KX G hmg
    refine' K25.all_mk KX G hmg ?a1 ?l1 ?c1 ?k1 ?a2 ?l2 ?c2 ?k2 ?a3 ?l3 ?c3 ?k3 ?a4 ?l4 ?c4 ?k4 ?a5 ?l5 ?c5 ?k5 ?a6 ?l6 ?c6 ?k6 ?a8 ?l8 ?c8 ?k8 ?a9 ?l9 ?c9 ?k9 ?a10 ?l10 ?c10 ?k10 ?a11 ?l11 ?c11 ?k11 ?a12 ?l12 ?c12 ?k12 ?a13 ?l13 ?c13 ?k13 ?a14 ?l14 ?c14 ?k14 ?a15 ?l15 ?c15 ?k15 ?a16 ?l16 ?c16 ?k16 ?a17 ?l17 ?c17 ?k17 ?a18 ?l18 ?c18 ?k18 ?a19 ?l19 ?c19 ?k19 ?a20 ?l20 ?c20 ?k20 ?a21 ?l21 ?c21 ?k21 ?z_all ?z_bool ?z_dict ?z_int ?z_isinstance ?z_len ?z_list ?z_min ?z_range ?z_str ?z_tuple ?z_zip ?g_MOST_NUMBER ?g_ROUND ?cg ?ct ?x_Book ?xl_Book ?xm_Book ?xpg_Book ?xhd_Book ?xpo_Book ?xsa_Book ?xty_Book ?xkc_Book ?xmk_Book ?xkp_Book ?x_Row ?xl_Row ?xm_Row ?xpg_Row ?xhd_Row ?xpo_Row ?xsa_Row ?xty_Row ?xkc_Row ?xmk_Row ?xkp_Row ?x_HandRow ?xl_HandRow ?xm_HandRow ?xpg_HandRow ?xhd_HandRow ?xpo_HandRow ?xsa_HandRow ?xty_HandRow ?xkc_HandRow ?xmk_HandRow ?xkp_HandRow ?x_GivenRow ?xl_GivenRow ?xm_GivenRow ?xpg_GivenRow ?xhd_GivenRow ?xpo_GivenRow ?xsa_GivenRow ?xty_GivenRow ?xkc_GivenRow ?xmk_GivenRow ?xkp_GivenRow ?x_OwnRow ?xl_OwnRow ?xm_OwnRow ?xpg_OwnRow ?xhd_OwnRow ?xpo_OwnRow ?xsa_OwnRow ?xty_OwnRow ?xkc_OwnRow ?xmk_OwnRow ?xkp_OwnRow ?x_SetRow ?xl_SetRow ?xm_SetRow ?xpg_SetRow ?xhd_SetRow ?xpo_SetRow ?xsa_SetRow ?xty_SetRow ?xkc_SetRow ?xmk_SetRow ?xkp_SetRow ?x_PutRow ?xl_PutRow ?xm_PutRow ?xpg_PutRow ?xhd_PutRow ?xpo_PutRow ?xsa_PutRow ?xty_PutRow ?xkc_PutRow ?xmk_PutRow ?xkp_PutRow ?x_SendRow ?xl_SendRow ?xm_SendRow ?xpg_SendRow ?xhd_SendRow ?xpo_SendRow ?xsa_SendRow ?xty_SendRow ?xkc_SendRow ?xmk_SendRow ?xkp_SendRow ?x_SayRow ?xl_SayRow ?xm_SayRow ?xpg_SayRow ?xhd_SayRow ?xpo_SayRow ?xsa_SayRow ?xty_SayRow ?xkc_SayRow ?xmk_SayRow ?xkp_SayRow ?x_CallRow ?xl_CallRow ?xm_CallRow ?xpg_CallRow ?xhd_CallRow ?xpo_CallRow ?xsa_CallRow ?xty_CallRow ?xkc_CallRow ?xmk_CallRow ?xkp_CallRow ?x_LastRow ?xl_LastRow ?xm_LastRow ?xpg_LastRow ?xhd_LastRow ?xpo_LastRow ?xsa_LastRow ?xty_LastRow ?xkc_LastRow ?xmk_LastRow ?xkp_LastRow ?x_IfRow ?xl_IfRow ?xm_IfRow ?xpg_IfRow ?xhd_IfRow ?xpo_IfRow ?xsa_IfRow ?xty_IfRow ?xkc_IfRow ?xmk_IfRow ?xkp_IfRow ?x_LoopRow ?xl_LoopRow ?xm_LoopRow ?xpg_LoopRow ?xhd_LoopRow ?xpo_LoopRow ?xsa_LoopRow ?xty_LoopRow ?xkc_LoopRow ?xmk_LoopRow ?xkp_LoopRow ?x_DeedRow ?xl_DeedRow ?xm_DeedRow ?xpg_DeedRow ?xhd_DeedRow ?xpo_DeedRow ?xsa_DeedRow ?xty_DeedRow ?xkc_DeedRow ?xmk_DeedRow ?xkp_DeedRow ?x_Program ?xl_Program ?xm_Program ?xpg_Program ?xhd_Program ?xpo_Program ?xsa_Program ?xty_Program ?xkc_Program ?xmk_Program ?xkp_Program ?x_Run ?xl_Run ?xm_Run ?xpg_Run ?xhd_Run ?xpo_Run ?xsa_Run ?xty_Run ?xkc_Run ?xmk_Run ?xkp_Run ?xi_Book_init ?xf_Book_init ?xo_Book_init ?xc_Book_init ?xq_Book_init ?xw_Book_letters ?xw_Book_said ?xw_Book_trace ?xw_Book_steps ?xw_Book_ends ?xi_Row_init ?xf_Row_init ?xo_Row_init ?xc_Row_init ?xq_Row_init ?xi_HandRow_init ?xf_HandRow_init ?xo_HandRow_init ?xc_HandRow_init ?xq_HandRow_init ?xw_HandRow_name ?xw_HandRow_rank ?xw_HandRow_number ?xi_GivenRow_init ?xf_GivenRow_init ?xo_GivenRow_init ?xc_GivenRow_init ?xq_GivenRow_init ?xw_GivenRow_name ?xw_GivenRow_rank ?xw_GivenRow_size ?xw_GivenRow_number ?xi_OwnRow_init ?xf_OwnRow_init ?xo_OwnRow_init ?xc_OwnRow_init ?xq_OwnRow_init ?xw_OwnRow_name ?xw_OwnRow_size ?xw_OwnRow_number ?xi_SetRow_init ?xf_SetRow_init ?xo_SetRow_init ?xc_SetRow_init ?xq_SetRow_init ?xw_SetRow_name ?xw_SetRow_value ?xw_SetRow_number ?xi_SendRow_init ?xf_SendRow_init ?xo_SendRow_init ?xc_SendRow_init ?xq_SendRow_init ?xw_SendRow_name ?xw_SendRow_value ?xw_SendRow_number ?xi_CallRow_init ?xf_CallRow_init ?xo_CallRow_init ?xc_CallRow_init ?xq_CallRow_init ?xw_CallRow_name ?xw_CallRow_things ?xw_CallRow_number ?xi_LastRow_init ?xw_LastRow_number ?xi_IfRow_init ?xf_IfRow_init ?xo_IfRow_init ?xc_IfRow_init ?xq_IfRow_init ?xw_IfRow_value ?xw_IfRow_first ?xw_IfRow_other ?xw_IfRow_left ?xw_IfRow_right ?xw_IfRow_number ?xi_LoopRow_init ?xf_LoopRow_init ?xo_LoopRow_init ?xc_LoopRow_init ?xq_LoopRow_init ?xw_LoopRow_thing ?xw_LoopRow_most ?xw_LoopRow_body ?xw_LoopRow_left ?xw_LoopRow_right ?xw_LoopRow_number ?xi_DeedRow_init ?xf_DeedRow_init ?xo_DeedRow_init ?xc_DeedRow_init ?xq_DeedRow_init ?xw_DeedRow_name ?xw_DeedRow_parts ?xw_DeedRow_body ?xw_DeedRow_number ?xi_Program_init ?xf_Program_init ?xo_Program_init ?xc_Program_init ?xq_Program_init ?xw_Program_heads ?xw_Program_deeds ?xw_Program_main ?xi_Run_init ?xf_Run_init ?xo_Run_init ?xc_Run_init ?xq_Run_init ?xi_Run_number_at ?xf_Run_number_at ?xo_Run_number_at ?xc_Run_number_at ?xq_Run_number_at ?xi_Run_number_for ?xf_Run_number_for ?xo_Run_number_for ?xc_Run_number_for ?xq_Run_number_for ?xi_Run_number_told ?xf_Run_number_told ?xo_Run_number_told ?xc_Run_number_told ?xq_Run_number_told ?xi_Run_pass_steps ?xf_Run_pass_steps ?xo_Run_pass_steps ?xc_Run_pass_steps ?xq_Run_pass_steps ?xi_Run_do_rows ?xf_Run_do_rows ?xo_Run_do_rows ?xc_Run_do_rows ?xq_Run_do_rows ?xi_Run_do_row ?xf_Run_do_row ?xo_Run_do_row ?xc_Run_do_row ?xq_Run_do_row ?xi_Run_do_call ?xf_Run_do_call ?xo_Run_do_call ?xc_Run_do_call ?xq_Run_do_call ?xi_Run_do_if ?xf_Run_do_if ?xo_Run_do_if ?xc_Run_do_if ?xq_Run_do_if ?xi_Run_do_loop ?xf_Run_do_loop ?xo_Run_do_loop ?xc_Run_do_loop ?xq_Run_do_loop ?xw_Run_deeds ?xw_Run_cells ?xw_Run_book ?yg_Row_init ?yr_Row_init ?yf_Row_init ?nod
    (case a1 => k_is); (case l1 => k_is); (case c1 => k_is); (case k1 => k_is); (case a2 => k_is); (case l2 => k_is)
    (case c2 => k_is); (case k2 => k_is); (case a3 => k_is); (case l3 => k_is); (case c3 => k_is); (case k3 => k_is)
    (case a4 => k_is); (case l4 => k_is); (case c4 => k_is); (case k4 => k_is); (case a5 => k_is); (case l5 => k_is)
    (case c5 => k_is); (case k5 => k_is); (case a6 => k_is); (case l6 => k_is); (case c6 => k_is); (case k6 => k_is)
    (case a8 => k_is); (case l8 => k_is); (case c8 => k_is); (case k8 => k_is); (case a9 => k_is); (case l9 => k_is)
    (case c9 => k_is); (case k9 => k_is); (case a10 => k_is); (case l10 => k_is); (case c10 => k_is); (case k10 => k_is)
    (case a11 => k_is); (case l11 => k_is); (case c11 => k_is); (case k11 => k_is); (case a12 => k_is); (case l12 => k_is)
    (case c12 => k_is); (case k12 => k_is); (case a13 => k_is); (case l13 => k_is); (case c13 => k_is); (case k13 => k_is)
    (case a14 => k_is); (case l14 => k_is); (case c14 => k_is); (case k14 => k_is); (case a15 => k_is); (case l15 => k_is)
    (case c15 => k_is); (case k15 => k_is); (case a16 => k_is); (case l16 => k_is); (case c16 => k_is); (case k16 => k_is)
    (case a17 => k_is); (case l17 => k_is); (case c17 => k_is); (case k17 => k_is); (case a18 => k_is); (case l18 => k_is)
    (case c18 => k_is); (case k18 => k_is); (case a19 => k_is); (case l19 => k_is); (case c19 => k_is); (case k19 => k_is)
    (case a20 => k_is); (case l20 => k_is); (case c20 => k_is); (case k20 => k_is); (case a21 => k_is); (case l21 => k_is)
    (case c21 => k_is); (case k21 => k_is); (case z_all => k_is); (case z_bool => k_is); (case z_dict => k_is); (case z_int => k_is)
    (case z_isinstance => k_is); (case z_len => k_is); (case z_list => k_is); (case z_min => k_is); (case z_range => k_is); (case z_str => k_is)
    (case z_tuple => k_is); (case z_zip => k_is); (case g_MOST_NUMBER => k_is); (case g_ROUND => k_is); (case cg => k_is); (case ct => k_is)
    (case x_Book => k_is); (case xl_Book => k_is); (case xm_Book => rfl); (case xpg_Book => k_is); (case xhd_Book => k_is); (case xpo_Book => k_is)
    (case xsa_Book => k_is); (case xty_Book => k_is); (case xkc_Book => k_is); (case xmk_Book => k_is); (case xkp_Book => k_is); (case x_Row => k_is)
    (case xl_Row => k_is); (case xm_Row => rfl); (case xpg_Row => k_is); (case xhd_Row => k_is); (case xpo_Row => k_is); (case xsa_Row => k_is)
    (case xty_Row => k_is); (case xkc_Row => k_is); (case xmk_Row => k_is); (case xkp_Row => k_is); (case x_HandRow => k_is); (case xl_HandRow => k_is)
    (case xm_HandRow => rfl); (case xpg_HandRow => k_is); (case xhd_HandRow => k_is); (case xpo_HandRow => k_is); (case xsa_HandRow => k_is); (case xty_HandRow => k_is)
    (case xkc_HandRow => k_is); (case xmk_HandRow => k_is); (case xkp_HandRow => k_is); (case x_GivenRow => k_is); (case xl_GivenRow => k_is); (case xm_GivenRow => rfl)
    (case xpg_GivenRow => k_is); (case xhd_GivenRow => k_is); (case xpo_GivenRow => k_is); (case xsa_GivenRow => k_is); (case xty_GivenRow => k_is); (case xkc_GivenRow => k_is)
    (case xmk_GivenRow => k_is); (case xkp_GivenRow => k_is); (case x_OwnRow => k_is); (case xl_OwnRow => k_is); (case xm_OwnRow => rfl); (case xpg_OwnRow => k_is)
    (case xhd_OwnRow => k_is); (case xpo_OwnRow => k_is); (case xsa_OwnRow => k_is); (case xty_OwnRow => k_is); (case xkc_OwnRow => k_is); (case xmk_OwnRow => k_is)
    (case xkp_OwnRow => k_is); (case x_SetRow => k_is); (case xl_SetRow => k_is); (case xm_SetRow => rfl); (case xpg_SetRow => k_is); (case xhd_SetRow => k_is)
    (case xpo_SetRow => k_is); (case xsa_SetRow => k_is); (case xty_SetRow => k_is); (case xkc_SetRow => k_is); (case xmk_SetRow => k_is); (case xkp_SetRow => k_is)
    (case x_PutRow => k_is); (case xl_PutRow => k_is); (case xm_PutRow => rfl); (case xpg_PutRow => k_is); (case xhd_PutRow => k_is); (case xpo_PutRow => k_is)
    (case xsa_PutRow => k_is); (case xty_PutRow => k_is); (case xkc_PutRow => k_is); (case xmk_PutRow => k_is); (case xkp_PutRow => k_is); (case x_SendRow => k_is)
    (case xl_SendRow => k_is); (case xm_SendRow => rfl); (case xpg_SendRow => k_is); (case xhd_SendRow => k_is); (case xpo_SendRow => k_is); (case xsa_SendRow => k_is)
    (case xty_SendRow => k_is); (case xkc_SendRow => k_is); (case xmk_SendRow => k_is); (case xkp_SendRow => k_is); (case x_SayRow => k_is); (case xl_SayRow => k_is)
    (case xm_SayRow => rfl); (case xpg_SayRow => k_is); (case xhd_SayRow => k_is); (case xpo_SayRow => k_is); (case xsa_SayRow => k_is); (case xty_SayRow => k_is)
    (case xkc_SayRow => k_is); (case xmk_SayRow => k_is); (case xkp_SayRow => k_is); (case x_CallRow => k_is); (case xl_CallRow => k_is); (case xm_CallRow => rfl)
    (case xpg_CallRow => k_is); (case xhd_CallRow => k_is); (case xpo_CallRow => k_is); (case xsa_CallRow => k_is); (case xty_CallRow => k_is); (case xkc_CallRow => k_is)
    (case xmk_CallRow => k_is); (case xkp_CallRow => k_is); (case x_LastRow => k_is); (case xl_LastRow => k_is); (case xm_LastRow => rfl); (case xpg_LastRow => k_is)
    (case xhd_LastRow => k_is); (case xpo_LastRow => k_is); (case xsa_LastRow => k_is); (case xty_LastRow => k_is); (case xkc_LastRow => k_is); (case xmk_LastRow => k_is)
    (case xkp_LastRow => k_is); (case x_IfRow => k_is); (case xl_IfRow => k_is); (case xm_IfRow => rfl); (case xpg_IfRow => k_is); (case xhd_IfRow => k_is)
    (case xpo_IfRow => k_is); (case xsa_IfRow => k_is); (case xty_IfRow => k_is); (case xkc_IfRow => k_is); (case xmk_IfRow => k_is); (case xkp_IfRow => k_is)
    (case x_LoopRow => k_is); (case xl_LoopRow => k_is); (case xm_LoopRow => rfl); (case xpg_LoopRow => k_is); (case xhd_LoopRow => k_is); (case xpo_LoopRow => k_is)
    (case xsa_LoopRow => k_is); (case xty_LoopRow => k_is); (case xkc_LoopRow => k_is); (case xmk_LoopRow => k_is); (case xkp_LoopRow => k_is); (case x_DeedRow => k_is)
    (case xl_DeedRow => k_is); (case xm_DeedRow => rfl); (case xpg_DeedRow => k_is); (case xhd_DeedRow => k_is); (case xpo_DeedRow => k_is); (case xsa_DeedRow => k_is)
    (case xty_DeedRow => k_is); (case xkc_DeedRow => k_is); (case xmk_DeedRow => k_is); (case xkp_DeedRow => k_is); (case x_Program => k_is); (case xl_Program => k_is)
    (case xm_Program => rfl); (case xpg_Program => k_is); (case xhd_Program => k_is); (case xpo_Program => k_is); (case xsa_Program => k_is); (case xty_Program => k_is)
    (case xkc_Program => k_is); (case xmk_Program => k_is); (case xkp_Program => k_is); (case x_Run => k_is); (case xl_Run => k_is); (case xm_Run => rfl)
    (case xpg_Run => k_is); (case xhd_Run => k_is); (case xpo_Run => k_is); (case xsa_Run => k_is); (case xty_Run => k_is); (case xkc_Run => k_is)
    (case xmk_Run => k_is); (case xkp_Run => k_is); (case xi_Book_init => k_is); (case xf_Book_init => k_is); (case xo_Book_init => k_is); (case xc_Book_init => k_is)
    (case xq_Book_init => k_is); (case xw_Book_letters => k_is); (case xw_Book_said => k_is); (case xw_Book_trace => k_is); (case xw_Book_steps => k_is); (case xw_Book_ends => k_is)
    (case xi_Row_init => k_is); (case xf_Row_init => k_is); (case xo_Row_init => k_is); (case xc_Row_init => k_is); (case xq_Row_init => k_is); (case xi_HandRow_init => k_is)
    (case xf_HandRow_init => k_is); (case xo_HandRow_init => k_is); (case xc_HandRow_init => k_is); (case xq_HandRow_init => k_is); (case xw_HandRow_name => k_is); (case xw_HandRow_rank => k_is)
    (case xw_HandRow_number => k_is); (case xi_GivenRow_init => k_is); (case xf_GivenRow_init => k_is); (case xo_GivenRow_init => k_is); (case xc_GivenRow_init => k_is); (case xq_GivenRow_init => k_is)
    (case xw_GivenRow_name => k_is); (case xw_GivenRow_rank => k_is); (case xw_GivenRow_size => k_is); (case xw_GivenRow_number => k_is); (case xi_OwnRow_init => k_is); (case xf_OwnRow_init => k_is)
    (case xo_OwnRow_init => k_is); (case xc_OwnRow_init => k_is); (case xq_OwnRow_init => k_is); (case xw_OwnRow_name => k_is); (case xw_OwnRow_size => k_is); (case xw_OwnRow_number => k_is)
    (case xi_SetRow_init => k_is); (case xf_SetRow_init => k_is); (case xo_SetRow_init => k_is); (case xc_SetRow_init => k_is); (case xq_SetRow_init => k_is); (case xw_SetRow_name => k_is)
    (case xw_SetRow_value => k_is); (case xw_SetRow_number => k_is); (case xi_SendRow_init => k_is); (case xf_SendRow_init => k_is); (case xo_SendRow_init => k_is); (case xc_SendRow_init => k_is)
    (case xq_SendRow_init => k_is); (case xw_SendRow_name => k_is); (case xw_SendRow_value => k_is); (case xw_SendRow_number => k_is); (case xi_CallRow_init => k_is); (case xf_CallRow_init => k_is)
    (case xo_CallRow_init => k_is); (case xc_CallRow_init => k_is); (case xq_CallRow_init => k_is); (case xw_CallRow_name => k_is); (case xw_CallRow_things => k_is); (case xw_CallRow_number => k_is)
    (case xi_LastRow_init => k_is); (case xw_LastRow_number => k_is); (case xi_IfRow_init => k_is); (case xf_IfRow_init => k_is); (case xo_IfRow_init => k_is); (case xc_IfRow_init => k_is)
    (case xq_IfRow_init => k_is); (case xw_IfRow_value => k_is); (case xw_IfRow_first => k_is); (case xw_IfRow_other => k_is); (case xw_IfRow_left => k_is); (case xw_IfRow_right => k_is)
    (case xw_IfRow_number => k_is); (case xi_LoopRow_init => k_is); (case xf_LoopRow_init => k_is); (case xo_LoopRow_init => k_is); (case xc_LoopRow_init => k_is); (case xq_LoopRow_init => k_is)
    (case xw_LoopRow_thing => k_is); (case xw_LoopRow_most => k_is); (case xw_LoopRow_body => k_is); (case xw_LoopRow_left => k_is); (case xw_LoopRow_right => k_is); (case xw_LoopRow_number => k_is)
    (case xi_DeedRow_init => k_is); (case xf_DeedRow_init => k_is); (case xo_DeedRow_init => k_is); (case xc_DeedRow_init => k_is); (case xq_DeedRow_init => k_is); (case xw_DeedRow_name => k_is)
    (case xw_DeedRow_parts => k_is); (case xw_DeedRow_body => k_is); (case xw_DeedRow_number => k_is); (case xi_Program_init => k_is); (case xf_Program_init => k_is); (case xo_Program_init => k_is)
    (case xc_Program_init => k_is); (case xq_Program_init => k_is); (case xw_Program_heads => k_is); (case xw_Program_deeds => k_is); (case xw_Program_main => k_is); (case xi_Run_init => k_is)
    (case xf_Run_init => k_is); (case xo_Run_init => k_is); (case xc_Run_init => k_is); (case xq_Run_init => k_is); (case xi_Run_number_at => k_is); (case xf_Run_number_at => k_is)
    (case xo_Run_number_at => k_is); (case xc_Run_number_at => k_is); (case xq_Run_number_at => k_is); (case xi_Run_number_for => k_is); (case xf_Run_number_for => k_is); (case xo_Run_number_for => k_is)
    (case xc_Run_number_for => k_is); (case xq_Run_number_for => k_is); (case xi_Run_number_told => k_is); (case xf_Run_number_told => k_is); (case xo_Run_number_told => k_is); (case xc_Run_number_told => k_is)
    (case xq_Run_number_told => k_is); (case xi_Run_pass_steps => k_is); (case xf_Run_pass_steps => k_is); (case xo_Run_pass_steps => k_is); (case xc_Run_pass_steps => k_is); (case xq_Run_pass_steps => k_is)
    (case xi_Run_do_rows => k_is); (case xf_Run_do_rows => k_is); (case xo_Run_do_rows => k_is); (case xc_Run_do_rows => k_is); (case xq_Run_do_rows => k_is); (case xi_Run_do_row => k_is)
    (case xf_Run_do_row => k_is); (case xo_Run_do_row => k_is); (case xc_Run_do_row => k_is); (case xq_Run_do_row => k_is); (case xi_Run_do_call => k_is); (case xf_Run_do_call => k_is)
    (case xo_Run_do_call => k_is); (case xc_Run_do_call => k_is); (case xq_Run_do_call => k_is); (case xi_Run_do_if => k_is); (case xf_Run_do_if => k_is); (case xo_Run_do_if => k_is)
    (case xc_Run_do_if => k_is); (case xq_Run_do_if => k_is); (case xi_Run_do_loop => k_is); (case xf_Run_do_loop => k_is); (case xo_Run_do_loop => k_is); (case xc_Run_do_loop => k_is)
    (case xq_Run_do_loop => k_is); (case xw_Run_deeds => k_is); (case xw_Run_cells => k_is); (case xw_Run_book => k_is); (case yg_Row_init => k_is); (case yr_Row_init => k_is)
    (case yf_Row_init => k_is); (case nod => decide)

