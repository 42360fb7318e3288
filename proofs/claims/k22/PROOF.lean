import PyProof.Rows.All
import Wide.All
import OpenK.AllK
import Wide.FinOn
import Lean
import PyProof.EqAt
import PyProof.EqKinds
import PyProof.TupleCall
import PyProof.AttrMissSeq
import KE.KDictList
import PyProof.WalksEnum
import PyProof.EnumMake
import PyProof.ZipIter
import PyProof.Rows.ZipGen
import PySem.Challenge.RW_hushrow_k22_one_row
set_option Elab.async false
set_option linter.all false
set_option maxRecDepth 100000
namespace Hd
open PySem PySem.W PySem.Calls PyProof.Rows
def runT (tb : String → Option Builtin) (p : Program) (w : World) (n₀ : Nat) (ann : Option Value) : Nat → SharedT → Thread → Option SharedT
  | 0, _, _ => none
  | n + 1, s, t => match through t with
    | true => some s
    | false => match stepOk n₀ ann t with
      | false => none
      | true => match stepT (denote tb) p w s t with
        | some (s', t') => runT tb p w n₀ ann n s' t'
        | none => none
theorem run_of {tb : String → Option Builtin} {p : Program} {w : World} {n₀ : Nat} {ann : Option Value} : ∀ {n : Nat} {s s' : SharedT} {t : Thread},
    runT tb p w n₀ ann n s t = some s' → topRun tb p w n₀ ann n s.abs t = some s'.abs
  | 0, _, _, _, h => by cases h
  | n + 1, s, s', t, h => by
    unfold runT at h
    unfold topRun
    cases he : through t with
    | true => rw [he] at h; cases h; rfl
    | false =>
      rw [he] at h
      cases hk : stepOk n₀ ann t with
      | false => rw [hk] at h; cases h
      | true =>
        rw [hk] at h
        cases hs : stepT (denote tb) p w s t with
        | none => rw [hs] at h; cases h
        | some r => obtain ⟨s₂, t₂⟩ := r; rw [hs] at h; rw [stepT_spec hs]; exact run_of h
def looks (p q : Program) (loose : List Str) (Xt : Shared → Bool) {α : Type} (Yf : Shared → α) (g0 : Bool) (H : Heap) (s : Shared) :=
  (staticsOk (importedModules p.main.body) H s.heap && namesBound p s.heap && gensDone s && laidKept H s.heap, openSeen q loose (importedModules p.main.body) Xt g0 s, Yf s)
def treeOf : List Obj → Nat → BT → BT
  | [], _, t => t
  | o :: r, i, t => treeOf r (i + 1) (t.ins i o)
theorem left_of {p q : Program} {loose : List Str} {Xt : Shared → Bool} {α : Type} {Yf : Shared → α} {Ya : World → α} {N : Nat} {g0 : Bool} {H₀ : Params → Heap} {gs₀ : Array GenState} {d₀ : Drawn} {k₀ m₀ n₀ : Nat} {ann : Option Value} {T₀ : Params → BT} {life : Life}
    (opn : ∀ w : World, (fencedOpening treeTable p w N).map (fun s => (s.heap, s.gens, s.drawn, s.toks)) = some (H₀ w.params, gs₀, d₀, k₀))
    (size : ∀ w : World, ((H₀ w.params).isNs mainGlobals && gs₀.size == 0, (H₀ w.params).objs.size, (H₀ w.params).nsMap mainGlobals "__annotations__") = (true, m₀, ann))
    (tree : ∀ P : Params, absHeap (T₀ P) n₀ life = H₀ P)
    (look : ∀ (w : World) (os : OsState), (runT treeTable p w m₀ ann N ⟨T₀ w.params, n₀, life, gs₀, d₀, k₀, os⟩ (topStub p)).map (fun s => looks p q loose Xt Yf g0 (H₀ w.params) s.abs) = some (true, openGood q loose, Ya w)) :
    LeftO p q loose Xt Yf Ya N g0 := fun w => by
  obtain ⟨⟨h, gs, d, k, os⟩, e, e'⟩ := Option.map_eq_some_iff.mp (opn w)
  obtain ⟨rfl, rfl, rfl, rfl⟩ : h = H₀ w.params ∧ gs = gs₀ ∧ d = d₀ ∧ k = k₀ := by simpa using e'
  obtain ⟨z1, z2, z3⟩ : _ ∧ _ ∧ _ := by simpa only [Prod.mk.injEq] using size w
  obtain ⟨s, hs, hl⟩ := Option.map_eq_some_iff.mp (look w os)
  obtain ⟨l1, l23⟩ := Prod.mk.inj hl
  obtain ⟨l2, l3⟩ := Prod.mk.inj l23
  have r := run_of hs
  have t : topFrom treeTable p w N ⟨H₀ w.params, gs, d, k, os⟩ = some s.abs := by
    unfold topFrom
    dsimp only
    rw [z1, z2, z3]
    unfold SharedT.abs at r
    dsimp only at r
    rw [tree w.params] at r
    show (topRun treeTable p w m₀ ann N ⟨H₀ w.params, gs, d, k, os⟩ (topStub p)).bind _ = _
    rw [r]
    show (match staticsOk (importedModules p.main.body) (H₀ w.params) s.abs.heap && namesBound p s.abs.heap && gensDone s.abs && laidKept (H₀ w.params) s.abs.heap with | true => _ | false => _) = _
    rw [l1]
    rfl
  unfold openEnds
  rw [e]
  show (topFrom treeTable p w N _).map _ = _
  rw [t]
  exact congrArg some (Prod.ext l2 l3)
end Hd

set_option Elab.async false
set_option linter.all false
set_option maxRecDepth 100000
namespace L2
open PySem PySem.Spec PyProof.Rows
def inClass (s : Stmt) (j : Nat) : Stmt := match s with
  | .ClassDef _ _ _ body _ _ _ _ _ _ _ => body.getD j (.Pass ⟨0, 0, 0, 0⟩)
  | _ => .Pass ⟨0, 0, 0, 0⟩
def defArgs (s : Stmt) : Arguments := match s with
  | .FunctionDef _ a _ _ _ _ _ _ _ _ => a
  | _ => { posonlyargs := [], args := [], vararg := none, kwonlyargs := [], kw_defaults := [], kwarg := none, defaults := [] }
def defBody (s : Stmt) : List Stmt := match s with
  | .FunctionDef _ _ b _ _ _ _ _ _ _ => b
  | _ => []
def defScope (s : Stmt) : Scope := match s with
  | .FunctionDef _ _ _ _ _ _ sc _ _ _ => sc
  | _ => { kind := .function, names := [], isGenerator := false, isCoroutine := false }

end L2
namespace K22
open PySem
def top (i : Nat) : Stmt := PySem.Challenge.pw_hushrow_k22_one_row.main.body.getD i (.Pass ⟨0, 0, 0, 0⟩)
end K22

set_option Elab.async false
set_option linter.all false
set_option maxRecDepth 100000
set_option maxHeartbeats 0
namespace K22
open PySem L2 PySem.W
abbrev E (P : Params) (x : Str) (t : Nat) (v : Value) : DictEntry := ⟨PyData.keyHash P x, .str x t, v⟩
def heapK (P : Params) : PySem.W.Frag :=
  (nat_lit 2, ⟨.none, none, .dict #[] 0, #[]⟩) ::
  (nat_lit 3, ⟨(.type "dict"), none, .dict #[E P "__name__" 165 (.str "law_hushrow_k22_one_row" 1054), E P "__doc__" 166 .none, E P "__package__" 167 .none, E P "__loader__" 168 (.builtin "__main__.__loader__#opaque"), E P "__spec__" 169 .none, E P "__annotations__" 170 (.ref 6), E P "__builtins__" 171 (.ref 4), E P "__file__" 173 (.str "/claim/cut.py" 172), E P "__cached__" 174 .none, E P "_wall" 193 (.ref 21), E P "Book" 227 (.ref 38), E P "HushError" 247 (.ref 52), E P "NoGift" 272 (.ref 72), E P "Row" 317 (.ref 105), E P "HandRow" 352 (.ref 133), E P "GivenRow" 389 (.ref 159), E P "OwnRow" 424 (.ref 185), E P "LetRow" 459 (.ref 211), E P "SetRow" 508 (.ref 251), E P "PutRow" 559 (.ref 291), E P "SendRow" 601 (.ref 324), E P "SayRow" 652 (.ref 364), E P "CallRow" 694 (.ref 397), E P "LastRow" 717 (.ref 416), E P "IfRow" 765 (.ref 449), E P "LoopRow" 813 (.ref 482), E P "Program" 846 (.ref 501), E P "MOST_NUMBER" 850 (.int (999999999999) 849), E P "is_number" 857 (.ref 512), E P "is_good" 863 (.ref 517), E P "given_cell" 872 (.ref 524), E P "own_cell" 879 (.ref 531), E P "cells_of" 891 (.ref 538), E P "ROUND" 895 (.int (1000000000000) 894), E P "reckon" 904 (.ref 545), E P "round_place" 912 (.ref 552), E P "Run" 1037 (.ref 637), E P "ends_of" 1043 (.ref 646), E P "run" 1053 (.ref 653), E P "_law_cell_at" 1063 (.ref 660), E P "_law_name" 1077 (.ref 667), E P "_law_number" 1084 (.ref 674), E P "_law_thing" 1092 (.ref 681), E P "_law_value" 1103 (.ref 688), E P "_law_heads" 1117 (.ref 695), E P "_law_gifts" 1127 (.ref 702), E P "_law_taken" 1135 (.ref 709), E P "_law_reckoned" 1146 (.ref 716), E P "_law_same" 1155 (.ref 723), E P "_law_book" 1164 (.ref 730), E P "_law_due" 1178 (.ref 737), E P "_law_empty" 1188 (.ref 744), E P "law" 1194 (.ref 749)] 53, #[]⟩) ::
  (nat_lit 15, ⟨(.type "tuple"), none, .seq #[] 0, #[]⟩) ::
  (nat_lit 17, ⟨(.type "tuple"), none, .seq #[(.str "k" 190)] 0, #[]⟩) ::
  (nat_lit 18, ⟨(.type "tuple"), none, .seq #[] 0, #[]⟩) ::
  (nat_lit 20, ⟨(.type "code"), none, .fields #[(.str "_wall" 187), (.str "_wall" 188), (.str "/claim/cut.py" 189), (.int (1) 0), (.int (1) 0), (.int (0) 0), (.int (0) 0), (.int (3) 0), (.ref 15), (.bool true), (.int (181) 0), (.ref 16), .none, (.ref 17), (.ref 18), (.ref 19), (.int (191) 0), (.int (1) 0), (.str "/claim/cut.py" 192)], #[]⟩) ::
  (nat_lit 21, ⟨(.type "function"), none, .func (PySem.W.fnOf "_wall" "_wall" (defArgs (top 0)) (defBody (top 0)) (defScope (top 0)) .none .none .none (.str "__main__" 164) none (.ref 20) .none), #[]⟩) ::
  (nat_lit 29, ⟨(.type "tuple"), none, .seq #[] 0, #[]⟩) ::
  (nat_lit 31, ⟨(.type "tuple"), none, .seq #[(.str "self" 211)] 0, #[]⟩) ::
  (nat_lit 32, ⟨(.type "tuple"), none, .seq #[] 0, #[]⟩) ::
  (nat_lit 34, ⟨(.type "code"), none, .fields #[(.str "__init__" 208), (.str "Book.__init__" 209), (.str "/claim/cut.py" 210), (.int (7) 0), (.int (1) 0), (.int (0) 0), (.int (0) 0), (.int (3) 0), (.ref 29), (.bool true), (.int (181) 0), (.ref 30), .none, (.ref 31), (.ref 32), (.ref 33), (.int (212) 0), (.int (7) 0), (.str "/claim/cut.py" 213)], #[]⟩) ::
  (nat_lit 35, ⟨(.type "function"), none, .func (PySem.W.fnOf "__init__" "Book.__init__" (defArgs (inClass (top 2) 0)) (defBody (inClass (top 2) 0)) (defScope (inClass (top 2) 0)) .none .none .none (.str "hushrow.books" 194) none (.ref 34) .none), #[]⟩) ::
  (nat_lit 36, ⟨(.type "tuple"), none, .seq #[(.str "ends" 215), (.str "letters" 216), (.str "said" 217), (.str "steps" 218), (.str "trace" 219)] 0, #[]⟩) ::
  (nat_lit 37, ⟨(.type "dict"), none, .dict #[E P "__module__" 203 (.str "hushrow.books" 194), E P "__firstlineno__" 207 (.int (5) 206), E P "__init__" 214 (.ref 35), E P "__static_attributes__" 220 (.ref 36), E P "__dict__" 222 (.ref 39), E P "__weakref__" 224 (.ref 40), E P "__doc__" 225 .none] 4, #[]⟩) ::
  (nat_lit 38, ⟨(.type "type"), none, .cls { name := "Book", bases := [(.type "object")], mro := [(.ref 38), (.type "object")], ns := 37, qualname := "Book", hasDict := true, slotNames := [], subclasses := [], abstract := false, collection := none, hasDel := false }, #[none, none, (some (.str "Book" 196)), (some (.str "Book" 204)), (some (.builtin "object.__new__")), (some (.bool true))]⟩) ::
  (nat_lit 39, ⟨(.type "getset_descriptor"), none, .fields #[(.str "__dict__" 221), (.ref 38), (.builtin "function.__dict__"), (.builtin "function.__dict__#set")], #[]⟩) ::
  (nat_lit 40, ⟨(.type "getset_descriptor"), none, .fields #[(.str "__weakref__" 223), (.ref 38), (.builtin "ExceptionGroup.__weakref__"), .none], #[]⟩) ::
  (nat_lit 43, ⟨(.type "tuple"), none, .seq #[(.type "ValueError")] 0, #[]⟩) ::
  (nat_lit 50, ⟨(.type "tuple"), none, .seq #[] 0, #[]⟩) ::
  (nat_lit 51, ⟨(.type "dict"), none, .dict #[E P "__module__" 237 (.str "hushrow.errors" 228), E P "__firstlineno__" 241 (.int (14) 240), E P "__static_attributes__" 242 (.ref 50), E P "__weakref__" 244 (.ref 53), E P "__doc__" 245 .none] 3, #[]⟩) ::
  (nat_lit 52, ⟨(.type "type"), none, .cls { name := "HushError", bases := [(.type "ValueError")], mro := [(.ref 52), (.type "ValueError"), (.type "Exception"), (.type "BaseException"), (.type "object")], ns := 51, qualname := "HushError", hasDict := true, slotNames := [], subclasses := [(.ref 72)], abstract := false, collection := none, hasDel := false }, #[(some (.ref 43)), none, (some (.str "HushError" 230)), (some (.str "HushError" 238)), (some (.builtin "ValueError.__new__")), (some (.bool true))]⟩) ::
  (nat_lit 53, ⟨(.type "getset_descriptor"), none, .fields #[(.str "__weakref__" 243), (.ref 52), (.builtin "ExceptionGroup.__weakref__"), .none], #[]⟩) ::
  (nat_lit 56, ⟨(.type "tuple"), none, .seq #[(.ref 52)] 0, #[]⟩) ::
  (nat_lit 63, ⟨(.type "tuple"), none, .seq #[] 0, #[]⟩) ::
  (nat_lit 65, ⟨(.type "tuple"), none, .seq #[(.str "self" 263), (.str "name" 264)] 0, #[]⟩) ::
  (nat_lit 66, ⟨(.type "tuple"), none, .seq #[] 0, #[]⟩) ::
  (nat_lit 68, ⟨(.type "code"), none, .fields #[(.str "__init__" 260), (.str "NoGift.__init__" 261), (.str "/claim/cut.py" 262), (.int (18) 0), (.int (2) 0), (.int (0) 0), (.int (0) 0), (.int (3) 0), (.ref 63), (.bool true), (.int (181) 0), (.ref 64), .none, (.ref 65), (.ref 66), (.ref 67), (.int (265) 0), (.int (18) 0), (.str "/claim/cut.py" 266)], #[]⟩) ::
  (nat_lit 69, ⟨(.type "function"), none, .func (PySem.W.fnOf "__init__" "NoGift.__init__" (defArgs (inClass (top 5) 0)) (defBody (inClass (top 5) 0)) (defScope (inClass (top 5) 0)) .none .none .none (.str "hushrow.errors" 228) none (.ref 68) .none), #[]⟩) ::
  (nat_lit 70, ⟨(.type "tuple"), none, .seq #[(.str "name" 268)] 0, #[]⟩) ::
  (nat_lit 71, ⟨(.type "dict"), none, .dict #[E P "__module__" 255 (.str "hushrow.errors" 228), E P "__firstlineno__" 259 (.int (16) 258), E P "__init__" 267 (.ref 69), E P "__static_attributes__" 269 (.ref 70), E P "__doc__" 270 .none] 2, #[]⟩) ::
  (nat_lit 72, ⟨(.type "type"), none, .cls { name := "NoGift", bases := [(.ref 52)], mro := [(.ref 72), (.ref 52), (.type "ValueError"), (.type "Exception"), (.type "BaseException"), (.type "object")], ns := 71, qualname := "NoGift", hasDict := true, slotNames := [], subclasses := [], abstract := false, collection := none, hasDel := false }, #[(some (.ref 56)), none, (some (.str "NoGift" 248)), (some (.str "NoGift" 256)), (some (.builtin "ValueError.__new__")), (some (.bool true))]⟩) ::
  (nat_lit 82, ⟨(.type "tuple"), none, .seq #[] 0, #[]⟩) ::
  (nat_lit 84, ⟨(.type "tuple"), none, .seq #[(.str "self" 290), (.str "number" 291)] 0, #[]⟩) ::
  (nat_lit 85, ⟨(.type "tuple"), none, .seq #[] 0, #[]⟩) ::
  (nat_lit 87, ⟨(.type "code"), none, .fields #[(.str "__init__" 287), (.str "Row.__init__" 288), (.str "/claim/cut.py" 289), (.int (23) 0), (.int (2) 0), (.int (0) 0), (.int (0) 0), (.int (3) 0), (.ref 82), (.bool true), (.int (181) 0), (.ref 83), .none, (.ref 84), (.ref 85), (.ref 86), (.int (292) 0), (.int (23) 0), (.str "/claim/cut.py" 293)], #[]⟩) ::
  (nat_lit 88, ⟨(.type "function"), none, .func (PySem.W.fnOf "__init__" "Row.__init__" (defArgs (inClass (top 7) 0)) (defBody (inClass (top 7) 0)) (defScope (inClass (top 7) 0)) .none .none .none (.str "hushrow.rows" 273) none (.ref 87) .none), #[]⟩) ::
  (nat_lit 89, ⟨(.type "tuple"), none, .seq #[] 0, #[]⟩) ::
  (nat_lit 91, ⟨(.type "tuple"), none, .seq #[(.str "self" 298)] 0, #[]⟩) ::
  (nat_lit 92, ⟨(.type "tuple"), none, .seq #[] 0, #[]⟩) ::
  (nat_lit 94, ⟨(.type "code"), none, .fields #[(.str "reads" 295), (.str "Row.reads" 296), (.str "/claim/cut.py" 297), (.int (26) 0), (.int (1) 0), (.int (0) 0), (.int (0) 0), (.int (3) 0), (.ref 89), (.bool true), (.int (181) 0), (.ref 90), .none, (.ref 91), (.ref 92), (.ref 93), (.int (299) 0), (.int (26) 0), (.str "/claim/cut.py" 300)], #[]⟩) ::
  (nat_lit 95, ⟨(.type "function"), none, .func (PySem.W.fnOf "reads" "Row.reads" (defArgs (inClass (top 7) 1)) (defBody (inClass (top 7) 1)) (defScope (inClass (top 7) 1)) .none .none .none (.str "hushrow.rows" 273) none (.ref 94) .none), #[]⟩) ::
  (nat_lit 96, ⟨(.type "tuple"), none, .seq #[] 0, #[]⟩) ::
  (nat_lit 98, ⟨(.type "tuple"), none, .seq #[(.str "self" 305)] 0, #[]⟩) ::
  (nat_lit 99, ⟨(.type "tuple"), none, .seq #[] 0, #[]⟩) ::
  (nat_lit 101, ⟨(.type "code"), none, .fields #[(.str "target" 302), (.str "Row.target" 303), (.str "/claim/cut.py" 304), (.int (29) 0), (.int (1) 0), (.int (0) 0), (.int (0) 0), (.int (3) 0), (.ref 96), (.bool true), (.int (181) 0), (.ref 97), .none, (.ref 98), (.ref 99), (.ref 100), (.int (306) 0), (.int (29) 0), (.str "/claim/cut.py" 307)], #[]⟩) ::
  (nat_lit 102, ⟨(.type "function"), none, .func (PySem.W.fnOf "target" "Row.target" (defArgs (inClass (top 7) 2)) (defBody (inClass (top 7) 2)) (defScope (inClass (top 7) 2)) .none .none .none (.str "hushrow.rows" 273) none (.ref 101) .none), #[]⟩) ::
  (nat_lit 103, ⟨(.type "tuple"), none, .seq #[(.str "number" 309)] 0, #[]⟩) ::
  (nat_lit 104, ⟨(.type "dict"), none, .dict #[E P "__module__" 282 (.str "hushrow.rows" 273), E P "__firstlineno__" 286 (.int (21) 285), E P "__init__" 294 (.ref 88), E P "reads" 301 (.ref 95), E P "target" 308 (.ref 102), E P "__static_attributes__" 310 (.ref 103), E P "__dict__" 312 (.ref 106), E P "__weakref__" 314 (.ref 107), E P "__doc__" 315 .none] 4, #[]⟩) ::
  (nat_lit 105, ⟨(.type "type"), none, .cls { name := "Row", bases := [(.type "object")], mro := [(.ref 105), (.type "object")], ns := 104, qualname := "Row", hasDict := true, slotNames := [], subclasses := [(.ref 133), (.ref 159), (.ref 185), (.ref 211), (.ref 251), (.ref 291), (.ref 324), (.ref 364), (.ref 397), (.ref 416), (.ref 449), (.ref 482)], abstract := false, collection := none, hasDel := false }, #[none, none, (some (.str "Row" 275)), (some (.str "Row" 283)), (some (.builtin "object.__new__")), (some (.bool true))]⟩) ::
  (nat_lit 106, ⟨(.type "getset_descriptor"), none, .fields #[(.str "__dict__" 311), (.ref 105), (.builtin "function.__dict__"), (.builtin "function.__dict__#set")], #[]⟩) ::
  (nat_lit 107, ⟨(.type "getset_descriptor"), none, .fields #[(.str "__weakref__" 313), (.ref 105), (.builtin "ExceptionGroup.__weakref__"), .none], #[]⟩) ::
  (nat_lit 110, ⟨(.type "tuple"), none, .seq #[(.ref 105)] 0, #[]⟩) ::
  (nat_lit 117, ⟨(.type "tuple"), none, .seq #[] 0, #[]⟩) ::
  (nat_lit 119, ⟨(.type "tuple"), none, .seq #[(.str "self" 333), (.str "number" 334), (.str "name" 335), (.str "rank" 336)] 0, #[]⟩) ::
  (nat_lit 120, ⟨(.type "tuple"), none, .seq #[] 0, #[]⟩) ::
  (nat_lit 122, ⟨(.type "code"), none, .fields #[(.str "__init__" 330), (.str "HandRow.__init__" 331), (.str "/claim/cut.py" 332), (.int (33) 0), (.int (4) 0), (.int (0) 0), (.int (0) 0), (.int (3) 0), (.ref 117), (.bool true), (.int (181) 0), (.ref 118), .none, (.ref 119), (.ref 120), (.ref 121), (.int (337) 0), (.int (33) 0), (.str "/claim/cut.py" 338)], #[]⟩) ::
  (nat_lit 123, ⟨(.type "function"), none, .func (PySem.W.fnOf "__init__" "HandRow.__init__" (defArgs (inClass (top 8) 0)) (defBody (inClass (top 8) 0)) (defScope (inClass (top 8) 0)) .none .none .none (.str "hushrow.rows" 273) none (.ref 122) .none), #[]⟩) ::
  (nat_lit 124, ⟨(.type "tuple"), none, .seq #[] 0, #[]⟩) ::
  (nat_lit 126, ⟨(.type "tuple"), none, .seq #[(.str "self" 343)] 0, #[]⟩) ::
  (nat_lit 127, ⟨(.type "tuple"), none, .seq #[] 0, #[]⟩) ::
  (nat_lit 129, ⟨(.type "code"), none, .fields #[(.str "shown" 340), (.str "HandRow.shown" 341), (.str "/claim/cut.py" 342), (.int (38) 0), (.int (1) 0), (.int (0) 0), (.int (0) 0), (.int (3) 0), (.ref 124), (.bool true), (.int (181) 0), (.ref 125), .none, (.ref 126), (.ref 127), (.ref 128), (.int (344) 0), (.int (38) 0), (.str "/claim/cut.py" 345)], #[]⟩) ::
  (nat_lit 130, ⟨(.type "function"), none, .func (PySem.W.fnOf "shown" "HandRow.shown" (defArgs (inClass (top 8) 1)) (defBody (inClass (top 8) 1)) (defScope (inClass (top 8) 1)) .none .none .none (.str "hushrow.rows" 273) none (.ref 129) .none), #[]⟩) ::
  (nat_lit 131, ⟨(.type "tuple"), none, .seq #[(.str "name" 347), (.str "rank" 348)] 0, #[]⟩) ::
  (nat_lit 132, ⟨(.type "dict"), none, .dict #[E P "__module__" 325 (.str "hushrow.rows" 273), E P "__firstlineno__" 329 (.int (31) 328), E P "__init__" 339 (.ref 123), E P "shown" 346 (.ref 130), E P "__static_attributes__" 349 (.ref 131), E P "__doc__" 350 .none] 2, #[]⟩) ::
  (nat_lit 133, ⟨(.type "type"), none, .cls { name := "HandRow", bases := [(.ref 105)], mro := [(.ref 133), (.ref 105), (.type "object")], ns := 132, qualname := "HandRow", hasDict := true, slotNames := [], subclasses := [], abstract := false, collection := none, hasDel := false }, #[(some (.ref 110)), none, (some (.str "HandRow" 318)), (some (.str "HandRow" 326)), (some (.builtin "object.__new__")), (some (.bool true))]⟩) ::
  (nat_lit 136, ⟨(.type "tuple"), none, .seq #[(.ref 105)] 0, #[]⟩) ::
  (nat_lit 143, ⟨(.type "tuple"), none, .seq #[] 0, #[]⟩) ::
  (nat_lit 145, ⟨(.type "tuple"), none, .seq #[(.str "self" 368), (.str "number" 369), (.str "name" 370), (.str "rank" 371), (.str "size" 372)] 0, #[]⟩) ::
  (nat_lit 146, ⟨(.type "tuple"), none, .seq #[] 0, #[]⟩) ::
  (nat_lit 148, ⟨(.type "code"), none, .fields #[(.str "__init__" 365), (.str "GivenRow.__init__" 366), (.str "/claim/cut.py" 367), (.int (42) 0), (.int (5) 0), (.int (0) 0), (.int (0) 0), (.int (3) 0), (.ref 143), (.bool true), (.int (181) 0), (.ref 144), .none, (.ref 145), (.ref 146), (.ref 147), (.int (373) 0), (.int (42) 0), (.str "/claim/cut.py" 374)], #[]⟩) ::
  (nat_lit 149, ⟨(.type "function"), none, .func (PySem.W.fnOf "__init__" "GivenRow.__init__" (defArgs (inClass (top 9) 0)) (defBody (inClass (top 9) 0)) (defScope (inClass (top 9) 0)) .none .none .none (.str "hushrow.rows" 273) none (.ref 148) .none), #[]⟩) ::
  (nat_lit 150, ⟨(.type "tuple"), none, .seq #[] 0, #[]⟩) ::
  (nat_lit 152, ⟨(.type "tuple"), none, .seq #[(.str "self" 379)] 0, #[]⟩) ::
  (nat_lit 153, ⟨(.type "tuple"), none, .seq #[] 0, #[]⟩) ::
  (nat_lit 155, ⟨(.type "code"), none, .fields #[(.str "shown" 376), (.str "GivenRow.shown" 377), (.str "/claim/cut.py" 378), (.int (48) 0), (.int (1) 0), (.int (0) 0), (.int (0) 0), (.int (3) 0), (.ref 150), (.bool true), (.int (181) 0), (.ref 151), .none, (.ref 152), (.ref 153), (.ref 154), (.int (380) 0), (.int (48) 0), (.str "/claim/cut.py" 381)], #[]⟩) ::
  (nat_lit 156, ⟨(.type "function"), none, .func (PySem.W.fnOf "shown" "GivenRow.shown" (defArgs (inClass (top 9) 1)) (defBody (inClass (top 9) 1)) (defScope (inClass (top 9) 1)) .none .none .none (.str "hushrow.rows" 273) none (.ref 155) .none), #[]⟩) ::
  (nat_lit 157, ⟨(.type "tuple"), none, .seq #[(.str "name" 383), (.str "rank" 384), (.str "size" 385)] 0, #[]⟩) ::
  (nat_lit 158, ⟨(.type "dict"), none, .dict #[E P "__module__" 360 (.str "hushrow.rows" 273), E P "__firstlineno__" 364 (.int (40) 363), E P "__init__" 375 (.ref 149), E P "shown" 382 (.ref 156), E P "__static_attributes__" 386 (.ref 157), E P "__doc__" 387 .none] 2, #[]⟩) ::
  (nat_lit 159, ⟨(.type "type"), none, .cls { name := "GivenRow", bases := [(.ref 105)], mro := [(.ref 159), (.ref 105), (.type "object")], ns := 158, qualname := "GivenRow", hasDict := true, slotNames := [], subclasses := [], abstract := false, collection := none, hasDel := false }, #[(some (.ref 136)), none, (some (.str "GivenRow" 353)), (some (.str "GivenRow" 361)), (some (.builtin "object.__new__")), (some (.bool true))]⟩) ::
  (nat_lit 162, ⟨(.type "tuple"), none, .seq #[(.ref 105)] 0, #[]⟩) ::
  (nat_lit 169, ⟨(.type "tuple"), none, .seq #[] 0, #[]⟩) ::
  (nat_lit 171, ⟨(.type "tuple"), none, .seq #[(.str "self" 405), (.str "number" 406), (.str "name" 407), (.str "size" 408)] 0, #[]⟩) ::
  (nat_lit 172, ⟨(.type "tuple"), none, .seq #[] 0, #[]⟩) ::
  (nat_lit 174, ⟨(.type "code"), none, .fields #[(.str "__init__" 402), (.str "OwnRow.__init__" 403), (.str "/claim/cut.py" 404), (.int (52) 0), (.int (4) 0), (.int (0) 0), (.int (0) 0), (.int (3) 0), (.ref 169), (.bool true), (.int (181) 0), (.ref 170), .none, (.ref 171), (.ref 172), (.ref 173), (.int (409) 0), (.int (52) 0), (.str "/claim/cut.py" 410)], #[]⟩) ::
  (nat_lit 175, ⟨(.type "function"), none, .func (PySem.W.fnOf "__init__" "OwnRow.__init__" (defArgs (inClass (top 10) 0)) (defBody (inClass (top 10) 0)) (defScope (inClass (top 10) 0)) .none .none .none (.str "hushrow.rows" 273) none (.ref 174) .none), #[]⟩) ::
  (nat_lit 176, ⟨(.type "tuple"), none, .seq #[] 0, #[]⟩) ::
  (nat_lit 178, ⟨(.type "tuple"), none, .seq #[(.str "self" 415)] 0, #[]⟩) ::
  (nat_lit 179, ⟨(.type "tuple"), none, .seq #[] 0, #[]⟩) ::
  (nat_lit 181, ⟨(.type "code"), none, .fields #[(.str "shown" 412), (.str "OwnRow.shown" 413), (.str "/claim/cut.py" 414), (.int (57) 0), (.int (1) 0), (.int (0) 0), (.int (0) 0), (.int (3) 0), (.ref 176), (.bool true), (.int (181) 0), (.ref 177), .none, (.ref 178), (.ref 179), (.ref 180), (.int (416) 0), (.int (57) 0), (.str "/claim/cut.py" 417)], #[]⟩) ::
  (nat_lit 182, ⟨(.type "function"), none, .func (PySem.W.fnOf "shown" "OwnRow.shown" (defArgs (inClass (top 10) 1)) (defBody (inClass (top 10) 1)) (defScope (inClass (top 10) 1)) .none .none .none (.str "hushrow.rows" 273) none (.ref 181) .none), #[]⟩) ::
  (nat_lit 183, ⟨(.type "tuple"), none, .seq #[(.str "name" 419), (.str "size" 420)] 0, #[]⟩) ::
  (nat_lit 184, ⟨(.type "dict"), none, .dict #[E P "__module__" 397 (.str "hushrow.rows" 273), E P "__firstlineno__" 401 (.int (50) 400), E P "__init__" 411 (.ref 175), E P "shown" 418 (.ref 182), E P "__static_attributes__" 421 (.ref 183), E P "__doc__" 422 .none] 2, #[]⟩) ::
  (nat_lit 185, ⟨(.type "type"), none, .cls { name := "OwnRow", bases := [(.ref 105)], mro := [(.ref 185), (.ref 105), (.type "object")], ns := 184, qualname := "OwnRow", hasDict := true, slotNames := [], subclasses := [], abstract := false, collection := none, hasDel := false }, #[(some (.ref 162)), none, (some (.str "OwnRow" 390)), (some (.str "OwnRow" 398)), (some (.builtin "object.__new__")), (some (.bool true))]⟩) ::
  (nat_lit 188, ⟨(.type "tuple"), none, .seq #[(.ref 105)] 0, #[]⟩) ::
  (nat_lit 195, ⟨(.type "tuple"), none, .seq #[] 0, #[]⟩) ::
  (nat_lit 197, ⟨(.type "tuple"), none, .seq #[(.str "self" 440), (.str "number" 441), (.str "name" 442), (.str "rank" 443)] 0, #[]⟩) ::
  (nat_lit 198, ⟨(.type "tuple"), none, .seq #[] 0, #[]⟩) ::
  (nat_lit 200, ⟨(.type "code"), none, .fields #[(.str "__init__" 437), (.str "LetRow.__init__" 438), (.str "/claim/cut.py" 439), (.int (61) 0), (.int (4) 0), (.int (0) 0), (.int (0) 0), (.int (3) 0), (.ref 195), (.bool true), (.int (181) 0), (.ref 196), .none, (.ref 197), (.ref 198), (.ref 199), (.int (444) 0), (.int (61) 0), (.str "/claim/cut.py" 445)], #[]⟩) ::
  (nat_lit 201, ⟨(.type "function"), none, .func (PySem.W.fnOf "__init__" "LetRow.__init__" (defArgs (inClass (top 11) 0)) (defBody (inClass (top 11) 0)) (defScope (inClass (top 11) 0)) .none .none .none (.str "hushrow.rows" 273) none (.ref 200) .none), #[]⟩) ::
  (nat_lit 202, ⟨(.type "tuple"), none, .seq #[] 0, #[]⟩) ::
  (nat_lit 204, ⟨(.type "tuple"), none, .seq #[(.str "self" 450)] 0, #[]⟩) ::
  (nat_lit 205, ⟨(.type "tuple"), none, .seq #[] 0, #[]⟩) ::
  (nat_lit 207, ⟨(.type "code"), none, .fields #[(.str "shown" 447), (.str "LetRow.shown" 448), (.str "/claim/cut.py" 449), (.int (66) 0), (.int (1) 0), (.int (0) 0), (.int (0) 0), (.int (3) 0), (.ref 202), (.bool true), (.int (181) 0), (.ref 203), .none, (.ref 204), (.ref 205), (.ref 206), (.int (451) 0), (.int (66) 0), (.str "/claim/cut.py" 452)], #[]⟩) ::
  (nat_lit 208, ⟨(.type "function"), none, .func (PySem.W.fnOf "shown" "LetRow.shown" (defArgs (inClass (top 11) 1)) (defBody (inClass (top 11) 1)) (defScope (inClass (top 11) 1)) .none .none .none (.str "hushrow.rows" 273) none (.ref 207) .none), #[]⟩) ::
  (nat_lit 209, ⟨(.type "tuple"), none, .seq #[(.str "name" 454), (.str "rank" 455)] 0, #[]⟩) ::
  (nat_lit 210, ⟨(.type "dict"), none, .dict #[E P "__module__" 432 (.str "hushrow.rows" 273), E P "__firstlineno__" 436 (.int (59) 435), E P "__init__" 446 (.ref 201), E P "shown" 453 (.ref 208), E P "__static_attributes__" 456 (.ref 209), E P "__doc__" 457 .none] 2, #[]⟩) ::
  (nat_lit 211, ⟨(.type "type"), none, .cls { name := "LetRow", bases := [(.ref 105)], mro := [(.ref 211), (.ref 105), (.type "object")], ns := 210, qualname := "LetRow", hasDict := true, slotNames := [], subclasses := [], abstract := false, collection := none, hasDel := false }, #[(some (.ref 188)), none, (some (.str "LetRow" 425)), (some (.str "LetRow" 433)), (some (.builtin "object.__new__")), (some (.bool true))]⟩) ::
  (nat_lit 214, ⟨(.type "tuple"), none, .seq #[(.ref 105)] 0, #[]⟩) ::
  (nat_lit 221, ⟨(.type "tuple"), none, .seq #[] 0, #[]⟩) ::
  (nat_lit 223, ⟨(.type "tuple"), none, .seq #[(.str "self" 475), (.str "number" 476), (.str "name" 477), (.str "value" 478)] 0, #[]⟩) ::
  (nat_lit 224, ⟨(.type "tuple"), none, .seq #[] 0, #[]⟩) ::
  (nat_lit 226, ⟨(.type "code"), none, .fields #[(.str "__init__" 472), (.str "SetRow.__init__" 473), (.str "/claim/cut.py" 474), (.int (70) 0), (.int (4) 0), (.int (0) 0), (.int (0) 0), (.int (3) 0), (.ref 221), (.bool true), (.int (181) 0), (.ref 222), .none, (.ref 223), (.ref 224), (.ref 225), (.int (479) 0), (.int (70) 0), (.str "/claim/cut.py" 480)], #[]⟩) ::
  (nat_lit 227, ⟨(.type "function"), none, .func (PySem.W.fnOf "__init__" "SetRow.__init__" (defArgs (inClass (top 12) 0)) (defBody (inClass (top 12) 0)) (defScope (inClass (top 12) 0)) .none .none .none (.str "hushrow.rows" 273) none (.ref 226) .none), #[]⟩) ::
  (nat_lit 228, ⟨(.type "tuple"), none, .seq #[] 0, #[]⟩) ::
  (nat_lit 230, ⟨(.type "tuple"), none, .seq #[(.str "self" 485)] 0, #[]⟩) ::
  (nat_lit 231, ⟨(.type "tuple"), none, .seq #[] 0, #[]⟩) ::
  (nat_lit 233, ⟨(.type "code"), none, .fields #[(.str "shown" 482), (.str "SetRow.shown" 483), (.str "/claim/cut.py" 484), (.int (75) 0), (.int (1) 0), (.int (0) 0), (.int (0) 0), (.int (3) 0), (.ref 228), (.bool true), (.int (181) 0), (.ref 229), .none, (.ref 230), (.ref 231), (.ref 232), (.int (486) 0), (.int (75) 0), (.str "/claim/cut.py" 487)], #[]⟩) ::
  (nat_lit 234, ⟨(.type "function"), none, .func (PySem.W.fnOf "shown" "SetRow.shown" (defArgs (inClass (top 12) 1)) (defBody (inClass (top 12) 1)) (defScope (inClass (top 12) 1)) .none .none .none (.str "hushrow.rows" 273) none (.ref 233) .none), #[]⟩) ::
  (nat_lit 235, ⟨(.type "tuple"), none, .seq #[] 0, #[]⟩) ::
  (nat_lit 237, ⟨(.type "tuple"), none, .seq #[(.str "self" 492)] 0, #[]⟩) ::
  (nat_lit 238, ⟨(.type "tuple"), none, .seq #[] 0, #[]⟩) ::
  (nat_lit 240, ⟨(.type "code"), none, .fields #[(.str "reads" 489), (.str "SetRow.reads" 490), (.str "/claim/cut.py" 491), (.int (78) 0), (.int (1) 0), (.int (0) 0), (.int (0) 0), (.int (3) 0), (.ref 235), (.bool true), (.int (181) 0), (.ref 236), .none, (.ref 237), (.ref 238), (.ref 239), (.int (493) 0), (.int (78) 0), (.str "/claim/cut.py" 494)], #[]⟩) ::
  (nat_lit 241, ⟨(.type "function"), none, .func (PySem.W.fnOf "reads" "SetRow.reads" (defArgs (inClass (top 12) 2)) (defBody (inClass (top 12) 2)) (defScope (inClass (top 12) 2)) .none .none .none (.str "hushrow.rows" 273) none (.ref 240) .none), #[]⟩) ::
  (nat_lit 242, ⟨(.type "tuple"), none, .seq #[] 0, #[]⟩) ::
  (nat_lit 244, ⟨(.type "tuple"), none, .seq #[(.str "self" 499)] 0, #[]⟩) ::
  (nat_lit 245, ⟨(.type "tuple"), none, .seq #[] 0, #[]⟩) ::
  (nat_lit 247, ⟨(.type "code"), none, .fields #[(.str "target" 496), (.str "SetRow.target" 497), (.str "/claim/cut.py" 498), (.int (81) 0), (.int (1) 0), (.int (0) 0), (.int (0) 0), (.int (3) 0), (.ref 242), (.bool true), (.int (181) 0), (.ref 243), .none, (.ref 244), (.ref 245), (.ref 246), (.int (500) 0), (.int (81) 0), (.str "/claim/cut.py" 501)], #[]⟩) ::
  (nat_lit 248, ⟨(.type "function"), none, .func (PySem.W.fnOf "target" "SetRow.target" (defArgs (inClass (top 12) 3)) (defBody (inClass (top 12) 3)) (defScope (inClass (top 12) 3)) .none .none .none (.str "hushrow.rows" 273) none (.ref 247) .none), #[]⟩) ::
  (nat_lit 249, ⟨(.type "tuple"), none, .seq #[(.str "name" 503), (.str "value" 504)] 0, #[]⟩) ::
  (nat_lit 250, ⟨(.type "dict"), none, .dict #[E P "__module__" 467 (.str "hushrow.rows" 273), E P "__firstlineno__" 471 (.int (68) 470), E P "__init__" 481 (.ref 227), E P "shown" 488 (.ref 234), E P "reads" 495 (.ref 241), E P "target" 502 (.ref 248), E P "__static_attributes__" 505 (.ref 249), E P "__doc__" 506 .none] 2, #[]⟩) ::
  (nat_lit 251, ⟨(.type "type"), none, .cls { name := "SetRow", bases := [(.ref 105)], mro := [(.ref 251), (.ref 105), (.type "object")], ns := 250, qualname := "SetRow", hasDict := true, slotNames := [], subclasses := [], abstract := false, collection := none, hasDel := false }, #[(some (.ref 214)), none, (some (.str "SetRow" 460)), (some (.str "SetRow" 468)), (some (.builtin "object.__new__")), (some (.bool true))]⟩) ::
  (nat_lit 254, ⟨(.type "tuple"), none, .seq #[(.ref 105)] 0, #[]⟩) ::
  (nat_lit 261, ⟨(.type "tuple"), none, .seq #[] 0, #[]⟩) ::
  (nat_lit 263, ⟨(.type "tuple"), none, .seq #[(.str "self" 524), (.str "number" 525), (.str "name" 526), (.str "place" 527), (.str "value" 528)] 0, #[]⟩) ::
  (nat_lit 264, ⟨(.type "tuple"), none, .seq #[] 0, #[]⟩) ::
  (nat_lit 266, ⟨(.type "code"), none, .fields #[(.str "__init__" 521), (.str "PutRow.__init__" 522), (.str "/claim/cut.py" 523), (.int (85) 0), (.int (5) 0), (.int (0) 0), (.int (0) 0), (.int (3) 0), (.ref 261), (.bool true), (.int (181) 0), (.ref 262), .none, (.ref 263), (.ref 264), (.ref 265), (.int (529) 0), (.int (85) 0), (.str "/claim/cut.py" 530)], #[]⟩) ::
  (nat_lit 267, ⟨(.type "function"), none, .func (PySem.W.fnOf "__init__" "PutRow.__init__" (defArgs (inClass (top 13) 0)) (defBody (inClass (top 13) 0)) (defScope (inClass (top 13) 0)) .none .none .none (.str "hushrow.rows" 273) none (.ref 266) .none), #[]⟩) ::
  (nat_lit 268, ⟨(.type "tuple"), none, .seq #[] 0, #[]⟩) ::
  (nat_lit 270, ⟨(.type "tuple"), none, .seq #[(.str "self" 535)] 0, #[]⟩) ::
  (nat_lit 271, ⟨(.type "tuple"), none, .seq #[] 0, #[]⟩) ::
  (nat_lit 273, ⟨(.type "code"), none, .fields #[(.str "shown" 532), (.str "PutRow.shown" 533), (.str "/claim/cut.py" 534), (.int (91) 0), (.int (1) 0), (.int (0) 0), (.int (0) 0), (.int (3) 0), (.ref 268), (.bool true), (.int (181) 0), (.ref 269), .none, (.ref 270), (.ref 271), (.ref 272), (.int (536) 0), (.int (91) 0), (.str "/claim/cut.py" 537)], #[]⟩) ::
  (nat_lit 274, ⟨(.type "function"), none, .func (PySem.W.fnOf "shown" "PutRow.shown" (defArgs (inClass (top 13) 1)) (defBody (inClass (top 13) 1)) (defScope (inClass (top 13) 1)) .none .none .none (.str "hushrow.rows" 273) none (.ref 273) .none), #[]⟩) ::
  (nat_lit 275, ⟨(.type "tuple"), none, .seq #[] 0, #[]⟩) ::
  (nat_lit 277, ⟨(.type "tuple"), none, .seq #[(.str "self" 542)] 0, #[]⟩) ::
  (nat_lit 278, ⟨(.type "tuple"), none, .seq #[] 0, #[]⟩) ::
  (nat_lit 280, ⟨(.type "code"), none, .fields #[(.str "reads" 539), (.str "PutRow.reads" 540), (.str "/claim/cut.py" 541), (.int (94) 0), (.int (1) 0), (.int (0) 0), (.int (0) 0), (.int (3) 0), (.ref 275), (.bool true), (.int (181) 0), (.ref 276), .none, (.ref 277), (.ref 278), (.ref 279), (.int (543) 0), (.int (94) 0), (.str "/claim/cut.py" 544)], #[]⟩) ::
  (nat_lit 281, ⟨(.type "function"), none, .func (PySem.W.fnOf "reads" "PutRow.reads" (defArgs (inClass (top 13) 2)) (defBody (inClass (top 13) 2)) (defScope (inClass (top 13) 2)) .none .none .none (.str "hushrow.rows" 273) none (.ref 280) .none), #[]⟩) ::
  (nat_lit 282, ⟨(.type "tuple"), none, .seq #[] 0, #[]⟩) ::
  (nat_lit 284, ⟨(.type "tuple"), none, .seq #[(.str "self" 549)] 0, #[]⟩) ::
  (nat_lit 285, ⟨(.type "tuple"), none, .seq #[] 0, #[]⟩) ::
  (nat_lit 287, ⟨(.type "code"), none, .fields #[(.str "target" 546), (.str "PutRow.target" 547), (.str "/claim/cut.py" 548), (.int (97) 0), (.int (1) 0), (.int (0) 0), (.int (0) 0), (.int (3) 0), (.ref 282), (.bool true), (.int (181) 0), (.ref 283), .none, (.ref 284), (.ref 285), (.ref 286), (.int (550) 0), (.int (97) 0), (.str "/claim/cut.py" 551)], #[]⟩) ::
  (nat_lit 288, ⟨(.type "function"), none, .func (PySem.W.fnOf "target" "PutRow.target" (defArgs (inClass (top 13) 3)) (defBody (inClass (top 13) 3)) (defScope (inClass (top 13) 3)) .none .none .none (.str "hushrow.rows" 273) none (.ref 287) .none), #[]⟩) ::
  (nat_lit 289, ⟨(.type "tuple"), none, .seq #[(.str "name" 553), (.str "place" 554), (.str "value" 555)] 0, #[]⟩) ::
  (nat_lit 290, ⟨(.type "dict"), none, .dict #[E P "__module__" 516 (.str "hushrow.rows" 273), E P "__firstlineno__" 520 (.int (83) 519), E P "__init__" 531 (.ref 267), E P "shown" 538 (.ref 274), E P "reads" 545 (.ref 281), E P "target" 552 (.ref 288), E P "__static_attributes__" 556 (.ref 289), E P "__doc__" 557 .none] 2, #[]⟩) ::
  (nat_lit 291, ⟨(.type "type"), none, .cls { name := "PutRow", bases := [(.ref 105)], mro := [(.ref 291), (.ref 105), (.type "object")], ns := 290, qualname := "PutRow", hasDict := true, slotNames := [], subclasses := [], abstract := false, collection := none, hasDel := false }, #[(some (.ref 254)), none, (some (.str "PutRow" 509)), (some (.str "PutRow" 517)), (some (.builtin "object.__new__")), (some (.bool true))]⟩) ::
  (nat_lit 294, ⟨(.type "tuple"), none, .seq #[(.ref 105)] 0, #[]⟩) ::
  (nat_lit 301, ⟨(.type "tuple"), none, .seq #[] 0, #[]⟩) ::
  (nat_lit 303, ⟨(.type "tuple"), none, .seq #[(.str "self" 575), (.str "number" 576), (.str "name" 577), (.str "value" 578)] 0, #[]⟩) ::
  (nat_lit 304, ⟨(.type "tuple"), none, .seq #[] 0, #[]⟩) ::
  (nat_lit 306, ⟨(.type "code"), none, .fields #[(.str "__init__" 572), (.str "SendRow.__init__" 573), (.str "/claim/cut.py" 574), (.int (101) 0), (.int (4) 0), (.int (0) 0), (.int (0) 0), (.int (3) 0), (.ref 301), (.bool true), (.int (181) 0), (.ref 302), .none, (.ref 303), (.ref 304), (.ref 305), (.int (579) 0), (.int (101) 0), (.str "/claim/cut.py" 580)], #[]⟩) ::
  (nat_lit 307, ⟨(.type "function"), none, .func (PySem.W.fnOf "__init__" "SendRow.__init__" (defArgs (inClass (top 14) 0)) (defBody (inClass (top 14) 0)) (defScope (inClass (top 14) 0)) .none .none .none (.str "hushrow.rows" 273) none (.ref 306) .none), #[]⟩) ::
  (nat_lit 308, ⟨(.type "tuple"), none, .seq #[] 0, #[]⟩) ::
  (nat_lit 310, ⟨(.type "tuple"), none, .seq #[(.str "self" 585)] 0, #[]⟩) ::
  (nat_lit 311, ⟨(.type "tuple"), none, .seq #[] 0, #[]⟩) ::
  (nat_lit 313, ⟨(.type "code"), none, .fields #[(.str "shown" 582), (.str "SendRow.shown" 583), (.str "/claim/cut.py" 584), (.int (106) 0), (.int (1) 0), (.int (0) 0), (.int (0) 0), (.int (3) 0), (.ref 308), (.bool true), (.int (181) 0), (.ref 309), .none, (.ref 310), (.ref 311), (.ref 312), (.int (586) 0), (.int (106) 0), (.str "/claim/cut.py" 587)], #[]⟩) ::
  (nat_lit 314, ⟨(.type "function"), none, .func (PySem.W.fnOf "shown" "SendRow.shown" (defArgs (inClass (top 14) 1)) (defBody (inClass (top 14) 1)) (defScope (inClass (top 14) 1)) .none .none .none (.str "hushrow.rows" 273) none (.ref 313) .none), #[]⟩) ::
  (nat_lit 315, ⟨(.type "tuple"), none, .seq #[] 0, #[]⟩) ::
  (nat_lit 317, ⟨(.type "tuple"), none, .seq #[(.str "self" 592)] 0, #[]⟩) ::
  (nat_lit 318, ⟨(.type "tuple"), none, .seq #[] 0, #[]⟩) ::
  (nat_lit 320, ⟨(.type "code"), none, .fields #[(.str "reads" 589), (.str "SendRow.reads" 590), (.str "/claim/cut.py" 591), (.int (109) 0), (.int (1) 0), (.int (0) 0), (.int (0) 0), (.int (3) 0), (.ref 315), (.bool true), (.int (181) 0), (.ref 316), .none, (.ref 317), (.ref 318), (.ref 319), (.int (593) 0), (.int (109) 0), (.str "/claim/cut.py" 594)], #[]⟩) ::
  (nat_lit 321, ⟨(.type "function"), none, .func (PySem.W.fnOf "reads" "SendRow.reads" (defArgs (inClass (top 14) 2)) (defBody (inClass (top 14) 2)) (defScope (inClass (top 14) 2)) .none .none .none (.str "hushrow.rows" 273) none (.ref 320) .none), #[]⟩) ::
  (nat_lit 322, ⟨(.type "tuple"), none, .seq #[(.str "name" 596), (.str "value" 597)] 0, #[]⟩) ::
  (nat_lit 323, ⟨(.type "dict"), none, .dict #[E P "__module__" 567 (.str "hushrow.rows" 273), E P "__firstlineno__" 571 (.int (99) 570), E P "__init__" 581 (.ref 307), E P "shown" 588 (.ref 314), E P "reads" 595 (.ref 321), E P "__static_attributes__" 598 (.ref 322), E P "__doc__" 599 .none] 2, #[]⟩) ::
  (nat_lit 324, ⟨(.type "type"), none, .cls { name := "SendRow", bases := [(.ref 105)], mro := [(.ref 324), (.ref 105), (.type "object")], ns := 323, qualname := "SendRow", hasDict := true, slotNames := [], subclasses := [], abstract := false, collection := none, hasDel := false }, #[(some (.ref 294)), none, (some (.str "SendRow" 560)), (some (.str "SendRow" 568)), (some (.builtin "object.__new__")), (some (.bool true))]⟩) ::
  (nat_lit 327, ⟨(.type "tuple"), none, .seq #[(.ref 105)] 0, #[]⟩) ::
  (nat_lit 334, ⟨(.type "tuple"), none, .seq #[] 0, #[]⟩) ::
  (nat_lit 336, ⟨(.type "tuple"), none, .seq #[(.str "self" 617), (.str "number" 618), (.str "name" 619), (.str "value" 620), (.str "mark" 621)] 0, #[]⟩) ::
  (nat_lit 337, ⟨(.type "tuple"), none, .seq #[] 0, #[]⟩) ::
  (nat_lit 339, ⟨(.type "code"), none, .fields #[(.str "__init__" 614), (.str "SayRow.__init__" 615), (.str "/claim/cut.py" 616), (.int (113) 0), (.int (5) 0), (.int (0) 0), (.int (0) 0), (.int (3) 0), (.ref 334), (.bool true), (.int (181) 0), (.ref 335), .none, (.ref 336), (.ref 337), (.ref 338), (.int (622) 0), (.int (113) 0), (.str "/claim/cut.py" 623)], #[]⟩) ::
  (nat_lit 340, ⟨(.type "function"), none, .func (PySem.W.fnOf "__init__" "SayRow.__init__" (defArgs (inClass (top 15) 0)) (defBody (inClass (top 15) 0)) (defScope (inClass (top 15) 0)) .none .none .none (.str "hushrow.rows" 273) none (.ref 339) .none), #[]⟩) ::
  (nat_lit 341, ⟨(.type "tuple"), none, .seq #[] 0, #[]⟩) ::
  (nat_lit 343, ⟨(.type "tuple"), none, .seq #[(.str "self" 628)] 0, #[]⟩) ::
  (nat_lit 344, ⟨(.type "tuple"), none, .seq #[] 0, #[]⟩) ::
  (nat_lit 346, ⟨(.type "code"), none, .fields #[(.str "shown" 625), (.str "SayRow.shown" 626), (.str "/claim/cut.py" 627), (.int (119) 0), (.int (1) 0), (.int (0) 0), (.int (0) 0), (.int (3) 0), (.ref 341), (.bool true), (.int (181) 0), (.ref 342), .none, (.ref 343), (.ref 344), (.ref 345), (.int (629) 0), (.int (119) 0), (.str "/claim/cut.py" 630)], #[]⟩) ::
  (nat_lit 347, ⟨(.type "function"), none, .func (PySem.W.fnOf "shown" "SayRow.shown" (defArgs (inClass (top 15) 1)) (defBody (inClass (top 15) 1)) (defScope (inClass (top 15) 1)) .none .none .none (.str "hushrow.rows" 273) none (.ref 346) .none), #[]⟩) ::
  (nat_lit 348, ⟨(.type "tuple"), none, .seq #[] 0, #[]⟩) ::
  (nat_lit 350, ⟨(.type "tuple"), none, .seq #[(.str "self" 635)] 0, #[]⟩) ::
  (nat_lit 351, ⟨(.type "tuple"), none, .seq #[] 0, #[]⟩) ::
  (nat_lit 353, ⟨(.type "code"), none, .fields #[(.str "reads" 632), (.str "SayRow.reads" 633), (.str "/claim/cut.py" 634), (.int (122) 0), (.int (1) 0), (.int (0) 0), (.int (0) 0), (.int (3) 0), (.ref 348), (.bool true), (.int (181) 0), (.ref 349), .none, (.ref 350), (.ref 351), (.ref 352), (.int (636) 0), (.int (122) 0), (.str "/claim/cut.py" 637)], #[]⟩) ::
  (nat_lit 354, ⟨(.type "function"), none, .func (PySem.W.fnOf "reads" "SayRow.reads" (defArgs (inClass (top 15) 2)) (defBody (inClass (top 15) 2)) (defScope (inClass (top 15) 2)) .none .none .none (.str "hushrow.rows" 273) none (.ref 353) .none), #[]⟩) ::
  (nat_lit 355, ⟨(.type "tuple"), none, .seq #[] 0, #[]⟩) ::
  (nat_lit 357, ⟨(.type "tuple"), none, .seq #[(.str "self" 642)] 0, #[]⟩) ::
  (nat_lit 358, ⟨(.type "tuple"), none, .seq #[] 0, #[]⟩) ::
  (nat_lit 360, ⟨(.type "code"), none, .fields #[(.str "target" 639), (.str "SayRow.target" 640), (.str "/claim/cut.py" 641), (.int (125) 0), (.int (1) 0), (.int (0) 0), (.int (0) 0), (.int (3) 0), (.ref 355), (.bool true), (.int (181) 0), (.ref 356), .none, (.ref 357), (.ref 358), (.ref 359), (.int (643) 0), (.int (125) 0), (.str "/claim/cut.py" 644)], #[]⟩) ::
  (nat_lit 361, ⟨(.type "function"), none, .func (PySem.W.fnOf "target" "SayRow.target" (defArgs (inClass (top 15) 3)) (defBody (inClass (top 15) 3)) (defScope (inClass (top 15) 3)) .none .none .none (.str "hushrow.rows" 273) none (.ref 360) .none), #[]⟩) ::
  (nat_lit 362, ⟨(.type "tuple"), none, .seq #[(.str "mark" 646), (.str "name" 647), (.str "value" 648)] 0, #[]⟩) ::
  (nat_lit 363, ⟨(.type "dict"), none, .dict #[E P "__module__" 609 (.str "hushrow.rows" 273), E P "__firstlineno__" 613 (.int (111) 612), E P "__init__" 624 (.ref 340), E P "shown" 631 (.ref 347), E P "reads" 638 (.ref 354), E P "target" 645 (.ref 361), E P "__static_attributes__" 649 (.ref 362), E P "__doc__" 650 .none] 2, #[]⟩) ::
  (nat_lit 364, ⟨(.type "type"), none, .cls { name := "SayRow", bases := [(.ref 105)], mro := [(.ref 364), (.ref 105), (.type "object")], ns := 363, qualname := "SayRow", hasDict := true, slotNames := [], subclasses := [], abstract := false, collection := none, hasDel := false }, #[(some (.ref 327)), none, (some (.str "SayRow" 602)), (some (.str "SayRow" 610)), (some (.builtin "object.__new__")), (some (.bool true))]⟩) ::
  (nat_lit 367, ⟨(.type "tuple"), none, .seq #[(.ref 105)] 0, #[]⟩) ::
  (nat_lit 374, ⟨(.type "tuple"), none, .seq #[] 0, #[]⟩) ::
  (nat_lit 376, ⟨(.type "tuple"), none, .seq #[(.str "self" 668), (.str "number" 669), (.str "name" 670), (.str "things" 671)] 0, #[]⟩) ::
  (nat_lit 377, ⟨(.type "tuple"), none, .seq #[] 0, #[]⟩) ::
  (nat_lit 379, ⟨(.type "code"), none, .fields #[(.str "__init__" 665), (.str "CallRow.__init__" 666), (.str "/claim/cut.py" 667), (.int (129) 0), (.int (4) 0), (.int (0) 0), (.int (0) 0), (.int (3) 0), (.ref 374), (.bool true), (.int (181) 0), (.ref 375), .none, (.ref 376), (.ref 377), (.ref 378), (.int (672) 0), (.int (129) 0), (.str "/claim/cut.py" 673)], #[]⟩) ::
  (nat_lit 380, ⟨(.type "function"), none, .func (PySem.W.fnOf "__init__" "CallRow.__init__" (defArgs (inClass (top 16) 0)) (defBody (inClass (top 16) 0)) (defScope (inClass (top 16) 0)) .none .none .none (.str "hushrow.rows" 273) none (.ref 379) .none), #[]⟩) ::
  (nat_lit 381, ⟨(.type "tuple"), none, .seq #[] 0, #[]⟩) ::
  (nat_lit 383, ⟨(.type "tuple"), none, .seq #[(.str "self" 678)] 0, #[]⟩) ::
  (nat_lit 384, ⟨(.type "tuple"), none, .seq #[] 0, #[]⟩) ::
  (nat_lit 386, ⟨(.type "code"), none, .fields #[(.str "shown" 675), (.str "CallRow.shown" 676), (.str "/claim/cut.py" 677), (.int (134) 0), (.int (1) 0), (.int (0) 0), (.int (0) 0), (.int (3) 0), (.ref 381), (.bool true), (.int (181) 0), (.ref 382), .none, (.ref 383), (.ref 384), (.ref 385), (.int (679) 0), (.int (134) 0), (.str "/claim/cut.py" 680)], #[]⟩) ::
  (nat_lit 387, ⟨(.type "function"), none, .func (PySem.W.fnOf "shown" "CallRow.shown" (defArgs (inClass (top 16) 1)) (defBody (inClass (top 16) 1)) (defScope (inClass (top 16) 1)) .none .none .none (.str "hushrow.rows" 273) none (.ref 386) .none), #[]⟩) ::
  (nat_lit 388, ⟨(.type "tuple"), none, .seq #[] 0, #[]⟩) ::
  (nat_lit 390, ⟨(.type "tuple"), none, .seq #[(.str "self" 685)] 0, #[]⟩) ::
  (nat_lit 391, ⟨(.type "tuple"), none, .seq #[] 0, #[]⟩) ::
  (nat_lit 393, ⟨(.type "code"), none, .fields #[(.str "reads" 682), (.str "CallRow.reads" 683), (.str "/claim/cut.py" 684), (.int (137) 0), (.int (1) 0), (.int (0) 0), (.int (0) 0), (.int (3) 0), (.ref 388), (.bool true), (.int (181) 0), (.ref 389), .none, (.ref 390), (.ref 391), (.ref 392), (.int (686) 0), (.int (137) 0), (.str "/claim/cut.py" 687)], #[]⟩) ::
  (nat_lit 394, ⟨(.type "function"), none, .func (PySem.W.fnOf "reads" "CallRow.reads" (defArgs (inClass (top 16) 2)) (defBody (inClass (top 16) 2)) (defScope (inClass (top 16) 2)) .none .none .none (.str "hushrow.rows" 273) none (.ref 393) .none), #[]⟩) ::
  (nat_lit 395, ⟨(.type "tuple"), none, .seq #[(.str "name" 689), (.str "things" 690)] 0, #[]⟩) ::
  (nat_lit 396, ⟨(.type "dict"), none, .dict #[E P "__module__" 660 (.str "hushrow.rows" 273), E P "__firstlineno__" 664 (.int (127) 663), E P "__init__" 674 (.ref 380), E P "shown" 681 (.ref 387), E P "reads" 688 (.ref 394), E P "__static_attributes__" 691 (.ref 395), E P "__doc__" 692 .none] 2, #[]⟩) ::
  (nat_lit 397, ⟨(.type "type"), none, .cls { name := "CallRow", bases := [(.ref 105)], mro := [(.ref 397), (.ref 105), (.type "object")], ns := 396, qualname := "CallRow", hasDict := true, slotNames := [], subclasses := [], abstract := false, collection := none, hasDel := false }, #[(some (.ref 367)), none, (some (.str "CallRow" 653)), (some (.str "CallRow" 661)), (some (.builtin "object.__new__")), (some (.bool true))]⟩) ::
  (nat_lit 400, ⟨(.type "tuple"), none, .seq #[(.ref 105)] 0, #[]⟩) ::
  (nat_lit 407, ⟨(.type "tuple"), none, .seq #[] 0, #[]⟩) ::
  (nat_lit 409, ⟨(.type "tuple"), none, .seq #[(.str "self" 710)] 0, #[]⟩) ::
  (nat_lit 410, ⟨(.type "tuple"), none, .seq #[] 0, #[]⟩) ::
  (nat_lit 412, ⟨(.type "code"), none, .fields #[(.str "shown" 707), (.str "LastRow.shown" 708), (.str "/claim/cut.py" 709), (.int (141) 0), (.int (1) 0), (.int (0) 0), (.int (0) 0), (.int (3) 0), (.ref 407), (.bool true), (.int (181) 0), (.ref 408), .none, (.ref 409), (.ref 410), (.ref 411), (.int (711) 0), (.int (141) 0), (.str "/claim/cut.py" 712)], #[]⟩) ::
  (nat_lit 413, ⟨(.type "function"), none, .func (PySem.W.fnOf "shown" "LastRow.shown" (defArgs (inClass (top 17) 0)) (defBody (inClass (top 17) 0)) (defScope (inClass (top 17) 0)) .none .none .none (.str "hushrow.rows" 273) none (.ref 412) .none), #[]⟩) ::
  (nat_lit 414, ⟨(.type "tuple"), none, .seq #[] 0, #[]⟩) ::
  (nat_lit 415, ⟨(.type "dict"), none, .dict #[E P "__module__" 702 (.str "hushrow.rows" 273), E P "__firstlineno__" 706 (.int (139) 705), E P "shown" 713 (.ref 413), E P "__static_attributes__" 714 (.ref 414), E P "__doc__" 715 .none] 2, #[]⟩) ::
  (nat_lit 416, ⟨(.type "type"), none, .cls { name := "LastRow", bases := [(.ref 105)], mro := [(.ref 416), (.ref 105), (.type "object")], ns := 415, qualname := "LastRow", hasDict := true, slotNames := [], subclasses := [], abstract := false, collection := none, hasDel := false }, #[(some (.ref 400)), none, (some (.str "LastRow" 695)), (some (.str "LastRow" 703)), (some (.builtin "object.__new__")), (some (.bool true))]⟩) ::
  (nat_lit 419, ⟨(.type "tuple"), none, .seq #[(.ref 105)] 0, #[]⟩) ::
  (nat_lit 426, ⟨(.type "tuple"), none, .seq #[] 0, #[]⟩) ::
  (nat_lit 428, ⟨(.type "tuple"), none, .seq #[(.str "self" 733), (.str "number" 734), (.str "value" 735), (.str "first" 736), (.str "other" 737), (.str "left" 738), (.str "right" 739)] 0, #[]⟩) ::
  (nat_lit 429, ⟨(.type "tuple"), none, .seq #[] 0, #[]⟩) ::
  (nat_lit 431, ⟨(.type "code"), none, .fields #[(.str "__init__" 730), (.str "IfRow.__init__" 731), (.str "/claim/cut.py" 732), (.int (145) 0), (.int (7) 0), (.int (0) 0), (.int (0) 0), (.int (3) 0), (.ref 426), (.bool true), (.int (181) 0), (.ref 427), .none, (.ref 428), (.ref 429), (.ref 430), (.int (740) 0), (.int (145) 0), (.str "/claim/cut.py" 741)], #[]⟩) ::
  (nat_lit 432, ⟨(.type "function"), none, .func (PySem.W.fnOf "__init__" "IfRow.__init__" (defArgs (inClass (top 18) 0)) (defBody (inClass (top 18) 0)) (defScope (inClass (top 18) 0)) .none .none .none (.str "hushrow.rows" 273) none (.ref 431) .none), #[]⟩) ::
  (nat_lit 433, ⟨(.type "tuple"), none, .seq #[] 0, #[]⟩) ::
  (nat_lit 435, ⟨(.type "tuple"), none, .seq #[(.str "self" 746)] 0, #[]⟩) ::
  (nat_lit 436, ⟨(.type "tuple"), none, .seq #[] 0, #[]⟩) ::
  (nat_lit 438, ⟨(.type "code"), none, .fields #[(.str "shown" 743), (.str "IfRow.shown" 744), (.str "/claim/cut.py" 745), (.int (153) 0), (.int (1) 0), (.int (0) 0), (.int (0) 0), (.int (3) 0), (.ref 433), (.bool true), (.int (181) 0), (.ref 434), .none, (.ref 435), (.ref 436), (.ref 437), (.int (747) 0), (.int (153) 0), (.str "/claim/cut.py" 748)], #[]⟩) ::
  (nat_lit 439, ⟨(.type "function"), none, .func (PySem.W.fnOf "shown" "IfRow.shown" (defArgs (inClass (top 18) 1)) (defBody (inClass (top 18) 1)) (defScope (inClass (top 18) 1)) .none .none .none (.str "hushrow.rows" 273) none (.ref 438) .none), #[]⟩) ::
  (nat_lit 440, ⟨(.type "tuple"), none, .seq #[] 0, #[]⟩) ::
  (nat_lit 442, ⟨(.type "tuple"), none, .seq #[(.str "self" 753)] 0, #[]⟩) ::
  (nat_lit 443, ⟨(.type "tuple"), none, .seq #[] 0, #[]⟩) ::
  (nat_lit 445, ⟨(.type "code"), none, .fields #[(.str "reads" 750), (.str "IfRow.reads" 751), (.str "/claim/cut.py" 752), (.int (156) 0), (.int (1) 0), (.int (0) 0), (.int (0) 0), (.int (3) 0), (.ref 440), (.bool true), (.int (181) 0), (.ref 441), .none, (.ref 442), (.ref 443), (.ref 444), (.int (754) 0), (.int (156) 0), (.str "/claim/cut.py" 755)], #[]⟩) ::
  (nat_lit 446, ⟨(.type "function"), none, .func (PySem.W.fnOf "reads" "IfRow.reads" (defArgs (inClass (top 18) 2)) (defBody (inClass (top 18) 2)) (defScope (inClass (top 18) 2)) .none .none .none (.str "hushrow.rows" 273) none (.ref 445) .none), #[]⟩) ::
  (nat_lit 447, ⟨(.type "tuple"), none, .seq #[(.str "first" 757), (.str "left" 758), (.str "other" 759), (.str "right" 760), (.str "value" 761)] 0, #[]⟩) ::
  (nat_lit 448, ⟨(.type "dict"), none, .dict #[E P "__module__" 725 (.str "hushrow.rows" 273), E P "__firstlineno__" 729 (.int (143) 728), E P "__init__" 742 (.ref 432), E P "shown" 749 (.ref 439), E P "reads" 756 (.ref 446), E P "__static_attributes__" 762 (.ref 447), E P "__doc__" 763 .none] 2, #[]⟩) ::
  (nat_lit 449, ⟨(.type "type"), none, .cls { name := "IfRow", bases := [(.ref 105)], mro := [(.ref 449), (.ref 105), (.type "object")], ns := 448, qualname := "IfRow", hasDict := true, slotNames := [], subclasses := [], abstract := false, collection := none, hasDel := false }, #[(some (.ref 419)), none, (some (.str "IfRow" 718)), (some (.str "IfRow" 726)), (some (.builtin "object.__new__")), (some (.bool true))]⟩) ::
  (nat_lit 452, ⟨(.type "tuple"), none, .seq #[(.ref 105)] 0, #[]⟩) ::
  (nat_lit 459, ⟨(.type "tuple"), none, .seq #[] 0, #[]⟩) ::
  (nat_lit 461, ⟨(.type "tuple"), none, .seq #[(.str "self" 781), (.str "number" 782), (.str "thing" 783), (.str "most" 784), (.str "body" 785), (.str "left" 786), (.str "right" 787)] 0, #[]⟩) ::
  (nat_lit 462, ⟨(.type "tuple"), none, .seq #[] 0, #[]⟩) ::
  (nat_lit 464, ⟨(.type "code"), none, .fields #[(.str "__init__" 778), (.str "LoopRow.__init__" 779), (.str "/claim/cut.py" 780), (.int (160) 0), (.int (7) 0), (.int (0) 0), (.int (0) 0), (.int (3) 0), (.ref 459), (.bool true), (.int (181) 0), (.ref 460), .none, (.ref 461), (.ref 462), (.ref 463), (.int (788) 0), (.int (160) 0), (.str "/claim/cut.py" 789)], #[]⟩) ::
  (nat_lit 465, ⟨(.type "function"), none, .func (PySem.W.fnOf "__init__" "LoopRow.__init__" (defArgs (inClass (top 19) 0)) (defBody (inClass (top 19) 0)) (defScope (inClass (top 19) 0)) .none .none .none (.str "hushrow.rows" 273) none (.ref 464) .none), #[]⟩) ::
  (nat_lit 466, ⟨(.type "tuple"), none, .seq #[] 0, #[]⟩) ::
  (nat_lit 468, ⟨(.type "tuple"), none, .seq #[(.str "self" 794)] 0, #[]⟩) ::
  (nat_lit 469, ⟨(.type "tuple"), none, .seq #[] 0, #[]⟩) ::
  (nat_lit 471, ⟨(.type "code"), none, .fields #[(.str "shown" 791), (.str "LoopRow.shown" 792), (.str "/claim/cut.py" 793), (.int (168) 0), (.int (1) 0), (.int (0) 0), (.int (0) 0), (.int (3) 0), (.ref 466), (.bool true), (.int (181) 0), (.ref 467), .none, (.ref 468), (.ref 469), (.ref 470), (.int (795) 0), (.int (168) 0), (.str "/claim/cut.py" 796)], #[]⟩) ::
  (nat_lit 472, ⟨(.type "function"), none, .func (PySem.W.fnOf "shown" "LoopRow.shown" (defArgs (inClass (top 19) 1)) (defBody (inClass (top 19) 1)) (defScope (inClass (top 19) 1)) .none .none .none (.str "hushrow.rows" 273) none (.ref 471) .none), #[]⟩) ::
  (nat_lit 473, ⟨(.type "tuple"), none, .seq #[] 0, #[]⟩) ::
  (nat_lit 475, ⟨(.type "tuple"), none, .seq #[(.str "self" 801)] 0, #[]⟩) ::
  (nat_lit 476, ⟨(.type "tuple"), none, .seq #[] 0, #[]⟩) ::
  (nat_lit 478, ⟨(.type "code"), none, .fields #[(.str "reads" 798), (.str "LoopRow.reads" 799), (.str "/claim/cut.py" 800), (.int (171) 0), (.int (1) 0), (.int (0) 0), (.int (0) 0), (.int (3) 0), (.ref 473), (.bool true), (.int (181) 0), (.ref 474), .none, (.ref 475), (.ref 476), (.ref 477), (.int (802) 0), (.int (171) 0), (.str "/claim/cut.py" 803)], #[]⟩) ::
  (nat_lit 479, ⟨(.type "function"), none, .func (PySem.W.fnOf "reads" "LoopRow.reads" (defArgs (inClass (top 19) 2)) (defBody (inClass (top 19) 2)) (defScope (inClass (top 19) 2)) .none .none .none (.str "hushrow.rows" 273) none (.ref 478) .none), #[]⟩) ::
  (nat_lit 480, ⟨(.type "tuple"), none, .seq #[(.str "body" 805), (.str "left" 806), (.str "most" 807), (.str "right" 808), (.str "thing" 809)] 0, #[]⟩) ::
  (nat_lit 481, ⟨(.type "dict"), none, .dict #[E P "__module__" 773 (.str "hushrow.rows" 273), E P "__firstlineno__" 777 (.int (158) 776), E P "__init__" 790 (.ref 465), E P "shown" 797 (.ref 472), E P "reads" 804 (.ref 479), E P "__static_attributes__" 810 (.ref 480), E P "__doc__" 811 .none] 2, #[]⟩) ::
  (nat_lit 482, ⟨(.type "type"), none, .cls { name := "LoopRow", bases := [(.ref 105)], mro := [(.ref 482), (.ref 105), (.type "object")], ns := 481, qualname := "LoopRow", hasDict := true, slotNames := [], subclasses := [], abstract := false, collection := none, hasDel := false }, #[(some (.ref 452)), none, (some (.str "LoopRow" 766)), (some (.str "LoopRow" 774)), (some (.builtin "object.__new__")), (some (.bool true))]⟩) ::
  (nat_lit 492, ⟨(.type "tuple"), none, .seq #[] 0, #[]⟩) ::
  (nat_lit 494, ⟨(.type "tuple"), none, .seq #[(.str "self" 829), (.str "heads" 830), (.str "deeds" 831), (.str "main" 832)] 0, #[]⟩) ::
  (nat_lit 495, ⟨(.type "tuple"), none, .seq #[] 0, #[]⟩) ::
  (nat_lit 497, ⟨(.type "code"), none, .fields #[(.str "__init__" 826), (.str "Program.__init__" 827), (.str "/claim/cut.py" 828), (.int (175) 0), (.int (4) 0), (.int (0) 0), (.int (0) 0), (.int (3) 0), (.ref 492), (.bool true), (.int (181) 0), (.ref 493), .none, (.ref 494), (.ref 495), (.ref 496), (.int (833) 0), (.int (175) 0), (.str "/claim/cut.py" 834)], #[]⟩) ::
  (nat_lit 498, ⟨(.type "function"), none, .func (PySem.W.fnOf "__init__" "Program.__init__" (defArgs (inClass (top 20) 0)) (defBody (inClass (top 20) 0)) (defScope (inClass (top 20) 0)) .none .none .none (.str "hushrow.rows" 273) none (.ref 497) .none), #[]⟩) ::
  (nat_lit 499, ⟨(.type "tuple"), none, .seq #[(.str "deeds" 836), (.str "heads" 837), (.str "main" 838)] 0, #[]⟩) ::
  (nat_lit 500, ⟨(.type "dict"), none, .dict #[E P "__module__" 821 (.str "hushrow.rows" 273), E P "__firstlineno__" 825 (.int (173) 824), E P "__init__" 835 (.ref 498), E P "__static_attributes__" 839 (.ref 499), E P "__dict__" 841 (.ref 502), E P "__weakref__" 843 (.ref 503), E P "__doc__" 844 .none] 4, #[]⟩) ::
  (nat_lit 501, ⟨(.type "type"), none, .cls { name := "Program", bases := [(.type "object")], mro := [(.ref 501), (.type "object")], ns := 500, qualname := "Program", hasDict := true, slotNames := [], subclasses := [], abstract := false, collection := none, hasDel := false }, #[none, none, (some (.str "Program" 814)), (some (.str "Program" 822)), (some (.builtin "object.__new__")), (some (.bool true))]⟩) ::
  (nat_lit 502, ⟨(.type "getset_descriptor"), none, .fields #[(.str "__dict__" 840), (.ref 501), (.builtin "function.__dict__"), (.builtin "function.__dict__#set")], #[]⟩) ::
  (nat_lit 503, ⟨(.type "getset_descriptor"), none, .fields #[(.str "__weakref__" 842), (.ref 501), (.builtin "ExceptionGroup.__weakref__"), .none], #[]⟩) ::
  (nat_lit 506, ⟨(.type "tuple"), none, .seq #[] 0, #[]⟩) ::
  (nat_lit 508, ⟨(.type "tuple"), none, .seq #[(.str "thing" 854)] 0, #[]⟩) ::
  (nat_lit 509, ⟨(.type "tuple"), none, .seq #[] 0, #[]⟩) ::
  (nat_lit 511, ⟨(.type "code"), none, .fields #[(.str "is_number" 851), (.str "is_number" 852), (.str "/claim/cut.py" 853), (.int (181) 0), (.int (1) 0), (.int (0) 0), (.int (0) 0), (.int (3) 0), (.ref 506), (.bool true), (.int (181) 0), (.ref 507), .none, (.ref 508), (.ref 509), (.ref 510), (.int (855) 0), (.int (181) 0), (.str "/claim/cut.py" 856)], #[]⟩) ::
  (nat_lit 512, ⟨(.type "function"), none, .func (PySem.W.fnOf "is_number" "is_number" (defArgs (top 23)) (defBody (top 23)) (defScope (top 23)) .none .none .none (.str "hushrow.gifts" 847) none (.ref 511) .none), #[]⟩) ::
  (nat_lit 513, ⟨(.type "tuple"), none, .seq #[] 0, #[]⟩) ::
  (nat_lit 516, ⟨(.type "code"), none, .fields #[(.str "is_good" 858), (.str "is_good" 859), (.str "/claim/cut.py" 860), (.int (185) 0), (.int (2) 0), (.int (0) 0), (.int (0) 0), (.int (3) 0), (.ref 513), (.bool true), (.int (181) 0), (.ref 514), .none, .none, .none, (.ref 515), (.int (861) 0), (.int (185) 0), (.str "/claim/cut.py" 862)], #[]⟩) ::
  (nat_lit 517, ⟨(.type "function"), none, .func (PySem.W.fnOf "is_good" "is_good" (defArgs (top 24)) (defBody (top 24)) (defScope (top 24)) .none .none .none (.str "hushrow.gifts" 847) none (.ref 516) .none), #[]⟩) ::
  (nat_lit 518, ⟨(.type "tuple"), none, .seq #[] 0, #[]⟩) ::
  (nat_lit 520, ⟨(.type "tuple"), none, .seq #[(.str "given" 867), (.str "gifts" 868), (.str "gift" 869)] 0, #[]⟩) ::
  (nat_lit 521, ⟨(.type "tuple"), none, .seq #[] 0, #[]⟩) ::
  (nat_lit 523, ⟨(.type "code"), none, .fields #[(.str "given_cell" 864), (.str "given_cell" 865), (.str "/claim/cut.py" 866), (.int (189) 0), (.int (2) 0), (.int (0) 0), (.int (0) 0), (.int (3) 0), (.ref 518), (.bool true), (.int (181) 0), (.ref 519), .none, (.ref 520), (.ref 521), (.ref 522), (.int (870) 0), (.int (189) 0), (.str "/claim/cut.py" 871)], #[]⟩) ::
  (nat_lit 524, ⟨(.type "function"), none, .func (PySem.W.fnOf "given_cell" "given_cell" (defArgs (top 25)) (defBody (top 25)) (defScope (top 25)) .none .none .none (.str "hushrow.gifts" 847) none (.ref 523) .none), #[]⟩) ::
  (nat_lit 525, ⟨(.type "tuple"), none, .seq #[] 0, #[]⟩) ::
  (nat_lit 527, ⟨(.type "tuple"), none, .seq #[(.str "own" 876)] 0, #[]⟩) ::
  (nat_lit 528, ⟨(.type "tuple"), none, .seq #[] 0, #[]⟩) ::
  (nat_lit 530, ⟨(.type "code"), none, .fields #[(.str "own_cell" 873), (.str "own_cell" 874), (.str "/claim/cut.py" 875), (.int (194) 0), (.int (1) 0), (.int (0) 0), (.int (0) 0), (.int (3) 0), (.ref 525), (.bool true), (.int (181) 0), (.ref 526), .none, (.ref 527), (.ref 528), (.ref 529), (.int (877) 0), (.int (194) 0), (.str "/claim/cut.py" 878)], #[]⟩) ::
  (nat_lit 531, ⟨(.type "function"), none, .func (PySem.W.fnOf "own_cell" "own_cell" (defArgs (top 26)) (defBody (top 26)) (defScope (top 26)) .none .none .none (.str "hushrow.gifts" 847) none (.ref 530) .none), #[]⟩) ::
  (nat_lit 532, ⟨(.type "tuple"), none, .seq #[] 0, #[]⟩) ::
  (nat_lit 534, ⟨(.type "tuple"), none, .seq #[(.str "program" 883), (.str "gifts" 884), (.str "cells" 885), (.str "head" 886), (.str "deed" 887), (.str "part" 888)] 0, #[]⟩) ::
  (nat_lit 535, ⟨(.type "tuple"), none, .seq #[] 0, #[]⟩) ::
  (nat_lit 537, ⟨(.type "code"), none, .fields #[(.str "cells_of" 880), (.str "cells_of" 881), (.str "/claim/cut.py" 882), (.int (196) 0), (.int (2) 0), (.int (0) 0), (.int (0) 0), (.int (3) 0), (.ref 532), (.bool true), (.int (181) 0), (.ref 533), .none, (.ref 534), (.ref 535), (.ref 536), (.int (889) 0), (.int (196) 0), (.str "/claim/cut.py" 890)], #[]⟩) ::
  (nat_lit 538, ⟨(.type "function"), none, .func (PySem.W.fnOf "cells_of" "cells_of" (defArgs (top 27)) (defBody (top 27)) (defScope (top 27)) .none .none .none (.str "hushrow.gifts" 847) none (.ref 537) .none), #[]⟩) ::
  (nat_lit 539, ⟨(.type "tuple"), none, .seq #[] 0, #[]⟩) ::
  (nat_lit 541, ⟨(.type "tuple"), none, .seq #[(.str "one" 899), (.str "word" 900), (.str "other" 901)] 0, #[]⟩) ::
  (nat_lit 542, ⟨(.type "tuple"), none, .seq #[] 0, #[]⟩) ::
  (nat_lit 544, ⟨(.type "code"), none, .fields #[(.str "reckon" 896), (.str "reckon" 897), (.str "/claim/cut.py" 898), (.int (209) 0), (.int (3) 0), (.int (0) 0), (.int (0) 0), (.int (3) 0), (.ref 539), (.bool true), (.int (181) 0), (.ref 540), .none, (.ref 541), (.ref 542), (.ref 543), (.int (902) 0), (.int (209) 0), (.str "/claim/cut.py" 903)], #[]⟩) ::
  (nat_lit 545, ⟨(.type "function"), none, .func (PySem.W.fnOf "reckon" "reckon" (defArgs (top 30)) (defBody (top 30)) (defScope (top 30)) .none .none .none (.str "hushrow.sums" 892) none (.ref 544) .none), #[]⟩) ::
  (nat_lit 546, ⟨(.type "tuple"), none, .seq #[] 0, #[]⟩) ::
  (nat_lit 548, ⟨(.type "tuple"), none, .seq #[(.str "place" 908), (.str "size" 909)] 0, #[]⟩) ::
  (nat_lit 549, ⟨(.type "tuple"), none, .seq #[] 0, #[]⟩) ::
  (nat_lit 551, ⟨(.type "code"), none, .fields #[(.str "round_place" 905), (.str "round_place" 906), (.str "/claim/cut.py" 907), (.int (223) 0), (.int (2) 0), (.int (0) 0), (.int (0) 0), (.int (3) 0), (.ref 546), (.bool true), (.int (181) 0), (.ref 547), .none, (.ref 548), (.ref 549), (.ref 550), (.int (910) 0), (.int (223) 0), (.str "/claim/cut.py" 911)], #[]⟩) ::
  (nat_lit 552, ⟨(.type "function"), none, .func (PySem.W.fnOf "round_place" "round_place" (defArgs (top 31)) (defBody (top 31)) (defScope (top 31)) .none .none .none (.str "hushrow.sums" 892) none (.ref 551) .none), #[]⟩) ::
  (nat_lit 560, ⟨(.type "tuple"), none, .seq #[] 0, #[]⟩) ::
  (nat_lit 562, ⟨(.type "tuple"), none, .seq #[(.str "self" 930), (.str "program" 931), (.str "cells" 932), (.str "deed" 933)] 0, #[]⟩) ::
  (nat_lit 563, ⟨(.type "tuple"), none, .seq #[] 0, #[]⟩) ::
  (nat_lit 565, ⟨(.type "code"), none, .fields #[(.str "__init__" 927), (.str "Run.__init__" 928), (.str "/claim/cut.py" 929), (.int (228) 0), (.int (3) 0), (.int (0) 0), (.int (0) 0), (.int (3) 0), (.ref 560), (.bool true), (.int (181) 0), (.ref 561), .none, (.ref 562), (.ref 563), (.ref 564), (.int (934) 0), (.int (228) 0), (.str "/claim/cut.py" 935)], #[]⟩) ::
  (nat_lit 566, ⟨(.type "function"), none, .func (PySem.W.fnOf "__init__" "Run.__init__" (defArgs (inClass (top 33) 0)) (defBody (inClass (top 33) 0)) (defScope (inClass (top 33) 0)) .none .none .none (.str "hushrow.runner" 913) none (.ref 565) .none), #[]⟩) ::
  (nat_lit 567, ⟨(.type "tuple"), none, .seq #[] 0, #[]⟩) ::
  (nat_lit 569, ⟨(.type "tuple"), none, .seq #[(.str "self" 940), (.str "thing" 941)] 0, #[]⟩) ::
  (nat_lit 570, ⟨(.type "tuple"), none, .seq #[] 0, #[]⟩) ::
  (nat_lit 572, ⟨(.type "code"), none, .fields #[(.str "number_at" 937), (.str "Run.number_at" 938), (.str "/claim/cut.py" 939), (.int (235) 0), (.int (2) 0), (.int (0) 0), (.int (0) 0), (.int (3) 0), (.ref 567), (.bool true), (.int (181) 0), (.ref 568), .none, (.ref 569), (.ref 570), (.ref 571), (.int (942) 0), (.int (235) 0), (.str "/claim/cut.py" 943)], #[]⟩) ::
  (nat_lit 573, ⟨(.type "function"), none, .func (PySem.W.fnOf "number_at" "Run.number_at" (defArgs (inClass (top 33) 1)) (defBody (inClass (top 33) 1)) (defScope (inClass (top 33) 1)) .none .none .none (.str "hushrow.runner" 913) none (.ref 572) .none), #[]⟩) ::
  (nat_lit 574, ⟨(.type "tuple"), none, .seq #[] 0, #[]⟩) ::
  (nat_lit 576, ⟨(.type "tuple"), none, .seq #[(.str "self" 948), (.str "value" 949), (.str "behind" 950), (.str "numbers" 951)] 0, #[]⟩) ::
  (nat_lit 577, ⟨(.type "tuple"), none, .seq #[] 0, #[]⟩) ::
  (nat_lit 579, ⟨(.type "code"), none, .fields #[(.str "number_for" 945), (.str "Run.number_for" 946), (.str "/claim/cut.py" 947), (.int (238) 0), (.int (2) 0), (.int (0) 0), (.int (0) 0), (.int (3) 0), (.ref 574), (.bool true), (.int (181) 0), (.ref 575), .none, (.ref 576), (.ref 577), (.ref 578), (.int (952) 0), (.int (238) 0), (.str "/claim/cut.py" 953)], #[]⟩) ::
  (nat_lit 580, ⟨(.type "function"), none, .func (PySem.W.fnOf "number_for" "Run.number_for" (defArgs (inClass (top 33) 2)) (defBody (inClass (top 33) 2)) (defScope (inClass (top 33) 2)) .none .none .none (.str "hushrow.runner" 913) none (.ref 579) .none), #[]⟩) ::
  (nat_lit 581, ⟨(.type "tuple"), none, .seq #[] 0, #[]⟩) ::
  (nat_lit 583, ⟨(.type "tuple"), none, .seq #[(.str "self" 958), (.str "row" 959)] 0, #[]⟩) ::
  (nat_lit 584, ⟨(.type "tuple"), none, .seq #[] 0, #[]⟩) ::
  (nat_lit 586, ⟨(.type "code"), none, .fields #[(.str "number_told" 955), (.str "Run.number_told" 956), (.str "/claim/cut.py" 957), (.int (247) 0), (.int (2) 0), (.int (0) 0), (.int (0) 0), (.int (3) 0), (.ref 581), (.bool true), (.int (181) 0), (.ref 582), .none, (.ref 583), (.ref 584), (.ref 585), (.int (960) 0), (.int (247) 0), (.str "/claim/cut.py" 961)], #[]⟩) ::
  (nat_lit 587, ⟨(.type "function"), none, .func (PySem.W.fnOf "number_told" "Run.number_told" (defArgs (inClass (top 33) 3)) (defBody (inClass (top 33) 3)) (defScope (inClass (top 33) 3)) .none .none .none (.str "hushrow.runner" 913) none (.ref 586) .none), #[]⟩) ::
  (nat_lit 588, ⟨(.type "tuple"), none, .seq #[] 0, #[]⟩) ::
  (nat_lit 590, ⟨(.type "tuple"), none, .seq #[(.str "self" 966), (.str "count" 967), (.str "book" 968)] 0, #[]⟩) ::
  (nat_lit 591, ⟨(.type "tuple"), none, .seq #[] 0, #[]⟩) ::
  (nat_lit 593, ⟨(.type "code"), none, .fields #[(.str "pass_steps" 963), (.str "Run.pass_steps" 964), (.str "/claim/cut.py" 965), (.int (252) 0), (.int (2) 0), (.int (0) 0), (.int (0) 0), (.int (3) 0), (.ref 588), (.bool true), (.int (181) 0), (.ref 589), .none, (.ref 590), (.ref 591), (.ref 592), (.int (969) 0), (.int (252) 0), (.str "/claim/cut.py" 970)], #[]⟩) ::
  (nat_lit 594, ⟨(.type "function"), none, .func (PySem.W.fnOf "pass_steps" "Run.pass_steps" (defArgs (inClass (top 33) 4)) (defBody (inClass (top 33) 4)) (defScope (inClass (top 33) 4)) .none .none .none (.str "hushrow.runner" 913) none (.ref 593) .none), #[]⟩) ::
  (nat_lit 595, ⟨(.type "tuple"), none, .seq #[] 0, #[]⟩) ::
  (nat_lit 597, ⟨(.type "tuple"), none, .seq #[(.str "self" 975), (.str "rows" 976), (.str "ending" 977), (.str "row" 978)] 0, #[]⟩) ::
  (nat_lit 598, ⟨(.type "tuple"), none, .seq #[] 0, #[]⟩) ::
  (nat_lit 600, ⟨(.type "code"), none, .fields #[(.str "do_rows" 972), (.str "Run.do_rows" 973), (.str "/claim/cut.py" 974), (.int (256) 0), (.int (2) 0), (.int (0) 0), (.int (0) 0), (.int (3) 0), (.ref 595), (.bool true), (.int (181) 0), (.ref 596), .none, (.ref 597), (.ref 598), (.ref 599), (.int (979) 0), (.int (256) 0), (.str "/claim/cut.py" 980)], #[]⟩) ::
  (nat_lit 601, ⟨(.type "function"), none, .func (PySem.W.fnOf "do_rows" "Run.do_rows" (defArgs (inClass (top 33) 5)) (defBody (inClass (top 33) 5)) (defScope (inClass (top 33) 5)) .none .none .none (.str "hushrow.runner" 913) none (.ref 600) .none), #[]⟩) ::
  (nat_lit 602, ⟨(.type "tuple"), none, .seq #[] 0, #[]⟩) ::
  (nat_lit 604, ⟨(.type "tuple"), none, .seq #[(.str "self" 985), (.str "row" 986), (.str "book" 987), (.str "told" 988)] 0, #[]⟩) ::
  (nat_lit 605, ⟨(.type "tuple"), none, .seq #[] 0, #[]⟩) ::
  (nat_lit 607, ⟨(.type "code"), none, .fields #[(.str "do_row" 982), (.str "Run.do_row" 983), (.str "/claim/cut.py" 984), (.int (263) 0), (.int (2) 0), (.int (0) 0), (.int (0) 0), (.int (3) 0), (.ref 602), (.bool true), (.int (181) 0), (.ref 603), .none, (.ref 604), (.ref 605), (.ref 606), (.int (989) 0), (.int (263) 0), (.str "/claim/cut.py" 990)], #[]⟩) ::
  (nat_lit 608, ⟨(.type "function"), none, .func (PySem.W.fnOf "do_row" "Run.do_row" (defArgs (inClass (top 33) 6)) (defBody (inClass (top 33) 6)) (defScope (inClass (top 33) 6)) .none .none .none (.str "hushrow.runner" 913) none (.ref 607) .none), #[]⟩) ::
  (nat_lit 609, ⟨(.type "tuple"), none, .seq #[] 0, #[]⟩) ::
  (nat_lit 611, ⟨(.type "tuple"), none, .seq #[(.str "self" 995), (.str "row" 996), (.str "numbers" 997)] 0, #[]⟩) ::
  (nat_lit 612, ⟨(.type "tuple"), none, .seq #[] 0, #[]⟩) ::
  (nat_lit 614, ⟨(.type "code"), none, .fields #[(.str "do_put" 992), (.str "Run.do_put" 993), (.str "/claim/cut.py" 994), (.int (285) 0), (.int (2) 0), (.int (0) 0), (.int (0) 0), (.int (3) 0), (.ref 609), (.bool true), (.int (181) 0), (.ref 610), .none, (.ref 611), (.ref 612), (.ref 613), (.int (998) 0), (.int (285) 0), (.str "/claim/cut.py" 999)], #[]⟩) ::
  (nat_lit 615, ⟨(.type "function"), none, .func (PySem.W.fnOf "do_put" "Run.do_put" (defArgs (inClass (top 33) 7)) (defBody (inClass (top 33) 7)) (defScope (inClass (top 33) 7)) .none .none .none (.str "hushrow.runner" 913) none (.ref 614) .none), #[]⟩) ::
  (nat_lit 616, ⟨(.type "tuple"), none, .seq #[] 0, #[]⟩) ::
  (nat_lit 619, ⟨(.type "code"), none, .fields #[(.str "do_call" 1001), (.str "Run.do_call" 1002), (.str "/claim/cut.py" 1003), (.int (289) 0), (.int (2) 0), (.int (0) 0), (.int (0) 0), (.int (3) 0), (.ref 616), (.bool true), (.int (181) 0), (.ref 617), .none, .none, .none, (.ref 618), (.int (1004) 0), (.int (289) 0), (.str "/claim/cut.py" 1005)], #[]⟩) ::
  (nat_lit 620, ⟨(.type "function"), none, .func (PySem.W.fnOf "do_call" "Run.do_call" (defArgs (inClass (top 33) 8)) (defBody (inClass (top 33) 8)) (defScope (inClass (top 33) 8)) .none .none .none (.str "hushrow.runner" 913) none (.ref 619) .none), #[]⟩) ::
  (nat_lit 621, ⟨(.type "tuple"), none, .seq #[] 0, #[]⟩) ::
  (nat_lit 623, ⟨(.type "tuple"), none, .seq #[(.str "self" 1010), (.str "row" 1011), (.str "ending" 1012)] 0, #[]⟩) ::
  (nat_lit 624, ⟨(.type "tuple"), none, .seq #[] 0, #[]⟩) ::
  (nat_lit 626, ⟨(.type "code"), none, .fields #[(.str "do_if" 1007), (.str "Run.do_if" 1008), (.str "/claim/cut.py" 1009), (.int (296) 0), (.int (2) 0), (.int (0) 0), (.int (0) 0), (.int (3) 0), (.ref 621), (.bool true), (.int (181) 0), (.ref 622), .none, (.ref 623), (.ref 624), (.ref 625), (.int (1013) 0), (.int (296) 0), (.str "/claim/cut.py" 1014)], #[]⟩) ::
  (nat_lit 627, ⟨(.type "function"), none, .func (PySem.W.fnOf "do_if" "Run.do_if" (defArgs (inClass (top 33) 9)) (defBody (inClass (top 33) 9)) (defScope (inClass (top 33) 9)) .none .none .none (.str "hushrow.runner" 913) none (.ref 626) .none), #[]⟩) ::
  (nat_lit 628, ⟨(.type "tuple"), none, .seq #[] 0, #[]⟩) ::
  (nat_lit 630, ⟨(.type "tuple"), none, .seq #[(.str "self" 1019), (.str "row" 1020), (.str "wanted" 1021), (.str "done" 1022), (.str "ending" 1023)] 0, #[]⟩) ::
  (nat_lit 631, ⟨(.type "tuple"), none, .seq #[] 0, #[]⟩) ::
  (nat_lit 633, ⟨(.type "code"), none, .fields #[(.str "do_loop" 1016), (.str "Run.do_loop" 1017), (.str "/claim/cut.py" 1018), (.int (305) 0), (.int (2) 0), (.int (0) 0), (.int (0) 0), (.int (3) 0), (.ref 628), (.bool true), (.int (181) 0), (.ref 629), .none, (.ref 630), (.ref 631), (.ref 632), (.int (1024) 0), (.int (305) 0), (.str "/claim/cut.py" 1025)], #[]⟩) ::
  (nat_lit 634, ⟨(.type "function"), none, .func (PySem.W.fnOf "do_loop" "Run.do_loop" (defArgs (inClass (top 33) 10)) (defBody (inClass (top 33) 10)) (defScope (inClass (top 33) 10)) .none .none .none (.str "hushrow.runner" 913) none (.ref 633) .none), #[]⟩) ::
  (nat_lit 635, ⟨(.type "tuple"), none, .seq #[(.str "book" 1027), (.str "cells" 1028), (.str "deeds" 1029)] 0, #[]⟩) ::
  (nat_lit 636, ⟨(.type "dict"), none, .dict #[E P "__module__" 922 (.str "hushrow.runner" 913), E P "__firstlineno__" 926 (.int (226) 925), E P "__init__" 936 (.ref 566), E P "number_at" 944 (.ref 573), E P "number_for" 954 (.ref 580), E P "number_told" 962 (.ref 587), E P "pass_steps" 971 (.ref 594), E P "do_rows" 981 (.ref 601), E P "do_row" 991 (.ref 608), E P "do_put" 1000 (.ref 615), E P "do_call" 1006 (.ref 620), E P "do_if" 1015 (.ref 627), E P "do_loop" 1026 (.ref 634), E P "__static_attributes__" 1030 (.ref 635), E P "__dict__" 1032 (.ref 638), E P "__weakref__" 1034 (.ref 639), E P "__doc__" 1035 .none] 4, #[]⟩) ::
  (nat_lit 637, ⟨(.type "type"), none, .cls { name := "Run", bases := [(.type "object")], mro := [(.ref 637), (.type "object")], ns := 636, qualname := "Run", hasDict := true, slotNames := [], subclasses := [], abstract := false, collection := none, hasDel := false }, #[none, none, (some (.str "Run" 915)), (some (.str "Run" 923)), (some (.builtin "object.__new__")), (some (.bool true))]⟩) ::
  (nat_lit 638, ⟨(.type "getset_descriptor"), none, .fields #[(.str "__dict__" 1031), (.ref 637), (.builtin "function.__dict__"), (.builtin "function.__dict__#set")], #[]⟩) ::
  (nat_lit 639, ⟨(.type "getset_descriptor"), none, .fields #[(.str "__weakref__" 1033), (.ref 637), (.builtin "ExceptionGroup.__weakref__"), .none], #[]⟩) ::
  (nat_lit 642, ⟨(.type "tuple"), none, .seq #[] 0, #[]⟩) ::
  (nat_lit 645, ⟨(.type "code"), none, .fields #[(.str "ends_of" 1038), (.str "ends_of" 1039), (.str "/claim/cut.py" 1040), (.int (315) 0), (.int (2) 0), (.int (0) 0), (.int (0) 0), (.int (3) 0), (.ref 642), (.bool true), (.int (181) 0), (.ref 643), .none, .none, .none, (.ref 644), (.int (1041) 0), (.int (315) 0), (.str "/claim/cut.py" 1042)], #[]⟩) ::
  (nat_lit 646, ⟨(.type "function"), none, .func (PySem.W.fnOf "ends_of" "ends_of" (defArgs (top 34)) (defBody (top 34)) (defScope (top 34)) .none .none .none (.str "hushrow.runner" 913) none (.ref 645) .none), #[]⟩) ::
  (nat_lit 647, ⟨(.type "tuple"), none, .seq #[] 0, #[]⟩) ::
  (nat_lit 649, ⟨(.type "tuple"), none, .seq #[(.str "program" 1047), (.str "gifts" 1048), (.str "state" 1049), (.str "book" 1050)] 0, #[]⟩) ::
  (nat_lit 650, ⟨(.type "tuple"), none, .seq #[] 0, #[]⟩) ::
  (nat_lit 652, ⟨(.type "code"), none, .fields #[(.str "run" 1044), (.str "run" 1045), (.str "/claim/cut.py" 1046), (.int (317) 0), (.int (2) 0), (.int (0) 0), (.int (0) 0), (.int (3) 0), (.ref 647), (.bool true), (.int (181) 0), (.ref 648), .none, (.ref 649), (.ref 650), (.ref 651), (.int (1051) 0), (.int (317) 0), (.str "/claim/cut.py" 1052)], #[]⟩) ::
  (nat_lit 653, ⟨(.type "function"), none, .func (PySem.W.fnOf "run" "run" (defArgs (top 35)) (defBody (top 35)) (defScope (top 35)) .none .none .none (.str "hushrow.runner" 913) none (.ref 652) .none), #[]⟩) ::
  (nat_lit 654, ⟨(.type "tuple"), none, .seq #[] 0, #[]⟩) ::
  (nat_lit 656, ⟨(.type "tuple"), none, .seq #[(.str "_law_script" 1059), (.str "_law_k" 1060)] 0, #[]⟩) ::
  (nat_lit 657, ⟨(.type "tuple"), none, .seq #[] 0, #[]⟩) ::
  (nat_lit 659, ⟨(.type "code"), none, .fields #[(.str "_law_cell_at" 1056), (.str "_law_cell_at" 1057), (.str "/claim/cut.py" 1058), (.int (324) 0), (.int (2) 0), (.int (0) 0), (.int (0) 0), (.int (3) 0), (.ref 654), (.bool true), (.int (181) 0), (.ref 655), .none, (.ref 656), (.ref 657), (.ref 658), (.int (1061) 0), (.int (324) 0), (.str "/claim/cut.py" 1062)], #[]⟩) ::
  (nat_lit 660, ⟨(.type "function"), none, .func (PySem.W.fnOf "_law_cell_at" "_law_cell_at" (defArgs (top 37)) (defBody (top 37)) (defScope (top 37)) .none .none .none (.str "law_hushrow_k22_one_row" 1054) none (.ref 659) .none), #[]⟩) ::
  (nat_lit 661, ⟨(.type "tuple"), none, .seq #[] 0, #[]⟩) ::
  (nat_lit 663, ⟨(.type "tuple"), none, .seq #[(.str "_law_cell" 1067), (.str "_law_k" 1068), (.str "_law_letters" 1069), (.str "_law_way" 1070), (.str "_law_words" 1071), (.str "_law_size" 1072), (.str "_law_at" 1073), (.str "_law_stem" 1074)] 0, #[]⟩) ::
  (nat_lit 664, ⟨(.type "tuple"), none, .seq #[] 0, #[]⟩) ::
  (nat_lit 666, ⟨(.type "code"), none, .fields #[(.str "_law_name" 1064), (.str "_law_name" 1065), (.str "/claim/cut.py" 1066), (.int (328) 0), (.int (2) 0), (.int (0) 0), (.int (0) 0), (.int (3) 0), (.ref 661), (.bool true), (.int (181) 0), (.ref 662), .none, (.ref 663), (.ref 664), (.ref 665), (.int (1075) 0), (.int (328) 0), (.str "/claim/cut.py" 1076)], #[]⟩) ::
  (nat_lit 667, ⟨(.type "function"), none, .func (PySem.W.fnOf "_law_name" "_law_name" (defArgs (top 38)) (defBody (top 38)) (defScope (top 38)) .none .none .none (.str "law_hushrow_k22_one_row" 1054) none (.ref 666) .none), #[]⟩) ::
  (nat_lit 668, ⟨(.type "tuple"), none, .seq #[] 0, #[]⟩) ::
  (nat_lit 670, ⟨(.type "tuple"), none, .seq #[(.str "_law_cell" 1081)] 0, #[]⟩) ::
  (nat_lit 671, ⟨(.type "tuple"), none, .seq #[] 0, #[]⟩) ::
  (nat_lit 673, ⟨(.type "code"), none, .fields #[(.str "_law_number" 1078), (.str "_law_number" 1079), (.str "/claim/cut.py" 1080), (.int (341) 0), (.int (1) 0), (.int (0) 0), (.int (0) 0), (.int (3) 0), (.ref 668), (.bool true), (.int (181) 0), (.ref 669), .none, (.ref 670), (.ref 671), (.ref 672), (.int (1082) 0), (.int (341) 0), (.str "/claim/cut.py" 1083)], #[]⟩) ::
  (nat_lit 674, ⟨(.type "function"), none, .func (PySem.W.fnOf "_law_number" "_law_number" (defArgs (top 39)) (defBody (top 39)) (defScope (top 39)) .none .none .none (.str "law_hushrow_k22_one_row" 1054) none (.ref 673) .none), #[]⟩) ::
  (nat_lit 675, ⟨(.type "tuple"), none, .seq #[] 0, #[]⟩) ::
  (nat_lit 677, ⟨(.type "tuple"), none, .seq #[(.str "_law_cell" 1088), (.str "_law_names" 1089)] 0, #[]⟩) ::
  (nat_lit 678, ⟨(.type "tuple"), none, .seq #[] 0, #[]⟩) ::
  (nat_lit 680, ⟨(.type "code"), none, .fields #[(.str "_law_thing" 1085), (.str "_law_thing" 1086), (.str "/claim/cut.py" 1087), (.int (347) 0), (.int (2) 0), (.int (0) 0), (.int (0) 0), (.int (3) 0), (.ref 675), (.bool true), (.int (181) 0), (.ref 676), .none, (.ref 677), (.ref 678), (.ref 679), (.int (1090) 0), (.int (347) 0), (.str "/claim/cut.py" 1091)], #[]⟩) ::
  (nat_lit 681, ⟨(.type "function"), none, .func (PySem.W.fnOf "_law_thing" "_law_thing" (defArgs (top 40)) (defBody (top 40)) (defScope (top 40)) .none .none .none (.str "law_hushrow_k22_one_row" 1054) none (.ref 680) .none), #[]⟩) ::
  (nat_lit 682, ⟨(.type "tuple"), none, .seq #[] 0, #[]⟩) ::
  (nat_lit 684, ⟨(.type "tuple"), none, .seq #[(.str "_law_script" 1096), (.str "_law_names" 1097), (.str "_law_cell" 1098), (.str "_law_one" 1099), (.str "_law_other" 1100)] 0, #[]⟩) ::
  (nat_lit 685, ⟨(.type "tuple"), none, .seq #[] 0, #[]⟩) ::
  (nat_lit 687, ⟨(.type "code"), none, .fields #[(.str "_law_value" 1093), (.str "_law_value" 1094), (.str "/claim/cut.py" 1095), (.int (351) 0), (.int (2) 0), (.int (0) 0), (.int (0) 0), (.int (3) 0), (.ref 682), (.bool true), (.int (181) 0), (.ref 683), .none, (.ref 684), (.ref 685), (.ref 686), (.int (1101) 0), (.int (351) 0), (.str "/claim/cut.py" 1102)], #[]⟩) ::
  (nat_lit 688, ⟨(.type "function"), none, .func (PySem.W.fnOf "_law_value" "_law_value" (defArgs (top 41)) (defBody (top 41)) (defScope (top 41)) .none .none .none (.str "law_hushrow_k22_one_row" 1054) none (.ref 687) .none), #[]⟩) ::
  (nat_lit 689, ⟨(.type "tuple"), none, .seq #[] 0, #[]⟩) ::
  (nat_lit 691, ⟨(.type "tuple"), none, .seq #[(.str "_law_script" 1107), (.str "_law_names" 1108), (.str "_law_ones" 1109), (.str "_law_others" 1110), (.str "_law_turn" 1111), (.str "_law_heads_here" 1112), (.str "_law_k" 1113), (.str "_law_j" 1114)] 0, #[]⟩) ::
  (nat_lit 692, ⟨(.type "tuple"), none, .seq #[] 0, #[]⟩) ::
  (nat_lit 694, ⟨(.type "code"), none, .fields #[(.str "_law_heads" 1104), (.str "_law_heads" 1105), (.str "/claim/cut.py" 1106), (.int (360) 0), (.int (2) 0), (.int (0) 0), (.int (0) 0), (.int (3) 0), (.ref 689), (.bool true), (.int (181) 0), (.ref 690), .none, (.ref 691), (.ref 692), (.ref 693), (.int (1115) 0), (.int (360) 0), (.str "/claim/cut.py" 1116)], #[]⟩) ::
  (nat_lit 695, ⟨(.type "function"), none, .func (PySem.W.fnOf "_law_heads" "_law_heads" (defArgs (top 42)) (defBody (top 42)) (defScope (top 42)) .none .none .none (.str "law_hushrow_k22_one_row" 1054) none (.ref 694) .none), #[]⟩) ::
  (nat_lit 696, ⟨(.type "tuple"), none, .seq #[] 0, #[]⟩) ::
  (nat_lit 698, ⟨(.type "tuple"), none, .seq #[(.str "_law_script" 1121), (.str "_law_names" 1122), (.str "_law_some" 1123), (.str "_law_k" 1124)] 0, #[]⟩) ::
  (nat_lit 699, ⟨(.type "tuple"), none, .seq #[] 0, #[]⟩) ::
  (nat_lit 701, ⟨(.type "code"), none, .fields #[(.str "_law_gifts" 1118), (.str "_law_gifts" 1119), (.str "/claim/cut.py" 1120), (.int (380) 0), (.int (2) 0), (.int (0) 0), (.int (0) 0), (.int (3) 0), (.ref 696), (.bool true), (.int (181) 0), (.ref 697), .none, (.ref 698), (.ref 699), (.ref 700), (.int (1125) 0), (.int (380) 0), (.str "/claim/cut.py" 1126)], #[]⟩) ::
  (nat_lit 702, ⟨(.type "function"), none, .func (PySem.W.fnOf "_law_gifts" "_law_gifts" (defArgs (top 43)) (defBody (top 43)) (defScope (top 43)) .none .none .none (.str "law_hushrow_k22_one_row" 1054) none (.ref 701) .none), #[]⟩) ::
  (nat_lit 703, ⟨(.type "tuple"), none, .seq #[] 0, #[]⟩) ::
  (nat_lit 705, ⟨(.type "tuple"), none, .seq #[(.str "_law_cells" 1131), (.str "_law_thing_here" 1132)] 0, #[]⟩) ::
  (nat_lit 706, ⟨(.type "tuple"), none, .seq #[] 0, #[]⟩) ::
  (nat_lit 708, ⟨(.type "code"), none, .fields #[(.str "_law_taken" 1128), (.str "_law_taken" 1129), (.str "/claim/cut.py" 1130), (.int (385) 0), (.int (2) 0), (.int (0) 0), (.int (0) 0), (.int (3) 0), (.ref 703), (.bool true), (.int (181) 0), (.ref 704), .none, (.ref 705), (.ref 706), (.ref 707), (.int (1133) 0), (.int (385) 0), (.str "/claim/cut.py" 1134)], #[]⟩) ::
  (nat_lit 709, ⟨(.type "function"), none, .func (PySem.W.fnOf "_law_taken" "_law_taken" (defArgs (top 44)) (defBody (top 44)) (defScope (top 44)) .none .none .none (.str "law_hushrow_k22_one_row" 1054) none (.ref 708) .none), #[]⟩) ::
  (nat_lit 710, ⟨(.type "tuple"), none, .seq #[] 0, #[]⟩) ::
  (nat_lit 712, ⟨(.type "tuple"), none, .seq #[(.str "_law_cells" 1139), (.str "_law_value_here" 1140), (.str "_law_some" 1141), (.str "_law_one" 1142), (.str "_law_other" 1143)] 0, #[]⟩) ::
  (nat_lit 713, ⟨(.type "tuple"), none, .seq #[] 0, #[]⟩) ::
  (nat_lit 715, ⟨(.type "code"), none, .fields #[(.str "_law_reckoned" 1136), (.str "_law_reckoned" 1137), (.str "/claim/cut.py" 1138), (.int (389) 0), (.int (2) 0), (.int (0) 0), (.int (0) 0), (.int (3) 0), (.ref 710), (.bool true), (.int (181) 0), (.ref 711), .none, (.ref 712), (.ref 713), (.ref 714), (.int (1144) 0), (.int (389) 0), (.str "/claim/cut.py" 1145)], #[]⟩) ::
  (nat_lit 716, ⟨(.type "function"), none, .func (PySem.W.fnOf "_law_reckoned" "_law_reckoned" (defArgs (top 45)) (defBody (top 45)) (defScope (top 45)) .none .none .none (.str "law_hushrow_k22_one_row" 1054) none (.ref 715) .none), #[]⟩) ::
  (nat_lit 717, ⟨(.type "tuple"), none, .seq #[] 0, #[]⟩) ::
  (nat_lit 719, ⟨(.type "tuple"), none, .seq #[(.str "_law_found" 1150), (.str "_law_due_here" 1151), (.str "_law_k" 1152)] 0, #[]⟩) ::
  (nat_lit 720, ⟨(.type "tuple"), none, .seq #[] 0, #[]⟩) ::
  (nat_lit 722, ⟨(.type "code"), none, .fields #[(.str "_law_same" 1147), (.str "_law_same" 1148), (.str "/claim/cut.py" 1149), (.int (404) 0), (.int (2) 0), (.int (0) 0), (.int (0) 0), (.int (3) 0), (.ref 717), (.bool true), (.int (181) 0), (.ref 718), .none, (.ref 719), (.ref 720), (.ref 721), (.int (1153) 0), (.int (404) 0), (.str "/claim/cut.py" 1154)], #[]⟩) ::
  (nat_lit 723, ⟨(.type "function"), none, .func (PySem.W.fnOf "_law_same" "_law_same" (defArgs (top 46)) (defBody (top 46)) (defScope (top 46)) .none .none .none (.str "law_hushrow_k22_one_row" 1054) none (.ref 722) .none), #[]⟩) ::
  (nat_lit 724, ⟨(.type "tuple"), none, .seq #[] 0, #[]⟩) ::
  (nat_lit 726, ⟨(.type "tuple"), none, .seq #[(.str "_law_found" 1159), (.str "_law_due_here" 1160), (.str "_law_name_here" 1161)] 0, #[]⟩) ::
  (nat_lit 727, ⟨(.type "tuple"), none, .seq #[] 0, #[]⟩) ::
  (nat_lit 729, ⟨(.type "code"), none, .fields #[(.str "_law_book" 1156), (.str "_law_book" 1157), (.str "/claim/cut.py" 1158), (.int (419) 0), (.int (2) 0), (.int (0) 0), (.int (0) 0), (.int (3) 0), (.ref 724), (.bool true), (.int (181) 0), (.ref 725), .none, (.ref 726), (.ref 727), (.ref 728), (.int (1162) 0), (.int (419) 0), (.str "/claim/cut.py" 1163)], #[]⟩) ::
  (nat_lit 730, ⟨(.type "function"), none, .func (PySem.W.fnOf "_law_book" "_law_book" (defArgs (top 47)) (defBody (top 47)) (defScope (top 47)) .none .none .none (.str "law_hushrow_k22_one_row" 1054) none (.ref 729) .none), #[]⟩) ::
  (nat_lit 731, ⟨(.type "tuple"), none, .seq #[] 0, #[]⟩) ::
  (nat_lit 733, ⟨(.type "tuple"), none, .seq #[(.str "_law_kind" 1168), (.str "_law_cells" 1169), (.str "_law_names" 1170), (.str "_law_at" 1171), (.str "_law_place" 1172), (.str "_law_value_here" 1173), (.str "_law_told" 1174), (.str "_law_ends" 1175)] 0, #[]⟩) ::
  (nat_lit 734, ⟨(.type "tuple"), none, .seq #[] 0, #[]⟩) ::
  (nat_lit 736, ⟨(.type "code"), none, .fields #[(.str "_law_due" 1165), (.str "_law_due" 1166), (.str "/claim/cut.py" 1167), (.int (426) 0), (.int (6) 0), (.int (0) 0), (.int (0) 0), (.int (3) 0), (.ref 731), (.bool true), (.int (181) 0), (.ref 732), .none, (.ref 733), (.ref 734), (.ref 735), (.int (1176) 0), (.int (426) 0), (.str "/claim/cut.py" 1177)], #[]⟩) ::
  (nat_lit 737, ⟨(.type "function"), none, .func (PySem.W.fnOf "_law_due" "_law_due" (defArgs (top 48)) (defBody (top 48)) (defScope (top 48)) .none .none .none (.str "law_hushrow_k22_one_row" 1054) none (.ref 736) .none), #[]⟩) ::
  (nat_lit 738, ⟨(.type "tuple"), none, .seq #[] 0, #[]⟩) ::
  (nat_lit 740, ⟨(.type "tuple"), none, .seq #[(.str "_law_one" 1182), (.str "_law_other" 1183), (.str "_law_lists" 1184), (.str "_law_found" 1185)] 0, #[]⟩) ::
  (nat_lit 741, ⟨(.type "tuple"), none, .seq #[] 0, #[]⟩) ::
  (nat_lit 743, ⟨(.type "code"), none, .fields #[(.str "_law_empty" 1179), (.str "_law_empty" 1180), (.str "/claim/cut.py" 1181), (.int (439) 0), (.int (0) 0), (.int (0) 0), (.int (0) 0), (.int (3) 0), (.ref 738), (.bool true), (.int (181) 0), (.ref 739), .none, (.ref 740), (.ref 741), (.ref 742), (.int (1186) 0), (.int (439) 0), (.str "/claim/cut.py" 1187)], #[]⟩) ::
  (nat_lit 744, ⟨(.type "function"), none, .func (PySem.W.fnOf "_law_empty" "_law_empty" (defArgs (top 49)) (defBody (top 49)) (defScope (top 49)) .none .none .none (.str "law_hushrow_k22_one_row" 1054) none (.ref 743) .none), #[]⟩) ::
  (nat_lit 745, ⟨(.type "tuple"), none, .seq #[] 0, #[]⟩) ::
  (nat_lit 748, ⟨(.type "code"), none, .fields #[(.str "law" 1189), (.str "law" 1190), (.str "/claim/cut.py" 1191), (.int (451) 0), (.int (1) 0), (.int (0) 0), (.int (0) 0), (.int (3) 0), (.ref 745), (.bool true), (.int (181) 0), (.ref 746), .none, .none, .none, (.ref 747), (.int (1192) 0), (.int (451) 0), (.str "/claim/cut.py" 1193)], #[]⟩) ::
  (nat_lit 749, ⟨(.type "function"), none, .func (PySem.W.fnOf "law" "law" (defArgs (top 50)) (defBody (top 50)) (defScope (top 50)) .none .none .none (.str "law_hushrow_k22_one_row" 1054) none (.ref 748) .none), #[]⟩) :: []
def keysK : List Addr := [2, 3, 15, 17, 18, 20, 21, 29, 31, 32, 34, 35, 36, 37, 38, 39, 40, 43, 50, 51, 52, 53, 56, 63, 65, 66, 68, 69, 70, 71, 72, 82, 84, 85, 87, 88, 89, 91, 92, 94, 95, 96, 98, 99, 101, 102, 103, 104, 105, 106, 107, 110, 117, 119, 120, 122, 123, 124, 126, 127, 129, 130, 131, 132, 133, 136, 143, 145, 146, 148, 149, 150, 152, 153, 155, 156, 157, 158, 159, 162, 169, 171, 172, 174, 175, 176, 178, 179, 181, 182, 183, 184, 185, 188, 195, 197, 198, 200, 201, 202, 204, 205, 207, 208, 209, 210, 211, 214, 221, 223, 224, 226, 227, 228, 230, 231, 233, 234, 235, 237, 238, 240, 241, 242, 244, 245, 247, 248, 249, 250, 251, 254, 261, 263, 264, 266, 267, 268, 270, 271, 273, 274, 275, 277, 278, 280, 281, 282, 284, 285, 287, 288, 289, 290, 291, 294, 301, 303, 304, 306, 307, 308, 310, 311, 313, 314, 315, 317, 318, 320, 321, 322, 323, 324, 327, 334, 336, 337, 339, 340, 341, 343, 344, 346, 347, 348, 350, 351, 353, 354, 355, 357, 358, 360, 361, 362, 363, 364, 367, 374, 376, 377, 379, 380, 381, 383, 384, 386, 387, 388, 390, 391, 393, 394, 395, 396, 397, 400, 407, 409, 410, 412, 413, 414, 415, 416, 419, 426, 428, 429, 431, 432, 433, 435, 436, 438, 439, 440, 442, 443, 445, 446, 447, 448, 449, 452, 459, 461, 462, 464, 465, 466, 468, 469, 471, 472, 473, 475, 476, 478, 479, 480, 481, 482, 492, 494, 495, 497, 498, 499, 500, 501, 502, 503, 506, 508, 509, 511, 512, 513, 516, 517, 518, 520, 521, 523, 524, 525, 527, 528, 530, 531, 532, 534, 535, 537, 538, 539, 541, 542, 544, 545, 546, 548, 549, 551, 552, 560, 562, 563, 565, 566, 567, 569, 570, 572, 573, 574, 576, 577, 579, 580, 581, 583, 584, 586, 587, 588, 590, 591, 593, 594, 595, 597, 598, 600, 601, 602, 604, 605, 607, 608, 609, 611, 612, 614, 615, 616, 619, 620, 621, 623, 624, 626, 627, 628, 630, 631, 633, 634, 635, 636, 637, 638, 639, 642, 645, 646, 647, 649, 650, 652, 653, 654, 656, 657, 659, 660, 661, 663, 664, 666, 667, 668, 670, 671, 673, 674, 675, 677, 678, 680, 681, 682, 684, 685, 687, 688, 689, 691, 692, 694, 695, 696, 698, 699, 701, 702, 703, 705, 706, 708, 709, 710, 712, 713, 715, 716, 717, 719, 720, 722, 723, 724, 726, 727, 729, 730, 731, 733, 734, 736, 737, 738, 740, 741, 743, 744, 745, 748, 749]
theorem keysK_eq (P : Params) : keysK = (heapK P).map (·.1) := by kernel_rfl
abbrev prog : Program := PySem.Challenge.pw_hushrow_k22_one_row
abbrev law : PySem.W.OpenLaw := PySem.Challenge.rw_hushrow_k22_one_row
def seenAt : Program := { prog with main := { prog.main with body := [top 0, top 2, top 4, top 5, top 7, top 8, top 9, top 10, top 11, top 12, top 13, top 14, top 15, top 16, top 17, top 18, top 19, top 20, top 22, top 23, top 24, top 25, top 26, top 27, top 29, top 30, top 31, top 33, top 34, top 35, top 37, top 38, top 39, top 40, top 41, top 42, top 43, top 44, top 45, top 46, top 47, top 48, top 49, top 50] } }
abbrev hook : PySem.W.Hook := PySem.W.kHook heapK keysK keysK_eq
abbrev test : Shared → Bool := fun s => xlAt seenAt [] s && recOk (RowW.records law.row.toRowW) s
abbrev seenK : Shared → List (Option Obj) := fun s => keysK.map s.heap.get?
abbrev dueK : World → List (Option Obj) := fun w => (heapK w.params).map fun p => some p.2
noncomputable def T₀ (P : Params) : BT := Hd.treeOf (boot_heap P).objs.toList 0 .nil
noncomputable def lookL (w : World) (os : OsState) := (Hd.runT treeTable prog w 11 (some (.ref 6)) 12492 ⟨T₀ w.params, 11, {}, Array.mk [], boot_drawn, boot_toks, os⟩ (topStub prog)).map fun s => Hd.looks prog seenAt [] test seenK true (boot_heap w.params) s.abs
noncomputable def lookR (w : World) (os : OsState) := some (true, openGood seenAt [], dueK w)
theorem lookL_self : lookL = lookL := rfl
theorem lookR_self : lookR = lookR := rfl
end K22
lay_quick K22.lookL K22.lookR
name_quick K22lookL for K22.lookL by K22.lookL_self
name_quick K22lookR for K22.lookR by K22.lookR_self
namespace K22
open PySem L2 PySem.W
theorem looks_quick : PySem.W.Fast.K22lookL = PySem.W.Fast.K22lookR := by kernel_rfl
theorem looks_same : lookL = lookR := PySem.W.Fast.K22lookL_eq.trans (looks_quick.trans PySem.W.Fast.K22lookR_eq.symm)
theorem tree_is (P : Params) : absHeap (T₀ P) 11 {} = boot_heap P := by kernel_rfl
theorem size_is (w : World) : ((boot_heap w.params).isNs mainGlobals && (Array.mk [] : Array GenState).size == 0, (boot_heap w.params).objs.size, (boot_heap w.params).nsMap mainGlobals "__annotations__") = (true, 11, some (.ref 6)) := by kernel_rfl
theorem left : LeftO prog seenAt [] test hook.obs hook.val 12492 := Hd.left_of (boot_open (p := prog) (N := 12492) (by kernel_rfl) rfl (fun _ => rfl)) size_is tree_is fun w os => congrFun (congrFun looks_same w) os
end K22

set_option Elab.async false
set_option linter.all false
set_option maxRecDepth 100000
namespace L2
open PySem PySem.Spec PyProof.Rows
abbrev Key := Sum Int Str
def keyIs : Key → Value → Bool
  | .inl k, v => Value.isInt k v
  | .inr x, v => Value.isStrOf x v
def keyH (w : World) : Key → Int
  | .inl k => hashInt k
  | .inr x => hashStr w x
theorem keyIs_shape : ∀ {k : Key} {v : Value}, keyIs k v = true → (∃ i t, k = Sum.inl i ∧ v = Value.int i t) ∨ (∃ x t, k = Sum.inr x ∧ v = Value.str x t)
  | .inl i, v, h => by
    obtain ⟨t, e⟩ := Value.isInt_shape (k := i) (v := v) h
    exact .inl ⟨i, t, rfl, e⟩
  | .inr x, v, h => by
    obtain ⟨t, e⟩ := Value.isStrOf_shape (x := x) (v := v) h
    exact .inr ⟨x, t, rfl, e⟩
theorem keyIs_int (i : Int) (t : Tok) : keyIs (.inl i) (.int i t) = true := by simp [keyIs, Value.isInt]
theorem keyIs_str (x : Str) (t : Tok) : keyIs (.inr x) (.str x t) = true := by simp [keyIs, Value.isStrOf]
theorem key_ll (a b : Int) : decide ((Sum.inl a : Key) = Sum.inl b) = (a == b) := by
  by_cases e : a = b
  · subst e; simp
  · have h : ¬ (Sum.inl a : Key) = Sum.inl b := fun q => e (Sum.inl.inj q)
    rw [decide_eq_false h]
    exact (beq_eq_false_iff_ne.mpr e).symm
theorem key_rr (a b : Str) : decide ((Sum.inr a : Key) = Sum.inr b) = decide (a = b) := by
  by_cases e : a = b
  · subst e; simp
  · have h : ¬ (Sum.inr a : Key) = Sum.inr b := fun q => e (Sum.inr.inj q)
    rw [decide_eq_false h, decide_eq_false e]
theorem key_lr (a : Int) (b : Str) : decide ((Sum.inl a : Key) = Sum.inr b) = false := decide_eq_false (fun q => nomatch q)
theorem key_rl (a : Str) (b : Int) : decide ((Sum.inr a : Key) = Sum.inl b) = false := decide_eq_false (fun q => nomatch q)
def mixKind (prog : Program) (w : World) : PySem.KeyKind prog w Key where
  is := keyIs
  hash := keyH w
  inj := fun v a b ha hb => by
    rcases keyIs_shape ha with ⟨i, t, rfl, rfl⟩ | ⟨x, t, rfl, rfl⟩
    · rcases keyIs_shape hb with ⟨j, u, rfl, e⟩ | ⟨y, u, rfl, e⟩
      · injection e with e1 _; rw [e1]
      · exact nomatch e
    · rcases keyIs_shape hb with ⟨j, u, rfl, e⟩ | ⟨y, u, rfl, e⟩
      · exact nomatch e
      · injection e with e1 _; rw [e1]
  byValue := fun k v h => by
    rcases keyIs_shape h with ⟨i, t, rfl, rfl⟩ | ⟨x, t, rfl, rfl⟩ <;> rfl
  pyHash := fun hv h => by
    rcases keyIs_shape hv with ⟨i, t, rfl, rfl⟩ | ⟨x, t, rfl, rfl⟩
    · exact wpAny_pyHash_int h
    · exact wpAny_pyHash_str h
  eqBool := fun hu hv h => by
    rcases keyIs_shape hu with ⟨i, t, rfl, rfl⟩ | ⟨x, t, rfl, rfl⟩
    · rcases keyIs_shape hv with ⟨j, u, rfl, rfl⟩ | ⟨y, u, rfl, rfl⟩
      · rw [key_ll] at h; exact wpAny_eqBool_int h
      · rw [key_lr] at h; exact SeqAt.EqAt.int_str i t y u _ _ _ _ h
    · rcases keyIs_shape hv with ⟨j, u, rfl, rfl⟩ | ⟨y, u, rfl, rfl⟩
      · rw [key_rl] at h; exact SeqAt.EqAt.str_int x t j u _ _ _ _ h
      · rw [key_rr] at h; exact wpAny_eqBool_str h
  «strs» := fun k x t v h => by
    rcases keyIs_shape h with ⟨i, u, rfl, e⟩ | ⟨y, u, rfl, e⟩
    · exact nomatch e
    · injection e with e1 _
      subst e1
      cases v <;> rfl
theorem mixKind_int (prog : Program) (w : World) (i : Int) (t : Tok) : (mixKind prog w).is (.inl i) (.int i t) = true := keyIs_int i t
theorem mixKind_str (prog : Program) (w : World) (x : Str) (t : Tok) : (mixKind prog w).is (.inr x) (.str x t) = true := keyIs_str x t
end L2
namespace L2
open PySem PySem.Spec PyProof.Rows
inductive V where
  | non | bl (b : Bool) | int (i : Int) | str (x : Str) | byt (b : Array UInt8) | flt (b : UInt64) | ref (a : Addr) | ty (n : String)
  deriving DecidableEq
def RelV : V → Value → Prop
  | .non, u => u = Value.none
  | .bl b, u => u = Value.bool b
  | .int i, u => ∃ t, u = Value.int i t
  | .str x, u => ∃ t, u = Value.str x t
  | .byt b, u => ∃ t, u = Value.bytes b t
  | .flt b, u => ∃ t, u = Value.float b t
  | .ref a, u => u = Value.ref a
  | .ty n, u => u = Value.type n
abbrev Vals : List V → List Value → Prop := Paired RelV
theorem Vals.length {xs : List V} {us : List Value} (r : Vals xs us) : xs.length = us.length := Paired.length r
theorem Vals.get : ∀ {xs : List V} {us : List Value} {i : Nat} {x : V}, Vals xs us → xs[i]? = some x → ∃ u, us[i]? = some u ∧ RelV x u
  | _, _, _, _, .nil, e => by simp at e
  | _, _, 0, _, .cons r _, e => by simp at e; subst e; exact ⟨_, rfl, r⟩
  | _, _, i + 1, x, .cons _ t, e => by
    obtain ⟨u, h1, h2⟩ := Vals.get (i := i) (x := x) t (by simpa using e)
    exact ⟨u, by simpa using h1, h2⟩
theorem Vals.set {x : V} {u : Value} (r : RelV x u) : ∀ {xs : List V} {us : List Value} (i : Nat), Vals xs us → Vals (xs.set i x) (us.set i u)
  | _, _, _, .nil => .nil
  | _, _, 0, .cons _ t => .cons r t
  | _, _, i + 1, .cons q t => .cons q (Vals.set r i t)
theorem Vals.append : ∀ {xs ys : List V} {us ws : List Value}, Vals xs us → Vals ys ws → Vals (xs ++ ys) (us ++ ws)
  | _, _, _, _, .nil, s => s
  | _, _, _, _, .cons r t, s => .cons r (Vals.append t s)
theorem Vals.take : ∀ {xs : List V} {us : List Value} (n : Nat), Vals xs us → Vals (xs.take n) (us.take n)
  | _, _, 0, _ => .nil
  | _, _, _ + 1, .nil => .nil
  | _, _, n + 1, .cons r t => .cons r (Vals.take n t)
theorem Vals.drop : ∀ {xs : List V} {us : List Value} (n : Nat), Vals xs us → Vals (xs.drop n) (us.drop n)
  | _, _, 0, r => r
  | _, _, _ + 1, .nil => .nil
  | _, _, n + 1, .cons _ t => Vals.drop n t
def RelO : Option V → Option Value → Prop
  | some v, some u => RelV v u
  | none, none => True
  | _, _ => False
def KV {κ : Type} : List (κ × V) → List (κ × Value) → Prop := Paired fun (p : κ × V) (q : κ × Value) => p.1 = q.1 ∧ RelV p.2 q.2
def kV : Key → V
  | .inl i => .int i
  | .inr x => .str x
inductive HO where
  | lst (xs : List V)
  | tup (xs : List V)
  | dK (kvs : List (Key × V)) | dT (kvs : List (List Key × V))
  | set (S : Int → Bool) (n : Nat)
  | ins (C dx : Addr) (fs : List (Str × V))
  | own (x : Addr)
  | xd (fs : List (Str × V))
  | met (f x : Addr)
  | rng (lo hi : Int)
  | frz (o : Obj) (u : HO)
  | tbl (ps : Array Value)
  | ext (φ : Heap → Prop)
abbrev Hp := Addr → Option HO
def upd (H : Hp) (a : Addr) (o : HO) : Hp := fun b => if b = a then some o else H b
theorem upd_same {H : Hp} {a : Addr} {o : HO} : upd H a o a = some o := by unfold upd; rw [if_pos rfl]
theorem upd_ne {H : Hp} {a b : Addr} {o : HO} (h : b ≠ a) : upd H a o b = H b := by unfold upd; rw [if_neg h]
theorem upd_upd {H : Hp} {a : Addr} {o u : HO} : upd (upd H a o) a u = upd H a u := by
  funext b; unfold upd; split <;> rfl
theorem ne_of {H : Hp} {a b : Addr} {o u : HO} (h : H a = some o) (h' : H b = some u) (d : o ≠ u) : a ≠ b := by
  intro e; subst e; rw [h] at h'; exact d (Option.some.inj h')
theorem ne_of_none {H : Hp} {a b : Addr} {o : HO} (h : H a = some o) (h' : H b = none) : a ≠ b := by
  intro e; subst e; rw [h] at h'; cases h'
section
variable (P : Program) (w : World)
def ObjOk (H : Hp) (h : Heap) (a : Addr) : HO → Prop
  | .lst xs => xs.length ≤ sizeLine ∧ ∃ (its : List Value) (n : Nat), Vals xs its ∧ h.get? a = some { cls := .type "list", data := .seq its.toArray n }
  | .tup xs => xs.length ≤ sizeLine ∧ ∃ its : List Value, Vals xs its ∧ IsTup h a its.toArray
  | .dK kvs => kvs.length ≤ sizeLine ∧ (a == sysModules) = false ∧ ∃ vs, KV kvs vs ∧ h.DictOf (mixKind P w) a vs
  | .dT kvs => kvs.length ≤ sizeLine ∧ (a == sysModules) = false ∧ ∃ xs : List (List Key × Addr × Value),
      Paired (fun (p : List Key × V) (q : List Key × Addr × Value) => p.1 = q.1 ∧ H q.2.1 = some (.tup (p.1.map kV)) ∧ RelV p.2 q.2.2) kvs xs ∧
      ∃ o es ep, h.get? a = some o ∧ o.ExactDict ∧ o.data = .dict es ep ∧ es.toList = xs.map (entryOfKey (tupleKind (mixKind P w))) ∧ (xs.map (·.1)).Nodup
  | .set S n => h.SetOf (intKind P w) a S n
  | .ins C dx fs => H dx = some (.own a) ∧ fs.length ≤ 1000 ∧ dx ≠ a ∧ h.get? a = some (PySem.W.instObj C dx) ∧
      ∃ mA, h.Ns1 dx mA ∧ (∀ f, RelO (fs.lookup f) (mA f)) ∧ PySem.Within mA (fs.map (·.1))
  | .own _ => ∃ o, h.get? a = some o
  | .xd fs => ∃ mA, h.Ns1 a mA ∧ ∀ f, RelO (fs.lookup f) (mA f)
  | .rng lo hi => ∃ t u v, h.get? a = some { cls := .type "range", data := .fields #[.int lo t, .int hi u, .int 1 v] }
  | .frz o u => h.get? a = some o ∧ ObjOk H h a u
  | .tbl ps => h.get? a = some { cls := .none, data := .fields ps }
  | .met f x => h.get? a = some (PySem.W.methodObj (.ref f) (.ref x))
  | .ext φ => φ h ∧ (∃ o, h.get? a = some o) ∧ ∀ h1 h2 : Heap, φ h1 → (∀ o, h1.get? a = some o → h2.get? a = some o) → φ h2
def HOk (H : Hp) (h : Heap) : Prop := ∀ a o, H a = some o → ObjOk P w H h a o
end
section
variable {P : Program} {w : World} {H H' : Hp} {h h' : Heap} {a : Addr} {o : HO}
theorem ObjOk.lt (x : ObjOk P w H h a o) : a < h.objs.size := by
  cases o with
  | lst xs => obtain ⟨_, _, _, _, e⟩ := x; exact Heap.lt_size e
  | tup xs => obtain ⟨_, _, _, p⟩ := x; exact p.lt
  | dK kvs => obtain ⟨_, _, _, _, o, _, _, e, _⟩ := x; exact Heap.lt_size e
  | dT kvs => obtain ⟨_, _, _, _, o, _, _, e, _⟩ := x; exact Heap.lt_size e
  | set S n => obtain ⟨o, _, _, _, e, _⟩ := x; exact Heap.lt_size e
  | ins C dx fs => obtain ⟨_, _, _, e, _⟩ := x; exact Heap.lt_size e
  | own y => obtain ⟨_, e⟩ := x; exact Heap.lt_size e
  | xd fs => obtain ⟨_, ⟨_, _, _, e, _⟩, _⟩ := x; exact Heap.lt_size e
  | rng lo hi => obtain ⟨_, _, _, e⟩ := x; exact Heap.lt_size e
  | frz ob u => obtain ⟨e, _⟩ := x; exact Heap.lt_size e
  | tbl ps => exact Heap.lt_size (show h.get? a = some _ from x)
  | met f y => exact Heap.lt_size (show h.get? a = some _ from x)
  | ext φ => obtain ⟨_, ⟨_, e⟩, _⟩ := x; exact Heap.lt_size e
theorem Paired.mapP {α β : Type} {F G : α → β → Prop} : ∀ {l₁ : List α} {l₂ : List β}, Paired F l₁ l₂ → (∀ a b, F a b → G a b) → Paired G l₁ l₂
  | _, _, .nil, _ => .nil
  | _, _, .cons r t, f => .cons (f _ _ r) (Paired.mapP t f)
theorem ObjOk.stay (x : ObjOk P w H h a o) (k : ∀ b u, (b = a ∨ H b = some (.own a)) → h.get? b = some u → h'.get? b = some u)
    (ho : ∀ b, H b = some (.own a) → H' b = some (.own a)) (ht : ∀ b xs, H b = some (.tup xs) → H' b = some (.tup xs)) : ObjOk P w H' h' a o := by
  induction o with
  | lst xs => obtain ⟨z, its, n, r, e⟩ := x; exact ⟨z, its, n, r, k _ _ (.inl rfl) e⟩
  | tup xs => obtain ⟨z, its, r, ob, e, c⟩ := x; exact ⟨z, its, r, ob, k _ _ (.inl rfl) e, c⟩
  | dK kvs => obtain ⟨z, y, vs, r, ob, es, ep, e, c⟩ := x; exact ⟨z, y, vs, r, ob, es, ep, k _ _ (.inl rfl) e, c⟩
  | dT kvs =>
    obtain ⟨z, y, xs, r, ob, es, ep, e, c⟩ := x
    exact ⟨z, y, xs, Paired.mapP r fun p q z => ⟨z.1, ht _ _ z.2.1, z.2.2⟩, ob, es, ep, k _ _ (.inl rfl) e, c⟩
  | set S n => obtain ⟨ob, es, ep, t, e, c⟩ := x; exact ⟨ob, es, ep, t, k _ _ (.inl rfl) e, c⟩
  | ins C dx fs =>
    obtain ⟨d, z, ne, e, mA, ⟨od, es, ep, e2, c⟩, r⟩ := x
    exact ⟨ho _ d, z, ne, k _ _ (.inl rfl) e, mA, ⟨od, es, ep, k _ _ (.inr d) e2, c⟩, r⟩
  | own y => obtain ⟨ob, e⟩ := x; exact ⟨ob, k _ _ (.inl rfl) e⟩
  | xd fs => obtain ⟨mA, ⟨od, es, ep, e, c⟩, r⟩ := x; exact ⟨mA, ⟨od, es, ep, k _ _ (.inl rfl) e, c⟩, r⟩
  | rng lo hi => obtain ⟨t, u, v, e⟩ := x; exact ⟨t, u, v, k _ _ (.inl rfl) e⟩
  | frz ob u ih => obtain ⟨e, q⟩ := x; exact ⟨k _ _ (.inl rfl) e, ih q⟩
  | tbl ps =>
    have e : h.get? a = some { cls := .none, data := .fields ps } := x
    show h'.get? a = some { cls := .none, data := .fields ps }
    exact k a _ (.inl rfl) e
  | met f y =>
    have e : h.get? a = some (PySem.W.methodObj (.ref f) (.ref y)) := x
    show h'.get? a = some (PySem.W.methodObj (.ref f) (.ref y))
    exact k a _ (.inl rfl) e
  | ext φ => obtain ⟨p, ⟨o, e⟩, st⟩ := x; exact ⟨st _ _ p fun o q => k _ _ (.inl rfl) q, ⟨o, k _ _ (.inl rfl) e⟩, st⟩
theorem HOk.lt (x : HOk P w H h) (e : H a = some o) : a < h.objs.size := (x a o e).lt
theorem HOk.fresh (x : HOk P w H h) (e : h.objs.size ≤ a) : H a = none := by
  cases q : H a with
  | none => rfl
  | some u => exact absurd (Nat.lt_of_lt_of_le (x.lt q) e) (Nat.lt_irrefl _)
theorem HOk.kept (x : HOk P w H h) (k : ∀ b u, h.get? b = some u → h'.get? b = some u) : HOk P w H h' := fun a o e =>
  (x a o e).stay (fun b u _ q => k b u q) (fun _ q => q) fun _ _ q => q
theorem HOk.laid (x : HOk P w H h) (k : ∀ b u, h.get? b = some u → h'.get? b = some u) (hp : h.objs.size ≤ a) (new : ObjOk P w (upd H a o) h' a o) : HOk P w (upd H a o) h' := fun b u e => by
  have hn := x.fresh hp
  by_cases hb : b = a
  · subst hb; rw [upd_same] at e; cases e; exact new
  · rw [upd_ne hb] at e
    exact (x b u e).stay (fun c v _ q => k c v q) (fun c q => by rw [upd_ne (ne_of_none q hn)]; exact q) fun c xs q => by rw [upd_ne (ne_of_none q hn)]; exact q
end
def Rd (H : Hp) (a : Addr) (u : HO) : Prop := H a = some u ∨ ∃ o, H a = some (.frz o u)
theorem Rd.ok {P : Program} {w : World} {H : Hp} {h : Heap} {a : Addr} {u : HO} (r : Rd H a u) (x : HOk P w H h) : ObjOk P w H h a u := by
  rcases r with r | ⟨o, r⟩
  · exact x a u r
  · obtain ⟨_, q⟩ := x a _ r
    exact q
def Mut : Option HO → Prop
  | some (.lst _) => True
  | some (.dK _) => True
  | some (.dT _) => True
  | some (.set _ _) => True
  | some (.ins _ _ _) => True
  | some (.ext _) => True
  | _ => False
section
variable {P : Program} {w : World} {H : Hp} {h h' : Heap} {x e : Addr} {o' : HO}
theorem HOk.write (ok : HOk P w H h) (mu : Mut (H x)) (he : e = x ∨ H e = some (.own x)) (k : ∀ b u, b ≠ e → h.get? b = some u → h'.get? b = some u) (heo : ∃ u, h'.get? e = some u)
    (new : ObjOk P w (upd H x o') h' x o') : HOk P w (upd H x o') h' := fun b u q => by
  have nown : ∀ c y, H c = some (.own y) → c ≠ x := fun c y r z => by subst z; rw [r] at mu; exact mu
  have ntup : ∀ c xs, H c = some (.tup xs) → c ≠ x := fun c xs r z => by subst z; rw [r] at mu; exact mu
  by_cases hb : b = x
  · subst hb; rw [upd_same] at q; cases q; exact new
  · rw [upd_ne hb] at q
    by_cases hbe : b = e
    · have q' : H b = some (.own x) := by
        rcases he with z | z
        · exact absurd (hbe.trans z) hb
        · rw [hbe]; exact z
      rw [q] at q'; cases q'
      obtain ⟨v, hv⟩ := heo
      exact ⟨v, by rw [hbe]; exact hv⟩
    · refine (ok b u q).stay (fun c v hc r => k c v ?_ r) (fun c r => by rw [upd_ne (nown c b r)]; exact r) fun c xs r => by rw [upd_ne (ntup c xs r)]; exact r
      rcases hc with rfl | hc
      · exact hbe
      · rintro rfl
        rcases he with z | z
        · exact nown c b hc z
        · rw [hc] at z; cases z; exact hb rfl
end
structure Un (fs ex : List Addr) (H H' : Hp) (h h' : Heap) : Prop where
  keep : ∀ b o, h.get? b = some o → H b = none → b ∉ fs → b ∉ ex → h'.get? b = some o
  slot : ∀ b o, h.get? b = some o → H b = none → b ∈ fs → b ∉ ex → ∃ sl, h'.get? b = some { o with slots := sl }
  free : ∀ b o, h.get? b = some o → H b = none → b ∉ ex → H' b = none
  there : ∀ b o, h.get? b = some o → b ∉ ex → ∃ o', h'.get? b = some o'
  tups : ∀ b xs, H b = some (.tup xs) → H' b = some (.tup xs)
  frzs : ∀ b o u, H b = some (.frz o u) → H' b = some (.frz o u)
  tbls : ∀ b ps, H b = some (.tbl ps) → ∃ more, H' b = some (.tbl (ps ++ more))
section
variable {fs fs' ex ex' : List Addr} {H H1 H2 : Hp} {h h1 h2 h' : Heap} {a x e : Addr} {o : HO}
theorem Un.any (u : Un fs ex H H1 h h1) {b : Addr} {ob : Obj} (q : h.get? b = some ob) (n : H b = none) (hx : b ∉ ex) : ∃ sl, h1.get? b = some { ob with slots := sl } := by
  by_cases hb : b ∈ fs
  · exact u.slot b ob q n hb hx
  · exact ⟨ob.slots, u.keep b ob q n hb hx⟩
theorem Un.kept (k : ∀ b u, h.get? b = some u → h'.get? b = some u) : Un fs ex H H h h' :=
  ⟨fun b ob q _ _ _ => k b ob q, fun b ob q _ _ _ => ⟨ob.slots, k b ob q⟩, fun _ _ _ n _ => n, fun b ob q _ => ⟨ob, k b ob q⟩, fun _ _ q => q, fun _ _ _ q => q, fun _ ps q => ⟨#[], by rw [q]; simp⟩⟩
theorem Un.refl : Un fs ex H H h h := Un.kept fun _ _ q => q
theorem Un.laid (k : ∀ b u, h.get? b = some u → h'.get? b = some u) (hp : h.objs.size ≤ a) (hn : H a = none) : Un fs ex H (upd H a o) h h' where
  keep := fun b u q _ _ _ => k b u q
  slot := fun b u q _ _ _ => ⟨u.slots, k b u q⟩
  free := fun b u q n _ => by rw [upd_ne (Nat.ne_of_lt (Nat.lt_of_lt_of_le (Heap.lt_size q) hp))]; exact n
  there := fun b u q _ => ⟨u, k b u q⟩
  tups := fun b xs q => by rw [upd_ne (ne_of_none q hn)]; exact q
  frzs := fun b u xs q => by rw [upd_ne (ne_of_none q hn)]; exact q
  tbls := fun b ps q => ⟨#[], by rw [upd_ne (ne_of_none q hn), q]; simp⟩
theorem Un.write (mu : Mut (H x)) (he : e = x ∨ H e = some (.own x)) (k : ∀ b u, b ≠ e → h.get? b = some u → h'.get? b = some u) (heo : ∃ u, h'.get? e = some u) : Un fs ex H (upd H x o) h h' := by
  have hx : ∀ b, H b = none → b ≠ x := fun b n z => by subst z; rw [n] at mu; exact mu
  have hb : ∀ b, H b = none → b ≠ e := fun b n z => by
    subst z
    rcases he with r | r
    · exact hx b n r
    · rw [n] at r; cases r
  have hm : ∀ b u, H b = some u → ¬ Mut (some u) → b ≠ x := fun b u q nm z => by subst z; rw [q] at mu; exact nm mu
  refine ⟨fun b u q n _ _ => k b u (hb b n) q, fun b u q n _ _ => ⟨u.slots, k b u (hb b n) q⟩, fun b u q n _ => by rw [upd_ne (hx b n)]; exact n, fun b u q _ => ?_,
    fun b xs q => by rw [upd_ne (hm b _ q fun z => z)]; exact q, fun b u xs q => by rw [upd_ne (hm b _ q fun z => z)]; exact q, fun b ps q => ⟨#[], by rw [upd_ne (hm b _ q fun z => z), q]; simp⟩⟩
  by_cases hbe : b = e
  · subst hbe; exact heo
  · exact ⟨u, k b u hbe q⟩
end
def trk (h : Heap) (H : Hp) : List Addr := (List.range h.objs.size).filter fun a => (H a).isSome
def hidT (h : Heap) (H : Hp) : Heap := PySem.W.hideAll h (trk h H)
theorem hidT_size (h : Heap) (H : Hp) : (hidT h H).objs.size = h.objs.size := PySem.W.hideAll_size _ _
theorem hidT_get {h : Heap} {H : Hp} {b : Addr} {o : Obj} (e : h.get? b = some o) (n : H b = none) : (hidT h H).get? b = some o :=
  PySem.W.hideAll_get _ e fun hm => by
    have q : (H b).isSome = true := (List.mem_filter.mp hm).2
    rw [n] at q; simp at q
theorem of_hidT {h : Heap} {H : Hp} {b : Addr} {o : Obj} (e : (hidT h H).get? b = some o) : h.get? b = some o ∧ H b = none := by
  have e' : h.get? b = some o := PySem.W.of_hideAll (trk h H) e
  refine ⟨e', ?_⟩
  cases q : H b with
  | none => rfl
  | some x =>
    have hm : b ∈ trk h H := List.mem_filter.mpr ⟨List.mem_range.mpr (Heap.lt_size e'), by simp [q]⟩
    have z : (hidT h H).get? b = none := PySem.W.hideAll_none (trk h H) hm
    rw [z] at e; cases e
def allNews (g h : Heap) (L : Addr) : List (Addr × Obj) := (List.range h.objs.size).filterMap fun a => if a = L ∨ (g.get? a).isSome = true then none else (h.get? a).map fun o => (a, o)
def rest (g h : Heap) (L d : Addr) : List (Addr × Obj) := (allNews g h L).filter fun p => decide (p.1 ≠ d)
end L2
namespace L2
open PySem PySem.Spec PyProof.Rows
structure Mod (K : PySem.W.Frag) (mg : Str → Option Value) (base : Heap) : Prop where
  kin : K.In base
  glob : base.Ns mainGlobals mg
  blt : ∃ mb, base.Ns builtinsNs mb ∧ ∀ x : Str, x ≠ "__name__" → mb x = bootBuiltins x
  nolimit : base.NoLimit
structure Cx where
  prog : Program
  w : World
  K : PySem.W.Frag
  mg : Str → Option Value
  base : Heap
  A : Around
  N : List Str
  s₀ : Shared
  H₀ : Hp
  env : Env
  outer : List Env
  stack : List Env
  ex : List Addr
  fn : Str → Bool
  calm : Bool
  pn : List (Addr × Obj)
  xe : Value → Shared → Prop
def frs (l : List Env) : List Addr := l.filterMap (·.frame)
abbrev Cx.fs (X : Cx) : List Addr := frs X.outer
def Vis (sc : Scope) (x : Str) : Prop := sc.names.lookup x = some .local ∨ sc.names.lookup x = some .cell ∨ sc.names.lookup x = some .free
def Loc (sc : Scope) (x : Str) : Prop := sc.names.lookup x = some .local ∨ sc.names.lookup x = some .cell
def Look (env : Env) (h : Heap) (m : Str → Option Value) (x : Str) (u : Value) : Prop :=
  (env.kindOf x = some .local ∧ m x = some u) ∨ ((env.kindOf x = some .cell ∨ env.kindOf x = some .free) ∧ ∃ c, env.cells.lookup x = some c ∧ h.IsCell c (some u))
structure Cx.Ok (X : Cx) : Prop where
  mod : Mod X.K X.mg X.base
  kind : X.env.scope.kind = .function
  glob : X.env.globals = mainGlobals
  blt : X.env.builtins = builtinsNs
  above : X.s₀.heap.objs.size ≤ X.env.locals
  inj : ∀ x y c, X.env.cells.lookup x = some c → X.env.cells.lookup y = some c → x = y
  has : ∀ x, (X.env.kindOf x = some .cell ∨ X.env.kindOf x = some .free) → ∃ c, X.env.cells.lookup x = some c
  cab : ∀ x c, X.fn x = true → X.env.cells.lookup x = some c → X.s₀.heap.objs.size ≤ c
  hd : X.calm = true → X.A.handled = none
  frames : X.A.frames = some X.stack
  stk : X.stack = X.outer ∨ (X.stack = X.env :: X.outer ∧ X.env.frame = some X.env.locals)
  exf : ∀ b ∈ X.ex, b ≠ X.env.locals ∧ ∀ x c, X.env.cells.lookup x = some c → c ≠ b
  bs : ∀ b o, X.base.get? b = some o → X.s₀.heap.get? b = some o ∧ X.H₀ b = none
  bsz : X.base.objs.size ≤ X.s₀.heap.objs.size
  noex : ∀ b o, X.base.get? b = some o → b ∉ X.ex
  exfs : ∀ b ∈ X.ex, b ∉ X.fs
  funs : X.s₀.heap.FunFrames X.base X.outer
  frf : ∀ b ∈ X.fs, X.H₀ b = none
structure Inv (X : Cx) (pins : List (Addr × Obj)) (σ : List (Option V)) (H : Hp) (s : Shared) : Prop where
  ok : X.Ok
  os : s.os = X.s₀.os
  bare : AllBare s.gens
  base : Un X.fs X.ex X.H₀ H X.s₀.heap s.heap
  loc : ∃ m, s.heap.Ns X.env.locals m ∧ ∀ (i : Nat) (x : Str) (v : V), X.N[i]? = some x → σ[i]? = some (some v) → Vis X.env.scope x → ∃ u, RelV v u ∧ Look X.env s.heap m x u
  cell : ∀ x c, X.env.cells.lookup x = some c → ∃ v, s.heap.IsCell c v
  free : H X.env.locals = none
  freeC : ∀ x c, X.env.cells.lookup x = some c → H c = none
  pin : ∀ p ∈ X.pn ++ pins, s.heap.get? p.1 = some p.2 ∧ H p.1 = none ∧ p.1 ≠ X.env.locals ∧ p.1 ∉ X.fs ∧ ∀ v, p.2.data ≠ .cell v
  hok : HOk X.prog X.w H s.heap
  len : σ.length = X.N.length
section
variable {X : Cx} {pins : List (Addr × Obj)} {σ : List (Option V)} {H H' : Hp} {s : Shared} {h' : Heap}
theorem Cx.Ok.nofr (ok : X.Ok) {b : Addr} {o : Obj} (e : X.base.get? b = some o) : b ∉ X.fs := fun hb => by
  have := (ok.funs.mem hb).1
  rw [e] at this; cases this
theorem Inv.bs (I : Inv X pins σ H s) : ∀ b o, X.base.get? b = some o → s.heap.get? b = some o ∧ H b = none := fun b o e =>
  ⟨I.base.keep b o (I.ok.bs b o e).1 (I.ok.bs b o e).2 (I.ok.nofr e) (I.ok.noex b o e), I.base.free b o (I.ok.bs b o e).1 (I.ok.bs b o e).2 (I.ok.noex b o e)⟩
theorem Inv.bk (I : Inv X pins σ H s) : ∀ b o, X.base.get? b = some o → s.heap.get? b = some o := fun b o e => (I.bs b o e).1
theorem Inv.mod (I : Inv X pins σ H s) : Mod X.K X.mg X.base := I.ok.mod
theorem Inv.kIn (I : Inv X pins σ H s) : X.K.In s.heap := I.ok.mod.kin.keeps I.bk
theorem Inv.lt (I : Inv X pins σ H s) : X.env.locals < s.heap.objs.size := let ⟨_, hn, _⟩ := I.loc; hn.lt
theorem Inv.sz (I : Inv X pins σ H s) : X.s₀.heap.objs.size ≤ s.heap.objs.size := Nat.le_trans I.ok.above (Nat.le_of_lt I.lt)
theorem Inv.nofs (I : Inv X pins σ H s) {a : Addr} (h : s.heap.objs.size ≤ a) : a ∉ X.fs := fun hb => by
  obtain ⟨_, o, ho, _⟩ := I.ok.funs.mem hb
  exact absurd (Nat.lt_of_lt_of_le (Heap.lt_size ho) (Nat.le_trans I.sz h)) (Nat.lt_irrefl _)
theorem Inv.cne (I : Inv X pins σ H s) : ∀ x c, X.env.cells.lookup x = some c → c ≠ X.env.locals := fun x c e z => by
  obtain ⟨v, o, ho, hd⟩ := I.cell x c e
  obtain ⟨m, ⟨o', es, ep, ho', hd', _⟩, _⟩ := I.loc
  rw [z, ho'] at ho; cases ho; rw [hd'] at hd; cases hd
theorem Inv.funs (I : Inv X pins σ H s) : s.heap.FunFrames X.base X.outer := by
  have all : ∀ (l : List Env), (∀ b ∈ frs l, b ∈ X.fs) → X.s₀.heap.FunFrames X.base l → s.heap.FunFrames X.base l := by
    intro l
    induction l with
    | nil => intro _ _; trivial
    | cons env r ih =>
      intro hs hl
      obtain ⟨hk, ⟨L, o, hf, hn, ho, hd⟩, hr⟩ := hl
      have hL : L ∈ X.fs := hs L (by unfold frs; rw [List.filterMap_cons, hf]; exact List.mem_cons_self)
      obtain ⟨sl, e⟩ := I.base.slot L o ho (I.ok.frf L hL) hL fun z => I.ok.exfs L z hL
      exact ⟨hk, ⟨L, _, hf, hn, e, hd⟩, ih (fun b hb => hs b (by unfold frs; rw [List.filterMap_cons, hf]; exact List.mem_cons_of_mem _ hb)) hr⟩
  exact all X.outer (fun _ hb => hb) I.ok.funs
theorem Inv.stack (I : Inv X pins σ H s) : s.heap.FunFrames X.base X.stack := by
  rcases I.ok.stk with e | ⟨e, hf⟩
  · rw [e]; exact I.funs
  · rw [e]
    obtain ⟨m, hn, _⟩ := I.loc
    refine .cons (by rw [I.ok.kind]; decide) hf hn ?_ I.funs
    exact Heap.get?_none_of_le (Nat.le_trans I.ok.bsz I.ok.above)
theorem Inv.stkSub (I : Inv X pins σ H s) : ∀ b ∈ frs X.stack, b ∈ X.env.locals :: X.fs := fun b hb => by
  rcases I.ok.stk with e | ⟨e, hf⟩
  · rw [e] at hb; exact List.mem_cons_of_mem _ hb
  · rw [e] at hb
    unfold frs at hb
    rw [List.filterMap_cons, hf] at hb
    exact hb
theorem Inv.stkFree (I : Inv X pins σ H s) : ∀ b ∈ frs X.stack, H b = none := fun b hb => by
  rcases List.mem_cons.mp (I.stkSub b hb) with e | hb
  · rw [e]; exact I.free
  · obtain ⟨_, o, ho, _⟩ := I.ok.funs.mem hb
    exact I.base.free b o ho (I.ok.frf b hb) fun z => I.ok.exfs b z hb
theorem Inv.step {g' : Array GenState} {t' : Nat} {d' : Drawn} {ch : List Addr} (I : Inv X pins σ H s)
    (hch : ∀ b ∈ ch, (b ∈ X.ex ∨ X.s₀.heap.objs.size ≤ b) ∧ b ≠ X.env.locals ∧ (∀ x c, X.env.cells.lookup x = some c → c ≠ b) ∧ ∀ p ∈ X.pn ++ pins, p.1 ≠ b)
    (keep : ∀ b o, b ≠ X.env.locals → b ∉ X.fs → b ∉ ch → s.heap.get? b = some o → H b = none → h'.get? b = some o)
    (slot : ∀ b o, b ≠ X.env.locals → b ∈ X.fs → b ∉ ch → s.heap.get? b = some o → H b = none → ∃ sl, h'.get? b = some { o with slots := sl }) (free : ∀ b o, b ∉ ch → s.heap.get? b = some o → H b = none → H' b = none)
    (there : ∀ b o, b ∉ ch → s.heap.get? b = some o → ∃ o', h'.get? b = some o')
    (tups : ∀ b xs, H b = some (.tup xs) → H' b = some (.tup xs)) (frzs : ∀ b o u, H b = some (.frz o u) → H' b = some (.frz o u)) (tbls : ∀ b ps, H b = some (.tbl ps) → ∃ more, H' b = some (.tbl (ps ++ more)))
    (ns : ∀ m, s.heap.Ns X.env.locals m → h'.Ns X.env.locals m) (hok : HOk X.prog X.w H' h') (hg : AllBare g') :
    Inv X pins σ H' { s with heap := h', gens := g', drawn := d', toks := t' } := by
  have neL : ∀ b o, X.s₀.heap.get? b = some o → b ≠ X.env.locals := fun b o e => Nat.ne_of_lt (Nat.lt_of_lt_of_le (Heap.lt_size e) I.ok.above)
  have neC : ∀ b o, X.s₀.heap.get? b = some o → b ∉ X.ex → b ∉ ch := fun b o e hx hb => by
    rcases (hch b hb).1 with z | z
    · exact hx z
    · exact absurd (Nat.lt_of_lt_of_le (Heap.lt_size e) z) (Nat.lt_irrefl _)
  have cellK : ∀ x c, X.env.cells.lookup x = some c → ∀ v, s.heap.IsCell c v → h'.IsCell c v := fun x c e v ⟨o, ho, hd⟩ => by
    have nch : c ∉ ch := fun z => (hch c z).2.2.1 x c e rfl
    by_cases hc : c ∈ X.fs
    · obtain ⟨sl, q⟩ := slot c o (I.cne x c e) hc nch ho (I.freeC x c e)
      exact ⟨_, q, hd⟩
    · exact ⟨o, keep c o (I.cne x c e) hc nch ho (I.freeC x c e), hd⟩
  refine ⟨I.ok, I.os, hg, ⟨fun b o e n hb hx => ?_, fun b o e n hb hx => ?_, fun b o e n hx => ?_, fun b o e hx => ?_, fun b xs e => tups b xs (I.base.tups b xs e), fun b o xs e => frzs b o xs (I.base.frzs b o xs e), fun b ps e => ?_⟩, ?_, fun x c e => ?_, ?_, fun x c e => ?_, fun p hp => ?_, hok, I.len⟩
  · exact keep b o (neL b o e) hb (neC b o e hx) (I.base.keep b o e n hb hx) (I.base.free b o e n hx)
  · obtain ⟨sl, e1⟩ := I.base.slot b o e n hb hx
    obtain ⟨sl', e2⟩ := slot b _ (neL b o e) hb (neC b o e hx) e1 (I.base.free b o e n hx)
    exact ⟨sl', e2⟩
  · obtain ⟨o', e1⟩ := I.base.there b o e hx
    exact free b o' (neC b o e hx) e1 (I.base.free b o e n hx)
  · obtain ⟨o', e1⟩ := I.base.there b o e hx
    exact there b o' (neC b o e hx) e1
  · obtain ⟨m1, e1⟩ := I.base.tbls b ps e
    obtain ⟨m2, e2⟩ := tbls b _ e1
    exact ⟨m1 ++ m2, by rw [e2, Array.append_assoc]⟩
  · obtain ⟨m, hn, hl⟩ := I.loc
    refine ⟨m, ns m hn, fun i x v e1 e2 e3 => ?_⟩
    obtain ⟨u, r, l⟩ := hl i x v e1 e2 e3
    refine ⟨u, r, ?_⟩
    rcases l with l | ⟨k, c, e, z⟩
    · exact .inl l
    · exact .inr ⟨k, c, e, cellK x c e _ z⟩
  · obtain ⟨v, z⟩ := I.cell x c e
    exact ⟨v, cellK x c e v z⟩
  · obtain ⟨m, ⟨o, _, _, ho, _⟩, _⟩ := I.loc
    exact free _ o (fun z => (hch _ z).2.1 rfl) ho I.free
  · obtain ⟨v, o, ho, hd⟩ := I.cell x c e
    exact free c o (fun z => (hch c z).2.2.1 x c e rfl) ho (I.freeC x c e)
  · obtain ⟨e, n, ne, nf, d⟩ := I.pin p hp
    have nch : p.1 ∉ ch := fun z => (hch p.1 z).2.2.2 p hp rfl
    exact ⟨keep p.1 p.2 ne nf nch e n, free p.1 p.2 nch e n, ne, nf, d⟩
theorem Inv.un {t' : Nat} (I : Inv X pins σ H s) (u : Un X.fs [] H H' s.heap h') (hok : HOk X.prog X.w H' h') : Inv X pins σ H' { s with heap := h', toks := t' } := by
  obtain ⟨m, ⟨o, es, ep, ho, r⟩, _⟩ := id I.loc
  obtain ⟨sl, hL⟩ := u.any ho I.free (by simp)
  exact I.step (g' := s.gens) (d' := s.drawn) (ch := []) (fun _ z => nomatch z) (fun b o _ hb _ e n => u.keep b o e n hb (by simp)) (fun b o _ hb _ e n => u.slot b o e n hb (by simp)) (fun b o _ e n => u.free b o e n (by simp)) (fun b o _ e => u.there b o e (by simp)) u.tups u.frzs u.tbls (fun m' hm => by
    obtain ⟨o', es', ep', ho', r'⟩ := hm
    rw [ho] at ho'; cases ho'
    exact ⟨_, es', ep', hL, r'⟩) hok I.bare
theorem Inv.call {g' : Array GenState} {t' : Nat} {d' : Drawn} {ch : List Addr} (I : Inv X pins σ H s) (u : Un (frs X.stack) ch H H' s.heap h') (hok : HOk X.prog X.w H' h') (hg : AllBare g')
    (hch : ∀ b ∈ ch, (b ∈ X.ex ∨ X.s₀.heap.objs.size ≤ b) ∧ b ≠ X.env.locals ∧ (∀ x c, X.env.cells.lookup x = some c → c ≠ b) ∧ ∀ p ∈ X.pn ++ pins, p.1 ≠ b) :
    Inv X pins σ H' { s with heap := h', gens := g', drawn := d', toks := t' } := by
  obtain ⟨m, ⟨o, es, ep, ho, r⟩, _⟩ := id I.loc
  obtain ⟨sl, hL⟩ := u.any ho I.free fun z => (hch _ z).2.1 rfl
  exact I.step (ch := ch) hch (fun b o hL hb hc e n => u.keep b o e n (fun z => (List.mem_cons.mp (I.stkSub b z)).elim hL hb) hc) (fun b o _ _ hc e n => u.any e n hc) (fun b o hc e n => u.free b o e n hc) (fun b o hc e => u.there b o e hc) u.tups u.frzs u.tbls (fun m' hm => by
    obtain ⟨o', es', ep', ho', r'⟩ := hm
    rw [ho] at ho'; cases ho'
    exact ⟨_, es', ep', hL, r'⟩) hok hg
theorem Inv.turned {t' : Nat} {it : Addr} (I : Inv X pins σ H s) (k : ∀ b o, b ≠ it → s.heap.get? b = some o → h'.get? b = some o) (hn : H it = none) (hL : it ≠ X.env.locals)
    (h1 : it ∈ X.ex ∨ X.s₀.heap.objs.size ≤ it) (h2 : ∀ x c, X.env.cells.lookup x = some c → c ≠ it) (h3 : ∀ p ∈ X.pn ++ pins, p.1 ≠ it) : Inv X pins σ H { s with heap := h', toks := t' } := by
  have nit : ∀ b u, H b = some u → b ≠ it := fun b u e z => by rw [z, hn] at e; cases e
  refine I.step (g' := s.gens) (d' := s.drawn) (ch := [it]) (fun b hb => ?_) (fun b o _ _ hc e _ => k b o (fun z => hc (by simp [z])) e) (fun b o _ _ hc e _ => ⟨o.slots, k b o (fun z => hc (by simp [z])) e⟩) (fun _ _ _ _ n => n)
    (fun b o hc e => ⟨o, k b o (fun z => hc (by simp [z])) e⟩) (fun _ _ e => e) (fun _ _ _ e => e) (fun b ps e => ⟨#[], by rw [e]; simp⟩) (fun m hm => ?_) (fun b u e => ?_) I.bare
  · have e : b = it := by simpa using hb
    subst e
    exact ⟨h1, hL, h2, h3⟩
  · obtain ⟨o, es, ep, ho, r⟩ := hm
    exact ⟨o, es, ep, k _ o (Ne.symm hL) ho, r⟩
  · refine (I.hok b u e).stay (fun c v hc q => k c v ?_ q) (fun _ q => q) fun _ _ q => q
    rcases hc with z | z
    · rw [z]; exact nit b u e
    · exact nit c _ z
theorem Inv.tok (I : Inv X pins σ H s) (t : Nat) : Inv X pins σ H { s with toks := t } := I.un (h' := s.heap) (t' := t) Un.refl I.hok
theorem Inv.kept {t' : Nat} (I : Inv X pins σ H s) (k : ∀ b u, s.heap.get? b = some u → h'.get? b = some u) : Inv X pins σ H { s with heap := h', toks := t' } := I.un (Un.kept k) (I.hok.kept k)
theorem Inv.laid {a : Addr} {o : HO} {t' : Nat} (I : Inv X pins σ H s) (k : ∀ b u, s.heap.get? b = some u → h'.get? b = some u) (hp : s.heap.objs.size ≤ a) (new : ObjOk X.prog X.w (upd H a o) h' a o) :
    Inv X pins σ (upd H a o) { s with heap := h', toks := t' } := I.un (Un.laid k hp (I.hok.fresh hp)) (I.hok.laid k hp new)
theorem Inv.write {x e : Addr} {o : HO} {t' : Nat} (I : Inv X pins σ H s) (mu : Mut (H x)) (he : e = x ∨ H e = some (.own x)) (k : ∀ b u, b ≠ e → s.heap.get? b = some u → h'.get? b = some u) (heo : ∃ u, h'.get? e = some u)
    (new : ObjOk X.prog X.w (upd H x o) h' x o) : Inv X pins σ (upd H x o) { s with heap := h', toks := t' } := I.un (Un.write mu he k heo) (I.hok.write mu he k heo new)
theorem Inv.pins_of {pins' : List (Addr × Obj)} (I : Inv X pins σ H s) (h : ∀ p ∈ pins', s.heap.get? p.1 = some p.2 ∧ H p.1 = none ∧ p.1 ≠ X.env.locals ∧ p.1 ∉ X.fs ∧ ∀ v, p.2.data ≠ .cell v) : Inv X pins' σ H s :=
  ⟨I.ok, I.os, I.bare, I.base, I.loc, I.cell, I.free, I.freeC, fun p hp => (List.mem_append.mp hp).elim (fun z => I.pin p (List.mem_append_left _ z)) (h p), I.hok, I.len⟩
theorem nodup_ix {N : List Str} (hN : N.Nodup) {i j : Nat} {x : Str} (a : N[i]? = some x) (b : N[j]? = some x) : i = j := by
  obtain ⟨h1, e1⟩ := List.getElem?_eq_some_iff.mp a
  obtain ⟨h2, e2⟩ := List.getElem?_eq_some_iff.mp b
  exact (List.getElem_inj hN).mp (e1.trans e2.symm)
theorem store_ok2 {M : Model} {A : Around} {E : Value → Shared → Prop} {i : Nat} {x : Str} {v : V} {u : Value} {Q : Unit → Shared → Prop} (I : Inv X pins σ H s) (hN : X.N.Nodup) (hi : X.N[i]? = some x) (hx : Loc X.env.scope x) (r : RelV v u)
    (h : ∀ s', Inv X pins (σ.set i (some v)) H s' → (∃ a, Heap.SameBut a s.heap s'.heap ∧ (a = X.env.locals ∨ X.env.cells.lookup x = some a)) → Q () s') (hf : X.fn x = true ∨ X.env.scope.names.lookup x = some .local := by first | exact .inl rfl | exact .inr rfl | assumption) : wpAny M A (storeName X.env x u) Q E s := by
  obtain ⟨m, hn, hl⟩ := id I.loc
  have hcls : (X.env.scope.kind == .class || (X.env.scope.kind == .module && X.env.locals != X.env.globals)) = false := by rw [I.ok.kind]; rfl
  have hiσ : i < σ.length := by rw [I.len]; exact (List.getElem?_eq_some_iff.mp hi).1
  have cne := I.cne
  have tracked : ∀ {a : Addr} {h' : Heap}, (∃ o, s.heap.get? a = some o ∧ H a = none) → Heap.SameBut a s.heap h' → HOk X.prog X.w H h' := fun {a h'} ha hs b ob e => by
    obtain ⟨_, _, hfree⟩ := ha
    refine (I.hok b ob e).stay (fun c w' hc q => (hs.2 c ?_).trans q) (fun _ q => q) fun _ _ q => q
    rintro rfl
    rcases hc with rfl | hc
    · rw [hfree] at e; cases e
    · rw [hfree] at hc; cases hc
  rcases hx with hk | hk
  · refine wpAny_storeName_local hk hn (fun h' hn' hs => ?_) hcls
    obtain ⟨oL, _, _, hoL, _⟩ := id hn
    refine h _ ⟨I.ok, I.os, I.bare, ⟨fun b o e n hb hx => ?_, fun b o e n hb hx => ?_, I.base.free, fun b o e hx => ?_, I.base.tups, I.base.frzs, I.base.tbls⟩, ⟨_, hn', fun j y v' e1 e2 e3 => ?_⟩, fun y c e => ?_, I.free, I.freeC, fun p hp => ?_, tracked ⟨oL, hoL, I.free⟩ hs, by simpa using I.len⟩ ⟨_, hs, .inl rfl⟩
    · exact (hs.2 b (Nat.ne_of_lt (Nat.lt_of_lt_of_le (Heap.lt_size e) I.ok.above))).trans (I.base.keep b o e n hb hx)
    · obtain ⟨sl, e1⟩ := I.base.slot b o e n hb hx
      exact ⟨sl, (hs.2 b (Nat.ne_of_lt (Nat.lt_of_lt_of_le (Heap.lt_size e) I.ok.above))).trans e1⟩
    · obtain ⟨o', e1⟩ := I.base.there b o e hx
      exact ⟨o', (hs.2 b (Nat.ne_of_lt (Nat.lt_of_lt_of_le (Heap.lt_size e) I.ok.above))).trans e1⟩
    · by_cases hj : j = i
      · subst hj
        rw [hi] at e1; cases e1
        rw [List.getElem?_set_self hiσ] at e2
        cases e2
        exact ⟨u, r, .inl ⟨hk, by simp⟩⟩
      · rw [List.getElem?_set_ne (Ne.symm hj)] at e2
        obtain ⟨u', r', q⟩ := hl j y v' e1 e2 e3
        refine ⟨u', r', ?_⟩
        rcases q with ⟨k, e⟩ | ⟨k, c, e, z⟩
        · refine .inl ⟨k, ?_⟩
          have : y ≠ x := fun e => hj (nodup_ix hN e1 (e ▸ hi))
          simp [this, e]
        · exact .inr ⟨k, c, e, z.sameBut hs (cne y c e)⟩
    · obtain ⟨w', z⟩ := I.cell y c e
      exact ⟨w', z.sameBut hs (cne y c e)⟩
    · obtain ⟨e, n, ne, nf, d⟩ := I.pin p hp
      exact ⟨(hs.2 p.1 ne).trans e, n, ne, nf, d⟩
  · have hfn : X.fn x = true := by
      rcases hf with z | z
      · exact z
      · rw [z] at hk; cases hk
    obtain ⟨c, hc⟩ := I.ok.has x (.inl hk)
    obtain ⟨w', z⟩ := I.cell x c hc
    refine wpAny_storeName_cell I.ok.kind hk hc z (fun h' hc' hs => ?_)
    obtain ⟨oc, hoc, hocd⟩ := id z
    refine h { s with heap := h' } ⟨I.ok, I.os, I.bare, ⟨fun b o e n hb hx => ?_, fun b o e n hb hx => ?_, I.base.free, fun b o e hx => ?_, I.base.tups, I.base.frzs, I.base.tbls⟩, ⟨m, hn.sameBut hs (Ne.symm (cne x c hc)), fun j y v' e1 e2 e3 => ?_⟩, fun y c' e => ?_, I.free, I.freeC, fun p hp => ?_, tracked ⟨oc, hoc, I.freeC x c hc⟩ hs, by simpa using I.len⟩ ⟨c, hs, .inr hc⟩
    · exact (hs.2 b (Nat.ne_of_lt (Nat.lt_of_lt_of_le (Heap.lt_size e) (I.ok.cab x c hfn hc)))).trans (I.base.keep b o e n hb hx)
    · obtain ⟨sl, e1⟩ := I.base.slot b o e n hb hx
      exact ⟨sl, (hs.2 b (Nat.ne_of_lt (Nat.lt_of_lt_of_le (Heap.lt_size e) (I.ok.cab x c hfn hc)))).trans e1⟩
    · obtain ⟨o', e1⟩ := I.base.there b o e hx
      exact ⟨o', (hs.2 b (Nat.ne_of_lt (Nat.lt_of_lt_of_le (Heap.lt_size e) (I.ok.cab x c hfn hc)))).trans e1⟩
    · by_cases hj : j = i
      · subst hj
        rw [hi] at e1; cases e1
        rw [List.getElem?_set_self hiσ] at e2
        cases e2
        exact ⟨u, r, .inr ⟨.inl hk, c, hc, hc'⟩⟩
      · rw [List.getElem?_set_ne (Ne.symm hj)] at e2
        obtain ⟨u', r', q⟩ := hl j y v' e1 e2 e3
        refine ⟨u', r', ?_⟩
        rcases q with q | ⟨k, c', e, z'⟩
        · exact .inl q
        · refine .inr ⟨k, c', e, z'.sameBut hs ?_⟩
          rintro rfl
          exact hj (nodup_ix hN e1 (I.ok.inj _ _ _ e hc ▸ hi))
    · by_cases hcc : c' = c
      · subst hcc; exact ⟨_, hc'⟩
      · obtain ⟨w2, z2⟩ := I.cell y c' e
        exact ⟨w2, z2.sameBut hs hcc⟩
    · obtain ⟨e, n, ne, nf, d⟩ := I.pin p hp
      refine ⟨(hs.2 p.1 ?_).trans e, n, ne, nf, d⟩
      intro q
      rw [q, hoc] at e
      have q' : oc = p.2 := Option.some.inj e
      exact d w' (by rw [← q']; exact hocd)
theorem store_ok {M : Model} {A : Around} {E : Value → Shared → Prop} {i : Nat} {x : Str} {v : V} {u : Value} {Q : Unit → Shared → Prop} (I : Inv X pins σ H s) (hN : X.N.Nodup) (hi : X.N[i]? = some x) (hx : Loc X.env.scope x) (r : RelV v u)
    (h : ∀ s', Inv X pins (σ.set i (some v)) H s' → Q () s') (hf : X.fn x = true ∨ X.env.scope.names.lookup x = some .local := by first | exact .inl rfl | exact .inr rfl | assumption) : wpAny M A (storeName X.env x u) Q E s :=
  store_ok2 I hN hi hx r (fun s' I' _ => h s' I') hf
theorem Inv.call' {s' : Shared} {ch : List Addr} (I : Inv X pins σ H s) (ho : s'.os = s.os) (u : Un (frs X.stack) ch H H' s.heap s'.heap) (hok : HOk X.prog X.w H' s'.heap) (hg : AllBare s'.gens)
    (hch : ∀ b ∈ ch, (b ∈ X.ex ∨ X.s₀.heap.objs.size ≤ b) ∧ b ≠ X.env.locals ∧ (∀ x c, X.env.cells.lookup x = some c → c ≠ b) ∧ ∀ p ∈ X.pn ++ pins, p.1 ≠ b) : Inv X pins σ H' s' := by
  obtain ⟨h', g', d', t', o'⟩ := s'
  have e : o' = s.os := ho
  subst e
  exact I.call (g' := g') (t' := t') (d' := d') u hok hg hch
end
abbrev XK := Value → Option Addr → Hp → Prop
abbrev St := List (Option V)
abbrev VK := V → Hp → Prop
abbrev TE := St → Hp → VK → Prop
abbrev TT := St → Hp → (Bool → Hp → Prop) → Prop
abbrev TA := St → Hp → (List V → Hp → Prop) → Prop
structure Ends where
  nx : St → Hp → Prop
  rt : VK
  bk : St → Hp → Prop := fun _ _ => False
  ct : St → Hp → Prop := fun _ _ => False
abbrev TS := Ends → St → Hp → Prop
def EP (X : Cx) (pins : List (Addr × Obj)) (σ : St) (Q : VK) (u : Value) (s' : Shared) : Prop := ∃ v H', Inv X pins σ H' s' ∧ RelV v u ∧ Q v H'
def TP (X : Cx) (pins : List (Addr × Obj)) (σ : St) (Q : Bool → Hp → Prop) (b : Bool) (s' : Shared) : Prop := ∃ H', Inv X pins σ H' s' ∧ Q b H'
def AP (X : Cx) (pins : List (Addr × Obj)) (σ : St) (Q : List V → Hp → Prop) (us : List Value) (s' : Shared) : Prop := ∃ vs H', Inv X pins σ H' s' ∧ Vals vs us ∧ Q vs H'
def SP (X : Cx) (pins : List (Addr × Obj)) (D : Ends) (f : Flow) (s' : Shared) : Prop :=
  match f with
  | .next => ∃ σ' H', Inv X pins σ' H' s' ∧ D.nx σ' H'
  | .brk => ∃ σ' H', Inv X pins σ' H' s' ∧ D.bk σ' H'
  | .cont => ∃ σ' H', Inv X pins σ' H' s' ∧ D.ct σ' H'
  | .ret u => ∃ v σ' H', Inv X pins σ' H' s' ∧ RelV v u ∧ D.rt v H'
def PE (X : Cx) (e : Expr) (t : TE) : Prop :=
  ∀ (pins : List (Addr × Obj)) (s : Shared) (σ : St) (H : Hp) (Q : VK), Inv X pins σ H s → t σ H Q → wpAny (model X.prog X.w) X.A (eval e X.env) (EP X pins σ Q) X.xe s
def PT (X : Cx) (e : Expr) (t : TT) : Prop :=
  ∀ (pins : List (Addr × Obj)) (s : Shared) (σ : St) (H : Hp) (Q : Bool → Hp → Prop), Inv X pins σ H s → t σ H Q → wpAny (model X.prog X.w) X.A (isTrue e X.env (eval e X.env)) (TP X pins σ Q) X.xe s
def PW (X : Cx) (e : Expr) (t : TT) : Prop :=
  ∀ (whole : Sem Value) (pins : List (Addr × Obj)) (s : Shared) (σ : St) (H : Hp) (Q : Bool → Hp → Prop), Inv X pins σ H s → t σ H Q → wpAny (model X.prog X.w) X.A (isTrue e X.env whole) (TP X pins σ Q) X.xe s
theorem PW.pt {X : Cx} {e : Expr} {t : TT} (h : PW X e t) : PT X e t := h _
def PA (X : Cx) (es : List Expr) (t : TA) : Prop :=
  ∀ (pos : Pos) (pins : List (Addr × Obj)) (s : Shared) (σ : St) (H : Hp) (Q : List V → Hp → Prop), Inv X pins σ H s → t σ H Q → wpAny (model X.prog X.w) X.A (spliced (backTo pos (starEach es X.env))) (AP X pins σ Q) X.xe s
def PS (X : Cx) (st : Stmt) (t : TS) : Prop :=
  ∀ (pins : List (Addr × Obj)) (s : Shared) (σ : St) (H : Hp) (D : Ends), Inv X pins σ H s → t D σ H → wpAny (model X.prog X.w) X.A (exec st X.env) (SP X pins D) X.xe s
def PSs (X : Cx) (st : List Stmt) (t : TS) : Prop :=
  ∀ (pins : List (Addr × Obj)) (s : Shared) (σ : St) (H : Hp) (D : Ends), Inv X pins σ H s → t D σ H → wpAny (model X.prog X.w) X.A (execs st X.env) (SP X pins D) X.xe s
theorem thn {α : Type} {t : Sem α} {Q Q' : α → Shared → Prop} {M : Model} {A : Around} {E : Value → Shared → Prop} {s : Shared} (h : wpAny M A t Q E s) (hQ : ∀ a s, Q a s → Q' a s) : wpAny M A t Q' E s := wpAny_mono h hQ fun _ _ x => x
end L2
namespace L2
open PySem PySem.Spec PyProof.Rows
section
variable {X : Cx}
def tVar (i : Nat) : TE := fun σ H Q => ∃ v, σ[i]? = some (some v) ∧ Q v H
def tC (v : V) : TE := fun _ H Q => Q v H
theorem pe_var {i : Nat} {x : Str} {pos : Pos} (hN : X.N[i]? = some x) (hv : Vis X.env.scope x) (hd : (x == ("__debug__" : Str)) = false := by decide) (hcd : (x == ("__classdict__" : Str)) = false := by decide) : PE X (.Name x pos) (tVar i) := by
  intro pins s σ H Q I h
  obtain ⟨v, e, h⟩ := h
  obtain ⟨m, hn, hl⟩ := I.loc
  obtain ⟨u, r, l⟩ := hl i x v hN e hv
  have fin : EP X pins σ Q u s := ⟨v, H, I, r, h⟩
  rcases l with ⟨hk, hm⟩ | ⟨hk, c, hc, hcell⟩
  · exact wpAny_Name (wpAny_loadName_local I.ok.kind hk hn hm fin) hd
  · rcases hk with hk | hk
    · exact wpAny_Name (wpAny_loadName_cell I.ok.kind hk hc hcell fin) hd
    · exact wpAny_Name (wpAny_loadName_free I.ok.kind hk hc hcell fin hcd) hd
theorem pe_int {i j pos} : PE X (.Constant (.int i) j pos) (tC (.int i)) := fun _ _ _ H _ I h => wpAny_Constant_int ⟨.int i, H, I.tok _, ⟨_, rfl⟩, h⟩
theorem pe_bl {b j pos} : PE X (.Constant (.bool b) j pos) (tC (.bl b)) := fun _ _ _ H _ I h => Constant_bool ⟨.bl b, H, I, rfl, h⟩
theorem pe_non {j pos} : PE X (.Constant .none j pos) (tC .non) := fun _ _ _ H _ I h => Constant_none ⟨.non, H, I, rfl, h⟩
theorem pe_str {x j pos} : PE X (.Constant (.str x) j pos) (tC (.str x)) := fun _ _ _ H _ I h => Calls.Constant_str ⟨.str x, H, I.tok _, ⟨_, rfl⟩, h⟩
def Gl (X : Cx) (x : Str) : Prop := X.env.kindOf x = some .globalImplicit
theorem ld_glob {E : Value → Shared → Prop} {pins : List (Addr × Obj)} {s : Shared} {σ : St} {H : Hp} {x : Str} {u : Value} {pos : Pos} {Q : Value → Shared → Prop} (I : Inv X pins σ H s) (hg : Gl X x) (hm : X.mg x = some u) (h : Q u s)
    (hd : (x == ("__debug__" : Str)) = false := by decide) : wpAny (model X.prog X.w) X.A (eval (.Name x pos) X.env) Q E s :=
  Calls.Name_function_global I.ok.kind hg (Calls.loadGlobal_global (by rw [I.ok.glob]; exact I.mod.glob.keeps I.bk) hm h) hd
theorem ld_blt {E : Value → Shared → Prop} {pins : List (Addr × Obj)} {s : Shared} {σ : St} {H : Hp} {x : Str} {u : Value} {pos : Pos} {Q : Value → Shared → Prop} (I : Inv X pins σ H s) (hg : Gl X x) (hm : X.mg x = none) (hv : bootBuiltins x = some u) (h : Q u s)
    (hn : x ≠ "__name__" := by decide) (hd : (x == ("__debug__" : Str)) = false := by decide) : wpAny (model X.prog X.w) X.A (eval (.Name x pos) X.env) Q E s := by
  obtain ⟨mb, h1, h2⟩ := I.mod.blt
  exact Calls.Name_function_global I.ok.kind hg (Calls.loadGlobal_builtin (by rw [I.ok.glob]; exact I.mod.glob.keeps I.bk) hm (by rw [I.ok.blt]; exact h1.keeps I.bk) ((h2 x hn).trans hv) h) hd
theorem pe_glob {x : Str} {v : V} {u : Value} {pos : Pos} (hg : Gl X x) (hm : X.mg x = some u) (r : RelV v u) (hd : (x == ("__debug__" : Str)) = false := by decide) : PE X (.Name x pos) (tC v) :=
  fun _ _ _ H _ I h => ld_glob I hg hm ⟨v, H, I, r, h⟩ hd
theorem pe_bltn {x : Str} {v : V} {u : Value} {pos : Pos} (hg : Gl X x) (hm : X.mg x = none) (hv : bootBuiltins x = some u) (r : RelV v u) (hn : x ≠ "__name__" := by decide) (hd : (x == ("__debug__" : Str)) = false := by decide) : PE X (.Name x pos) (tC v) :=
  fun _ _ _ H _ I h => ld_blt I hg hm hv ⟨v, H, I, r, h⟩ hn hd
def t2I (ta tb : TE) (k : Int → Int → Hp → Prop) : St → Hp → Prop := fun σ H => ta σ H fun x H1 => tb σ H1 fun y H2 => ∃ i j, x = .int i ∧ y = .int j ∧ k i j H2
def tAdd (ta tb : TE) : TE := fun σ H Q => t2I ta tb (fun i j H2 => Q (.int (i + j)) H2) σ H
def tSub (ta tb : TE) : TE := fun σ H Q => t2I ta tb (fun i j H2 => Q (.int (i - j)) H2) σ H
def tMul (ta tb : TE) : TE := fun σ H Q => t2I ta tb (fun i j H2 => (-(2 ^ 64) < i ∧ i < 2 ^ 64) ∧ Q (.int (i * j)) H2) σ H
variable {a b : Expr} {ta tb : TE} {pos : Pos}
def PC (X : Cx) (op : CmpOp) (a b : Expr) (t : TE) : Prop :=
  ∀ (pins : List (Addr × Obj)) (s : Shared) (σ : St) (H : Hp) (Q : VK), Inv X pins σ H s → t σ H Q →
    wpAny (model X.prog X.w) X.A (eval a X.env) (fun v s₁ => wpAny (model X.prog X.w) X.A (eval b X.env) (fun u s₂ => wpAny (model X.prog X.w) X.A (compareOp op v u) (EP X pins σ Q) X.xe s₂) X.xe s₁) X.xe s
def tCmp (p : Int → Int → Bool) (ta tb : TE) : TE := fun σ H Q => t2I ta tb (fun i j H2 => Q (.bl (p i j)) H2) σ H
abbrev tLt : TE → TE → TE := tCmp fun i j => decide (i < j)
abbrev tLe : TE → TE → TE := tCmp fun i j => decide (i ≤ j)
abbrev tGt : TE → TE → TE := tCmp fun i j => decide (j < i)
abbrev tGe : TE → TE → TE := tCmp fun i j => decide (j ≤ i)
abbrev tEqI : TE → TE → TE := tCmp fun i j => decide (i = j)
abbrev tNeI : TE → TE → TE := tCmp fun i j => !decide (i = j)
def tIsN (ta : TE) : TE := fun σ H Q => ta σ H fun x H1 => Q (.bl (decide (x = .non))) H1
def tNotN (ta : TE) : TE := fun σ H Q => ta σ H fun x H1 => Q (.bl (!decide (x = .non))) H1
def tB (t : TE) : TT := fun σ H Q => t σ H fun x H1 => ∃ c, x = .bl c ∧ Q c H1
variable {tA tB' : TT} {rest : List Expr}
def tAnd (t u : TT) : TT := fun σ H Q => t σ H fun c H1 => if c = true then u σ H1 Q else Q false H1
def tOr (t u : TT) : TT := fun σ H Q => t σ H fun c H1 => if c = true then Q true H1 else u σ H1 Q
def tNot (t : TT) : TT := fun σ H Q => t σ H fun c H1 => Q (!c) H1
theorem pw_or1 (ha : PT X a tA) : PW X (.BoolOp .Or [a] pos) tA := by
  intro wh pins s σ H Q I h
  refine isTrue_or (thn (ha pins s σ H Q I h) fun c s1 e => ?_)
  cases c with
  | false => exact isTrue_or_nil e
  | true => exact e
theorem pw_or (ha : PT X a tA) (hb : PW X (.BoolOp .Or (b :: rest) pos) tB') : PW X (.BoolOp .Or (a :: b :: rest) pos) (tOr tA tB') := by
  intro wh pins s σ H Q I h
  refine isTrue_or (thn (ha pins s σ H _ I h) fun c s1 ⟨H1, I1, q1⟩ => ?_)
  cases c with
  | true => exact ⟨H1, I1, q1⟩
  | false => exact hb wh pins s1 σ H1 Q I1 q1
theorem pt_not (ha : PT X a tA) : PT X (.UnaryOp .Not a pos) (tNot tA) := by
  intro pins s σ H Q I h
  exact isTrue_not (ha pins s σ H (fun c H1 => Q (!c) H1) I h)
def tAndV (ta tb : TE) : TE := fun σ H Q => ta σ H fun x H1 => ∃ c, x = .bl c ∧ if c = true then tb σ H1 Q else Q (.bl false) H1
def tOrV (ta tb : TE) : TE := fun σ H Q => ta σ H fun x H1 => ∃ c, x = .bl c ∧ if c = true then Q (.bl true) H1 else tb σ H1 Q
def tNotV (ta : TE) : TE := fun σ H Q => ta σ H fun x H1 => ∃ c, x = .bl c ∧ Q (.bl (!c)) H1
theorem pe_one {op} {t : TE} (h : PE X a t) : PE X (.BoolOp op [a] pos) t := fun pins s σ H Q I hw => BoolOp_one (h pins s σ H Q I hw)
theorem pe_and (ha : PE X a ta) (hb : PE X (.BoolOp .And (b :: rest) pos) tb) : PE X (.BoolOp .And (a :: b :: rest) pos) (tAndV ta tb) := by
  intro pins s σ H Q I h
  refine BoolOp_and (thn (ha pins s σ H _ I h) fun v s1 ⟨x, H1, I1, r1, q1⟩ => ?_)
  obtain ⟨c, rfl, q1⟩ := q1
  cases r1
  refine wpAny_truthy_bool ?_
  cases c with
  | true => exact hb pins s1 σ H1 Q I1 q1
  | false => exact ⟨.bl false, H1, I1, rfl, q1⟩
theorem pe_or (ha : PE X a ta) (hb : PE X (.BoolOp .Or (b :: rest) pos) tb) : PE X (.BoolOp .Or (a :: b :: rest) pos) (tOrV ta tb) := by
  intro pins s σ H Q I h
  refine BoolOp_or (thn (ha pins s σ H _ I h) fun v s1 ⟨x, H1, I1, r1, q1⟩ => ?_)
  obtain ⟨c, rfl, q1⟩ := q1
  cases r1
  refine wpAny_truthy_bool ?_
  cases c with
  | false => exact hb pins s1 σ H1 Q I1 q1
  | true => exact ⟨.bl true, H1, I1, rfl, q1⟩
def tIf (t : TT) (ta tb : TE) : TE := fun σ H Q => t σ H fun c H1 => if c = true then ta σ H1 Q else tb σ H1 Q
theorem pe_ifExp {c : Expr} (hc : PT X c tA) (ha : PE X a ta) (hb : PE X b tb) : PE X (.IfExp c a b pos) (tIf tA ta tb) := by
  intro pins s σ H Q I h
  refine wpAny_IfExp (thn (hc pins s σ H _ I h) fun d s1 ⟨H1, I1, q1⟩ => ?_)
  cases d with
  | true => exact ha pins s1 σ H1 Q I1 q1
  | false => exact hb pins s1 σ H1 Q I1 q1
end
end L2
namespace L2
open PySem PySem.Spec PyProof.Rows
def SqL (K : PySem.W.Frag) (H : Hp) (a : Addr) (xs : List V) : Prop :=
  Rd H a (.lst xs) ∨
    ∃ (o : Obj) (its : Array Value) (n : Nat), K.lookup a = some o ∧ o.cls = .type "list" ∧ o.dict = none ∧ o.data = .seq its n ∧ its.size ≤ sizeLine ∧ Vals xs its.toList
def SqT (K : PySem.W.Frag) (H : Hp) (a : Addr) (xs : List V) : Prop :=
  Rd H a (.tup xs) ∨
    ∃ (o : Obj) (its : Array Value) (n : Nat), K.lookup a = some o ∧ o.cls = .type "tuple" ∧ o.data = .seq its n ∧ its.size ≤ sizeLine ∧ Vals xs its.toList
def absV : Value → Option V
  | .none => some .non
  | .bool b => some (.bl b)
  | .int i _ => some (.int i)
  | .str x _ => some (.str x)
  | .bytes b _ => some (.byt b)
  | .float b _ => some (.flt b)
  | .ref a => some (.ref a)
  | .type n => some (.ty n)
  | _ => none
theorem RelV.abs {x : V} {u : Value} (r : RelV x u) : absV u = some x := by
  cases x with
  | non => cases r; rfl
  | bl _ => cases r; rfl
  | int _ => obtain ⟨t, rfl⟩ := r; rfl
  | str _ => obtain ⟨t, rfl⟩ := r; rfl
  | byt _ => obtain ⟨t, rfl⟩ := r; rfl
  | flt _ => obtain ⟨t, rfl⟩ := r; rfl
  | ref _ => cases r; rfl
  | ty _ => cases r; rfl
theorem RelV.inj {x y : V} {u : Value} (r : RelV x u) (q : RelV y u) : x = y := Option.some.inj (r.abs.symm.trans q.abs)
theorem Vals.inj : ∀ {xs ys : List V} {us : List Value}, Vals xs us → Vals ys us → xs = ys
  | _, _, _, .nil, .nil => rfl
  | _, _, _, .cons r t, .cons r' t' => by rw [r.inj r', Vals.inj t t']
section
variable {X : Cx} {pins : List (Addr × Obj)} {σ : St} {H : Hp} {s : Shared} {a : Addr} {xs ys : List V}
theorem SqL.of {K : PySem.W.Frag} (h : H a = some (.lst xs)) : SqL K H a xs := .inl (.inl h)
theorem SqT.of {K : PySem.W.Frag} (h : H a = some (.tup xs)) : SqT K H a xs := .inl (.inl h)
theorem Inv.list (I : Inv X pins σ H s) (h : SqL X.K H a xs) : ∃ its : List Value, Vals xs its ∧ PlainL s.heap a its.toArray ∧ xs.length ≤ sizeLine := by
  rcases h with h | ⟨o, its, n, hk, hc, hd, hs, hz, r⟩
  · obtain ⟨z, its, n, r, e⟩ := h.ok I.hok
    exact ⟨its, r, ⟨_, n, e, rfl, rfl, rfl⟩, z⟩
  · refine ⟨its.toList, r, ⟨o, n, I.kIn a o hk, hc, hd, by simpa using hs⟩, ?_⟩
    have e := r.length
    simp only [Array.length_toList] at e
    omega
theorem Inv.tuple (I : Inv X pins σ H s) (h : SqT X.K H a xs) : ∃ its : List Value, Vals xs its ∧ IsTup s.heap a its.toArray ∧ xs.length ≤ sizeLine := by
  rcases h with h | ⟨o, its, n, hk, hc, hs, hz, r⟩
  · obtain ⟨z, its, r, p⟩ := h.ok I.hok
    exact ⟨its, r, p, z⟩
  · refine ⟨its.toList, r, ⟨o, I.kIn a o hk, hc, n, by simpa using hs⟩, ?_⟩
    have e := r.length
    simp only [Array.length_toList] at e
    omega
theorem Inv.list_inj (I : Inv X pins σ H s) (h : SqL X.K H a xs) (h' : SqL X.K H a ys) : xs = ys := by
  obtain ⟨its, r, ⟨o, n, e, _, _, d⟩, _⟩ := I.list h
  obtain ⟨its', r', ⟨o', n', e', _, _, d'⟩, _⟩ := I.list h'
  rw [e] at e'; cases e'
  rw [d] at d'
  injection d' with d1 _
  have : its = its' := by simpa using congrArg Array.toList d1
  subst this
  exact r.inj r'
theorem Inv.tuple_inj (I : Inv X pins σ H s) (h : SqT X.K H a xs) (h' : SqT X.K H a ys) : xs = ys := by
  obtain ⟨its, r, ⟨o, e, _, n, d⟩, _⟩ := I.tuple h
  obtain ⟨its', r', ⟨o', e', _, n', d'⟩, _⟩ := I.tuple h'
  rw [e] at e'; cases e'
  rw [d] at d'
  injection d' with d1 _
  have : its = its' := by simpa using congrArg Array.toList d1
  subst this
  exact r.inj r'
end
abbrev Cx.wish (X : Cx) (E : Value → Shared → Prop) : Cx := { X with xe := E }
abbrev Cx.nox (X : Cx) : Cx := X.wish fun _ _ => False
theorem Cx.Ok.wish {X : Cx} (ok : X.Ok) (E : Value → Shared → Prop) : (X.wish E).Ok :=
  ⟨ok.mod, ok.kind, ok.glob, ok.blt, ok.above, ok.inj, ok.has, ok.cab, ok.hd, ok.frames, ok.stk, ok.exf, ok.bs, ok.bsz, ok.noex, ok.exfs, ok.funs, ok.frf⟩
theorem Cx.Ok.unwish {X : Cx} {E : Value → Shared → Prop} (ok : (X.wish E).Ok) : X.Ok :=
  ⟨ok.mod, ok.kind, ok.glob, ok.blt, ok.above, ok.inj, ok.has, ok.cab, ok.hd, ok.frames, ok.stk, ok.exf, ok.bs, ok.bsz, ok.noex, ok.exfs, ok.funs, ok.frf⟩
section
variable {X : Cx} {pins : List (Addr × Obj)} {σ : St} {H : Hp} {s : Shared} {E : Value → Shared → Prop}
theorem Inv.wish (I : Inv X pins σ H s) (E : Value → Shared → Prop) : Inv (X.wish E) pins σ H s := ⟨I.ok.wish E, I.os, I.bare, I.base, I.loc, I.cell, I.free, I.freeC, I.pin, I.hok, I.len⟩
theorem Inv.unwish (I : Inv (X.wish E) pins σ H s) : Inv X pins σ H s := ⟨I.ok.unwish, I.os, I.bare, I.base, I.loc, I.cell, I.free, I.freeC, I.pin, I.hok, I.len⟩
theorem SP.unwish {D : Ends} {f : Flow} {s' : Shared} (h : SP (X.wish E) pins D f s') : SP X pins D f s' := by
  cases f with
  | next => obtain ⟨σ', H', I, q⟩ := h; exact ⟨σ', H', I.unwish, q⟩
  | brk => obtain ⟨σ', H', I, q⟩ := h; exact ⟨σ', H', I.unwish, q⟩
  | cont => obtain ⟨σ', H', I, q⟩ := h; exact ⟨σ', H', I.unwish, q⟩
  | ret u => obtain ⟨v, σ', H', I, r, q⟩ := h; exact ⟨v, σ', H', I.unwish, r, q⟩
theorem PSs.nox {st : List Stmt} {t : TS} (h : PSs X.nox st t) : PSs X st t := fun pins s σ H D I hw =>
  wpAny_mono (h pins s σ H D (I.wish _) hw) (fun _ _ q => q.unwish) fun _ _ z => False.elim z
end
section
variable {X : Cx} {st : Stmt} {rest : List Stmt} {t u : TS} {e : Expr} {te : TE} {pos : Pos}
def tNext : TS := fun D σ H => D.nx σ H
def tSeq (t u : TS) : TS := fun D σ H => t { D with nx := u D } σ H
theorem pss_nil : PSs X [] tNext := fun _ _ σ H _ I h => wpAny_execs_nil ⟨σ, H, I, h⟩
theorem pss_cons (h1 : PS X st t) (h2 : PSs X rest u) : PSs X (st :: rest) (tSeq t u) := by
  intro pins s σ H D I h
  refine wpAny_execs_cons (thn (h1 pins s σ H { D with nx := u D } I h) fun f s1 q => ?_)
  cases f with
  | next =>
    obtain ⟨σ', H', I', q⟩ := q
    exact h2 pins s1 σ' H' D I' q
  | ret v => exact q
  | brk => exact q
  | cont => exact q
theorem pss_one (h1 : PS X st t) : PSs X [st] t := by
  intro pins s σ H D I h
  refine wpAny_execs_cons (thn (h1 pins s σ H D I h) fun f s1 q => ?_)
  cases f with
  | next => exact wpAny_execs_nil q
  | ret v => exact q
  | brk => exact q
  | cont => exact q
def tBreak : TS := fun D σ H => D.bk σ H
def tCont : TS := fun D σ H => D.ct σ H
theorem Inv.quiet {pins : List (Addr × Obj)} {σ : St} {H : Hp} {s : Shared} (I : Inv X pins σ H s) : interactive X.env = false := by simp [interactive, I.ok.kind]
def tDrop (te : TE) : TS := fun D σ H => te σ H fun _ H1 => D.nx σ H1
theorem ps_expr (he : PE X e te) (hs : swapsWith e none pos.line X.env = pure false := by rfl) : PS X (.Expr e pos) (tDrop te) := by
  intro pins s σ H D I h
  exact wpAny_Expr_any (thn (he pins s σ H _ I h) fun v s1 ⟨x, H1, I1, r1, q1⟩ => ⟨σ, H1, I1, q1⟩) I.quiet hs
def tRet (te : TE) : TS := fun D σ H => te σ H D.rt
theorem ps_ret (he : PE X e te) : PS X (.Return (some e) pos) (tRet te) := by
  intro pins s σ H D I h
  exact wpAny_Return_some (thn (he pins s σ H _ I h) fun v s1 ⟨x, H1, I1, r1, q1⟩ => ⟨x, σ, H1, I1, r1, q1⟩)
def tRetN : TS := fun D _ H => D.rt .non H
def tIfS (c : TT) (t u : TS) : TS := fun D σ H => c σ H fun b H1 => if b = true then t D σ H1 else u D σ H1
theorem ps_if {c : Expr} {a b : List Stmt} {tc : TT} (hc : PT X c tc) (ha : PSs X a t) (hb : PSs X b u) : PS X (.If c a b pos) (tIfS tc t u) := by
  intro pins s σ H D I h
  refine wpAny_If (thn (hc pins s σ H _ I h) fun d s1 ⟨H1, I1, q1⟩ => ?_)
  cases d with
  | true => exact ha pins s1 σ H1 D I1 q1
  | false => exact hb pins s1 σ H1 D I1 q1
def tNever : TS := fun _ _ _ => False
theorem pss_never {sts : List Stmt} : PSs X sts tNever := fun _ _ _ _ _ _ h => h.elim
end
abbrev TG := V → St → Hp → (St → Hp → Prop) → Prop
abbrev TGs := List V → St → Hp → (St → Hp → Prop) → Prop
def PG (X : Cx) (target : Expr) (t : TG) : Prop :=
  ∀ (pins : List (Addr × Obj)) (s : Shared) (σ : St) (H : Hp) (v : V) (u : Value) (Q : St → Hp → Prop), Inv X pins σ H s → RelV v u → t v σ H Q →
    wpAny (model X.prog X.w) X.A (assign target X.env u) (fun _ s' => ∃ σ' H', Inv X pins σ' H' s' ∧ Q σ' H') X.xe s
def PGs (X : Cx) (ts : List Expr) (t : TGs) : Prop :=
  ∀ (pins : List (Addr × Obj)) (s : Shared) (σ : St) (H : Hp) (vs : List V) (us : List Value) (Q : St → Hp → Prop), Inv X pins σ H s → Vals vs us → t vs σ H Q →
    wpAny (model X.prog X.w) X.A (assignInOrder ((assignEach ts X.env).map (·.2)) us) (fun _ s' => ∃ σ' H', Inv X pins σ' H' s' ∧ Q σ' H') X.xe s
abbrev TSet := V → V → V → Hp → (Hp → Prop) → Prop
def PSet (X : Cx) (t : TSet) : Prop :=
  ∀ (pins : List (Addr × Obj)) (s : Shared) (σ : St) (H : Hp) (o i v : V) (ov iv u : Value) (Q : Hp → Prop), Inv X pins σ H s → RelV o ov → RelV i iv → RelV v u → t o i v H Q →
    wpAny (model X.prog X.w) X.A (setItem ov iv u) (fun _ s' => ∃ H', Inv X pins σ H' s' ∧ Q H') X.xe s
abbrev TIp := V → V → Hp → VK → Prop
def PIp (X : Cx) (op : Operator) (t : TIp) : Prop :=
  ∀ (pins : List (Addr × Obj)) (s : Shared) (σ : St) (H : Hp) (x y : V) (v u : Value) (Q : VK), Inv X pins σ H s → RelV x v → RelV y u → t x y H Q →
    wpAny (model X.prog X.w) X.A (inplaceOp op v u) (EP X pins σ Q) X.xe s
section
variable {X : Cx} {pos : Pos}
def gName (i : Nat) : TG := fun v σ H Q => Q (σ.set i (some v)) H
theorem pg_name {i : Nat} {x : Str} (hN : X.N.Nodup) (hi : X.N[i]? = some x) (hx : Loc X.env.scope x) (hf : X.fn x = true ∨ X.env.scope.names.lookup x = some .local := by first | exact .inl rfl | exact .inr rfl | assumption) : PG X (.Name x pos) (gName i) := by
  intro pins s σ H v u Q I r h
  exact wpAny_assign_Name (store_ok I hN hi hx r (fun s' I' => ⟨_, H, I', h⟩) hf)
def gNil : TGs := fun vs σ H Q => vs = [] ∧ Q σ H
def gCons (t : TG) (u : TGs) : TGs := fun vs σ H Q => ∃ v r, vs = v :: r ∧ t v σ H fun σ' H' => u r σ' H' Q
def gTup (K : PySem.W.Frag) (n : Nat) (t : TGs) : TG := fun v σ H Q => ∃ a xs, v = .ref a ∧ SqT K H a xs ∧ xs.length = n ∧ t xs σ H Q
def gSub (to ti : TE) (t : TSet) : TG := fun v σ H Q => to σ H fun o H1 => ti σ H1 fun i H2 => t o i v H2 fun H3 => Q σ H3
theorem pg_sub {o i : Expr} {to ti : TE} {t : TSet} (ho : PE X o to) (hi : PE X i ti) (hs : PSet X t)
    (ha : ∀ v, assign (.Subscript o i pos) X.env v = (do
      let ov ← holding [v] (eval o X.env)
      let iv ← holding [v, ov] (eval i X.env)
      standAt pos
      holding [v, ov, iv] (setItem ov iv v)
      release [v, ov, iv] []) := by intro _; rfl) : PG X (.Subscript o i pos) (gSub to ti t) := by
  intro pins s σ H v u Q I r h
  rw [ha]
  refine wpAny_bind (wpAny_holding (thn (ho pins s σ H _ I h) fun ov s1 ⟨x, H1, I1, r1, q1⟩ => ?_))
  refine wpAny_bind (wpAny_holding (thn (hi pins s1 σ H1 _ I1 q1) fun iv s2 ⟨y, H2, I2, r2, q2⟩ => ?_))
  refine wpAny_bind (wpAny_standAt (wpAny_bind (wpAny_holding (thn (hs pins s2 σ H2 x y v ov iv u _ I2 r1 r2 r q2) fun _ s3 ⟨H3, I3, q3⟩ => ?_))))
  exact wpAny_release ⟨σ, H3, I3, q3⟩
def tAsg (te : TE) (g : TG) : TS := fun D σ H => te σ H fun x H1 => g x σ H1 D.nx
theorem ps_asg {tg e : Expr} {te : TE} {g : TG} (he : PE X e te) (hg : PG X tg g) (hs : swapsWithSole [tg] e pos.line X.env = pure false := by rfl) (hw : swappedStores [tg] e X.env = pure none := by rfl)
    (h1 : (assignEach [tg] X.env).map (·.2) = [assign tg X.env] := by rfl) : PS X (.Assign [tg] e pos) (tAsg te g) := by
  intro pins s σ H D I h
  refine wpAny_Assign_stores (thn (he pins s σ H _ I h) fun v s1 ⟨x, H1, I1, r1, q1⟩ => ?_) hs hw
  rw [h1]
  exact thn (hg pins s1 σ H1 x v _ I1 r1 q1) fun _ s2 q => q
theorem ps_set {i : Nat} {x : Str} {e : Expr} {te : TE} {pos' : Pos} (hN : X.N.Nodup) (hi : X.N[i]? = some x) (hx : Loc X.env.scope x) (he : PE X e te) (hs : swapsWith e (some (.Name x pos')) pos.line X.env = pure false := by rfl) (hf : X.fn x = true ∨ X.env.scope.names.lookup x = some .local := by first | exact .inl rfl | exact .inr rfl | assumption) :
    PS X (.Assign [.Name x pos'] e pos) (tAsg te (gName i)) := by
  intro pins s σ H D I h
  refine wpAny_Assign_Name (thn (he pins s σ H _ I h) fun v s1 ⟨y, H1, I1, r1, q1⟩ => ?_) hs
  exact store_ok I1 hN hi hx r1 (fun s2 I2 => ⟨_, H1, I2, q1⟩) hf
def tPar (i j : Nat) (ta : TA) : TS := fun D σ H => ta σ H fun vs H1 => ∃ v w, vs = [v, w] ∧ D.nx ((σ.set i (some v)).set j (some w)) H1
def tAug (i : Nat) (te : TE) (ti : TIp) : TS := fun D σ H => ∃ x, σ[i]? = some (some x) ∧ te σ H fun y H1 => ti x y H1 fun z H2 => D.nx (σ.set i (some z)) H2
def tAugS (to ti te : TE) (tget : V → V → Hp → VK → Prop) (tip : TIp) (tset : TSet) : TS := fun D σ H => to σ H fun o H1 => ti σ H1 fun i H2 => tget o i H2 fun x H3 => te σ H3 fun y H4 => tip x y H4 fun z H5 => tset o i z H5 fun H6 => D.nx σ H6
def PGet (X : Cx) (t : V → V → Hp → VK → Prop) : Prop :=
  ∀ (pins : List (Addr × Obj)) (s : Shared) (σ : St) (H : Hp) (o i : V) (ov iv : Value) (Q : VK), Inv X pins σ H s → RelV o ov → RelV i iv → t o i H Q →
    wpAny (model X.prog X.w) X.A (getItem ov iv) (EP X pins σ Q) X.xe s
def ipI (f : Int → Int → Int) : TIp := fun x y H Q => ∃ i j, x = .int i ∧ y = .int j ∧ Q (.int (f i j)) H
end
section
variable {X : Cx} {pos : Pos}
def tWhile (c : TT) (tb : TS) : TS := fun D σ H => ∃ W : Nat → St → Hp → Prop, (∃ m, W m σ H) ∧ ∀ m σ H, W m σ H →
  c σ H fun b H1 => if b = true then ∃ N : St → Hp → Prop, (∀ σ' H', N σ' H' → ∃ m', m' < m ∧ W m' σ' H') ∧ tb { D with nx := N, ct := N, bk := D.nx } σ H1 else D.nx σ H1
end
structure It where
  go : Nat → Hp → Prop
  yld : Nat → Hp → V → Hp → Prop
  stop : Nat → Hp → Prop
def FpOk (X : Cx) (pins : List (Addr × Obj)) (H : Hp) (b : Addr) : Prop :=
  H b = none ∧ b ≠ X.env.locals ∧ b ∉ X.fs ∧ (b ∈ X.ex ∨ X.s₀.heap.objs.size ≤ b) ∧ (∀ x c, X.env.cells.lookup x = some c → c ≠ b) ∧ ∀ p ∈ X.pn ++ pins, p.1 ≠ b
theorem Inv.fpOk {X : Cx} {pins : List (Addr × Obj)} {σ : St} {H H' : Hp} {s : Shared} {b : Addr} (I : Inv X pins σ H s) (hb : s.heap.objs.size ≤ b) (hn : H' b = none) : FpOk X pins H' b := by
  refine ⟨hn, Nat.ne_of_gt (Nat.lt_of_lt_of_le I.lt hb), I.nofs hb, .inr (Nat.le_trans I.sz hb), fun x c e z => ?_, fun p hp z => ?_⟩
  · obtain ⟨v, q⟩ := I.cell x c e
    exact absurd (Nat.lt_of_lt_of_le q.lt (by rw [z]; exact hb)) (Nat.lt_irrefl _)
  · exact absurd (Nat.lt_of_lt_of_le (Heap.lt_size (I.pin p hp).1) (by rw [z]; exact hb)) (Nat.lt_irrefl _)
structure Turn (P : Program) (w : World) (K : PySem.W.Frag) (tg : Expr) (J : It) (fp : List Addr) (it : Addr) (tn : Nat → Heap → Prop) : Prop where
  mem : it ∈ fp
  obj : ∀ i h, tn i h → ∀ b ∈ fp, ∃ o, h.get? b = some o ∧ ∀ v, o.data ≠ .cell v
  keep : ∀ i h h', tn i h → (∀ b ∈ fp, ∀ o, h.get? b = some o → h'.get? b = some o) → tn i h'
  item : ∀ (X : Cx), X.prog = P → X.w = w → X.K = K → X.calm = true → ∀ (i : Nat) (pins : List (Addr × Obj)) (s : Shared) (σ : St) (H : Hp) (E : Value → Shared → Prop), Inv X pins σ H s → (∀ b ∈ fp, FpOk X pins H b) → tn i s.heap → J.go i H →
    wpAny (model P w) X.A (pyNext (.ref it)) (fun r s1 => ∃ u, r = some u ∧
      wpAny (model P w) X.A (letOwnedTupleGo tg (.ref it) u) (fun _ s2 => ∃ x H', Inv X pins σ H' s2 ∧ RelV x u ∧ J.yld i H x H' ∧ tn (i + 1) s2.heap ∧ ∀ b ∈ fp, H' b = none) E s1) E s
  done : ∀ (X : Cx), X.prog = P → X.w = w → X.K = K → X.calm = true → ∀ (i : Nat) (pins : List (Addr × Obj)) (s : Shared) (σ : St) (H : Hp) (E : Value → Shared → Prop), Inv X pins σ H s → (∀ b ∈ fp, FpOk X pins H b) → tn i s.heap → J.stop i H →
    wpAny (model P w) X.A (pyNext (.ref it)) (fun r s1 => r = none ∧ Inv X pins σ H s1) E s
  self : ∀ (A : Around) (i : Nat) (s : Shared) (Q : Value → Shared → Prop) (E : Value → Shared → Prop), tn i s.heap → Q (.ref it) s → wpAny (model P w) A (pyIter (.ref it)) Q E s
abbrev TI := St → Hp → (It → Hp → Prop) → Prop
def PIE (X : Cx) (pins : List (Addr × Obj)) (σ : St) (tg : Expr) (R : It → Hp → Prop) (itv : Value) (s2 : Shared) : Prop :=
  ∃ (it : Addr) (fp : List Addr) (tn : Nat → Heap → Prop) (J : It) (H' : Hp), itv = .ref it ∧ Inv X pins σ H' s2 ∧ Turn X.prog X.w X.K tg J fp it tn ∧ tn 0 s2.heap ∧ (∀ b ∈ fp, FpOk X pins H' b) ∧ R J H'
def PI (X : Cx) (tg iter : Expr) (wi : TI) : Prop :=
  ∀ (pins : List (Addr × Obj)) (s : Shared) (σ : St) (H : Hp) (R : It → Hp → Prop), Inv X pins σ H s → wi σ H R →
    wpAny (model X.prog X.w) X.A (eval iter X.env) (fun v s1 => wpAny (model X.prog X.w) X.A (pyIter v) (PIE X pins σ tg R) X.xe s1) X.xe s
theorem go_of {M : Model} {A : Around} {E : Value → Shared → Prop} {s : Shared} {tg : Expr} {it : Addr} {u : Value} {o : Obj} {n : String} {vs : Array Value} {Q : Unit → Shared → Prop} (ho : s.heap.get? it = some o) (hc : o.cls = .type n) (hd : o.data = .fields vs)
    (hn : ["enumerate", "zip", "dict_itemiterator", "dict_reverseitemiterator", "odict_iterator", "itertools.zip_longest", "itertools.pairwise"].contains n = false) (hQ : Q () s) : wpAny M A (letOwnedTupleGo tg (.ref it) u) Q E s := by
  unfold letOwnedTupleGo
  cases tg <;> first
    | exact wpAny_pure hQ
    | (cases u <;> first
        | exact wpAny_pure hQ
        | (refine wpAny_bind (wpAny_load ho ?_)
           rw [hc, hd]
           show wpAny M A (if (["enumerate", "zip", "dict_itemiterator", "dict_reverseitemiterator", "odict_iterator", "itertools.zip_longest", "itertools.pairwise"].contains n && vs[0]? == some (rawInt _)) = true then _ else _) Q E s
           rw [if_neg (by intro h; rw [hn, Bool.false_and] at h; cases h)]
           exact wpAny_pure hQ))
def Itl (K : PySem.W.Frag) (a : Addr) : It :=
  ⟨fun i H => ∃ xs x, SqL K H a xs ∧ xs[i]? = some x, fun i H x H' => H' = H ∧ ∀ xs, SqL K H a xs → xs[i]? = some x, fun i H => ∃ xs, SqL K H a xs ∧ xs.length ≤ i⟩
def Itt (K : PySem.W.Frag) (a : Addr) : It :=
  ⟨fun i H => ∃ xs x, SqT K H a xs ∧ xs[i]? = some x, fun i H x H' => H' = H ∧ ∀ xs, SqT K H a xs → xs[i]? = some x, fun i H => ∃ xs, SqT K H a xs ∧ xs.length ≤ i⟩
def Itr (lo : Int) (n : Nat) : It := ⟨fun i _ => i < n, fun i H x H' => H' = H ∧ x = .int (lo + i), fun i _ => n ≤ i⟩
theorem turn_list {P : Program} {w : World} {K : PySem.W.Frag} {tg : Expr} (a it : Addr) : Turn P w K tg (Itl K a) [it] it (fun i h => h.IsListIter it a i) where
  mem := by simp
  obj := fun i h st b hb => by
    have e : b = it := by simpa using hb
    subst e
    obtain ⟨o, e, c, d⟩ := st
    exact ⟨o, e, fun v z => by rw [d] at z; cases z⟩
  keep := fun i h h' st k => st.at fun o e => k it (by simp) o e
  item := by
    intro X hP hw hK hc i pins s σ H E I hf st hg
    subst hP hw hK
    obtain ⟨xs, x, hq, hx⟩ := hg
    obtain ⟨its, rv, p, hz⟩ := I.list hq
    obtain ⟨u, hu, ru⟩ := rv.get hx
    obtain ⟨f0, f1, f2, f3, f4, f5⟩ := hf it (by simp)
    refine wpAny_pyNext_list_item st p.isList (x := u) (by simpa using hu) fun h' st' sb => ?_
    have I1 : Inv X pins σ H { s with heap := h' } := I.turned (t' := s.toks) (fun b o hb e => (sb.2 b hb).trans e) f0 f1 f3 f4 f5
    obtain ⟨o, e, c, d⟩ := id st'
    exact ⟨u, rfl, go_of (s := { s with heap := h' }) e c d (by decide) ⟨x, H, I1, ru, ⟨rfl, fun ys hy => by rw [I.list_inj hy hq]; exact hx⟩, st', fun b hb => (hf b hb).1⟩⟩
  done := by
    intro X hP hw hK hc i pins s σ H E I hf st hg
    subst hP hw hK
    obtain ⟨xs, hq, hx⟩ := hg
    obtain ⟨its, rv, p, hz⟩ := I.list hq
    obtain ⟨f0, f1, f2, f3, f4, f5⟩ := hf it (by simp)
    have hl := rv.length
    exact wpAny_pyNext_list_end (I.ok.hd hc) st p.isList (by simp; omega) fun h' eb => ⟨rfl, I.turned (t' := s.toks) (fun b o hb e => eb b o hb e) f0 f1 f3 f4 f5⟩
  self := fun _ _ _ _ _ st h => wpAny_pyIter_listiter st h
theorem turn_tuple {P : Program} {w : World} {K : PySem.W.Frag} {tg : Expr} (a it : Addr) : Turn P w K tg (Itt K a) [it] it (fun i h => h.IsTupleIter it a i) where
  mem := by simp
  obj := fun i h st b hb => by
    have e : b = it := by simpa using hb
    subst e
    obtain ⟨o, e, c, d⟩ := st
    exact ⟨o, e, fun v z => by rw [d] at z; cases z⟩
  keep := fun i h h' st k => st.at fun o e => k it (by simp) o e
  item := by
    intro X hP hw hK hc i pins s σ H E I hf st hg
    subst hP hw hK
    obtain ⟨xs, x, hq, hx⟩ := hg
    obtain ⟨its, rv, p, hz⟩ := I.tuple hq
    obtain ⟨u, hu, ru⟩ := rv.get hx
    obtain ⟨f0, f1, f2, f3, f4, f5⟩ := hf it (by simp)
    refine wpAny_pyNext_tuple_item st (show s.heap.IsTuple a its.toArray from p) (x := u) (by simpa using hu) fun h' st' sb => ?_
    have I1 : Inv X pins σ H { s with heap := h' } := I.turned (t' := s.toks) (fun b o hb e => (sb.2 b hb).trans e) f0 f1 f3 f4 f5
    obtain ⟨o, e, c, d⟩ := id st'
    exact ⟨u, rfl, go_of (s := { s with heap := h' }) e c d (by decide) ⟨x, H, I1, ru, ⟨rfl, fun ys hy => by rw [I.tuple_inj hy hq]; exact hx⟩, st', fun b hb => (hf b hb).1⟩⟩
  done := by
    intro X hP hw hK hc i pins s σ H E I hf st hg
    subst hP hw hK
    obtain ⟨xs, hq, hx⟩ := hg
    obtain ⟨its, rv, p, hz⟩ := I.tuple hq
    obtain ⟨f0, f1, f2, f3, f4, f5⟩ := hf it (by simp)
    have hl := rv.length
    exact wpAny_pyNext_tuple_end (I.ok.hd hc) st (show s.heap.IsTuple a its.toArray from p) (by simp; omega) fun h' eb => ⟨rfl, I.turned (t' := s.toks) (fun b o hb e => eb b o hb e) f0 f1 f3 f4 f5⟩
  self := fun _ _ _ _ _ st h => wpAny_pyIter_tupleiter st h
theorem turn_range {P : Program} {w : World} {K : PySem.W.Frag} {tg : Expr} (it : Addr) (lo : Int) (n : Nat) : Turn P w K tg (Itr lo n) [it] it (fun i h => IsRangeIter h it (lo + (i : Nat) * 1) ((n : Int) - (i : Nat)) 1) where
  mem := by simp
  obj := fun i h st b hb => by
    have e : b = it := by simpa using hb
    subst e
    exact ⟨_, st, fun v z => by
      have z' : Data.fields _ = Data.cell v := z
      cases z'⟩
  keep := fun i h h' st k => k it (by simp) _ st
  item := by
    intro X hP hw hK hc i pins s σ H E I hf st hg
    subst hP hw hK
    obtain ⟨f0, f1, f2, f3, f4, f5⟩ := hf it (by simp)
    have W := Walks.range (prog := X.prog) (w := X.w) (I.ok.hd hc) it lo 1 n
    refine W.item i s _ _ hg st fun v h' tk hv st' kk => ?_
    obtain ⟨t, rfl⟩ := hv
    have I1 : Inv X pins σ H { s with heap := h', toks := tk } := I.turned (fun b o hb e => kk b o (by simpa using hb) e) f0 f1 f3 f4 f5
    refine ⟨_, rfl, go_of (s := { s with heap := h', toks := tk }) (n := "range_iterator") st' rfl rfl (by decide) ⟨.int (lo + i), H, I1, ⟨t, ?_⟩, ⟨rfl, rfl⟩, st', fun b hb => (hf b hb).1⟩⟩
    rw [Int.mul_one]
  done := by
    intro X hP hw hK hc i pins s σ H E I hf st hg
    subst hP hw hK
    obtain ⟨f0, f1, f2, f3, f4, f5⟩ := hf it (by simp)
    exact wpAny_pyNext_range_end (I.ok.hd hc) st (by have : n ≤ i := hg; omega) fun h' eb => ⟨rfl, I.turned (t' := s.toks) (fun b o hb e => eb b o hb e) f0 f1 f3 f4 f5⟩
  self := fun _ _ _ _ _ st h => wpAny_pyIter_rangeiter st h
end L2
namespace L2
open PySem PySem.Spec PyProof.Rows
section
variable {X : Cx} {tg : Expr}
def iList (K : PySem.W.Frag) (tl : TE) : TI := fun σ H R => tl σ H fun x H1 => ∃ a, x = .ref a ∧ (∃ xs, SqL K H1 a xs) ∧ R (Itl K a) H1
def iTup (K : PySem.W.Frag) (tl : TE) : TI := fun σ H R => tl σ H fun x H1 => ∃ a, x = .ref a ∧ (∃ xs, SqT K H1 a xs) ∧ R (Itt K a) H1
theorem range_it {pins : List (Addr × Obj)} {σ : St} {H : Hp} {s : Shared} {R : It → Hp → Prop} {E : Value → Shared → Prop} {lo hi : Int} {t u v : Tok} {tk : Nat} (I : Inv X pins σ H s) (h1 : -(2 ^ 62) ≤ lo) (h2 : lo < 2 ^ 62) (h3 : -(2 ^ 62) ≤ hi) (h4 : hi < 2 ^ 62)
    (q : R (Itr lo (hi - lo).toNat) H) : wpAny (model X.prog X.w) X.A (pyIter (.ref s.heap.objs.size)) (PIE X pins σ tg R) E { s with heap := s.heap.push { cls := .type "range", data := .fields #[.int lo t, .int hi u, .int 1 v] }, toks := tk } := by
  refine wpAny_pyIter_range (IsRange.new ..) (small_one h1 h2 h3 h4) ?_
  have I1 : Inv X pins σ H { s with heap := s.heap.push { cls := .type "range", data := .fields #[.int lo t, .int hi u, .int 1 v] }, toks := tk } := I.kept fun b o e => Heap.get?_push_of_some _ e
  refine ⟨(s.heap.push { cls := .type "range", data := .fields #[.int lo t, .int hi u, .int 1 v] }).objs.size, [(s.heap.push { cls := .type "range", data := .fields #[.int lo t, .int hi u, .int 1 v] }).objs.size], _, _, H, rfl,
    I1.kept (t' := tk) fun b o e => Heap.get?_push_of_some _ e, turn_range _ lo (hi - lo).toNat, ?_, fun b hb => ?_, q⟩
  · have e1 : lo + ((0 : Nat) : Int) * 1 = lo := by simp
    have e2 : (((hi - lo).toNat : Nat) : Int) - ((0 : Nat) : Int) = Builtin.Range.rangeSize lo hi 1 := by rw [rangeSize_one]; split <;> omega
    show IsRangeIter _ _ (lo + ((0 : Nat) : Int) * 1) ((((hi - lo).toNat : Nat) : Int) - ((0 : Nat) : Int)) 1
    rw [e1, e2]
    exact Heap.get?_push_size _ rfl
  · have e : b = (s.heap.push { cls := .type "range", data := .fields #[.int lo t, .int hi u, .int 1 v] }).objs.size := by simpa using hb
    subst e
    exact I1.fpOk (Nat.le_refl _) (I1.hok.fresh (Nat.le_refl _))
def iRng1 (ta : TA) : TI := fun σ H R => ta σ H fun vs H1 => ∃ j : Int, vs = [.int j] ∧ -(2 ^ 62) ≤ j ∧ j < 2 ^ 62 ∧ R (Itr 0 j.toNat) H1
def iRng2 (ta : TA) : TI := fun σ H R => ta σ H fun vs H1 => ∃ i j : Int, vs = [.int i, .int j] ∧ (-(2 ^ 62) ≤ i ∧ i < 2 ^ 62 ∧ -(2 ^ 62) ≤ j ∧ j < 2 ^ 62) ∧ R (Itr i (j - i).toNat) H1
theorem pi_range1 {a : Expr} {ta : TA} {p pos : Pos} (hg : Gl X "range") (hm : X.mg "range" = none) (ha : PA X [a] ta) (hs : starEach [a] X.env = [(false, eval a X.env)] := by rfl) : PI X tg (.Call (.Name "range" p) [a] [] pos) (iRng1 ta) := by
  intro pins s σ H R I h
  refine Call_ (ld_blt I hg hm boot_range (PyProof.Rows.callWith_type1 (thn (ha pos pins s σ H _ I h) fun us s1 ⟨vs, H1, I1, r1, q1⟩ => ?_) hs rfl))
  obtain ⟨j, e, q1, q2, q⟩ := q1
  subst e
  cases r1 with
  | cons r rr =>
    cases rr
    obtain ⟨t, rfl⟩ := r
    exact call_range_1 (range_it I1 (by omega) (by omega) q1 q2 (by simpa using q))
def tFor (wi : TI) (g : TG) (tb : TS) : TS := fun D σ H => wi σ H fun J H1 => ∃ W : Nat → Nat → St → Hp → Prop, (∃ m, W 0 m σ H1) ∧ ∀ i m σ H, W i m σ H →
  (J.stop i H ∧ D.nx σ H) ∨ (J.go i H ∧ ∃ N : St → Hp → Prop, (∀ σ' H', N σ' H' → ∃ m', m' < m ∧ W (i + 1) m' σ' H') ∧ ∀ x H', J.yld i H x H' → g x σ H' fun σ2 H2 => tb { D with nx := N, ct := N, bk := D.nx } σ2 H2)
def pinsAt (fp : List Addr) (h : Heap) : List (Addr × Obj) := fp.filterMap fun b => (h.get? b).map fun o => (b, o)
theorem mem_pinsAt {fp : List Addr} {h : Heap} {b : Addr} {o : Obj} (hb : b ∈ fp) (e : h.get? b = some o) : (b, o) ∈ pinsAt fp h := List.mem_filterMap.mpr ⟨b, hb, by rw [e]; rfl⟩
theorem of_pinsAt {fp : List Addr} {h : Heap} {p : Addr × Obj} (hp : p ∈ pinsAt fp h) : p.1 ∈ fp ∧ h.get? p.1 = some p.2 := by
  obtain ⟨b, hb, e⟩ := List.mem_filterMap.mp hp
  cases q : h.get? b with
  | none => rw [q] at e; cases e
  | some o =>
    rw [q] at e
    have e' : (b, o) = p := Option.some.inj e
    subst e'
    exact ⟨hb, q⟩
theorem Inv.pinned {pins : List (Addr × Obj)} {σ : St} {H : Hp} {s : Shared} {fp : List Addr} (I : Inv X pins σ H s) (hf : ∀ b ∈ fp, FpOk X pins H b) (ho : ∀ b ∈ fp, ∃ o, s.heap.get? b = some o ∧ ∀ v, o.data ≠ .cell v) : Inv X (pins ++ pinsAt fp s.heap) σ H s :=
  I.pins_of fun p hp => (List.mem_append.mp hp).elim (fun z => I.pin p (List.mem_append_right _ z)) fun z => by
    obtain ⟨hb, e⟩ := of_pinsAt z
    obtain ⟨f0, f1, f2, _⟩ := hf p.1 hb
    obtain ⟨o, e', d⟩ := ho p.1 hb
    rw [e] at e'; cases e'
    exact ⟨e, f0, f1, f2, d⟩
theorem Inv.unpinned {pins pl : List (Addr × Obj)} {σ : St} {H : Hp} {s : Shared} (I : Inv X (pins ++ pl) σ H s) : Inv X pins σ H s := I.pins_of fun p hp => I.pin p (List.mem_append_right _ (List.mem_append_left _ hp))
theorem ps_for {iter : Expr} {body : List Stmt} {wi : TI} {g : TG} {tb : TS} {pos : Pos} (hp : PassesOwn (model X.prog X.w) X.A X.env X.xe) (hc : X.calm = true) (hi : PI X tg iter wi) (hg : PG X tg g) (hb : PSs X body tb)
    (hs : ∀ x, foldedSetIterable iter X.env x = pure x := by intro _; rfl) : PS X (.For tg iter body [] pos) (tFor wi g tb) := by
  intro pins s σ H D I h
  refine wpAny_For (thn (hi pins s σ H _ I h) fun v s1 h1 => thn h1 fun itv s2 h2 => ?_) hs
  obtain ⟨it, fp, tn, J, H2, e, I2, T, st2, f2, W, ⟨m0, w0⟩, turn⟩ := h2
  subst e
  have stat : ∀ {H' : Hp}, (∀ b ∈ fp, H' b = none) → ∀ b ∈ fp, FpOk X pins H' b := fun hn b hb => ⟨hn b hb, (f2 b hb).2⟩
  refine codeAny_forLoop_any (fun n s' => ∃ i σ' H', Inv X pins σ' H' s' ∧ tn i s'.heap ∧ (∀ b ∈ fp, H' b = none) ∧ W i n σ' H') ?_ m0 ⟨0, σ, H2, I2, st2, fun b hb => (f2 b hb).1, w0⟩
  rintro n s3 ⟨i, σ3, H3, I3, st3, fr3, w3⟩
  rcases turn i n σ3 H3 w3 with ⟨stop, qn⟩ | ⟨go, N, hN, step⟩
  · refine wpAny_passesOwn hp (thn (T.done X rfl rfl rfl hc i pins s3 σ3 H3 X.xe I3 (stat fr3) st3 stop) fun r s4 ⟨hr, I4⟩ => ?_)
    subst hr
    exact wpAny_execs_nil ⟨σ3, H3, I4, qn⟩
  · refine wpAny_passesOwn hp (thn (T.item X rfl rfl rfl hc i pins s3 σ3 H3 X.xe I3 (stat fr3) st3 go) fun r s4 ⟨u, hr, h4⟩ => ?_)
    subst hr
    refine wpAny_passesOwn hp (thn h4 fun _ s5 ⟨x, H5, I5, r5, y5, st5, fr5⟩ => ?_)
    have I5' := I5.pinned (stat fr5) (T.obj _ _ st5)
    refine wpAny_passesOwn hp (thn (hg _ s5 σ3 H5 x u _ I5' r5 (step x H5 y5)) fun _ s6 ⟨σ6, H6, I6, q6⟩ => ?_)
    refine wpAny_passesOwn hp (thn (hb _ s6 σ6 H6 _ I6 q6) fun f s7 q7 => ?_)
    have again : ∀ {σ7 : St} {H7 : Hp}, Inv X (pins ++ pinsAt fp s5.heap) σ7 H7 s7 → N σ7 H7 → ∃ m, m < n ∧ ∃ i σ' H', Inv X pins σ' H' s7 ∧ tn i s7.heap ∧ (∀ b ∈ fp, H' b = none) ∧ W i m σ' H' := fun {σ7 H7} I7 n7 => by
      obtain ⟨m', hm, w7⟩ := hN σ7 H7 n7
      refine ⟨m', hm, i + 1, σ7, H7, I7.unpinned, T.keep _ _ _ st5 fun b hb o e => (I7.pin (b, o) (List.mem_append_right _ (List.mem_append_right _ (mem_pinsAt hb e)))).1, fun b hb => ?_, w7⟩
      obtain ⟨o, e, d⟩ := T.obj _ _ st5 b hb
      exact (I7.pin (b, o) (List.mem_append_right _ (List.mem_append_right _ (mem_pinsAt hb e)))).2.1
    cases f with
    | next => obtain ⟨σ7, H7, I7, n7⟩ := q7; exact again I7 n7
    | cont => obtain ⟨σ7, H7, I7, n7⟩ := q7; exact again I7 n7
    | brk => obtain ⟨σ7, H7, I7, q7⟩ := q7; exact ⟨σ7, H7, I7.unpinned, q7⟩
    | ret v => obtain ⟨x7, σ7, H7, I7, r7, q7⟩ := q7; exact ⟨x7, σ7, H7, I7.unpinned, r7, q7⟩
end
theorem for_list {K : PySem.W.Frag} {a : Addr} {xs : List V} {g : TG} {tb : TS} {D : Ends} {σ : St} {H : Hp} (Pv : Nat → St → Hp → Prop) (h0 : Pv 0 σ H) (hl : ∀ i σ H, i ≤ xs.length → Pv i σ H → SqL K H a xs)
    (hs : ∀ i x σ H, xs[i]? = some x → Pv i σ H → g x σ H fun σ2 H2 => tb { D with nx := Pv (i + 1), ct := Pv (i + 1), bk := D.nx } σ2 H2) (hd : ∀ σ H, Pv xs.length σ H → D.nx σ H) :
    ∃ W : Nat → Nat → St → Hp → Prop, (∃ m, W 0 m σ H) ∧ ∀ i m σ H, W i m σ H →
      ((Itl K a).stop i H ∧ D.nx σ H) ∨ ((Itl K a).go i H ∧ ∃ N : St → Hp → Prop, (∀ σ' H', N σ' H' → ∃ m', m' < m ∧ W (i + 1) m' σ' H') ∧ ∀ x H', (Itl K a).yld i H x H' → g x σ H' fun σ2 H2 => tb { D with nx := N, ct := N, bk := D.nx } σ2 H2) := by
  refine ⟨fun i m σ H => m = xs.length - i ∧ i ≤ xs.length ∧ Pv i σ H, ⟨xs.length, by simp, Nat.zero_le _, h0⟩, ?_⟩
  rintro i m σ H ⟨rfl, hi, p⟩
  have q := hl i σ H hi p
  by_cases hlt : i < xs.length
  · refine .inr ⟨⟨xs, xs[i], q, by simp [hlt]⟩, Pv (i + 1), fun σ' H' p' => ⟨xs.length - (i + 1), by omega, rfl, hlt, p'⟩, fun x H' y => ?_⟩
    obtain ⟨e, y⟩ := y
    subst e
    exact hs i x σ _ (y xs q) p
  · have e : i = xs.length := by omega
    subst e
    exact .inl ⟨⟨xs, q, Nat.le_refl _⟩, hd σ H p⟩
theorem for_range {lo : Int} {n : Nat} {g : TG} {tb : TS} {D : Ends} {σ : St} {H : Hp} (Pv : Nat → St → Hp → Prop) (h0 : Pv 0 σ H)
    (hs : ∀ i σ H, i < n → Pv i σ H → g (.int (lo + i)) σ H fun σ2 H2 => tb { D with nx := Pv (i + 1), ct := Pv (i + 1), bk := D.nx } σ2 H2) (hd : ∀ σ H, Pv n σ H → D.nx σ H) :
    ∃ W : Nat → Nat → St → Hp → Prop, (∃ m, W 0 m σ H) ∧ ∀ i m σ H, W i m σ H →
      ((Itr lo n).stop i H ∧ D.nx σ H) ∨ ((Itr lo n).go i H ∧ ∃ N : St → Hp → Prop, (∀ σ' H', N σ' H' → ∃ m', m' < m ∧ W (i + 1) m' σ' H') ∧ ∀ x H', (Itr lo n).yld i H x H' → g x σ H' fun σ2 H2 => tb { D with nx := N, ct := N, bk := D.nx } σ2 H2) := by
  refine ⟨fun i m σ H => m = n - i ∧ i ≤ n ∧ Pv i σ H, ⟨n, by simp, Nat.zero_le _, h0⟩, ?_⟩
  rintro i m σ H ⟨rfl, hi, p⟩
  by_cases hlt : i < n
  · refine .inr ⟨hlt, Pv (i + 1), fun σ' H' p' => ⟨n - (i + 1), by omega, rfl, hlt, p'⟩, fun x H' y => ?_⟩
    obtain ⟨e, y⟩ := y
    subst e y
    exact hs i σ _ hlt p
  · have e : i = n := by omega
    subst e
    exact .inl ⟨Nat.le_refl _, hd σ H p⟩
end L2
namespace L2
open PySem PySem.Spec PyProof.Rows
abbrev R2 := V → V → Hp → VK → Prop
def OpR (X : Cx) (f : Value → Value → Sem Value) (r : R2) : Prop :=
  ∀ (pins : List (Addr × Obj)) (s : Shared) (σ : St) (H : Hp) (x y : V) (v u : Value) (Q : VK), Inv X pins σ H s → RelV x v → RelV y u → r x y H Q →
    wpAny (model X.prog X.w) X.A (f v u) (EP X pins σ Q) X.xe s
def UnR (X : Cx) (f : Value → Sem Value) (r : V → Hp → VK → Prop) : Prop :=
  ∀ (pins : List (Addr × Obj)) (s : Shared) (σ : St) (H : Hp) (x : V) (v : Value) (Q : VK), Inv X pins σ H s → RelV x v → r x H Q →
    wpAny (model X.prog X.w) X.A (f v) (EP X pins σ Q) X.xe s
def CallR (X : Cx) (f : Value) (r : List V → Hp → VK → Prop) : Prop :=
  ∀ (pins : List (Addr × Obj)) (s : Shared) (σ : St) (H : Hp) (xs : List V) (us : List Value) (Q : VK), Inv X pins σ H s → Vals xs us → r xs H Q →
    wpAny (model X.prog X.w) X.A (call f us) (EP X pins σ Q) X.xe s
def TruR (X : Cx) (r : V → Hp → (Bool → Hp → Prop) → Prop) : Prop :=
  ∀ (pins : List (Addr × Obj)) (s : Shared) (σ : St) (H : Hp) (x : V) (v : Value) (Q : Bool → Hp → Prop), Inv X pins σ H s → RelV x v → r x H Q →
    wpAny (model X.prog X.w) X.A (truthy v) (TP X pins σ Q) X.xe s
def tOp (r : R2) (ta tb : TE) : TE := fun σ H Q => ta σ H fun x H1 => tb σ H1 fun y H2 => r x y H2 Q
def tUn (r : V → Hp → VK → Prop) (ta : TE) : TE := fun σ H Q => ta σ H fun x H1 => r x H1 Q
def rI (C : Int → Int → Prop) (g : Int → Int → V) : R2 := fun x y H Q => ∃ i j, x = .int i ∧ y = .int j ∧ C i j ∧ Q (g i j) H
def rI0 (g : Int → Int → V) : R2 := fun x y H Q => ∃ i j, x = .int i ∧ y = .int j ∧ Q (g i j) H
def rU (g : Int → V) : V → Hp → VK → Prop := fun x H Q => ∃ i, x = .int i ∧ Q (g i) H
section
variable {X : Cx} {a b c : Expr} {ta tb tc : TE} {pos : Pos}
theorem binT (ha : PE X a ta) (hb : PE X b tb) {pins : List (Addr × Obj)} {s : Shared} {σ : St} {H : Hp} {R : V → V → Hp → Prop} (I : Inv X pins σ H s)
    (h : ta σ H fun x H1 => tb σ H1 fun y H2 => R x y H2) {Q : Value → Shared → Prop} {f : Value → Value → Sem Value}
    (hf : ∀ v u s2 x y H2, Inv X pins σ H2 s2 → RelV x v → RelV y u → R x y H2 → wpAny (model X.prog X.w) X.A (f v u) Q X.xe s2) :
    wpAny (model X.prog X.w) X.A (eval a X.env) (fun v s₁ => wpAny (model X.prog X.w) X.A (eval b X.env) (fun u s₂ => wpAny (model X.prog X.w) X.A (f v u) Q X.xe s₂) X.xe s₁) X.xe s := by
  refine thn (ha pins s σ H _ I h) fun v s1 ⟨x, H1, I1, r1, q1⟩ => ?_
  refine thn (hb pins s1 σ H1 _ I1 q1) fun u s2 ⟨y, H2, I2, r2, q2⟩ => ?_
  exact hf v u s2 x y H2 I2 r1 r2 q2
theorem pe_op {op : Operator} {r : R2} (ho : OpR X (binaryOp op) r) (ha : PE X a ta) (hb : PE X b tb) : PE X (.BinOp a op b pos) (tOp r ta tb) := by
  intro pins s σ H Q I h
  exact wpAny_BinOp (binT ha hb I h fun v u s2 x y H2 I2 rx ry q => ho pins s2 σ H2 x y v u Q I2 rx ry q)
theorem opI {f : Value → Value → Sem Value} {C : Int → Int → Prop} {g : Int → Int → Int}
    (rule : ∀ (i j : Int) (t u : Tok) (s : Shared) (Q : Value → Shared → Prop) (E : Value → Shared → Prop), C i j → Q (.int (g i j) s.toks) { s with toks := s.toks + 1 } → wpAny (model X.prog X.w) X.A (f (.int i t) (.int j u)) Q E s) :
    OpR X f (rI C fun i j => .int (g i j)) := by
  intro pins s σ H x y v u Q I rx ry h
  obtain ⟨i, j, rfl, rfl, hc, q⟩ := h
  obtain ⟨t, rfl⟩ := rx
  obtain ⟨t', rfl⟩ := ry
  exact rule i j t t' s _ _ hc ⟨.int (g i j), H, I.tok _, ⟨_, rfl⟩, q⟩
theorem opI0 {f : Value → Value → Sem Value} {g : Int → Int → Int}
    (rule : ∀ (i j : Int) (t u : Tok) (s : Shared) (Q : Value → Shared → Prop) (E : Value → Shared → Prop), Q (.int (g i j) s.toks) { s with toks := s.toks + 1 } → wpAny (model X.prog X.w) X.A (f (.int i t) (.int j u)) Q E s) :
    OpR X f (rI0 fun i j => .int (g i j)) := by
  intro pins s σ H x y v u Q I rx ry h
  obtain ⟨i, j, rfl, rfl, q⟩ := h
  obtain ⟨t, rfl⟩ := rx
  obtain ⟨t', rfl⟩ := ry
  exact rule i j t t' s _ _ ⟨.int (g i j), H, I.tok _, ⟨_, rfl⟩, q⟩
theorem opB0 {f : Value → Value → Sem Value} {g : Int → Int → Bool}
    (rule : ∀ (i j : Int) (t u : Tok) (s : Shared) (Q : Value → Shared → Prop) (E : Value → Shared → Prop), Q (.bool (g i j)) s → wpAny (model X.prog X.w) X.A (f (.int i t) (.int j u)) Q E s) :
    OpR X f (rI0 fun i j => .bl (g i j)) := by
  intro pins s σ H x y v u Q I rx ry h
  obtain ⟨i, j, rfl, rfl, q⟩ := h
  obtain ⟨t, rfl⟩ := rx
  obtain ⟨t', rfl⟩ := ry
  exact rule i j t t' s _ _ ⟨.bl (g i j), H, I, rfl, q⟩
def CDiv (i j : Int) : Prop := 0 < j ∧ j < 1073741824
def CDivN (i j : Int) : Prop := j ≠ 0 ∧ j.natAbs < 1073741824
def CPow (i j : Int) : Prop := 0 ≤ j ∧ j ≤ 1000000 ∧ i.natAbs < 2 ^ 64
def CMul (i j : Int) : Prop := (-(2 ^ 64) < i ∧ i < 2 ^ 64) ∨ (-(2 ^ 64) < j ∧ j < 2 ^ 64)
theorem CMul.ok {i j : Int} (h : CMul i j) : IntMulOk i j := by
  rcases h with ⟨h1, h2⟩ | ⟨h1, h2⟩
  · exact .of_left (intBits_le_64 h1 h2)
  · exact .of_right (intBits_le_64 h1 h2)
theorem op_add : OpR X (binaryOp .Add) (rI0 fun i j => .int (i + j)) := opI0 fun _ _ _ _ _ _ _ q => add_int q
theorem op_sub : OpR X (binaryOp .Sub) (rI0 fun i j => .int (i - j)) := opI0 fun _ _ _ _ _ _ _ q => sub_int q
theorem op_mul : OpR X (binaryOp .Mult) (rI CMul fun i j => .int (i * j)) := opI fun _ _ _ _ _ _ _ hc q => mul_int q hc.ok
theorem op_mod : OpR X (binaryOp .Mod) (rI (fun _ j => 0 < j) fun i j => .int (i % j)) := opI fun i j _ _ _ _ _ hc q => by
  have h1 : (0 : Int) < j := hc
  exact mod_int' (by omega) (by rw [Int.fmod_eq_emod_of_nonneg i (by omega)]; exact q)
theorem op_pow : OpR X (binaryOp .Pow) (rI CPow fun i j => .int (i ^ j.toNat)) := opI fun _ _ _ _ _ _ _ hc q => pow_int_small hc.1 hc.2.1 hc.2.2 q
end
def scal : V → V → Bool
  | .non, .non => true | .non, .int _ => true | .int _, .non => true | .non, .bl _ => true | .bl _, .non => true | .non, .str _ => true | .str _, .non => true
  | .int _, .int _ => true | .bl _, .bl _ => true | .str _, .str _ => true | .byt _, .byt _ => true
  | .int _, .str _ => true | .str _, .int _ => true | .bl _, .str _ => true | .str _, .bl _ => true
  | _, _ => false
def rEq : R2 := fun x y H Q => scal x y = true ∧ Q (.bl (decide (x = y))) H
def rNe : R2 := fun x y H Q => scal x y = true ∧ Q (.bl (!decide (x = y))) H
theorem dec_int {i j : Int} : decide (V.int i = V.int j) = (i == j) := by
  rw [Bool.eq_iff_iff]
  simp
theorem dec_bl {i j : Bool} : decide (V.bl i = V.bl j) = (i == j) := by
  rw [Bool.eq_iff_iff]
  simp
theorem dec_str {i j : Str} : decide (V.str i = V.str j) = (i == j) := by
  rw [Bool.eq_iff_iff]
  simp
theorem dec_byt {i j : Array UInt8} : decide (V.byt i = V.byt j) = (i.toList == j.toList) := by
  rw [Bool.eq_iff_iff]
  cases i
  cases j
  simp
section
variable {X : Cx} {a b c : Expr} {ta tb tc : TE} {pos : Pos}
theorem fin_bl {pins : List (Addr × Obj)} {σ : St} {H : Hp} {s : Shared} {Q : VK} {k k' : Bool} (I : Inv X pins σ H s) (q : Q (.bl k) H) (e : k = k') : EP X pins σ Q (.bool k') s := by
  subst e
  exact ⟨.bl k, H, I, rfl, q⟩
theorem op_eq : OpR X (compareOp .Eq) rEq := by
  intro pins s σ H x y v u Q I rx ry h
  obtain ⟨hs, q⟩ := h
  cases x with
  | non =>
    cases rx
    cases y with
    | non => cases ry; exact PySem.EqNone.eq_none_none (fin_bl I q (by simp))
    | bl j => cases ry; exact PySem.EqNone.eq_none_bool (fin_bl I q (by simp))
    | int j => obtain ⟨t', rfl⟩ := ry; exact PySem.EqNone.eq_none_int (fin_bl I q (by simp))
    | str j => obtain ⟨t', rfl⟩ := ry; exact PySem.EqNone.eq_none_str (fin_bl I q (by simp))
    | _ => exact absurd (show false = true from hs) Bool.false_ne_true
  | bl i =>
    cases rx
    cases y with
    | non => cases ry; exact PySem.EqNone.eq_bool_none (fin_bl I q (by simp))
    | bl j => cases ry; exact eq_bool (fin_bl I q dec_bl)
    | str j => obtain ⟨t', rfl⟩ := ry; exact PySem.EqMixed.eq_bool_str (fin_bl I q (by simp))
    | _ => exact absurd (show false = true from hs) Bool.false_ne_true
  | int i =>
    obtain ⟨t, rfl⟩ := rx
    cases y with
    | non => cases ry; exact PySem.EqNone.eq_int_none (fin_bl I q (by simp))
    | int j => obtain ⟨t', rfl⟩ := ry; exact eq_int (fin_bl I q dec_int)
    | str j => obtain ⟨t', rfl⟩ := ry; exact PySem.EqMixed.eq_int_str (fin_bl I q (by simp))
    | _ => exact absurd (show false = true from hs) Bool.false_ne_true
  | str i =>
    obtain ⟨t, rfl⟩ := rx
    cases y with
    | non => cases ry; exact PySem.EqNone.eq_str_none (fin_bl I q (by simp))
    | bl j => cases ry; exact PySem.EqMixed.eq_str_bool (fin_bl I q (by simp))
    | int j => obtain ⟨t', rfl⟩ := ry; exact PySem.EqMixed.eq_str_int (fin_bl I q (by simp))
    | str j => obtain ⟨t', rfl⟩ := ry; exact eq_str (fin_bl I q dec_str)
    | _ => exact absurd (show false = true from hs) Bool.false_ne_true
  | byt i =>
    obtain ⟨t, rfl⟩ := rx
    cases y with
    | byt j => obtain ⟨t', rfl⟩ := ry; exact PySem.W.eq_bytes (fin_bl I q dec_byt)
    | _ => exact absurd (show false = true from hs) Bool.false_ne_true
  | _ => cases y <;> exact absurd (show false = true from hs) Bool.false_ne_true
theorem op_ne : OpR X (compareOp .NotEq) rNe := by
  intro pins s σ H x y v u Q I rx ry h
  obtain ⟨hs, q⟩ := h
  cases x with
  | non =>
    cases rx
    cases y with
    | non => cases ry; exact PySem.EqNone.ne_none_none (fin_bl I q (by simp))
    | bl j => cases ry; exact PySem.EqNone.ne_none_bool (fin_bl I q (by simp))
    | int j => obtain ⟨t', rfl⟩ := ry; exact PySem.EqNone.ne_none_int (fin_bl I q (by simp))
    | str j => obtain ⟨t', rfl⟩ := ry; exact PySem.EqNone.ne_none_str (fin_bl I q (by simp))
    | _ => exact absurd (show false = true from hs) Bool.false_ne_true
  | bl i =>
    cases rx
    cases y with
    | non => cases ry; exact PySem.EqNone.ne_bool_none (fin_bl I q (by simp))
    | bl j => cases ry; exact ne_bool (fin_bl I q (congrArg not dec_bl))
    | str j => obtain ⟨t', rfl⟩ := ry; exact PySem.EqMixed.ne_bool_str (fin_bl I q (by simp))
    | _ => exact absurd (show false = true from hs) Bool.false_ne_true
  | int i =>
    obtain ⟨t, rfl⟩ := rx
    cases y with
    | non => cases ry; exact PySem.EqNone.ne_int_none (fin_bl I q (by simp))
    | int j => obtain ⟨t', rfl⟩ := ry; exact ne_int (fin_bl I q (congrArg not dec_int))
    | str j => obtain ⟨t', rfl⟩ := ry; exact PySem.EqMixed.ne_int_str (fin_bl I q (by simp))
    | _ => exact absurd (show false = true from hs) Bool.false_ne_true
  | str i =>
    obtain ⟨t, rfl⟩ := rx
    cases y with
    | non => cases ry; exact PySem.EqNone.ne_str_none (fin_bl I q (by simp))
    | bl j => cases ry; exact PySem.EqMixed.ne_str_bool (fin_bl I q (by simp))
    | int j => obtain ⟨t', rfl⟩ := ry; exact PySem.EqMixed.ne_str_int (fin_bl I q (by simp))
    | str j => obtain ⟨t', rfl⟩ := ry; exact ne_str (fin_bl I q (congrArg not dec_str))
    | _ => exact absurd (show false = true from hs) Bool.false_ne_true
  | byt i =>
    obtain ⟨t, rfl⟩ := rx
    cases y with
    | byt j => obtain ⟨t', rfl⟩ := ry; exact PySem.W.ne_bytes (fin_bl I q (congrArg not dec_byt))
    | _ => exact absurd (show false = true from hs) Bool.false_ne_true
  | _ => cases y <;> exact absurd (show false = true from hs) Bool.false_ne_true
theorem op_lt : OpR X (compareOp .Lt) (rI0 fun i j => .bl (decide (i < j))) := opB0 fun _ _ _ _ _ _ _ q => lt_int q
theorem op_le : OpR X (compareOp .LtE) (rI0 fun i j => .bl (decide (i ≤ j))) := opB0 fun _ _ _ _ _ _ _ q => le_int q
theorem op_in_str : OpR X (compareOp .In) (fun x y H Q => ∃ i j, x = .str i ∧ y = .str j ∧ Q (.bl (!(Builtin.Str.occurrences j i 0 j.length 1).isEmpty)) H) := by
  intro pins s σ H x y v u Q I rx ry h
  obtain ⟨i, j, rfl, rfl, q⟩ := h
  obtain ⟨t, rfl⟩ := rx
  obtain ⟨t', rfl⟩ := ry
  exact in_str (fin_bl I q rfl)
theorem op_isN : OpR X (compareOp .Is) (fun x y H Q => y = .non ∧ Q (.bl (decide (x = .non))) H) := by
  intro pins s σ H x y v u Q I rx ry h
  obtain ⟨rfl, q⟩ := h
  cases ry
  refine is_none_gen (fin_bl I q ?_)
  cases x <;> first
    | (cases rx; rfl)
    | (obtain ⟨t, rfl⟩ := rx; rfl)
def isObj : HO → Bool
  | .lst _ => true
  | .ins _ _ _ => true
  | _ => false
theorem OpR.or {f : Value → Value → Sem Value} {r r' : R2} (h : OpR X f r) (h' : OpR X f r') : OpR X f (fun x y H Q => r x y H Q ∨ r' x y H Q) := by
  intro pins s σ H x y v u Q I rx ry q
  rcases q with q | q
  · exact h pins s σ H x y v u Q I rx ry q
  · exact h' pins s σ H x y v u Q I rx ry q
theorem nomark (b : Expr) {op : CmpOp} (h : op ≠ .In := by decide) (h2 : op ≠ .NotIn := by decide) : behindInMarks op b = false := by
  have e1 : (op == CmpOp.In) = false := by cases op <;> first | rfl | exact absurd rfl h
  have e2 : (op == CmpOp.NotIn) = false := by cases op <;> first | rfl | exact absurd rfl h2
  cases b <;> simp [behindInMarks, e1, e2]
theorem pe_cmpR {op : CmpOp} {r : R2} (ho : OpR X (compareOp op) r) (ha : PE X a ta) (hb : PE X b tb) (hm : behindInMarks op b = false) : PE X (.Compare a [op] [b] pos) (tOp r ta tb) := by
  intro pins s σ H Q I h
  exact wpAny_Compare1 (binT ha hb I h fun v u s2 x y H2 I2 rx ry q => ho pins s2 σ H2 x y v u Q I2 rx ry q) hm
def tTest (t : TE) : TT := fun σ H Q => t σ H fun x H' => ∃ k, x = .bl k ∧ Q k H'
theorem pt_cmpR {op : CmpOp} {r : R2} (ho : OpR X (compareOp op) r) (ha : PE X a ta) (hb : PE X b tb) (hm : behindInMarks op b = false) : PT X (.Compare a [op] [b] pos) (tTest (tOp r ta tb)) := by
  intro pins s σ H Q I h
  refine wpAny_isTrue_Compare1 (thn (ha pins s σ H _ I h) fun v s1 ⟨x, H1, I1, r1, q1⟩ => thn (hb pins s1 σ H1 _ I1 q1) fun u s2 ⟨y, H2, I2, r2, q2⟩ =>
    thn (ho pins s2 σ H2 x y v u _ I2 r1 r2 q2) fun c s3 ⟨z, H3, I3, r3, k, e, q3⟩ => ?_) hm
  subst e
  cases r3
  exact wpAny_truthy_bool ⟨H3, I3, q3⟩
def tChain (r r' : R2) (ta tb tc : TE) : TE := fun σ H Q => ta σ H fun x H1 => tb σ H1 fun y H2 => r x y H2 fun z H3 => ∃ k, z = .bl k ∧
  (if k = true then tc σ H3 fun w' H4 => r' y w' H4 Q else Q (.bl false) H3)
theorem pe_chain {op op' : CmpOp} {r r' : R2} (ho : OpR X (compareOp op) r) (ho' : OpR X (compareOp op') r') (ha : PE X a ta) (hb : PE X b tb) (hc : PE X c tc)
    (hm : lastMarks [op, op'] [b, c] = false := by with_unfolding_all rfl) : PE X (.Compare a [op, op'] [b, c] pos) (tChain r r' ta tb tc) := by
  intro pins s σ H Q I h
  refine Compare_chain (thn (ha pins s σ H _ I h) fun v s1 ⟨x, H1, I1, r1, q1⟩ => chain_link (thn (hb pins s1 σ H1 _ I1 q1) fun u s2 ⟨y, H2, I2, r2, q2⟩ =>
    thn (ho pins s2 σ H2 x y v u _ I2 r1 r2 q2) fun d s3 ⟨z, H3, I3, r3, k, e, q3⟩ => ?_)) hm
  subst e
  cases r3
  refine wpAny_truthy_bool ?_
  cases k with
  | false => exact ite_ff ⟨.bl false, H3, I3, rfl, q3⟩
  | true => exact ite_tt (chain_last (thn (hc pins s3 σ H3 _ I3 q3) fun w' s4 ⟨z', H4, I4, r4, q4⟩ => ho' pins s4 σ H4 y z' u w' Q I4 r2 r4 q4))
def TruV (K : PySem.W.Frag) (x : V) (H : Hp) (k : Bool) : Prop :=
  match x with
  | .non => k = false
  | .bl b => k = b
  | .int i => k = (i != 0)
  | .str y => y.length ≤ sizeLine ∧ k = ((y.length : Int) != 0)
  | .byt y => y.size ≤ sizeLine ∧ k = ((y.size : Int) != 0)
  | .ref p => (∃ xs, SqL K H p xs ∧ k = !xs.isEmpty) ∨ (∃ xs, SqT K H p xs ∧ k = !xs.isEmpty) ∨ ∃ kvs, H p = some (.dK kvs) ∧ k = !kvs.isEmpty
  | _ => False
theorem isEmpty_kv {κ : Type} {kvs : List (κ × V)} {vs : List (κ × Value)} (r : KV kvs vs) : (!vs.isEmpty) = !kvs.isEmpty := by
  cases r <;> rfl
theorem isEmpty_of {xs : List V} {its : List Value} (r : Vals xs its) : (!its.toArray.isEmpty) = !xs.isEmpty := by
  cases r <;> simp
theorem line63 : (sizeLine : Nat) < 2 ^ 63 := by rw [sizeLine_eq]; decide
theorem tru_ok : TruR X (fun x H Q => ∃ k, TruV X.K x H k ∧ Q k H) := by
  intro pins s σ H x v Q I rx h
  obtain ⟨k, e, q⟩ := h
  have hl := line63
  have hs : sizeLine = 16777216 := sizeLine_eq
  cases x with
  | non =>
    cases rx
    have e' : k = false := e
    subst e'
    exact truthy_none ⟨H, I, q⟩
  | bl b =>
    cases rx
    have e' : k = b := e
    subst e'
    exact wpAny_truthy_bool ⟨H, I, q⟩
  | int i =>
    obtain ⟨t, rfl⟩ := rx
    have e' : k = (i != 0) := e
    subst e'
    exact PySem.P.truthy_int ⟨H, I, q⟩
  | str y =>
    obtain ⟨t, rfl⟩ := rx
    obtain ⟨hy, e'⟩ : y.length ≤ sizeLine ∧ k = ((y.length : Int) != 0) := e
    subst e'
    exact PySem.P.truthy_str (by omega) ⟨H, I.tok _, q⟩
  | byt y =>
    obtain ⟨t, rfl⟩ := rx
    obtain ⟨hy, e'⟩ : y.size ≤ sizeLine ∧ k = ((y.size : Int) != 0) := e
    subst e'
    exact PySem.W.truthy_bytes (by omega) ⟨H, I.tok _, q⟩
  | ref p =>
    cases rx
    have e' : (∃ xs, SqL X.K H p xs ∧ k = !xs.isEmpty) ∨ (∃ xs, SqT X.K H p xs ∧ k = !xs.isEmpty) ∨ ∃ kvs, H p = some (.dK kvs) ∧ k = !kvs.isEmpty := e
    rcases e' with ⟨xs, hx, e'⟩ | ⟨xs, hx, e'⟩ | ⟨kvs, hx, e'⟩
    · subst e'
      obtain ⟨its, r, pl, hz⟩ := I.list hx
      have hlen := r.length
      exact wpAny_truthy_list pl.isList (by simp only [List.size_toArray]; omega) ⟨H, I.tok _, by rw [isEmpty_of r]; exact q⟩
    · subst e'
      obtain ⟨its, r, pl, hz⟩ := I.tuple hx
      have hlen := r.length
      exact truthy_tuple pl (by simp only [List.size_toArray]; omega) ⟨H, I.tok _, by rw [isEmpty_of r]; exact q⟩
    · subst e'
      obtain ⟨hz, hS, vs, r, m⟩ : kvs.length ≤ sizeLine ∧ (p == sysModules) = false ∧ ∃ vs, KV kvs vs ∧ s.heap.DictOf (mixKind X.prog X.w) p vs := I.hok p _ hx
      have hlen : kvs.length = vs.length := Paired.length r
      exact wpAny_truthy_dict hS m (by omega) ⟨H, I.tok _, by rw [isEmpty_kv r]; exact q⟩
  | _ => exact (show False from e).elim
theorem pt_truth (ha : PE X a ta) (he : ∀ whole, isTrue a X.env whole = (do let v ← whole; standAt a.pos; holding [v] (truthy v))) :
    PT X a (fun σ H Q => ta σ H fun x H' => ∃ k, TruV X.K x H' k ∧ Q k H') := by
  intro pins s σ H Q I h
  exact isTrue_plain (thn (ha pins s σ H _ I h) fun v s1 ⟨x, H1, I1, r1, q1⟩ => tru_ok pins s1 σ H1 x v Q I1 r1 q1) (he _)
theorem op_add_str : OpR X (binaryOp .Add) (fun x y H Q => ∃ i j, x = .str i ∧ y = .str j ∧ i.length + j.length ≤ sizeLine ∧ Q (.str (i ++ j)) H) := by
  intro pins s σ H x y v u Q I rx ry h
  obtain ⟨i, j, rfl, rfl, hz, q⟩ := h
  obtain ⟨t, rfl⟩ := rx
  obtain ⟨t', rfl⟩ := ry
  exact add_str (fun t' tk => ⟨.str (i ++ j), H, I.tok _, ⟨_, rfl⟩, q⟩) hz
def PlainIxT (b : Expr) : Prop := ∀ o i, subscripted b false o i = operate [o, i] (getItem o i)
theorem vals1 {x : V} {us : List Value} (r : Vals [x] us) : ∃ u, us = [u] ∧ RelV x u := by
  cases r with
  | cons r1 r2 => cases r2; exact ⟨_, rfl, r1⟩
theorem vals2 {x y : V} {us : List Value} (r : Vals [x, y] us) : ∃ u w', us = [u, w'] ∧ RelV x u ∧ RelV y w' := by
  cases r with
  | cons r1 r2 =>
    cases r2 with
    | cons r3 r4 => cases r4; exact ⟨_, _, rfl, r1, r3⟩
def LenV (K : PySem.W.Frag) (x : V) (H : Hp) (n : Nat) : Prop :=
  match x with
  | .str y => y.length ≤ sizeLine ∧ n = y.length
  | .byt y => y.size ≤ sizeLine ∧ n = y.size
  | .ref p => (∃ xs, SqL K H p xs ∧ n = xs.length) ∨ ∃ xs, SqT K H p xs ∧ n = xs.length
  | _ => False
theorem call_len : CallR X (.builtin "len") (fun xs H Q => ∃ x n, xs = [x] ∧ LenV X.K x H n ∧ Q (.int n) H) := by
  intro pins s σ H xs us Q I r h
  obtain ⟨x, n, rfl, e, q⟩ := h
  obtain ⟨u, rfl, rx⟩ := vals1 r
  have hl := line63
  have hs : sizeLine = 16777216 := sizeLine_eq
  cases x with
  | str y =>
    obtain ⟨t, rfl⟩ := rx
    obtain ⟨hy, e'⟩ : y.length ≤ sizeLine ∧ n = y.length := e
    subst e'
    exact len_str (by omega) ⟨.int _, H, I.tok _, ⟨_, rfl⟩, q⟩
  | byt y =>
    obtain ⟨t, rfl⟩ := rx
    obtain ⟨hy, e'⟩ : y.size ≤ sizeLine ∧ n = y.size := e
    subst e'
    exact PySem.W.len_bytes (by omega) ⟨.int _, H, I.tok _, ⟨_, rfl⟩, q⟩
  | ref p =>
    cases rx
    have e' : (∃ xs, SqL X.K H p xs ∧ n = xs.length) ∨ ∃ xs, SqT X.K H p xs ∧ n = xs.length := e
    rcases e' with ⟨xs, hx, e'⟩ | ⟨xs, hx, e'⟩
    · subst e'
      obtain ⟨its, r', pl, hz⟩ := I.list hx
      have hlen := r'.length
      exact Calls.call_len_list pl.isList (by simp only [List.size_toArray]; omega) ⟨.int xs.length, H, I.tok _, ⟨_, by simp only [List.size_toArray]; rw [hlen]⟩, q⟩
    · subst e'
      obtain ⟨its, r', pl, hz⟩ := I.tuple hx
      have hlen := r'.length
      exact len_tuple pl (by simp only [List.size_toArray]; omega) ⟨.int xs.length, H, I.tok _, ⟨_, by simp only [List.size_toArray]; rw [hlen]⟩, q⟩
  | _ => exact (show False from e).elim
end
end L2
namespace L2
open PySem PySem.Spec PyProof.Rows
structure ObjM (h : Heap) (x dx C : Addr) (mA : Str → Option Value) : Prop where
  obj : h.get? x = some (PySem.W.instObj C dx)
  ns : h.Ns1 dx mA
  ne : dx ≠ x
theorem lookIn_ns {h : Heap} {dx : Addr} {mA : Str → Option Value} (n : h.Ns1 dx mA) : ∃ od, h.get? dx = some od ∧ ∀ name, PySem.W.lookIn name od = some (mA name) := by
  obtain ⟨o, es, ep, ho, hd, hk, _, hm⟩ := n
  refine ⟨o, ho, fun name => ?_⟩
  have e := hm name
  unfold nsFind findBy at e
  rw [← Array.find?_toList] at e
  unfold PySem.W.lookIn
  rw [hd]
  dsimp only
  split
  · rename_i y q
    rw [q] at e
    exact congrArg some e
  · rename_i q
    rw [q] at e
    have a : es.toList.any (·.refKey) = false := by
      rw [List.any_eq_false]
      intro y hy
      obtain ⟨z, t, hkey⟩ := hk y (Array.mem_toList_iff.mp hy)
      simp [DictEntry.refKey, hkey]
    have a' : ¬ es.toList.any (·.refKey) = true := by rw [a]; exact Bool.false_ne_true
    rw [if_neg a']
    exact congrArg some e
theorem ObjM.look {h : Heap} {x dx C : Addr} {mA : Str → Option Value} (I : ObjM h x dx C mA) : ∃ od, PySem.W.InstAt h x (PySem.W.instObj C dx) C (some od) ∧ ∀ name, PySem.W.lookIn name od = some (mA name) :=
  let ⟨od, ho, hl⟩ := lookIn_ns I.ns
  ⟨od, ⟨I.obj, rfl, rfl, ho⟩, hl⟩
section
variable {prog : Program} {w : World} {A : Around} {E : Value → Shared → Prop} {s : Shared} {K : PySem.W.Frag} {x dx C f : Addr} {mA : Str → Option Value} {name : Str} {v : Value}
theorem get_map {expr : Bool} {Q : Value → Shared → Prop} (X : K.In s.heap) (I : ObjM s.heap x dx C mA) (hg : PySem.W.plainGet K C name = true) (hh : PySem.W.hasDictIn K C = true)
    (ha : PySem.W.findIn K (.ref C) name = some none) (hv : mA name = some v) (hv' : PySem.W.handedIn v = true) (h : Q v { s with toks := s.toks + 1 }) :
    wpAny (model prog w) A (getAttr (.ref x) name expr) Q E s := by
  obtain ⟨od, J, hl⟩ := I.look
  exact PySem.W.get_value X J (PySem.W.plainGet_of hg).1 (PySem.W.findObj_own hh ha rfl (by rw [hl, hv])) hv' h
theorem get_meth {pl : Sem Bool} {Q : Value × List Value → Shared → Prop} (X : K.In s.heap) (I : ObjM s.heap x dx C mA) (hg : PySem.W.plainGet K C name = true)
    (hf : PySem.W.findIn K (.ref C) name = some (some (.ref f))) (ht : PySem.W.isFn K (.ref f) = true) (hv : mA name = none) (h : Q (.ref f, [.ref x]) s) :
    wpAny (model prog w) A (getMethod (.ref x) name pl) Q E s := by
  obtain ⟨od, J, hl⟩ := I.look
  exact PySem.W.method_fn X J (PySem.W.plainGet_of hg).1 (PySem.W.plainGet_of hg).2 hf (beq_iff_eq.mp ht) (by show (PySem.W.lookIn name od).map (·.isSome) = some false; rw [hl, hv]; rfl) h
theorem set_map {ns : List Str} {Q : Unit → Shared → Prop} (X : K.In s.heap) (I : ObjM s.heap x dx C mA)
    (hs : PySem.W.findIn K (.ref C) "__setattr__" = some (some (.builtin "object.__setattr__"))) (hp : PySem.W.plainOver K C = true) (ht : PySem.W.takerIn K C name = some none) (hh : PySem.W.hasDictIn K C = true)
    (hw : PySem.Within mA ns) (hsz : ns.length ≤ sizeLine)
    (h : ∀ h', ObjM h' x dx C (fun y => if y = name then some v else mA y) → Heap.SameBut dx s.heap h' → Q () { s with heap := h', toks := s.toks + 2 }) :
    wpAny (model prog w) A (setAttr (.ref x) name v) Q E s := by
  obtain ⟨od, J, hl⟩ := I.look
  refine PySem.W.set_plain X J hs (PySem.W.osa_open (s := { s with toks := s.toks + 1 }) (r := none) X J hp ht fun b => ?_)
  obtain ⟨cd, hc, hd'⟩ := PySem.W.any_some hh
  have hx : s.heap.get? x = some ⟨.ref C, some dx, .plain, #[]⟩ := I.obj
  refine wpAny_bind (wpAny_pure (wpAny_bind (wpAny_bind (wpAny_loadPart hx (wpAny_bind (PySem.W.Looks.here (s := { s with toks := s.toks + 1 }) (PySem.W.looks_clsIn X hc) ?_))))))
  rw [hd']
  refine wpAny_pure (a := some dx) (wpAny_bind (wpAny_pure (wpAny_bind ?_)))
  refine wpAny_nsSet1 (s := { s with toks := s.toks + 1 }) I.ns fun h' hn2 hs2 => ?_
  obtain ⟨oD, esD, epD, hoD, hdD, hcD⟩ := hn2.count (PySem.Within.cons name v hw)
  refine wpAny_bind (wpAny_lookBehind hoD (by rw [hdD]; exact pastItsLine_dict (Nat.le_trans hcD (by rw [List.length_cons]; omega))) ?_)
  exact wpAny_pure (h _ ⟨(hs2.2 _ (Ne.symm I.ne)).trans I.obj, hn2, I.ne⟩ hs2)
theorem make_map {R : Result → Shared → Prop} {vs : List Value} {kw : List (Str × Value)} (X : K.In s.heap) (hm : PySem.W.makesIn K C = true)
    (hi : PySem.W.findIn K (.ref C) "__init__" = some (some (.ref f))) (hf : PySem.W.typeIn K (.ref f) = some (.type "function"))
    (h : codeAny (model prog w) (A.under (.builtin "type.__call__" ⟨.ref C :: vs, kw⟩)) (.call (.ref f) ⟨.ref (s.heap.objs.size + 1) :: vs, kw⟩) (PySem.W.InitBack (s.heap.objs.size + 1) R)
      { s with heap := (s.heap.push PySem.W.emptyDict).push (PySem.W.instObj C s.heap.objs.size) }) :
    codeAny (model prog w) A (.call (.ref C) ⟨vs, kw⟩) R s := by
  obtain ⟨hh, g, d, t, os⟩ := s
  exact PySem.W.make_core (PySem.W.makes_of X hm) (PySem.W.looks_findIn X hi) (fun self => PySem.W.bind_fn X self hf) (.inl rfl) h
end
def putF (f : Str) (v : V) : List (Str × V) → List (Str × V)
  | [] => [(f, v)]
  | (g, x) :: r => if g = f then (g, v) :: r else (g, x) :: putF f v r
theorem lookup_putF (f g : Str) (v : V) : ∀ fs : List (Str × V), (putF f v fs).lookup g = if g = f then some v else fs.lookup g
  | [] => by
    show List.lookup g [(f, v)] = _
    by_cases h : g = f
    · have hb : (g == f) = true := beq_iff_eq.mpr h
      simp only [List.lookup, hb, if_pos h]
    · have hb : (g == f) = false := beq_eq_false_iff_ne.mpr h
      simp only [List.lookup, hb, if_neg h]
  | (k, x) :: r => by
    have ih := lookup_putF f g v r
    rw [show putF f v ((k, x) :: r) = (if k = f then (k, v) :: r else (k, x) :: putF f v r) from rfl]
    by_cases hk : k = f
    · rw [if_pos hk]
      by_cases h : g = k
      · have hb : (g == k) = true := beq_iff_eq.mpr h
        simp only [List.lookup, hb, if_pos (h.trans hk)]
      · have hb : (g == k) = false := beq_eq_false_iff_ne.mpr h
        simp only [List.lookup, hb, if_neg (fun e : g = f => h (e.trans hk.symm))]
    · rw [if_neg hk]
      by_cases h : g = k
      · have hb : (g == k) = true := beq_iff_eq.mpr h
        simp only [List.lookup, hb, if_neg (fun e : g = f => hk (h.symm.trans e))]
      · have hb : (g == k) = false := beq_eq_false_iff_ne.mpr h
        simp only [List.lookup, hb]
        exact ih
theorem keys_putF (f : Str) (v : V) : ∀ fs : List (Str × V), f ∈ (putF f v fs).map (·.1) ∧ ∀ g, g ∈ fs.map (·.1) → g ∈ (putF f v fs).map (·.1)
  | [] => ⟨by simp [putF], fun g h => by simp at h⟩
  | (k, x) :: r => by
    obtain ⟨i1, i2⟩ := keys_putF f v r
    rw [show putF f v ((k, x) :: r) = (if k = f then (k, v) :: r else (k, x) :: putF f v r) from rfl]
    by_cases hk : k = f
    · rw [if_pos hk]
      subst hk
      exact ⟨by simp, fun g h => by simpa using h⟩
    · rw [if_neg hk]
      refine ⟨?_, fun g h => ?_⟩
      · rw [List.map_cons]
        exact List.mem_cons_of_mem _ i1
      · rw [List.map_cons] at h ⊢
        rcases List.mem_cons.mp h with e | e
        · exact List.mem_cons.mpr (.inl e)
        · exact List.mem_cons_of_mem _ (i2 g e)
theorem length_putF (f : Str) (v : V) : ∀ fs : List (Str × V), (putF f v fs).length ≤ fs.length + 1
  | [] => by simp [putF]
  | (k, x) :: r => by
    have ih := length_putF f v r
    rw [show putF f v ((k, x) :: r) = (if k = f then (k, v) :: r else (k, x) :: putF f v r) from rfl]
    by_cases hk : k = f
    · rw [if_pos hk, List.length_cons, List.length_cons]; omega
    · rw [if_neg hk, List.length_cons, List.length_cons]; omega
theorem RelO.some_of {v : V} {o : Option Value} (r : RelO (some v) o) : ∃ u, o = some u ∧ RelV v u := by
  cases o with
  | none => exact (show False from r).elim
  | some u => exact ⟨u, rfl, r⟩
theorem RelO.none_of {o : Option Value} (r : RelO none o) : o = none := by
  cases o with
  | none => rfl
  | some u => exact (show False from r).elim
theorem handed_of {v : V} {u : Value} (r : RelV v u) : PySem.W.handedIn u = true := by
  cases v with
  | non => cases (show u = Value.none from r); rfl
  | bl b => cases (show u = Value.bool b from r); rfl
  | int i => obtain ⟨t, e⟩ := (show ∃ t, u = Value.int i t from r); cases e; rfl
  | str x => obtain ⟨t, e⟩ := (show ∃ t, u = Value.str x t from r); cases e; rfl
  | byt b => obtain ⟨t, e⟩ := (show ∃ t, u = Value.bytes b t from r); cases e; rfl
  | flt b => obtain ⟨t, e⟩ := (show ∃ t, u = Value.float b t from r); cases e; rfl
  | ref a => cases (show u = Value.ref a from r); rfl
  | ty n => cases (show u = Value.type n from r); rfl
section
variable {P : Program} {w : World} {H H' : Hp} {h h' : Heap} {a C dx : Addr} {fs fs' : List (Str × V)}
theorem ins_get (hok : HOk P w H h) (e : H a = some (.ins C dx fs)) : ∃ mA, ObjM h a dx C mA ∧ (∀ f, RelO (fs.lookup f) (mA f)) ∧ PySem.Within mA (fs.map (·.1)) ∧ fs.length ≤ 1000 ∧ H dx = some (.own a) := by
  obtain ⟨d, z, ne, ob, mA, n, r, q⟩ := (show ObjOk P w H h a (.ins C dx fs) from hok a _ e)
  exact ⟨mA, ⟨ob, n, ne⟩, r, q, z, d⟩
end
structure Cls (K : PySem.W.Frag) (C : Addr) : Prop where
  pg : PySem.W.plainGet K C Str.empty = true
  hd : PySem.W.hasDictIn K C = true
  po : PySem.W.plainOver K C = true
  sa : PySem.W.findIn K (.ref C) "__setattr__" = some (some (.builtin "object.__setattr__"))
theorem Cls.get {K : PySem.W.Frag} {C : Addr} (c : Cls K C) (f : Str) : PySem.W.plainGet K C f = true := c.pg
def NoAttr (K : PySem.W.Frag) (C : Addr) (f : Str) : Prop := PySem.W.findIn K (.ref C) f = some none
theorem NoAttr.taker {K : PySem.W.Frag} {C : Addr} {f : Str} (n : NoAttr K C f) : PySem.W.takerIn K C f = some none := by
  unfold PySem.W.takerIn
  rw [show PySem.W.findIn K (.ref C) f = some none from n]
  rfl
structure Con (K : PySem.W.Frag) (C : Addr) (f : Str) (v : V) (u : Value) : Prop where
  at_ : PySem.W.findIn K (.ref C) f = some (some u)
  rel : RelV v u
  get : PySem.W.specialIn K u "__get__" = some none
  cp : PySem.W.copiedNames.contains f = false
structure Meth (K : PySem.W.Frag) (C : Addr) (m : Str) (f : Addr) : Prop where
  at_ : PySem.W.findIn K (.ref C) m = some (some (.ref f))
  fn : PySem.W.isFn K (.ref f) = true
  kp : PySem.W.keepIn K (.ref f) = true
section
variable {X : Cx} {pins : List (Addr × Obj)} {σ : St} {H : Hp} {s : Shared} {a C dx : Addr} {fs : List (Str × V)} {f : Str} {v : V} {A : Around} {E : Value → Shared → Prop}
theorem getattr_ok {b : Bool} {Q : Value → Shared → Prop} (I : Inv X pins σ H s) (e : H a = some (.ins C dx fs)) (c : Cls X.K C) (n : NoAttr X.K C f) (l : fs.lookup f = some v)
    (h : ∀ u s', Inv X pins σ H s' → RelV v u → Q u s') : wpAny (model X.prog X.w) A (getAttr (.ref a) f b) Q E s := by
  obtain ⟨mA, O, r, _, _, _⟩ := ins_get I.hok e
  obtain ⟨u, hu, ru⟩ := RelO.some_of (v := v) (o := mA f) (by rw [← l]; exact r f)
  exact get_map I.kIn O (c.get f) c.hd n hu (handed_of ru) (h u _ (I.tok _) ru)
theorem getmeth_ok {m : Str} {g : Addr} {pl : Sem Bool} {Q : Value × List Value → Shared → Prop} (I : Inv X pins σ H s) (e : H a = some (.ins C dx fs)) (c : Cls X.K C) (k : Meth X.K C m g) (l : fs.lookup m = none)
    (h : Q (.ref g, [.ref a]) s) : wpAny (model X.prog X.w) A (getMethod (.ref a) m pl) Q E s := by
  obtain ⟨mA, O, r, _, _, _⟩ := ins_get I.hok e
  have hn : mA m = none := RelO.none_of (by rw [← l]; exact r m)
  exact get_meth I.kIn O (c.get m) k.at_ k.fn hn h
theorem setattr_ok {y : V} {u : Value} {Q : Unit → Shared → Prop} (I : Inv X pins σ H s) (e : H a = some (.ins C dx fs)) (c : Cls X.K C) (n : NoAttr X.K C f) (hl : fs.length < 1000) (ry : RelV y u)
    (h : ∀ s', Inv X pins σ (upd H a (.ins C dx (putF f y fs))) s' → Q () s') : wpAny (model X.prog X.w) A (setAttr (.ref a) f u) Q E s := by
  obtain ⟨mA, O, r, wi, _, ho⟩ := ins_get I.hok e
  have hz : (fs.map (·.1)).length ≤ sizeLine := by rw [List.length_map, sizeLine_eq]; omega
  refine set_map I.kIn O c.sa c.po n.taker c.hd wi hz fun h' O' sb => h _ ?_
  have hd : ∃ o, h'.get? dx = some o := let ⟨o, _, _, e', _⟩ := O'.ns; ⟨o, e'⟩
  refine I.write (x := a) (e := dx) (by rw [e]; exact True.intro) (.inr ho) (fun b q hb z => (sb.2 b hb).trans z) hd ?_
  refine ⟨by rw [upd_ne O.ne]; exact ho, ?_, O.ne, O'.obj, _, O'.ns, fun g => ?_, fun g hg => ?_⟩
  · have := length_putF f y fs; omega
  · show RelO ((putF f y fs).lookup g) (if g = f then some u else mA g)
    rw [lookup_putF]
    by_cases q : g = f
    · rw [if_pos q, if_pos q]; exact ry
    · rw [if_neg q, if_neg q]; exact r g
  · by_cases q : g = f
    · rw [q]; exact (keys_putF f y fs).1
    · refine (keys_putF f y fs).2 g (wi g fun z => hg ?_)
      show (if g = f then some u else mA g) = none
      rw [if_neg q]; exact z
theorem Inv.made (I : Inv X pins σ H s) : Inv X pins σ (upd (upd H s.heap.objs.size (.own (s.heap.objs.size + 1))) (s.heap.objs.size + 1) (.ins C s.heap.objs.size []))
    { s with heap := (s.heap.push PySem.W.emptyDict).push (PySem.W.instObj C s.heap.objs.size) } := by
  have e1 : (s.heap.push PySem.W.emptyDict).get? s.heap.objs.size = some PySem.W.emptyDict := Heap.get?_push_size s.heap rfl
  have e2 : ((s.heap.push PySem.W.emptyDict).push (PySem.W.instObj C s.heap.objs.size)).get? (s.heap.objs.size + 1) = some (PySem.W.instObj C s.heap.objs.size) := by
    have := Heap.get?_push_size (s.heap.push PySem.W.emptyDict) (o := PySem.W.instObj C s.heap.objs.size) rfl
    rwa [Heap.size_push] at this
  have e3 : (s.heap.push PySem.W.emptyDict).Ns s.heap.objs.size (fun _ => none) := ⟨PySem.W.emptyDict, #[], _, e1, rfl, (fun e he => absurd he (by simp)), fun _ => rfl⟩
  have I1 := I.laid (a := s.heap.objs.size) (o := .own (s.heap.objs.size + 1)) (h' := s.heap.push PySem.W.emptyDict) (t' := s.toks) (fun b u q => Heap.get?_push_of_some _ q) (Nat.le_refl _) ⟨_, e1⟩
  refine I1.laid (a := s.heap.objs.size + 1) (o := .ins C s.heap.objs.size []) (t' := s.toks) (fun b u q => Heap.get?_push_of_some _ q) (Nat.le_of_eq (Heap.size_push _ _)) ?_
  have ne : s.heap.objs.size ≠ s.heap.objs.size + 1 := Nat.ne_of_lt (Nat.lt_succ_self _)
  refine ⟨by rw [upd_ne ne, upd_same], Nat.zero_le _, ne, e2, fun _ => none, (Heap.Ns1.of_empty e3).at fun o q => Heap.get?_push_of_some _ q, fun _ => True.intro, fun y hy => absurd rfl hy⟩
theorem attr_of {prog : Program} {w : World} {env : Env} {e : Expr} {f : Str} {pos : Pos} {s : Shared} {Q : Value → Shared → Prop} (hb : attributeBase e f env (eval e env) = eval e env)
    (h : wpAny (model prog w) A (eval e env) (fun o s₁ => wpAny (model prog w) A (getAttr o f true) Q E s₁) E s) : wpAny (model prog w) A (eval (.Attribute e f pos) env) Q E s :=
  Attribute_any_ h (by rw [arm_eval_Attribute, hb])
end
def tFld (K : PySem.W.Frag) (ta : TE) (f : Str) : TE := fun σ H Q => ta σ H fun x H1 => ∃ a C dx fs v, x = .ref a ∧ H1 a = some (.ins C dx fs) ∧ Cls K C ∧ NoAttr K C f ∧ fs.lookup f = some v ∧ Q v H1
def tCon (K : PySem.W.Frag) (ta : TE) (f : Str) : TE := fun σ H Q => ta σ H fun x H1 => ∃ a C dx fs v u, x = .ref a ∧ H1 a = some (.ins C dx fs) ∧ Cls K C ∧ Con K C f v u ∧ fs.lookup f = none ∧ Q v H1
def sFld (K : PySem.W.Frag) (ta tv : TE) (f : Str) : TS := fun D σ H => tv σ H fun y H1 => ta σ H1 fun x H2 => ∃ a C dx fs, x = .ref a ∧ H2 a = some (.ins C dx fs) ∧ Cls K C ∧ NoAttr K C f ∧ fs.length < 1000 ∧
  D.nx σ (upd H2 a (.ins C dx (putF f y fs)))
def InOp (X : Cx) (op : Operator) (rd : V → V → Hp → VK → Prop) : Prop :=
  ∀ (pins : List (Addr × Obj)) (s : Shared) (σ : St) (H : Hp) (x y : V) (u v : Value) (Q : VK), Inv X pins σ H s → RelV x u → RelV y v → rd x y H Q → wpAny (model X.prog X.w) X.A (inplaceOp op u v) (EP X pins σ Q) X.xe s
def sFldAug (K : PySem.W.Frag) (ta tv : TE) (rd : V → V → Hp → VK → Prop) (f : Str) : TS := fun D σ H => ta σ H fun x H1 => ∃ a C dx fs v, x = .ref a ∧ H1 a = some (.ins C dx fs) ∧ Cls K C ∧ NoAttr K C f ∧ fs.lookup f = some v ∧
  tv σ H1 fun y H2 => rd v y H2 fun z H3 => ∃ dx' fs', H3 a = some (.ins C dx' fs') ∧ fs'.length < 1000 ∧ D.nx σ (upd H3 a (.ins C dx' (putF f z fs')))
section
variable {X : Cx} {o e value : Expr} {f : Str} {pos pos' tpos : Pos} {ta tv : TE}
theorem pe_fld (he : PE X e ta) (hb : attributeBase e f X.env (eval e X.env) = eval e X.env) : PE X (.Attribute e f pos) (tFld X.K ta f) := by
  intro pins s σ H Q I h
  refine attr_of hb (thn (he pins s σ H _ I h) fun u s1 ⟨x, H1, I1, rx, a, C, dx, fs, v, ex, ea, c, n, l, q⟩ => ?_)
  subst ex
  obtain rfl : u = Value.ref a := rx
  exact getattr_ok I1 ea c n l fun u' s2 I2 ru => ⟨v, H1, I2, ru, q⟩
theorem ps_fld (ha : PE X o ta) (hv : PE X value tv) (hs : swapsWith value (some (.Attribute o f pos')) pos.line X.env = pure false) : PS X (.Assign [.Attribute o f pos'] value pos) (sFld X.K ta tv f) := by
  intro pins s σ H D I h
  refine plainObj_wpAny_Assign_Attribute (thn (hv pins s σ H _ I h) fun u s1 ⟨y, H1, I1, ry, q⟩ => thn (ha pins s1 σ H1 _ I1 q) fun ov s2 ⟨x, H2, I2, rx, a, C, dx, fs, ex, ea, c, n, l, q2⟩ => ?_) hs
  subst ex
  obtain rfl : ov = Value.ref a := rx
  exact setattr_ok I2 ea c n l ry fun s3 I3 => ⟨σ, _, I3, q2⟩
theorem ps_fldaug {op : Operator} {rd : V → V → Hp → VK → Prop} (ha : PE X o ta) (hv : PE X value tv) (hop : InOp X op rd) : PS X (.AugAssign (.Attribute o f tpos) op value pos) (sFldAug X.K ta tv rd f) := by
  intro pins s σ H D I h
  refine wpAny_AugAssign_AttributeAny (thn (ha pins s σ H _ I h) fun ov s1 ⟨x, H1, I1, rx, a, C, dx, fs, v, ex, ea, c, n, l, q⟩ => ?_)
  subst ex
  obtain rfl : ov = Value.ref a := rx
  refine getattr_ok I1 ea c n l fun u s2 I2 ru => thn (hv pins s2 σ H1 _ I2 q) fun w3 s3 ⟨y, H2, I3, ry, q3⟩ => thn (hop pins s3 σ H2 v y u w3 _ I3 ru ry q3) fun w4 s4 ⟨z, H3, I4, rz, dx', fs', ea', l', q4⟩ => ?_
  exact setattr_ok I4 ea' c n l' rz fun s5 I5 => ⟨σ, _, I5, q4⟩
def rAdd : V → V → Hp → VK → Prop := fun x y H Q => ∃ i j, x = .int i ∧ y = .int j ∧ Q (.int (i + j)) H
def rSub : V → V → Hp → VK → Prop := fun x y H Q => ∃ i j, x = .int i ∧ y = .int j ∧ Q (.int (i - j)) H
theorem in_add : InOp X .Add rAdd := by
  rintro pins s σ H x y u v Q I rx ry ⟨i, j, rfl, rfl, q⟩
  obtain ⟨t, rfl⟩ := (show ∃ t, u = Value.int i t from rx)
  obtain ⟨t', rfl⟩ := (show ∃ t', v = Value.int j t' from ry)
  exact PyProof.Rows.iadd_int ⟨.int (i + j), H, I.tok _, ⟨_, rfl⟩, q⟩
end
section
variable {X : Cx} {pins : List (Addr × Obj)} {σ : St} {H : Hp} {s : Shared} {A : Around} {E : Value → Shared → Prop} {Q : Value → Shared → Prop} {c : Value} {b : Bool}
inductive TyOf (K : PySem.W.Frag) (H : Hp) : V → Value → Prop where
  | non : TyOf K H .non (.type "NoneType")
  | bl (x : Bool) : TyOf K H (.bl x) (.type "bool")
  | int (i : Int) : TyOf K H (.int i) (.type "int")
  | str (x : Str) : TyOf K H (.str x) (.type "str")
  | flt (x : UInt64) : TyOf K H (.flt x) (.type "float")
  | lst {a : Addr} {xs : List V} (e : H a = some (.lst xs)) : TyOf K H (.ref a) (.type "list")
  | frz {a : Addr} {o : Obj} {xs : List V} (e : H a = some (.frz o (.lst xs))) : TyOf K H (.ref a) (.type "list")
  | tup {a : Addr} {xs : List V} (e : H a = some (.tup xs)) : TyOf K H (.ref a) (.type "tuple")
  | dK {a : Addr} {kvs : List (Key × V)} (e : H a = some (.dK kvs)) : TyOf K H (.ref a) (.type "dict")
  | dT {a : Addr} {kvs : List (List Key × V)} (e : H a = some (.dT kvs)) : TyOf K H (.ref a) (.type "dict")
  | ins {a C dx : Addr} {fs : List (Str × V)} (e : H a = some (.ins C dx fs)) (cl : Cls K C) (ha : PySem.W.findIn K (.ref C) "__class__" = some (some (.builtin "object.__class__")))
      (hn : PySem.W.specialIn K (.builtin "object.__class__") "__get__" = some (some (.builtin "getset_descriptor.__get__"))) (htk : PySem.W.takesIn K (.builtin "object.__class__") = some true)
      (hm : PySem.W.mroIn K C (.type "object") = some true) : TyOf K H (.ref a) (.ref C)
theorem isinst_ok {x : V} {u t : Value} (I : Inv X pins σ H s) (rx : RelV x u) (ty : TyOf X.K H x t) (e : PySem.W.kitOne X.K t c = some b) (h : ∀ tk, Q (.bool b) { s with toks := tk }) :
    wpAny (model X.prog X.w) A (call (.builtin "isinstance") [u, c]) Q E s := by
  cases ty with
  | non => cases (show u = Value.none from rx); exact PySem.W.kia_one PySem.W.kitx_none I.kIn True.intro e (fun z => nomatch z) h
  | bl y => cases (show u = Value.bool y from rx); exact PySem.W.kia_one PySem.W.kitx_bool I.kIn True.intro e (fun z => nomatch z) h
  | int i => obtain ⟨t, q⟩ := (show ∃ t, u = Value.int i t from rx); cases q; exact PySem.W.kia_one PySem.W.kitx_int I.kIn True.intro e (fun z => nomatch z) h
  | str y => obtain ⟨t, q⟩ := (show ∃ t, u = Value.str y t from rx); cases q; exact PySem.W.kia_one PySem.W.kitx_str I.kIn True.intro e (fun z => nomatch z) h
  | flt y => obtain ⟨t, q⟩ := (show ∃ t, u = Value.float y t from rx); cases q; exact PySem.W.kia_one PySem.W.kitx_float I.kIn True.intro e (fun z => nomatch z) h
  | @lst a xs ea =>
    cases (show u = Value.ref a from rx)
    obtain ⟨_, _, n, _, h1⟩ := (show ObjOk X.prog X.w H s.heap a (.lst xs) from I.hok a _ ea)
    exact PySem.W.kia_one PySem.W.kitx_list I.kIn ⟨_, h1, rfl⟩ e (fun z => nomatch z) h
  | @frz a ob xs ea =>
    cases (show u = Value.ref a from rx)
    obtain ⟨_, _, _, n, _, h1⟩ := (show ObjOk X.prog X.w H s.heap a (.frz ob (.lst xs)) from I.hok a _ ea)
    exact PySem.W.kia_one PySem.W.kitx_list I.kIn ⟨_, h1, rfl⟩ e (fun z => nomatch z) h
  | @tup a xs ea =>
    cases (show u = Value.ref a from rx)
    obtain ⟨_, _, _, p⟩ := (show ObjOk X.prog X.w H s.heap a (.tup xs) from I.hok a _ ea)
    obtain ⟨o, h1, h2, _⟩ := p
    exact PySem.W.kia_one PySem.W.kitx_tuple I.kIn ⟨o, h1, h2⟩ e (fun z => nomatch z) h
  | @dK a kvs ea =>
    cases (show u = Value.ref a from rx)
    obtain ⟨_, _, vs, _, p⟩ := (show ObjOk X.prog X.w H s.heap a (.dK kvs) from I.hok a _ ea)
    obtain ⟨o, es, ep, h1, h2, _⟩ := p
    exact PySem.W.kia_one PySem.W.kitx_dict I.kIn ⟨o, h1, h2.1⟩ e (fun z => nomatch z) h
  | @dT a kvs ea =>
    cases (show u = Value.ref a from rx)
    obtain ⟨_, _, xs, _, o, es, ep, h1, h2, _⟩ := (show ObjOk X.prog X.w H s.heap a (.dT kvs) from I.hok a _ ea)
    exact PySem.W.kia_one PySem.W.kitx_dict I.kIn ⟨o, h1, h2.1⟩ e (fun z => nomatch z) h
  | @ins a C dx fs ea cl ha hn htk hm =>
    cases (show u = Value.ref a from rx)
    obtain ⟨mA, O, _⟩ := ins_get I.hok ea
    obtain ⟨od, J, _⟩ := O.look
    exact PySem.W.kia_one (PySem.W.kitx_own (cl.get _) cl.hd ha hn htk hm) I.kIn J e (fun z => nomatch z) h
end
end L2
namespace L2
open PySem PySem.Spec PyProof.Rows
structure Room (k : Nat) (A : Around) : Prop where
  hd : A.handled = none
  dp : A.depth + 3 * k + 5 < recursionLimit
  un : A.units + 16 * k + 200 < cLine
theorem Room.mono {j k : Nat} {A : Around} (r : Room k A) (h : j ≤ k) : Room j A := ⟨r.hd, by have := r.dp; omega, by have := r.un; omega⟩
theorem Room.deeper {k : Nat} {A : Around} (r : Room (k + 1) A) (env : Env) : Room k (A.deeper env) :=
  ⟨r.hd, by have := r.dp; show A.depth + 1 + 3 * k + 5 < _; omega, by have := r.un; show A.units + 3 + 16 * k + 200 < _; omega⟩
theorem make_depth {A : Around} {C : Addr} {us : List Value} {kw : List (Str × Value)} : (A.under (.builtin "type.__call__" ⟨.ref C :: us, kw⟩)).depth = A.depth + 1 := by
  first | rfl | simp [Around.under, Code.weight, Code.isCreation, Code.isGuard, Code.isCaller, Code.frames, Code.isFrame, guardIds]
theorem make_units {A : Around} {C : Addr} {us : List Value} {kw : List (Str × Value)} : (A.under (.builtin "type.__call__" ⟨.ref C :: us, kw⟩)).units = A.units + 1 := by
  first | rfl | simp [Around.under, Code.cUnits, Code.frames, Code.isFrame]
theorem Room.make {k : Nat} {A : Around} (r : Room (k + 1) A) (C : Addr) (us : List Value) (kw : List (Str × Value)) : Room k (A.under (.builtin "type.__call__" ⟨.ref C :: us, kw⟩)) :=
  ⟨r.hd, by have := r.dp; rw [make_depth]; omega, by have := r.un; rw [make_units]; omega⟩
theorem Room.depth {k : Nat} {A : Around} (r : Room k A) : A.depth < recursionLimit := by have := r.dp; omega
theorem Room.units {k : Nat} {A : Around} (r : Room k A) : A.units + 64 < cLine := by have := r.un; omega
def tNil : TA := fun _ H Q => Q [] H
def tCons (ta : TE) (tr : TA) : TA := fun σ H Q => ta σ H fun x H1 => tr σ H1 fun xs H2 => Q (x :: xs) H2
section
variable {X : Cx} {e : Expr} {es : List Expr} {te : TE} {t : TA} {pos : Pos}
theorem pa_nil : PA X [] tNil := fun _ _ _ _ H Q I h => Calls.spliced_nil ⟨[], H, I, .nil, h⟩
theorem pa_cons (ha : PE X e te) (hr : PA X es t) (hs : starEach (e :: es) X.env = (false, eval e X.env) :: starEach es X.env := by rfl) : PA X (e :: es) (tCons te t) := by
  intro pos pins s σ H Q I h
  rw [hs]
  show wpAny _ _ (spliced ((false, eval e X.env) :: backTo pos (starEach es X.env))) _ _ s
  refine Calls.spliced_cons (thn (ha pins s σ H _ I h) fun u s1 ⟨x, H1, I1, r1, q1⟩ => ?_)
  exact thn (hr pos pins s1 σ H1 _ I1 q1) fun us s2 ⟨xs, H2, I2, r2, q2⟩ => ⟨x :: xs, H2, I2, .cons r1 r2, q2⟩
def tTup (t : TA) : TE := fun σ H Q => t σ H fun xs H1 => xs.length ≤ sizeLine ∧ ∀ p, H1 p = none → Q (.ref p) (upd H1 p (.tup xs))
def tLst (t : TA) : TE := fun σ H Q => t σ H fun xs H1 => xs.length ≤ sizeLine ∧ ∀ p, H1 p = none → Q (.ref p) (upd H1 p (.lst xs))
theorem pe_tup {x1} (h : PA X es t) : PE X (.Tuple es x1 pos) (tTup t) := by
  intro pins s σ H Q I hq
  refine wpAny_Tuple_spliced (thn (h pos pins s σ H _ I hq) fun us s1 ⟨xs, H1, I1, r, z, q⟩ => ⟨by rw [← r.length]; exact z, ?_⟩)
  have hf : H1 s1.heap.objs.size = none := I1.hok.fresh (Nat.le_refl _)
  refine ⟨.ref s1.heap.objs.size, upd H1 s1.heap.objs.size (.tup xs), I1.laid (t' := s1.toks) (fun b u e => Heap.get?_push_of_some _ e) (Nat.le_refl _) ?_, rfl, q _ hf⟩
  exact ⟨z, us, r, ⟨_, Heap.get?_push_size _ rfl, rfl, _, rfl⟩⟩
theorem pe_lst (h : PA X es t) : PE X (.List es pos) (tLst t) := by
  intro pins s σ H Q I hq
  refine wpAny_List_spliced (thn (h pos pins s σ H _ I hq) fun us s1 ⟨xs, H1, I1, r, z, q⟩ => ⟨by rw [← r.length]; exact z, ?_⟩)
  have hf : H1 s1.heap.objs.size = none := I1.hok.fresh (Nat.le_refl _)
  refine ⟨.ref s1.heap.objs.size, upd H1 s1.heap.objs.size (.lst xs), I1.laid (t' := s1.toks) (fun b u e => Heap.get?_push_of_some _ e) (Nat.le_refl _) ?_, rfl, q _ hf⟩
  exact ⟨z, us, 0, r, Heap.get?_push_size _ rfl⟩
end
abbrev Sp := List V → Hp → VK → XK → Prop
abbrev CXT := List Env → Hp → Shared → XK → Value → Shared → Prop
structure Env0 (P : Program) (w : World) (K : PySem.W.Frag) (mg : Str → Option Value) (base : Heap) (A : Around) (outer : List Env) (s : Shared) (H : Hp) : Prop where
  frames : A.frames = some outer
  mod : Mod K mg base
  bs : ∀ b o, base.get? b = some o → s.heap.get? b = some o ∧ H b = none
  bsz : base.objs.size ≤ s.heap.objs.size
  funs : s.heap.FunFrames base outer
  frf : ∀ b ∈ frs outer, H b = none
  hok : HOk P w H s.heap
  bare : AllBare s.gens
def CE (outer : List Env) (P : Program) (w : World) (H : Hp) (s : Shared) (Q : VK) (u : Value) (s' : Shared) : Prop :=
  ∃ v H', s'.os = s.os ∧ AllBare s'.gens ∧ Un (frs outer) [] H H' s.heap s'.heap ∧ HOk P w H' s'.heap ∧ RelV v u ∧ Q v H'
def CR (CX : CXT) (outer : List Env) (P : Program) (w : World) (H : Hp) (s : Shared) (Q : VK) (E : XK) (r : Result) (s' : Shared) : Prop :=
  match r with
  | .ok (.ret u) => CE outer P w H s Q u s'
  | .ok _ => False
  | .error e => CX outer H s E e s'
structure FnOk (P : Program) (w : World) (K : PySem.W.Frag) (mg : Str → Option Value) (base : Heap) (CX : CXT) (k : Nat) (f : Addr) (fd : FuncData) (ps : List Str) (sp : Sp) : Prop where
  len : ∀ vs H Q E, sp vs H Q E → vs.length = ps.length
  run : ∀ (A : Around) (outer : List Env) (s : Shared) (H : Hp) (args : Args) (us : List Value) (vs : List V) (Q : VK) (E : XK), Room k A → Env0 P w K mg base A outer s H → BindsTo s fd args (ps.zip us) → Vals vs us → sp vs H Q E →
    codeAny (model P w) A (.call (.ref f) args) (CR CX outer P w H s Q E) s
theorem Env0.make {P : Program} {w : World} {K : PySem.W.Frag} {mg : Str → Option Value} {base : Heap} {A : Around} {outer : List Env} {s : Shared} {H : Hp} (e : Env0 P w K mg base A outer s H) (C : Addr) (us : List Value) (kw : List (Str × Value)) :
    Env0 P w K mg base (A.under (.builtin "type.__call__" ⟨.ref C :: us, kw⟩)) outer s H := ⟨by first | exact e.frames | (simpa [Around.under, Code.envs, Code.isFrame, pushEnvs] using e.frames), e.mod, e.bs, e.bsz, e.funs, e.frf, e.hok, e.bare⟩
section
variable {X : Cx} {pins : List (Addr × Obj)} {σ : St} {H : Hp} {s s' : Shared}
theorem Inv.env0 (I : Inv X pins σ H s) : Env0 X.prog X.w X.K X.mg X.base X.A X.stack s H :=
  ⟨I.ok.frames, I.ok.mod, I.bs, Nat.le_trans I.ok.bsz I.sz, I.stack, I.stkFree, I.hok, I.bare⟩
theorem Inv.after {Q : VK} {u : Value} (I : Inv X pins σ H s) (h : CE X.stack X.prog X.w H s Q u s') : EP X pins σ Q u s' := by
  obtain ⟨v, H', os, bare, un, hok, r, q⟩ := h
  obtain ⟨hh, g, d, t, os'⟩ := s'
  obtain rfl : os' = s.os := os
  exact ⟨v, H', I.call (h' := hh) (g' := g) (d' := d) (t' := t) (ch := []) un hok bare (fun b z => absurd z (by simp)), r, q⟩
end
def tCall (sp : Sp) (dvs : List V) (E : XK) (t : TA) : TE := fun σ H Q => t σ H fun vs H1 => sp (vs ++ dvs) H1 Q E
def tMeth (C : Addr) (m : Str) (sp : Sp) (dvs : List V) (E : XK) (ta : TE) (t : TA) : TE := fun σ H Q => ta σ H fun x H1 => ∃ a dx fs, x = .ref a ∧ H1 a = some (.ins C dx fs) ∧ fs.lookup m = none ∧
  t σ H1 fun vs H2 => sp (x :: (vs ++ dvs)) H2 Q E
def tMake (C : Addr) (sp : Sp) (dvs : List V) (E : XK) (t : TA) : TE := fun σ H Q => t σ H fun vs H1 => ∀ x dx, H1 x = none → H1 dx = none → dx ≠ x →
  sp (.ref x :: (vs ++ dvs)) (upd (upd H1 dx (.own x)) x (.ins C dx [])) (fun v H2 => v = .non ∧ Q (.ref x) H2) E
def Binds (K : PySem.W.Frag) (fd : FuncData) (ps : List Str) (ds : List Value) : Prop :=
  ∀ (s : Shared) (us : List Value), K.In s.heap → (us ++ ds).length = ps.length → BindsTo s fd ⟨us, []⟩ (ps.zip (us ++ ds))
theorem Binds.all {K : PySem.W.Frag} {fd : FuncData} {ps : List Str} (h : ∀ us : List Value, us.length = ps.length → bindArgs fd ⟨us, []⟩ = pure (ps.zip us)) : Binds K fd ps [] := fun s us _ hl => by
  rw [List.append_nil] at hl ⊢
  exact .of_eq (h us hl)
def Passes (CX : CXT) (X : Cx) (E : XK) : Prop := ∀ (pins : List (Addr × Obj)) (σ : St) (H : Hp) (s : Shared) (e : Value) (s' : Shared), Inv X pins σ H s → CX X.stack H s E e s' → X.xe e s'
section
variable {X : Cx} {CX : CXT} {k : Nat} {f C : Addr} {fd : FuncData} {ps : List Str} {sp : Sp} {dvs : List V} {ds : List Value} {E : XK} {x m : Str} {p pos apos : Pos} {e o : Expr} {es : List Expr} {ta : TE} {t : TA}
theorem run_fn {pins : List (Addr × Obj)} {σ : St} {H : Hp} {s : Shared} {Q : VK} {us : List Value} {vs : List V} (F : FnOk X.prog X.w X.K X.mg X.base CX k f fd ps sp) (hr : Room k X.A) (hb : Binds X.K fd ps ds) (hd : Vals dvs ds) (hx : Passes CX X E)
    (I : Inv X pins σ H s) (r : Vals vs us) (h : sp (vs ++ dvs) H Q E) : wpAny (model X.prog X.w) X.A (call (.ref f) us) (EP X pins σ Q) X.xe s := by
  have r2 : Vals (vs ++ dvs) (us ++ ds) := r.append hd
  have hl : (us ++ ds).length = ps.length := by rw [← r2.length]; exact F.len _ _ _ _ h
  refine wpAny_call (codeAny_mono (F.run X.A X.stack s H ⟨us, []⟩ (us ++ ds) (vs ++ dvs) Q E hr I.env0 (hb s us I.kIn hl) r2 h) fun r s' hq => ?_)
  cases r with
  | error e => exact hx pins σ H s e s' I hq
  | ok fl =>
    cases fl with
    | ret u => exact I.after hq
    | next => exact False.elim hq
    | brk => exact False.elim hq
    | cont => exact False.elim hq
theorem pe_call (F : FnOk X.prog X.w X.K X.mg X.base CX k f fd ps sp) (hr : Room k X.A) (hg : Gl X x) (hm : X.mg x = some (.ref f)) (hk : PySem.W.keepIn X.K (.ref f) = true) (hb : Binds X.K fd ps ds) (hd : Vals dvs ds) (hx : Passes CX X E)
    (ha : PA X (e :: es) t) (hdb : (x == ("__debug__" : Str)) = false := by decide) (he : starEach (e :: es) X.env = (false, eval e X.env) :: starEach es X.env := by rfl) (hpl : (backTo pos (starEach es X.env)).any (·.1) = false := by rfl) :
    PE X (.Call (.Name x p) (e :: es) [] pos) (tCall sp dvs E t) := by
  intro pins s σ H Q I h
  refine wpAny_Call_Name_kw (ld_glob I hg hm ?_ hdb)
  refine PySem.W.callWith_K (h₀ := X.base) I.ok.mod.kin hk (thn (ha pos pins s σ H _ I h) fun us s1 ⟨vs, H1, I1, r, q⟩ => ⟨I1.kIn, ?_⟩) he hpl
  exact run_fn F hr hb hd hx I1 r q
theorem pe_call0 (F : FnOk X.prog X.w X.K X.mg X.base CX k f fd ps sp) (hr : Room k X.A) (hg : Gl X x) (hm : X.mg x = some (.ref f)) (hk : PySem.W.keepIn X.K (.ref f) = true) (hb : Binds X.K fd ps ds) (hd : Vals dvs ds) (hx : Passes CX X E)
    (hdb : (x == ("__debug__" : Str)) = false := by decide) : PE X (.Call (.Name x p) [] [] pos) (tCall sp dvs E tNil) := by
  intro pins s σ H Q I h
  refine wpAny_Call_Name_kw (ld_glob I hg hm ?_ hdb)
  exact PySem.W.callWith_K0 I.kIn hk (run_fn (us := []) F hr hb hd hx I .nil h)
theorem pe_meth {pl : Sem Bool} (he : PE X o ta) (c : Cls X.K C) (hm : Meth X.K C m f) (F : FnOk X.prog X.w X.K X.mg X.base CX k f fd ps sp) (hr : Room k X.A) (hb : Binds X.K fd ps ds) (hd : Vals dvs ds) (hx : Passes CX X E) (ha : PA X (e :: es) t)
    (hst : starEach (e :: es) X.env = (false, eval e X.env) :: starEach es X.env := by rfl) (hpl : (backTo pos (starEach es X.env)).any (·.1) = false := by rfl)
    (ht : eval (.Call (.Attribute o m apos) (e :: es) [] pos) X.env = (do
      let ov ← eval o X.env
      standAt apos.atName
      let (f, first) ← holding [ov] (getMethod ov m pl)
      callWith pos f first (backTo pos (starEach (e :: es) X.env)) (backToKw pos (keywordEach [] X.env))) := by rfl) :
    PE X (.Call (.Attribute o m apos) (e :: es) [] pos) (tMeth C m sp dvs E ta t) := by
  intro pins s σ H Q I h
  refine PySem.W.methodCall_KW (pl := pl) (thn (he pins s σ H _ I h) fun u s1 ⟨x, H1, I1, rx, a, dx, fs, ex, ea, l, q⟩ => ?_) ht
  subst ex
  obtain rfl : u = Value.ref a := rx
  refine getmeth_ok I1 ea c hm l ?_
  refine PySem.W.callWith_K (first := [.ref a]) (h₀ := X.base) I.ok.mod.kin hm.kp (thn (ha pos pins s1 σ H1 _ I1 q) fun us s2 ⟨vs, H2, I2, r, q2⟩ => ⟨I2.kIn, ?_⟩) hst hpl
  exact run_fn (us := .ref a :: us) (vs := .ref a :: vs) F hr hb hd hx I2 (.cons rfl r) q2
structure Mk (K : PySem.W.Frag) (C f : Addr) : Prop where
  makes : PySem.W.makesIn K C = true
  init : PySem.W.findIn K (.ref C) "__init__" = some (some (.ref f))
  fn : PySem.W.isFn K (.ref f) = true
  kp : PySem.W.keepIn K (.ref C) = true
theorem run_make {pins : List (Addr × Obj)} {σ : St} {H : Hp} {s : Shared} {Q : VK} {us : List Value} {vs : List V} (M : Mk X.K C f) (F : FnOk X.prog X.w X.K X.mg X.base CX k f fd ps sp) (hr : Room (k + 1) X.A) (hb : Binds X.K fd ps ds) (hd : Vals dvs ds)
    (hx : Passes CX X E) (I : Inv X pins σ H s) (r : Vals vs us)
    (h : ∀ x dx, H x = none → H dx = none → dx ≠ x → sp (.ref x :: (vs ++ dvs)) (upd (upd H dx (.own x)) x (.ins C dx [])) (fun v H2 => v = .non ∧ Q (.ref x) H2) E) :
    wpAny (model X.prog X.w) X.A (call (.ref C) us) (EP X pins σ Q) X.xe s := by
  have hq := h (s.heap.objs.size + 1) s.heap.objs.size (I.hok.fresh (Nat.le_succ _)) (I.hok.fresh (Nat.le_refl _)) (Nat.ne_of_lt (Nat.lt_succ_self _))
  have I2 := Inv.made (C := C) I
  have r2 : Vals (V.ref (s.heap.objs.size + 1) :: (vs ++ dvs)) (Value.ref (s.heap.objs.size + 1) :: (us ++ ds)) := .cons rfl (r.append hd)
  have hl : (Value.ref (s.heap.objs.size + 1) :: us ++ ds).length = ps.length := by
    have e := r2.length
    rw [F.len _ _ _ _ hq] at e
    exact e.symm
  refine wpAny_call (make_map (f := f) I.kIn M.makes M.init (beq_iff_eq.mp M.fn) (codeAny_mono (F.run _ X.stack _ _ ⟨Value.ref (s.heap.objs.size + 1) :: us, []⟩ (Value.ref (s.heap.objs.size + 1) :: (us ++ ds)) _ _ E (hr.make C us [])
    (I2.env0.make C us []) (hb _ (Value.ref (s.heap.objs.size + 1) :: us) I2.kIn hl) r2 hq) fun r s' hq' => ?_))
  cases r with
  | error e => exact hx pins σ _ _ e s' I2 hq'
  | ok fl =>
    cases fl with
    | ret u =>
      obtain ⟨v, H', I3, rv, ev, q3⟩ := I2.after hq'
      subst ev
      exact ⟨rv, ⟨V.ref (s.heap.objs.size + 1), H', I3, rfl, q3⟩⟩
    | next => exact False.elim hq'
    | brk => exact False.elim hq'
    | cont => exact False.elim hq'
theorem pe_make (M : Mk X.K C f) (F : FnOk X.prog X.w X.K X.mg X.base CX k f fd ps sp) (hr : Room (k + 1) X.A) (hg : Gl X x) (hm : X.mg x = some (.ref C)) (hb : Binds X.K fd ps ds) (hd : Vals dvs ds) (hx : Passes CX X E)
    (ha : PA X (e :: es) t) (hdb : (x == ("__debug__" : Str)) = false := by decide) (he : starEach (e :: es) X.env = (false, eval e X.env) :: starEach es X.env := by rfl) (hpl : (backTo pos (starEach es X.env)).any (·.1) = false := by rfl) :
    PE X (.Call (.Name x p) (e :: es) [] pos) (tMake C sp dvs E t) := by
  intro pins s σ H Q I h
  refine wpAny_Call_Name_kw (ld_glob I hg hm ?_ hdb)
  refine PySem.W.callWith_K (h₀ := X.base) I.ok.mod.kin M.kp (thn (ha pos pins s σ H _ I h) fun us s1 ⟨vs, H1, I1, r, q⟩ => ⟨I1.kIn, ?_⟩) he hpl
  exact run_make M F hr hb hd hx I1 r q
theorem pe_make0 (M : Mk X.K C f) (F : FnOk X.prog X.w X.K X.mg X.base CX k f fd ps sp) (hr : Room (k + 1) X.A) (hg : Gl X x) (hm : X.mg x = some (.ref C)) (hb : Binds X.K fd ps ds) (hd : Vals dvs ds) (hx : Passes CX X E)
    (hdb : (x == ("__debug__" : Str)) = false := by decide) : PE X (.Call (.Name x p) [] [] pos) (tMake C sp dvs E tNil) := by
  intro pins s σ H Q I h
  refine wpAny_Call_Name_kw (ld_glob I hg hm ?_ hdb)
  exact PySem.W.callWith_K0 I.kIn M.kp (run_make (us := []) M F hr hb hd hx I .nil h)
end
def PK (X : Cx) (kws : List Keyword) (t : TA) : Prop :=
  ∀ (pos : Pos) (pins : List (Addr × Obj)) (s : Shared) (σ : St) (H : Hp) (Q : List V → Hp → Prop), Inv X pins σ H s → t σ H Q → wpAny (model X.prog X.w) X.A (evalAll ((backToKw pos (keywordEach kws X.env)).map (·.2))) (AP X pins σ Q) X.xe s
section
variable {X : Cx} {CX : CXT} {k : Nat} {f C : Addr} {fd : FuncData} {ps ks : List Str} {sp : Sp} {E : XK} {x m : Str} {p pos apos kpos : Pos} {e o : Expr} {es : List Expr} {kws : List Keyword} {te ta : TE} {t tk : TA} {nm : Option Str}
structure KBinds (K : PySem.W.Frag) (fd : FuncData) (ps ks : List Str) (g : List Value → List Value → List Value) (gV : List V → List V → List V) : Prop where
  to : ∀ (s : Shared) (us ws : List Value), K.In s.heap → (g us ws).length = ps.length → BindsTo s fd ⟨us, ks.zip ws⟩ (ps.zip (g us ws))
  rel : ∀ {vs : List V} {us : List Value} {zs : List V} {ws : List Value}, Vals vs us → Vals zs ws → Vals (gV vs zs) (g us ws)
def tCallK (sp : Sp) (gV : List V → List V → List V) (E : XK) (t tk : TA) : TE := fun σ H Q => t σ H fun vs H1 => tk σ H1 fun zs H2 => sp (gV vs zs) H2 Q E
variable {g : List Value → List Value → List Value} {gV : List V → List V → List V}
end
structure FnScope (N P : List Str) (sc : Scope) : Prop where
  kind : sc.kind = .function
  co : sc.isCoroutine = false
  gen : sc.isGenerator = false
  nd : N.Nodup
  pre : N.take P.length = P
  par : ∀ x ∈ P, sc.names.lookup x = some .local ∨ sc.names.lookup x = some .cell
  nofree : ∀ y ∈ sc.names, y.2 ≠ .free
theorem bindL_out {kindOf : Str → Option NameKind} {x : Str} : ∀ {binds : List (Str × Value)} {m : Str → Option Value}, (∀ v, (x, v) ∉ binds) → bindL kindOf binds m x = m x
  | [], _, _ => rfl
  | (n, v) :: r, m, h => by
    unfold bindL
    rw [bindL_out fun w hw => h w (List.mem_cons_of_mem _ hw)]
    split
    · have : x ≠ n := by rintro rfl; exact h v List.mem_cons_self
      simp [this]
    · rfl
theorem bindC_out {kindOf : Str → Option NameKind} {x : Str} : ∀ {binds : List (Str × Value)} {m : Str → Option Value}, (∀ v, (x, v) ∉ binds) → bindC kindOf binds m x = m x
  | [], _, _ => rfl
  | (n, v) :: r, m, h => by
    unfold bindC
    rw [bindC_out fun w hw => h w (List.mem_cons_of_mem _ hw)]
    split
    · rfl
    · have : x ≠ n := by rintro rfl; exact h v List.mem_cons_self
      simp [this]
theorem bindL_get {kindOf : Str → Option NameKind} {x : Str} {v : Value} : ∀ {P : List Str} {vs : List Value} {i : Nat} {m : Str → Option Value}, P.Nodup → P[i]? = some x → vs[i]? = some v → kindOf x = some .local →
    bindL kindOf (P.zip vs) m x = some v
  | [], _, _, _, _, h, _, _ => by simp at h
  | _ :: _, [], _, _, _, _, h, _ => by simp at h
  | p :: P, w :: vs, 0, m, nd, h1, h2, hk => by
    simp at h1 h2; subst h1; subst h2
    show bindL kindOf ((p, w) :: P.zip vs) m p = _
    unfold bindL
    rw [bindL_out fun v hv => (List.nodup_cons.mp nd).1 (List.of_mem_zip hv).1, if_pos hk]
    simp
  | p :: P, w :: vs, i + 1, m, nd, h1, h2, hk => by
    show bindL kindOf ((p, w) :: P.zip vs) m x = _
    unfold bindL
    exact bindL_get (i := i) (List.nodup_cons.mp nd).2 (by simpa using h1) (by simpa using h2) hk
theorem bindC_get {kindOf : Str → Option NameKind} {x : Str} {v : Value} : ∀ {P : List Str} {vs : List Value} {i : Nat} {m : Str → Option Value}, P.Nodup → P[i]? = some x → vs[i]? = some v → kindOf x ≠ some .local →
    bindC kindOf (P.zip vs) m x = some v
  | [], _, _, _, _, h, _, _ => by simp at h
  | _ :: _, [], _, _, _, _, h, _ => by simp at h
  | p :: P, w :: vs, 0, m, nd, h1, h2, hk => by
    simp at h1 h2; subst h1; subst h2
    show bindC kindOf ((p, w) :: P.zip vs) m p = _
    unfold bindC
    rw [bindC_out fun v hv => (List.nodup_cons.mp nd).1 (List.of_mem_zip hv).1, if_neg hk]
    simp
  | p :: P, w :: vs, i + 1, m, nd, h1, h2, hk => by
    show bindC kindOf ((p, w) :: P.zip vs) m x = _
    unfold bindC
    exact bindC_get (i := i) (List.nodup_cons.mp nd).2 (by simpa using h1) (by simpa using h2) hk
def start (N : List Str) (vs : List V) : St := vs.map some ++ List.replicate (N.length - vs.length) none
def cxOf (CX : CXT) (P : Program) (w : World) (K : PySem.W.Frag) (mg : Str → Option Value) (base : Heap) (N : List Str) (qual : Str) (scope : Scope) (f : Addr) (cd : Value) (A : Around) (outer : List Env) (s : Shared) (H : Hp) (E : XK) : Cx where
  prog := P
  w := w
  K := K
  mg := mg
  base := base
  A := A.deeper (envOfC qual scope s.heap.objs.size f cd)
  N := N
  s₀ := s
  H₀ := H
  env := envOfC qual scope s.heap.objs.size f cd
  outer := outer
  stack := envOfC qual scope s.heap.objs.size f cd :: outer
  ex := []
  calm := true
  fn := fun _ => true
  pn := []
  xe := fun e s' => wpAny (model P w) (A.deeper (envOfC qual scope s.heap.objs.size f cd)) (leaving (envOfC qual scope s.heap.objs.size f cd) e) (fun _ s'' => CX outer H s E e s'') (fun e' s'' => CX outer H s E e' s'') s'
theorem cell_has {sc : Scope} {n : Nat} {x : Str} (h : sc.names.lookup x = some .cell) : ∃ c, (cellsFrom n sc.names []).lookup x = some c := by
  have q := PySem.W.cellsFrom_some sc.names n [] (.inl h)
  exact Option.isSome_iff_exists.mp q
theorem inv_start {CX : CXT} {P : Program} {w : World} {K : PySem.W.Frag} {mg : Str → Option Value} {base : Heap} {N ps : List Str} {qual : Str} {scope : Scope} {f : Addr} {cd : Value} {A : Around} {outer : List Env} {s s1 : Shared} {H : Hp} {E : XK} {us : List Value} {vs : List V}
    (S : FnScope N ps scope) (hd : A.handled = none) (e0 : Env0 P w K mg base A outer s H) (hl : vs.length = ps.length) (r : Vals vs us)
    (x : InCallC s s.heap.objs.size (bindL (envOfC qual scope s.heap.objs.size f cd).kindOf (ps.zip us) fun _ => none) (cellsFrom (s.heap.objs.size + 1) scope.names []) (bindC (envOfC qual scope s.heap.objs.size f cd).kindOf (ps.zip us) fun _ => none) s1) :
    Inv (cxOf CX P w K mg base N qual scope f cd A outer s H E) [] (start N vs) H s1 := by
  have hpl : ps.length ≤ N.length := by have := congrArg List.length S.pre; rw [List.length_take] at this; omega
  obtain ⟨h1, tk, rfl, hk⟩ := x.done
  have noA : ∀ b : Addr, b ∉ (cxOf CX P w K mg base N qual scope f cd A outer s H E).ex := fun b z => absurd (show b ∈ ([] : List Addr) from z) (by simp)
  refine ⟨⟨e0.mod, S.kind, rfl, rfl, Nat.le_refl _, fun y z c h1 h2 => ?_, fun y hy => ?_, fun y c _ h => ?_, fun _ => hd, Around.frames_deeper e0.frames, .inr ⟨rfl, rfl⟩, fun b z => absurd z (noA b), e0.bs, e0.bsz, fun b _ _ => noA b, fun b z => absurd z (noA b), e0.funs, e0.frf⟩,
    rfl, e0.bare, Un.kept hk, ⟨_, x.toInCall.ns, fun i y v h1 h2 h3 => ?_⟩, fun y c h => ⟨_, x.cell y c h⟩, e0.hok.fresh (Nat.le_refl _), fun y c h => ?_, fun p hp => absurd (show p ∈ ([] : List (Addr × Obj)) from hp) (by simp), e0.hok.kept hk, ?_⟩
  · exact name_of_addr x.apart (PySem.mem_of_lookup h1) (PySem.mem_of_lookup h2)
  · have hy : scope.names.lookup y = some .cell ∨ scope.names.lookup y = some .free := hy
    rcases hy with hy | hy
    · exact cell_has hy
    · exact absurd rfl (S.nofree _ (PySem.mem_of_lookup hy))
  · exact Nat.le_of_lt (x.above y c (PySem.mem_of_lookup h))
  · have hi : i < vs.length := by
      unfold start at h2
      by_cases hi : i < vs.length
      · exact hi
      · rw [List.getElem?_append_right (by simpa using hi)] at h2
        rw [List.getElem?_replicate] at h2
        split at h2 <;> cases h2
    have ha : vs[i]? = some v := by
      unfold start at h2
      rw [List.getElem?_append_left (by simpa using hi), List.getElem?_map] at h2
      cases e : vs[i]? with
      | none => rw [e] at h2; cases h2
      | some a => rw [e] at h2; cases h2; rfl
    obtain ⟨u, hu, rv⟩ := r.get ha
    have hp : ps[i]? = some y := by
      rw [← S.pre, List.getElem?_take_of_lt (by omega)]; exact h1
    have ndP : ps.Nodup := by rw [← S.pre]; exact S.nd.sublist (List.take_sublist _ _)
    refine ⟨u, rv, ?_⟩
    rcases S.par y (List.mem_of_getElem? hp) with k | k
    · exact .inl ⟨k, bindL_get ndP hp hu k⟩
    · obtain ⟨c, e⟩ := cell_has (n := s.heap.objs.size + 1) k
      refine .inr ⟨.inl k, c, e, ?_⟩
      have q := x.cell y c e
      rw [bindC_get ndP hp hu (by show scope.names.lookup y ≠ _; rw [k]; decide)] at q
      exact q
  · exact e0.hok.fresh (Nat.le_of_lt (x.above y c (PySem.mem_of_lookup h)))
  · unfold start
    show _ = N.length
    rw [List.length_append, List.length_map, List.length_replicate]
    omega
theorem fn_of {CX : CXT} {P : Program} {w : World} {K : PySem.W.Frag} {mg : Str → Option Value} {base : Heap} {k : Nat} {f : Addr} {name qual : Str} {params : Arguments} {body : List Stmt} {scope : Scope} {dV kV doc pm cdv ct oc : Value} {an od : Option Addr}
    {osl : Array (Option Value)} {N ps : List Str} {sp : Sp} (lk : K.lookup f = some ⟨oc, od, .func (PySem.W.fnOf name qual params body scope dV kV doc pm an cdv ct), osl⟩) (hcd : PySem.W.codeIn K cdv qual = true) (S : FnScope N ps scope)
    (len : ∀ vs H Q E, sp vs H Q E → vs.length = ps.length)
    (hbody : ∀ (A : Around) (outer : List Env) (s : Shared) (H : Hp) (vs : List V) (Q : VK) (E : XK), Room k (A.deeper (envOfC qual scope s.heap.objs.size f cdv)) → sp vs H Q E →
      ∃ t, PSs (cxOf CX P w K mg base N qual scope f cdv A outer s H E) body t ∧ t { nx := fun _ H' => Q .non H', rt := Q } (start N vs) H) :
    FnOk P w K mg base CX (k + 1) f (PySem.W.fnOf name qual params body scope dV kV doc pm an cdv ct) ps sp := by
  refine ⟨len, fun A outer s H args us vs Q E hr e0 hb r hsp => ?_⟩
  have hl := len _ _ _ _ hsp
  have KX : K.In s.heap := e0.mod.kin.keeps fun b o e => (e0.bs b o e).1
  have lim : s.heap.NoLimit := e0.mod.nolimit.keeps fun b o e => (e0.bs b o e).1
  have hkind : ∀ y ∈ ps.zip us, scope.names.lookup y.1 = some .local ∨ (scope.names.lookup y.1 = some .cell ∧ ((cellsFrom (s.heap.objs.size + 1) scope.names []).lookup y.1).isSome = true) := fun ⟨n, v⟩ hy => by
    rcases S.par n (List.of_mem_zip hy).1 with q | q
    · exact .inl q
    · exact .inr ⟨q, PySem.W.cellsFrom_some _ _ _ (.inl q)⟩
  refine codeAny_call_function hr.depth (KX _ _ lk) rfl S.co S.gen rfl (PySem.W.codeRec_of KX hcd) (hb _ _ _ _ ?_)
  refine wpAny_newFunctionEnv_cells S.kind hkind fun env he s1 x => ?_
  subst he
  refine ⟨lim.keeps x.toInCall.keep, codeAny_func ?_⟩
  obtain ⟨t, ht, hq⟩ := hbody A outer s H vs Q E (hr.deeper _) hsp
  have I : Inv (cxOf CX P w K mg base N qual scope f cdv A outer s H E) [] (start N vs) H s1 := inv_start S hr.hd e0 hl r x
  refine wpAny_mono (ht [] s1 (start N vs) H _ I hq) (fun fl s' hs => ?_) fun e s' hs => hs
  have fin : ∀ {σ' : St} {H' : Hp} {v : V} {u : Value}, Inv (cxOf CX P w K mg base N qual scope f cdv A outer s H E) [] σ' H' s' → RelV v u → Q v H' → CE outer P w H s Q u s' :=
    fun {σ' H' v u} J rv q => ⟨v, H', J.os, J.bare, J.base, J.hok, rv, q⟩
  cases fl with
  | ret u =>
    obtain ⟨v, σ', H', J, rv, q⟩ := hs
    exact fin J rv q
  | next =>
    obtain ⟨σ', H', J, q⟩ := hs
    exact fin (v := V.non) (u := Value.none) J rfl q
  | brk =>
    obtain ⟨_, _, _, q⟩ := hs
    exact False.elim q
  | cont =>
    obtain ⟨_, _, _, q⟩ := hs
    exact False.elim q
end L2
namespace L2
open PySem PySem.Spec PyProof.Rows
section
variable {X : Cx} {x : Str} {p pos : Pos} {e : Expr} {es : List Expr} {t : TA} {id T : String} {r : List V → Hp → VK → Prop}
def tCB (r : List V → Hp → VK → Prop) (t : TA) : TE := fun σ H Q => t σ H fun vs H1 => r vs H1 Q
theorem pe_callB (hc : CallR X (.builtin id) r) (hg : Gl X x) (hm : X.mg x = none) (hv : bootBuiltins x = some (.builtin id)) (ha : PA X (e :: es) t) (hn : x ≠ "__name__" := by decide) (hdb : (x == ("__debug__" : Str)) = false := by decide)
    (he : starEach (e :: es) X.env = (false, eval e X.env) :: starEach es X.env := by rfl) (hpl : (backTo pos (starEach es X.env)).any (·.1) = false := by rfl) : PE X (.Call (.Name x p) (e :: es) [] pos) (tCB r t) := by
  intro pins s σ H Q I h
  refine wpAny_Call_Name_kw (ld_blt I hg hm hv ?_ hn hdb)
  exact PyProof.Rows.callWith_builtin1 (thn (ha pos pins s σ H _ I h) fun us s1 ⟨vs, H1, I1, r1, q1⟩ => hc pins s1 σ H1 vs us Q I1 r1 q1) he hpl
theorem pe_callTy (hc : CallR X (.type T) r) (hg : Gl X x) (hm : X.mg x = none) (hv : bootBuiltins x = some (.type T)) (ha : PA X (e :: es) t) (hn : x ≠ "__name__" := by decide) (hdb : (x == ("__debug__" : Str)) = false := by decide)
    (he : starEach (e :: es) X.env = (false, eval e X.env) :: starEach es X.env := by rfl) (hpl : (backTo pos (starEach es X.env)).any (·.1) = false := by rfl) : PE X (.Call (.Name x p) (e :: es) [] pos) (tCB r t) := by
  intro pins s σ H Q I h
  refine wpAny_Call_Name_kw (ld_blt I hg hm hv ?_ hn hdb)
  exact PyProof.Rows.callWith_type1 (thn (ha pos pins s σ H _ I h) fun us s1 ⟨vs, H1, I1, r1, q1⟩ => hc pins s1 σ H1 vs us Q I1 r1 q1) he hpl
end
end L2
namespace HT
open PySem PyProof.Rows
def lexLt : List Int → List Int → Bool
  | [], [] => false
  | [], _ :: _ => true
  | _ :: _, [] => false
  | x :: xs, y :: ys => if x = y then lexLt xs ys else decide (x < y)
section
open PySem.SeqAt
open PySem.AutoSeq1 (wpAny_loadPart')
open PySem.MeetsSeq PySem.MeetsSeq2 PySem.MeetsSeq3
end
section
variable {prog : Program} {w : World} {A : Around} {E : Value → Shared → Prop} {s : Shared}
def sIx (n d : Nat) : Option Int → Nat
  | none => d
  | some v => if v < 0 then (v + (n : Int)).toNat else min v.toNat n
theorem sIx_le (n d : Nat) (hd : d ≤ n) (o : Option Int) : sIx n d o ≤ n := by
  cases o with
  | none => exact hd
  | some v =>
    show (if v < 0 then (v + (n : Int)).toNat else min v.toNat n) ≤ n
    by_cases hv : v < 0
    · rw [if_pos hv]; omega
    · rw [if_neg hv]; exact Nat.min_le_right _ _
theorem clip_eq (v : Int) (n d : Nat) : (if v < 0 then max (v + (n : Int)) 0 else min v (n : Int)) = ((sIx n d (some v) : Nat) : Int) := by
  show (if v < 0 then max (v + (n : Int)) 0 else min v (n : Int)) = (((if v < 0 then (v + (n : Int)).toNat else min v.toNat n) : Nat) : Int)
  by_cases hv : v < 0
  · simp only [if_pos hv]; omega
  · simp only [if_neg hv]; omega
theorem adjust_gen (lo hi : Option Int) (n : Nat) : Builtin.Slice.sliceAdjust lo hi 1 (n : Int) = (((sIx n 0 lo : Nat) : Int), ((sIx n n hi : Nat) : Int)) := by
  have h1 : ¬ ((1 : Int) < 0) := by omega
  unfold Builtin.Slice.sliceAdjust
  simp only [h1, if_false]
  refine Prod.ext ?_ ?_
  · cases lo with
    | none => rfl
    | some v => exact clip_eq v n 0
  · cases hi with
    | none => rfl
    | some v => exact clip_eq v n n
theorem places_gen (i j : Nat) : Builtin.Slice.slicePlaces (i : Int) (j : Int) 1 = j - i := by
  unfold Builtin.Slice.slicePlaces
  have h1 : (1 : Int) > 0 := by omega
  simp only [h1, if_true, Int.ediv_one]
  split <;> omega
theorem slicePart_ {v : Value} {o : Option Int} {Q : Option Int → Shared → Prop} (p : IsPart v o) (h : Q o s) : wpAny (model prog w) A (Builtin.Slice.slicePartIndex v) Q E s := by
  cases p with
  | none => exact slicePart_none h
  | int i t => exact slicePart_int h
theorem sliceApplied_gen {sl : Addr} {vl vu : Value} {lo hi : Option Int} {n : Nat} {Q : Int × Int × Nat → Shared → Prop} (hs : s.heap.IsSliceOf sl vl vu .none) (pl : IsPart vl lo) (pu : IsPart vu hi)
    (h : Q (((sIx n 0 lo : Nat) : Int), 1, sIx n n hi - sIx n 0 lo) s) : wpAny (model prog w) A (Builtin.Slice.sliceApplied (.ref sl) (pure (n : Int))) Q E s := by
  obtain ⟨os, hos, hcs, hds⟩ := id hs
  unfold Builtin.Slice.sliceApplied Builtin.Slice.sliceFields
  refine wpAny_bind (wpAny_bind (wpAny_field hos hds (x := vl) rfl (wpAny_bind (wpAny_field hos hds (x := vu) rfl (wpAny_bind (wpAny_field hos hds (x := .none) rfl (wpAny_pure ?_)))))))
  refine wpAny_bind (slicePart_none ?_)
  show wpAny _ _ (if ((1 : Int) == 0) = true then _ else _) _ _ s
  rw [if_neg (by decide)]
  refine wpAny_bind (slicePart_ pl (wpAny_bind (slicePart_ pu (wpAny_bind (wpAny_pure ?_)))))
  show wpAny _ _ (match Builtin.Slice.sliceAdjust lo hi 1 (n : Int) with | (lo, hi) => pure (lo, (1 : Int), Builtin.Slice.slicePlaces lo hi 1)) _ _ s
  rw [adjust_gen lo hi n]
  show wpAny _ _ (pure (((sIx n 0 lo : Nat) : Int), (1 : Int), Builtin.Slice.slicePlaces ((sIx n 0 lo : Nat) : Int) ((sIx n n hi : Nat) : Int) 1)) _ _ s
  rw [places_gen]
  exact wpAny_pure h
theorem pick_gen (xs : Array Value) (i k : Nat) : ((List.range k).filterMap fun (m : Nat) => xs[((i : Int) + (m : Int) * 1).toNat]?).toArray = ((xs.toList.drop i).take k).toArray := by
  have e : (fun (m : Nat) => xs[((i : Int) + (m : Int) * 1).toNat]?) = fun m => xs[i + m]? := by
    funext m
    have : ((i : Int) + (m : Int) * 1).toNat = i + m := by omega
    rw [this]
  rw [e]
  have := pick_run xs i k
  rw [List.filterMap_map] at this
  have e2 : ((fun x => xs[x]?) ∘ fun x => i + x) = fun m => xs[i + m]? := rfl
  rw [e2] at this
  rw [this]
theorem getItem_tuple_cut {t sl : Addr} {items : Array Value} {vl vu : Value} {lo hi : Option Int} {Q : Value → Shared → Prop} (ht : IsTup s.heap t items) (hs : s.heap.IsSliceOf sl vl vu .none) (pl : IsPart vl lo) (pu : IsPart vu hi)
    (hw : ¬ (sIx items.size 0 lo = 0 ∧ sIx items.size items.size hi = items.size))
    (h : Q (.ref s.heap.objs.size) { s with heap := s.heap.push { cls := .type "tuple", data := .seq ((items.toList.drop (sIx items.size 0 lo)).take (sIx items.size items.size hi - sIx items.size 0 lo)).toArray } })
    (hsz : items.size ≤ sizeLine) : wpAny (model prog w) A (getItem (.ref t) (.ref sl)) Q E s := by
  have htake : sizeOk (.seq ((items.toList.drop (sIx items.size 0 lo)).take (sIx items.size items.size hi - sIx items.size 0 lo)).toArray) := by
    show ((items.toList.drop (sIx items.size 0 lo)).take (sIx items.size items.size hi - sIx items.size 0 lo)).toArray.size ≤ sizeLine
    rw [List.size_toArray, List.length_take, List.length_drop, Array.length_toList]
    omega
  have hj : sIx items.size items.size hi ≤ items.size := sIx_le _ _ (Nat.le_refl _) hi
  obtain ⟨os, hos, hcs, hds⟩ := id hs
  have hTs : s.TypeIs (.ref sl) "slice" := ⟨os, hos, hcs⟩
  unfold getItem
  try with_reducible refine wpAny_holding ?_
  first | refine wpAny_bind (wpAny_pure ?_) | skip
  refine wpAny_bind (wpAny_sequenceKey ht.typeIs (by decide) ?_)
  refine wpAny_bind (wpAny_callSpecial?_slot (name := Str.ofString "__getitem__") ht.typeIs PyProof.Rows.slot_tuple_getitem
    (wpAny_call_entry PyProof.Rows.slot_tuple_getitem ht.typeIs entry_tuple_getitem ?_ (args_tuple_getitem _ _)))
  show wpAny _ _ (Builtin.Tuple.tupleItemsOf (.ref t) >>= _) _ _ s
  refine wpAny_bind (tupleItemsOf_ ht ?_)
  refine wpAny_bind (wpAny_typeOf hTs ?_)
  rw [if_pos (by decide)]
  refine wpAny_bind (sliceApplied_gen hs pl pu ?_)
  have hno : ¬ ((((sIx items.size 0 lo : Nat) : Int) == 0 && (1 : Int) == 1 && (sIx items.size items.size hi - sIx items.size 0 lo) == items.size) = true) := by
    intro q
    rw [Bool.and_eq_true, Bool.and_eq_true] at q
    have q1 : ((sIx items.size 0 lo : Nat) : Int) = 0 := eq_of_beq q.1.1
    have q2 : sIx items.size items.size hi - sIx items.size 0 lo = items.size := eq_of_beq q.2
    exact hw ⟨by omega, by omega⟩
  show wpAny _ _ (if (((sIx items.size 0 lo : Nat) : Int) == 0 && (1 : Int) == 1 && (sIx items.size items.size hi - sIx items.size 0 lo) == items.size) = true then _ else _) _ _ s
  rw [if_neg hno, pick_gen]
  first
    | exact wpAny_bind (m := Builtin.Tuple.tupleExact _) (wpAny_newObj_type (wpAny_pure ⟨_, rfl, wpAny_pure h⟩) htake)
    | exact wpAny_bind (m := Builtin.Tuple.tupleExact _) (wpAny_newObj_type (wpAny_bind (wpAny_pure (wpAny_pure ⟨_, rfl, wpAny_pure h⟩))) htake)
    | exact wpAny_bind (wpAny_bind (m := Builtin.Tuple.tupleExact _) (wpAny_newObj_type (wpAny_pure (wpAny_pure ⟨_, rfl, wpAny_pure h⟩)) htake))
    | exact wpAny_bind (wpAny_bind (m := Builtin.Tuple.tupleExact _) (wpAny_newObj_type (wpAny_pure ⟨_, rfl, wpAny_pure h⟩) htake))
end
end HT
namespace L2
open PySem PySem.Spec PyProof.Rows
abbrev TO := St → Hp → (Option Int → Hp → Prop) → Prop
def PO (X : Cx) (e : Option Expr) (t : TO) : Prop :=
  ∀ (pins : List (Addr × Obj)) (s : Shared) (σ : St) (H : Hp) (Q : Option Int → Hp → Prop), Inv X pins σ H s → t σ H Q →
    wpAny (model X.prog X.w) X.A (evalPart e X.env) (fun u s' => ∃ o H', Inv X pins σ H' s' ∧ IsPart u o ∧ Q o H') X.xe s
def tNoPart : TO := fun _ H Q => Q none H
def tPart (t : TE) : TO := fun σ H Q => t σ H fun x H1 => ∃ i, x = .int i ∧ Q (some i) H1
section
variable {X : Cx} {e : Expr} {te : TE} {lo hi : Option Expr} {tl th : TO} {pos p2 : Pos}
theorem po_none : PO X none tNoPart := by
  intro pins s σ H Q I h
  rw [evalPart_none]
  exact wpAny_pure ⟨none, H, I, .none, h⟩
theorem po_some (h : PE X e te) : PO X (some e) (tPart te) := by
  intro pins s σ H Q I hw
  rw [evalPart_some]
  refine thn (h pins s σ H _ I hw) fun u s1 ⟨x, H1, I1, r1, q1⟩ => ?_
  obtain ⟨i, rfl, q⟩ := q1
  obtain ⟨t, rfl⟩ := r1
  exact ⟨some i, H1, I1, .int i t, q⟩
def SlR (X : Cx) (r : V → Option Int → Option Int → Hp → VK → Prop) : Prop :=
  ∀ (pins : List (Addr × Obj)) (s : Shared) (σ : St) (H : Hp) (x : V) (v vl vu : Value) (lo hi : Option Int) (sl : Addr) (Q : VK), Inv X pins σ H s → RelV x v → s.heap.IsSliceOf sl vl vu .none → IsPart vl lo → IsPart vu hi → r x lo hi H Q →
    ∃ T id, typeLookup (.type T) "__getitem__" = pure (some (.builtin id)) ∧ s.TypeIs v T ∧ wpAny (model X.prog X.w) X.A (getItem v (.ref sl)) (EP X pins σ Q) X.xe s
theorem SlR.or {r r' : V → Option Int → Option Int → Hp → VK → Prop} (h : SlR X r) (h' : SlR X r') : SlR X (fun x lo hi H Q => r x lo hi H Q ∨ r' x lo hi H Q) := by
  intro pins s σ H x v vl vu lo hi sl Q I rx hs pl pu q
  rcases q with q | q
  · exact h pins s σ H x v vl vu lo hi sl Q I rx hs pl pu q
  · exact h' pins s σ H x v vl vu lo hi sl Q I rx hs pl pu q
def tSl (r : V → Option Int → Option Int → Hp → VK → Prop) (te : TE) (tl th : TO) : TE := fun σ H Q => te σ H fun x H1 => tl σ H1 fun l H2 => th σ H2 fun u H3 => r x l u H3 Q
theorem pe_slice {r : V → Option Int → Option Int → Hp → VK → Prop} (hr : SlR X r) (he : PE X e te) (hl : PO X lo tl) (hu : PO X hi th) : PE X (.Subscript e (.Slice lo hi none p2) pos) (tSl r te tl th) := by
  intro pins s σ H Q I h
  refine Subscript_ (thn (he pins s σ H _ I h) fun v s1 ⟨x, H1, I1, r1, q1⟩ => ?_)
  refine wpAny_Slice (thn (hl pins s1 σ H1 _ I1 q1) fun vl s2 ⟨l, H2, I2, pl, q2⟩ => thn (hu pins s2 σ H2 _ I2 q2) fun vu s3 ⟨u, H3, I3, pu, q3⟩ => ?_)
  rw [evalPart_none]
  refine wpAny_pure ?_
  have I4 : Inv X pins σ H3 { s3 with heap := s3.heap.push { cls := .type "slice", data := .fields #[vl, vu, .none] } } := I3.kept (t' := s3.toks) fun b ob q => Heap.get?_push_of_some _ q
  obtain ⟨T, id, hT, ht, hg⟩ := hr pins { s3 with heap := s3.heap.push { cls := .type "slice", data := .fields #[vl, vu, .none] } } σ H3 x v vl vu l u s3.heap.objs.size Q I4 r1 (Heap.IsSliceOf.new ..) pl pu q3
  show wpAny (model X.prog X.w) X.A (subscriptTail e (.Slice lo hi none p2) v (.ref s3.heap.objs.size)) (EP X pins σ Q) X.xe { s3 with heap := s3.heap.push { cls := .type "slice", data := .fields #[vl, vu, .none] } }
  exact tail_any (ops := [.ref s3.heap.objs.size, v]) ht hT hg (by with_unfolding_all rfl)
def cutV (xs : List V) (lo hi : Option Int) : List V := (xs.drop (HT.sIx xs.length 0 lo)).take (HT.sIx xs.length xs.length hi - HT.sIx xs.length 0 lo)
theorem cutV_length (xs : List V) (lo hi : Option Int) : (cutV xs lo hi).length ≤ xs.length := by
  unfold cutV
  rw [List.length_take, List.length_drop]
  omega
def rSlT (K : PySem.W.Frag) : V → Option Int → Option Int → Hp → VK → Prop := fun x lo hi H Q => ∃ a xs, x = .ref a ∧ SqT K H a xs ∧
  ¬ (HT.sIx xs.length 0 lo = 0 ∧ HT.sIx xs.length xs.length hi = xs.length) ∧ ∀ p, H p = none → Q (.ref p) (upd H p (.tup (cutV xs lo hi)))
theorem sl_tup : SlR X (rSlT X.K) := by
  intro pins s σ H x v vl vu lo hi sl Q I rx hs pl pu h
  obtain ⟨a, xs, rfl, hx, hw, q⟩ := h
  cases rx
  obtain ⟨its, r, ht, hz⟩ := I.tuple hx
  have hlen : its.toArray.size = xs.length := by rw [List.size_toArray]; exact r.length.symm
  refine ⟨"tuple", _, PyProof.Rows.slot_tuple_getitem.lookup, ht.typeIs, ?_⟩
  refine HT.getItem_tuple_cut ht hs pl pu (by rw [hlen]; exact hw) ?_ (by rw [hlen]; exact hz)
  rw [hlen]
  refine ⟨.ref s.heap.objs.size, _, I.laid (t' := s.toks) (o := .tup (cutV xs lo hi)) (fun b ob q => Heap.get?_push_of_some _ q) (Nat.le_refl _) ?_, rfl, q _ (I.hok.fresh (Nat.le_refl _))⟩
  exact ⟨Nat.le_trans (cutV_length xs lo hi) hz, _, (r.drop (HT.sIx xs.length 0 lo)).take (HT.sIx xs.length xs.length hi - HT.sIx xs.length 0 lo), IsTup.new _ _⟩
def rLtT (K : PySem.W.Frag) : R2 := fun x y H Q => ∃ a b ns ms, x = .ref a ∧ y = .ref b ∧ SqT K H a (ns.map V.int) ∧ SqT K H b (ms.map V.int) ∧ Q (.bl (HT.lexLt ns ms)) H
def rCatT (K : PySem.W.Frag) : R2 := fun x y H Q => ∃ a b xs ys, x = .ref a ∧ y = .ref b ∧ SqT K H a xs ∧ SqT K H b ys ∧ xs ≠ [] ∧ xs.length + ys.length ≤ sizeLine ∧
  (ys = [] → Q (.ref a) H) ∧ (ys ≠ [] → ∀ p, H p = none → Q (.ref p) (upd H p (.tup (xs ++ ys))))
end
end L2
namespace L2
open PySem PySem.Spec PyProof.Rows
def ixN (n : Nat) (i : Int) : Option Nat := if 0 ≤ i then (if i < n then some i.toNat else none) else if -(n : Int) ≤ i then some (i + n).toNat else none
def atI {α : Type} (xs : List α) (i : Int) : Option α := (ixN xs.length i).bind fun j => xs[j]?
theorem ixN_seq {n : Nat} {i : Int} {j : Nat} (h : ixN n i = some j) : seqIndex? i n = some j ∧ j < n ∧ -(n : Int) ≤ i ∧ i < n := by
  unfold ixN at h
  by_cases h0 : 0 ≤ i
  · rw [if_pos h0] at h
    by_cases h1 : i < n
    · rw [if_pos h1] at h
      have e : i.toNat = j := Option.some.inj h
      exact ⟨by rw [seqIndex_of h0 h1, e], by omega, by omega, h1⟩
    · rw [if_neg h1] at h; cases h
  · rw [if_neg h0] at h
    by_cases h1 : -(n : Int) ≤ i
    · rw [if_pos h1] at h
      have e : (i + n).toNat = j := Option.some.inj h
      exact ⟨by rw [seqIndex_neg (by omega) h1, e], by omega, h1, by omega⟩
    · rw [if_neg h1] at h; cases h
theorem atI_get {α : Type} {xs : List α} {i : Int} {v : α} (h : atI xs i = some v) : ∃ j, seqIndex? i xs.length = some j ∧ xs[j]? = some v ∧ j < xs.length ∧ -(xs.length : Int) ≤ i ∧ i < xs.length := by
  unfold atI at h
  cases e : ixN xs.length i with
  | none => rw [e] at h; cases h
  | some j =>
    rw [e] at h
    obtain ⟨h1, h2, h3, h4⟩ := ixN_seq e
    exact ⟨j, h1, h, h2, h3, h4⟩
theorem atI_nat {α : Type} {xs : List α} {j : Nat} {v : α} (h : xs[j]? = some v) : atI xs (j : Int) = some v := by
  have hj : j < xs.length := (List.getElem?_eq_some_iff.mp h).1
  have e : ixN xs.length (j : Int) = some j := by
    unfold ixN
    rw [if_pos (by omega), if_pos (by omega)]; simp
  unfold atI; rw [e]; exact h
def PlainIx (b : Expr) : Prop := ∀ o i, subscripted b false o i = operate [o, i] (getItem o i)
def IxR (X : Cx) (r : R2) : Prop :=
  ∀ (value slice : Expr) (pins : List (Addr × Obj)) (s : Shared) (σ : St) (H : Hp) (x y : V) (v u : Value) (Q : VK), Inv X pins σ H s → RelV x v → RelV y u → r x y H Q →
    subscripted slice false v u = operate [v, u] (getItem v u) → wpAny (model X.prog X.w) X.A (subscriptTail value slice v u) (EP X pins σ Q) X.xe s
def MtR (X : Cx) (id : String) (r : V → List V → Hp → VK → Prop) : Prop :=
  ∀ (pins : List (Addr × Obj)) (s : Shared) (σ : St) (H : Hp) (x : V) (xs : List V) (v : Value) (us : List Value) (Q : VK), Inv X pins σ H s → RelV x v → Vals xs us → r x xs H Q →
    wpAny (model X.prog X.w) X.A (call (.builtin id) (v :: us)) (EP X pins σ Q) X.xe s
section
variable {X : Cx} {a b : Expr} {ta tb : TE} {pos : Pos}
theorem pe_ix {r : R2} (hr : IxR X r) (ha : PE X a ta) (hb : PE X b tb) (hs : PlainIx b) : PE X (.Subscript a b pos) (tOp r ta tb) := by
  intro pins s σ H Q I h
  exact Subscript_ (binT ha hb I h fun v u s2 x y H2 I2 rx ry q => hr a b pins s2 σ H2 x y v u Q I2 rx ry q (hs _ _))
def rIxL (K : PySem.W.Frag) : R2 := fun x y H Q => ∃ p xs i v, x = .ref p ∧ y = .int i ∧ SqL K H p xs ∧ atI xs i = some v ∧ Q v H
def rIxT (K : PySem.W.Frag) : R2 := fun x y H Q => ∃ p xs i v, x = .ref p ∧ y = .int i ∧ SqT K H p xs ∧ atI xs i = some v ∧ Q v H
def rIxS : R2 := fun x y H Q => ∃ z i c, x = .str z ∧ y = .int i ∧ z.length ≤ sizeLine ∧ atI z.cps.toList i = some c ∧ Q (.str ⟨#[c]⟩) H
theorem ix_list : IxR X (rIxL X.K) := by
  intro value slice pins s σ H x y v u Q I rx ry h hs
  obtain ⟨p, xs, i, z, rfl, rfl, hq, he, q⟩ := h
  cases rx
  obtain ⟨t, rfl⟩ := ry
  obtain ⟨its, r, pl, hz⟩ := I.list hq
  obtain ⟨j, h1, h2, h3, h4, h5⟩ := atI_get he
  obtain ⟨w, ew, rw'⟩ := r.get h2
  have hl := r.length
  have hn := line63
  have fin : EP X pins σ Q w s := ⟨z, H, I, rw', q⟩
  by_cases h0 : 0 ≤ i
  · have hj : i.toNat = j := by
      rw [seqIndex_of h0 h5] at h1
      exact Option.some.inj h1
    exact item_listR pl.isList h0 (by omega) (by rw [hj]; simpa using ew) fin hs
  · have hj : (i + (its.toArray.size : Int)).toNat = j := by
      rw [seqIndex_neg (by omega) h4] at h1
      rw [List.size_toArray, ← hl]
      exact Option.some.inj h1
    exact subscriptTail_builtinR (x := w) pl.isList.typeIs slot_list_getitem.lookup
      (wpAny_getItem_list_neg (Q := fun r s' => r = w ∧ EP X pins σ Q r s') pl.isList (by omega) (by rw [List.size_toArray] <;> omega) (by omega) (by rw [hj]; simpa using ew) ⟨rfl, fin⟩) hs
theorem ix_tup : IxR X (rIxT X.K) := by
  intro value slice pins s σ H x y v u Q I rx ry h hs
  obtain ⟨p, xs, i, z, rfl, rfl, hq, he, q⟩ := h
  cases rx
  obtain ⟨t, rfl⟩ := ry
  obtain ⟨its, r, pl, hz⟩ := I.tuple hq
  obtain ⟨j, h1, h2, h3, h4, h5⟩ := atI_get he
  obtain ⟨w, ew, rw'⟩ := r.get h2
  have hl := r.length
  have hn := line63
  have fin : EP X pins σ Q w s := ⟨z, H, I, rw', q⟩
  exact subscriptTail_builtinR (x := w) pl.typeIs slot_tuple_getitem.lookup
    (getItem_tuple (j := j) (Q := fun r s' => r = w ∧ EP X pins σ Q r s') pl (by omega) (by omega) (by rw [List.size_toArray, ← hl]; exact h1) (by simpa using ew) ⟨rfl, fin⟩) hs
theorem ix_str : IxR X rIxS := by
  intro value slice pins s σ H x y v u Q I rx ry h hs
  obtain ⟨z, i, c, rfl, rfl, hz, he, q⟩ := h
  obtain ⟨t, rfl⟩ := rx
  obtain ⟨t', rfl⟩ := ry
  obtain ⟨j, h1, h2, h3, h4, h5⟩ := atI_get he
  have hl : z.cps.toList.length = z.length := by simp [Str.length]
  rw [hl] at h1 h4 h5
  have hn := line63
  exact tail_any (typeIs_str s z t) slot_str_getitem.lookup (getItem_str (c := c) (by
    have e1 : decide (i < -(2 ^ 63 : Int)) = false := decide_eq_false (by omega)
    have e2 : decide (i ≥ 2 ^ 63) = false := decide_eq_false (by omega)
    rw [e1, e2, Bool.or_false]) (by rw [h1]; simpa using h2) ⟨.str ⟨#[c]⟩, H, I.tok _, ⟨_, rfl⟩, q⟩) hs
def rIx (K : PySem.W.Frag) : R2 := fun x y H Q => rIxL K x y H Q ∨ rIxT K x y H Q ∨ rIxS x y H Q
theorem mapSeq_set (its : List Value) (n j : Nat) (u : Value) : Obj.mapSeq (·.setIfInBounds j u) { cls := .type "list", data := .seq its.toArray n } = { cls := .type "list", data := .seq (its.set j u).toArray n } := by
  simp [Obj.mapSeq]
theorem Inv.lst {pins : List (Addr × Obj)} {σ : St} {H : Hp} {s : Shared} {p : Addr} {xs : List V} (I : Inv X pins σ H s) (h : H p = some (.lst xs)) :
    ∃ (its : List Value) (n : Nat), Vals xs its ∧ s.heap.get? p = some { cls := .type "list", data := .seq its.toArray n } ∧ xs.length ≤ sizeLine := by
  obtain ⟨z, its, n, r, e⟩ := I.hok p _ h
  exact ⟨its, n, r, e, z⟩
theorem Inv.lstUpd {pins : List (Addr × Obj)} {σ : St} {H : Hp} {s : Shared} {p : Addr} {xs ys : List V} {its its' : List Value} {n n' : Nat} {f : Obj → Obj} (I : Inv X pins σ H s) (h : H p = some (.lst xs))
    (ho : s.heap.get? p = some { cls := .type "list", data := .seq its.toArray n }) (hf : f { cls := .type "list", data := .seq its.toArray n } = { cls := .type "list", data := .seq its'.toArray n' }) (r : Vals ys its') (hz : ys.length ≤ sizeLine) (t : Nat) :
    Inv X pins σ (upd H p (.lst ys)) { s with heap := s.heap.update p f, toks := t } := by
  have e : (s.heap.update p f).get? p = some { cls := .type "list", data := .seq its'.toArray n' } := by
    rw [Heap.get?_update_self f ho (by rw [hf] <;> rfl), hf]
  refine I.write (x := p) (e := p) (by rw [h]; trivial) (.inl rfl) (fun b u hb q => (Heap.get?_update_other _ _ (Ne.symm hb)).trans q) ⟨_, e⟩ ?_
  exact ⟨hz, its', n', r, e⟩
def rSetL : V → V → V → Hp → (Hp → Prop) → Prop := fun o i v H Q => ∃ p xs k j, o = .ref p ∧ i = .int k ∧ H p = some (.lst xs) ∧ ixN xs.length k = some j ∧ Q (upd H p (.lst (xs.set j v)))
theorem set_list : PSet X rSetL := by
  intro pins s σ H o i v ov iv u Q I ro ri rv h
  obtain ⟨p, xs, k, j, rfl, rfl, hp, hj, q⟩ := h
  cases ro
  obtain ⟨t, rfl⟩ := ri
  obtain ⟨its, n, r, ho, hz⟩ := I.lst hp
  obtain ⟨h1, h2, h3, h4⟩ := ixN_seq hj
  have hl := r.length
  have hn := line63
  have I' : Inv X pins σ (upd H p (.lst (xs.set j v))) { s with heap := s.heap.update p (Obj.mapSeq (·.setIfInBounds j u)) } :=
    I.lstUpd hp ho (mapSeq_set its n j u) (r.set rv j) (by rw [List.length_set]; exact hz) s.toks
  by_cases h0 : 0 ≤ k
  · have hk : k.toNat = j := by
      rw [seqIndex_of h0 h4] at h1
      exact Option.some.inj h1
    exact PySem.W.ki_setAt ho h0 (by omega) (by rw [List.size_toArray, ← hl]; exact h4) (by rw [hk]; exact ⟨_, I', q⟩)
  · have hk : (k + (its.toArray.size : Int)).toNat = j := by
      rw [seqIndex_neg (by omega) h3] at h1
      rw [List.size_toArray, ← hl]
      exact Option.some.inj h1
    exact PySem.W.ki_setBack ho (by omega) (by rw [List.size_toArray, ← hl]; exact h3) (by omega) (by rw [hk]; exact ⟨_, I', q⟩)
theorem slice_bounds (lo hi : Option Int) (n : Nat) : (sliceBounds lo hi none n).1 = ((HT.sIx n 0 lo : Nat) : Int) ∧ (sliceBounds lo hi none n).2.1 = ((HT.sIx n n hi : Nat) : Int) ∧ (sliceBounds lo hi none n).2.2 = 1 := by
  refine ⟨?_, ?_, rfl⟩
  · cases lo with
    | none => simp [sliceBounds, HT.sIx]
    | some i =>
      simp only [sliceBounds, HT.sIx, Option.getD_none, show (1 : Int) > 0 by decide, if_true]
      by_cases h : i < 0
      · simp only [h, if_true] <;> omega
      · simp only [h, if_false] <;> omega
  · cases hi with
    | none => simp [sliceBounds, HT.sIx]
    | some i =>
      simp only [sliceBounds, HT.sIx, Option.getD_none, show (1 : Int) > 0 by decide, if_true]
      by_cases h : i < 0
      · simp only [h, if_true] <;> omega
      · simp only [h, if_false] <;> omega
theorem slicePick_cut (its : List Value) (lo hi : Option Int) : slicePick its.toArray lo hi none = ((its.drop (HT.sIx its.length 0 lo)).take (HT.sIx its.length its.length hi - HT.sIx its.length 0 lo)).toArray := by
  obtain ⟨h1, h2, h3⟩ := slice_bounds lo hi its.toArray.size
  unfold slicePick
  rw [h1, h2, h3]
  simp only [sliceRange_one, pick_run, List.size_toArray] <;> rfl
def rSlL (K : PySem.W.Frag) : V → Option Int → Option Int → Hp → VK → Prop := fun x lo hi H Q => ∃ a xs, x = .ref a ∧ SqL K H a xs ∧ ∀ p, H p = none → Q (.ref p) (upd H p (.lst (cutV xs lo hi)))
theorem sl_list : SlR X (rSlL X.K) := by
  intro pins s σ H x v vl vu lo hi sl Q I rx hs pl pu h
  obtain ⟨a, xs, rfl, hx, q⟩ := h
  cases rx
  obtain ⟨its, r, ht, hz⟩ := I.list hx
  have hlen := r.length
  refine ⟨"list", _, slot_list_getitem.lookup, ht.isList.typeIs, ?_⟩
  refine wpAny_getItem_list_slice ht.isList hs pl pu .none (by simp) ?_ (by rw [List.size_toArray] <;> omega)
  rw [slicePick_cut, ← hlen]
  refine ⟨.ref s.heap.objs.size, _, I.laid (t' := s.toks) (o := .lst (cutV xs lo hi)) (fun b ob q => Heap.get?_push_of_some _ q) (Nat.le_refl _) ?_, rfl, q _ (I.hok.fresh (Nat.le_refl _))⟩
  exact ⟨Nat.le_trans (cutV_length xs lo hi) hz, _, 0, (r.drop (HT.sIx xs.length 0 lo)).take (HT.sIx xs.length xs.length hi - HT.sIx xs.length 0 lo), Heap.get?_push_size _ rfl⟩
def flatV : V → Bool
  | .non => true
  | .bl _ => true
  | .int _ => true
  | .str _ => true
  | _ => false
def eqV : V → V → Bool
  | .non, .non => true
  | .bl a, .bl b => a == b
  | .bl a, .int b => (if a then 1 else 0) == b
  | .int a, .bl b => a == (if b then 1 else 0)
  | .int a, .int b => a == b
  | .str a, .str b => a == b
  | _, _ => false
theorem eqAt_V {A : Around} {s : Shared} {y x : V} {u v : Value} (ry : RelV y u) (rx : RelV x v) (fy : flatV y = true) (fx : flatV x = true) : SeqAt.EqAt A s u v (eqV y x) := by
  cases y with
  | non =>
    cases ry
    cases x with
    | non => cases rx; exact SeqAt.EqAt.same _
    | bl b => cases rx; exact SeqAt.EqAt.none_bool b
    | int b => obtain ⟨t, rfl⟩ := rx; exact SeqAt.EqAt.none_int b t
    | str b => obtain ⟨t, rfl⟩ := rx; exact SeqAt.EqAt.none_str b t
    | _ => exact absurd (show false = true from fx) Bool.false_ne_true
  | bl a =>
    cases ry
    cases x with
    | non => cases rx; exact SeqAt.EqAt.bool_none a
    | bl b => cases rx; exact SeqAt.EqAt.bool_bool a b
    | int b => obtain ⟨t, rfl⟩ := rx; exact SeqAt.EqAt.bool_int a b t
    | str b => obtain ⟨t, rfl⟩ := rx; exact SeqAt.EqAt.bool_str a b t
    | _ => exact absurd (show false = true from fx) Bool.false_ne_true
  | int a =>
    obtain ⟨t', rfl⟩ := ry
    cases x with
    | non => cases rx; exact SeqAt.EqAt.int_none a t'
    | bl b => cases rx; exact SeqAt.EqAt.int_bool a t' b
    | int b => obtain ⟨t, rfl⟩ := rx; exact SeqAt.EqAt.int_int a t' b t
    | str b => obtain ⟨t, rfl⟩ := rx; exact SeqAt.EqAt.int_str a t' b t
    | _ => exact absurd (show false = true from fx) Bool.false_ne_true
  | str a =>
    obtain ⟨t', rfl⟩ := ry
    cases x with
    | non => cases rx; exact SeqAt.EqAt.str_none a t'
    | bl b => cases rx; exact SeqAt.EqAt.str_bool a t' b
    | int b => obtain ⟨t, rfl⟩ := rx; exact SeqAt.EqAt.str_int a t' b t
    | str b => obtain ⟨t, rfl⟩ := rx; exact SeqAt.EqAt.str_str a t' b t
    | _ => exact absurd (show false = true from fx) Bool.false_ne_true
  | _ => exact absurd (show false = true from fy) Bool.false_ne_true
def eqU (x : V) (u : Value) : Bool := match u with
  | .none => eqV .non x
  | .bool b => eqV (.bl b) x
  | .int i _ => eqV (.int i) x
  | .str z _ => eqV (.str z) x
  | _ => false
theorem eqU_of {x y : V} {u : Value} (r : RelV y u) (f : flatV y = true) : eqU x u = eqV y x := by
  cases y with
  | non => cases r; rfl
  | bl b => cases r; rfl
  | int i => obtain ⟨t, rfl⟩ := r; rfl
  | str z => obtain ⟨t, rfl⟩ := r; rfl
  | _ => exact absurd (show false = true from f) Bool.false_ne_true
theorem any_eqU {x : V} : ∀ {xs : List V} {us : List Value}, Vals xs us → xs.all flatV = true → us.any (eqU x) = xs.any fun y => eqV y x
  | _, _, .nil, _ => rfl
  | y :: xs, u :: us, .cons r t, f => by
    rw [List.all_cons, Bool.and_eq_true] at f
    rw [List.any_cons, List.any_cons, eqU_of r f.1, any_eqU t f.2]
theorem mem_eqAt {A : Around} {s : Shared} {x : V} {v : Value} (rx : RelV x v) (fx : flatV x = true) : ∀ {xs : List V} {us : List Value}, Vals xs us → xs.all flatV = true → ∀ u ∈ us, SeqAt.EqAt A s u v (eqU x u)
  | _, _, .nil, _ => fun u hu => by cases hu
  | y :: xs, u :: us, .cons r t, f => fun u' hu => by
    rw [List.all_cons, Bool.and_eq_true] at f
    rcases List.mem_cons.mp hu with rfl | hu
    · rw [eqU_of r f.1]; exact eqAt_V r rx f.1 fx
    · exact mem_eqAt rx fx t f.2 u' hu
def inV (x : V) (xs : List V) : Bool := xs.any fun y => eqV y x
def rIn (K : PySem.W.Frag) (neg : Bool) : R2 := fun x y H Q => ∃ p xs, y = .ref p ∧ (SqL K H p xs ∨ SqT K H p xs) ∧ flatV x = true ∧ xs.all flatV = true ∧ Q (.bl (if neg then !inV x xs else inV x xs)) H
theorem op_in_seq : OpR X (compareOp .In) (rIn X.K false) := by
  intro pins s σ H x y v u Q I rx ry h
  obtain ⟨p, xs, rfl, hq, fx, fs, q⟩ := h
  cases ry
  rcases hq with hq | hq
  · obtain ⟨its, r, pl, hz⟩ := I.list hq
    refine SeqAt.in_listAt (eqU x) pl.isList (fun w hw => mem_eqAt rx fx r fs w (by simpa using hw)) ⟨.bl _, H, I, rfl, ?_⟩
    rw [show its.toArray.any (eqU x) = its.any (eqU x) by simp, any_eqU r fs]
    exact q
  · obtain ⟨its, r, pl, hz⟩ := I.tuple hq
    refine SeqAt.in_tupleAt (eqU x) pl (fun w hw => mem_eqAt rx fx r fs w (by simpa using hw)) ⟨.bl _, H, I, rfl, ?_⟩
    rw [show its.toArray.any (eqU x) = its.any (eqU x) by simp, any_eqU r fs]
    exact q
theorem op_notIn_seq : OpR X (compareOp .NotIn) (rIn X.K true) := by
  intro pins s σ H x y v u Q I rx ry h
  obtain ⟨p, xs, rfl, hq, fx, fs, q⟩ := h
  cases ry
  rcases hq with hq | hq
  · obtain ⟨its, r, pl, hz⟩ := I.list hq
    refine SeqAt.notIn_listAt (eqU x) pl.isList (fun w hw => mem_eqAt rx fx r fs w (by simpa using hw)) ⟨.bl _, H, I, rfl, ?_⟩
    rw [show its.toArray.any (eqU x) = its.any (eqU x) by simp, any_eqU r fs]
    exact q
  · obtain ⟨its, r, pl, hz⟩ := I.tuple hq
    refine SeqAt.notIn_tupleAt (eqU x) pl (fun w hw => mem_eqAt rx fx r fs w (by simpa using hw)) ⟨.bl _, H, I, rfl, ?_⟩
    rw [show its.toArray.any (eqU x) = its.any (eqU x) by simp, any_eqU r fs]
    exact q
theorem op_notIn_str : OpR X (compareOp .NotIn) (fun x y H Q => ∃ i j, x = .str i ∧ y = .str j ∧ Q (.bl (!(!(Builtin.Str.occurrences j i 0 j.length 1).isEmpty))) H) := by
  intro pins s σ H x y v u Q I rx ry h
  obtain ⟨i, j, rfl, rfl, q⟩ := h
  obtain ⟨t, rfl⟩ := rx
  obtain ⟨t', rfl⟩ := ry
  exact notIn_str ⟨.bl _, H, I, rfl, q⟩
theorem CallR.or {f : Value} {r r' : List V → Hp → VK → Prop} (h : CallR X f r) (h' : CallR X f r') : CallR X f (fun xs H Q => r xs H Q ∨ r' xs H Q) := by
  intro pins s σ H xs us Q I rs q
  rcases q with q | q
  · exact h pins s σ H xs us Q I rs q
  · exact h' pins s σ H xs us Q I rs q
theorem call_list_of : CallR X (.type "list") (fun xs H Q => ∃ p ys, xs = [.ref p] ∧ (SqL X.K H p ys ∨ SqT X.K H p ys) ∧ ∀ l, H l = none → Q (.ref l) (upd H l (.lst ys))) := by
  intro pins s σ H xs us Q I r h
  obtain ⟨p, ys, rfl, hq, q⟩ := h
  obtain ⟨u, rfl, rx⟩ := vals1 r
  cases rx
  have fin : ∀ (its : List Value), Vals ys its → ys.length ≤ sizeLine → ∀ (h' : Heap) (c' : Nat), (∀ b o', s.heap.get? b = some o' → h'.get? b = some o') →
      h'.get? s.heap.objs.size = some { cls := .type "list", dict := none, data := .seq its.toArray c', slots := #[] } → EP X pins σ Q (.ref s.heap.objs.size) { s with heap := h' } := fun its r' hz h' c' kp e =>
    ⟨.ref s.heap.objs.size, _, I.laid (t' := s.toks) kp (Nat.le_refl _) (show ObjOk X.prog X.w _ h' _ (.lst ys) from ⟨hz, its, c', r', e⟩), rfl, q _ (I.hok.fresh (Nat.le_refl _))⟩
  rcases hq with hq | hq
  · obtain ⟨its, r', pl, hz⟩ := I.list hq
    have hlen := r'.length
    obtain ⟨o, ho, hc, n, hd⟩ := pl.isList
    exact call_list_seq p (.inl rfl) ho hc hd (fun h' c' kp e => fin its r' hz h' c' kp e) (by simp only [List.size_toArray] <;> omega)
  · obtain ⟨its, r', pl, hz⟩ := I.tuple hq
    have hlen := r'.length
    obtain ⟨o, ho, hc, n, hd⟩ := pl
    exact call_list_seq p (.inr rfl) ho hc hd (fun h' c' kp e => fin its r' hz h' c' kp e) (by simp only [List.size_toArray] <;> omega)
def tyV (K : PySem.W.Frag) (T : String) (x : V) (H : Hp) : Prop := match x with
  | .str _ => T = "str"
  | .int _ => T = "int"
  | .ref p => (T = "list" ∧ ∃ xs, SqL K H p xs) ∨ (T = "tuple" ∧ ∃ o, K.lookup p = some o ∧ o.cls = .type "tuple" ∧ o.dict = none) ∨
      (T = "dict" ∧ ((∃ kvs, H p = some (.dK kvs)) ∨ ∃ kvs, H p = some (.dT kvs))) ∨ (T = "set" ∧ ∃ S n, H p = some (.set S n))
  | _ => False
theorem tyV_is {pins : List (Addr × Obj)} {σ : St} {H : Hp} {s : Shared} {T : String} {x : V} {v : Value} (I : Inv X pins σ H s) (r : RelV x v) (ty : tyV X.K T x H) :
    s.TypeIs v T ∧ ∀ a, v = .ref a → ∃ ob, s.heap.get? a = some ob ∧ ob.dict = none := by
  cases x with
  | str z =>
    obtain ⟨t, rfl⟩ := r
    cases (show T = "str" from ty)
    exact ⟨typeIs_str s z t, fun _ e => nomatch e⟩
  | int i =>
    obtain ⟨t, rfl⟩ := r
    cases (show T = "int" from ty)
    exact ⟨typeIs_int s i t, fun _ e => nomatch e⟩
  | ref p =>
    cases r
    rcases ty with ⟨rfl, xs, hq⟩ | ⟨rfl, o, hk, hc, hd⟩ | ⟨rfl, hk⟩ | ⟨rfl, S, n, hk⟩
    · obtain ⟨its, _, pl, _⟩ := I.list hq
      refine ⟨pl.isList.typeIs, fun a e => ?_⟩
      cases e
      obtain ⟨o, n, e, c, hd, _⟩ := pl
      exact ⟨o, e, hd⟩
    · refine ⟨⟨o, I.kIn p o hk, hc⟩, fun a e => ?_⟩
      cases e
      exact ⟨o, I.kIn _ o hk, hd⟩
    · have z : ∃ o, s.heap.get? p = some o ∧ o.ExactDict := by
        rcases hk with ⟨kvs, hk⟩ | ⟨kvs, hk⟩
        · obtain ⟨_, _, _, _, o, _, _, e, ex, _⟩ := I.hok p _ hk
          exact ⟨o, e, ex⟩
        · obtain ⟨_, _, _, _, o, _, _, e, ex, _⟩ := I.hok p _ hk
          exact ⟨o, e, ex⟩
      obtain ⟨o, e, ex⟩ := z
      refine ⟨⟨o, e, ex.1⟩, fun a e2 => ?_⟩
      cases e2
      exact ⟨o, e, ex.2.1⟩
    · obtain ⟨o, _, _, _, e, ex, _⟩ := I.hok p _ hk
      refine ⟨⟨o, e, ex.1⟩, fun a e2 => ?_⟩
      cases e2
      exact ⟨o, e, ex.2.1⟩
  | _ => exact False.elim ty
def tBM0 (K : PySem.W.Frag) (T : String) (r : V → List V → Hp → VK → Prop) (to : TE) : TE := fun σ H Q => to σ H fun x H1 => tyV K T x H1 ∧ r x [] H1 Q
def tBM (K : PySem.W.Frag) (T : String) (r : V → List V → Hp → VK → Prop) (to : TE) (t : TA) : TE := fun σ H Q => to σ H fun x H1 => tyV K T x H1 ∧ t σ H1 fun xs H2 => r x xs H2 Q
variable {o e : Expr} {es : List Expr} {to : TE} {t : TA} {name : Str} {apos cpos : Pos} {T id : String} {r : V → List V → Hp → VK → Prop}
theorem pe_bm0 (pa : PlainAttrs T) (slot : Slot T name id) (hty : typeOf (.builtin id) = pure (.type "method_descriptor")) (hm : MtR X id r) (ho : PE X o to)
    (hbase : attributeBase o name X.env (eval o X.env) = eval o X.env := by rfl) (hline : (apos.endLine == cpos.line) = true := by rfl) : PE X (.Call (.Attribute o name apos) [] [] cpos) (tBM0 X.K T r to) := by
  intro pins s σ H Q I h
  refine wpAny_Call_method0_late hbase hline (thn (ho pins s σ H _ I h) fun v s1 ⟨x, H1, I1, r1, ty, q1⟩ => ?_)
  obtain ⟨h1, h2⟩ := tyV_is I1 r1 ty
  exact ⟨T, id, pa, slot, hty, h1, h2, Calls.callWith_builtin rfl (PySem.evalArgs_none (hm pins s1 σ H1 x [] v [] Q I1 r1 .nil q1))⟩
theorem pe_bm (pa : PlainAttrs T) (slot : Slot T name id) (hty : typeOf (.builtin id) = pure (.type "method_descriptor")) (hm : MtR X id r) (ho : PE X o to) (ha : PA X (e :: es) t)
    (hbase : attributeBase o name X.env (eval o X.env) = eval o X.env := by rfl)
    (hfew : ((backTo cpos (starEach (e :: es) X.env)).all (fun x => !x.1) && (backToKw cpos (keywordEach [] X.env)).all (fun x => x.1.isSome)
      && decide ((e :: es).length + ([] : List Keyword).length + (if ([] : List Keyword).isEmpty then 0 else 1) < 30)) = true := by rfl)
    (hline : (apos.endLine == cpos.line) = true := by rfl) (hs : starEach (e :: es) X.env = (false, eval e X.env) :: starEach es X.env := by rfl) (hplain : (backTo cpos (starEach es X.env)).any (·.1) = false := by rfl) :
    PE X (.Call (.Attribute o name apos) (e :: es) [] cpos) (tBM X.K T r to t) := by
  intro pins s σ H Q I h
  refine wpAny_Call_method_late hbase hfew hline rfl (thn (ho pins s σ H _ I h) fun v s1 ⟨x, H1, I1, r1, ty, q1⟩ => ?_)
  obtain ⟨h1, h2⟩ := tyV_is I1 r1 ty
  refine ⟨T, id, pa, slot, hty, h1, h2, ?_⟩
  have hA := ha cpos pins s1 σ H1 _ I1 q1
  rw [hs] at hA ⊢
  refine Calls.callWith_builtin (by show (false || (backTo cpos (starEach es X.env)).any (·.1)) = false; rw [hplain] <;> rfl) (Calls.evalArgs_plain ?_)
  exact thn hA fun us s2 ⟨vs, H2, I2, r2, q2⟩ => hm pins s2 σ H2 x vs v us Q I2 r1 r2 q2
end
end L2
namespace L2
open PySem PySem.Spec PyProof.Rows
def MtM (X : Cx) (id : String) (r : V → List V → Hp → VK → Prop) : Prop :=
  ∀ (pins : List (Addr × Obj)) (s : Shared) (σ : St) (H : Hp) (x : V) (xs : List V) (v : Value) (us : List Value) (Q : VK), Inv X pins σ H s → RelV x v → Vals xs us → r x xs H Q →
    wpAny (model X.prog X.w) X.A (call (.builtin id) (v :: us)) (EP X pins σ Q) X.xe s
theorem Vals.one : ∀ {x : V} {us : List Value}, Vals [x] us → ∃ u, us = [u] ∧ RelV x u
  | _, _, .cons r .nil => ⟨_, rfl, r⟩
theorem Vals.zero : ∀ {us : List Value}, Vals [] us → us = []
  | _, .nil => rfl
theorem Vals.rep {xs : List V} {us : List Value} (h : Vals xs us) : ∀ k : Nat, Vals (List.replicate k xs).flatten (List.replicate k us).flatten
  | 0 => .nil
  | k + 1 => by
    rw [List.replicate_succ, List.replicate_succ, List.flatten_cons, List.flatten_cons]
    exact Vals.append h (Vals.rep h k)
theorem foldl_rep (its : List Value) : ∀ (k : Nat) (acc : List Value),
    List.foldl (fun x1 x2 => x1 ++ x2) acc.toArray (List.replicate k its.toArray) = (acc ++ (List.replicate k its).flatten).toArray
  | 0, acc => by simp
  | k + 1, acc => by
    have e : acc.toArray ++ its.toArray = (acc ++ its).toArray := by simp
    have e2 : (acc ++ its) ++ (List.replicate k its).flatten = acc ++ (List.replicate (k + 1) its).flatten := by
      rw [List.replicate_succ, List.flatten_cons, List.append_assoc]
    rw [← e2, ← foldl_rep its k (acc ++ its), ← e, List.replicate_succ, List.foldl_cons]
section
variable {X : Cx} {pins : List (Addr × Obj)} {σ : St} {H : Hp} {s : Shared} {l b : Addr} {xs ys zs : List V}
theorem Inv.lset {its its' : List Value} {n : Nat} {f : Array Value → Array Value} {t' : Nat} (I : Inv X pins σ H s) (hH : H l = some (.lst xs))
    (e : s.heap.get? l = some { cls := .type "list", data := .seq its.toArray n }) (hf : f its.toArray = its'.toArray) (hv : Vals ys its') (hz : ys.length ≤ sizeLine) :
    Inv X pins σ (upd H l (.lst ys)) { s with heap := s.heap.update l (Obj.mapSeq f), toks := t' } := by
  have q := PySem.IsL.update e f
  rw [hf] at q
  refine I.write (x := l) (e := l) (by rw [hH]; exact trivial) (.inl rfl) (fun b' u hb hu => (Heap.get?_update_other s.heap (Obj.mapSeq f) (Ne.symm hb)).trans hu) ⟨_, q⟩ ?_
  exact ⟨hz, its', _, hv, q⟩
theorem Inv.lnew {its : List Value} {t' : Nat} (I : Inv X pins σ H s) (hv : Vals ys its) (hz : ys.length ≤ sizeLine) :
    Inv X pins σ (upd H s.heap.objs.size (.lst ys)) { s with heap := s.heap.push { cls := .type "list", data := .seq its.toArray }, toks := t' } :=
  I.laid (fun _ _ q => Heap.get?_push_of_some _ q) (Nat.le_refl _) ⟨hz, its, 0, hv, Heap.get?_push_size _ rfl⟩
theorem Inv.fresh (I : Inv X pins σ H s) : H s.heap.objs.size = none := I.hok.fresh (Nat.le_refl _)
theorem Inv.lstM (I : Inv X pins σ H s) (hH : H l = some (.lst xs)) : xs.length ≤ sizeLine ∧ ∃ (its : List Value) (n : Nat), Vals xs its ∧ xs.length = its.length ∧ s.heap.get? l = some { cls := .type "list", data := .seq its.toArray n } := by
  obtain ⟨z, its, n, r, e⟩ := I.hok l _ hH
  exact ⟨z, its, n, r, r.length, e⟩
theorem notLongL {n : Nat} (h : n ≤ sizeLine) : Builtin.List.listTooLong n = false := by
  unfold Builtin.List.listTooLong
  exact decide_eq_false (by omega)
end
section
variable {X : Cx}
def rAppend : V → List V → Hp → VK → Prop := fun x vs H Q => ∃ l xs y, x = .ref l ∧ vs = [y] ∧ H l = some (.lst xs) ∧ xs.length < sizeLine ∧ Q .non (upd H l (.lst (xs ++ [y])))
theorem mt_append : MtM X "list.append" rAppend := by
  intro pins s σ H x vs v us Q I rx rv h
  obtain ⟨l, xs, y, rfl, rfl, hH, hz, q⟩ := h
  cases rx
  obtain ⟨u, rfl, ru⟩ := rv.one
  obtain ⟨z, its, n, r, hl, e⟩ := I.lstM hH
  refine call_meets F.slot_list_append ⟨_, e, rfl⟩ F.entry_list_append (F.args_list_append_2 _ _) (PySem.list_append l its.toArray n u (by rw [List.size_toArray]; omega)) ⟨e, ?_⟩
  refine ⟨.non, _, I.lset (its' := its ++ [u]) hH e (by simp) (r.append (.cons ru .nil)) ?_, rfl, q⟩
  rw [List.length_append, List.length_singleton]
  omega
def rExtend : V → List V → Hp → VK → Prop := fun x vs H Q => ∃ l b xs zs, x = .ref l ∧ vs = [.ref b] ∧ H l = some (.lst xs) ∧ H b = some (.lst zs) ∧ xs.length + zs.length ≤ sizeLine ∧ Q .non (upd H l (.lst (xs ++ zs)))
def rPop : V → List V → Hp → VK → Prop := fun x vs H Q => ∃ l xs y, x = .ref l ∧ vs = [] ∧ H l = some (.lst xs) ∧ xs[xs.length - 1]? = some y ∧ Q y (upd H l (.lst xs.dropLast))
def rPopAt : V → List V → Hp → VK → Prop := fun x vs H Q => ∃ l xs i k y, x = .ref l ∧ vs = [.int i] ∧ H l = some (.lst xs) ∧ -(2 ^ 63) ≤ i ∧ i < 2 ^ 63 ∧ seqIndex? i xs.length = some k ∧ xs[k]? = some y ∧ Q y (upd H l (.lst (xs.eraseIdx k)))
def rReverse : V → List V → Hp → VK → Prop := fun x vs H Q => ∃ l xs, x = .ref l ∧ vs = [] ∧ H l = some (.lst xs) ∧ Q .non (upd H l (.lst xs.reverse))
def rClear : V → List V → Hp → VK → Prop := fun x vs H Q => ∃ l xs, x = .ref l ∧ vs = [] ∧ H l = some (.lst xs) ∧ Q .non (upd H l (.lst []))
def rCat : R2 := fun x y H Q => ∃ l b xs zs, x = .ref l ∧ y = .ref b ∧ H l = some (.lst xs) ∧ H b = some (.lst zs) ∧ xs.length + zs.length ≤ sizeLine ∧ ∀ p, H p = none → Q (.ref p) (upd H p (.lst (xs ++ zs)))
theorem op_cat : OpR X (binaryOp .Add) rCat := by
  intro pins s σ H x y v u Q I rx ry h
  obtain ⟨l, b, xs, zs, rfl, rfl, hH, hB, hz, q⟩ := h
  cases rx
  cases ry
  obtain ⟨z, its, n, r, hl, e⟩ := I.lstM hH
  obtain ⟨z2, its2, n2, r2, hl2, e2⟩ := I.lstM hB
  refine PySem.P.add_list e e2 ?_ (by rw [List.size_toArray, List.size_toArray]; omega)
  have ea : its.toArray ++ its2.toArray = (its ++ its2).toArray := by simp
  rw [ea]
  exact ⟨.ref _, _, I.lnew (t' := s.toks) (r.append r2) (by rw [List.length_append]; omega), rfl, q _ I.fresh⟩
def rRep : R2 := fun x y H Q => ∃ l k xs, x = .ref l ∧ y = .int k ∧ H l = some (.lst xs) ∧ -(2 ^ 63) ≤ k ∧ k < 2 ^ 63 ∧ xs.length * k.toNat ≤ sizeLine ∧
  ∀ p, H p = none → Q (.ref p) (upd H p (.lst (List.replicate k.toNat xs).flatten))
theorem len_rep {α : Type} (xs : List α) (k : Nat) : (List.replicate k xs).flatten.length = k * xs.length := by
  induction k with
  | zero => simp
  | succ k ih => rw [List.replicate_succ, List.flatten_cons, List.length_append, ih, Nat.succ_mul, Nat.add_comm]
theorem op_rep : OpR X (binaryOp .Mult) rRep := by
  intro pins s σ H x y v u Q I rx ry h
  obtain ⟨l, k, xs, rfl, rfl, hH, h1, h2, hz, q⟩ := h
  cases rx
  obtain ⟨t, rfl⟩ := ry
  obtain ⟨z, its, n, r, hl, e⟩ := I.lstM hH
  have hlen : its.toArray.size * k.toNat ≤ sizeLine := by rw [List.size_toArray, ← hl]; exact hz
  have hcap : ¬ its.toArray.size * k.toNat > (2 ^ 63 - 1) / 8 := by
    have : (sizeLine : Nat) ≤ (2 ^ 63 - 1) / 8 := by decide
    omega
  have hfit : ¬ (!Builtin.List.listFitsIndex k) = true := by
    rw [fitsIndex_both h1 h2]
    exact Bool.false_ne_true
  have hlong : ¬ Builtin.List.listTooLong (its.toArray.size * k.toNat) = true := by
    rw [notLongL hlen]
    exact Bool.false_ne_true
  have hnew : List.foldl (fun x1 x2 => x1 ++ x2) #[] (List.replicate (if its.toArray.isEmpty = true then 0 else k.toNat) its.toArray) = (List.replicate k.toNat its).flatten.toArray := by
    have f0 : ∀ m : Nat, List.foldl (fun x1 x2 => x1 ++ x2) #[] (List.replicate m its.toArray) = (List.replicate m its).flatten.toArray := fun m => by
      have := foldl_rep its m []
      rw [List.nil_append] at this
      exact this
    rw [f0]
    cases its with
    | nil => simp
    | cons a r' => rw [if_neg (by simp)]
  refine wpAny_binaryOp_repeat_ref (T := "list") (U := "int") (by decide) ⟨_, e, rfl⟩ (fun s' => typeIs_int s' k t) noFill_list_mul F.fills_int_mul F.slot_int_rmul repeat_list F.slot_int_index.lookup
    (call_meets F.slot_int_rmul (typeIs_int s k t) F.entry_int_rmul (F.args_int_rmul_2 _ _) (int___rmul___int_list k t l its.toArray n)
      ⟨e, rfl, ⟨_, e, rfl⟩, call_meets F.slot_list_mul ⟨_, e, rfl⟩ F.entry_list_mul (F.args_list_mul_2 _ _) (AutoListH.list___mul___list_int_3 l its.toArray n k t hfit hcap hlong) ⟨e, ?_⟩⟩)
  rw [hnew]
  exact ⟨.ref _, _, I.lnew (t' := s.toks) (r.rep k.toNat) (by rw [len_rep, Nat.mul_comm]; exact hz), rfl, q _ I.fresh⟩
end
section
variable {prog : Program} {w : World} {A : Around} {E : Value → Shared → Prop} {s : Shared}
end
section
variable {X : Cx}
end
end L2
namespace Att
open PySem PySem.W PySem.Calls PyProof.Rows
theorem ints_of_wellAll {P : Params} {h : Heap} : ∀ (ns : List Int) (vs : List Value), WellAll P h vs (ns.map WData.int) → IntsAre vs ns := by
  intro ns
  induction ns with
  | nil =>
    intro vs w
    rw [List.map_nil] at w
    cases w
    exact .nil
  | cons n ns ih =>
    intro vs w
    rw [List.map_cons] at w
    cases w with
    | cons a b =>
      cases a
      exact .cons _ _ (ih _ b)
theorem script_of {l : OpenLaw} {n : Nat} (hn : l.most = some n) {P : Params} {h : Heap} {args : List WData} {vals : List Value}
    (hpre : l.row.toRowW.claim.pre args = true) (hwl : WellAll P h vals args) :
    ∃ a vs ns, vals = [Value.ref a] ∧ args = [WData.list (ns.map WData.int)] ∧ h.get? a = some { cls := .type "list", data := .seq vs.toArray } ∧ IntsAre vs ns ∧ ns.length ≤ n := by
  have hsh : WShape.hasAll [] args [.list .int] = true := (pre_splitW hpre).1
  have hc : l.pre.holds [] { args := args } = true := (pre_splitW hpre).2
  obtain ⟨d, r, rfl, h1, h2⟩ := hasAllW_cons hsh
  obtain rfl := hasAllW_nil h2
  obtain ⟨xs, rfl, h3⟩ := hasW_list h1
  obtain ⟨ns, rfl⟩ := items_int h3
  have hlen : ns.length ≤ n := by
    unfold OpenLaw.pre at hc
    have h4 : (WTm.not (.lt (.lit (.int (n : Int))) (.len (.arg 0)))).holds [] { args := [.list (ns.map .int)] } = true := by
      have h4 := (holds_andW hc).1
      rw [hn] at h4
      exact h4
    have h5 := condW_of h4 (w_not (w_lt w_lit (w_len_list (w_arg rfl))))
    rw [List.length_map] at h5
    refine Nat.le_of_not_lt fun q => ?_
    have q' : (n : Int) < ((ns.length : Nat) : Int) := by omega
    first
      | (rw [decide_eq_true q'] at h5; exact absurd h5 (by decide))
      | (simp at h5; omega)
  cases hwl with
  | cons w1 w2 =>
    cases w2
    cases w1 with
    | list ho hall => exact ⟨_, _, ns, rfl, rfl, ho, ints_of_wellAll ns _ hall, hlen⟩
theorem post_true (l : OpenLaw) (args : List WData) : l.row.toRowW.claim.post args (.bool true) args = true :=
  postW_of (r := l.row.toRowW) (X := (true == true))
    (show WShape.has [] (.bool true) .bool = true by first | rfl | decide | simp [WShape.has, WShape.arms, WShape.armsAll])
    (show (WTm.eq .res (.lit (.bool true))).value [] { args := args, res := some (.bool true), after := args } = some (.bool (true == true)) from w_eq_bool (w_res rfl) w_lit) rfl
theorem attach_call {l : OpenLaw} {n : Nat} {q : Program} {loose : List Str} {XP : (Str → Option Value) → Heap → Prop} {YP : World → Heap → Prop} {d : DefRec}
    (hn : l.most = some n) (hdf : d.params.defaults = [])
    (call : ∀ (w : World) (s₀ s₁ : Shared) (mg mb : Str → Option Value) (fa : Addr) (o : Obj) (pm cd doc : Value) (a : Addr) (vs : List Value) (ns : List Int),
      Ground q loose [] XP w s₀ mg mb s₁.heap → YP w s₁.heap →
      s₁.heap.get? fa = some o → o.data = .func (docDef d.name d.params d.body d.scope pm cd doc) → s₁.heap.CodeRec cd d.name → mg d.name = some (.ref fa) →
      s₁.heap.get? a = some { cls := .type "list", data := .seq vs.toArray } → IntsAre vs ns → ns.length ≤ n → s₁.gens = #[] →
      codeAny (model l.prog w) callerA (.call (.ref fa) ⟨[.ref a], []⟩) (fun r s' => r = .ok (.ret (.bool true)) ∧ OldK s₁.heap s'.heap ∧ s'.os = s₁.os ∧ AllBare s'.gens) s₁) :
    WalkO q loose XP YP l.row.toRowW d [] (fun f vs => PySem.call f vs) := by
  intro w s₀ s₁ mg mb G Y fa o pm cd doc dV kV ho hd hcd hD hmg hg args vals as hpre hlay hrd hwl hlo
  obtain rfl : dV = .none := Dflts.none hD hdf
  obtain rfl : kV = .none := Dflts.noKw hD
  obtain ⟨a, vs, ns, rfl, rfl, hobj, hints, hlen⟩ := script_of hn hpre hwl
  refine enter_call (codeAny_mono (call w s₀ s₁ mg mb fa o pm cd doc a vs ns G Y ho (fd_plain hd) hcd hmg hobj hints hlen hg) fun r s' hq => ?_)
  obtain ⟨rfl, h2, h3, h4⟩ := hq
  exact ⟨.inl ⟨.bool true, .bool true, [], rfl, fun _ => rfl, .bool true, post_true l _, fun _ => ⟨List.Pairwise.nil, fun _ hm => (nomatch hm)⟩⟩, h2, h3, h4⟩
section
variable {prog : Program} {w : World} {A : Around} {E : Value → Shared → Prop} {s : Shared} {K : Frag}
def noObjs (h : Heap) : Heap := { h with objs := #[] }
def ledger (h : Heap) (L d : Addr) : List (Addr × Obj) := (List.range h.objs.size).filterMap fun a => if a = L ∨ a = d then none else (h.get? a).map fun o => (a, o)
end
end Att
namespace L2
open PySem PySem.Spec PyProof.Rows
theorem vals_ints : ∀ {vs : List Value} {ns : List Int}, IntsAre vs ns → Vals (ns.map V.int) vs
  | _, _, .nil => .nil
  | _, _, .cons n t h => .cons ⟨t, rfl⟩ (vals_ints h)
def Only (H : Hp) : Prop := ∀ b, H b = none ∨ ∃ o xs, H b = some (.frz o (.lst xs))
theorem law_call {P : Program} {w : World} {K : PySem.W.Frag} {mg mb : Str → Option Value} {CX : CXT} {k : Nat} {fa a : Addr} {fd : FuncData} {x : Str} {sp : Sp} {s₁ : Shared} {vs : List Value} {ns : List Int}
    (KX : K.In s₁.heap) (hns : s₁.heap.Ns mainGlobals mg) (hb : s₁.heap.Ns builtinsNs mb) (hbb : ∀ x : Str, x ≠ "__name__" → mb x = bootBuiltins x) (hlim : s₁.heap.NoLimit) (hg : s₁.gens = #[])
    (ha : s₁.heap.get? a = some { cls := .type "list", data := .seq vs.toArray }) (hi : IntsAre vs ns) (hl : ns.length ≤ sizeLine) (hr : Room k callerA)
    (F : ∀ base : Heap, K.In base → base.Ns mainGlobals mg → FnOk P w K mg base CX k fa fd [x] sp) (hbind : ∀ (s : Shared) (u : Value), BindsTo s fd ⟨[u], []⟩ [(x, u)])
    (hsp : ∀ H : Hp, Only H → SqL K H a (ns.map V.int) → sp [.ref a] H (fun v _ => v = .bl true) fun _ _ _ => False)
    (hCX : ∀ H e s', CX [] H s₁ (fun _ _ _ => False) e s' → False) :
    codeAny (model P w) callerA (.call (.ref fa) ⟨[.ref a], []⟩) (fun r s' => r = .ok (.ret (.bool true)) ∧ OldK s₁.heap s'.heap ∧ s'.os = s₁.os ∧ AllBare s'.gens) s₁ := by
  have rv := vals_ints hi
  have lenV := hi.length
  have core : ∀ H : Hp, Only H → SqL K H a (ns.map V.int) → HOk P w H s₁.heap → (∀ b, H b ≠ none → b = a) → (H a ≠ none → K.lookup a = none) →
      codeAny (model P w) callerA (.call (.ref fa) ⟨[.ref a], []⟩) (fun r s' => r = .ok (.ret (.bool true)) ∧ OldK s₁.heap s'.heap ∧ s'.os = s₁.os ∧ AllBare s'.gens) s₁ := by
    intro H hO hS hok hA hK
    have base_of : ∀ {b : Addr} {o : Obj}, s₁.heap.get? b = some o → H b = none → (hidT s₁.heap H).get? b = some o := fun e n => hidT_get e n
    have noA : ∀ {b : Addr} {o : Obj} {es : Array DictEntry} {ep : Nat}, s₁.heap.get? b = some o → o.data = .dict es ep → H b = none := fun {b o es ep} e d => by
      cases q : H b with
      | none => rfl
      | some u =>
        have e' : b = a := hA b (by rw [q]; simp)
        subst e'
        rw [ha] at e; cases e
        have d' : Data.seq vs.toArray _ = Data.dict es ep := d
        cases d'
    have nsK : ∀ {b : Addr} {m : Str → Option Value}, s₁.heap.Ns b m → (hidT s₁.heap H).Ns b m := fun {b m} ⟨o, es, ep, e, d, r⟩ => ⟨o, es, ep, base_of e (noA e d), d, r⟩
    have hKb : K.In (hidT s₁.heap H) := fun b o e => base_of (KX b o e) (by
      cases q : H b with
      | none => rfl
      | some u =>
        have e' : b = a := hA b (by rw [q]; simp)
        subst e'
        rw [hK (by rw [q]; simp)] at e; cases e)
    have hM : Mod K mg (hidT s₁.heap H) := ⟨hKb, nsK hns, ⟨mb, nsK hb, hbb⟩, let ⟨mc, h1, h2⟩ := hlim; ⟨mc, nsK h1, h2⟩⟩
    have e0 : Env0 P w K mg (hidT s₁.heap H) callerA [] s₁ H := ⟨rfl, hM, fun b o e => of_hidT e, Nat.le_of_eq (hidT_size _ _), trivial, fun b hb => absurd (show b ∈ ([] : List Addr) from hb) (by simp), hok, .of_eq hg⟩
    refine codeAny_mono ((F _ hKb (nsK hns)).run callerA [] s₁ H ⟨[.ref a], []⟩ [.ref a] [.ref a] _ _ hr e0 (hbind s₁ (.ref a)) (.cons rfl .nil) (hsp H hO hS)) fun r s' h => ?_
    cases r with
    | error e => exact (hCX H e s' h).elim
    | ok fl =>
      cases fl with
      | next => exact False.elim h
      | brk => exact False.elim h
      | cont => exact False.elim h
      | ret u =>
        obtain ⟨v, H', os, bare, un, hok', r', q⟩ := h
        have q' : v = .bl true := q
        subst q'
        obtain rfl : u = Value.bool true := r'
        refine ⟨rfl, OldK.of_keep fun b o e => ?_, os, bare⟩
        cases q : H b with
        | none => exact un.keep b o e q (by intro z; exact absurd (show b ∈ ([] : List Addr) from z) (by simp)) (by simp)
        | some u =>
          rcases hO b with z | ⟨ob, xs, z⟩
          · rw [q] at z; cases z
          · have z2 := un.frzs b ob _ z
            obtain ⟨e1, _⟩ := hok b _ z
            obtain ⟨e2, _⟩ := hok' b _ z2
            rw [e] at e1; cases e1
            exact e2
  cases hk : K.lookup a with
  | some o =>
    have e := KX a o hk
    rw [ha] at e
    cases e
    refine core (fun _ => none) (fun _ => .inl rfl) (.inr ⟨_, vs.toArray, _, hk, rfl, rfl, rfl, by rw [List.size_toArray, lenV]; exact hl, by simpa using rv⟩) (fun b u z => by have z' : (none : Option HO) = some u := z; cases z') (fun b z => absurd rfl z) fun z => absurd rfl z
  | none =>
    refine core (fun b => if b = a then some (.frz { cls := .type "list", data := .seq vs.toArray } (.lst (ns.map V.int))) else none) (fun b => ?_) (.inl (.inr ⟨{ cls := .type "list", data := .seq vs.toArray }, if_pos rfl⟩)) (fun b u z => ?_) (fun b z => ?_) fun _ => hk
    · by_cases hb : b = a
      · exact .inr ⟨_, _, if_pos hb⟩
      · exact .inl (if_neg hb)
    · by_cases hb : b = a
      · have z' := (if_pos hb).symm.trans z
        cases z'
        subst hb
        exact ⟨ha, by rw [List.length_map]; exact hl, vs, _, rv, ha⟩
      · have z' := (if_neg hb).symm.trans z
        cases z'
    · by_cases hb : b = a
      · exact hb
      · exact absurd (if_neg hb) z
end L2
namespace L2
open PySem PySem.Spec PyProof.Rows
abbrev KOf {K : PySem.W.Frag} {h : Heap} (_ : K.In h) : PySem.W.Frag := K
theorem walk_of {l : PySem.W.OpenLaw} {n k : Nat} {q : Program} {loose : List Str} {XP : (Str → Option Value) → Heap → Prop} {YP : World → Heap → Prop} {d : DefRec} {K : Params → PySem.W.Frag} {CX : World → CXT} {sp : World → Sp} {x : Str}
    (hn : l.most = some n) (hn2 : n ≤ sizeLine) (hdf : d.params.defaults = []) (hr : Room k callerA)
    (hY : ∀ (w : World) (h : Heap), YP w h → (K w.params).In h)
    (F : ∀ (w : World) (mg : Str → Option Value) (fa : Addr) (h : Heap), (K w.params).In h → h.Ns mainGlobals mg → mg d.name = some (.ref fa) →
      ∃ fd : FuncData, (∀ (s : Shared) (u : Value), BindsTo s fd ⟨[u], []⟩ [(x, u)]) ∧
        ∀ base : Heap, (K w.params).In base → base.Ns mainGlobals mg → FnOk l.prog w (K w.params) mg base (CX w) k fa fd [x] (sp w))
    (hsp : ∀ (w : World) (H : Hp) (a : Addr) (ns : List Int), ns.length ≤ n → Only H → SqL (K w.params) H a (ns.map V.int) → sp w [.ref a] H (fun v _ => v = .bl true) fun _ _ _ => False)
    (hCX : ∀ (w : World) (H : Hp) (s : Shared) (e : Value) (s' : Shared), CX w [] H s (fun _ _ _ => False) e s' → False) :
    PySem.W.WalkO q loose XP YP l.row.toRowW d [] (fun f vs => PySem.call f vs) := by
  refine Att.attach_call hn hdf fun w s₀ s₁ mg mb fa o pm cd doc a vs ns G Y ho hd hcd hmg hobj hints hlen hg => ?_
  have KX := hY w _ Y
  obtain ⟨fd, hb, hF⟩ := F w mg fa _ KX G.T.g hmg
  exact law_call KX G.T.g G.T.b G.T.builtins G.T.nolimit hg hobj hints (Nat.le_trans hlen hn2) hr hF hb (fun H hO hS => hsp w H a ns hlen hO hS) fun H e s' => hCX w H s₁ e s'
end L2
namespace L2
open PySem PySem.Spec PyProof.Rows
abbrev CX0 : CXT := fun _ _ _ _ _ _ => False
abbrev E0 : XK := fun _ _ _ => False
theorem pass0 {X : Cx} : Passes CX0 X E0 := fun _ _ _ _ _ _ _ h => h.elim
structure Fun (K : PySem.W.Frag) (x qual : Str) (st : Stmt) (f : Addr) (fd : FuncData) : Prop where
  ex : ∃ (oc : Value) (od : Option Addr) (kV doc pm : Value) (an : Option Addr) (cdv ct : Value) (osl : Array (Option Value)),
    fd = PySem.W.fnOf x qual (defArgs st) (defBody st) (defScope st) .none kV doc pm an cdv ct ∧ K.lookup f = some ⟨oc, od, .func fd, osl⟩ ∧ PySem.W.codeIn K cdv qual = true
  kp : PySem.W.keepIn K (.ref f) = true
section
variable {P : Program} {w : World} {K : PySem.W.Frag} {mg : Str → Option Value} {base : Heap}
theorem Fun.ok {x qual : Str} {st : Stmt} {f : Addr} {fd : FuncData} {N ps : List Str} {k : Nat} {sp : Sp} (F : Fun K x qual st f fd) (S : FnScope N ps (defScope st)) (len : ∀ vs H Q E, sp vs H Q E → vs.length = ps.length)
    (hbody : ∀ (cdv : Value) (A : Around) (outer : List Env) (s : Shared) (H : Hp) (vs : List V) (Q : VK) (E : XK), Room k (A.deeper (envOfC qual (defScope st) s.heap.objs.size f cdv)) → sp vs H Q E →
      ∃ t, PSs (cxOf CX0 P w K mg base N qual (defScope st) f cdv A outer s H E).nox (defBody st) t ∧ t { nx := fun _ H' => Q .non H', rt := Q } (start N vs) H) : FnOk P w K mg base CX0 (k + 1) f fd ps sp := by
  obtain ⟨oc, od, kV, doc, pm, an, cdv, ct, osl, rfl, lk, hcd⟩ := F.ex
  refine fn_of lk hcd S len fun A outer s H vs Q E hr hsp => ?_
  obtain ⟨t, h, q⟩ := hbody cdv A outer s H vs Q E hr hsp
  exact ⟨t, h.nox, q⟩
theorem Fun.binds {x qual : Str} {st : Stmt} {f : Addr} {fd : FuncData} {ps : List Str} (F : Fun K x qual st f fd)
    (h : ∀ (kV doc pm : Value) (an : Option Addr) (cdv ct : Value) (us : List Value), us.length = ps.length → bindArgs (PySem.W.fnOf x qual (defArgs st) (defBody st) (defScope st) .none kV doc pm an cdv ct) ⟨us, []⟩ = pure (ps.zip us)) : Binds K fd ps [] := by
  obtain ⟨oc, od, kV, doc, pm, an, cdv, ct, osl, rfl, lk, hcd⟩ := F.ex
  exact .all (h kV doc pm an cdv ct)
theorem fun_mk {x qual : Str} {st : Stmt} {f : Addr} {oc : Value} {od an : Option Addr} {osl : Array (Option Value)} {kV doc pm cdv ct : Value} (l : K.lookup f = some ⟨oc, od, .func (PySem.W.fnOf x qual (defArgs st) (defBody st) (defScope st) .none kV doc pm an cdv ct), osl⟩)
    (c : PySem.W.codeIn K cdv qual = true) (k : PySem.W.keepIn K (.ref f) = true) : Fun K x qual st f (PySem.W.fnOf x qual (defArgs st) (defBody st) (defScope st) .none kV doc pm an cdv ct) := ⟨⟨oc, od, kV, doc, pm, an, cdv, ct, osl, rfl, l, c⟩, k⟩
end
theorem small1000 {n : Nat} (h : n ≤ 1000) : n < sizeLine := Nat.lt_of_le_of_lt h (by decide)
section
variable {X : Cx}
end
theorem iteF {A B : Prop} (h : B) : if false = true then A else B := by
  rw [if_neg Bool.false_ne_true]
  exact h
theorem iteT {A B : Prop} (h : A) : if true = true then A else B := by
  rw [if_pos rfl]
  exact h
theorem ite2 {c A B : Prop} [Decidable c] (h1 : c → A) (h2 : ¬ c → B) : if c then A else B := by
  by_cases h : c
  · rw [if_pos h]
    exact h1 h
  · rw [if_neg h]
    exact h2 h
def Same (H H' : Hp) : Prop := ∀ b o, H b = some o → H' b = some o
theorem Same.refl (H : Hp) : Same H H := fun _ _ h => h
theorem Same.trans {H H1 H2 : Hp} (a : Same H H1) (b : Same H1 H2) : Same H H2 := fun c o h => b c o (a c o h)
theorem Same.free {H H' : Hp} (e : Same H H') {l : Addr} (h : H' l = Option.none) : H l = Option.none := by
  cases q : H l with
  | none => rfl
  | some o =>
    rw [e l o q] at h
    cases h
theorem Same.seq {K : PySem.W.Frag} {H H' : Hp} {a : Addr} {xs : List V} (e : Same H H') (h : SqL K H a xs) : SqL K H' a xs := by
  rcases h with (h | ⟨o, h⟩) | h
  · exact .inl (.inl (e _ _ h))
  · exact .inl (.inr ⟨o, e _ _ h⟩)
  · exact .inr h
end L2

set_option Elab.async false
set_option linter.all false
set_option maxRecDepth 100000
namespace L2
open PySem PySem.Spec PyProof.Rows
theorem forIn_yield_fold {α β : Type} {l : List α} {f : α → β → Sem (ForInStep β)} (g : β → α → β) (c : β) (h : ∀ x ∈ l, ∀ c, f x c = pure (.yield (g c x))) :
    forIn l c f = pure (l.foldl g c) := by
  induction l generalizing c with
  | nil => rfl
  | cons x l ih =>
    rw [List.forIn_cons, h x List.mem_cons_self, pure_bind]
    exact ih _ fun y hy => h y (List.mem_cons_of_mem _ hy)
def clStep (env : Env) (cs : List (Str × Addr)) (x : Str × NameKind) : List (Str × Addr) :=
  if x.2 == .free then (x.1, (env.cells.lookup x.1).getD 0) :: cs else cs
def clOf (env : Env) (names : List (Str × NameKind)) : List (Str × Addr) := names.foldl (clStep env) []
theorem closureFor_clOf {scope : Scope} {env : Env} (h : ∀ x ∈ scope.names, x.2 = .free → ∃ c, env.cells.lookup x.1 = some c) : closureFor scope env = pure (clOf env scope.names) := by
  simp only [closureFor]
  rw [forIn_yield_fold (clStep env) [] (fun x hx c => by
    obtain ⟨n, kind⟩ := x
    cases hk : kind == NameKind.free with
    | false => simp only [clStep, hk, Bool.false_eq_true, if_false]
    | true =>
      obtain ⟨a, ha⟩ := h (n, kind) hx (by simpa using hk)
      have ha' : env.cells.lookup n = some a := ha
      simp only [clStep, hk, if_true, cellOf, ha', Option.getD_some, pure_bind])]
  rfl
theorem clOf_mem {env : Env} : ∀ {names : List (Str × NameKind)} {cs : List (Str × Addr)} {n : Str} {c : Addr}, (n, c) ∈ names.foldl (clStep env) cs → (n, c) ∈ cs ∨ ((n, NameKind.free) ∈ names ∧ c = (env.cells.lookup n).getD 0)
  | [], _, _, _, h => .inl h
  | (m, k) :: r, cs, n, c, h => by
    rcases clOf_mem (names := r) (cs := clStep env cs (m, k)) h with h | ⟨h, e⟩
    · unfold clStep at h
      by_cases hk : (k == NameKind.free) = true
      · rw [if_pos hk] at h
        rcases List.mem_cons.mp h with e | h
        · cases e
          have hk' : k = .free := by simpa using hk
          subst hk'
          exact .inr ⟨List.mem_cons_self, rfl⟩
        · exact .inl h
      · rw [if_neg hk] at h
        exact .inl h
    · exact .inr ⟨List.mem_cons_of_mem _ h, e⟩
theorem clOf_keep {env : Env} {p : Str × Addr} : ∀ {names : List (Str × NameKind)} {cs : List (Str × Addr)}, p ∈ cs → p ∈ names.foldl (clStep env) cs
  | [], _, h => h
  | x :: r, cs, h => clOf_keep (names := r) (cs := clStep env cs x) (by
    unfold clStep
    split
    · exact List.mem_cons_of_mem _ h
    · exact h)
theorem clOf_in {env : Env} {n : Str} : ∀ {names : List (Str × NameKind)} {cs : List (Str × Addr)}, (n, NameKind.free) ∈ names → (n, (env.cells.lookup n).getD 0) ∈ names.foldl (clStep env) cs
  | x :: r, cs, h => by
    rcases List.mem_cons.mp h with e | h
    · subst e
      refine clOf_keep (names := r) (cs := clStep env cs (n, .free)) ?_
      unfold clStep
      rw [if_pos (by rfl)]
      exact List.mem_cons_self
    · exact clOf_in (names := r) h
theorem lookup_of_mem {α : Type} : ∀ {l : List (Str × α)} {n : Str} {c : α}, (n, c) ∈ l → ∃ c', l.lookup n = some c'
  | (k, v) :: r, n, c, h => by
    rw [List.lookup_cons]
    cases hb : n == k with
    | true => exact ⟨v, rfl⟩
    | false =>
      rcases List.mem_cons.mp h with e | h
      · cases e; simp at hb
      · exact lookup_of_mem h
theorem cellsFrom_mem : ∀ {names : List (Str × NameKind)} {k : Nat} {acc : List (Str × Addr)} {n : Str} {c : Addr}, (n, c) ∈ cellsFrom k names acc → (n, c) ∈ acc ∨ (k ≤ c ∧ (n, NameKind.cell) ∈ names)
  | [], _, _, _, _, h => .inl h
  | (m, kd) :: r, k, acc, n, c, h => by
    unfold cellsFrom at h
    by_cases hk : (kd == NameKind.cell) = true
    · rw [if_pos hk] at h
      have hk' : kd = .cell := by simpa using hk
      subst hk'
      rcases cellsFrom_mem (names := r) h with h | ⟨h1, h2⟩
      · rcases List.mem_cons.mp h with e | h
        · cases e
          exact .inr ⟨Nat.le_refl _, List.mem_cons_self⟩
        · exact .inl h
      · exact .inr ⟨by omega, List.mem_cons_of_mem _ h2⟩
    · rw [if_neg hk] at h
      rcases cellsFrom_mem (names := r) h with h | ⟨h1, h2⟩
      · exact .inl h
      · exact .inr ⟨h1, List.mem_cons_of_mem _ h2⟩
theorem cellsFrom_inj : ∀ {names : List (Str × NameKind)} {k : Nat} {acc : List (Str × Addr)}, (∀ n c, (n, c) ∈ acc → c < k) → (∀ n n' c, (n, c) ∈ acc → (n', c) ∈ acc → n = n') →
    ∀ {n n' : Str} {c : Addr}, (n, c) ∈ cellsFrom k names acc → (n', c) ∈ cellsFrom k names acc → n = n'
  | [], _, _, _, hi, _, _, _, h, h' => hi _ _ _ h h'
  | (m, kd) :: r, k, acc, hl, hi, n, n', c, h, h' => by
    unfold cellsFrom at h h'
    by_cases hk : (kd == NameKind.cell) = true
    · rw [if_pos hk] at h h'
      refine cellsFrom_inj (names := r) (acc := (m, k) :: acc) (fun a b hab => ?_) (fun a a' b ha ha' => ?_) h h'
      · rcases List.mem_cons.mp hab with e | e
        · cases e; exact Nat.lt_succ_self _
        · exact Nat.lt_succ_of_lt (hl _ _ e)
      · rcases List.mem_cons.mp ha with e | e <;> rcases List.mem_cons.mp ha' with e' | e'
        · cases e; cases e'; rfl
        · cases e; exact absurd (hl _ _ e') (Nat.lt_irrefl _)
        · cases e'; exact absurd (hl _ _ e) (Nat.lt_irrefl _)
        · exact hi _ _ _ e e'
    · rw [if_neg hk] at h h'
      exact cellsFrom_inj (names := r) hl hi h h'
theorem cellsFrom_cell : ∀ {names : List (Str × NameKind)} {h : Heap} {acc : List (Str × Addr)} {n : Str} {c : Addr}, (n, c) ∈ cellsFrom h.objs.size names acc → (n, c) ∈ acc ∨ (pushCells h names).IsCell c none
  | [], _, _, _, _, q => .inl q
  | (m, kd) :: r, h, acc, n, c, q => by
    unfold cellsFrom at q
    unfold pushCells
    by_cases hk : (kd == NameKind.cell) = true
    · rw [if_pos hk] at q
      rw [if_pos hk]
      have e : h.objs.size + 1 = (h.push { cls := .type "cell", data := .cell none }).objs.size := (Heap.size_push ..).symm
      rw [e] at q
      rcases cellsFrom_cell (names := r) q with q | q
      · rcases List.mem_cons.mp q with e' | q
        · cases e'
          exact .inr ⟨_, pushCells_keeps r _ _ _ (Heap.get?_push_size _ rfl), rfl⟩
        · exact .inl q
      · exact .inr q
    · rw [if_neg hk] at q
      rw [if_neg hk]
      exact cellsFrom_cell (names := r) q
theorem cellsFrom_acc {x : Str} : ∀ {names : List (Str × NameKind)} {k : Nat} {acc : List (Str × Addr)}, (x, NameKind.cell) ∉ names → (cellsFrom k names acc).lookup x = acc.lookup x
  | [], _, _, _ => rfl
  | (m, kd) :: r, k, acc, h => by
    unfold cellsFrom
    have hr : (x, NameKind.cell) ∉ r := fun z => h (List.mem_cons_of_mem _ z)
    by_cases hk : (kd == NameKind.cell) = true
    · have hk' : kd = .cell := by simpa using hk
      subst hk'
      rw [if_pos hk, cellsFrom_acc hr, List.lookup_cons]
      have ne : (x == m) = false := by
        cases hb : x == m with
        | false => rfl
        | true => exact absurd (by rw [beq_iff_eq.mp hb]; exact List.mem_cons_self) h
      rw [ne]
    · rw [if_neg hk]
      exact cellsFrom_acc hr
section
variable {M : Model} {A : Around} {E : Value → Shared → Prop} {s : Shared}
theorem newCompEnv_ {scope : Scope} {globals : Addr} {cl : List (Str × Addr)} {qual : Str} {env0 : Env} {Q : Env → Shared → Prop}
    (h : Q (newEnv scope s.heap.objs.size globals (cellsFrom (s.heap.objs.size + 1) scope.names cl) qual none .none (some env0) builtinsNs) { s with heap := pushCells (s.heap.push { cls := .type "dict", data := .dict #[] }) scope.names }) :
    wpAny M A (newFunctionEnv scope globals cl [] qual none .none (some env0)) Q E s := by
  simp only [newFunctionEnv, Option.isSome_some, if_true]
  refine wpAny_bind (wpAny_alloc ?_)
  refine wpAny_bind (wpAny_layCells _ (fun name kind cells => by cases hkc : kind == NameKind.cell <;> simp [hkc]) _ _ _ _ ?_)
  rw [show ({ s with heap := s.heap.push { cls := .type "dict", data := .dict #[] } } : Shared).heap.objs.size = s.heap.objs.size + 1 from Heap.size_push ..]
  refine wpAny_bind ?_
  rw [List.forIn_nil]
  exact wpAny_pure (wpAny_pure h)
end
structure CB where
  C : Addr
  ex : List Addr
  s : Shared
  H : Hp
def cxC (X : Cx) (N : List Str) (scope : Scope) (b : CB) : Cx := { X with
  N := N
  s₀ := b.s
  H₀ := b.H
  env := compEnvC scope (cellsFrom (b.C + 1) scope.names (clOf X.env scope.names)) b.C X.env
  outer := X.stack
  ex := b.ex
  fn := fun x => scope.names.lookup x == some .cell
  pn := []
  xe := fun _ _ => False }
theorem lookup_relabel {env : Env} {x : Str} : ∀ {names : List (Str × NameKind)},
    (names.map fun (n, k) => if (k == NameKind.free && env.scope.kind == .function && env.kindOf n == some .cell) then (n, NameKind.cell) else (n, k)).lookup x =
      (names.lookup x).map fun k => if (k == NameKind.free && env.scope.kind == .function && env.kindOf x == some .cell) then NameKind.cell else k
  | [] => rfl
  | (n, k) :: r => by
    have ih := @lookup_relabel env x r
    show List.lookup x ((if (k == NameKind.free && env.scope.kind == .function && env.kindOf n == some .cell) = true then (n, NameKind.cell) else (n, k)) :: _) = _
    cases hx : x == n with
    | true =>
      have e : x = n := beq_iff_eq.mp hx
      subst e
      by_cases hc : (k == NameKind.free && env.scope.kind == .function && env.kindOf x == some .cell) = true
      · rw [if_pos hc]; simp only [List.lookup_cons, hx, Option.map_some, hc, if_true]
      · rw [if_neg hc]; simp only [List.lookup_cons, hx, Option.map_some]; rw [if_neg hc]
    | false =>
      by_cases hc : (k == NameKind.free && env.scope.kind == .function && env.kindOf n == some .cell) = true
      · rw [if_pos hc]; simp only [List.lookup_cons, hx]; exact ih
      · rw [if_neg hc]; simp only [List.lookup_cons, hx]; exact ih
structure CompOk (psc : Scope) (PN N : List Str) (own : Nat) (fr : List Nat) (scope : Scope) : Prop where
  kind : scope.kind = .function
  nd : (scope.names.map (·.1)).Nodup
  free : ∀ x ∈ scope.names, x.2 = .free → psc.names.lookup x.1 = some .cell ∨ psc.names.lookup x.1 = some .free
  len : N.length = own + fr.length
  frn : ∀ i, i < fr.length → N[own + i]? = (fr[i]?).bind fun j => PN[j]?
  frk : ∀ i, i < fr.length → ∀ y, N[own + i]? = some y → scope.names.lookup y = some .free
def compOkB (psc : Scope) (PN N : List Str) (own : Nat) (fr : List Nat) (scope : Scope) : Bool :=
  scope.kind == .function && decide (scope.names.map (·.1)).Nodup && scope.names.all (fun x => x.2 != .free || (psc.names.lookup x.1 == some .cell || psc.names.lookup x.1 == some .free)) &&
    (N.length == own + fr.length) && ((fr.map fun j => PN[j]?) == (N.drop own).map some) && (N.drop own).all (fun y => scope.names.lookup y == some .free)
theorem CompOk.of {psc : Scope} {PN N : List Str} {own : Nat} {fr : List Nat} {scope : Scope} (h : compOkB psc PN N own fr scope = true) : CompOk psc PN N own fr scope := by
  unfold compOkB at h
  simp only [Bool.and_eq_true] at h
  obtain ⟨⟨⟨⟨⟨h1, h2⟩, h3⟩, h4⟩, h5⟩, h6⟩ := h
  have h4' : N.length = own + fr.length := eq_of_beq h4
  have h5' : (fr.map fun j => PN[j]?) = (N.drop own).map some := eq_of_beq h5
  have dr : ∀ i, N[own + i]? = (N.drop own)[i]? := fun i => by rw [List.getElem?_drop]
  refine ⟨eq_of_beq h1, of_decide_eq_true h2, fun x hx hk => ?_, h4', fun i hi => ?_, fun i hi y hy => ?_⟩
  · have q := List.all_eq_true.mp h3 x hx
    rw [hk] at q
    simpa using q
  · have q := congrArg (fun l => l[i]?) h5'
    simp only [List.getElem?_map] at q
    rw [dr]
    have ej : fr[i]? = some fr[i] := List.getElem?_eq_getElem hi
    rw [ej] at q ⊢
    cases e : (N.drop own)[i]? with
    | none => rw [e] at q; cases q
    | some y =>
      rw [e] at q
      exact (Option.some.inj q).symm
  · rw [dr] at hy
    have q := List.all_eq_true.mp h6 y (List.mem_of_getElem? hy)
    simpa using q
def cSt (own : Nat) (fr : List Nat) (σ : St) : St := List.replicate own none ++ fr.map fun j => (σ[j]?).getD none
theorem nodup_lookup {α : Type} : ∀ {l : List (Str × α)} {n : Str} {k : α}, (l.map (·.1)).Nodup → (n, k) ∈ l → l.lookup n = some k
  | (m, v) :: r, n, k, nd, h => by
    rw [List.map_cons, List.nodup_cons] at nd
    rw [List.lookup_cons]
    rcases List.mem_cons.mp h with e | h
    · cases e; simp
    · have ne : (n == m) = false := by
        cases hb : n == m with
        | false => rfl
        | true => exact absurd (List.mem_map.mpr ⟨(n, k), h, beq_iff_eq.mp hb⟩) nd.1
      rw [ne]
      exact nodup_lookup nd.2 h
section
variable {X : Cx} {pins : List (Addr × Obj)} {σ : St} {H : Hp} {s : Shared} {N : List Str} {own : Nat} {fr : List Nat} {scope : Scope}
theorem CompOk.cells (S : CompOk X.env.scope X.N N own fr scope) (ok : X.Ok) : ∀ x ∈ scope.names, x.2 = .free → ∃ c, X.env.cells.lookup x.1 = some c := fun x hx hk =>
  ok.has x.1 (S.free x hx hk)
theorem CompOk.cl (S : CompOk X.env.scope X.N N own fr scope) (ok : X.Ok) {n : Str} {c : Addr} (h : (n, c) ∈ clOf X.env scope.names) : X.env.cells.lookup n = some c := by
  rcases clOf_mem h with h | ⟨h, e⟩
  · cases h
  · obtain ⟨c', e'⟩ := S.cells ok (n, .free) h rfl
    have e2 : X.env.cells.lookup n = some c' := e'
    rw [e2] at e
    rw [e, e2]
    rfl
theorem inv_comp {D C : Addr} {h' : Heap} {fp : List Addr} (S : CompOk X.env.scope X.N N own fr scope) (I : Inv X pins σ H s) (hD : D = s.heap.objs.size) (hC : C = s.heap.objs.size + 1)
    (hh : h' = pushCells ((s.heap.push { cls := .type "list", data := .seq #[] }).push { cls := .type "dict", data := .dict #[] }) scope.names) (hfp : ∀ b ∈ fp, FpOk X pins H b) (hlt : ∀ b ∈ fp, b < s.heap.objs.size) :
    Inv (cxC X N scope ⟨C, fp, s, H⟩) [] (cSt own fr σ) (upd H D (.lst [])) { s with heap := h' } := by
  subst hD hC
  have eD : (s.heap.push { cls := .type "list", data := .seq #[] }).objs.size = s.heap.objs.size + 1 := Heap.size_push ..
  have eC : ((s.heap.push { cls := .type "list", data := .seq #[] }).push { cls := .type "dict", data := .dict #[] }).objs.size = s.heap.objs.size + 2 := by rw [Heap.size_push, eD]
  have keep : ∀ b o, s.heap.get? b = some o → h'.get? b = some o := fun b o e => by
    rw [hh]
    exact pushCells_keeps _ _ _ _ (Heap.get?_push_of_some _ (Heap.get?_push_of_some _ e))
  have lst : h'.get? s.heap.objs.size = some { cls := .type "list", data := .seq #[] } := by
    rw [hh]
    exact pushCells_keeps _ _ _ _ (Heap.get?_push_of_some _ (Heap.get?_push_size _ rfl))
  have dct : h'.get? (s.heap.objs.size + 1) = some { cls := .type "dict", data := .dict #[] } := by
    rw [hh]
    refine pushCells_keeps _ _ _ _ ?_
    have := Heap.get?_push_size (s.heap.push { cls := .type "list", data := .seq #[] }) (o := { cls := .type "dict", data := .dict #[] }) rfl
    rw [eD] at this
    exact this
  have hnD : H s.heap.objs.size = none := I.hok.fresh (Nat.le_refl _)
  have hnC : H (s.heap.objs.size + 1) = none := I.hok.fresh (Nat.le_succ _)
  have inCl : ∀ {n : Str} {c : Addr}, (n, c) ∈ clOf X.env scope.names → X.env.cells.lookup n = some c := fun h => S.cl I.ok h
  have clt : ∀ {n : Str} {c : Addr}, X.env.cells.lookup n = some c → c < s.heap.objs.size := fun h => by
    obtain ⟨v, z⟩ := I.cell _ _ h
    exact z.lt
  have cases_ : ∀ {n : Str} {c : Addr}, (cellsFrom (s.heap.objs.size + 1 + 1) scope.names (clOf X.env scope.names)).lookup n = some c → X.env.cells.lookup n = some c ∨ (s.heap.objs.size + 2 ≤ c ∧ (n, NameKind.cell) ∈ scope.names ∧ h'.IsCell c none) := fun {n c} h => by
    have hm := PySem.mem_of_lookup h
    have hcell := hm
    rw [show s.heap.objs.size + 1 + 1 = ((s.heap.push { cls := .type "list", data := .seq #[] }).push { cls := .type "dict", data := .dict #[] }).objs.size from eC.symm] at hcell
    rcases cellsFrom_mem hm with h1 | ⟨h1, h2⟩
    · exact .inl (inCl h1)
    · rcases cellsFrom_cell hcell with h3 | h3
      · exact .inl (inCl h3)
      · exact .inr ⟨h1, h2, by rw [hh]; exact h3⟩
  have kindOf : ∀ x, (cxC X N scope ⟨s.heap.objs.size + 1, fp, s, H⟩).env.kindOf x = (scope.names.lookup x).map fun k => if (k == NameKind.free && X.env.scope.kind == .function && X.env.kindOf x == some .cell) then NameKind.cell else k := fun x => lookup_relabel
  have hasName : ∀ x, ((cxC X N scope ⟨s.heap.objs.size + 1, fp, s, H⟩).env.kindOf x = some .cell ∨ (cxC X N scope ⟨s.heap.objs.size + 1, fp, s, H⟩).env.kindOf x = some .free) → ∃ c, (cellsFrom (s.heap.objs.size + 1 + 1) scope.names (clOf X.env scope.names)).lookup x = some c := fun x hx => by
    rw [kindOf] at hx
    have h2 : scope.names.lookup x = some .cell ∨ scope.names.lookup x = some .free := by
      cases e : scope.names.lookup x with
      | none => rw [e] at hx; rcases hx with z | z <;> cases z
      | some k =>
        rw [e] at hx
        by_cases hk : k = .free
        · exact .inr (by rw [hk])
        · have hk' : (k == NameKind.free) = false := by simpa using hk
          simp only [Option.map_some, hk', Bool.false_and, Bool.false_eq_true, if_false] at hx
          rcases hx with z | z
          · exact .inl z
          · exact .inr z
    rcases h2 with h2 | h2
    · exact Option.isSome_iff_exists.mp (PySem.W.cellsFrom_some scope.names _ _ (.inl h2))
    · obtain ⟨c, hc⟩ := lookup_of_mem (clOf_in (env := X.env) (cs := []) (PySem.mem_of_lookup h2))
      exact Option.isSome_iff_exists.mp (PySem.W.cellsFrom_some scope.names _ _ (.inr (by rw [show (clOf X.env scope.names).lookup x = some c from hc]; rfl)))
  have cellAt : ∀ x c, (cellsFrom (s.heap.objs.size + 1 + 1) scope.names (clOf X.env scope.names)).lookup x = some c → ∃ v, h'.IsCell c v := fun x c e => by
    rcases cases_ e with q | ⟨_, _, q⟩
    · obtain ⟨v, o, ho, hd⟩ := I.cell x c q
      exact ⟨v, o, keep c o ho, hd⟩
    · exact ⟨none, q⟩
  refine ⟨⟨I.ok.mod, S.kind, I.ok.glob, I.ok.blt, Nat.le_succ _, fun y z c h1 h2 => ?_, hasName, fun y c hy h => ?_, I.ok.hd, I.ok.frames, .inl rfl, fun b hb => ⟨?_, fun x c e z => ?_⟩, fun b o e => I.bs b o e, Nat.le_trans I.ok.bsz I.sz, fun b o e hb => ?_, fun b hb hf => ?_, I.stack, I.stkFree⟩,
    rfl, I.bare, ?_, ⟨fun _ => none, ⟨_, #[], _, dct, rfl, fun e he => absurd he (by simp), fun _ => rfl⟩, fun i x v h1 h2 h3 => ?_⟩, cellAt, ?_, fun x c e => ?_, fun p hp => absurd (show p ∈ ([] : List (Addr × Obj)) from hp) (by simp), ?_, ?_⟩
  ·
    refine cellsFrom_inj (fun n c hm => ?_) (fun n n' c hm hm' => I.ok.inj n n' c (inCl hm) (inCl hm')) (PySem.mem_of_lookup h1) (PySem.mem_of_lookup h2)
    exact Nat.lt_succ_of_lt (Nat.lt_succ_of_lt (clt (inCl hm)))
  ·
    have hy' : scope.names.lookup y = some .cell := by simpa using (show (scope.names.lookup y == some .cell) = true from hy)
    rcases cases_ h with q | ⟨q, _⟩
    · rcases cellsFrom_mem (PySem.mem_of_lookup h) with q2 | ⟨q2, _⟩
      · rcases clOf_mem q2 with z | ⟨z, _⟩
        · cases z
        · have := nodup_lookup S.nd z
          rw [hy'] at this
          cases this
      · exact Nat.le_trans (Nat.le_add_right _ 2) q2
    · exact Nat.le_trans (Nat.le_add_right _ 2) q
  · exact Nat.ne_of_lt (Nat.lt_succ_of_lt (hlt b hb))
  · rcases cases_ e with q | ⟨q, _⟩
    · exact (hfp b hb).2.2.2.2.1 x c q z
    · have hb' := hlt b hb
      rw [← z] at hb'
      exact absurd (Nat.lt_of_lt_of_le hb' (Nat.le_trans (Nat.le_add_right _ 2) q)) (Nat.lt_irrefl _)
  · rcases (hfp b hb).2.2.2.1 with z | z
    · exact I.ok.noex b o e z
    · exact Nat.lt_irrefl _ (Nat.lt_of_lt_of_le (Heap.lt_size e) (Nat.le_trans I.ok.bsz z))
  · rcases List.mem_cons.mp (I.stkSub b hf) with z | z
    · exact (hfp b hb).2.1 z
    · exact (hfp b hb).2.2.1 z
  · exact Un.laid keep (Nat.le_refl _) hnD
  ·
    have h1 : N[i]? = some x := h1
    have hlen : i < N.length := (List.getElem?_eq_some_iff.mp h1).1
    by_cases hi : i < own
    · exfalso
      have h2' : (cSt own fr σ)[i]? = some none := by
        unfold cSt
        rw [List.getElem?_append_left (by simpa using hi), List.getElem?_replicate, if_pos hi]
      rw [h2'] at h2
      cases h2
    · have hfi : i - own < fr.length := by have := S.len; omega
      have ei : own + (i - own) = i := by omega
      have hk := S.frk (i - own) hfi x (by rw [ei]; exact h1)
      have hn := S.frn (i - own) hfi
      rw [ei, h1] at hn
      have ej : fr[i - own]? = some fr[i - own] := List.getElem?_eq_getElem hfi
      rw [ej] at hn
      have hn' : X.N[fr[i - own]]? = some x := hn.symm
      have h2' : (cSt own fr σ)[i]? = some ((σ[fr[i - own]]?).getD none) := by
        unfold cSt
        rw [List.getElem?_append_right (by simpa using Nat.not_lt.mp hi), List.length_replicate, List.getElem?_map, ej]
        rfl
      rw [h2'] at h2
      have h2'' : (σ[fr[i - own]]?).getD none = some v := Option.some.inj h2
      have hσ : σ[fr[i - own]]? = some (some v) := by
        cases e : σ[fr[i - own]]? with
        | none => rw [e] at h2''; cases h2''
        | some w => rw [e] at h2''; exact congrArg some h2''
      obtain ⟨m, hm, hl⟩ := I.loc
      have hfree := S.free (x, .free) (PySem.mem_of_lookup hk) rfl
      obtain ⟨u, r, l⟩ := hl _ x v hn' hσ (hfree.elim (fun z => .inr (.inl z)) fun z => .inr (.inr z))
      refine ⟨u, r, .inr ?_⟩
      have hcell : ∃ c, X.env.cells.lookup x = some c ∧ s.heap.IsCell c (some u) := by
        rcases l with ⟨l, _⟩ | ⟨_, c, e, z⟩
        · exfalso
          rcases hfree with z | z
          · have l' : X.env.scope.names.lookup x = some .local := l
            have z' : X.env.scope.names.lookup x = some .cell := z
            rw [l'] at z'; cases z'
          · have l' : X.env.scope.names.lookup x = some .local := l
            have z' : X.env.scope.names.lookup x = some .free := z
            rw [l'] at z'; cases z'
        · exact ⟨c, e, z⟩
      obtain ⟨c, e, o, ho, hd⟩ := hcell
      refine ⟨?_, c, ?_, o, keep c o ho, hd⟩
      · rw [kindOf, hk]
        by_cases z : (X.env.scope.kind == .function && X.env.kindOf x == some .cell) = true
        · left
          simp only [Option.map_some, beq_self_eq_true, Bool.true_and, z, if_true]
        · right
          simp only [Option.map_some, beq_self_eq_true, Bool.true_and]
          rw [if_neg z]
      · show (cellsFrom (s.heap.objs.size + 1 + 1) scope.names (clOf X.env scope.names)).lookup x = some c
        rw [cellsFrom_acc fun z => by
          have := nodup_lookup S.nd z
          rw [hk] at this
          cases this]
        obtain ⟨c', hc'⟩ := lookup_of_mem (clOf_in (env := X.env) (cs := []) (PySem.mem_of_lookup hk))
        have hc2 : (clOf X.env scope.names).lookup x = some c' := hc'
        rw [hc2]
        have := inCl (PySem.mem_of_lookup hc2)
        rw [e] at this
        exact this.symm
  · show upd H s.heap.objs.size (.lst []) (s.heap.objs.size + 1) = none
    rw [upd_ne (Nat.ne_of_gt (Nat.lt_succ_self _))]
    exact hnC
  · rcases cases_ e with q | ⟨q, _⟩
    · have := clt q
      rw [upd_ne (Nat.ne_of_lt this)]
      exact I.freeC x c q
    · rw [upd_ne (Nat.ne_of_gt (Nat.lt_of_lt_of_le (Nat.lt_add_of_pos_right (by decide)) q))]
      exact I.hok.fresh (Nat.le_trans (Nat.le_add_right _ 2) q)
  · exact I.hok.laid keep (Nat.le_refl _) ⟨Nat.zero_le _, [], 0, .nil, lst⟩
  · show (cSt own fr σ).length = N.length
    unfold cSt
    rw [List.length_append, List.length_replicate, List.length_map, S.len]
end
def PF (X : Cx) (ifs : List Expr) (t : TT) : Prop :=
  ∀ (pins : List (Addr × Obj)) (s : Shared) (σ : St) (H : Hp) (Q : Bool → Hp → Prop), Inv X pins σ H s → t σ H Q →
    wpAny (model X.prog X.w) X.A (forIn ifs true fun c r => if r = true then do let ok ← isTrue c X.env (eval c X.env); pure (ForInStep.yield ok) else pure (ForInStep.yield r)) (TP X pins σ Q) X.xe s
def tYes : TT := fun _ H Q => Q true H
theorem pf_nil {X : Cx} : PF X [] tYes := fun _ _ _ H _ I h => wpAny_tests_nil ⟨H, I, h⟩
theorem pf_one {X : Cx} {c : Expr} {t : TT} (h : PT X c t) : PF X [c] t := fun pins s σ H Q I hw => wpAny_tests_one (h pins s σ H Q I hw)
theorem compLoop_any {prog : Program} {w : World} {A : Around} {R : Result → Shared → Prop} {s : Shared} {elt target iter : Expr} {ifs : List Expr} {scope : Scope} {pos : Pos} {it acc : Value} {env : Env} (I : Nat → Shared → Prop)
    (turn : ∀ n s, I n s → wpAny (model prog w) A (pyNext it) (fun r s₁ => match r with
      | none => R (.ok .next) s₁
      | some v => wpAny (model prog w) A (letOwnedTupleGo target it v) (fun _ s₁' => wpAny (model prog w) A (assign target env v) (fun _ s₂ =>
          wpAny (model prog w) A (forIn ifs true fun c r => if r = true then do let ok ← isTrue c env (eval c env); pure (ForInStep.yield ok) else pure (ForInStep.yield r)) (fun ok s₃ =>
            if ok = true then wpAny (model prog w) A (eval elt env) (fun x s₄ =>
              wpAny (model prog w) A (call (.builtin "list.append") [acc, x]) (fun _ s₅ => ∃ m, m < n ∧ I m s₅) (fun _ _ => False) s₄) (fun _ _ => False) s₃
            else ∃ m, m < n ∧ I m s₃) (fun _ _ => False) s₂) (fun _ _ => False) s₁') (fun _ _ => False) s₁) (fun _ _ => False) s)
    (n : Nat) (h : I n s) :
    codeAny (model prog w) A (.compLoop (.ListComp elt [⟨target, iter, ifs, 0⟩] scope pos) 0 it acc env) R s := by
  refine codeAny_loop rfl I (fun n s hI => ?_) n h
  show wpAny _ A ((compTurn (.ListComp elt [⟨target, iter, ifs, 0⟩] scope pos) 0 it acc env).onRaise (fun x => do noteFrame x env; theTreesLotGoes x)) _ _ s
  refine wpAny_noted ?_
  rw [compTurn_list]
  have no : ∀ {α : Type} {t : Sem α} {Q : α → Shared → Prop} {E' : Value → Shared → Prop} {s' : Shared}, wpAny (model prog w) A t Q (fun _ _ => False) s' → wpAny (model prog w) A t Q E' s' := fun h => wpAny_mono h (fun _ _ q => q) fun _ _ z => z.elim
  refine wpAny_bind (wpAny_standAt (wpAny_bind (no (wpAny_mono (turn n s hI) (fun r s₁ h₁ => ?_) fun _ _ h' => h'))))
  cases r with
  | none => exact wpAny_pure h₁
  | some v =>
    refine wpAny_bind (no (wpAny_mono h₁ (fun _ s₁' h₁' => ?_) fun _ _ h' => h'))
    refine wpAny_bind (no (wpAny_mono h₁' (fun _ s₂ h₂ => wpAny_bind (no (wpAny_mono h₂ (fun ok s₃ h₃ => ?_) fun _ _ h' => h'))) fun _ _ h' => h'))
    cases ok with
    | false => exact wpAny_pure ⟨rfl, h₃⟩
    | true =>
      exact wpAny_bind (wpAny_bind (no (wpAny_mono h₃ (fun x s₄ h₄ => wpAny_bind (no (wpAny_mono h₄ (fun _ s₅ h₅ => wpAny_pure (wpAny_pure ⟨rfl, h₅⟩)) fun _ _ h' => h'))) fun _ _ h' => h')))
structure tBlock (J : It) (own : Nat) (fr : List Nat) (g : CB → TG) (tf : CB → TT) (te : CB → TE) (Q : VK) (σ : St) (H1 : Hp) : Prop where
  go : ∀ (b : CB) (D : Addr), H1 D = none → ∃ W : Nat → Nat → St → Hp → Prop, (∃ m, W 0 m (cSt own fr σ) (upd H1 D (.lst []))) ∧ ∀ i m σ' H', W i m σ' H' →
    (J.stop i H' ∧ Q (.ref D) H') ∨ (J.go i H' ∧ ∃ M : St → Hp → Prop, (∀ σ2 H2, M σ2 H2 → ∃ m', m' < m ∧ W (i + 1) m' σ2 H2) ∧ ∀ x H2, J.yld i H' x H2 → g b x σ' H2 fun σ3 H3 => tf b σ3 H3 fun k H4 =>
      if k = true then te b σ3 H4 fun y H5 => ∃ ys, H5 D = some (.lst ys) ∧ ys.length < sizeLine ∧ M σ3 (upd H5 D (.lst (ys ++ [y]))) else M σ3 H4)
def tComp (wi : TI) (own : Nat) (fr : List Nat) (g : CB → TG) (tf : CB → TT) (te : CB → TE) : TE := fun σ H Q => wi σ H fun J H1 => tBlock J own fr g tf te Q σ H1
section
variable {X : Cx} {tg iter elt : Expr} {ifs : List Expr} {scope : Scope} {pos : Pos} {N : List Str} {own : Nat} {fr : List Nat} {wi : TI} {g : CB → TG} {tf : CB → TT} {te : CB → TE}
theorem comp_run {use : Option (Value → Sem Unit)} {R : Value → Shared → Prop} {pins : List (Addr × Obj)} {s : Shared} {σ : St} {H : Hp} {Q : VK} (S : CompOk X.env.scope X.N N own fr scope) (hc : X.calm = true) (hi : PI X tg iter wi)
    (hg : ∀ b, PG (cxC X N scope b) tg (g b)) (hf : ∀ b, PF (cxC X N scope b) ifs (tf b)) (he : ∀ b, PE (cxC X N scope b) elt (te b)) (hs : ∀ x, foldedSetIterable iter X.env x = pure x) (I : Inv X pins σ H s) (h : tComp wi own fr g tf te σ H Q)
    (fin : ∀ (D C : Addr) (oC : Obj) (m : Str → Option Value) (H' : Hp) (s' : Shared), Inv X (pins ++ [(C, oC)]) σ H' s' → X.s₀.heap.objs.size ≤ C → (∀ p ∈ X.pn ++ pins, p.1 ≠ C) → (∀ h' : Heap, h'.get? C = some oC → h'.Ns C m) → Q (.ref D) H' → compPost (model X.prog X.w) X.A X.xe use R (.ref D) C (.ok .next) s') :
    wpAny (model X.prog X.w) X.A (comprehension (.ListComp elt [⟨tg, iter, ifs, 0⟩] scope pos) scope X.env (firstIterPos [⟨tg, iter, ifs, 0⟩] pos) (newList []) false (eval iter X.env) use) R X.xe s := by
  refine wpAny_comprehension_free rfl hs (closureFor_clOf (S.cells I.ok)) S.kind (fun x hx hk => ?_) (thn (hi pins s σ H _ I h) fun v s1 h1 => thn h1 fun itv s2 h2 => ?_)
  · have := nodup_lookup S.nd (show (x.1, x.2) ∈ scope.names from hx)
    rw [this, hk]
  obtain ⟨it, fp, tn, J, H2, e, I2, T, st2, f2, q⟩ := h2
  subst e
  refine wpAny_newObj_type ?_
  refine newCompEnv_ ?_
  have eD : (s2.heap.push { cls := .type "list", data := .seq #[] }).objs.size = s2.heap.objs.size + 1 := Heap.size_push ..
  have hD : H2 s2.heap.objs.size = none := I2.hok.fresh (Nat.le_refl _)
  have hlt : ∀ b ∈ fp, b < s2.heap.objs.size := fun b hb => by
    obtain ⟨o, ho, _⟩ := T.obj 0 _ st2 b hb
    exact Heap.lt_size ho
  obtain ⟨W, ⟨m0, w0⟩, turn⟩ := q.go ⟨s2.heap.objs.size + 1, fp, s2, H2⟩ s2.heap.objs.size hD
  have IX := inv_comp (fp := fp) S I2 rfl rfl rfl f2 hlt
  have st4 : tn 0 (pushCells ((s2.heap.push { cls := .type "list", data := .seq #[] }).push { cls := .type "dict", data := .dict #[] }) scope.names) :=
    T.keep 0 _ _ st2 fun b _ o e => pushCells_keeps _ _ _ _ (Heap.get?_push_of_some _ (Heap.get?_push_of_some _ e))
  have fr0 : ∀ b ∈ fp, upd H2 s2.heap.objs.size (.lst []) b = none := fun b hb => by
    rw [upd_ne (Nat.ne_of_lt (hlt b hb))]
    exact (f2 b hb).1
  have cne : ∀ b ∈ fp, ∀ x c, (cxC X N scope ⟨s2.heap.objs.size + 1, fp, s2, H2⟩).env.cells.lookup x = some c → c ≠ b := fun b hb => ((IX.ok.exf b hb).2)
  have stat : ∀ {H' : Hp}, (∀ b ∈ fp, H' b = none) → ∀ b ∈ fp, FpOk (cxC X N scope ⟨s2.heap.objs.size + 1, fp, s2, H2⟩) [] H' b := fun hn b hb =>
    ⟨hn b hb, (IX.ok.exf b hb).1, IX.ok.exfs b hb, .inl hb, cne b hb, fun p hp => absurd (show p ∈ ([] : List (Addr × Obj)) from hp) (by simp)⟩
  have e4 : ∀ cenv : Env, cenv = newEnv scope (s2.heap.push { cls := .type "list", data := .seq #[] }).objs.size X.env.globals (cellsFrom ((s2.heap.push { cls := .type "list", data := .seq #[] }).objs.size + 1) scope.names (clOf X.env scope.names)) X.env.qual none .none (some X.env) builtinsNs →
      ({ cenv with scope := relabel scope X.env } : Env) = (cxC X N scope ⟨s2.heap.objs.size + 1, fp, s2, H2⟩).env ∧ cenv.locals = s2.heap.objs.size + 1 := fun cenv e => by
    subst e
    rw [eD]
    exact ⟨rfl, rfl⟩
  obtain ⟨e5, e6⟩ := e4 _ rfl
  have loop : codeAny (model X.prog X.w) X.A (.compLoop (.ListComp elt [⟨tg, iter, ifs, 0⟩] scope pos) 0 (.ref it) (.ref s2.heap.objs.size) (cxC X N scope ⟨s2.heap.objs.size + 1, fp, s2, H2⟩).env)
      (compPost (model X.prog X.w) X.A X.xe use R (.ref s2.heap.objs.size) (s2.heap.objs.size + 1)) { s2 with heap := pushCells ((s2.heap.push { cls := .type "list", data := .seq #[] }).push { cls := .type "dict", data := .dict #[] }) scope.names } := by
    refine compLoop_any (fun n s' => ∃ i σ' H', Inv (cxC X N scope ⟨s2.heap.objs.size + 1, fp, s2, H2⟩) [] σ' H' s' ∧ tn i s'.heap ∧ (∀ b ∈ fp, H' b = none) ∧ W i n σ' H') ?_ m0 ⟨0, _, _, IX, st4, fr0, w0⟩
    rintro n s5 ⟨i, σ5, H5, I5, st5, fr5, w5⟩
    rcases turn i n σ5 H5 w5 with ⟨stop, qn⟩ | ⟨go, M, hM, step⟩
    · refine thn (T.done (cxC X N scope ⟨s2.heap.objs.size + 1, fp, s2, H2⟩) rfl rfl rfl hc i [] s5 σ5 H5 (fun _ _ => False) I5 (stat fr5) st5 stop) fun r s6 ⟨hr, I6⟩ => ?_
      subst hr
      obtain ⟨m, hn, _⟩ := I6.loc
      obtain ⟨oC, es, ep, hoC, hd, hk, hm⟩ := id hn
      have IB : Inv X pins σ H5 s6 := I2.call' (ch := fp) I6.os I6.base I6.hok I6.bare fun b hb => ⟨(f2 b hb).2.2.2.1, (f2 b hb).2.1, (f2 b hb).2.2.2.2.1, (f2 b hb).2.2.2.2.2⟩
      have young : s2.heap.objs.size ≤ s2.heap.objs.size + 1 := Nat.le_succ _
      refine fin s2.heap.objs.size (s2.heap.objs.size + 1) oC m H5 s6 (IB.pins_of fun p hp => ?_) (Nat.le_trans I2.sz young) (fun p hp => Nat.ne_of_lt (Nat.lt_of_lt_of_le (Heap.lt_size (I2.pin p hp).1) young)) (fun h' e => ⟨oC, es, ep, e, hd, hk, hm⟩) qn
      rcases List.mem_append.mp hp with z | z
      · exact IB.pin p (List.mem_append_right _ z)
      · have ep' : p = (s2.heap.objs.size + 1, oC) := by simpa using z
        subst ep'
        exact ⟨hoC, I6.free, Nat.ne_of_gt (Nat.lt_of_lt_of_le I2.lt young), I2.nofs young, fun v z => by rw [hd] at z; cases z⟩
    · refine thn (T.item (cxC X N scope ⟨s2.heap.objs.size + 1, fp, s2, H2⟩) rfl rfl rfl hc i [] s5 σ5 H5 (fun _ _ => False) I5 (stat fr5) st5 go) fun r s6 ⟨u, hr, h6⟩ => ?_
      subst hr
      refine thn h6 fun _ s7 ⟨x, H7, I7, r7, y7, st7, fr7⟩ => ?_
      have I7' := I7.pinned (stat fr7) (T.obj _ _ st7)
      refine thn (hg _ _ s7 σ5 H7 x u _ I7' r7 (step x H7 y7)) fun _ s8 ⟨σ8, H8, I8, q8⟩ => ?_
      refine thn (hf _ _ s8 σ8 H8 _ I8 q8) fun k s9 ⟨H9, I9, q9⟩ => ?_
      have again : ∀ {H10 : Hp} {s10 : Shared}, Inv (cxC X N scope ⟨s2.heap.objs.size + 1, fp, s2, H2⟩) ([] ++ pinsAt fp s7.heap) σ8 H10 s10 → M σ8 H10 →
          ∃ m, m < n ∧ ∃ i σ' H', Inv (cxC X N scope ⟨s2.heap.objs.size + 1, fp, s2, H2⟩) [] σ' H' s10 ∧ tn i s10.heap ∧ (∀ b ∈ fp, H' b = none) ∧ W i m σ' H' := fun {H10 s10} I10 q10 => by
        obtain ⟨m', hm, w10⟩ := hM σ8 H10 q10
        refine ⟨m', hm, i + 1, σ8, H10, I10.unpinned, T.keep _ _ _ st7 fun b hb o e => (I10.pin (b, o) (List.mem_append_right _ (List.mem_append_right _ (mem_pinsAt hb e)))).1, fun b hb => ?_, w10⟩
        obtain ⟨o, e, d⟩ := T.obj _ _ st7 b hb
        exact (I10.pin (b, o) (List.mem_append_right _ (List.mem_append_right _ (mem_pinsAt hb e)))).2.1
      cases k with
      | false => exact again I9 q9
      | true =>
        refine thn (he _ _ s9 σ8 H9 _ I9 q9) fun w10 s10 ⟨y, H10, I10, r10, ys, hys, hz, q10⟩ => ?_
        refine thn (mt_append _ s10 σ8 H10 (.ref s2.heap.objs.size) [y] (.ref s2.heap.objs.size) [w10] (fun _ H' => M σ8 H') I10 rfl (.cons r10 .nil) ⟨_, ys, y, rfl, rfl, hys, hz, q10⟩) fun _ s11 ⟨_, H11, I11, _, q11⟩ => ?_
        exact again I11 q11
  have go : codeAny (model X.prog X.w) X.A (.compStart (.ListComp elt [⟨tg, iter, ifs, 0⟩] scope pos) 0 (.ref it) (.ref s2.heap.objs.size) (cxC X N scope ⟨s2.heap.objs.size + 1, fp, s2, H2⟩).env)
      (compPost (model X.prog X.w) X.A X.xe use R (.ref s2.heap.objs.size) (s2.heap.objs.size + 1)) { s2 with heap := pushCells ((s2.heap.push { cls := .type "list", data := .seq #[] }).push { cls := .type "dict", data := .dict #[] }) scope.names } :=
    codeAny_compStart_list loop (T.self _ 0 _ _ _ st4 loop)
  have fin2 : ∀ (env' : Env) (L : Addr), env' = (cxC X N scope ⟨s2.heap.objs.size + 1, fp, s2, H2⟩).env → L = s2.heap.objs.size + 1 →
      codeAny (model X.prog X.w) X.A (.compStart (.ListComp elt [⟨tg, iter, ifs, 0⟩] scope pos) 0 (.ref it) (.ref s2.heap.objs.size) env') (compPost (model X.prog X.w) X.A X.xe use R (.ref s2.heap.objs.size) L)
        { s2 with heap := pushCells ((s2.heap.push { cls := .type "list", data := .seq #[] }).push { cls := .type "dict", data := .dict #[] }) scope.names } := by
    intro env' L h1 h2
    subst h1 h2
    exact go
  exact fin2 _ _ e5 e6
theorem comp_gone {pins : List (Addr × Obj)} {C : Addr} {oC : Obj} {σ' : St} {H' : Hp} {s' : Shared} {h' : Heap} (I : Inv X (pins ++ [(C, oC)]) σ' H' s') (hy : X.s₀.heap.objs.size ≤ C) (hp : ∀ p ∈ X.pn ++ pins, p.1 ≠ C) (sb : Heap.SameBut C s'.heap h') :
    Inv X pins σ' H' { s' with heap := h' } := by
  have pC := I.pin (C, oC) (List.mem_append_right _ (List.mem_append_right _ (by simp)))
  have I2 : Inv X pins σ' H' s' := I.unpinned
  refine I2.turned (it := C) (t' := s'.toks) (fun b o hb e => (sb.2 b hb).trans e) pC.2.1 pC.2.2.1 (.inr hy) (fun x c e z => ?_) hp
  obtain ⟨v, o, ho, hd⟩ := I2.cell x c e
  rw [z, pC.1] at ho
  cases ho
  exact pC.2.2.2.2 v hd
theorem pe_comp (S : CompOk X.env.scope X.N N own fr scope) (hc : X.calm = true) (hi : PI X tg iter wi) (hg : ∀ b, PG (cxC X N scope b) tg (g b)) (hf : ∀ b, PF (cxC X N scope b) ifs (tf b)) (he : ∀ b, PE (cxC X N scope b) elt (te b))
    (hs : ∀ x, foldedSetIterable iter X.env x = pure x := by intro _; rfl) : PE X (.ListComp elt [⟨tg, iter, ifs, 0⟩] scope pos) (tComp wi own fr g tf te) := by
  intro pins s σ H Q I h
  rw [eval_ListComp]
  refine comp_run (use := none) S hc hi hg hf he hs I h fun D C oC m H' s' I' hy hp hm q => ?_
  have pC := I'.pin (C, oC) (List.mem_append_right _ (List.mem_append_right _ (by simp)))
  exact ⟨m, hm _ pC.1, fun h' sb => ⟨.ref D, H', comp_gone I' hy hp sb, rfl, q⟩⟩
theorem ps_setComp {j : Nat} {y : Str} {py spos : Pos} (S : CompOk X.env.scope X.N N own fr scope) (hc : X.calm = true) (hN : X.N.Nodup) (hj : X.N[j]? = some y) (hy : Loc X.env.scope y) (hi : PI X tg iter wi) (hg : ∀ b, PG (cxC X N scope b) tg (g b)) (hf : ∀ b, PF (cxC X N scope b) ifs (tf b))
    (he : ∀ b, PE (cxC X N scope b) elt (te b)) (hfn : X.fn y = true ∨ X.env.scope.names.lookup y = some .local := by first | exact .inl rfl | exact .inr rfl | assumption) (hs : ∀ x, foldedSetIterable iter X.env x = pure x := by intro _; rfl)
    (hsw : swapsWith (.ListComp elt [⟨tg, iter, ifs, 0⟩] scope pos) (some (.Name y py)) spos.line X.env = pure true := by rfl) :
    PS X (.Assign [.Name y py] (.ListComp elt [⟨tg, iter, ifs, 0⟩] scope pos) spos) (tAsg (tComp wi own fr g tf te) (gName j)) := by
  intro pins s σ H D I h
  rw [exec_Assign_Name_used _ _ _ _ hsw]
  refine wpAny_bind (wpAny_standAt (wpAny_bind ?_))
  show wpAny _ _ (do let _ ← comprehension (.ListComp elt [⟨tg, iter, ifs, 0⟩] scope pos) scope X.env _ (newList []) false (eval iter X.env) (some (assign (.Name y py) X.env))) _ _ s
  refine wpAny_bind (thn (comp_run (use := some (assign (.Name y py) X.env)) (R := fun _ s' => SP X pins D .next s') S hc hi hg hf he hs I h fun D' C oC m H' s' I' hy' hp hm q => ?_) fun _ s' q => wpAny_pure (wpAny_pure q))
  show wpAny _ _ (assign (.Name y py) X.env (.ref D')) _ _ s'
  refine thn (pg_name hN hj hy hfn _ s' σ H' (.ref D') (.ref D') _ I' rfl q) fun _ s'' ⟨σ2, H2, I2, q2⟩ => ?_
  have pC := I2.pin (C, oC) (List.mem_append_right _ (List.mem_append_right _ (by simp)))
  exact ⟨m, hm _ pC.1, fun h' sb => ⟨σ2, H2, comp_gone I2 hy' hp sb, q2⟩⟩
end
end L2

set_option Elab.async false
set_option linter.all false
set_option maxRecDepth 100000
namespace L2
open PySem PySem.Spec PyProof.Rows
theorem PE.imp {X : Cx} {e : Expr} {t t' : TE} (h : PE X e t) (k : ∀ σ H Q, t' σ H Q → t σ H Q) : PE X e t' := fun pins s σ H Q I q => h pins s σ H Q I (k σ H Q q)
theorem OpR.imp {X : Cx} {f : Value → Value → Sem Value} {r r' : R2} (h : OpR X f r) (k : ∀ x y H Q, r' x y H Q → r x y H Q) : OpR X f r' := fun pins s σ H x y v u Q I rx ry q => h pins s σ H x y v u Q I rx ry (k x y H Q q)
def fVar (i : Nat) : TE := fun σ H Q => match σ[i]? with
  | some (some v) => Q v H
  | _ => False
section
variable {X : Cx}
theorem fv (i : Nat) {x : Str} {pos : Pos} (hN : X.N[i]? = some x := by rfl) (hv : Vis X.env.scope x := by first | exact Or.inl rfl | exact Or.inr (Or.inl rfl) | exact Or.inr (Or.inr rfl)) (hd : (x == ("__debug__" : Str)) = false := by decide)
    (hcd : (x == ("__classdict__" : Str)) = false := by decide) : PE X (.Name x pos) (fVar i) := (pe_var hN hv hd hcd).imp fun σ H Q q => by
  unfold fVar at q
  cases e : σ[i]? with
  | none => rw [e] at q; exact q.elim
  | some o =>
    cases o with
    | none => rw [e] at q; exact q.elim
    | some v => rw [e] at q; exact ⟨v, e, q⟩
def fAdd : R2 := fun x y H Q => match x, y with
  | .int i, .int j => Q (.int (i + j)) H
  | .str a, .str b => a.length + b.length ≤ sizeLine ∧ Q (.str (a ++ b)) H
  | .ref p, .ref q => rCat (.ref p) (.ref q) H Q
  | _, _ => False
theorem o_add : OpR X (binaryOp .Add) fAdd := by
  intro pins s σ H x y v u Q I rx ry h
  cases x with
  | int i =>
    cases y with
    | int j => exact op_add pins s σ H _ _ v u Q I rx ry ⟨i, j, rfl, rfl, h⟩
    | _ => exact (show False from h).elim
  | str a =>
    cases y with
    | str b => exact op_add_str pins s σ H _ _ v u Q I rx ry ⟨a, b, rfl, rfl, h.1, h.2⟩
    | _ => exact (show False from h).elim
  | ref p =>
    cases y with
    | ref q => exact op_cat pins s σ H _ _ v u Q I rx ry h
    | _ => exact (show False from h).elim
  | _ => cases y <;> exact (show False from h).elim
def fInt (C : Int → Int → Prop) (g : Int → Int → V) : R2 := fun x y H Q => match x, y with
  | .int i, .int j => C i j ∧ Q (g i j) H
  | _, _ => False
def fInt0 (g : Int → Int → V) : R2 := fun x y H Q => match x, y with
  | .int i, .int j => Q (g i j) H
  | _, _ => False
theorem OpR.fInt {f : Value → Value → Sem Value} {C : Int → Int → Prop} {g : Int → Int → V} (h : OpR X f (rI C g)) : OpR X f (fInt C g) := h.imp fun x y H Q q => by
  cases x with
  | int i =>
    cases y with
    | int j => exact ⟨i, j, rfl, rfl, q.1, q.2⟩
    | _ => exact (show False from q).elim
  | _ => cases y <;> exact (show False from q).elim
theorem OpR.fInt0 {f : Value → Value → Sem Value} {g : Int → Int → V} (h : OpR X f (rI0 g)) : OpR X f (fInt0 g) := h.imp fun x y H Q q => by
  cases x with
  | int i =>
    cases y with
    | int j => exact ⟨i, j, rfl, rfl, q⟩
    | _ => exact (show False from q).elim
  | _ => cases y <;> exact (show False from q).elim
theorem o_sub : OpR X (binaryOp .Sub) (fInt0 fun i j => .int (i - j)) := op_sub.fInt0
theorem o_mul : OpR X (binaryOp .Mult) (fInt CMul fun i j => .int (i * j)) := op_mul.fInt
def CDivW (_ j : Int) : Prop := 0 < j ∧ j < 2 ^ 64
theorem log2_64 {j : Int} (h : CDivW 0 j) : j.natAbs.log2 < 9000 := by
  have h1 : j.natAbs < 2 ^ 64 := by
    have h2 : j < 2 ^ 64 := h.2
    have h3 : 0 < j := h.1
    omega
  have h0 : j.natAbs ≠ 0 := by have h3 : 0 < j := h.1; omega
  have := (Nat.log2_lt h0).mpr h1
  omega
theorem o_fdiv : OpR X (binaryOp .FloorDiv) (fInt CDivW fun i j => .int (i / j)) := (opI fun i j _ _ _ _ _ hc q => by
  have h1 : (0 : Int) < j := hc.1
  exact floordiv_int (by omega) (by rw [Int.fdiv_eq_ediv_of_nonneg i (by omega)]; exact q) (.inl (PyProof.noPylong_of_log2 (log2_64 hc)))).fInt
theorem o_mod : OpR X (binaryOp .Mod) (fInt (fun _ j => 0 < j) fun i j => .int (i % j)) := op_mod.fInt
theorem o_pow : OpR X (binaryOp .Pow) (fInt CPow fun i j => .int (i ^ j.toNat)) := op_pow.fInt
theorem o_lt : OpR X (compareOp .Lt) (fInt0 fun i j => .bl (decide (i < j))) := op_lt.fInt0
theorem o_le : OpR X (compareOp .LtE) (fInt0 fun i j => .bl (decide (i ≤ j))) := op_le.fInt0
mutual
inductive RepD (K : PySem.W.Frag) (H : Hp) : V → PyData → Prop where
  | non : RepD K H .non .none
  | bl (b : Bool) : RepD K H (.bl b) (.bool b)
  | int (i : Int) : RepD K H (.int i) (.int i)
  | str (x : Str) : RepD K H (.str x) (.str x)
  | lst {a : Addr} {xs : List V} {ds : List PyData} (h : SqL K H a xs) (r : RepAll K H xs ds) : RepD K H (.ref a) (.list ds)
  | tup {a : Addr} {xs : List V} {ds : List PyData} (h : SqT K H a xs) (r : RepAll K H xs ds) : RepD K H (.ref a) (.tuple ds)
inductive RepAll (K : PySem.W.Frag) (H : Hp) : List V → List PyData → Prop where
  | nil : RepAll K H [] []
  | cons {x : V} {xs : List V} {d : PyData} {ds : List PyData} (h : RepD K H x d) (r : RepAll K H xs ds) : RepAll K H (x :: xs) (d :: ds)
end
mutual
theorem Inv.reads {pins : List (Addr × Obj)} {σ : St} {H : Hp} {s : Shared} (I : Inv X pins σ H s) : ∀ {x : V} {d : PyData} {u : Value}, RepD X.K H x d → RelV x u → ∃ as, Reads s.heap u d as
  | _, _, _, .non, r => by cases r; exact ⟨_, .none⟩
  | _, _, _, .bl b, r => by cases r; exact ⟨_, .bool b⟩
  | _, _, _, .int i, r => by obtain ⟨t, rfl⟩ := r; exact ⟨_, .int i t⟩
  | _, _, _, .str x, r => by obtain ⟨t, rfl⟩ := r; exact ⟨_, .str x t⟩
  | _, _, _, .lst h q, r => by
    cases r
    obtain ⟨its, rv, ⟨o, n, e, hc, _, hd⟩, _⟩ := I.list h
    obtain ⟨as, z⟩ := I.readsAll q rv
    exact ⟨_, .list e hc hd (by simpa using z)⟩
  | _, _, _, .tup h q, r => by
    cases r
    obtain ⟨its, rv, ⟨o, e, hc, n, hd⟩, _⟩ := I.tuple h
    obtain ⟨as, z⟩ := I.readsAll q rv
    exact ⟨_, .tuple e hc hd (by simpa using z)⟩
theorem Inv.readsAll {pins : List (Addr × Obj)} {σ : St} {H : Hp} {s : Shared} (I : Inv X pins σ H s) : ∀ {xs : List V} {ds : List PyData} {us : List Value}, RepAll X.K H xs ds → Vals xs us → ∃ as, ReadsAll s.heap us ds as
  | _, _, _, .nil, r => by cases r; exact ⟨_, .nil⟩
  | _, _, _, .cons h q, r => by
    cases r with
    | cons r1 r2 =>
      obtain ⟨as, z⟩ := I.reads h r1
      obtain ⟨bs, z2⟩ := I.readsAll q r2
      exact ⟨_, .cons z z2⟩
end
def fEq (K : PySem.W.Frag) : R2 := fun x y H Q => match x, y with
  | .ref p, .ref q => ∃ d e, RepD K H (.ref p) d ∧ RepD K H (.ref q) e ∧ SeqAt.shaped d = true ∧ SeqAt.shaped e = true ∧ Q (.bl (PyData.eqv d e)) H
  | x, y => scal x y = true ∧ Q (.bl (decide (x = y))) H
def fNe (K : PySem.W.Frag) : R2 := fun x y H Q => match x, y with
  | .ref p, .ref q => ∃ d e, RepD K H (.ref p) d ∧ RepD K H (.ref q) e ∧ SeqAt.shaped d = true ∧ SeqAt.shaped e = true ∧ Q (.bl (!PyData.eqv d e)) H
  | x, y => scal x y = true ∧ Q (.bl (!decide (x = y))) H
theorem o_eq (hu : X.A.units + 64 < cLine) : OpR X (compareOp .Eq) (fEq X.K) := by
  intro pins s σ H x y v u Q I rx ry h
  by_cases hr : ∃ p q, x = V.ref p ∧ y = V.ref q
  · obtain ⟨p, q, rfl, rfl⟩ := hr
    obtain ⟨d, e, hd, he, sd, se, hq⟩ := h
    obtain ⟨as, z1⟩ := I.reads hd rx
    obtain ⟨bs, z2⟩ := I.reads he ry
    exact eq_dataH z1 z2 sd se hu ⟨.bl _, H, I, rfl, hq⟩
  · refine op_eq pins s σ H x y v u Q I rx ry ?_
    cases x <;> cases y <;> first | exact h | exact absurd ⟨_, _, rfl, rfl⟩ hr
theorem o_ne (hu : X.A.units + 64 < cLine) : OpR X (compareOp .NotEq) (fNe X.K) := by
  intro pins s σ H x y v u Q I rx ry h
  by_cases hr : ∃ p q, x = V.ref p ∧ y = V.ref q
  · obtain ⟨p, q, rfl, rfl⟩ := hr
    obtain ⟨d, e, hd, he, sd, se, hq⟩ := h
    obtain ⟨as, z1⟩ := I.reads hd rx
    obtain ⟨bs, z2⟩ := I.reads he ry
    exact ne_dataH z1 z2 sd se hu ⟨.bl _, H, I, rfl, hq⟩
  · refine op_ne pins s σ H x y v u Q I rx ry ?_
    cases x <;> cases y <;> first | exact h | exact absurd ⟨_, _, rfl, rfl⟩ hr
def fIn (K : PySem.W.Frag) (neg : Bool) : R2 := fun x y H Q => match y with
  | .str j => ∃ i, x = .str i ∧ Q (.bl (if neg then !(!(Builtin.Str.occurrences j i 0 j.length 1).isEmpty) else !(Builtin.Str.occurrences j i 0 j.length 1).isEmpty)) H
  | .ref p => ∃ xs, (SqL K H p xs ∨ SqT K H p xs) ∧ flatV x = true ∧ xs.all flatV = true ∧ Q (.bl (if neg then !inV x xs else inV x xs)) H
  | _ => False
theorem o_in : OpR X (compareOp .In) (fIn X.K false) := by
  intro pins s σ H x y v u Q I rx ry h
  cases y with
  | str j =>
    obtain ⟨i, rfl, q⟩ := h
    exact op_in_str pins s σ H _ _ v u Q I rx ry ⟨i, j, rfl, rfl, q⟩
  | ref p =>
    obtain ⟨xs, h1, h2, h3, q⟩ := h
    exact op_in_seq pins s σ H _ _ v u Q I rx ry ⟨p, xs, rfl, h1, h2, h3, q⟩
  | _ => exact (show False from h).elim
theorem o_notin : OpR X (compareOp .NotIn) (fIn X.K true) := by
  intro pins s σ H x y v u Q I rx ry h
  cases y with
  | str j =>
    obtain ⟨i, rfl, q⟩ := h
    exact op_notIn_str pins s σ H _ _ v u Q I rx ry ⟨i, j, rfl, rfl, q⟩
  | ref p =>
    obtain ⟨xs, h1, h2, h3, q⟩ := h
    exact op_notIn_seq pins s σ H _ _ v u Q I rx ry ⟨p, xs, rfl, h1, h2, h3, q⟩
  | _ => exact (show False from h).elim
theorem o_is : OpR X (compareOp .Is) (fun x y H Q => y = .non ∧ Q (.bl (decide (x = .non))) H) := op_isN
def fIx (K : PySem.W.Frag) : R2 := fun x y H Q => match x, y with
  | .ref p, .int i => ∃ xs v, (SqL K H p xs ∨ SqT K H p xs) ∧ atI xs i = some v ∧ Q v H
  | .str z, .int i => ∃ c, z.length ≤ sizeLine ∧ atI z.cps.toList i = some c ∧ Q (.str ⟨#[c]⟩) H
  | _, _ => False
theorem ix_any : IxR X (fIx X.K) := by
  intro value slice pins s σ H x y v u Q I rx ry h hs
  cases x with
  | ref p =>
    cases y with
    | int i =>
      obtain ⟨xs, w, h1 | h1, h2, q⟩ := h
      · exact ix_list value slice pins s σ H _ _ v u Q I rx ry ⟨p, xs, i, w, rfl, rfl, h1, h2, q⟩ hs
      · exact ix_tup value slice pins s σ H _ _ v u Q I rx ry ⟨p, xs, i, w, rfl, rfl, h1, h2, q⟩ hs
    | _ => exact (show False from h).elim
  | str z =>
    cases y with
    | int i =>
      obtain ⟨c, h1, h2, q⟩ := h
      exact ix_str value slice pins s σ H _ _ v u Q I rx ry ⟨z, i, c, rfl, rfl, h1, h2, q⟩ hs
    | _ => exact (show False from h).elim
  | _ => cases y <;> exact (show False from h).elim
def rSlS : V → Option Int → Option Int → Hp → VK → Prop := fun x lo hi H Q => ∃ z, x = .str z ∧ z.length ≤ sizeLine ∧ Q (.str (Txt.slice z lo hi)) H
def Its (x : Str) : It := ⟨fun i _ => i < x.cps.size, fun i H v H' => H' = H ∧ ∃ c, x.cps[i]? = some c ∧ v = .str ⟨#[c]⟩, fun i _ => x.cps.size ≤ i⟩
theorem turn_str {P : Program} {w : World} {K : PySem.W.Frag} {tg : Expr} {T : String} (hT : T = "str_ascii_iterator" ∨ T = "str_iterator") (it : Addr) (x : Str) (t : Tok) : Turn P w K tg (Its x) [it] it (fun i h => i ≤ x.cps.size ∧ h.IsStrIter it T x t i) where
  mem := by simp
  obj := fun i h st b hb => by
    have e : b = it := by simpa using hb
    subst e
    obtain ⟨_, o, e, c, d⟩ := st
    exact ⟨o, e, fun v z => by rw [d] at z; cases z⟩
  keep := fun i h h' st k => by
    obtain ⟨hi, o, e, r⟩ := st
    exact ⟨hi, o, k it (by simp) o e, r⟩
  item := by
    intro X hP hw hK hc i pins s σ H E I hf st hg
    subst hP hw hK
    obtain ⟨f0, f1, f2, f3, f4, f5⟩ := hf it (by simp)
    have W : Walks X.prog X.w X.A it [it] [it] x.cps.size (SignAt x) (fun i h => h.IsStrIter it T x t i) := by
      rcases hT with rfl | rfl
      · exact Walks.strAscii (I.ok.hd hc) it x t
      · exact Walks.strWide (I.ok.hd hc) it x t
    refine W.item i s _ _ hg st.2 fun v h' tk hv st' kk => ?_
    obtain ⟨c, u, hcp, rfl⟩ := hv
    have I1 : Inv X pins σ H { s with heap := h', toks := tk } := I.turned (fun b o hb e => kk b o (by simpa using hb) e) f0 f1 f3 f4 f5
    obtain ⟨o, e, c', d⟩ := id st'
    refine ⟨_, rfl, go_of (s := { s with heap := h', toks := tk }) e c' d (by rcases hT with rfl | rfl <;> decide) ⟨.str ⟨#[c]⟩, H, I1, ⟨u, rfl⟩, ⟨rfl, c, hcp, rfl⟩, ⟨hg, st'⟩, fun b hb => (hf b hb).1⟩⟩
  done := by
    intro X hP hw hK hc i pins s σ H E I hf st hg
    subst hP hw hK
    obtain ⟨f0, f1, f2, f3, f4, f5⟩ := hf it (by simp)
    have W : Walks X.prog X.w X.A it [it] [it] x.cps.size (SignAt x) (fun i h => h.IsStrIter it T x t i) := by
      rcases hT with rfl | rfl
      · exact Walks.strAscii (I.ok.hd hc) it x t
      · exact Walks.strWide (I.ok.hd hc) it x t
    have e : i = x.cps.size := Nat.le_antisymm st.1 hg
    subst e
    exact W.done s _ _ st.2 fun h' tk kk => ⟨rfl, I.turned (fun b o hb e => kk b o (by simpa using hb) e) f0 f1 f3 f4 f5⟩
  self := fun A i s Q E st h => by
    rcases hT with rfl | rfl
    · exact wpAny_pyIter_striter_ascii st.2 h
    · exact wpAny_pyIter_striter_wide st.2 h
def iAny (K : PySem.W.Frag) (tl : TE) : TI := fun σ H R => tl σ H fun x H1 => match x with
  | .ref a => ((∃ xs, SqL K H1 a xs) ∧ R (Itl K a) H1) ∨ ((∃ xs, SqT K H1 a xs) ∧ R (Itt K a) H1)
  | .str z => R (Its z) H1
  | _ => False
theorem pi_any {tg l : Expr} {tl : TE} (hl : PE X l tl) : PI X tg l (iAny X.K tl) := by
  intro pins s σ H R I h
  refine thn (hl pins s σ H _ I h) fun v s1 ⟨x, H1, I1, r1, q1⟩ => ?_
  cases x with
  | ref a =>
    cases r1
    rcases q1 with ⟨⟨xs, hq⟩, q⟩ | ⟨⟨xs, hq⟩, q⟩
    · obtain ⟨its, rv, p, hz⟩ := I1.list hq
      refine wpAny_pyIter_list p.isList ?_
      refine ⟨s1.heap.objs.size, [s1.heap.objs.size], _, _, H1, rfl, I1.kept (t' := s1.toks) fun b o e => Heap.get?_push_of_some _ e, turn_list a _, ⟨_, Heap.get?_push_size _ rfl, rfl, rfl⟩, fun b hb => ?_, q⟩
      have e : b = s1.heap.objs.size := by simpa using hb
      subst e
      exact I1.fpOk (Nat.le_refl _) (I1.hok.fresh (Nat.le_refl _))
    · obtain ⟨its, rv, p, hz⟩ := I1.tuple hq
      refine wpAny_pyIter_tuple (show s1.heap.IsTuple a its.toArray from p) ?_
      refine ⟨s1.heap.objs.size, [s1.heap.objs.size], _, _, H1, rfl, I1.kept (t' := s1.toks) fun b o e => Heap.get?_push_of_some _ e, turn_tuple a _, ⟨_, Heap.get?_push_size _ rfl, rfl, rfl⟩, fun b hb => ?_, q⟩
      have e : b = s1.heap.objs.size := by simpa using hb
      subst e
      exact I1.fpOk (Nat.le_refl _) (I1.hok.fresh (Nat.le_refl _))
  | str z =>
    obtain ⟨t, rfl⟩ := r1
    refine wpAny_pyIter_strU ?_
    refine ⟨s1.heap.objs.size, [s1.heap.objs.size], _, _, H1, rfl, I1.kept (t' := s1.toks) fun b o e => Heap.get?_push_of_some _ e, turn_str (T := strIterType z) ?_ _ z t, ⟨Nat.zero_le _, _, Heap.get?_push_size _ rfl, rfl, rfl⟩, fun b hb => ?_, q1⟩
    · unfold strIterType
      split
      · exact .inl rfl
      · exact .inr rfl
    · have e : b = s1.heap.objs.size := by simpa using hb
      subst e
      exact I1.fpOk (Nat.le_refl _) (I1.hok.fresh (Nat.le_refl _))
  | _ => exact (show False from q1).elim
theorem pt_tru {a : Expr} {ta : TE} (ha : PE X a ta) (he : ∀ whole, isTrue a X.env whole = (do let v ← whole; standAt a.pos; holding [v] (truthy v))) :
    PT X a (fun σ H Q => ta σ H fun x H' => ∃ k, TruV X.K x H' k ∧ Q k H') := pt_truth ha he
theorem pe_notV {a : Expr} {ta : TE} {pos : Pos} (ha : PE X a ta) : PE X (.UnaryOp .Not a pos) (fun σ H Q => ta σ H fun x H1 => ∃ k, TruV X.K x H1 k ∧ Q (.bl (!k)) H1) := by
  intro pins s σ H Q I h
  refine UnaryOp_ (thn (ha pins s σ H _ I h) fun v s1 ⟨x, H1, I1, r1, q1⟩ => ?_)
  obtain ⟨k, ht, q⟩ := q1
  exact not_of (thn (tru_ok pins s1 σ H1 x v (fun b H2 => Q (.bl (!b)) H2) I1 r1 ⟨k, ht, q⟩) fun b s2 ⟨H2, I2, q2⟩ => ⟨.bl (!b), H2, I2, rfl, q2⟩)
theorem c_len : CallR X (.builtin "len") (fun xs H Q => ∃ x n, xs = [x] ∧ LenV X.K x H n ∧ Q (.int n) H) := call_len
theorem c_list : CallR X (.type "list") (fun xs H Q => ∃ p ys, xs = [.ref p] ∧ (SqL X.K H p ys ∨ SqT X.K H p ys) ∧ ∀ l, H l = none → Q (.ref l) (upd H l (.lst ys))) := call_list_of
theorem bools_get {bs : List Bool} {its : List Value} (r : Vals (bs.map V.bl) its) {i : Nat} {v : Value} (h : its[i]? = some v) : ∃ b, bs[i]? = some b ∧ v = .bool b := by
  have hi : i < its.length := (List.getElem?_eq_some_iff.mp h).1
  have hl := r.length
  rw [List.length_map] at hl
  have hb : bs[i]? = some bs[i] := List.getElem?_eq_getElem (by omega)
  obtain ⟨u, hu, ru⟩ := r.get (i := i) (x := V.bl bs[i]) (by rw [List.getElem?_map, hb]; rfl)
  rw [h] at hu
  cases hu
  exact ⟨_, hb, ru⟩
theorem c_all (hc : X.calm = true := by rfl) : CallR X (.builtin "all") (fun xs H Q => ∃ (p : Addr) (bs : List Bool), xs = [.ref p] ∧ SqL X.K H p (bs.map V.bl) ∧ Q (.bl (bs.all id)) H) := by
  intro pins s σ H xs us Q I r h
  obtain ⟨p, bs, rfl, hq, q⟩ := h
  obtain ⟨u, rfl, rx⟩ := vals1 r
  cases rx
  obtain ⟨its, rv, pl, hz⟩ := I.list hq
  have hl := pl.isList
  have hlt : p < s.heap.objs.size := by obtain ⟨_, e, _⟩ := hl; exact Heap.lt_size e
  have hlen : its.toArray.size = bs.length := by have := rv.length; rw [List.length_map] at this; rw [List.size_toArray]; omega
  refine call_all_walk (wpAny_pyIter_list hl ?_)
  refine ⟨s.heap.objs.size, [s.heap.objs.size, p], [s.heap.objs.size], its.toArray.size, _, _, fun i => (bs[i]?).getD true, rfl, Walks.list (A := X.A.in1) (I.ok.hd hc) _ p (Nat.ne_of_lt hlt) its.toArray,
    ⟨⟨_, Heap.get?_push_size _ rfl, rfl, rfl⟩, hl.push _⟩, fun i v s' Q' E' hP hQ => ?_, fun h' tk hk => ?_⟩
  · obtain ⟨b, e, rfl⟩ := bools_get rv (by simpa using hP)
    simp only [e, Option.getD_some] at hQ
    exact wpAny_truthy_bool hQ
  · rw [hlen, LSm.range_all bs]
    exact ⟨.bl _, H, I.kept (LSm.kept_iter hk), rfl, q⟩
def cvOf : V → Value
  | .ty n => .type n
  | .ref a => .ref a
  | _ => .none
theorem cvOf_rel {y : V} {u : Value} (r : RelV y u) (h : cvOf y ≠ .none) : u = cvOf y := by
  cases y with
  | ty n => exact r
  | ref a => exact r
  | _ => exact absurd rfl h
theorem c_isinst : CallR X (.builtin "isinstance") (fun xs H Q => ∃ x y t b, xs = [x, y] ∧ cvOf y ≠ .none ∧ TyOf X.K H x t ∧ PySem.W.kitOne X.K t (cvOf y) = some b ∧ Q (.bl b) H) := by
  intro pins s σ H xs us Q I r h
  obtain ⟨x, y, t, b, rfl, hy, ty, e, q⟩ := h
  obtain ⟨u, w', rfl, rx, ry⟩ := vals2 r
  rw [cvOf_rel ry hy]
  exact isinst_ok I rx ty e fun tk => ⟨.bl b, H, I.tok _, rfl, q⟩
theorem m_append {o e : Expr} {to : TE} {t : TA} {apos cpos : Pos} (ho : PE X o to) (ha : PA X [e] t) (hbase : attributeBase o "append" X.env (eval o X.env) = eval o X.env := by rfl)
    (hfew : ((backTo cpos (starEach [e] X.env)).all (fun x => !x.1) && (backToKw cpos (keywordEach [] X.env)).all (fun x => x.1.isSome)
      && decide ([e].length + ([] : List Keyword).length + (if ([] : List Keyword).isEmpty then 0 else 1) < 30)) = true := by rfl)
    (hline : (apos.endLine == cpos.line) = true := by rfl) (hs : starEach [e] X.env = (false, eval e X.env) :: starEach [] X.env := by rfl) (hplain : (backTo cpos (starEach [] X.env)).any (·.1) = false := by rfl) :
    PE X (.Call (.Attribute o "append" apos) [e] [] cpos) (tBM X.K "list" rAppend to t) := pe_bm PySem.F.plainAttrs_list PySem.F.slot_list_append PySem.F.type_list_append mt_append ho ha hbase hfew hline hs hplain
end
def Has (P : Program) (w : World) (K : PySem.W.Frag) (mg : Str → Option Value) (base : Heap) (k : Nat) (x : Str) (ps : List Str) (sp : Sp) : Prop :=
  ∃ f fd, FnOk P w K mg base CX0 k f fd ps sp ∧ Binds K fd ps [] ∧ PySem.W.keepIn K (.ref f) = true ∧ mg x = some (.ref f) ∧ ∃ oc od osl, K.lookup f = some ⟨oc, od, .func fd, osl⟩
structure TopFn (K : PySem.W.Frag) (mg : Str → Option Value) (x : Str) (st : Stmt) (ps : List Str) : Prop where
  ex : ∃ f fd, Fun K x x st f fd ∧ Binds K fd ps [] ∧ mg x = some (.ref f)
theorem pe_callD {X : Cx} {j k : Nat} {x : Str} {ps : List Str} {sp : Sp} {e : Expr} {es : List Expr} {t : TA} {p pos : Pos} (D : Has X.prog X.w X.K X.mg X.base j x ps sp) (hr : Room k X.A) (ha : PA X (e :: es) t) (hj : j ≤ k := by decide) (hg : Gl X x := by rfl)
    (hdb : (x == ("__debug__" : Str)) = false := by decide) (he : starEach (e :: es) X.env = (false, eval e X.env) :: starEach es X.env := by rfl) (hpl : (backTo pos (starEach es X.env)).any (·.1) = false := by rfl) :
    PE X (.Call (.Name x p) (e :: es) [] pos) (tCall sp [] E0 t) := by
  obtain ⟨f, fd, F, b, kp, m, _⟩ := D
  exact pe_call F (hr.mono hj) hg m kp b .nil pass0 ha hdb he hpl
theorem TopFn.has {P : Program} {w : World} {K : PySem.W.Frag} {mg : Str → Option Value} {base : Heap} {x : Str} {st : Stmt} {N ps : List Str} {k : Nat} {sp : Sp} (F : TopFn K mg x st ps) (S : FnScope N ps (defScope st)) (len : ∀ vs H Q E, sp vs H Q E → vs.length = ps.length)
    (hbody : ∀ (f : Addr) (cdv : Value) (A : Around) (outer : List Env) (s : Shared) (H : Hp) (vs : List V) (Q : VK) (E : XK), Room k (A.deeper (envOfC x (defScope st) s.heap.objs.size f cdv)) → (A.deeper (envOfC x (defScope st) s.heap.objs.size f cdv)).units + 64 < cLine → sp vs H Q E →
      ∃ t, PSs (cxOf CX0 P w K mg base N x (defScope st) f cdv A outer s H E).nox (defBody st) t ∧ t { nx := fun _ H' => Q .non H', rt := Q } (start N vs) H) : Has P w K mg base (k + 1) x ps sp := by
  obtain ⟨f, fd, F, b, m⟩ := F.ex
  obtain ⟨oc, od, kV, doc, pm, an, cdv, ct, osl, e, lk, hcd⟩ := F.ex
  exact ⟨f, fd, F.ok S len fun cdv A outer s H vs Q E hr h => hbody f cdv A outer s H vs Q E hr hr.units h, b, F.kp, m, oc, od, osl, lk⟩
end L2

set_option Elab.async false
set_option linter.all false
set_option maxRecDepth 100000
namespace L2
open PySem PySem.Spec PyProof.Rows
theorem Same.upd {H : Hp} {p : Addr} (h : H p = none) (o : HO) : Same H (upd H p o) := fun b u q => by rw [upd_ne (ne_of_none q h)]; exact q
theorem Same.tup {K : PySem.W.Frag} {H H' : Hp} {a : Addr} {xs : List V} (e : Same H H') (h : SqT K H a xs) : SqT K H' a xs := by
  rcases h with (h | ⟨o, h⟩) | h
  · exact .inl (.inl (e _ _ h))
  · exact .inl (.inr ⟨o, e _ _ h⟩)
  · exact .inr h
mutual
theorem Same.rep {K : PySem.W.Frag} {H H' : Hp} (e : Same H H') : ∀ {x : V} {d : PyData}, RepD K H x d → RepD K H' x d
  | _, _, .non => .non
  | _, _, .bl b => .bl b
  | _, _, .int i => .int i
  | _, _, .str x => .str x
  | _, _, .lst h r => .lst (e.seq h) (e.repAll r)
  | _, _, .tup h r => .tup (e.tup h) (e.repAll r)
theorem Same.repAll {K : PySem.W.Frag} {H H' : Hp} (e : Same H H') : ∀ {xs : List V} {ds : List PyData}, RepAll K H xs ds → RepAll K H' xs ds
  | _, _, .nil => .nil
  | _, _, .cons h r => .cons (e.rep h) (e.repAll r)
end
def cFr (fr : List Nat) (σ : St) : St := fr.map fun j => (σ[j]?).getD none
theorem comp_turns {J : It} {n : Nat} {x : Nat → V} {fr : List Nat} {tf : CB → TT} {te : CB → TE} {Q : VK} {σ : St} {H1 : Hp} (p : Nat → Bool) (f : Nat → V) (hn : n < sizeLine)
    (stop : ∀ H, Same H1 H → J.stop n H) (go : ∀ i H, i < n → Same H1 H → J.go i H) (yld : ∀ i H v H', i < n → Same H1 H → J.yld i H v H' → H' = H ∧ v = x i)
    (hf : ∀ b i H (R : Bool → Hp → Prop), i < n → Same H1 H → (∀ H', Same H H' → R (p i) H') → tf b (some (x i) :: cFr fr σ) H R)
    (he : ∀ b i H (R : VK), i < n → p i = true → Same H1 H → (∀ H', Same H H' → R (f i) H') → te b (some (x i) :: cFr fr σ) H R)
    (fin : ∀ D H, H1 D = none → Same H1 H → H D = some (.lst (((List.range n).filter p).map f)) → Q (.ref D) H) : tBlock J 1 fr (fun _ => gName 0) tf te Q σ H1 := by
  refine ⟨fun b D hD => ?_⟩
  have lenf : ∀ i, (((List.range i).filter p).map f).length ≤ i := fun i => by
    rw [List.length_map]
    exact Nat.le_trans (List.length_filter_le _ _) (Nat.le_of_eq List.length_range)
  refine ⟨fun i m σ' H' => m = n - i ∧ i ≤ n ∧ (∃ v0, σ' = v0 :: cFr fr σ) ∧ Same H1 H' ∧ H' D = some (.lst (((List.range i).filter p).map f)), ⟨n, rfl, Nat.zero_le _, ⟨none, rfl⟩, Same.upd hD _, upd_same⟩, ?_⟩
  rintro i m σ' H' ⟨rfl, hi, ⟨v0, rfl⟩, sm, hl⟩
  by_cases hlt : i < n
  · refine .inr ⟨go i H' hlt sm, fun σ2 H2 => (∃ v0, σ2 = v0 :: cFr fr σ) ∧ Same H1 H2 ∧ H2 D = some (.lst (((List.range (i + 1)).filter p).map f)), fun σ2 H2 q => ⟨n - (i + 1), by omega, rfl, hlt, q⟩, fun v H2 y => ?_⟩
    obtain ⟨rfl, rfl⟩ := yld i H' v H2 hlt sm y
    show tf b (some (x i) :: cFr fr σ) _ _
    refine hf b i _ _ hlt sm fun H3 s3 => ?_
    have e1 : (List.range (i + 1)).filter p = (List.range i).filter p ++ (if p i then [i] else []) := by
      rw [List.range_succ, List.filter_append]
      congr 1
      cases hp : p i <;> simp [hp]
    cases hp : p i with
    | false =>
      rw [if_neg Bool.false_ne_true]
      refine ⟨⟨_, rfl⟩, sm.trans s3, ?_⟩
      rw [s3 _ _ hl, e1, hp]
      simp
    | true =>
      rw [if_pos rfl]
      refine he b i _ _ hlt hp (sm.trans s3) fun H4 s4 => ⟨_, s4 _ _ (s3 _ _ hl), ?_, ⟨_, rfl⟩, ?_, ?_⟩
      · exact Nat.lt_of_le_of_lt (lenf i) (Nat.lt_trans hlt hn)
      · have sm4 : Same H1 H4 := sm.trans (s3.trans s4)
        intro c o q
        by_cases hc : c = D
        · rw [hc, hD] at q; cases q
        · rw [upd_ne hc]; exact sm4 c o q
      · rw [upd_same, e1, hp]
        simp
  · have e : i = n := by omega
    subst e
    exact .inl ⟨stop H' sm, fin D H' hD sm hl⟩
theorem comp_range {lo : Int} {n : Nat} {fr : List Nat} {tf : CB → TT} {te : CB → TE} {Q : VK} {σ : St} {H1 : Hp} (p : Nat → Bool) (f : Nat → V) (hn : n < sizeLine)
    (hf : ∀ b i H (R : Bool → Hp → Prop), i < n → Same H1 H → (∀ H', Same H H' → R (p i) H') → tf b (some (.int (lo + i)) :: cFr fr σ) H R)
    (he : ∀ b i H (R : VK), i < n → p i = true → Same H1 H → (∀ H', Same H H' → R (f i) H') → te b (some (.int (lo + i)) :: cFr fr σ) H R)
    (fin : ∀ D H, H1 D = none → Same H1 H → H D = some (.lst (((List.range n).filter p).map f)) → Q (.ref D) H) : tBlock (Itr lo n) 1 fr (fun _ => gName 0) tf te Q σ H1 :=
  comp_turns (x := fun i => .int (lo + i)) p f hn (fun _ _ => Nat.le_refl _) (fun _ _ h _ => h) (fun _ _ _ _ _ _ y => y) hf he fin
theorem map_range {α : Type} {β : Type} (xs : List α) (d : α) (f : α → β) : (List.range xs.length).map (fun i => f (xs.getD i d)) = xs.map f := by
  apply List.ext_getElem?
  intro i
  rw [List.getElem?_map, List.getElem?_map]
  by_cases h : i < xs.length
  · rw [List.getElem?_range h, List.getElem?_eq_getElem h]
    simp [List.getD, List.getElem?_eq_getElem h]
  · rw [List.getElem?_eq_none (by simpa using h), List.getElem?_eq_none (by simpa using h)]
    rfl
theorem filter_range {α : Type} {β : Type} (p : α → Bool) (f : α → β) (d : α) : ∀ (xs : List α), ((List.range xs.length).filter fun i => p (xs.getD i d)).map (fun i => f (xs.getD i d)) = (xs.filter p).map f := by
  intro xs
  have e := map_range xs d id
  have e2 : xs = (List.range xs.length).map fun i => xs.getD i d := by simpa using e.symm
  have e3 : xs.filter p = ((List.range xs.length).filter fun i => p (xs.getD i d)).map fun i => xs.getD i d := by
    conv => lhs; rw [e2]
    rw [List.filter_map]
    rfl
  rw [e3, List.map_map]
  rfl
theorem comp_list {K : PySem.W.Frag} {a : Addr} {xs : List V} {fr : List Nat} {tf : CB → TT} {te : CB → TE} {Q : VK} {σ : St} {H1 : Hp} (p : V → Bool) (f : V → V) (hx : SqL K H1 a xs) (hn : xs.length < sizeLine)
    (hf : ∀ b x H (R : Bool → Hp → Prop), x ∈ xs → Same H1 H → (∀ H', Same H H' → R (p x) H') → tf b (some x :: cFr fr σ) H R)
    (he : ∀ b x H (R : VK), x ∈ xs → p x = true → Same H1 H → (∀ H', Same H H' → R (f x) H') → te b (some x :: cFr fr σ) H R)
    (fin : ∀ D H, H1 D = none → Same H1 H → H D = some (.lst ((xs.filter p).map f)) → Q (.ref D) H) : tBlock (Itl K a) 1 fr (fun _ => gName 0) tf te Q σ H1 := by
  have mem : ∀ i, i < xs.length → xs.getD i .non ∈ xs := fun i h => by
    rw [List.getD_eq_getElem?_getD, List.getElem?_eq_getElem h]
    exact List.getElem_mem h
  refine comp_turns (x := fun i => xs.getD i .non) (fun i => p (xs.getD i .non)) (fun i => f (xs.getD i .non)) hn (fun H s => ⟨xs, s.seq hx, Nat.le_refl _⟩) (fun i H h s => ⟨xs, xs[i], s.seq hx, List.getElem?_eq_getElem h⟩)
    (fun i H v H' h s y => ⟨y.1, ?_⟩) (fun b i H R h s k => hf b _ H R (mem i h) s k) (fun b i H R h hp s k => he b _ H R (mem i h) hp s k) fun D H hD s e => fin D H hD s ?_
  · have := y.2 xs (s.seq hx)
    rw [List.getD_eq_getElem?_getD, this]
    rfl
  · rw [e, filter_range p f]
section
variable {X : Cx}
def rSlAny (K : PySem.W.Frag) : V → Option Int → Option Int → Hp → VK → Prop := fun x lo hi H Q => rSlL K x lo hi H Q ∨ rSlT K x lo hi H Q
theorem sl_any : SlR X (rSlAny X.K) := sl_list.or sl_tup
end
theorem topFn_mk {K : PySem.W.Frag} {mg : Str → Option Value} {h : Heap} {x : Str} {st : Stmt} {ps : List Str} {f : Addr} {oc : Value} {od an : Option Addr} {osl : Array (Option Value)} {kV doc pm cdv ct : Value} (X : K.In h) (G : h.Ns mainGlobals mg)
    (a : PySem.W.nsIn K mainGlobals x = some (some (.ref f))) (l : K.lookup f = some ⟨oc, od, .func (PySem.W.fnOf x x (defArgs st) (defBody st) (defScope st) .none kV doc pm an cdv ct), osl⟩) (c : PySem.W.codeIn K cdv x = true) (k : PySem.W.keepIn K (.ref f) = true)
    (hb : ∀ (kV doc pm : Value) (an : Option Addr) (cdv ct : Value) (us : List Value), us.length = ps.length → bindArgs (PySem.W.fnOf x x (defArgs st) (defBody st) (defScope st) .none kV doc pm an cdv ct) ⟨us, []⟩ = pure (ps.zip us)) : TopFn K mg x st ps :=
  ⟨f, _, fun_mk l c k, (fun_mk l c k).binds hb, PySem.W.mg_of X G a⟩
theorem has_at {P : Program} {w : World} {K : PySem.W.Frag} {mg : Str → Option Value} {base : Heap} {k : Nat} {x : Str} {ps : List Str} {sp : Sp} {f : Addr} {oc : Value} {od : Option Addr} {osl : Array (Option Value)} {fd : FuncData} (D : Has P w K mg base k x ps sp) (m : mg x = some (.ref f))
    (l : K.lookup f = some ⟨oc, od, .func fd, osl⟩) : FnOk P w K mg base CX0 k f fd ps sp := by
  obtain ⟨g, gd, F, b, kp, mg', _, _, _, l'⟩ := id D
  rw [m] at mg'
  cases mg'
  rw [l] at l'
  cases l'
  exact F
end L2

set_option Elab.async false
set_option linter.all false
set_option maxRecDepth 100000
namespace L2
open PySem PySem.Spec PyProof.Rows
def maxL : List Int → Option Int
  | [] => none
  | x :: r => some (r.foldl (fun m y => if y > m then y else m) x)
def bestTo (ns : List Int) (j : Nat) : Int := (ns.take (j + 1)).tail.foldl (fun m y => if y > m then y else m) (ns.headD 0)
section
variable {prog : Program} {w : World} {A : Around} {R : Result → Shared → Prop} {I l : Addr} {its : Array Value} {ns : List Int} {St : Nat → Heap → Prop} {fp wr : List Addr} {d : Value}
end
def CallRK (X : Cx) (f : Value) (ks : List Str) (r : List V → List V → Hp → VK → Prop) : Prop :=
  ∀ (pins : List (Addr × Obj)) (s : Shared) (σ : St) (H : Hp) (xs zs : List V) (us ws : List Value) (Q : VK), Inv X pins σ H s → Vals xs us → Vals zs ws → r xs zs H Q → wpAny (model X.prog X.w) X.A (call f us (ks.zip ws)) (EP X pins σ Q) X.xe s
section
variable {X : Cx}
end
end L2

set_option Elab.async false
set_option linter.all false
set_option maxRecDepth 100000
namespace L2
open PySem PySem.Spec PyProof.Rows
section
variable {X : Cx}
theorem sl_str : SlR X rSlS := by
  intro pins s σ H x v vl vu lo hi sl Q I rx hs pl pu h
  obtain ⟨z, rfl, hz, q⟩ := h
  obtain ⟨t, rfl⟩ := rx
  have fin : ∀ t' k, EP X pins σ Q (.str (Txt.slice z lo hi) t') { s with toks := k } := fun t' k => ⟨.str _, H, I.tok _, ⟨_, rfl⟩, q⟩
  have len := Nat.le_trans (Txt.slice_le z lo hi) hz
  obtain ⟨o, ho, hc, hd⟩ := hs
  refine ⟨"str", _, PySem.F.slot_str_getitem.lookup, typeIs_str _ _ _, ?_⟩
  cases pl with
  | none =>
    cases pu with
    | none => exact wpAny_getItem_str_slice (l := Option.none) (u := Option.none) (st := Option.none) ⟨o, ho, hc, hd⟩ rfl (post_val_or_str ⟨len, fun t' k => fin t' k⟩)
    | int j uj => exact wpAny_getItem_str_slice (l := Option.none) (u := some (j, uj)) (st := Option.none) ⟨o, ho, hc, hd⟩ rfl (post_val_or_str ⟨len, fun t' k => fin t' k⟩)
  | int i ui =>
    cases pu with
    | none => exact wpAny_getItem_str_slice (l := some (i, ui)) (u := Option.none) (st := Option.none) ⟨o, ho, hc, hd⟩ rfl (post_val_or_str ⟨len, fun t' k => fin t' k⟩)
    | int j uj => exact wpAny_getItem_str_slice (l := some (i, ui)) (u := some (j, uj)) (st := Option.none) ⟨o, ho, hc, hd⟩ rfl (post_val_or_str ⟨len, fun t' k => fin t' k⟩)
def fSl (K : PySem.W.Frag) : V → Option Int → Option Int → Hp → VK → Prop := fun x lo hi H Q => match x with
  | .str z => z.length ≤ sizeLine ∧ Q (.str (Txt.slice z lo hi)) H
  | x => rSlL K x lo hi H Q ∨ rSlT K x lo hi H Q
theorem sl_all : SlR X (fSl X.K) := by
  intro pins s σ H x v vl vu lo hi sl Q I rx hs pl pu h
  by_cases hx : ∃ z, x = .str z
  · obtain ⟨z, rfl⟩ := hx
    exact sl_str pins s σ H _ v vl vu lo hi sl Q I rx hs pl pu ⟨z, rfl, h.1, h.2⟩
  · refine sl_any pins s σ H x v vl vu lo hi sl Q I rx hs pl pu ?_
    cases x <;> first | exact h | exact absurd ⟨_, rfl⟩ hx
theorem pe_gint {x : Str} {z : Int} {pos : Pos} (h : ∃ t, X.mg x = some (.int z t)) (hg : Gl X x := by rfl) (hd : (x == ("__debug__" : Str)) = false := by decide) : PE X (.Name x pos) (tC (.int z)) := by
  obtain ⟨t, e⟩ := h
  exact pe_glob hg e ⟨t, rfl⟩ hd
end
def inS (sg : Str) (c : Nat) : Bool := !(Builtin.Str.occurrences sg ⟨#[c]⟩ 0 sg.length 1).isEmpty
abbrev LET : Str := "abcdefghijklmnopqrstuvwxyz"
abbrev FIG : Str := "0123456789"
end L2

set_option Elab.async false
set_option linter.all false
set_option maxRecDepth 100000
namespace L2
open PySem PySem.Spec PyProof.Rows
def Itr3 (lo c : Int) (n : Nat) : It := ⟨fun i _ => i < n, fun i H x H' => H' = H ∧ x = .int (lo + i * c), fun i _ => n ≤ i⟩
def rangeN (lo hi c : Int) : Nat := (Builtin.Range.rangeSize lo hi c).toNat
def iRng3 (ta : TA) : TI := fun σ H R => ta σ H fun vs H1 => ∃ i j c : Int, vs = [.int i, .int j, .int c] ∧ Builtin.Range.small i j c = true ∧ 0 < c ∧ c < 1000 ∧ 0 ≤ Builtin.Range.rangeSize i j c ∧ R (Itr3 i c (rangeN i j c)) H1
section
variable {X : Cx} {tg : Expr}
def evens {α : Type} (xs : List α) : List α := (List.range ((xs.length + 1) / 2)).filterMap fun m => xs[m * 2]?
def tEvens (K : PySem.W.Frag) (te : TE) : TE := fun σ H Q => te σ H fun x H1 => ∃ a xs, x = .ref a ∧ SqT K H1 a xs ∧ ∀ p, H1 p = none → Q (.ref p) (upd H1 p (.tup (evens xs)))
theorem pe_gtup {x : Str} {pos : Pos} {a : Addr} (h : X.mg x = some (.ref a)) (hg : Gl X x := by rfl) (hd : (x == ("__debug__" : Str)) = false := by decide) : PE X (.Name x pos) (tC (.ref a)) := pe_glob hg h rfl hd
end
end L2

set_option Elab.async false
set_option linter.all false
set_option maxRecDepth 100000
namespace L2
open PySem PySem.Spec PyProof.Rows
end L2

set_option Elab.async false
set_option linter.all false
set_option maxRecDepth 100000
namespace L2
open PySem PySem.Spec PyProof.Rows
end L2

set_option Elab.async false
set_option linter.all false
set_option maxRecDepth 100000
namespace L2
open PySem PySem.Spec PyProof.Rows
section
variable {P : Program} {w : World} {K : PySem.W.Frag} {mg : Str → Option Value} {base : Heap}
structure MFn (K : PySem.W.Frag) (C : Addr) (m qual : Str) (st : Stmt) (ps : List Str) : Prop where
  ex : ∃ f fd, Fun K m qual st f fd ∧ Binds K fd ps [] ∧ Meth K C m f
def HasM (P : Program) (w : World) (K : PySem.W.Frag) (mg : Str → Option Value) (base : Heap) (k : Nat) (C : Addr) (m : Str) (ps : List Str) (sp : Sp) : Prop :=
  ∃ f fd, FnOk P w K mg base CX0 k f fd ps sp ∧ Binds K fd ps [] ∧ Meth K C m f
theorem MFn.has {C : Addr} {m qual : Str} {st : Stmt} {N ps : List Str} {k : Nat} {sp : Sp} (F : MFn K C m qual st ps) (S : FnScope N ps (defScope st)) (len : ∀ vs H Q E, sp vs H Q E → vs.length = ps.length)
    (hbody : ∀ (f : Addr) (cdv : Value) (A : Around) (outer : List Env) (s : Shared) (H : Hp) (vs : List V) (Q : VK) (E : XK), Room k (A.deeper (envOfC qual (defScope st) s.heap.objs.size f cdv)) → (A.deeper (envOfC qual (defScope st) s.heap.objs.size f cdv)).units + 64 < cLine → sp vs H Q E →
      ∃ t, PSs (cxOf CX0 P w K mg base N qual (defScope st) f cdv A outer s H E).nox (defBody st) t ∧ t { nx := fun _ H' => Q .non H', rt := Q } (start N vs) H) : HasM P w K mg base (k + 1) C m ps sp := by
  obtain ⟨f, fd, F, b, m⟩ := F.ex
  exact ⟨f, fd, F.ok S len fun cdv A outer s H vs Q E hr h => hbody f cdv A outer s H vs Q E hr hr.units h, b, m⟩
structure OwnC (K : PySem.W.Frag) (mg : Str → Option Value) (C : Addr) (x : Str) (up : List Addr) : Prop where
  mg : mg x = some (.ref C)
  cl : Cls K C
  mro : ∃ cd, PySem.W.clsIn K C = some cd ∧ cd.mro = up.map Value.ref ++ [Value.type "object"]
  ty : PySem.W.typeIn K (.ref C) = some (.type "type")
  kc : PySem.W.findIn K (.ref C) "__class__" = some (some (.builtin "object.__class__"))
  cg : PySem.W.specialIn K (.builtin "object.__class__") "__get__" = some (some (.builtin "getset_descriptor.__get__"))
  ct : PySem.W.takesIn K (.builtin "object.__class__") = some true
  mks : PySem.W.makesIn K C = true
  kp : PySem.W.keepIn K (.ref C) = true
variable {C D : Addr} {x y : Str} {up vp : List Addr}
theorem OwnC.sub (O : OwnC K mg C x up) (b : Value) : PySem.W.mroIn K C b = some ((up.map Value.ref ++ [Value.type "object"]).contains b) := by
  obtain ⟨cd, h1, h2⟩ := O.mro
  unfold PySem.W.mroIn
  rw [h1]
  show (if cd.mro.isEmpty = true then none else some (cd.mro.contains b)) = _
  rw [h2, if_neg (by cases up <;> simp)]
theorem refs_contains (up : List Addr) (D : Addr) : (up.map Value.ref ++ [Value.type "object"]).contains (Value.ref D) = decide (D ∈ up) := by
  induction up with
  | nil => rfl
  | cons a r ih =>
    show ((Value.ref D == Value.ref a) || (r.map Value.ref ++ [Value.type "object"]).contains (Value.ref D)) = _
    rw [ih]
    by_cases h : D = a
    · subst h; simp
    · have : (Value.ref D == Value.ref a) = false := by
        rw [Bool.eq_false_iff]
        intro z
        exact h (Value.ref.inj (beq_iff_eq.mp z))
      rw [this, Bool.false_or]
      simp [h]
theorem OwnC.kit (O : OwnC K mg C x up) (U : OwnC K mg D y vp) (hs : C ∈ up) : PySem.W.kitOne K (.ref C) (.ref D) = some (decide (D ∈ up)) := by
  unfold PySem.W.kitOne
  split
  · rename_i q
    have : C = D := Value.ref.inj (beq_iff_eq.mp q)
    rw [← this, decide_eq_true hs]
  · obtain ⟨cd, h1, _⟩ := U.mro
    unfold PySem.W.kitCls
    dsimp only
    rw [h1, U.ty]
    rw [if_pos (by rfl)]
    show PySem.W.mroIn K C (.ref D) = _
    rw [O.sub, refs_contains]
theorem OwnC.tyOf (O : OwnC K mg C x up) {H : Hp} {a dx : Addr} {fs : List (Str × V)} (e : H a = some (.ins C dx fs)) : TyOf K H (.ref a) (.ref C) :=
  .ins e O.cl O.kc O.cg O.ct ((O.sub _).trans (by simp))
end
section
variable {X : Cx} {k j : Nat} {C : Addr} {x m : Str} {ps : List Str} {sp : Sp} {o e : Expr} {es : List Expr} {ta : TE} {t : TA} {p apos pos : Pos} {up : List Addr}
theorem pe_makeD (O : OwnC X.K X.mg C x up) (D : HasM X.prog X.w X.K X.mg X.base j C "__init__" ps sp) (hr : Room k X.A) (ha : PA X (e :: es) t) (hj : j + 1 ≤ k := by decide) (hg : Gl X x := by rfl) (hdb : (x == ("__debug__" : Str)) = false := by decide)
    (he : starEach (e :: es) X.env = (false, eval e X.env) :: starEach es X.env := by rfl) (hpl : (backTo pos (starEach es X.env)).any (·.1) = false := by rfl) : PE X (.Call (.Name x p) (e :: es) [] pos) (tMake C sp [] E0 t) := by
  obtain ⟨f, fd, F, b, m⟩ := D
  exact pe_make ⟨O.mks, m.at_, m.fn, O.kp⟩ F (hr.mono hj) hg O.mg b .nil pass0 ha hdb he hpl
theorem pe_makeD0 (O : OwnC X.K X.mg C x up) (D : HasM X.prog X.w X.K X.mg X.base j C "__init__" ps sp) (hr : Room k X.A) (hj : j + 1 ≤ k := by decide) (hg : Gl X x := by rfl) (hdb : (x == ("__debug__" : Str)) = false := by decide) : PE X (.Call (.Name x p) [] [] pos) (tMake C sp [] E0 tNil) := by
  obtain ⟨f, fd, F, b, m⟩ := D
  exact pe_make0 ⟨O.mks, m.at_, m.fn, O.kp⟩ F (hr.mono hj) hg O.mg b .nil pass0 hdb
theorem pe_methD {pl : Sem Bool} (he : PE X o ta) (c : Cls X.K C) (D : HasM X.prog X.w X.K X.mg X.base j C m ps sp) (hr : Room k X.A) (ha : PA X (e :: es) t) (hj : j ≤ k := by decide)
    (hst : starEach (e :: es) X.env = (false, eval e X.env) :: starEach es X.env := by rfl) (hpl : (backTo pos (starEach es X.env)).any (·.1) = false := by rfl)
    (ht : eval (.Call (.Attribute o m apos) (e :: es) [] pos) X.env = (do
      let ov ← eval o X.env
      standAt apos.atName
      let (f, first) ← holding [ov] (getMethod ov m pl)
      callWith pos f first (backTo pos (starEach (e :: es) X.env)) (backToKw pos (keywordEach [] X.env))) := by rfl) :
    PE X (.Call (.Attribute o m apos) (e :: es) [] pos) (tMeth C m sp [] E0 ta t) := by
  obtain ⟨f, fd, F, b, hm⟩ := D
  exact pe_meth (pl := pl) he c hm F (hr.mono hj) b .nil pass0 ha hst hpl ht
def tMethV (M : Addr → Sp → Prop) (m : Str) (ta : TE) (t : TA) : TE := fun σ H Q => ta σ H fun x H1 => ∃ a C dx fs sp, x = .ref a ∧ H1 a = some (.ins C dx fs) ∧ fs.lookup m = none ∧ M C sp ∧ t σ H1 fun vs H2 => sp (x :: vs) H2 Q E0
structure OfC (K : PySem.W.Frag) (C : Addr) (m : Str) : Prop where
  ga : PySem.W.specialIn K (.ref C) "__getattribute__" = some (some (.builtin "type.__getattribute__"))
  rd : PySem.W.readsIn K C (.type "type") = true
  fc : ∃ f, PySem.W.findIn K (.ref C) m = some (some (.ref f)) ∧ PySem.W.findCls K (.ref C) (.type "type") m = some (.val (.ref f))
theorem pe_callOf {pl : Sem Bool} (O : OwnC X.K X.mg C x up) (W : OfC X.K C m) (D : HasM X.prog X.w X.K X.mg X.base j C m ps sp) (hr : Room k X.A) (ha : PA X (e :: es) t) (hj : j ≤ k := by decide) (hg : Gl X x := by rfl) (hdb : (x == ("__debug__" : Str)) = false := by decide)
    (hst : starEach (e :: es) X.env = (false, eval e X.env) :: starEach es X.env := by rfl) (hpl : (backTo pos (starEach es X.env)).any (·.1) = false := by rfl)
    (ht : eval (.Call (.Attribute (.Name x p) m apos) (e :: es) [] pos) X.env = (do
      let ov ← eval (.Name x p) X.env
      standAt apos.atName
      let (f, first) ← holding [ov] (getMethod ov m pl)
      callWith pos f first (backTo pos (starEach (e :: es) X.env)) (backToKw pos (keywordEach [] X.env))) := by rfl) :
    PE X (.Call (.Attribute (.Name x p) m apos) (e :: es) [] pos) (tCall sp [] E0 t) := by
  obtain ⟨f, fd, F, b, hm⟩ := D
  intro pins s σ H Q I h
  refine PySem.W.methodCall_KW (pl := pl) (ld_glob I hg O.mg ?_ hdb) ht
  obtain ⟨f', h1, h2⟩ := W.fc
  have ef : f = f' := by
    have := hm.at_.symm.trans h1
    cases this
    rfl
  subst ef
  refine PySem.W.method_cls I.kIn W.ga (PySem.W.cls_value I.kIn W.rd h2 rfl ?_)
  refine PySem.W.callWith_K (h₀ := X.base) I.ok.mod.kin hm.kp (thn (ha pos pins _ σ H _ (I.tok _) h) fun us s2 ⟨vs, H2, I2, r, q2⟩ => ⟨I2.kIn, ?_⟩) hst hpl
  exact run_fn (us := us) (vs := vs) F (hr.mono hj) b .nil pass0 I2 r q2
end
theorem mFn_mk {K : PySem.W.Frag} {C : Addr} {m qual : Str} {st : Stmt} {ps : List Str} {f : Addr} {oc : Value} {od an : Option Addr} {osl : Array (Option Value)} {kV doc pm cdv ct : Value}
    (a : PySem.W.findIn K (.ref C) m = some (some (.ref f))) (fn : PySem.W.isFn K (.ref f) = true) (l : K.lookup f = some ⟨oc, od, .func (PySem.W.fnOf m qual (defArgs st) (defBody st) (defScope st) .none kV doc pm an cdv ct), osl⟩) (c : PySem.W.codeIn K cdv qual = true) (k : PySem.W.keepIn K (.ref f) = true)
    (hb : ∀ (kV doc pm : Value) (an : Option Addr) (cdv ct : Value) (us : List Value), us.length = ps.length → bindArgs (PySem.W.fnOf m qual (defArgs st) (defBody st) (defScope st) .none kV doc pm an cdv ct) ⟨us, []⟩ = pure (ps.zip us)) : MFn K C m qual st ps :=
  ⟨f, _, fun_mk l c k, (fun_mk l c k).binds hb, ⟨a, fn, k⟩⟩
end L2
namespace L2
open PySem PySem.Spec PyProof.Rows
def But (x : Addr) (H H' : Hp) : Prop := ∀ b, b ≠ x → ∀ o, H b = some o → H' b = some o
theorem But.refl (x : Addr) (H : Hp) : But x H H := fun _ _ _ h => h
theorem But.trans {x : Addr} {H H1 H2 : Hp} (a : But x H H1) (b : But x H1 H2) : But x H H2 := fun c hc o h => b c hc o (a c hc o h)
theorem But.at (x : Addr) (H : Hp) (o : HO) : But x H (upd H x o) := fun b hb u q => by rw [upd_ne hb]; exact q
theorem But.new {x p : Addr} {H : Hp} (h : H p = none) (o : HO) : But x H (upd H p o) := fun b _ u q => by rw [upd_ne (ne_of_none q h)]; exact q
theorem But.of {x : Addr} {H H' : Hp} (s : Same H H') : But x H H' := fun b _ o h => s b o h
theorem But.same {x dx : Addr} {H H' : Hp} {o o' : HO} (b : But x (upd (upd H dx o) x o') H') (hx : H x = none) (hd : H dx = none) : Same H H' := fun a u q => by
  have h1 : a ≠ x := fun z => by rw [z, hx] at q; cases q
  have h2 : a ≠ dx := fun z => by rw [z, hd] at q; cases q
  exact b a h1 u (by rw [upd_ne h1, upd_ne h2]; exact q)
theorem SqL.but {K : PySem.W.Frag} {H H' : Hp} {x t C dx : Addr} {fs : List (Str × V)} {xs : List V} (h : SqL K H t xs) (hx : H x = some (.ins C dx fs)) (b : But x H H') : SqL K H' t xs := by
  rcases h with (h | ⟨o, h⟩) | h
  · exact .inl (.inl (b t (fun z => by rw [z, hx] at h; cases h) _ h))
  · exact .inl (.inr ⟨o, b t (fun z => by rw [z, hx] at h; cases h) _ h⟩)
  · exact .inr h
theorem SqL.new {K : PySem.W.Frag} {H : Hp} {t x dx : Addr} {xs : List V} {o o' : HO} (h : SqL K H t xs) (hx : H x = none) (hd : H dx = none) : SqL K (upd (upd H dx o) x o') t xs :=
  Same.seq (fun a u q => by
    have h1 : a ≠ x := fun z => by rw [z, hx] at q; cases q
    have h2 : a ≠ dx := fun z => by rw [z, hd] at q; cases q
    rw [upd_ne h1, upd_ne h2]; exact q) h
end L2
namespace L2
open PySem
theorem new_none {H : Hp} {x dx p : Addr} {o o' : HO} (hx : H x = none) (hd : H dx = none) (h : upd (upd H dx o) x o' p = none) : H p = none := by
  unfold upd at h
  split at h
  · cases h
  · split at h
    · cases h
    · exact h
end L2
namespace L2
open PySem
theorem But.none {x p : Addr} {H H' : Hp} (b : But x H H') (e : p ≠ x) (h : H' p = Option.none) : H p = Option.none := by
  cases z : H p with
  | none => rfl
  | some o => exact absurd (h.symm.trans (b _ e _ z)) (by intro w; cases w)
end L2

set_option Elab.async false
set_option linter.all false
set_option maxRecDepth 100000
namespace L2
open PySem PySem.Spec PyProof.Rows
section
variable {X : Cx}
def flatR : V → Bool
  | .flt _ => false
  | .byt _ => false
  | _ => true
theorem eqAt_same {x : V} {u v : Value} (hx : flatR x = true) (ru : RelV x u) (rv : RelV x v) (A : Around) (s : Shared) : SeqAt.EqAt A s u v true := by
  cases x with
  | non => cases ru; cases rv; exact .same _
  | bl b => cases ru; cases rv; exact .same _
  | int i =>
    obtain ⟨t, rfl⟩ := ru
    obtain ⟨t', rfl⟩ := rv
    have := SeqAt.EqAt.int_int (A := A) (s := s) i t i t'
    rwa [beq_self_eq_true] at this
  | str y =>
    obtain ⟨t, rfl⟩ := ru
    obtain ⟨t', rfl⟩ := rv
    have := SeqAt.EqAt.str_str (A := A) (s := s) y t y t'
    rwa [beq_self_eq_true] at this
  | byt _ => cases hx
  | flt _ => cases hx
  | ref a => cases ru; cases rv; exact .same _
  | ty n => cases ru; cases rv; exact .same _
theorem o_eqS (hu : X.A.units + 64 < cLine) : OpR X (compareOp .Eq) (fun x y H Q => ∃ p q xs, x = .ref p ∧ y = .ref q ∧ SqL X.K H p xs ∧ SqL X.K H q xs ∧ xs.all flatR = true ∧ Q (.bl true) H) := by
  intro pins s σ H x y v u Q I rx ry h
  obtain ⟨p, q, xs, rfl, rfl, hp, hq, hf, k⟩ := h
  cases rx
  cases ry
  obtain ⟨its, r1, ⟨o, n, e1, c1, _, d1⟩, _⟩ := I.list hp
  obtain ⟨jts, r2, ⟨o2, n2, e2, c2, _, d2⟩, _⟩ := I.list hq
  have l1 := r1.length
  have l2 := r2.length
  refine SeqAt.eq_listAt (e := fun _ => true) ⟨o, e1, c1, n, d1⟩ ⟨o2, e2, c2, n2, d2⟩ (by simp; omega) (by omega) (fun j h1 h2 => ?_) ?_
  · simp at h1 h2
    obtain ⟨x, hx⟩ : ∃ x, xs[j]? = some x := ⟨xs[j]'(by omega), List.getElem?_eq_getElem (by omega)⟩
    obtain ⟨u1, g1, w1⟩ := r1.get hx
    obtain ⟨u2, g2, w2⟩ := r2.get hx
    have z1 : its.toArray[j]'(by simpa using h1) = u1 := by
      have := List.getElem?_eq_getElem h1
      rw [g1] at this
      simpa using (Option.some.inj this).symm
    have z2 : jts.toArray[j]'(by simpa using h2) = u2 := by
      have := List.getElem?_eq_getElem h2
      rw [g2] at this
      simpa using (Option.some.inj this).symm
    rw [z1, z2]
    exact eqAt_same (List.all_eq_true.mp hf x (List.mem_of_getElem? hx)) w1 w2 _ _
  · have : ((List.range its.toArray.size).all fun _ => true) = true := by simp
    rw [this]
    exact ⟨.bl true, H, I, rfl, k⟩
def fEqA (K : PySem.W.Frag) : R2 := fun x y H Q => match x, y with
  | .ref p, .ref q => (∃ d e, RepD K H (.ref p) d ∧ RepD K H (.ref q) e ∧ SeqAt.shaped d = true ∧ SeqAt.shaped e = true ∧ Q (.bl (PyData.eqv d e)) H) ∨ (∃ xs, SqL K H p xs ∧ SqL K H q xs ∧ xs.all flatR = true ∧ Q (.bl true) H)
  | x, y => scal x y = true ∧ Q (.bl (decide (x = y))) H
theorem o_eqA (hu : X.A.units + 64 < cLine) : OpR X (compareOp .Eq) (fEqA X.K) := ((o_eq hu).or (o_eqS hu)).imp fun x y H Q q => by
  by_cases hr : ∃ p q, x = V.ref p ∧ y = V.ref q
  · obtain ⟨p, q', rfl, rfl⟩ := hr
    rcases q with q | ⟨xs, h1, h2, h3, h4⟩
    · exact .inl q
    · exact .inr ⟨p, q', xs, rfl, rfl, h1, h2, h3, h4⟩
  · refine .inl ?_
    cases x <;> cases y <;> first | exact q | exact absurd ⟨_, _, rfl, rfl⟩ hr
theorem c_intB : CallR X (.type "int") (fun xs H Q => ∃ b, xs = [.bl b] ∧ Q (.int (if b = true then 1 else 0)) H) := by
  intro pins s σ H xs us Q I r h
  obtain ⟨b, rfl, q⟩ := h
  obtain ⟨u, rfl, rfl⟩ := vals1 r
  exact PySem.call_int_bool ⟨.int _, H, I.tok _, ⟨_, rfl⟩, q⟩
end
end L2

set_option Elab.async false
set_option linter.all false
set_option maxRecDepth 100000
namespace L2
open PySem PySem.Spec PyProof.Rows
section
variable {κ : Type} [DecidableEq κ]
def valV (kvs : List (κ × V)) (k : κ) : Option V := (kvs.find? fun kv => decide (kv.1 = k)).map (·.2)
def putK (kvs : List (κ × V)) (k : κ) (v : V) : List (κ × V) :=
  if (kvs.any fun kv => decide (kv.1 = k)) = true then kvs.map (fun kv => if kv.1 = k then (kv.1, v) else kv) else kvs ++ [(k, v)]
def dropK (kvs : List (κ × V)) (k : κ) : List (κ × V) := kvs.filter fun kv => decide (kv.1 ≠ k)
theorem valV_pos {p : κ × V} {r : List (κ × V)} {k : κ} (e : p.1 = k) : valV (p :: r) k = some p.2 := by simp [valV, List.find?_cons, e]
theorem valV_neg {p : κ × V} {r : List (κ × V)} {k : κ} (e : ¬ p.1 = k) : valV (p :: r) k = valV r k := by simp [valV, List.find?_cons, e]
theorem valV_any (k : κ) : ∀ kvs : List (κ × V), (kvs.any fun kv => decide (kv.1 = k)) = (valV kvs k).isSome
  | [] => rfl
  | p :: r => by
    rw [List.any_cons]
    by_cases e : p.1 = k
    · simp only [valV_pos e, decide_eq_true e, Bool.true_or, Option.isSome_some]
    · rw [valV_neg e, decide_eq_false e, Bool.false_or]; exact valV_any k r
theorem length_putK (kvs : List (κ × V)) (k : κ) (v : V) : (putK kvs k v).length ≤ kvs.length + 1 := by
  unfold putK
  split
  · rw [List.length_map]; omega
  · rw [List.length_append, List.length_cons, List.length_nil]; omega
theorem RelO.isSome_eq {o : Option V} {u : Option Value} (r : RelO o u) : o.isSome = u.isSome := by
  cases o with
  | none => cases u with
    | none => rfl
    | some _ => exact (show False from r).elim
  | some _ => cases u with
    | none => exact (show False from r).elim
    | some _ => rfl
theorem RelO.getD {o : Option V} {u : Option Value} {d : V} {d' : Value} (r : RelO o u) (rd : RelV d d') : RelV (o.getD d) (u.getD d') := by
  cases o with
  | none => cases u with
    | none => exact rd
    | some _ => exact (show False from r).elim
  | some _ => cases u with
    | none => exact (show False from r).elim
    | some _ => exact r
theorem KV.val {kvs : List (κ × V)} {vs : List (κ × Value)} (r : KV kvs vs) (k : κ) : RelO (valV kvs k) (valueAt vs k) := by
  unfold KV at r
  induction r with
  | nil => exact True.intro
  | @cons p q ps qs h t ih =>
    obtain ⟨h1, h2⟩ := h
    by_cases e : p.1 = k
    · have e' : q.1 = k := h1.symm.trans e
      have b : valueAt (q :: qs) k = some q.2 := by simp [valueAt, List.find?_cons, e']
      rw [valV_pos e, b]; exact h2
    · have e' : ¬ q.1 = k := fun z => e (h1.trans z)
      have b : valueAt (q :: qs) k = valueAt qs k := by simp [valueAt, List.find?_cons, e']
      rw [valV_neg e, b]; exact ih
theorem KV.any {kvs : List (κ × V)} {vs : List (κ × Value)} (r : KV kvs vs) (k : κ) : (kvs.any fun kv => decide (kv.1 = k)) = vs.any fun kv => decide (kv.1 = k) := by
  unfold KV at r
  induction r with
  | nil => rfl
  | cons h t ih => rw [List.any_cons, List.any_cons, ih, h.1]
theorem KV.repl {kvs : List (κ × V)} {vs : List (κ × Value)} (r : KV kvs vs) (k : κ) {y : V} {u : Value} (ry : RelV y u) :
    KV (kvs.map fun kv => if kv.1 = k then (kv.1, y) else kv) (vs.map fun kv => if kv.1 = k then (kv.1, u) else kv) := by
  unfold KV at r ⊢
  induction r with
  | nil => exact .nil
  | @cons p q ps qs h t ih =>
    rw [List.map_cons, List.map_cons]
    refine .cons ?_ ih
    obtain ⟨h1, h2⟩ := h
    by_cases e : p.1 = k
    · rw [if_pos e, if_pos (h1.symm.trans e)]; exact ⟨h1, ry⟩
    · rw [if_neg e, if_neg (fun z => e (h1.trans z))]; exact ⟨h1, h2⟩
theorem KV.put {kvs : List (κ × V)} {vs : List (κ × Value)} (r : KV kvs vs) (k : κ) {y : V} {u : Value} (ry : RelV y u) : KV (putK kvs k y) (stored vs k u) := by
  unfold putK stored
  rw [r.any k]
  by_cases e : (vs.any fun kv => decide (kv.1 = k)) = true
  · rw [if_pos e, if_pos e]; exact r.repl k ry
  · rw [if_neg e, if_neg e]; exact Paired.snoc r ⟨rfl, ry⟩
theorem KV.keys {kvs : List (κ × V)} {vs : List (κ × Value)} (r : KV kvs vs) : kvs.map (·.1) = vs.map (·.1) := by
  unfold KV at r
  induction r with
  | nil => rfl
  | cons h t ih => rw [List.map_cons, List.map_cons, ih, h.1]
theorem KV.length {kvs : List (κ × V)} {vs : List (κ × Value)} (r : KV kvs vs) : kvs.length = vs.length := Paired.length r
end
theorem kV_is {P : Program} {w : World} {k : Key} {u : Value} (r : RelV (kV k) u) : (mixKind P w).is k u = true := by
  cases k with
  | inl i => obtain ⟨t, e⟩ := (show ∃ t, u = Value.int i t from r); subst e; exact mixKind_int P w i t
  | inr x => obtain ⟨t, e⟩ := (show ∃ t, u = Value.str x t from r); subst e; exact mixKind_str P w x t
theorem items_are {P : Program} {w : World} : ∀ {ks : List Key} {us : List Value}, Vals (ks.map kV) us → ItemsAre (mixKind P w) ks us
  | [], _, r => by rw [List.map_nil] at r; cases r; exact .nil
  | k :: ks, _, r => by
    rw [List.map_cons] at r
    cases r with
    | cons h t => exact .cons (kV_is h) (items_are t)
abbrev KT (H : Hp) : List (List Key × V) → List (List Key × Addr × Value) → Prop := Paired fun p q => p.1 = q.1 ∧ H q.2.1 = some (.tup (p.1.map kV)) ∧ RelV p.2 q.2.2
theorem KT.val {H : Hp} {kvs : List (List Key × V)} {xs : List (List Key × Addr × Value)} (r : KT H kvs xs) (k : List Key) : RelO (valV kvs k) ((atKey xs k).map (·.2)) := by
  induction r with
  | nil => exact True.intro
  | @cons p q ps qs h t ih =>
    obtain ⟨h1, _, h2⟩ := h
    by_cases e : p.1 = k
    · have e' : q.1 = k := h1.symm.trans e
      have b : atKey (q :: qs) k = some q.2 := by simp [atKey, List.find?_cons, e']
      rw [valV_pos e, b]; exact h2
    · have e' : ¬ q.1 = k := fun z => e (h1.trans z)
      have b : atKey (q :: qs) k = atKey qs k := by simp [atKey, List.find?_cons, e']
      rw [valV_neg e, b]; exact ih
theorem KT.repl {H : Hp} {kvs : List (List Key × V)} {xs : List (List Key × Addr × Value)} (r : KT H kvs xs) (k : List Key) {y : V} {u : Value} (ry : RelV y u) :
    KT H (kvs.map fun kv => if kv.1 = k then (kv.1, y) else kv) (xs.map (putAt k u)) := by
  induction r with
  | nil => exact .nil
  | @cons p q ps qs h t ih =>
    rw [List.map_cons, List.map_cons]
    refine .cons ?_ ih
    obtain ⟨h1, h2, h3⟩ := h
    unfold putAt
    by_cases e : p.1 = k
    · rw [if_pos e, if_pos (h1.symm.trans e)]; exact ⟨h1, h2, ry⟩
    · rw [if_neg e, if_neg (fun z => e (h1.trans z))]; exact ⟨h1, h2, h3⟩
theorem KT.put {H : Hp} {kvs : List (List Key × V)} {xs : List (List Key × Addr × Value)} (r : KT H kvs xs) (k : List Key) {b : Addr} {y : V} {u : Value} (hb : H b = some (.tup (k.map kV))) (ry : RelV y u) :
    KT H (putK kvs k y) (storedH xs k b u) := by
  have e : (kvs.any fun kv => decide (kv.1 = k)) = (atKey xs k).isSome := by
    rw [valV_any, (r.val k).isSome_eq, Option.isSome_map]
  unfold putK storedH
  rw [e]
  by_cases q : (atKey xs k).isSome = true
  · rw [if_pos q, if_pos q]; exact r.repl k ry
  · rw [if_neg q, if_neg q]; exact Paired.snoc r ⟨rfl, hb, ry⟩
theorem KT.keeps {H H' : Hp} {kvs : List (List Key × V)} {xs : List (List Key × Addr × Value)} (r : KT H kvs xs) (ht : ∀ b ys, H b = some (.tup ys) → H' b = some (.tup ys)) : KT H' kvs xs :=
  Paired.mapP r fun _ _ z => ⟨z.1, ht _ _ z.2.1, z.2.2⟩
section
variable {P : Program} {w : World} {H : Hp} {h : Heap} {a : Addr}
theorem rd_of {u : HO} (ok : HOk P w H h) (e : Rd H a u) : ObjOk P w H h a u := e.ok ok
theorem dk_rd {kvs : List (Key × V)} (ok : HOk P w H h) (e : Rd H a (.dK kvs)) : kvs.length ≤ sizeLine ∧ (a == sysModules) = false ∧ ∃ vs, KV kvs vs ∧ h.DictOf (mixKind P w) a vs :=
  show ObjOk P w H h a (.dK kvs) from rd_of ok e
theorem dk_of {kvs : List (Key × V)} (ok : HOk P w H h) (e : H a = some (.dK kvs)) : kvs.length ≤ sizeLine ∧ (a == sysModules) = false ∧ ∃ vs, KV kvs vs ∧ h.DictOf (mixKind P w) a vs := dk_rd ok (.inl e)
theorem key_of {ks : List Key} (ok : HOk P w H h) (e : H a = some (.tup (ks.map kV))) : (tupleKind (mixKind P w)).is h ks a := by
  obtain ⟨_, its, r, o, h1, h2, n, h3⟩ := (show ObjOk P w H h a (.tup (ks.map kV)) from ok a _ e)
  exact ⟨o, its.toArray, n, h1, h2, h3, by simpa using items_are r⟩
theorem dt_rd {kvs : List (List Key × V)} (ok : HOk P w H h) (e : Rd H a (.dT kvs)) : kvs.length ≤ sizeLine ∧ (a == sysModules) = false ∧
    ∃ xs, KT H kvs xs ∧ h.DictOfH (tupleKind (mixKind P w)) a xs := by
  obtain ⟨z, y, xs, r, o, es, ep, h1, h2, h3, h4, h5⟩ := (show ObjOk P w H h a (.dT kvs) from rd_of ok e)
  refine ⟨z, y, xs, r, o, es, ep, h1, h2, h3, h4, fun x hx => ?_, h5⟩
  have all : ∀ {l : List (List Key × V)} {m : List (List Key × Addr × Value)}, KT H l m → ∀ x ∈ m, (tupleKind (mixKind P w)).is h x.1 x.2.1 := by
    intro l m q
    induction q with
    | nil => intro x hx; exact nomatch hx
    | @cons p q ps qs hq t ih =>
      intro x hx
      rcases List.mem_cons.mp hx with e | hx
      · subst e
        exact key_of ok (by rw [← hq.1]; exact hq.2.1)
      · exact ih x hx
  exact all r x hx
theorem dt_of {kvs : List (List Key × V)} (ok : HOk P w H h) (e : H a = some (.dT kvs)) : kvs.length ≤ sizeLine ∧ (a == sysModules) = false ∧
    ∃ xs, KT H kvs xs ∧ h.DictOfH (tupleKind (mixKind P w)) a xs := dt_rd ok (.inl e)
end
def DGet (H : Hp) (a : Addr) (y : V) (r : Option V) : Prop :=
  (∃ kvs k, Rd H a (.dK kvs) ∧ y = kV k ∧ r = valV kvs k) ∨ ∃ kvs k b, Rd H a (.dT kvs) ∧ y = .ref b ∧ H b = some (.tup (k.map kV)) ∧ r = valV kvs k
def DPut (H : Hp) (a : Addr) (y v : V) (H' : Hp) : Prop :=
  (∃ kvs k, H a = some (.dK kvs) ∧ y = kV k ∧ kvs.length < sizeLine ∧ H' = upd H a (.dK (putK kvs k v))) ∨
  ∃ kvs k b, H a = some (.dT kvs) ∧ y = .ref b ∧ H b = some (.tup (k.map kV)) ∧ kvs.length < sizeLine ∧ H' = upd H a (.dT (putK kvs k v))
theorem DGet.k {H : Hp} {a : Addr} {kvs : List (Key × V)} {k : Key} (e : H a = some (.dK kvs)) : DGet H a (kV k) (valV kvs k) := .inl ⟨kvs, k, .inl e, rfl, rfl⟩
theorem DPut.k {H : Hp} {a : Addr} {kvs : List (Key × V)} {k : Key} {v : V} (e : H a = some (.dK kvs)) (hl : kvs.length < sizeLine) : DPut H a (kV k) v (upd H a (.dK (putK kvs k v))) := .inl ⟨kvs, k, e, rfl, hl, rfl⟩
section
variable {X : Cx} {pins : List (Addr × Obj)} {σ : St} {H : Hp} {s : Shared} {a : Addr} {y v : V} {u r : Value} {o : Option V} {A : Around} {E : Value → Shared → Prop}
theorem Inv.big (I : Inv X pins σ H s) : sysModules < s.heap.objs.size := by
  have h : mainGlobals < s.heap.objs.size := (I.mod.glob.keeps I.bk).lt
  exact Nat.lt_trans (by decide) h
theorem d_getItem {Q : Value → Shared → Prop} (hu : A.units + 1 < cLine) (I : Inv X pins σ H s) (g : DGet H a y (some v)) (ry : RelV y u) (h : ∀ w' s', Inv X pins σ H s' → RelV v w' → Q w' s') :
    wpAny (model X.prog X.w) A (getItem (.ref a) u) Q E s := by
  rcases g with ⟨kvs, k, e, ey, l⟩ | ⟨kvs, k, b, e, ey, eb, l⟩
  · subst ey
    obtain ⟨z, hd, vs, rel, dd⟩ := dk_rd I.hok e
    obtain ⟨w', hw, rw'⟩ := RelO.some_of (v := v) (o := valueAt vs k) (by rw [l]; exact rel.val k)
    exact wpAny_getItem_of (kV_is ry) dd.mapOf hw (h w' _ (I.tok _) rw')
  · subst ey
    cases (show u = Value.ref b from ry)
    obtain ⟨z, hd, xs, rel, dd⟩ := dt_rd I.hok e
    obtain ⟨w', hw, rw'⟩ := RelO.some_of (v := v) (o := (atKey xs k).map (·.2)) (by rw [l]; exact rel.val k)
    obtain ⟨p, hp, hp2⟩ := Option.map_eq_some_iff.mp hw
    refine wpAny_getItem_heap (tupleKind_room_in1 hu) (key_of I.hok eb) dd hp ?_
    rw [hp2]
    exact h w' _ (I.tok _) rw'
theorem d_in {Q : Value → Shared → Prop} (hu : A.units + 1 < cLine) (I : Inv X pins σ H s) (g : DGet H a y o) (ry : RelV y u) (h : ∀ s', Inv X pins σ H s' → Q (.bool o.isSome) s') :
    wpAny (model X.prog X.w) A (compareOp .In u (.ref a)) Q E s := by
  rcases g with ⟨kvs, k, e, ey, l⟩ | ⟨kvs, k, b, e, ey, eb, l⟩
  · subst ey
    obtain ⟨z, hd, vs, rel, dd⟩ := dk_rd I.hok e
    refine wpAny_in_of (kV_is ry) hd dd.mapOf ?_
    rw [← (rel.val k).isSome_eq, ← l]
    exact h _ (I.tok _)
  · subst ey
    cases (show u = Value.ref b from ry)
    obtain ⟨z, hd, xs, rel, dd⟩ := dt_rd I.hok e
    refine wpAny_in_heap (tupleKind_room_in1 hu) (key_of I.hok eb) hd dd ?_
    have q := (rel.val k).isSome_eq
    rw [Option.isSome_map] at q
    rw [← q, ← l]
    exact h _ (I.tok _)
theorem d_notIn {Q : Value → Shared → Prop} (hu : A.units + 1 < cLine) (I : Inv X pins σ H s) (g : DGet H a y o) (ry : RelV y u) (h : ∀ s', Inv X pins σ H s' → Q (.bool (!o.isSome)) s') :
    wpAny (model X.prog X.w) A (compareOp .NotIn u (.ref a)) Q E s := by
  rcases g with ⟨kvs, k, e, ey, l⟩ | ⟨kvs, k, b, e, ey, eb, l⟩
  · subst ey
    obtain ⟨z, hd, vs, rel, dd⟩ := dk_rd I.hok e
    refine wpAny_notIn_of (kV_is ry) hd dd.mapOf ?_
    rw [← (rel.val k).isSome_eq, ← l]
    exact h _ (I.tok _)
  · subst ey
    cases (show u = Value.ref b from ry)
    obtain ⟨z, hd, xs, rel, dd⟩ := dt_rd I.hok e
    refine wpAny_notIn_heap (tupleKind_room_in1 hu) (key_of I.hok eb) hd dd ?_
    have q := (rel.val k).isSome_eq
    rw [Option.isSome_map] at q
    rw [← q, ← l]
    exact h _ (I.tok _)
theorem d_write {h' : Heap} {t' : Nat} {ob : HO} (I : Inv X pins σ H s) (mu : Mut (H a)) (hs : Heap.SameBut a s.heap h') (he : ∃ q, h'.get? a = some q) (new : ObjOk X.prog X.w (upd H a ob) h' a ob) :
    Inv X pins σ (upd H a ob) { s with heap := h', toks := t' } :=
  I.write (x := a) (e := a) mu (.inl rfl) (fun b q hb z => (hs.2 b hb).trans z) he new
theorem dk_new {P : Program} {w : World} {H' : Hp} {h' : Heap} {kvs : List (Key × V)} {vs : List (Key × Value)} (z : kvs.length ≤ sizeLine) (hd : (a == sysModules) = false) (rel : KV kvs vs) (dd : h'.DictOf (mixKind P w) a vs) :
    ObjOk P w H' h' a (.dK kvs) := ⟨z, hd, vs, rel, dd⟩
theorem d_setItem {H' : Hp} {Q : Unit → Shared → Prop} (hu : A.units + 1 < cLine) (I : Inv X pins σ H s) (g : DPut H a y v H') (ry : RelV y u) (rv : RelV v r) (h : ∀ s', Inv X pins σ H' s' → Q () s') :
    wpAny (model X.prog X.w) A (setItem (.ref a) u r) Q E s := by
  rcases g with ⟨kvs, k, e, ey, l, eH⟩ | ⟨kvs, k, b, e, ey, eb, l, eH⟩
  · subst ey eH
    obtain ⟨z, hd, vs, rel, dd⟩ := dk_of I.hok e
    have hz : vs.length ≤ sizeLine := by rw [← rel.length]; exact z
    have hl : (putK kvs k v).length ≤ sizeLine := by have := length_putK kvs k v; omega
    refine wpAny_setItem_pairs (hsz := hz) (kV_is ry) dd fun h' dd' hs => h _ ?_
    have he : ∃ q, h'.get? a = some q := let ⟨q, _, _, hq, _⟩ := dd'; ⟨q, hq⟩
    exact d_write I (by rw [e]; exact True.intro) hs he (dk_new hl hd (rel.put k rv) dd')
  · subst ey eH
    cases (show u = Value.ref b from ry)
    obtain ⟨z, hd, xs, rel, dd⟩ := dt_of I.hok e
    have hz : xs.length ≤ sizeLine := by rw [← Paired.length rel]; exact z
    have hl : (putK kvs k v).length ≤ sizeLine := by have := length_putK kvs k v; omega
    refine wpAny_setItem_heap (hsz := hz) (tupleKind_room_in1 hu) (key_of I.hok eb) dd fun h' dd' hs => h _ ?_
    obtain ⟨q, es, ep, hq, h2, h3, h4, _, h5⟩ := dd'
    refine d_write I (by rw [e]; exact True.intro) hs ⟨q, hq⟩ ⟨hl, hd, _, (rel.put k eb rv).keeps fun c ys ec => ?_, q, es, ep, hq, h2, h3, h4, h5⟩
    rw [upd_ne (ne_of ec e (fun z => nomatch z))]
    exact ec
end
section
variable {X : Cx} {pins : List (Addr × Obj)} {σ : St} {H : Hp} {s : Shared} {a : Addr} {kvs : List (Key × V)} {k : Key} {u : Value} {A : Around} {E : Value → Shared → Prop}
theorem d_clear {Q : Value → Shared → Prop} (I : Inv X pins σ H s) (e : H a = some (.dK kvs)) (h : ∀ s', Inv X pins σ (upd H a (.dK [])) s' → Q .none s') : wpAny (model X.prog X.w) A (call (.builtin "dict.clear") [.ref a]) Q E s := by
  obtain ⟨z, hd, vs, rel, dd⟩ := dk_of I.hok e
  refine call_meetsIn PySem.F.slot_dict_clear dd.typeIs PySem.F.entry_dict_clear (PySem.F.args_dict_clear_1 _) (meets_dict_clear (mixKind X.prog X.w) a) ⟨vs, dd, by rw [← rel.length]; exact z, fun h' dd' hs => h _ ?_⟩
  have he : ∃ q, h'.get? a = some q := let ⟨q, _, _, hq, _⟩ := dd'; ⟨q, hq⟩
  exact d_write (t' := s.toks) I (by rw [e]; exact True.intro) hs he (dk_new (Nat.zero_le _) hd .nil dd')
theorem d_len {Q : Value → Shared → Prop} (I : Inv X pins σ H s) (e : Rd H a (.dK kvs)) (h : ∀ t s', Inv X pins σ H s' → Q (.int kvs.length t) s') : wpAny (model X.prog X.w) A (call (.builtin "len") [.ref a]) Q E s := by
  obtain ⟨z, hd, vs, rel, dd⟩ := dk_rd I.hok e
  refine call_len_dict hd dd (by rw [← rel.length]; rw [sizeLine_eq] at z; omega) ?_
  rw [← rel.length]
  exact h _ _ (I.tok _)
end
def NoSl (i : Expr) : Prop := ∀ ov iv, subscripted i false ov iv = operate [ov, iv] (getItem ov iv)
theorem dict_typeIs {X : Cx} {pins : List (Addr × Obj)} {σ : St} {H : Hp} {s : Shared} {a : Addr} {y : V} {o : Option V} (I : Inv X pins σ H s) (g : DGet H a y o) : s.TypeIs (.ref a) "dict" := by
  rcases g with ⟨kvs, k, e, _, _⟩ | ⟨kvs, k, b, e, _, _, _⟩
  · obtain ⟨_, _, vs, _, dd⟩ := dk_rd I.hok e
    exact dd.typeIs
  · obtain ⟨_, _, xs, _, dd⟩ := dt_rd I.hok e
    exact dd.typeIs
def tDGet (td ty : TE) : TE := fun σ H Q => td σ H fun x H1 => ty σ H1 fun y H2 => ∃ a v, x = .ref a ∧ DGet H2 a y (some v) ∧ Q v H2
def tDIn (ty td : TE) : TE := fun σ H Q => ty σ H fun y H1 => td σ H1 fun x H2 => ∃ a o, x = .ref a ∧ DGet H2 a y o ∧ Q (.bl o.isSome) H2
def tDNotIn (ty td : TE) : TE := fun σ H Q => ty σ H fun y H1 => td σ H1 fun x H2 => ∃ a o, x = .ref a ∧ DGet H2 a y o ∧ Q (.bl (!o.isSome)) H2
def sDPut (td ty tv : TE) : TS := fun D σ H => tv σ H fun v H1 => td σ H1 fun x H2 => ty σ H2 fun y H3 => ∃ a H4, x = .ref a ∧ DPut H3 a y v H4 ∧ D.nx σ H4
def sDAug (td ty tv : TE) (rd : V → V → Hp → VK → Prop) : TS := fun D σ H => td σ H fun x H1 => ty σ H1 fun y H2 => ∃ a v, x = .ref a ∧ DGet H2 a y (some v) ∧
  tv σ H2 fun y2 H3 => rd v y2 H3 fun z H4 => ∃ H5, DPut H4 a y z H5 ∧ D.nx σ H5
def sDDel (td ty : TE) : TS := fun D σ H => td σ H fun x H1 => ty σ H1 fun y H2 => ∃ a kvs k, x = .ref a ∧ H2 a = some (.dK kvs) ∧ y = kV k ∧ (valV kvs k).isSome = true ∧ D.nx σ (upd H2 a (.dK (dropK kvs k)))
section
variable {X : Cx} {o i e value : Expr} {pos pos' tpos : Pos} {td ty tv : TE}
end
theorem dk_empty {P : Program} {w : World} {H : Hp} (h : Heap) (hb : sysModules < h.objs.size) : ObjOk P w H (h.push { cls := .type "dict", data := .dict #[] }) h.objs.size (.dK []) :=
  ⟨Nat.zero_le _, beq_eq_false_iff_ne.mpr (Ne.symm (Nat.ne_of_lt hb)), [], .nil, Heap.DictOf.new h⟩
def tDNewK : TE := fun _ H Q => ∀ p, H p = none → Q (.ref p) (upd H p (.dK []))
def tDNewT : TE := fun _ H Q => ∀ p, H p = none → Q (.ref p) (upd H p (.dT []))
section
variable {X : Cx} {pos : Pos}
theorem pe_dnewK : PE X (.Dict [] [] pos) tDNewK := fun pins s σ H Q I h =>
  wpAny_Dict_empty ⟨.ref s.heap.objs.size, _, I.laid (a := s.heap.objs.size) (o := .dK []) (t' := s.toks) (fun _ _ q => Heap.get?_push_of_some _ q) (Nat.le_refl _) (dk_empty s.heap I.big), rfl, h _ (I.hok.fresh (Nat.le_refl _))⟩
end
def tPairs : List (TE × TE) → St → Hp → (List (V × V) → Hp → Prop) → Prop
  | [], _, H, Q => Q [] H
  | (tk, tv) :: r, σ, H, Q => tk σ H fun x H1 => tv σ H1 fun y H2 => tPairs r σ H2 fun ps H3 => Q ((x, y) :: ps) H3
abbrev VV : List (V × V) → List (Value × Value) → Prop := Paired fun p q => RelV p.1 q.1 ∧ RelV p.2 q.2
def PPs (X : Cx) (pos : Pos) (keys : List (Option Expr)) (values : List Expr) (trs : List (TE × TE)) : Prop :=
  ∀ (pins : List (Addr × Obj)) (s : Shared) (σ : St) (H : Hp) (Q : List (V × V) → Hp → Prop), Inv X pins σ H s → tPairs trs σ H Q →
    wpAny (model X.prog X.w) X.A (evalPairs (pairTrees keys values X.env pos)) (fun vs s' => ∃ ps H', Inv X pins σ H' s' ∧ VV ps vs ∧ Q ps H') X.xe s
theorem pps_nil {X : Cx} {pos : Pos} : PPs X pos [] [] [] := fun pins s σ H Q I h => pairTrees_nil_walk ⟨[], H, I, .nil, h⟩
theorem pps_cons {X : Cx} {pos : Pos} {k v : Expr} {ks : List (Option Expr)} {vs : List Expr} {tk tv : TE} {trs : List (TE × TE)} (hk : PE X k tk) (hv : PE X v tv) (hr : PPs X pos ks vs trs) :
    PPs X pos (some k :: ks) (v :: vs) ((tk, tv) :: trs) := fun pins s σ H Q I h =>
  pairTrees_cons_walk (thn (hk pins s σ H _ I h) fun u s1 ⟨x, H1, I1, rx, q1⟩ => thn (hv pins s1 σ H1 _ I1 q1) fun w2 s2 ⟨y, H2, I2, ry, q2⟩ =>
    thn (hr pins s2 σ H2 _ I2 q2) fun ws s3 ⟨ps, H3, I3, rel, q3⟩ => ⟨(x, y) :: ps, H3, I3, .cons ⟨rx, ry⟩ rel, q3⟩)
def mergeK (kvs more : List (Key × V)) : List (Key × V) := more.foldl (fun acc kv => putK acc kv.1 kv.2) kvs
theorem KV.merge : ∀ {more : List (Key × V)} {rs : List (Key × Value)} {kvs : List (Key × V)} {vs : List (Key × Value)}, KV more rs → KV kvs vs → KV (mergeK kvs more) (merged vs rs) := by
  intro more rs kvs vs r
  unfold KV at r
  induction r generalizing kvs vs with
  | nil => intro q; exact q
  | @cons p q ps qs h t ih =>
    intro r0
    have e : KV (putK kvs p.1 p.2) (stored vs q.1 q.2) := by
      have := r0.put p.1 h.2
      rw [← h.1]; exact this
    exact ih e
theorem length_mergeK : ∀ (more kvs : List (Key × V)), (mergeK kvs more).length ≤ kvs.length + more.length
  | [], kvs => by show kvs.length ≤ kvs.length + 0; omega
  | p :: r, kvs => by
    have h1 := length_mergeK r (putK kvs p.1 p.2)
    have h2 := length_putK kvs p.1 p.2
    show (mergeK (putK kvs p.1 p.2) r).length ≤ _
    rw [List.length_cons]; omega
theorem carries_of {P : Program} {w : World} : ∀ {kvs : List (Key × V)} {ws : List (Value × Value)}, VV (kvs.map fun kv => (kV kv.1, kv.2)) ws → ∃ rs, Carries (mixKind P w) ws rs ∧ KV kvs rs
  | [], _, r => by rw [List.map_nil] at r; cases r; exact ⟨[], True.intro, .nil⟩
  | p :: kvs, _, r => by
    rw [List.map_cons] at r
    cases r with
    | @cons a b as bs h t =>
      obtain ⟨rs, c, q⟩ := carries_of (P := P) (w := w) t
      obtain ⟨b1, b2⟩ := b
      exact ⟨(p.1, b2) :: rs, ⟨kV_is h.1, rfl, c⟩, .cons ⟨rfl, h.2⟩ q⟩
def tDisp (trs : List (TE × TE)) : TE := fun σ H Q => ∀ p, H p = none → tPairs trs σ (upd H p (.dK [])) fun ps H2 => H2 p = some (.dK []) ∧ ∃ kvs : List (Key × V), ps = kvs.map (fun kv => (kV kv.1, kv.2)) ∧ kvs.length ≤ 15 ∧ Q (.ref p) (upd H2 p (.dK (mergeK [] kvs)))
theorem pe_disp {X : Cx} {pos : Pos} {keys : List (Option Expr)} {values : List Expr} {trs : List (TE × TE)} (h : PPs X pos keys values trs) (hall : keys.all (·.isSome) = true) (hl : keys.length = values.length) (h0 : keys ≠ [])
    (h15 : keys.length ≤ 15) : PE X (.Dict keys values pos) (tDisp trs) := by
  intro pins s σ H Q I q
  have hn := I.hok.fresh (Nat.le_refl s.heap.objs.size)
  have I1 := I.laid (a := s.heap.objs.size) (o := .dK []) (h' := s.heap.push { cls := .type "dict", data := .dict #[] }) (t' := s.toks) (fun _ _ q => Heap.get?_push_of_some _ q) (Nat.le_refl _) (dk_empty s.heap I.big)
  refine wpAny_Dict_walk (knd := mixKind X.prog X.w) hall hl h0 h15 (thn (h pins _ σ _ _ I1 (q _ hn)) fun ws s2 ⟨ps, H2, I2, rel, e, kvs, ep, lk, q2⟩ => ?_)
  subst ep
  obtain ⟨rs, c, rk⟩ := carries_of (P := X.prog) (w := X.w) rel
  obtain ⟨z, hd, vs0, r0, dd⟩ := dk_of I2.hok e
  cases r0
  refine ⟨rs, c, dd, fun h' dd' hs => ⟨.ref s.heap.objs.size, _, ?_, rfl, q2⟩⟩
  have hz : (mergeK [] kvs).length ≤ sizeLine := by
    have h1 := length_mergeK kvs []
    rw [List.length_nil] at h1
    rw [sizeLine_eq]; omega
  have he : ∃ q, h'.get? s.heap.objs.size = some q := let ⟨q, _, _, hq, _⟩ := dd'; ⟨q, hq⟩
  exact d_write I2 (by rw [e]; exact True.intro) hs he (dk_new hz hd (rk.merge .nil) dd')
structure M1 (X : Cx) (o : Expr) (m : Str) (apos : Pos) (e : Expr) (cpos : Pos) : Prop where
  base : attributeBase o m X.env (eval o X.env) = eval o X.env
  few : ((backTo cpos (starEach [e] X.env)).all (fun x => !x.1) && (backToKw cpos (keywordEach [] X.env)).all (fun x => x.1.isSome)
    && decide (([e] : List Expr).length + ([] : List Keyword).length + (if ([] : List Keyword).isEmpty then 0 else 1) < 30)) = true
  line : (apos.endLine == cpos.line) = true
  trees : backTo cpos (starEach [e] X.env) = [(false, eval e X.env)]
structure M2 (X : Cx) (o : Expr) (m : Str) (apos : Pos) (e f : Expr) (cpos : Pos) : Prop where
  base : attributeBase o m X.env (eval o X.env) = eval o X.env
  few : ((backTo cpos (starEach [e, f] X.env)).all (fun x => !x.1) && (backToKw cpos (keywordEach [] X.env)).all (fun x => x.1.isSome)
    && decide (([e, f] : List Expr).length + ([] : List Keyword).length + (if ([] : List Keyword).isEmpty then 0 else 1) < 30)) = true
  line : (apos.endLine == cpos.line) = true
  trees : backTo cpos (starEach [e, f] X.env) = [(false, eval e X.env), (false, eval f X.env)]
def IsD (H : Hp) (a : Addr) : Prop := (∃ kvs, Rd H a (.dK kvs)) ∨ ∃ kvs, Rd H a (.dT kvs)
theorem isD_at {X : Cx} {pins : List (Addr × Obj)} {σ : St} {H : Hp} {s : Shared} {a : Addr} (I : Inv X pins σ H s) (d : IsD H a) :
    s.TypeIs (.ref a) "dict" ∧ (∀ b, Value.ref a = .ref b → ∃ ob, s.heap.get? b = some ob ∧ ob.dict = none) ∧ (a == sysModules) = false := by
  rcases d with ⟨kvs, e⟩ | ⟨kvs, e⟩
  · obtain ⟨_, hd, vs, _, dd⟩ := dk_rd I.hok e
    refine ⟨dd.typeIs, fun b q => ?_, hd⟩
    cases q
    obtain ⟨ob, _, _, h1, h2, _⟩ := dd
    exact ⟨ob, h1, h2.2.1⟩
  · obtain ⟨_, hd, xs, _, dd⟩ := dt_rd I.hok e
    refine ⟨dd.typeIs, fun b q => ?_, hd⟩
    cases q
    obtain ⟨ob, _, _, h1, h2, _⟩ := dd
    exact ⟨ob, h1, h2.2.1⟩
section
variable {X : Cx} {pins : List (Addr × Obj)} {σ : St} {H : Hp} {s : Shared} {a : Addr} {y d : V} {u r : Value} {o : Option V} {A : Around} {E : Value → Shared → Prop}
theorem d_get1 {Q : Value → Shared → Prop} (hu : A.units + 1 < cLine) (I : Inv X pins σ H s) (g : DGet H a y o) (ry : RelV y u) (h : ∀ w' s', Inv X pins σ H s' → RelV (o.getD .non) w' → Q w' s') :
    wpAny (model X.prog X.w) A (call (.builtin "dict.get") [.ref a, u]) Q E s := by
  rcases g with ⟨kvs, k, e, ey, l⟩ | ⟨kvs, k, b, e, ey, eb, l⟩
  · subst ey
    obtain ⟨z, hd, vs, rel, dd⟩ := dk_rd I.hok e
    refine call_meetsIn PySem.F.slot_dict_get dd.typeIs PySem.F.entry_dict_get (PySem.F.args_dict_get_2 _ _) (meets_dict_get (mixKind X.prog X.w) a (kV_is ry) hd) ⟨_, dd.mapOf, h _ _ (I.tok _) ?_⟩
    rw [l]
    exact (rel.val k).getD rfl
  · subst ey
    cases (show u = Value.ref b from ry)
    obtain ⟨z, hd, xs, rel, dd⟩ := dt_rd I.hok e
    refine call_meetsIn PySem.F.slot_dict_get dd.typeIs PySem.F.entry_dict_get (PySem.F.args_dict_get_2 _ _) (meetsH_dict_get (tupleKind (mixKind X.prog X.w)) a b hd) ⟨tupleKind_room_in1 hu, k, xs, key_of I.hok eb, dd, h _ _ (I.tok _) ?_⟩
    rw [l]
    exact (rel.val k).getD rfl
end
def tDGet1 (td ty : TE) : TE := fun σ H Q => td σ H fun x H1 => ∃ a, x = .ref a ∧ IsD H1 a ∧ ty σ H1 fun y H2 => ∃ o, DGet H2 a y o ∧ Q (o.getD .non) H2
def tDGet2 (td ty tx : TE) : TE := fun σ H Q => td σ H fun x H1 => ∃ a, x = .ref a ∧ IsD H1 a ∧ ty σ H1 fun y H2 => tx σ H2 fun z H3 => ∃ o, DGet H3 a y o ∧ Q (o.getD z) H3
def tDPop1 (td ty : TE) : TE := fun σ H Q => td σ H fun x H1 => ∃ a, x = .ref a ∧ IsD H1 a ∧ ty σ H1 fun y H2 => ∃ kvs k v, H2 a = some (.dK kvs) ∧ y = kV k ∧ valV kvs k = some v ∧ Q v (upd H2 a (.dK (dropK kvs k)))
def tDPop2 (td ty tx : TE) : TE := fun σ H Q => td σ H fun x H1 => ∃ a, x = .ref a ∧ IsD H1 a ∧ ty σ H1 fun y H2 => tx σ H2 fun z H3 => ∃ kvs k, H3 a = some (.dK kvs) ∧ y = kV k ∧
  (∀ v, valV kvs k = some v → Q v (upd H3 a (.dK (dropK kvs k)))) ∧ (valV kvs k = none → Q z H3)
section
variable {X : Cx} {o e f : Expr} {apos cpos : Pos} {td ty tx : TE}
theorem pe_dget1 (hu : X.A.units + 1 < cLine) (ho : PE X o td) (he : PE X e ty) (m : M1 X o "get" apos e cpos) : PE X (.Call (.Attribute o "get" apos) [e] [] cpos) (tDGet1 td ty) := by
  intro pins s σ H Q I h
  refine wpAny_Call_method m.base m.few m.line PySem.F.plainAttrs_dict PySem.F.slot_dict_get PySem.F.type_dict_get (thn (ho pins s σ H _ I h) fun u s1 ⟨x, H1, I1, rx, a, ex, d, q1⟩ => ?_)
  subst ex
  obtain rfl : u = Value.ref a := rx
  obtain ⟨t1, t2, _⟩ := isD_at I1 d
  refine ⟨t1, t2, ?_⟩
  rw [m.trees]
  refine Calls.callWith_builtin rfl (Calls.evalArgs_plain (Calls.spliced_cons (thn (he pins s1 σ H1 _ I1 q1) fun iv s2 ⟨y, H2, I2, ry, ov, g, q2⟩ => Calls.spliced_nil ?_)))
  exact d_get1 hu I2 g ry fun w' s3 I3 rw' => ⟨_, H2, I3, rw', q2⟩
end
section
variable {X : Cx} {pins : List (Addr × Obj)} {σ : St} {H : Hp} {s : Shared} {a : Addr} {kvs : List (Key × V)} {A : Around} {E : Value → Shared → Prop}
end
section
variable {X : Cx} {pins : List (Addr × Obj)} {σ : St} {H : Hp} {s : Shared} {a : Addr} {y : V} {u : Value} {A : Around} {E : Value → Shared → Prop}
end
end L2

set_option Elab.async false
set_option linter.all false
set_option maxRecDepth 100000
namespace L2
open PySem PySem.Spec PyProof.Rows
section
variable {X : Cx}
theorem ix_dictK (hu : X.A.units + 64 < cLine) : IxR X (fun x y H Q => ∃ a v, x = .ref a ∧ DGet H a y (some v) ∧ Q v H) := by
  intro value slice pins s σ H x y v u Q I rx ry h hs
  obtain ⟨a, z, rfl, g, q⟩ := h
  cases rx
  have hT := dict_typeIs I g
  unfold subscriptTail
  refine wpAny_bind ?_
  rw [getitemInPython_of_ne hT.not_modules]
  refine wpAny_bind (wpAny_specialOf hT PySem.F.slot_dict_getitem.lookup ?_)
  have h₂ : wpAny (model X.prog X.w) X.A (getItem (.ref a) u) (EP X pins σ Q) X.xe s := d_getItem (by omega) I g ry fun w' s3 I3 rw' => ⟨z, H, I3, rw', q⟩
  have fin : wpAny (model X.prog X.w) X.A (subscripted slice false (.ref a) u) (fun r s₃ => wpAny (model X.prog X.w) X.A (letTemporaryGo value (.ref a) r >>= fun _ => pure r) (EP X pins σ Q) X.xe s₃) X.xe s := by
    rw [hs]
    exact wpAny_operating (wpAny_mono h₂ (fun r s₃ h₃ => wpAny_bind (wpAny_letTemporaryGo (wpAny_pure h₃))) fun _ _ x => x)
  first
    | exact wpAny_pure (wpAny_bind fin)
    | exact wpAny_bind (wpAny_pure (wpAny_bind fin))
    | exact wpAny_bind fin
def fIxA (K : PySem.W.Frag) : R2 := fun x y H Q => match x, y with
  | .ref p, .int i => (∃ xs v, (SqL K H p xs ∨ SqT K H p xs) ∧ atI xs i = some v ∧ Q v H) ∨ (∃ v, DGet H p (.int i) (some v) ∧ Q v H)
  | .ref p, .str k => ∃ v, DGet H p (.str k) (some v) ∧ Q v H
  | .str z, .int i => ∃ c, z.length ≤ sizeLine ∧ atI z.cps.toList i = some c ∧ Q (.str ⟨#[c]⟩) H
  | _, _ => False
theorem ix_all (hu : X.A.units + 64 < cLine) : IxR X (fIxA X.K) := by
  intro value slice pins s σ H x y v u Q I rx ry h hs
  cases x with
  | ref p =>
    cases y with
    | int i =>
      rcases h with h | ⟨w, g, q⟩
      · exact ix_any value slice pins s σ H _ _ v u Q I rx ry h hs
      · exact ix_dictK hu value slice pins s σ H _ _ v u Q I rx ry ⟨p, w, rfl, g, q⟩ hs
    | str k =>
      obtain ⟨w, g, q⟩ := h
      exact ix_dictK hu value slice pins s σ H _ _ v u Q I rx ry ⟨p, w, rfl, g, q⟩ hs
    | _ => exact (show False from h).elim
  | str z =>
    cases y with
    | int i => exact ix_any value slice pins s σ H _ _ v u Q I rx ry h hs
    | _ => exact (show False from h).elim
  | _ => cases y <;> exact (show False from h).elim
theorem st_dictK (hu : X.A.units + 64 < cLine) : PSet X (fun o i v H Q => ∃ a H', o = .ref a ∧ DPut H a i v H' ∧ Q H') := by
  intro pins s σ H o i v ov iv u Q I ro ri rv h
  obtain ⟨a, H', rfl, g, q⟩ := h
  cases ro
  exact d_setItem (by omega) I g ri rv fun s4 I4 => ⟨H', I4, q⟩
def fSetA : TSet := fun o i v H Q => match o, i with
  | .ref p, .int k => (∃ xs j, H p = some (.lst xs) ∧ ixN xs.length k = some j ∧ Q (upd H p (.lst (xs.set j v)))) ∨ (∃ H', DPut H p (.int k) v H' ∧ Q H')
  | .ref p, .str k => ∃ H', DPut H p (.str k) v H' ∧ Q H'
  | _, _ => False
theorem st_all (hu : X.A.units + 64 < cLine) (hl : PSet X rSetL) : PSet X fSetA := by
  intro pins s σ H o i v ov iv u Q I ro ri rv h
  cases o with
  | ref p =>
    cases i with
    | int k =>
      rcases h with ⟨xs, j, h1, h2, q⟩ | ⟨H', g, q⟩
      · exact hl pins s σ H _ _ v ov iv u Q I ro ri rv ⟨p, xs, k, j, rfl, rfl, h1, h2, q⟩
      · exact st_dictK hu pins s σ H _ _ v ov iv u Q I ro ri rv ⟨p, H', rfl, g, q⟩
    | str k =>
      obtain ⟨H', g, q⟩ := h
      exact st_dictK hu pins s σ H _ _ v ov iv u Q I ro ri rv ⟨p, H', rfl, g, q⟩
    | _ => exact (show False from h).elim
  | _ => cases i <;> exact (show False from h).elim
theorem o_inD (hu : X.A.units + 64 < cLine) : OpR X (compareOp .In) (fun x y H Q => ∃ a o, y = .ref a ∧ DGet H a x o ∧ Q (.bl o.isSome) H) := by
  intro pins s σ H x y v u Q I rx ry h
  obtain ⟨a, o, rfl, g, q⟩ := h
  cases ry
  exact d_in (by omega) I g rx fun s3 I3 => ⟨.bl o.isSome, H, I3, rfl, q⟩
theorem o_notinD (hu : X.A.units + 64 < cLine) : OpR X (compareOp .NotIn) (fun x y H Q => ∃ a o, y = .ref a ∧ DGet H a x o ∧ Q (.bl (!o.isSome)) H) := by
  intro pins s σ H x y v u Q I rx ry h
  obtain ⟨a, o, rfl, g, q⟩ := h
  cases ry
  exact d_notIn (by omega) I g rx fun s3 I3 => ⟨.bl (!o.isSome), H, I3, rfl, q⟩
theorem o_inA (hu : X.A.units + 64 < cLine) : OpR X (compareOp .In) (fun x y H Q => fIn X.K false x y H Q ∨ ∃ a o, y = .ref a ∧ DGet H a x o ∧ Q (.bl o.isSome) H) := o_in.or (o_inD hu)
theorem o_notinA (hu : X.A.units + 64 < cLine) : OpR X (compareOp .NotIn) (fun x y H Q => fIn X.K true x y H Q ∨ ∃ a o, y = .ref a ∧ DGet H a x o ∧ Q (.bl (!o.isSome)) H) := o_notin.or (o_notinD hu)
theorem c_lenD : CallR X (.builtin "len") (fun xs H Q => ∃ a kvs, xs = [.ref a] ∧ Rd H a (.dK kvs) ∧ Q (.int (kvs.length : Nat)) H) := by
  intro pins s σ H xs us Q I r h
  obtain ⟨a, kvs, rfl, e, q⟩ := h
  obtain ⟨u, rfl, rfl⟩ := vals1 r
  exact d_len I e fun t s' I' => ⟨.int _, H, I', ⟨_, rfl⟩, q⟩
end
end L2

set_option Elab.async false
set_option linter.all false
set_option maxRecDepth 100000
namespace PySem
open Sem (wp)
section
variable {prog : Program} {w : World} {A : Around} {E : Value → Shared → Prop} {s : Shared}
theorem list_no_keys : typeLookup (.type "list") "keys" = pure none := am_miss_of_fast (by kernel_rfl)
theorem keys_of_list {a : Addr} {o : Obj} {xs : Array Value} {k : Nat} {Q : Option Value → Shared → Prop} (hx : s.heap.get? a = some o) (hc : o.cls = .type "list") (hdat : o.data = .seq xs k) (hd : o.dict = none) (hA : A.handled = none)
    (h : ∀ h' tk, (∀ b ob, s.heap.get? b = some ob → h'.get? b = some ob) → Q none { s with heap := h', toks := tk }) : wpAny (model prog w) A (getAttr? (.ref a) "keys") Q E s := by
  obtain ⟨c, dct, dat, sl⟩ := o
  simp only at hc hdat hd
  subst hc hdat hd
  obtain ⟨hp, g, d, tk, os⟩ := s
  have hT : ∀ tk', (⟨hp, g, d, tk', os⟩ : Shared).TypeIs (.ref a) "list" := fun _ => ⟨_, hx, rfl⟩
  have f1 := sub_AttributeError
  have f3 := F.slot_list_getattribute.lookup
  have f4 := F.slot_list_getattribute.bind (.ref a)
  have f5 := am_list_getattr_none
  have hmiss := list_no_keys
  have hname : (["__module__", "__name__", "__qualname__", "__doc__", "__annotations__"] : List Str).contains "keys" = false := by decide +kernel
  unfold getAttr? getAttrBy? getAttrBy
  repeat (any_goals (first | assumption | exact hT _ | ((with_reducible show wpAny _ _ (call (Value.builtin "list.__getattribute__") _ _) _ _ _); refine call_meets F.slot_list_getattribute (hT _) am_entry_list_getattribute (F.args_list_getattribute_2 _ _) (meets_getattribute_miss_list a xs k sl "keys" _ hmiss hname (by decide)) ⟨hx, hA, fun h' tk' e hx' => ?_⟩) | wp_step))
  obtain ⟨t', u', he⟩ := hx'.there
  have hTe : (⟨h', g, d, tk', os⟩ : Shared).TypeIs (.ref e) "AttributeError" := ⟨_, he, rfl⟩
  show wpAny _ _ (getattributeRaised _ _ _ _ _ _ _) _ _ _
  unfold getattributeRaised
  repeat (any_goals (first | assumption | wp_step))
  exact h _ _ hx'.keeps
end
end PySem
namespace L2
open PySem PySem.Spec PyProof.Rows
theorem entry_upd_loop : entryFor table "dict.update.loop" = some Builtin.«dict.update.loop» := entryFor_of_tree (by kernel_rfl)
theorem plain_upd_loop : plainId "dict.update.loop" = true := by decide +kernel
section
variable {X : Cx} {pins : List (Addr × Obj)} {σ : St} {H0 : Hp} {A : Around}
theorem pair_items {prog : Program} {w : World} {E : Value → Shared → Prop} {s : Shared} {t : Addr} {its : Array Value} {Q : List Value → Shared → Prop} (h : s.heap.IsTuple t its) (q : Q its.toList s) : wpAny (model prog w) A (Builtin.Dict.pairItems (.ref t)) Q E s := by
  obtain ⟨o, ho, hc, n, hd⟩ := h
  unfold Builtin.Dict.pairItems
  refine wpAny_bind (wpAny_typeOf ⟨o, ho, hc⟩ ?_)
  rw [if_pos (by decide)]
  refine wpAny_bind ?_
  obtain ⟨c, dct, dat, sl⟩ := o
  simp only at hc hd
  subst hc hd
  obtain ⟨hp, g, d, tk, os⟩ := s
  repeat (any_goals (first | assumption | wp_step))
theorem take_merge (kvs : List (Key × V)) (i : Nat) {k : Key} {v : V} (h : kvs[i]? = some (k, v)) : mergeK [] (kvs.take (i + 1)) = putK (mergeK [] (kvs.take i)) k v := by
  unfold mergeK
  rw [List.take_add_one, h, List.foldl_append]
  rfl
theorem upd_loop (hc : X.calm = true) {l p it : Addr} {ps : List Addr} {kvs : List (Key × V)} {R : Result → Shared → Prop} (hA : A.handled = none) (hl : SqL X.K H0 l (ps.map V.ref)) (hlen : ps.length = kvs.length) (hn : kvs.length ≤ 1000)
    (hps : ∀ (i : Nat) t k v, ps[i]? = some t → kvs[i]? = some (k, v) → SqT X.K H0 t [kV k, v]) (hp : H0 p = none)
    (fin : ∀ s', Inv X pins σ (upd H0 p (.dK (mergeK [] kvs))) s' → R (.ok (.ret .none)) s') :
    ∀ (n i : Nat) (s : Shared), n + i = ps.length → Inv X pins σ (upd H0 p (.dK (mergeK [] (kvs.take i)))) s → FpOk X pins (upd H0 p (.dK (mergeK [] (kvs.take i)))) it → s.heap.IsListIter it l i →
      codeAny (model X.prog X.w) A (.builtin "dict.update.loop" ⟨[.ref p, .ref it, rawInt i, .none], []⟩) R s := by
  intro n
  induction n with
  | zero =>
    intro i s hi I hf st
    refine codeAny_builtin entry_upd_loop ?_
    rw [Around.under_plainId plain_upd_loop _]
    have sm := Same.upd hp (.dK (mergeK [] (kvs.take i)))
    obtain ⟨its, rv, pl, hz⟩ := I.list (sm.seq hl)
    have hll := rv.length
    rw [List.length_map] at hll
    obtain ⟨f0, f1, f2, f3, f4, f5⟩ := hf
    unfold Builtin.«dict.update.loop»
    refine wpAny_bind (wpAny_pyNext_list_end hA st pl.isList (by simp; omega) fun h' eb => ?_)
    have I' : Inv X pins σ (upd H0 p (.dK (mergeK [] (kvs.take i)))) { s with heap := h' } := I.turned (t' := s.toks) (fun b o hb e => eb b o hb e) f0 f1 f3 f4 f5
    rw [List.take_of_length_le (by omega)] at I'
    exact wpAny_bind (wpAny_pure (wpAny_pure (fin _ I')))
  | succ n ih =>
    intro i s hi I hf st
    refine codeAny_builtin entry_upd_loop ?_
    rw [Around.under_plainId plain_upd_loop _]
    have sm := Same.upd hp (.dK (mergeK [] (kvs.take i)))
    obtain ⟨its, rv, pl, hz⟩ := I.list (sm.seq hl)
    have hll := rv.length
    rw [List.length_map] at hll
    obtain ⟨t, ht⟩ : ∃ t, ps[i]? = some t := ⟨ps[i]'(by omega), List.getElem?_eq_getElem (by omega)⟩
    obtain ⟨⟨k, v⟩, hk⟩ : ∃ kv, kvs[i]? = some kv := ⟨kvs[i]'(by omega), List.getElem?_eq_getElem (by omega)⟩
    obtain ⟨u, hu1, hu2⟩ := rv.get (x := .ref t) (i := i) (by rw [List.getElem?_map, ht]; rfl)
    cases hu2
    obtain ⟨f0, f1, f2, f3, f4, f5⟩ := hf
    unfold Builtin.«dict.update.loop»
    refine wpAny_bind (wpAny_pyNext_list_item st pl.isList (x := .ref t) (by simpa using hu1) fun h' st' sb => ?_)
    have I1 : Inv X pins σ (upd H0 p (.dK (mergeK [] (kvs.take i)))) { s with heap := h' } := I.turned (t' := s.toks) (fun b o hb e => (sb.2 b hb).trans e) f0 f1 f3 f4 f5
    obtain ⟨jts, rj, pt, _⟩ := I1.tuple (sm.tup (hps i t k v ht hk))
    obtain ⟨u1, u2, e12, r1, r2⟩ : ∃ u1 u2, jts = [u1, u2] ∧ RelV (kV k) u1 ∧ RelV v u2 := by
      cases rj with
      | cons r1 q => cases q with
        | cons r2 q => cases q; exact ⟨_, _, rfl, r1, r2⟩
    subst e12
    refine wpAny_bind (wpAny_holding (wpAny_bind (wpAny_tryCatch (pair_items pt ?_))))
    show wpAny _ _ (holding [u1, u2] (dictSet p u1 u2)) _ _ _
    refine wpAny_holding ?_
    obtain ⟨z, hd, vs, rel, dd⟩ := dk_of I1.hok (upd_same (H := H0) (a := p) (o := .dK (mergeK [] (kvs.take i))))
    have hz' : vs.length ≤ sizeLine := by rw [← rel.length]; exact z
    have hlk : (mergeK [] (kvs.take i)).length ≤ 1000 := by
      have := length_mergeK (kvs.take i) []
      rw [List.length_take, List.length_nil] at this
      omega
    have hlp : (putK (mergeK [] (kvs.take i)) k v).length ≤ sizeLine := by
      have h1 := length_putK (mergeK [] (kvs.take i)) k v
      have h2 := small1000 hlk
      omega
    refine wpAny_dictSet_pairs (hsz := hz') (kV_is r1) dd fun h2 dd' hs => ?_
    have he : ∃ q, h2.get? p = some q := let ⟨q, _, _, hq, _⟩ := dd'; ⟨q, hq⟩
    have I2 := d_write (t' := s.toks + 1) (ob := .dK (putK (mergeK [] (kvs.take i)) k v)) I1 (by rw [upd_same]; exact True.intro) hs he (dk_new hlp hd (rel.put k r2) dd')
    rw [upd_upd, ← take_merge kvs i hk] at I2
    have hne : it ≠ p := fun z => by rw [z, upd_same] at f0; cases f0
    have f0' : upd H0 p (.dK (mergeK [] (kvs.take (i + 1)))) it = none := by
      rw [upd_ne hne] at f0 ⊢
      exact f0
    refine wpAny_pure ⟨plainId_quiet plain_upd_loop _, ?_⟩
    have ec : ((i : Int) + 1) = ((i + 1 : Nat) : Int) := by push_cast; rfl
    rw [ec]
    exact ih (i + 1) _ (by omega) I2 ⟨f0', f1, f2, f3, f4, f5⟩ (st'.at fun o e => (hs.2 it hne).trans e)
theorem c_dictP (hc : X.calm = true := by rfl) : CallR X (.type "dict") (fun xs H Q => ∃ (l : Addr) (ps : List Addr) (kvs : List (Key × V)), xs = [.ref l] ∧ SqL X.K H l (ps.map V.ref) ∧ ps.length = kvs.length ∧ kvs.length ≤ 1000 ∧
    (∀ (i : Nat) t k v, ps[i]? = some t → kvs[i]? = some (k, v) → SqT X.K H t [kV k, v]) ∧ ∀ p, H p = none → Q (.ref p) (upd H p (.dK (mergeK [] kvs)))) := by
  intro pins s σ H xs us Q I r h
  obtain ⟨l, ps, kvs, rfl, hl, hlen, hn, hps, q⟩ := h
  obtain ⟨u, rfl, rfl⟩ := vals1 r
  have hA := I.ok.hd hc
  have hp := I.hok.fresh (Nat.le_refl s.heap.objs.size)
  have I1 := I.laid (a := s.heap.objs.size) (o := .dK []) (t' := s.toks) (h' := s.heap.push { cls := .type "dict", data := .dict #[] }) (fun _ _ q => Heap.get?_push_of_some _ q) (Nat.le_refl _) (dk_empty s.heap I.big)
  refine callType_codes (Q₁ := fun obj s₁ => obj = .ref s.heap.objs.size ∧ s₁ = { s with heap := s.heap.push { cls := .type "dict", data := .dict #[] } }) F.kt_called_dict (F.kt_typeCall_dict_1 _) F.entry_dict_init (kt_code_dict_new _ ⟨rfl, rfl⟩) ?_
  rintro obj s₁ ⟨rfl, rfl⟩
  have hnew : (s.heap.push { cls := .type "dict", data := .dict #[] }).DictOf (mixKind X.prog X.w) s.heap.objs.size [] := Heap.DictOf.new s.heap
  have sm := Same.upd hp (.dK [])
  obtain ⟨its, rv, pl, hz⟩ := I1.list (sm.seq hl)
  obtain ⟨o, n, ho, hoc, hod, hos⟩ := id pl
  refine ⟨hnew.typeIs, F.args_dict_init_2 _ _, ?_⟩
  unfold Builtin.«dict.__init__»
  refine wpAny_bind ?_
  unfold Builtin.Dict.selfAndRest
  refine wpAny_bind (wpAny_notOrdered_dict hnew.typeIs ?_)
  show wpAny _ _ (pure (s.heap.objs.size, [Value.ref l])) _ _ _
  refine wpAny_pure ?_
  show wpAny _ _ (Builtin.Dict.updateFrom "dict.__init__" s.heap.objs.size (.ref l) [] .none) _ _ _
  unfold Builtin.Dict.updateFrom
  refine wpAny_bind (wpAny_typeOf ⟨o, ho, hoc⟩ ?_)
  rw [if_pos (by decide)]
  refine wpAny_bind (keys_of_list ho hoc hos hod hA fun h2 tk2 k2 => ?_)
  have I2 : Inv X pins σ (upd H s.heap.objs.size (.dK [])) { s with heap := h2, toks := tk2 } := I1.kept (t' := tk2) k2
  rw [if_pos (show (none : Option Value).isNone = true from rfl)]
  obtain ⟨its2, rv2, pl2, _⟩ := I2.list (sm.seq hl)
  refine wpAny_bind (wpAny_rule (wpAny_bind (wpAny_pyIter_list pl2.isList ?_)))
  refine wpAny_pure ⟨plainId_quiet plain_upd_loop _, ?_⟩
  have I3 := I2.kept (h' := h2.push { cls := .type "list_iterator", data := .fields #[.ref l, .int 0 0] }) (t' := tk2) fun b o e => Heap.get?_push_of_some _ e
  have fp := I2.fpOk (H' := upd H s.heap.objs.size (.dK [])) (Nat.le_refl _) (I2.hok.fresh (Nat.le_refl _))
  refine upd_loop (X := X) (H0 := H) (A := X.A.in1) (p := s.heap.objs.size) (kvs := kvs) hc hA hl hlen hn hps hp (fun s' I' => ?_) ps.length 0 _ rfl I3 fp ⟨_, Heap.get?_push_size _ rfl, rfl, rfl⟩
  exact ⟨rfl, .ref s.heap.objs.size, _, I', rfl, q _ hp⟩
end
end L2

set_option Elab.async false
set_option linter.all false
set_option maxRecDepth 100000
namespace L2
open PySem PySem.Spec PyProof.Rows
section
variable {X : Cx} {pins : List (Addr × Obj)} {σ : St} {H : Hp} {s : Shared}
theorem Inv.thaw {a : Addr} {o : Obj} {u : HO} (I : Inv X pins σ H s) (e : H a = some (.frz o u)) (hn : ∀ o u, X.H₀ a ≠ some (.frz o u)) : Inv X pins σ (upd H a u) s := by
  have nn : ∀ b, H b = none → b ≠ a := fun b q z => by rw [z, e] at q; cases q
  have nt : ∀ b xs, H b = some (.tup xs) → b ≠ a := fun b xs q z => by rw [z, e] at q; cases q
  have nw : ∀ b x, H b = some (.own x) → b ≠ a := fun b x q z => by rw [z, e] at q; cases q
  have nb : ∀ b ps, H b = some (.tbl ps) → b ≠ a := fun b x q z => by rw [z, e] at q; cases q
  refine ⟨I.ok, I.os, I.bare, ⟨I.base.keep, I.base.slot, fun b o q n hx => by
      have := I.base.free b o q n hx
      rw [upd_ne (nn b this)]; exact this, I.base.there, fun b xs q => by
      have := I.base.tups b xs q
      rw [upd_ne (nt b xs this)]; exact this, fun b o v q => by
      have hb : b ≠ a := fun z => hn o v (by rw [← z]; exact q)
      rw [upd_ne hb]; exact I.base.frzs b o v q, fun b ps q => by
      obtain ⟨more, r⟩ := I.base.tbls b ps q
      exact ⟨more, by rw [upd_ne (nb b _ r)]; exact r⟩⟩, I.loc, I.cell, by rw [upd_ne (nn _ I.free)]; exact I.free, fun x c q => by rw [upd_ne (nn _ (I.freeC x c q))]; exact I.freeC x c q,
    fun p hp => by rw [upd_ne (nn _ (I.pin p hp).2.1)]; exact I.pin p hp, fun b v q => ?_, I.len⟩
  by_cases hb : b = a
  · subst hb
    rw [upd_same] at q; cases q
    exact (I.hok b _ e).2.stay (fun _ _ _ q => q) (fun c q => by rw [upd_ne (nw c _ q)]; exact q) fun c xs q => by rw [upd_ne (nt c _ q)]; exact q
  · rw [upd_ne hb] at q
    exact (I.hok b v q).stay (fun _ _ _ q => q) (fun c q => by rw [upd_ne (nw c _ q)]; exact q) fun c xs q => by rw [upd_ne (nt c _ q)]; exact q
theorem Inv.freeze {a : Addr} {o : Obj} {u : HO} (I : Inv X pins σ H s) (e : H a = some u) (mu : Mut (H a)) (ho : s.heap.get? a = some o) : Inv X pins σ (upd H a (.frz o u)) s := by
  have hk := I.hok a u e
  have := d_write (a := a) (h' := s.heap) (t' := s.toks) (ob := .frz o u) I mu ⟨rfl, fun _ _ => rfl⟩ ⟨o, ho⟩ ⟨ho, ?_⟩
  · exact this
  · have nw : ∀ b x, H b = some (.own x) → b ≠ a := fun b x q z => by rw [z] at q; rw [q] at mu; exact mu
    have nt : ∀ b xs, H b = some (.tup xs) → b ≠ a := fun b xs q z => by rw [z] at q; rw [q] at mu; exact mu
    exact hk.stay (fun _ _ _ q => q) (fun c q => by rw [upd_ne (nw c _ q)]; exact q) fun c xs q => by rw [upd_ne (nt c _ q)]; exact q
def Ite (K : PySem.W.Frag) (a : Addr) : It :=
  ⟨fun i H => ∃ xs x, SqL K H a xs ∧ xs[i]? = some x, fun i H x H' => ∃ T v, x = .ref T ∧ H T = none ∧ H' = upd H T (.tup [.int (i : Nat), v]) ∧ ∀ xs, SqL K H a xs → xs[i]? = some v, fun i H => ∃ xs, SqL K H a xs ∧ xs.length ≤ i⟩
def iEnum (K : PySem.W.Frag) (ta : TA) : TI := fun σ H R => ta σ H fun vs H1 => ∃ a, vs = [.ref a] ∧ (∃ xs, SqL K H1 a xs) ∧ R (Ite K a) H1
end
def Itd (d : Addr) (o : Obj) (kvs : List (Key × V)) : It :=
  ⟨fun i H => H d = some (.frz o (.dK kvs)) ∧ i < kvs.length, fun i H x H' => H' = H ∧ ∃ k v, kvs[i]? = some (k, v) ∧ x = kV k, fun i H => H d = some (.frz o (.dK kvs)) ∧ kvs.length ≤ i⟩
theorem is_kV {P : Program} {w : World} {k : Key} {u : Value} (h : (mixKind P w).is k u = true) : RelV (kV k) u := by
  cases k with
  | inl i => obtain ⟨t, e⟩ := Value.isInt_shape (show Value.isInt i u = true from h); exact ⟨t, e⟩
  | inr x => obtain ⟨t, e⟩ := Value.isStrOf_shape (show Value.isStrOf x u = true from h); exact ⟨t, e⟩
theorem dictAt_of {P : Program} {w : World} {H : Hp} {h : Heap} {d : Addr} {o : Obj} {kvs : List (Key × V)} {vs : List (Key × Value)} {ep : Nat} (dd : h.DictAt (mixKind P w) d vs ep) (ho : h.get? d = some o) {h' : Heap} (ho' : h'.get? d = some o) : h'.DictAt (mixKind P w) d vs ep := by
  obtain ⟨o2, es, e, r⟩ := dd
  rw [ho] at e; cases e
  exact ⟨o, es, ho', r⟩
section
variable {X : Cx}
theorem turn_dict {P : Program} {w : World} {K : PySem.W.Frag} {tg : Expr} (d it : Addr) (o : Obj) (kvs : List (Key × V)) (vs : List (Key × Value)) (ep : Nat) (rel : KV kvs vs) (hat : ∀ h : Heap, h.get? d = some o → h.DictAt (mixKind P w) d vs ep) :
    Turn P w K tg (Itd d o kvs) [it] it (fun i h => h.IsKeyIter it d i vs.length ep) where
  mem := by simp
  obj := fun i h st b hb => by
    have e : b = it := by simpa using hb
    subst e
    obtain ⟨o, e, c, d⟩ := st
    exact ⟨o, e, fun v z => by rw [d] at z; cases z⟩
  keep := fun i h h' st k => by
    obtain ⟨o, e, r⟩ := st
    exact ⟨o, k it (by simp) o e, r⟩
  item := by
    intro X hP hw hK hc i pins s σ H E I hf st hg
    subst hP hw hK
    obtain ⟨e, hlt⟩ := hg
    have hd := (show ObjOk X.prog X.w H s.heap d (.frz o (.dK kvs)) from I.hok d _ e).1
    have hl := rel.length
    obtain ⟨f0, f1, f2, f3, f4, f5⟩ := hf it (by simp)
    obtain ⟨⟨k, v⟩, hx⟩ : ∃ kv, vs[i]? = some kv := ⟨vs[i]'(by omega), List.getElem?_eq_getElem (by omega)⟩
    obtain ⟨⟨k', v'⟩, hx'⟩ : ∃ kv, kvs[i]? = some kv := ⟨kvs[i]'(by omega), List.getElem?_eq_getElem (by omega)⟩
    have hkk : k' = k := by
      have := congrArg (fun l => l[i]?) rel.keys
      simp only [List.getElem?_map, hx, hx'] at this
      simpa using this
    subst hkk
    refine wpAny_pyNext_dict_item st (hat _ hd) hx fun key h' hkey st' sb => ?_
    have I1 : Inv X pins σ H { s with heap := h' } := I.turned (t' := s.toks) (fun b o hb e => (sb.2 b hb).trans e) f0 f1 f3 f4 f5
    obtain ⟨oi, ei, ci, di⟩ := id st'
    exact ⟨key, rfl, go_of (s := { s with heap := h' }) ei ci di (by decide) ⟨kV k', H, I1, is_kV hkey, ⟨rfl, k', v', hx', rfl⟩, st', fun b hb => (hf b hb).1⟩⟩
  done := by
    intro X hP hw hK hc i pins s σ H E I hf st hg
    subst hP hw hK
    obtain ⟨e, hlt⟩ := hg
    have hd := (show ObjOk X.prog X.w H s.heap d (.frz o (.dK kvs)) from I.hok d _ e).1
    have hl := rel.length
    obtain ⟨f0, f1, f2, f3, f4, f5⟩ := hf it (by simp)
    exact wpAny_pyNext_dict_end (I.ok.hd hc) st (hat _ hd) (by simp; omega) fun h' eb => ⟨rfl, I.turned (t' := s.toks) (fun b o hb e => eb b o hb e) f0 f1 f3 f4 f5⟩
  self := fun _ _ _ _ _ st h => wpAny_pyIter_keyiter st h
end
end L2

set_option Elab.async false
set_option linter.all false
set_option maxRecDepth 100000
namespace L2
open PySem PySem.Spec PyProof.Rows
theorem paired_of_get {α β : Type} {F : α → β → Prop} : ∀ {l₁ : List α} {l₂ : List β}, l₁.length = l₂.length → (∀ (i : Nat) a b, l₁[i]? = some a → l₂[i]? = some b → F a b) → Paired F l₁ l₂
  | [], [], _, _ => .nil
  | [], _ :: _, h, _ => by simp at h
  | _ :: _, [], h, _ => by simp at h
  | x :: xs, y :: ys, h, f => .cons (f 0 x y rfl rfl) (paired_of_get (by simpa using h) fun i a b ha hb => f (i + 1) a b (by simpa using ha) (by simpa using hb))
theorem paired_at {α β : Type} {F : α → β → Prop} {l₁ : List α} {l₂ : List β} (h : Paired F l₁ l₂) : ∀ {i : Nat} {a : α} {b : β}, l₁[i]? = some a → l₂[i]? = some b → F a b := by
  induction h with
  | nil => intro i a b h; simp at h
  | cons r t ih =>
    intro i a b ha hb
    cases i with
    | zero => simp only [List.getElem?_cons_zero, Option.some.injEq] at ha hb; subst ha hb; exact r
    | succ j => exact ih (by simpa using ha) (by simpa using hb)
section
variable {X : Cx} {tg : Expr}
def NoFrz (X : Cx) (d : Addr) : Prop := ∀ o u, X.H₀ d ≠ some (.frz o u)
def iDict (X : Cx) (tl : TE) : TI := fun σ H R => tl σ H fun x H1 => ∃ d kvs, x = .ref d ∧ H1 d = some (.dK kvs) ∧ ∀ o, NoFrz X d → (kvs.map (·.1)).Nodup → R (Itd d o kvs) (upd H1 d (.frz o (.dK kvs)))
theorem pi_dict {l : Expr} {tl : TE} (hl : PE X l tl) : PI X tg l (iDict X tl) := by
  intro pins s σ H R I h
  refine thn (hl pins s σ H _ I h) fun v s1 ⟨x, H1, I1, r1, q1⟩ => ?_
  obtain ⟨d, kvs, e, hd, q⟩ := q1
  subst e
  cases r1
  obtain ⟨z, hs, vs, rel, dd⟩ := dk_of I1.hok hd
  obtain ⟨ep, dat⟩ := dd.dictAt
  obtain ⟨o, es, ho, r⟩ := id dat
  have hn : NoFrz X d := fun o u z => by
    have := I1.base.frzs d o u z
    rw [hd] at this; cases this
  refine wpAny_pyIter_dict hs dat ?_
  have I2 := I1.freeze hd (by rw [hd]; exact True.intro) ho
  have hfr : upd H1 d (.frz o (.dK kvs)) s1.heap.objs.size = none := by
    rw [upd_ne (Nat.ne_of_gt (Heap.lt_size ho))]; exact I1.hok.fresh (Nat.le_refl _)
  refine ⟨s1.heap.objs.size, [s1.heap.objs.size], _, _, _, rfl, I2.kept (t' := s1.toks) fun b o e => Heap.get?_push_of_some _ e,
    turn_dict d _ o kvs vs ep rel (fun h' h2 => dictAt_of (H := H1) (kvs := kvs) dat ho h2), ⟨_, Heap.get?_push_size _ rfl, rfl, rfl⟩, fun b hb => ?_, q o hn (by rw [rel.keys]; exact dat.nodup)⟩
  have e : b = s1.heap.objs.size := by simpa using hb
  subst e
  exact I1.fpOk (Nat.le_refl _) hfr
def thawN (X : Cx) (D : Ends) : St → Hp → Prop := fun σ H => ∃ d o kvs, NoFrz X d ∧ H d = some (.frz o (.dK kvs)) ∧ D.nx σ (upd H d (.dK kvs))
def tForD (X : Cx) (tl : TE) (g : TG) (tb : TS) : TS := fun D σ H => tl σ H fun x H1 => ∃ d kvs, x = .ref d ∧ H1 d = some (.dK kvs) ∧ ∀ o, NoFrz X d → (kvs.map (·.1)).Nodup → ∃ Pv : Nat → St → Hp → Prop, Pv 0 σ (upd H1 d (.frz o (.dK kvs))) ∧
  (∀ i σ H, i ≤ kvs.length → Pv i σ H → H d = some (.frz o (.dK kvs))) ∧
  (∀ i k v σ H, kvs[i]? = some (k, v) → Pv i σ H → g (kV k) σ H fun σ2 H2 => tb { D with nx := Pv (i + 1), ct := Pv (i + 1), bk := thawN X D } σ2 H2) ∧ ∀ σ H, Pv kvs.length σ H → D.nx σ (upd H d (.dK kvs))
theorem ps_forD {l : Expr} {body : List Stmt} {tl : TE} {g : TG} {tb : TS} {pos : Pos} (hp : PassesOwn (model X.prog X.w) X.A X.env X.xe) (hc : X.calm = true) (hl : PE X l tl) (mono : ∀ σ H (Q Q' : V → Hp → Prop), (∀ v H, Q v H → Q' v H) → tl σ H Q → tl σ H Q')
    (hg : PG X tg g) (hb : PSs X body tb) (hs : ∀ x, foldedSetIterable l X.env x = pure x := by intro _; rfl) : PS X (.For tg l body [] pos) (tForD X tl g tb) := by
  intro pins s σ H D I h
  refine thn (ps_for hp hc (pi_dict hl) hg hb hs pins s σ H { D with nx := thawN X D } I ?_) fun f s1 q => ?_
  · refine mono σ H _ _ (fun x H1 q => ?_) h
    obtain ⟨d, kvs, e, hd, q⟩ := q
    refine ⟨d, kvs, e, hd, fun o hn hnd => ?_⟩
    obtain ⟨Pv, h0, hk, st, fin⟩ := q o hn hnd
    refine ⟨fun i m σ H => m = kvs.length - i ∧ i ≤ kvs.length ∧ Pv i σ H, ⟨kvs.length, by simp, Nat.zero_le _, h0⟩, ?_⟩
    rintro i m σ H ⟨rfl, hi, p⟩
    by_cases hlt : i < kvs.length
    · refine .inr ⟨⟨hk i σ H hi p, hlt⟩, Pv (i + 1), fun σ' H' p' => ⟨kvs.length - (i + 1), by omega, rfl, hlt, p'⟩, fun x H' y => ?_⟩
      obtain ⟨e, k, v, hx, y⟩ := y
      subst e y
      exact st i k v σ _ hx p
    · have e : i = kvs.length := by omega
      subst e
      exact .inl ⟨⟨hk _ σ H hi p, Nat.le_refl _⟩, d, o, kvs, hn, hk _ σ H hi p, fin σ H p⟩
  · cases f with
    | next =>
      obtain ⟨σ1, H1, I1, d, o, kvs, hn, e, q⟩ := q
      exact ⟨σ1, _, I1.thaw e hn, q⟩
    | cont => exact q
    | brk => exact q
    | ret v => exact q
theorem c_listD (hc : X.calm = true := by rfl) : CallR X (.type "list") (fun xs H Q => ∃ d kvs, xs = [.ref d] ∧ Rd H d (.dK kvs) ∧ ∀ l, H l = none → Q (.ref l) (upd H l (.lst (kvs.map fun kv => kV kv.1)))) := by
  intro pins s σ H xs us Q I r h
  obtain ⟨d, kvs, rfl, e, q⟩ := h
  obtain ⟨u, rfl, rfl⟩ := vals1 r
  obtain ⟨z, hs, vs, rel, dd⟩ := dk_rd I.hok e
  obtain ⟨ep, dat⟩ := dd.dictAt
  have hl := rel.length
  refine PySem.W.kdl_call (PySem.W.kdl_dict (knd := mixKind X.prog X.w) (kvs := vs) (ep := ep) hs) (I.ok.hd hc) dat (by omega) fun h' tk acc c hk hS hacc => ?_
  have hp := I.hok.fresh (Nat.le_refl s.heap.objs.size)
  refine ⟨.ref s.heap.objs.size, _, I.laid (a := s.heap.objs.size) (o := .lst (kvs.map fun kv => kV kv.1)) (t' := tk) hk (Nat.le_refl _) ⟨by rw [List.length_map]; exact z, acc.toList, c, ?_, by simpa using hS⟩, rfl, q _ hp⟩
  have hsz : acc.size = vs.length := hacc.1
  refine paired_of_get (by simp [hsz, hl]) fun i x y hx hy => ?_
  rw [List.getElem?_map] at hx
  obtain ⟨k, v, hv, hk⟩ := hacc.2 i y (by rw [← Array.getElem?_toList]; exact hy)
  cases hkv : kvs[i]? with
  | none => rw [hkv] at hx; cases hx
  | some kv =>
    rw [hkv] at hx
    have hx' : kV kv.1 = x := Option.some.inj hx
    have := congrArg (fun l => l[i]?) rel.keys
    simp only [List.getElem?_map, hkv, hv] at this
    have hkk : kv.1 = k := by simpa using this
    rw [← hx', hkk]
    exact is_kV hk
end
section
variable {prog : Program} {w : World} {K : Type} [DecidableEq K] {knd : KeyKind prog w K} {A : Around} {E : Value → Shared → Prop} {s : Shared}
theorem shows_all {d : Addr} {Q : Unit → Shared → Prop} (hd : (d == sysModules) = false) (q : Q () s) : wpAny (model prog w) A (Builtin.Dict.showsAll d) Q E s := by
  unfold Builtin.Dict.showsAll
  rw [if_neg (by rw [hd]; exact Bool.false_ne_true)]
  exact wpAny_pure q
theorem find_pairs {k : K} {v : Value} {es : List DictEntry} {lvs : List (K × Value)} (h : Pairs knd es lvs) : valueAt lvs k = some v → ∃ j e, (es.findIdx? fun e => knd.is k e.key) = some j ∧ es[j]? = some e ∧ e.val = v := by
  induction h with
  | nil => intro z; cases z
  | @cons e kv es lvs h1 h2 t ih =>
    intro z
    by_cases hk : kv.1 = k
    · subst hk
      have : valueAt (kv :: lvs) kv.1 = some kv.2 := by simp [valueAt, List.find?_cons]
      rw [this] at z
      exact ⟨0, e, by rw [List.findIdx?_cons, if_pos h1], rfl, by rw [h2]; exact Option.some.inj z⟩
    · have : valueAt (kv :: lvs) k = valueAt lvs k := by simp [valueAt, List.find?_cons, hk]
      rw [this] at z
      obtain ⟨j, f, hj, hf, hv⟩ := ih z
      have hn : ¬ knd.is k e.key = true := fun q => hk (knd.inj _ _ _ h1 q)
      exact ⟨j + 1, f, by rw [List.findIdx?_cons, if_neg hn, hj]; rfl, hf, hv⟩
theorem same_pairs {id : String} {a b : Addr} {kvs lvs : List (K × Value)} {Q : Bool → Shared → Prop} (hda : (a == sysModules) = false) (hdb : (b == sysModules) = false) (ha : s.heap.DictOf knd a kvs) (hb : s.heap.DictOf knd b lvs) (hl : kvs.length = lvs.length)
    (hv : ∀ (i : Nat) k v, kvs[i]? = some (k, v) → ∃ v', valueAt lvs k = some v' ∧ SeqAt.EqAt A s v v' true) (q : Q true s) : wpAny (model prog w) A (Builtin.Dict.samePairs id a b) Q E s := by
  obtain ⟨o, es, ep, ho, hx, hd, hk, hp, hn⟩ := ha
  obtain ⟨o2, es2, ep2, ho2, hx2, hd2, hk2, hp2, hn2⟩ := hb
  have hz : es.size = kvs.length := by rw [← hp.length]; simp
  have hz2 : es2.size = lvs.length := by rw [← hp2.length]; simp
  unfold Builtin.Dict.samePairs
  refine wpAny_bind (shows_all hda ?_)
  refine wpAny_bind (shows_all hdb ?_)
  refine wpAny_bind (wpAny_dictEntries ho hd ?_)
  refine wpAny_bind (wpAny_dictEntries ho2 hd2 ?_)
  rw [if_neg (by simp; omega)]
  refine wpAny_bind (wpAny_dictEpoch ho hd ?_)
  refine wpAny_bind ?_
  rw [Std.Legacy.Range.forIn_eq_forIn_range']
  simp only [Std.Legacy.Range.size, Nat.sub_zero, Nat.add_sub_cancel, Nat.div_one]
  refine wpAny_forIn_list _ (fun rest b s' => b = (none, ()) ∧ s' = s ∧ ∀ i ∈ rest, i < es.size) _ ?_ ?_ _ _ ⟨rfl, rfl, fun i hi => ?_⟩
  · rintro i rest c s' ⟨rfl, rfl, hr⟩
    have hi : i < es.size := hr i (by simp)
    refine wpAny_bind (wpAny_dictEntries ho hd ?_)
    rw [Array.getElem?_eq_getElem hi]
    obtain ⟨⟨k, v⟩, hkv⟩ : ∃ kv, kvs[i]? = some kv := ⟨kvs[i]'(by omega), List.getElem?_eq_getElem (by omega)⟩
    obtain ⟨hkey, hval⟩ := hp.get? (e := es[i]) (by simp [hi]) hkv
    obtain ⟨k', hk', hh⟩ := hk es[i] (Array.getElem_mem hi)
    obtain ⟨v', hv', he⟩ := hv i k v hkv
    have hkk : k' = k := knd.inj _ _ _ hk' hkey
    subst hkk
    show wpAny _ _ (holding [es[i].key, es[i].val] _ >>= _) _ _ _
    refine wpAny_bind (wpAny_holding ?_)
    rw [hh, hval]
    refine wpAny_bind (wpAny_dictFind_of hkey ho2 hd2 hk2 ?_)
    obtain ⟨j, f, hj, hf, hfv⟩ := find_pairs hp2 hv'
    rw [← List.findIdx?_toArray, Array.toArray_toList] at hj
    rw [Array.getElem?_toList] at hf
    rw [hj]
    refine wpAny_bind (wpAny_dictEntries ho2 hd2 ?_)
    rw [hf]
    show wpAny _ _ (holding [f.val] (eqBool v f.val)) _ _ _
    rw [hfv]
    refine wpAny_holding (he _ _ _ _ ?_)
    rw [if_neg (by decide)]
    refine wpAny_bind (wpAny_dictEpoch ho hd ?_)
    rw [if_neg (by simp)]
    exact wpAny_pure ⟨rfl, rfl, fun z hz => hr z (List.mem_cons_of_mem _ hz)⟩
  · rintro c s' ⟨rfl, rfl, _⟩
    exact wpAny_pure q
  · have := (List.mem_range'_1.mp hi).2
    omega
end
theorem valV_at {κ : Type} [DecidableEq κ] : ∀ {kvs : List (κ × V)} {i : Nat} {k : κ} {v : V}, (kvs.map (·.1)).Nodup → kvs[i]? = some (k, v) → valV kvs k = some v
  | [], i, k, v, _, h => by simp at h
  | p :: r, 0, k, v, _, h => by
    simp only [List.getElem?_cons_zero, Option.some.injEq] at h
    subst h
    exact valV_pos (p := (k, v)) rfl
  | p :: r, i + 1, k, v, hn, h => by
    rw [List.map_cons] at hn
    have hr := List.nodup_cons.mp hn
    have hi : r[i]? = some (k, v) := by simpa using h
    have hne : ¬ p.1 = k := fun z => hr.1 (by rw [z]; exact List.mem_map_of_mem (f := (·.1)) (List.mem_of_getElem? hi))
    rw [valV_neg hne]
    exact valV_at hr.2 hi
section
variable {X : Cx}
def ValEq (K : PySem.W.Frag) (H : Hp) (v v' : V) : Prop := (v = v' ∧ flatR v = true) ∨ ∃ p q xs, v = .ref p ∧ v' = .ref q ∧ SqL K H p xs ∧ SqL K H q xs ∧ xs.all flatR = true
theorem eqAt_of {pins : List (Addr × Obj)} {σ : St} {H : Hp} {s : Shared} {A : Around} {v v' : V} {u u' : Value} (I : Inv X pins σ H s) (hu : A.units < cLine) (h : ValEq X.K H v v') (r : RelV v u) (r' : RelV v' u') : SeqAt.EqAt A s u u' true := by
  rcases h with ⟨rfl, hf⟩ | ⟨p, q, xs, rfl, rfl, hp, hq, hf⟩
  · exact eqAt_same hf r r' A s
  · cases r
    cases r'
    by_cases hpq : p = q
    · subst hpq; exact .same _
    · obtain ⟨its, r1, ⟨o, n, e1, c1, _, d1⟩, _⟩ := I.list hp
      obtain ⟨jts, r2, ⟨o2, n2, e2, c2, _, d2⟩, _⟩ := I.list hq
      have l1 := r1.length
      have l2 := r2.length
      have hR := SeqAt.RcAt.lists (A := A) (s := s) (e := fun _ => true) (l := p) (b := q) (items := its.toArray) (items2 := jts.toArray) ⟨o, e1, c1, n, d1⟩ ⟨o2, e2, c2, n2, d2⟩ (by simp; omega) hu (fun j h1 h2 => by
        simp at h1 h2
        obtain ⟨x, hx⟩ : ∃ x, xs[j]? = some x := ⟨xs[j]'(by omega), List.getElem?_eq_getElem (by omega)⟩
        obtain ⟨u1, g1, w1⟩ := r1.get hx
        obtain ⟨u2, g2, w2⟩ := r2.get hx
        have z1 : its.toArray[j]'(by simpa using h1) = u1 := by
          have := List.getElem?_eq_getElem h1
          rw [g1] at this
          simpa using (Option.some.inj this).symm
        have z2 : jts.toArray[j]'(by simpa using h2) = u2 := by
          have := List.getElem?_eq_getElem h2
          rw [g2] at this
          simpa using (Option.some.inj this).symm
        rw [z1, z2]
        exact eqAt_same (List.all_eq_true.mp hf x (List.mem_of_getElem? hx)) w1 w2 _ _)
      have : ((List.range its.toArray.size).all fun _ => true) = true := by simp
      rw [this] at hR
      exact .of_refs hpq hR
theorem o_eqD (hu : X.A.units + 64 < cLine) : OpR X (compareOp .Eq) (fun x y H Q => ∃ a b kvs lvs, x = .ref a ∧ y = .ref b ∧ Rd H a (.dK kvs) ∧ Rd H b (.dK lvs) ∧ kvs.length = lvs.length ∧
    (∀ k v, valV kvs k = some v → ∃ v', valV lvs k = some v' ∧ ValEq X.K H v v') ∧ Q (.bl true) H) := by
  intro pins s σ H x y v u Q I rx ry h
  obtain ⟨a, b, kvs, lvs, rfl, rfl, ha, hb, hl, hv, q⟩ := h
  cases rx
  cases ry
  obtain ⟨z, hs, vs, rel, dd⟩ := dk_rd I.hok ha
  obtain ⟨z2, hs2, vs2, rel2, dd2⟩ := dk_rd I.hok hb
  have e1 := rel.length
  have e2 := rel2.length
  refine wpAny_richCompare_same_room (op := .Eq) dd.typeIs dd2.typeIs PySem.F.slot_dict_eq (wpAny_call_entry PySem.F.slot_dict_eq dd.typeIs PySem.F.entry_dict_eq ?_ (PySem.F.args_dict_eq_2 _ _)) (by omega)
  show wpAny _ _ (Builtin.Dict.dictSlotArgs "__eq__" ⟨[.ref a, .ref b], []⟩ >>= _) _ _ _
  refine wpAny_bind ?_
  unfold Builtin.Dict.dictSlotArgs
  refine wpAny_bind (wpAny_notOrdered_dict dd.typeIs ?_)
  show wpAny _ _ (pure (Value.ref a, Value.ref b)) _ _ _
  refine wpAny_pure ?_
  refine wpAny_bind (wpAny_isInstance (T := "dict") (b := true) dd2.typeIs (by rw [isSubtype_type]; kernel_rfl) ?_)
  show wpAny _ _ (Builtin.Dict.samePairs "dict.__eq__" a b >>= _) _ _ _
  refine wpAny_bind (same_pairs hs hs2 dd dd2 (by omega) (fun i k v hi => ?_) ?_)
  · obtain ⟨⟨k', v'⟩, hkv⟩ : ∃ kv, kvs[i]? = some kv := ⟨kvs[i]'(by have := (List.getElem?_eq_some_iff.mp hi).1; omega), List.getElem?_eq_getElem _⟩
    have hr : k' = k ∧ RelV v' v := paired_at rel hkv hi
    obtain ⟨rfl, hrv⟩ := hr
    obtain ⟨w', hw, hq⟩ := hv k' v' (valV_at (by rw [rel.keys]; exact (dd.dictAt.choose_spec).nodup) hkv)
    have hval := rel2.val k'
    rw [hw] at hval
    cases hvv : valueAt vs2 k' with
    | none => rw [hvv] at hval; exact (show False from hval).elim
    | some u' =>
      rw [hvv] at hval
      exact ⟨u', rfl, eqAt_of I (show X.A.units + 1 < cLine by omega) hq hrv hval⟩
  · show wpAny _ _ (ret (.bool true)) _ _ _
    exact wpAny_pure ⟨.bool true, rfl, (fun z => nomatch z), .bl true, H, I, rfl, q⟩
end
end L2

set_option Elab.async false
set_option linter.all false
set_option maxRecDepth 100000
namespace L2
open PySem PySem.Spec PyProof.Rows
section
variable {X : Cx}
structure SplitOk (z y : Str) (ws : List Str) : Prop where
  h1 : (decide (z.length < y.length) || decide (Builtin.Str.strKind z < Builtin.Str.strKind y)) = false
  hy : (y.length == 0) = false
  hf : (Builtin.Str.occurrences z y 0 z.length (z.length + 1)).isEmpty = false
  hx : z.length ≤ sizeLine
  hn : ws.length ≤ sizeLine
  e : Builtin.Str.partsBetween z (Builtin.Str.occurrences z y 0 z.length (z.length + 1)) y.length = ws
theorem vals_from : ∀ (tk : Nat) (ws : List Str), Vals (ws.map V.str) (strsFrom tk ws)
  | _, [] => .nil
  | tk, x :: r => .cons ⟨_, rfl⟩ (vals_from (tk + 1) r)
theorem mt_split : MtR X "str.split" (fun x xs H Q => ∃ (z y : Str) (ws : List Str), x = .str z ∧ xs = [.str y] ∧ SplitOk z y ws ∧ ∀ l, H l = none → Q (.ref l) (upd H l (.lst (ws.map V.str)))) := by
  intro pins s σ H x xs v us Q I rx rs h
  obtain ⟨z, y, ws, rfl, rfl, ok, q⟩ := h
  obtain ⟨t, rfl⟩ := rx
  obtain ⟨u, rfl, ru⟩ := rs.one
  obtain ⟨t2, rfl⟩ := ru
  obtain ⟨h1, hy, hf, hx, hn, e⟩ := ok
  subst e
  refine call_meets F.slot_str_split (typeIs_str _ _ _) F.entry_str_split (F.args_str_split_2 _ _) (meets_str_split_sep z y t t2 h1 hy hf hx hn) ?_
  exact ⟨.ref _, _, I.lnew (vals_from _ _) (by rw [List.length_map]; exact hn), rfl, q _ I.fresh⟩
theorem m_split {o e : Expr} {to : TE} {t : TA} {apos cpos : Pos} (ho : PE X o to) (ha : PA X [e] t) (hbase : attributeBase o "split" X.env (eval o X.env) = eval o X.env := by rfl)
    (hfew : ((backTo cpos (starEach [e] X.env)).all (fun x => !x.1) && (backToKw cpos (keywordEach [] X.env)).all (fun x => x.1.isSome)
      && decide ([e].length + ([] : List Keyword).length + (if ([] : List Keyword).isEmpty then 0 else 1) < 30)) = true := by rfl)
    (hline : (apos.endLine == cpos.line) = true := by rfl) (hs : starEach [e] X.env = (false, eval e X.env) :: starEach [] X.env := by rfl) (hplain : (backTo cpos (starEach [] X.env)).any (·.1) = false := by rfl) :
    PE X (.Call (.Attribute o "split" apos) [e] [] cpos) (tBM X.K "str" (fun x xs H Q => ∃ (z y : Str) (ws : List Str), x = .str z ∧ xs = [.str y] ∧ SplitOk z y ws ∧ ∀ l, H l = none → Q (.ref l) (upd H l (.lst (ws.map V.str)))) to t) :=
  pe_bm PySem.F.plainAttrs_str PySem.F.slot_str_split PySem.F.type_str_split mt_split ho ha hbase hfew hline hs hplain
def repS (z : Str) (n : Int) : Str := if n < 1 then Str.empty else if (n == 1 || z.length == 0) = true then z else ⟨(List.replicate n.toNat z.cps).foldl (· ++ ·) #[]⟩
def fMulA : R2 := fun x y H Q => match x, y with
  | .int i, .int j => CMul i j ∧ Q (.int (i * j)) H
  | .str z, .int n => n < 1000 ∧ -1000 < n ∧ z.length ≤ 1000 ∧ Q (.str (repS z n)) H
  | .ref p, .int k => ∃ xs, H p = some (.lst xs) ∧ -(2 ^ 63) ≤ k ∧ k < 2 ^ 63 ∧ xs.length * k.toNat ≤ sizeLine ∧ ∀ l, H l = none → Q (.ref l) (upd H l (.lst (List.replicate k.toNat xs).flatten))
  | _, _ => False
theorem fold_size (xs : List (Array Nat)) : ∀ acc : Array Nat, (xs.foldl (· ++ ·) acc).size = acc.size + (xs.map (·.size)).sum := by
  induction xs with
  | nil => intro acc; simp
  | cons x r ih => intro acc; rw [List.foldl_cons, ih, Array.size_append, List.map_cons, List.sum_cons]; omega
theorem rep_size (z : Str) (n : Nat) : (⟨(List.replicate n z.cps).foldl (· ++ ·) #[]⟩ : Str).length = n * z.length := by
  show ((List.replicate n z.cps).foldl (· ++ ·) #[]).size = _
  rw [fold_size, List.map_replicate]
  have : ∀ m k : Nat, (List.replicate m k).sum = m * k := fun m k => by
    induction m with
    | zero => simp
    | succ m ih => rw [List.replicate_succ, List.sum_cons, ih, Nat.succ_mul]; omega
  rw [this]
  simp [Str.length]
theorem o_mulA : OpR X (binaryOp .Mult) fMulA := by
  intro pins s σ H x y v u Q I rx ry h
  cases x with
  | int i =>
    cases y with
    | int j => exact o_mul pins s σ H _ _ v u Q I rx ry h
    | _ => exact (show False from h).elim
  | str z =>
    cases y with
    | int n =>
      obtain ⟨h1, h2, h3, q⟩ := h
      obtain ⟨t, rfl⟩ := rx
      obtain ⟨t2, rfl⟩ := ry
      have hb : ¬ n < 1 → n.toNat * z.length ≤ 1000000 := fun hn => by
        have e1 : n.toNat ≤ 1000 := by omega
        exact Nat.le_trans (Nat.mul_le_mul e1 h3) (by decide)
      refine P.mul_str (by rw [decide_eq_false (by omega), decide_eq_false (by omega)]; rfl) (fun hn _ => ?_) (fun hn _ => ?_) ?_
      · intro z1
        have h0 : (0 : Int) < n := by omega
        have := Int.lt_mul_of_ediv_lt h0 z1
        have e2 : ((z.length : Int)) * n ≤ 1000 * 1000 := Int.mul_le_mul (by omega) (by omega) (by omega) (by decide)
        omega
      · unfold Builtin.Str.tooLong
        have := hb hn
        rw [Nat.mul_comm] at this
        refine decide_eq_false ?_
        rw [sizeLine_eq]
        omega
      · unfold repS at q
        by_cases c1 : n < 1
        · rw [if_pos c1] at q ⊢
          exact ⟨by decide, .str _, H, I.tok _, ⟨_, rfl⟩, q⟩
        · rw [if_neg c1] at q ⊢
          by_cases c2 : (n == 1 || z.length == 0) = true
          · rw [if_pos c2] at q ⊢
            exact ⟨.str _, H, I, ⟨_, rfl⟩, q⟩
          · rw [if_neg c2] at q ⊢
            refine ⟨?_, .str _, H, I.tok _, ⟨_, rfl⟩, q⟩
            rw [rep_size]
            have := hb c1
            rw [sizeLine_eq]
            omega
    | _ => exact (show False from h).elim
  | ref p =>
    cases y with
    | int k =>
      obtain ⟨xs, h1, h2, h3, h4, q⟩ := h
      exact op_rep pins s σ H _ _ v u Q I rx ry ⟨p, k, xs, rfl, rfl, h1, h2, h3, h4, q⟩
    | _ => exact (show False from h).elim
  | _ => cases y <;> exact (show False from h).elim
end
end L2

set_option Elab.async false
set_option linter.all false
set_option maxRecDepth 100000
namespace L2
open PySem PySem.Spec PyProof.Rows
section
variable {X : Cx}
theorem monoV (i : Nat) : ∀ σ H (Q Q' : V → Hp → Prop), (∀ v H, Q v H → Q' v H) → fVar i σ H Q → fVar i σ H Q' := by
  intro σ H Q Q' h q
  unfold fVar at q ⊢
  split at q
  · exact h _ _ q
  · exact q.elim
def DictEq (K : PySem.W.Frag) (H : Hp) (a b : Addr) : Prop := ∃ kvs lvs, Rd H a (.dK kvs) ∧ Rd H b (.dK lvs) ∧ kvs.length = lvs.length ∧ ∀ k v, valV kvs k = some v → ∃ v', valV lvs k = some v' ∧ ValEq K H v v'
def fEqU (K : PySem.W.Frag) : R2 := fun x y H Q => match x, y with
  | .ref p, .ref q => ((∃ d e, RepD K H (.ref p) d ∧ RepD K H (.ref q) e ∧ SeqAt.shaped d = true ∧ SeqAt.shaped e = true ∧ Q (.bl (PyData.eqv d e)) H) ∨ (∃ xs, SqL K H p xs ∧ SqL K H q xs ∧ xs.all flatR = true ∧ Q (.bl true) H)) ∨ (DictEq K H p q ∧ Q (.bl true) H)
  | x, y => scal x y = true ∧ Q (.bl (decide (x = y))) H
theorem o_eqU (hu : X.A.units + 64 < cLine) : OpR X (compareOp .Eq) (fEqU X.K) := ((o_eqA hu).or (o_eqD hu)).imp fun x y H Q q => by
  by_cases hr : ∃ p q, x = V.ref p ∧ y = V.ref q
  · obtain ⟨p, q', rfl, rfl⟩ := hr
    rcases q with q | ⟨⟨kvs, lvs, h1, h2, h3, h4⟩, h5⟩
    · exact .inl q
    · exact .inr ⟨p, q', kvs, lvs, rfl, rfl, h1, h2, h3, h4, h5⟩
  · refine .inl ?_
    cases x <;> cases y <;> first | exact q | exact absurd ⟨_, _, rfl, rfl⟩ hr
theorem c_lenA : CallR X (.builtin "len") (fun xs H Q => (∃ x n, xs = [x] ∧ LenV X.K x H n ∧ Q (.int n) H) ∨ ∃ a kvs, xs = [.ref a] ∧ Rd H a (.dK kvs) ∧ Q (.int (kvs.length : Nat)) H) := c_len.or c_lenD
theorem c_listA (hc : X.calm = true := by rfl) : CallR X (.type "list") (fun xs H Q => (∃ p ys, xs = [.ref p] ∧ (SqL X.K H p ys ∨ SqT X.K H p ys) ∧ ∀ l, H l = none → Q (.ref l) (upd H l (.lst ys))) ∨ ∃ d kvs, xs = [.ref d] ∧ Rd H d (.dK kvs) ∧ ∀ l, H l = none → Q (.ref l) (upd H l (.lst (kvs.map fun kv => kV kv.1)))) := c_list.or (c_listD hc)
end
end L2

set_option Elab.async false
set_option linter.all false
set_option maxRecDepth 100000
namespace L2
open PySem PySem.Spec PyProof.Rows
section
variable {X : Cx} {pins : List (Addr × Obj)} {σ : St} {H : Hp} {s : Shared}
def Itz (K : PySem.W.Frag) (a b : Addr) : It :=
  ⟨fun i H => ∃ xs ys x y, SqL K H a xs ∧ SqL K H b ys ∧ xs[i]? = some x ∧ ys[i]? = some y,
   fun i H v H' => ∃ T x y, v = .ref T ∧ H T = none ∧ H' = upd H T (.tup [x, y]) ∧ ∀ xs ys, SqL K H a xs → SqL K H b ys → xs[i]? = some x ∧ ys[i]? = some y,
   fun i H => ∃ xs ys, SqL K H a xs ∧ SqL K H b ys ∧ (xs.length ≤ i ∨ ys.length ≤ i)⟩
def ZipAt (z TI TO i1 i2 a b : Addr) (i : Nat) (h : Heap) : Prop := IsZip h z TI TO .none ∧ IsPair h TI (.ref i1) (.ref i2) ∧ (∃ u v, IsPair h TO u v) ∧ h.IsListIter i1 a i ∧ h.IsListIter i2 b i
def iZip (K : PySem.W.Frag) (ta : TA) : TI := fun σ H R => ta σ H fun vs H1 => ∃ a b, vs = [.ref a, .ref b] ∧ (∃ xs, SqL K H1 a xs) ∧ (∃ ys, SqL K H1 b ys) ∧ R (Itz K a b) H1
end
end L2

set_option Elab.async false
set_option linter.all false
set_option maxRecDepth 100000
set_option maxHeartbeats 4000000
namespace L2
open PySem PySem.Spec PyProof.Rows
theorem comp_pairF {K : PySem.W.Frag} {a : Addr} {xs : List V} {fr : List Nat} {tf : CB → TT} {te : CB → TE} {Q : VK} {σ : St} {H1 : Hp} (p : V → Bool) (R : V → V → Hp → Prop) (hx : SqL K H1 a xs) (hn : xs.length < sizeLine)
    (hf : ∀ b x H (G : Bool → Hp → Prop), x ∈ xs → Same H1 H → (∀ H', Same H H' → G (p x) H') → tf b (some x :: cFr fr σ) H G)
    (he : ∀ b x H (G : VK), x ∈ xs → p x = true → Same H1 H → (∀ y H', Same H H' → R x y H' → G y H') → te b (some x :: cFr fr σ) H G)
    (mono : ∀ x y H H', Same H H' → R x y H → R x y H') (st : ∀ x y H D ys zs, H D = some (.lst ys) → R x y H → R x y (upd H D (.lst zs)))
    (fin : ∀ D H ys, H1 D = none → Same H1 H → H D = some (.lst ys) → PySem.Paired (fun x y => R x y H) (xs.filter p) ys → Q (.ref D) H) : tBlock (Itl K a) 1 fr (fun _ => gName 0) tf te Q σ H1 := by
  have len : ∀ {i : Nat} {ys : List V} {H : Hp}, PySem.Paired (fun x y => R x y H) ((xs.take i).filter p) ys → ys.length ≤ i := fun {i} _ _ h => by
    have h1 := Paired.length h
    have h2 := List.length_filter_le p (xs.take i)
    rw [List.length_take] at h2
    omega
  refine ⟨fun b D hD => ?_⟩
  refine ⟨fun i m σ' H' => m = xs.length - i ∧ i ≤ xs.length ∧ (∃ v0, σ' = v0 :: cFr fr σ) ∧ Same H1 H' ∧ ∃ ys, H' D = some (.lst ys) ∧ PySem.Paired (fun x y => R x y H') ((xs.take i).filter p) ys, ⟨xs.length, rfl, Nat.zero_le _, ⟨none, rfl⟩, Same.upd hD _, [], upd_same, .nil⟩, ?_⟩
  rintro i m σ' H' ⟨rfl, hi, ⟨v0, rfl⟩, sm, ys, hl, hR⟩
  have hy := len hR
  by_cases hlt : i < xs.length
  · refine .inr ⟨⟨xs, xs[i], sm.seq hx, List.getElem?_eq_getElem hlt⟩, fun σ2 H2 => (∃ v0, σ2 = v0 :: cFr fr σ) ∧ Same H1 H2 ∧ ∃ ys, H2 D = some (.lst ys) ∧ PySem.Paired (fun x y => R x y H2) ((xs.take (i + 1)).filter p) ys, fun σ2 H2 q => ⟨xs.length - (i + 1), by omega, rfl, hlt, q⟩, fun v H2 y => ?_⟩
    obtain ⟨rfl, yv⟩ := y
    have ev := yv xs (sm.seq hx)
    have mem : v ∈ xs := List.mem_of_getElem? ev
    rw [List.take_add_one, ev, List.filter_append]
    show tf b (some v :: cFr fr σ) _ _
    refine hf b v _ _ mem sm fun H3 s3 => ?_
    cases hp : p v with
    | false =>
      rw [if_neg Bool.false_ne_true]
      refine ⟨⟨_, rfl⟩, sm.trans s3, ys, s3 _ _ hl, ?_⟩
      have e0 : ((some v).toList.filter p) = [] := by simp [hp]
      rw [e0, List.append_nil]
      exact Paired.mapP hR fun _ _ h => mono _ _ _ _ s3 h
    | true =>
      rw [if_pos rfl]
      have e0 : ((some v).toList.filter p) = [v] := by simp [hp]
      rw [e0]
      refine he b v _ _ mem hp (sm.trans s3) fun z H4 s4 rz => ⟨ys, s4 _ _ (s3 _ _ hl), by omega, ⟨_, rfl⟩, ?_, ys ++ [z], upd_same, ?_⟩
      · intro c o q
        by_cases hc : c = D
        · rw [hc, hD] at q; cases q
        · rw [upd_ne hc]; exact (sm.trans (s3.trans s4)) c o q
      · have hD4 := s4 _ _ (s3 _ _ hl)
        exact PySem.Paired.snoc (Paired.mapP hR fun _ _ h => st _ _ _ _ _ _ hD4 (mono _ _ _ _ (s3.trans s4) h)) (st _ _ _ _ _ _ hD4 rz)
  · have e : i = xs.length := by omega
    subst e
    rw [List.take_length] at hR
    exact .inl ⟨⟨xs, sm.seq hx, Nat.le_refl _⟩, fin D H' ys hD sm hl hR⟩
end L2
namespace L2
open PySem PySem.Spec PyProof.Rows
section
variable {X : Cx}
end
end L2

set_option Elab.async false
set_option linter.all false
set_option maxRecDepth 100000
set_option maxHeartbeats 4000000
namespace L2
open PySem PySem.Spec PyProof.Rows
section
variable {X : Cx}
theorem c_divmod : CallR X (.builtin "divmod") (fun xs H Q => ∃ i j, xs = [.int i, .int j] ∧ CDivW i j ∧ ∀ p, H p = none → Q (.ref p) (upd H p (.tup [.int (i / j), .int (i % j)]))) := by
  intro pins s σ H xs us Q I r h
  obtain ⟨i, j, rfl, hc, q⟩ := h
  have h1 : (0 : Int) < j := hc.1
  obtain ⟨u, w', rfl, ⟨t, rfl⟩, ⟨t', rfl⟩⟩ := vals2 r
  refine divmod_int (by omega) ?_ (.inl (PyProof.noPylong_of_log2 (log2_64 hc)))
  rw [Int.fdiv_eq_ediv_of_nonneg i (by omega), Int.fmod_eq_emod_of_nonneg i (by omega)]
  have hn : H s.heap.objs.size = none := I.hok.fresh (Nat.le_refl _)
  refine ⟨.ref s.heap.objs.size, _, ?_, rfl, q _ hn⟩
  refine I.laid (fun b o e => Heap.get?_push_of_some _ e) (Nat.le_refl _) ⟨by simp only [List.length_cons, List.length_nil]; rw [sizeLine_eq]; decide, [.int (i / j) s.toks, .int (i % j) (s.toks + 1)], .cons ⟨_, rfl⟩ (.cons ⟨_, rfl⟩ .nil), ?_⟩
  exact ⟨_, Heap.get?_push_size s.heap rfl, rfl, 0, rfl⟩
theorem o_neD (hu : X.A.units + 64 < cLine) : OpR X (compareOp .NotEq) (fun x y H Q => ∃ a b kvs lvs, x = .ref a ∧ y = .ref b ∧ Rd H a (.dK kvs) ∧ Rd H b (.dK lvs) ∧ kvs.length = lvs.length ∧
    (∀ k v, valV kvs k = some v → ∃ v', valV lvs k = some v' ∧ ValEq X.K H v v') ∧ Q (.bl false) H) := by
  intro pins s σ H x y v u Q I rx ry h
  obtain ⟨a, b, kvs, lvs, rfl, rfl, ha, hb, hl, hv, q⟩ := h
  cases rx
  cases ry
  obtain ⟨z, hs, vs, rel, dd⟩ := dk_rd I.hok ha
  obtain ⟨z2, hs2, vs2, rel2, dd2⟩ := dk_rd I.hok hb
  have e1 := rel.length
  have e2 := rel2.length
  refine wpAny_richCompare_same_room (op := .NotEq) dd.typeIs dd2.typeIs PySem.F.slot_dict_ne (wpAny_call_entry PySem.F.slot_dict_ne dd.typeIs PySem.F.entry_dict_ne ?_ (PySem.F.args_dict_ne_2 _ _)) (by omega)
  show wpAny _ _ (Builtin.Dict.dictSlotArgs "__ne__" ⟨[.ref a, .ref b], []⟩ >>= _) _ _ _
  refine wpAny_bind ?_
  unfold Builtin.Dict.dictSlotArgs
  refine wpAny_bind (wpAny_notOrdered_dict dd.typeIs ?_)
  show wpAny _ _ (pure (Value.ref a, Value.ref b)) _ _ _
  refine wpAny_pure ?_
  refine wpAny_bind (wpAny_isInstance (T := "dict") (b := true) dd2.typeIs (by rw [isSubtype_type]; kernel_rfl) ?_)
  show wpAny _ _ (Builtin.Dict.samePairs "dict.__ne__" a b >>= _) _ _ _
  refine wpAny_bind (same_pairs hs hs2 dd dd2 (by omega) (fun i k v hi => ?_) ?_)
  · obtain ⟨⟨k', v'⟩, hkv⟩ : ∃ kv, kvs[i]? = some kv := ⟨kvs[i]'(by have := (List.getElem?_eq_some_iff.mp hi).1; omega), List.getElem?_eq_getElem _⟩
    have hr : k' = k ∧ RelV v' v := paired_at rel hkv hi
    obtain ⟨rfl, hrv⟩ := hr
    obtain ⟨w', hw, hq⟩ := hv k' v' (valV_at (by rw [rel.keys]; exact (dd.dictAt.choose_spec).nodup) hkv)
    have hval := rel2.val k'
    rw [hw] at hval
    cases hvv : valueAt vs2 k' with
    | none => rw [hvv] at hval; exact (show False from hval).elim
    | some u' =>
      rw [hvv] at hval
      exact ⟨u', rfl, eqAt_of I (show X.A.units + 1 < cLine by omega) hq hrv hval⟩
  · show wpAny _ _ (ret (.bool false)) _ _ _
    exact wpAny_pure ⟨.bool false, rfl, (fun z => nomatch z), .bl false, H, I, rfl, q⟩
end
end L2
namespace L2
open PySem PySem.Spec PyProof.Rows
section
variable {X : Cx}
theorem mt_indexS : MtR X "str.index" (fun x xs H Q => ∃ (z y : Str) (i : Nat) (rest : List Nat), x = .str z ∧ xs = [.str y] ∧ Builtin.Str.occurrences z y 0 z.length 1 = i :: rest ∧ Q (.int i) H) := by
  intro pins s σ H x xs v us Q I rx rs h
  obtain ⟨z, y, i, rest, rfl, rfl, e, q⟩ := h
  obtain ⟨t, rfl⟩ := rx
  obtain ⟨u, rfl, ru⟩ := rs.one
  obtain ⟨t2, rfl⟩ := ru
  refine call_gives F.slot_str_index (typeIs_str _ _ _) F.entry_str_index (F.args_str_index_2 _ _) (gives_str_index z y t t2 i rest e) ?_
  exact ⟨.int i, H, I.tok _, ⟨_, rfl⟩, q⟩
theorem m_indexS {o e : Expr} {to : TE} {t : TA} {apos cpos : Pos} (ho : PE X o to) (ha : PA X [e] t) (hbase : attributeBase o "index" X.env (eval o X.env) = eval o X.env := by rfl)
    (hfew : ((backTo cpos (starEach [e] X.env)).all (fun x => !x.1) && (backToKw cpos (keywordEach [] X.env)).all (fun x => x.1.isSome)
      && decide ([e].length + ([] : List Keyword).length + (if ([] : List Keyword).isEmpty then 0 else 1) < 30)) = true := by rfl)
    (hline : (apos.endLine == cpos.line) = true := by rfl) (hs : starEach [e] X.env = (false, eval e X.env) :: starEach [] X.env := by rfl) (hplain : (backTo cpos (starEach [] X.env)).any (·.1) = false := by rfl) :
    PE X (.Call (.Attribute o "index" apos) [e] [] cpos) (tBM X.K "str" (fun x xs H Q => ∃ (z y : Str) (i : Nat) (rest : List Nat), x = .str z ∧ xs = [.str y] ∧ Builtin.Str.occurrences z y 0 z.length 1 = i :: rest ∧ Q (.int i) H) to t) :=
  pe_bm PySem.F.plainAttrs_str PySem.F.slot_str_index PySem.F.type_str_index mt_indexS ho ha hbase hfew hline hs hplain
end
end L2

set_option Elab.async false
set_option linter.all false
set_option maxRecDepth 100000
set_option maxHeartbeats 4000000
namespace L2
open PySem PySem.Spec PyProof.Rows
section
variable {X : Cx}
theorem mt_dclear : MtR X "dict.clear" (fun x xs H Q => ∃ a kvs, x = .ref a ∧ xs = [] ∧ H a = some (.dK kvs) ∧ Q .non (upd H a (.dK []))) := by
  intro pins s σ H x xs v us Q I rx rs h
  obtain ⟨a, kvs, rfl, rfl, e, q⟩ := h
  cases rx
  obtain rfl := Vals.zero rs
  exact d_clear I e fun s' I' => ⟨.non, _, I', rfl, q⟩
theorem m_clearD {o : Expr} {to : TE} {apos cpos : Pos} (ho : PE X o to) (hbase : attributeBase o "clear" X.env (eval o X.env) = eval o X.env := by rfl) (hline : (apos.endLine == cpos.line) = true := by rfl) :
    PE X (.Call (.Attribute o "clear" apos) [] [] cpos) (tBM0 X.K "dict" (fun x xs H Q => ∃ a kvs, x = .ref a ∧ xs = [] ∧ H a = some (.dK kvs) ∧ Q .non (upd H a (.dK []))) to) :=
  pe_bm0 PySem.F.plainAttrs_dict PySem.F.slot_dict_clear PySem.F.type_dict_clear mt_dclear ho hbase hline
theorem pe_callD0 {j k : Nat} {x : Str} {ps : List Str} {sp : Sp} {p pos : Pos} (D : Has X.prog X.w X.K X.mg X.base j x ps sp) (hr : Room k X.A) (hj : j ≤ k := by decide) (hg : Gl X x := by rfl)
    (hdb : (x == ("__debug__" : Str)) = false := by decide) : PE X (.Call (.Name x p) [] [] pos) (tCall sp [] E0 tNil) := by
  obtain ⟨f, fd, F, b, kp, m, _⟩ := D
  exact pe_call0 F (hr.mono hj) hg m kp b .nil pass0 hdb
end
theorem mono_ix {K : PySem.W.Frag} (i : Nat) (y : V) : ∀ σ H (Q Q' : V → Hp → Prop), (∀ v H, Q v H → Q' v H) → tOp (fIxA K) (fVar i) (tC y) σ H Q → tOp (fIxA K) (fVar i) (tC y) σ H Q' := by
  intro σ H Q Q' h
  refine monoV i σ H _ _ fun v H1 q => ?_
  show fIxA K v y H1 Q'
  have q : fIxA K v y H1 Q := q
  cases v with
  | ref p =>
    cases y with
    | int k =>
      rcases q with ⟨xs, v, h1, h2, h3⟩ | ⟨v, h1, h2⟩
      · exact Or.inl ⟨xs, v, h1, h2, h _ _ h3⟩
      · exact Or.inr ⟨v, h1, h _ _ h2⟩
    | str k => obtain ⟨v, h1, h2⟩ := q; exact ⟨v, h1, h _ _ h2⟩
    | _ => exact (show False from q).elim
  | str z =>
    cases y with
    | int k => obtain ⟨c, h1, h2, h3⟩ := q; exact ⟨c, h1, h2, h _ _ h3⟩
    | _ => exact (show False from q).elim
  | _ => cases y <;> exact (show False from q).elim
end L2

set_option Elab.async false
set_option linter.all false
set_option maxRecDepth 100000
set_option maxHeartbeats 4000000
namespace K22
open PySem L2
abbrev s_wall : Stmt := top 0
abbrev s_is_number : Stmt := top 23
theorem sc_is_number : FnScope ["thing"] ["thing"] (defScope s_is_number) := ⟨rfl, rfl, rfl, by decide +kernel, rfl, by decide +kernel, by decide +kernel⟩
abbrev s_is_good : Stmt := top 24
theorem sc_is_good : FnScope ["gift", "size"] ["gift", "size"] (defScope s_is_good) := ⟨rfl, rfl, rfl, by decide +kernel, rfl, by decide +kernel, by decide +kernel⟩
abbrev s_given_cell : Stmt := top 25
theorem sc_given_cell : FnScope ["given", "gifts", "gift"] ["given", "gifts"] (defScope s_given_cell) := ⟨rfl, rfl, rfl, by decide +kernel, rfl, by decide +kernel, by decide +kernel⟩
abbrev s_own_cell : Stmt := top 26
theorem sc_own_cell : FnScope ["own"] ["own"] (defScope s_own_cell) := ⟨rfl, rfl, rfl, by decide +kernel, rfl, by decide +kernel, by decide +kernel⟩
abbrev s_cells_of : Stmt := top 27
theorem sc_cells_of : FnScope ["program", "gifts", "cells", "head", "deed", "part"] ["program", "gifts"] (defScope s_cells_of) := ⟨rfl, rfl, rfl, by decide +kernel, rfl, by decide +kernel, by decide +kernel⟩
abbrev s_reckon : Stmt := top 30
theorem sc_reckon : FnScope ["one", "word", "other"] ["one", "word", "other"] (defScope s_reckon) := ⟨rfl, rfl, rfl, by decide +kernel, rfl, by decide +kernel, by decide +kernel⟩
abbrev s_round_place : Stmt := top 31
theorem sc_round_place : FnScope ["place", "size"] ["place", "size"] (defScope s_round_place) := ⟨rfl, rfl, rfl, by decide +kernel, rfl, by decide +kernel, by decide +kernel⟩
abbrev s_ends_of : Stmt := top 34
theorem sc_ends_of : FnScope ["program", "cells"] ["program", "cells"] (defScope s_ends_of) := ⟨rfl, rfl, rfl, by decide +kernel, rfl, by decide +kernel, by decide +kernel⟩
abbrev s_run : Stmt := top 35
theorem sc_run : FnScope ["program", "gifts", "state", "book"] ["program", "gifts"] (defScope s_run) := ⟨rfl, rfl, rfl, by decide +kernel, rfl, by decide +kernel, by decide +kernel⟩
abbrev s_law_cell_at : Stmt := top 37
theorem sc_law_cell_at : FnScope ["_law_script", "_law_k"] ["_law_script", "_law_k"] (defScope s_law_cell_at) := ⟨rfl, rfl, rfl, by decide +kernel, rfl, by decide +kernel, by decide +kernel⟩
abbrev s_law_name : Stmt := top 38
theorem sc_law_name : FnScope ["_law_cell", "_law_k", "_law_letters", "_law_way", "_law_words", "_law_size", "_law_at", "_law_stem"] ["_law_cell", "_law_k"] (defScope s_law_name) := ⟨rfl, rfl, rfl, by decide +kernel, rfl, by decide +kernel, by decide +kernel⟩
abbrev s_law_number : Stmt := top 39
theorem sc_law_number : FnScope ["_law_cell"] ["_law_cell"] (defScope s_law_number) := ⟨rfl, rfl, rfl, by decide +kernel, rfl, by decide +kernel, by decide +kernel⟩
abbrev s_law_thing : Stmt := top 40
theorem sc_law_thing : FnScope ["_law_cell", "_law_names"] ["_law_cell", "_law_names"] (defScope s_law_thing) := ⟨rfl, rfl, rfl, by decide +kernel, rfl, by decide +kernel, by decide +kernel⟩
abbrev s_law_value : Stmt := top 41
theorem sc_law_value : FnScope ["_law_script", "_law_names", "_law_cell", "_law_one", "_law_other"] ["_law_script", "_law_names"] (defScope s_law_value) := ⟨rfl, rfl, rfl, by decide +kernel, rfl, by decide +kernel, by decide +kernel⟩
abbrev s_law_heads : Stmt := top 42
theorem sc_law_heads : FnScope ["_law_script", "_law_names", "_law_ones", "_law_others", "_law_turn", "_law_heads_here", "_law_k", "_law_j"] ["_law_script", "_law_names"] (defScope s_law_heads) := ⟨rfl, rfl, rfl, by decide +kernel, rfl, by decide +kernel, by decide +kernel⟩
abbrev s_law_gifts : Stmt := top 43
theorem sc_law_gifts : FnScope ["_law_script", "_law_names", "_law_some", "_law_k"] ["_law_script", "_law_names"] (defScope s_law_gifts) := ⟨rfl, rfl, rfl, by decide +kernel, rfl, by decide +kernel, by decide +kernel⟩
abbrev s_law_taken : Stmt := top 44
theorem sc_law_taken : FnScope ["_law_cells", "_law_thing_here"] ["_law_cells", "_law_thing_here"] (defScope s_law_taken) := ⟨rfl, rfl, rfl, by decide +kernel, rfl, by decide +kernel, by decide +kernel⟩
abbrev s_law_reckoned : Stmt := top 45
theorem sc_law_reckoned : FnScope ["_law_cells", "_law_value_here", "_law_some", "_law_one", "_law_other"] ["_law_cells", "_law_value_here"] (defScope s_law_reckoned) := ⟨rfl, rfl, rfl, by decide +kernel, rfl, by decide +kernel, by decide +kernel⟩
abbrev s_law_same : Stmt := top 46
theorem sc_law_same : FnScope ["_law_found", "_law_due_here", "_law_k"] ["_law_found", "_law_due_here"] (defScope s_law_same) := ⟨rfl, rfl, rfl, by decide +kernel, rfl, by decide +kernel, by decide +kernel⟩
abbrev s_law_book : Stmt := top 47
theorem sc_law_book : FnScope ["_law_found", "_law_due_here", "_law_name_here"] ["_law_found", "_law_due_here"] (defScope s_law_book) := ⟨rfl, rfl, rfl, by decide +kernel, rfl, by decide +kernel, by decide +kernel⟩
abbrev s_law_due : Stmt := top 48
theorem sc_law_due : FnScope ["_law_kind", "_law_cells", "_law_names", "_law_at", "_law_place", "_law_value_here", "_law_told", "_law_ends"] ["_law_kind", "_law_cells", "_law_names", "_law_at", "_law_place", "_law_value_here"] (defScope s_law_due) := ⟨rfl, rfl, rfl, by decide +kernel, rfl, by decide +kernel, by decide +kernel⟩
abbrev s_law_empty : Stmt := top 49
theorem sc_law_empty : FnScope ["_law_one", "_law_other", "_law_lists", "_law_found"] [] (defScope s_law_empty) := ⟨rfl, rfl, rfl, by decide +kernel, rfl, by decide +kernel, by decide +kernel⟩
abbrev s_law : Stmt := top 50
theorem sc_law : FnScope ["_law_script", "_law_names", "_law_kind", "_law_value_here", "_law_place", "_law_rows", "_law_program", "_law_gifts_here", "_law_cells", "_law_due_here", "_law_found"] ["_law_script"] (defScope s_law) := ⟨rfl, rfl, rfl, by decide +kernel, rfl, by decide +kernel, by decide +kernel⟩
abbrev s_Book_init : Stmt := inClass (top 2) 0
theorem sc_Book_init : FnScope ["self"] ["self"] (defScope s_Book_init) := ⟨rfl, rfl, rfl, by decide +kernel, rfl, by decide +kernel, by decide +kernel⟩
abbrev s_Row_init : Stmt := inClass (top 7) 0
theorem sc_Row_init : FnScope ["self", "number"] ["self", "number"] (defScope s_Row_init) := ⟨rfl, rfl, rfl, by decide +kernel, rfl, by decide +kernel, by decide +kernel⟩
abbrev s_Row_reads : Stmt := inClass (top 7) 1
abbrev s_Row_target : Stmt := inClass (top 7) 2
abbrev s_HandRow_init : Stmt := inClass (top 8) 0
theorem sc_HandRow_init : FnScope ["self", "number", "name", "rank"] ["self", "number", "name", "rank"] (defScope s_HandRow_init) := ⟨rfl, rfl, rfl, by decide +kernel, rfl, by decide +kernel, by decide +kernel⟩
abbrev s_HandRow_shown : Stmt := inClass (top 8) 1
abbrev s_GivenRow_init : Stmt := inClass (top 9) 0
theorem sc_GivenRow_init : FnScope ["self", "number", "name", "rank", "size"] ["self", "number", "name", "rank", "size"] (defScope s_GivenRow_init) := ⟨rfl, rfl, rfl, by decide +kernel, rfl, by decide +kernel, by decide +kernel⟩
abbrev s_GivenRow_shown : Stmt := inClass (top 9) 1
abbrev s_OwnRow_init : Stmt := inClass (top 10) 0
theorem sc_OwnRow_init : FnScope ["self", "number", "name", "size"] ["self", "number", "name", "size"] (defScope s_OwnRow_init) := ⟨rfl, rfl, rfl, by decide +kernel, rfl, by decide +kernel, by decide +kernel⟩
abbrev s_OwnRow_shown : Stmt := inClass (top 10) 1
abbrev s_LetRow_init : Stmt := inClass (top 11) 0
theorem sc_LetRow_init : FnScope ["self", "number", "name", "rank"] ["self", "number", "name", "rank"] (defScope s_LetRow_init) := ⟨rfl, rfl, rfl, by decide +kernel, rfl, by decide +kernel, by decide +kernel⟩
abbrev s_LetRow_shown : Stmt := inClass (top 11) 1
abbrev s_SetRow_init : Stmt := inClass (top 12) 0
theorem sc_SetRow_init : FnScope ["self", "number", "name", "value"] ["self", "number", "name", "value"] (defScope s_SetRow_init) := ⟨rfl, rfl, rfl, by decide +kernel, rfl, by decide +kernel, by decide +kernel⟩
abbrev s_SetRow_shown : Stmt := inClass (top 12) 1
abbrev s_SetRow_reads : Stmt := inClass (top 12) 2
abbrev s_SetRow_target : Stmt := inClass (top 12) 3
abbrev s_PutRow_init : Stmt := inClass (top 13) 0
theorem sc_PutRow_init : FnScope ["self", "number", "name", "place", "value"] ["self", "number", "name", "place", "value"] (defScope s_PutRow_init) := ⟨rfl, rfl, rfl, by decide +kernel, rfl, by decide +kernel, by decide +kernel⟩
abbrev s_PutRow_shown : Stmt := inClass (top 13) 1
abbrev s_PutRow_reads : Stmt := inClass (top 13) 2
abbrev s_PutRow_target : Stmt := inClass (top 13) 3
abbrev s_SendRow_init : Stmt := inClass (top 14) 0
theorem sc_SendRow_init : FnScope ["self", "number", "name", "value"] ["self", "number", "name", "value"] (defScope s_SendRow_init) := ⟨rfl, rfl, rfl, by decide +kernel, rfl, by decide +kernel, by decide +kernel⟩
abbrev s_SendRow_shown : Stmt := inClass (top 14) 1
abbrev s_SendRow_reads : Stmt := inClass (top 14) 2
abbrev s_SayRow_init : Stmt := inClass (top 15) 0
theorem sc_SayRow_init : FnScope ["self", "number", "name", "value", "mark"] ["self", "number", "name", "value", "mark"] (defScope s_SayRow_init) := ⟨rfl, rfl, rfl, by decide +kernel, rfl, by decide +kernel, by decide +kernel⟩
abbrev s_SayRow_shown : Stmt := inClass (top 15) 1
abbrev s_SayRow_reads : Stmt := inClass (top 15) 2
abbrev s_SayRow_target : Stmt := inClass (top 15) 3
abbrev s_CallRow_init : Stmt := inClass (top 16) 0
abbrev s_CallRow_shown : Stmt := inClass (top 16) 1
abbrev s_CallRow_reads : Stmt := inClass (top 16) 2
abbrev s_LastRow_shown : Stmt := inClass (top 17) 0
abbrev s_IfRow_init : Stmt := inClass (top 18) 0
abbrev s_IfRow_shown : Stmt := inClass (top 18) 1
abbrev s_IfRow_reads : Stmt := inClass (top 18) 2
abbrev s_LoopRow_init : Stmt := inClass (top 19) 0
abbrev s_LoopRow_shown : Stmt := inClass (top 19) 1
abbrev s_LoopRow_reads : Stmt := inClass (top 19) 2
abbrev s_Program_init : Stmt := inClass (top 20) 0
theorem sc_Program_init : FnScope ["self", "heads", "deeds", "main"] ["self", "heads", "deeds", "main"] (defScope s_Program_init) := ⟨rfl, rfl, rfl, by decide +kernel, rfl, by decide +kernel, by decide +kernel⟩
abbrev s_Run_init : Stmt := inClass (top 33) 0
theorem sc_Run_init : FnScope ["self", "program", "cells", "deed"] ["self", "program", "cells"] (defScope s_Run_init) := ⟨rfl, rfl, rfl, by decide +kernel, rfl, by decide +kernel, by decide +kernel⟩
abbrev s_Run_number_at : Stmt := inClass (top 33) 1
theorem sc_Run_number_at : FnScope ["self", "thing"] ["self", "thing"] (defScope s_Run_number_at) := ⟨rfl, rfl, rfl, by decide +kernel, rfl, by decide +kernel, by decide +kernel⟩
abbrev s_Run_number_for : Stmt := inClass (top 33) 2
theorem sc_Run_number_for : FnScope ["self", "value", "behind", "numbers"] ["self", "value"] (defScope s_Run_number_for) := ⟨rfl, rfl, rfl, by decide +kernel, rfl, by decide +kernel, by decide +kernel⟩
abbrev s_Run_number_told : Stmt := inClass (top 33) 3
theorem sc_Run_number_told : FnScope ["self", "row"] ["self", "row"] (defScope s_Run_number_told) := ⟨rfl, rfl, rfl, by decide +kernel, rfl, by decide +kernel, by decide +kernel⟩
abbrev s_Run_pass_steps : Stmt := inClass (top 33) 4
theorem sc_Run_pass_steps : FnScope ["self", "count", "book"] ["self", "count"] (defScope s_Run_pass_steps) := ⟨rfl, rfl, rfl, by decide +kernel, rfl, by decide +kernel, by decide +kernel⟩
abbrev s_Run_do_rows : Stmt := inClass (top 33) 5
theorem sc_Run_do_rows : FnScope ["self", "rows", "ending", "row"] ["self", "rows"] (defScope s_Run_do_rows) := ⟨rfl, rfl, rfl, by decide +kernel, rfl, by decide +kernel, by decide +kernel⟩
abbrev s_Run_do_row : Stmt := inClass (top 33) 6
theorem sc_Run_do_row : FnScope ["self", "row", "book", "told"] ["self", "row"] (defScope s_Run_do_row) := ⟨rfl, rfl, rfl, by decide +kernel, rfl, by decide +kernel, by decide +kernel⟩
abbrev s_Run_do_put : Stmt := inClass (top 33) 7
theorem sc_Run_do_put : FnScope ["self", "row", "numbers"] ["self", "row"] (defScope s_Run_do_put) := ⟨rfl, rfl, rfl, by decide +kernel, rfl, by decide +kernel, by decide +kernel⟩
abbrev s_Run_do_call : Stmt := inClass (top 33) 8
abbrev s_Run_do_if : Stmt := inClass (top 33) 9
abbrev s_Run_do_loop : Stmt := inClass (top 33) 10
structure Adr where
  Book : Addr
  Row : Addr
  HandRow : Addr
  GivenRow : Addr
  OwnRow : Addr
  LetRow : Addr
  SetRow : Addr
  PutRow : Addr
  SendRow : Addr
  SayRow : Addr
  CallRow : Addr
  LastRow : Addr
  IfRow : Addr
  LoopRow : Addr
  Program : Addr
  Run : Addr
structure Txt (K : PySem.W.Frag) (mg : Str → Option Value) (A : Adr) : Prop where
  is_number : TopFn K mg "is_number" s_is_number ["thing"]
  is_good : TopFn K mg "is_good" s_is_good ["gift", "size"]
  given_cell : TopFn K mg "given_cell" s_given_cell ["given", "gifts"]
  own_cell : TopFn K mg "own_cell" s_own_cell ["own"]
  cells_of : TopFn K mg "cells_of" s_cells_of ["program", "gifts"]
  reckon : TopFn K mg "reckon" s_reckon ["one", "word", "other"]
  round_place : TopFn K mg "round_place" s_round_place ["place", "size"]
  ends_of : TopFn K mg "ends_of" s_ends_of ["program", "cells"]
  run : TopFn K mg "run" s_run ["program", "gifts"]
  law_cell_at : TopFn K mg "_law_cell_at" s_law_cell_at ["_law_script", "_law_k"]
  law_name : TopFn K mg "_law_name" s_law_name ["_law_cell", "_law_k"]
  law_number : TopFn K mg "_law_number" s_law_number ["_law_cell"]
  law_thing : TopFn K mg "_law_thing" s_law_thing ["_law_cell", "_law_names"]
  law_value : TopFn K mg "_law_value" s_law_value ["_law_script", "_law_names"]
  law_heads : TopFn K mg "_law_heads" s_law_heads ["_law_script", "_law_names"]
  law_gifts : TopFn K mg "_law_gifts" s_law_gifts ["_law_script", "_law_names"]
  law_taken : TopFn K mg "_law_taken" s_law_taken ["_law_cells", "_law_thing_here"]
  law_reckoned : TopFn K mg "_law_reckoned" s_law_reckoned ["_law_cells", "_law_value_here"]
  law_same : TopFn K mg "_law_same" s_law_same ["_law_found", "_law_due_here"]
  law_book : TopFn K mg "_law_book" s_law_book ["_law_found", "_law_due_here"]
  law_due : TopFn K mg "_law_due" s_law_due ["_law_kind", "_law_cells", "_law_names", "_law_at", "_law_place", "_law_value_here"]
  law_empty : TopFn K mg "_law_empty" s_law_empty []
  z_all : mg "all" = none
  z_bool : mg "bool" = none
  z_dict : mg "dict" = none
  z_divmod : mg "divmod" = none
  z_int : mg "int" = none
  z_isinstance : mg "isinstance" = none
  z_len : mg "len" = none
  z_list : mg "list" = none
  z_range : mg "range" = none
  z_str : mg "str" = none
  z_tuple : mg "tuple" = none
  c_MOST_NUMBER : ∃ t, mg "MOST_NUMBER" = some (.int 999999999999 t)
  c_ROUND : ∃ t, mg "ROUND" = some (.int 1000000000000 t)
  o_Book : OwnC K mg A.Book "Book" [A.Book]
  m_Book_init : MFn K A.Book "__init__" "Book.__init__" s_Book_init ["self"]
  n_Book_letters : NoAttr K A.Book "letters"
  n_Book_said : NoAttr K A.Book "said"
  n_Book_trace : NoAttr K A.Book "trace"
  n_Book_steps : NoAttr K A.Book "steps"
  n_Book_ends : NoAttr K A.Book "ends"
  o_Row : OwnC K mg A.Row "Row" [A.Row]
  m_Row_init : MFn K A.Row "__init__" "Row.__init__" s_Row_init ["self", "number"]
  o_HandRow : OwnC K mg A.HandRow "HandRow" [A.HandRow, A.Row]
  m_HandRow_init : MFn K A.HandRow "__init__" "HandRow.__init__" s_HandRow_init ["self", "number", "name", "rank"]
  n_HandRow_name : NoAttr K A.HandRow "name"
  n_HandRow_rank : NoAttr K A.HandRow "rank"
  n_HandRow_number : NoAttr K A.HandRow "number"
  o_GivenRow : OwnC K mg A.GivenRow "GivenRow" [A.GivenRow, A.Row]
  m_GivenRow_init : MFn K A.GivenRow "__init__" "GivenRow.__init__" s_GivenRow_init ["self", "number", "name", "rank", "size"]
  n_GivenRow_name : NoAttr K A.GivenRow "name"
  n_GivenRow_rank : NoAttr K A.GivenRow "rank"
  n_GivenRow_size : NoAttr K A.GivenRow "size"
  n_GivenRow_number : NoAttr K A.GivenRow "number"
  o_OwnRow : OwnC K mg A.OwnRow "OwnRow" [A.OwnRow, A.Row]
  m_OwnRow_init : MFn K A.OwnRow "__init__" "OwnRow.__init__" s_OwnRow_init ["self", "number", "name", "size"]
  n_OwnRow_name : NoAttr K A.OwnRow "name"
  n_OwnRow_size : NoAttr K A.OwnRow "size"
  n_OwnRow_number : NoAttr K A.OwnRow "number"
  o_LetRow : OwnC K mg A.LetRow "LetRow" [A.LetRow, A.Row]
  m_LetRow_init : MFn K A.LetRow "__init__" "LetRow.__init__" s_LetRow_init ["self", "number", "name", "rank"]
  n_LetRow_name : NoAttr K A.LetRow "name"
  n_LetRow_rank : NoAttr K A.LetRow "rank"
  n_LetRow_number : NoAttr K A.LetRow "number"
  o_SetRow : OwnC K mg A.SetRow "SetRow" [A.SetRow, A.Row]
  m_SetRow_init : MFn K A.SetRow "__init__" "SetRow.__init__" s_SetRow_init ["self", "number", "name", "value"]
  n_SetRow_name : NoAttr K A.SetRow "name"
  n_SetRow_value : NoAttr K A.SetRow "value"
  n_SetRow_number : NoAttr K A.SetRow "number"
  o_PutRow : OwnC K mg A.PutRow "PutRow" [A.PutRow, A.Row]
  m_PutRow_init : MFn K A.PutRow "__init__" "PutRow.__init__" s_PutRow_init ["self", "number", "name", "place", "value"]
  n_PutRow_name : NoAttr K A.PutRow "name"
  n_PutRow_place : NoAttr K A.PutRow "place"
  n_PutRow_value : NoAttr K A.PutRow "value"
  n_PutRow_number : NoAttr K A.PutRow "number"
  o_SendRow : OwnC K mg A.SendRow "SendRow" [A.SendRow, A.Row]
  m_SendRow_init : MFn K A.SendRow "__init__" "SendRow.__init__" s_SendRow_init ["self", "number", "name", "value"]
  n_SendRow_name : NoAttr K A.SendRow "name"
  n_SendRow_value : NoAttr K A.SendRow "value"
  n_SendRow_number : NoAttr K A.SendRow "number"
  o_SayRow : OwnC K mg A.SayRow "SayRow" [A.SayRow, A.Row]
  m_SayRow_init : MFn K A.SayRow "__init__" "SayRow.__init__" s_SayRow_init ["self", "number", "name", "value", "mark"]
  n_SayRow_name : NoAttr K A.SayRow "name"
  n_SayRow_value : NoAttr K A.SayRow "value"
  n_SayRow_mark : NoAttr K A.SayRow "mark"
  n_SayRow_number : NoAttr K A.SayRow "number"
  o_CallRow : OwnC K mg A.CallRow "CallRow" [A.CallRow, A.Row]
  o_LastRow : OwnC K mg A.LastRow "LastRow" [A.LastRow, A.Row]
  o_IfRow : OwnC K mg A.IfRow "IfRow" [A.IfRow, A.Row]
  o_LoopRow : OwnC K mg A.LoopRow "LoopRow" [A.LoopRow, A.Row]
  o_Program : OwnC K mg A.Program "Program" [A.Program]
  m_Program_init : MFn K A.Program "__init__" "Program.__init__" s_Program_init ["self", "heads", "deeds", "main"]
  n_Program_heads : NoAttr K A.Program "heads"
  n_Program_deeds : NoAttr K A.Program "deeds"
  n_Program_main : NoAttr K A.Program "main"
  o_Run : OwnC K mg A.Run "Run" [A.Run]
  m_Run_init : MFn K A.Run "__init__" "Run.__init__" s_Run_init ["self", "program", "cells"]
  m_Run_number_at : MFn K A.Run "number_at" "Run.number_at" s_Run_number_at ["self", "thing"]
  m_Run_number_for : MFn K A.Run "number_for" "Run.number_for" s_Run_number_for ["self", "value"]
  m_Run_number_told : MFn K A.Run "number_told" "Run.number_told" s_Run_number_told ["self", "row"]
  m_Run_pass_steps : MFn K A.Run "pass_steps" "Run.pass_steps" s_Run_pass_steps ["self", "count"]
  m_Run_do_rows : MFn K A.Run "do_rows" "Run.do_rows" s_Run_do_rows ["self", "rows"]
  m_Run_do_row : MFn K A.Run "do_row" "Run.do_row" s_Run_do_row ["self", "row"]
  m_Run_do_put : MFn K A.Run "do_put" "Run.do_put" s_Run_do_put ["self", "row"]
  n_Run_deeds : NoAttr K A.Run "deeds"
  n_Run_cells : NoAttr K A.Run "cells"
  n_Run_book : NoAttr K A.Run "book"
  of_Row_init : OfC K A.Row "__init__"
  nd : [A.Book, A.Row, A.HandRow, A.GivenRow, A.OwnRow, A.LetRow, A.SetRow, A.PutRow, A.SendRow, A.SayRow, A.CallRow, A.LastRow, A.IfRow, A.LoopRow, A.Program, A.Run].Nodup
end K22

set_option Elab.async false
set_option linter.all false
set_option maxRecDepth 100000
set_option maxHeartbeats 4000000
namespace K22
open PySem L2
section
variable {P : Program} {w : World} {K : PySem.W.Frag} {mg : Str → Option Value} {base : Heap} {A : Adr}
theorem kit_ii : PySem.W.kitOne K (.type "int") (.type "int") = some true := by kernel_rfl!
theorem kit_ib : PySem.W.kitOne K (.type "int") (.type "bool") = some false := by kernel_rfl!
theorem kit_tt : PySem.W.kitOne K (.type "tuple") (.type "tuple") = some true := by kernel_rfl!
theorem kit_ll : PySem.W.kitOne K (.type "list") (.type "list") = some true := by kernel_rfl!
theorem kit_dd : PySem.W.kitOne K (.type "dict") (.type "dict") = some true := by kernel_rfl!
theorem sz {n : Nat} (h : n ≤ 1000) : n ≤ sizeLine := Nat.le_of_lt (small1000 h)
theorem mod_in (x : Int) {m : Int} (hm : 0 < m) : 0 ≤ x % m ∧ x % m < m := ⟨Int.emod_nonneg x (show m ≠ 0 by omega), Int.emod_lt_of_pos x hm⟩
theorem vint (i j : Int) : decide (V.int i = V.int j) = decide (i = j) := decide_eq_decide.mpr ⟨fun h => V.int.inj h, fun h => by rw [h]⟩
theorem filter_true {α : Type} (xs : List α) : xs.filter (fun _ => true) = xs := List.filter_eq_self.mpr fun _ _ => rfl
theorem small_mul {a b : Int} (h0 : -(2 ^ 64) < a) (h1 : a < 2 ^ 64) : CMul a b := Or.inl ⟨h0, h1⟩
def sp_cell_at (K : PySem.W.Frag) : Sp := fun vs H Q _ => ∃ (a : Addr) (ns : List Int) (k : Int), vs = [.ref a, .int k] ∧ SqL K H a (ns.map V.int) ∧ 0 ≤ k ∧ ∀ n : Int, Q (.int n) H
end
end K22

set_option Elab.async false
set_option linter.all false
set_option maxRecDepth 100000
set_option maxHeartbeats 4000000
namespace K22
open PySem L2
section
variable {P : Program} {w : World} {K : PySem.W.Frag} {mg : Str → Option Value} {base : Heap} {A : Adr}
def sp_Row_init (K : PySem.W.Frag) (A : Adr) : Sp := fun vs H Q _ => ∃ (x C dx : Addr) (fs : List (Str × V)) (n : V), vs = [.ref x, n] ∧ H x = some (.ins C dx fs) ∧ Cls K C ∧ NoAttr K C "number" ∧ fs.length < 1000 ∧ Q .non (upd H x (.ins C dx (putF "number" n fs)))
theorem h_Row_init_of {C : Addr} (F : MFn K C "__init__" "Row.__init__" s_Row_init ["self", "number"]) : HasM P w K mg base 2 C "__init__" ["self", "number"] (sp_Row_init K A) := by
  refine F.has (k := 1) sc_Row_init (fun vs H Q E h => ?_) (fun f cdv A' outer s H vs Q E hr hu h => ?_)
  · obtain ⟨x, C, dx, fs, n, rfl, _⟩ := h
    rfl
  · obtain ⟨x, C, dx, fs, n, rfl, hx, c, na, hl, q⟩ := h
    refine ⟨_, (pss_one (ps_fld (fv 0) (fv 1) rfl)), ?_⟩
    exact ⟨x, C, dx, fs, rfl, hx, c, na, hl, q⟩
theorem h_Row_init (T : Txt K mg A) : HasM P w K mg base 2 A.Row "__init__" ["self", "number"] (sp_Row_init K A) := h_Row_init_of T.m_Row_init
def sp_HandRow_init (K : PySem.W.Frag) (A : Adr) : Sp := fun vs H Q _ => ∃ (x dx : Addr) (v_number v_name v_rank : V), vs = [.ref x, v_number, v_name, v_rank] ∧ H x = some (.ins A.HandRow dx []) ∧ ∀ (H' : Hp), But x H H' → H' x = some (.ins A.HandRow dx [("number", v_number), ("name", v_name), ("rank", v_rank)]) → Q .non H'
theorem h_HandRow_init (T : Txt K mg A) : HasM P w K mg base 3 A.HandRow "__init__" ["self", "number", "name", "rank"] (sp_HandRow_init K A) := by
  have D_Row_init := h_Row_init (P := P) (w := w) (base := base) T
  refine T.m_HandRow_init.has (k := 2) sc_HandRow_init (fun vs H Q E h => ?_) (fun f cdv A' outer s H vs Q E hr hu h => ?_)
  · obtain ⟨x, dx, v_number, v_name, v_rank, rfl, _⟩ := h
    rfl
  · obtain ⟨x, dx, v_number, v_name, v_rank, rfl, hx, q⟩ := h
    refine ⟨_, (pss_cons (ps_expr (pe_callOf T.o_Row T.of_Row_init D_Row_init hr (pa_cons (fv 0) (pa_cons (fv 1) pa_nil))))
    (pss_cons (ps_fld (fv 0) (fv 2) rfl)
    (pss_one (ps_fld (fv 0) (fv 3) rfl)))), ?_⟩
    have b0 : But x H H := But.refl x H
    refine ⟨x, A.HandRow, dx, [], v_number, rfl, hx, T.o_HandRow.cl, T.n_HandRow_number, by decide, ?_⟩
    generalize hg1 : upd H x _ = H1
    have b1 : But x H H1 := hg1 ▸ b0.trans (But.at x _ _)
    have i1 : H1 x = some (.ins A.HandRow dx [("number", v_number)]) := hg1 ▸ upd_same
    refine ⟨x, A.HandRow, dx, [("number", v_number)], rfl, i1, T.o_HandRow.cl, T.n_HandRow_name, by simp, ?_⟩
    generalize hg2 : upd H1 x _ = H2
    have b2 : But x H H2 := hg2 ▸ b1.trans (But.at x _ _)
    have i2 : H2 x = some (.ins A.HandRow dx [("number", v_number), ("name", v_name)]) := hg2 ▸ upd_same
    refine ⟨x, A.HandRow, dx, [("number", v_number), ("name", v_name)], rfl, i2, T.o_HandRow.cl, T.n_HandRow_rank, by simp, ?_⟩
    generalize hg3 : upd H2 x _ = H3
    have b3 : But x H H3 := hg3 ▸ b2.trans (But.at x _ _)
    have i3 : H3 x = some (.ins A.HandRow dx [("number", v_number), ("name", v_name), ("rank", v_rank)]) := hg3 ▸ upd_same
    exact q H3 b3 i3
theorem mk_HandRow {H : Hp} {x dx : Addr} {R : VK} {v_number v_name v_rank : V} (hx : H x = none) (hd : H dx = none) (q : ∀ (H' : Hp), Same H H' → H' x = some (.ins A.HandRow dx [("number", v_number), ("name", v_name), ("rank", v_rank)]) → R .non H') : sp_HandRow_init K A (.ref x :: ([v_number, v_name, v_rank] ++ [])) (upd (upd H dx (.own x)) x (.ins A.HandRow dx [])) R E0 :=
  ⟨x, dx, _, _, _, rfl, upd_same, fun H' b i => q H' (b.same hx hd) i⟩
def sp_GivenRow_init (K : PySem.W.Frag) (A : Adr) : Sp := fun vs H Q _ => ∃ (x dx : Addr) (v_number v_name v_rank v_size : V), vs = [.ref x, v_number, v_name, v_rank, v_size] ∧ H x = some (.ins A.GivenRow dx []) ∧ ∀ (H' : Hp), But x H H' → H' x = some (.ins A.GivenRow dx [("number", v_number), ("name", v_name), ("rank", v_rank), ("size", v_size)]) → Q .non H'
theorem h_GivenRow_init (T : Txt K mg A) : HasM P w K mg base 3 A.GivenRow "__init__" ["self", "number", "name", "rank", "size"] (sp_GivenRow_init K A) := by
  have D_Row_init := h_Row_init (P := P) (w := w) (base := base) T
  refine T.m_GivenRow_init.has (k := 2) sc_GivenRow_init (fun vs H Q E h => ?_) (fun f cdv A' outer s H vs Q E hr hu h => ?_)
  · obtain ⟨x, dx, v_number, v_name, v_rank, v_size, rfl, _⟩ := h
    rfl
  · obtain ⟨x, dx, v_number, v_name, v_rank, v_size, rfl, hx, q⟩ := h
    refine ⟨_, (pss_cons (ps_expr (pe_callOf T.o_Row T.of_Row_init D_Row_init hr (pa_cons (fv 0) (pa_cons (fv 1) pa_nil))))
    (pss_cons (ps_fld (fv 0) (fv 2) rfl)
    (pss_cons (ps_fld (fv 0) (fv 3) rfl)
    (pss_one (ps_fld (fv 0) (fv 4) rfl))))), ?_⟩
    have b0 : But x H H := But.refl x H
    refine ⟨x, A.GivenRow, dx, [], v_number, rfl, hx, T.o_GivenRow.cl, T.n_GivenRow_number, by decide, ?_⟩
    generalize hg1 : upd H x _ = H1
    have b1 : But x H H1 := hg1 ▸ b0.trans (But.at x _ _)
    have i1 : H1 x = some (.ins A.GivenRow dx [("number", v_number)]) := hg1 ▸ upd_same
    refine ⟨x, A.GivenRow, dx, [("number", v_number)], rfl, i1, T.o_GivenRow.cl, T.n_GivenRow_name, by simp, ?_⟩
    generalize hg2 : upd H1 x _ = H2
    have b2 : But x H H2 := hg2 ▸ b1.trans (But.at x _ _)
    have i2 : H2 x = some (.ins A.GivenRow dx [("number", v_number), ("name", v_name)]) := hg2 ▸ upd_same
    refine ⟨x, A.GivenRow, dx, [("number", v_number), ("name", v_name)], rfl, i2, T.o_GivenRow.cl, T.n_GivenRow_rank, by simp, ?_⟩
    generalize hg3 : upd H2 x _ = H3
    have b3 : But x H H3 := hg3 ▸ b2.trans (But.at x _ _)
    have i3 : H3 x = some (.ins A.GivenRow dx [("number", v_number), ("name", v_name), ("rank", v_rank)]) := hg3 ▸ upd_same
    refine ⟨x, A.GivenRow, dx, [("number", v_number), ("name", v_name), ("rank", v_rank)], rfl, i3, T.o_GivenRow.cl, T.n_GivenRow_size, by simp, ?_⟩
    generalize hg4 : upd H3 x _ = H4
    have b4 : But x H H4 := hg4 ▸ b3.trans (But.at x _ _)
    have i4 : H4 x = some (.ins A.GivenRow dx [("number", v_number), ("name", v_name), ("rank", v_rank), ("size", v_size)]) := hg4 ▸ upd_same
    exact q H4 b4 i4
theorem mk_GivenRow {H : Hp} {x dx : Addr} {R : VK} {v_number v_name v_rank v_size : V} (hx : H x = none) (hd : H dx = none) (q : ∀ (H' : Hp), Same H H' → H' x = some (.ins A.GivenRow dx [("number", v_number), ("name", v_name), ("rank", v_rank), ("size", v_size)]) → R .non H') : sp_GivenRow_init K A (.ref x :: ([v_number, v_name, v_rank, v_size] ++ [])) (upd (upd H dx (.own x)) x (.ins A.GivenRow dx [])) R E0 :=
  ⟨x, dx, _, _, _, _, rfl, upd_same, fun H' b i => q H' (b.same hx hd) i⟩
def sp_OwnRow_init (K : PySem.W.Frag) (A : Adr) : Sp := fun vs H Q _ => ∃ (x dx : Addr) (v_number v_name v_size : V), vs = [.ref x, v_number, v_name, v_size] ∧ H x = some (.ins A.OwnRow dx []) ∧ ∀ (H' : Hp), But x H H' → H' x = some (.ins A.OwnRow dx [("number", v_number), ("name", v_name), ("size", v_size)]) → Q .non H'
theorem h_OwnRow_init (T : Txt K mg A) : HasM P w K mg base 3 A.OwnRow "__init__" ["self", "number", "name", "size"] (sp_OwnRow_init K A) := by
  have D_Row_init := h_Row_init (P := P) (w := w) (base := base) T
  refine T.m_OwnRow_init.has (k := 2) sc_OwnRow_init (fun vs H Q E h => ?_) (fun f cdv A' outer s H vs Q E hr hu h => ?_)
  · obtain ⟨x, dx, v_number, v_name, v_size, rfl, _⟩ := h
    rfl
  · obtain ⟨x, dx, v_number, v_name, v_size, rfl, hx, q⟩ := h
    refine ⟨_, (pss_cons (ps_expr (pe_callOf T.o_Row T.of_Row_init D_Row_init hr (pa_cons (fv 0) (pa_cons (fv 1) pa_nil))))
    (pss_cons (ps_fld (fv 0) (fv 2) rfl)
    (pss_one (ps_fld (fv 0) (fv 3) rfl)))), ?_⟩
    have b0 : But x H H := But.refl x H
    refine ⟨x, A.OwnRow, dx, [], v_number, rfl, hx, T.o_OwnRow.cl, T.n_OwnRow_number, by decide, ?_⟩
    generalize hg1 : upd H x _ = H1
    have b1 : But x H H1 := hg1 ▸ b0.trans (But.at x _ _)
    have i1 : H1 x = some (.ins A.OwnRow dx [("number", v_number)]) := hg1 ▸ upd_same
    refine ⟨x, A.OwnRow, dx, [("number", v_number)], rfl, i1, T.o_OwnRow.cl, T.n_OwnRow_name, by simp, ?_⟩
    generalize hg2 : upd H1 x _ = H2
    have b2 : But x H H2 := hg2 ▸ b1.trans (But.at x _ _)
    have i2 : H2 x = some (.ins A.OwnRow dx [("number", v_number), ("name", v_name)]) := hg2 ▸ upd_same
    refine ⟨x, A.OwnRow, dx, [("number", v_number), ("name", v_name)], rfl, i2, T.o_OwnRow.cl, T.n_OwnRow_size, by simp, ?_⟩
    generalize hg3 : upd H2 x _ = H3
    have b3 : But x H H3 := hg3 ▸ b2.trans (But.at x _ _)
    have i3 : H3 x = some (.ins A.OwnRow dx [("number", v_number), ("name", v_name), ("size", v_size)]) := hg3 ▸ upd_same
    exact q H3 b3 i3
theorem mk_OwnRow {H : Hp} {x dx : Addr} {R : VK} {v_number v_name v_size : V} (hx : H x = none) (hd : H dx = none) (q : ∀ (H' : Hp), Same H H' → H' x = some (.ins A.OwnRow dx [("number", v_number), ("name", v_name), ("size", v_size)]) → R .non H') : sp_OwnRow_init K A (.ref x :: ([v_number, v_name, v_size] ++ [])) (upd (upd H dx (.own x)) x (.ins A.OwnRow dx [])) R E0 :=
  ⟨x, dx, _, _, _, rfl, upd_same, fun H' b i => q H' (b.same hx hd) i⟩
def sp_LetRow_init (K : PySem.W.Frag) (A : Adr) : Sp := fun vs H Q _ => ∃ (x dx : Addr) (v_number v_name v_rank : V), vs = [.ref x, v_number, v_name, v_rank] ∧ H x = some (.ins A.LetRow dx []) ∧ ∀ (H' : Hp), But x H H' → H' x = some (.ins A.LetRow dx [("number", v_number), ("name", v_name), ("rank", v_rank)]) → Q .non H'
theorem h_LetRow_init (T : Txt K mg A) : HasM P w K mg base 3 A.LetRow "__init__" ["self", "number", "name", "rank"] (sp_LetRow_init K A) := by
  have D_Row_init := h_Row_init (P := P) (w := w) (base := base) T
  refine T.m_LetRow_init.has (k := 2) sc_LetRow_init (fun vs H Q E h => ?_) (fun f cdv A' outer s H vs Q E hr hu h => ?_)
  · obtain ⟨x, dx, v_number, v_name, v_rank, rfl, _⟩ := h
    rfl
  · obtain ⟨x, dx, v_number, v_name, v_rank, rfl, hx, q⟩ := h
    refine ⟨_, (pss_cons (ps_expr (pe_callOf T.o_Row T.of_Row_init D_Row_init hr (pa_cons (fv 0) (pa_cons (fv 1) pa_nil))))
    (pss_cons (ps_fld (fv 0) (fv 2) rfl)
    (pss_one (ps_fld (fv 0) (fv 3) rfl)))), ?_⟩
    have b0 : But x H H := But.refl x H
    refine ⟨x, A.LetRow, dx, [], v_number, rfl, hx, T.o_LetRow.cl, T.n_LetRow_number, by decide, ?_⟩
    generalize hg1 : upd H x _ = H1
    have b1 : But x H H1 := hg1 ▸ b0.trans (But.at x _ _)
    have i1 : H1 x = some (.ins A.LetRow dx [("number", v_number)]) := hg1 ▸ upd_same
    refine ⟨x, A.LetRow, dx, [("number", v_number)], rfl, i1, T.o_LetRow.cl, T.n_LetRow_name, by simp, ?_⟩
    generalize hg2 : upd H1 x _ = H2
    have b2 : But x H H2 := hg2 ▸ b1.trans (But.at x _ _)
    have i2 : H2 x = some (.ins A.LetRow dx [("number", v_number), ("name", v_name)]) := hg2 ▸ upd_same
    refine ⟨x, A.LetRow, dx, [("number", v_number), ("name", v_name)], rfl, i2, T.o_LetRow.cl, T.n_LetRow_rank, by simp, ?_⟩
    generalize hg3 : upd H2 x _ = H3
    have b3 : But x H H3 := hg3 ▸ b2.trans (But.at x _ _)
    have i3 : H3 x = some (.ins A.LetRow dx [("number", v_number), ("name", v_name), ("rank", v_rank)]) := hg3 ▸ upd_same
    exact q H3 b3 i3
theorem mk_LetRow {H : Hp} {x dx : Addr} {R : VK} {v_number v_name v_rank : V} (hx : H x = none) (hd : H dx = none) (q : ∀ (H' : Hp), Same H H' → H' x = some (.ins A.LetRow dx [("number", v_number), ("name", v_name), ("rank", v_rank)]) → R .non H') : sp_LetRow_init K A (.ref x :: ([v_number, v_name, v_rank] ++ [])) (upd (upd H dx (.own x)) x (.ins A.LetRow dx [])) R E0 :=
  ⟨x, dx, _, _, _, rfl, upd_same, fun H' b i => q H' (b.same hx hd) i⟩
def sp_SetRow_init (K : PySem.W.Frag) (A : Adr) : Sp := fun vs H Q _ => ∃ (x dx : Addr) (v_number v_name v_value : V), vs = [.ref x, v_number, v_name, v_value] ∧ H x = some (.ins A.SetRow dx []) ∧ ∀ (H' : Hp), But x H H' → H' x = some (.ins A.SetRow dx [("number", v_number), ("name", v_name), ("value", v_value)]) → Q .non H'
theorem h_SetRow_init (T : Txt K mg A) : HasM P w K mg base 3 A.SetRow "__init__" ["self", "number", "name", "value"] (sp_SetRow_init K A) := by
  have D_Row_init := h_Row_init (P := P) (w := w) (base := base) T
  refine T.m_SetRow_init.has (k := 2) sc_SetRow_init (fun vs H Q E h => ?_) (fun f cdv A' outer s H vs Q E hr hu h => ?_)
  · obtain ⟨x, dx, v_number, v_name, v_value, rfl, _⟩ := h
    rfl
  · obtain ⟨x, dx, v_number, v_name, v_value, rfl, hx, q⟩ := h
    refine ⟨_, (pss_cons (ps_expr (pe_callOf T.o_Row T.of_Row_init D_Row_init hr (pa_cons (fv 0) (pa_cons (fv 1) pa_nil))))
    (pss_cons (ps_fld (fv 0) (fv 2) rfl)
    (pss_one (ps_fld (fv 0) (fv 3) rfl)))), ?_⟩
    have b0 : But x H H := But.refl x H
    refine ⟨x, A.SetRow, dx, [], v_number, rfl, hx, T.o_SetRow.cl, T.n_SetRow_number, by decide, ?_⟩
    generalize hg1 : upd H x _ = H1
    have b1 : But x H H1 := hg1 ▸ b0.trans (But.at x _ _)
    have i1 : H1 x = some (.ins A.SetRow dx [("number", v_number)]) := hg1 ▸ upd_same
    refine ⟨x, A.SetRow, dx, [("number", v_number)], rfl, i1, T.o_SetRow.cl, T.n_SetRow_name, by simp, ?_⟩
    generalize hg2 : upd H1 x _ = H2
    have b2 : But x H H2 := hg2 ▸ b1.trans (But.at x _ _)
    have i2 : H2 x = some (.ins A.SetRow dx [("number", v_number), ("name", v_name)]) := hg2 ▸ upd_same
    refine ⟨x, A.SetRow, dx, [("number", v_number), ("name", v_name)], rfl, i2, T.o_SetRow.cl, T.n_SetRow_value, by simp, ?_⟩
    generalize hg3 : upd H2 x _ = H3
    have b3 : But x H H3 := hg3 ▸ b2.trans (But.at x _ _)
    have i3 : H3 x = some (.ins A.SetRow dx [("number", v_number), ("name", v_name), ("value", v_value)]) := hg3 ▸ upd_same
    exact q H3 b3 i3
theorem mk_SetRow {H : Hp} {x dx : Addr} {R : VK} {v_number v_name v_value : V} (hx : H x = none) (hd : H dx = none) (q : ∀ (H' : Hp), Same H H' → H' x = some (.ins A.SetRow dx [("number", v_number), ("name", v_name), ("value", v_value)]) → R .non H') : sp_SetRow_init K A (.ref x :: ([v_number, v_name, v_value] ++ [])) (upd (upd H dx (.own x)) x (.ins A.SetRow dx [])) R E0 :=
  ⟨x, dx, _, _, _, rfl, upd_same, fun H' b i => q H' (b.same hx hd) i⟩
def sp_PutRow_init (K : PySem.W.Frag) (A : Adr) : Sp := fun vs H Q _ => ∃ (x dx : Addr) (v_number v_name v_place v_value : V), vs = [.ref x, v_number, v_name, v_place, v_value] ∧ H x = some (.ins A.PutRow dx []) ∧ ∀ (H' : Hp), But x H H' → H' x = some (.ins A.PutRow dx [("number", v_number), ("name", v_name), ("place", v_place), ("value", v_value)]) → Q .non H'
theorem h_PutRow_init (T : Txt K mg A) : HasM P w K mg base 3 A.PutRow "__init__" ["self", "number", "name", "place", "value"] (sp_PutRow_init K A) := by
  have D_Row_init := h_Row_init (P := P) (w := w) (base := base) T
  refine T.m_PutRow_init.has (k := 2) sc_PutRow_init (fun vs H Q E h => ?_) (fun f cdv A' outer s H vs Q E hr hu h => ?_)
  · obtain ⟨x, dx, v_number, v_name, v_place, v_value, rfl, _⟩ := h
    rfl
  · obtain ⟨x, dx, v_number, v_name, v_place, v_value, rfl, hx, q⟩ := h
    refine ⟨_, (pss_cons (ps_expr (pe_callOf T.o_Row T.of_Row_init D_Row_init hr (pa_cons (fv 0) (pa_cons (fv 1) pa_nil))))
    (pss_cons (ps_fld (fv 0) (fv 2) rfl)
    (pss_cons (ps_fld (fv 0) (fv 3) rfl)
    (pss_one (ps_fld (fv 0) (fv 4) rfl))))), ?_⟩
    have b0 : But x H H := But.refl x H
    refine ⟨x, A.PutRow, dx, [], v_number, rfl, hx, T.o_PutRow.cl, T.n_PutRow_number, by decide, ?_⟩
    generalize hg1 : upd H x _ = H1
    have b1 : But x H H1 := hg1 ▸ b0.trans (But.at x _ _)
    have i1 : H1 x = some (.ins A.PutRow dx [("number", v_number)]) := hg1 ▸ upd_same
    refine ⟨x, A.PutRow, dx, [("number", v_number)], rfl, i1, T.o_PutRow.cl, T.n_PutRow_name, by simp, ?_⟩
    generalize hg2 : upd H1 x _ = H2
    have b2 : But x H H2 := hg2 ▸ b1.trans (But.at x _ _)
    have i2 : H2 x = some (.ins A.PutRow dx [("number", v_number), ("name", v_name)]) := hg2 ▸ upd_same
    refine ⟨x, A.PutRow, dx, [("number", v_number), ("name", v_name)], rfl, i2, T.o_PutRow.cl, T.n_PutRow_place, by simp, ?_⟩
    generalize hg3 : upd H2 x _ = H3
    have b3 : But x H H3 := hg3 ▸ b2.trans (But.at x _ _)
    have i3 : H3 x = some (.ins A.PutRow dx [("number", v_number), ("name", v_name), ("place", v_place)]) := hg3 ▸ upd_same
    refine ⟨x, A.PutRow, dx, [("number", v_number), ("name", v_name), ("place", v_place)], rfl, i3, T.o_PutRow.cl, T.n_PutRow_value, by simp, ?_⟩
    generalize hg4 : upd H3 x _ = H4
    have b4 : But x H H4 := hg4 ▸ b3.trans (But.at x _ _)
    have i4 : H4 x = some (.ins A.PutRow dx [("number", v_number), ("name", v_name), ("place", v_place), ("value", v_value)]) := hg4 ▸ upd_same
    exact q H4 b4 i4
theorem mk_PutRow {H : Hp} {x dx : Addr} {R : VK} {v_number v_name v_place v_value : V} (hx : H x = none) (hd : H dx = none) (q : ∀ (H' : Hp), Same H H' → H' x = some (.ins A.PutRow dx [("number", v_number), ("name", v_name), ("place", v_place), ("value", v_value)]) → R .non H') : sp_PutRow_init K A (.ref x :: ([v_number, v_name, v_place, v_value] ++ [])) (upd (upd H dx (.own x)) x (.ins A.PutRow dx [])) R E0 :=
  ⟨x, dx, _, _, _, _, rfl, upd_same, fun H' b i => q H' (b.same hx hd) i⟩
def sp_SendRow_init (K : PySem.W.Frag) (A : Adr) : Sp := fun vs H Q _ => ∃ (x dx : Addr) (v_number v_name v_value : V), vs = [.ref x, v_number, v_name, v_value] ∧ H x = some (.ins A.SendRow dx []) ∧ ∀ (H' : Hp), But x H H' → H' x = some (.ins A.SendRow dx [("number", v_number), ("name", v_name), ("value", v_value)]) → Q .non H'
theorem h_SendRow_init (T : Txt K mg A) : HasM P w K mg base 3 A.SendRow "__init__" ["self", "number", "name", "value"] (sp_SendRow_init K A) := by
  have D_Row_init := h_Row_init (P := P) (w := w) (base := base) T
  refine T.m_SendRow_init.has (k := 2) sc_SendRow_init (fun vs H Q E h => ?_) (fun f cdv A' outer s H vs Q E hr hu h => ?_)
  · obtain ⟨x, dx, v_number, v_name, v_value, rfl, _⟩ := h
    rfl
  · obtain ⟨x, dx, v_number, v_name, v_value, rfl, hx, q⟩ := h
    refine ⟨_, (pss_cons (ps_expr (pe_callOf T.o_Row T.of_Row_init D_Row_init hr (pa_cons (fv 0) (pa_cons (fv 1) pa_nil))))
    (pss_cons (ps_fld (fv 0) (fv 2) rfl)
    (pss_one (ps_fld (fv 0) (fv 3) rfl)))), ?_⟩
    have b0 : But x H H := But.refl x H
    refine ⟨x, A.SendRow, dx, [], v_number, rfl, hx, T.o_SendRow.cl, T.n_SendRow_number, by decide, ?_⟩
    generalize hg1 : upd H x _ = H1
    have b1 : But x H H1 := hg1 ▸ b0.trans (But.at x _ _)
    have i1 : H1 x = some (.ins A.SendRow dx [("number", v_number)]) := hg1 ▸ upd_same
    refine ⟨x, A.SendRow, dx, [("number", v_number)], rfl, i1, T.o_SendRow.cl, T.n_SendRow_name, by simp, ?_⟩
    generalize hg2 : upd H1 x _ = H2
    have b2 : But x H H2 := hg2 ▸ b1.trans (But.at x _ _)
    have i2 : H2 x = some (.ins A.SendRow dx [("number", v_number), ("name", v_name)]) := hg2 ▸ upd_same
    refine ⟨x, A.SendRow, dx, [("number", v_number), ("name", v_name)], rfl, i2, T.o_SendRow.cl, T.n_SendRow_value, by simp, ?_⟩
    generalize hg3 : upd H2 x _ = H3
    have b3 : But x H H3 := hg3 ▸ b2.trans (But.at x _ _)
    have i3 : H3 x = some (.ins A.SendRow dx [("number", v_number), ("name", v_name), ("value", v_value)]) := hg3 ▸ upd_same
    exact q H3 b3 i3
theorem mk_SendRow {H : Hp} {x dx : Addr} {R : VK} {v_number v_name v_value : V} (hx : H x = none) (hd : H dx = none) (q : ∀ (H' : Hp), Same H H' → H' x = some (.ins A.SendRow dx [("number", v_number), ("name", v_name), ("value", v_value)]) → R .non H') : sp_SendRow_init K A (.ref x :: ([v_number, v_name, v_value] ++ [])) (upd (upd H dx (.own x)) x (.ins A.SendRow dx [])) R E0 :=
  ⟨x, dx, _, _, _, rfl, upd_same, fun H' b i => q H' (b.same hx hd) i⟩
def sp_SayRow_init (K : PySem.W.Frag) (A : Adr) : Sp := fun vs H Q _ => ∃ (x dx : Addr) (v_number v_name v_value v_mark : V), vs = [.ref x, v_number, v_name, v_value, v_mark] ∧ H x = some (.ins A.SayRow dx []) ∧ ∀ (H' : Hp), But x H H' → H' x = some (.ins A.SayRow dx [("number", v_number), ("name", v_name), ("value", v_value), ("mark", v_mark)]) → Q .non H'
theorem h_SayRow_init (T : Txt K mg A) : HasM P w K mg base 3 A.SayRow "__init__" ["self", "number", "name", "value", "mark"] (sp_SayRow_init K A) := by
  have D_Row_init := h_Row_init (P := P) (w := w) (base := base) T
  refine T.m_SayRow_init.has (k := 2) sc_SayRow_init (fun vs H Q E h => ?_) (fun f cdv A' outer s H vs Q E hr hu h => ?_)
  · obtain ⟨x, dx, v_number, v_name, v_value, v_mark, rfl, _⟩ := h
    rfl
  · obtain ⟨x, dx, v_number, v_name, v_value, v_mark, rfl, hx, q⟩ := h
    refine ⟨_, (pss_cons (ps_expr (pe_callOf T.o_Row T.of_Row_init D_Row_init hr (pa_cons (fv 0) (pa_cons (fv 1) pa_nil))))
    (pss_cons (ps_fld (fv 0) (fv 2) rfl)
    (pss_cons (ps_fld (fv 0) (fv 3) rfl)
    (pss_one (ps_fld (fv 0) (fv 4) rfl))))), ?_⟩
    have b0 : But x H H := But.refl x H
    refine ⟨x, A.SayRow, dx, [], v_number, rfl, hx, T.o_SayRow.cl, T.n_SayRow_number, by decide, ?_⟩
    generalize hg1 : upd H x _ = H1
    have b1 : But x H H1 := hg1 ▸ b0.trans (But.at x _ _)
    have i1 : H1 x = some (.ins A.SayRow dx [("number", v_number)]) := hg1 ▸ upd_same
    refine ⟨x, A.SayRow, dx, [("number", v_number)], rfl, i1, T.o_SayRow.cl, T.n_SayRow_name, by simp, ?_⟩
    generalize hg2 : upd H1 x _ = H2
    have b2 : But x H H2 := hg2 ▸ b1.trans (But.at x _ _)
    have i2 : H2 x = some (.ins A.SayRow dx [("number", v_number), ("name", v_name)]) := hg2 ▸ upd_same
    refine ⟨x, A.SayRow, dx, [("number", v_number), ("name", v_name)], rfl, i2, T.o_SayRow.cl, T.n_SayRow_value, by simp, ?_⟩
    generalize hg3 : upd H2 x _ = H3
    have b3 : But x H H3 := hg3 ▸ b2.trans (But.at x _ _)
    have i3 : H3 x = some (.ins A.SayRow dx [("number", v_number), ("name", v_name), ("value", v_value)]) := hg3 ▸ upd_same
    refine ⟨x, A.SayRow, dx, [("number", v_number), ("name", v_name), ("value", v_value)], rfl, i3, T.o_SayRow.cl, T.n_SayRow_mark, by simp, ?_⟩
    generalize hg4 : upd H3 x _ = H4
    have b4 : But x H H4 := hg4 ▸ b3.trans (But.at x _ _)
    have i4 : H4 x = some (.ins A.SayRow dx [("number", v_number), ("name", v_name), ("value", v_value), ("mark", v_mark)]) := hg4 ▸ upd_same
    exact q H4 b4 i4
theorem mk_SayRow {H : Hp} {x dx : Addr} {R : VK} {v_number v_name v_value v_mark : V} (hx : H x = none) (hd : H dx = none) (q : ∀ (H' : Hp), Same H H' → H' x = some (.ins A.SayRow dx [("number", v_number), ("name", v_name), ("value", v_value), ("mark", v_mark)]) → R .non H') : sp_SayRow_init K A (.ref x :: ([v_number, v_name, v_value, v_mark] ++ [])) (upd (upd H dx (.own x)) x (.ins A.SayRow dx [])) R E0 :=
  ⟨x, dx, _, _, _, _, rfl, upd_same, fun H' b i => q H' (b.same hx hd) i⟩
def sp_Program_init (K : PySem.W.Frag) (A : Adr) : Sp := fun vs H Q _ => ∃ (x dx : Addr) (t_heads : Addr) (l_heads : List V) (t_deeds : Addr) (l_deeds : List V) (t_main : Addr) (l_main : List V), vs = [.ref x, .ref t_heads, .ref t_deeds, .ref t_main] ∧ H x = some (.ins A.Program dx []) ∧ SqL K H t_heads l_heads ∧ SqL K H t_deeds l_deeds ∧ SqL K H t_main l_main ∧ ∀ (n_heads n_deeds n_main : Addr) (H' : Hp), H n_heads = none → H n_deeds = none → H n_main = none → n_heads ≠ n_deeds → n_heads ≠ n_main → n_deeds ≠ n_main → But x H H' → H' n_heads = some (.lst l_heads) → H' n_deeds = some (.lst l_deeds) → H' n_main = some (.lst l_main) → H' x = some (.ins A.Program dx [("heads", .ref n_heads), ("deeds", .ref n_deeds), ("main", .ref n_main)]) → Q .non H'
theorem h_Program_init (T : Txt K mg A) : HasM P w K mg base 3 A.Program "__init__" ["self", "heads", "deeds", "main"] (sp_Program_init K A) := by
  refine T.m_Program_init.has (k := 2) sc_Program_init (fun vs H Q E h => ?_) (fun f cdv A' outer s H vs Q E hr hu h => ?_)
  · obtain ⟨x, dx, t_heads, l_heads, t_deeds, l_deeds, t_main, l_main, rfl, _⟩ := h
    rfl
  · obtain ⟨x, dx, t_heads, l_heads, t_deeds, l_deeds, t_main, l_main, rfl, hx, s_heads, s_deeds, s_main, q⟩ := h
    refine ⟨_, (pss_cons (ps_fld (fv 0) (pe_callTy c_list rfl T.z_list (by boot_by_name) (pa_cons (fv 1) pa_nil)) rfl)
    (pss_cons (ps_fld (fv 0) (pe_callTy c_list rfl T.z_list (by boot_by_name) (pa_cons (fv 2) pa_nil)) rfl)
    (pss_one (ps_fld (fv 0) (pe_callTy c_list rfl T.z_list (by boot_by_name) (pa_cons (fv 3) pa_nil)) rfl)))), ?_⟩
    have b0 : But x H H := But.refl x H
    refine ⟨_, l_heads, rfl, .inl (SqL.but s_heads hx b0), fun n_heads f_heads => ?_⟩
    have e_heads : n_heads ≠ x := fun z => by rw [z] at f_heads; exact absurd (f_heads.symm.trans hx) (by intro z; cases z)
    have a_heads : H n_heads = none := b0.none e_heads f_heads
    generalize hg1 : upd H n_heads (HO.lst l_heads) = H1
    have b1 : But x H H1 := hg1 ▸ b0.trans (But.new f_heads _)
    have i1 : H1 x = some (.ins A.Program dx []) := hg1 ▸ (upd_ne (Ne.symm e_heads)).trans hx
    have k1_heads : H1 n_heads = some (.lst l_heads) := hg1 ▸ upd_same
    refine ⟨x, A.Program, dx, [], rfl, i1, T.o_Program.cl, T.n_Program_heads, by simp, ?_⟩
    generalize hg2 : upd H1 x _ = H2
    have b2 : But x H H2 := hg2 ▸ b1.trans (But.at x _ _)
    have i2 : H2 x = some (.ins A.Program dx [("heads", .ref n_heads)]) := hg2 ▸ upd_same
    have k2_heads : H2 n_heads = some (.lst l_heads) := hg2 ▸ (upd_ne e_heads).trans k1_heads
    refine ⟨_, l_deeds, rfl, .inl (SqL.but s_deeds hx b2), fun n_deeds f_deeds => ?_⟩
    have e_deeds : n_deeds ≠ x := fun z => by rw [z] at f_deeds; exact absurd (f_deeds.symm.trans i2) (by intro z; cases z)
    have a_deeds : H n_deeds = none := b2.none e_deeds f_deeds
    have d_heads_deeds : n_heads ≠ n_deeds := fun z => by have w := k2_heads; rw [z] at w; exact absurd (f_deeds.symm.trans w) (by intro w; cases w)
    generalize hg3 : upd H2 n_deeds (HO.lst l_deeds) = H3
    have b3 : But x H H3 := hg3 ▸ b2.trans (But.new f_deeds _)
    have i3 : H3 x = some (.ins A.Program dx [("heads", .ref n_heads)]) := hg3 ▸ (upd_ne (Ne.symm e_deeds)).trans i2
    have k3_heads : H3 n_heads = some (.lst l_heads) := hg3 ▸ (upd_ne d_heads_deeds).trans k2_heads
    have k3_deeds : H3 n_deeds = some (.lst l_deeds) := hg3 ▸ upd_same
    refine ⟨x, A.Program, dx, [("heads", .ref n_heads)], rfl, i3, T.o_Program.cl, T.n_Program_deeds, by simp, ?_⟩
    generalize hg4 : upd H3 x _ = H4
    have b4 : But x H H4 := hg4 ▸ b3.trans (But.at x _ _)
    have i4 : H4 x = some (.ins A.Program dx [("heads", .ref n_heads), ("deeds", .ref n_deeds)]) := hg4 ▸ upd_same
    have k4_heads : H4 n_heads = some (.lst l_heads) := hg4 ▸ (upd_ne e_heads).trans k3_heads
    have k4_deeds : H4 n_deeds = some (.lst l_deeds) := hg4 ▸ (upd_ne e_deeds).trans k3_deeds
    refine ⟨_, l_main, rfl, .inl (SqL.but s_main hx b4), fun n_main f_main => ?_⟩
    have e_main : n_main ≠ x := fun z => by rw [z] at f_main; exact absurd (f_main.symm.trans i4) (by intro z; cases z)
    have a_main : H n_main = none := b4.none e_main f_main
    have d_heads_main : n_heads ≠ n_main := fun z => by have w := k4_heads; rw [z] at w; exact absurd (f_main.symm.trans w) (by intro w; cases w)
    have d_deeds_main : n_deeds ≠ n_main := fun z => by have w := k4_deeds; rw [z] at w; exact absurd (f_main.symm.trans w) (by intro w; cases w)
    generalize hg5 : upd H4 n_main (HO.lst l_main) = H5
    have b5 : But x H H5 := hg5 ▸ b4.trans (But.new f_main _)
    have i5 : H5 x = some (.ins A.Program dx [("heads", .ref n_heads), ("deeds", .ref n_deeds)]) := hg5 ▸ (upd_ne (Ne.symm e_main)).trans i4
    have k5_heads : H5 n_heads = some (.lst l_heads) := hg5 ▸ (upd_ne d_heads_main).trans k4_heads
    have k5_deeds : H5 n_deeds = some (.lst l_deeds) := hg5 ▸ (upd_ne d_deeds_main).trans k4_deeds
    have k5_main : H5 n_main = some (.lst l_main) := hg5 ▸ upd_same
    refine ⟨x, A.Program, dx, [("heads", .ref n_heads), ("deeds", .ref n_deeds)], rfl, i5, T.o_Program.cl, T.n_Program_main, by simp, ?_⟩
    generalize hg6 : upd H5 x _ = H6
    have b6 : But x H H6 := hg6 ▸ b5.trans (But.at x _ _)
    have i6 : H6 x = some (.ins A.Program dx [("heads", .ref n_heads), ("deeds", .ref n_deeds), ("main", .ref n_main)]) := hg6 ▸ upd_same
    have k6_heads : H6 n_heads = some (.lst l_heads) := hg6 ▸ (upd_ne e_heads).trans k5_heads
    have k6_deeds : H6 n_deeds = some (.lst l_deeds) := hg6 ▸ (upd_ne e_deeds).trans k5_deeds
    have k6_main : H6 n_main = some (.lst l_main) := hg6 ▸ (upd_ne e_main).trans k5_main
    exact q n_heads n_deeds n_main H6 a_heads a_deeds a_main d_heads_deeds d_heads_main d_deeds_main b6 k6_heads k6_deeds k6_main i6
theorem mk_Program {H : Hp} {x dx : Addr} {R : VK} {t_heads : Addr} {l_heads : List V} (s_heads : SqL K H t_heads l_heads) {t_deeds : Addr} {l_deeds : List V} (s_deeds : SqL K H t_deeds l_deeds) {t_main : Addr} {l_main : List V} (s_main : SqL K H t_main l_main) (hx : H x = none) (hd : H dx = none) (q : ∀ (n_heads n_deeds n_main : Addr) (H' : Hp), H n_heads = none → H n_deeds = none → H n_main = none → Same H H' → H' n_heads = some (.lst l_heads) → H' n_deeds = some (.lst l_deeds) → H' n_main = some (.lst l_main) → H' x = some (.ins A.Program dx [("heads", .ref n_heads), ("deeds", .ref n_deeds), ("main", .ref n_main)]) → R .non H') : sp_Program_init K A (.ref x :: ([.ref t_heads, .ref t_deeds, .ref t_main] ++ [])) (upd (upd H dx (.own x)) x (.ins A.Program dx [])) R E0 :=
  ⟨x, dx, _, _, _, _, _, _, rfl, upd_same, s_heads.new hx hd, s_deeds.new hx hd, s_main.new hx hd, fun n_heads n_deeds n_main H' f_heads f_deeds f_main _ _ _ b g_heads g_deeds g_main i => q n_heads n_deeds n_main H' (new_none hx hd f_heads) (new_none hx hd f_deeds) (new_none hx hd f_main) (b.same hx hd) g_heads g_deeds g_main i⟩
end
end K22

set_option Elab.async false
set_option linter.all false
set_option maxRecDepth 100000
set_option maxHeartbeats 4000000
namespace K22
open PySem L2
section
variable {P : Program} {w : World} {K : PySem.W.Frag} {mg : Str → Option Value} {base : Heap} {A : Adr}
def rkn (a b : Int) (x : Str) : Int :=
  if decide (V.str x = V.str "+") = true then (a + b) % 1000000000000
  else if decide (V.str x = V.str "-") = true then (a - b) % 1000000000000
  else if decide (V.str x = V.str "*") = true then (a * b) % 1000000000000
  else if decide (V.str x = V.str "over") = true then (if decide (V.int b = V.int 0) = true then 0 else a / b)
  else if decide (V.str x = V.str "rest") = true then (if decide (V.int b = V.int 0) = true then a else a % b)
  else if decide (V.str x = V.str "<") = true then (if decide (a < b) = true then 1 else 0)
  else (if decide (V.int a = V.int b) = true then 1 else 0)
def In (n : Int) : Prop := 0 ≤ n ∧ n < 1000000000000
theorem rkn_in {a b : Int} (ha : In a) (hb : In b) (x : Str) : In (rkn a b x) := by
  have md : ∀ z : Int, In (z % 1000000000000) := fun z => mod_in z (by decide)
  have t1 : In 1 := ⟨by decide, by decide⟩
  have t0 : In 0 := ⟨by decide, by decide⟩
  unfold rkn
  split
  · exact md _
  split
  · exact md _
  split
  · exact md _
  split
  · split
    · exact t0
    · rename_i h
      rw [vint, decide_eq_true_iff] at h
      have hp : 0 < b := by have := hb.1; omega
      refine ⟨Int.ediv_nonneg ha.1 hb.1, Int.lt_of_le_of_lt (Int.ediv_le_self b ha.1) ha.2⟩
  split
  · split
    · exact ha
    · rename_i h
      rw [vint, decide_eq_true_iff] at h
      have hp : 0 < b := by have := hb.1; omega
      have := mod_in a hp
      exact ⟨this.1, Int.lt_trans this.2 hb.2⟩
  split
  · split
    · exact t1
    · exact t0
  · split
    · exact t1
    · exact t0
theorem rkn_rest {a : Int} {n : Nat} (hn : 0 < n) : rkn a (n : Int) "rest" = a % (n : Int) := by
  unfold rkn
  rw [if_neg (by decide), if_neg (by decide), if_neg (by decide), if_neg (by decide), if_pos (by decide), if_neg (by rw [vint, decide_eq_true_iff]; omega)]
theorem rkn_add (a b : Int) : rkn a b "+" = (a + b) % 1000000000000 := if_pos rfl
theorem rkn_sub (a b : Int) : rkn a b "-" = (a - b) % 1000000000000 := by
  unfold rkn
  rw [if_neg (by decide), if_pos (by decide)]
theorem seq_cut {t u : TS} {D : Ends} {σ : St} {H : Hp} (h : ∀ N : St → Hp → Prop, (∀ σ H, u D σ H → N σ H) → t { D with nx := N } σ H) : tSeq t u D σ H := h (u D) fun _ _ z => z
def Dist (N : Nat → Str) : Prop := ∀ i j, i < 12 → j < 12 → N i = N j → i = j
def dk (N : Nat → Str) (idx : List Nat) (f : Nat → V) : List (Key × V) := idx.map fun i => (Sum.inr (N i), f i)
variable {N : Nat → Str}
theorem key_ne (D : Dist N) {i j : Nat} (hi : i < 12) (hj : j < 12) (h : i ≠ j) : (Sum.inr (N i) : Key) ≠ Sum.inr (N j) := fun e => h (D i j hi hj (Sum.inr.inj e))
theorem dk_get (D : Dist N) {f : Nat → V} {i : Nat} : ∀ {idx : List Nat}, (∀ j ∈ idx, j < 12) → i ∈ idx → L2.valV (dk N idx f) (.inr (N i)) = some (f i)
  | j :: r, hb, m => by
    by_cases e : j = i
    · subst e
      unfold L2.valV dk
      rw [List.map_cons, List.find?_cons]
      simp
    · have hj := hb j List.mem_cons_self
      have m' : i ∈ r := by
        rcases List.mem_cons.mp m with z | z
        · exact absurd z.symm e
        · exact z
      have hi := hb i m
      have ih := dk_get D (f := f) (i := i) (idx := r) (fun k hk => hb k (List.mem_cons_of_mem _ hk)) m'
      unfold L2.valV dk at ih ⊢
      rw [List.map_cons, List.find?_cons, decide_eq_false (key_ne D hj hi e)]
      exact ih
theorem dk_any (D : Dist N) {f : Nat → V} {i : Nat} (hi : i < 12) {idx : List Nat} (hb : ∀ j ∈ idx, j < 12) : ((dk N idx f).any fun kv => decide (kv.1 = (Sum.inr (N i) : Key))) = decide (i ∈ idx) := by
  unfold dk
  rw [List.any_map]
  by_cases m : i ∈ idx
  · rw [decide_eq_true m, List.any_eq_true]
    exact ⟨i, m, decide_eq_true rfl⟩
  · rw [decide_eq_false m, List.any_eq_false]
    intro j hj
    show ¬ decide ((Sum.inr (N j) : Key) = Sum.inr (N i)) = true
    rw [decide_eq_false (key_ne D (hb j hj) hi (fun z => m (z ▸ hj)))]
    exact Bool.false_ne_true
theorem dk_congr {f g : Nat → V} {idx : List Nat} (h : ∀ i ∈ idx, f i = g i) : dk N idx f = dk N idx g := List.map_congr_left fun i hi => by rw [h i hi]
def updF (f : Nat → V) (i : Nat) (v : V) : Nat → V := fun j => if j = i then v else f j
theorem updF_same (f : Nat → V) (i : Nat) (v : V) : updF f i v i = v := if_pos rfl
theorem updF_ne (f : Nat → V) {i j : Nat} (v : V) (h : j ≠ i) : updF f i v j = f j := if_neg h
theorem dk_put (D : Dist N) {f : Nat → V} {i : Nat} {v : V} {idx : List Nat} (hb : ∀ j ∈ idx, j < 12) (m : i ∈ idx) : putK (dk N idx f) (.inr (N i)) v = dk N idx (updF f i v) := by
  unfold putK
  rw [dk_any D (hb i m) hb, decide_eq_true m, if_pos rfl]
  unfold dk
  rw [List.map_map]
  refine List.map_congr_left fun j hj => ?_
  show (if (Sum.inr (N j) : Key) = Sum.inr (N i) then ((Sum.inr (N j) : Key), v) else (Sum.inr (N j), f j)) = (Sum.inr (N j), updF f i v j)
  by_cases e : j = i
  · rw [e, if_pos rfl, updF_same]
  · rw [if_neg (key_ne D (hb j hj) (hb i m) e), updF_ne _ _ e]
theorem dk_new (D : Dist N) {f : Nat → V} {i : Nat} {v : V} {idx : List Nat} (hi : i < 12) (hb : ∀ j ∈ idx, j < 12) (m : i ∉ idx) : putK (dk N idx f) (.inr (N i)) v = dk N (idx ++ [i]) (updF f i v) := by
  unfold putK
  rw [dk_any D hi hb, decide_eq_false m, if_neg Bool.false_ne_true]
  unfold dk
  rw [List.map_append, List.map_cons, List.map_nil, updF_same]
  congr 1
  refine List.map_congr_left fun j hj => ?_
  rw [updF_ne _ _ (fun z => m (by rw [← z]; exact hj))]
theorem dk_merge (D : Dist N) {f : Nat → V} : ∀ (idx pre : List Nat), (∀ j ∈ pre ++ idx, j < 12) → (pre ++ idx).Nodup → mergeK (dk N pre f) (dk N idx f) = dk N (pre ++ idx) f
  | [], pre, _, _ => by rw [List.append_nil]; rfl
  | i :: r, pre, hb, nd => by
    have e : pre ++ i :: r = (pre ++ [i]) ++ r := by simp
    have m : i ∉ pre := fun z => by
      have := (List.nodup_append.mp nd).2.2 i z i List.mem_cons_self
      exact this rfl
    have hi : i < 12 := hb i (by simp)
    show mergeK (putK (dk N pre f) (.inr (N i)) (f i)) (dk N r f) = _
    rw [dk_new D hi (fun j hj => hb j (List.mem_append_left _ hj)) m]
    have c : dk N (pre ++ [i]) (updF f i (f i)) = dk N (pre ++ [i]) f := dk_congr fun j _ => by
      by_cases z : j = i
      · rw [z, updF_same]
      · rw [updF_ne _ _ z]
    rw [c, e]
    exact dk_merge D r (pre ++ [i]) (by rw [← e]; exact hb) (by rw [← e]; exact nd)
structure S where
  num : Nat → Int
  some_ : List Int
  kept : List Int
  steps : Int
  trace : List (List V)
  letters : List (List V)
  said : List (List V)
def S.lst (s : S) : Bool → List Int
  | false => s.some_
  | true => s.kept
structure S.ok (s : S) : Prop where
  num : ∀ a, In (s.num a)
  lst : ∀ l, ∀ x ∈ s.lst l, In x
  ne : ∀ l, 0 < (s.lst l).length ∧ (s.lst l).length ≤ 1000
inductive Th where
  | i (n : Int) | x (a : Nat)
def Th.v (N : Nat → Str) : Th → V
  | .i n => .int n
  | .x a => .str (N a)
def Th.num (s : S) : Th → Int
  | .i n => n
  | .x a => s.num a
def Th.ok : Th → Prop
  | .i n => In n
  | .x a => a ≤ 3
inductive Val where
  | one (a : Th) | op (a : Th) (w : Str) (b : Th) | atl (l : Bool) (b : Th)
def li (l : Bool) : Nat := if l = true then 5 else 4
def vV (N : Nat → Str) : Val → List V
  | .one a => [a.v N]
  | .op a w b => [a.v N, .str w, b.v N]
  | .atl l b => [.str (N (li l)), .str "at", b.v N]
abbrev opW : List Str := ["+", "-", "*", "over", "rest", "<", "="]
def Val.ok : Val → Prop
  | .one a => a.ok
  | .op a w b => a.ok ∧ b.ok ∧ w ∈ opW
  | .atl _ b => b.ok
def lat (xs : List Int) (i : Int) : Int := xs.getD (i % (xs.length : Int)).toNat 0
def Val.num (s : S) : Val → Int
  | .one a => a.num s
  | .op a w b => rkn (a.num s) (b.num s) w
  | .atl l b => lat (s.lst l) (b.num s)
theorem Th.num_in {s : S} (hs : s.ok) {t : Th} (h : t.ok) : In (t.num s) := by
  cases t with
  | i n => exact h
  | x a => exact hs.num a
theorem lat_in {xs : List Int} (h : ∀ x ∈ xs, In x) (i : Int) : In (lat xs i) := by
  unfold lat
  rw [List.getD_eq_getElem?_getD]
  cases e : xs[(i % (xs.length : Int)).toNat]? with
  | none => exact ⟨by decide, by decide⟩
  | some v => exact h v (List.mem_of_getElem? e)
theorem lat_at {xs : List Int} (h : 0 < xs.length) (i : Int) : atI (xs.map V.int) (i % (xs.length : Int)) = some (.int (lat xs i)) := by
  obtain ⟨m0, m1⟩ := mod_in i (show (0 : Int) < (xs.length : Int) by omega)
  have hk : (i % (xs.length : Int)).toNat < xs.length := by omega
  have e := atI_nat (xs := xs.map V.int) (j := (i % (xs.length : Int)).toNat) (v := .int (lat xs i)) (by unfold lat; rw [List.getElem?_map, List.getElem?_eq_getElem hk, List.getD_eq_getElem?_getD, List.getElem?_eq_getElem hk]; rfl)
  rw [show (((i % (xs.length : Int)).toNat : Nat) : Int) = i % (xs.length : Int) by omega] at e
  exact e
theorem Val.num_in {s : S} (hs : s.ok) {v : Val} (h : v.ok) : In (v.num s) := by
  cases v with
  | one a => exact Th.num_in hs h
  | op a w b => exact rkn_in (Th.num_in hs h.1) (Th.num_in hs h.2.1) w
  | atl l b => exact lat_in (hs.lst l) _
inductive Rw where
  | set (n : Int) (x : Nat) (v : Val)
  | put (n : Int) (a : Th) (v : Val)
  | snd (n : Int) (h : Str) (v : Val)
  | say (n : Int) (x : Nat) (v : Val) (m : Str)
def S.tell (s : S) (n : Int) (v : V) : S := { s with steps := s.steps + 1, trace := s.trace ++ [[.int n, .int (s.steps + 1), v]] }
def S.send (s : S) (n : Int) (h : Str) (v : Int) : S := { s.tell n (.int v) with letters := s.letters ++ [[.int (s.steps + 1), .int n, .str h, .int v]] }
def S.put (s : S) (x : Nat) (v : Int) : S := { s with num := fun a => if a = x then v else s.num a }
def S.say (s : S) (n : Int) (m : Str) (v : Int) : S := { s with said := s.said ++ [[.int s.steps, .int n, .str m, .int v]] }
def lput (xs : List Int) (i v : Int) : List Int := xs.set (i % (xs.length : Int)).toNat v
def S.keep (s : S) (i v : Int) : S := { s with kept := lput s.kept i v }
def leaf (s : S) : Rw → S
  | .set n x v => (s.tell n .non).put x (v.num s)
  | .put n a v => (s.tell n .non).keep (a.num s) (v.num s)
  | .snd n h v => s.send n h (v.num s)
  | .say n x v m => ((s.tell n (.int (v.num s))).put x (v.num s)).say n m (v.num s)
def rowsBy (s : S) (xs : List Rw) : S := xs.foldl leaf s
def S.room (s : S) (n : Nat) : Prop := s.trace.length + n ≤ 1000 ∧ s.letters.length + n ≤ 1000 ∧ s.said.length + n ≤ 1000
theorem S.room.le {s : S} {j k : Nat} (h : s.room k) (hj : j ≤ k) : s.room j := ⟨by have := h.1; omega, by have := h.2.1; omega, by have := h.2.2; omega⟩
theorem room_leaf {s : S} {n : Nat} (h : s.room (n + 1)) (r : Rw) : (leaf s r).room n := by
  have h1 := h.1
  have h2 := h.2.1
  have h3 := h.2.2
  cases r with
  | set m x v => exact ⟨by simp [leaf, S.put, S.tell]; omega, by simp [leaf, S.put, S.tell]; omega, by simp [leaf, S.put, S.tell]; omega⟩
  | put m a v => exact ⟨by simp [leaf, S.keep, S.tell]; omega, by simp [leaf, S.keep, S.tell]; omega, by simp [leaf, S.keep, S.tell]; omega⟩
  | snd m y v => exact ⟨by simp [leaf, S.send, S.tell]; omega, by simp [leaf, S.send, S.tell]; omega, by simp [leaf, S.send, S.tell]; omega⟩
  | say m x v y => exact ⟨by simp [leaf, S.say, S.put, S.tell]; omega, by simp [leaf, S.say, S.put, S.tell]; omega, by simp [leaf, S.say, S.put, S.tell]; omega⟩
theorem S.ok.tell {s : S} (h : s.ok) (n : Int) (v : V) : (s.tell n v).ok := ⟨h.num, fun l => by have := h.lst l; cases l <;> exact this, fun l => by have := h.ne l; cases l <;> exact this⟩
theorem S.ok.send {s : S} (h : s.ok) (n : Int) (x : Str) (v : Int) : (s.send n x v).ok := ⟨h.num, fun l => by have := h.lst l; cases l <;> exact this, fun l => by have := h.ne l; cases l <;> exact this⟩
theorem S.ok.say {s : S} (h : s.ok) (n : Int) (x : Str) (v : Int) : (s.say n x v).ok := ⟨h.num, fun l => by have := h.lst l; cases l <;> exact this, fun l => by have := h.ne l; cases l <;> exact this⟩
theorem S.ok.put {s : S} (h : s.ok) (x : Nat) {v : Int} (hv : In v) : (s.put x v).ok := by
  refine ⟨fun a => ?_, fun l => by have := h.lst l; cases l <;> exact this, fun l => by have := h.ne l; cases l <;> exact this⟩
  show In (if a = x then v else s.num a)
  split
  · exact hv
  · exact h.num a
theorem S.ok.keep {s : S} (h : s.ok) (i : Int) {v : Int} (hv : In v) : (s.keep i v).ok := by
  refine ⟨h.num, fun l => ?_, fun l => ?_⟩
  · cases l with
    | false => exact h.lst false
    | true =>
      intro x hx
      rcases List.mem_or_eq_of_mem_set hx with z | z
      · exact h.lst true x z
      · rw [z]; exact hv
  · cases l with
    | false => exact h.ne false
    | true =>
      show 0 < (lput s.kept i v).length ∧ (lput s.kept i v).length ≤ 1000
      unfold lput
      rw [List.length_set]
      exact h.ne true
abbrev cls (A : Adr) : List Addr := [A.Book, A.Row, A.HandRow, A.GivenRow, A.OwnRow, A.LetRow, A.SetRow, A.PutRow, A.SendRow, A.SayRow, A.CallRow, A.LastRow, A.IfRow, A.LoopRow, A.Program, A.Run]
theorem cls_ne (T : Txt K mg A) (i j : Nat) (hi : i < 16 := by decide) (hj : j < 16 := by decide) (h : i ≠ j := by decide) : (cls A)[i]'hi ≠ (cls A)[j]'hj := fun e => h ((List.getElem_inj T.nd).mp e)
theorem kitT {C : Addr} {x : Str} {up : List Addr} (O : OwnC K mg C x up) (hs : C ∈ up := by exact List.mem_cons_self) : PySem.W.kitOne K (.ref C) (.ref C) = some true := by
  rw [O.kit O hs, decide_eq_true hs]
theorem kitF {C D R : Addr} {x y : Str} {vp : List Addr} (O : OwnC K mg C x [C, R]) (U : OwnC K mg D y vp) (h1 : D ≠ C) (h2 : D ≠ R) : PySem.W.kitOne K (.ref C) (.ref D) = some false := by
  rw [O.kit U List.mem_cons_self, decide_eq_false]
  intro m
  rcases List.mem_cons.mp m with e | m
  · exact h1 e
  · rcases List.mem_cons.mp m with e | m
    · exact h2 e
    · cases m
structure SetAt (A : Adr) (N : Nat → Str) (H : Hp) (v : V) (n : Int) (x : Nat) (val : Val) (a dx p : Addr) : Prop where
  v : v = .ref a
  a : H a = some (.ins A.SetRow dx [("number", .int n), ("name", .str (N x)), ("value", .ref p)])
  p : H p = some (.tup (vV N val))
  x : 2 ≤ x ∧ x ≤ 3
structure PutAt (A : Adr) (N : Nat → Str) (H : Hp) (v : V) (n : Int) (th : Th) (val : Val) (a dx p : Addr) : Prop where
  v : v = .ref a
  a : H a = some (.ins A.PutRow dx [("number", .int n), ("name", .str (N 5)), ("place", th.v N), ("value", .ref p)])
  p : H p = some (.tup (vV N val))
  t : th.ok
structure SndAt (A : Adr) (N : Nat → Str) (H : Hp) (v : V) (n : Int) (h : Str) (val : Val) (a dx p : Addr) : Prop where
  v : v = .ref a
  a : H a = some (.ins A.SendRow dx [("number", .int n), ("name", .str h), ("value", .ref p)])
  p : H p = some (.tup (vV N val))
structure SayAt (A : Adr) (N : Nat → Str) (H : Hp) (v : V) (n : Int) (x : Nat) (val : Val) (m : Str) (a dx p : Addr) : Prop where
  v : v = .ref a
  a : H a = some (.ins A.SayRow dx [("number", .int n), ("name", .str (N x)), ("value", .ref p), ("mark", .str m)])
  p : H p = some (.tup (vV N val))
  x : 2 ≤ x ∧ x ≤ 3
def RowAt (A : Adr) (N : Nat → Str) (H : Hp) (v : V) : Rw → Prop
  | .set n x val => val.ok ∧ ∃ a dx p, SetAt A N H v n x val a dx p
  | .put n x val => val.ok ∧ ∃ a dx p, PutAt A N H v n x val a dx p
  | .snd n h val => val.ok ∧ ∃ a dx p, SndAt A N H v n h val a dx p
  | .say n x val m => val.ok ∧ ∃ a dx p, SayAt A N H v n x val m a dx p
theorem RowAt.same {H H' : Hp} (s : Same H H') {v : V} : ∀ {r : Rw}, RowAt A N H v r → RowAt A N H' v r
  | .set _ _ _, ⟨o, a, dx, p, h⟩ => ⟨o, a, dx, p, h.v, s _ _ h.a, s _ _ h.p, h.x⟩
  | .put _ _ _, ⟨o, a, dx, p, h⟩ => ⟨o, a, dx, p, h.v, s _ _ h.a, s _ _ h.p, h.t⟩
  | .snd _ _ _, ⟨o, a, dx, p, h⟩ => ⟨o, a, dx, p, h.v, s _ _ h.a, s _ _ h.p⟩
  | .say _ _ _ _, ⟨o, a, dx, p, h⟩ => ⟨o, a, dx, p, h.v, s _ _ h.a, s _ _ h.p, h.x⟩
end
end K22

set_option Elab.async false
set_option linter.all false
set_option maxRecDepth 100000
set_option maxHeartbeats 4000000
namespace K22
open PySem L2
section
variable {P : Program} {w : World} {K : PySem.W.Frag} {mg : Str → Option Value} {base : Heap} {A : Adr} {N : Nat → Str}
theorem Same.out {H0 H : Hp} (s : Same H0 H) {x : Addr} (h : H0 x = none) (u : HO) : Same H0 (upd H x u) := fun a o q => by
  rw [upd_ne (ne_of_none q h)]
  exact s a o q
def Tups (H : Hp) (xs : List V) (ws : List (List V)) : Prop := PySem.Paired (fun v w => ∃ p, v = V.ref p ∧ H p = some (.tup w)) xs ws
def Stay (H H' : Hp) : Prop := ∀ p w, H p = some (.tup w) → H' p = some (.tup w)
theorem Tups.stay {H H' : Hp} (s : Stay H H') {xs : List V} {ws : List (List V)} (h : Tups H xs ws) : Tups H' xs ws := Paired.mapP h fun _ _ ⟨p, e, q⟩ => ⟨p, e, s p _ q⟩
theorem Same.stay {H H' : Hp} (s : Same H H') : Stay H H' := fun p w h => s p _ h
theorem Stay.trans {H H1 H2 : Hp} (a : Stay H H1) (b : Stay H1 H2) : Stay H H2 := fun p w h => b p w (a p w h)
theorem Stay.at {H : Hp} {a : Addr} {o u : HO} (h : H a = some o) (n : ∀ w, o ≠ .tup w) : Stay H (upd H a u) := fun p w q => by
  rw [upd_ne (fun z => by rw [z, h] at q; exact n w (Option.some.inj q))]
  exact q
theorem Tups.len {H : Hp} {xs : List V} {ws : List (List V)} (h : Tups H xs ws) : xs.length = ws.length := Paired.length h
theorem paired_get {α β : Type} {F : α → β → Prop} : ∀ {l₁ : List α} {l₂ : List β} {i : Nat} {a : α}, PySem.Paired F l₁ l₂ → l₁[i]? = some a → ∃ b, l₂[i]? = some b ∧ F a b
  | _, _, _, _, .nil, e => by simp at e
  | _, _, 0, _, .cons r _, e => by simp at e; subst e; exact ⟨_, rfl, r⟩
  | _, _, i + 1, _, .cons _ t, e => by
    obtain ⟨b, h1, h2⟩ := paired_get (i := i) t (by simpa using e)
    exact ⟨b, by simpa using h1, h2⟩
theorem drop_at {α : Type} {xs : List α} {i : Nat} {x : α} (h : xs[i]? = some x) : xs.drop i = x :: xs.drop (i + 1) := by
  obtain ⟨hi, e⟩ := List.getElem?_eq_some_iff.mp h
  rw [List.drop_eq_getElem_cons hi, e]
theorem Same.but {H0 H H' : Hp} {b : Addr} (s : Same H0 H) (h : H0 b = none) (t : But b H H') : Same H0 H' := fun a o q => t a (fun z => by rw [z, h] at q; cases q) o (s a o q)
def sp_reckon : Sp := fun vs H Q _ => ∃ (a b : Int) (x : Str), vs = [.int a, .str x, .int b] ∧ 0 ≤ a ∧ a < 1000000000000 ∧ 0 ≤ b ∧ b < 1000000000000 ∧ Q (.int (rkn a b x)) H
theorem h_reckon (T : Txt K mg A) : Has P w K mg base 1 "reckon" ["one", "word", "other"] sp_reckon := by
  refine T.reckon.has sc_reckon (fun vs H Q E h => ?_) (fun f cdv A outer s H vs Q E hr hu h => ?_)
  · obtain ⟨a, b, x, rfl, _⟩ := h
    rfl
  · obtain ⟨a, b, x, rfl, a0, a1, b0, b1, q⟩ := h
    refine ⟨_, (pss_cons (ps_if (pt_cmpR (o_eqU hu) (fv 1) (pe_str) (nomark _))
      (pss_one (ps_ret (pe_op o_mod (pe_op o_add (fv 0) (fv 2)) (pe_gint T.c_ROUND))))
      pss_nil)
    (pss_cons (ps_if (pt_cmpR (o_eqU hu) (fv 1) (pe_str) (nomark _))
      (pss_one (ps_ret (pe_op o_mod (pe_op o_sub (fv 0) (fv 2)) (pe_gint T.c_ROUND))))
      pss_nil)
    (pss_cons (ps_if (pt_cmpR (o_eqU hu) (fv 1) (pe_str) (nomark _))
      (pss_one (ps_ret (pe_op o_mod (pe_op o_mulA (fv 0) (fv 2)) (pe_gint T.c_ROUND))))
      pss_nil)
    (pss_cons (ps_if (pt_cmpR (o_eqU hu) (fv 1) (pe_str) (nomark _))
      (pss_one (ps_ret (pe_ifExp (pt_cmpR (o_eqU hu) (fv 2) (pe_int) (nomark _)) (pe_int) (pe_op o_fdiv (fv 0) (fv 2)))))
      pss_nil)
    (pss_cons (ps_if (pt_cmpR (o_eqU hu) (fv 1) (pe_str) (nomark _))
      (pss_one (ps_ret (pe_ifExp (pt_cmpR (o_eqU hu) (fv 2) (pe_int) (nomark _)) (fv 0) (pe_op o_mod (fv 0) (fv 2)))))
      pss_nil)
    (pss_cons (ps_if (pt_cmpR (o_eqU hu) (fv 1) (pe_str) (nomark _))
      (pss_one (ps_ret (pe_ifExp (pt_cmpR (o_lt) (fv 0) (fv 2) (nomark _)) (pe_int) (pe_int))))
      pss_nil)
    (pss_one (ps_ret (pe_ifExp (pt_cmpR (o_eqU hu) (fv 0) (fv 2) (nomark _)) (pe_int) (pe_int)))))))))), ?_⟩
    unfold rkn at q
    refine ⟨rfl, _, rfl, ite2 (fun c => ?_) (fun c => ?_)⟩
    · rw [if_pos c] at q
      exact ⟨(by show (0 : Int) < 1000000000000; decide), q⟩
    rw [if_neg c] at q
    refine ⟨rfl, _, rfl, ite2 (fun c => ?_) (fun c => ?_)⟩
    · rw [if_pos c] at q
      exact ⟨(by show (0 : Int) < 1000000000000; decide), q⟩
    rw [if_neg c] at q
    refine ⟨rfl, _, rfl, ite2 (fun c => ?_) (fun c => ?_)⟩
    · rw [if_pos c] at q
      exact ⟨.inl ⟨by omega, by omega⟩, (by show (0 : Int) < 1000000000000; decide), q⟩
    rw [if_neg c] at q
    refine ⟨rfl, _, rfl, ite2 (fun c => ?_) (fun c => ?_)⟩
    · rw [if_pos c] at q
      refine ⟨rfl, _, rfl, ite2 (fun d => ?_) (fun d => ?_)⟩
      · rw [if_pos d] at q
        exact q
      · rw [if_neg d] at q
        have hb : b ≠ 0 := fun z => d (by rw [z]; rfl)
        exact ⟨⟨by omega, by omega⟩, q⟩
    rw [if_neg c] at q
    refine ⟨rfl, _, rfl, ite2 (fun c => ?_) (fun c => ?_)⟩
    · rw [if_pos c] at q
      refine ⟨rfl, _, rfl, ite2 (fun d => ?_) (fun d => ?_)⟩
      · rw [if_pos d] at q
        exact q
      · rw [if_neg d] at q
        have hb : b ≠ 0 := fun z => d (by rw [z]; rfl)
        exact ⟨by omega, q⟩
    rw [if_neg c] at q
    refine ⟨rfl, _, rfl, ite2 (fun c => ?_) (fun c => ?_)⟩
    · rw [if_pos c] at q
      refine ⟨_, rfl, ite2 (fun d => ?_) (fun d => ?_)⟩
      · rw [if_pos d] at q
        exact q
      · rw [if_neg d] at q
        exact q
    rw [if_neg c] at q
    refine ⟨rfl, _, rfl, ite2 (fun d => ?_) (fun d => ?_)⟩
    · rw [if_pos d] at q
      exact q
    · rw [if_neg d] at q
      exact q
def sp_isnum : Sp := fun vs H Q _ => ∃ a : Int, vs = [.int a] ∧ In a ∧ Q (.bl true) H
theorem h_isnum (T : Txt K mg A) : Has P w K mg base 1 "is_number" ["thing"] sp_isnum := by
  refine T.is_number.has sc_is_number (fun vs H Q E h => ?_) (fun f cdv A outer s H vs Q E hr hu h => ?_)
  · obtain ⟨a, rfl, _⟩ := h
    rfl
  · obtain ⟨a, rfl, ha, q⟩ := h
    refine ⟨_, (pss_cons (ps_if (PW.pt (pw_or (pt_tru (pe_callB c_isinst rfl T.z_isinstance (by boot_by_name) (pa_cons (fv 0) (pa_cons (pe_bltn (v := .ty "bool") rfl T.z_bool (by boot_by_name) rfl) pa_nil))) (fun _ => rfl)) (pw_or1 (pt_not (pt_tru (pe_callB c_isinst rfl T.z_isinstance (by boot_by_name) (pa_cons (fv 0) (pa_cons (pe_bltn (v := .ty "int") rfl T.z_int (by boot_by_name) rfl) pa_nil))) (fun _ => rfl))))))
      (pss_one (ps_ret (pe_bl)))
      pss_nil)
    (pss_one (ps_ret (pe_chain (o_le) (o_le) (pe_int) (fv 0) (pe_gint T.c_MOST_NUMBER))))), ?_⟩
    refine ⟨_, _, _, false, rfl, (fun z => by cases z), .int a, kit_ib, false, rfl, iteF ?_⟩
    refine ⟨_, _, _, true, rfl, (fun z => by cases z), .int a, kit_ii, true, rfl, iteF ?_⟩
    refine ⟨_, rfl, ite2 (fun c => ?_) (fun c => absurd (decide_eq_true ha.1) c)⟩
    have e : decide (a ≤ 999999999999) = true := decide_eq_true (by have := ha.2; omega)
    show Q (.bl (decide (a ≤ 999999999999))) H
    rw [e]
    exact q
def sp_isgood : Sp := fun vs H Q _ => (∃ a : Int, vs = [.int a, .int 0] ∧ In a ∧ Q (.bl true) H) ∨
  ∃ (p : Addr) (rs : List Int), vs = [.ref p, .int rs.length] ∧ 0 < rs.length ∧ rs.length ≤ 1000 ∧ H p = some (.lst (rs.map V.int)) ∧ (∀ a ∈ rs, In a) ∧ ∀ H', Same H H' → Q (.bl true) H'
theorem h_isgood (T : Txt K mg A) : Has P w K mg base 2 "is_good" ["gift", "size"] sp_isgood := by
  have D_is_number := h_isnum (P := P) (w := w) (base := base) T
  refine T.is_good.has sc_is_good (fun vs H Q E h => ?_) (fun f cdv A outer s H vs Q E hr hu h => ?_)
  · rcases h with ⟨a, rfl, _⟩ | ⟨p, rs, rfl, _⟩ <;> rfl
  · rcases h with ⟨a, rfl, ha, q⟩ | ⟨p, rs, rfl, hn, hl, hS, hb, q⟩
    · refine ⟨_, (pss_cons (ps_if (pt_cmpR (o_eqU hu) (fv 1) (pe_int) (nomark _))
      (pss_one (ps_ret (pe_callD D_is_number hr (pa_cons (fv 0) pa_nil))))
      pss_nil)
    (pss_one (ps_ret (pe_and (pe_callB c_isinst rfl T.z_isinstance (by boot_by_name) (pa_cons (fv 0) (pa_cons (pe_bltn (v := .ty "list") rfl T.z_list (by boot_by_name) rfl) pa_nil))) (pe_and (pe_cmpR (o_eqU hu) (pe_callB c_lenA rfl T.z_len (by boot_by_name) (pa_cons (fv 0) pa_nil)) (fv 1) (nomark _)) (pe_one (pe_callB c_all rfl T.z_all (by boot_by_name) (pa_cons (pe_comp (N := ["thing"]) (own := 1) (fr := []) (CompOk.of (by kernel_rfl!)) rfl (pi_any (fv 0)) (fun b => pg_name (i := 0) (show List.Nodup (["thing"] : List PySem.Str) by decide +kernel) rfl (by first | exact Or.inl rfl | exact Or.inr rfl)) (fun b => pf_nil) (fun b => pe_callD D_is_number hr (pa_cons (fv 0) pa_nil))) pa_nil)))))))), ?_⟩
      refine ⟨rfl, _, rfl, ite2 (fun c => ?_) (fun c => absurd rfl c)⟩
      exact ⟨a, rfl, ha, q⟩
    · refine ⟨_, (pss_cons (ps_if (pt_cmpR (o_eqU hu) (fv 1) (pe_int) (nomark _))
      (pss_one (ps_ret (pe_callD D_is_number hr (pa_cons (fv 0) pa_nil))))
      pss_nil)
    (pss_one (ps_ret (pe_and (pe_callB c_isinst rfl T.z_isinstance (by boot_by_name) (pa_cons (fv 0) (pa_cons (pe_bltn (v := .ty "list") rfl T.z_list (by boot_by_name) rfl) pa_nil))) (pe_and (pe_cmpR (o_eqU hu) (pe_callB c_lenA rfl T.z_len (by boot_by_name) (pa_cons (fv 0) pa_nil)) (fv 1) (nomark _)) (pe_one (pe_callB c_all rfl T.z_all (by boot_by_name) (pa_cons (pe_comp (N := ["thing"]) (own := 1) (fr := []) (CompOk.of (by kernel_rfl!)) rfl (pi_any (fv 0)) (fun b => pg_name (i := 0) (show List.Nodup (["thing"] : List PySem.Str) by decide +kernel) rfl (by first | exact Or.inl rfl | exact Or.inr rfl)) (fun b => pf_nil) (fun b => pe_callD D_is_number hr (pa_cons (fv 0) pa_nil))) pa_nil)))))))), ?_⟩
      refine ⟨rfl, _, rfl, ite2 (fun c => absurd c ?_) (fun c => ?_)⟩
      · rw [vint, decide_eq_true_iff]
        omega
      · refine ⟨_, _, _, true, rfl, (fun z => by cases z), .lst hS, kit_ll, _, rfl, iteT ?_⟩
        refine Or.inl ⟨_, _, rfl, Or.inl ⟨_, SqL.of hS, rfl⟩, rfl, _, rfl, ?_⟩
        refine ite2 (fun c2 => ?_) (fun c2 => absurd ?_ c2)
        · refine Or.inl ⟨⟨_, SqL.of hS⟩, comp_list (K := K) (fun _ => true) (fun _ => .bl true) (SqL.of hS) (by rw [List.length_map]; exact small1000 hl) (fun b x H2 R _ _ k => k _ (Same.refl _)) (fun b x H2 R hx _ s2 k => ?_) (fun D H2 hD s2 e => ?_)⟩
          · obtain ⟨a, ha, rfl⟩ := List.mem_map.mp hx
            exact ⟨a, rfl, hb a ha, k _ (Same.refl _)⟩
          · rw [filter_true, List.map_map] at e
            refine ⟨D, rs.map (fun _ => true), rfl, SqL.of (by rw [e, List.map_map]; rfl), ?_⟩
            have : (rs.map (fun _ => true)).all id = true := by simp
            rw [this]
            exact q _ s2
        · rw [vint, List.length_map, decide_eq_true_iff]
def sp_round : Sp := fun vs H Q _ => ∃ (a : Int) (n : Nat), vs = [.int a, .int n] ∧ In a ∧ 0 < n ∧ n ≤ 1000 ∧ Q (.int (a % (n : Int))) H
theorem h_round (T : Txt K mg A) : Has P w K mg base 2 "round_place" ["place", "size"] sp_round := by
  have D_reckon := h_reckon (P := P) (w := w) (base := base) T
  refine T.round_place.has sc_round_place (fun vs H Q E h => ?_) (fun f cdv A outer s H vs Q E hr hu h => ?_)
  · obtain ⟨a, n, rfl, _⟩ := h
    rfl
  · obtain ⟨a, n, rfl, ha, h0, h1, q⟩ := h
    refine ⟨_, (pss_one (ps_ret (pe_callD D_reckon hr (pa_cons (fv 0) (pa_cons (pe_str) (pa_cons (fv 1) pa_nil)))))), ?_⟩
    exact ⟨a, n, _, rfl, ha.1, ha.2, by omega, by omega, by rw [rkn_rest h0]; exact q⟩
def gv (l : Addr) (x y : Int) (i : Nat) : V := if i = 4 then .ref l else if i = 0 then .int x else .int y
structure Gifts (N : Nat → Str) (H : Hp) (g l : Addr) (x y : Int) (rs : List Int) : Prop where
  d : H g = some (.dK (dk N [0, 1, 4] (gv l x y)))
  l : H l = some (.lst (rs.map V.int))
  hr : ∀ a ∈ rs, In a
  hz : 0 < rs.length ∧ rs.length ≤ 1000
  hx : In x
  hy : In y
theorem Gifts.same {H H' : Hp} {g l : Addr} {x y : Int} {rs : List Int} (G : Gifts N H g l x y rs) (s : Same H H') : Gifts N H' g l x y rs := ⟨s _ _ G.d, s _ _ G.l, G.hr, G.hz, G.hx, G.hy⟩
theorem lt12 {idx : List Nat} (h : idx.all (· < 12) = true) : ∀ j ∈ idx, j < 12 := fun j hj => by simpa using List.all_eq_true.mp h j hj
theorem Gifts.get {H : Hp} {g l : Addr} {x y : Int} {rs : List Int} (G : Gifts N H g l x y rs) (D : Dist N) {i : Nat} (hi : i ∈ [0, 1, 4]) : DGet H g (.str (N i)) (some (gv l x y i)) := by
  have := DGet.k (k := .inr (N i)) G.d
  rw [dk_get D (lt12 (by decide)) hi] at this
  exact this
def sp_given (A : Adr) : Sp := fun vs H Q _ => ∃ (N : Nat → Str) (a g l dx : Addr) (x y k rk : Int) (rs : List Int) (i : Nat), Dist N ∧ vs = [.ref a, .ref g] ∧ Gifts N H g l x y rs ∧
  ((i = 0 ∨ i = 1) ∧ H a = some (.ins A.GivenRow dx [("number", .int k), ("name", .str (N i)), ("rank", .int rk), ("size", .int 0)]) ∧ Q (gv l x y i) H ∨
  (i = 4 ∧ H a = some (.ins A.GivenRow dx [("number", .int k), ("name", .str (N 4)), ("rank", .int rk), ("size", .int rs.length)]) ∧ ∀ p H', Same H H' → H p = none → H' p = some (.lst (rs.map V.int)) → Q (.ref p) H'))
theorem h_given (T : Txt K mg A) : Has P w K mg base 3 "given_cell" ["given", "gifts"] (sp_given A) := by
  have D_is_good := h_isgood (P := P) (w := w) (base := base) T
  refine T.given_cell.has sc_given_cell (fun vs H Q E h => ?_) (fun f cdv A' outer s H vs Q E hr hu h => ?_)
  · obtain ⟨N, a, g, l, dx, x, y, k, rk, rs, i, _, rfl, _⟩ := h
    rfl
  · obtain ⟨N, a, g, l, dx, x, y, k, rk, rs, i, D, rfl, G, ⟨hi, ha, q⟩ | ⟨rfl, ha, q⟩⟩ := h
    · have hm : i ∈ [0, 1, 4] := by rcases hi with rfl | rfl <;> decide
      obtain ⟨v, ev, iv⟩ : ∃ v, gv l x y i = .int v ∧ In v := by
        rcases hi with rfl | rfl
        · exact ⟨x, rfl, G.hx⟩
        · exact ⟨y, rfl, G.hy⟩
      have d1 := G.get D hm
      rw [ev] at d1 q
      refine ⟨_, (pss_cons (ps_set (i := 2) sc_given_cell.nd rfl (Or.inl rfl) (pe_dget1 (Nat.lt_of_le_of_lt (Nat.add_le_add_left (show 1 ≤ 64 by decide) _) hu) (fv 1) (pe_fld (fv 0) rfl) ⟨rfl, rfl, rfl, rfl⟩))
    (pss_cons (ps_if (pt_not (pt_tru (pe_callD D_is_good hr (pa_cons (fv 2) (pa_cons (pe_fld (fv 0) rfl) pa_nil))) (fun _ => rfl)))
      pss_never
      pss_nil)
    (pss_one (ps_ret (pe_ifExp (pt_cmpR (o_eqU hu) (pe_fld (fv 0) rfl) (pe_int) (nomark _)) (fv 2) (pe_callTy c_listA rfl T.z_list (by boot_by_name) (pa_cons (fv 2) pa_nil))))))), ?_⟩
      refine ⟨g, rfl, Or.inl ⟨_, Or.inl G.d⟩, a, _, dx, _, _, rfl, ha, T.o_GivenRow.cl, T.n_GivenRow_name, rfl, _, d1, ?_⟩
      refine ⟨a, _, dx, _, _, rfl, ha, T.o_GivenRow.cl, T.n_GivenRow_size, rfl, Or.inl ⟨v, rfl, iv, true, rfl, iteF ?_⟩⟩
      exact ⟨a, _, dx, _, _, rfl, ha, T.o_GivenRow.cl, T.n_GivenRow_size, rfl, rfl, _, rfl, iteT q⟩
    · have d1 := G.get D (i := 4) (by decide)
      refine ⟨_, (pss_cons (ps_set (i := 2) sc_given_cell.nd rfl (Or.inl rfl) (pe_dget1 (Nat.lt_of_le_of_lt (Nat.add_le_add_left (show 1 ≤ 64 by decide) _) hu) (fv 1) (pe_fld (fv 0) rfl) ⟨rfl, rfl, rfl, rfl⟩))
    (pss_cons (ps_if (pt_not (pt_tru (pe_callD D_is_good hr (pa_cons (fv 2) (pa_cons (pe_fld (fv 0) rfl) pa_nil))) (fun _ => rfl)))
      pss_never
      pss_nil)
    (pss_one (ps_ret (pe_ifExp (pt_cmpR (o_eqU hu) (pe_fld (fv 0) rfl) (pe_int) (nomark _)) (fv 2) (pe_callTy c_listA rfl T.z_list (by boot_by_name) (pa_cons (fv 2) pa_nil))))))), ?_⟩
      refine ⟨g, rfl, Or.inl ⟨_, Or.inl G.d⟩, a, _, dx, _, _, rfl, ha, T.o_GivenRow.cl, T.n_GivenRow_name, rfl, _, d1, ?_⟩
      refine ⟨a, _, dx, _, _, rfl, ha, T.o_GivenRow.cl, T.n_GivenRow_size, rfl, Or.inr ⟨l, rs, rfl, G.hz.1, G.hz.2, G.l, G.hr, fun H2 s2 => ⟨true, rfl, iteF ?_⟩⟩⟩
      refine ⟨a, _, dx, _, _, rfl, s2 _ _ ha, T.o_GivenRow.cl, T.n_GivenRow_size, rfl, rfl, _, rfl, ite2 (fun c => absurd c ?_) (fun c => ?_)⟩
      · rw [vint, decide_eq_true_iff]
        have := G.hz.1
        omega
      · refine Or.inl ⟨_, _, rfl, Or.inl (SqL.of (s2 _ _ G.l)), fun p hp => ?_⟩
        exact q p _ (s2.trans (Same.upd hp _)) (Same.free s2 hp) upd_same
end
end K22

set_option Elab.async false
set_option linter.all false
set_option maxRecDepth 100000
set_option maxHeartbeats 4000000
namespace K22
open PySem L2
section
variable {P : Program} {w : World} {K : PySem.W.Frag} {mg : Str → Option Value} {base : Heap} {A : Adr} {N : Nat → Str}
def zeros (n : Nat) : List Int := List.replicate n 0
theorem zeros_flat (n : Nat) : (List.replicate n [V.int 0]).flatten = (zeros n).map V.int := by
  unfold zeros
  rw [List.map_replicate]
  induction n with
  | zero => rfl
  | succ n ih => rw [List.replicate_succ, List.replicate_succ, List.flatten_cons, ih]; rfl
def sp_own (A : Adr) : Sp := fun vs H Q _ => ∃ (a dx : Addr) (k : Int) (n : Nat) (x : Str), vs = [.ref a] ∧ n ≤ 1000 ∧ H a = some (.ins A.OwnRow dx [("number", .int k), ("name", .str x), ("size", .int n)]) ∧ (n = 0 → Q (.int 0) H) ∧ (0 < n → ∀ p H', Same H H' → H p = none → H' p = some (.lst ((zeros n).map V.int)) → Q (.ref p) H')
theorem lt8 {t : Nat} (h : t < 8) : t = 0 ∨ t = 1 ∨ t = 2 ∨ t = 3 ∨ t = 4 ∨ t = 5 ∨ t = 6 ∨ t = 7 := by omega
theorem h_own (T : Txt K mg A) : Has P w K mg base 1 "own_cell" ["own"] (sp_own A) := by
  refine T.own_cell.has sc_own_cell (fun vs H Q E h => ?_) (fun f cdv A' outer s H vs Q E hr hu h => ?_)
  · obtain ⟨a, dx, k, n, x, rfl, _⟩ := h
    rfl
  · obtain ⟨a, dx, k, n, x, rfl, hn, ha, q0, q1⟩ := h
    refine ⟨_, (pss_one (ps_ret (pe_ifExp (pt_cmpR (o_eqU hu) (pe_fld (fv 0) rfl) (pe_int) (nomark _)) (pe_int) (pe_op o_mulA (pe_lst (pa_cons (pe_int) pa_nil)) (pe_fld (fv 0) rfl))))), ?_⟩
    refine ⟨a, _, dx, _, _, rfl, ha, T.o_OwnRow.cl, T.n_OwnRow_size, rfl, rfl, _, rfl, ite2 (fun c => ?_) (fun c => ?_)⟩
    · rw [vint, decide_eq_true_iff] at c
      exact q0 (by omega)
    · rw [vint, decide_eq_true_iff] at c
      refine ⟨by show 1 ≤ sizeLine; decide, fun l hl => ?_⟩
      have s1 := Same.upd hl (HO.lst [V.int 0])
      have e1 : (upd H l (HO.lst [V.int 0])) l = some (.lst [V.int 0]) := upd_same
      generalize upd H l (HO.lst [V.int 0]) = H1 at s1 e1 ⊢
      refine ⟨a, _, dx, _, _, rfl, s1 _ _ ha, T.o_OwnRow.cl, T.n_OwnRow_size, rfl, _, e1, by omega, by omega, ?_, fun p hp => ?_⟩
      · show 1 * ((n : Int)).toNat ≤ sizeLine
        have := sz hn
        omega
      · refine q1 (by omega) p _ (s1.trans (Same.upd hp _)) (Same.free s1 hp) ?_
        rw [upd_same, ← zeros_flat]
        rfl
structure Pa where
  pa : Addr
  dp : Addr
  hd : Addr
  dd : Addr
  mn : Addr
def GAt (A : Adr) (N : Nat → Str) (H : Hp) (v : V) (j z : Nat) : Prop := ∃ (a dx : Addr) (n rk : Int), v = .ref a ∧ H a = some (.ins A.GivenRow dx [("number", .int n), ("name", .str (N j)), ("rank", .int rk), ("size", .int z)])
def OAt (A : Adr) (N : Nat → Str) (H : Hp) (v : V) (j z : Nat) : Prop := ∃ (a dx : Addr) (n : Int), v = .ref a ∧ H a = some (.ins A.OwnRow dx [("number", .int n), ("name", .str (N j)), ("size", .int z)])
def HAt (A : Adr) (H : Hp) (v : V) : Prop := ∃ (a dx : Addr) (n : Int) (x : Str) (rk : Int), v = .ref a ∧ H a = some (.ins A.HandRow dx [("number", .int n), ("name", .str x), ("rank", .int rk)])
def LAt (A : Adr) (H : Hp) (v : V) : Prop := ∃ (a dx : Addr) (n : Int) (x : Str) (rk : Int), v = .ref a ∧ H a = some (.ins A.LetRow dx [("number", .int n), ("name", .str x), ("rank", .int rk)])
def HeadAt (A : Adr) (N : Nat → Str) (H : Hp) (z y : Nat) (v : V) : Nat → Prop
  | 0 => GAt A N H v 0 0
  | 1 => GAt A N H v 1 0
  | 2 => OAt A N H v 2 0
  | 3 => OAt A N H v 3 0
  | 4 => GAt A N H v 4 z
  | 5 => OAt A N H v 5 y
  | 6 => HAt A H v
  | _ => LAt A H v
theorem GAt.same {H H' : Hp} (s : Same H H') {v : V} {j z : Nat} : GAt A N H v j z → GAt A N H' v j z := fun ⟨a, dx, n, rk, e, h⟩ => ⟨a, dx, n, rk, e, s _ _ h⟩
theorem OAt.same {H H' : Hp} (s : Same H H') {v : V} {j z : Nat} : OAt A N H v j z → OAt A N H' v j z := fun ⟨a, dx, n, e, h⟩ => ⟨a, dx, n, e, s _ _ h⟩
theorem HAt.same {H H' : Hp} (s : Same H H') {v : V} : HAt A H v → HAt A H' v := fun ⟨a, dx, n, x, rk, e, h⟩ => ⟨a, dx, n, x, rk, e, s _ _ h⟩
theorem LAt.same {H H' : Hp} (s : Same H H') {v : V} : LAt A H v → LAt A H' v := fun ⟨a, dx, n, x, rk, e, h⟩ => ⟨a, dx, n, x, rk, e, s _ _ h⟩
theorem HeadAt.same {H H' : Hp} (s : Same H H') {z y : Nat} {v : V} : ∀ {j : Nat}, HeadAt A N H z y v j → HeadAt A N H' z y v j
  | 0, h => GAt.same s h
  | 1, h => GAt.same s h
  | 2, h => OAt.same s h
  | 3, h => OAt.same s h
  | 4, h => GAt.same s h
  | 5, h => OAt.same s h
  | 6, h => HAt.same s h
  | _ + 7, h => LAt.same s h
structure PrAt (A : Adr) (N : Nat → Str) (H : Hp) (p : Pa) (hv : List V) (js : List Nat) (z y : Nat) (xs : List V) : Prop where
  pr : H p.pa = some (.ins A.Program p.dp [("heads", .ref p.hd), ("deeds", .ref p.dd), ("main", .ref p.mn)])
  hd : H p.hd = some (.lst hv)
  dd : H p.dd = some (.lst [])
  mn : H p.mn = some (.lst xs)
  hs : PySem.Paired (HeadAt A N H z y) hv js
theorem PrAt.same {H H' : Hp} {p : Pa} {hv : List V} {js : List Nat} {z y : Nat} {xs : List V} (R : PrAt A N H p hv js z y xs) (s : Same H H') : PrAt A N H' p hv js z y xs := ⟨s _ _ R.pr, s _ _ R.hd, s _ _ R.dd, s _ _ R.mn, Paired.mapP R.hs fun _ _ => HeadAt.same s⟩
structure Ord (js : List Nat) : Prop where
  nd : js.Nodup
  lt : ∀ j ∈ js, j < 8
  all : ∀ j, j < 8 → j ∈ js
  len : js.length = 8
def cel (js : List Nat) : List Nat := js.filter fun j => decide (j < 6)
theorem cel12 {js : List Nat} : ∀ j ∈ cel js, j < 12 := fun j hj => by
  have := (List.mem_filter.mp hj).2
  rw [decide_eq_true_iff] at this
  omega
theorem Ord.mem {js : List Nat} (O : Ord js) {j : Nat} (h : j < 6) : j ∈ cel js := List.mem_filter.mpr ⟨O.all j (by omega), decide_eq_true h⟩
def cv (sl kl : Addr) (num : Nat → Int) (i : Nat) : V := if i = 4 then .ref sl else if i = 5 then .ref kl else .int (num i)
def num0 (x y : Int) (i : Nat) : Int := if i = 0 then x else if i = 1 then y else 0
structure NewCells (N : Nat → Str) (js : List Nat) (H H' : Hp) (c sl kl : Addr) (x y : Int) (rs : List Int) (m : Nat) : Prop where
  c0 : H c = none
  s0 : H sl = none
  k0 : H kl = none
  sc : sl ≠ c
  kc : kl ≠ c
  ks : kl ≠ sl
  c : H' c = some (.dK (dk N (cel js) (cv sl kl (num0 x y))))
  s : H' sl = some (.lst (rs.map V.int))
  k : H' kl = some (.lst ((zeros m).map V.int))
def sp_cells (A : Adr) : Sp := fun vs H Q _ => ∃ (N : Nat → Str) (p : Pa) (hv : List V) (js : List Nat) (g l : Addr) (x y : Int) (rs : List Int) (m : Nat) (xs : List V), Dist N ∧ Ord js ∧ vs = [.ref p.pa, .ref g] ∧ PrAt A N H p hv js rs.length m xs ∧ Gifts N H g l x y rs ∧ 0 < m ∧ m ≤ 1000 ∧
  ∀ c sl kl H', Same H H' → NewCells N js H H' c sl kl x y rs m → Q (.ref c) H'
structure Filled (H H2 : Hp) (c sl kl : Addr) (rs : List Int) (m : Nat) (ks : List Nat) : Prop where
  s : 4 ∈ ks → H2 sl = some (.lst (rs.map V.int)) ∧ H sl = none ∧ sl ≠ c
  k : 5 ∈ ks → H2 kl = some (.lst ((zeros m).map V.int)) ∧ H kl = none ∧ kl ≠ c
  ks : 4 ∈ ks → 5 ∈ ks → kl ≠ sl
theorem dk_step (D : Dist N) {sl kl : Addr} {num : Nat → Int} {idx : List Nat} {i : Nat} {v : V} (hi : i < 12) (hb : ∀ j ∈ idx, j < 12) (m : i ∉ idx) (hv : v = cv sl kl num i) : putK (dk N idx (cv sl kl num)) (.inr (N i)) v = dk N (idx ++ [i]) (cv sl kl num) := by
  rw [dk_new D hi hb m]
  refine dk_congr fun j _ => ?_
  by_cases e : j = i
  · rw [e, updF_same, hv]
  · rw [updF_ne _ _ e]
theorem cel_snoc {ks : List Nat} {j : Nat} : cel (ks ++ [j]) = cel ks ++ (if j < 6 then [j] else []) := by
  unfold cel
  rw [List.filter_append]
  congr 1
  by_cases h : j < 6
  · rw [if_pos h]; simp [h]
  · rw [if_neg h]; simp [h]
theorem cv_sl {sl sl' kl : Addr} {num : Nat → Int} {ks : List Nat} (h : 4 ∉ ks) : dk N ks (cv sl kl num) = dk N ks (cv sl' kl num) := dk_congr fun j hj => by
  have : j ≠ 4 := fun e => h (e ▸ hj)
  unfold cv
  rw [if_neg this, if_neg this]
theorem cv_kl {sl kl kl' : Addr} {num : Nat → Int} {ks : List Nat} (h : 5 ∉ ks) : dk N ks (cv sl kl num) = dk N ks (cv sl kl' num) := dk_congr fun j hj => by
  have : j ≠ 5 := fun e => h (e ▸ hj)
  unfold cv
  rw [if_neg this, if_neg this]
theorem take_snoc {ks : List Nat} {i j : Nat} (h : ks[i]? = some j) : ks.take (i + 1) = ks.take i ++ [j] := by
  rw [List.take_add_one, h]
  rfl
theorem not_before {ks : List Nat} {i j : Nat} (nd : ks.Nodup) (h : ks[i]? = some j) : j ∉ ks.take i := fun m => by
  obtain ⟨q, hq, e⟩ := List.mem_take_iff_getElem.mp m
  have hi := (List.getElem?_eq_some_iff.mp h)
  obtain ⟨hi, e2⟩ := hi
  have := (List.getElem_inj nd).mp (e.trans e2.symm)
  omega
theorem cel_no {ks : List Nat} {j : Nat} (h : j ∉ ks) : j ∉ cel ks := fun m => h (List.mem_filter.mp m).1
theorem h_cells (T : Txt K mg A) : Has P w K mg base 4 "cells_of" ["program", "gifts"] (sp_cells A) := by
  have D_given_cell := h_given (P := P) (w := w) (base := base) T
  have D_own_cell := h_own (P := P) (w := w) (base := base) T
  refine T.cells_of.has sc_cells_of (fun vs H Q E h => ?_) (fun f cdv A' outer s H vs Q E hr hu h => ?_)
  · obtain ⟨N, p, hv, js, g, l, x, y, rs, m, xs, _, _, rfl, _⟩ := h
    rfl
  · obtain ⟨N, p, hv, js, g, l, x, y, rs, m, xs, D, O, rfl, R, G, hm0, hm1, q⟩ := h
    have hl8 : js.length ≤ 8 := Nat.le_of_eq O.len
    refine ⟨_, (pss_cons (ps_set (i := 2) sc_cells_of.nd rfl (Or.inl rfl) (pe_dnewK))
    (pss_cons (ps_for PassesOwn.never rfl (pi_any (pe_fld (fv 0) rfl)) (pg_name (i := 3) sc_cells_of.nd rfl (by first | exact Or.inl rfl | exact Or.inr rfl))
      (pss_one (ps_if (pt_tru (pe_callB c_isinst rfl T.z_isinstance (by boot_by_name) (pa_cons (fv 3) (pa_cons (pe_gtup T.o_GivenRow.mg) pa_nil))) (fun _ => rfl))
        (pss_one (ps_asg (pe_callD D_given_cell hr (pa_cons (fv 3) (pa_cons (fv 1) pa_nil))) (pg_sub (fv 2) (pe_fld (fv 3) rfl) (st_all hu set_list))))
        (pss_one (ps_if (pt_tru (pe_callB c_isinst rfl T.z_isinstance (by boot_by_name) (pa_cons (fv 3) (pa_cons (pe_gtup T.o_OwnRow.mg) pa_nil))) (fun _ => rfl))
          (pss_one (ps_asg (pe_callD D_own_cell hr (pa_cons (fv 3) pa_nil)) (pg_sub (fv 2) (pe_fld (fv 3) rfl) (st_all hu set_list))))
          pss_nil)))))
    (pss_cons (ps_for PassesOwn.never rfl (pi_any (pe_fld (fv 0) rfl)) (pg_name (i := 4) sc_cells_of.nd rfl (by first | exact Or.inl rfl | exact Or.inr rfl))
      pss_never)
    (pss_one (ps_ret (fv 2)))))), ?_⟩
    refine fun c hc => ?_
    have s1 := Same.upd hc (HO.dK [])
    have e1 : (upd H c (HO.dK [])) c = some (.dK []) := upd_same
    generalize upd H c (HO.dK []) = H1 at s1 e1 ⊢
    refine ⟨p.pa, _, p.dp, _, _, rfl, s1 _ _ R.pr, T.o_Program.cl, T.n_Program_heads, rfl, Or.inl ⟨⟨_, SqL.of (s1 _ _ R.hd)⟩, ?_⟩⟩
    refine for_list (K := K) (xs := hv) (fun i σ H2 => Same H H2 ∧ (∃ sl kl, H2 c = some (.dK (dk N (cel (js.take i)) (cv sl kl (num0 x y)))) ∧ Filled H H2 c sl kl rs m (js.take i)) ∧ ∃ v, σ = [some (.ref p.pa), some (.ref g), some (.ref c), v, none, none]) ⟨s1, ⟨0, 0, e1, (fun z => by cases z), (fun z => by cases z), (fun z => by cases z)⟩, none, rfl⟩ (fun i σ H2 _ h => SqL.of (h.1 _ _ R.hd)) ?_ ?_
    · rintro i v σ H2 hx ⟨s2, ⟨sl, kl, hc2, F⟩, z, rfl⟩
      obtain ⟨j, hj, W⟩ := paired_get R.hs hx
      have nb := not_before O.nd hj
      have nc := cel_no nb
      have j8 := O.lt j (List.mem_of_getElem? hj)
      have len : (dk N (cel (js.take i)) (cv sl kl (num0 x y))).length < sizeLine := small1000 (by
        unfold dk cel
        rw [List.length_map]
        have h1 := List.length_filter_le (fun j => decide (j < 6)) (js.take i)
        rw [List.length_take] at h1
        omega)
      rw [take_snoc hj, cel_snoc]
      have mem : ∀ {q : Nat}, q ≠ j → q ∈ js.take i ++ [j] → q ∈ js.take i := fun ne hq => by
        rcases List.mem_append.mp hq with hq | hq
        · exact hq
        · exact absurd (List.mem_singleton.mp hq) ne
      have := lt8 (O.lt j (List.mem_of_getElem? hj))
      rcases this with rfl | rfl | rfl | rfl | rfl | rfl | rfl | rfl
      · obtain ⟨a, dx, n, rk, rfl, ha⟩ := W
        refine ⟨_, _, _, true, rfl, (fun z => by cases z), T.o_GivenRow.tyOf (s2 _ _ ha), kitT T.o_GivenRow, true, rfl, iteT ?_⟩
        refine ⟨N, a, g, l, dx, x, y, _, _, rs, 0, D, rfl, G.same s2, Or.inl ⟨by decide, s2 _ _ ha, ?_⟩⟩
        refine ⟨a, _, dx, _, _, rfl, s2 _ _ ha, T.o_GivenRow.cl, T.n_GivenRow_name, rfl, _, DPut.k (k := .inr (N 0)) hc2 len, ?_⟩
        exact ⟨Same.out s2 hc _, ⟨sl, kl, by rw [upd_same]; exact congrArg some (congrArg HO.dK (dk_step D (by decide) cel12 nc rfl)), ⟨fun hq => (by obtain ⟨f1, f2, f3⟩ := F.s (mem (by decide) hq); exact ⟨by rw [upd_ne f3]; exact f1, f2, f3⟩), fun hq => (by obtain ⟨f1, f2, f3⟩ := F.k (mem (by decide) hq); exact ⟨by rw [upd_ne f3]; exact f1, f2, f3⟩), fun h4 h5 => F.ks (mem (by decide) h4) (mem (by decide) h5)⟩⟩, _, rfl⟩
      · obtain ⟨a, dx, n, rk, rfl, ha⟩ := W
        refine ⟨_, _, _, true, rfl, (fun z => by cases z), T.o_GivenRow.tyOf (s2 _ _ ha), kitT T.o_GivenRow, true, rfl, iteT ?_⟩
        refine ⟨N, a, g, l, dx, x, y, _, _, rs, 1, D, rfl, G.same s2, Or.inl ⟨by decide, s2 _ _ ha, ?_⟩⟩
        refine ⟨a, _, dx, _, _, rfl, s2 _ _ ha, T.o_GivenRow.cl, T.n_GivenRow_name, rfl, _, DPut.k (k := .inr (N 1)) hc2 len, ?_⟩
        exact ⟨Same.out s2 hc _, ⟨sl, kl, by rw [upd_same]; exact congrArg some (congrArg HO.dK (dk_step D (by decide) cel12 nc rfl)), ⟨fun hq => (by obtain ⟨f1, f2, f3⟩ := F.s (mem (by decide) hq); exact ⟨by rw [upd_ne f3]; exact f1, f2, f3⟩), fun hq => (by obtain ⟨f1, f2, f3⟩ := F.k (mem (by decide) hq); exact ⟨by rw [upd_ne f3]; exact f1, f2, f3⟩), fun h4 h5 => F.ks (mem (by decide) h4) (mem (by decide) h5)⟩⟩, _, rfl⟩
      · obtain ⟨a, dx, n, rfl, ha⟩ := W
        refine ⟨_, _, _, false, rfl, (fun z => by cases z), T.o_OwnRow.tyOf (s2 _ _ ha), kitF T.o_OwnRow T.o_GivenRow (cls_ne T 3 4) (cls_ne T 3 1), false, rfl, iteF ?_⟩
        refine ⟨_, _, _, true, rfl, (fun z => by cases z), T.o_OwnRow.tyOf (s2 _ _ ha), kitT T.o_OwnRow, true, rfl, iteT ?_⟩
        refine ⟨a, dx, _, 0, _, rfl, by decide, s2 _ _ ha, fun _ => ?_, fun z => by omega⟩
        refine ⟨a, _, dx, _, _, rfl, s2 _ _ ha, T.o_OwnRow.cl, T.n_OwnRow_name, rfl, _, DPut.k (k := .inr (N 2)) hc2 len, ?_⟩
        exact ⟨Same.out s2 hc _, ⟨sl, kl, by rw [upd_same]; exact congrArg some (congrArg HO.dK (dk_step D (by decide) cel12 nc rfl)), ⟨fun hq => (by obtain ⟨f1, f2, f3⟩ := F.s (mem (by decide) hq); exact ⟨by rw [upd_ne f3]; exact f1, f2, f3⟩), fun hq => (by obtain ⟨f1, f2, f3⟩ := F.k (mem (by decide) hq); exact ⟨by rw [upd_ne f3]; exact f1, f2, f3⟩), fun h4 h5 => F.ks (mem (by decide) h4) (mem (by decide) h5)⟩⟩, _, rfl⟩
      · obtain ⟨a, dx, n, rfl, ha⟩ := W
        refine ⟨_, _, _, false, rfl, (fun z => by cases z), T.o_OwnRow.tyOf (s2 _ _ ha), kitF T.o_OwnRow T.o_GivenRow (cls_ne T 3 4) (cls_ne T 3 1), false, rfl, iteF ?_⟩
        refine ⟨_, _, _, true, rfl, (fun z => by cases z), T.o_OwnRow.tyOf (s2 _ _ ha), kitT T.o_OwnRow, true, rfl, iteT ?_⟩
        refine ⟨a, dx, _, 0, _, rfl, by decide, s2 _ _ ha, fun _ => ?_, fun z => by omega⟩
        refine ⟨a, _, dx, _, _, rfl, s2 _ _ ha, T.o_OwnRow.cl, T.n_OwnRow_name, rfl, _, DPut.k (k := .inr (N 3)) hc2 len, ?_⟩
        exact ⟨Same.out s2 hc _, ⟨sl, kl, by rw [upd_same]; exact congrArg some (congrArg HO.dK (dk_step D (by decide) cel12 nc rfl)), ⟨fun hq => (by obtain ⟨f1, f2, f3⟩ := F.s (mem (by decide) hq); exact ⟨by rw [upd_ne f3]; exact f1, f2, f3⟩), fun hq => (by obtain ⟨f1, f2, f3⟩ := F.k (mem (by decide) hq); exact ⟨by rw [upd_ne f3]; exact f1, f2, f3⟩), fun h4 h5 => F.ks (mem (by decide) h4) (mem (by decide) h5)⟩⟩, _, rfl⟩
      · obtain ⟨a, dx, n, rk, rfl, ha⟩ := W
        refine ⟨_, _, _, true, rfl, (fun z => by cases z), T.o_GivenRow.tyOf (s2 _ _ ha), kitT T.o_GivenRow, true, rfl, iteT ?_⟩
        refine ⟨N, a, g, l, dx, x, y, _, _, rs, 4, D, rfl, G.same s2, Or.inr ⟨rfl, s2 _ _ ha, fun u H3 s3 u0 hu3 => ?_⟩⟩
        have uc : u ≠ c := fun w => by rw [w, hc2] at u0; cases u0
        refine ⟨a, _, dx, _, _, rfl, s3 _ _ (s2 _ _ ha), T.o_GivenRow.cl, T.n_GivenRow_name, rfl, _, DPut.k (k := .inr (N 4)) (s3 _ _ hc2) len, ?_⟩
        refine ⟨Same.out (s2.trans s3) hc _, ⟨u, kl, ?_, fun _ => ⟨by rw [upd_ne uc]; exact hu3, Same.free s2 u0, uc⟩, fun hq => (by obtain ⟨f1, f2, f3⟩ := F.k (mem (by decide) hq); exact ⟨by rw [upd_ne f3]; exact s3 _ _ f1, f2, f3⟩), fun _ h5 w => (by obtain ⟨f1, f2, f3⟩ := F.k (mem (by decide) h5); rw [← w, f1] at u0; cases u0)⟩, _, rfl⟩
        rw [upd_same, cv_sl (sl' := u) nc]
        exact congrArg some (congrArg HO.dK (dk_step D (by decide) cel12 nc rfl))
      · obtain ⟨a, dx, n, rfl, ha⟩ := W
        refine ⟨_, _, _, false, rfl, (fun z => by cases z), T.o_OwnRow.tyOf (s2 _ _ ha), kitF T.o_OwnRow T.o_GivenRow (cls_ne T 3 4) (cls_ne T 3 1), false, rfl, iteF ?_⟩
        refine ⟨_, _, _, true, rfl, (fun z => by cases z), T.o_OwnRow.tyOf (s2 _ _ ha), kitT T.o_OwnRow, true, rfl, iteT ?_⟩
        refine ⟨a, dx, _, m, _, rfl, hm1, s2 _ _ ha, fun z => by omega, fun _ u H3 s3 u0 hu3 => ?_⟩
        have uc : u ≠ c := fun w => by rw [w, hc2] at u0; cases u0
        refine ⟨a, _, dx, _, _, rfl, s3 _ _ (s2 _ _ ha), T.o_OwnRow.cl, T.n_OwnRow_name, rfl, _, DPut.k (k := .inr (N 5)) (s3 _ _ hc2) len, ?_⟩
        refine ⟨Same.out (s2.trans s3) hc _, ⟨sl, u, ?_, fun hq => (by obtain ⟨f1, f2, f3⟩ := F.s (mem (by decide) hq); exact ⟨by rw [upd_ne f3]; exact s3 _ _ f1, f2, f3⟩), fun _ => ⟨by rw [upd_ne uc]; exact hu3, Same.free s2 u0, uc⟩, fun h4 _ w => (by obtain ⟨f1, f2, f3⟩ := F.s (mem (by decide) h4); rw [w, f1] at u0; cases u0)⟩, _, rfl⟩
        rw [upd_same, cv_kl (kl' := u) nc]
        exact congrArg some (congrArg HO.dK (dk_step D (by decide) cel12 nc rfl))
      · obtain ⟨a, dx, n, y0, rk, rfl, ha⟩ := W
        refine ⟨_, _, _, false, rfl, (fun z => by cases z), T.o_HandRow.tyOf (s2 _ _ ha), kitF T.o_HandRow T.o_GivenRow (cls_ne T 3 2) (cls_ne T 3 1), false, rfl, iteF ?_⟩
        refine ⟨_, _, _, false, rfl, (fun z => by cases z), T.o_HandRow.tyOf (s2 _ _ ha), kitF T.o_HandRow T.o_OwnRow (cls_ne T 4 2) (cls_ne T 4 1), false, rfl, iteF ?_⟩
        exact ⟨s2, ⟨sl, kl, by rw [if_neg (by decide), List.append_nil]; exact hc2, fun hq => F.s (mem (by decide) hq), fun hq => F.k (mem (by decide) hq), fun h4 h5 => F.ks (mem (by decide) h4) (mem (by decide) h5)⟩, _, rfl⟩
      · obtain ⟨a, dx, n, y0, rk, rfl, ha⟩ := W
        refine ⟨_, _, _, false, rfl, (fun z => by cases z), T.o_LetRow.tyOf (s2 _ _ ha), kitF T.o_LetRow T.o_GivenRow (cls_ne T 3 5) (cls_ne T 3 1), false, rfl, iteF ?_⟩
        refine ⟨_, _, _, false, rfl, (fun z => by cases z), T.o_LetRow.tyOf (s2 _ _ ha), kitF T.o_LetRow T.o_OwnRow (cls_ne T 4 5) (cls_ne T 4 1), false, rfl, iteF ?_⟩
        exact ⟨s2, ⟨sl, kl, by rw [if_neg (by decide), List.append_nil]; exact hc2, fun hq => F.s (mem (by decide) hq), fun hq => F.k (mem (by decide) hq), fun h4 h5 => F.ks (mem (by decide) h4) (mem (by decide) h5)⟩, _, rfl⟩
    · rintro σ H2 ⟨s2, ⟨sl, kl, hc2, F⟩, z, rfl⟩
      have le : hv.length = js.length := Paired.length R.hs
      rw [le, List.take_length] at hc2 F
      refine ⟨p.pa, _, p.dp, _, _, rfl, s2 _ _ R.pr, T.o_Program.cl, T.n_Program_deeds, rfl, Or.inl ⟨⟨_, SqL.of (s2 _ _ R.dd)⟩, ?_⟩⟩
      refine for_list (K := K) (xs := []) (fun i σ H3 => H3 = H2 ∧ ∃ v3 v4, σ = [some (.ref p.pa), some (.ref g), some (.ref c), v3, v4, none]) ⟨rfl, _, _, rfl⟩ (fun i σ H3 _ h => by rw [h.1]; exact SqL.of (s2 _ _ R.dd)) ?_ ?_
      · rintro i v σ H3 hv _
        cases hv
      · rintro σ H3 ⟨rfl, v3, v4, rfl⟩
        obtain ⟨f1, f2, f3⟩ := F.s (O.all 4 (by decide))
        obtain ⟨k1, k2, k3⟩ := F.k (O.all 5 (by decide))
        exact q c sl kl _ s2 ⟨hc, f2, k2, f3, k3, F.ks (O.all 4 (by decide)) (O.all 5 (by decide)), hc2, f1, k1⟩
end
end K22

set_option Elab.async false
set_option linter.all false
set_option maxRecDepth 100000
set_option maxHeartbeats 4000000
namespace K22
open PySem L2
section
variable {P : Program} {w : World} {K : PySem.W.Frag} {mg : Str → Option Value} {base : Heap} {A : Adr} {N : Nat → Str} {js : List Nat}
structure NewBook (A : Adr) (H : Hp) (x dx l sd t e : Addr) : Prop where
  b : H x = some (.ins A.Book dx [("letters", .ref l), ("said", .ref sd), ("trace", .ref t), ("steps", .int 0), ("ends", .ref e)])
  hl : H l = some (.lst [])
  hs : H sd = some (.lst [])
  ht : H t = some (.lst [])
  tl : t ≠ l
  dt : sd ≠ t
  dl : sd ≠ l
  he : H e = some (.dK [])
def sp_Book_init (A : Adr) : Sp := fun vs H Q _ => ∃ x dx, vs = [.ref x] ∧ H x = some (.ins A.Book dx []) ∧ ∀ (l sd t e : Addr) (H' : Hp), H l = none → H sd = none → H t = none → H e = none → But x H H' → NewBook A H' x dx l sd t e → Q .non H'
theorem h_Book_init (T : Txt K mg A) : HasM P w K mg base 1 A.Book "__init__" ["self"] (sp_Book_init A) := by
  refine T.m_Book_init.has (k := 0) sc_Book_init (fun vs H Q E h => ?_) (fun f cdv A' outer s H vs Q E hr hu h => ?_)
  · obtain ⟨x, dx, rfl, _⟩ := h
    rfl
  · obtain ⟨x, dx, rfl, hx, q⟩ := h
    refine ⟨_, (pss_cons (ps_fld (fv 0) (pe_lst (pa_nil)) rfl)
    (pss_cons (ps_fld (fv 0) (pe_lst (pa_nil)) rfl)
    (pss_cons (ps_fld (fv 0) (pe_lst (pa_nil)) rfl)
    (pss_cons (ps_fld (fv 0) (pe_int) rfl)
    (pss_one (ps_fld (fv 0) (pe_dnewK) rfl)))))), ?_⟩
    refine ⟨Nat.zero_le _, fun l hl => ?_⟩
    have lx : l ≠ x := fun z => by rw [z, hx] at hl; cases hl
    have b1 : But x H (upd H l (HO.lst [])) := But.new hl _
    have x1 : (upd H l (HO.lst [])) x = some (.ins A.Book dx []) := by rw [upd_ne (Ne.symm lx)]; exact hx
    have l1 : (upd H l (HO.lst [])) l = some (.lst []) := upd_same
    generalize upd H l (HO.lst []) = H1 at b1 x1 l1 ⊢
    refine ⟨x, _, dx, _, rfl, x1, T.o_Book.cl, T.n_Book_letters, by decide, ?_⟩
    have b2 : But x H (upd H1 x (.ins A.Book dx (putF "letters" (.ref l) []))) := b1.trans (But.at x _ _)
    have x2 : (upd H1 x (.ins A.Book dx (putF "letters" (.ref l) []))) x = some (.ins A.Book dx [("letters", .ref l)]) := upd_same
    have l2 : (upd H1 x (.ins A.Book dx (putF "letters" (.ref l) []))) l = some (.lst []) := by rw [upd_ne lx]; exact l1
    generalize upd H1 x (.ins A.Book dx (putF "letters" (.ref l) [])) = H2 at b2 x2 l2 ⊢
    refine ⟨Nat.zero_le _, fun sd hsd => ?_⟩
    have sx : sd ≠ x := fun z => by rw [z, x2] at hsd; cases hsd
    have dl : sd ≠ l := fun z => by rw [z, l2] at hsd; cases hsd
    have sd0 : H sd = none := b2.none sx hsd
    have b3 : But x H (upd H2 sd (HO.lst [])) := b2.trans (But.new hsd _)
    have x3 : (upd H2 sd (HO.lst [])) x = some (.ins A.Book dx [("letters", .ref l)]) := by rw [upd_ne (Ne.symm sx)]; exact x2
    have l3 : (upd H2 sd (HO.lst [])) l = some (.lst []) := by rw [upd_ne (Ne.symm dl)]; exact l2
    have s3 : (upd H2 sd (HO.lst [])) sd = some (.lst []) := upd_same
    generalize upd H2 sd (HO.lst []) = H3 at b3 x3 l3 s3 ⊢
    refine ⟨x, _, dx, _, rfl, x3, T.o_Book.cl, T.n_Book_said, by simp, ?_⟩
    have b4 : But x H (upd H3 x (.ins A.Book dx (putF "said" (.ref sd) [("letters", .ref l)]))) := b3.trans (But.at x _ _)
    have x4 : (upd H3 x (.ins A.Book dx (putF "said" (.ref sd) [("letters", .ref l)]))) x = some (.ins A.Book dx [("letters", .ref l), ("said", .ref sd)]) := upd_same
    have l4 : (upd H3 x (.ins A.Book dx (putF "said" (.ref sd) [("letters", .ref l)]))) l = some (.lst []) := by rw [upd_ne lx]; exact l3
    have s4 : (upd H3 x (.ins A.Book dx (putF "said" (.ref sd) [("letters", .ref l)]))) sd = some (.lst []) := by rw [upd_ne sx]; exact s3
    generalize upd H3 x (.ins A.Book dx (putF "said" (.ref sd) [("letters", .ref l)])) = H4 at b4 x4 l4 s4 ⊢
    refine ⟨Nat.zero_le _, fun t ht => ?_⟩
    have tx : t ≠ x := fun z => by rw [z, x4] at ht; cases ht
    have tl : t ≠ l := fun z => by rw [z, l4] at ht; cases ht
    have ts : t ≠ sd := fun z => by rw [z, s4] at ht; cases ht
    have t0 : H t = none := b4.none tx ht
    have b5 : But x H (upd H4 t (HO.lst [])) := b4.trans (But.new ht _)
    have x5 : (upd H4 t (HO.lst [])) x = some (.ins A.Book dx [("letters", .ref l), ("said", .ref sd)]) := by rw [upd_ne (Ne.symm tx)]; exact x4
    have l5 : (upd H4 t (HO.lst [])) l = some (.lst []) := by rw [upd_ne (Ne.symm tl)]; exact l4
    have s5 : (upd H4 t (HO.lst [])) sd = some (.lst []) := by rw [upd_ne (Ne.symm ts)]; exact s4
    have t5 : (upd H4 t (HO.lst [])) t = some (.lst []) := upd_same
    generalize upd H4 t (HO.lst []) = H5 at b5 x5 l5 s5 t5 ⊢
    refine ⟨x, _, dx, _, rfl, x5, T.o_Book.cl, T.n_Book_trace, by simp, ?_⟩
    have b6 : But x H (upd H5 x (.ins A.Book dx (putF "trace" (.ref t) [("letters", .ref l), ("said", .ref sd)]))) := b5.trans (But.at x _ _)
    have x6 : (upd H5 x (.ins A.Book dx (putF "trace" (.ref t) [("letters", .ref l), ("said", .ref sd)]))) x = some (.ins A.Book dx [("letters", .ref l), ("said", .ref sd), ("trace", .ref t)]) := upd_same
    have l6 : (upd H5 x (.ins A.Book dx (putF "trace" (.ref t) [("letters", .ref l), ("said", .ref sd)]))) l = some (.lst []) := by rw [upd_ne lx]; exact l5
    have s6 : (upd H5 x (.ins A.Book dx (putF "trace" (.ref t) [("letters", .ref l), ("said", .ref sd)]))) sd = some (.lst []) := by rw [upd_ne sx]; exact s5
    have t6 : (upd H5 x (.ins A.Book dx (putF "trace" (.ref t) [("letters", .ref l), ("said", .ref sd)]))) t = some (.lst []) := by rw [upd_ne tx]; exact t5
    generalize upd H5 x (.ins A.Book dx (putF "trace" (.ref t) [("letters", .ref l), ("said", .ref sd)])) = H6 at b6 x6 l6 s6 t6 ⊢
    refine ⟨x, _, dx, _, rfl, x6, T.o_Book.cl, T.n_Book_steps, by simp, ?_⟩
    have b7 : But x H (upd H6 x (.ins A.Book dx (putF "steps" (.int 0) [("letters", .ref l), ("said", .ref sd), ("trace", .ref t)]))) := b6.trans (But.at x _ _)
    have x7 : (upd H6 x (.ins A.Book dx (putF "steps" (.int 0) [("letters", .ref l), ("said", .ref sd), ("trace", .ref t)]))) x = some (.ins A.Book dx [("letters", .ref l), ("said", .ref sd), ("trace", .ref t), ("steps", .int 0)]) := upd_same
    have l7 : (upd H6 x (.ins A.Book dx (putF "steps" (.int 0) [("letters", .ref l), ("said", .ref sd), ("trace", .ref t)]))) l = some (.lst []) := by rw [upd_ne lx]; exact l6
    have s7 : (upd H6 x (.ins A.Book dx (putF "steps" (.int 0) [("letters", .ref l), ("said", .ref sd), ("trace", .ref t)]))) sd = some (.lst []) := by rw [upd_ne sx]; exact s6
    have t7 : (upd H6 x (.ins A.Book dx (putF "steps" (.int 0) [("letters", .ref l), ("said", .ref sd), ("trace", .ref t)]))) t = some (.lst []) := by rw [upd_ne tx]; exact t6
    generalize upd H6 x (.ins A.Book dx (putF "steps" (.int 0) [("letters", .ref l), ("said", .ref sd), ("trace", .ref t)])) = H7 at b7 x7 l7 s7 t7 ⊢
    refine fun e he => ?_
    have ex : e ≠ x := fun z => by rw [z, x7] at he; cases he
    have n8 := Same.upd he (HO.dK [])
    refine ⟨x, _, dx, _, rfl, n8 _ _ x7, T.o_Book.cl, T.n_Book_ends, by simp, ?_⟩
    refine q l sd t e _ hl sd0 t0 (b7.none ex he) ((b7.trans (But.of n8)).trans (But.at x _ _)) ⟨upd_same, ?_, ?_, ?_, tl, Ne.symm ts, dl, ?_⟩
    · rw [upd_ne lx]; exact n8 _ _ l7
    · rw [upd_ne sx]; exact n8 _ _ s7
    · rw [upd_ne tx]; exact n8 _ _ t7
    · rw [upd_ne ex]; exact upd_same
theorem kit_is : PySem.W.kitOne K (.type "int") (.type "str") = some false := by kernel_rfl!
theorem kit_ss : PySem.W.kitOne K (.type "str") (.type "str") = some true := by kernel_rfl!
structure Ra where
  s : Addr
  ds : Addr
  d : Addr
  c : Addr
  b : Addr
  db : Addr
  sd : Addr
  e : Addr
  t : Addr
  l : Addr
  sl : Addr
  kl : Addr
structure Apart (r : Ra) : Prop where
  sb : r.s ≠ r.b
  tl : r.t ≠ r.l
  dt : r.sd ≠ r.t
  dl : r.sd ≠ r.l
  dk : r.sd ≠ r.kl
  st : r.sl ≠ r.t
  sl : r.sl ≠ r.l
  sk : r.sl ≠ r.kl
  ss : r.sl ≠ r.sd
  kt : r.kl ≠ r.t
  kl : r.kl ≠ r.l
  cd : r.d ≠ r.c
structure RunAt (A : Adr) (N : Nat → Str) (js : List Nat) (H : Hp) (r : Ra) (k : S) : Prop where
  hs : H r.s = some (.ins A.Run r.ds [("deeds", .ref r.d), ("cells", .ref r.c), ("book", .ref r.b)])
  hb : H r.b = some (.ins A.Book r.db [("letters", .ref r.l), ("said", .ref r.sd), ("trace", .ref r.t), ("steps", .int k.steps), ("ends", .ref r.e)])
  hk : H r.d = some (.dK [])
  hc : H r.c = some (.dK (dk N (cel js) (cv r.sl r.kl k.num)))
  hS : H r.sl = some (.lst (k.some_.map V.int))
  hK : H r.kl = some (.lst (k.kept.map V.int))
  ht : ∃ xs, H r.t = some (.lst xs) ∧ Tups H xs k.trace
  hl : ∃ xs, H r.l = some (.lst xs) ∧ Tups H xs k.letters
  hd : ∃ xs, H r.sd = some (.lst xs) ∧ Tups H xs k.said
  ap : Apart r
theorem RunAt.same {H H' : Hp} {r : Ra} {k : S} (R : RunAt A N js H r k) (s : Same H H') : RunAt A N js H' r k := by
  obtain ⟨h1, h2, h4, h4', hS, hK, ⟨xs, h5, h6⟩, ⟨ys, h7, h8⟩, ⟨zs, h9, h10⟩, ap⟩ := R
  exact ⟨s _ _ h1, s _ _ h2, s _ _ h4, s _ _ h4', s _ _ hS, s _ _ hK, ⟨xs, s _ _ h5, h6.stay (Same.stay s)⟩, ⟨ys, s _ _ h7, h8.stay (Same.stay s)⟩, ⟨zs, s _ _ h9, h10.stay (Same.stay s)⟩, ap⟩
theorem RunAt.steps {H : Hp} {r : Ra} {k : S} (R : RunAt A N js H r k) (n : Int) : RunAt A N js (upd H r.b (.ins A.Book r.db (putF "steps" (.int n) [("letters", .ref r.l), ("said", .ref r.sd), ("trace", .ref r.t), ("steps", .int k.steps), ("ends", .ref r.e)]))) r { k with steps := n } := by
  obtain ⟨h1, h2, h4, h4', hS, hK, ⟨xs, h5, h6⟩, ⟨ys, h7, h8⟩, ⟨zs, h9, h10⟩, ap⟩ := R
  have st := Stay.at (u := .ins A.Book r.db (putF "steps" (.int n) [("letters", .ref r.l), ("said", .ref r.sd), ("trace", .ref r.t), ("steps", .int k.steps), ("ends", .ref r.e)])) h2 (fun w e => by cases e)
  have ne : ∀ {a : Addr} {o : HO}, H a = some o → (∀ C dx fs, o ≠ .ins C dx fs) → a ≠ r.b := fun ha hn z => by rw [z, h2] at ha; exact hn _ _ _ (Option.some.inj ha).symm
  refine ⟨by rw [upd_ne ap.sb]; exact h1, upd_same, ?_, ?_, ?_, ?_, ⟨xs, ?_, h6.stay st⟩, ⟨ys, ?_, h8.stay st⟩, ⟨zs, ?_, h10.stay st⟩, ap⟩
  · rw [upd_ne (ne h4 (fun _ _ _ z => by cases z))]; exact h4
  · rw [upd_ne (ne h4' (fun _ _ _ z => by cases z))]; exact h4'
  · rw [upd_ne (ne hS (fun _ _ _ z => by cases z))]; exact hS
  · rw [upd_ne (ne hK (fun _ _ _ z => by cases z))]; exact hK
  · rw [upd_ne (ne h5 (fun _ _ _ z => by cases z))]; exact h5
  · rw [upd_ne (ne h7 (fun _ _ _ z => by cases z))]; exact h7
  · rw [upd_ne (ne h9 (fun _ _ _ z => by cases z))]; exact h9
theorem RunAt.trace {H : Hp} {r : Ra} {p : Addr} {k : S} {us w : List V} (R : RunAt A N js H r k) (hp : H p = none) (ht : H r.t = some (.lst us)) : RunAt A N js (upd (upd H p (.tup w)) r.t (.lst (us ++ [.ref p]))) r { k with trace := k.trace ++ [w] } := by
  obtain ⟨h1, h2, h4, h4', hS, hK, ⟨xs, h5, h6⟩, ⟨ys, h7, h8⟩, ⟨zs, h9, h10⟩, ap⟩ := R
  rw [ht] at h5
  cases h5
  have sm := Same.upd hp (HO.tup w)
  have st : Stay H (upd (upd H p (.tup w)) r.t (.lst (us ++ [.ref p]))) := (Same.stay sm).trans (Stay.at (sm _ _ ht) fun w e => by cases e)
  have pt : p ≠ r.t := fun z => by rw [z, ht] at hp; cases hp
  have ne : ∀ {a : Addr} {o : HO}, H a = some o → (∀ xs, o ≠ .lst xs) → a ≠ r.t := fun ha hn z => by rw [z, ht] at ha; exact hn _ (Option.some.inj ha).symm
  refine ⟨?_, ?_, ?_, ?_, ?_, ?_, ⟨_, upd_same, PySem.Paired.snoc (h6.stay st) ⟨p, rfl, by rw [upd_ne pt]; exact upd_same⟩⟩, ⟨ys, ?_, h8.stay st⟩, ⟨zs, ?_, h10.stay st⟩, ap⟩
  · rw [upd_ne (ne h1 (fun _ z => by cases z))]; exact sm _ _ h1
  · rw [upd_ne (ne h2 (fun _ z => by cases z))]; exact sm _ _ h2
  · rw [upd_ne (ne h4 (fun _ z => by cases z))]; exact sm _ _ h4
  · rw [upd_ne (ne h4' (fun _ z => by cases z))]; exact sm _ _ h4'
  · rw [upd_ne ap.st]; exact sm _ _ hS
  · rw [upd_ne ap.kt]; exact sm _ _ hK
  · rw [upd_ne (Ne.symm ap.tl)]; exact sm _ _ h7
  · rw [upd_ne (ap.dt)]; exact sm _ _ h9
theorem RunAt.letter {H : Hp} {r : Ra} {p : Addr} {k : S} {us w : List V} (R : RunAt A N js H r k) (hp : H p = none) (ht : H r.l = some (.lst us)) : RunAt A N js (upd (upd H p (.tup w)) r.l (.lst (us ++ [.ref p]))) r { k with letters := k.letters ++ [w] } := by
  obtain ⟨h1, h2, h4, h4', hS, hK, ⟨xs, h5, h6⟩, ⟨ys, h7, h8⟩, ⟨zs, h9, h10⟩, ap⟩ := R
  rw [ht] at h7
  cases h7
  have sm := Same.upd hp (HO.tup w)
  have st : Stay H (upd (upd H p (.tup w)) r.l (.lst (us ++ [.ref p]))) := (Same.stay sm).trans (Stay.at (sm _ _ ht) fun w e => by cases e)
  have pt : p ≠ r.l := fun z => by rw [z, ht] at hp; cases hp
  have ne : ∀ {a : Addr} {o : HO}, H a = some o → (∀ xs, o ≠ .lst xs) → a ≠ r.l := fun ha hn z => by rw [z, ht] at ha; exact hn _ (Option.some.inj ha).symm
  refine ⟨?_, ?_, ?_, ?_, ?_, ?_, ⟨xs, ?_, h6.stay st⟩, ⟨_, upd_same, PySem.Paired.snoc (h8.stay st) ⟨p, rfl, by rw [upd_ne pt]; exact upd_same⟩⟩, ⟨zs, ?_, h10.stay st⟩, ap⟩
  · rw [upd_ne (ne h1 (fun _ z => by cases z))]; exact sm _ _ h1
  · rw [upd_ne (ne h2 (fun _ z => by cases z))]; exact sm _ _ h2
  · rw [upd_ne (ne h4 (fun _ z => by cases z))]; exact sm _ _ h4
  · rw [upd_ne (ne h4' (fun _ z => by cases z))]; exact sm _ _ h4'
  · rw [upd_ne ap.sl]; exact sm _ _ hS
  · rw [upd_ne ap.kl]; exact sm _ _ hK
  · rw [upd_ne (ap.tl)]; exact sm _ _ h5
  · rw [upd_ne (ap.dl)]; exact sm _ _ h9
theorem RunAt.tsaid {H : Hp} {r : Ra} {p : Addr} {k : S} {us w : List V} (R : RunAt A N js H r k) (hp : H p = none) (ht : H r.sd = some (.lst us)) : RunAt A N js (upd (upd H p (.tup w)) r.sd (.lst (us ++ [.ref p]))) r { k with said := k.said ++ [w] } := by
  obtain ⟨h1, h2, h4, h4', hS, hK, ⟨xs, h5, h6⟩, ⟨ys, h7, h8⟩, ⟨zs, h9, h10⟩, ap⟩ := R
  rw [ht] at h9
  cases h9
  have sm := Same.upd hp (HO.tup w)
  have st : Stay H (upd (upd H p (.tup w)) r.sd (.lst (us ++ [.ref p]))) := (Same.stay sm).trans (Stay.at (sm _ _ ht) fun w e => by cases e)
  have pt : p ≠ r.sd := fun z => by rw [z, ht] at hp; cases hp
  have ne : ∀ {a : Addr} {o : HO}, H a = some o → (∀ xs, o ≠ .lst xs) → a ≠ r.sd := fun ha hn z => by rw [z, ht] at ha; exact hn _ (Option.some.inj ha).symm
  refine ⟨?_, ?_, ?_, ?_, ?_, ?_, ⟨xs, ?_, h6.stay st⟩, ⟨ys, ?_, h8.stay st⟩, ⟨_, upd_same, PySem.Paired.snoc (h10.stay st) ⟨p, rfl, by rw [upd_ne pt]; exact upd_same⟩⟩, ap⟩
  · rw [upd_ne (ne h1 (fun _ z => by cases z))]; exact sm _ _ h1
  · rw [upd_ne (ne h2 (fun _ z => by cases z))]; exact sm _ _ h2
  · rw [upd_ne (ne h4 (fun _ z => by cases z))]; exact sm _ _ h4
  · rw [upd_ne (ne h4' (fun _ z => by cases z))]; exact sm _ _ h4'
  · rw [upd_ne ap.ss]; exact sm _ _ hS
  · rw [upd_ne (Ne.symm ap.dk)]; exact sm _ _ hK
  · rw [upd_ne (Ne.symm ap.dt)]; exact sm _ _ h5
  · rw [upd_ne (Ne.symm ap.dl)]; exact sm _ _ h7
theorem cv_put (sl kl : Addr) (k : S) (x : Nat) (v : Int) (h7 : x ≠ 4) (h8 : x ≠ 5) (j : Nat) : updF (cv sl kl k.num) x (.int v) j = cv sl kl (k.put x v).num j := by
  unfold updF cv S.put
  by_cases e : j = x
  · rw [e, if_pos rfl, if_neg h7, if_neg h8]
    show _ = V.int (if x = x then v else k.num x)
    rw [if_pos rfl]
  · rw [if_neg e]
    show (if j = 4 then V.ref sl else if j = 5 then V.ref kl else V.int (k.num j)) = if j = 4 then V.ref sl else if j = 5 then V.ref kl else V.int (if j = x then v else k.num j)
    rw [if_neg e]
theorem RunAt.put {H : Hp} {r : Ra} {k : S} (R : RunAt A N js H r k) (D : Dist N) {x : Nat} (hx : x ∈ cel js) (h7 : x ≠ 4) (h8 : x ≠ 5) (v : Int) : RunAt A N js (upd H r.c (.dK (putK (dk N (cel js) (cv r.sl r.kl k.num)) (.inr (N x)) (.int v)))) r (k.put x v) := by
  obtain ⟨h1, h2, h4, h4', hS, hK, ⟨xs, h5, h6⟩, ⟨ys, h7', h8'⟩, ⟨zs, h9, h10⟩, ap⟩ := R
  have e : putK (dk N (cel js) (cv r.sl r.kl k.num)) (.inr (N x)) (.int v) = dk N (cel js) (cv r.sl r.kl (k.put x v).num) := by
    rw [dk_put D cel12 hx]
    exact dk_congr fun j _ => cv_put _ _ _ _ _ h7 h8 j
  have st := Stay.at (u := .dK (putK (dk N (cel js) (cv r.sl r.kl k.num)) (.inr (N x)) (.int v))) h4' (fun w e => by cases e)
  have ne : ∀ {a : Addr} {o : HO}, H a = some o → (∀ kv, o ≠ .dK kv) → a ≠ r.c := fun ha hn z => by rw [z, h4'] at ha; exact hn _ (Option.some.inj ha).symm
  refine ⟨?_, ?_, ?_, ?_, ?_, ?_, ⟨xs, ?_, h6.stay st⟩, ⟨ys, ?_, h8'.stay st⟩, ⟨zs, ?_, h10.stay st⟩, ap⟩
  · rw [upd_ne (ne h1 (fun _ z => by cases z))]; exact h1
  · rw [upd_ne (ne h2 (fun _ z => by cases z))]; exact h2
  · rw [upd_ne ap.cd]; exact h4
  · rw [upd_same, e]
  · rw [upd_ne (ne hS (fun _ z => by cases z))]; exact hS
  · rw [upd_ne (ne hK (fun _ z => by cases z))]; exact hK
  · rw [upd_ne (ne h5 (fun _ z => by cases z))]; exact h5
  · rw [upd_ne (ne h7' (fun _ z => by cases z))]; exact h7'
  · rw [upd_ne (ne h9 (fun _ z => by cases z))]; exact h9
theorem RunAt.keep {H : Hp} {r : Ra} {k : S} (R : RunAt A N js H r k) (i v : Int) : RunAt A N js (upd H r.kl (.lst ((k.kept.map V.int).set (i % (k.kept.length : Int)).toNat (.int v)))) r (k.keep i v) := by
  obtain ⟨h1, h2, h4, h4', hS, hK, ⟨xs, h5, h6⟩, ⟨ys, h7, h8⟩, ⟨zs, h9, h10⟩, ap⟩ := R
  have st := Stay.at (u := .lst ((k.kept.map V.int).set (i % (k.kept.length : Int)).toNat (.int v))) hK (fun w e => by cases e)
  have ne : ∀ {a : Addr} {o : HO}, H a = some o → (∀ kv, o ≠ .lst kv) → a ≠ r.kl := fun ha hn z => by rw [z, hK] at ha; exact hn _ (Option.some.inj ha).symm
  refine ⟨?_, ?_, ?_, ?_, ?_, ?_, ⟨xs, ?_, h6.stay st⟩, ⟨ys, ?_, h8.stay st⟩, ⟨zs, ?_, h10.stay st⟩, ap⟩
  · rw [upd_ne (ne h1 (fun _ z => by cases z))]; exact h1
  · rw [upd_ne (ne h2 (fun _ z => by cases z))]; exact h2
  · rw [upd_ne (ne h4 (fun _ z => by cases z))]; exact h4
  · rw [upd_ne (ne h4' (fun _ z => by cases z))]; exact h4'
  · rw [upd_ne ap.sk]; exact hS
  · rw [upd_same]
    show _ = some (HO.lst ((lput k.kept i v).map V.int))
    unfold lput
    rw [List.map_set]
  · rw [upd_ne (Ne.symm ap.kt)]; exact h5
  · rw [upd_ne (Ne.symm ap.kl)]; exact h7
  · rw [upd_ne ap.dk]; exact h9
theorem RunAt.get {H : Hp} {r : Ra} {k : S} (R : RunAt A N js H r k) (D : Dist N) {i : Nat} (hi : i ∈ cel js) : DGet H r.c (.str (N i)) (some (cv r.sl r.kl k.num i)) := by
  have := DGet.k (k := .inr (N i)) R.hc
  rw [dk_get D cel12 hi] at this
  exact this
theorem num_mem (O : Ord js) {a : Nat} (h : a ≤ 3) : a ∈ cel js ∧ a ≠ 4 ∧ a ≠ 5 := ⟨O.mem (by omega), by omega, by omega⟩
theorem cv_num {sl kl : Addr} {num : Nat → Int} {a : Nat} (h : a ≤ 3) : cv sl kl num a = .int (num a) := by
  unfold cv
  rw [if_neg (by omega), if_neg (by omega)]
def Ra.ad (r : Ra) : Bool → Addr
  | false => r.sl
  | true => r.kl
theorem RunAt.gl {H : Hp} {r : Ra} {k : S} (R : RunAt A N js H r k) (D : Dist N) (O : Ord js) (l : Bool) : DGet H r.c (.str (N (li l))) (some (.ref (r.ad l))) := by
  cases l
  · exact R.get D (i := 4) (O.mem (by decide))
  · exact R.get D (i := 5) (O.mem (by decide))
theorem RunAt.ls {H : Hp} {r : Ra} {k : S} (R : RunAt A N js H r k) (l : Bool) : H (r.ad l) = some (.lst ((k.lst l).map V.int)) := by
  cases l
  · exact R.hS
  · exact R.hK
def S.new (x y : Int) (rs : List Int) (m : Nat) : S := ⟨num0 x y, rs, zeros m, 0, [], [], []⟩
def sp_Run_init (A : Adr) : Sp := fun vs H Q _ => ∃ (s ds c sl kl : Addr) (N : Nat → Str) (js : List Nat) (p : Pa) (hv : List V) (x y : Int) (z m : Nat) (rs : List Int) (xs : List V), vs = [.ref s, .ref p.pa, .ref c] ∧ H s = some (.ins A.Run ds []) ∧ PrAt A N H p hv js z m xs ∧ H c = some (.dK (dk N (cel js) (cv sl kl (num0 x y)))) ∧ H sl = some (.lst (rs.map V.int)) ∧ H kl = some (.lst ((zeros m).map V.int)) ∧ kl ≠ sl ∧
  ∀ (d b db sd e t l : Addr) (H' : Hp), But s H H' → H b = none → H t = none → H l = none → H sd = none → RunAt A N js H' ⟨s, ds, d, c, b, db, sd, e, t, l, sl, kl⟩ (S.new x y rs m) → Q .non H'
theorem h_Run_init (T : Txt K mg A) : HasM P w K mg base 3 A.Run "__init__" ["self", "program", "cells"] (sp_Run_init A) := by
  have D_Book_init := h_Book_init (P := P) (w := w) (base := base) T
  refine T.m_Run_init.has (k := 2) sc_Run_init (fun vs H Q E h => ?_) (fun f cdv A' outer s' H vs Q E hr hu h => ?_)
  · obtain ⟨s, ds, c, sl, kl, N, js, p, hv, x, y, z, m, rs, xs, rfl, _⟩ := h
    rfl
  · obtain ⟨s, ds, c, sl, kl, N, js, p, hv, x, y, z, m, rs, xs, rfl, hs, R, G, hS, hK, ks, q⟩ := h
    refine ⟨_, (pss_cons (ps_fld (fv 0) (pe_dnewK) rfl)
    (pss_cons (ps_for PassesOwn.never rfl (pi_any (pe_fld (fv 1) rfl)) (pg_name (i := 3) sc_Run_init.nd rfl (by first | exact Or.inl rfl | exact Or.inr rfl))
      pss_never)
    (pss_cons (ps_fld (fv 0) (fv 2) rfl)
    (pss_one (ps_fld (fv 0) (pe_makeD0 T.o_Book D_Book_init hr) rfl))))), ?_⟩
    refine fun d hd => ?_
    have sm1 := Same.upd hd (HO.dK [])
    have ds0 : d ≠ s := fun z => by rw [z, hs] at hd; cases hd
    refine ⟨s, _, ds, _, rfl, sm1 _ _ hs, T.o_Run.cl, T.n_Run_deeds, by simp, ?_⟩
    have b2 : But s H (upd (upd H d (HO.dK [])) s (.ins A.Run ds (putF "deeds" (.ref d) []))) := (But.of sm1).trans (But.at s _ _)
    have x2 : (upd (upd H d (HO.dK [])) s (.ins A.Run ds (putF "deeds" (.ref d) []))) s = some (.ins A.Run ds [("deeds", .ref d)]) := upd_same
    have d2 : (upd (upd H d (HO.dK [])) s (.ins A.Run ds (putF "deeds" (.ref d) []))) d = some (.dK []) := by rw [upd_ne ds0]; exact upd_same
    generalize upd (upd H d (HO.dK [])) s (.ins A.Run ds (putF "deeds" (.ref d) [])) = H2 at b2 x2 d2 ⊢
    have ps : p.pa ≠ s := fun z => by have := R.pr; rw [z, hs] at this; exact absurd (HO.ins.inj (Option.some.inj this)).1 (cls_ne T 15 14)
    have dds : p.dd ≠ s := fun z => by have := R.dd; rw [z, hs] at this; cases this
    refine ⟨p.pa, _, p.dp, _, _, rfl, b2 _ ps _ R.pr, T.o_Program.cl, T.n_Program_deeds, rfl, Or.inl ⟨⟨_, SqL.of (b2 _ dds _ R.dd)⟩, ?_⟩⟩
    refine for_list (K := K) (xs := []) (fun i σ H3 => H3 = H2 ∧ ∃ v, σ = [some (.ref s), some (.ref p.pa), some (.ref c), v]) ⟨rfl, _, rfl⟩ (fun i σ H3 _ h => by rw [h.1]; exact SqL.of (b2 _ dds _ R.dd)) ?_ ?_
    · rintro i v σ H3 hv _
      cases hv
    · rintro σ H3 ⟨rfl, z, rfl⟩
      refine ⟨s, _, ds, _, rfl, x2, T.o_Run.cl, T.n_Run_cells, by simp, ?_⟩
      have b4 : But s H (upd H3 s (.ins A.Run ds (putF "cells" (.ref c) [("deeds", .ref d)]))) := b2.trans (But.at s _ _)
      have x4 : (upd H3 s (.ins A.Run ds (putF "cells" (.ref c) [("deeds", .ref d)]))) s = some (.ins A.Run ds [("deeds", .ref d), ("cells", .ref c)]) := upd_same
      have d4 : (upd H3 s (.ins A.Run ds (putF "cells" (.ref c) [("deeds", .ref d)]))) d = some (.dK []) := by rw [upd_ne ds0]; exact d2
      generalize upd H3 s (.ins A.Run ds (putF "cells" (.ref c) [("deeds", .ref d)])) = H4 at b4 x4 d4 ⊢
      refine fun b db hb hdb hne => ⟨b, db, rfl, upd_same, fun l sd t e H5 nl ns nt _ bt nb => ⟨rfl, ?_⟩⟩
      have sm5 : Same H4 H5 := But.same bt hb hdb
      have l4 := new_none hb hdb nl
      have t4 := new_none hb hdb nt
      have sd4 := new_none hb hdb ns
      have bs : b ≠ s := fun z => by rw [z, x4] at hb; cases hb
      have ls : l ≠ s := fun z => by rw [z, x4] at l4; cases l4
      have ts : t ≠ s := fun z => by rw [z, x4] at t4; cases t4
      have ss : sd ≠ s := fun z => by rw [z, x4] at sd4; cases sd4
      have cs : c ≠ s := fun z => by rw [z, hs] at G; cases G
      have Ss : sl ≠ s := fun z => by rw [z, hs] at hS; cases hS
      have Ks : kl ≠ s := fun z => by rw [z, hs] at hK; cases hK
      have l0 := b4.none ls l4
      have t0 := b4.none ts t4
      have c5 := sm5 _ _ (b4 _ cs _ G)
      have cd : d ≠ c := fun z => by rw [z, G] at hd; cases hd
      refine ⟨s, _, ds, _, rfl, sm5 _ _ x4, T.o_Run.cl, T.n_Run_book, by simp, ?_⟩
      refine q d b db sd e t l _ ((b4.trans (But.of sm5)).trans (But.at s _ _)) (b4.none bs hb) t0 l0 (b4.none ss sd4) ⟨upd_same, ?_, ?_, ?_, ?_, ?_, ⟨[], ?_, .nil⟩, ⟨[], ?_, .nil⟩, ⟨[], ?_, .nil⟩, Ne.symm bs, nb.tl, nb.dt, nb.dl, (ne_of_none hK (b4.none ss sd4)).symm, ne_of_none hS t0, ne_of_none hS l0, Ne.symm ks, ne_of_none hS (b4.none ss sd4), ne_of_none hK t0, ne_of_none hK l0, cd⟩
      · rw [upd_ne bs]; exact nb.b
      · rw [upd_ne ds0]; exact sm5 _ _ d4
      · rw [upd_ne cs]; exact c5
      · rw [upd_ne Ss]; exact sm5 _ _ (b4 _ Ss _ hS)
      · rw [upd_ne Ks]; exact sm5 _ _ (b4 _ Ks _ hK)
      · rw [upd_ne ts]; exact nb.ht
      · rw [upd_ne ls]; exact nb.hl
      · rw [upd_ne ss]; exact nb.hs
end
end K22

set_option Elab.async false
set_option linter.all false
set_option maxRecDepth 100000
set_option maxHeartbeats 4000000
namespace K22
open PySem L2
section
variable {P : Program} {w : World} {K : PySem.W.Frag} {mg : Str → Option Value} {base : Heap} {A : Adr} {N : Nat → Str} {js : List Nat}
def AtV (N : Nat → Str) (k : S) (v : V) (i : Int) : Prop := v = .int i ∨ ∃ a : Nat, v = .str (N a) ∧ a ≤ 3 ∧ i = k.num a
theorem at_th (k : S) {th : Th} (h : th.ok) : AtV N k (th.v N) (th.num k) := by
  cases th with
  | i n => exact Or.inl rfl
  | x a => exact Or.inr ⟨a, rfl, h, rfl⟩
def sp_at (A : Adr) (N : Nat → Str) (js : List Nat) : Sp := fun vs H Q _ => ∃ (r : Ra) (k : S) (v : V) (i : Int), Dist N ∧ Ord js ∧ vs = [.ref r.s, v] ∧ RunAt A N js H r k ∧ AtV N k v i ∧ Q (.int i) H
theorem h_at (T : Txt K mg A) : HasM P w K mg base 1 A.Run "number_at" ["self", "thing"] (sp_at A N js) := by
  refine T.m_Run_number_at.has (k := 0) sc_Run_number_at (fun vs H Q E h => ?_) (fun f cdv A' outer s' H vs Q E hr hu h => ?_)
  · obtain ⟨r, k, v, i, _, _, rfl, _⟩ := h
    rfl
  · obtain ⟨r, k, v, i, D, O, rfl, R, h, q⟩ := h
    refine ⟨_, (pss_one (ps_ret (pe_ifExp (pt_tru (pe_callB c_isinst rfl T.z_isinstance (by boot_by_name) (pa_cons (fv 1) (pa_cons (pe_bltn (v := .ty "str") rfl T.z_str (by boot_by_name) rfl) pa_nil))) (fun _ => rfl)) (pe_ix (ix_all hu) (pe_fld (fv 0) rfl) (fv 1) (fun _ _ => rfl)) (fv 1)))), ?_⟩
    rcases h with rfl | ⟨a, rfl, ha, rfl⟩
    · exact ⟨_, _, _, false, rfl, (fun z => by cases z), .int i, kit_is, false, rfl, iteF q⟩
    · have g := R.get D (num_mem O ha).1
      rw [cv_num ha] at g
      exact ⟨_, _, _, true, rfl, (fun z => by cases z), .str _, kit_ss, true, rfl, iteT ⟨r.s, _, r.ds, _, _, rfl, R.hs, T.o_Run.cl, T.n_Run_cells, rfl, _, g, q⟩⟩
def sp_for (A : Adr) (N : Nat → Str) (js : List Nat) : Sp := fun vs H Q _ => ∃ (r : Ra) (k : S) (p : Addr) (val : Val), Dist N ∧ Ord js ∧ vs = [.ref r.s, .ref p] ∧ RunAt A N js H r k ∧ k.ok ∧ H p = some (.tup (vV N val)) ∧ val.ok ∧ Q (.int (val.num k)) H
theorem op_at {w : Str} (h : w ∈ opW) : w ≠ "at" := by
  simp only [List.mem_cons, List.not_mem_nil, or_false] at h
  rcases h with rfl | rfl | rfl | rfl | rfl | rfl | rfl <;> decide
theorem h_for (T : Txt K mg A) : HasM P w K mg base 3 A.Run "number_for" ["self", "value"] (sp_for A N js) := by
  have D_number_at := h_at (P := P) (w := w) (base := base) (N := N) (js := js) T
  have D_reckon := h_reckon (P := P) (w := w) (base := base) T
  have D_round_place := h_round (P := P) (w := w) (base := base) T
  refine T.m_Run_number_for.has (k := 2) sc_Run_number_for (fun vs H Q E h => ?_) (fun f cdv A' outer s' H vs Q E hr hu h => ?_)
  · obtain ⟨r, k, p, val, _, _, rfl, _⟩ := h
    rfl
  · obtain ⟨r, k, p, val, D, O, rfl, R, ok, hp, vo, q⟩ := h
    have hT : SqT K H p (vV N val) := SqT.of hp
    refine ⟨_, (pss_cons (ps_if (pt_cmpR (o_eqU hu) (pe_callB c_lenA rfl T.z_len (by boot_by_name) (pa_cons (fv 1) pa_nil)) (pe_int) (nomark _))
      (pss_one (ps_ret (pe_methD (fv 0) T.o_Run.cl D_number_at hr (pa_cons (pe_ix (ix_all hu) (fv 1) (pe_int) (fun _ _ => rfl)) pa_nil))))
      pss_nil)
    (pss_cons (ps_set (i := 2) sc_Run_number_for.nd rfl (Or.inl rfl) (pe_methD (fv 0) T.o_Run.cl D_number_at hr (pa_cons (pe_ix (ix_all hu) (fv 1) (pe_int) (fun _ _ => rfl)) pa_nil)))
    (pss_cons (ps_if (pt_cmpR (o_eqU hu) (pe_ix (ix_all hu) (fv 1) (pe_int) (fun _ _ => rfl)) (pe_str) (nomark _))
      (pss_cons (ps_set (i := 3) sc_Run_number_for.nd rfl (Or.inl rfl) (pe_ix (ix_all hu) (pe_fld (fv 0) rfl) (pe_ix (ix_all hu) (fv 1) (pe_int) (fun _ _ => rfl)) (fun _ _ => rfl)))
      (pss_one (ps_ret (pe_ix (ix_all hu) (fv 3) (pe_callD D_round_place hr (pa_cons (fv 2) (pa_cons (pe_callB c_lenA rfl T.z_len (by boot_by_name) (pa_cons (fv 3) pa_nil)) pa_nil))) (fun _ _ => rfl)))))
      pss_nil)
    (pss_one (ps_ret (pe_callD D_reckon hr (pa_cons (pe_methD (fv 0) T.o_Run.cl D_number_at hr (pa_cons (pe_ix (ix_all hu) (fv 1) (pe_int) (fun _ _ => rfl)) pa_nil)) (pa_cons (pe_ix (ix_all hu) (fv 1) (pe_int) (fun _ _ => rfl)) (pa_cons (fv 2) pa_nil))))))))), ?_⟩
    refine Or.inl ⟨_, _, rfl, Or.inr ⟨_, hT, rfl⟩, rfl, _, rfl, ?_⟩
    cases val with
    | one a =>
      refine ite2 (fun b => ?_) (fun b => absurd rfl b)
      exact ⟨r.s, r.ds, _, rfl, R.hs, rfl, Or.inl ⟨_, _, Or.inr hT, rfl, r, k, _, _, D, O, rfl, R, at_th k vo, q⟩⟩
    | op a x i =>
      refine ite2 (fun b => absurd b (by show ¬ decide (V.int 3 = V.int 1) = true; decide)) (fun b => ?_)
      refine ⟨r.s, r.ds, _, rfl, R.hs, rfl, Or.inl ⟨_, _, Or.inr hT, rfl, r, k, _, _, D, O, rfl, R, at_th k vo.2.1, ?_⟩⟩
      refine Or.inl ⟨_, _, Or.inr hT, rfl, rfl, _, rfl, ?_⟩
      refine ite2 (fun b => absurd (of_decide_eq_true b) (fun z => op_at vo.2.2 (V.str.inj z))) (fun b => ?_)
      refine ⟨r.s, r.ds, _, rfl, R.hs, rfl, Or.inl ⟨_, _, Or.inr hT, rfl, r, k, _, _, D, O, rfl, R, at_th k vo.1, ?_⟩⟩
      exact Or.inl ⟨_, _, Or.inr hT, rfl, _, _, _, rfl, (Th.num_in ok vo.1).1, (Th.num_in ok vo.1).2, (Th.num_in ok vo.2.1).1, (Th.num_in ok vo.2.1).2, q⟩
    | atl l i =>
      refine ite2 (fun b => absurd b (by show ¬ decide (V.int 3 = V.int 1) = true; decide)) (fun b => ?_)
      refine ⟨r.s, r.ds, _, rfl, R.hs, rfl, Or.inl ⟨_, _, Or.inr hT, rfl, r, k, _, _, D, O, rfl, R, at_th k vo, ?_⟩⟩
      refine Or.inl ⟨_, _, Or.inr hT, rfl, rfl, _, rfl, ?_⟩
      refine ite2 (fun b => ?_) (fun b => absurd (show decide (V.str "at" = V.str "at") = true by decide) b)
      refine ⟨r.s, _, r.ds, _, _, rfl, R.hs, T.o_Run.cl, T.n_Run_cells, rfl, Or.inl ⟨_, _, Or.inr hT, rfl, _, R.gl D O l, ?_⟩⟩
      have hL := SqL.of (K := K) (R.ls l)
      refine Or.inl ⟨_, _, rfl, Or.inl ⟨_, hL, rfl⟩, _, (k.lst l).length, by rw [List.length_map]; rfl, Th.num_in ok vo, (ok.ne l).1, (ok.ne l).2, ?_⟩
      exact Or.inl ⟨_, _, Or.inl hL, lat_at (ok.ne l).1 _, q⟩
def sp_told (K : PySem.W.Frag) (A : Adr) (N : Nat → Str) (js : List Nat) : Sp := fun vs H Q _ => ∃ (r : Ra) (k : S) (a : Addr), Dist N ∧ Ord js ∧ vs = [.ref r.s, .ref a] ∧ RunAt A N js H r k ∧ k.ok ∧
  ((∃ (dx p : Addr) (n : Int) (h : Str) (val : Val), val.ok ∧ SndAt A N H (.ref a) n h val a dx p ∧ Q (.int (val.num k)) H) ∨ (∃ (dx p : Addr) (n : Int) (x : Nat) (m : Str) (val : Val), val.ok ∧ SayAt A N H (.ref a) n x val m a dx p ∧ Q (.int (val.num k)) H) ∨ (∃ C : Addr, TyOf K H (.ref a) (.ref C) ∧ PySem.W.kitOne K (.ref C) (.ref A.SendRow) = some false ∧ PySem.W.kitOne K (.ref C) (.ref A.SayRow) = some false ∧ Q .non H))
theorem h_told (T : Txt K mg A) : HasM P w K mg base 4 A.Run "number_told" ["self", "row"] (sp_told K A N js) := by
  have D_number_for := h_for (P := P) (w := w) (base := base) (N := N) (js := js) T
  refine T.m_Run_number_told.has (k := 3) sc_Run_number_told (fun vs H Q E h => ?_) (fun f cdv A' outer s' H vs Q E hr hu h => ?_)
  · obtain ⟨r, k, a, _, _, rfl, _⟩ := h
    rfl
  · obtain ⟨r, k, a, D, O, rfl, R, ok, h⟩ := h
    refine ⟨_, (pss_cons (ps_if (PW.pt (pw_or (pt_tru (pe_callB c_isinst rfl T.z_isinstance (by boot_by_name) (pa_cons (fv 1) (pa_cons (pe_gtup T.o_SendRow.mg) pa_nil))) (fun _ => rfl)) (pw_or1 (pt_tru (pe_callB c_isinst rfl T.z_isinstance (by boot_by_name) (pa_cons (fv 1) (pa_cons (pe_gtup T.o_SayRow.mg) pa_nil))) (fun _ => rfl)))))
      (pss_one (ps_ret (pe_methD (fv 0) T.o_Run.cl D_number_for hr (pa_cons (pe_fld (fv 1) rfl) pa_nil))))
      pss_nil)
    (pss_one (ps_ret (pe_non)))), ?_⟩
    rcases h with ⟨dx, p, n, hh, val, vo, ⟨_, ha, hp⟩, q⟩ | ⟨dx, p, n, x, m, val, vo, ⟨_, ha, hp, _⟩, q⟩ | ⟨C, ty, k1, k2, q⟩
    · refine ⟨_, _, _, true, rfl, (fun z => by cases z), T.o_SendRow.tyOf ha, kitT T.o_SendRow, true, rfl, iteT ?_⟩
      exact ⟨r.s, r.ds, _, rfl, R.hs, rfl, a, _, dx, _, _, rfl, ha, T.o_SendRow.cl, T.n_SendRow_value, rfl, r, k, p, val, D, O, rfl, R, ok, hp, vo, q⟩
    · refine ⟨_, _, _, false, rfl, (fun z => by cases z), T.o_SayRow.tyOf ha, kitF T.o_SayRow T.o_SendRow (cls_ne T 8 9) (cls_ne T 8 1), false, rfl, iteF ?_⟩
      refine ⟨_, _, _, true, rfl, (fun z => by cases z), T.o_SayRow.tyOf ha, kitT T.o_SayRow, true, rfl, iteT ?_⟩
      exact ⟨r.s, r.ds, _, rfl, R.hs, rfl, a, _, dx, _, _, rfl, ha, T.o_SayRow.cl, T.n_SayRow_value, rfl, r, k, p, val, D, O, rfl, R, ok, hp, vo, q⟩
    · refine ⟨_, _, _, false, rfl, (fun z => by cases z), ty, k1, false, rfl, iteF ?_⟩
      exact ⟨_, _, _, false, rfl, (fun z => by cases z), ty, k2, false, rfl, iteF q⟩
def S.idle (s : S) (n : Int) : S := { s with steps := s.steps + n }
theorem S.ok.idle {s : S} (h : s.ok) (n : Int) : (s.idle n).ok := ⟨h.num, fun l => by have := h.lst l; cases l <;> exact this, fun l => by have := h.ne l; cases l <;> exact this⟩
def sp_pass (A : Adr) (N : Nat → Str) (js : List Nat) : Sp := fun vs H Q _ => ∃ (r : Ra) (n : Int) (k : S), vs = [.ref r.s, .int n] ∧ RunAt A N js H r k ∧ ∀ H', But r.b H H' → RunAt A N js H' r (k.idle n) → Q .non H'
theorem h_pass (T : Txt K mg A) : HasM P w K mg base 1 A.Run "pass_steps" ["self", "count"] (sp_pass A N js) := by
  refine T.m_Run_pass_steps.has (k := 0) sc_Run_pass_steps (fun vs H Q E h => ?_) (fun f cdv A' outer s' H vs Q E hr hu h => ?_)
  · obtain ⟨r, n, k, rfl, _⟩ := h
    rfl
  · obtain ⟨r, n, k, rfl, R, q⟩ := h
    refine ⟨_, (pss_cons (ps_set (i := 2) sc_Run_pass_steps.nd rfl (Or.inl rfl) (pe_fld (fv 0) rfl))
    (pss_one (ps_fldaug (fv 2) (fv 1) in_add))), ?_⟩
    refine ⟨r.s, _, r.ds, _, _, rfl, R.hs, T.o_Run.cl, T.n_Run_book, rfl, ?_⟩
    refine ⟨r.b, _, r.db, _, _, rfl, R.hb, T.o_Book.cl, T.n_Book_steps, rfl, _, _, rfl, rfl, r.db, _, R.hb, by simp, ?_⟩
    exact q _ (But.at r.b _ _) (R.steps (k.steps + n))
structure Fresh (H0 : Hp) (r : Ra) : Prop where
  b : H0 r.b = none
  t : H0 r.t = none
  l : H0 r.l = none
  c : H0 r.c = none
  k : H0 r.kl = none
  d : H0 r.sd = none
def After (A : Adr) (N : Nat → Str) (js : List Nat) (H0 : Hp) (r : Ra) (q : S) (Q : VK) : Prop := ∀ H', Same H0 H' → RunAt A N js H' r q → q.ok → Q (.bl false) H'
def sp_doRow (A : Adr) (N : Nat → Str) (js : List Nat) : Sp := fun vs H Q _ => ∃ (r : Ra) (k : S) (v : V) (rw : Rw) (H0 : Hp), Dist N ∧ Ord js ∧ vs = [.ref r.s, v] ∧ Same H0 H ∧ Fresh H0 r ∧ RunAt A N js H r k ∧ k.ok ∧ RowAt A N H0 v rw ∧ k.room 1 ∧ After A N js H0 r (leaf k rw) Q
def sp_doRows (A : Adr) (N : Nat → Str) (js : List Nat) : Sp := fun vs H Q _ => ∃ (r : Ra) (k : S) (q : Addr) (xs : List V) (rows : List Rw) (H0 : Hp), Dist N ∧ Ord js ∧ vs = [.ref r.s, .ref q] ∧ Same H0 H ∧ Fresh H0 r ∧ RunAt A N js H r k ∧ k.ok ∧ H0 q = some (.lst xs) ∧
  PySem.Paired (RowAt A N H0) xs rows ∧ k.room rows.length ∧ After A N js H0 r (rowsBy k rows) Q
theorem fold_step {α β : Type} (f : β → α → β) (b : β) {xs : List α} {i : Nat} {x : α} (h : xs[i]? = some x) : (xs.take (i + 1)).foldl f b = f ((xs.take i).foldl f b) x := by
  rw [List.take_add_one, h]
  simp
theorem h_doRows_of {j : Nat} (hj : j = 6) (T : Txt K mg A) (D : HasM P w K mg base j A.Run "do_row" ["self", "row"] (sp_doRow A N js)) : HasM P w K mg base (j + 1) A.Run "do_rows" ["self", "rows"] (sp_doRows A N js) := by
  subst hj
  have D_do_row := D
  refine T.m_Run_do_rows.has (k := 6) sc_Run_do_rows (fun vs H Q E h => ?_) (fun f cdv A' outer s' H vs Q E hr hu h => ?_)
  · obtain ⟨r, k, q, xs, rows, H0, _, _, rfl, _⟩ := h
    rfl
  · obtain ⟨r, k, q, xs, rows, H0, Di, O, rfl, s0, Fr, R, ok, hq, pr, rm, g⟩ := h
    refine ⟨_, (pss_cons (ps_set (i := 2) sc_Run_do_rows.nd rfl (Or.inl rfl) (pe_bl))
    (pss_cons (ps_for PassesOwn.never rfl (pi_any (fv 1)) (pg_name (i := 3) sc_Run_do_rows.nd rfl (by first | exact Or.inl rfl | exact Or.inr rfl))
      (pss_one (ps_if (pt_tru (pe_methD (fv 0) T.o_Run.cl D_do_row hr (pa_cons (fv 3) pa_nil)) (fun _ => rfl))
        (pss_one (ps_set (i := 2) sc_Run_do_rows.nd rfl (Or.inl rfl) (pe_bl)))
        pss_nil)))
    (pss_one (ps_ret (fv 2))))), ?_⟩
    refine Or.inl ⟨⟨_, SqL.of (s0 _ _ hq)⟩, for_list (K := K) (xs := xs) (fun i σ H2 => Same H0 H2 ∧ RunAt A N js H2 r ((rows.take i).foldl leaf k) ∧ ((rows.take i).foldl leaf k).ok ∧ ((rows.take i).foldl leaf k).room (rows.drop i).length ∧
      ∃ v, σ = [some (.ref r.s), some (.ref q), some (.bl false), v]) ⟨s0, R, ok, rm, none, rfl⟩ (fun i σ H2 _ h => SqL.of (h.1 _ _ hq)) ?_ ?_⟩
    · rintro i v σ H2 hx ⟨s2, R2, ok2, rm2, z, rfl⟩
      obtain ⟨rw, hrw, W⟩ := paired_get pr hx
      rw [fold_step _ _ hrw]
      rw [drop_at hrw, List.length_cons] at rm2
      generalize (rows.take i).foldl leaf k = k2 at R2 rm2 ok2 ⊢
      refine ⟨r.s, r.ds, _, rfl, R2.hs, rfl, r, k2, v, rw, H0, Di, O, rfl, s2, Fr, R2, ok2, W, rm2.le (by omega), fun H3 s3 R3 ok3 => ⟨_, rfl, iteF ?_⟩⟩
      exact ⟨s3, R3, ok3, room_leaf rm2 rw, _, rfl⟩
    · rintro σ H2 ⟨s2, R2, ok2, rm2, z, rfl⟩
      have hl : xs.length = rows.length := Paired.length pr
      rw [hl, List.take_length] at R2 ok2
      exact g H2 s2 R2 ok2
end
end K22

set_option Elab.async false
set_option linter.all false
set_option maxRecDepth 100000
set_option maxHeartbeats 4000000
namespace K22
open PySem L2
section
variable {P : Program} {w : World} {K : PySem.W.Frag} {mg : Str → Option Value} {base : Heap} {A : Adr} {N : Nat → Str} {js : List Nat}
theorem cel_short (O : Ord js) {f : Nat → V} : (dk N (cel js) f).length < sizeLine := small1000 (by
  unfold dk cel
  rw [List.length_map]
  have h1 := List.length_filter_le (fun j => decide (j < 6)) js
  have := O.len
  omega)
theorem num_tell (k : S) (n : Int) (v : V) (val : Val) : val.num (k.tell n v) = val.num k := by
  cases val with
  | one a => cases a <;> rfl
  | op a w b => cases a <;> cases b <;> rfl
  | atl l b => cases l <;> cases b <;> rfl
theorem num_idle (k : S) (n : Int) (val : Val) : val.num (k.idle n) = val.num k := by
  cases val with
  | one a => cases a <;> rfl
  | op a w b => cases a <;> cases b <;> rfl
  | atl l b => cases l <;> cases b <;> rfl
theorem tlen_of {H : Hp} {k : S} (hr : k.room 1) {xs : List V} (h : Tups H xs k.trace) : xs.length < sizeLine := by
  have := h.len
  have h1 := hr.1
  have : sizeLine ≥ 1001 := by decide
  omega
theorem llen_of {H : Hp} {k : S} (hr : k.room 1) {xs : List V} (h : Tups H xs k.letters) : xs.length < sizeLine := by
  have := h.len
  have h1 := hr.2.1
  have : sizeLine ≥ 1001 := by decide
  omega
theorem dlen_of {H : Hp} {k : S} (hr : k.room 1) {xs : List V} (h : Tups H xs k.said) : xs.length < sizeLine := by
  have := h.len
  have h1 := hr.2.2
  have : sizeLine ≥ 1001 := by decide
  omega
theorem place_tell (k : S) (n : Int) (v : V) (a : Th) : a.num (k.tell n v) = a.num k := by cases a <;> rfl
theorem set_at {xs : List Int} (h : 0 < xs.length) (i : Int) : ixN (xs.map V.int).length (i % (xs.length : Int)) = some (i % (xs.length : Int)).toNat := by
  obtain ⟨m0, m1⟩ := mod_in i (show (0 : Int) < (xs.length : Int) by omega)
  unfold ixN
  rw [if_pos m0, List.length_map, if_pos m1]
def sp_doPut (A : Adr) (N : Nat → Str) (js : List Nat) : Sp := fun vs H Q _ => ∃ (r : Ra) (k : S) (n : Int) (x : Th) (val : Val) (a dx p : Addr), Dist N ∧ Ord js ∧ vs = [.ref r.s, .ref a] ∧ RunAt A N js H r k ∧ k.ok ∧ val.ok ∧ PutAt A N H (.ref a) n x val a dx p ∧ ∀ H', RunAt A N js H' r (k.keep (x.num k) (val.num k)) → But r.kl H H' → Q .non H'
theorem h_doPut (T : Txt K mg A) : HasM P w K mg base 4 A.Run "do_put" ["self", "row"] (sp_doPut A N js) := by
  have D_number_at := h_at (P := P) (w := w) (base := base) (N := N) (js := js) T
  have D_number_for := h_for (P := P) (w := w) (base := base) (N := N) (js := js) T
  have D_round_place := h_round (P := P) (w := w) (base := base) T
  refine T.m_Run_do_put.has (k := 3) sc_Run_do_put (fun vs H Q E h => ?_) (fun f cdv A' outer s' H vs Q E hr hu h => ?_)
  · obtain ⟨r, k, n, x, val, a, dx, p, _, _, rfl, _⟩ := h
    rfl
  · obtain ⟨r, k, n, x, val, a, dx, p, Di, O, rfl, R, ok, vo, ⟨_, ha, hp, tk⟩, q⟩ := h
    refine ⟨_, (pss_cons (ps_set (i := 2) sc_Run_do_put.nd rfl (Or.inl rfl) (pe_ix (ix_all hu) (pe_fld (fv 0) rfl) (pe_fld (fv 1) rfl) (fun _ _ => rfl)))
    (pss_one (ps_asg (pe_methD (fv 0) T.o_Run.cl D_number_for hr (pa_cons (pe_fld (fv 1) rfl) pa_nil)) (pg_sub (fv 2) (pe_callD D_round_place hr (pa_cons (pe_methD (fv 0) T.o_Run.cl D_number_at hr (pa_cons (pe_fld (fv 1) rfl) pa_nil)) (pa_cons (pe_callB c_lenA rfl T.z_len (by boot_by_name) (pa_cons (fv 2) pa_nil)) pa_nil))) (st_all hu set_list))))), ?_⟩
    refine ⟨r.s, _, r.ds, _, _, rfl, R.hs, T.o_Run.cl, T.n_Run_cells, rfl, a, _, dx, _, _, rfl, ha, T.o_PutRow.cl, T.n_PutRow_name, rfl, _, R.gl Di O true, ?_⟩
    refine ⟨r.s, r.ds, _, rfl, R.hs, rfl, a, _, dx, _, _, rfl, ha, T.o_PutRow.cl, T.n_PutRow_value, rfl, r, k, p, val, Di, O, rfl, R, ok, hp, vo, ?_⟩
    refine ⟨r.s, r.ds, _, rfl, R.hs, rfl, a, _, dx, _, _, rfl, ha, T.o_PutRow.cl, T.n_PutRow_place, rfl, r, k, _, _, Di, O, rfl, R, at_th k tk, ?_⟩
    have hL := SqL.of (K := K) R.hK
    refine Or.inl ⟨_, _, rfl, Or.inl ⟨_, hL, rfl⟩, _, k.kept.length, by rw [List.length_map]; rfl, Th.num_in ok tk, (ok.ne true).1, (ok.ne true).2, ?_⟩
    refine Or.inl ⟨_, _, R.hK, set_at (ok.ne true).1 _, ?_⟩
    exact q _ (R.keep (x.num k) (val.num k)) (But.at r.kl _ _)
theorem h_doRow (T : Txt K mg A) : HasM P w K mg base 6 A.Run "do_row" ["self", "row"] (sp_doRow A N js) := by
  have D_number_told := h_told (P := P) (w := w) (base := base) (N := N) (js := js) T
  have D_number_for := h_for (P := P) (w := w) (base := base) (N := N) (js := js) T
  have D_pass_steps := h_pass (P := P) (w := w) (base := base) (N := N) (js := js) T
  have D_do_put := h_doPut (P := P) (w := w) (base := base) (N := N) (js := js) T
  refine T.m_Run_do_row.has (k := 5) sc_Run_do_row (fun vs H Q E h => ?_) (fun f cdv A' outer s' H vs Q E hr hu h => ?_)
  · obtain ⟨r, k, v, rw, H0, _, _, rfl, _⟩ := h
    rfl
  · obtain ⟨r, k, v, rw, H0, Di, O, rfl, s0, Fr, R, ok, W, rm, q⟩ := h
    refine ⟨_, (pss_cons (ps_expr (pe_methD (fv 0) T.o_Run.cl D_pass_steps hr (pa_cons (pe_int) pa_nil)))
    (pss_cons (ps_set (i := 2) sc_Run_do_row.nd rfl (Or.inl rfl) (pe_fld (fv 0) rfl))
    (pss_cons (ps_set (i := 3) sc_Run_do_row.nd rfl (Or.inl rfl) (pe_methD (fv 0) T.o_Run.cl D_number_told hr (pa_cons (fv 1) pa_nil)))
    (pss_cons (ps_expr (m_append (pe_fld (fv 2) rfl) (pa_cons (pe_tup (pa_cons (pe_fld (fv 1) rfl) (pa_cons (pe_fld (fv 2) rfl) (pa_cons (fv 3) pa_nil)))) pa_nil)))
    (pss_cons (ps_if (pt_tru (pe_callB c_isinst rfl T.z_isinstance (by boot_by_name) (pa_cons (fv 1) (pa_cons (pe_gtup T.o_SetRow.mg) pa_nil))) (fun _ => rfl))
      (pss_one (ps_asg (pe_methD (fv 0) T.o_Run.cl D_number_for hr (pa_cons (pe_fld (fv 1) rfl) pa_nil)) (pg_sub (pe_fld (fv 0) rfl) (pe_fld (fv 1) rfl) (st_all hu set_list))))
      (pss_one (ps_if (pt_tru (pe_callB c_isinst rfl T.z_isinstance (by boot_by_name) (pa_cons (fv 1) (pa_cons (pe_gtup T.o_PutRow.mg) pa_nil))) (fun _ => rfl))
        (pss_one (ps_expr (pe_methD (fv 0) T.o_Run.cl D_do_put hr (pa_cons (fv 1) pa_nil))))
        (pss_one (ps_if (pt_tru (pe_callB c_isinst rfl T.z_isinstance (by boot_by_name) (pa_cons (fv 1) (pa_cons (pe_gtup T.o_SendRow.mg) pa_nil))) (fun _ => rfl))
          (pss_one (ps_expr (m_append (pe_fld (fv 2) rfl) (pa_cons (pe_tup (pa_cons (pe_fld (fv 2) rfl) (pa_cons (pe_fld (fv 1) rfl) (pa_cons (pe_fld (fv 1) rfl) (pa_cons (fv 3) pa_nil))))) pa_nil))))
          (pss_one (ps_if (pt_tru (pe_callB c_isinst rfl T.z_isinstance (by boot_by_name) (pa_cons (fv 1) (pa_cons (pe_gtup T.o_SayRow.mg) pa_nil))) (fun _ => rfl))
            (pss_cons (ps_asg (fv 3) (pg_sub (pe_fld (fv 0) rfl) (pe_fld (fv 1) rfl) (st_all hu set_list)))
            (pss_one (ps_expr (m_append (pe_fld (fv 2) rfl) (pa_cons (pe_tup (pa_cons (pe_fld (fv 2) rfl) (pa_cons (pe_fld (fv 1) rfl) (pa_cons (pe_fld (fv 1) rfl) (pa_cons (fv 3) pa_nil))))) pa_nil)))))
            (pss_one (ps_if (pt_tru (pe_callB c_isinst rfl T.z_isinstance (by boot_by_name) (pa_cons (fv 1) (pa_cons (pe_gtup T.o_CallRow.mg) pa_nil))) (fun _ => rfl))
              pss_never
              (pss_one (ps_if (pt_tru (pe_callB c_isinst rfl T.z_isinstance (by boot_by_name) (pa_cons (fv 1) (pa_cons (pe_gtup T.o_IfRow.mg) pa_nil))) (fun _ => rfl))
                pss_never
                (pss_one (ps_if (pt_tru (pe_callB c_isinst rfl T.z_isinstance (by boot_by_name) (pa_cons (fv 1) (pa_cons (pe_gtup T.o_LoopRow.mg) pa_nil))) (fun _ => rfl))
                  pss_never
                  pss_nil)))))))))))))
    (pss_one (ps_ret (pe_callB c_isinst rfl T.z_isinstance (by boot_by_name) (pa_cons (fv 1) (pa_cons (pe_gtup T.o_LastRow.mg) pa_nil)))))))))), ?_⟩
    refine seq_cut fun B1 C1 => ?_
    refine ⟨r.s, r.ds, _, rfl, R.hs, rfl, r, 1, k, rfl, R, fun H2 b2 R2 => ?_⟩
    refine C1 _ _ ?_
    refine seq_cut fun B2 C2 => ?_
    have s2 : Same H0 H2 := Same.but s0 Fr.b b2
    refine ⟨r.s, _, r.ds, _, _, rfl, R2.hs, T.o_Run.cl, T.n_Run_book, rfl, ?_⟩
    refine C2 _ _ ?_
    refine seq_cut fun B3 C3 => ?_
    obtain ⟨ts, ht, tt⟩ := R2.ht
    have rm1 : k.room 1 := rm
    have tlen := tlen_of (k := k.idle 1) rm1 tt
    cases rw with
    | set n x val =>
      have W' : val.ok ∧ ∃ a dx p, SetAt A N H0 v n x val a dx p := W
      obtain ⟨vo, a, dx, p, rfl, ha, hp, xb⟩ := W'
      have xm := num_mem O (a := x) (by omega)
      refine ⟨r.s, r.ds, _, rfl, R2.hs, rfl, r, _, a, Di, O, rfl, R2, ok.idle 1, Or.inr (Or.inr ⟨_, T.o_SetRow.tyOf (s2 _ _ ha), kitF T.o_SetRow T.o_SendRow (cls_ne T 8 6) (cls_ne T 8 1), kitF T.o_SetRow T.o_SayRow (cls_ne T 9 6) (cls_ne T 9 1), ?_⟩)⟩
      refine C3 _ _ ?_
      refine seq_cut fun B4 C4 => ?_
      refine ⟨r.b, _, r.db, _, _, rfl, R2.hb, T.o_Book.cl, T.n_Book_trace, rfl, Or.inl ⟨rfl, _, SqL.of ht⟩, a, _, dx, _, _, rfl, s2 _ _ ha, T.o_SetRow.cl, T.n_SetRow_number, rfl, r.b, _, r.db, _, _, rfl, R2.hb, T.o_Book.cl, T.n_Book_steps, rfl, ?_⟩
      refine ⟨(show 3 ≤ sizeLine by decide), fun p3 hp3 => ⟨_, _, _, rfl, rfl, Same.upd hp3 _ _ _ ht, tlen, ?_⟩⟩
      have R4 : RunAt A N js _ r (k.tell n .non) := R2.trace (w := [.int n, .int (k.idle 1).steps, .non]) hp3 ht
      have s4 : Same H0 _ := Same.out (s2.trans (Same.upd hp3 (HO.tup [.int n, .int (k.idle 1).steps, .non]))) Fr.t (HO.lst (ts ++ [.ref p3]))
      generalize upd (upd H2 p3 (HO.tup [.int n, .int (k.idle 1).steps, .non])) r.t (HO.lst (ts ++ [.ref p3])) = H4 at R4 s4 ⊢
      refine C4 _ _ ?_
      refine seq_cut fun B5 C5 => ?_
      have ha4 := s4 _ _ ha
      have ok4 := ok.tell n .non
      refine ⟨_, _, _, true, rfl, (fun z => by cases z), T.o_SetRow.tyOf ha4, kitT T.o_SetRow, true, rfl, iteT ?_⟩
      refine ⟨r.s, r.ds, _, rfl, R4.hs, rfl, a, _, dx, _, _, rfl, ha4, T.o_SetRow.cl, T.n_SetRow_value, rfl, r, k.tell n .non, p, val, Di, O, rfl, R4, ok4, s4 _ _ hp, vo, ?_⟩
      rw [num_tell]
      refine ⟨r.s, _, r.ds, _, _, rfl, R4.hs, T.o_Run.cl, T.n_Run_cells, rfl, a, _, dx, _, _, rfl, ha4, T.o_SetRow.cl, T.n_SetRow_name, rfl, _, DPut.k (k := .inr (N x)) R4.hc (cel_short O), ?_⟩
      have R5 := R4.put Di xm.1 xm.2.1 xm.2.2 (val.num k)
      have s5 : Same H0 _ := Same.out s4 Fr.c (HO.dK (putK (dk N (cel js) (cv r.sl r.kl (k.tell n .non).num)) (.inr (N x)) (.int (val.num k))))
      have ha5 := s5 _ _ ha
      refine C5 _ _ ?_
      refine ⟨_, _, _, false, rfl, (fun z => by cases z), T.o_SetRow.tyOf ha5, kitF T.o_SetRow T.o_LastRow (cls_ne T 11 6) (cls_ne T 11 1), ?_⟩
      have e : leaf k (.set n x val) = (k.tell n .non).put x (val.num k) := rfl
      rw [e] at q
      exact q _ s5 R5 (ok4.put x (Val.num_in ok vo))
    | put n x val =>
      have W' : val.ok ∧ ∃ a dx p, PutAt A N H0 v n x val a dx p := W
      obtain ⟨vo, a, dx, p, rfl, ha, hp, tk⟩ := W'
      refine ⟨r.s, r.ds, _, rfl, R2.hs, rfl, r, _, a, Di, O, rfl, R2, ok.idle 1, Or.inr (Or.inr ⟨_, T.o_PutRow.tyOf (s2 _ _ ha), kitF T.o_PutRow T.o_SendRow (cls_ne T 8 7) (cls_ne T 8 1), kitF T.o_PutRow T.o_SayRow (cls_ne T 9 7) (cls_ne T 9 1), ?_⟩)⟩
      refine C3 _ _ ?_
      refine seq_cut fun B4 C4 => ?_
      refine ⟨r.b, _, r.db, _, _, rfl, R2.hb, T.o_Book.cl, T.n_Book_trace, rfl, Or.inl ⟨rfl, _, SqL.of ht⟩, a, _, dx, _, _, rfl, s2 _ _ ha, T.o_PutRow.cl, T.n_PutRow_number, rfl, r.b, _, r.db, _, _, rfl, R2.hb, T.o_Book.cl, T.n_Book_steps, rfl, ?_⟩
      refine ⟨(show 3 ≤ sizeLine by decide), fun p3 hp3 => ⟨_, _, _, rfl, rfl, Same.upd hp3 _ _ _ ht, tlen, ?_⟩⟩
      have R4 : RunAt A N js _ r (k.tell n .non) := R2.trace (w := [.int n, .int (k.idle 1).steps, .non]) hp3 ht
      have s4 : Same H0 _ := Same.out (s2.trans (Same.upd hp3 (HO.tup [.int n, .int (k.idle 1).steps, .non]))) Fr.t (HO.lst (ts ++ [.ref p3]))
      generalize upd (upd H2 p3 (HO.tup [.int n, .int (k.idle 1).steps, .non])) r.t (HO.lst (ts ++ [.ref p3])) = H4 at R4 s4 ⊢
      refine C4 _ _ ?_
      refine seq_cut fun B5 C5 => ?_
      have ha4 := s4 _ _ ha
      have ok4 := ok.tell n .non
      refine ⟨_, _, _, false, rfl, (fun z => by cases z), T.o_PutRow.tyOf ha4, kitF T.o_PutRow T.o_SetRow (cls_ne T 6 7) (cls_ne T 6 1), false, rfl, iteF ?_⟩
      refine ⟨_, _, _, true, rfl, (fun z => by cases z), T.o_PutRow.tyOf ha4, kitT T.o_PutRow, true, rfl, iteT ?_⟩
      refine ⟨r.s, r.ds, _, rfl, R4.hs, rfl, r, k.tell n .non, n, x, val, a, dx, p, Di, O, rfl, R4, ok4, vo, ⟨rfl, ha4, s4 _ _ hp, tk⟩, fun H5 R5 b5 => ?_⟩
      rw [num_tell, place_tell] at R5
      have s5 := Same.but s4 Fr.k b5
      have ha5 := s5 _ _ ha
      refine C5 _ _ ?_
      refine ⟨_, _, _, false, rfl, (fun z => by cases z), T.o_PutRow.tyOf ha5, kitF T.o_PutRow T.o_LastRow (cls_ne T 11 7) (cls_ne T 11 1), ?_⟩
      have e : leaf k (.put n x val) = (k.tell n .non).keep (x.num k) (val.num k) := rfl
      rw [e] at q
      exact q _ s5 R5 (ok4.keep _ (Val.num_in ok vo))
    | snd n hh val =>
      have W' : val.ok ∧ ∃ a dx p, SndAt A N H0 v n hh val a dx p := W
      obtain ⟨vo, a, dx, p, rfl, ha, hp⟩ := W'
      refine ⟨r.s, r.ds, _, rfl, R2.hs, rfl, r, k.idle 1, a, Di, O, rfl, R2, ok.idle 1, Or.inl ⟨dx, p, n, hh, val, vo, ⟨rfl, s2 _ _ ha, s2 _ _ hp⟩, ?_⟩⟩
      rw [num_idle]
      refine C3 _ _ ?_
      refine seq_cut fun B4 C4 => ?_
      refine ⟨r.b, _, r.db, _, _, rfl, R2.hb, T.o_Book.cl, T.n_Book_trace, rfl, Or.inl ⟨rfl, _, SqL.of ht⟩, a, _, dx, _, _, rfl, s2 _ _ ha, T.o_SendRow.cl, T.n_SendRow_number, rfl, r.b, _, r.db, _, _, rfl, R2.hb, T.o_Book.cl, T.n_Book_steps, rfl, ?_⟩
      refine ⟨(show 3 ≤ sizeLine by decide), fun p3 hp3 => ⟨_, _, _, rfl, rfl, Same.upd hp3 _ _ _ ht, tlen, ?_⟩⟩
      have R4 : RunAt A N js _ r (k.tell n (.int (val.num k))) := R2.trace (w := [.int n, .int (k.idle 1).steps, .int (val.num k)]) hp3 ht
      have s4 : Same H0 _ := Same.out (s2.trans (Same.upd hp3 (HO.tup [.int n, .int (k.idle 1).steps, .int (val.num k)]))) Fr.t (HO.lst (ts ++ [.ref p3]))
      generalize upd (upd H2 p3 (HO.tup [.int n, .int (k.idle 1).steps, .int (val.num k)])) r.t (HO.lst (ts ++ [.ref p3])) = H4 at R4 s4 ⊢
      refine C4 _ _ ?_
      refine seq_cut fun B5 C5 => ?_
      have ha4 := s4 _ _ ha
      refine ⟨_, _, _, false, rfl, (fun z => by cases z), T.o_SendRow.tyOf ha4, kitF T.o_SendRow T.o_SetRow (cls_ne T 6 8) (cls_ne T 6 1), false, rfl, iteF ?_⟩
      refine ⟨_, _, _, false, rfl, (fun z => by cases z), T.o_SendRow.tyOf ha4, kitF T.o_SendRow T.o_PutRow (cls_ne T 7 8) (cls_ne T 7 1), false, rfl, iteF ?_⟩
      refine ⟨_, _, _, true, rfl, (fun z => by cases z), T.o_SendRow.tyOf ha4, kitT T.o_SendRow, true, rfl, iteT ?_⟩
      obtain ⟨ls, hl, tl⟩ := R4.hl
      refine ⟨r.b, _, r.db, _, _, rfl, R4.hb, T.o_Book.cl, T.n_Book_letters, rfl, Or.inl ⟨rfl, _, SqL.of hl⟩, r.b, _, r.db, _, _, rfl, R4.hb, T.o_Book.cl, T.n_Book_steps, rfl, a, _, dx, _, _, rfl, ha4, T.o_SendRow.cl, T.n_SendRow_number, rfl, a, _, dx, _, _, rfl, ha4, T.o_SendRow.cl, T.n_SendRow_name, rfl, ?_⟩
      refine ⟨(show 4 ≤ sizeLine by decide), fun p5 hp5 => ⟨_, _, _, rfl, rfl, Same.upd hp5 _ _ _ hl, llen_of (k := k) rm1 tl, ?_⟩⟩
      have R6 := R4.letter (w := [.int (k.steps + 1), .int n, .str hh, .int (val.num k)]) hp5 hl
      have s6 : Same H0 _ := Same.out (s4.trans (Same.upd hp5 (HO.tup [.int (k.steps + 1), .int n, .str hh, .int (val.num k)]))) Fr.l (HO.lst (ls ++ [.ref p5]))
      have ha6 := s6 _ _ ha
      refine C5 _ _ ?_
      refine ⟨_, _, _, false, rfl, (fun z => by cases z), T.o_SendRow.tyOf ha6, kitF T.o_SendRow T.o_LastRow (cls_ne T 11 8) (cls_ne T 11 1), ?_⟩
      have e : leaf k (.snd n hh val) = k.send n hh (val.num k) := rfl
      rw [e] at q
      exact q _ s6 R6 (ok.send n hh (val.num k))
    | say n x val m =>
      have W' : val.ok ∧ ∃ a dx p, SayAt A N H0 v n x val m a dx p := W
      obtain ⟨vo, a, dx, p, rfl, ha, hp, xb⟩ := W'
      have xm := num_mem O (a := x) (by omega)
      refine ⟨r.s, r.ds, _, rfl, R2.hs, rfl, r, k.idle 1, a, Di, O, rfl, R2, ok.idle 1, Or.inr (Or.inl ⟨dx, p, n, x, m, val, vo, ⟨rfl, s2 _ _ ha, s2 _ _ hp, xb⟩, ?_⟩)⟩
      rw [num_idle]
      refine C3 _ _ ?_
      refine seq_cut fun B4 C4 => ?_
      refine ⟨r.b, _, r.db, _, _, rfl, R2.hb, T.o_Book.cl, T.n_Book_trace, rfl, Or.inl ⟨rfl, _, SqL.of ht⟩, a, _, dx, _, _, rfl, s2 _ _ ha, T.o_SayRow.cl, T.n_SayRow_number, rfl, r.b, _, r.db, _, _, rfl, R2.hb, T.o_Book.cl, T.n_Book_steps, rfl, ?_⟩
      refine ⟨(show 3 ≤ sizeLine by decide), fun p3 hp3 => ⟨_, _, _, rfl, rfl, Same.upd hp3 _ _ _ ht, tlen, ?_⟩⟩
      have R4 : RunAt A N js _ r (k.tell n (.int (val.num k))) := R2.trace (w := [.int n, .int (k.idle 1).steps, .int (val.num k)]) hp3 ht
      have s4 : Same H0 _ := Same.out (s2.trans (Same.upd hp3 (HO.tup [.int n, .int (k.idle 1).steps, .int (val.num k)]))) Fr.t (HO.lst (ts ++ [.ref p3]))
      generalize upd (upd H2 p3 (HO.tup [.int n, .int (k.idle 1).steps, .int (val.num k)])) r.t (HO.lst (ts ++ [.ref p3])) = H4 at R4 s4 ⊢
      refine C4 _ _ ?_
      refine seq_cut fun B5 C5 => ?_
      have ha4 := s4 _ _ ha
      have ok4 := ok.tell n (.int (val.num k))
      refine ⟨_, _, _, false, rfl, (fun z => by cases z), T.o_SayRow.tyOf ha4, kitF T.o_SayRow T.o_SetRow (cls_ne T 6 9) (cls_ne T 6 1), false, rfl, iteF ?_⟩
      refine ⟨_, _, _, false, rfl, (fun z => by cases z), T.o_SayRow.tyOf ha4, kitF T.o_SayRow T.o_PutRow (cls_ne T 7 9) (cls_ne T 7 1), false, rfl, iteF ?_⟩
      refine ⟨_, _, _, false, rfl, (fun z => by cases z), T.o_SayRow.tyOf ha4, kitF T.o_SayRow T.o_SendRow (cls_ne T 8 9) (cls_ne T 8 1), false, rfl, iteF ?_⟩
      refine ⟨_, _, _, true, rfl, (fun z => by cases z), T.o_SayRow.tyOf ha4, kitT T.o_SayRow, true, rfl, iteT ?_⟩
      refine ⟨r.s, _, r.ds, _, _, rfl, R4.hs, T.o_Run.cl, T.n_Run_cells, rfl, a, _, dx, _, _, rfl, ha4, T.o_SayRow.cl, T.n_SayRow_name, rfl, _, DPut.k (k := .inr (N x)) R4.hc (cel_short O), ?_⟩
      have R5 := R4.put Di xm.1 xm.2.1 xm.2.2 (val.num k)
      have s5 : Same H0 _ := Same.out s4 Fr.c (HO.dK (putK (dk N (cel js) (cv r.sl r.kl (k.tell n (.int (val.num k))).num)) (.inr (N x)) (.int (val.num k))))
      generalize upd H4 r.c (HO.dK (putK (dk N (cel js) (cv r.sl r.kl (k.tell n (.int (val.num k))).num)) (.inr (N x)) (.int (val.num k)))) = H5 at R5 s5 ⊢
      have ha5 := s5 _ _ ha
      obtain ⟨ls, hl, tl⟩ := R5.hd
      refine ⟨r.b, _, r.db, _, _, rfl, R5.hb, T.o_Book.cl, T.n_Book_said, rfl, Or.inl ⟨rfl, _, SqL.of hl⟩, r.b, _, r.db, _, _, rfl, R5.hb, T.o_Book.cl, T.n_Book_steps, rfl, a, _, dx, _, _, rfl, ha5, T.o_SayRow.cl, T.n_SayRow_number, rfl, a, _, dx, _, _, rfl, ha5, T.o_SayRow.cl, T.n_SayRow_mark, rfl, ?_⟩
      refine ⟨(show 4 ≤ sizeLine by decide), fun p5 hp5 => ⟨_, _, _, rfl, rfl, Same.upd hp5 _ _ _ hl, dlen_of (k := k) rm tl, ?_⟩⟩
      have R6 := R5.tsaid (w := [.int (k.steps + 1), .int n, .str m, .int (val.num k)]) hp5 hl
      have s6 : Same H0 _ := Same.out (s5.trans (Same.upd hp5 (HO.tup [.int (k.steps + 1), .int n, .str m, .int (val.num k)]))) Fr.d (HO.lst (ls ++ [.ref p5]))
      have ha6 := s6 _ _ ha
      refine C5 _ _ ?_
      refine ⟨_, _, _, false, rfl, (fun z => by cases z), T.o_SayRow.tyOf ha6, kitF T.o_SayRow T.o_LastRow (cls_ne T 11 9) (cls_ne T 11 1), ?_⟩
      exact q _ s6 R6 ((ok4.put x (Val.num_in ok vo)).say _ _ _)
theorem h_doRows (T : Txt K mg A) : HasM P w K mg base 7 A.Run "do_rows" ["self", "rows"] (sp_doRows A N js) := h_doRows_of rfl T (h_doRow T)
end
end K22

set_option Elab.async false
set_option linter.all false
set_option maxRecDepth 100000
set_option maxHeartbeats 4000000
namespace K22
open PySem L2
section
variable {P : Program} {w : World} {K : PySem.W.Frag} {mg : Str → Option Value} {base : Heap} {A : Adr} {N : Nat → Str} {js : List Nat}
def ownB (j : Nat) : Bool := decide (j = 2) || decide (j = 3) || decide (j = 5)
def eIx (js : List Nat) : List Nat := js.filter ownB
theorem ownB_lt {j : Nat} (h : ownB j = true) : j < 6 := by
  unfold ownB at h
  rw [Bool.or_eq_true, Bool.or_eq_true, decide_eq_true_iff, decide_eq_true_iff, decide_eq_true_iff] at h
  omega
theorem eIx12 : ∀ j ∈ eIx js, j < 12 := fun j hj => by have := ownB_lt (List.mem_filter.mp hj).2; omega
def isOwn (A : Adr) (H : Hp) : V → Bool
  | .ref a => match H a with
    | some (.ins C _ _) => decide (C = A.OwnRow)
    | _ => false
  | _ => false
theorem isOwn_ins {H : Hp} {a C dx : Addr} {fs : List (Str × V)} (h : H a = some (.ins C dx fs)) : isOwn A H (.ref a) = decide (C = A.OwnRow) := by
  unfold isOwn
  simp only [h]
def szOf (z y : Nat) (j : Nat) : Nat := if j = 5 then y else 0
theorem head_own (T : Txt K mg A) {H : Hp} {z y : Nat} {v : V} {j : Nat} (j8 : j < 8) (W : HeadAt A N H z y v j) : isOwn A H v = ownB j ∧ (ownB j = true → OAt A N H v j (szOf z y j)) := by
  have := lt8 j8
  rcases this with rfl | rfl | rfl | rfl | rfl | rfl | rfl | rfl
  · obtain ⟨a, dx, n, rk, rfl, ha⟩ := W
    exact ⟨(isOwn_ins ha).trans (decide_eq_false (cls_ne T 3 4)), fun h => by cases h⟩
  · obtain ⟨a, dx, n, rk, rfl, ha⟩ := W
    exact ⟨(isOwn_ins ha).trans (decide_eq_false (cls_ne T 3 4)), fun h => by cases h⟩
  · have W' := W
    obtain ⟨a, dx, n, rfl, ha⟩ := W
    exact ⟨(isOwn_ins ha).trans (decide_eq_true rfl), fun _ => W'⟩
  · have W' := W
    obtain ⟨a, dx, n, rfl, ha⟩ := W
    exact ⟨(isOwn_ins ha).trans (decide_eq_true rfl), fun _ => W'⟩
  · obtain ⟨a, dx, n, rk, rfl, ha⟩ := W
    exact ⟨(isOwn_ins ha).trans (decide_eq_false (cls_ne T 3 4)), fun h => by cases h⟩
  · have W' := W
    obtain ⟨a, dx, n, rfl, ha⟩ := W
    exact ⟨(isOwn_ins ha).trans (decide_eq_true rfl), fun _ => W'⟩
  · obtain ⟨a, dx, n, x, rk, rfl, ha⟩ := W
    exact ⟨(isOwn_ins ha).trans (decide_eq_false (cls_ne T 2 4)), fun h => by cases h⟩
  · obtain ⟨a, dx, n, x, rk, rfl, ha⟩ := W
    exact ⟨(isOwn_ins ha).trans (decide_eq_false (cls_ne T 5 4)), fun h => by cases h⟩
theorem heads_own (T : Txt K mg A) {H : Hp} {z y : Nat} : ∀ {hv : List V} {js : List Nat}, (∀ j ∈ js, j < 8) → PySem.Paired (HeadAt A N H z y) hv js → PySem.Paired (fun v j => OAt A N H v j (szOf z y j)) (hv.filter (isOwn A H)) (js.filter ownB)
  | _, _, _, .nil => .nil
  | v :: hv, j :: js, lt, .cons W r => by
    obtain ⟨h1, h2⟩ := head_own T (lt j List.mem_cons_self) W
    have ih := heads_own T (fun q hq => lt q (List.mem_cons_of_mem _ hq)) r
    rw [List.filter_cons, List.filter_cons, h1]
    by_cases e : ownB j = true
    · rw [if_pos e, if_pos e]
      exact .cons (h2 e) ih
    · rw [if_neg e, if_neg e]
      exact ih
theorem pair_keys {H : Hp} {f : Nat → V} : ∀ {idx : List Nat} {ys : List V}, PySem.Paired (fun j y => ∃ t, y = V.ref t ∧ H t = some (.tup [.str (N j), f j])) idx ys → ∃ ps : List Addr, ys = ps.map V.ref ∧ ps.length = idx.length ∧ ∀ (i : Nat) t k v, ps[i]? = some t → (dk N idx f)[i]? = some (k, v) → SqT K H t [kV k, v]
  | _, _, .nil => ⟨[], rfl, rfl, fun i t k v h => by cases h⟩
  | j :: idx, y :: ys, .cons ⟨t, e, ht⟩ r => by
    obtain ⟨ps, h1, h2, h3⟩ := pair_keys r
    refine ⟨t :: ps, by rw [e, h1]; rfl, by simp [h2], fun i t' k v a b => ?_⟩
    cases i with
    | zero =>
      have a' : t = t' := Option.some.inj a
      have b' : ((Sum.inr (N j) : Key), f j) = (k, v) := Option.some.inj b
      cases b'
      rw [← a']
      exact SqT.of ht
    | succ i => exact h3 i t' k v a b
theorem pair_both {α β γ : Type} {R : α → β → Prop} {S : α → γ → Prop} {U : β → γ → Prop} (h : ∀ a b c, R a b → S a c → U b c) : ∀ {l₁ : List α} {l₂ : List β} {l₃ : List γ}, PySem.Paired R l₁ l₂ → PySem.Paired S l₁ l₃ → PySem.Paired U l₂ l₃
  | _, _, _, .nil, .nil => .nil
  | _, _, _, .cons r t, .cons s u => .cons (h _ _ _ r s) (pair_both h t u)
theorem pair_keep {β : Type} {U : Nat → β → Prop} : ∀ {l₁ : List Nat} {l₂ : List β}, PySem.Paired (fun j y => U j y ∨ ¬ j < 12) l₁ l₂ → (∀ j ∈ l₁, j < 12) → PySem.Paired U l₁ l₂
  | _, _, .nil, _ => .nil
  | _, _, .cons h t, lt => .cons (h.resolve_right fun n => n (lt _ List.mem_cons_self)) (pair_keep t fun j hj => lt j (List.mem_cons_of_mem _ hj))
def sp_ends (A : Adr) : Sp := fun vs H Q _ => ∃ (N : Nat → Str) (js : List Nat) (p : Pa) (hv : List V) (c sl kl : Addr) (num : Nat → Int) (z y : Nat) (xs : List V), Dist N ∧ Ord js ∧ vs = [.ref p.pa, .ref c] ∧ PrAt A N H p hv js z y xs ∧ H c = some (.dK (dk N (cel js) (cv sl kl num))) ∧ ∀ e H', Same H H' → H e = none → H' e = some (.dK (dk N (eIx js) (cv sl kl num))) → Q (.ref e) H'
theorem h_ends (T : Txt K mg A) : Has P w K mg base 1 "ends_of" ["program", "cells"] (sp_ends A) := by
  refine T.ends_of.has sc_ends_of (fun vs H Q E h => ?_) (fun f cdv A' outer s' H vs Q E hr hu h => ?_)
  · obtain ⟨N, js, p, hv, c, sl, kl, num, z, y, xs, _, _, rfl, _⟩ := h
    rfl
  · obtain ⟨N, js, p, hv, c, sl, kl, num, z, y, xs, Di, O, rfl, R, hc, q⟩ := h
    have ho := heads_own T O.lt R.hs
    have gd : ∀ {i : Nat} {H2 : Hp}, Same H H2 → i < 6 → DGet H2 c (.str (N i)) (some (cv sl kl num i)) := fun {i} _ s2 hi => by
      have := DGet.k (k := .inr (N i)) (s2 _ _ hc)
      rw [dk_get Di cel12 (O.mem hi)] at this
      exact this
    have hl : hv.length = js.length := Paired.length R.hs
    have mem : ∀ {v : V}, v ∈ hv → ∃ j, j < 8 ∧ HeadAt A N H z y v j := fun hv' => by
      obtain ⟨i, hi⟩ := List.getElem?_of_mem hv'
      obtain ⟨j, hj, W⟩ := paired_get R.hs hi
      exact ⟨j, O.lt j (List.mem_of_getElem? hj), W⟩
    refine ⟨_, (pss_one (ps_ret (pe_callTy c_dictP rfl T.z_dict (by boot_by_name) (pa_cons (pe_comp (N := ["head", "cells"]) (own := 1) (fr := [1]) (CompOk.of (by kernel_rfl!)) rfl (pi_any (pe_fld (fv 0) rfl)) (fun b => pg_name (i := 0) (show List.Nodup (["head", "cells"] : List PySem.Str) by decide +kernel) rfl (by first | exact Or.inl rfl | exact Or.inr rfl)) (fun b => pf_one (pt_tru (pe_callB c_isinst rfl T.z_isinstance (by boot_by_name) (pa_cons (fv 0) (pa_cons (pe_gtup T.o_OwnRow.mg) pa_nil))) (fun _ => rfl))) (fun b => pe_tup (pa_cons (pe_fld (fv 0) rfl) (pa_cons (pe_ix (ix_all hu) (fv 1) (pe_fld (fv 0) rfl) (fun _ _ => rfl)) pa_nil)))) pa_nil)))), ?_⟩
    refine ⟨p.pa, _, p.dp, _, _, rfl, R.pr, T.o_Program.cl, T.n_Program_heads, rfl, Or.inl ⟨⟨_, SqL.of R.hd⟩, comp_pairF (K := K) (isOwn A H) (fun x y' H2 => ∃ t a dx n s j, x = V.ref a ∧ H a = some (.ins A.OwnRow dx [("number", .int n), ("name", .str (N j)), ("size", .int s)]) ∧ j < 12 ∧ y' = V.ref t ∧ H2 t = some (.tup [.str (N j), cv sl kl num j])) (SqL.of R.hd) (small1000 (by have := O.len; omega)) (fun b v H2 G hv' s2 k => ?_) (fun b v H2 G hv' hp s2 k => ?_) ?_ ?_ (fun D H2 ys hD s2 e pr => ?_)⟩⟩
    · obtain ⟨j, j8, W⟩ := mem hv'
      obtain ⟨h1, _⟩ := head_own T j8 W
      rw [h1] at k
      have := lt8 j8
      rcases this with rfl | rfl | rfl | rfl | rfl | rfl | rfl | rfl
      · obtain ⟨a, dx, n, rk, rfl, ha⟩ := W
        exact ⟨_, _, _, false, rfl, (fun z => by cases z), T.o_GivenRow.tyOf (s2 _ _ ha), kitF T.o_GivenRow T.o_OwnRow (cls_ne T 4 3) (cls_ne T 4 1), false, rfl, k _ (Same.refl _)⟩
      · obtain ⟨a, dx, n, rk, rfl, ha⟩ := W
        exact ⟨_, _, _, false, rfl, (fun z => by cases z), T.o_GivenRow.tyOf (s2 _ _ ha), kitF T.o_GivenRow T.o_OwnRow (cls_ne T 4 3) (cls_ne T 4 1), false, rfl, k _ (Same.refl _)⟩
      · obtain ⟨a, dx, n, rfl, ha⟩ := W
        exact ⟨_, _, _, true, rfl, (fun z => by cases z), T.o_OwnRow.tyOf (s2 _ _ ha), kitT T.o_OwnRow, true, rfl, k _ (Same.refl _)⟩
      · obtain ⟨a, dx, n, rfl, ha⟩ := W
        exact ⟨_, _, _, true, rfl, (fun z => by cases z), T.o_OwnRow.tyOf (s2 _ _ ha), kitT T.o_OwnRow, true, rfl, k _ (Same.refl _)⟩
      · obtain ⟨a, dx, n, rk, rfl, ha⟩ := W
        exact ⟨_, _, _, false, rfl, (fun z => by cases z), T.o_GivenRow.tyOf (s2 _ _ ha), kitF T.o_GivenRow T.o_OwnRow (cls_ne T 4 3) (cls_ne T 4 1), false, rfl, k _ (Same.refl _)⟩
      · obtain ⟨a, dx, n, rfl, ha⟩ := W
        exact ⟨_, _, _, true, rfl, (fun z => by cases z), T.o_OwnRow.tyOf (s2 _ _ ha), kitT T.o_OwnRow, true, rfl, k _ (Same.refl _)⟩
      · obtain ⟨a, dx, n, x, rk, rfl, ha⟩ := W
        exact ⟨_, _, _, false, rfl, (fun z => by cases z), T.o_HandRow.tyOf (s2 _ _ ha), kitF T.o_HandRow T.o_OwnRow (cls_ne T 4 2) (cls_ne T 4 1), false, rfl, k _ (Same.refl _)⟩
      · obtain ⟨a, dx, n, x, rk, rfl, ha⟩ := W
        exact ⟨_, _, _, false, rfl, (fun z => by cases z), T.o_LetRow.tyOf (s2 _ _ ha), kitF T.o_LetRow T.o_OwnRow (cls_ne T 4 5) (cls_ne T 4 1), false, rfl, k _ (Same.refl _)⟩
    · obtain ⟨j, j8, W⟩ := mem hv'
      obtain ⟨h1, h2⟩ := head_own T j8 W
      rw [h1] at hp
      obtain ⟨a, dx, n, rfl, ha⟩ := h2 hp
      have j6 := ownB_lt hp
      exact ⟨a, _, dx, _, _, rfl, s2 _ _ ha, T.o_OwnRow.cl, T.n_OwnRow_name, rfl, a, _, dx, _, _, rfl, s2 _ _ ha, T.o_OwnRow.cl, T.n_OwnRow_name, rfl, _, gd s2 j6, (show 2 ≤ sizeLine by decide), fun t ht => k _ _ (Same.upd ht _) ⟨t, a, dx, n, _, j, rfl, ha, by omega, rfl, upd_same⟩⟩
    · rintro x y' H2 H3 s ⟨t, a, dx, n, u, j, e1, e2, e3, e4, e5⟩
      exact ⟨t, a, dx, n, u, j, e1, e2, e3, e4, s _ _ e5⟩
    · rintro x y' H2 D ys zs hD ⟨t, a, dx, n, u, j, e1, e2, e3, e4, e5⟩
      exact ⟨t, a, dx, n, u, j, e1, e2, e3, e4, by rw [upd_ne (fun z => by rw [z, hD] at e5; cases e5)]; exact e5⟩
    · have pk : PySem.Paired (fun j y' => (∃ t, y' = V.ref t ∧ H2 t = some (.tup [.str (N j), cv sl kl num j])) ∨ ¬ j < 12) (eIx js) ys := pair_both (fun v j y' h1 h2 => by
        obtain ⟨a, dx, n, e1, h1⟩ := h1
        obtain ⟨t, a', dx', n', u, j', e2, h2, e3, e4, e5⟩ := h2
        by_cases j12 : j < 12
        · left
          rw [e1] at e2
          cases e2
          rw [h1] at h2
          have e6 := (HO.ins.inj (Option.some.inj h2)).2.2
          have e7 := (Prod.mk.inj (List.cons.inj (List.cons.inj e6).2).1).2
          have e8 := Di j j' j12 e3 (V.str.inj e7)
          rw [← e8] at e5
          exact ⟨t, e4, e5⟩
        · exact Or.inr j12) ho pr
      have pk' : PySem.Paired (fun j y' => ∃ t, y' = V.ref t ∧ H2 t = some (.tup [.str (N j), cv sl kl num j])) (eIx js) ys := pair_keep pk eIx12
      obtain ⟨ps, e1, e2, e3⟩ := pair_keys (K := K) pk'
      have el : (eIx js).length ≤ 8 := by
        have := List.length_filter_le ownB js
        have h8 := O.len
        show (js.filter ownB).length ≤ 8
        omega
      have em : mergeK [] (dk N (eIx js) (cv sl kl num)) = dk N (eIx js) (cv sl kl num) := dk_merge Di (eIx js) [] (by rw [List.nil_append]; exact eIx12) (by rw [List.nil_append]; exact O.nd.filter _)
      refine ⟨D, ps, dk N (eIx js) (cv sl kl num), rfl, by rw [← e1]; exact SqL.of e, by rw [e2]; unfold dk; rw [List.length_map], by unfold dk; rw [List.length_map]; omega, e3, fun p4 hp4 => q p4 _ (s2.trans (Same.upd hp4 _)) (Same.free s2 hp4) (by rw [upd_same, em])⟩
structure DoneBk (A : Adr) (N : Nat → Str) (js : List Nat) (H : Hp) (b db l sd t e sl kl : Addr) (k : S) : Prop where
  hb : H b = some (.ins A.Book db [("letters", .ref l), ("said", .ref sd), ("trace", .ref t), ("steps", .int k.steps), ("ends", .ref e)])
  he : H e = some (.dK (dk N (eIx js) (cv sl kl k.num)))
  hK : H kl = some (.lst (k.kept.map V.int))
  ht : ∃ xs, H t = some (.lst xs) ∧ Tups H xs k.trace
  hl : ∃ xs, H l = some (.lst xs) ∧ Tups H xs k.letters
  hd : ∃ xs, H sd = some (.lst xs) ∧ Tups H xs k.said
  tl : t ≠ l
theorem new_ok {x y : Int} {rs : List Int} {m : Nat} (hx : In x) (hy : In y) (hr : ∀ a ∈ rs, In a) (hz : 0 < rs.length ∧ rs.length ≤ 1000) (hm : 0 < m ∧ m ≤ 1000) : (S.new x y rs m).ok := by
  have z : In 0 := ⟨by decide, by decide⟩
  refine ⟨fun a => ?_, fun l => ?_, fun l => ?_⟩
  · show In (num0 x y a)
    unfold num0
    split
    · exact hx
    · split
      · exact hy
      · exact z
  · cases l
    · exact hr
    · intro u hu
      rw [List.eq_of_mem_replicate hu]
      exact z
  · cases l
    · exact hz
    · show 0 < (zeros m).length ∧ (zeros m).length ≤ 1000
      unfold zeros
      rw [List.length_replicate]
      exact hm
def sp_run (A : Adr) : Sp := fun vs H Q _ => ∃ (N : Nat → Str) (js : List Nat) (p : Pa) (hv : List V) (g l : Addr) (x y : Int) (rs : List Int) (m : Nat) (xs : List V) (rows : List Rw), Dist N ∧ Ord js ∧ vs = [.ref p.pa, .ref g] ∧ PrAt A N H p hv js rs.length m xs ∧ Gifts N H g l x y rs ∧ (0 < m ∧ m ≤ 1000) ∧ PySem.Paired (RowAt A N H) xs rows ∧ rows.length ≤ 1000 ∧
  ∀ (b db lt sd t e sl kl : Addr) (H' : Hp), Same H H' → H lt = none → H t = none → H e = none → DoneBk A N js H' b db lt sd t e sl kl (rowsBy (S.new x y rs m) rows) → (rowsBy (S.new x y rs m) rows).ok → Q (.ref b) H'
theorem h_run (T : Txt K mg A) : Has P w K mg base 8 "run" ["program", "gifts"] (sp_run A) := by
  refine T.run.has (k := 7) sc_run (fun vs H Q E h => ?_) (fun f cdv A' outer s' H vs Q E hr hu h => ?_)
  · obtain ⟨N, js, p, hv, g, l, x, y, rs, m, xs, rows, _, _, rfl, _⟩ := h
    rfl
  · obtain ⟨N, js, p, hv, g, l, x, y, rs, m, xs, rows, Di, O, rfl, R, G, hm, pr, rm, q⟩ := h
    have D_cells_of := h_cells (P := P) (w := w) (base := base) T
    have D_Run_init := h_Run_init (P := P) (w := w) (base := base) T
    have D_do_rows := h_doRows (P := P) (w := w) (base := base) (N := N) (js := js) T
    have D_ends_of := h_ends (P := P) (w := w) (base := base) T
    refine ⟨_, (pss_cons (ps_set (i := 2) sc_run.nd rfl (Or.inl rfl) (pe_makeD T.o_Run D_Run_init hr (pa_cons (fv 0) (pa_cons (pe_callD D_cells_of hr (pa_cons (fv 0) (pa_cons (fv 1) pa_nil))) pa_nil))))
    (pss_cons (ps_expr (pe_methD (fv 2) T.o_Run.cl D_do_rows hr (pa_cons (pe_fld (fv 0) rfl) pa_nil)))
    (pss_cons (ps_set (i := 3) sc_run.nd rfl (Or.inl rfl) (pe_fld (fv 2) rfl))
    (pss_cons (ps_fld (fv 3) (pe_callD D_ends_of hr (pa_cons (fv 0) (pa_cons (pe_fld (fv 2) rfl) pa_nil))) rfl)
    (pss_one (ps_ret (fv 3))))))), ?_⟩
    refine ⟨N, p, hv, js, g, l, x, y, rs, m, xs, Di, O, rfl, R, G, hm.1, hm.2, fun c sl kl H1 s1 NC => ?_⟩
    refine fun s ds' hs hds hne => ?_
    have sm : Same H1 (upd (upd H1 ds' (.own s)) s (.ins A.Run ds' [])) := But.same (But.refl _ _) hs hds
    refine ⟨s, ds', c, sl, kl, N, js, p, hv, x, y, rs.length, m, rs, xs, rfl, upd_same, (R.same s1).same sm, sm _ _ NC.c, sm _ _ NC.s, sm _ _ NC.k, NC.ks, fun d b db sd e t lt H2 b2 nb nt nl nd R2 => ⟨rfl, ?_⟩⟩
    have s12 : Same H1 H2 := But.same b2 hs hds
    have s2 : Same H H2 := s1.trans s12
    have Fr : Fresh H ⟨s, ds', d, c, b, db, sd, e, t, lt, sl, kl⟩ := ⟨Same.free s1 (new_none hs hds nb), Same.free s1 (new_none hs hds nt), Same.free s1 (new_none hs hds nl), NC.c0, NC.k0, Same.free s1 (new_none hs hds nd)⟩
    have ok0 : (S.new x y rs m).ok := new_ok G.hx G.hy G.hr G.hz hm
    refine ⟨s, ds', _, rfl, R2.hs, rfl, p.pa, _, p.dp, _, _, rfl, s2 _ _ R.pr, T.o_Program.cl, T.n_Program_main, rfl, ⟨s, ds', d, c, b, db, sd, e, t, lt, sl, kl⟩, S.new x y rs m, p.mn, xs, rows, H, Di, O, rfl, s2, Fr, R2, ok0, R.mn, pr, ⟨by simpa [S.new] using rm, by simpa [S.new] using rm, by simpa [S.new] using rm⟩, fun H3 s3 R3 ok3 => ?_⟩
    refine ⟨s, _, ds', _, _, rfl, R3.hs, T.o_Run.cl, T.n_Run_book, rfl, ?_⟩
    refine ⟨s, _, ds', _, _, rfl, R3.hs, T.o_Run.cl, T.n_Run_cells, rfl, N, js, p, hv, c, sl, kl, _, _, _, xs, Di, O, rfl, R.same s3, R3.hc, fun e' H4 s4 e0 he4 => ?_⟩
    have R4 := R3.same s4
    have hb4 := R4.hb
    obtain ⟨ts, ht, tt⟩ := R4.ht
    obtain ⟨ls, hl, tl⟩ := R4.hl
    obtain ⟨zs, hd, td⟩ := R4.hd
    refine ⟨b, _, db, _, rfl, hb4, T.o_Book.cl, T.n_Book_ends, by simp, ?_⟩
    have st := Stay.at (u := .ins A.Book db (putF "ends" (.ref e') [("letters", .ref lt), ("said", .ref sd), ("trace", .ref t), ("steps", .int (rowsBy (S.new x y rs m) rows).steps), ("ends", .ref e)])) hb4 (fun w e => by cases e)
    have ne : ∀ {a : Addr} {o : HO}, H4 a = some o → (∀ C dx fs, o ≠ .ins C dx fs) → a ≠ b := fun ha hn z => by rw [z, hb4] at ha; exact hn _ _ _ (Option.some.inj ha).symm
    refine q b db lt sd t e' sl kl _ (Same.out (s3.trans s4) Fr.b _) Fr.l Fr.t (Same.free s3 e0) ⟨upd_same, ?_, ?_, ⟨ts, ?_, tt.stay st⟩, ⟨ls, ?_, tl.stay st⟩, ⟨zs, ?_, td.stay st⟩, R4.ap.tl⟩ ok3
    · rw [upd_ne (ne he4 (fun _ _ _ z => by cases z))]; exact he4
    · rw [upd_ne (ne R4.hK (fun _ _ _ z => by cases z))]; exact R4.hK
    · rw [upd_ne (ne ht (fun _ _ _ z => by cases z))]; exact ht
    · rw [upd_ne (ne hl (fun _ _ _ z => by cases z))]; exact hl
    · rw [upd_ne (ne hd (fun _ _ _ z => by cases z))]; exact hd
end
end K22

set_option Elab.async false
set_option linter.all false
set_option maxRecDepth 100000
set_option maxHeartbeats 4000000
namespace K22
open PySem L2
section
variable {P : Program} {w : World} {K : PySem.W.Frag} {mg : Str → Option Value} {base : Heap} {A : Adr} {N : Nat → Str}
def cellAt (ns : List Int) (k : Int) : Int := if k < (ns.length : Int) then ns.getD k.toNat 0 else 0
theorem at_int {ns : List Int} {k : Int} (h0 : 0 ≤ k) (h1 : k < (ns.length : Int)) : atI (ns.map V.int) k = some (.int (ns.getD k.toNat 0)) := by
  have hk : k.toNat < ns.length := by omega
  have e := atI_nat (xs := ns.map V.int) (j := k.toNat) (v := .int (ns.getD k.toNat 0)) (by rw [List.getElem?_map, List.getElem?_eq_getElem hk, List.getD_eq_getElem?_getD, List.getElem?_eq_getElem hk]; rfl)
  rw [show ((k.toNat : Nat) : Int) = k by omega] at e
  exact e
def sp_cell (K : PySem.W.Frag) : Sp := fun vs H Q _ => ∃ (a : Addr) (ns : List Int) (k : Int), vs = [.ref a, .int k] ∧ SqL K H a (ns.map V.int) ∧ 0 ≤ k ∧ Q (.int (cellAt ns k)) H
theorem h_cell (T : Txt K mg A) : Has P w K mg base 1 "_law_cell_at" ["_law_script", "_law_k"] (sp_cell K) := by
  refine T.law_cell_at.has sc_law_cell_at (fun vs H Q E h => ?_) (fun f cdv A' outer s H vs Q E hr hu h => ?_)
  · obtain ⟨a, ns, k, rfl, _⟩ := h
    rfl
  · obtain ⟨a, ns, k, rfl, hS, h0, q⟩ := h
    unfold cellAt at q
    have el : (((ns.map V.int).length : Nat) : Int) = (ns.length : Int) := by rw [List.length_map]
    refine ⟨_, (pss_cons (ps_if (pt_cmpR (o_lt) (fv 1) (pe_callB c_lenA rfl T.z_len (by boot_by_name) (pa_cons (fv 0) pa_nil)) (nomark _))
      (pss_one (ps_ret (pe_ix (ix_all hu) (fv 0) (fv 1) (fun _ _ => rfl))))
      pss_nil)
    (pss_one (ps_ret (pe_int)))), ?_⟩
    refine Or.inl ⟨_, _, rfl, Or.inl ⟨_, hS, rfl⟩, _, rfl, ?_⟩
    refine ite2 (fun c => ?_) (fun c => ?_)
    · have c' : k < (((ns.map V.int).length : Nat) : Int) := of_decide_eq_true c
      rw [el] at c'
      rw [if_pos c'] at q
      exact Or.inl ⟨_, _, Or.inl hS, at_int h0 c', q⟩
    · have c' : ¬ k < (((ns.map V.int).length : Nat) : Int) := of_decide_eq_false (Bool.eq_false_iff.mpr c)
      rw [el] at c'
      rw [if_neg c'] at q
      exact q
theorem pow12 : ((10 : Int) ^ (12 : Int).toNat) = 1000000000000 := by decide
def numV (c : Int) : Int := if decide (V.int (c % 3) = V.int 0) = true then c / 3 % 5 else if decide (V.int (c % 3) = V.int 1) = true then 10 ^ (12 : Int).toNat - 1 - c / 3 % 5 else c / 3 % 10 ^ (12 : Int).toNat
theorem num_in (c : Int) : In (numV c) := by
  unfold numV
  rw [pow12]
  have h5 := mod_in (c / 3) (show (0 : Int) < 5 by decide)
  split
  · exact ⟨h5.1, by omega⟩
  split
  · exact ⟨by omega, by omega⟩
  · exact mod_in _ (by decide)
def sp_number : Sp := fun vs H Q _ => ∃ c : Int, vs = [.int c] ∧ Q (.int (numV c)) H
theorem h_number (T : Txt K mg A) : Has P w K mg base 1 "_law_number" ["_law_cell"] sp_number := by
  refine T.law_number.has sc_law_number (fun vs H Q E h => ?_) (fun f cdv A' outer s H vs Q E hr hu h => ?_)
  · obtain ⟨c, rfl, _⟩ := h
    rfl
  · obtain ⟨c, rfl, q⟩ := h
    unfold numV at q
    refine ⟨_, (pss_cons (ps_if (pt_cmpR (o_eqU hu) (pe_op o_mod (fv 0) (pe_int)) (pe_int) (nomark _))
      (pss_one (ps_ret (pe_op o_mod (pe_op o_fdiv (fv 0) (pe_int)) (pe_int))))
      pss_nil)
    (pss_cons (ps_if (pt_cmpR (o_eqU hu) (pe_op o_mod (fv 0) (pe_int)) (pe_int) (nomark _))
      (pss_one (ps_ret (pe_op o_sub (pe_op o_sub (pe_op o_pow (pe_int) (pe_int)) (pe_int)) (pe_op o_mod (pe_op o_fdiv (fv 0) (pe_int)) (pe_int)))))
      pss_nil)
    (pss_one (ps_ret (pe_op o_mod (pe_op o_fdiv (fv 0) (pe_int)) (pe_op o_pow (pe_int) (pe_int))))))), ?_⟩
    refine ⟨(by show (0 : Int) < 3; decide), rfl, _, rfl, ite2 (fun b => ?_) (fun b => ?_)⟩
    · rw [if_pos b] at q
      exact ⟨⟨by decide, by decide⟩, (by show (0 : Int) < 5; decide), q⟩
    rw [if_neg b] at q
    refine ⟨(by show (0 : Int) < 3; decide), rfl, _, rfl, ite2 (fun b => ?_) (fun b => ?_)⟩
    · rw [if_pos b] at q
      exact ⟨⟨by decide, by decide, by decide⟩, ⟨by decide, by decide⟩, (by show (0 : Int) < 5; decide), q⟩
    · rw [if_neg b] at q
      exact ⟨⟨by decide, by decide⟩, ⟨by decide, by decide, by decide⟩, (by show (0 : Int) < 10 ^ (12 : Int).toNat; decide), q⟩
end
end K22

set_option Elab.async false
set_option linter.all false
set_option maxRecDepth 100000
set_option maxHeartbeats 4000000
namespace K22
open PySem L2
section
variable {P : Program} {w : World} {K : PySem.W.Frag} {mg : Str → Option Value} {base : Heap} {A : Adr} {N : Nat → Str}
abbrev LET : Str := "abcdefghijklmnopqrstuvwxyz"
def letC (k : Int) : Nat := (97 + k).toNat
theorem at_let {k : Int} (h0 : 0 ≤ k) (h1 : k < 26) : atI LET.cps.toList k = some (letC k) := by
  obtain ⟨n, rfl⟩ : ∃ n : Nat, k = (n : Int) := ⟨k.toNat, by omega⟩
  have h : ∀ m : Fin 26, atI LET.cps.toList ((m.val : Nat) : Int) = some (letC ((m.val : Nat) : Int)) := by decide +kernel
  exact h ⟨n, by omega⟩
theorem rep_len {z : Str} {n : Int} (hz : z.length ≤ 1) (h1 : n < 1000) : (repS z n).length ≤ 1000 := by
  unfold repS
  split
  · decide
  · split
    · omega
    · rw [rep_size]
      have : n.toNat * z.length ≤ n.toNat * 1 := Nat.mul_le_mul_left _ hz
      omega
theorem str_app_len (x y : Str) : (x ++ y).length = x.length + y.length := by
  show (x.cps ++ y.cps).size = x.cps.size + y.cps.size
  exact Array.size_append
abbrev WORDS1 : Str := "set put send say by if else end loop most idle last call deed main"
abbrev WORDS2 : Str := "at over rest hand given own let open house closed"
def words1 : List Str := ["set", "put", "send", "say", "by", "if", "else", "end", "loop", "most", "idle", "last", "call", "deed", "main"]
def words2 : List Str := ["at", "over", "rest", "hand", "given", "own", "let", "open", "house", "closed"]
theorem words1_ok : SplitOk WORDS1 " " words1 := ⟨by decide +kernel, by decide +kernel, by decide +kernel, by decide +kernel, by decide, by decide +kernel⟩
theorem words2_ok : SplitOk WORDS2 " " words2 := ⟨by decide +kernel, by decide +kernel, by decide +kernel, by decide +kernel, by decide, by decide +kernel⟩
def words : List Str := words1 ++ words2
theorem words_nodup : words.Nodup := by decide +kernel
theorem words_len : words.length = 25 := rfl
def nmV (c : Int) (k : Nat) : Str :=
  if decide (V.int (c % 4) = V.int 0) = true then words.getD ((c / 4 + k) % 25).toNat Str.empty
  else if decide (V.int (c % 4) = V.int 1) = true then repS ⟨#[letC ((c / 4 + (k : Int) / 8) % 26)]⟩ ((k : Int) % 8 + 1)
  else Txt.slice (repS ⟨#[letC (c / 288 % 26)]⟩ (c / 4 % 8)) none (some (c / 32 % (c / 4 % 8 + 1))) ++ ⟨#[letC ((k + c / 7488) % 26)]⟩ ++ Txt.slice (repS ⟨#[letC (c / 288 % 26)]⟩ (c / 4 % 8)) (some (c / 32 % (c / 4 % 8 + 1))) none
theorem rep_list (c : Nat) {n : Int} (hn : 1 ≤ n) : (repS ⟨#[c]⟩ n).cps.toList = List.replicate n.toNat c := by
  unfold repS
  rw [if_neg (by omega)]
  by_cases e : n = 1
  · subst e
    rfl
  · have h1 : ¬ (n == 1 || (⟨#[c]⟩ : Str).length == 0) = true := by
      rw [Bool.or_eq_true]
      rintro (h | h)
      · exact e (eq_of_beq h)
      · exact absurd h (show ¬ ((1 : Nat) == 0) = true by decide)
    rw [if_neg h1]
    have f : ∀ (m : Nat) (acc : Array Nat), ((List.replicate m #[c]).foldl (· ++ ·) acc).toList = acc.toList ++ List.replicate m c := by
      intro m
      induction m with
      | zero => intro acc; simp
      | succ m ih =>
        intro acc
        rw [List.replicate_succ, List.foldl_cons, ih, List.replicate_succ]
        simp
    have := f n.toNat #[]
    simpa using this
theorem letC_inj {a b : Int} (ha : 0 ≤ a) (hb : 0 ≤ b) (h : letC a = letC b) : a = b := by
  unfold letC at h
  omega
theorem str_mid {a b : Str} {x y : Nat} (h : a ++ ⟨#[x]⟩ ++ b = a ++ ⟨#[y]⟩ ++ b) : x = y := by
  have h1 : ((a.cps ++ #[x]) ++ b.cps).toList = ((a.cps ++ #[y]) ++ b.cps).toList := congrArg (fun z : Str => z.cps.toList) h
  simp only [Array.toList_append] at h1
  have h2 := List.append_inj_left' h1 rfl
  have h3 := List.append_inj_right h2 rfl
  simpa using h3
theorem nm_dist (c : Int) : Dist (nmV c) := by
  intro i j hi hj e
  unfold nmV at e
  split at e
  · have m1 := mod_in (c / 4 + i) (show (0 : Int) < 25 by decide)
    have m2 := mod_in (c / 4 + j) (show (0 : Int) < 25 by decide)
    have b1 : ((c / 4 + i) % 25).toNat < words.length := by rw [words_len]; omega
    have b2 : ((c / 4 + j) % 25).toNat < words.length := by rw [words_len]; omega
    rw [List.getD_eq_getElem?_getD, List.getD_eq_getElem?_getD, List.getElem?_eq_getElem b1, List.getElem?_eq_getElem b2] at e
    have := (List.getElem_inj words_nodup).mp (show words[((c / 4 + i) % 25).toNat] = words[((c / 4 + j) % 25).toNat] from e)
    omega
  split at e
  · have m1 := mod_in (c / 4 + (i : Int) / 8) (show (0 : Int) < 26 by decide)
    have m2 := mod_in (c / 4 + (j : Int) / 8) (show (0 : Int) < 26 by decide)
    have h1 := congrArg (fun z : Str => z.cps.toList) e
    rw [rep_list _ (by omega), rep_list _ (by omega)] at h1
    have h2 := congrArg List.length h1
    rw [List.length_replicate, List.length_replicate] at h2
    obtain ⟨n, hn⟩ : ∃ n, ((i : Int) % 8 + 1).toNat = n + 1 := ⟨((i : Int) % 8).toNat, by omega⟩
    rw [← h2, hn, List.replicate_succ, List.replicate_succ] at h1
    have h3 := letC_inj m1.1 m2.1 (List.cons.inj h1).1
    omega
  · have m1 := mod_in ((i : Int) + c / 7488) (show (0 : Int) < 26 by decide)
    have m2 := mod_in ((j : Int) + c / 7488) (show (0 : Int) < 26 by decide)
    have h3 := letC_inj m1.1 m2.1 (str_mid e)
    omega
def sp_name : Sp := fun vs H Q _ => ∃ (c : Int) (k : Nat), vs = [.int c, .int k] ∧ k ≤ 100 ∧ ∀ (H' : Hp), Same H H' → Q (.str (nmV c k)) H'
theorem h_name (T : Txt K mg A) : Has P w K mg base 1 "_law_name" ["_law_cell", "_law_k"] sp_name := by
  refine T.law_name.has sc_law_name (fun vs H Q E h => ?_) (fun f cdv A' outer s H vs Q E hr hu h => ?_)
  · obtain ⟨c, k, rfl, _⟩ := h
    rfl
  · obtain ⟨c, k, rfl, h1, q⟩ := h
    unfold nmV at q
    refine ⟨_, (pss_cons (ps_set (i := 2) sc_law_name.nd rfl (Or.inl rfl) (pe_str))
    (pss_cons (ps_set (i := 3) sc_law_name.nd rfl (Or.inl rfl) (pe_op o_mod (fv 0) (pe_int)))
    (pss_cons (ps_if (pt_cmpR (o_eqU hu) (fv 3) (pe_int) (nomark _))
      (pss_cons (ps_set (i := 4) sc_law_name.nd rfl (Or.inl rfl) (m_split (pe_str) (pa_cons (pe_str) pa_nil)))
      (pss_cons (ps_set (i := 4) sc_law_name.nd rfl (Or.inl rfl) (pe_op o_add (fv 4) (m_split (pe_str) (pa_cons (pe_str) pa_nil))))
      (pss_one (ps_ret (pe_ix (ix_all hu) (fv 4) (pe_op o_mod (pe_op o_add (pe_op o_fdiv (fv 0) (pe_int)) (fv 1)) (pe_int)) (fun _ _ => rfl))))))
      pss_nil)
    (pss_cons (ps_if (pt_cmpR (o_eqU hu) (fv 3) (pe_int) (nomark _))
      (pss_one (ps_ret (pe_op o_mulA (pe_ix (ix_all hu) (fv 2) (pe_op o_mod (pe_op o_add (pe_op o_fdiv (fv 0) (pe_int)) (pe_op o_fdiv (fv 1) (pe_int))) (pe_int)) (fun _ _ => rfl)) (pe_op o_add (pe_op o_mod (fv 1) (pe_int)) (pe_int)))))
      pss_nil)
    (pss_cons (ps_set (i := 5) sc_law_name.nd rfl (Or.inl rfl) (pe_op o_mod (pe_op o_fdiv (fv 0) (pe_int)) (pe_int)))
    (pss_cons (ps_set (i := 6) sc_law_name.nd rfl (Or.inl rfl) (pe_op o_mod (pe_op o_fdiv (fv 0) (pe_int)) (pe_op o_add (fv 5) (pe_int))))
    (pss_cons (ps_set (i := 7) sc_law_name.nd rfl (Or.inl rfl) (pe_op o_mulA (pe_ix (ix_all hu) (fv 2) (pe_op o_mod (pe_op o_fdiv (fv 0) (pe_int)) (pe_int)) (fun _ _ => rfl)) (fv 5)))
    (pss_one (ps_ret (pe_op o_add (pe_op o_add (pe_slice sl_all (fv 7) po_none (po_some (fv 6))) (pe_ix (ix_all hu) (fv 2) (pe_op o_mod (pe_op o_add (fv 1) (pe_op o_fdiv (fv 0) (pe_int))) (pe_int)) (fun _ _ => rfl))) (pe_slice sl_all (fv 7) (po_some (fv 6)) po_none))))))))))), ?_⟩
    refine ⟨(by show (0 : Int) < 4; decide), rfl, _, rfl, ?_⟩
    refine ite2 (fun b1 => ?_) (fun b1 => ?_)
    · rw [if_pos b1] at q
      refine ⟨rfl, _, _, words1, rfl, rfl, words1_ok, fun l hl => ?_⟩
      have s1 := Same.upd hl (HO.lst (words1.map V.str))
      have e1 : (upd H l (HO.lst (words1.map V.str))) l = some (.lst (words1.map V.str)) := upd_same
      generalize upd H l (HO.lst (words1.map V.str)) = H1 at s1 e1 ⊢
      refine ⟨rfl, _, _, words2, rfl, rfl, words2_ok, fun l2 hl2 => ?_⟩
      have s2 := Same.upd hl2 (HO.lst (words2.map V.str))
      have e2 : (upd H1 l2 (HO.lst (words2.map V.str))) l2 = some (.lst (words2.map V.str)) := upd_same
      generalize upd H1 l2 (HO.lst (words2.map V.str)) = H2 at s2 e2 ⊢
      refine ⟨l, l2, _, _, rfl, rfl, s2 _ _ e1, e2, (by decide : 25 ≤ sizeLine), fun l3 hl3 => ?_⟩
      obtain ⟨j0, j1⟩ := mod_in (c / 4 + k) (show (0 : Int) < 25 by decide)
      have hk : ((c / 4 + k) % 25).toNat < words.length := by rw [words_len]; omega
      have e : atI (words1.map V.str ++ words2.map V.str) ((c / 4 + k) % 25) = some (.str (words.getD ((c / 4 + k) % 25).toNat Str.empty)) := by
        rw [← List.map_append]
        have e := atI_nat (xs := words.map V.str) (j := ((c / 4 + k) % 25).toNat) (v := .str (words.getD ((c / 4 + k) % 25).toNat Str.empty)) (by rw [List.getElem?_map, List.getElem?_eq_getElem hk, List.getD_eq_getElem?_getD, List.getElem?_eq_getElem hk]; rfl)
        rw [show ((((c / 4 + k) % 25).toNat : Nat) : Int) = (c / 4 + k) % 25 by omega] at e
        exact e
      exact ⟨⟨by decide, by decide⟩, (by show (0 : Int) < 25; decide), Or.inl ⟨_, _, Or.inl (SqL.of upd_same), e, q _ ((s1.trans s2).trans (Same.upd hl3 _))⟩⟩
    · rw [if_neg b1] at q
      refine ⟨rfl, _, rfl, ?_⟩
      refine ite2 (fun b2 => ?_) (fun b2 => ?_)
      · rw [if_pos b2] at q
        obtain ⟨j0, j1⟩ := mod_in (c / 4 + (k : Int) / 8) (show (0 : Int) < 26 by decide)
        obtain ⟨m0, m1⟩ := mod_in (k : Int) (show (0 : Int) < 8 by decide)
        exact ⟨⟨by decide, by decide⟩, ⟨by decide, by decide⟩, (by show (0 : Int) < 26; decide), _, by decide +kernel, at_let j0 j1, (by show (0 : Int) < 8; decide), by omega, by omega, by show 1 ≤ 1000; decide, q _ (Same.refl _)⟩
      · rw [if_neg b2] at q
        obtain ⟨m0, m1⟩ := mod_in (c / 4) (show (0 : Int) < 8 by decide)
        obtain ⟨j0, j1⟩ := mod_in (c / 288) (show (0 : Int) < 26 by decide)
        obtain ⟨i0, i1⟩ := mod_in (k + c / 7488) (show (0 : Int) < 26 by decide)
        have rl : (repS ⟨#[letC (c / 288 % 26)]⟩ (c / 4 % 8)).length ≤ 1000 := rep_len (Nat.le_refl _) (by omega)
        refine ⟨⟨by decide, by decide⟩, (by show (0 : Int) < 8; decide), ⟨by decide, by decide⟩, (by show (0 : Int) < c / 4 % 8 + 1; omega), ⟨by decide, by decide⟩, (by show (0 : Int) < 26; decide), _, by decide +kernel, at_let j0 j1, by omega, by omega, by show 1 ≤ 1000; decide, ?_⟩
        have s1 := PySem.Txt.slice_le (repS ⟨#[letC (c / 288 % 26)]⟩ (c / 4 % 8)) none (some (c / 32 % (c / 4 % 8 + 1)))
        have s2 := PySem.Txt.slice_le (repS ⟨#[letC (c / 288 % 26)]⟩ (c / 4 % 8)) (some (c / 32 % (c / 4 % 8 + 1))) none
        refine ⟨_, rfl, sz rl, ⟨by decide, by decide⟩, (by show (0 : Int) < 26; decide), _, by decide +kernel, at_let i0 i1, ?_⟩
        refine ⟨Nat.le_trans (m := 1000 + 1) (Nat.add_le_add_right (Nat.le_trans s1 rl) 1) (by decide), _, rfl, sz rl, ?_⟩
        refine ⟨?_, q _ (Same.refl _)⟩
        rw [str_app_len]
        exact Nat.le_trans (m := 1000 + 1 + 1000) (Nat.add_le_add (Nat.add_le_add_right (Nat.le_trans s1 rl) 1) (Nat.le_trans s2 rl)) (by decide)
end
end K22

set_option Elab.async false
set_option linter.all false
set_option maxRecDepth 100000
set_option maxHeartbeats 4000000
namespace K22
open PySem L2
section
variable {P : Program} {w : World} {K : PySem.W.Frag} {mg : Str → Option Value} {base : Heap} {A : Adr} {N : Nat → Str}
def nms (N : Nat → Str) : List V := (List.range 8).map fun i => V.str (N i)
theorem nms_at {i : Int} (h0 : 0 ≤ i) (h1 : i < 8) : atI (nms N) i = some (.str (N i.toNat)) := by
  have hk : i.toNat < 8 := by omega
  have e := atI_nat (xs := nms N) (j := i.toNat) (v := .str (N i.toNat)) (by unfold nms; rw [List.getElem?_map, List.getElem?_range hk]; rfl)
  rw [show ((i.toNat : Nat) : Int) = i by omega] at e
  exact e
def sp_thing (N : Nat → Str) : Sp := fun vs H Q _ => ∃ (n : Int) (nl : Addr), vs = [.int n, .ref nl] ∧ H nl = some (.lst (nms N)) ∧ ∀ th : Th, th.ok → Q (th.v N) H
theorem h_thing (T : Txt K mg A) : Has P w K mg base 2 "_law_thing" ["_law_cell", "_law_names"] (sp_thing N) := by
  have D_law_number := h_number (P := P) (w := w) (base := base) T
  refine T.law_thing.has (k := 1) sc_law_thing (fun vs H Q E h => ?_) (fun f cdv A' outer s H vs Q E hr hu h => ?_)
  · obtain ⟨n, nl, rfl, _⟩ := h
    rfl
  · obtain ⟨n, nl, rfl, hN, q⟩ := h
    have h5 := mod_in n (show (0 : Int) < 5 by decide)
    refine ⟨_, (pss_cons (ps_if (pt_cmpR (o_lt) (pe_op o_mod (fv 0) (pe_int)) (pe_int) (nomark _))
      (pss_one (ps_ret (pe_ix (ix_all hu) (fv 1) (pe_op o_mod (fv 0) (pe_int)) (fun _ _ => rfl))))
      pss_nil)
    (pss_one (ps_ret (pe_callD D_law_number hr (pa_cons (pe_op o_fdiv (fv 0) (pe_int)) pa_nil))))), ?_⟩
    refine ⟨(by show (0 : Int) < 5; decide), _, rfl, ite2 (fun b => ?_) (fun b => ?_)⟩
    · have b' : n % 5 < 4 := of_decide_eq_true b
      refine ⟨(by show (0 : Int) < 5; decide), Or.inl ⟨_, _, Or.inl (SqL.of hN), nms_at (by omega) (by omega), ?_⟩⟩
      exact q (.x (n % 5).toNat) (show (n % 5).toNat ≤ 3 by omega)
    · exact ⟨⟨by decide, by decide⟩, _, rfl, q (.i (numV _)) (num_in _)⟩
theorem two_li (c : Int) : ∃ l : Bool, (4 + c % 2).toNat = li l ∧ 0 ≤ 4 + c % 2 ∧ 4 + c % 2 < 8 := by
  have := mod_in c (show (0 : Int) < 2 by decide)
  obtain e | e : c % 2 = 0 ∨ c % 2 = 1 := by omega
  · exact ⟨false, by rw [e]; rfl, by omega, by omega⟩
  · exact ⟨true, by rw [e]; rfl, by omega, by omega⟩
theorem ops_at (c : Int) : ∃ x ∈ opW, atI [V.str "+", .str "-", .str "*", .str "over", .str "rest", .str "<", .str "="] (c % 7) = some (.str x) := by
  have h := mod_in c (show (0 : Int) < 7 by decide)
  have : c % 7 = 0 ∨ c % 7 = 1 ∨ c % 7 = 2 ∨ c % 7 = 3 ∨ c % 7 = 4 ∨ c % 7 = 5 ∨ c % 7 = 6 := by omega
  rcases this with e | e | e | e | e | e | e <;> rw [e]
  · exact ⟨"+", by decide, rfl⟩
  · exact ⟨"-", by decide, rfl⟩
  · exact ⟨"*", by decide, rfl⟩
  · exact ⟨"over", by decide, rfl⟩
  · exact ⟨"rest", by decide, rfl⟩
  · exact ⟨"<", by decide, rfl⟩
  · exact ⟨"=", by decide, rfl⟩
def sp_value (K : PySem.W.Frag) (N : Nat → Str) : Sp := fun vs H Q _ => ∃ (a nl : Addr) (ns : List Int), vs = [.ref a, .ref nl] ∧ SqL K H a (ns.map V.int) ∧ H nl = some (.lst (nms N)) ∧ ∀ (val : Val) (p : Addr) (H' : Hp), val.ok → Same H H' → H' p = some (.tup (vV N val)) → Q (.ref p) H'
theorem h_value (T : Txt K mg A) : Has P w K mg base 3 "_law_value" ["_law_script", "_law_names"] (sp_value K N) := by
  have D_law_thing := h_thing (P := P) (w := w) (base := base) (N := N) T
  have D_law_cell_at := h_cell (P := P) (w := w) (base := base) T
  refine T.law_value.has (k := 2) sc_law_value (fun vs H Q E h => ?_) (fun f cdv A' outer s H vs Q E hr hu h => ?_)
  · obtain ⟨a, nl, ns, rfl, _⟩ := h
    rfl
  · obtain ⟨a, nl, ns, rfl, hS, hN, q⟩ := h
    refine ⟨_, (pss_cons (ps_set (i := 2) sc_law_value.nd rfl (Or.inl rfl) (pe_callD D_law_cell_at hr (pa_cons (fv 0) (pa_cons (pe_int) pa_nil))))
    (pss_cons (ps_set (i := 3) sc_law_value.nd rfl (Or.inl rfl) (pe_callD D_law_thing hr (pa_cons (pe_callD D_law_cell_at hr (pa_cons (fv 0) (pa_cons (pe_int) pa_nil))) (pa_cons (fv 1) pa_nil))))
    (pss_cons (ps_set (i := 4) sc_law_value.nd rfl (Or.inl rfl) (pe_callD D_law_thing hr (pa_cons (pe_callD D_law_cell_at hr (pa_cons (fv 0) (pa_cons (pe_int) pa_nil))) (pa_cons (fv 1) pa_nil))))
    (pss_cons (ps_if (pt_cmpR (o_eqU hu) (pe_op o_mod (fv 2) (pe_int)) (pe_int) (nomark _))
      (pss_one (ps_ret (pe_tup (pa_cons (fv 3) pa_nil))))
      pss_nil)
    (pss_cons (ps_if (pt_cmpR (o_eqU hu) (pe_op o_mod (fv 2) (pe_int)) (pe_int) (nomark _))
      (pss_one (ps_ret (pe_tup (pa_cons (pe_ix (ix_all hu) (fv 1) (pe_op o_add (pe_int) (pe_op o_mod (pe_op o_fdiv (fv 2) (pe_int)) (pe_int))) (fun _ _ => rfl)) (pa_cons (pe_str) (pa_cons (fv 4) pa_nil))))))
      pss_nil)
    (pss_one (ps_ret (pe_tup (pa_cons (fv 3) (pa_cons (pe_ix (ix_all hu) (pe_lst (pa_cons (pe_str) (pa_cons (pe_str) (pa_cons (pe_str) (pa_cons (pe_str) (pa_cons (pe_str) (pa_cons (pe_str) (pa_cons (pe_str) pa_nil)))))))) (pe_op o_mod (pe_op o_fdiv (fv 2) (pe_int)) (pe_int)) (fun _ _ => rfl)) (pa_cons (fv 4) pa_nil))))))))))), ?_⟩
    refine ⟨a, ns, 2, rfl, hS, by decide, ?_⟩
    refine ⟨a, ns, 3, rfl, hS, by decide, _, nl, rfl, hN, fun one h1 => ?_⟩
    refine ⟨a, ns, 4, rfl, hS, by decide, _, nl, rfl, hN, fun oth h2 => ?_⟩
    refine ⟨(by show (0 : Int) < 4; decide), rfl, _, rfl, ite2 (fun b => ?_) (fun b => ?_)⟩
    · exact ⟨(by show 1 ≤ sizeLine; decide), fun p hp => q (.one one) p _ h1 (Same.upd hp _) upd_same⟩
    refine ⟨(by show (0 : Int) < 4; decide), rfl, _, rfl, ite2 (fun b => ?_) (fun b => ?_)⟩
    · obtain ⟨l, e, e0, e1⟩ := two_li (cellAt ns 2 / 4)
      have ha := nms_at (N := N) e0 e1
      rw [e] at ha
      exact ⟨⟨by decide, by decide⟩, (by show (0 : Int) < 2; decide), Or.inl ⟨_, _, Or.inl (SqL.of hN), ha, (by show 3 ≤ sizeLine; decide), fun p hp => q (.atl l oth) p _ h2 (Same.upd hp _) upd_same⟩⟩
    · obtain ⟨x, hx, ha⟩ := ops_at (cellAt ns 2 / 4)
      refine ⟨(by show 7 ≤ sizeLine; decide), fun l7 hl7 => ⟨⟨by decide, by decide⟩, (by show (0 : Int) < 7; decide), Or.inl ⟨_, _, Or.inl (SqL.of upd_same), ha, (by show 3 ≤ sizeLine; decide), fun p hp => ?_⟩⟩⟩
      exact q (.op one x oth) p _ ⟨h1, h2, hx⟩ ((Same.upd hl7 _).trans (Same.upd hp _)) upd_same
def StayI (H H' : Hp) : Prop := ∀ a o, H a = some o → (∀ xs, o ≠ .lst xs) → H' a = some o
theorem StayI.at {H : Hp} {a : Addr} {xs : List V} (h : H a = some (.lst xs)) (o : HO) : StayI H (upd H a o) := fun c u hc n => by
  rw [upd_ne (fun z => by rw [z, h] at hc; exact n xs (Option.some.inj hc).symm)]
  exact hc
theorem HeadAt.stayI {H H' : Hp} (s : StayI H H') {z y : Nat} {v : V} : ∀ {j : Nat}, HeadAt A N H z y v j → HeadAt A N H' z y v j := by
  have g : ∀ {j z : Nat}, GAt A N H v j z → GAt A N H' v j z := fun ⟨a, dx, n, rk, e, h⟩ => ⟨a, dx, n, rk, e, s _ _ h (fun _ z => by cases z)⟩
  have o : ∀ {j z : Nat}, OAt A N H v j z → OAt A N H' v j z := fun ⟨a, dx, n, e, h⟩ => ⟨a, dx, n, e, s _ _ h (fun _ z => by cases z)⟩
  intro j W
  match j, W with
  | 0, W => exact g W
  | 1, W => exact g W
  | 2, W => exact o W
  | 3, W => exact o W
  | 4, W => exact g W
  | 5, W => exact o W
  | 6, ⟨a, dx, n, x, rk, e, h⟩ => exact ⟨a, dx, n, x, rk, e, s _ _ h (fun _ z => by cases z)⟩
  | _ + 7, ⟨a, dx, n, x, rk, e, h⟩ => exact ⟨a, dx, n, x, rk, e, s _ _ h (fun _ z => by cases z)⟩
def turn (t : Nat) : List Nat := (List.range 8).map fun k => (k + t) % 8
theorem turn_ord {t : Nat} (h : t < 8) : Ord (turn t) := by
  have := lt8 h
  rcases this with rfl | rfl | rfl | rfl | rfl | rfl | rfl | rfl <;> exact ⟨by decide, by decide, by decide, rfl⟩
theorem turn_at {t i : Nat} (h : i < 8) : (turn t)[i]? = some ((i + t) % 8) := by
  unfold turn
  rw [List.getElem?_map, List.getElem?_range h]
  rfl
structure Hds (A : Adr) (N : Nat → Str) (H H2 : Hp) (HL : Addr) (z y i : Nat) (js : List Nat) (xs : List V) : Prop where
  s : Same H H2
  h : H2 HL = some (.lst xs)
  w : PySem.Paired (HeadAt A N H2 z y) xs (js.take i)
  l : xs.length ≤ i
theorem Hds.same {H H2 H3 : Hp} {HL : Addr} {z y i : Nat} {js : List Nat} {xs : List V} (d : Hds A N H H2 HL z y i js xs) (s : Same H2 H3) : Hds A N H H3 HL z y i js xs := ⟨d.s.trans s, s _ _ d.h, Paired.mapP d.w fun _ _ => HeadAt.same s, d.l⟩
theorem Hds.add {H H2 : Hp} {HL : Addr} {z y i j : Nat} {js : List Nat} {xs : List V} {v : V} (d : Hds A N H H2 HL z y i js xs) (h0 : H HL = none) (hj : js[i]? = some j) (W : HeadAt A N H2 z y v j) : Hds A N H (upd H2 HL (.lst (xs ++ [v]))) HL z y (i + 1) js (xs ++ [v]) := by
  have st := StayI.at d.h (.lst (xs ++ [v]))
  refine ⟨Same.out d.s h0 _, upd_same, ?_, by rw [List.length_append]; exact Nat.succ_le_succ d.l⟩
  rw [take_snoc hj]
  exact PySem.Paired.snoc (Paired.mapP d.w fun _ _ => HeadAt.stayI st) (HeadAt.stayI st W)
def sp_heads (K : PySem.W.Frag) (A : Adr) (N : Nat → Str) : Sp := fun vs H Q _ => ∃ (a nl : Addr) (ns : List Int) (z y t : Nat), vs = [.ref a, .ref nl] ∧ SqL K H a (ns.map V.int) ∧ H nl = some (.lst (nms N)) ∧ (z : Int) = 1 + cellAt ns 5 % 20 ∧ (y : Int) = 1 + cellAt ns 6 % 20 ∧ (t : Int) = cellAt ns 7 % 8 ∧ ∀ (HL : Addr) (hv : List V) (H' : Hp), Same H H' → H HL = none → H' HL = some (.lst hv) → PySem.Paired (HeadAt A N H' z y) hv (turn t) → Q (.ref HL) H'
theorem h_heads (T : Txt K mg A) : Has P w K mg base 6 "_law_heads" ["_law_script", "_law_names"] (sp_heads K A N) := by
  have D_law_cell_at := h_cell (P := P) (w := w) (base := base) T
  have D_HandRow_init := h_HandRow_init (P := P) (w := w) (base := base) T
  have D_GivenRow_init := h_GivenRow_init (P := P) (w := w) (base := base) T
  have D_OwnRow_init := h_OwnRow_init (P := P) (w := w) (base := base) T
  have D_LetRow_init := h_LetRow_init (P := P) (w := w) (base := base) T
  refine T.law_heads.has (k := 5) sc_law_heads (fun vs H Q E h => ?_) (fun f cdv A' outer s H vs Q E hr hu h => ?_)
  · obtain ⟨a, nl, ns, z, y, t, rfl, _⟩ := h
    rfl
  · obtain ⟨a, nl, ns, z, y, t, rfl, hS, hN, hz, hy, ht, q⟩ := h
    have t8 := mod_in (cellAt ns 7) (show (0 : Int) < 8 by decide)
    have t8' : t < 8 := by omega
    refine ⟨_, (pss_cons (ps_set (i := 2) sc_law_heads.nd rfl (Or.inl rfl) (pe_op o_add (pe_int) (pe_op o_mod (pe_callD D_law_cell_at hr (pa_cons (fv 0) (pa_cons (pe_int) pa_nil))) (pe_int))))
    (pss_cons (ps_set (i := 3) sc_law_heads.nd rfl (Or.inl rfl) (pe_op o_add (pe_int) (pe_op o_mod (pe_callD D_law_cell_at hr (pa_cons (fv 0) (pa_cons (pe_int) pa_nil))) (pe_int))))
    (pss_cons (ps_set (i := 4) sc_law_heads.nd rfl (Or.inl rfl) (pe_op o_mod (pe_callD D_law_cell_at hr (pa_cons (fv 0) (pa_cons (pe_int) pa_nil))) (pe_int)))
    (pss_cons (ps_set (i := 5) sc_law_heads.nd rfl (Or.inl rfl) (pe_lst (pa_nil)))
    (pss_cons (ps_for PassesOwn.never rfl (pi_range1 rfl T.z_range (pa_cons (pe_int) pa_nil)) (pg_name (i := 6) sc_law_heads.nd rfl (by first | exact Or.inl rfl | exact Or.inr rfl))
      (pss_cons (ps_set (i := 7) sc_law_heads.nd rfl (Or.inl rfl) (pe_op o_mod (pe_op o_add (fv 6) (fv 4)) (pe_int)))
      (pss_one (ps_if (pt_cmpR (o_lt) (fv 7) (pe_int) (nomark _))
        (pss_one (ps_expr (m_append (fv 5) (pa_cons (pe_makeD T.o_GivenRow D_GivenRow_init hr (pa_cons (pe_op o_add (fv 6) (pe_int)) (pa_cons (pe_ix (ix_all hu) (fv 1) (fv 7) (fun _ _ => rfl)) (pa_cons (fv 7) (pa_cons (pe_int) pa_nil))))) pa_nil))))
        (pss_one (ps_if (pt_cmpR (o_lt) (fv 7) (pe_int) (nomark _))
          (pss_one (ps_expr (m_append (fv 5) (pa_cons (pe_makeD T.o_OwnRow D_OwnRow_init hr (pa_cons (pe_op o_add (fv 6) (pe_int)) (pa_cons (pe_ix (ix_all hu) (fv 1) (fv 7) (fun _ _ => rfl)) (pa_cons (pe_int) pa_nil)))) pa_nil))))
          (pss_one (ps_if (pt_cmpR (o_eqU hu) (fv 7) (pe_int) (nomark _))
            (pss_one (ps_expr (m_append (fv 5) (pa_cons (pe_makeD T.o_GivenRow D_GivenRow_init hr (pa_cons (pe_op o_add (fv 6) (pe_int)) (pa_cons (pe_ix (ix_all hu) (fv 1) (pe_int) (fun _ _ => rfl)) (pa_cons (pe_int) (pa_cons (fv 2) pa_nil))))) pa_nil))))
            (pss_one (ps_if (pt_cmpR (o_eqU hu) (fv 7) (pe_int) (nomark _))
              (pss_one (ps_expr (m_append (fv 5) (pa_cons (pe_makeD T.o_OwnRow D_OwnRow_init hr (pa_cons (pe_op o_add (fv 6) (pe_int)) (pa_cons (pe_ix (ix_all hu) (fv 1) (pe_int) (fun _ _ => rfl)) (pa_cons (fv 3) pa_nil)))) pa_nil))))
              (pss_one (ps_if (pt_cmpR (o_eqU hu) (fv 7) (pe_int) (nomark _))
                (pss_one (ps_expr (m_append (fv 5) (pa_cons (pe_makeD T.o_HandRow D_HandRow_init hr (pa_cons (pe_op o_add (fv 6) (pe_int)) (pa_cons (pe_ix (ix_all hu) (fv 1) (pe_int) (fun _ _ => rfl)) (pa_cons (pe_op o_mod (fv 4) (pe_int)) pa_nil)))) pa_nil))))
                (pss_one (ps_expr (m_append (fv 5) (pa_cons (pe_makeD T.o_LetRow D_LetRow_init hr (pa_cons (pe_op o_add (fv 6) (pe_int)) (pa_cons (pe_ix (ix_all hu) (fv 1) (pe_int) (fun _ _ => rfl)) (pa_cons (pe_op o_mod (fv 4) (pe_int)) pa_nil)))) pa_nil))))))))))))))))
    (pss_one (ps_ret (fv 5)))))))), ?_⟩
    refine ⟨a, ns, 5, rfl, hS, by decide, (by show (0 : Int) < 20; decide), ?_⟩
    refine ⟨a, ns, 6, rfl, hS, by decide, (by show (0 : Int) < 20; decide), ?_⟩
    refine ⟨a, ns, 7, rfl, hS, by decide, (by show (0 : Int) < 8; decide), ?_⟩
    refine ⟨Nat.zero_le _, fun HL hHL => ?_⟩
    have s1 := Same.upd hHL (HO.lst [])
    have e1 : (upd H HL (HO.lst [])) HL = some (.lst []) := upd_same
    generalize upd H HL (HO.lst []) = H1 at s1 e1 ⊢
    refine ⟨8, rfl, by decide, by decide, ?_⟩
    refine for_range (fun i σ H2 => (∃ xs, Hds A N H H2 HL z y i (turn t) xs) ∧ ∃ v6 v7, σ = [some (.ref a), some (.ref nl), some (.int (1 + cellAt ns 5 % 20)), some (.int (1 + cellAt ns 6 % 20)), some (.int (cellAt ns 7 % 8)), some (.ref HL), v6, v7]) ⟨⟨[], s1, e1, .nil, Nat.le_refl _⟩, none, none, rfl⟩ ?_ ?_
    · rintro i σ H2 hi ⟨⟨xs, d⟩, v6, v7, rfl⟩
      have hi8 : i < 8 := hi
      have hj := turn_at (t := t) hi8
      have xl : xs.length < sizeLine := small1000 (by have := d.l; omega)
      refine ⟨(by show (0 : Int) < 8; decide), ?_⟩
      have hjj : (0 + (i : Int) + cellAt ns 7 % 8) % 8 = (((i + t) % 8 : Nat) : Int) := by omega
      have j8 : (i + t) % 8 < 8 := Nat.mod_lt _ (by decide)
      dsimp only
      rw [hjj]
      generalize (i + t) % 8 = j at hj j8 ⊢
      have hN2 := SqL.of (K := K) (d.s _ _ hN)
      have ha := nms_at (N := N) (i := (j : Int)) (by omega) (by omega)
      rw [show ((j : Int)).toNat = j from rfl] at ha
      refine ⟨_, rfl, ite2 (fun b => ?_) (fun b => ?_)⟩
      · have b' : (j : Int) < 2 := of_decide_eq_true b
        refine ⟨Or.inl ⟨rfl, _, SqL.of d.h⟩, Or.inl ⟨_, _, Or.inl hN2, ha, ?_⟩⟩
        refine fun r3 dx3 hr3 hd_ hne_ => mk_GivenRow hr3 hd_ fun H3 s3 hx3 => ⟨rfl, ?_⟩
        have d3 := d.same s3
        refine ⟨_, _, _, rfl, rfl, d3.h, xl, ?_⟩
        have W : HeadAt A N H3 z y (.ref r3) j := by
          have : j = 0 ∨ j = 1 := by omega
          rcases this with rfl | rfl <;> exact ⟨r3, dx3, _, _, rfl, hx3⟩
        exact ⟨⟨_, d3.add hHL hj W⟩, _, _, rfl⟩
      have b1 : ¬ (j : Int) < 2 := fun z => b (decide_eq_true z)
      refine ⟨_, rfl, ite2 (fun b => ?_) (fun b => ?_)⟩
      · have b' : (j : Int) < 4 := of_decide_eq_true b
        refine ⟨Or.inl ⟨rfl, _, SqL.of d.h⟩, Or.inl ⟨_, _, Or.inl hN2, ha, ?_⟩⟩
        refine fun r3 dx3 hr3 hd_ hne_ => mk_OwnRow hr3 hd_ fun H3 s3 hx3 => ⟨rfl, ?_⟩
        have d3 := d.same s3
        refine ⟨_, _, _, rfl, rfl, d3.h, xl, ?_⟩
        have W : HeadAt A N H3 z y (.ref r3) j := by
          have : j = 2 ∨ j = 3 := by omega
          rcases this with rfl | rfl <;> exact ⟨r3, dx3, _, rfl, hx3⟩
        exact ⟨⟨_, d3.add hHL hj W⟩, _, _, rfl⟩
      have b2 : ¬ (j : Int) < 4 := fun z => b (decide_eq_true z)
      refine ⟨rfl, _, rfl, ite2 (fun b => ?_) (fun b => ?_)⟩
      · rw [vint, decide_eq_true_iff] at b
        have e4 : j = 4 := by omega
        subst e4
        refine ⟨Or.inl ⟨rfl, _, SqL.of d.h⟩, Or.inl ⟨_, _, Or.inl hN2, nms_at (i := 4) (by decide) (by decide), ?_⟩⟩
        refine fun r3 dx3 hr3 hd_ hne_ => mk_GivenRow hr3 hd_ fun H3 s3 hx3 => ⟨rfl, ?_⟩
        have d3 := d.same s3
        refine ⟨_, _, _, rfl, rfl, d3.h, xl, ?_⟩
        exact ⟨⟨_, d3.add hHL hj (show HeadAt A N H3 z y (.ref r3) 4 from ⟨r3, dx3, _, _, rfl, by rw [hz]; exact hx3⟩)⟩, _, _, rfl⟩
      have b3 : j ≠ 4 := fun z => b (by rw [z]; exact decide_eq_true rfl)
      refine ⟨rfl, _, rfl, ite2 (fun b => ?_) (fun b => ?_)⟩
      · rw [vint, decide_eq_true_iff] at b
        have e5 : j = 5 := by omega
        subst e5
        refine ⟨Or.inl ⟨rfl, _, SqL.of d.h⟩, Or.inl ⟨_, _, Or.inl hN2, nms_at (i := 5) (by decide) (by decide), ?_⟩⟩
        refine fun r3 dx3 hr3 hd_ hne_ => mk_OwnRow hr3 hd_ fun H3 s3 hx3 => ⟨rfl, ?_⟩
        have d3 := d.same s3
        refine ⟨_, _, _, rfl, rfl, d3.h, xl, ?_⟩
        exact ⟨⟨_, d3.add hHL hj (show HeadAt A N H3 z y (.ref r3) 5 from ⟨r3, dx3, _, rfl, by rw [hy]; exact hx3⟩)⟩, _, _, rfl⟩
      have b4 : j ≠ 5 := fun z => b (by rw [z]; exact decide_eq_true rfl)
      refine ⟨rfl, _, rfl, ite2 (fun b => ?_) (fun b => ?_)⟩
      · rw [vint, decide_eq_true_iff] at b
        have e6 : j = 6 := by omega
        subst e6
        refine ⟨Or.inl ⟨rfl, _, SqL.of d.h⟩, Or.inl ⟨_, _, Or.inl hN2, nms_at (i := 6) (by decide) (by decide), (by show (0 : Int) < 3; decide), ?_⟩⟩
        refine fun r3 dx3 hr3 hd_ hne_ => mk_HandRow hr3 hd_ fun H3 s3 hx3 => ⟨rfl, ?_⟩
        have d3 := d.same s3
        refine ⟨_, _, _, rfl, rfl, d3.h, xl, ?_⟩
        exact ⟨⟨_, d3.add hHL hj (show HeadAt A N H3 z y (.ref r3) 6 from ⟨r3, dx3, _, _, _, rfl, hx3⟩)⟩, _, _, rfl⟩
      · have b5 : j ≠ 6 := fun z => b (by rw [z]; exact decide_eq_true rfl)
        have e7 : j = 7 := by omega
        subst e7
        refine ⟨Or.inl ⟨rfl, _, SqL.of d.h⟩, Or.inl ⟨_, _, Or.inl hN2, nms_at (i := 7) (by decide) (by decide), (by show (0 : Int) < 3; decide), ?_⟩⟩
        refine fun r3 dx3 hr3 hd_ hne_ => mk_LetRow hr3 hd_ fun H3 s3 hx3 => ⟨rfl, ?_⟩
        have d3 := d.same s3
        refine ⟨_, _, _, rfl, rfl, d3.h, xl, ?_⟩
        exact ⟨⟨_, d3.add hHL hj (show HeadAt A N H3 z y (.ref r3) 7 from ⟨r3, dx3, _, _, _, rfl, hx3⟩)⟩, _, _, rfl⟩
    · rintro σ H2 ⟨⟨xs, d⟩, v6, v7, rfl⟩
      have w := d.w
      rw [show (8 : Int).toNat = (turn t).length from (turn_ord t8').len.symm, List.take_length] at w
      exact q HL xs H2 d.s hHL d.h w
end
end K22

set_option Elab.async false
set_option linter.all false
set_option maxRecDepth 100000
set_option maxHeartbeats 4000000
namespace K22
open PySem L2
section
variable {P : Program} {w : World} {K : PySem.W.Frag} {mg : Str → Option Value} {base : Heap} {A : Adr} {N : Nat → Str}
def gX (ns : List Int) : Int := numV (cellAt ns 29)
def gY (ns : List Int) : Int := numV (cellAt ns 30)
def gL (ns : List Int) (z : Nat) : List Int := (List.range z).map fun (k : Nat) => numV (cellAt ns (9 + (k : Int)))
theorem gL_succ (ns : List Int) (z : Nat) : gL ns (z + 1) = gL ns z ++ [numV (cellAt ns (9 + (z : Int)))] := by
  unfold gL
  rw [List.range_succ, List.map_append]
  rfl
def sp_gifts (K : PySem.W.Frag) (N : Nat → Str) : Sp := fun vs H Q _ => ∃ (a nl : Addr) (ns : List Int) (z : Nat), Dist N ∧ vs = [.ref a, .ref nl] ∧ SqL K H a (ns.map V.int) ∧ H nl = some (.lst (nms N)) ∧ (z : Int) = 1 + cellAt ns 5 % 20 ∧
  ∀ (g l : Addr) (H' : Hp), Same H H' → H g = none → H l = none → g ≠ l → Gifts N H' g l (gX ns) (gY ns) (gL ns z) → Q (.ref g) H'
theorem h_gifts (T : Txt K mg A) : Has P w K mg base 2 "_law_gifts" ["_law_script", "_law_names"] (sp_gifts K N) := by
  have D_law_cell_at := h_cell (P := P) (w := w) (base := base) T
  have D_law_number := h_number (P := P) (w := w) (base := base) T
  refine T.law_gifts.has (k := 1) sc_law_gifts (fun vs H Q E h => ?_) (fun f cdv A' outer s H vs Q E hr hu h => ?_)
  · obtain ⟨a, nl, ns, z, _, rfl, _⟩ := h
    rfl
  · obtain ⟨a, nl, ns, z, D, rfl, hS, hN, hz, q⟩ := h
    have z20 := mod_in (cellAt ns 5) (show (0 : Int) < 20 by decide)
    refine ⟨_, (pss_cons (ps_set (i := 2) sc_law_gifts.nd rfl (Or.inl rfl) (pe_lst (pa_nil)))
    (pss_cons (ps_for PassesOwn.never rfl (pi_range1 rfl T.z_range (pa_cons (pe_op o_add (pe_int) (pe_op o_mod (pe_callD D_law_cell_at hr (pa_cons (fv 0) (pa_cons (pe_int) pa_nil))) (pe_int))) pa_nil)) (pg_name (i := 3) sc_law_gifts.nd rfl (by first | exact Or.inl rfl | exact Or.inr rfl))
      (pss_one (ps_expr (m_append (fv 2) (pa_cons (pe_callD D_law_number hr (pa_cons (pe_callD D_law_cell_at hr (pa_cons (fv 0) (pa_cons (pe_op o_add (pe_int) (fv 3)) pa_nil))) pa_nil)) pa_nil)))))
    (pss_one (ps_ret (pe_disp (pps_cons (pe_ix (ix_all hu) (fv 1) (pe_int) (fun _ _ => rfl)) (pe_callD D_law_number hr (pa_cons (pe_callD D_law_cell_at hr (pa_cons (fv 0) (pa_cons (pe_int) pa_nil))) pa_nil)) (pps_cons (pe_ix (ix_all hu) (fv 1) (pe_int) (fun _ _ => rfl)) (pe_callD D_law_number hr (pa_cons (pe_callD D_law_cell_at hr (pa_cons (fv 0) (pa_cons (pe_int) pa_nil))) pa_nil)) (pps_cons (pe_ix (ix_all hu) (fv 1) (pe_int) (fun _ _ => rfl)) (fv 2) (pps_nil)))) rfl rfl (by intro z; cases z) (by decide)))))), ?_⟩
    refine ⟨Nat.zero_le _, fun l hl => ?_⟩
    have s1 := Same.upd hl (HO.lst [])
    have e1 : (upd H l (HO.lst [])) l = some (.lst []) := upd_same
    generalize upd H l (HO.lst []) = H1 at s1 e1 ⊢
    refine ⟨a, ns, 5, rfl, s1.seq hS, by decide, (by show (0 : Int) < 20; decide), (z : Int), by rw [hz], by omega, by omega, ?_⟩
    refine for_range (fun i σ H2 => Same H H2 ∧ H2 l = some (.lst ((gL ns i).map V.int)) ∧ ∃ v3, σ = [some (.ref a), some (.ref nl), some (.ref l), v3]) ⟨s1, e1, none, rfl⟩ ?_ ?_
    · rintro i σ H2 hi ⟨s2, e2, v3, rfl⟩
      have hi' : i < z := hi
      refine ⟨Or.inl ⟨rfl, _, SqL.of e2⟩, a, ns, 9 + (0 + (i : Int)), rfl, s2.seq hS, by omega, _, rfl, _, _, _, rfl, rfl, e2, small1000 (by unfold gL; rw [List.length_map, List.length_map, List.length_range]; omega), ?_⟩
      refine ⟨Same.out s2 hl _, ?_, _, rfl⟩
      rw [upd_same, gL_succ, List.map_append, Int.zero_add]
      rfl
    rintro σ H2 ⟨s2, e2, v3, rfl⟩
    have e2' : H2 l = some (.lst ((gL ns z).map V.int)) := e2
    refine fun g hg => ?_
    have s3 := Same.upd hg (HO.dK [])
    have e3 : (upd H2 g (HO.dK [])) g = some (.dK []) := upd_same
    have gl : g ≠ l := fun w => by rw [w, e2'] at hg; cases hg
    have g0 := Same.free s2 hg
    generalize upd H2 g (HO.dK []) = H3 at s3 e3 ⊢
    have t3 := s2.trans s3
    have hN3 := SqL.of (K := K) (t3 _ _ hN)
    refine Or.inl ⟨_, _, Or.inl hN3, nms_at (i := 0) (by decide) (by decide), a, ns, 29, rfl, t3.seq hS, by decide, _, rfl, ?_⟩
    refine Or.inl ⟨_, _, Or.inl hN3, nms_at (i := 1) (by decide) (by decide), a, ns, 30, rfl, t3.seq hS, by decide, _, rfl, ?_⟩
    refine Or.inl ⟨_, _, Or.inl hN3, nms_at (i := 4) (by decide) (by decide), ?_⟩
    refine ⟨e3, dk N [0, 1, 4] (gv l (gX ns) (gY ns)), rfl, (show 3 ≤ 15 by decide), ?_⟩
    rw [show mergeK [] (dk N [0, 1, 4] (gv l (gX ns) (gY ns))) = dk N [0, 1, 4] (gv l (gX ns) (gY ns)) from dk_merge D [0, 1, 4] [] (lt12 (by decide)) (by decide)]
    refine q g l _ (Same.out t3 g0 _) g0 hl gl ⟨upd_same, by rw [upd_ne (Ne.symm gl)]; exact s3 _ _ e2', fun u hu => ?_, ?_, num_in _, num_in _⟩
    · unfold gL at hu
      obtain ⟨j, _, rfl⟩ := List.mem_map.mp hu
      exact num_in _
    · unfold gL
      rw [List.length_map, List.length_range]
      omega
end
end K22

set_option Elab.async false
set_option linter.all false
set_option maxRecDepth 100000
set_option maxHeartbeats 4000000
namespace K22
open PySem L2
section
variable {P : Program} {w : World} {K : PySem.W.Frag} {mg : Str → Option Value} {base : Heap} {A : Adr} {N : Nat → Str}
abbrev lI : List Nat := [0, 1, 4, 2, 3, 5]
theorem lI12 : ∀ j ∈ lI, j < 12 := lt12 (by decide)
structure LawC (N : Nat → Str) (H : Hp) (c sl kl : Addr) (k : S) : Prop where
  hc : H c = some (.dK (dk N lI (cv sl kl k.num)))
  hS : H sl = some (.lst (k.some_.map V.int))
  hK : H kl = some (.lst (k.kept.map V.int))
theorem LawC.same {H H' : Hp} {c sl kl : Addr} {k : S} (L : LawC N H c sl kl k) (s : Same H H') : LawC N H' c sl kl k := ⟨s _ _ L.hc, s _ _ L.hS, s _ _ L.hK⟩
theorem LawC.get {H : Hp} {c sl kl : Addr} {k : S} (L : LawC N H c sl kl k) (D : Dist N) {i : Nat} (hi : i ∈ lI) : DGet H c (.str (N i)) (some (cv sl kl k.num i)) := by
  have := DGet.k (k := .inr (N i)) L.hc
  rw [dk_get D lI12 hi] at this
  exact this
theorem num_lmem {a : Nat} (h : a ≤ 3) : a ∈ lI := by
  have : a = 0 ∨ a = 1 ∨ a = 2 ∨ a = 3 := by omega
  rcases this with rfl | rfl | rfl | rfl <;> decide
def lad (sl kl : Addr) : Bool → Addr
  | false => sl
  | true => kl
theorem LawC.gl {H : Hp} {c sl kl : Addr} {k : S} (L : LawC N H c sl kl k) (D : Dist N) (l : Bool) : DGet H c (.str (N (li l))) (some (.ref (lad sl kl l))) := by
  cases l
  · exact L.get D (i := 4) (by decide)
  · exact L.get D (i := 5) (by decide)
theorem LawC.ls {H : Hp} {c sl kl : Addr} {k : S} (L : LawC N H c sl kl k) (l : Bool) : H (lad sl kl l) = some (.lst ((k.lst l).map V.int)) := by
  cases l
  · exact L.hS
  · exact L.hK
def sp_taken (N : Nat → Str) : Sp := fun vs H Q _ => ∃ (c sl kl : Addr) (k : S) (v : V), Dist N ∧ vs = [.ref c, v] ∧ LawC N H c sl kl k ∧ ((∃ th : Th, v = th.v N ∧ th.ok ∧ Q (.int (th.num k)) H) ∨ ∃ l, v = .str (N (li l)) ∧ Q (.ref (lad sl kl l)) H)
theorem h_taken (T : Txt K mg A) : Has P w K mg base 1 "_law_taken" ["_law_cells", "_law_thing_here"] (sp_taken N) := by
  refine T.law_taken.has (k := 0) sc_law_taken (fun vs H Q E h => ?_) (fun f cdv A' outer s H vs Q E hr hu h => ?_)
  · obtain ⟨c, sl, kl, k, v, _, rfl, _⟩ := h
    rfl
  · obtain ⟨c, sl, kl, k, v, D, rfl, L, ⟨th, rfl, ho, q⟩ | ⟨l, rfl, q⟩⟩ := h
    · refine ⟨_, (pss_cons (ps_if (pt_tru (pe_callB c_isinst rfl T.z_isinstance (by boot_by_name) (pa_cons (fv 1) (pa_cons (pe_bltn (v := .ty "str") rfl T.z_str (by boot_by_name) rfl) pa_nil))) (fun _ => rfl))
      (pss_one (ps_ret (pe_ix (ix_all hu) (fv 0) (fv 1) (fun _ _ => rfl))))
      pss_nil)
    (pss_one (ps_ret (fv 1)))), ?_⟩
      cases th with
      | i n => exact ⟨_, _, _, false, rfl, (fun z => by cases z), .int n, kit_is, false, rfl, iteF q⟩
      | x a =>
        have g := L.get D (num_lmem ho)
        rw [cv_num ho] at g
        exact ⟨_, _, _, true, rfl, (fun z => by cases z), .str _, kit_ss, true, rfl, iteT ⟨_, g, q⟩⟩
    · refine ⟨_, (pss_cons (ps_if (pt_tru (pe_callB c_isinst rfl T.z_isinstance (by boot_by_name) (pa_cons (fv 1) (pa_cons (pe_bltn (v := .ty "str") rfl T.z_str (by boot_by_name) rfl) pa_nil))) (fun _ => rfl))
      (pss_one (ps_ret (pe_ix (ix_all hu) (fv 0) (fv 1) (fun _ _ => rfl))))
      pss_nil)
    (pss_one (ps_ret (fv 1)))), ?_⟩
      exact ⟨_, _, _, true, rfl, (fun z => by cases z), .str _, kit_ss, true, rfl, iteT ⟨_, L.gl D l, q⟩⟩
theorem rkn_mul (a b : Int) : rkn a b "*" = (a * b) % 1000000000000 := by
  unfold rkn
  rw [if_neg (by decide), if_neg (by decide), if_pos (by decide)]
theorem rkn_over (a b : Int) : rkn a b "over" = if b = 0 then 0 else a / b := by
  unfold rkn
  rw [if_neg (by decide), if_neg (by decide), if_neg (by decide), if_pos (by decide)]
  rw [vint]
  by_cases e : b = 0
  · rw [if_pos (decide_eq_true e), if_pos e]
  · rw [if_neg (by simpa using e), if_neg e]
theorem rkn_rst (a b : Int) : rkn a b "rest" = if b = 0 then a else a % b := by
  unfold rkn
  rw [if_neg (by decide), if_neg (by decide), if_neg (by decide), if_neg (by decide), if_pos (by decide)]
  rw [vint]
  by_cases e : b = 0
  · rw [if_pos (decide_eq_true e), if_pos e]
  · rw [if_neg (by simpa using e), if_neg e]
theorem rkn_less (a b : Int) : rkn a b "<" = if decide (a < b) = true then 1 else 0 := by
  unfold rkn
  rw [if_neg (by decide), if_neg (by decide), if_neg (by decide), if_neg (by decide), if_neg (by decide), if_pos (by decide)]
theorem rkn_same (a b : Int) : rkn a b "=" = if decide (V.int a = V.int b) = true then 1 else 0 := by
  unfold rkn
  rw [if_neg (by decide), if_neg (by decide), if_neg (by decide), if_neg (by decide), if_neg (by decide), if_neg (by decide)]
def sp_reckoned (N : Nat → Str) : Sp := fun vs H Q _ => ∃ (c sl kl p : Addr) (k : S) (val : Val), Dist N ∧ vs = [.ref c, .ref p] ∧ LawC N H c sl kl k ∧ k.ok ∧ H p = some (.tup (vV N val)) ∧ val.ok ∧ ∀ H', Same H H' → Q (.int (val.num k)) H'
theorem h_reckoned (T : Txt K mg A) : Has P w K mg base 2 "_law_reckoned" ["_law_cells", "_law_value_here"] (sp_reckoned N) := by
  have D_law_taken := h_taken (P := P) (w := w) (base := base) (N := N) T
  refine T.law_reckoned.has (k := 1) sc_law_reckoned (fun vs H Q E h => ?_) (fun f cdv A' outer s H vs Q E hr hu h => ?_)
  · obtain ⟨c, sl, kl, p, k, val, _, rfl, _⟩ := h
    rfl
  · obtain ⟨c, sl, kl, p, k, val, D, rfl, L, ok, hp, vo, q⟩ := h
    have hT : ∀ {H2 : Hp}, Same H H2 → SqT K H2 p (vV N val) := fun s2 => SqT.of (s2 _ _ hp)
    have hT0 := hT (Same.refl _)
    refine ⟨_, (pss_cons (ps_if (pt_cmpR (o_eqU hu) (pe_callB c_lenA rfl T.z_len (by boot_by_name) (pa_cons (fv 1) pa_nil)) (pe_int) (nomark _))
      (pss_one (ps_ret (pe_callD D_law_taken hr (pa_cons (fv 0) (pa_cons (pe_ix (ix_all hu) (fv 1) (pe_int) (fun _ _ => rfl)) pa_nil)))))
      pss_nil)
    (pss_cons (ps_if (pt_cmpR (o_eqU hu) (pe_ix (ix_all hu) (fv 1) (pe_int) (fun _ _ => rfl)) (pe_str) (nomark _))
      (pss_cons (ps_set (i := 2) sc_law_reckoned.nd rfl (Or.inl rfl) (pe_ix (ix_all hu) (fv 0) (pe_ix (ix_all hu) (fv 1) (pe_int) (fun _ _ => rfl)) (fun _ _ => rfl)))
      (pss_one (ps_ret (pe_ix (ix_all hu) (fv 2) (pe_op o_mod (pe_callD D_law_taken hr (pa_cons (fv 0) (pa_cons (pe_ix (ix_all hu) (fv 1) (pe_int) (fun _ _ => rfl)) pa_nil))) (pe_callB c_lenA rfl T.z_len (by boot_by_name) (pa_cons (fv 2) pa_nil))) (fun _ _ => rfl)))))
      pss_nil)
    (pss_cons (ps_set (i := 3) sc_law_reckoned.nd rfl (Or.inl rfl) (pe_callD D_law_taken hr (pa_cons (fv 0) (pa_cons (pe_ix (ix_all hu) (fv 1) (pe_int) (fun _ _ => rfl)) pa_nil))))
    (pss_cons (ps_set (i := 4) sc_law_reckoned.nd rfl (Or.inl rfl) (pe_callD D_law_taken hr (pa_cons (fv 0) (pa_cons (pe_ix (ix_all hu) (fv 1) (pe_int) (fun _ _ => rfl)) pa_nil))))
    (pss_cons (ps_if (pt_cmpR (o_inA hu) (pe_ix (ix_all hu) (fv 1) (pe_int) (fun _ _ => rfl)) (pe_lst (pa_cons (pe_str) (pa_cons (pe_str) (pa_cons (pe_str) pa_nil)))) ((by with_unfolding_all rfl)))
      (pss_one (ps_ret (pe_op o_mod (pe_ix (ix_all hu) (pe_lst (pa_cons (pe_op o_add (fv 3) (fv 4)) (pa_cons (pe_op o_sub (fv 3) (fv 4)) (pa_cons (pe_op o_mulA (fv 3) (fv 4)) pa_nil)))) (m_indexS (pe_str) (pa_cons (pe_ix (ix_all hu) (fv 1) (pe_int) (fun _ _ => rfl)) pa_nil)) (fun _ _ => rfl)) (pe_op o_pow (pe_int) (pe_int)))))
      pss_nil)
    (pss_cons (ps_if (pt_cmpR (o_inA hu) (pe_ix (ix_all hu) (fv 1) (pe_int) (fun _ _ => rfl)) (pe_lst (pa_cons (pe_str) (pa_cons (pe_str) pa_nil))) ((by with_unfolding_all rfl)))
      (pss_one (ps_ret (pe_callTy c_intB rfl T.z_int (by boot_by_name) (pa_cons (pe_or (pe_and (pe_cmpR (o_lt) (fv 3) (fv 4) (nomark _)) (pe_one (pe_cmpR (o_eqU hu) (pe_ix (ix_all hu) (fv 1) (pe_int) (fun _ _ => rfl)) (pe_str) (nomark _)))) (pe_one (pe_and (pe_cmpR (o_eqU hu) (fv 3) (fv 4) (nomark _)) (pe_one (pe_cmpR (o_eqU hu) (pe_ix (ix_all hu) (fv 1) (pe_int) (fun _ _ => rfl)) (pe_str) (nomark _)))))) pa_nil))))
      pss_nil)
    (pss_cons (ps_if (pt_cmpR (o_eqU hu) (fv 4) (pe_int) (nomark _))
      (pss_one (ps_ret (pe_ix (ix_all hu) (pe_lst (pa_cons (pe_int) (pa_cons (fv 3) pa_nil))) (pe_callTy c_intB rfl T.z_int (by boot_by_name) (pa_cons (pe_cmpR (o_eqU hu) (pe_ix (ix_all hu) (fv 1) (pe_int) (fun _ _ => rfl)) (pe_str) (nomark _)) pa_nil)) (fun _ _ => rfl))))
      pss_nil)
    (pss_one (ps_ret (pe_ix (ix_all hu) (pe_callB c_divmod rfl T.z_divmod (by boot_by_name) (pa_cons (fv 3) (pa_cons (fv 4) pa_nil))) (pe_callTy c_intB rfl T.z_int (by boot_by_name) (pa_cons (pe_cmpR (o_eqU hu) (pe_ix (ix_all hu) (fv 1) (pe_int) (fun _ _ => rfl)) (pe_str) (nomark _)) pa_nil)) (fun _ _ => rfl))))))))))), ?_⟩
    refine Or.inl ⟨_, _, rfl, Or.inr ⟨_, hT0, rfl⟩, rfl, _, rfl, ?_⟩
    cases val with
    | one a =>
      refine ite2 (fun b => ?_) (fun b => absurd rfl b)
      exact Or.inl ⟨_, _, Or.inr hT0, rfl, c, sl, kl, k, _, D, rfl, L, Or.inl ⟨a, rfl, vo, q _ (Same.refl _)⟩⟩
    | atl l i =>
      refine ite2 (fun b => absurd b (by show ¬ decide (V.int 3 = V.int 1) = true; decide)) (fun b => ?_)
      refine Or.inl ⟨_, _, Or.inr hT0, rfl, rfl, _, rfl, ?_⟩
      refine ite2 (fun b => ?_) (fun b => absurd (show decide (V.str "at" = V.str "at") = true by decide) b)
      have hL := SqL.of (K := K) (L.ls l)
      have la := lat_at (ok.ne l).1 (i.num k)
      rw [show ((k.lst l).length : Int) = (((k.lst l).map V.int).length : Int) by rw [List.length_map]] at la
      refine Or.inl ⟨_, _, Or.inr hT0, rfl, _, L.gl D l, ?_⟩
      refine Or.inl ⟨_, _, Or.inr hT0, rfl, c, sl, kl, k, _, D, rfl, L, Or.inl ⟨i, rfl, vo, ?_⟩⟩
      refine Or.inl ⟨_, _, rfl, Or.inl ⟨_, hL, rfl⟩, (by rw [List.length_map]; have := (ok.ne l).1; omega), Or.inl ⟨_, _, Or.inl hL, la, q _ (Same.refl _)⟩⟩
    | op a x i =>
      refine ite2 (fun b => absurd b (by show ¬ decide (V.int 3 = V.int 1) = true; decide)) (fun b => ?_)
      have ia := Th.num_in ok vo.1
      have ib := Th.num_in ok vo.2.1
      have ia1 := ia.1
      have ia2 := ia.2
      have ib1 := ib.1
      have ib2 := ib.2
      refine Or.inl ⟨_, _, Or.inr hT0, rfl, rfl, _, rfl, ?_⟩
      refine ite2 (fun b => absurd (of_decide_eq_true b) (fun z => op_at vo.2.2 (V.str.inj z))) (fun b => ?_)
      refine Or.inl ⟨_, _, Or.inr hT0, rfl, c, sl, kl, k, _, D, rfl, L, Or.inl ⟨a, rfl, vo.1, ?_⟩⟩
      refine Or.inl ⟨_, _, Or.inr hT0, rfl, c, sl, kl, k, _, D, rfl, L, Or.inl ⟨i, rfl, vo.2.1, ?_⟩⟩
      refine Or.inl ⟨_, _, Or.inr hT0, rfl, (show 3 ≤ sizeLine by decide), fun l1 hl1 => ?_⟩
      have s1 := Same.upd hl1 (HO.lst [V.str "+", .str "-", .str "*"])
      have e1 : (upd H l1 (HO.lst [V.str "+", .str "-", .str "*"])) l1 = some (.lst [V.str "+", .str "-", .str "*"]) := upd_same
      generalize upd H l1 (HO.lst [V.str "+", .str "-", .str "*"]) = H1 at s1 e1 ⊢
      refine Or.inl ⟨_, Or.inl (SqL.of e1), rfl, rfl, _, rfl, ?_⟩
      have hm := vo.2.2
      simp only [List.mem_cons, List.not_mem_nil, or_false] at hm
      have big : (0 : Int) < 10 ^ (12 : Int).toNat := by decide
      rcases hm with rfl | rfl | rfl | rfl | rfl | rfl | rfl
      · refine ite2 (fun _ => ?_) (fun b => absurd (by decide +kernel) b)
        refine ⟨small_mul (by omega) (by omega), (show 3 ≤ sizeLine by decide), fun l2 hl2 => ?_⟩
        refine ⟨rfl, Or.inl ⟨_, _, Or.inr (SqT.of (Same.upd hl2 _ _ _ (s1 _ _ hp))), rfl, "+-*", "+", 0, [], rfl, rfl, by decide +kernel, Or.inl ⟨_, _, Or.inl (SqL.of upd_same), rfl, ⟨by decide, by decide, by decide⟩, big, ?_⟩⟩⟩
        show Q (.int (_ % (10 : Int) ^ (12 : Int).toNat)) _
        rw [pow12]
        rw [show Val.num k (.op a "+" i) = rkn (a.num k) (i.num k) "+" from rfl, rkn_add] at q
        exact q _ (s1.trans (Same.upd hl2 _))
      · refine ite2 (fun _ => ?_) (fun b => absurd (by decide +kernel) b)
        refine ⟨small_mul (by omega) (by omega), (show 3 ≤ sizeLine by decide), fun l2 hl2 => ?_⟩
        refine ⟨rfl, Or.inl ⟨_, _, Or.inr (SqT.of (Same.upd hl2 _ _ _ (s1 _ _ hp))), rfl, "+-*", "-", 1, [], rfl, rfl, by decide +kernel, Or.inl ⟨_, _, Or.inl (SqL.of upd_same), rfl, ⟨by decide, by decide, by decide⟩, big, ?_⟩⟩⟩
        show Q (.int (_ % (10 : Int) ^ (12 : Int).toNat)) _
        rw [pow12]
        rw [show Val.num k (.op a "-" i) = rkn (a.num k) (i.num k) "-" from rfl, rkn_sub] at q
        exact q _ (s1.trans (Same.upd hl2 _))
      · refine ite2 (fun _ => ?_) (fun b => absurd (by decide +kernel) b)
        refine ⟨small_mul (by omega) (by omega), (show 3 ≤ sizeLine by decide), fun l2 hl2 => ?_⟩
        refine ⟨rfl, Or.inl ⟨_, _, Or.inr (SqT.of (Same.upd hl2 _ _ _ (s1 _ _ hp))), rfl, "+-*", "*", 2, [], rfl, rfl, by decide +kernel, Or.inl ⟨_, _, Or.inl (SqL.of upd_same), rfl, ⟨by decide, by decide, by decide⟩, big, ?_⟩⟩⟩
        show Q (.int (_ % (10 : Int) ^ (12 : Int).toNat)) _
        rw [pow12]
        rw [show Val.num k (.op a "*" i) = rkn (a.num k) (i.num k) "*" from rfl, rkn_mul] at q
        exact q _ (s1.trans (Same.upd hl2 _))
      · refine ite2 (fun b => absurd b (by decide +kernel)) (fun _ => ?_)
        refine Or.inl ⟨_, _, Or.inr (hT s1), rfl, (show 2 ≤ sizeLine by decide), fun l2 hl2 => ?_⟩
        have s2 := s1.trans (Same.upd hl2 (HO.lst [V.str "<", .str "="]))
        have e2 : (upd H1 l2 (HO.lst [V.str "<", .str "="])) l2 = some (.lst [V.str "<", .str "="]) := upd_same
        generalize upd H1 l2 (HO.lst [V.str "<", .str "="]) = H2 at s2 e2 ⊢
        refine Or.inl ⟨_, Or.inl (SqL.of e2), rfl, rfl, _, rfl, ?_⟩
        rw [show Val.num k (.op a "over" i) = rkn (a.num k) (i.num k) "over" from rfl, rkn_over] at q
        have hT2 := hT s2
        refine ite2 (fun b => absurd b (by decide +kernel)) (fun _ => ?_)
        refine ⟨rfl, _, rfl, ite2 (fun b => ?_) (fun b => ?_)⟩
        · rw [vint, decide_eq_true_iff] at b
          refine ⟨(show 2 ≤ sizeLine by decide), fun l3 hl3 => Or.inl ⟨_, _, Or.inr (SqT.of (Same.upd hl3 _ _ _ (s2 _ _ hp))), rfl, rfl, _, rfl, Or.inl ⟨_, _, Or.inl (SqL.of upd_same), rfl, ?_⟩⟩⟩
          rw [if_pos b] at q
          exact q _ (s2.trans (Same.upd hl3 _))
        · rw [vint, decide_eq_true_iff] at b
          refine ⟨_, _, rfl, ⟨by omega, by show i.num k < 2 ^ 64; omega⟩, fun l3 hl3 => Or.inl ⟨_, _, Or.inr (SqT.of (Same.upd hl3 _ _ _ (s2 _ _ hp))), rfl, rfl, _, rfl, Or.inl ⟨_, _, Or.inr (SqT.of upd_same), rfl, ?_⟩⟩⟩
          rw [if_neg b] at q
          exact q _ (s2.trans (Same.upd hl3 _))
      · refine ite2 (fun b => absurd b (by decide +kernel)) (fun _ => ?_)
        refine Or.inl ⟨_, _, Or.inr (hT s1), rfl, (show 2 ≤ sizeLine by decide), fun l2 hl2 => ?_⟩
        have s2 := s1.trans (Same.upd hl2 (HO.lst [V.str "<", .str "="]))
        have e2 : (upd H1 l2 (HO.lst [V.str "<", .str "="])) l2 = some (.lst [V.str "<", .str "="]) := upd_same
        generalize upd H1 l2 (HO.lst [V.str "<", .str "="]) = H2 at s2 e2 ⊢
        refine Or.inl ⟨_, Or.inl (SqL.of e2), rfl, rfl, _, rfl, ?_⟩
        rw [show Val.num k (.op a "rest" i) = rkn (a.num k) (i.num k) "rest" from rfl, rkn_rst] at q
        have hT2 := hT s2
        refine ite2 (fun b => absurd b (by decide +kernel)) (fun _ => ?_)
        refine ⟨rfl, _, rfl, ite2 (fun b => ?_) (fun b => ?_)⟩
        · rw [vint, decide_eq_true_iff] at b
          refine ⟨(show 2 ≤ sizeLine by decide), fun l3 hl3 => Or.inl ⟨_, _, Or.inr (SqT.of (Same.upd hl3 _ _ _ (s2 _ _ hp))), rfl, rfl, _, rfl, Or.inl ⟨_, _, Or.inl (SqL.of upd_same), rfl, ?_⟩⟩⟩
          rw [if_pos b] at q
          exact q _ (s2.trans (Same.upd hl3 _))
        · rw [vint, decide_eq_true_iff] at b
          refine ⟨_, _, rfl, ⟨by omega, by show i.num k < 2 ^ 64; omega⟩, fun l3 hl3 => Or.inl ⟨_, _, Or.inr (SqT.of (Same.upd hl3 _ _ _ (s2 _ _ hp))), rfl, rfl, _, rfl, Or.inl ⟨_, _, Or.inr (SqT.of upd_same), rfl, ?_⟩⟩⟩
          rw [if_neg b] at q
          exact q _ (s2.trans (Same.upd hl3 _))
      · refine ite2 (fun b => absurd b (by decide +kernel)) (fun _ => ?_)
        refine Or.inl ⟨_, _, Or.inr (hT s1), rfl, (show 2 ≤ sizeLine by decide), fun l2 hl2 => ?_⟩
        have s2 := s1.trans (Same.upd hl2 (HO.lst [V.str "<", .str "="]))
        have e2 : (upd H1 l2 (HO.lst [V.str "<", .str "="])) l2 = some (.lst [V.str "<", .str "="]) := upd_same
        generalize upd H1 l2 (HO.lst [V.str "<", .str "="]) = H2 at s2 e2 ⊢
        refine Or.inl ⟨_, Or.inl (SqL.of e2), rfl, rfl, _, rfl, ?_⟩
        have q' := q _ s2
        have hT2 := hT s2
        refine ite2 (fun _ => ?_) (fun b => absurd (by decide +kernel) b)
        rw [show Val.num k (.op a "<" i) = rkn (a.num k) (i.num k) "<" from rfl, rkn_less] at q'
        refine ⟨_, rfl, ite2 (fun b => ?_) (fun b => ?_)⟩
        · rw [if_pos b] at q'
          exact Or.inl ⟨_, _, Or.inr hT2, rfl, rfl, _, rfl, iteT ⟨_, rfl, q'⟩⟩
        · rw [if_neg b] at q'
          refine ⟨_, rfl, iteF ⟨rfl, _, rfl, ite2 (fun b2 => ?_) (fun b2 => ?_)⟩⟩
          · exact Or.inl ⟨_, _, Or.inr hT2, rfl, rfl, _, rfl, q'⟩
          · exact ⟨_, rfl, q'⟩
      · refine ite2 (fun b => absurd b (by decide +kernel)) (fun _ => ?_)
        refine Or.inl ⟨_, _, Or.inr (hT s1), rfl, (show 2 ≤ sizeLine by decide), fun l2 hl2 => ?_⟩
        have s2 := s1.trans (Same.upd hl2 (HO.lst [V.str "<", .str "="]))
        have e2 : (upd H1 l2 (HO.lst [V.str "<", .str "="])) l2 = some (.lst [V.str "<", .str "="]) := upd_same
        generalize upd H1 l2 (HO.lst [V.str "<", .str "="]) = H2 at s2 e2 ⊢
        refine Or.inl ⟨_, Or.inl (SqL.of e2), rfl, rfl, _, rfl, ?_⟩
        have q' := q _ s2
        have hT2 := hT s2
        refine ite2 (fun _ => ?_) (fun b => absurd (by decide +kernel) b)
        rw [show Val.num k (.op a "=" i) = rkn (a.num k) (i.num k) "=" from rfl, rkn_same] at q'
        refine ⟨_, rfl, ite2 (fun b => ?_) (fun b => ?_)⟩
        · refine Or.inl ⟨_, _, Or.inr hT2, rfl, rfl, _, rfl, iteF ?_⟩
          refine ⟨rfl, _, rfl, ite2 (fun b2 => ?_) (fun b2 => ?_)⟩
          · rw [if_pos b2] at q'
            exact Or.inl ⟨_, _, Or.inr hT2, rfl, rfl, _, rfl, q'⟩
          · rw [if_neg b2] at q'
            exact ⟨_, rfl, q'⟩
        · refine ⟨_, rfl, iteF ⟨rfl, _, rfl, ite2 (fun b2 => ?_) (fun b2 => ?_)⟩⟩
          · rw [if_pos b2] at q'
            exact Or.inl ⟨_, _, Or.inr hT2, rfl, rfl, _, rfl, q'⟩
          · rw [if_neg b2] at q'
            exact ⟨_, rfl, q'⟩
end
end K22

set_option Elab.async false
set_option linter.all false
set_option maxRecDepth 100000
set_option maxHeartbeats 4000000
namespace K22
open PySem L2
section
variable {P : Program} {w : World} {K : PySem.W.Frag} {mg : Str → Option Value} {base : Heap} {A : Adr} {N : Nat → Str}
theorem kit_si : PySem.W.kitOne K (.type "str") (.type "int") = some false := by kernel_rfl!
theorem kit_ti : PySem.W.kitOne K (.type "tuple") (.type "int") = some false := by kernel_rfl!
theorem kit_li : PySem.W.kitOne K (.type "list") (.type "int") = some false := by kernel_rfl!
theorem kit_ts : PySem.W.kitOne K (.type "tuple") (.type "str") = some false := by kernel_rfl!
theorem kit_ls : PySem.W.kitOne K (.type "list") (.type "str") = some false := by kernel_rfl!
theorem kit_tl : PySem.W.kitOne K (.type "tuple") (.type "list") = some false := by kernel_rfl!
theorem kit_lt : PySem.W.kitOne K (.type "list") (.type "tuple") = some false := by kernel_rfl!
def flat : V → Prop
  | .non => True
  | .int _ => True
  | .str _ => True
  | _ => False
def SameV (H : Hp) : Nat → V → V → Prop
  | 0, v, u => v = u ∧ flat v
  | d + 1, v, u => (v = u ∧ flat v) ∨ ∃ p q xs ys, v = .ref p ∧ u = .ref q ∧ ((H p = some (.tup xs) ∧ H q = some (.tup ys)) ∨ (H p = some (.lst xs) ∧ H q = some (.lst ys))) ∧ xs.length ≤ 1000 ∧ PySem.Paired (SameV H d) xs ys
def sp_same (d : Nat) : Sp := fun vs H Q _ => ∃ v u, vs = [v, u] ∧ SameV H d v u ∧ Q (.bl true) H
def sp_sameN : Nat → Sp
  | 0 => fun _ _ _ _ => False
  | d + 1 => sp_same d
theorem h_same (T : Txt K mg A) : ∀ n, Has P w K mg base (n + 1) "_law_same" ["_law_found", "_law_due_here"] (sp_sameN n)
  | 0 => T.law_same.has (k := 0) sc_law_same (fun _ _ _ _ h => h.elim) (fun _ _ _ _ _ _ _ _ _ _ _ h => h.elim)
  | d + 1 => by
    have D_law_same := h_same T d
    refine T.law_same.has (k := d + 1) sc_law_same (fun vs H Q E h => ?_) (fun f cdv A' outer s' H vs Q E hr hu h => ?_)
    · obtain ⟨v, u, rfl, _⟩ := h
      rfl
    · obtain ⟨v, u, rfl, S, q⟩ := h
      have S' : (v = u ∧ flat v) ∨ ∃ e p r xs ys, d = e + 1 ∧ v = .ref p ∧ u = .ref r ∧ ((H p = some (.tup xs) ∧ H r = some (.tup ys)) ∨ (H p = some (.lst xs) ∧ H r = some (.lst ys))) ∧ xs.length ≤ 1000 ∧ PySem.Paired (SameV H e) xs ys := by
        cases d with
        | zero => exact Or.inl S
        | succ d =>
          rcases S with S | ⟨p, r, xs, ys, S⟩
          · exact Or.inl S
          · exact Or.inr ⟨d, p, r, xs, ys, rfl, S⟩
      refine ⟨_, (pss_cons (ps_if (pt_cmpR (o_is) (fv 1) (pe_non) (nomark _))
      (pss_one (ps_ret (pe_cmpR (o_is) (fv 0) (pe_non) (nomark _))))
      pss_nil)
    (pss_cons (ps_if (pt_tru (pe_callB c_isinst rfl T.z_isinstance (by boot_by_name) (pa_cons (fv 1) (pa_cons (pe_bltn (v := .ty "int") rfl T.z_int (by boot_by_name) rfl) pa_nil))) (fun _ => rfl))
      (pss_one (ps_ret (pe_and (pe_callB c_isinst rfl T.z_isinstance (by boot_by_name) (pa_cons (fv 0) (pa_cons (pe_bltn (v := .ty "int") rfl T.z_int (by boot_by_name) rfl) pa_nil))) (pe_and (pe_notV (pe_callB c_isinst rfl T.z_isinstance (by boot_by_name) (pa_cons (fv 0) (pa_cons (pe_bltn (v := .ty "bool") rfl T.z_bool (by boot_by_name) rfl) pa_nil)))) (pe_one (pe_cmpR (o_eqU hu) (fv 0) (fv 1) (nomark _)))))))
      pss_nil)
    (pss_cons (ps_if (pt_tru (pe_callB c_isinst rfl T.z_isinstance (by boot_by_name) (pa_cons (fv 1) (pa_cons (pe_bltn (v := .ty "str") rfl T.z_str (by boot_by_name) rfl) pa_nil))) (fun _ => rfl))
      (pss_one (ps_ret (pe_and (pe_callB c_isinst rfl T.z_isinstance (by boot_by_name) (pa_cons (fv 0) (pa_cons (pe_bltn (v := .ty "str") rfl T.z_str (by boot_by_name) rfl) pa_nil))) (pe_one (pe_cmpR (o_eqU hu) (fv 0) (fv 1) (nomark _))))))
      pss_nil)
    (pss_cons (ps_if (PW.pt (pw_or (pt_cmpR (o_ne hu) (pe_callB c_isinst rfl T.z_isinstance (by boot_by_name) (pa_cons (fv 1) (pa_cons (pe_bltn (v := .ty "list") rfl T.z_list (by boot_by_name) rfl) pa_nil))) (pe_callB c_isinst rfl T.z_isinstance (by boot_by_name) (pa_cons (fv 0) (pa_cons (pe_bltn (v := .ty "list") rfl T.z_list (by boot_by_name) rfl) pa_nil))) (nomark _)) (pw_or1 (pt_cmpR (o_ne hu) (pe_callB c_isinst rfl T.z_isinstance (by boot_by_name) (pa_cons (fv 1) (pa_cons (pe_bltn (v := .ty "tuple") rfl T.z_tuple (by boot_by_name) rfl) pa_nil))) (pe_callB c_isinst rfl T.z_isinstance (by boot_by_name) (pa_cons (fv 0) (pa_cons (pe_bltn (v := .ty "tuple") rfl T.z_tuple (by boot_by_name) rfl) pa_nil))) (nomark _)))))
      (pss_one (ps_ret (pe_bl)))
      pss_nil)
    (pss_cons (ps_if (pt_cmpR (o_ne hu) (pe_callB c_lenA rfl T.z_len (by boot_by_name) (pa_cons (fv 0) pa_nil)) (pe_callB c_lenA rfl T.z_len (by boot_by_name) (pa_cons (fv 1) pa_nil)) (nomark _))
      (pss_one (ps_ret (pe_bl)))
      pss_nil)
    (pss_cons (ps_for PassesOwn.never rfl (pi_range1 rfl T.z_range (pa_cons (pe_callB c_lenA rfl T.z_len (by boot_by_name) (pa_cons (fv 1) pa_nil)) pa_nil)) (pg_name (i := 2) sc_law_same.nd rfl (by first | exact Or.inl rfl | exact Or.inr rfl))
      (pss_one (ps_if (pt_not (pt_tru (pe_callD (hj := by omega) D_law_same hr (pa_cons (pe_ix (ix_all hu) (fv 0) (fv 2) (fun _ _ => rfl)) (pa_cons (pe_ix (ix_all hu) (fv 1) (fv 2) (fun _ _ => rfl)) pa_nil))) (fun _ => rfl)))
        (pss_one (ps_ret (pe_bl)))
        pss_nil)))
    (pss_one (ps_ret (pe_bl))))))))), ?_⟩
      rcases S' with ⟨rfl, fl⟩ | ⟨e, p, r, xs, ys, rfl, rfl, rfl, hpq, hl, pr⟩
      · cases v with
        | non => exact ⟨rfl, _, rfl, ite2 (fun _ => ⟨rfl, q⟩) (fun c => absurd rfl c)⟩
        | int i =>
          refine ⟨rfl, _, rfl, ite2 (fun c => absurd (of_decide_eq_true c) (by intro z; cases z)) (fun _ => ?_)⟩
          refine ⟨_, _, _, true, rfl, (fun z => by cases z), .int i, kit_ii, true, rfl, iteT ?_⟩
          refine ⟨_, _, _, true, rfl, (fun z => by cases z), .int i, kit_ii, _, rfl, iteT ?_⟩
          refine ⟨_, _, _, false, rfl, (fun z => by cases z), .int i, kit_ib, false, rfl, _, rfl, iteT ⟨rfl, ?_⟩⟩
          rw [decide_eq_true rfl]
          exact q
        | str y =>
          refine ⟨rfl, _, rfl, ite2 (fun c => absurd (of_decide_eq_true c) (by intro z; cases z)) (fun _ => ?_)⟩
          refine ⟨_, _, _, false, rfl, (fun z => by cases z), .str y, kit_si, false, rfl, iteF ?_⟩
          refine ⟨_, _, _, true, rfl, (fun z => by cases z), .str y, kit_ss, true, rfl, iteT ?_⟩
          refine ⟨_, _, _, true, rfl, (fun z => by cases z), .str y, kit_ss, _, rfl, iteT ⟨rfl, ?_⟩⟩
          rw [decide_eq_true rfl]
          exact q
        | _ => exact fl.elim
      · rcases hpq with ⟨hp, hr'⟩ | ⟨hp, hr'⟩
        ·
          have n1 : ¬ decide (V.ref r = V.non) = true := fun c => absurd (of_decide_eq_true c) (by intro z; cases z)
          have le : xs.length = ys.length := Paired.length pr
          refine ⟨rfl, _, rfl, ite2 (fun c => absurd c n1) (fun _ => ?_)⟩
          refine ⟨_, _, _, false, rfl, (fun z => by cases z), .tup hr', kit_ti, false, rfl, iteF ?_⟩
          refine ⟨_, _, _, false, rfl, (fun z => by cases z), .tup hr', kit_ts, false, rfl, iteF ?_⟩
          refine ⟨_, _, _, false, rfl, (fun z => by cases z), .tup hr', kit_tl, _, _, _, false, rfl, (fun z => by cases z), .tup hp, kit_tl, rfl, _, rfl, ite2 (fun c => absurd c (by decide)) (fun _ => ?_)⟩
          refine ⟨_, _, _, true, rfl, (fun z => by cases z), .tup hr', kit_tt, _, _, _, true, rfl, (fun z => by cases z), .tup hp, kit_tt, rfl, _, rfl, ite2 (fun c => absurd c (by decide)) (fun _ => ?_)⟩
          refine Or.inl ⟨_, _, rfl, Or.inr ⟨_, SqT.of hp, rfl⟩, Or.inl ⟨_, _, rfl, Or.inr ⟨_, SqT.of hr', rfl⟩, rfl, _, rfl, ite2 (fun c => absurd c ?_) (fun _ => ?_)⟩⟩
          · rw [vint, le]
            simp
          refine Or.inl ⟨_, _, rfl, Or.inr ⟨_, SqT.of hr', rfl⟩, (ys.length : Int), rfl, by omega, by omega, ?_⟩
          refine for_range (fun i σ H2 => H2 = H ∧ ∃ z, σ = [some (.ref p), some (.ref r), z]) ⟨rfl, none, rfl⟩ ?_ ?_
          · rintro i σ H2 hi ⟨rfl, z, rfl⟩
            have hi' : i < ys.length := by omega
            have e1 := List.getElem?_eq_getElem (l := xs) (i := i) (by omega)
            obtain ⟨u, e2, su⟩ := paired_get pr e1
            have a1 : atI xs (0 + (i : Int)) = some xs[i] := by rw [Int.zero_add]; exact atI_nat e1
            have a2 : atI ys (0 + (i : Int)) = some u := by rw [Int.zero_add]; exact atI_nat e2
            exact Or.inl ⟨_, _, Or.inr (SqT.of hp), a1, Or.inl ⟨_, _, Or.inr (SqT.of hr'), a2, _, _, rfl, su, true, rfl, iteF ⟨rfl, _, rfl⟩⟩⟩
          · rintro σ H2 ⟨rfl, z, rfl⟩
            exact q
        ·
          have n1 : ¬ decide (V.ref r = V.non) = true := fun c => absurd (of_decide_eq_true c) (by intro z; cases z)
          have le : xs.length = ys.length := Paired.length pr
          refine ⟨rfl, _, rfl, ite2 (fun c => absurd c n1) (fun _ => ?_)⟩
          refine ⟨_, _, _, false, rfl, (fun z => by cases z), .lst hr', kit_li, false, rfl, iteF ?_⟩
          refine ⟨_, _, _, false, rfl, (fun z => by cases z), .lst hr', kit_ls, false, rfl, iteF ?_⟩
          refine ⟨_, _, _, true, rfl, (fun z => by cases z), .lst hr', kit_ll, _, _, _, true, rfl, (fun z => by cases z), .lst hp, kit_ll, rfl, _, rfl, ite2 (fun c => absurd c (by decide)) (fun _ => ?_)⟩
          refine ⟨_, _, _, false, rfl, (fun z => by cases z), .lst hr', kit_lt, _, _, _, false, rfl, (fun z => by cases z), .lst hp, kit_lt, rfl, _, rfl, ite2 (fun c => absurd c (by decide)) (fun _ => ?_)⟩
          refine Or.inl ⟨_, _, rfl, Or.inl ⟨_, SqL.of hp, rfl⟩, Or.inl ⟨_, _, rfl, Or.inl ⟨_, SqL.of hr', rfl⟩, rfl, _, rfl, ite2 (fun c => absurd c ?_) (fun _ => ?_)⟩⟩
          · rw [vint, le]
            simp
          refine Or.inl ⟨_, _, rfl, Or.inl ⟨_, SqL.of hr', rfl⟩, (ys.length : Int), rfl, by omega, by omega, ?_⟩
          refine for_range (fun i σ H2 => H2 = H ∧ ∃ z, σ = [some (.ref p), some (.ref r), z]) ⟨rfl, none, rfl⟩ ?_ ?_
          · rintro i σ H2 hi ⟨rfl, z, rfl⟩
            have hi' : i < ys.length := by omega
            have e1 := List.getElem?_eq_getElem (l := xs) (i := i) (by omega)
            obtain ⟨u, e2, su⟩ := paired_get pr e1
            have a1 : atI xs (0 + (i : Int)) = some xs[i] := by rw [Int.zero_add]; exact atI_nat e1
            have a2 : atI ys (0 + (i : Int)) = some u := by rw [Int.zero_add]; exact atI_nat e2
            exact Or.inl ⟨_, _, Or.inl (SqL.of hp), a1, Or.inl ⟨_, _, Or.inl (SqL.of hr'), a2, _, _, rfl, su, true, rfl, iteF ⟨rfl, _, rfl⟩⟩⟩
          · rintro σ H2 ⟨rfl, z, rfl⟩
            exact q
end
end K22

set_option Elab.async false
set_option linter.all false
set_option maxRecDepth 100000
set_option maxHeartbeats 4000000
namespace K22
open PySem L2
section
variable {P : Program} {w : World} {K : PySem.W.Frag} {mg : Str → Option Value} {base : Heap} {A : Adr} {N : Nat → Str}
def FlatL (ws : List (List V)) : Prop := ∀ w ∈ ws, w.length ≤ 1000 ∧ ∀ v ∈ w, flat v
theorem FlatL.add {ws : List (List V)} (h : FlatL ws) {w : List V} (hw : w.length ≤ 1000 ∧ ∀ v ∈ w, flat v) : FlatL (ws ++ [w]) := fun u hu => by
  rcases List.mem_append.mp hu with hu | hu
  · exact h u hu
  · rw [List.mem_singleton] at hu
    rw [hu]
    exact hw
structure S.fl (k : S) : Prop where
  t : FlatL k.trace
  l : FlatL k.letters
  d : FlatL k.said
  n : k.steps = (k.trace.length : Int)
theorem flat3 {a b c : V} (h1 : flat a) (h2 : flat b) (h3 : flat c) : [a, b, c].length ≤ 1000 ∧ ∀ v ∈ [a, b, c], flat v := ⟨(show 3 ≤ 1000 by decide), fun u hu => by
  simp only [List.mem_cons, List.not_mem_nil, or_false] at hu
  rcases hu with rfl | rfl | rfl
  · exact h1
  · exact h2
  · exact h3⟩
theorem flat4 {a b c d : V} (h1 : flat a) (h2 : flat b) (h3 : flat c) (h4 : flat d) : [a, b, c, d].length ≤ 1000 ∧ ∀ v ∈ [a, b, c, d], flat v := ⟨(show 4 ≤ 1000 by decide), fun u hu => by
  simp only [List.mem_cons, List.not_mem_nil, or_false] at hu
  rcases hu with rfl | rfl | rfl | rfl
  · exact h1
  · exact h2
  · exact h3
  · exact h4⟩
theorem S.fl.leaf {k : S} (h : k.fl) (r : Rw) : (leaf k r).fl := by
  have n1 : k.steps + 1 = ((k.trace.length + 1 : Nat) : Int) := by rw [h.n]; push_cast; rfl
  cases r with
  | set n x v => exact ⟨h.t.add (flat3 trivial trivial trivial), h.l, h.d, by show k.steps + 1 = _; rw [n1]; simp [K22.leaf, S.put, S.tell]⟩
  | put n a v => exact ⟨h.t.add (flat3 trivial trivial trivial), h.l, h.d, by show k.steps + 1 = _; rw [n1]; simp [K22.leaf, S.keep, S.tell]⟩
  | snd n y v => exact ⟨h.t.add (flat3 trivial trivial trivial), h.l.add (flat4 trivial trivial trivial trivial), h.d, by show k.steps + 1 = _; rw [n1]; simp [K22.leaf, S.send, S.tell]⟩
  | say n x v m => exact ⟨h.t.add (flat3 trivial trivial trivial), h.l, h.d.add (flat4 trivial trivial trivial trivial), by show k.steps + 1 = _; rw [n1]; simp [K22.leaf, S.say, S.put, S.tell]⟩
theorem same_flat {H : Hp} : ∀ {ws : List V}, (∀ v ∈ ws, flat v) → PySem.Paired (SameV H 0) ws ws
  | [], _ => .nil
  | v :: r, h => .cons ⟨rfl, h v List.mem_cons_self⟩ (same_flat fun u hu => h u (List.mem_cons_of_mem _ hu))
theorem same_tups {H : Hp} : ∀ {xs ys : List V} {ws : List (List V)}, Tups H xs ws → Tups H ys ws → (∀ w ∈ ws, w.length ≤ 1000 ∧ ∀ v ∈ w, flat v) → PySem.Paired (SameV H 1) xs ys
  | _, _, _, .nil, .nil, _ => .nil
  | _, _, _, .cons ⟨p, e, hp⟩ t, .cons ⟨q, e', hq⟩ t', h =>
    .cons (Or.inr ⟨p, q, _, _, e, e', Or.inl ⟨hp, hq⟩, (h _ List.mem_cons_self).1, same_flat (h _ List.mem_cons_self).2⟩) (same_tups t t' fun w hw => h w (List.mem_cons_of_mem _ hw))
theorem same_list {H : Hp} {p q : Addr} {xs ys : List V} {ws : List (List V)} (hp : H p = some (.lst xs)) (hq : H q = some (.lst ys)) (t : Tups H xs ws) (t' : Tups H ys ws) (h : ∀ w ∈ ws, w.length ≤ 1000 ∧ ∀ v ∈ w, flat v) (hl : ws.length ≤ 1000) : SameV H 2 (.ref p) (.ref q) :=
  Or.inr ⟨p, q, xs, ys, rfl, rfl, Or.inr ⟨hp, hq⟩, by rw [t.len]; exact hl, same_tups t t' h⟩
theorem same_ints {H : Hp} {d : Nat} : ∀ ks : List Int, PySem.Paired (SameV H (d + 1)) (ks.map V.int) (ks.map V.int)
  | [] => .nil
  | n :: r => .cons (Or.inl ⟨rfl, trivial⟩) (same_ints r)
structure DueAt (N : Nat → Str) (H : Hp) (d le sa tr en kl : Addr) (k : S) : Prop where
  d : H d = some (.tup [.ref le, .ref sa, .ref tr, .int k.steps, .ref en])
  l : ∃ xs, H le = some (.lst xs) ∧ Tups H xs k.letters
  s : ∃ xs, H sa = some (.lst xs) ∧ Tups H xs k.said
  t : ∃ xs, H tr = some (.lst xs) ∧ Tups H xs k.trace
  e : H en = some (.dK (dk N [2, 3, 5] (cv 0 kl k.num)))
  k : H kl = some (.lst (k.kept.map V.int))
theorem DueAt.same {H H' : Hp} {d le sa tr en kl : Addr} {k : S} (R : DueAt N H d le sa tr en kl k) (s : Same H H') : DueAt N H' d le sa tr en kl k := by
  obtain ⟨h1, ⟨xs, h2, h3⟩, ⟨ys, h4, h5⟩, ⟨zs, h6, h7⟩, h8, h9⟩ := R
  exact ⟨s _ _ h1, ⟨xs, s _ _ h2, h3.stay (Same.stay s)⟩, ⟨ys, s _ _ h4, h5.stay (Same.stay s)⟩, ⟨zs, s _ _ h6, h7.stay (Same.stay s)⟩, s _ _ h8, s _ _ h9⟩
theorem nms_k {i : Nat} (h : i < 8) : atI (nms N) (i : Int) = some (.str (N i)) := nms_at (i := (i : Int)) (by omega) (by omega)
def rowOf (N : Nat → Str) (kd : Int) (th : Th) (val : Val) : Rw := if kd = 0 then .set 10 2 val else if kd = 1 then .put 10 th val else if kd = 2 then .snd 10 (N 6) val else .say 10 2 val (N 7)
def sp_due (N : Nat → Str) : Sp := fun vs H Q _ => ∃ (kd : Int) (c nl sl kl p : Addr) (x y : Int) (rs : List Int) (m : Nat) (th : Th) (val : Val), Dist N ∧ vs = [.int kd, .ref c, .ref nl, .int 10, th.v N, .ref p] ∧ (0 ≤ kd ∧ kd < 4) ∧ LawC N H c sl kl (S.new x y rs m) ∧ (S.new x y rs m).ok ∧ H nl = some (.lst (nms N)) ∧ th.ok ∧ val.ok ∧ H p = some (.tup (vV N val)) ∧
  ∀ d le sa tr en kk H', Same H H' → DueAt N H' d le sa tr en kk (leaf (S.new x y rs m) (rowOf N kd th val)) → Q (.ref d) H'
theorem set_at' {xs : List Int} (h : 0 < xs.length) (i : Int) : ixN (xs.map V.int).length (i % (((xs.map V.int).length : Nat) : Int)) = some (i % (xs.length : Int)).toNat := by
  have e := set_at h i
  rw [List.length_map] at e ⊢
  exact e
theorem h_due (T : Txt K mg A) : Has P w K mg base 3 "_law_due" ["_law_kind", "_law_cells", "_law_names", "_law_at", "_law_place", "_law_value_here"] (sp_due N) := by
  have D_law_reckoned := h_reckoned (P := P) (w := w) (base := base) (N := N) T
  have D_law_taken := h_taken (P := P) (w := w) (base := base) (N := N) T
  refine T.law_due.has (k := 2) sc_law_due (fun vs H Q E h => ?_) (fun f cdv A' outer s H vs Q E hr hu h => ?_)
  · obtain ⟨kd, c, nl, sl, kl, p, x, y, rs, m, th, val, _, rfl, _⟩ := h
    rfl
  · obtain ⟨kd, c, nl, sl, kl, p, x, y, rs, m, th, val, Di, rfl, hkd, L, ok, hN, tk, vo, hp, q⟩ := h
    obtain ⟨v, hv⟩ : ∃ v, v = val.num (S.new x y rs m) := ⟨_, rfl⟩
    refine ⟨_, (pss_cons (ps_set (i := 6) sc_law_due.nd rfl (Or.inl rfl) (pe_callD D_law_reckoned hr (pa_cons (fv 1) (pa_cons (fv 5) pa_nil))))
    (pss_cons (ps_set (i := 7) sc_law_due.nd rfl (Or.inl rfl) (pe_disp (pps_cons (pe_ix (ix_all hu) (fv 2) (pe_int) (fun _ _ => rfl)) (pe_int) (pps_cons (pe_ix (ix_all hu) (fv 2) (pe_int) (fun _ _ => rfl)) (pe_int) (pps_cons (pe_ix (ix_all hu) (fv 2) (pe_int) (fun _ _ => rfl)) (pe_callTy c_listA rfl T.z_list (by boot_by_name) (pa_cons (pe_ix (ix_all hu) (fv 1) (pe_ix (ix_all hu) (fv 2) (pe_int) (fun _ _ => rfl)) (fun _ _ => rfl)) pa_nil)) (pps_nil)))) rfl rfl (by intro z; cases z) (by decide)))
    (pss_cons (ps_if (pt_cmpR (o_eqU hu) (fv 0) (pe_int) (nomark _))
      (pss_one (ps_asg (fv 6) (pg_sub (fv 7) (pe_ix (ix_all hu) (fv 2) (pe_int) (fun _ _ => rfl)) (st_all hu set_list))))
      pss_nil)
    (pss_cons (ps_if (pt_cmpR (o_eqU hu) (fv 0) (pe_int) (nomark _))
      (pss_one (ps_asg (fv 6) (pg_sub (pe_ix (ix_all hu) (fv 7) (pe_ix (ix_all hu) (fv 2) (pe_int) (fun _ _ => rfl)) (fun _ _ => rfl)) (pe_op o_mod (pe_callD D_law_taken hr (pa_cons (fv 1) (pa_cons (fv 4) pa_nil))) (pe_callB c_lenA rfl T.z_len (by boot_by_name) (pa_cons (pe_ix (ix_all hu) (fv 7) (pe_ix (ix_all hu) (fv 2) (pe_int) (fun _ _ => rfl)) (fun _ _ => rfl)) pa_nil))) (st_all hu set_list))))
      pss_nil)
    (pss_cons (ps_if (pt_cmpR (o_eqU hu) (fv 0) (pe_int) (nomark _))
      (pss_one (ps_ret (pe_tup (pa_cons (pe_lst (pa_cons (pe_tup (pa_cons (pe_int) (pa_cons (fv 3) (pa_cons (pe_ix (ix_all hu) (fv 2) (pe_int) (fun _ _ => rfl)) (pa_cons (fv 6) pa_nil))))) pa_nil)) (pa_cons (pe_lst (pa_nil)) (pa_cons (pe_lst (pa_cons (pe_tup (pa_cons (fv 3) (pa_cons (pe_int) (pa_cons (fv 6) pa_nil)))) pa_nil)) (pa_cons (pe_int) (pa_cons (fv 7) pa_nil))))))))
      pss_nil)
    (pss_cons (ps_if (pt_cmpR (o_eqU hu) (fv 0) (pe_int) (nomark _))
      (pss_cons (ps_asg (fv 6) (pg_sub (fv 7) (pe_ix (ix_all hu) (fv 2) (pe_int) (fun _ _ => rfl)) (st_all hu set_list)))
      (pss_one (ps_ret (pe_tup (pa_cons (pe_lst (pa_nil)) (pa_cons (pe_lst (pa_cons (pe_tup (pa_cons (pe_int) (pa_cons (fv 3) (pa_cons (pe_ix (ix_all hu) (fv 2) (pe_int) (fun _ _ => rfl)) (pa_cons (fv 6) pa_nil))))) pa_nil)) (pa_cons (pe_lst (pa_cons (pe_tup (pa_cons (fv 3) (pa_cons (pe_int) (pa_cons (fv 6) pa_nil)))) pa_nil)) (pa_cons (pe_int) (pa_cons (fv 7) pa_nil)))))))))
      pss_nil)
    (pss_one (ps_ret (pe_tup (pa_cons (pe_lst (pa_nil)) (pa_cons (pe_lst (pa_nil)) (pa_cons (pe_lst (pa_cons (pe_tup (pa_cons (fv 3) (pa_cons (pe_int) (pa_cons (pe_non) pa_nil)))) pa_nil)) (pa_cons (pe_int) (pa_cons (fv 7) pa_nil)))))))))))))), ?_⟩
    refine seq_cut fun M1 K1 => ?_
    refine ⟨c, sl, kl, p, _, val, Di, rfl, L, ok, hp, vo, fun H1 s1 => ?_⟩
    rw [← hv]
    refine K1 _ _ ?_
    refine seq_cut fun M2 K2 => ?_
    refine fun en hen => ?_
    have s2 := Same.upd hen (HO.dK [])
    have e2 : (upd H1 en (HO.dK [])) en = some (.dK []) := upd_same
    have en0 := Same.free s1 hen
    generalize upd H1 en (HO.dK []) = H2 at s2 e2 ⊢
    have t2 := s1.trans s2
    have hN2 := SqL.of (K := K) (t2 _ _ hN)
    refine Or.inl ⟨_, _, Or.inl hN2, nms_at (i := 2) (by decide) (by decide), ?_⟩
    refine Or.inl ⟨_, _, Or.inl hN2, nms_at (i := 3) (by decide) (by decide), ?_⟩
    refine Or.inl ⟨_, _, Or.inl hN2, nms_at (i := 5) (by decide) (by decide), ?_⟩
    have L2 := L.same t2
    refine Or.inl ⟨_, _, Or.inl hN2, nms_at (i := 5) (by decide) (by decide), _, L2.gl Di true, Or.inl ⟨kl, _, rfl, Or.inl (SqL.of L2.hK), fun kk hkk => ?_⟩⟩
    have s3 := Same.upd hkk (HO.lst ((S.new x y rs m).kept.map V.int))
    have e3 : (upd H2 kk (HO.lst ((S.new x y rs m).kept.map V.int))) kk = some (.lst ((S.new x y rs m).kept.map V.int)) := upd_same
    have ke : kk ≠ en := fun w => by rw [w, e2] at hkk; cases hkk
    have kk0 := Same.free t2 hkk
    generalize upd H2 kk (HO.lst ((S.new x y rs m).kept.map V.int)) = H3 at s3 e3 ⊢
    refine ⟨s3 _ _ e2, dk N [2, 3, 5] (cv 0 kk (S.new x y rs m).num), rfl, (show 3 ≤ 15 by decide), ?_⟩
    rw [show mergeK [] (dk N [2, 3, 5] (cv 0 kk (S.new x y rs m).num)) = dk N [2, 3, 5] (cv 0 kk (S.new x y rs m).num) from dk_merge Di [2, 3, 5] [] (lt12 (by decide)) (by decide)]
    have s4 : Same H (upd H3 en (HO.dK (dk N [2, 3, 5] (cv 0 kk (S.new x y rs m).num)))) := Same.out (t2.trans s3) en0 _
    have e4 : (upd H3 en (HO.dK (dk N [2, 3, 5] (cv 0 kk (S.new x y rs m).num)))) en = some (.dK (dk N [2, 3, 5] (cv 0 kk (S.new x y rs m).num))) := upd_same
    have k4 : (upd H3 en (HO.dK (dk N [2, 3, 5] (cv 0 kk (S.new x y rs m).num)))) kk = some (.lst ((S.new x y rs m).kept.map V.int)) := by rw [upd_ne ke]; exact e3
    generalize upd H3 en (HO.dK (dk N [2, 3, 5] (cv 0 kk (S.new x y rs m).num))) = H4 at s4 e4 k4 ⊢
    refine K2 _ _ ?_
    have hN4 := SqL.of (K := K) (s4 _ _ hN)
    have L4 := L.same s4
    clear s1 s2 s3 e2 e3 t2 hN2 L2 hen hkk
    have dput : ∀ {x' : Nat} {k : S}, x' ∈ [2, 3, 5] → x' ≠ 4 → x' ≠ 5 → putK (dk N [2, 3, 5] (cv 0 kk k.num)) (.inr (N x')) (.int v) = dk N [2, 3, 5] (cv 0 kk (k.put x' v).num) := fun hx h4 h5 => by
      rw [dk_put Di (lt12 (by decide)) hx]
      exact dk_congr fun j _ => cv_put _ _ _ _ _ h4 h5 j
    have : kd = 0 ∨ kd = 1 ∨ kd = 2 ∨ kd = 3 := by omega
    rcases this with rfl | rfl | rfl | rfl
    · refine seq_cut fun A3 B3 => ?_
      refine ⟨rfl, _, rfl, ite2 (fun _ => ?_) (fun b => absurd (by decide) b)⟩
      refine Or.inl ⟨_, _, Or.inl hN4, nms_at (i := 2) (by decide) (by decide), _, DPut.k (k := .inr (N 2)) e4 (show 3 < sizeLine by decide), ?_⟩
      have sN : Same H _ := Same.out s4 en0 (HO.dK (putK (dk N [2, 3, 5] (cv 0 kk (S.new x y rs m).num)) (.inr (N 2)) (.int v)))
      have eE : (upd H4 en (HO.dK (putK (dk N [2, 3, 5] (cv 0 kk (S.new x y rs m).num)) (.inr (N 2)) (.int v)))) en = some (.dK (dk N [2, 3, 5] (cv 0 kk ((S.new x y rs m).put 2 v).num))) := by rw [upd_same, dput (by decide) (by decide) (by decide)]
      have eK : (upd H4 en (HO.dK (putK (dk N [2, 3, 5] (cv 0 kk (S.new x y rs m).num)) (.inr (N 2)) (.int v)))) kk = some (.lst ((S.new x y rs m).kept.map V.int)) := by rw [upd_ne ke]; exact k4
      generalize upd H4 en (HO.dK (putK (dk N [2, 3, 5] (cv 0 kk (S.new x y rs m).num)) (.inr (N 2)) (.int v))) = H5 at sN eE eK ⊢
      refine B3 _ _ ?_
      refine seq_cut fun A4 B4 => ?_
      refine ⟨rfl, _, rfl, ite2 (fun b => absurd b (by decide)) (fun _ => B4 _ _ ?_)⟩
      refine seq_cut fun A5 B5 => ?_
      refine ⟨rfl, _, rfl, ite2 (fun b => absurd b (by decide)) (fun _ => B5 _ _ ?_)⟩
      refine seq_cut fun A6 B6 => ?_
      refine ⟨rfl, _, rfl, ite2 (fun b => absurd b (by decide)) (fun _ => B6 _ _ ?_)⟩
      subst hv
      refine ⟨(show 0 ≤ sizeLine by decide), fun le hle => ?_⟩
      have sle := Same.upd hle (HO.lst [])
      have ele : (upd H5 le (HO.lst [])) le = some (.lst []) := upd_same
      generalize upd H5 le (HO.lst []) = Zle at sle ele ⊢
      refine ⟨(show 0 ≤ sizeLine by decide), fun sa hsa => ?_⟩
      have ssa := Same.upd hsa (HO.lst [])
      have esa : (upd Zle sa (HO.lst [])) sa = some (.lst []) := upd_same
      generalize upd Zle sa (HO.lst []) = Zsa at ssa esa ⊢
      refine ⟨(show 3 ≤ sizeLine by decide), fun tp htp => ?_⟩
      have stp := Same.upd htp (HO.tup [V.int 10, .int 1, .non])
      have etp : (upd Zsa tp (HO.tup [V.int 10, .int 1, .non])) tp = some (.tup [V.int 10, .int 1, .non]) := upd_same
      generalize upd Zsa tp (HO.tup [V.int 10, .int 1, .non]) = Ztp at stp etp ⊢
      refine ⟨(show 1 ≤ sizeLine by decide), fun tr htr => ?_⟩
      have str := Same.upd htr (HO.lst [V.ref tp])
      have etr : (upd Ztp tr (HO.lst [V.ref tp])) tr = some (.lst [V.ref tp]) := upd_same
      generalize upd Ztp tr (HO.lst [V.ref tp]) = Ztr at str etr ⊢
      refine ⟨(show 5 ≤ sizeLine by decide), fun dd hdd => ?_⟩
      have sdd := Same.upd hdd (HO.tup [V.ref le, .ref sa, .ref tr, .int 1, .ref en])
      have edd : (upd Ztr dd (HO.tup [V.ref le, .ref sa, .ref tr, .int 1, .ref en])) dd = some (.tup [V.ref le, .ref sa, .ref tr, .int 1, .ref en]) := upd_same
      generalize upd Ztr dd (HO.tup [V.ref le, .ref sa, .ref tr, .int 1, .ref en]) = Zdd at sdd edd ⊢
      exact q dd le sa tr en kk _ ((((((sN).trans sle).trans ssa).trans stp).trans str).trans sdd) ⟨edd, ⟨[], (sdd _ _ (str _ _ (stp _ _ (ssa _ _ ele)))), .nil⟩, ⟨[], (sdd _ _ (str _ _ (stp _ _ esa))), .nil⟩, ⟨[.ref tp], (sdd _ _ etr), .cons ⟨tp, rfl, (sdd _ _ (str _ _ etp))⟩ .nil⟩, (sdd _ _ (str _ _ (stp _ _ (ssa _ _ (sle _ _ eE))))), (sdd _ _ (str _ _ (stp _ _ (ssa _ _ (sle _ _ eK)))))⟩
    · refine seq_cut fun A3 B3 => ?_
      refine ⟨rfl, _, rfl, ite2 (fun b => absurd b (by decide)) (fun _ => B3 _ _ ?_)⟩
      refine seq_cut fun A4 B4 => ?_
      refine ⟨rfl, _, rfl, ite2 (fun _ => ?_) (fun b => absurd (by decide) b)⟩
      have g5 : DGet H4 en (.str (N 5)) (some (.ref kk)) := by
        have := DGet.k (k := .inr (N 5)) e4
        rw [dk_get Di (lt12 (by decide)) (by decide)] at this
        exact this
      refine Or.inl ⟨_, _, Or.inl hN4, nms_at (i := 5) (by decide) (by decide), _, g5, ?_⟩
      refine ⟨c, sl, kl, _, _, Di, rfl, L4, Or.inl ⟨th, rfl, tk, ?_⟩⟩
      refine Or.inl ⟨_, _, Or.inl hN4, nms_at (i := 5) (by decide) (by decide), _, g5, ?_⟩
      have kp : 0 < (S.new x y rs m).kept.length := (ok.ne true).1
      refine Or.inl ⟨_, _, rfl, Or.inl ⟨_, SqL.of k4, rfl⟩, (by rw [List.length_map]; omega), Or.inl ⟨_, _, k4, set_at' (xs := (S.new x y rs m).kept) kp _, ?_⟩⟩
      have sN : Same H _ := Same.out s4 kk0 (HO.lst (((S.new x y rs m).kept.map V.int).set (th.num (S.new x y rs m) % ((S.new x y rs m).kept.length : Int)).toNat (.int v)))
      have eE : (upd H4 kk (HO.lst (((S.new x y rs m).kept.map V.int).set (th.num (S.new x y rs m) % ((S.new x y rs m).kept.length : Int)).toNat (.int v)))) en = some (.dK (dk N [2, 3, 5] (cv 0 kk (S.new x y rs m).num))) := by rw [upd_ne (Ne.symm ke)]; exact e4
      have eK : (upd H4 kk (HO.lst (((S.new x y rs m).kept.map V.int).set (th.num (S.new x y rs m) % ((S.new x y rs m).kept.length : Int)).toNat (.int v)))) kk = some (.lst (((S.new x y rs m).keep (th.num (S.new x y rs m)) v).kept.map V.int)) := by
        rw [upd_same]
        show _ = some (HO.lst ((lput (S.new x y rs m).kept (th.num (S.new x y rs m)) v).map V.int))
        unfold lput
        rw [List.map_set]
      generalize upd H4 kk (HO.lst (((S.new x y rs m).kept.map V.int).set (th.num (S.new x y rs m) % ((S.new x y rs m).kept.length : Int)).toNat (.int v))) = H5 at sN eE eK ⊢
      refine B4 _ _ ?_
      refine seq_cut fun A5 B5 => ?_
      refine ⟨rfl, _, rfl, ite2 (fun b => absurd b (by decide)) (fun _ => B5 _ _ ?_)⟩
      refine seq_cut fun A6 B6 => ?_
      refine ⟨rfl, _, rfl, ite2 (fun b => absurd b (by decide)) (fun _ => B6 _ _ ?_)⟩
      subst hv
      refine ⟨(show 0 ≤ sizeLine by decide), fun le hle => ?_⟩
      have sle := Same.upd hle (HO.lst [])
      have ele : (upd H5 le (HO.lst [])) le = some (.lst []) := upd_same
      generalize upd H5 le (HO.lst []) = Zle at sle ele ⊢
      refine ⟨(show 0 ≤ sizeLine by decide), fun sa hsa => ?_⟩
      have ssa := Same.upd hsa (HO.lst [])
      have esa : (upd Zle sa (HO.lst [])) sa = some (.lst []) := upd_same
      generalize upd Zle sa (HO.lst []) = Zsa at ssa esa ⊢
      refine ⟨(show 3 ≤ sizeLine by decide), fun tp htp => ?_⟩
      have stp := Same.upd htp (HO.tup [V.int 10, .int 1, .non])
      have etp : (upd Zsa tp (HO.tup [V.int 10, .int 1, .non])) tp = some (.tup [V.int 10, .int 1, .non]) := upd_same
      generalize upd Zsa tp (HO.tup [V.int 10, .int 1, .non]) = Ztp at stp etp ⊢
      refine ⟨(show 1 ≤ sizeLine by decide), fun tr htr => ?_⟩
      have str := Same.upd htr (HO.lst [V.ref tp])
      have etr : (upd Ztp tr (HO.lst [V.ref tp])) tr = some (.lst [V.ref tp]) := upd_same
      generalize upd Ztp tr (HO.lst [V.ref tp]) = Ztr at str etr ⊢
      refine ⟨(show 5 ≤ sizeLine by decide), fun dd hdd => ?_⟩
      have sdd := Same.upd hdd (HO.tup [V.ref le, .ref sa, .ref tr, .int 1, .ref en])
      have edd : (upd Ztr dd (HO.tup [V.ref le, .ref sa, .ref tr, .int 1, .ref en])) dd = some (.tup [V.ref le, .ref sa, .ref tr, .int 1, .ref en]) := upd_same
      generalize upd Ztr dd (HO.tup [V.ref le, .ref sa, .ref tr, .int 1, .ref en]) = Zdd at sdd edd ⊢
      exact q dd le sa tr en kk _ ((((((sN).trans sle).trans ssa).trans stp).trans str).trans sdd) ⟨edd, ⟨[], (sdd _ _ (str _ _ (stp _ _ (ssa _ _ ele)))), .nil⟩, ⟨[], (sdd _ _ (str _ _ (stp _ _ esa))), .nil⟩, ⟨[.ref tp], (sdd _ _ etr), .cons ⟨tp, rfl, (sdd _ _ (str _ _ etp))⟩ .nil⟩, (sdd _ _ (str _ _ (stp _ _ (ssa _ _ (sle _ _ eE))))), (sdd _ _ (str _ _ (stp _ _ (ssa _ _ (sle _ _ eK)))))⟩
    · refine seq_cut fun A3 B3 => ?_
      refine ⟨rfl, _, rfl, ite2 (fun b => absurd b (by decide)) (fun _ => B3 _ _ ?_)⟩
      refine seq_cut fun A4 B4 => ?_
      refine ⟨rfl, _, rfl, ite2 (fun b => absurd b (by decide)) (fun _ => B4 _ _ ?_)⟩
      refine seq_cut fun A5 B5 => ?_
      refine ⟨rfl, _, rfl, ite2 (fun _ => ?_) (fun b => absurd (by decide) b)⟩
      have sN := s4
      have eE := e4
      have eK := k4
      subst hv
      refine Or.inl ⟨_, _, Or.inl (SqL.of (K := K) (sN _ _ hN)), nms_k (i := 6) (by decide), ?_⟩
      refine ⟨(show 4 ≤ sizeLine by decide), fun q1 hq1 => ?_⟩
      have sq1 := Same.upd hq1 (HO.tup [V.int 1, .int 10, .str (N 6), .int (val.num (S.new x y rs m))])
      have eq1 : (upd H4 q1 (HO.tup [V.int 1, .int 10, .str (N 6), .int (val.num (S.new x y rs m))])) q1 = some (.tup [V.int 1, .int 10, .str (N 6), .int (val.num (S.new x y rs m))]) := upd_same
      generalize upd H4 q1 (HO.tup [V.int 1, .int 10, .str (N 6), .int (val.num (S.new x y rs m))]) = Zq1 at sq1 eq1 ⊢
      refine ⟨(show 1 ≤ sizeLine by decide), fun le hle => ?_⟩
      have sle := Same.upd hle (HO.lst [V.ref q1])
      have ele : (upd Zq1 le (HO.lst [V.ref q1])) le = some (.lst [V.ref q1]) := upd_same
      generalize upd Zq1 le (HO.lst [V.ref q1]) = Zle at sle ele ⊢
      refine ⟨(show 0 ≤ sizeLine by decide), fun sa hsa => ?_⟩
      have ssa := Same.upd hsa (HO.lst [])
      have esa : (upd Zle sa (HO.lst [])) sa = some (.lst []) := upd_same
      generalize upd Zle sa (HO.lst []) = Zsa at ssa esa ⊢
      refine ⟨(show 3 ≤ sizeLine by decide), fun tp htp => ?_⟩
      have stp := Same.upd htp (HO.tup [V.int 10, .int 1, .int (val.num (S.new x y rs m))])
      have etp : (upd Zsa tp (HO.tup [V.int 10, .int 1, .int (val.num (S.new x y rs m))])) tp = some (.tup [V.int 10, .int 1, .int (val.num (S.new x y rs m))]) := upd_same
      generalize upd Zsa tp (HO.tup [V.int 10, .int 1, .int (val.num (S.new x y rs m))]) = Ztp at stp etp ⊢
      refine ⟨(show 1 ≤ sizeLine by decide), fun tr htr => ?_⟩
      have str := Same.upd htr (HO.lst [V.ref tp])
      have etr : (upd Ztp tr (HO.lst [V.ref tp])) tr = some (.lst [V.ref tp]) := upd_same
      generalize upd Ztp tr (HO.lst [V.ref tp]) = Ztr at str etr ⊢
      refine ⟨(show 5 ≤ sizeLine by decide), fun dd hdd => ?_⟩
      have sdd := Same.upd hdd (HO.tup [V.ref le, .ref sa, .ref tr, .int 1, .ref en])
      have edd : (upd Ztr dd (HO.tup [V.ref le, .ref sa, .ref tr, .int 1, .ref en])) dd = some (.tup [V.ref le, .ref sa, .ref tr, .int 1, .ref en]) := upd_same
      generalize upd Ztr dd (HO.tup [V.ref le, .ref sa, .ref tr, .int 1, .ref en]) = Zdd at sdd edd ⊢
      exact q dd le sa tr en kk _ (((((((sN).trans sq1).trans sle).trans ssa).trans stp).trans str).trans sdd) ⟨edd, ⟨[.ref q1], (sdd _ _ (str _ _ (stp _ _ (ssa _ _ ele)))), .cons ⟨q1, rfl, (sdd _ _ (str _ _ (stp _ _ (ssa _ _ (sle _ _ eq1)))))⟩ .nil⟩, ⟨[], (sdd _ _ (str _ _ (stp _ _ esa))), .nil⟩, ⟨[.ref tp], (sdd _ _ etr), .cons ⟨tp, rfl, (sdd _ _ (str _ _ etp))⟩ .nil⟩, (sdd _ _ (str _ _ (stp _ _ (ssa _ _ (sle _ _ (sq1 _ _ eE)))))), (sdd _ _ (str _ _ (stp _ _ (ssa _ _ (sle _ _ (sq1 _ _ eK))))))⟩
    · refine seq_cut fun A3 B3 => ?_
      refine ⟨rfl, _, rfl, ite2 (fun b => absurd b (by decide)) (fun _ => B3 _ _ ?_)⟩
      refine seq_cut fun A4 B4 => ?_
      refine ⟨rfl, _, rfl, ite2 (fun b => absurd b (by decide)) (fun _ => B4 _ _ ?_)⟩
      refine seq_cut fun A5 B5 => ?_
      refine ⟨rfl, _, rfl, ite2 (fun b => absurd b (by decide)) (fun _ => B5 _ _ ?_)⟩
      refine seq_cut fun A6 B6 => ?_
      refine ⟨rfl, _, rfl, ite2 (fun _ => ?_) (fun b => absurd (by decide) b)⟩
      refine seq_cut fun A7 B7 => ?_
      refine Or.inl ⟨_, _, Or.inl hN4, nms_at (i := 2) (by decide) (by decide), _, DPut.k (k := .inr (N 2)) e4 (show 3 < sizeLine by decide), ?_⟩
      have sN : Same H _ := Same.out s4 en0 (HO.dK (putK (dk N [2, 3, 5] (cv 0 kk (S.new x y rs m).num)) (.inr (N 2)) (.int v)))
      have eE : (upd H4 en (HO.dK (putK (dk N [2, 3, 5] (cv 0 kk (S.new x y rs m).num)) (.inr (N 2)) (.int v)))) en = some (.dK (dk N [2, 3, 5] (cv 0 kk ((S.new x y rs m).put 2 v).num))) := by rw [upd_same, dput (by decide) (by decide) (by decide)]
      have eK : (upd H4 en (HO.dK (putK (dk N [2, 3, 5] (cv 0 kk (S.new x y rs m).num)) (.inr (N 2)) (.int v)))) kk = some (.lst ((S.new x y rs m).kept.map V.int)) := by rw [upd_ne ke]; exact k4
      generalize upd H4 en (HO.dK (putK (dk N [2, 3, 5] (cv 0 kk (S.new x y rs m).num)) (.inr (N 2)) (.int v))) = H5 at sN eE eK ⊢
      refine B7 _ _ ?_
      subst hv
      refine ⟨(show 0 ≤ sizeLine by decide), fun le hle => ?_⟩
      have sle := Same.upd hle (HO.lst [])
      have ele : (upd H5 le (HO.lst [])) le = some (.lst []) := upd_same
      generalize upd H5 le (HO.lst []) = Zle at sle ele ⊢
      refine Or.inl ⟨_, _, Or.inl (SqL.of (K := K) (sle _ _ (sN _ _ hN))), nms_k (i := 7) (by decide), ?_⟩
      refine ⟨(show 4 ≤ sizeLine by decide), fun q1 hq1 => ?_⟩
      have sq1 := Same.upd hq1 (HO.tup [V.int 1, .int 10, .str (N 7), .int (val.num (S.new x y rs m))])
      have eq1 : (upd Zle q1 (HO.tup [V.int 1, .int 10, .str (N 7), .int (val.num (S.new x y rs m))])) q1 = some (.tup [V.int 1, .int 10, .str (N 7), .int (val.num (S.new x y rs m))]) := upd_same
      generalize upd Zle q1 (HO.tup [V.int 1, .int 10, .str (N 7), .int (val.num (S.new x y rs m))]) = Zq1 at sq1 eq1 ⊢
      refine ⟨(show 1 ≤ sizeLine by decide), fun sa hsa => ?_⟩
      have ssa := Same.upd hsa (HO.lst [V.ref q1])
      have esa : (upd Zq1 sa (HO.lst [V.ref q1])) sa = some (.lst [V.ref q1]) := upd_same
      generalize upd Zq1 sa (HO.lst [V.ref q1]) = Zsa at ssa esa ⊢
      refine ⟨(show 3 ≤ sizeLine by decide), fun tp htp => ?_⟩
      have stp := Same.upd htp (HO.tup [V.int 10, .int 1, .int (val.num (S.new x y rs m))])
      have etp : (upd Zsa tp (HO.tup [V.int 10, .int 1, .int (val.num (S.new x y rs m))])) tp = some (.tup [V.int 10, .int 1, .int (val.num (S.new x y rs m))]) := upd_same
      generalize upd Zsa tp (HO.tup [V.int 10, .int 1, .int (val.num (S.new x y rs m))]) = Ztp at stp etp ⊢
      refine ⟨(show 1 ≤ sizeLine by decide), fun tr htr => ?_⟩
      have str := Same.upd htr (HO.lst [V.ref tp])
      have etr : (upd Ztp tr (HO.lst [V.ref tp])) tr = some (.lst [V.ref tp]) := upd_same
      generalize upd Ztp tr (HO.lst [V.ref tp]) = Ztr at str etr ⊢
      refine ⟨(show 5 ≤ sizeLine by decide), fun dd hdd => ?_⟩
      have sdd := Same.upd hdd (HO.tup [V.ref le, .ref sa, .ref tr, .int 1, .ref en])
      have edd : (upd Ztr dd (HO.tup [V.ref le, .ref sa, .ref tr, .int 1, .ref en])) dd = some (.tup [V.ref le, .ref sa, .ref tr, .int 1, .ref en]) := upd_same
      generalize upd Ztr dd (HO.tup [V.ref le, .ref sa, .ref tr, .int 1, .ref en]) = Zdd at sdd edd ⊢
      exact q dd le sa tr en kk _ (((((((sN).trans sle).trans sq1).trans ssa).trans stp).trans str).trans sdd) ⟨edd, ⟨[], (sdd _ _ (str _ _ (stp _ _ (ssa _ _ (sq1 _ _ ele))))), .nil⟩, ⟨[.ref q1], (sdd _ _ (str _ _ (stp _ _ esa))), .cons ⟨q1, rfl, (sdd _ _ (str _ _ (stp _ _ (ssa _ _ eq1))))⟩ .nil⟩, ⟨[.ref tp], (sdd _ _ etr), .cons ⟨tp, rfl, (sdd _ _ (str _ _ etp))⟩ .nil⟩, (sdd _ _ (str _ _ (stp _ _ (ssa _ _ (sq1 _ _ (sle _ _ eE)))))), (sdd _ _ (str _ _ (stp _ _ (ssa _ _ (sq1 _ _ (sle _ _ eK))))))⟩
end
end K22

set_option Elab.async false
set_option linter.all false
set_option maxRecDepth 100000
set_option maxHeartbeats 4000000
namespace K22
open PySem L2
section
variable {P : Program} {w : World} {K : PySem.W.Frag} {mg : Str → Option Value} {base : Heap} {A : Adr} {N : Nat → Str}
theorem upd_back {H : Hp} {a : Addr} {o u : HO} (h : H a = some o) : upd (upd H a u) a o = H := by
  funext b
  by_cases e : b = a
  · rw [e, upd_same, h]
  · rw [upd_ne e, upd_ne e]
theorem dk_nth {f : Nat → V} {idx : List Nat} {i : Nat} {kk : Key} {v : V} (h : (dk N idx f)[i]? = some (kk, v)) : ∃ j ∈ idx, kk = .inr (N j) ∧ v = f j := by
  unfold dk at h
  rw [List.getElem?_map] at h
  cases e : idx[i]? with
  | none => rw [e] at h; cases h
  | some j =>
    rw [e] at h
    have h' : ((Sum.inr (N j) : Key), f j) = (kk, v) := Option.some.inj h
    cases h'
    exact ⟨j, List.mem_of_getElem? e, rfl, rfl⟩
def sp_book (A : Adr) (N : Nat → Str) : Sp := fun vs H Q _ => ∃ (js : List Nat) (b db lt sd t e sl kl d le sa tr en kk : Addr) (k : S), Dist N ∧ Ord js ∧ (eIx js).length = 3 ∧ vs = [.ref b, .ref d] ∧ DoneBk A N js H b db lt sd t e sl kl k ∧ DueAt N H d le sa tr en kk k ∧ e ≠ en ∧ k.fl ∧ k.trace.length ≤ 1000 ∧ k.letters.length ≤ 1000 ∧ k.said.length ≤ 1000 ∧ k.kept.length ≤ 1000 ∧ ∀ H', Same H H' → Q (.bl true) H'
theorem h_book (T : Txt K mg A) : Has P w K mg base 6 "_law_book" ["_law_found", "_law_due_here"] (sp_book A N) := by
  have D_law_same := h_same (P := P) (w := w) (base := base) T 4
  refine T.law_book.has (k := 5) sc_law_book (fun vs H Q E h => ?_) (fun f cdv A' outer s H vs Q E hr hu h => ?_)
  · obtain ⟨js, b, db, lt, sd, t, e, sl, kl, d, le, sa, tr, en, kk, k, _, _, _, rfl, _⟩ := h
    rfl
  · obtain ⟨js, b, db, lt, sd, t, e, sl, kl, d, le, sa, tr, en, kk, k, Di, O, e3, rfl, B, U, ne, fl, l1, l2, l3, l4, q⟩ := h
    refine ⟨_, (pss_cons (ps_if (PW.pt (pw_or (pt_not (pt_tru (pe_callB c_isinst rfl T.z_isinstance (by boot_by_name) (pa_cons (fv 0) (pa_cons (pe_gtup T.o_Book.mg) pa_nil))) (fun _ => rfl))) (pw_or (pt_not (pt_tru (pe_callB c_isinst rfl T.z_isinstance (by boot_by_name) (pa_cons (pe_fld (fv 0) rfl) (pa_cons (pe_bltn (v := .ty "dict") rfl T.z_dict (by boot_by_name) rfl) pa_nil))) (fun _ => rfl))) (pw_or1 (pt_cmpR (o_ne hu) (pe_callB c_lenA rfl T.z_len (by boot_by_name) (pa_cons (pe_fld (fv 0) rfl) pa_nil)) (pe_callB c_lenA rfl T.z_len (by boot_by_name) (pa_cons (pe_ix (ix_all hu) (fv 1) (pe_int) (fun _ _ => rfl)) pa_nil)) (nomark _))))))
      (pss_one (ps_ret (pe_bl)))
      pss_nil)
    (pss_cons (ps_forD PassesOwn.never rfl (pe_ix (ix_all hu) (fv 1) (pe_int) (fun _ _ => rfl)) (mono_ix _ _) (pg_name (i := 2) sc_law_book.nd rfl (by first | exact Or.inl rfl | exact Or.inr rfl))
      (pss_one (ps_if (PW.pt (pw_or (pt_cmpR (o_notinA hu) (fv 2) (pe_fld (fv 0) rfl) ((by with_unfolding_all rfl))) (pw_or1 (pt_not (pt_tru (pe_callD D_law_same hr (pa_cons (pe_ix (ix_all hu) (pe_fld (fv 0) rfl) (fv 2) (fun _ _ => rfl)) (pa_cons (pe_ix (ix_all hu) (pe_ix (ix_all hu) (fv 1) (pe_int) (fun _ _ => rfl)) (fv 2) (fun _ _ => rfl)) pa_nil))) (fun _ => rfl))))))
        (pss_one (ps_ret (pe_bl)))
        pss_nil)))
    (pss_one (ps_ret (pe_callD D_law_same hr (pa_cons (pe_tup (pa_cons (pe_fld (fv 0) rfl) (pa_cons (pe_fld (fv 0) rfl) (pa_cons (pe_fld (fv 0) rfl) (pa_cons (pe_fld (fv 0) rfl) pa_nil))))) (pa_cons (pe_slice sl_all (fv 1) po_none (po_some (pe_int))) pa_nil))))))), ?_⟩
    refine seq_cut fun M1 K1 => ?_
    refine ⟨_, _, _, true, rfl, (fun z => by cases z), T.o_Book.tyOf B.hb, kitT T.o_Book, true, rfl, iteF ?_⟩
    refine ⟨b, _, db, _, _, rfl, B.hb, T.o_Book.cl, T.n_Book_ends, rfl, _, _, _, true, rfl, (fun z => by cases z), .dK B.he, kit_dd, true, rfl, iteF ?_⟩
    refine ⟨b, _, db, _, _, rfl, B.hb, T.o_Book.cl, T.n_Book_ends, rfl, Or.inr ⟨e, _, rfl, Or.inl B.he, Or.inl ⟨_, _, Or.inr (SqT.of U.d), rfl, Or.inr ⟨en, _, rfl, Or.inl U.e, rfl, _, rfl, ite2 (fun c => absurd c ?_) (fun _ => K1 _ _ ?_)⟩⟩⟩⟩
    · rw [vint]
      unfold dk
      rw [List.length_map, e3]
      show ¬ (!decide ((3 : Int) = 3)) = true
      decide
    refine seq_cut fun M2 K2 => ?_
    refine Or.inl ⟨_, _, Or.inr (SqT.of U.d), rfl, en, _, rfl, U.e, fun o nf nd => ?_⟩
    have oth : ∀ {a : Addr} {u : HO}, H a = some u → (∀ kv, u ≠ .dK kv) → (upd H en (.frz o (.dK (dk N [2, 3, 5] (cv 0 kk k.num))))) a = some u := fun ha hn => by
      rw [upd_ne (fun z => by rw [z, U.e] at ha; exact hn _ (Option.some.inj ha).symm)]
      exact ha
    have he' : (upd H en (.frz o (.dK (dk N [2, 3, 5] (cv 0 kk k.num))))) e = some (.dK (dk N (eIx js) (cv sl kl k.num))) := by rw [upd_ne ne]; exact B.he
    have en' : (upd H en (.frz o (.dK (dk N [2, 3, 5] (cv 0 kk k.num))))) en = some (.frz o (.dK (dk N [2, 3, 5] (cv 0 kk k.num)))) := upd_same
    have hb' := oth B.hb (fun _ z => by cases z)
    have hd' := oth U.d (fun _ z => by cases z)
    have hK' := oth B.hK (fun _ z => by cases z)
    have hk' := oth U.k (fun _ z => by cases z)
    have hbk : upd (upd H en (.frz o (.dK (dk N [2, 3, 5] (cv 0 kk k.num))))) en (.dK (dk N [2, 3, 5] (cv 0 kk k.num))) = H := upd_back U.e
    generalize upd H en (.frz o (.dK (dk N [2, 3, 5] (cv 0 kk k.num)))) = Hf at he' en' hb' hd' hK' hk' hbk ⊢
    clear oth
    refine ⟨fun i σ H2 => H2 = Hf ∧ ∃ v, σ = [some (.ref b), some (.ref d), v], ⟨rfl, none, rfl⟩, ?_, ?_, ?_⟩
    · rintro i σ H2 _ ⟨rfl, _⟩
      exact en'
    · rintro i kq v σ H2 hx ⟨rfl, z, rfl⟩
      obtain ⟨j, hj, rfl, rfl⟩ := dk_nth hx
      have ho : ownB j = true := by
        simp only [List.mem_cons, List.not_mem_nil, or_false] at hj
        rcases hj with rfl | rfl | rfl <;> rfl
      have g1 : DGet H2 e (.str (N j)) (some (cv sl kl k.num j)) := by
        have := DGet.k (k := .inr (N j)) he'
        rw [dk_get Di eIx12 (List.mem_filter.mpr ⟨O.all j (by have := ownB_lt ho; omega), ho⟩)] at this
        exact this
      have g2 : DGet H2 en (.str (N j)) (some (cv 0 kk k.num j)) := Or.inl ⟨_, .inr (N j), Or.inr ⟨o, en'⟩, rfl, (dk_get Di (lt12 (by decide)) hj).symm⟩
      refine ⟨b, _, db, _, _, rfl, hb', T.o_Book.cl, T.n_Book_ends, rfl, Or.inr ⟨e, _, rfl, g1, _, rfl, iteF ?_⟩⟩
      refine ⟨b, _, db, _, _, rfl, hb', T.o_Book.cl, T.n_Book_ends, rfl, _, g1, Or.inl ⟨_, _, Or.inr (SqT.of hd'), rfl, _, g2, _, _, rfl, ?_, true, rfl, iteF ⟨rfl, _, rfl⟩⟩⟩
      simp only [List.mem_cons, List.not_mem_nil, or_false] at hj
      rcases hj with rfl | rfl | rfl
      · exact Or.inl ⟨rfl, trivial⟩
      · exact Or.inl ⟨rfl, trivial⟩
      · exact Or.inr ⟨kl, kk, _, _, rfl, rfl, Or.inr ⟨hK', hk'⟩, by rw [List.length_map]; exact l4, same_ints _⟩
    · rintro σ H2 ⟨rfl, z, rfl⟩
      rw [hbk]
      refine K2 _ _ ?_
      obtain ⟨ts, hts, tts⟩ := B.ht
      obtain ⟨ls, hls, tls⟩ := B.hl
      obtain ⟨zs, hzs, tzs⟩ := B.hd
      obtain ⟨ts', hts', tts'⟩ := U.t
      obtain ⟨ls', hls', tls'⟩ := U.l
      obtain ⟨zs', hzs', tzs'⟩ := U.s
      refine ⟨b, _, db, _, _, rfl, B.hb, T.o_Book.cl, T.n_Book_letters, rfl, b, _, db, _, _, rfl, B.hb, T.o_Book.cl, T.n_Book_said, rfl, b, _, db, _, _, rfl, B.hb, T.o_Book.cl, T.n_Book_trace, rfl, b, _, db, _, _, rfl, B.hb, T.o_Book.cl, T.n_Book_steps, rfl, (show 4 ≤ sizeLine by decide), fun q1 hq1 => ?_⟩
      have s1 := Same.upd hq1 (HO.tup [V.ref lt, .ref sd, .ref t, .int k.steps])
      have e1 : (upd H q1 (HO.tup [V.ref lt, .ref sd, .ref t, .int k.steps])) q1 = some (.tup [V.ref lt, .ref sd, .ref t, .int k.steps]) := upd_same
      generalize upd H q1 (HO.tup [V.ref lt, .ref sd, .ref t, .int k.steps]) = H1 at s1 e1 ⊢
      refine ⟨_, rfl, Or.inr ⟨d, _, rfl, SqT.of (s1 _ _ U.d), (fun h => absurd h.2 (show ¬ HT.sIx 5 5 (some 4) = 5 by decide)), fun q2 hq2 => ?_⟩⟩
      have s2 := Same.upd hq2 (HO.tup (cutV [V.ref le, .ref sa, .ref tr, .int k.steps, .ref en] none (some 4)))
      have e2 : (upd H1 q2 (HO.tup (cutV [V.ref le, .ref sa, .ref tr, .int k.steps, .ref en] none (some 4)))) q2 = some (.tup [V.ref le, .ref sa, .ref tr, .int k.steps]) := upd_same
      generalize upd H1 q2 (HO.tup (cutV [V.ref le, .ref sa, .ref tr, .int k.steps, .ref en] none (some 4))) = H2 at s2 e2 ⊢
      have t2 := s1.trans s2
      have st := Same.stay t2
      refine ⟨_, _, rfl, Or.inr ⟨q1, q2, _, _, rfl, rfl, Or.inl ⟨s2 _ _ e1, e2⟩, (show 4 ≤ 1000 by decide), ?_⟩, q _ t2⟩
      exact .cons (same_list (t2 _ _ hls) (t2 _ _ hls') (tls.stay st) (tls'.stay st) fl.l l2) (.cons (same_list (t2 _ _ hzs) (t2 _ _ hzs') (tzs.stay st) (tzs'.stay st) fl.d l3) (.cons (same_list (t2 _ _ hts) (t2 _ _ hts') (tts.stay st) (tts'.stay st) fl.t l1) (.cons (Or.inl ⟨rfl, trivial⟩) .nil)))
end
end K22

set_option Elab.async false
set_option linter.all false
set_option maxRecDepth 100000
set_option maxHeartbeats 4000000
namespace K22
open PySem L2
section
variable {P : Program} {w : World} {K : PySem.W.Frag} {mg : Str → Option Value} {base : Heap} {A : Adr} {N : Nat → Str}
structure Em (H3 : Hp) (AA : List Addr) (n : Nat) (H4 : Hp) : Prop where
  o : ∀ a u, a ∉ AA → H3 a = some u → H4 a = some u
  d : ∀ q a, AA[q]? = some a → q < n → H4 a = some (.lst [.int 5])
  u : ∀ q a, AA[q]? = some a → n ≤ q → H4 a = some (.lst [])
theorem Em.same {H3 H4 H5 : Hp} {AA : List Addr} {n : Nat} (E : Em H3 AA n H4) (s : Same H4 H5) : Em H3 AA n H5 := ⟨fun a u h1 h2 => s _ _ (E.o a u h1 h2), fun q a h1 h2 => s _ _ (E.d q a h1 h2), fun q a h1 h2 => s _ _ (E.u q a h1 h2)⟩
theorem Em.step {H3 H4 : Hp} {AA : List Addr} {n : Nat} {a : Addr} (E : Em H3 AA n H4) (nd : AA.Nodup) (h : AA[n]? = some a) : Em H3 AA (n + 1) (upd H4 a (.lst ([] ++ [.int 5]))) := by
  have inj : ∀ {q : Nat}, AA[q]? = some a → q = n := fun hq => by
    obtain ⟨h1, e1⟩ := List.getElem?_eq_some_iff.mp h
    obtain ⟨h2, e2⟩ := List.getElem?_eq_some_iff.mp hq
    exact (List.getElem_inj nd).mp (e2.trans e1.symm)
  refine ⟨fun b u h1 h2 => ?_, fun q b h1 h2 => ?_, fun q b h1 h2 => ?_⟩
  · rw [upd_ne (fun z => h1 (by rw [z]; exact List.mem_of_getElem? h))]
    exact E.o b u h1 h2
  · by_cases e : b = a
    · rw [e, upd_same]; rfl
    · rw [upd_ne e]
      refine E.d q b h1 ?_
      by_cases e2 : q = n
      · rw [e2, h] at h1; exact absurd (Option.some.inj h1).symm e
      · omega
  · have e : b ≠ a := fun z => by rw [z] at h1; have := inj h1; omega
    rw [upd_ne e]
    exact E.u q b h1 (by omega)
def sp_empty : Sp := fun vs H Q _ => vs = [] ∧ ∀ H', Same H H' → Q (.bl true) H'
theorem h_empty (T : Txt K mg A) : Has P w K mg base 6 "_law_empty" [] sp_empty := by
  have D_law_same := h_same (P := P) (w := w) (base := base) T 4
  have D_Book_init := h_Book_init (P := P) (w := w) (base := base) T
  refine T.law_empty.has (k := 5) sc_law_empty (fun vs H Q E h => ?_) (fun f cdv A' outer s H vs Q E hr hu h => ?_)
  · obtain ⟨rfl, _⟩ := h
    rfl
  · obtain ⟨rfl, q⟩ := h
    refine ⟨_, (pss_cons (ps_set (i := 0) sc_law_empty.nd rfl (Or.inl rfl) (pe_makeD0 T.o_Book D_Book_init hr))
    (pss_cons (ps_set (i := 1) sc_law_empty.nd rfl (Or.inl rfl) (pe_makeD0 T.o_Book D_Book_init hr))
    (pss_cons (ps_for PassesOwn.never rfl (pi_any (pe_lst (pa_cons (pe_lst (pa_cons (pe_fld (fv 0) rfl) (pa_cons (pe_fld (fv 0) rfl) (pa_cons (pe_fld (fv 0) rfl) pa_nil)))) (pa_cons (pe_lst (pa_cons (pe_fld (fv 1) rfl) (pa_cons (pe_fld (fv 1) rfl) (pa_cons (pe_fld (fv 1) rfl) pa_nil)))) pa_nil)))) (pg_name (i := 2) sc_law_empty.nd rfl (by first | exact Or.inl rfl | exact Or.inr rfl))
      (pss_one (ps_for PassesOwn.never rfl (pi_any (fv 2)) (pg_name (i := 3) sc_law_empty.nd rfl (by first | exact Or.inl rfl | exact Or.inr rfl))
        (pss_cons (ps_if (PW.pt (pw_or (pt_not (pt_tru (pe_callB c_isinst rfl T.z_isinstance (by boot_by_name) (pa_cons (fv 3) (pa_cons (pe_bltn (v := .ty "list") rfl T.z_list (by boot_by_name) rfl) pa_nil))) (fun _ => rfl))) (pw_or1 (pt_cmpR (o_ne hu) (fv 3) (pe_lst (pa_nil)) (nomark _)))))
          (pss_one (ps_ret (pe_bl)))
          pss_nil)
        (pss_one (ps_expr (m_append (fv 3) (pa_cons (pe_int) pa_nil))))))))
    (pss_cons (ps_if (PW.pt (pw_or (pt_not (pt_tru (pe_callB c_isinst rfl T.z_isinstance (by boot_by_name) (pa_cons (pe_fld (fv 0) rfl) (pa_cons (pe_bltn (v := .ty "dict") rfl T.z_dict (by boot_by_name) rfl) pa_nil))) (fun _ => rfl))) (pw_or (pt_cmpR (o_neD hu) (pe_fld (fv 0) rfl) (pe_dnewK) (nomark _)) (pw_or1 (pt_cmpR (o_neD hu) (pe_fld (fv 1) rfl) (pe_dnewK) (nomark _))))))
      (pss_one (ps_ret (pe_bl)))
      pss_nil)
    (pss_cons (ps_asg (pe_int) (pg_sub (pe_fld (fv 0) rfl) (pe_str) (st_all hu set_list)))
    (pss_one (ps_ret (pe_and (pe_cmpR (o_eqU hu) (pe_fld (fv 1) rfl) (pe_dnewK) (nomark _)) (pe_one (pe_callD D_law_same hr (pa_cons (pe_lst (pa_cons (pe_fld (fv 0) rfl) (pa_cons (pe_fld (fv 1) rfl) pa_nil))) (pa_cons (pe_lst (pa_cons (pe_int) (pa_cons (pe_int) pa_nil))) pa_nil)))))))))))), ?_⟩
    refine seq_cut fun M1 K1 => ?_
    refine fun b1 db1 hb1 hdb1 hne1 => ⟨b1, db1, rfl, upd_same, fun l1 d1 t1 e1 H1 nl1 nd1 nt1 ne1 bt1 N1 => ⟨rfl, ?_⟩⟩
    have s1 : Same H H1 := But.same bt1 hb1 hdb1
    have l10 := new_none hb1 hdb1 nl1
    have d10 := new_none hb1 hdb1 nd1
    have t10 := new_none hb1 hdb1 nt1
    have e10 := new_none hb1 hdb1 ne1
    refine K1 _ _ ?_
    refine seq_cut fun M2 K2 => ?_
    refine fun b2 db2 hb2 hdb2 hne2 => ⟨b2, db2, rfl, upd_same, fun l2 d2 t2 e2 H2 nl2 nd2 nt2 ne2 bt2 N2 => ⟨rfl, ?_⟩⟩
    have s2 : Same H1 H2 := But.same bt2 hb2 hdb2
    have l20 := new_none hb2 hdb2 nl2
    have d20 := new_none hb2 hdb2 nd2
    have t20 := new_none hb2 hdb2 nt2
    have e20 := new_none hb2 hdb2 ne2
    refine K2 _ _ ?_
    refine seq_cut fun M3 K3 => ?_
    have hB1 := s2 _ _ N1.b
    have hB2 := N2.b
    refine ⟨b1, _, db1, _, _, rfl, hB1, T.o_Book.cl, T.n_Book_letters, rfl, b1, _, db1, _, _, rfl, hB1, T.o_Book.cl, T.n_Book_said, rfl, b1, _, db1, _, _, rfl, hB1, T.o_Book.cl, T.n_Book_trace, rfl, (show 3 ≤ sizeLine by decide), fun L1 hL1 => ?_⟩
    have sA := Same.upd hL1 (HO.lst [V.ref l1, .ref d1, .ref t1])
    have eA : (upd H2 L1 (HO.lst [V.ref l1, .ref d1, .ref t1])) L1 = some (.lst [V.ref l1, .ref d1, .ref t1]) := upd_same
    generalize upd H2 L1 (HO.lst [V.ref l1, .ref d1, .ref t1]) = HA at sA eA ⊢
    refine ⟨b2, _, db2, _, _, rfl, sA _ _ hB2, T.o_Book.cl, T.n_Book_letters, rfl, b2, _, db2, _, _, rfl, sA _ _ hB2, T.o_Book.cl, T.n_Book_said, rfl, b2, _, db2, _, _, rfl, sA _ _ hB2, T.o_Book.cl, T.n_Book_trace, rfl, (show 3 ≤ sizeLine by decide), fun L2' hL2 => ?_⟩
    have sB := Same.upd hL2 (HO.lst [V.ref l2, .ref d2, .ref t2])
    have eB : (upd HA L2' (HO.lst [V.ref l2, .ref d2, .ref t2])) L2' = some (.lst [V.ref l2, .ref d2, .ref t2]) := upd_same
    generalize upd HA L2' (HO.lst [V.ref l2, .ref d2, .ref t2]) = HB at sB eB ⊢
    refine ⟨(show 2 ≤ sizeLine by decide), fun LL hLL => ?_⟩
    have sC := Same.upd hLL (HO.lst [V.ref L1, .ref L2'])
    have eC : (upd HB LL (HO.lst [V.ref L1, .ref L2'])) LL = some (.lst [V.ref L1, .ref L2']) := upd_same
    generalize upd HB LL (HO.lst [V.ref L1, .ref L2']) = H3 at sC eC ⊢
    have t23 := (sA.trans sB).trans sC
    have hL1 := sC _ _ (sB _ _ eA)
    have hL2' := sC _ _ eB
    obtain ⟨AA, hAA⟩ : ∃ AA, AA = [l1, d1, t1, l2, d2, t2] := ⟨_, rfl⟩
    have ne : ∀ {a b : Addr} {u : HO} {Hx : Hp}, Hx a = some u → Hx b = none → a ≠ b := fun h1 h2 z => by rw [z, h2] at h1; cases h1
    have nd : AA.Nodup := by
      rw [hAA]
      have x1 := ne N1.hl l20
      have x2 := ne N1.hl d20
      have x3 := ne N1.hl t20
      have x4 := ne N1.hs l20
      have x5 := ne N1.hs d20
      have x6 := ne N1.hs t20
      have x7 := ne N1.ht l20
      have x8 := ne N1.ht d20
      have x9 := ne N1.ht t20
      simp only [List.nodup_cons, List.mem_cons, List.not_mem_nil, or_false, not_or, not_false_iff, List.nodup_nil, and_true]
      exact ⟨⟨Ne.symm N1.dl, Ne.symm N1.tl, x1, x2, x3⟩, ⟨N1.dt, x4, x5, x6⟩, ⟨x7, x8, x9⟩, ⟨Ne.symm N2.dl, Ne.symm N2.tl⟩, N2.dt⟩
    have kn : ∀ {a : Addr}, a ∈ AA → H2 a = some (.lst []) := fun ha => by
      rw [hAA] at ha
      simp only [List.mem_cons, List.not_mem_nil, or_false] at ha
      rcases ha with rfl | rfl | rfl | rfl | rfl | rfl
      · exact s2 _ _ N1.hl
      · exact s2 _ _ N1.hs
      · exact s2 _ _ N1.ht
      · exact N2.hl
      · exact N2.hs
      · exact N2.ht
    have fr : ∀ {a : Addr}, a ∈ AA → H a = none := fun ha => by
      rw [hAA] at ha
      simp only [List.mem_cons, List.not_mem_nil, or_false] at ha
      rcases ha with rfl | rfl | rfl | rfl | rfl | rfl
      · exact l10
      · exact d10
      · exact t10
      · exact Same.free s1 l20
      · exact Same.free s1 d20
      · exact Same.free s1 t20
    have nL1 : L1 ∉ AA := fun h => by have := kn h; rw [‹H2 L1 = none›] at this; cases this
    have nL2' : L2' ∉ AA := fun h => by have := sA _ _ (kn h); rw [hL2] at this; cases this
    have nLL : LL ∉ AA := fun h => by have := sB _ _ (sA _ _ (kn h)); rw [hLL] at this; cases this
    have nd' : ∀ {a : Addr} {u : HO}, H2 a = some u → (∀ xs, u ≠ .lst xs) → a ∉ AA := fun ha hn h => by have := kn h; rw [ha] at this; exact hn _ (Option.some.inj this)
    refine Or.inl ⟨⟨_, SqL.of eC⟩, ?_⟩
    refine for_list (K := K) (xs := [V.ref L1, .ref L2']) (fun i σ H4 => Em H3 AA (3 * i) H4 ∧ ∃ v2 v3, σ = [some (.ref b1), some (.ref b2), v2, v3]) ⟨⟨fun _ _ _ h => h, fun q a h1 h2 => by omega, fun q a h1 _ => t23 _ _ (kn (List.mem_of_getElem? h1))⟩, _, _, rfl⟩ (fun i σ H4 _ h => SqL.of (h.1.o _ _ nLL eC)) ?_ ?_
    · rintro i v σ H4 hv ⟨E4, z2, z3, rfl⟩
      match i, hv, E4 with
      | 0, hv, E4 =>
        cases hv
        refine Or.inl ⟨⟨_, SqL.of (E4.o _ _ nL1 hL1)⟩, ?_⟩
        refine for_list (K := K) (xs := [V.ref l1, .ref d1, .ref t1]) (fun j σ H5 => Em H3 AA (0 + j) H5 ∧ ∃ v3, σ = [some (.ref b1), some (.ref b2), some (.ref L1), v3]) ⟨E4, _, rfl⟩ (fun j σ H5 _ h => SqL.of (h.1.o _ _ nL1 hL1)) ?_ ?_
        · rintro j v σ H5 hv ⟨E5, z3, rfl⟩
          match j, hv, E5 with
          | 0, hv, E5 =>
            cases hv
            have ha := E5.u 0 l1 (by rw [hAA]; rfl) (by decide)
            refine seq_cut fun B1 C1 => ?_
            refine ⟨_, _, _, true, rfl, (fun z => by cases z), .lst ha, kit_ll, true, rfl, iteF ?_⟩
            refine ⟨Nat.zero_le _, fun g hg => ⟨_, _, .lst (SqL.of (Same.upd hg _ _ _ ha)) .nil, .lst (SqL.of upd_same) .nil, rfl, rfl, _, rfl, ite2 (fun c => absurd c (by decide)) (fun _ => C1 _ _ ?_)⟩⟩
            have E6 := E5.same (Same.upd hg (HO.lst []))
            have ha6 := Same.upd hg (HO.lst []) _ _ ha
            generalize upd H5 g (HO.lst []) = H6 at E6 ha6 ⊢
            refine ⟨Or.inl ⟨rfl, _, SqL.of ha6⟩, _, _, _, rfl, rfl, ha6, (show 0 < sizeLine by decide), ?_⟩
            exact ⟨E6.step nd (n := 0) (by rw [hAA]; rfl), _, rfl⟩
          | 1, hv, E5 =>
            cases hv
            have ha := E5.u 1 d1 (by rw [hAA]; rfl) (by decide)
            refine seq_cut fun B1 C1 => ?_
            refine ⟨_, _, _, true, rfl, (fun z => by cases z), .lst ha, kit_ll, true, rfl, iteF ?_⟩
            refine ⟨Nat.zero_le _, fun g hg => ⟨_, _, .lst (SqL.of (Same.upd hg _ _ _ ha)) .nil, .lst (SqL.of upd_same) .nil, rfl, rfl, _, rfl, ite2 (fun c => absurd c (by decide)) (fun _ => C1 _ _ ?_)⟩⟩
            have E6 := E5.same (Same.upd hg (HO.lst []))
            have ha6 := Same.upd hg (HO.lst []) _ _ ha
            generalize upd H5 g (HO.lst []) = H6 at E6 ha6 ⊢
            refine ⟨Or.inl ⟨rfl, _, SqL.of ha6⟩, _, _, _, rfl, rfl, ha6, (show 0 < sizeLine by decide), ?_⟩
            exact ⟨E6.step nd (n := 1) (by rw [hAA]; rfl), _, rfl⟩
          | 2, hv, E5 =>
            cases hv
            have ha := E5.u 2 t1 (by rw [hAA]; rfl) (by decide)
            refine seq_cut fun B1 C1 => ?_
            refine ⟨_, _, _, true, rfl, (fun z => by cases z), .lst ha, kit_ll, true, rfl, iteF ?_⟩
            refine ⟨Nat.zero_le _, fun g hg => ⟨_, _, .lst (SqL.of (Same.upd hg _ _ _ ha)) .nil, .lst (SqL.of upd_same) .nil, rfl, rfl, _, rfl, ite2 (fun c => absurd c (by decide)) (fun _ => C1 _ _ ?_)⟩⟩
            have E6 := E5.same (Same.upd hg (HO.lst []))
            have ha6 := Same.upd hg (HO.lst []) _ _ ha
            generalize upd H5 g (HO.lst []) = H6 at E6 ha6 ⊢
            refine ⟨Or.inl ⟨rfl, _, SqL.of ha6⟩, _, _, _, rfl, rfl, ha6, (show 0 < sizeLine by decide), ?_⟩
            exact ⟨E6.step nd (n := 2) (by rw [hAA]; rfl), _, rfl⟩
          | j + 3, hv, _ => cases hv
        · rintro σ H5 ⟨E5, z3, rfl⟩
          exact ⟨E5, _, _, rfl⟩
      | 1, hv, E4 =>
        cases hv
        refine Or.inl ⟨⟨_, SqL.of (E4.o _ _ nL2' hL2')⟩, ?_⟩
        refine for_list (K := K) (xs := [V.ref l2, .ref d2, .ref t2]) (fun j σ H5 => Em H3 AA (3 + j) H5 ∧ ∃ v3, σ = [some (.ref b1), some (.ref b2), some (.ref L2'), v3]) ⟨E4, _, rfl⟩ (fun j σ H5 _ h => SqL.of (h.1.o _ _ nL2' hL2')) ?_ ?_
        · rintro j v σ H5 hv ⟨E5, z3, rfl⟩
          match j, hv, E5 with
          | 0, hv, E5 =>
            cases hv
            have ha := E5.u 3 l2 (by rw [hAA]; rfl) (by decide)
            refine seq_cut fun B1 C1 => ?_
            refine ⟨_, _, _, true, rfl, (fun z => by cases z), .lst ha, kit_ll, true, rfl, iteF ?_⟩
            refine ⟨Nat.zero_le _, fun g hg => ⟨_, _, .lst (SqL.of (Same.upd hg _ _ _ ha)) .nil, .lst (SqL.of upd_same) .nil, rfl, rfl, _, rfl, ite2 (fun c => absurd c (by decide)) (fun _ => C1 _ _ ?_)⟩⟩
            have E6 := E5.same (Same.upd hg (HO.lst []))
            have ha6 := Same.upd hg (HO.lst []) _ _ ha
            generalize upd H5 g (HO.lst []) = H6 at E6 ha6 ⊢
            refine ⟨Or.inl ⟨rfl, _, SqL.of ha6⟩, _, _, _, rfl, rfl, ha6, (show 0 < sizeLine by decide), ?_⟩
            exact ⟨E6.step nd (n := 3) (by rw [hAA]; rfl), _, rfl⟩
          | 1, hv, E5 =>
            cases hv
            have ha := E5.u 4 d2 (by rw [hAA]; rfl) (by decide)
            refine seq_cut fun B1 C1 => ?_
            refine ⟨_, _, _, true, rfl, (fun z => by cases z), .lst ha, kit_ll, true, rfl, iteF ?_⟩
            refine ⟨Nat.zero_le _, fun g hg => ⟨_, _, .lst (SqL.of (Same.upd hg _ _ _ ha)) .nil, .lst (SqL.of upd_same) .nil, rfl, rfl, _, rfl, ite2 (fun c => absurd c (by decide)) (fun _ => C1 _ _ ?_)⟩⟩
            have E6 := E5.same (Same.upd hg (HO.lst []))
            have ha6 := Same.upd hg (HO.lst []) _ _ ha
            generalize upd H5 g (HO.lst []) = H6 at E6 ha6 ⊢
            refine ⟨Or.inl ⟨rfl, _, SqL.of ha6⟩, _, _, _, rfl, rfl, ha6, (show 0 < sizeLine by decide), ?_⟩
            exact ⟨E6.step nd (n := 4) (by rw [hAA]; rfl), _, rfl⟩
          | 2, hv, E5 =>
            cases hv
            have ha := E5.u 5 t2 (by rw [hAA]; rfl) (by decide)
            refine seq_cut fun B1 C1 => ?_
            refine ⟨_, _, _, true, rfl, (fun z => by cases z), .lst ha, kit_ll, true, rfl, iteF ?_⟩
            refine ⟨Nat.zero_le _, fun g hg => ⟨_, _, .lst (SqL.of (Same.upd hg _ _ _ ha)) .nil, .lst (SqL.of upd_same) .nil, rfl, rfl, _, rfl, ite2 (fun c => absurd c (by decide)) (fun _ => C1 _ _ ?_)⟩⟩
            have E6 := E5.same (Same.upd hg (HO.lst []))
            have ha6 := Same.upd hg (HO.lst []) _ _ ha
            generalize upd H5 g (HO.lst []) = H6 at E6 ha6 ⊢
            refine ⟨Or.inl ⟨rfl, _, SqL.of ha6⟩, _, _, _, rfl, rfl, ha6, (show 0 < sizeLine by decide), ?_⟩
            exact ⟨E6.step nd (n := 5) (by rw [hAA]; rfl), _, rfl⟩
          | j + 3, hv, _ => cases hv
        · rintro σ H5 ⟨E5, z3, rfl⟩
          exact ⟨E5, _, _, rfl⟩
      | i + 2, hv, _ => cases hv
    rintro σ H4 ⟨E4, z2, z3, rfl⟩
    refine K3 _ _ ?_
    refine seq_cut fun M4 K4 => ?_
    have get : ∀ {a : Addr} {u : HO}, H2 a = some u → (∀ xs, u ≠ .lst xs) → H4 a = some u := fun ha hn => E4.o _ _ (nd' ha hn) (t23 _ _ ha)
    have b14 := get hB1 (fun _ z => by cases z)
    have b24 := get hB2 (fun _ z => by cases z)
    have e14 := get (s2 _ _ N1.he) (fun _ z => by cases z)
    have e24 := get N2.he (fun _ z => by cases z)
    have s4 : Same H H4 := fun a u ha => E4.o a u (fun h => by rw [fr h] at ha; cases ha) (t23 _ _ (s2 _ _ (s1 _ _ ha)))
    refine ⟨b1, _, db1, _, _, rfl, b14, T.o_Book.cl, T.n_Book_ends, rfl, _, _, _, true, rfl, (fun z => by cases z), .dK e14, kit_dd, true, rfl, iteF ?_⟩
    refine ⟨b1, _, db1, _, _, rfl, b14, T.o_Book.cl, T.n_Book_ends, rfl, fun g1 hg1 => ?_⟩
    have sG := Same.upd hg1 (HO.dK [])
    have eG : (upd H4 g1 (HO.dK [])) g1 = some (.dK []) := upd_same
    generalize upd H4 g1 (HO.dK []) = H5 at sG eG ⊢
    refine ⟨e1, g1, [], [], rfl, rfl, Or.inl (sG _ _ e14), Or.inl eG, rfl, (fun k v h => by cases h), false, rfl, iteF ?_⟩
    refine ⟨b2, _, db2, _, _, rfl, sG _ _ b24, T.o_Book.cl, T.n_Book_ends, rfl, fun g2 hg2 => ?_⟩
    have sI := Same.upd hg2 (HO.dK [])
    have eI' : (upd H5 g2 (HO.dK [])) g2 = some (.dK []) := upd_same
    generalize upd H5 g2 (HO.dK []) = H6 at sI eI' ⊢
    refine ⟨e2, g2, [], [], rfl, rfl, Or.inl (sI _ _ (sG _ _ e24)), Or.inl eI', rfl, (fun k v h => by cases h), false, rfl, iteF (K4 _ _ ?_)⟩
    refine seq_cut fun M5 K5 => ?_
    have t46 := sG.trans sI
    refine ⟨b1, _, db1, _, _, rfl, t46 _ _ b14, T.o_Book.cl, T.n_Book_ends, rfl, _, DPut.k (k := .inr "x") (t46 _ _ e14) (show 0 < sizeLine by decide), K5 _ _ ?_⟩
    have x12 : e2 ≠ e1 := Ne.symm (ne N1.he e20)
    have xb1 : b1 ≠ e1 := fun z => by have := N1.b; rw [z, N1.he] at this; cases this
    have xb2 : b2 ≠ e1 := fun z => by have := N2.b; rw [z, s2 _ _ N1.he] at this; cases this
    have b17 : (upd H6 e1 (HO.dK (putK [] (.inr "x") (.int 1)))) b1 = _ := (upd_ne xb1).trans (t46 _ _ b14)
    have b27 : (upd H6 e1 (HO.dK (putK [] (.inr "x") (.int 1)))) b2 = _ := (upd_ne xb2).trans (t46 _ _ b24)
    have e27 : (upd H6 e1 (HO.dK (putK [] (.inr "x") (.int 1)))) e2 = _ := (upd_ne x12).trans (t46 _ _ e24)
    have s7 : Same H (upd H6 e1 (HO.dK (putK [] (.inr "x") (.int 1)))) := Same.out (s4.trans t46) e10 _
    generalize upd H6 e1 (HO.dK (putK [] (.inr "x") (.int 1))) = H7 at b17 b27 e27 s7 ⊢
    refine ⟨b2, _, db2, _, _, rfl, b27, T.o_Book.cl, T.n_Book_ends, rfl, fun g3 hg3 => Or.inr ⟨⟨[], [], Or.inl (Same.upd hg3 _ _ _ e27), Or.inl upd_same, rfl, (fun k v h => by cases h)⟩, _, rfl, iteT ?_⟩⟩
    have s8 := Same.upd hg3 (HO.dK [])
    generalize upd H7 g3 (HO.dK []) = H8 at s8 ⊢
    refine ⟨b1, _, db1, _, _, rfl, s8 _ _ b17, T.o_Book.cl, T.n_Book_steps, rfl, b2, _, db2, _, _, rfl, s8 _ _ b27, T.o_Book.cl, T.n_Book_steps, rfl, (show 2 ≤ sizeLine by decide), fun q1 hq1 => ?_⟩
    have s9 := Same.upd hq1 (HO.lst [V.int 0, .int 0])
    have e9 : (upd H8 q1 (HO.lst [V.int 0, .int 0])) q1 = some (.lst [V.int 0, .int 0]) := upd_same
    generalize upd H8 q1 (HO.lst [V.int 0, .int 0]) = H9 at s9 e9 ⊢
    refine ⟨(show 2 ≤ sizeLine by decide), fun q2 hq2 => ⟨_, _, rfl, Or.inr ⟨q1, q2, _, _, rfl, rfl, Or.inr ⟨Same.upd hq2 _ _ _ e9, upd_same⟩, (show 2 ≤ 1000 by decide), same_ints [0, 0]⟩, q _ (((s7.trans s8).trans s9).trans (Same.upd hq2 _))⟩⟩
end
end K22

set_option Elab.async false
set_option linter.all false
set_option maxRecDepth 100000
set_option maxHeartbeats 4000000
namespace K22
open PySem L2
section
variable {P : Program} {w : World} {K : PySem.W.Frag} {mg : Str → Option Value} {base : Heap} {A : Adr} {N : Nat → Str}
def S.short (k : S) (i : Nat) : Prop := k.trace.length ≤ i ∧ k.letters.length ≤ i ∧ k.said.length ≤ i
theorem short_leaf {k : S} {i : Nat} (h : k.short i) (r : Rw) : (leaf k r).short (i + 1) := by
  obtain ⟨h1, h2, h3⟩ := h
  cases r with
  | set m x v => exact ⟨by simp [leaf, S.put, S.tell]; omega, by simp [leaf, S.put, S.tell]; omega, by simp [leaf, S.put, S.tell]; omega⟩
  | put m a v => exact ⟨by simp [leaf, S.keep, S.tell]; omega, by simp [leaf, S.keep, S.tell]; omega, by simp [leaf, S.keep, S.tell]; omega⟩
  | snd m y v => exact ⟨by simp [leaf, S.send, S.tell]; omega, by simp [leaf, S.send, S.tell]; omega, by simp [leaf, S.send, S.tell]; omega⟩
  | say m x v y => exact ⟨by simp [leaf, S.say, S.put, S.tell]; omega, by simp [leaf, S.say, S.put, S.tell]; omega, by simp [leaf, S.say, S.put, S.tell]; omega⟩
theorem dk_find (D : Dist N) {f : Nat → V} {v : V} {kk : Key} : ∀ {idx : List Nat}, L2.valV (dk N idx f) kk = some v → ∃ i ∈ idx, kk = .inr (N i) ∧ (∀ (hb : ∀ j ∈ idx, j < 12), v = f i)
  | [], h => by cases h
  | j :: r, h => by
    unfold L2.valV dk at h
    rw [List.map_cons, List.find?_cons] at h
    by_cases e : (Sum.inr (N j) : Key) = kk
    · rw [decide_eq_true e] at h
      exact ⟨j, List.mem_cons_self, e.symm, fun _ => (Option.some.inj h).symm⟩
    · rw [decide_eq_false e] at h
      obtain ⟨i, hi, h1, h2⟩ := dk_find D (f := f) (v := v) (kk := kk) (idx := r) h
      exact ⟨i, List.mem_cons_of_mem _ hi, h1, fun hb => h2 fun q hq => hb q (List.mem_cons_of_mem _ hq)⟩
theorem ints_flat (ks : List Int) : (ks.map V.int).all flatR = true := by
  rw [List.all_eq_true]
  intro x hx
  obtain ⟨a, _, rfl⟩ := List.mem_map.mp hx
  rfl
def sp_law (K : PySem.W.Frag) : Sp := fun vs H Q _ => ∃ (a : Addr) (ns : List Int), vs = [.ref a] ∧ SqL K H a (ns.map V.int) ∧ ns.length ≤ 63 ∧ ∀ H', Q (.bl true) H'
theorem turn_e3 {t : Nat} (h : t < 8) : (eIx (turn t)).length = 3 := by
  have := lt8 h
  rcases this with rfl | rfl | rfl | rfl | rfl | rfl | rfl | rfl <;> decide
theorem four_at {a b c d : V} {R : Int → V → Prop} (h0 : R 0 a) (h1 : R 1 b) (h2 : R 2 c) (h3 : R 3 d) {k : Int} (hk : 0 ≤ k ∧ k < 4) : ∃ v, atI [a, b, c, d] k = some v ∧ R k v := by
  have : k = 0 ∨ k = 1 ∨ k = 2 ∨ k = 3 := by omega
  rcases this with rfl | rfl | rfl | rfl
  · exact ⟨a, rfl, h0⟩
  · exact ⟨b, rfl, h1⟩
  · exact ⟨c, rfl, h2⟩
  · exact ⟨d, rfl, h3⟩
theorem RowAt.stayI {H H' : Hp} (s : StayI H H') {v : V} : ∀ {r : Rw}, RowAt A N H v r → RowAt A N H' v r
  | .set _ _ _, ⟨o, a, dx, p, h⟩ => ⟨o, a, dx, p, h.v, s _ _ h.a (fun _ z => by cases z), s _ _ h.p (fun _ z => by cases z), h.x⟩
  | .put _ _ _, ⟨o, a, dx, p, h⟩ => ⟨o, a, dx, p, h.v, s _ _ h.a (fun _ z => by cases z), s _ _ h.p (fun _ z => by cases z), h.t⟩
  | .snd _ _ _, ⟨o, a, dx, p, h⟩ => ⟨o, a, dx, p, h.v, s _ _ h.a (fun _ z => by cases z), s _ _ h.p (fun _ z => by cases z)⟩
  | .say _ _ _ _, ⟨o, a, dx, p, h⟩ => ⟨o, a, dx, p, h.v, s _ _ h.a (fun _ z => by cases z), s _ _ h.p (fun _ z => by cases z), h.x⟩
theorem h_law (T : Txt K mg A) (F : TopFn K mg "law" s_law ["_law_script"]) : Has P w K mg base 20 "law" ["_law_script"] (sp_law K) := by
  have D_law_empty := h_empty (P := P) (w := w) (base := base) T
  have D_law_cell_at := h_cell (P := P) (w := w) (base := base) T
  have D_law_name := h_name (P := P) (w := w) (base := base) T
  have D_run := h_run (P := P) (w := w) (base := base) T
  have D_SetRow_init := h_SetRow_init (P := P) (w := w) (base := base) T
  have D_PutRow_init := h_PutRow_init (P := P) (w := w) (base := base) T
  have D_SendRow_init := h_SendRow_init (P := P) (w := w) (base := base) T
  have D_SayRow_init := h_SayRow_init (P := P) (w := w) (base := base) T
  have D_Program_init := h_Program_init (P := P) (w := w) (base := base) T
  refine F.has (k := 19) sc_law (fun vs H Q E h => ?_) (fun f cdv A' outer s' H vs Q E hr hu h => ?_)
  · obtain ⟨a, ns, rfl, _⟩ := h
    rfl
  · obtain ⟨a, ns, rfl, hS, hlen, q⟩ := h
    obtain ⟨N, hNd⟩ : ∃ N, N = nmV (cellAt ns 0) := ⟨_, rfl⟩
    have D_law_value := h_value (P := P) (w := w) (base := base) (N := N) T
    have D_law_thing := h_thing (P := P) (w := w) (base := base) (N := N) T
    have D_law_heads := h_heads (P := P) (w := w) (base := base) (N := N) T
    have D_law_gifts := h_gifts (P := P) (w := w) (base := base) (N := N) T
    have D_law_due := h_due (P := P) (w := w) (base := base) (N := N) T
    have D_law_book := h_book (P := P) (w := w) (base := base) (N := N) T
    have Di : Dist N := hNd ▸ nm_dist _
    refine ⟨_, (pss_cons (ps_if (pt_not (pt_tru (pe_callD0 D_law_empty hr) (fun _ => rfl)))
      (pss_one (ps_ret (pe_bl)))
      pss_nil)
    (pss_cons (ps_setComp (j := 1) (N := ["_law_k", "_law_script"]) (own := 1) (fr := [0]) (CompOk.of (by kernel_rfl!)) rfl sc_law.nd rfl (Or.inl rfl) (pi_range1 rfl T.z_range (pa_cons (pe_int) pa_nil)) (fun b => pg_name (i := 0) (show List.Nodup (["_law_k", "_law_script"] : List PySem.Str) by decide +kernel) rfl (by first | exact Or.inl rfl | exact Or.inr rfl)) (fun b => pf_nil) (fun b => pe_callD D_law_name hr (pa_cons (pe_callD D_law_cell_at hr (pa_cons (fv 1) (pa_cons (pe_int) pa_nil))) (pa_cons (fv 0) pa_nil))))
    (pss_cons (ps_set (i := 2) sc_law.nd rfl (Or.inl rfl) (pe_op o_mod (pe_callD D_law_cell_at hr (pa_cons (fv 0) (pa_cons (pe_int) pa_nil))) (pe_int)))
    (pss_cons (ps_set (i := 3) sc_law.nd rfl (Or.inl rfl) (pe_callD D_law_value hr (pa_cons (fv 0) (pa_cons (fv 1) pa_nil))))
    (pss_cons (ps_set (i := 4) sc_law.nd rfl (Or.inl rfl) (pe_callD D_law_thing hr (pa_cons (pe_callD D_law_cell_at hr (pa_cons (fv 0) (pa_cons (pe_int) pa_nil))) (pa_cons (fv 1) pa_nil))))
    (pss_cons (ps_set (i := 5) sc_law.nd rfl (Or.inl rfl) (pe_lst (pa_cons (pe_makeD T.o_SetRow D_SetRow_init hr (pa_cons (pe_int) (pa_cons (pe_ix (ix_all hu) (fv 1) (pe_int) (fun _ _ => rfl)) (pa_cons (fv 3) pa_nil)))) (pa_cons (pe_makeD T.o_PutRow D_PutRow_init hr (pa_cons (pe_int) (pa_cons (pe_ix (ix_all hu) (fv 1) (pe_int) (fun _ _ => rfl)) (pa_cons (fv 4) (pa_cons (fv 3) pa_nil))))) (pa_cons (pe_makeD T.o_SendRow D_SendRow_init hr (pa_cons (pe_int) (pa_cons (pe_ix (ix_all hu) (fv 1) (pe_int) (fun _ _ => rfl)) (pa_cons (fv 3) pa_nil)))) pa_nil)))))
    (pss_cons (ps_expr (m_append (fv 5) (pa_cons (pe_makeD T.o_SayRow D_SayRow_init hr (pa_cons (pe_int) (pa_cons (pe_ix (ix_all hu) (fv 1) (pe_int) (fun _ _ => rfl)) (pa_cons (fv 3) (pa_cons (pe_ix (ix_all hu) (fv 1) (pe_int) (fun _ _ => rfl)) pa_nil))))) pa_nil)))
    (pss_cons (ps_set (i := 6) sc_law.nd rfl (Or.inl rfl) (pe_makeD T.o_Program D_Program_init hr (pa_cons (pe_callD D_law_heads hr (pa_cons (fv 0) (pa_cons (fv 1) pa_nil))) (pa_cons (pe_lst (pa_nil)) (pa_cons (pe_lst (pa_cons (pe_ix (ix_all hu) (fv 5) (fv 2) (fun _ _ => rfl)) pa_nil)) pa_nil)))))
    (pss_cons (ps_set (i := 7) sc_law.nd rfl (Or.inl rfl) (pe_callD D_law_gifts hr (pa_cons (fv 0) (pa_cons (fv 1) pa_nil))))
    (pss_cons (ps_set (i := 8) sc_law.nd rfl (Or.inl rfl) (pe_callD D_law_gifts hr (pa_cons (fv 0) (pa_cons (fv 1) pa_nil))))
    (pss_cons (ps_asg (pe_int) (pg_sub (fv 8) (pe_ix (ix_all hu) (fv 1) (pe_int) (fun _ _ => rfl)) (st_all hu set_list)))
    (pss_cons (ps_asg (pe_int) (pg_sub (fv 8) (pe_ix (ix_all hu) (fv 1) (pe_int) (fun _ _ => rfl)) (st_all hu set_list)))
    (pss_cons (ps_asg (pe_op o_mulA (pe_lst (pa_cons (pe_int) pa_nil)) (pe_op o_add (pe_int) (pe_op o_mod (pe_callD D_law_cell_at hr (pa_cons (fv 0) (pa_cons (pe_int) pa_nil))) (pe_int)))) (pg_sub (fv 8) (pe_ix (ix_all hu) (fv 1) (pe_int) (fun _ _ => rfl)) (st_all hu set_list)))
    (pss_cons (ps_set (i := 9) sc_law.nd rfl (Or.inl rfl) (pe_callD D_law_due hr (pa_cons (fv 2) (pa_cons (fv 8) (pa_cons (fv 1) (pa_cons (pe_int) (pa_cons (fv 4) (pa_cons (fv 3) pa_nil))))))))
    (pss_cons (ps_set (i := 10) sc_law.nd rfl (Or.inl rfl) (pe_callD D_run hr (pa_cons (fv 6) (pa_cons (fv 7) pa_nil))))
    (pss_cons (ps_if (PW.pt (pw_or (pt_not (pt_tru (pe_callD D_law_book hr (pa_cons (fv 10) (pa_cons (fv 9) pa_nil))) (fun _ => rfl))) (pw_or1 (pt_cmpR (o_neD hu) (fv 7) (pe_callD D_law_gifts hr (pa_cons (fv 0) (pa_cons (fv 1) pa_nil))) (nomark _)))))
      (pss_one (ps_ret (pe_bl)))
      pss_nil)
    (pss_cons (ps_expr (m_append (pe_fld (fv 10) rfl) (pa_cons (pe_int) pa_nil)))
    (pss_cons (ps_expr (m_append (pe_fld (fv 10) rfl) (pa_cons (pe_int) pa_nil)))
    (pss_cons (ps_expr (m_clearD (pe_fld (fv 10) rfl)))
    (pss_one (ps_ret (pe_callD D_law_book hr (pa_cons (pe_callD D_run hr (pa_cons (fv 6) (pa_cons (fv 7) pa_nil))) (pa_cons (fv 9) pa_nil)))))))))))))))))))))))), ?_⟩
    refine seq_cut fun M1 K1 => ?_
    refine ⟨rfl, fun H1 s1 => ⟨true, rfl, iteF (K1 _ _ ?_)⟩⟩
    refine seq_cut fun M2 K2 => ?_
    have hS1 := s1.seq hS
    refine ⟨8, rfl, by decide, by decide, comp_range (lo := 0) (n := 8) (fun _ => true) (fun i => .str (N i)) (by decide) (fun b i H2 R _ _ k => k _ (Same.refl _)) (fun b i H2 R hi _ s2 k => ?_) (fun nl H2 hnl s2 e2 => ?_)⟩
    · refine ⟨a, ns, 0, rfl, s2.seq hS1, by decide, ?_⟩
      refine ⟨cellAt ns 0, i, by show [V.int (cellAt ns 0), V.int (0 + (i : Int))] = _; rw [Int.zero_add], by omega, fun H3 s3 => ?_⟩
      rw [← hNd]
      exact k _ s3
    have hN2 : H2 nl = some (.lst (nms N)) := by rw [e2, filter_true]; rfl
    have hS2 := s2.seq hS1
    refine K2 _ _ ?_
    refine seq_cut fun M3 K3 => ?_
    refine ⟨a, ns, 1, rfl, hS2, by decide, (by show (0 : Int) < 4; decide), K3 _ _ ?_⟩
    have hkd := mod_in (cellAt ns 1) (show (0 : Int) < 4 by decide)
    dsimp only
    generalize cellAt ns 1 % 4 = kd at hkd ⊢
    refine seq_cut fun M4 K4 => ?_
    refine ⟨a, nl, ns, rfl, hS2, hN2, fun val p H3 vo s3 hp => K4 _ _ ?_⟩
    refine seq_cut fun M5 K5 => ?_
    have hN3 := s3 _ _ hN2
    have hS3 := s3.seq hS2
    refine ⟨a, ns, 8, rfl, hS3, by decide, _, nl, rfl, hN3, fun th tk => K5 _ _ ?_⟩
    refine seq_cut fun M6 K6 => ?_
    refine Or.inl ⟨_, _, Or.inl (SqL.of hN3), nms_k (i := 2) (by decide), ?_⟩
    refine fun r4 dx4 hr4 hd_ hne_ => mk_SetRow hr4 hd_ fun H4 s4 hx4 => ⟨rfl, ?_⟩
    refine Or.inl ⟨_, _, Or.inl (SqL.of (s4 _ _ hN3)), nms_k (i := 5) (by decide), ?_⟩
    refine fun r5 dx5 hr5 hd_ hne_ => mk_PutRow hr5 hd_ fun H5 s5 hx5 => ⟨rfl, ?_⟩
    refine Or.inl ⟨_, _, Or.inl (SqL.of (s5 _ _ (s4 _ _ hN3))), nms_k (i := 6) (by decide), ?_⟩
    refine fun r6 dx6 hr6 hd_ hne_ => mk_SendRow hr6 hd_ fun H6 s6 hx6 => ⟨rfl, ?_⟩
    have t36 := (s4.trans s5).trans s6
    refine ⟨(show 3 ≤ sizeLine by decide), fun RL hRL => ?_⟩
    have s7 := Same.upd hRL (HO.lst [V.ref r4, .ref r5, .ref r6])
    have e7 : (upd H6 RL (HO.lst [V.ref r4, .ref r5, .ref r6])) RL = some (.lst [V.ref r4, .ref r5, .ref r6]) := upd_same
    have RL3 := Same.free t36 hRL
    generalize upd H6 RL (HO.lst [V.ref r4, .ref r5, .ref r6]) = H7 at s7 e7 ⊢
    refine K6 _ _ ?_
    refine seq_cut fun M7 K7 => ?_
    have t37 := t36.trans s7
    have hN7 := SqL.of (K := K) (t37 _ _ hN3)
    refine ⟨Or.inl ⟨rfl, _, SqL.of e7⟩, Or.inl ⟨_, _, Or.inl hN7, nms_k (i := 2) (by decide), Or.inl ⟨_, _, Or.inl hN7, nms_k (i := 7) (by decide), ?_⟩⟩⟩
    refine fun r8 dx8 hr8 hd_ hne_ => mk_SayRow hr8 hd_ fun H8 s8 hx8 => ⟨rfl, ?_⟩
    refine ⟨_, _, _, rfl, rfl, s8 _ _ e7, (show 3 < sizeLine by decide), ?_⟩
    have t38 := t37.trans s8
    have st := StayI.at (s8 _ _ e7) (.lst ([V.ref r4, .ref r5, .ref r6] ++ [.ref r8]))
    have hp8 := t38 _ _ hp
    have R0 : RowAt A N (upd H8 RL (.lst ([V.ref r4, .ref r5, .ref r6] ++ [.ref r8]))) (.ref r4) (rowOf N 0 th val) := RowAt.stayI st (r := .set 10 2 val) ⟨vo, r4, dx4, p, rfl, s8 _ _ (s7 _ _ (s6 _ _ (s5 _ _ hx4))), hp8, by decide⟩
    have R1 : RowAt A N (upd H8 RL (.lst ([V.ref r4, .ref r5, .ref r6] ++ [.ref r8]))) (.ref r5) (rowOf N 1 th val) := RowAt.stayI st (r := .put 10 th val) ⟨vo, r5, dx5, p, rfl, s8 _ _ (s7 _ _ (s6 _ _ hx5)), hp8, tk⟩
    have R2 : RowAt A N (upd H8 RL (.lst ([V.ref r4, .ref r5, .ref r6] ++ [.ref r8]))) (.ref r6) (rowOf N 2 th val) := RowAt.stayI st (r := .snd 10 (N 6) val) ⟨vo, r6, dx6, p, rfl, s8 _ _ (s7 _ _ hx6), hp8⟩
    have R3 : RowAt A N (upd H8 RL (.lst ([V.ref r4, .ref r5, .ref r6] ++ [.ref r8]))) (.ref r8) (rowOf N 3 th val) := RowAt.stayI st (r := .say 10 2 val (N 7)) ⟨vo, r8, dx8, p, rfl, hx8, hp8, by decide⟩
    have s9 : Same H3 (upd H8 RL (.lst ([V.ref r4, .ref r5, .ref r6] ++ [.ref r8]))) := Same.out t38 RL3 _
    have e9 : (upd H8 RL (.lst ([V.ref r4, .ref r5, .ref r6] ++ [.ref r8]))) RL = some (.lst [V.ref r4, .ref r5, .ref r6, .ref r8]) := upd_same
    generalize upd H8 RL (.lst ([V.ref r4, .ref r5, .ref r6] ++ [.ref r8])) = H9 at R0 R1 R2 R3 s9 e9 ⊢
    obtain ⟨rv, hat, Wr⟩ := four_at (R := fun k v => RowAt A N H9 v (rowOf N k th val)) R0 R1 R2 R3 hkd
    clear R0 R1 R2 R3 st s4 s5 s6 s7 s8 hx4 hx5 hx6 hx8 t36 t37 t38 e7 hN7
    refine K7 _ _ ?_
    refine seq_cut fun M8 K8 => ?_
    have hN9 := s9 _ _ hN3
    have hS9 := s9.seq hS3
    obtain ⟨z, hz⟩ : ∃ z : Nat, (z : Int) = 1 + cellAt ns 5 % 20 := ⟨(1 + cellAt ns 5 % 20).toNat, by have := mod_in (cellAt ns 5) (show (0 : Int) < 20 by decide); omega⟩
    obtain ⟨m, hm⟩ : ∃ m : Nat, (m : Int) = 1 + cellAt ns 6 % 20 := ⟨(1 + cellAt ns 6 % 20).toNat, by have := mod_in (cellAt ns 6) (show (0 : Int) < 20 by decide); omega⟩
    obtain ⟨t, htn⟩ : ∃ t : Nat, (t : Int) = cellAt ns 7 % 8 := ⟨(cellAt ns 7 % 8).toNat, by have := mod_in (cellAt ns 7) (show (0 : Int) < 8 by decide); omega⟩
    have z20 := mod_in (cellAt ns 5) (show (0 : Int) < 20 by decide)
    have m20 := mod_in (cellAt ns 6) (show (0 : Int) < 20 by decide)
    have t8 : t < 8 := by have := mod_in (cellAt ns 7) (show (0 : Int) < 8 by decide); omega
    have O := turn_ord t8
    refine ⟨a, nl, ns, z, m, t, rfl, hS9, hN9, hz, hm, htn, fun HL hv H10 s10 _ hHL Hh => ?_⟩
    refine ⟨Nat.zero_le _, fun dl hdl => ?_⟩
    have s11 := Same.upd hdl (HO.lst [])
    have e11 : (upd H10 dl (HO.lst [])) dl = some (.lst []) := upd_same
    generalize upd H10 dl (HO.lst []) = H11 at s11 e11 ⊢
    refine Or.inl ⟨_, _, Or.inl (SqL.of (s11 _ _ (s10 _ _ e9))), hat, (show 1 ≤ sizeLine by decide), fun ml hml => ?_⟩
    have s12 := Same.upd hml (HO.lst [rv])
    have e12 : (upd H11 ml (HO.lst [rv])) ml = some (.lst [rv]) := upd_same
    generalize upd H11 ml (HO.lst [rv]) = H12 at s12 e12 ⊢
    have t1012 := s11.trans s12
    refine fun r dx hr13 hd_ hne_ => mk_Program (SqL.of (t1012 _ _ hHL)) (SqL.of (s12 _ _ e11)) (SqL.of e12) hr13 hd_ fun nh nd nm H13 hnh hnd hnm s13 hlh hld hlm hx13 => ⟨rfl, ?_⟩
    have t1013 := t1012.trans s13
    have PR : PrAt A N H13 ⟨r, dx, nh, nd, nm⟩ hv (turn t) z m [rv] := ⟨hx13, hlh, hld, hlm, Paired.mapP Hh fun _ _ => HeadAt.same t1013⟩
    have t913 := s10.trans t1013
    have W13 : RowAt A N H13 rv (rowOf N kd th val) := RowAt.same t913 Wr
    have hN13 := t913 _ _ hN9
    have hS13 := t913.seq hS9
    have hp13 := t913 _ _ (s9 _ _ hp)
    refine K8 _ _ ?_
    clear Hh hHL hlh hld hlm hx13 s11 s12 s13 e11 e12 t1012 t1013 s10 e9
    refine seq_cut fun M9 K9 => ?_
    refine ⟨a, nl, ns, z, Di, rfl, hS13, hN13, hz, fun g l H14 s14 _ _ _ G => K9 _ _ ?_⟩
    refine seq_cut fun M10 K10 => ?_
    refine ⟨a, nl, ns, z, Di, rfl, s14.seq hS13, s14 _ _ hN13, hz, fun c l' H15 s15 c0 l0' cl' G15 => K10 _ _ ?_⟩
    have zl : (gL ns z).length = z := by unfold gL; rw [List.length_map, List.length_range]
    have hm' : 0 < m ∧ m ≤ 1000 := ⟨by omega, by omega⟩
    have c15 : H15 c = some (.dK (dk N [0, 1, 4] (cv l' 0 (num0 (gX ns) (gY ns))))) := by rw [G15.d]; rfl
    have l15 := G15.l
    have hN14 := s14 _ _ hN13
    have hS14 := s14.seq hS13
    refine seq_cut fun M11 K11 => ?_
    refine Or.inl ⟨_, _, Or.inl (SqL.of (s15 _ _ hN14)), nms_k (i := 2) (by decide), _, DPut.k (k := .inr (N 2)) c15 (show 3 < sizeLine by decide), ?_⟩
    have p11 : putK (dk N [0, 1, 4] (cv l' 0 (num0 (gX ns) (gY ns)))) (.inr (N 2)) (.int 0) = dk N [0, 1, 4, 2] (cv l' 0 (num0 (gX ns) (gY ns))) := dk_step Di (by decide) (lt12 (by decide)) (by decide) rfl
    rw [p11]
    have s16 : Same H14 (upd H15 c (HO.dK (dk N [0, 1, 4, 2] (cv l' 0 (num0 (gX ns) (gY ns)))))) := Same.out s15 c0 _
    have c16 : (upd H15 c (HO.dK (dk N [0, 1, 4, 2] (cv l' 0 (num0 (gX ns) (gY ns)))))) c = some (.dK (dk N [0, 1, 4, 2] (cv l' 0 (num0 (gX ns) (gY ns))))) := upd_same
    have l16 : (upd H15 c (HO.dK (dk N [0, 1, 4, 2] (cv l' 0 (num0 (gX ns) (gY ns)))))) l' = some (.lst ((gL ns z).map V.int)) := by rw [upd_ne (Ne.symm cl')]; exact l15
    show M11 _ (upd H15 c (HO.dK (dk N [0, 1, 4, 2] (cv l' 0 (num0 (gX ns) (gY ns))))))
    generalize upd H15 c (HO.dK (dk N [0, 1, 4, 2] (cv l' 0 (num0 (gX ns) (gY ns))))) = H16 at s16 c16 l16 ⊢
    refine K11 _ _ ?_
    refine seq_cut fun M12 K12 => ?_
    refine Or.inl ⟨_, _, Or.inl (SqL.of (s16 _ _ hN14)), nms_k (i := 3) (by decide), _, DPut.k (k := .inr (N 3)) c16 (show 4 < sizeLine by decide), ?_⟩
    have p12 : putK (dk N [0, 1, 4, 2] (cv l' 0 (num0 (gX ns) (gY ns)))) (.inr (N 3)) (.int 0) = dk N [0, 1, 4, 2, 3] (cv l' 0 (num0 (gX ns) (gY ns))) := dk_step Di (by decide) (lt12 (by decide)) (by decide) rfl
    rw [p12]
    have s17 : Same H14 (upd H16 c (HO.dK (dk N [0, 1, 4, 2, 3] (cv l' 0 (num0 (gX ns) (gY ns)))))) := Same.out s16 c0 _
    have c17 : (upd H16 c (HO.dK (dk N [0, 1, 4, 2, 3] (cv l' 0 (num0 (gX ns) (gY ns)))))) c = some (.dK (dk N [0, 1, 4, 2, 3] (cv l' 0 (num0 (gX ns) (gY ns))))) := upd_same
    have l17 : (upd H16 c (HO.dK (dk N [0, 1, 4, 2, 3] (cv l' 0 (num0 (gX ns) (gY ns)))))) l' = some (.lst ((gL ns z).map V.int)) := by rw [upd_ne (Ne.symm cl')]; exact l16
    show M12 _ (upd H16 c (HO.dK (dk N [0, 1, 4, 2, 3] (cv l' 0 (num0 (gX ns) (gY ns))))))
    generalize upd H16 c (HO.dK (dk N [0, 1, 4, 2, 3] (cv l' 0 (num0 (gX ns) (gY ns))))) = H17 at s17 c17 l17 ⊢
    refine K12 _ _ ?_
    clear s15 s16 c15 c16 l15 l16
    refine seq_cut fun M13 K13 => ?_
    refine ⟨(show 1 ≤ sizeLine by decide), fun l1 hl1 => ?_⟩
    have s18 := Same.upd hl1 (HO.lst [V.int 0])
    have e18 : (upd H17 l1 (HO.lst [V.int 0])) l1 = some (.lst [V.int 0]) := upd_same
    generalize upd H17 l1 (HO.lst [V.int 0]) = H18 at s18 e18 ⊢
    refine ⟨a, ns, 6, rfl, (s17.trans s18).seq hS14, by decide, (by show (0 : Int) < 20; decide), ?_⟩
    refine ⟨_, e18, by omega, by omega, ?_, fun kl' hkl' => ?_⟩
    · show 1 * (1 + cellAt ns 6 % 20).toNat ≤ sizeLine
      have := sz (show (1 + cellAt ns 6 % 20).toNat ≤ 1000 by omega)
      omega
    have s19 := Same.upd hkl' (HO.lst (List.replicate (1 + cellAt ns 6 % 20).toNat [V.int 0]).flatten)
    have e19 : (upd H18 kl' (HO.lst (List.replicate (1 + cellAt ns 6 % 20).toNat [V.int 0]).flatten)) kl' = some (.lst ((zeros m).map V.int)) := by
      rw [upd_same, show (1 + cellAt ns 6 % 20).toNat = m by omega, zeros_flat]
    generalize upd H18 kl' (HO.lst (List.replicate (1 + cellAt ns 6 % 20).toNat [V.int 0]).flatten) = H19 at s19 e19 ⊢
    have t19 := s18.trans s19
    have kc : kl' ≠ c := fun w => by rw [w, s18 _ _ c17] at hkl'; cases hkl'
    refine Or.inl ⟨_, _, Or.inl (SqL.of (t19 _ _ (s17 _ _ hN14))), nms_k (i := 5) (by decide), _, DPut.k (k := .inr (N 5)) (t19 _ _ c17) (show 5 < sizeLine by decide), ?_⟩
    have p13 : putK (dk N [0, 1, 4, 2, 3] (cv l' 0 (num0 (gX ns) (gY ns)))) (.inr (N 5)) (.ref kl') = dk N lI (cv l' kl' (num0 (gX ns) (gY ns))) := by
      rw [cv_kl (sl := l') (kl := 0) (kl' := kl') (num := num0 (gX ns) (gY ns)) (ks := [0, 1, 4, 2, 3]) (by decide)]
      exact dk_step Di (by decide) (lt12 (by decide)) (by decide) rfl
    rw [p13]
    have s20 : Same H14 (upd H19 c (HO.dK (dk N lI (cv l' kl' (num0 (gX ns) (gY ns)))))) := Same.out (s17.trans t19) c0 _
    have L20 : LawC N (upd H19 c (HO.dK (dk N lI (cv l' kl' (num0 (gX ns) (gY ns)))))) c l' kl' (S.new (gX ns) (gY ns) (gL ns z) m) := ⟨upd_same, by rw [upd_ne (Ne.symm cl')]; exact t19 _ _ l17, by rw [upd_ne kc]; exact e19⟩
    show M13 _ (upd H19 c (HO.dK (dk N lI (cv l' kl' (num0 (gX ns) (gY ns))))))
    generalize upd H19 c (HO.dK (dk N lI (cv l' kl' (num0 (gX ns) (gY ns))))) = H20 at s20 L20 ⊢
    refine K13 _ _ ?_
    clear s17 s18 s19 e18 e19 t19 kc hl1 hkl' c17 l17 G15
    have ok0 : (S.new (gX ns) (gY ns) (gL ns z) m).ok := new_ok G.hx G.hy G.hr G.hz hm'
    have fl0 : (S.new (gX ns) (gY ns) (gL ns z) m).fl := ⟨fun w h => (by cases h), fun w h => (by cases h), fun w h => (by cases h), rfl⟩
    have sh0 : (S.new (gX ns) (gY ns) (gL ns z) m).short 0 := ⟨Nat.le_refl _, Nat.le_refl _, Nat.le_refl _⟩
    have t1320 := s14.trans s20
    refine seq_cut fun M14 K14 => ?_
    refine ⟨kd, c, nl, l', kl', p, gX ns, gY ns, gL ns z, m, th, val, Di, rfl, hkd, L20, ok0, s20 _ _ hN14, tk, vo, t1320 _ _ hp13, fun d le sa tr en kk H21 s21 U => K14 _ _ ?_⟩
    have t1321 := t1320.trans s21
    have hN21 := t1321 _ _ hN13
    have hS21 := t1321.seq hS13
    have PR21 : PrAt A N H21 ⟨r, dx, nh, nd, nm⟩ hv (turn t) (gL ns z).length m [rv] := by rw [zl]; exact PR.same t1321
    have W21 : PySem.Paired (RowAt A N H21) [rv] [rowOf N kd th val] := .cons (RowAt.same t1321 W13) .nil
    have G21 := G.same (s20.trans s21)
    have fl1 := fl0.leaf (rowOf N kd th val)
    have sh1 := short_leaf sh0 (rowOf N kd th val)
    clear PR W13 L20 G s20 s21 t1320 t1321 c0 l0' cl' sh0 fl0 s14
    refine seq_cut fun M15 K15 => ?_
    refine ⟨N, turn t, _, hv, g, l, gX ns, gY ns, gL ns z, m, [rv], [rowOf N kd th val], Di, O, rfl, PR21, G21, hm', W21, (show 1 ≤ 1000 by decide), fun b db lt sd tt e sl kl H22 s22 lt0 t0 e0 B ok => K15 _ _ ?_⟩
    have B' : DoneBk A N (turn t) H22 b db lt sd tt e sl kl (leaf (S.new (gX ns) (gY ns) (gL ns z) m) (rowOf N kd th val)) := B
    have ok' : (leaf (S.new (gX ns) (gY ns) (gL ns z) m) (rowOf N kd th val)).ok := ok
    clear B ok
    have ee : e ≠ en := fun w => by rw [w, U.e] at e0; cases e0
    refine seq_cut fun M16 K16 => ?_
    refine ⟨turn t, b, db, lt, sd, tt, e, sl, kl, d, le, sa, tr, en, kk, _, Di, O, turn_e3 t8, rfl, B', U.same s22, ee, fl1, by have := sh1.1; omega, by have := sh1.2.1; omega, by have := sh1.2.2; omega, (ok'.ne true).2, fun H23 s23 => ⟨true, rfl, iteF ?_⟩⟩
    have t23 := s22.trans s23
    refine ⟨a, nl, ns, z, Di, rfl, t23.seq hS21, t23 _ _ hN21, hz, fun g2 l2 H24 s24 _ _ _ G24 => ?_⟩
    have t24 := t23.trans s24
    have Gd := G21.same t24
    refine ⟨g, g2, _, _, rfl, rfl, Or.inl Gd.d, Or.inl G24.d, rfl, fun kk v hv => ?_, false, rfl, iteF (K16 _ _ ?_)⟩
    · obtain ⟨i, hi, rfl, ev⟩ := dk_find Di hv
      have ev := ev (lt12 (by decide))
      refine ⟨gv l2 (gX ns) (gY ns) i, dk_get Di (lt12 (by decide)) hi, ?_⟩
      rw [ev]
      simp only [List.mem_cons, List.not_mem_nil, or_false] at hi
      rcases hi with rfl | rfl | rfl
      · exact Or.inl ⟨rfl, rfl⟩
      · exact Or.inl ⟨rfl, rfl⟩
      · exact Or.inr ⟨l, l2, _, rfl, rfl, SqL.of Gd.l, SqL.of G24.l, ints_flat _⟩
    have t2224 := s23.trans s24
    have hb24 := t2224 _ _ B'.hb
    have he24 := t2224 _ _ B'.he
    obtain ⟨xl, hxl, txl⟩ := B'.hl
    obtain ⟨xt, hxt, txt⟩ := B'.ht
    have xll : xl.length ≤ 1 := by rw [txl.len]; exact sh1.2.1
    have xtl : xt.length ≤ 1 := by rw [txt.len]; exact sh1.1
    have hl24 := t2224 _ _ hxl
    have ht24 := t2224 _ _ hxt
    have tl := B'.tl
    have bl : b ≠ lt := fun w => by rw [w, hl24] at hb24; cases hb24
    have bt : b ≠ tt := fun w => by rw [w, ht24] at hb24; cases hb24
    have el : e ≠ lt := fun w => by rw [w, hl24] at he24; cases he24
    have et : e ≠ tt := fun w => by rw [w, ht24] at he24; cases he24
    clear hxl hxt txl txt B' s22 s23 s24 t23 t2224 Gd G24
    refine seq_cut fun M17 K17 => ?_
    refine ⟨b, _, db, _, _, rfl, hb24, T.o_Book.cl, T.n_Book_letters, rfl, Or.inl ⟨rfl, _, SqL.of hl24⟩, _, _, _, rfl, rfl, hl24, small1000 (by omega), K17 _ _ ?_⟩
    have s25 : Same H21 (upd H24 lt (HO.lst (xl ++ [V.int 1]))) := Same.out t24 lt0 _
    have hb25 : (upd H24 lt (HO.lst (xl ++ [V.int 1]))) b = _ := (upd_ne bl).trans hb24
    have he25 : (upd H24 lt (HO.lst (xl ++ [V.int 1]))) e = _ := (upd_ne el).trans he24
    have ht25 : (upd H24 lt (HO.lst (xl ++ [V.int 1]))) tt = _ := (upd_ne tl).trans ht24
    generalize upd H24 lt (HO.lst (xl ++ [V.int 1])) = H25 at s25 hb25 he25 ht25 ⊢
    refine seq_cut fun M18 K18 => ?_
    refine ⟨b, _, db, _, _, rfl, hb25, T.o_Book.cl, T.n_Book_trace, rfl, Or.inl ⟨rfl, _, SqL.of ht25⟩, _, _, _, rfl, rfl, ht25, small1000 (by omega), K18 _ _ ?_⟩
    have s26 : Same H21 (upd H25 tt (HO.lst (xt ++ [V.int 2]))) := Same.out s25 t0 _
    have hb26 : (upd H25 tt (HO.lst (xt ++ [V.int 2]))) b = _ := (upd_ne bt).trans hb25
    have he26 : (upd H25 tt (HO.lst (xt ++ [V.int 2]))) e = _ := (upd_ne et).trans he25
    generalize upd H25 tt (HO.lst (xt ++ [V.int 2])) = H26 at s26 hb26 he26 ⊢
    refine seq_cut fun M19 K19 => ?_
    refine ⟨b, _, db, _, _, rfl, hb26, T.o_Book.cl, T.n_Book_ends, rfl, Or.inr (Or.inr (Or.inl ⟨rfl, Or.inl ⟨_, he26⟩⟩)), e, _, rfl, rfl, he26, K19 _ _ ?_⟩
    have s27 : Same H21 (upd H26 e (HO.dK [])) := Same.out s26 e0 _
    generalize upd H26 e (HO.dK []) = H27 at s27 ⊢
    have W27 : PySem.Paired (RowAt A N H27) [rv] [rowOf N kd th val] := Paired.mapP W21 fun _ _ => RowAt.same s27
    refine ⟨N, turn t, _, hv, g, l, gX ns, gY ns, gL ns z, m, [rv], [rowOf N kd th val], Di, O, rfl, PR21.same s27, G21.same s27, hm', W27, (show 1 ≤ 1000 by decide), fun b2 db2 lt2 sd2 tt2 e2 sl2 kl2 H28 s28 _ _ e02 B2 ok2 => ?_⟩
    have B2' : DoneBk A N (turn t) H28 b2 db2 lt2 sd2 tt2 e2 sl2 kl2 (leaf (S.new (gX ns) (gY ns) (gL ns z) m) (rowOf N kd th val)) := B2
    have U27 := U.same s27
    have ee2 : e2 ≠ en := fun w => by rw [w, U27.e] at e02; cases e02
    exact ⟨turn t, b2, db2, lt2, sd2, tt2, e2, sl2, kl2, d, le, sa, tr, en, kk, _, Di, O, turn_e3 t8, rfl, B2', U27.same s28, ee2, fl1, by have := sh1.1; omega, by have := sh1.2.1; omega, by have := sh1.2.2; omega, (ok'.ne true).2, fun H29 _ => q H29⟩
end
end K22

set_option Elab.async false
set_option linter.all false
set_option maxRecDepth 100000
set_option maxHeartbeats 4000000
namespace K22
open PySem L2
theorem exC {us : List Value} {n : Nat} (h : us.length = n + 1) : ∃ b t, us = b :: t ∧ t.length = n := by
  cases us with
  | nil => cases h
  | cons b t => exact ⟨b, t, rfl, Nat.succ.inj h⟩
theorem exN0 {us : List Value} (h : us.length = 0) : us = [] := by
  cases us with
  | nil => rfl
  | cons b t => cases h
theorem exN1 {us : List Value} (h : us.length = 1) : ∃ b0, us = [b0] := by
  obtain ⟨b0, t, rfl, e⟩ := exC h
  obtain ⟨rfl⟩ := exN0 e
  exact ⟨b0, rfl⟩
theorem exN2 {us : List Value} (h : us.length = 2) : ∃ b0 b1, us = [b0, b1] := by
  obtain ⟨b0, t, rfl, e⟩ := exC h
  obtain ⟨b1, rfl⟩ := exN1 e
  exact ⟨b0, b1, rfl⟩
theorem exN3 {us : List Value} (h : us.length = 3) : ∃ b0 b1 b2, us = [b0, b1, b2] := by
  obtain ⟨b0, t, rfl, e⟩ := exC h
  obtain ⟨b1, b2, rfl⟩ := exN2 e
  exact ⟨b0, b1, b2, rfl⟩
theorem exN4 {us : List Value} (h : us.length = 4) : ∃ b0 b1 b2 b3, us = [b0, b1, b2, b3] := by
  obtain ⟨b0, t, rfl, e⟩ := exC h
  obtain ⟨b1, b2, b3, rfl⟩ := exN3 e
  exact ⟨b0, b1, b2, b3, rfl⟩
theorem exN5 {us : List Value} (h : us.length = 5) : ∃ b0 b1 b2 b3 b4, us = [b0, b1, b2, b3, b4] := by
  obtain ⟨b0, t, rfl, e⟩ := exC h
  obtain ⟨b1, b2, b3, b4, rfl⟩ := exN4 e
  exact ⟨b0, b1, b2, b3, b4, rfl⟩
theorem exN6 {us : List Value} (h : us.length = 6) : ∃ b0 b1 b2 b3 b4 b5, us = [b0, b1, b2, b3, b4, b5] := by
  obtain ⟨b0, t, rfl, e⟩ := exC h
  obtain ⟨b1, b2, b3, b4, b5, rfl⟩ := exN5 e
  exact ⟨b0, b1, b2, b3, b4, b5, rfl⟩
theorem all_mk {l : PySem.W.OpenLaw} {w : World} {K : PySem.W.Frag} {h : Heap} {mg : Str → Option Value} {fa f1 f2 f3 f4 f5 f6 f7 f8 f9 f10 f11 f12 f13 f14 f15 f16 f17 f18 f19 f20 f21 f22 f23 A_Book A_Row A_HandRow A_GivenRow A_OwnRow A_LetRow A_SetRow A_PutRow A_SendRow A_SayRow A_CallRow A_LastRow A_IfRow A_LoopRow A_Program A_Run : Addr} (X : K.In h) (G : h.Ns mainGlobals mg) (hfa : mg "law" = some (.ref fa))
    {od1 an1 : Option Addr} {sl1 : Array (Option Value)} {oc1 kV1 dc1 pm1 cd1 ct1 : Value}
    (a1 : PySem.W.nsIn K mainGlobals "is_number" = some (some (.ref f1))) (l1 : K.lookup f1 = some ⟨oc1, od1, .func (PySem.W.fnOf "is_number" "is_number" (defArgs s_is_number) (defBody s_is_number) (defScope s_is_number) .none kV1 dc1 pm1 an1 cd1 ct1), sl1⟩) (c1 : PySem.W.codeIn K cd1 "is_number" = true) (k1 : PySem.W.keepIn K (.ref f1) = true)
    {od2 an2 : Option Addr} {sl2 : Array (Option Value)} {oc2 kV2 dc2 pm2 cd2 ct2 : Value}
    (a2 : PySem.W.nsIn K mainGlobals "is_good" = some (some (.ref f2))) (l2 : K.lookup f2 = some ⟨oc2, od2, .func (PySem.W.fnOf "is_good" "is_good" (defArgs s_is_good) (defBody s_is_good) (defScope s_is_good) .none kV2 dc2 pm2 an2 cd2 ct2), sl2⟩) (c2 : PySem.W.codeIn K cd2 "is_good" = true) (k2 : PySem.W.keepIn K (.ref f2) = true)
    {od3 an3 : Option Addr} {sl3 : Array (Option Value)} {oc3 kV3 dc3 pm3 cd3 ct3 : Value}
    (a3 : PySem.W.nsIn K mainGlobals "given_cell" = some (some (.ref f3))) (l3 : K.lookup f3 = some ⟨oc3, od3, .func (PySem.W.fnOf "given_cell" "given_cell" (defArgs s_given_cell) (defBody s_given_cell) (defScope s_given_cell) .none kV3 dc3 pm3 an3 cd3 ct3), sl3⟩) (c3 : PySem.W.codeIn K cd3 "given_cell" = true) (k3 : PySem.W.keepIn K (.ref f3) = true)
    {od4 an4 : Option Addr} {sl4 : Array (Option Value)} {oc4 kV4 dc4 pm4 cd4 ct4 : Value}
    (a4 : PySem.W.nsIn K mainGlobals "own_cell" = some (some (.ref f4))) (l4 : K.lookup f4 = some ⟨oc4, od4, .func (PySem.W.fnOf "own_cell" "own_cell" (defArgs s_own_cell) (defBody s_own_cell) (defScope s_own_cell) .none kV4 dc4 pm4 an4 cd4 ct4), sl4⟩) (c4 : PySem.W.codeIn K cd4 "own_cell" = true) (k4 : PySem.W.keepIn K (.ref f4) = true)
    {od5 an5 : Option Addr} {sl5 : Array (Option Value)} {oc5 kV5 dc5 pm5 cd5 ct5 : Value}
    (a5 : PySem.W.nsIn K mainGlobals "cells_of" = some (some (.ref f5))) (l5 : K.lookup f5 = some ⟨oc5, od5, .func (PySem.W.fnOf "cells_of" "cells_of" (defArgs s_cells_of) (defBody s_cells_of) (defScope s_cells_of) .none kV5 dc5 pm5 an5 cd5 ct5), sl5⟩) (c5 : PySem.W.codeIn K cd5 "cells_of" = true) (k5 : PySem.W.keepIn K (.ref f5) = true)
    {od6 an6 : Option Addr} {sl6 : Array (Option Value)} {oc6 kV6 dc6 pm6 cd6 ct6 : Value}
    (a6 : PySem.W.nsIn K mainGlobals "reckon" = some (some (.ref f6))) (l6 : K.lookup f6 = some ⟨oc6, od6, .func (PySem.W.fnOf "reckon" "reckon" (defArgs s_reckon) (defBody s_reckon) (defScope s_reckon) .none kV6 dc6 pm6 an6 cd6 ct6), sl6⟩) (c6 : PySem.W.codeIn K cd6 "reckon" = true) (k6 : PySem.W.keepIn K (.ref f6) = true)
    {od7 an7 : Option Addr} {sl7 : Array (Option Value)} {oc7 kV7 dc7 pm7 cd7 ct7 : Value}
    (a7 : PySem.W.nsIn K mainGlobals "round_place" = some (some (.ref f7))) (l7 : K.lookup f7 = some ⟨oc7, od7, .func (PySem.W.fnOf "round_place" "round_place" (defArgs s_round_place) (defBody s_round_place) (defScope s_round_place) .none kV7 dc7 pm7 an7 cd7 ct7), sl7⟩) (c7 : PySem.W.codeIn K cd7 "round_place" = true) (k7 : PySem.W.keepIn K (.ref f7) = true)
    {od8 an8 : Option Addr} {sl8 : Array (Option Value)} {oc8 kV8 dc8 pm8 cd8 ct8 : Value}
    (a8 : PySem.W.nsIn K mainGlobals "ends_of" = some (some (.ref f8))) (l8 : K.lookup f8 = some ⟨oc8, od8, .func (PySem.W.fnOf "ends_of" "ends_of" (defArgs s_ends_of) (defBody s_ends_of) (defScope s_ends_of) .none kV8 dc8 pm8 an8 cd8 ct8), sl8⟩) (c8 : PySem.W.codeIn K cd8 "ends_of" = true) (k8 : PySem.W.keepIn K (.ref f8) = true)
    {od9 an9 : Option Addr} {sl9 : Array (Option Value)} {oc9 kV9 dc9 pm9 cd9 ct9 : Value}
    (a9 : PySem.W.nsIn K mainGlobals "run" = some (some (.ref f9))) (l9 : K.lookup f9 = some ⟨oc9, od9, .func (PySem.W.fnOf "run" "run" (defArgs s_run) (defBody s_run) (defScope s_run) .none kV9 dc9 pm9 an9 cd9 ct9), sl9⟩) (c9 : PySem.W.codeIn K cd9 "run" = true) (k9 : PySem.W.keepIn K (.ref f9) = true)
    {od10 an10 : Option Addr} {sl10 : Array (Option Value)} {oc10 kV10 dc10 pm10 cd10 ct10 : Value}
    (a10 : PySem.W.nsIn K mainGlobals "_law_cell_at" = some (some (.ref f10))) (l10 : K.lookup f10 = some ⟨oc10, od10, .func (PySem.W.fnOf "_law_cell_at" "_law_cell_at" (defArgs s_law_cell_at) (defBody s_law_cell_at) (defScope s_law_cell_at) .none kV10 dc10 pm10 an10 cd10 ct10), sl10⟩) (c10 : PySem.W.codeIn K cd10 "_law_cell_at" = true) (k10 : PySem.W.keepIn K (.ref f10) = true)
    {od11 an11 : Option Addr} {sl11 : Array (Option Value)} {oc11 kV11 dc11 pm11 cd11 ct11 : Value}
    (a11 : PySem.W.nsIn K mainGlobals "_law_name" = some (some (.ref f11))) (l11 : K.lookup f11 = some ⟨oc11, od11, .func (PySem.W.fnOf "_law_name" "_law_name" (defArgs s_law_name) (defBody s_law_name) (defScope s_law_name) .none kV11 dc11 pm11 an11 cd11 ct11), sl11⟩) (c11 : PySem.W.codeIn K cd11 "_law_name" = true) (k11 : PySem.W.keepIn K (.ref f11) = true)
    {od12 an12 : Option Addr} {sl12 : Array (Option Value)} {oc12 kV12 dc12 pm12 cd12 ct12 : Value}
    (a12 : PySem.W.nsIn K mainGlobals "_law_number" = some (some (.ref f12))) (l12 : K.lookup f12 = some ⟨oc12, od12, .func (PySem.W.fnOf "_law_number" "_law_number" (defArgs s_law_number) (defBody s_law_number) (defScope s_law_number) .none kV12 dc12 pm12 an12 cd12 ct12), sl12⟩) (c12 : PySem.W.codeIn K cd12 "_law_number" = true) (k12 : PySem.W.keepIn K (.ref f12) = true)
    {od13 an13 : Option Addr} {sl13 : Array (Option Value)} {oc13 kV13 dc13 pm13 cd13 ct13 : Value}
    (a13 : PySem.W.nsIn K mainGlobals "_law_thing" = some (some (.ref f13))) (l13 : K.lookup f13 = some ⟨oc13, od13, .func (PySem.W.fnOf "_law_thing" "_law_thing" (defArgs s_law_thing) (defBody s_law_thing) (defScope s_law_thing) .none kV13 dc13 pm13 an13 cd13 ct13), sl13⟩) (c13 : PySem.W.codeIn K cd13 "_law_thing" = true) (k13 : PySem.W.keepIn K (.ref f13) = true)
    {od14 an14 : Option Addr} {sl14 : Array (Option Value)} {oc14 kV14 dc14 pm14 cd14 ct14 : Value}
    (a14 : PySem.W.nsIn K mainGlobals "_law_value" = some (some (.ref f14))) (l14 : K.lookup f14 = some ⟨oc14, od14, .func (PySem.W.fnOf "_law_value" "_law_value" (defArgs s_law_value) (defBody s_law_value) (defScope s_law_value) .none kV14 dc14 pm14 an14 cd14 ct14), sl14⟩) (c14 : PySem.W.codeIn K cd14 "_law_value" = true) (k14 : PySem.W.keepIn K (.ref f14) = true)
    {od15 an15 : Option Addr} {sl15 : Array (Option Value)} {oc15 kV15 dc15 pm15 cd15 ct15 : Value}
    (a15 : PySem.W.nsIn K mainGlobals "_law_heads" = some (some (.ref f15))) (l15 : K.lookup f15 = some ⟨oc15, od15, .func (PySem.W.fnOf "_law_heads" "_law_heads" (defArgs s_law_heads) (defBody s_law_heads) (defScope s_law_heads) .none kV15 dc15 pm15 an15 cd15 ct15), sl15⟩) (c15 : PySem.W.codeIn K cd15 "_law_heads" = true) (k15 : PySem.W.keepIn K (.ref f15) = true)
    {od16 an16 : Option Addr} {sl16 : Array (Option Value)} {oc16 kV16 dc16 pm16 cd16 ct16 : Value}
    (a16 : PySem.W.nsIn K mainGlobals "_law_gifts" = some (some (.ref f16))) (l16 : K.lookup f16 = some ⟨oc16, od16, .func (PySem.W.fnOf "_law_gifts" "_law_gifts" (defArgs s_law_gifts) (defBody s_law_gifts) (defScope s_law_gifts) .none kV16 dc16 pm16 an16 cd16 ct16), sl16⟩) (c16 : PySem.W.codeIn K cd16 "_law_gifts" = true) (k16 : PySem.W.keepIn K (.ref f16) = true)
    {od17 an17 : Option Addr} {sl17 : Array (Option Value)} {oc17 kV17 dc17 pm17 cd17 ct17 : Value}
    (a17 : PySem.W.nsIn K mainGlobals "_law_taken" = some (some (.ref f17))) (l17 : K.lookup f17 = some ⟨oc17, od17, .func (PySem.W.fnOf "_law_taken" "_law_taken" (defArgs s_law_taken) (defBody s_law_taken) (defScope s_law_taken) .none kV17 dc17 pm17 an17 cd17 ct17), sl17⟩) (c17 : PySem.W.codeIn K cd17 "_law_taken" = true) (k17 : PySem.W.keepIn K (.ref f17) = true)
    {od18 an18 : Option Addr} {sl18 : Array (Option Value)} {oc18 kV18 dc18 pm18 cd18 ct18 : Value}
    (a18 : PySem.W.nsIn K mainGlobals "_law_reckoned" = some (some (.ref f18))) (l18 : K.lookup f18 = some ⟨oc18, od18, .func (PySem.W.fnOf "_law_reckoned" "_law_reckoned" (defArgs s_law_reckoned) (defBody s_law_reckoned) (defScope s_law_reckoned) .none kV18 dc18 pm18 an18 cd18 ct18), sl18⟩) (c18 : PySem.W.codeIn K cd18 "_law_reckoned" = true) (k18 : PySem.W.keepIn K (.ref f18) = true)
    {od19 an19 : Option Addr} {sl19 : Array (Option Value)} {oc19 kV19 dc19 pm19 cd19 ct19 : Value}
    (a19 : PySem.W.nsIn K mainGlobals "_law_same" = some (some (.ref f19))) (l19 : K.lookup f19 = some ⟨oc19, od19, .func (PySem.W.fnOf "_law_same" "_law_same" (defArgs s_law_same) (defBody s_law_same) (defScope s_law_same) .none kV19 dc19 pm19 an19 cd19 ct19), sl19⟩) (c19 : PySem.W.codeIn K cd19 "_law_same" = true) (k19 : PySem.W.keepIn K (.ref f19) = true)
    {od20 an20 : Option Addr} {sl20 : Array (Option Value)} {oc20 kV20 dc20 pm20 cd20 ct20 : Value}
    (a20 : PySem.W.nsIn K mainGlobals "_law_book" = some (some (.ref f20))) (l20 : K.lookup f20 = some ⟨oc20, od20, .func (PySem.W.fnOf "_law_book" "_law_book" (defArgs s_law_book) (defBody s_law_book) (defScope s_law_book) .none kV20 dc20 pm20 an20 cd20 ct20), sl20⟩) (c20 : PySem.W.codeIn K cd20 "_law_book" = true) (k20 : PySem.W.keepIn K (.ref f20) = true)
    {od21 an21 : Option Addr} {sl21 : Array (Option Value)} {oc21 kV21 dc21 pm21 cd21 ct21 : Value}
    (a21 : PySem.W.nsIn K mainGlobals "_law_due" = some (some (.ref f21))) (l21 : K.lookup f21 = some ⟨oc21, od21, .func (PySem.W.fnOf "_law_due" "_law_due" (defArgs s_law_due) (defBody s_law_due) (defScope s_law_due) .none kV21 dc21 pm21 an21 cd21 ct21), sl21⟩) (c21 : PySem.W.codeIn K cd21 "_law_due" = true) (k21 : PySem.W.keepIn K (.ref f21) = true)
    {od22 an22 : Option Addr} {sl22 : Array (Option Value)} {oc22 kV22 dc22 pm22 cd22 ct22 : Value}
    (a22 : PySem.W.nsIn K mainGlobals "_law_empty" = some (some (.ref f22))) (l22 : K.lookup f22 = some ⟨oc22, od22, .func (PySem.W.fnOf "_law_empty" "_law_empty" (defArgs s_law_empty) (defBody s_law_empty) (defScope s_law_empty) .none kV22 dc22 pm22 an22 cd22 ct22), sl22⟩) (c22 : PySem.W.codeIn K cd22 "_law_empty" = true) (k22 : PySem.W.keepIn K (.ref f22) = true)
    {od23 an23 : Option Addr} {sl23 : Array (Option Value)} {oc23 kV23 dc23 pm23 cd23 ct23 : Value}
    (a23 : PySem.W.nsIn K mainGlobals "law" = some (some (.ref f23))) (l23 : K.lookup f23 = some ⟨oc23, od23, .func (PySem.W.fnOf "law" "law" (defArgs s_law) (defBody s_law) (defScope s_law) .none kV23 dc23 pm23 an23 cd23 ct23), sl23⟩) (c23 : PySem.W.codeIn K cd23 "law" = true) (k23 : PySem.W.keepIn K (.ref f23) = true)
    (z_all : PySem.W.nsIn K mainGlobals "all" = some none)
    (z_bool : PySem.W.nsIn K mainGlobals "bool" = some none)
    (z_dict : PySem.W.nsIn K mainGlobals "dict" = some none)
    (z_divmod : PySem.W.nsIn K mainGlobals "divmod" = some none)
    (z_int : PySem.W.nsIn K mainGlobals "int" = some none)
    (z_isinstance : PySem.W.nsIn K mainGlobals "isinstance" = some none)
    (z_len : PySem.W.nsIn K mainGlobals "len" = some none)
    (z_list : PySem.W.nsIn K mainGlobals "list" = some none)
    (z_range : PySem.W.nsIn K mainGlobals "range" = some none)
    (z_str : PySem.W.nsIn K mainGlobals "str" = some none)
    (z_tuple : PySem.W.nsIn K mainGlobals "tuple" = some none)
    {tk_MOST_NUMBER : Tok} (g_MOST_NUMBER : PySem.W.nsIn K mainGlobals "MOST_NUMBER" = some (some (.int 999999999999 tk_MOST_NUMBER)))
    {tk_ROUND : Tok} (g_ROUND : PySem.W.nsIn K mainGlobals "ROUND" = some (some (.int 1000000000000 tk_ROUND)))
    (cg : PySem.W.specialIn K (.builtin "object.__class__") "__get__" = some (some (.builtin "getset_descriptor.__get__"))) (ct : PySem.W.takesIn K (.builtin "object.__class__") = some true)
    {xd_Book : ClassData} (x_Book : PySem.W.nsIn K mainGlobals "Book" = some (some (.ref A_Book))) (xl_Book : PySem.W.clsIn K A_Book = some xd_Book) (xm_Book : xd_Book.mro = [A_Book].map Value.ref ++ [Value.type "object"])
    (xpg_Book : PySem.W.plainGet K A_Book Str.empty = true)
    (xhd_Book : PySem.W.hasDictIn K A_Book = true)
    (xpo_Book : PySem.W.plainOver K A_Book = true)
    (xsa_Book : PySem.W.findIn K (.ref A_Book) "__setattr__" = some (some (.builtin "object.__setattr__")))
    (xty_Book : PySem.W.typeIn K (.ref A_Book) = some (.type "type"))
    (xkc_Book : PySem.W.findIn K (.ref A_Book) "__class__" = some (some (.builtin "object.__class__")))
    (xmk_Book : PySem.W.makesIn K A_Book = true)
    (xkp_Book : PySem.W.keepIn K (.ref A_Book) = true)
    {xd_Row : ClassData} (x_Row : PySem.W.nsIn K mainGlobals "Row" = some (some (.ref A_Row))) (xl_Row : PySem.W.clsIn K A_Row = some xd_Row) (xm_Row : xd_Row.mro = [A_Row].map Value.ref ++ [Value.type "object"])
    (xpg_Row : PySem.W.plainGet K A_Row Str.empty = true)
    (xhd_Row : PySem.W.hasDictIn K A_Row = true)
    (xpo_Row : PySem.W.plainOver K A_Row = true)
    (xsa_Row : PySem.W.findIn K (.ref A_Row) "__setattr__" = some (some (.builtin "object.__setattr__")))
    (xty_Row : PySem.W.typeIn K (.ref A_Row) = some (.type "type"))
    (xkc_Row : PySem.W.findIn K (.ref A_Row) "__class__" = some (some (.builtin "object.__class__")))
    (xmk_Row : PySem.W.makesIn K A_Row = true)
    (xkp_Row : PySem.W.keepIn K (.ref A_Row) = true)
    {xd_HandRow : ClassData} (x_HandRow : PySem.W.nsIn K mainGlobals "HandRow" = some (some (.ref A_HandRow))) (xl_HandRow : PySem.W.clsIn K A_HandRow = some xd_HandRow) (xm_HandRow : xd_HandRow.mro = [A_HandRow, A_Row].map Value.ref ++ [Value.type "object"])
    (xpg_HandRow : PySem.W.plainGet K A_HandRow Str.empty = true)
    (xhd_HandRow : PySem.W.hasDictIn K A_HandRow = true)
    (xpo_HandRow : PySem.W.plainOver K A_HandRow = true)
    (xsa_HandRow : PySem.W.findIn K (.ref A_HandRow) "__setattr__" = some (some (.builtin "object.__setattr__")))
    (xty_HandRow : PySem.W.typeIn K (.ref A_HandRow) = some (.type "type"))
    (xkc_HandRow : PySem.W.findIn K (.ref A_HandRow) "__class__" = some (some (.builtin "object.__class__")))
    (xmk_HandRow : PySem.W.makesIn K A_HandRow = true)
    (xkp_HandRow : PySem.W.keepIn K (.ref A_HandRow) = true)
    {xd_GivenRow : ClassData} (x_GivenRow : PySem.W.nsIn K mainGlobals "GivenRow" = some (some (.ref A_GivenRow))) (xl_GivenRow : PySem.W.clsIn K A_GivenRow = some xd_GivenRow) (xm_GivenRow : xd_GivenRow.mro = [A_GivenRow, A_Row].map Value.ref ++ [Value.type "object"])
    (xpg_GivenRow : PySem.W.plainGet K A_GivenRow Str.empty = true)
    (xhd_GivenRow : PySem.W.hasDictIn K A_GivenRow = true)
    (xpo_GivenRow : PySem.W.plainOver K A_GivenRow = true)
    (xsa_GivenRow : PySem.W.findIn K (.ref A_GivenRow) "__setattr__" = some (some (.builtin "object.__setattr__")))
    (xty_GivenRow : PySem.W.typeIn K (.ref A_GivenRow) = some (.type "type"))
    (xkc_GivenRow : PySem.W.findIn K (.ref A_GivenRow) "__class__" = some (some (.builtin "object.__class__")))
    (xmk_GivenRow : PySem.W.makesIn K A_GivenRow = true)
    (xkp_GivenRow : PySem.W.keepIn K (.ref A_GivenRow) = true)
    {xd_OwnRow : ClassData} (x_OwnRow : PySem.W.nsIn K mainGlobals "OwnRow" = some (some (.ref A_OwnRow))) (xl_OwnRow : PySem.W.clsIn K A_OwnRow = some xd_OwnRow) (xm_OwnRow : xd_OwnRow.mro = [A_OwnRow, A_Row].map Value.ref ++ [Value.type "object"])
    (xpg_OwnRow : PySem.W.plainGet K A_OwnRow Str.empty = true)
    (xhd_OwnRow : PySem.W.hasDictIn K A_OwnRow = true)
    (xpo_OwnRow : PySem.W.plainOver K A_OwnRow = true)
    (xsa_OwnRow : PySem.W.findIn K (.ref A_OwnRow) "__setattr__" = some (some (.builtin "object.__setattr__")))
    (xty_OwnRow : PySem.W.typeIn K (.ref A_OwnRow) = some (.type "type"))
    (xkc_OwnRow : PySem.W.findIn K (.ref A_OwnRow) "__class__" = some (some (.builtin "object.__class__")))
    (xmk_OwnRow : PySem.W.makesIn K A_OwnRow = true)
    (xkp_OwnRow : PySem.W.keepIn K (.ref A_OwnRow) = true)
    {xd_LetRow : ClassData} (x_LetRow : PySem.W.nsIn K mainGlobals "LetRow" = some (some (.ref A_LetRow))) (xl_LetRow : PySem.W.clsIn K A_LetRow = some xd_LetRow) (xm_LetRow : xd_LetRow.mro = [A_LetRow, A_Row].map Value.ref ++ [Value.type "object"])
    (xpg_LetRow : PySem.W.plainGet K A_LetRow Str.empty = true)
    (xhd_LetRow : PySem.W.hasDictIn K A_LetRow = true)
    (xpo_LetRow : PySem.W.plainOver K A_LetRow = true)
    (xsa_LetRow : PySem.W.findIn K (.ref A_LetRow) "__setattr__" = some (some (.builtin "object.__setattr__")))
    (xty_LetRow : PySem.W.typeIn K (.ref A_LetRow) = some (.type "type"))
    (xkc_LetRow : PySem.W.findIn K (.ref A_LetRow) "__class__" = some (some (.builtin "object.__class__")))
    (xmk_LetRow : PySem.W.makesIn K A_LetRow = true)
    (xkp_LetRow : PySem.W.keepIn K (.ref A_LetRow) = true)
    {xd_SetRow : ClassData} (x_SetRow : PySem.W.nsIn K mainGlobals "SetRow" = some (some (.ref A_SetRow))) (xl_SetRow : PySem.W.clsIn K A_SetRow = some xd_SetRow) (xm_SetRow : xd_SetRow.mro = [A_SetRow, A_Row].map Value.ref ++ [Value.type "object"])
    (xpg_SetRow : PySem.W.plainGet K A_SetRow Str.empty = true)
    (xhd_SetRow : PySem.W.hasDictIn K A_SetRow = true)
    (xpo_SetRow : PySem.W.plainOver K A_SetRow = true)
    (xsa_SetRow : PySem.W.findIn K (.ref A_SetRow) "__setattr__" = some (some (.builtin "object.__setattr__")))
    (xty_SetRow : PySem.W.typeIn K (.ref A_SetRow) = some (.type "type"))
    (xkc_SetRow : PySem.W.findIn K (.ref A_SetRow) "__class__" = some (some (.builtin "object.__class__")))
    (xmk_SetRow : PySem.W.makesIn K A_SetRow = true)
    (xkp_SetRow : PySem.W.keepIn K (.ref A_SetRow) = true)
    {xd_PutRow : ClassData} (x_PutRow : PySem.W.nsIn K mainGlobals "PutRow" = some (some (.ref A_PutRow))) (xl_PutRow : PySem.W.clsIn K A_PutRow = some xd_PutRow) (xm_PutRow : xd_PutRow.mro = [A_PutRow, A_Row].map Value.ref ++ [Value.type "object"])
    (xpg_PutRow : PySem.W.plainGet K A_PutRow Str.empty = true)
    (xhd_PutRow : PySem.W.hasDictIn K A_PutRow = true)
    (xpo_PutRow : PySem.W.plainOver K A_PutRow = true)
    (xsa_PutRow : PySem.W.findIn K (.ref A_PutRow) "__setattr__" = some (some (.builtin "object.__setattr__")))
    (xty_PutRow : PySem.W.typeIn K (.ref A_PutRow) = some (.type "type"))
    (xkc_PutRow : PySem.W.findIn K (.ref A_PutRow) "__class__" = some (some (.builtin "object.__class__")))
    (xmk_PutRow : PySem.W.makesIn K A_PutRow = true)
    (xkp_PutRow : PySem.W.keepIn K (.ref A_PutRow) = true)
    {xd_SendRow : ClassData} (x_SendRow : PySem.W.nsIn K mainGlobals "SendRow" = some (some (.ref A_SendRow))) (xl_SendRow : PySem.W.clsIn K A_SendRow = some xd_SendRow) (xm_SendRow : xd_SendRow.mro = [A_SendRow, A_Row].map Value.ref ++ [Value.type "object"])
    (xpg_SendRow : PySem.W.plainGet K A_SendRow Str.empty = true)
    (xhd_SendRow : PySem.W.hasDictIn K A_SendRow = true)
    (xpo_SendRow : PySem.W.plainOver K A_SendRow = true)
    (xsa_SendRow : PySem.W.findIn K (.ref A_SendRow) "__setattr__" = some (some (.builtin "object.__setattr__")))
    (xty_SendRow : PySem.W.typeIn K (.ref A_SendRow) = some (.type "type"))
    (xkc_SendRow : PySem.W.findIn K (.ref A_SendRow) "__class__" = some (some (.builtin "object.__class__")))
    (xmk_SendRow : PySem.W.makesIn K A_SendRow = true)
    (xkp_SendRow : PySem.W.keepIn K (.ref A_SendRow) = true)
    {xd_SayRow : ClassData} (x_SayRow : PySem.W.nsIn K mainGlobals "SayRow" = some (some (.ref A_SayRow))) (xl_SayRow : PySem.W.clsIn K A_SayRow = some xd_SayRow) (xm_SayRow : xd_SayRow.mro = [A_SayRow, A_Row].map Value.ref ++ [Value.type "object"])
    (xpg_SayRow : PySem.W.plainGet K A_SayRow Str.empty = true)
    (xhd_SayRow : PySem.W.hasDictIn K A_SayRow = true)
    (xpo_SayRow : PySem.W.plainOver K A_SayRow = true)
    (xsa_SayRow : PySem.W.findIn K (.ref A_SayRow) "__setattr__" = some (some (.builtin "object.__setattr__")))
    (xty_SayRow : PySem.W.typeIn K (.ref A_SayRow) = some (.type "type"))
    (xkc_SayRow : PySem.W.findIn K (.ref A_SayRow) "__class__" = some (some (.builtin "object.__class__")))
    (xmk_SayRow : PySem.W.makesIn K A_SayRow = true)
    (xkp_SayRow : PySem.W.keepIn K (.ref A_SayRow) = true)
    {xd_CallRow : ClassData} (x_CallRow : PySem.W.nsIn K mainGlobals "CallRow" = some (some (.ref A_CallRow))) (xl_CallRow : PySem.W.clsIn K A_CallRow = some xd_CallRow) (xm_CallRow : xd_CallRow.mro = [A_CallRow, A_Row].map Value.ref ++ [Value.type "object"])
    (xpg_CallRow : PySem.W.plainGet K A_CallRow Str.empty = true)
    (xhd_CallRow : PySem.W.hasDictIn K A_CallRow = true)
    (xpo_CallRow : PySem.W.plainOver K A_CallRow = true)
    (xsa_CallRow : PySem.W.findIn K (.ref A_CallRow) "__setattr__" = some (some (.builtin "object.__setattr__")))
    (xty_CallRow : PySem.W.typeIn K (.ref A_CallRow) = some (.type "type"))
    (xkc_CallRow : PySem.W.findIn K (.ref A_CallRow) "__class__" = some (some (.builtin "object.__class__")))
    (xmk_CallRow : PySem.W.makesIn K A_CallRow = true)
    (xkp_CallRow : PySem.W.keepIn K (.ref A_CallRow) = true)
    {xd_LastRow : ClassData} (x_LastRow : PySem.W.nsIn K mainGlobals "LastRow" = some (some (.ref A_LastRow))) (xl_LastRow : PySem.W.clsIn K A_LastRow = some xd_LastRow) (xm_LastRow : xd_LastRow.mro = [A_LastRow, A_Row].map Value.ref ++ [Value.type "object"])
    (xpg_LastRow : PySem.W.plainGet K A_LastRow Str.empty = true)
    (xhd_LastRow : PySem.W.hasDictIn K A_LastRow = true)
    (xpo_LastRow : PySem.W.plainOver K A_LastRow = true)
    (xsa_LastRow : PySem.W.findIn K (.ref A_LastRow) "__setattr__" = some (some (.builtin "object.__setattr__")))
    (xty_LastRow : PySem.W.typeIn K (.ref A_LastRow) = some (.type "type"))
    (xkc_LastRow : PySem.W.findIn K (.ref A_LastRow) "__class__" = some (some (.builtin "object.__class__")))
    (xmk_LastRow : PySem.W.makesIn K A_LastRow = true)
    (xkp_LastRow : PySem.W.keepIn K (.ref A_LastRow) = true)
    {xd_IfRow : ClassData} (x_IfRow : PySem.W.nsIn K mainGlobals "IfRow" = some (some (.ref A_IfRow))) (xl_IfRow : PySem.W.clsIn K A_IfRow = some xd_IfRow) (xm_IfRow : xd_IfRow.mro = [A_IfRow, A_Row].map Value.ref ++ [Value.type "object"])
    (xpg_IfRow : PySem.W.plainGet K A_IfRow Str.empty = true)
    (xhd_IfRow : PySem.W.hasDictIn K A_IfRow = true)
    (xpo_IfRow : PySem.W.plainOver K A_IfRow = true)
    (xsa_IfRow : PySem.W.findIn K (.ref A_IfRow) "__setattr__" = some (some (.builtin "object.__setattr__")))
    (xty_IfRow : PySem.W.typeIn K (.ref A_IfRow) = some (.type "type"))
    (xkc_IfRow : PySem.W.findIn K (.ref A_IfRow) "__class__" = some (some (.builtin "object.__class__")))
    (xmk_IfRow : PySem.W.makesIn K A_IfRow = true)
    (xkp_IfRow : PySem.W.keepIn K (.ref A_IfRow) = true)
    {xd_LoopRow : ClassData} (x_LoopRow : PySem.W.nsIn K mainGlobals "LoopRow" = some (some (.ref A_LoopRow))) (xl_LoopRow : PySem.W.clsIn K A_LoopRow = some xd_LoopRow) (xm_LoopRow : xd_LoopRow.mro = [A_LoopRow, A_Row].map Value.ref ++ [Value.type "object"])
    (xpg_LoopRow : PySem.W.plainGet K A_LoopRow Str.empty = true)
    (xhd_LoopRow : PySem.W.hasDictIn K A_LoopRow = true)
    (xpo_LoopRow : PySem.W.plainOver K A_LoopRow = true)
    (xsa_LoopRow : PySem.W.findIn K (.ref A_LoopRow) "__setattr__" = some (some (.builtin "object.__setattr__")))
    (xty_LoopRow : PySem.W.typeIn K (.ref A_LoopRow) = some (.type "type"))
    (xkc_LoopRow : PySem.W.findIn K (.ref A_LoopRow) "__class__" = some (some (.builtin "object.__class__")))
    (xmk_LoopRow : PySem.W.makesIn K A_LoopRow = true)
    (xkp_LoopRow : PySem.W.keepIn K (.ref A_LoopRow) = true)
    {xd_Program : ClassData} (x_Program : PySem.W.nsIn K mainGlobals "Program" = some (some (.ref A_Program))) (xl_Program : PySem.W.clsIn K A_Program = some xd_Program) (xm_Program : xd_Program.mro = [A_Program].map Value.ref ++ [Value.type "object"])
    (xpg_Program : PySem.W.plainGet K A_Program Str.empty = true)
    (xhd_Program : PySem.W.hasDictIn K A_Program = true)
    (xpo_Program : PySem.W.plainOver K A_Program = true)
    (xsa_Program : PySem.W.findIn K (.ref A_Program) "__setattr__" = some (some (.builtin "object.__setattr__")))
    (xty_Program : PySem.W.typeIn K (.ref A_Program) = some (.type "type"))
    (xkc_Program : PySem.W.findIn K (.ref A_Program) "__class__" = some (some (.builtin "object.__class__")))
    (xmk_Program : PySem.W.makesIn K A_Program = true)
    (xkp_Program : PySem.W.keepIn K (.ref A_Program) = true)
    {xd_Run : ClassData} (x_Run : PySem.W.nsIn K mainGlobals "Run" = some (some (.ref A_Run))) (xl_Run : PySem.W.clsIn K A_Run = some xd_Run) (xm_Run : xd_Run.mro = [A_Run].map Value.ref ++ [Value.type "object"])
    (xpg_Run : PySem.W.plainGet K A_Run Str.empty = true)
    (xhd_Run : PySem.W.hasDictIn K A_Run = true)
    (xpo_Run : PySem.W.plainOver K A_Run = true)
    (xsa_Run : PySem.W.findIn K (.ref A_Run) "__setattr__" = some (some (.builtin "object.__setattr__")))
    (xty_Run : PySem.W.typeIn K (.ref A_Run) = some (.type "type"))
    (xkc_Run : PySem.W.findIn K (.ref A_Run) "__class__" = some (some (.builtin "object.__class__")))
    (xmk_Run : PySem.W.makesIn K A_Run = true)
    (xkp_Run : PySem.W.keepIn K (.ref A_Run) = true)
    {fi_Book_init : Addr} {ioc_Book_init ikV_Book_init idc_Book_init ipm_Book_init icd_Book_init ict_Book_init : Value} {iod_Book_init ian_Book_init : Option Addr} {isl_Book_init : Array (Option Value)}
    (xi_Book_init : PySem.W.findIn K (.ref A_Book) "__init__" = some (some (.ref fi_Book_init)))
    (xf_Book_init : PySem.W.isFn K (.ref fi_Book_init) = true) (xo_Book_init : K.lookup fi_Book_init = some ⟨ioc_Book_init, iod_Book_init, .func (PySem.W.fnOf "__init__" "Book.__init__" (defArgs s_Book_init) (defBody s_Book_init) (defScope s_Book_init) .none ikV_Book_init idc_Book_init ipm_Book_init ian_Book_init icd_Book_init ict_Book_init), isl_Book_init⟩) (xc_Book_init : PySem.W.codeIn K icd_Book_init "Book.__init__" = true) (xq_Book_init : PySem.W.keepIn K (.ref fi_Book_init) = true)
    (xw_Book_letters : PySem.W.findIn K (.ref A_Book) "letters" = some none)
    (xw_Book_said : PySem.W.findIn K (.ref A_Book) "said" = some none)
    (xw_Book_trace : PySem.W.findIn K (.ref A_Book) "trace" = some none)
    (xw_Book_steps : PySem.W.findIn K (.ref A_Book) "steps" = some none)
    (xw_Book_ends : PySem.W.findIn K (.ref A_Book) "ends" = some none)
    {fi_Row_init : Addr} {ioc_Row_init ikV_Row_init idc_Row_init ipm_Row_init icd_Row_init ict_Row_init : Value} {iod_Row_init ian_Row_init : Option Addr} {isl_Row_init : Array (Option Value)}
    (xi_Row_init : PySem.W.findIn K (.ref A_Row) "__init__" = some (some (.ref fi_Row_init)))
    (xf_Row_init : PySem.W.isFn K (.ref fi_Row_init) = true) (xo_Row_init : K.lookup fi_Row_init = some ⟨ioc_Row_init, iod_Row_init, .func (PySem.W.fnOf "__init__" "Row.__init__" (defArgs s_Row_init) (defBody s_Row_init) (defScope s_Row_init) .none ikV_Row_init idc_Row_init ipm_Row_init ian_Row_init icd_Row_init ict_Row_init), isl_Row_init⟩) (xc_Row_init : PySem.W.codeIn K icd_Row_init "Row.__init__" = true) (xq_Row_init : PySem.W.keepIn K (.ref fi_Row_init) = true)
    {fi_HandRow_init : Addr} {ioc_HandRow_init ikV_HandRow_init idc_HandRow_init ipm_HandRow_init icd_HandRow_init ict_HandRow_init : Value} {iod_HandRow_init ian_HandRow_init : Option Addr} {isl_HandRow_init : Array (Option Value)}
    (xi_HandRow_init : PySem.W.findIn K (.ref A_HandRow) "__init__" = some (some (.ref fi_HandRow_init)))
    (xf_HandRow_init : PySem.W.isFn K (.ref fi_HandRow_init) = true) (xo_HandRow_init : K.lookup fi_HandRow_init = some ⟨ioc_HandRow_init, iod_HandRow_init, .func (PySem.W.fnOf "__init__" "HandRow.__init__" (defArgs s_HandRow_init) (defBody s_HandRow_init) (defScope s_HandRow_init) .none ikV_HandRow_init idc_HandRow_init ipm_HandRow_init ian_HandRow_init icd_HandRow_init ict_HandRow_init), isl_HandRow_init⟩) (xc_HandRow_init : PySem.W.codeIn K icd_HandRow_init "HandRow.__init__" = true) (xq_HandRow_init : PySem.W.keepIn K (.ref fi_HandRow_init) = true)
    (xw_HandRow_name : PySem.W.findIn K (.ref A_HandRow) "name" = some none)
    (xw_HandRow_rank : PySem.W.findIn K (.ref A_HandRow) "rank" = some none)
    (xw_HandRow_number : PySem.W.findIn K (.ref A_HandRow) "number" = some none)
    {fi_GivenRow_init : Addr} {ioc_GivenRow_init ikV_GivenRow_init idc_GivenRow_init ipm_GivenRow_init icd_GivenRow_init ict_GivenRow_init : Value} {iod_GivenRow_init ian_GivenRow_init : Option Addr} {isl_GivenRow_init : Array (Option Value)}
    (xi_GivenRow_init : PySem.W.findIn K (.ref A_GivenRow) "__init__" = some (some (.ref fi_GivenRow_init)))
    (xf_GivenRow_init : PySem.W.isFn K (.ref fi_GivenRow_init) = true) (xo_GivenRow_init : K.lookup fi_GivenRow_init = some ⟨ioc_GivenRow_init, iod_GivenRow_init, .func (PySem.W.fnOf "__init__" "GivenRow.__init__" (defArgs s_GivenRow_init) (defBody s_GivenRow_init) (defScope s_GivenRow_init) .none ikV_GivenRow_init idc_GivenRow_init ipm_GivenRow_init ian_GivenRow_init icd_GivenRow_init ict_GivenRow_init), isl_GivenRow_init⟩) (xc_GivenRow_init : PySem.W.codeIn K icd_GivenRow_init "GivenRow.__init__" = true) (xq_GivenRow_init : PySem.W.keepIn K (.ref fi_GivenRow_init) = true)
    (xw_GivenRow_name : PySem.W.findIn K (.ref A_GivenRow) "name" = some none)
    (xw_GivenRow_rank : PySem.W.findIn K (.ref A_GivenRow) "rank" = some none)
    (xw_GivenRow_size : PySem.W.findIn K (.ref A_GivenRow) "size" = some none)
    (xw_GivenRow_number : PySem.W.findIn K (.ref A_GivenRow) "number" = some none)
    {fi_OwnRow_init : Addr} {ioc_OwnRow_init ikV_OwnRow_init idc_OwnRow_init ipm_OwnRow_init icd_OwnRow_init ict_OwnRow_init : Value} {iod_OwnRow_init ian_OwnRow_init : Option Addr} {isl_OwnRow_init : Array (Option Value)}
    (xi_OwnRow_init : PySem.W.findIn K (.ref A_OwnRow) "__init__" = some (some (.ref fi_OwnRow_init)))
    (xf_OwnRow_init : PySem.W.isFn K (.ref fi_OwnRow_init) = true) (xo_OwnRow_init : K.lookup fi_OwnRow_init = some ⟨ioc_OwnRow_init, iod_OwnRow_init, .func (PySem.W.fnOf "__init__" "OwnRow.__init__" (defArgs s_OwnRow_init) (defBody s_OwnRow_init) (defScope s_OwnRow_init) .none ikV_OwnRow_init idc_OwnRow_init ipm_OwnRow_init ian_OwnRow_init icd_OwnRow_init ict_OwnRow_init), isl_OwnRow_init⟩) (xc_OwnRow_init : PySem.W.codeIn K icd_OwnRow_init "OwnRow.__init__" = true) (xq_OwnRow_init : PySem.W.keepIn K (.ref fi_OwnRow_init) = true)
    (xw_OwnRow_name : PySem.W.findIn K (.ref A_OwnRow) "name" = some none)
    (xw_OwnRow_size : PySem.W.findIn K (.ref A_OwnRow) "size" = some none)
    (xw_OwnRow_number : PySem.W.findIn K (.ref A_OwnRow) "number" = some none)
    {fi_LetRow_init : Addr} {ioc_LetRow_init ikV_LetRow_init idc_LetRow_init ipm_LetRow_init icd_LetRow_init ict_LetRow_init : Value} {iod_LetRow_init ian_LetRow_init : Option Addr} {isl_LetRow_init : Array (Option Value)}
    (xi_LetRow_init : PySem.W.findIn K (.ref A_LetRow) "__init__" = some (some (.ref fi_LetRow_init)))
    (xf_LetRow_init : PySem.W.isFn K (.ref fi_LetRow_init) = true) (xo_LetRow_init : K.lookup fi_LetRow_init = some ⟨ioc_LetRow_init, iod_LetRow_init, .func (PySem.W.fnOf "__init__" "LetRow.__init__" (defArgs s_LetRow_init) (defBody s_LetRow_init) (defScope s_LetRow_init) .none ikV_LetRow_init idc_LetRow_init ipm_LetRow_init ian_LetRow_init icd_LetRow_init ict_LetRow_init), isl_LetRow_init⟩) (xc_LetRow_init : PySem.W.codeIn K icd_LetRow_init "LetRow.__init__" = true) (xq_LetRow_init : PySem.W.keepIn K (.ref fi_LetRow_init) = true)
    (xw_LetRow_name : PySem.W.findIn K (.ref A_LetRow) "name" = some none)
    (xw_LetRow_rank : PySem.W.findIn K (.ref A_LetRow) "rank" = some none)
    (xw_LetRow_number : PySem.W.findIn K (.ref A_LetRow) "number" = some none)
    {fi_SetRow_init : Addr} {ioc_SetRow_init ikV_SetRow_init idc_SetRow_init ipm_SetRow_init icd_SetRow_init ict_SetRow_init : Value} {iod_SetRow_init ian_SetRow_init : Option Addr} {isl_SetRow_init : Array (Option Value)}
    (xi_SetRow_init : PySem.W.findIn K (.ref A_SetRow) "__init__" = some (some (.ref fi_SetRow_init)))
    (xf_SetRow_init : PySem.W.isFn K (.ref fi_SetRow_init) = true) (xo_SetRow_init : K.lookup fi_SetRow_init = some ⟨ioc_SetRow_init, iod_SetRow_init, .func (PySem.W.fnOf "__init__" "SetRow.__init__" (defArgs s_SetRow_init) (defBody s_SetRow_init) (defScope s_SetRow_init) .none ikV_SetRow_init idc_SetRow_init ipm_SetRow_init ian_SetRow_init icd_SetRow_init ict_SetRow_init), isl_SetRow_init⟩) (xc_SetRow_init : PySem.W.codeIn K icd_SetRow_init "SetRow.__init__" = true) (xq_SetRow_init : PySem.W.keepIn K (.ref fi_SetRow_init) = true)
    (xw_SetRow_name : PySem.W.findIn K (.ref A_SetRow) "name" = some none)
    (xw_SetRow_value : PySem.W.findIn K (.ref A_SetRow) "value" = some none)
    (xw_SetRow_number : PySem.W.findIn K (.ref A_SetRow) "number" = some none)
    {fi_PutRow_init : Addr} {ioc_PutRow_init ikV_PutRow_init idc_PutRow_init ipm_PutRow_init icd_PutRow_init ict_PutRow_init : Value} {iod_PutRow_init ian_PutRow_init : Option Addr} {isl_PutRow_init : Array (Option Value)}
    (xi_PutRow_init : PySem.W.findIn K (.ref A_PutRow) "__init__" = some (some (.ref fi_PutRow_init)))
    (xf_PutRow_init : PySem.W.isFn K (.ref fi_PutRow_init) = true) (xo_PutRow_init : K.lookup fi_PutRow_init = some ⟨ioc_PutRow_init, iod_PutRow_init, .func (PySem.W.fnOf "__init__" "PutRow.__init__" (defArgs s_PutRow_init) (defBody s_PutRow_init) (defScope s_PutRow_init) .none ikV_PutRow_init idc_PutRow_init ipm_PutRow_init ian_PutRow_init icd_PutRow_init ict_PutRow_init), isl_PutRow_init⟩) (xc_PutRow_init : PySem.W.codeIn K icd_PutRow_init "PutRow.__init__" = true) (xq_PutRow_init : PySem.W.keepIn K (.ref fi_PutRow_init) = true)
    (xw_PutRow_name : PySem.W.findIn K (.ref A_PutRow) "name" = some none)
    (xw_PutRow_place : PySem.W.findIn K (.ref A_PutRow) "place" = some none)
    (xw_PutRow_value : PySem.W.findIn K (.ref A_PutRow) "value" = some none)
    (xw_PutRow_number : PySem.W.findIn K (.ref A_PutRow) "number" = some none)
    {fi_SendRow_init : Addr} {ioc_SendRow_init ikV_SendRow_init idc_SendRow_init ipm_SendRow_init icd_SendRow_init ict_SendRow_init : Value} {iod_SendRow_init ian_SendRow_init : Option Addr} {isl_SendRow_init : Array (Option Value)}
    (xi_SendRow_init : PySem.W.findIn K (.ref A_SendRow) "__init__" = some (some (.ref fi_SendRow_init)))
    (xf_SendRow_init : PySem.W.isFn K (.ref fi_SendRow_init) = true) (xo_SendRow_init : K.lookup fi_SendRow_init = some ⟨ioc_SendRow_init, iod_SendRow_init, .func (PySem.W.fnOf "__init__" "SendRow.__init__" (defArgs s_SendRow_init) (defBody s_SendRow_init) (defScope s_SendRow_init) .none ikV_SendRow_init idc_SendRow_init ipm_SendRow_init ian_SendRow_init icd_SendRow_init ict_SendRow_init), isl_SendRow_init⟩) (xc_SendRow_init : PySem.W.codeIn K icd_SendRow_init "SendRow.__init__" = true) (xq_SendRow_init : PySem.W.keepIn K (.ref fi_SendRow_init) = true)
    (xw_SendRow_name : PySem.W.findIn K (.ref A_SendRow) "name" = some none)
    (xw_SendRow_value : PySem.W.findIn K (.ref A_SendRow) "value" = some none)
    (xw_SendRow_number : PySem.W.findIn K (.ref A_SendRow) "number" = some none)
    {fi_SayRow_init : Addr} {ioc_SayRow_init ikV_SayRow_init idc_SayRow_init ipm_SayRow_init icd_SayRow_init ict_SayRow_init : Value} {iod_SayRow_init ian_SayRow_init : Option Addr} {isl_SayRow_init : Array (Option Value)}
    (xi_SayRow_init : PySem.W.findIn K (.ref A_SayRow) "__init__" = some (some (.ref fi_SayRow_init)))
    (xf_SayRow_init : PySem.W.isFn K (.ref fi_SayRow_init) = true) (xo_SayRow_init : K.lookup fi_SayRow_init = some ⟨ioc_SayRow_init, iod_SayRow_init, .func (PySem.W.fnOf "__init__" "SayRow.__init__" (defArgs s_SayRow_init) (defBody s_SayRow_init) (defScope s_SayRow_init) .none ikV_SayRow_init idc_SayRow_init ipm_SayRow_init ian_SayRow_init icd_SayRow_init ict_SayRow_init), isl_SayRow_init⟩) (xc_SayRow_init : PySem.W.codeIn K icd_SayRow_init "SayRow.__init__" = true) (xq_SayRow_init : PySem.W.keepIn K (.ref fi_SayRow_init) = true)
    (xw_SayRow_name : PySem.W.findIn K (.ref A_SayRow) "name" = some none)
    (xw_SayRow_value : PySem.W.findIn K (.ref A_SayRow) "value" = some none)
    (xw_SayRow_mark : PySem.W.findIn K (.ref A_SayRow) "mark" = some none)
    (xw_SayRow_number : PySem.W.findIn K (.ref A_SayRow) "number" = some none)
    {fi_Program_init : Addr} {ioc_Program_init ikV_Program_init idc_Program_init ipm_Program_init icd_Program_init ict_Program_init : Value} {iod_Program_init ian_Program_init : Option Addr} {isl_Program_init : Array (Option Value)}
    (xi_Program_init : PySem.W.findIn K (.ref A_Program) "__init__" = some (some (.ref fi_Program_init)))
    (xf_Program_init : PySem.W.isFn K (.ref fi_Program_init) = true) (xo_Program_init : K.lookup fi_Program_init = some ⟨ioc_Program_init, iod_Program_init, .func (PySem.W.fnOf "__init__" "Program.__init__" (defArgs s_Program_init) (defBody s_Program_init) (defScope s_Program_init) .none ikV_Program_init idc_Program_init ipm_Program_init ian_Program_init icd_Program_init ict_Program_init), isl_Program_init⟩) (xc_Program_init : PySem.W.codeIn K icd_Program_init "Program.__init__" = true) (xq_Program_init : PySem.W.keepIn K (.ref fi_Program_init) = true)
    (xw_Program_heads : PySem.W.findIn K (.ref A_Program) "heads" = some none)
    (xw_Program_deeds : PySem.W.findIn K (.ref A_Program) "deeds" = some none)
    (xw_Program_main : PySem.W.findIn K (.ref A_Program) "main" = some none)
    {fi_Run_init : Addr} {ioc_Run_init ikV_Run_init idc_Run_init ipm_Run_init icd_Run_init ict_Run_init : Value} {iod_Run_init ian_Run_init : Option Addr} {isl_Run_init : Array (Option Value)}
    (xi_Run_init : PySem.W.findIn K (.ref A_Run) "__init__" = some (some (.ref fi_Run_init)))
    (xf_Run_init : PySem.W.isFn K (.ref fi_Run_init) = true) (xo_Run_init : K.lookup fi_Run_init = some ⟨ioc_Run_init, iod_Run_init, .func (PySem.W.fnOf "__init__" "Run.__init__" (defArgs s_Run_init) (defBody s_Run_init) (defScope s_Run_init) .none ikV_Run_init idc_Run_init ipm_Run_init ian_Run_init icd_Run_init ict_Run_init), isl_Run_init⟩) (xc_Run_init : PySem.W.codeIn K icd_Run_init "Run.__init__" = true) (xq_Run_init : PySem.W.keepIn K (.ref fi_Run_init) = true)
    {fi_Run_number_at : Addr} {ioc_Run_number_at ikV_Run_number_at idc_Run_number_at ipm_Run_number_at icd_Run_number_at ict_Run_number_at : Value} {iod_Run_number_at ian_Run_number_at : Option Addr} {isl_Run_number_at : Array (Option Value)}
    (xi_Run_number_at : PySem.W.findIn K (.ref A_Run) "number_at" = some (some (.ref fi_Run_number_at)))
    (xf_Run_number_at : PySem.W.isFn K (.ref fi_Run_number_at) = true) (xo_Run_number_at : K.lookup fi_Run_number_at = some ⟨ioc_Run_number_at, iod_Run_number_at, .func (PySem.W.fnOf "number_at" "Run.number_at" (defArgs s_Run_number_at) (defBody s_Run_number_at) (defScope s_Run_number_at) .none ikV_Run_number_at idc_Run_number_at ipm_Run_number_at ian_Run_number_at icd_Run_number_at ict_Run_number_at), isl_Run_number_at⟩) (xc_Run_number_at : PySem.W.codeIn K icd_Run_number_at "Run.number_at" = true) (xq_Run_number_at : PySem.W.keepIn K (.ref fi_Run_number_at) = true)
    {fi_Run_number_for : Addr} {ioc_Run_number_for ikV_Run_number_for idc_Run_number_for ipm_Run_number_for icd_Run_number_for ict_Run_number_for : Value} {iod_Run_number_for ian_Run_number_for : Option Addr} {isl_Run_number_for : Array (Option Value)}
    (xi_Run_number_for : PySem.W.findIn K (.ref A_Run) "number_for" = some (some (.ref fi_Run_number_for)))
    (xf_Run_number_for : PySem.W.isFn K (.ref fi_Run_number_for) = true) (xo_Run_number_for : K.lookup fi_Run_number_for = some ⟨ioc_Run_number_for, iod_Run_number_for, .func (PySem.W.fnOf "number_for" "Run.number_for" (defArgs s_Run_number_for) (defBody s_Run_number_for) (defScope s_Run_number_for) .none ikV_Run_number_for idc_Run_number_for ipm_Run_number_for ian_Run_number_for icd_Run_number_for ict_Run_number_for), isl_Run_number_for⟩) (xc_Run_number_for : PySem.W.codeIn K icd_Run_number_for "Run.number_for" = true) (xq_Run_number_for : PySem.W.keepIn K (.ref fi_Run_number_for) = true)
    {fi_Run_number_told : Addr} {ioc_Run_number_told ikV_Run_number_told idc_Run_number_told ipm_Run_number_told icd_Run_number_told ict_Run_number_told : Value} {iod_Run_number_told ian_Run_number_told : Option Addr} {isl_Run_number_told : Array (Option Value)}
    (xi_Run_number_told : PySem.W.findIn K (.ref A_Run) "number_told" = some (some (.ref fi_Run_number_told)))
    (xf_Run_number_told : PySem.W.isFn K (.ref fi_Run_number_told) = true) (xo_Run_number_told : K.lookup fi_Run_number_told = some ⟨ioc_Run_number_told, iod_Run_number_told, .func (PySem.W.fnOf "number_told" "Run.number_told" (defArgs s_Run_number_told) (defBody s_Run_number_told) (defScope s_Run_number_told) .none ikV_Run_number_told idc_Run_number_told ipm_Run_number_told ian_Run_number_told icd_Run_number_told ict_Run_number_told), isl_Run_number_told⟩) (xc_Run_number_told : PySem.W.codeIn K icd_Run_number_told "Run.number_told" = true) (xq_Run_number_told : PySem.W.keepIn K (.ref fi_Run_number_told) = true)
    {fi_Run_pass_steps : Addr} {ioc_Run_pass_steps ikV_Run_pass_steps idc_Run_pass_steps ipm_Run_pass_steps icd_Run_pass_steps ict_Run_pass_steps : Value} {iod_Run_pass_steps ian_Run_pass_steps : Option Addr} {isl_Run_pass_steps : Array (Option Value)}
    (xi_Run_pass_steps : PySem.W.findIn K (.ref A_Run) "pass_steps" = some (some (.ref fi_Run_pass_steps)))
    (xf_Run_pass_steps : PySem.W.isFn K (.ref fi_Run_pass_steps) = true) (xo_Run_pass_steps : K.lookup fi_Run_pass_steps = some ⟨ioc_Run_pass_steps, iod_Run_pass_steps, .func (PySem.W.fnOf "pass_steps" "Run.pass_steps" (defArgs s_Run_pass_steps) (defBody s_Run_pass_steps) (defScope s_Run_pass_steps) .none ikV_Run_pass_steps idc_Run_pass_steps ipm_Run_pass_steps ian_Run_pass_steps icd_Run_pass_steps ict_Run_pass_steps), isl_Run_pass_steps⟩) (xc_Run_pass_steps : PySem.W.codeIn K icd_Run_pass_steps "Run.pass_steps" = true) (xq_Run_pass_steps : PySem.W.keepIn K (.ref fi_Run_pass_steps) = true)
    {fi_Run_do_rows : Addr} {ioc_Run_do_rows ikV_Run_do_rows idc_Run_do_rows ipm_Run_do_rows icd_Run_do_rows ict_Run_do_rows : Value} {iod_Run_do_rows ian_Run_do_rows : Option Addr} {isl_Run_do_rows : Array (Option Value)}
    (xi_Run_do_rows : PySem.W.findIn K (.ref A_Run) "do_rows" = some (some (.ref fi_Run_do_rows)))
    (xf_Run_do_rows : PySem.W.isFn K (.ref fi_Run_do_rows) = true) (xo_Run_do_rows : K.lookup fi_Run_do_rows = some ⟨ioc_Run_do_rows, iod_Run_do_rows, .func (PySem.W.fnOf "do_rows" "Run.do_rows" (defArgs s_Run_do_rows) (defBody s_Run_do_rows) (defScope s_Run_do_rows) .none ikV_Run_do_rows idc_Run_do_rows ipm_Run_do_rows ian_Run_do_rows icd_Run_do_rows ict_Run_do_rows), isl_Run_do_rows⟩) (xc_Run_do_rows : PySem.W.codeIn K icd_Run_do_rows "Run.do_rows" = true) (xq_Run_do_rows : PySem.W.keepIn K (.ref fi_Run_do_rows) = true)
    {fi_Run_do_row : Addr} {ioc_Run_do_row ikV_Run_do_row idc_Run_do_row ipm_Run_do_row icd_Run_do_row ict_Run_do_row : Value} {iod_Run_do_row ian_Run_do_row : Option Addr} {isl_Run_do_row : Array (Option Value)}
    (xi_Run_do_row : PySem.W.findIn K (.ref A_Run) "do_row" = some (some (.ref fi_Run_do_row)))
    (xf_Run_do_row : PySem.W.isFn K (.ref fi_Run_do_row) = true) (xo_Run_do_row : K.lookup fi_Run_do_row = some ⟨ioc_Run_do_row, iod_Run_do_row, .func (PySem.W.fnOf "do_row" "Run.do_row" (defArgs s_Run_do_row) (defBody s_Run_do_row) (defScope s_Run_do_row) .none ikV_Run_do_row idc_Run_do_row ipm_Run_do_row ian_Run_do_row icd_Run_do_row ict_Run_do_row), isl_Run_do_row⟩) (xc_Run_do_row : PySem.W.codeIn K icd_Run_do_row "Run.do_row" = true) (xq_Run_do_row : PySem.W.keepIn K (.ref fi_Run_do_row) = true)
    {fi_Run_do_put : Addr} {ioc_Run_do_put ikV_Run_do_put idc_Run_do_put ipm_Run_do_put icd_Run_do_put ict_Run_do_put : Value} {iod_Run_do_put ian_Run_do_put : Option Addr} {isl_Run_do_put : Array (Option Value)}
    (xi_Run_do_put : PySem.W.findIn K (.ref A_Run) "do_put" = some (some (.ref fi_Run_do_put)))
    (xf_Run_do_put : PySem.W.isFn K (.ref fi_Run_do_put) = true) (xo_Run_do_put : K.lookup fi_Run_do_put = some ⟨ioc_Run_do_put, iod_Run_do_put, .func (PySem.W.fnOf "do_put" "Run.do_put" (defArgs s_Run_do_put) (defBody s_Run_do_put) (defScope s_Run_do_put) .none ikV_Run_do_put idc_Run_do_put ipm_Run_do_put ian_Run_do_put icd_Run_do_put ict_Run_do_put), isl_Run_do_put⟩) (xc_Run_do_put : PySem.W.codeIn K icd_Run_do_put "Run.do_put" = true) (xq_Run_do_put : PySem.W.keepIn K (.ref fi_Run_do_put) = true)
    (xw_Run_deeds : PySem.W.findIn K (.ref A_Run) "deeds" = some none)
    (xw_Run_cells : PySem.W.findIn K (.ref A_Run) "cells" = some none)
    (xw_Run_book : PySem.W.findIn K (.ref A_Run) "book" = some none)
    (yg_Row_init : PySem.W.specialIn K (.ref A_Row) "__getattribute__" = some (some (.builtin "type.__getattribute__"))) (yr_Row_init : PySem.W.readsIn K A_Row (.type "type") = true) (yf_Row_init : PySem.W.findCls K (.ref A_Row) (.type "type") "__init__" = some (.val (.ref fi_Row_init)))
    (nod : [A_Book, A_Row, A_HandRow, A_GivenRow, A_OwnRow, A_LetRow, A_SetRow, A_PutRow, A_SendRow, A_SayRow, A_CallRow, A_LastRow, A_IfRow, A_LoopRow, A_Program, A_Run].Nodup)
    : ∃ fd : FuncData, (∀ (s : Shared) (v : Value), BindsTo s fd ⟨[v], []⟩ [("_law_script", v)]) ∧ ∀ base : Heap, K.In base → base.Ns mainGlobals mg → FnOk l.prog w K mg base CX0 20 fa fd ["_law_script"] (sp_law K) := by
  have t1 : TopFn K mg "is_number" s_is_number ["thing"] := topFn_mk X G a1 l1 c1 k1 fun _ _ _ _ _ _ us hl => (by obtain ⟨_, rfl⟩ := exN1 hl; rfl)
  have t2 : TopFn K mg "is_good" s_is_good ["gift", "size"] := topFn_mk X G a2 l2 c2 k2 fun _ _ _ _ _ _ us hl => (by obtain ⟨_, _, rfl⟩ := exN2 hl; rfl)
  have t3 : TopFn K mg "given_cell" s_given_cell ["given", "gifts"] := topFn_mk X G a3 l3 c3 k3 fun _ _ _ _ _ _ us hl => (by obtain ⟨_, _, rfl⟩ := exN2 hl; rfl)
  have t4 : TopFn K mg "own_cell" s_own_cell ["own"] := topFn_mk X G a4 l4 c4 k4 fun _ _ _ _ _ _ us hl => (by obtain ⟨_, rfl⟩ := exN1 hl; rfl)
  have t5 : TopFn K mg "cells_of" s_cells_of ["program", "gifts"] := topFn_mk X G a5 l5 c5 k5 fun _ _ _ _ _ _ us hl => (by obtain ⟨_, _, rfl⟩ := exN2 hl; rfl)
  have t6 : TopFn K mg "reckon" s_reckon ["one", "word", "other"] := topFn_mk X G a6 l6 c6 k6 fun _ _ _ _ _ _ us hl => (by obtain ⟨_, _, _, rfl⟩ := exN3 hl; rfl)
  have t7 : TopFn K mg "round_place" s_round_place ["place", "size"] := topFn_mk X G a7 l7 c7 k7 fun _ _ _ _ _ _ us hl => (by obtain ⟨_, _, rfl⟩ := exN2 hl; rfl)
  have t8 : TopFn K mg "ends_of" s_ends_of ["program", "cells"] := topFn_mk X G a8 l8 c8 k8 fun _ _ _ _ _ _ us hl => (by obtain ⟨_, _, rfl⟩ := exN2 hl; rfl)
  have t9 : TopFn K mg "run" s_run ["program", "gifts"] := topFn_mk X G a9 l9 c9 k9 fun _ _ _ _ _ _ us hl => (by obtain ⟨_, _, rfl⟩ := exN2 hl; rfl)
  have t10 : TopFn K mg "_law_cell_at" s_law_cell_at ["_law_script", "_law_k"] := topFn_mk X G a10 l10 c10 k10 fun _ _ _ _ _ _ us hl => (by obtain ⟨_, _, rfl⟩ := exN2 hl; rfl)
  have t11 : TopFn K mg "_law_name" s_law_name ["_law_cell", "_law_k"] := topFn_mk X G a11 l11 c11 k11 fun _ _ _ _ _ _ us hl => (by obtain ⟨_, _, rfl⟩ := exN2 hl; rfl)
  have t12 : TopFn K mg "_law_number" s_law_number ["_law_cell"] := topFn_mk X G a12 l12 c12 k12 fun _ _ _ _ _ _ us hl => (by obtain ⟨_, rfl⟩ := exN1 hl; rfl)
  have t13 : TopFn K mg "_law_thing" s_law_thing ["_law_cell", "_law_names"] := topFn_mk X G a13 l13 c13 k13 fun _ _ _ _ _ _ us hl => (by obtain ⟨_, _, rfl⟩ := exN2 hl; rfl)
  have t14 : TopFn K mg "_law_value" s_law_value ["_law_script", "_law_names"] := topFn_mk X G a14 l14 c14 k14 fun _ _ _ _ _ _ us hl => (by obtain ⟨_, _, rfl⟩ := exN2 hl; rfl)
  have t15 : TopFn K mg "_law_heads" s_law_heads ["_law_script", "_law_names"] := topFn_mk X G a15 l15 c15 k15 fun _ _ _ _ _ _ us hl => (by obtain ⟨_, _, rfl⟩ := exN2 hl; rfl)
  have t16 : TopFn K mg "_law_gifts" s_law_gifts ["_law_script", "_law_names"] := topFn_mk X G a16 l16 c16 k16 fun _ _ _ _ _ _ us hl => (by obtain ⟨_, _, rfl⟩ := exN2 hl; rfl)
  have t17 : TopFn K mg "_law_taken" s_law_taken ["_law_cells", "_law_thing_here"] := topFn_mk X G a17 l17 c17 k17 fun _ _ _ _ _ _ us hl => (by obtain ⟨_, _, rfl⟩ := exN2 hl; rfl)
  have t18 : TopFn K mg "_law_reckoned" s_law_reckoned ["_law_cells", "_law_value_here"] := topFn_mk X G a18 l18 c18 k18 fun _ _ _ _ _ _ us hl => (by obtain ⟨_, _, rfl⟩ := exN2 hl; rfl)
  have t19 : TopFn K mg "_law_same" s_law_same ["_law_found", "_law_due_here"] := topFn_mk X G a19 l19 c19 k19 fun _ _ _ _ _ _ us hl => (by obtain ⟨_, _, rfl⟩ := exN2 hl; rfl)
  have t20 : TopFn K mg "_law_book" s_law_book ["_law_found", "_law_due_here"] := topFn_mk X G a20 l20 c20 k20 fun _ _ _ _ _ _ us hl => (by obtain ⟨_, _, rfl⟩ := exN2 hl; rfl)
  have t21 : TopFn K mg "_law_due" s_law_due ["_law_kind", "_law_cells", "_law_names", "_law_at", "_law_place", "_law_value_here"] := topFn_mk X G a21 l21 c21 k21 fun _ _ _ _ _ _ us hl => (by obtain ⟨_, _, _, _, _, _, rfl⟩ := exN6 hl; rfl)
  have t22 : TopFn K mg "_law_empty" s_law_empty [] := topFn_mk X G a22 l22 c22 k22 fun _ _ _ _ _ _ us hl => (by obtain ⟨rfl⟩ := exN0 hl; rfl)
  have t23 : TopFn K mg "law" s_law ["_law_script"] := topFn_mk X G a23 l23 c23 k23 fun _ _ _ _ _ _ us hl => (by obtain ⟨_, rfl⟩ := exN1 hl; rfl)
  have T : Txt K mg ⟨A_Book, A_Row, A_HandRow, A_GivenRow, A_OwnRow, A_LetRow, A_SetRow, A_PutRow, A_SendRow, A_SayRow, A_CallRow, A_LastRow, A_IfRow, A_LoopRow, A_Program, A_Run⟩ := { is_number := t1, is_good := t2, given_cell := t3, own_cell := t4, cells_of := t5, reckon := t6, round_place := t7, ends_of := t8, run := t9, law_cell_at := t10, law_name := t11, law_number := t12, law_thing := t13, law_value := t14, law_heads := t15, law_gifts := t16, law_taken := t17, law_reckoned := t18, law_same := t19, law_book := t20, law_due := t21, law_empty := t22, z_all := PySem.W.mg_none_of X G z_all, z_bool := PySem.W.mg_none_of X G z_bool, z_dict := PySem.W.mg_none_of X G z_dict, z_divmod := PySem.W.mg_none_of X G z_divmod, z_int := PySem.W.mg_none_of X G z_int, z_isinstance := PySem.W.mg_none_of X G z_isinstance, z_len := PySem.W.mg_none_of X G z_len, z_list := PySem.W.mg_none_of X G z_list, z_range := PySem.W.mg_none_of X G z_range, z_str := PySem.W.mg_none_of X G z_str, z_tuple := PySem.W.mg_none_of X G z_tuple, c_MOST_NUMBER := ⟨_, PySem.W.mg_of X G g_MOST_NUMBER⟩, c_ROUND := ⟨_, PySem.W.mg_of X G g_ROUND⟩, o_Book := ⟨PySem.W.mg_of X G x_Book, ⟨xpg_Book, xhd_Book, xpo_Book, xsa_Book⟩, ⟨_, xl_Book, xm_Book⟩, xty_Book, xkc_Book, cg, ct, xmk_Book, xkp_Book⟩, m_Book_init := mFn_mk xi_Book_init xf_Book_init xo_Book_init xc_Book_init xq_Book_init fun _ _ _ _ _ _ us hl => (by obtain ⟨_, rfl⟩ := exN1 hl; rfl), n_Book_letters := xw_Book_letters, n_Book_said := xw_Book_said, n_Book_trace := xw_Book_trace, n_Book_steps := xw_Book_steps, n_Book_ends := xw_Book_ends, o_Row := ⟨PySem.W.mg_of X G x_Row, ⟨xpg_Row, xhd_Row, xpo_Row, xsa_Row⟩, ⟨_, xl_Row, xm_Row⟩, xty_Row, xkc_Row, cg, ct, xmk_Row, xkp_Row⟩, m_Row_init := mFn_mk xi_Row_init xf_Row_init xo_Row_init xc_Row_init xq_Row_init fun _ _ _ _ _ _ us hl => (by obtain ⟨_, _, rfl⟩ := exN2 hl; rfl), o_HandRow := ⟨PySem.W.mg_of X G x_HandRow, ⟨xpg_HandRow, xhd_HandRow, xpo_HandRow, xsa_HandRow⟩, ⟨_, xl_HandRow, xm_HandRow⟩, xty_HandRow, xkc_HandRow, cg, ct, xmk_HandRow, xkp_HandRow⟩, m_HandRow_init := mFn_mk xi_HandRow_init xf_HandRow_init xo_HandRow_init xc_HandRow_init xq_HandRow_init fun _ _ _ _ _ _ us hl => (by obtain ⟨_, _, _, _, rfl⟩ := exN4 hl; rfl), n_HandRow_name := xw_HandRow_name, n_HandRow_rank := xw_HandRow_rank, n_HandRow_number := xw_HandRow_number, o_GivenRow := ⟨PySem.W.mg_of X G x_GivenRow, ⟨xpg_GivenRow, xhd_GivenRow, xpo_GivenRow, xsa_GivenRow⟩, ⟨_, xl_GivenRow, xm_GivenRow⟩, xty_GivenRow, xkc_GivenRow, cg, ct, xmk_GivenRow, xkp_GivenRow⟩, m_GivenRow_init := mFn_mk xi_GivenRow_init xf_GivenRow_init xo_GivenRow_init xc_GivenRow_init xq_GivenRow_init fun _ _ _ _ _ _ us hl => (by obtain ⟨_, _, _, _, _, rfl⟩ := exN5 hl; rfl), n_GivenRow_name := xw_GivenRow_name, n_GivenRow_rank := xw_GivenRow_rank, n_GivenRow_size := xw_GivenRow_size, n_GivenRow_number := xw_GivenRow_number, o_OwnRow := ⟨PySem.W.mg_of X G x_OwnRow, ⟨xpg_OwnRow, xhd_OwnRow, xpo_OwnRow, xsa_OwnRow⟩, ⟨_, xl_OwnRow, xm_OwnRow⟩, xty_OwnRow, xkc_OwnRow, cg, ct, xmk_OwnRow, xkp_OwnRow⟩, m_OwnRow_init := mFn_mk xi_OwnRow_init xf_OwnRow_init xo_OwnRow_init xc_OwnRow_init xq_OwnRow_init fun _ _ _ _ _ _ us hl => (by obtain ⟨_, _, _, _, rfl⟩ := exN4 hl; rfl), n_OwnRow_name := xw_OwnRow_name, n_OwnRow_size := xw_OwnRow_size, n_OwnRow_number := xw_OwnRow_number, o_LetRow := ⟨PySem.W.mg_of X G x_LetRow, ⟨xpg_LetRow, xhd_LetRow, xpo_LetRow, xsa_LetRow⟩, ⟨_, xl_LetRow, xm_LetRow⟩, xty_LetRow, xkc_LetRow, cg, ct, xmk_LetRow, xkp_LetRow⟩, m_LetRow_init := mFn_mk xi_LetRow_init xf_LetRow_init xo_LetRow_init xc_LetRow_init xq_LetRow_init fun _ _ _ _ _ _ us hl => (by obtain ⟨_, _, _, _, rfl⟩ := exN4 hl; rfl), n_LetRow_name := xw_LetRow_name, n_LetRow_rank := xw_LetRow_rank, n_LetRow_number := xw_LetRow_number, o_SetRow := ⟨PySem.W.mg_of X G x_SetRow, ⟨xpg_SetRow, xhd_SetRow, xpo_SetRow, xsa_SetRow⟩, ⟨_, xl_SetRow, xm_SetRow⟩, xty_SetRow, xkc_SetRow, cg, ct, xmk_SetRow, xkp_SetRow⟩, m_SetRow_init := mFn_mk xi_SetRow_init xf_SetRow_init xo_SetRow_init xc_SetRow_init xq_SetRow_init fun _ _ _ _ _ _ us hl => (by obtain ⟨_, _, _, _, rfl⟩ := exN4 hl; rfl), n_SetRow_name := xw_SetRow_name, n_SetRow_value := xw_SetRow_value, n_SetRow_number := xw_SetRow_number, o_PutRow := ⟨PySem.W.mg_of X G x_PutRow, ⟨xpg_PutRow, xhd_PutRow, xpo_PutRow, xsa_PutRow⟩, ⟨_, xl_PutRow, xm_PutRow⟩, xty_PutRow, xkc_PutRow, cg, ct, xmk_PutRow, xkp_PutRow⟩, m_PutRow_init := mFn_mk xi_PutRow_init xf_PutRow_init xo_PutRow_init xc_PutRow_init xq_PutRow_init fun _ _ _ _ _ _ us hl => (by obtain ⟨_, _, _, _, _, rfl⟩ := exN5 hl; rfl), n_PutRow_name := xw_PutRow_name, n_PutRow_place := xw_PutRow_place, n_PutRow_value := xw_PutRow_value, n_PutRow_number := xw_PutRow_number, o_SendRow := ⟨PySem.W.mg_of X G x_SendRow, ⟨xpg_SendRow, xhd_SendRow, xpo_SendRow, xsa_SendRow⟩, ⟨_, xl_SendRow, xm_SendRow⟩, xty_SendRow, xkc_SendRow, cg, ct, xmk_SendRow, xkp_SendRow⟩, m_SendRow_init := mFn_mk xi_SendRow_init xf_SendRow_init xo_SendRow_init xc_SendRow_init xq_SendRow_init fun _ _ _ _ _ _ us hl => (by obtain ⟨_, _, _, _, rfl⟩ := exN4 hl; rfl), n_SendRow_name := xw_SendRow_name, n_SendRow_value := xw_SendRow_value, n_SendRow_number := xw_SendRow_number, o_SayRow := ⟨PySem.W.mg_of X G x_SayRow, ⟨xpg_SayRow, xhd_SayRow, xpo_SayRow, xsa_SayRow⟩, ⟨_, xl_SayRow, xm_SayRow⟩, xty_SayRow, xkc_SayRow, cg, ct, xmk_SayRow, xkp_SayRow⟩, m_SayRow_init := mFn_mk xi_SayRow_init xf_SayRow_init xo_SayRow_init xc_SayRow_init xq_SayRow_init fun _ _ _ _ _ _ us hl => (by obtain ⟨_, _, _, _, _, rfl⟩ := exN5 hl; rfl), n_SayRow_name := xw_SayRow_name, n_SayRow_value := xw_SayRow_value, n_SayRow_mark := xw_SayRow_mark, n_SayRow_number := xw_SayRow_number, o_CallRow := ⟨PySem.W.mg_of X G x_CallRow, ⟨xpg_CallRow, xhd_CallRow, xpo_CallRow, xsa_CallRow⟩, ⟨_, xl_CallRow, xm_CallRow⟩, xty_CallRow, xkc_CallRow, cg, ct, xmk_CallRow, xkp_CallRow⟩, o_LastRow := ⟨PySem.W.mg_of X G x_LastRow, ⟨xpg_LastRow, xhd_LastRow, xpo_LastRow, xsa_LastRow⟩, ⟨_, xl_LastRow, xm_LastRow⟩, xty_LastRow, xkc_LastRow, cg, ct, xmk_LastRow, xkp_LastRow⟩, o_IfRow := ⟨PySem.W.mg_of X G x_IfRow, ⟨xpg_IfRow, xhd_IfRow, xpo_IfRow, xsa_IfRow⟩, ⟨_, xl_IfRow, xm_IfRow⟩, xty_IfRow, xkc_IfRow, cg, ct, xmk_IfRow, xkp_IfRow⟩, o_LoopRow := ⟨PySem.W.mg_of X G x_LoopRow, ⟨xpg_LoopRow, xhd_LoopRow, xpo_LoopRow, xsa_LoopRow⟩, ⟨_, xl_LoopRow, xm_LoopRow⟩, xty_LoopRow, xkc_LoopRow, cg, ct, xmk_LoopRow, xkp_LoopRow⟩, o_Program := ⟨PySem.W.mg_of X G x_Program, ⟨xpg_Program, xhd_Program, xpo_Program, xsa_Program⟩, ⟨_, xl_Program, xm_Program⟩, xty_Program, xkc_Program, cg, ct, xmk_Program, xkp_Program⟩, m_Program_init := mFn_mk xi_Program_init xf_Program_init xo_Program_init xc_Program_init xq_Program_init fun _ _ _ _ _ _ us hl => (by obtain ⟨_, _, _, _, rfl⟩ := exN4 hl; rfl), n_Program_heads := xw_Program_heads, n_Program_deeds := xw_Program_deeds, n_Program_main := xw_Program_main, o_Run := ⟨PySem.W.mg_of X G x_Run, ⟨xpg_Run, xhd_Run, xpo_Run, xsa_Run⟩, ⟨_, xl_Run, xm_Run⟩, xty_Run, xkc_Run, cg, ct, xmk_Run, xkp_Run⟩, m_Run_init := mFn_mk xi_Run_init xf_Run_init xo_Run_init xc_Run_init xq_Run_init fun _ _ _ _ _ _ us hl => (by obtain ⟨_, _, _, rfl⟩ := exN3 hl; rfl), m_Run_number_at := mFn_mk xi_Run_number_at xf_Run_number_at xo_Run_number_at xc_Run_number_at xq_Run_number_at fun _ _ _ _ _ _ us hl => (by obtain ⟨_, _, rfl⟩ := exN2 hl; rfl), m_Run_number_for := mFn_mk xi_Run_number_for xf_Run_number_for xo_Run_number_for xc_Run_number_for xq_Run_number_for fun _ _ _ _ _ _ us hl => (by obtain ⟨_, _, rfl⟩ := exN2 hl; rfl), m_Run_number_told := mFn_mk xi_Run_number_told xf_Run_number_told xo_Run_number_told xc_Run_number_told xq_Run_number_told fun _ _ _ _ _ _ us hl => (by obtain ⟨_, _, rfl⟩ := exN2 hl; rfl), m_Run_pass_steps := mFn_mk xi_Run_pass_steps xf_Run_pass_steps xo_Run_pass_steps xc_Run_pass_steps xq_Run_pass_steps fun _ _ _ _ _ _ us hl => (by obtain ⟨_, _, rfl⟩ := exN2 hl; rfl), m_Run_do_rows := mFn_mk xi_Run_do_rows xf_Run_do_rows xo_Run_do_rows xc_Run_do_rows xq_Run_do_rows fun _ _ _ _ _ _ us hl => (by obtain ⟨_, _, rfl⟩ := exN2 hl; rfl), m_Run_do_row := mFn_mk xi_Run_do_row xf_Run_do_row xo_Run_do_row xc_Run_do_row xq_Run_do_row fun _ _ _ _ _ _ us hl => (by obtain ⟨_, _, rfl⟩ := exN2 hl; rfl), m_Run_do_put := mFn_mk xi_Run_do_put xf_Run_do_put xo_Run_do_put xc_Run_do_put xq_Run_do_put fun _ _ _ _ _ _ us hl => (by obtain ⟨_, _, rfl⟩ := exN2 hl; rfl), n_Run_deeds := xw_Run_deeds, n_Run_cells := xw_Run_cells, n_Run_book := xw_Run_book, of_Row_init := ⟨yg_Row_init, yr_Row_init, _, xi_Row_init, yf_Row_init⟩, nd := nod }
  refine ⟨PySem.W.fnOf "law" "law" (defArgs s_law) (defBody s_law) (defScope s_law) .none kV23 dc23 pm23 an23 cd23 ct23, fun s v => .of_eq rfl, fun base _ _ => ?_⟩
  have e := hfa.symm.trans (PySem.W.mg_of X G a23)
  cases e
  exact has_at (h_law (P := l.prog) (w := w) (base := base) T t23) (PySem.W.mg_of X G a23) l23
theorem walk {l : PySem.W.OpenLaw} {q : Program} {loose : List Str} {XP : (Str → Option Value) → Heap → Prop} {YP : World → Heap → Prop} {d : DefRec} {K : Params → PySem.W.Frag} (hn : l.most = some 63) (hdf : d.params.defaults = []) (hY : ∀ (w : World) (h : Heap), YP w h → (K w.params).In h)
    (F : ∀ (w : World) (mg : Str → Option Value) (fa : Addr) (h : Heap), (K w.params).In h → h.Ns mainGlobals mg → mg d.name = some (.ref fa) → ∃ fd : FuncData, (∀ (s : Shared) (u : Value), BindsTo s fd ⟨[u], []⟩ [("_law_script", u)]) ∧ ∀ base : Heap, (K w.params).In base → base.Ns mainGlobals mg → FnOk l.prog w (K w.params) mg base CX0 20 fa fd ["_law_script"] (sp_law (K w.params))) :
    PySem.W.WalkO q loose XP YP l.row.toRowW d [] (fun f vs => PySem.call f vs) :=
  L2.walk_of (n := 63) (k := 20) (x := "_law_script") (CX := fun _ => CX0) (sp := fun w => sp_law (K w.params)) hn (by decide) hdf ⟨rfl, by decide, by decide⟩ hY F (fun _ _ a ns hl _ hS => ⟨a, ns, rfl, hS, hl, fun _ => rfl⟩) fun _ _ _ _ _ z => z
end K22
open PySem PySem.W PyProof.Rows
set_option maxRecDepth 100000 in
set_option maxHeartbeats 0 in
theorem PySem.Challenge.cw_hushrow_k22_one_row_holds : PySem.Challenge.rw_hushrow_k22_one_row.Holds := by
  w_on; o_law
  refine PySem.W.holds_open (q := K22.seenAt) (loose := []) (Xt := K22.test) (XP := PySem.W.XL K22.seenAt []) (Yf := (PySem.W.kHook K22.heapK K22.keysK K22.keysK_eq).obs) (Ya := (PySem.W.kHook K22.heapK K22.keysK K22.keysK_eq).val) (YP := (PySem.W.kHook K22.heapK K22.keysK K22.keysK_eq).says) (N := 12492) K22.left (PySem.W.kHook K22.heapK K22.keysK K22.keysK_eq).of (PySem.W.kHook K22.heapK K22.keysK K22.keysK_eq).keeps
    (fun s e => PySem.W.xl_of s (Bool.and_eq_true_iff.mp e).1) PySem.W.XL.keeps (by rfl) (by rfl) (by rfl) (fun s e => PySem.W.recFacts_of (Bool.and_eq_true_iff.mp e).2) ?h4 ?h5 ?h6 ⟨rfl, rfl, rfl, rfl, rfl, by decide +kernel⟩ ?hw ?hc
  (case h4 => rfl); (case h5 => first | assumption | decide +kernel); (case h6 => decide +kernel); (case hw => w_witness2)
  k_fill
  refine K22.walk (l := PySem.Challenge.rw_hushrow_k22_one_row) rfl rfl (fun w h Y => PySem.W.kIn_of Y) ?F
  case F =>
    intro w mg fa h KX G hmg
    refine' K22.all_mk KX G hmg ?a1 ?l1 ?c1 ?k1 ?a2 ?l2 ?c2 ?k2 ?a3 ?l3 ?c3 ?k3 ?a4 ?l4 ?c4 ?k4 ?a5 ?l5 ?c5 ?k5 ?a6 ?l6 ?c6 ?k6 ?a7 ?l7 ?c7 ?k7 ?a8 ?l8 ?c8 ?k8 ?a9 ?l9 ?c9 ?k9 ?a10 ?l10 ?c10 ?k10 ?a11 ?l11 ?c11 ?k11 ?a12 ?l12 ?c12 ?k12 ?a13 ?l13 ?c13 ?k13 ?a14 ?l14 ?c14 ?k14 ?a15 ?l15 ?c15 ?k15 ?a16 ?l16 ?c16 ?k16 ?a17 ?l17 ?c17 ?k17 ?a18 ?l18 ?c18 ?k18 ?a19 ?l19 ?c19 ?k19 ?a20 ?l20 ?c20 ?k20 ?a21 ?l21 ?c21 ?k21 ?a22 ?l22 ?c22 ?k22 ?a23 ?l23 ?c23 ?k23 ?z_all ?z_bool ?z_dict ?z_divmod ?z_int ?z_isinstance ?z_len ?z_list ?z_range ?z_str ?z_tuple ?g_MOST_NUMBER ?g_ROUND ?cg ?ct ?x_Book ?xl_Book ?xm_Book ?xpg_Book ?xhd_Book ?xpo_Book ?xsa_Book ?xty_Book ?xkc_Book ?xmk_Book ?xkp_Book ?x_Row ?xl_Row ?xm_Row ?xpg_Row ?xhd_Row ?xpo_Row ?xsa_Row ?xty_Row ?xkc_Row ?xmk_Row ?xkp_Row ?x_HandRow ?xl_HandRow ?xm_HandRow ?xpg_HandRow ?xhd_HandRow ?xpo_HandRow ?xsa_HandRow ?xty_HandRow ?xkc_HandRow ?xmk_HandRow ?xkp_HandRow ?x_GivenRow ?xl_GivenRow ?xm_GivenRow ?xpg_GivenRow ?xhd_GivenRow ?xpo_GivenRow ?xsa_GivenRow ?xty_GivenRow ?xkc_GivenRow ?xmk_GivenRow ?xkp_GivenRow ?x_OwnRow ?xl_OwnRow ?xm_OwnRow ?xpg_OwnRow ?xhd_OwnRow ?xpo_OwnRow ?xsa_OwnRow ?xty_OwnRow ?xkc_OwnRow ?xmk_OwnRow ?xkp_OwnRow ?x_LetRow ?xl_LetRow ?xm_LetRow ?xpg_LetRow ?xhd_LetRow ?xpo_LetRow ?xsa_LetRow ?xty_LetRow ?xkc_LetRow ?xmk_LetRow ?xkp_LetRow ?x_SetRow ?xl_SetRow ?xm_SetRow ?xpg_SetRow ?xhd_SetRow ?xpo_SetRow ?xsa_SetRow ?xty_SetRow ?xkc_SetRow ?xmk_SetRow ?xkp_SetRow ?x_PutRow ?xl_PutRow ?xm_PutRow ?xpg_PutRow ?xhd_PutRow ?xpo_PutRow ?xsa_PutRow ?xty_PutRow ?xkc_PutRow ?xmk_PutRow ?xkp_PutRow ?x_SendRow ?xl_SendRow ?xm_SendRow ?xpg_SendRow ?xhd_SendRow ?xpo_SendRow ?xsa_SendRow ?xty_SendRow ?xkc_SendRow ?xmk_SendRow ?xkp_SendRow ?x_SayRow ?xl_SayRow ?xm_SayRow ?xpg_SayRow ?xhd_SayRow ?xpo_SayRow ?xsa_SayRow ?xty_SayRow ?xkc_SayRow ?xmk_SayRow ?xkp_SayRow ?x_CallRow ?xl_CallRow ?xm_CallRow ?xpg_CallRow ?xhd_CallRow ?xpo_CallRow ?xsa_CallRow ?xty_CallRow ?xkc_CallRow ?xmk_CallRow ?xkp_CallRow ?x_LastRow ?xl_LastRow ?xm_LastRow ?xpg_LastRow ?xhd_LastRow ?xpo_LastRow ?xsa_LastRow ?xty_LastRow ?xkc_LastRow ?xmk_LastRow ?xkp_LastRow ?x_IfRow ?xl_IfRow ?xm_IfRow ?xpg_IfRow ?xhd_IfRow ?xpo_IfRow ?xsa_IfRow ?xty_IfRow ?xkc_IfRow ?xmk_IfRow ?xkp_IfRow ?x_LoopRow ?xl_LoopRow ?xm_LoopRow ?xpg_LoopRow ?xhd_LoopRow ?xpo_LoopRow ?xsa_LoopRow ?xty_LoopRow ?xkc_LoopRow ?xmk_LoopRow ?xkp_LoopRow ?x_Program ?xl_Program ?xm_Program ?xpg_Program ?xhd_Program ?xpo_Program ?xsa_Program ?xty_Program ?xkc_Program ?xmk_Program ?xkp_Program ?x_Run ?xl_Run ?xm_Run ?xpg_Run ?xhd_Run ?xpo_Run ?xsa_Run ?xty_Run ?xkc_Run ?xmk_Run ?xkp_Run ?xi_Book_init ?xf_Book_init ?xo_Book_init ?xc_Book_init ?xq_Book_init ?xw_Book_letters ?xw_Book_said ?xw_Book_trace ?xw_Book_steps ?xw_Book_ends ?xi_Row_init ?xf_Row_init ?xo_Row_init ?xc_Row_init ?xq_Row_init ?xi_HandRow_init ?xf_HandRow_init ?xo_HandRow_init ?xc_HandRow_init ?xq_HandRow_init ?xw_HandRow_name ?xw_HandRow_rank ?xw_HandRow_number ?xi_GivenRow_init ?xf_GivenRow_init ?xo_GivenRow_init ?xc_GivenRow_init ?xq_GivenRow_init ?xw_GivenRow_name ?xw_GivenRow_rank ?xw_GivenRow_size ?xw_GivenRow_number ?xi_OwnRow_init ?xf_OwnRow_init ?xo_OwnRow_init ?xc_OwnRow_init ?xq_OwnRow_init ?xw_OwnRow_name ?xw_OwnRow_size ?xw_OwnRow_number ?xi_LetRow_init ?xf_LetRow_init ?xo_LetRow_init ?xc_LetRow_init ?xq_LetRow_init ?xw_LetRow_name ?xw_LetRow_rank ?xw_LetRow_number ?xi_SetRow_init ?xf_SetRow_init ?xo_SetRow_init ?xc_SetRow_init ?xq_SetRow_init ?xw_SetRow_name ?xw_SetRow_value ?xw_SetRow_number ?xi_PutRow_init ?xf_PutRow_init ?xo_PutRow_init ?xc_PutRow_init ?xq_PutRow_init ?xw_PutRow_name ?xw_PutRow_place ?xw_PutRow_value ?xw_PutRow_number ?xi_SendRow_init ?xf_SendRow_init ?xo_SendRow_init ?xc_SendRow_init ?xq_SendRow_init ?xw_SendRow_name ?xw_SendRow_value ?xw_SendRow_number ?xi_SayRow_init ?xf_SayRow_init ?xo_SayRow_init ?xc_SayRow_init ?xq_SayRow_init ?xw_SayRow_name ?xw_SayRow_value ?xw_SayRow_mark ?xw_SayRow_number ?xi_Program_init ?xf_Program_init ?xo_Program_init ?xc_Program_init ?xq_Program_init ?xw_Program_heads ?xw_Program_deeds ?xw_Program_main ?xi_Run_init ?xf_Run_init ?xo_Run_init ?xc_Run_init ?xq_Run_init ?xi_Run_number_at ?xf_Run_number_at ?xo_Run_number_at ?xc_Run_number_at ?xq_Run_number_at ?xi_Run_number_for ?xf_Run_number_for ?xo_Run_number_for ?xc_Run_number_for ?xq_Run_number_for ?xi_Run_number_told ?xf_Run_number_told ?xo_Run_number_told ?xc_Run_number_told ?xq_Run_number_told ?xi_Run_pass_steps ?xf_Run_pass_steps ?xo_Run_pass_steps ?xc_Run_pass_steps ?xq_Run_pass_steps ?xi_Run_do_rows ?xf_Run_do_rows ?xo_Run_do_rows ?xc_Run_do_rows ?xq_Run_do_rows ?xi_Run_do_row ?xf_Run_do_row ?xo_Run_do_row ?xc_Run_do_row ?xq_Run_do_row ?xi_Run_do_put ?xf_Run_do_put ?xo_Run_do_put ?xc_Run_do_put ?xq_Run_do_put ?xw_Run_deeds ?xw_Run_cells ?xw_Run_book ?yg_Row_init ?yr_Row_init ?yf_Row_init ?nod
    (case a1 => k_is); (case l1 => k_is); (case c1 => k_is); (case k1 => k_is); (case a2 => k_is); (case l2 => k_is)
    (case c2 => k_is); (case k2 => k_is); (case a3 => k_is); (case l3 => k_is); (case c3 => k_is); (case k3 => k_is)
    (case a4 => k_is); (case l4 => k_is); (case c4 => k_is); (case k4 => k_is); (case a5 => k_is); (case l5 => k_is)
    (case c5 => k_is); (case k5 => k_is); (case a6 => k_is); (case l6 => k_is); (case c6 => k_is); (case k6 => k_is)
    (case a7 => k_is); (case l7 => k_is); (case c7 => k_is); (case k7 => k_is); (case a8 => k_is); (case l8 => k_is)
    (case c8 => k_is); (case k8 => k_is); (case a9 => k_is); (case l9 => k_is); (case c9 => k_is); (case k9 => k_is)
    (case a10 => k_is); (case l10 => k_is); (case c10 => k_is); (case k10 => k_is); (case a11 => k_is); (case l11 => k_is)
    (case c11 => k_is); (case k11 => k_is); (case a12 => k_is); (case l12 => k_is); (case c12 => k_is); (case k12 => k_is)
    (case a13 => k_is); (case l13 => k_is); (case c13 => k_is); (case k13 => k_is); (case a14 => k_is); (case l14 => k_is)
    (case c14 => k_is); (case k14 => k_is); (case a15 => k_is); (case l15 => k_is); (case c15 => k_is); (case k15 => k_is)
    (case a16 => k_is); (case l16 => k_is); (case c16 => k_is); (case k16 => k_is); (case a17 => k_is); (case l17 => k_is)
    (case c17 => k_is); (case k17 => k_is); (case a18 => k_is); (case l18 => k_is); (case c18 => k_is); (case k18 => k_is)
    (case a19 => k_is); (case l19 => k_is); (case c19 => k_is); (case k19 => k_is); (case a20 => k_is); (case l20 => k_is)
    (case c20 => k_is); (case k20 => k_is); (case a21 => k_is); (case l21 => k_is); (case c21 => k_is); (case k21 => k_is)
    (case a22 => k_is); (case l22 => k_is); (case c22 => k_is); (case k22 => k_is); (case a23 => k_is); (case l23 => k_is)
    (case c23 => k_is); (case k23 => k_is); (case z_all => k_is); (case z_bool => k_is); (case z_dict => k_is); (case z_divmod => k_is)
    (case z_int => k_is); (case z_isinstance => k_is); (case z_len => k_is); (case z_list => k_is); (case z_range => k_is); (case z_str => k_is)
    (case z_tuple => k_is); (case g_MOST_NUMBER => k_is); (case g_ROUND => k_is); (case cg => k_is); (case ct => k_is); (case x_Book => k_is)
    (case xl_Book => k_is); (case xm_Book => rfl); (case xpg_Book => k_is); (case xhd_Book => k_is); (case xpo_Book => k_is); (case xsa_Book => k_is)
    (case xty_Book => k_is); (case xkc_Book => k_is); (case xmk_Book => k_is); (case xkp_Book => k_is); (case x_Row => k_is); (case xl_Row => k_is)
    (case xm_Row => rfl); (case xpg_Row => k_is); (case xhd_Row => k_is); (case xpo_Row => k_is); (case xsa_Row => k_is); (case xty_Row => k_is)
    (case xkc_Row => k_is); (case xmk_Row => k_is); (case xkp_Row => k_is); (case x_HandRow => k_is); (case xl_HandRow => k_is); (case xm_HandRow => rfl)
    (case xpg_HandRow => k_is); (case xhd_HandRow => k_is); (case xpo_HandRow => k_is); (case xsa_HandRow => k_is); (case xty_HandRow => k_is); (case xkc_HandRow => k_is)
    (case xmk_HandRow => k_is); (case xkp_HandRow => k_is); (case x_GivenRow => k_is); (case xl_GivenRow => k_is); (case xm_GivenRow => rfl); (case xpg_GivenRow => k_is)
    (case xhd_GivenRow => k_is); (case xpo_GivenRow => k_is); (case xsa_GivenRow => k_is); (case xty_GivenRow => k_is); (case xkc_GivenRow => k_is); (case xmk_GivenRow => k_is)
    (case xkp_GivenRow => k_is); (case x_OwnRow => k_is); (case xl_OwnRow => k_is); (case xm_OwnRow => rfl); (case xpg_OwnRow => k_is); (case xhd_OwnRow => k_is)
    (case xpo_OwnRow => k_is); (case xsa_OwnRow => k_is); (case xty_OwnRow => k_is); (case xkc_OwnRow => k_is); (case xmk_OwnRow => k_is); (case xkp_OwnRow => k_is)
    (case x_LetRow => k_is); (case xl_LetRow => k_is); (case xm_LetRow => rfl); (case xpg_LetRow => k_is); (case xhd_LetRow => k_is); (case xpo_LetRow => k_is)
    (case xsa_LetRow => k_is); (case xty_LetRow => k_is); (case xkc_LetRow => k_is); (case xmk_LetRow => k_is); (case xkp_LetRow => k_is); (case x_SetRow => k_is)
    (case xl_SetRow => k_is); (case xm_SetRow => rfl); (case xpg_SetRow => k_is); (case xhd_SetRow => k_is); (case xpo_SetRow => k_is); (case xsa_SetRow => k_is)
    (case xty_SetRow => k_is); (case xkc_SetRow => k_is); (case xmk_SetRow => k_is); (case xkp_SetRow => k_is); (case x_PutRow => k_is); (case xl_PutRow => k_is)
    (case xm_PutRow => rfl); (case xpg_PutRow => k_is); (case xhd_PutRow => k_is); (case xpo_PutRow => k_is); (case xsa_PutRow => k_is); (case xty_PutRow => k_is)
    (case xkc_PutRow => k_is); (case xmk_PutRow => k_is); (case xkp_PutRow => k_is); (case x_SendRow => k_is); (case xl_SendRow => k_is); (case xm_SendRow => rfl)
    (case xpg_SendRow => k_is); (case xhd_SendRow => k_is); (case xpo_SendRow => k_is); (case xsa_SendRow => k_is); (case xty_SendRow => k_is); (case xkc_SendRow => k_is)
    (case xmk_SendRow => k_is); (case xkp_SendRow => k_is); (case x_SayRow => k_is); (case xl_SayRow => k_is); (case xm_SayRow => rfl); (case xpg_SayRow => k_is)
    (case xhd_SayRow => k_is); (case xpo_SayRow => k_is); (case xsa_SayRow => k_is); (case xty_SayRow => k_is); (case xkc_SayRow => k_is); (case xmk_SayRow => k_is)
    (case xkp_SayRow => k_is); (case x_CallRow => k_is); (case xl_CallRow => k_is); (case xm_CallRow => rfl); (case xpg_CallRow => k_is); (case xhd_CallRow => k_is)
    (case xpo_CallRow => k_is); (case xsa_CallRow => k_is); (case xty_CallRow => k_is); (case xkc_CallRow => k_is); (case xmk_CallRow => k_is); (case xkp_CallRow => k_is)
    (case x_LastRow => k_is); (case xl_LastRow => k_is); (case xm_LastRow => rfl); (case xpg_LastRow => k_is); (case xhd_LastRow => k_is); (case xpo_LastRow => k_is)
    (case xsa_LastRow => k_is); (case xty_LastRow => k_is); (case xkc_LastRow => k_is); (case xmk_LastRow => k_is); (case xkp_LastRow => k_is); (case x_IfRow => k_is)
    (case xl_IfRow => k_is); (case xm_IfRow => rfl); (case xpg_IfRow => k_is); (case xhd_IfRow => k_is); (case xpo_IfRow => k_is); (case xsa_IfRow => k_is)
    (case xty_IfRow => k_is); (case xkc_IfRow => k_is); (case xmk_IfRow => k_is); (case xkp_IfRow => k_is); (case x_LoopRow => k_is); (case xl_LoopRow => k_is)
    (case xm_LoopRow => rfl); (case xpg_LoopRow => k_is); (case xhd_LoopRow => k_is); (case xpo_LoopRow => k_is); (case xsa_LoopRow => k_is); (case xty_LoopRow => k_is)
    (case xkc_LoopRow => k_is); (case xmk_LoopRow => k_is); (case xkp_LoopRow => k_is); (case x_Program => k_is); (case xl_Program => k_is); (case xm_Program => rfl)
    (case xpg_Program => k_is); (case xhd_Program => k_is); (case xpo_Program => k_is); (case xsa_Program => k_is); (case xty_Program => k_is); (case xkc_Program => k_is)
    (case xmk_Program => k_is); (case xkp_Program => k_is); (case x_Run => k_is); (case xl_Run => k_is); (case xm_Run => rfl); (case xpg_Run => k_is)
    (case xhd_Run => k_is); (case xpo_Run => k_is); (case xsa_Run => k_is); (case xty_Run => k_is); (case xkc_Run => k_is); (case xmk_Run => k_is)
    (case xkp_Run => k_is); (case xi_Book_init => k_is); (case xf_Book_init => k_is); (case xo_Book_init => k_is); (case xc_Book_init => k_is); (case xq_Book_init => k_is)
    (case xw_Book_letters => k_is); (case xw_Book_said => k_is); (case xw_Book_trace => k_is); (case xw_Book_steps => k_is); (case xw_Book_ends => k_is); (case xi_Row_init => k_is)
    (case xf_Row_init => k_is); (case xo_Row_init => k_is); (case xc_Row_init => k_is); (case xq_Row_init => k_is); (case xi_HandRow_init => k_is); (case xf_HandRow_init => k_is)
    (case xo_HandRow_init => k_is); (case xc_HandRow_init => k_is); (case xq_HandRow_init => k_is); (case xw_HandRow_name => k_is); (case xw_HandRow_rank => k_is); (case xw_HandRow_number => k_is)
    (case xi_GivenRow_init => k_is); (case xf_GivenRow_init => k_is); (case xo_GivenRow_init => k_is); (case xc_GivenRow_init => k_is); (case xq_GivenRow_init => k_is); (case xw_GivenRow_name => k_is)
    (case xw_GivenRow_rank => k_is); (case xw_GivenRow_size => k_is); (case xw_GivenRow_number => k_is); (case xi_OwnRow_init => k_is); (case xf_OwnRow_init => k_is); (case xo_OwnRow_init => k_is)
    (case xc_OwnRow_init => k_is); (case xq_OwnRow_init => k_is); (case xw_OwnRow_name => k_is); (case xw_OwnRow_size => k_is); (case xw_OwnRow_number => k_is); (case xi_LetRow_init => k_is)
    (case xf_LetRow_init => k_is); (case xo_LetRow_init => k_is); (case xc_LetRow_init => k_is); (case xq_LetRow_init => k_is); (case xw_LetRow_name => k_is); (case xw_LetRow_rank => k_is)
    (case xw_LetRow_number => k_is); (case xi_SetRow_init => k_is); (case xf_SetRow_init => k_is); (case xo_SetRow_init => k_is); (case xc_SetRow_init => k_is); (case xq_SetRow_init => k_is)
    (case xw_SetRow_name => k_is); (case xw_SetRow_value => k_is); (case xw_SetRow_number => k_is); (case xi_PutRow_init => k_is); (case xf_PutRow_init => k_is); (case xo_PutRow_init => k_is)
    (case xc_PutRow_init => k_is); (case xq_PutRow_init => k_is); (case xw_PutRow_name => k_is); (case xw_PutRow_place => k_is); (case xw_PutRow_value => k_is); (case xw_PutRow_number => k_is)
    (case xi_SendRow_init => k_is); (case xf_SendRow_init => k_is); (case xo_SendRow_init => k_is); (case xc_SendRow_init => k_is); (case xq_SendRow_init => k_is); (case xw_SendRow_name => k_is)
    (case xw_SendRow_value => k_is); (case xw_SendRow_number => k_is); (case xi_SayRow_init => k_is); (case xf_SayRow_init => k_is); (case xo_SayRow_init => k_is); (case xc_SayRow_init => k_is)
    (case xq_SayRow_init => k_is); (case xw_SayRow_name => k_is); (case xw_SayRow_value => k_is); (case xw_SayRow_mark => k_is); (case xw_SayRow_number => k_is); (case xi_Program_init => k_is)
    (case xf_Program_init => k_is); (case xo_Program_init => k_is); (case xc_Program_init => k_is); (case xq_Program_init => k_is); (case xw_Program_heads => k_is); (case xw_Program_deeds => k_is)
    (case xw_Program_main => k_is); (case xi_Run_init => k_is); (case xf_Run_init => k_is); (case xo_Run_init => k_is); (case xc_Run_init => k_is); (case xq_Run_init => k_is)
    (case xi_Run_number_at => k_is); (case xf_Run_number_at => k_is); (case xo_Run_number_at => k_is); (case xc_Run_number_at => k_is); (case xq_Run_number_at => k_is); (case xi_Run_number_for => k_is)
    (case xf_Run_number_for => k_is); (case xo_Run_number_for => k_is); (case xc_Run_number_for => k_is); (case xq_Run_number_for => k_is); (case xi_Run_number_told => k_is); (case xf_Run_number_told => k_is)
    (case xo_Run_number_told => k_is); (case xc_Run_number_told => k_is); (case xq_Run_number_told => k_is); (case xi_Run_pass_steps => k_is); (case xf_Run_pass_steps => k_is); (case xo_Run_pass_steps => k_is)
    (case xc_Run_pass_steps => k_is); (case xq_Run_pass_steps => k_is); (case xi_Run_do_rows => k_is); (case xf_Run_do_rows => k_is); (case xo_Run_do_rows => k_is); (case xc_Run_do_rows => k_is)
    (case xq_Run_do_rows => k_is); (case xi_Run_do_row => k_is); (case xf_Run_do_row => k_is); (case xo_Run_do_row => k_is); (case xc_Run_do_row => k_is); (case xq_Run_do_row => k_is)
    (case xi_Run_do_put => k_is); (case xf_Run_do_put => k_is); (case xo_Run_do_put => k_is); (case xc_Run_do_put => k_is); (case xq_Run_do_put => k_is); (case xw_Run_deeds => k_is)
    (case xw_Run_cells => k_is); (case xw_Run_book => k_is); (case yg_Row_init => k_is); (case yr_Row_init => k_is); (case yf_Row_init => k_is); (case nod => decide)

