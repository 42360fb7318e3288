import PyProof.Rows.All
import Wide.All
import OpenK.AllK
import Wide.FinOn
import Lean
import PyProof.EqAt
import PyProof.EqKinds
import PyProof.TupleCall
import PyProof.AttrMissSeq
import KE.KDictList
import PyProof.WalksEnum
import PyProof.EnumMake
import PyProof.ZipIter
import PyProof.Rows.ZipGen
import PySem.Challenge.RW_hushrow_k26_calls
set_option Elab.async false
set_option linter.all false
set_option maxRecDepth 100000
namespace Hd
open PySem PySem.W PySem.Calls PyProof.Rows
def runT (tb : String → Option Builtin) (p : Program) (w : World) (n₀ : Nat) (ann : Option Value) : Nat → SharedT → Thread → Option SharedT
  | 0, _, _ => none
  | n + 1, s, t => match through t with
    | true => some s
    | false => match stepOk n₀ ann t with
      | false => none
      | true => match stepT (denote tb) p w s t with
        | some (s', t') => runT tb p w n₀ ann n s' t'
        | none => none
theorem run_of {tb : String → Option Builtin} {p : Program} {w : World} {n₀ : Nat} {ann : Option Value} : ∀ {n : Nat} {s s' : SharedT} {t : Thread},
    runT tb p w n₀ ann n s t = some s' → topRun tb p w n₀ ann n s.abs t = some s'.abs
  | 0, _, _, _, h => by cases h
  | n + 1, s, s', t, h => by
    unfold runT at h
    unfold topRun
    cases he : through t with
    | true => rw [he] at h; cases h; rfl
    | false =>
      rw [he] at h
      cases hk : stepOk n₀ ann t with
      | false => rw [hk] at h; cases h
      | true =>
        rw [hk] at h
        cases hs : stepT (denote tb) p w s t with
        | none => rw [hs] at h; cases h
        | some r => obtain ⟨s₂, t₂⟩ := r; rw [hs] at h; rw [stepT_spec hs]; exact run_of h
def looks (p q : Program) (loose : List Str) (Xt : Shared → Bool) {α : Type} (Yf : Shared → α) (g0 : Bool) (H : Heap) (s : Shared) :=
  (staticsOk (importedModules p.main.body) H s.heap && namesBound p s.heap && gensDone s && laidKept H s.heap, openSeen q loose (importedModules p.main.body) Xt g0 s, Yf s)
def treeOf : List Obj → Nat → BT → BT
  | [], _, t => t
  | o :: r, i, t => treeOf r (i + 1) (t.ins i o)
theorem left_of {p q : Program} {loose : List Str} {Xt : Shared → Bool} {α : Type} {Yf : Shared → α} {Ya : World → α} {N : Nat} {g0 : Bool} {H₀ : Params → Heap} {gs₀ : Array GenState} {d₀ : Drawn} {k₀ m₀ n₀ : Nat} {ann : Option Value} {T₀ : Params → BT} {life : Life}
    (opn : ∀ w : World, (fencedOpening treeTable p w N).map (fun s => (s.heap, s.gens, s.drawn, s.toks)) = some (H₀ w.params, gs₀, d₀, k₀))
    (size : ∀ w : World, ((H₀ w.params).isNs mainGlobals && gs₀.size == 0, (H₀ w.params).objs.size, (H₀ w.params).nsMap mainGlobals "__annotations__") = (true, m₀, ann))
    (tree : ∀ P : Params, absHeap (T₀ P) n₀ life = H₀ P)
    (look : ∀ (w : World) (os : OsState), (runT treeTable p w m₀ ann N ⟨T₀ w.params, n₀, life, gs₀, d₀, k₀, os⟩ (topStub p)).map (fun s => looks p q loose Xt Yf g0 (H₀ w.params) s.abs) = some (true, openGood q loose, Ya w)) :
    LeftO p q loose Xt Yf Ya N g0 := fun w => by
  obtain ⟨⟨h, gs, d, k, os⟩, e, e'⟩ := Option.map_eq_some_iff.mp (opn w)
  obtain ⟨rfl, rfl, rfl, rfl⟩ : h = H₀ w.params ∧ gs = gs₀ ∧ d = d₀ ∧ k = k₀ := by simpa using e'
  obtain ⟨z1, z2, z3⟩ : _ ∧ _ ∧ _ := by simpa only [Prod.mk.injEq] using size w
  obtain ⟨s, hs, hl⟩ := Option.map_eq_some_iff.mp (look w os)
  obtain ⟨l1, l23⟩ := Prod.mk.inj hl
  obtain ⟨l2, l3⟩ := Prod.mk.inj l23
  have r := run_of hs
  have t : topFrom treeTable p w N ⟨H₀ w.params, gs, d, k, os⟩ = some s.abs := by
    unfold topFrom
    dsimp only
    rw [z1, z2, z3]
    unfold SharedT.abs at r
    dsimp only at r
    rw [tree w.params] at r
    show (topRun treeTable p w m₀ ann N ⟨H₀ w.params, gs, d, k, os⟩ (topStub p)).bind _ = _
    rw [r]
    show (match staticsOk (importedModules p.main.body) (H₀ w.params) s.abs.heap && namesBound p s.abs.heap && gensDone s.abs && laidKept (H₀ w.params) s.abs.heap with | true => _ | false => _) = _
    rw [l1]
    rfl
  unfold openEnds
  rw [e]
  show (topFrom treeTable p w N _).map _ = _
  rw [t]
  exact congrArg some (Prod.ext l2 l3)
end Hd

set_option Elab.async false
set_option linter.all false
set_option maxRecDepth 100000
namespace L2
open PySem PySem.Spec PyProof.Rows
def inClass (s : Stmt) (j : Nat) : Stmt := match s with
  | .ClassDef _ _ _ body _ _ _ _ _ _ _ => body.getD j (.Pass ⟨0, 0, 0, 0⟩)
  | _ => .Pass ⟨0, 0, 0, 0⟩
def defArgs (s : Stmt) : Arguments := match s with
  | .FunctionDef _ a _ _ _ _ _ _ _ _ => a
  | _ => { posonlyargs := [], args := [], vararg := none, kwonlyargs := [], kw_defaults := [], kwarg := none, defaults := [] }
def defBody (s : Stmt) : List Stmt := match s with
  | .FunctionDef _ _ b _ _ _ _ _ _ _ => b
  | _ => []
def defScope (s : Stmt) : Scope := match s with
  | .FunctionDef _ _ _ _ _ _ sc _ _ _ => sc
  | _ => { kind := .function, names := [], isGenerator := false, isCoroutine := false }

end L2
namespace K26
open PySem
def top (i : Nat) : Stmt := PySem.Challenge.pw_hushrow_k26_calls.main.body.getD i (.Pass ⟨0, 0, 0, 0⟩)
end K26

set_option Elab.async false
set_option linter.all false
set_option maxRecDepth 100000
set_option maxHeartbeats 0
namespace K26
open PySem L2 PySem.W
noncomputable abbrev E (P : Params) (x : Str) (t : Nat) (v : Value) : DictEntry := ⟨PyData.keyHash P x, .str x t, v⟩
noncomputable def heapK (P : Params) : PySem.W.Frag :=
  (nat_lit 2, ⟨.none, none, .dict #[] 0, #[]⟩) ::
  (nat_lit 3, ⟨(.type "dict"), none, .dict #[E P "__name__" 165 (.str "law_hushrow_k26_calls" 1056), E P "__doc__" 166 .none, E P "__package__" 167 .none, E P "__loader__" 168 (.builtin "__main__.__loader__#opaque"), E P "__spec__" 169 .none, E P "__annotations__" 170 (.ref 6), E P "__builtins__" 171 (.ref 4), E P "__file__" 173 (.str "/claim/cut.py" 172), E P "__cached__" 174 .none, E P "_wall" 193 (.ref 21), E P "Book" 227 (.ref 38), E P "HushError" 247 (.ref 52), E P "NoGift" 272 (.ref 72), E P "Row" 317 (.ref 105), E P "HandRow" 352 (.ref 133), E P "GivenRow" 389 (.ref 159), E P "OwnRow" 424 (.ref 185), E P "SetRow" 473 (.ref 225), E P "PutRow" 524 (.ref 265), E P "SendRow" 566 (.ref 298), E P "SayRow" 617 (.ref 338), E P "CallRow" 659 (.ref 371), E P "LastRow" 682 (.ref 390), E P "IfRow" 730 (.ref 423), E P "LoopRow" 778 (.ref 456), E P "DeedRow" 815 (.ref 482), E P "Program" 848 (.ref 501), E P "MOST_NUMBER" 852 (.int (999999999999) 851), E P "is_number" 859 (.ref 512), E P "is_good" 865 (.ref 517), E P "given_cell" 874 (.ref 524), E P "own_cell" 881 (.ref 531), E P "cells_of" 893 (.ref 538), E P "ROUND" 897 (.int (1000000000000) 896), E P "reckon" 906 (.ref 545), E P "round_place" 914 (.ref 552), E P "Run" 1039 (.ref 637), E P "ends_of" 1045 (.ref 646), E P "run" 1055 (.ref 653), E P "_law_cell_at" 1065 (.ref 660), E P "_law_mix" 1076 (.ref 667), E P "_law_name" 1091 (.ref 674), E P "_law_thing" 1099 (.ref 681), E P "_law_deed" 1105 (.ref 686), E P "_law_deeds" 1119 (.ref 693), E P "_law_made" 1130 (.ref 700), E P "_law_calls" 1144 (.ref 707), E P "_law_tell" 1153 (.ref 714), E P "_law_call" 1169 (.ref 721), E P "_law_same" 1178 (.ref 728), E P "law" 1184 (.ref 733)] 51, #[]⟩) ::
  (nat_lit 15, ⟨(.type "tuple"), none, .seq #[] 0, #[]⟩) ::
  (nat_lit 17, ⟨(.type "tuple"), none, .seq #[(.str "k" 190)] 0, #[]⟩) ::
  (nat_lit 18, ⟨(.type "tuple"), none, .seq #[] 0, #[]⟩) ::
  (nat_lit 20, ⟨(.type "code"), none, .fields #[(.str "_wall" 187), (.str "_wall" 188), (.str "/claim/cut.py" 189), (.int (1) 0), (.int (1) 0), (.int (0) 0), (.int (0) 0), (.int (3) 0), (.ref 15), (.bool true), (.int (181) 0), (.ref 16), .none, (.ref 17), (.ref 18), (.ref 19), (.int (191) 0), (.int (1) 0), (.str "/claim/cut.py" 192)], #[]⟩) ::
  (nat_lit 21, ⟨(.type "function"), none, .func (PySem.W.fnOf "_wall" "_wall" (defArgs (top 0)) (defBody (top 0)) (defScope (top 0)) .none .none .none (.str "__main__" 164) none (.ref 20) .none), #[]⟩) ::
  (nat_lit 29, ⟨(.type "tuple"), none, .seq #[] 0, #[]⟩) ::
  (nat_lit 31, ⟨(.type "tuple"), none, .seq #[(.str "self" 211)] 0, #[]⟩) ::
  (nat_lit 32, ⟨(.type "tuple"), none, .seq #[] 0, #[]⟩) ::
  (nat_lit 34, ⟨(.type "code"), none, .fields #[(.str "__init__" 208), (.str "Book.__init__" 209), (.str "/claim/cut.py" 210), (.int (7) 0), (.int (1) 0), (.int (0) 0), (.int (0) 0), (.int (3) 0), (.ref 29), (.bool true), (.int (181) 0), (.ref 30), .none, (.ref 31), (.ref 32), (.ref 33), (.int (212) 0), (.int (7) 0), (.str "/claim/cut.py" 213)], #[]⟩) ::
  (nat_lit 35, ⟨(.type "function"), none, .func (PySem.W.fnOf "__init__" "Book.__init__" (defArgs (inClass (top 2) 0)) (defBody (inClass (top 2) 0)) (defScope (inClass (top 2) 0)) .none .none .none (.str "hushrow.books" 194) none (.ref 34) .none), #[]⟩) ::
  (nat_lit 36, ⟨(.type "tuple"), none, .seq #[(.str "ends" 215), (.str "letters" 216), (.str "said" 217), (.str "steps" 218), (.str "trace" 219)] 0, #[]⟩) ::
  (nat_lit 37, ⟨(.type "dict"), none, .dict #[E P "__module__" 203 (.str "hushrow.books" 194), E P "__firstlineno__" 207 (.int (5) 206), E P "__init__" 214 (.ref 35), E P "__static_attributes__" 220 (.ref 36), E P "__dict__" 222 (.ref 39), E P "__weakref__" 224 (.ref 40), E P "__doc__" 225 .none] 4, #[]⟩) ::
  (nat_lit 38, ⟨(.type "type"), none, .cls { name := "Book", bases := [(.type "object")], mro := [(.ref 38), (.type "object")], ns := 37, qualname := "Book", hasDict := true, slotNames := [], subclasses := [], abstract := false, collection := none, hasDel := false }, #[none, none, (some (.str "Book" 196)), (some (.str "Book" 204)), (some (.builtin "object.__new__")), (some (.bool true))]⟩) ::
  (nat_lit 39, ⟨(.type "getset_descriptor"), none, .fields #[(.str "__dict__" 221), (.ref 38), (.builtin "function.__dict__"), (.builtin "function.__dict__#set")], #[]⟩) ::
  (nat_lit 40, ⟨(.type "getset_descriptor"), none, .fields #[(.str "__weakref__" 223), (.ref 38), (.builtin "ExceptionGroup.__weakref__"), .none], #[]⟩) ::
  (nat_lit 43, ⟨(.type "tuple"), none, .seq #[(.type "ValueError")] 0, #[]⟩) ::
  (nat_lit 50, ⟨(.type "tuple"), none, .seq #[] 0, #[]⟩) ::
  (nat_lit 51, ⟨(.type "dict"), none, .dict #[E P "__module__" 237 (.str "hushrow.errors" 228), E P "__firstlineno__" 241 (.int (14) 240), E P "__static_attributes__" 242 (.ref 50), E P "__weakref__" 244 (.ref 53), E P "__doc__" 245 .none] 3, #[]⟩) ::
  (nat_lit 52, ⟨(.type "type"), none, .cls { name := "HushError", bases := [(.type "ValueError")], mro := [(.ref 52), (.type "ValueError"), (.type "Exception"), (.type "BaseException"), (.type "object")], ns := 51, qualname := "HushError", hasDict := true, slotNames := [], subclasses := [(.ref 72)], abstract := false, collection := none, hasDel := false }, #[(some (.ref 43)), none, (some (.str "HushError" 230)), (some (.str "HushError" 238)), (some (.builtin "ValueError.__new__")), (some (.bool true))]⟩) ::
  (nat_lit 53, ⟨(.type "getset_descriptor"), none, .fields #[(.str "__weakref__" 243), (.ref 52), (.builtin "ExceptionGroup.__weakref__"), .none], #[]⟩) ::
  (nat_lit 56, ⟨(.type "tuple"), none, .seq #[(.ref 52)] 0, #[]⟩) ::
  (nat_lit 63, ⟨(.type "tuple"), none, .seq #[] 0, #[]⟩) ::
  (nat_lit 65, ⟨(.type "tuple"), none, .seq #[(.str "self" 263), (.str "name" 264)] 0, #[]⟩) ::
  (nat_lit 66, ⟨(.type "tuple"), none, .seq #[] 0, #[]⟩) ::
  (nat_lit 68, ⟨(.type "code"), none, .fields #[(.str "__init__" 260), (.str "NoGift.__init__" 261), (.str "/claim/cut.py" 262), (.int (18) 0), (.int (2) 0), (.int (0) 0), (.int (0) 0), (.int (3) 0), (.ref 63), (.bool true), (.int (181) 0), (.ref 64), .none, (.ref 65), (.ref 66), (.ref 67), (.int (265) 0), (.int (18) 0), (.str "/claim/cut.py" 266)], #[]⟩) ::
  (nat_lit 69, ⟨(.type "function"), none, .func (PySem.W.fnOf "__init__" "NoGift.__init__" (defArgs (inClass (top 5) 0)) (defBody (inClass (top 5) 0)) (defScope (inClass (top 5) 0)) .none .none .none (.str "hushrow.errors" 228) none (.ref 68) .none), #[]⟩) ::
  (nat_lit 70, ⟨(.type "tuple"), none, .seq #[(.str "name" 268)] 0, #[]⟩) ::
  (nat_lit 71, ⟨(.type "dict"), none, .dict #[E P "__module__" 255 (.str "hushrow.errors" 228), E P "__firstlineno__" 259 (.int (16) 258), E P "__init__" 267 (.ref 69), E P "__static_attributes__" 269 (.ref 70), E P "__doc__" 270 .none] 2, #[]⟩) ::
  (nat_lit 72, ⟨(.type "type"), none, .cls { name := "NoGift", bases := [(.ref 52)], mro := [(.ref 72), (.ref 52), (.type "ValueError"), (.type "Exception"), (.type "BaseException"), (.type "object")], ns := 71, qualname := "NoGift", hasDict := true, slotNames := [], subclasses := [], abstract := false, collection := none, hasDel := false }, #[(some (.ref 56)), none, (some (.str "NoGift" 248)), (some (.str "NoGift" 256)), (some (.builtin "ValueError.__new__")), (some (.bool true))]⟩) ::
  (nat_lit 82, ⟨(.type "tuple"), none, .seq #[] 0, #[]⟩) ::
  (nat_lit 84, ⟨(.type "tuple"), none, .seq #[(.str "self" 290), (.str "number" 291)] 0, #[]⟩) ::
  (nat_lit 85, ⟨(.type "tuple"), none, .seq #[] 0, #[]⟩) ::
  (nat_lit 87, ⟨(.type "code"), none, .fields #[(.str "__init__" 287), (.str "Row.__init__" 288), (.str "/claim/cut.py" 289), (.int (23) 0), (.int (2) 0), (.int (0) 0), (.int (0) 0), (.int (3) 0), (.ref 82), (.bool true), (.int (181) 0), (.ref 83), .none, (.ref 84), (.ref 85), (.ref 86), (.int (292) 0), (.int (23) 0), (.str "/claim/cut.py" 293)], #[]⟩) ::
  (nat_lit 88, ⟨(.type "function"), none, .func (PySem.W.fnOf "__init__" "Row.__init__" (defArgs (inClass (top 7) 0)) (defBody (inClass (top 7) 0)) (defScope (inClass (top 7) 0)) .none .none .none (.str "hushrow.rows" 273) none (.ref 87) .none), #[]⟩) ::
  (nat_lit 89, ⟨(.type "tuple"), none, .seq #[] 0, #[]⟩) ::
  (nat_lit 91, ⟨(.type "tuple"), none, .seq #[(.str "self" 298)] 0, #[]⟩) ::
  (nat_lit 92, ⟨(.type "tuple"), none, .seq #[] 0, #[]⟩) ::
  (nat_lit 94, ⟨(.type "code"), none, .fields #[(.str "reads" 295), (.str "Row.reads" 296), (.str "/claim/cut.py" 297), (.int (26) 0), (.int (1) 0), (.int (0) 0), (.int (0) 0), (.int (3) 0), (.ref 89), (.bool true), (.int (181) 0), (.ref 90), .none, (.ref 91), (.ref 92), (.ref 93), (.int (299) 0), (.int (26) 0), (.str "/claim/cut.py" 300)], #[]⟩) ::
  (nat_lit 95, ⟨(.type "function"), none, .func (PySem.W.fnOf "reads" "Row.reads" (defArgs (inClass (top 7) 1)) (defBody (inClass (top 7) 1)) (defScope (inClass (top 7) 1)) .none .none .none (.str "hushrow.rows" 273) none (.ref 94) .none), #[]⟩) ::
  (nat_lit 96, ⟨(.type "tuple"), none, .seq #[] 0, #[]⟩) ::
  (nat_lit 98, ⟨(.type "tuple"), none, .seq #[(.str "self" 305)] 0, #[]⟩) ::
  (nat_lit 99, ⟨(.type "tuple"), none, .seq #[] 0, #[]⟩) ::
  (nat_lit 101, ⟨(.type "code"), none, .fields #[(.str "target" 302), (.str "Row.target" 303), (.str "/claim/cut.py" 304), (.int (29) 0), (.int (1) 0), (.int (0) 0), (.int (0) 0), (.int (3) 0), (.ref 96), (.bool true), (.int (181) 0), (.ref 97), .none, (.ref 98), (.ref 99), (.ref 100), (.int (306) 0), (.int (29) 0), (.str "/claim/cut.py" 307)], #[]⟩) ::
  (nat_lit 102, ⟨(.type "function"), none, .func (PySem.W.fnOf "target" "Row.target" (defArgs (inClass (top 7) 2)) (defBody (inClass (top 7) 2)) (defScope (inClass (top 7) 2)) .none .none .none (.str "hushrow.rows" 273) none (.ref 101) .none), #[]⟩) ::
  (nat_lit 103, ⟨(.type "tuple"), none, .seq #[(.str "number" 309)] 0, #[]⟩) ::
  (nat_lit 104, ⟨(.type "dict"), none, .dict #[E P "__module__" 282 (.str "hushrow.rows" 273), E P "__firstlineno__" 286 (.int (21) 285), E P "__init__" 294 (.ref 88), E P "reads" 301 (.ref 95), E P "target" 308 (.ref 102), E P "__static_attributes__" 310 (.ref 103), E P "__dict__" 312 (.ref 106), E P "__weakref__" 314 (.ref 107), E P "__doc__" 315 .none] 4, #[]⟩) ::
  (nat_lit 105, ⟨(.type "type"), none, .cls { name := "Row", bases := [(.type "object")], mro := [(.ref 105), (.type "object")], ns := 104, qualname := "Row", hasDict := true, slotNames := [], subclasses := [(.ref 133), (.ref 159), (.ref 185), (.ref 225), (.ref 265), (.ref 298), (.ref 338), (.ref 371), (.ref 390), (.ref 423), (.ref 456), (.ref 482)], abstract := false, collection := none, hasDel := false }, #[none, none, (some (.str "Row" 275)), (some (.str "Row" 283)), (some (.builtin "object.__new__")), (some (.bool true))]⟩) ::
  (nat_lit 106, ⟨(.type "getset_descriptor"), none, .fields #[(.str "__dict__" 311), (.ref 105), (.builtin "function.__dict__"), (.builtin "function.__dict__#set")], #[]⟩) ::
  (nat_lit 107, ⟨(.type "getset_descriptor"), none, .fields #[(.str "__weakref__" 313), (.ref 105), (.builtin "ExceptionGroup.__weakref__"), .none], #[]⟩) ::
  (nat_lit 110, ⟨(.type "tuple"), none, .seq #[(.ref 105)] 0, #[]⟩) ::
  (nat_lit 117, ⟨(.type "tuple"), none, .seq #[] 0, #[]⟩) ::
  (nat_lit 119, ⟨(.type "tuple"), none, .seq #[(.str "self" 333), (.str "number" 334), (.str "name" 335), (.str "rank" 336)] 0, #[]⟩) ::
  (nat_lit 120, ⟨(.type "tuple"), none, .seq #[] 0, #[]⟩) ::
  (nat_lit 122, ⟨(.type "code"), none, .fields #[(.str "__init__" 330), (.str "HandRow.__init__" 331), (.str "/claim/cut.py" 332), (.int (33) 0), (.int (4) 0), (.int (0) 0), (.int (0) 0), (.int (3) 0), (.ref 117), (.bool true), (.int (181) 0), (.ref 118), .none, (.ref 119), (.ref 120), (.ref 121), (.int (337) 0), (.int (33) 0), (.str "/claim/cut.py" 338)], #[]⟩) ::
  (nat_lit 123, ⟨(.type "function"), none, .func (PySem.W.fnOf "__init__" "HandRow.__init__" (defArgs (inClass (top 8) 0)) (defBody (inClass (top 8) 0)) (defScope (inClass (top 8) 0)) .none .none .none (.str "hushrow.rows" 273) none (.ref 122) .none), #[]⟩) ::
  (nat_lit 124, ⟨(.type "tuple"), none, .seq #[] 0, #[]⟩) ::
  (nat_lit 126, ⟨(.type "tuple"), none, .seq #[(.str "self" 343)] 0, #[]⟩) ::
  (nat_lit 127, ⟨(.type "tuple"), none, .seq #[] 0, #[]⟩) ::
  (nat_lit 129, ⟨(.type "code"), none, .fields #[(.str "shown" 340), (.str "HandRow.shown" 341), (.str "/claim/cut.py" 342), (.int (38) 0), (.int (1) 0), (.int (0) 0), (.int (0) 0), (.int (3) 0), (.ref 124), (.bool true), (.int (181) 0), (.ref 125), .none, (.ref 126), (.ref 127), (.ref 128), (.int (344) 0), (.int (38) 0), (.str "/claim/cut.py" 345)], #[]⟩) ::
  (nat_lit 130, ⟨(.type "function"), none, .func (PySem.W.fnOf "shown" "HandRow.shown" (defArgs (inClass (top 8) 1)) (defBody (inClass (top 8) 1)) (defScope (inClass (top 8) 1)) .none .none .none (.str "hushrow.rows" 273) none (.ref 129) .none), #[]⟩) ::
  (nat_lit 131, ⟨(.type "tuple"), none, .seq #[(.str "name" 347), (.str "rank" 348)] 0, #[]⟩) ::
  (nat_lit 132, ⟨(.type "dict"), none, .dict #[E P "__module__" 325 (.str "hushrow.rows" 273), E P "__firstlineno__" 329 (.int (31) 328), E P "__init__" 339 (.ref 123), E P "shown" 346 (.ref 130), E P "__static_attributes__" 349 (.ref 131), E P "__doc__" 350 .none] 2, #[]⟩) ::
  (nat_lit 133, ⟨(.type "type"), none, .cls { name := "HandRow", bases := [(.ref 105)], mro := [(.ref 133), (.ref 105), (.type "object")], ns := 132, qualname := "HandRow", hasDict := true, slotNames := [], subclasses := [], abstract := false, collection := none, hasDel := false }, #[(some (.ref 110)), none, (some (.str "HandRow" 318)), (some (.str "HandRow" 326)), (some (.builtin "object.__new__")), (some (.bool true))]⟩) ::
  (nat_lit 136, ⟨(.type "tuple"), none, .seq #[(.ref 105)] 0, #[]⟩) ::
  (nat_lit 143, ⟨(.type "tuple"), none, .seq #[] 0, #[]⟩) ::
  (nat_lit 145, ⟨(.type "tuple"), none, .seq #[(.str "self" 368), (.str "number" 369), (.str "name" 370), (.str "rank" 371), (.str "size" 372)] 0, #[]⟩) ::
  (nat_lit 146, ⟨(.type "tuple"), none, .seq #[] 0, #[]⟩) ::
  (nat_lit 148, ⟨(.type "code"), none, .fields #[(.str "__init__" 365), (.str "GivenRow.__init__" 366), (.str "/claim/cut.py" 367), (.int (42) 0), (.int (5) 0), (.int (0) 0), (.int (0) 0), (.int (3) 0), (.ref 143), (.bool true), (.int (181) 0), (.ref 144), .none, (.ref 145), (.ref 146), (.ref 147), (.int (373) 0), (.int (42) 0), (.str "/claim/cut.py" 374)], #[]⟩) ::
  (nat_lit 149, ⟨(.type "function"), none, .func (PySem.W.fnOf "__init__" "GivenRow.__init__" (defArgs (inClass (top 9) 0)) (defBody (inClass (top 9) 0)) (defScope (inClass (top 9) 0)) .none .none .none (.str "hushrow.rows" 273) none (.ref 148) .none), #[]⟩) ::
  (nat_lit 150, ⟨(.type "tuple"), none, .seq #[] 0, #[]⟩) ::
  (nat_lit 152, ⟨(.type "tuple"), none, .seq #[(.str "self" 379)] 0, #[]⟩) ::
  (nat_lit 153, ⟨(.type "tuple"), none, .seq #[] 0, #[]⟩) ::
  (nat_lit 155, ⟨(.type "code"), none, .fields #[(.str "shown" 376), (.str "GivenRow.shown" 377), (.str "/claim/cut.py" 378), (.int (48) 0), (.int (1) 0), (.int (0) 0), (.int (0) 0), (.int (3) 0), (.ref 150), (.bool true), (.int (181) 0), (.ref 151), .none, (.ref 152), (.ref 153), (.ref 154), (.int (380) 0), (.int (48) 0), (.str "/claim/cut.py" 381)], #[]⟩) ::
  (nat_lit 156, ⟨(.type "function"), none, .func (PySem.W.fnOf "shown" "GivenRow.shown" (defArgs (inClass (top 9) 1)) (defBody (inClass (top 9) 1)) (defScope (inClass (top 9) 1)) .none .none .none (.str "hushrow.rows" 273) none (.ref 155) .none), #[]⟩) ::
  (nat_lit 157, ⟨(.type "tuple"), none, .seq #[(.str "name" 383), (.str "rank" 384), (.str "size" 385)] 0, #[]⟩) ::
  (nat_lit 158, ⟨(.type "dict"), none, .dict #[E P "__module__" 360 (.str "hushrow.rows" 273), E P "__firstlineno__" 364 (.int (40) 363), E P "__init__" 375 (.ref 149), E P "shown" 382 (.ref 156), E P "__static_attributes__" 386 (.ref 157), E P "__doc__" 387 .none] 2, #[]⟩) ::
  (nat_lit 159, ⟨(.type "type"), none, .cls { name := "GivenRow", bases := [(.ref 105)], mro := [(.ref 159), (.ref 105), (.type "object")], ns := 158, qualname := "GivenRow", hasDict := true, slotNames := [], subclasses := [], abstract := false, collection := none, hasDel := false }, #[(some (.ref 136)), none, (some (.str "GivenRow" 353)), (some (.str "GivenRow" 361)), (some (.builtin "object.__new__")), (some (.bool true))]⟩) ::
  (nat_lit 162, ⟨(.type "tuple"), none, .seq #[(.ref 105)] 0, #[]⟩) ::
  (nat_lit 169, ⟨(.type "tuple"), none, .seq #[] 0, #[]⟩) ::
  (nat_lit 171, ⟨(.type "tuple"), none, .seq #[(.str "self" 405), (.str "number" 406), (.str "name" 407), (.str "size" 408)] 0, #[]⟩) ::
  (nat_lit 172, ⟨(.type "tuple"), none, .seq #[] 0, #[]⟩) ::
  (nat_lit 174, ⟨(.type "code"), none, .fields #[(.str "__init__" 402), (.str "OwnRow.__init__" 403), (.str "/claim/cut.py" 404), (.int (52) 0), (.int (4) 0), (.int (0) 0), (.int (0) 0), (.int (3) 0), (.ref 169), (.bool true), (.int (181) 0), (.ref 170), .none, (.ref 171), (.ref 172), (.ref 173), (.int (409) 0), (.int (52) 0), (.str "/claim/cut.py" 410)], #[]⟩) ::
  (nat_lit 175, ⟨(.type "function"), none, .func (PySem.W.fnOf "__init__" "OwnRow.__init__" (defArgs (inClass (top 10) 0)) (defBody (inClass (top 10) 0)) (defScope (inClass (top 10) 0)) .none .none .none (.str "hushrow.rows" 273) none (.ref 174) .none), #[]⟩) ::
  (nat_lit 176, ⟨(.type "tuple"), none, .seq #[] 0, #[]⟩) ::
  (nat_lit 178, ⟨(.type "tuple"), none, .seq #[(.str "self" 415)] 0, #[]⟩) ::
  (nat_lit 179, ⟨(.type "tuple"), none, .seq #[] 0, #[]⟩) ::
  (nat_lit 181, ⟨(.type "code"), none, .fields #[(.str "shown" 412), (.str "OwnRow.shown" 413), (.str "/claim/cut.py" 414), (.int (57) 0), (.int (1) 0), (.int (0) 0), (.int (0) 0), (.int (3) 0), (.ref 176), (.bool true), (.int (181) 0), (.ref 177), .none, (.ref 178), (.ref 179), (.ref 180), (.int (416) 0), (.int (57) 0), (.str "/claim/cut.py" 417)], #[]⟩) ::
  (nat_lit 182, ⟨(.type "function"), none, .func (PySem.W.fnOf "shown" "OwnRow.shown" (defArgs (inClass (top 10) 1)) (defBody (inClass (top 10) 1)) (defScope (inClass (top 10) 1)) .none .none .none (.str "hushrow.rows" 273) none (.ref 181) .none), #[]⟩) ::
  (nat_lit 183, ⟨(.type "tuple"), none, .seq #[(.str "name" 419), (.str "size" 420)] 0, #[]⟩) ::
  (nat_lit 184, ⟨(.type "dict"), none, .dict #[E P "__module__" 397 (.str "hushrow.rows" 273), E P "__firstlineno__" 401 (.int (50) 400), E P "__init__" 411 (.ref 175), E P "shown" 418 (.ref 182), E P "__static_attributes__" 421 (.ref 183), E P "__doc__" 422 .none] 2, #[]⟩) ::
  (nat_lit 185, ⟨(.type "type"), none, .cls { name := "OwnRow", bases := [(.ref 105)], mro := [(.ref 185), (.ref 105), (.type "object")], ns := 184, qualname := "OwnRow", hasDict := true, slotNames := [], subclasses := [], abstract := false, collection := none, hasDel := false }, #[(some (.ref 162)), none, (some (.str "OwnRow" 390)), (some (.str "OwnRow" 398)), (some (.builtin "object.__new__")), (some (.bool true))]⟩) ::
  (nat_lit 188, ⟨(.type "tuple"), none, .seq #[(.ref 105)] 0, #[]⟩) ::
  (nat_lit 195, ⟨(.type "tuple"), none, .seq #[] 0, #[]⟩) ::
  (nat_lit 197, ⟨(.type "tuple"), none, .seq #[(.str "self" 440), (.str "number" 441), (.str "name" 442), (.str "value" 443)] 0, #[]⟩) ::
  (nat_lit 198, ⟨(.type "tuple"), none, .seq #[] 0, #[]⟩) ::
  (nat_lit 200, ⟨(.type "code"), none, .fields #[(.str "__init__" 437), (.str "SetRow.__init__" 438), (.str "/claim/cut.py" 439), (.int (61) 0), (.int (4) 0), (.int (0) 0), (.int (0) 0), (.int (3) 0), (.ref 195), (.bool true), (.int (181) 0), (.ref 196), .none, (.ref 197), (.ref 198), (.ref 199), (.int (444) 0), (.int (61) 0), (.str "/claim/cut.py" 445)], #[]⟩) ::
  (nat_lit 201, ⟨(.type "function"), none, .func (PySem.W.fnOf "__init__" "SetRow.__init__" (defArgs (inClass (top 11) 0)) (defBody (inClass (top 11) 0)) (defScope (inClass (top 11) 0)) .none .none .none (.str "hushrow.rows" 273) none (.ref 200) .none), #[]⟩) ::
  (nat_lit 202, ⟨(.type "tuple"), none, .seq #[] 0, #[]⟩) ::
  (nat_lit 204, ⟨(.type "tuple"), none, .seq #[(.str "self" 450)] 0, #[]⟩) ::
  (nat_lit 205, ⟨(.type "tuple"), none, .seq #[] 0, #[]⟩) ::
  (nat_lit 207, ⟨(.type "code"), none, .fields #[(.str "shown" 447), (.str "SetRow.shown" 448), (.str "/claim/cut.py" 449), (.int (66) 0), (.int (1) 0), (.int (0) 0), (.int (0) 0), (.int (3) 0), (.ref 202), (.bool true), (.int (181) 0), (.ref 203), .none, (.ref 204), (.ref 205), (.ref 206), (.int (451) 0), (.int (66) 0), (.str "/claim/cut.py" 452)], #[]⟩) ::
  (nat_lit 208, ⟨(.type "function"), none, .func (PySem.W.fnOf "shown" "SetRow.shown" (defArgs (inClass (top 11) 1)) (defBody (inClass (top 11) 1)) (defScope (inClass (top 11) 1)) .none .none .none (.str "hushrow.rows" 273) none (.ref 207) .none), #[]⟩) ::
  (nat_lit 209, ⟨(.type "tuple"), none, .seq #[] 0, #[]⟩) ::
  (nat_lit 211, ⟨(.type "tuple"), none, .seq #[(.str "self" 457)] 0, #[]⟩) ::
  (nat_lit 212, ⟨(.type "tuple"), none, .seq #[] 0, #[]⟩) ::
  (nat_lit 214, ⟨(.type "code"), none, .fields #[(.str "reads" 454), (.str "SetRow.reads" 455), (.str "/claim/cut.py" 456), (.int (69) 0), (.int (1) 0), (.int (0) 0), (.int (0) 0), (.int (3) 0), (.ref 209), (.bool true), (.int (181) 0), (.ref 210), .none, (.ref 211), (.ref 212), (.ref 213), (.int (458) 0), (.int (69) 0), (.str "/claim/cut.py" 459)], #[]⟩) ::
  (nat_lit 215, ⟨(.type "function"), none, .func (PySem.W.fnOf "reads" "SetRow.reads" (defArgs (inClass (top 11) 2)) (defBody (inClass (top 11) 2)) (defScope (inClass (top 11) 2)) .none .none .none (.str "hushrow.rows" 273) none (.ref 214) .none), #[]⟩) ::
  (nat_lit 216, ⟨(.type "tuple"), none, .seq #[] 0, #[]⟩) ::
  (nat_lit 218, ⟨(.type "tuple"), none, .seq #[(.str "self" 464)] 0, #[]⟩) ::
  (nat_lit 219, ⟨(.type "tuple"), none, .seq #[] 0, #[]⟩) ::
  (nat_lit 221, ⟨(.type "code"), none, .fields #[(.str "target" 461), (.str "SetRow.target" 462), (.str "/claim/cut.py" 463), (.int (72) 0), (.int (1) 0), (.int (0) 0), (.int (0) 0), (.int (3) 0), (.ref 216), (.bool true), (.int (181) 0), (.ref 217), .none, (.ref 218), (.ref 219), (.ref 220), (.int (465) 0), (.int (72) 0), (.str "/claim/cut.py" 466)], #[]⟩) ::
  (nat_lit 222, ⟨(.type "function"), none, .func (PySem.W.fnOf "target" "SetRow.target" (defArgs (inClass (top 11) 3)) (defBody (inClass (top 11) 3)) (defScope (inClass (top 11) 3)) .none .none .none (.str "hushrow.rows" 273) none (.ref 221) .none), #[]⟩) ::
  (nat_lit 223, ⟨(.type "tuple"), none, .seq #[(.str "name" 468), (.str "value" 469)] 0, #[]⟩) ::
  (nat_lit 224, ⟨(.type "dict"), none, .dict #[E P "__module__" 432 (.str "hushrow.rows" 273), E P "__firstlineno__" 436 (.int (59) 435), E P "__init__" 446 (.ref 201), E P "shown" 453 (.ref 208), E P "reads" 460 (.ref 215), E P "target" 467 (.ref 222), E P "__static_attributes__" 470 (.ref 223), E P "__doc__" 471 .none] 2, #[]⟩) ::
  (nat_lit 225, ⟨(.type "type"), none, .cls { name := "SetRow", bases := [(.ref 105)], mro := [(.ref 225), (.ref 105), (.type "object")], ns := 224, qualname := "SetRow", hasDict := true, slotNames := [], subclasses := [], abstract := false, collection := none, hasDel := false }, #[(some (.ref 188)), none, (some (.str "SetRow" 425)), (some (.str "SetRow" 433)), (some (.builtin "object.__new__")), (some (.bool true))]⟩) ::
  (nat_lit 228, ⟨(.type "tuple"), none, .seq #[(.ref 105)] 0, #[]⟩) ::
  (nat_lit 235, ⟨(.type "tuple"), none, .seq #[] 0, #[]⟩) ::
  (nat_lit 237, ⟨(.type "tuple"), none, .seq #[(.str "self" 489), (.str "number" 490), (.str "name" 491), (.str "place" 492), (.str "value" 493)] 0, #[]⟩) ::
  (nat_lit 238, ⟨(.type "tuple"), none, .seq #[] 0, #[]⟩) ::
  (nat_lit 240, ⟨(.type "code"), none, .fields #[(.str "__init__" 486), (.str "PutRow.__init__" 487), (.str "/claim/cut.py" 488), (.int (76) 0), (.int (5) 0), (.int (0) 0), (.int (0) 0), (.int (3) 0), (.ref 235), (.bool true), (.int (181) 0), (.ref 236), .none, (.ref 237), (.ref 238), (.ref 239), (.int (494) 0), (.int (76) 0), (.str "/claim/cut.py" 495)], #[]⟩) ::
  (nat_lit 241, ⟨(.type "function"), none, .func (PySem.W.fnOf "__init__" "PutRow.__init__" (defArgs (inClass (top 12) 0)) (defBody (inClass (top 12) 0)) (defScope (inClass (top 12) 0)) .none .none .none (.str "hushrow.rows" 273) none (.ref 240) .none), #[]⟩) ::
  (nat_lit 242, ⟨(.type "tuple"), none, .seq #[] 0, #[]⟩) ::
  (nat_lit 244, ⟨(.type "tuple"), none, .seq #[(.str "self" 500)] 0, #[]⟩) ::
  (nat_lit 245, ⟨(.type "tuple"), none, .seq #[] 0, #[]⟩) ::
  (nat_lit 247, ⟨(.type "code"), none, .fields #[(.str "shown" 497), (.str "PutRow.shown" 498), (.str "/claim/cut.py" 499), (.int (82) 0), (.int (1) 0), (.int (0) 0), (.int (0) 0), (.int (3) 0), (.ref 242), (.bool true), (.int (181) 0), (.ref 243), .none, (.ref 244), (.ref 245), (.ref 246), (.int (501) 0), (.int (82) 0), (.str "/claim/cut.py" 502)], #[]⟩) ::
  (nat_lit 248, ⟨(.type "function"), none, .func (PySem.W.fnOf "shown" "PutRow.shown" (defArgs (inClass (top 12) 1)) (defBody (inClass (top 12) 1)) (defScope (inClass (top 12) 1)) .none .none .none (.str "hushrow.rows" 273) none (.ref 247) .none), #[]⟩) ::
  (nat_lit 249, ⟨(.type "tuple"), none, .seq #[] 0, #[]⟩) ::
  (nat_lit 251, ⟨(.type "tuple"), none, .seq #[(.str "self" 507)] 0, #[]⟩) ::
  (nat_lit 252, ⟨(.type "tuple"), none, .seq #[] 0, #[]⟩) ::
  (nat_lit 254, ⟨(.type "code"), none, .fields #[(.str "reads" 504), (.str "PutRow.reads" 505), (.str "/claim/cut.py" 506), (.int (85) 0), (.int (1) 0), (.int (0) 0), (.int (0) 0), (.int (3) 0), (.ref 249), (.bool true), (.int (181) 0), (.ref 250), .none, (.ref 251), (.ref 252), (.ref 253), (.int (508) 0), (.int (85) 0), (.str "/claim/cut.py" 509)], #[]⟩) ::
  (nat_lit 255, ⟨(.type "function"), none, .func (PySem.W.fnOf "reads" "PutRow.reads" (defArgs (inClass (top 12) 2)) (defBody (inClass (top 12) 2)) (defScope (inClass (top 12) 2)) .none .none .none (.str "hushrow.rows" 273) none (.ref 254) .none), #[]⟩) ::
  (nat_lit 256, ⟨(.type "tuple"), none, .seq #[] 0, #[]⟩) ::
  (nat_lit 258, ⟨(.type "tuple"), none, .seq #[(.str "self" 514)] 0, #[]⟩) ::
  (nat_lit 259, ⟨(.type "tuple"), none, .seq #[] 0, #[]⟩) ::
  (nat_lit 261, ⟨(.type "code"), none, .fields #[(.str "target" 511), (.str "PutRow.target" 512), (.str "/claim/cut.py" 513), (.int (88) 0), (.int (1) 0), (.int (0) 0), (.int (0) 0), (.int (3) 0), (.ref 256), (.bool true), (.int (181) 0), (.ref 257), .none, (.ref 258), (.ref 259), (.ref 260), (.int (515) 0), (.int (88) 0), (.str "/claim/cut.py" 516)], #[]⟩) ::
  (nat_lit 262, ⟨(.type "function"), none, .func (PySem.W.fnOf "target" "PutRow.target" (defArgs (inClass (top 12) 3)) (defBody (inClass (top 12) 3)) (defScope (inClass (top 12) 3)) .none .none .none (.str "hushrow.rows" 273) none (.ref 261) .none), #[]⟩) ::
  (nat_lit 263, ⟨(.type "tuple"), none, .seq #[(.str "name" 518), (.str "place" 519), (.str "value" 520)] 0, #[]⟩) ::
  (nat_lit 264, ⟨(.type "dict"), none, .dict #[E P "__module__" 481 (.str "hushrow.rows" 273), E P "__firstlineno__" 485 (.int (74) 484), E P "__init__" 496 (.ref 241), E P "shown" 503 (.ref 248), E P "reads" 510 (.ref 255), E P "target" 517 (.ref 262), E P "__static_attributes__" 521 (.ref 263), E P "__doc__" 522 .none] 2, #[]⟩) ::
  (nat_lit 265, ⟨(.type "type"), none, .cls { name := "PutRow", bases := [(.ref 105)], mro := [(.ref 265), (.ref 105), (.type "object")], ns := 264, qualname := "PutRow", hasDict := true, slotNames := [], subclasses := [], abstract := false, collection := none, hasDel := false }, #[(some (.ref 228)), none, (some (.str "PutRow" 474)), (some (.str "PutRow" 482)), (some (.builtin "object.__new__")), (some (.bool true))]⟩) ::
  (nat_lit 268, ⟨(.type "tuple"), none, .seq #[(.ref 105)] 0, #[]⟩) ::
  (nat_lit 275, ⟨(.type "tuple"), none, .seq #[] 0, #[]⟩) ::
  (nat_lit 277, ⟨(.type "tuple"), none, .seq #[(.str "self" 540), (.str "number" 541), (.str "name" 542), (.str "value" 543)] 0, #[]⟩) ::
  (nat_lit 278, ⟨(.type "tuple"), none, .seq #[] 0, #[]⟩) ::
  (nat_lit 280, ⟨(.type "code"), none, .fields #[(.str "__init__" 537), (.str "SendRow.__init__" 538), (.str "/claim/cut.py" 539), (.int (92) 0), (.int (4) 0), (.int (0) 0), (.int (0) 0), (.int (3) 0), (.ref 275), (.bool true), (.int (181) 0), (.ref 276), .none, (.ref 277), (.ref 278), (.ref 279), (.int (544) 0), (.int (92) 0), (.str "/claim/cut.py" 545)], #[]⟩) ::
  (nat_lit 281, ⟨(.type "function"), none, .func (PySem.W.fnOf "__init__" "SendRow.__init__" (defArgs (inClass (top 13) 0)) (defBody (inClass (top 13) 0)) (defScope (inClass (top 13) 0)) .none .none .none (.str "hushrow.rows" 273) none (.ref 280) .none), #[]⟩) ::
  (nat_lit 282, ⟨(.type "tuple"), none, .seq #[] 0, #[]⟩) ::
  (nat_lit 284, ⟨(.type "tuple"), none, .seq #[(.str "self" 550)] 0, #[]⟩) ::
  (nat_lit 285, ⟨(.type "tuple"), none, .seq #[] 0, #[]⟩) ::
  (nat_lit 287, ⟨(.type "code"), none, .fields #[(.str "shown" 547), (.str "SendRow.shown" 548), (.str "/claim/cut.py" 549), (.int (97) 0), (.int (1) 0), (.int (0) 0), (.int (0) 0), (.int (3) 0), (.ref 282), (.bool true), (.int (181) 0), (.ref 283), .none, (.ref 284), (.ref 285), (.ref 286), (.int (551) 0), (.int (97) 0), (.str "/claim/cut.py" 552)], #[]⟩) ::
  (nat_lit 288, ⟨(.type "function"), none, .func (PySem.W.fnOf "shown" "SendRow.shown" (defArgs (inClass (top 13) 1)) (defBody (inClass (top 13) 1)) (defScope (inClass (top 13) 1)) .none .none .none (.str "hushrow.rows" 273) none (.ref 287) .none), #[]⟩) ::
  (nat_lit 289, ⟨(.type "tuple"), none, .seq #[] 0, #[]⟩) ::
  (nat_lit 291, ⟨(.type "tuple"), none, .seq #[(.str "self" 557)] 0, #[]⟩) ::
  (nat_lit 292, ⟨(.type "tuple"), none, .seq #[] 0, #[]⟩) ::
  (nat_lit 294, ⟨(.type "code"), none, .fields #[(.str "reads" 554), (.str "SendRow.reads" 555), (.str "/claim/cut.py" 556), (.int (100) 0), (.int (1) 0), (.int (0) 0), (.int (0) 0), (.int (3) 0), (.ref 289), (.bool true), (.int (181) 0), (.ref 290), .none, (.ref 291), (.ref 292), (.ref 293), (.int (558) 0), (.int (100) 0), (.str "/claim/cut.py" 559)], #[]⟩) ::
  (nat_lit 295, ⟨(.type "function"), none, .func (PySem.W.fnOf "reads" "SendRow.reads" (defArgs (inClass (top 13) 2)) (defBody (inClass (top 13) 2)) (defScope (inClass (top 13) 2)) .none .none .none (.str "hushrow.rows" 273) none (.ref 294) .none), #[]⟩) ::
  (nat_lit 296, ⟨(.type "tuple"), none, .seq #[(.str "name" 561), (.str "value" 562)] 0, #[]⟩) ::
  (nat_lit 297, ⟨(.type "dict"), none, .dict #[E P "__module__" 532 (.str "hushrow.rows" 273), E P "__firstlineno__" 536 (.int (90) 535), E P "__init__" 546 (.ref 281), E P "shown" 553 (.ref 288), E P "reads" 560 (.ref 295), E P "__static_attributes__" 563 (.ref 296), E P "__doc__" 564 .none] 2, #[]⟩) ::
  (nat_lit 298, ⟨(.type "type"), none, .cls { name := "SendRow", bases := [(.ref 105)], mro := [(.ref 298), (.ref 105), (.type "object")], ns := 297, qualname := "SendRow", hasDict := true, slotNames := [], subclasses := [], abstract := false, collection := none, hasDel := false }, #[(some (.ref 268)), none, (some (.str "SendRow" 525)), (some (.str "SendRow" 533)), (some (.builtin "object.__new__")), (some (.bool true))]⟩) ::
  (nat_lit 301, ⟨(.type "tuple"), none, .seq #[(.ref 105)] 0, #[]⟩) ::
  (nat_lit 308, ⟨(.type "tuple"), none, .seq #[] 0, #[]⟩) ::
  (nat_lit 310, ⟨(.type "tuple"), none, .seq #[(.str "self" 582), (.str "number" 583), (.str "name" 584), (.str "value" 585), (.str "mark" 586)] 0, #[]⟩) ::
  (nat_lit 311, ⟨(.type "tuple"), none, .seq #[] 0, #[]⟩) ::
  (nat_lit 313, ⟨(.type "code"), none, .fields #[(.str "__init__" 579), (.str "SayRow.__init__" 580), (.str "/claim/cut.py" 581), (.int (104) 0), (.int (5) 0), (.int (0) 0), (.int (0) 0), (.int (3) 0), (.ref 308), (.bool true), (.int (181) 0), (.ref 309), .none, (.ref 310), (.ref 311), (.ref 312), (.int (587) 0), (.int (104) 0), (.str "/claim/cut.py" 588)], #[]⟩) ::
  (nat_lit 314, ⟨(.type "function"), none, .func (PySem.W.fnOf "__init__" "SayRow.__init__" (defArgs (inClass (top 14) 0)) (defBody (inClass (top 14) 0)) (defScope (inClass (top 14) 0)) .none .none .none (.str "hushrow.rows" 273) none (.ref 313) .none), #[]⟩) ::
  (nat_lit 315, ⟨(.type "tuple"), none, .seq #[] 0, #[]⟩) ::
  (nat_lit 317, ⟨(.type "tuple"), none, .seq #[(.str "self" 593)] 0, #[]⟩) ::
  (nat_lit 318, ⟨(.type "tuple"), none, .seq #[] 0, #[]⟩) ::
  (nat_lit 320, ⟨(.type "code"), none, .fields #[(.str "shown" 590), (.str "SayRow.shown" 591), (.str "/claim/cut.py" 592), (.int (110) 0), (.int (1) 0), (.int (0) 0), (.int (0) 0), (.int (3) 0), (.ref 315), (.bool true), (.int (181) 0), (.ref 316), .none, (.ref 317), (.ref 318), (.ref 319), (.int (594) 0), (.int (110) 0), (.str "/claim/cut.py" 595)], #[]⟩) ::
  (nat_lit 321, ⟨(.type "function"), none, .func (PySem.W.fnOf "shown" "SayRow.shown" (defArgs (inClass (top 14) 1)) (defBody (inClass (top 14) 1)) (defScope (inClass (top 14) 1)) .none .none .none (.str "hushrow.rows" 273) none (.ref 320) .none), #[]⟩) ::
  (nat_lit 322, ⟨(.type "tuple"), none, .seq #[] 0, #[]⟩) ::
  (nat_lit 324, ⟨(.type "tuple"), none, .seq #[(.str "self" 600)] 0, #[]⟩) ::
  (nat_lit 325, ⟨(.type "tuple"), none, .seq #[] 0, #[]⟩) ::
  (nat_lit 327, ⟨(.type "code"), none, .fields #[(.str "reads" 597), (.str "SayRow.reads" 598), (.str "/claim/cut.py" 599), (.int (113) 0), (.int (1) 0), (.int (0) 0), (.int (0) 0), (.int (3) 0), (.ref 322), (.bool true), (.int (181) 0), (.ref 323), .none, (.ref 324), (.ref 325), (.ref 326), (.int (601) 0), (.int (113) 0), (.str "/claim/cut.py" 602)], #[]⟩) ::
  (nat_lit 328, ⟨(.type "function"), none, .func (PySem.W.fnOf "reads" "SayRow.reads" (defArgs (inClass (top 14) 2)) (defBody (inClass (top 14) 2)) (defScope (inClass (top 14) 2)) .none .none .none (.str "hushrow.rows" 273) none (.ref 327) .none), #[]⟩) ::
  (nat_lit 329, ⟨(.type "tuple"), none, .seq #[] 0, #[]⟩) ::
  (nat_lit 331, ⟨(.type "tuple"), none, .seq #[(.str "self" 607)] 0, #[]⟩) ::
  (nat_lit 332, ⟨(.type "tuple"), none, .seq #[] 0, #[]⟩) ::
  (nat_lit 334, ⟨(.type "code"), none, .fields #[(.str "target" 604), (.str "SayRow.target" 605), (.str "/claim/cut.py" 606), (.int (116) 0), (.int (1) 0), (.int (0) 0), (.int (0) 0), (.int (3) 0), (.ref 329), (.bool true), (.int (181) 0), (.ref 330), .none, (.ref 331), (.ref 332), (.ref 333), (.int (608) 0), (.int (116) 0), (.str "/claim/cut.py" 609)], #[]⟩) ::
  (nat_lit 335, ⟨(.type "function"), none, .func (PySem.W.fnOf "target" "SayRow.target" (defArgs (inClass (top 14) 3)) (defBody (inClass (top 14) 3)) (defScope (inClass (top 14) 3)) .none .none .none (.str "hushrow.rows" 273) none (.ref 334) .none), #[]⟩) ::
  (nat_lit 336, ⟨(.type "tuple"), none, .seq #[(.str "mark" 611), (.str "name" 612), (.str "value" 613)] 0, #[]⟩) ::
  (nat_lit 337, ⟨(.type "dict"), none, .dict #[E P "__module__" 574 (.str "hushrow.rows" 273), E P "__firstlineno__" 578 (.int (102) 577), E P "__init__" 589 (.ref 314), E P "shown" 596 (.ref 321), E P "reads" 603 (.ref 328), E P "target" 610 (.ref 335), E P "__static_attributes__" 614 (.ref 336), E P "__doc__" 615 .none] 2, #[]⟩) ::
  (nat_lit 338, ⟨(.type "type"), none, .cls { name := "SayRow", bases := [(.ref 105)], mro := [(.ref 338), (.ref 105), (.type "object")], ns := 337, qualname := "SayRow", hasDict := true, slotNames := [], subclasses := [], abstract := false, collection := none, hasDel := false }, #[(some (.ref 301)), none, (some (.str "SayRow" 567)), (some (.str "SayRow" 575)), (some (.builtin "object.__new__")), (some (.bool true))]⟩) ::
  (nat_lit 341, ⟨(.type "tuple"), none, .seq #[(.ref 105)] 0, #[]⟩) ::
  (nat_lit 348, ⟨(.type "tuple"), none, .seq #[] 0, #[]⟩) ::
  (nat_lit 350, ⟨(.type "tuple"), none, .seq #[(.str "self" 633), (.str "number" 634), (.str "name" 635), (.str "things" 636)] 0, #[]⟩) ::
  (nat_lit 351, ⟨(.type "tuple"), none, .seq #[] 0, #[]⟩) ::
  (nat_lit 353, ⟨(.type "code"), none, .fields #[(.str "__init__" 630), (.str "CallRow.__init__" 631), (.str "/claim/cut.py" 632), (.int (120) 0), (.int (4) 0), (.int (0) 0), (.int (0) 0), (.int (3) 0), (.ref 348), (.bool true), (.int (181) 0), (.ref 349), .none, (.ref 350), (.ref 351), (.ref 352), (.int (637) 0), (.int (120) 0), (.str "/claim/cut.py" 638)], #[]⟩) ::
  (nat_lit 354, ⟨(.type "function"), none, .func (PySem.W.fnOf "__init__" "CallRow.__init__" (defArgs (inClass (top 15) 0)) (defBody (inClass (top 15) 0)) (defScope (inClass (top 15) 0)) .none .none .none (.str "hushrow.rows" 273) none (.ref 353) .none), #[]⟩) ::
  (nat_lit 355, ⟨(.type "tuple"), none, .seq #[] 0, #[]⟩) ::
  (nat_lit 357, ⟨(.type "tuple"), none, .seq #[(.str "self" 643)] 0, #[]⟩) ::
  (nat_lit 358, ⟨(.type "tuple"), none, .seq #[] 0, #[]⟩) ::
  (nat_lit 360, ⟨(.type "code"), none, .fields #[(.str "shown" 640), (.str "CallRow.shown" 641), (.str "/claim/cut.py" 642), (.int (125) 0), (.int (1) 0), (.int (0) 0), (.int (0) 0), (.int (3) 0), (.ref 355), (.bool true), (.int (181) 0), (.ref 356), .none, (.ref 357), (.ref 358), (.ref 359), (.int (644) 0), (.int (125) 0), (.str "/claim/cut.py" 645)], #[]⟩) ::
  (nat_lit 361, ⟨(.type "function"), none, .func (PySem.W.fnOf "shown" "CallRow.shown" (defArgs (inClass (top 15) 1)) (defBody (inClass (top 15) 1)) (defScope (inClass (top 15) 1)) .none .none .none (.str "hushrow.rows" 273) none (.ref 360) .none), #[]⟩) ::
  (nat_lit 362, ⟨(.type "tuple"), none, .seq #[] 0, #[]⟩) ::
  (nat_lit 364, ⟨(.type "tuple"), none, .seq #[(.str "self" 650)] 0, #[]⟩) ::
  (nat_lit 365, ⟨(.type "tuple"), none, .seq #[] 0, #[]⟩) ::
  (nat_lit 367, ⟨(.type "code"), none, .fields #[(.str "reads" 647), (.str "CallRow.reads" 648), (.str "/claim/cut.py" 649), (.int (128) 0), (.int (1) 0), (.int (0) 0), (.int (0) 0), (.int (3) 0), (.ref 362), (.bool true), (.int (181) 0), (.ref 363), .none, (.ref 364), (.ref 365), (.ref 366), (.int (651) 0), (.int (128) 0), (.str "/claim/cut.py" 652)], #[]⟩) ::
  (nat_lit 368, ⟨(.type "function"), none, .func (PySem.W.fnOf "reads" "CallRow.reads" (defArgs (inClass (top 15) 2)) (defBody (inClass (top 15) 2)) (defScope (inClass (top 15) 2)) .none .none .none (.str "hushrow.rows" 273) none (.ref 367) .none), #[]⟩) ::
  (nat_lit 369, ⟨(.type "tuple"), none, .seq #[(.str "name" 654), (.str "things" 655)] 0, #[]⟩) ::
  (nat_lit 370, ⟨(.type "dict"), none, .dict #[E P "__module__" 625 (.str "hushrow.rows" 273), E P "__firstlineno__" 629 (.int (118) 628), E P "__init__" 639 (.ref 354), E P "shown" 646 (.ref 361), E P "reads" 653 (.ref 368), E P "__static_attributes__" 656 (.ref 369), E P "__doc__" 657 .none] 2, #[]⟩) ::
  (nat_lit 371, ⟨(.type "type"), none, .cls { name := "CallRow", bases := [(.ref 105)], mro := [(.ref 371), (.ref 105), (.type "object")], ns := 370, qualname := "CallRow", hasDict := true, slotNames := [], subclasses := [], abstract := false, collection := none, hasDel := false }, #[(some (.ref 341)), none, (some (.str "CallRow" 618)), (some (.str "CallRow" 626)), (some (.builtin "object.__new__")), (some (.bool true))]⟩) ::
  (nat_lit 374, ⟨(.type "tuple"), none, .seq #[(.ref 105)] 0, #[]⟩) ::
  (nat_lit 381, ⟨(.type "tuple"), none, .seq #[] 0, #[]⟩) ::
  (nat_lit 383, ⟨(.type "tuple"), none, .seq #[(.str "self" 675)] 0, #[]⟩) ::
  (nat_lit 384, ⟨(.type "tuple"), none, .seq #[] 0, #[]⟩) ::
  (nat_lit 386, ⟨(.type "code"), none, .fields #[(.str "shown" 672), (.str "LastRow.shown" 673), (.str "/claim/cut.py" 674), (.int (132) 0), (.int (1) 0), (.int (0) 0), (.int (0) 0), (.int (3) 0), (.ref 381), (.bool true), (.int (181) 0), (.ref 382), .none, (.ref 383), (.ref 384), (.ref 385), (.int (676) 0), (.int (132) 0), (.str "/claim/cut.py" 677)], #[]⟩) ::
  (nat_lit 387, ⟨(.type "function"), none, .func (PySem.W.fnOf "shown" "LastRow.shown" (defArgs (inClass (top 16) 0)) (defBody (inClass (top 16) 0)) (defScope (inClass (top 16) 0)) .none .none .none (.str "hushrow.rows" 273) none (.ref 386) .none), #[]⟩) ::
  (nat_lit 388, ⟨(.type "tuple"), none, .seq #[] 0, #[]⟩) ::
  (nat_lit 389, ⟨(.type "dict"), none, .dict #[E P "__module__" 667 (.str "hushrow.rows" 273), E P "__firstlineno__" 671 (.int (130) 670), E P "shown" 678 (.ref 387), E P "__static_attributes__" 679 (.ref 388), E P "__doc__" 680 .none] 2, #[]⟩) ::
  (nat_lit 390, ⟨(.type "type"), none, .cls { name := "LastRow", bases := [(.ref 105)], mro := [(.ref 390), (.ref 105), (.type "object")], ns := 389, qualname := "LastRow", hasDict := true, slotNames := [], subclasses := [], abstract := false, collection := none, hasDel := false }, #[(some (.ref 374)), none, (some (.str "LastRow" 660)), (some (.str "LastRow" 668)), (some (.builtin "object.__new__")), (some (.bool true))]⟩) ::
  (nat_lit 393, ⟨(.type "tuple"), none, .seq #[(.ref 105)] 0, #[]⟩) ::
  (nat_lit 400, ⟨(.type "tuple"), none, .seq #[] 0, #[]⟩) ::
  (nat_lit 402, ⟨(.type "tuple"), none, .seq #[(.str "self" 698), (.str "number" 699), (.str "value" 700), (.str "first" 701), (.str "other" 702), (.str "left" 703), (.str "right" 704)] 0, #[]⟩) ::
  (nat_lit 403, ⟨(.type "tuple"), none, .seq #[] 0, #[]⟩) ::
  (nat_lit 405, ⟨(.type "code"), none, .fields #[(.str "__init__" 695), (.str "IfRow.__init__" 696), (.str "/claim/cut.py" 697), (.int (136) 0), (.int (7) 0), (.int (0) 0), (.int (0) 0), (.int (3) 0), (.ref 400), (.bool true), (.int (181) 0), (.ref 401), .none, (.ref 402), (.ref 403), (.ref 404), (.int (705) 0), (.int (136) 0), (.str "/claim/cut.py" 706)], #[]⟩) ::
  (nat_lit 406, ⟨(.type "function"), none, .func (PySem.W.fnOf "__init__" "IfRow.__init__" (defArgs (inClass (top 17) 0)) (defBody (inClass (top 17) 0)) (defScope (inClass (top 17) 0)) .none .none .none (.str "hushrow.rows" 273) none (.ref 405) .none), #[]⟩) ::
  (nat_lit 407, ⟨(.type "tuple"), none, .seq #[] 0, #[]⟩) ::
  (nat_lit 409, ⟨(.type "tuple"), none, .seq #[(.str "self" 711)] 0, #[]⟩) ::
  (nat_lit 410, ⟨(.type "tuple"), none, .seq #[] 0, #[]⟩) ::
  (nat_lit 412, ⟨(.type "code"), none, .fields #[(.str "shown" 708), (.str "IfRow.shown" 709), (.str "/claim/cut.py" 710), (.int (144) 0), (.int (1) 0), (.int (0) 0), (.int (0) 0), (.int (3) 0), (.ref 407), (.bool true), (.int (181) 0), (.ref 408), .none, (.ref 409), (.ref 410), (.ref 411), (.int (712) 0), (.int (144) 0), (.str "/claim/cut.py" 713)], #[]⟩) ::
  (nat_lit 413, ⟨(.type "function"), none, .func (PySem.W.fnOf "shown" "IfRow.shown" (defArgs (inClass (top 17) 1)) (defBody (inClass (top 17) 1)) (defScope (inClass (top 17) 1)) .none .none .none (.str "hushrow.rows" 273) none (.ref 412) .none), #[]⟩) ::
  (nat_lit 414, ⟨(.type "tuple"), none, .seq #[] 0, #[]⟩) ::
  (nat_lit 416, ⟨(.type "tuple"), none, .seq #[(.str "self" 718)] 0, #[]⟩) ::
  (nat_lit 417, ⟨(.type "tuple"), none, .seq #[] 0, #[]⟩) ::
  (nat_lit 419, ⟨(.type "code"), none, .fields #[(.str "reads" 715), (.str "IfRow.reads" 716), (.str "/claim/cut.py" 717), (.int (147) 0), (.int (1) 0), (.int (0) 0), (.int (0) 0), (.int (3) 0), (.ref 414), (.bool true), (.int (181) 0), (.ref 415), .none, (.ref 416), (.ref 417), (.ref 418), (.int (719) 0), (.int (147) 0), (.str "/claim/cut.py" 720)], #[]⟩) ::
  (nat_lit 420, ⟨(.type "function"), none, .func (PySem.W.fnOf "reads" "IfRow.reads" (defArgs (inClass (top 17) 2)) (defBody (inClass (top 17) 2)) (defScope (inClass (top 17) 2)) .none .none .none (.str "hushrow.rows" 273) none (.ref 419) .none), #[]⟩) ::
  (nat_lit 421, ⟨(.type "tuple"), none, .seq #[(.str "first" 722), (.str "left" 723), (.str "other" 724), (.str "right" 725), (.str "value" 726)] 0, #[]⟩) ::
  (nat_lit 422, ⟨(.type "dict"), none, .dict #[E P "__module__" 690 (.str "hushrow.rows" 273), E P "__firstlineno__" 694 (.int (134) 693), E P "__init__" 707 (.ref 406), E P "shown" 714 (.ref 413), E P "reads" 721 (.ref 420), E P "__static_attributes__" 727 (.ref 421), E P "__doc__" 728 .none] 2, #[]⟩) ::
  (nat_lit 423, ⟨(.type "type"), none, .cls { name := "IfRow", bases := [(.ref 105)], mro := [(.ref 423), (.ref 105), (.type "object")], ns := 422, qualname := "IfRow", hasDict := true, slotNames := [], subclasses := [], abstract := false, collection := none, hasDel := false }, #[(some (.ref 393)), none, (some (.str "IfRow" 683)), (some (.str "IfRow" 691)), (some (.builtin "object.__new__")), (some (.bool true))]⟩) ::
  (nat_lit 426, ⟨(.type "tuple"), none, .seq #[(.ref 105)] 0, #[]⟩) ::
  (nat_lit 433, ⟨(.type "tuple"), none, .seq #[] 0, #[]⟩) ::
  (nat_lit 435, ⟨(.type "tuple"), none, .seq #[(.str "self" 746), (.str "number" 747), (.str "thing" 748), (.str "most" 749), (.str "body" 750), (.str "left" 751), (.str "right" 752)] 0, #[]⟩) ::
  (nat_lit 436, ⟨(.type "tuple"), none, .seq #[] 0, #[]⟩) ::
  (nat_lit 438, ⟨(.type "code"), none, .fields #[(.str "__init__" 743), (.str "LoopRow.__init__" 744), (.str "/claim/cut.py" 745), (.int (151) 0), (.int (7) 0), (.int (0) 0), (.int (0) 0), (.int (3) 0), (.ref 433), (.bool true), (.int (181) 0), (.ref 434), .none, (.ref 435), (.ref 436), (.ref 437), (.int (753) 0), (.int (151) 0), (.str "/claim/cut.py" 754)], #[]⟩) ::
  (nat_lit 439, ⟨(.type "function"), none, .func (PySem.W.fnOf "__init__" "LoopRow.__init__" (defArgs (inClass (top 18) 0)) (defBody (inClass (top 18) 0)) (defScope (inClass (top 18) 0)) .none .none .none (.str "hushrow.rows" 273) none (.ref 438) .none), #[]⟩) ::
  (nat_lit 440, ⟨(.type "tuple"), none, .seq #[] 0, #[]⟩) ::
  (nat_lit 442, ⟨(.type "tuple"), none, .seq #[(.str "self" 759)] 0, #[]⟩) ::
  (nat_lit 443, ⟨(.type "tuple"), none, .seq #[] 0, #[]⟩) ::
  (nat_lit 445, ⟨(.type "code"), none, .fields #[(.str "shown" 756), (.str "LoopRow.shown" 757), (.str "/claim/cut.py" 758), (.int (159) 0), (.int (1) 0), (.int (0) 0), (.int (0) 0), (.int (3) 0), (.ref 440), (.bool true), (.int (181) 0), (.ref 441), .none, (.ref 442), (.ref 443), (.ref 444), (.int (760) 0), (.int (159) 0), (.str "/claim/cut.py" 761)], #[]⟩) ::
  (nat_lit 446, ⟨(.type "function"), none, .func (PySem.W.fnOf "shown" "LoopRow.shown" (defArgs (inClass (top 18) 1)) (defBody (inClass (top 18) 1)) (defScope (inClass (top 18) 1)) .none .none .none (.str "hushrow.rows" 273) none (.ref 445) .none), #[]⟩) ::
  (nat_lit 447, ⟨(.type "tuple"), none, .seq #[] 0, #[]⟩) ::
  (nat_lit 449, ⟨(.type "tuple"), none, .seq #[(.str "self" 766)] 0, #[]⟩) ::
  (nat_lit 450, ⟨(.type "tuple"), none, .seq #[] 0, #[]⟩) ::
  (nat_lit 452, ⟨(.type "code"), none, .fields #[(.str "reads" 763), (.str "LoopRow.reads" 764), (.str "/claim/cut.py" 765), (.int (162) 0), (.int (1) 0), (.int (0) 0), (.int (0) 0), (.int (3) 0), (.ref 447), (.bool true), (.int (181) 0), (.ref 448), .none, (.ref 449), (.ref 450), (.ref 451), (.int (767) 0), (.int (162) 0), (.str "/claim/cut.py" 768)], #[]⟩) ::
  (nat_lit 453, ⟨(.type "function"), none, .func (PySem.W.fnOf "reads" "LoopRow.reads" (defArgs (inClass (top 18) 2)) (defBody (inClass (top 18) 2)) (defScope (inClass (top 18) 2)) .none .none .none (.str "hushrow.rows" 273) none (.ref 452) .none), #[]⟩) ::
  (nat_lit 454, ⟨(.type "tuple"), none, .seq #[(.str "body" 770), (.str "left" 771), (.str "most" 772), (.str "right" 773), (.str "thing" 774)] 0, #[]⟩) ::
  (nat_lit 455, ⟨(.type "dict"), none, .dict #[E P "__module__" 738 (.str "hushrow.rows" 273), E P "__firstlineno__" 742 (.int (149) 741), E P "__init__" 755 (.ref 439), E P "shown" 762 (.ref 446), E P "reads" 769 (.ref 453), E P "__static_attributes__" 775 (.ref 454), E P "__doc__" 776 .none] 2, #[]⟩) ::
  (nat_lit 456, ⟨(.type "type"), none, .cls { name := "LoopRow", bases := [(.ref 105)], mro := [(.ref 456), (.ref 105), (.type "object")], ns := 455, qualname := "LoopRow", hasDict := true, slotNames := [], subclasses := [], abstract := false, collection := none, hasDel := false }, #[(some (.ref 426)), none, (some (.str "LoopRow" 731)), (some (.str "LoopRow" 739)), (some (.builtin "object.__new__")), (some (.bool true))]⟩) ::
  (nat_lit 459, ⟨(.type "tuple"), none, .seq #[(.ref 105)] 0, #[]⟩) ::
  (nat_lit 466, ⟨(.type "tuple"), none, .seq #[] 0, #[]⟩) ::
  (nat_lit 468, ⟨(.type "tuple"), none, .seq #[(.str "self" 794), (.str "number" 795), (.str "name" 796), (.str "parts" 797), (.str "body" 798)] 0, #[]⟩) ::
  (nat_lit 469, ⟨(.type "tuple"), none, .seq #[] 0, #[]⟩) ::
  (nat_lit 471, ⟨(.type "code"), none, .fields #[(.str "__init__" 791), (.str "DeedRow.__init__" 792), (.str "/claim/cut.py" 793), (.int (166) 0), (.int (5) 0), (.int (0) 0), (.int (0) 0), (.int (3) 0), (.ref 466), (.bool true), (.int (181) 0), (.ref 467), .none, (.ref 468), (.ref 469), (.ref 470), (.int (799) 0), (.int (166) 0), (.str "/claim/cut.py" 800)], #[]⟩) ::
  (nat_lit 472, ⟨(.type "function"), none, .func (PySem.W.fnOf "__init__" "DeedRow.__init__" (defArgs (inClass (top 19) 0)) (defBody (inClass (top 19) 0)) (defScope (inClass (top 19) 0)) .none .none .none (.str "hushrow.rows" 273) none (.ref 471) .none), #[]⟩) ::
  (nat_lit 473, ⟨(.type "tuple"), none, .seq #[] 0, #[]⟩) ::
  (nat_lit 475, ⟨(.type "tuple"), none, .seq #[(.str "self" 805)] 0, #[]⟩) ::
  (nat_lit 476, ⟨(.type "tuple"), none, .seq #[] 0, #[]⟩) ::
  (nat_lit 478, ⟨(.type "code"), none, .fields #[(.str "shown" 802), (.str "DeedRow.shown" 803), (.str "/claim/cut.py" 804), (.int (172) 0), (.int (1) 0), (.int (0) 0), (.int (0) 0), (.int (3) 0), (.ref 473), (.bool true), (.int (181) 0), (.ref 474), .none, (.ref 475), (.ref 476), (.ref 477), (.int (806) 0), (.int (172) 0), (.str "/claim/cut.py" 807)], #[]⟩) ::
  (nat_lit 479, ⟨(.type "function"), none, .func (PySem.W.fnOf "shown" "DeedRow.shown" (defArgs (inClass (top 19) 1)) (defBody (inClass (top 19) 1)) (defScope (inClass (top 19) 1)) .none .none .none (.str "hushrow.rows" 273) none (.ref 478) .none), #[]⟩) ::
  (nat_lit 480, ⟨(.type "tuple"), none, .seq #[(.str "body" 809), (.str "name" 810), (.str "parts" 811)] 0, #[]⟩) ::
  (nat_lit 481, ⟨(.type "dict"), none, .dict #[E P "__module__" 786 (.str "hushrow.rows" 273), E P "__firstlineno__" 790 (.int (164) 789), E P "__init__" 801 (.ref 472), E P "shown" 808 (.ref 479), E P "__static_attributes__" 812 (.ref 480), E P "__doc__" 813 .none] 2, #[]⟩) ::
  (nat_lit 482, ⟨(.type "type"), none, .cls { name := "DeedRow", bases := [(.ref 105)], mro := [(.ref 482), (.ref 105), (.type "object")], ns := 481, qualname := "DeedRow", hasDict := true, slotNames := [], subclasses := [], abstract := false, collection := none, hasDel := false }, #[(some (.ref 459)), none, (some (.str "DeedRow" 779)), (some (.str "DeedRow" 787)), (some (.builtin "object.__new__")), (some (.bool true))]⟩) ::
  (nat_lit 492, ⟨(.type "tuple"), none, .seq #[] 0, #[]⟩) ::
  (nat_lit 494, ⟨(.type "tuple"), none, .seq #[(.str "self" 831), (.str "heads" 832), (.str "deeds" 833), (.str "main" 834)] 0, #[]⟩) ::
  (nat_lit 495, ⟨(.type "tuple"), none, .seq #[] 0, #[]⟩) ::
  (nat_lit 497, ⟨(.type "code"), none, .fields #[(.str "__init__" 828), (.str "Program.__init__" 829), (.str "/claim/cut.py" 830), (.int (176) 0), (.int (4) 0), (.int (0) 0), (.int (0) 0), (.int (3) 0), (.ref 492), (.bool true), (.int (181) 0), (.ref 493), .none, (.ref 494), (.ref 495), (.ref 496), (.int (835) 0), (.int (176) 0), (.str "/claim/cut.py" 836)], #[]⟩) ::
  (nat_lit 498, ⟨(.type "function"), none, .func (PySem.W.fnOf "__init__" "Program.__init__" (defArgs (inClass (top 20) 0)) (defBody (inClass (top 20) 0)) (defScope (inClass (top 20) 0)) .none .none .none (.str "hushrow.rows" 273) none (.ref 497) .none), #[]⟩) ::
  (nat_lit 499, ⟨(.type "tuple"), none, .seq #[(.str "deeds" 838), (.str "heads" 839), (.str "main" 840)] 0, #[]⟩) ::
  (nat_lit 500, ⟨(.type "dict"), none, .dict #[E P "__module__" 823 (.str "hushrow.rows" 273), E P "__firstlineno__" 827 (.int (174) 826), E P "__init__" 837 (.ref 498), E P "__static_attributes__" 841 (.ref 499), E P "__dict__" 843 (.ref 502), E P "__weakref__" 845 (.ref 503), E P "__doc__" 846 .none] 4, #[]⟩) ::
  (nat_lit 501, ⟨(.type "type"), none, .cls { name := "Program", bases := [(.type "object")], mro := [(.ref 501), (.type "object")], ns := 500, qualname := "Program", hasDict := true, slotNames := [], subclasses := [], abstract := false, collection := none, hasDel := false }, #[none, none, (some (.str "Program" 816)), (some (.str "Program" 824)), (some (.builtin "object.__new__")), (some (.bool true))]⟩) ::
  (nat_lit 502, ⟨(.type "getset_descriptor"), none, .fields #[(.str "__dict__" 842), (.ref 501), (.builtin "function.__dict__"), (.builtin "function.__dict__#set")], #[]⟩) ::
  (nat_lit 503, ⟨(.type "getset_descriptor"), none, .fields #[(.str "__weakref__" 844), (.ref 501), (.builtin "ExceptionGroup.__weakref__"), .none], #[]⟩) ::
  (nat_lit 506, ⟨(.type "tuple"), none, .seq #[] 0, #[]⟩) ::
  (nat_lit 508, ⟨(.type "tuple"), none, .seq #[(.str "thing" 856)] 0, #[]⟩) ::
  (nat_lit 509, ⟨(.type "tuple"), none, .seq #[] 0, #[]⟩) ::
  (nat_lit 511, ⟨(.type "code"), none, .fields #[(.str "is_number" 853), (.str "is_number" 854), (.str "/claim/cut.py" 855), (.int (182) 0), (.int (1) 0), (.int (0) 0), (.int (0) 0), (.int (3) 0), (.ref 506), (.bool true), (.int (181) 0), (.ref 507), .none, (.ref 508), (.ref 509), (.ref 510), (.int (857) 0), (.int (182) 0), (.str "/claim/cut.py" 858)], #[]⟩) ::
  (nat_lit 512, ⟨(.type "function"), none, .func (PySem.W.fnOf "is_number" "is_number" (defArgs (top 23)) (defBody (top 23)) (defScope (top 23)) .none .none .none (.str "hushrow.gifts" 849) none (.ref 511) .none), #[]⟩) ::
  (nat_lit 513, ⟨(.type "tuple"), none, .seq #[] 0, #[]⟩) ::
  (nat_lit 516, ⟨(.type "code"), none, .fields #[(.str "is_good" 860), (.str "is_good" 861), (.str "/claim/cut.py" 862), (.int (186) 0), (.int (2) 0), (.int (0) 0), (.int (0) 0), (.int (3) 0), (.ref 513), (.bool true), (.int (181) 0), (.ref 514), .none, .none, .none, (.ref 515), (.int (863) 0), (.int (186) 0), (.str "/claim/cut.py" 864)], #[]⟩) ::
  (nat_lit 517, ⟨(.type "function"), none, .func (PySem.W.fnOf "is_good" "is_good" (defArgs (top 24)) (defBody (top 24)) (defScope (top 24)) .none .none .none (.str "hushrow.gifts" 849) none (.ref 516) .none), #[]⟩) ::
  (nat_lit 518, ⟨(.type "tuple"), none, .seq #[] 0, #[]⟩) ::
  (nat_lit 520, ⟨(.type "tuple"), none, .seq #[(.str "given" 869), (.str "gifts" 870), (.str "gift" 871)] 0, #[]⟩) ::
  (nat_lit 521, ⟨(.type "tuple"), none, .seq #[] 0, #[]⟩) ::
  (nat_lit 523, ⟨(.type "code"), none, .fields #[(.str "given_cell" 866), (.str "given_cell" 867), (.str "/claim/cut.py" 868), (.int (190) 0), (.int (2) 0), (.int (0) 0), (.int (0) 0), (.int (3) 0), (.ref 518), (.bool true), (.int (181) 0), (.ref 519), .none, (.ref 520), (.ref 521), (.ref 522), (.int (872) 0), (.int (190) 0), (.str "/claim/cut.py" 873)], #[]⟩) ::
  (nat_lit 524, ⟨(.type "function"), none, .func (PySem.W.fnOf "given_cell" "given_cell" (defArgs (top 25)) (defBody (top 25)) (defScope (top 25)) .none .none .none (.str "hushrow.gifts" 849) none (.ref 523) .none), #[]⟩) ::
  (nat_lit 525, ⟨(.type "tuple"), none, .seq #[] 0, #[]⟩) ::
  (nat_lit 527, ⟨(.type "tuple"), none, .seq #[(.str "own" 878)] 0, #[]⟩) ::
  (nat_lit 528, ⟨(.type "tuple"), none, .seq #[] 0, #[]⟩) ::
  (nat_lit 530, ⟨(.type "code"), none, .fields #[(.str "own_cell" 875), (.str "own_cell" 876), (.str "/claim/cut.py" 877), (.int (195) 0), (.int (1) 0), (.int (0) 0), (.int (0) 0), (.int (3) 0), (.ref 525), (.bool true), (.int (181) 0), (.ref 526), .none, (.ref 527), (.ref 528), (.ref 529), (.int (879) 0), (.int (195) 0), (.str "/claim/cut.py" 880)], #[]⟩) ::
  (nat_lit 531, ⟨(.type "function"), none, .func (PySem.W.fnOf "own_cell" "own_cell" (defArgs (top 26)) (defBody (top 26)) (defScope (top 26)) .none .none .none (.str "hushrow.gifts" 849) none (.ref 530) .none), #[]⟩) ::
  (nat_lit 532, ⟨(.type "tuple"), none, .seq #[] 0, #[]⟩) ::
  (nat_lit 534, ⟨(.type "tuple"), none, .seq #[(.str "program" 885), (.str "gifts" 886), (.str "cells" 887), (.str "head" 888), (.str "deed" 889), (.str "part" 890)] 0, #[]⟩) ::
  (nat_lit 535, ⟨(.type "tuple"), none, .seq #[] 0, #[]⟩) ::
  (nat_lit 537, ⟨(.type "code"), none, .fields #[(.str "cells_of" 882), (.str "cells_of" 883), (.str "/claim/cut.py" 884), (.int (197) 0), (.int (2) 0), (.int (0) 0), (.int (0) 0), (.int (3) 0), (.ref 532), (.bool true), (.int (181) 0), (.ref 533), .none, (.ref 534), (.ref 535), (.ref 536), (.int (891) 0), (.int (197) 0), (.str "/claim/cut.py" 892)], #[]⟩) ::
  (nat_lit 538, ⟨(.type "function"), none, .func (PySem.W.fnOf "cells_of" "cells_of" (defArgs (top 27)) (defBody (top 27)) (defScope (top 27)) .none .none .none (.str "hushrow.gifts" 849) none (.ref 537) .none), #[]⟩) ::
  (nat_lit 539, ⟨(.type "tuple"), none, .seq #[] 0, #[]⟩) ::
  (nat_lit 541, ⟨(.type "tuple"), none, .seq #[(.str "one" 901), (.str "word" 902), (.str "other" 903)] 0, #[]⟩) ::
  (nat_lit 542, ⟨(.type "tuple"), none, .seq #[] 0, #[]⟩) ::
  (nat_lit 544, ⟨(.type "code"), none, .fields #[(.str "reckon" 898), (.str "reckon" 899), (.str "/claim/cut.py" 900), (.int (210) 0), (.int (3) 0), (.int (0) 0), (.int (0) 0), (.int (3) 0), (.ref 539), (.bool true), (.int (181) 0), (.ref 540), .none, (.ref 541), (.ref 542), (.ref 543), (.int (904) 0), (.int (210) 0), (.str "/claim/cut.py" 905)], #[]⟩) ::
  (nat_lit 545, ⟨(.type "function"), none, .func (PySem.W.fnOf "reckon" "reckon" (defArgs (top 30)) (defBody (top 30)) (defScope (top 30)) .none .none .none (.str "hushrow.sums" 894) none (.ref 544) .none), #[]⟩) ::
  (nat_lit 546, ⟨(.type "tuple"), none, .seq #[] 0, #[]⟩) ::
  (nat_lit 548, ⟨(.type "tuple"), none, .seq #[(.str "place" 910), (.str "size" 911)] 0, #[]⟩) ::
  (nat_lit 549, ⟨(.type "tuple"), none, .seq #[] 0, #[]⟩) ::
  (nat_lit 551, ⟨(.type "code"), none, .fields #[(.str "round_place" 907), (.str "round_place" 908), (.str "/claim/cut.py" 909), (.int (224) 0), (.int (2) 0), (.int (0) 0), (.int (0) 0), (.int (3) 0), (.ref 546), (.bool true), (.int (181) 0), (.ref 547), .none, (.ref 548), (.ref 549), (.ref 550), (.int (912) 0), (.int (224) 0), (.str "/claim/cut.py" 913)], #[]⟩) ::
  (nat_lit 552, ⟨(.type "function"), none, .func (PySem.W.fnOf "round_place" "round_place" (defArgs (top 31)) (defBody (top 31)) (defScope (top 31)) .none .none .none (.str "hushrow.sums" 894) none (.ref 551) .none), #[]⟩) ::
  (nat_lit 560, ⟨(.type "tuple"), none, .seq #[] 0, #[]⟩) ::
  (nat_lit 562, ⟨(.type "tuple"), none, .seq #[(.str "self" 932), (.str "program" 933), (.str "cells" 934), (.str "deed" 935)] 0, #[]⟩) ::
  (nat_lit 563, ⟨(.type "tuple"), none, .seq #[] 0, #[]⟩) ::
  (nat_lit 565, ⟨(.type "code"), none, .fields #[(.str "__init__" 929), (.str "Run.__init__" 930), (.str "/claim/cut.py" 931), (.int (229) 0), (.int (3) 0), (.int (0) 0), (.int (0) 0), (.int (3) 0), (.ref 560), (.bool true), (.int (181) 0), (.ref 561), .none, (.ref 562), (.ref 563), (.ref 564), (.int (936) 0), (.int (229) 0), (.str "/claim/cut.py" 937)], #[]⟩) ::
  (nat_lit 566, ⟨(.type "function"), none, .func (PySem.W.fnOf "__init__" "Run.__init__" (defArgs (inClass (top 33) 0)) (defBody (inClass (top 33) 0)) (defScope (inClass (top 33) 0)) .none .none .none (.str "hushrow.runner" 915) none (.ref 565) .none), #[]⟩) ::
  (nat_lit 567, ⟨(.type "tuple"), none, .seq #[] 0, #[]⟩) ::
  (nat_lit 569, ⟨(.type "tuple"), none, .seq #[(.str "self" 942), (.str "thing" 943)] 0, #[]⟩) ::
  (nat_lit 570, ⟨(.type "tuple"), none, .seq #[] 0, #[]⟩) ::
  (nat_lit 572, ⟨(.type "code"), none, .fields #[(.str "number_at" 939), (.str "Run.number_at" 940), (.str "/claim/cut.py" 941), (.int (236) 0), (.int (2) 0), (.int (0) 0), (.int (0) 0), (.int (3) 0), (.ref 567), (.bool true), (.int (181) 0), (.ref 568), .none, (.ref 569), (.ref 570), (.ref 571), (.int (944) 0), (.int (236) 0), (.str "/claim/cut.py" 945)], #[]⟩) ::
  (nat_lit 573, ⟨(.type "function"), none, .func (PySem.W.fnOf "number_at" "Run.number_at" (defArgs (inClass (top 33) 1)) (defBody (inClass (top 33) 1)) (defScope (inClass (top 33) 1)) .none .none .none (.str "hushrow.runner" 915) none (.ref 572) .none), #[]⟩) ::
  (nat_lit 574, ⟨(.type "tuple"), none, .seq #[] 0, #[]⟩) ::
  (nat_lit 576, ⟨(.type "tuple"), none, .seq #[(.str "self" 950), (.str "value" 951), (.str "behind" 952), (.str "numbers" 953)] 0, #[]⟩) ::
  (nat_lit 577, ⟨(.type "tuple"), none, .seq #[] 0, #[]⟩) ::
  (nat_lit 579, ⟨(.type "code"), none, .fields #[(.str "number_for" 947), (.str "Run.number_for" 948), (.str "/claim/cut.py" 949), (.int (239) 0), (.int (2) 0), (.int (0) 0), (.int (0) 0), (.int (3) 0), (.ref 574), (.bool true), (.int (181) 0), (.ref 575), .none, (.ref 576), (.ref 577), (.ref 578), (.int (954) 0), (.int (239) 0), (.str "/claim/cut.py" 955)], #[]⟩) ::
  (nat_lit 580, ⟨(.type "function"), none, .func (PySem.W.fnOf "number_for" "Run.number_for" (defArgs (inClass (top 33) 2)) (defBody (inClass (top 33) 2)) (defScope (inClass (top 33) 2)) .none .none .none (.str "hushrow.runner" 915) none (.ref 579) .none), #[]⟩) ::
  (nat_lit 581, ⟨(.type "tuple"), none, .seq #[] 0, #[]⟩) ::
  (nat_lit 583, ⟨(.type "tuple"), none, .seq #[(.str "self" 960), (.str "row" 961)] 0, #[]⟩) ::
  (nat_lit 584, ⟨(.type "tuple"), none, .seq #[] 0, #[]⟩) ::
  (nat_lit 586, ⟨(.type "code"), none, .fields #[(.str "number_told" 957), (.str "Run.number_told" 958), (.str "/claim/cut.py" 959), (.int (248) 0), (.int (2) 0), (.int (0) 0), (.int (0) 0), (.int (3) 0), (.ref 581), (.bool true), (.int (181) 0), (.ref 582), .none, (.ref 583), (.ref 584), (.ref 585), (.int (962) 0), (.int (248) 0), (.str "/claim/cut.py" 963)], #[]⟩) ::
  (nat_lit 587, ⟨(.type "function"), none, .func (PySem.W.fnOf "number_told" "Run.number_told" (defArgs (inClass (top 33) 3)) (defBody (inClass (top 33) 3)) (defScope (inClass (top 33) 3)) .none .none .none (.str "hushrow.runner" 915) none (.ref 586) .none), #[]⟩) ::
  (nat_lit 588, ⟨(.type "tuple"), none, .seq #[] 0, #[]⟩) ::
  (nat_lit 590, ⟨(.type "tuple"), none, .seq #[(.str "self" 968), (.str "count" 969), (.str "book" 970)] 0, #[]⟩) ::
  (nat_lit 591, ⟨(.type "tuple"), none, .seq #[] 0, #[]⟩) ::
  (nat_lit 593, ⟨(.type "code"), none, .fields #[(.str "pass_steps" 965), (.str "Run.pass_steps" 966), (.str "/claim/cut.py" 967), (.int (253) 0), (.int (2) 0), (.int (0) 0), (.int (0) 0), (.int (3) 0), (.ref 588), (.bool true), (.int (181) 0), (.ref 589), .none, (.ref 590), (.ref 591), (.ref 592), (.int (971) 0), (.int (253) 0), (.str "/claim/cut.py" 972)], #[]⟩) ::
  (nat_lit 594, ⟨(.type "function"), none, .func (PySem.W.fnOf "pass_steps" "Run.pass_steps" (defArgs (inClass (top 33) 4)) (defBody (inClass (top 33) 4)) (defScope (inClass (top 33) 4)) .none .none .none (.str "hushrow.runner" 915) none (.ref 593) .none), #[]⟩) ::
  (nat_lit 595, ⟨(.type "tuple"), none, .seq #[] 0, #[]⟩) ::
  (nat_lit 597, ⟨(.type "tuple"), none, .seq #[(.str "self" 977), (.str "rows" 978), (.str "ending" 979), (.str "row" 980)] 0, #[]⟩) ::
  (nat_lit 598, ⟨(.type "tuple"), none, .seq #[] 0, #[]⟩) ::
  (nat_lit 600, ⟨(.type "code"), none, .fields #[(.str "do_rows" 974), (.str "Run.do_rows" 975), (.str "/claim/cut.py" 976), (.int (257) 0), (.int (2) 0), (.int (0) 0), (.int (0) 0), (.int (3) 0), (.ref 595), (.bool true), (.int (181) 0), (.ref 596), .none, (.ref 597), (.ref 598), (.ref 599), (.int (981) 0), (.int (257) 0), (.str "/claim/cut.py" 982)], #[]⟩) ::
  (nat_lit 601, ⟨(.type "function"), none, .func (PySem.W.fnOf "do_rows" "Run.do_rows" (defArgs (inClass (top 33) 5)) (defBody (inClass (top 33) 5)) (defScope (inClass (top 33) 5)) .none .none .none (.str "hushrow.runner" 915) none (.ref 600) .none), #[]⟩) ::
  (nat_lit 602, ⟨(.type "tuple"), none, .seq #[] 0, #[]⟩) ::
  (nat_lit 604, ⟨(.type "tuple"), none, .seq #[(.str "self" 987), (.str "row" 988), (.str "book" 989), (.str "told" 990)] 0, #[]⟩) ::
  (nat_lit 605, ⟨(.type "tuple"), none, .seq #[] 0, #[]⟩) ::
  (nat_lit 607, ⟨(.type "code"), none, .fields #[(.str "do_row" 984), (.str "Run.do_row" 985), (.str "/claim/cut.py" 986), (.int (264) 0), (.int (2) 0), (.int (0) 0), (.int (0) 0), (.int (3) 0), (.ref 602), (.bool true), (.int (181) 0), (.ref 603), .none, (.ref 604), (.ref 605), (.ref 606), (.int (991) 0), (.int (264) 0), (.str "/claim/cut.py" 992)], #[]⟩) ::
  (nat_lit 608, ⟨(.type "function"), none, .func (PySem.W.fnOf "do_row" "Run.do_row" (defArgs (inClass (top 33) 6)) (defBody (inClass (top 33) 6)) (defScope (inClass (top 33) 6)) .none .none .none (.str "hushrow.runner" 915) none (.ref 607) .none), #[]⟩) ::
  (nat_lit 609, ⟨(.type "tuple"), none, .seq #[] 0, #[]⟩) ::
  (nat_lit 611, ⟨(.type "tuple"), none, .seq #[(.str "self" 997), (.str "row" 998), (.str "numbers" 999)] 0, #[]⟩) ::
  (nat_lit 612, ⟨(.type "tuple"), none, .seq #[] 0, #[]⟩) ::
  (nat_lit 614, ⟨(.type "code"), none, .fields #[(.str "do_put" 994), (.str "Run.do_put" 995), (.str "/claim/cut.py" 996), (.int (286) 0), (.int (2) 0), (.int (0) 0), (.int (0) 0), (.int (3) 0), (.ref 609), (.bool true), (.int (181) 0), (.ref 610), .none, (.ref 611), (.ref 612), (.ref 613), (.int (1000) 0), (.int (286) 0), (.str "/claim/cut.py" 1001)], #[]⟩) ::
  (nat_lit 615, ⟨(.type "function"), none, .func (PySem.W.fnOf "do_put" "Run.do_put" (defArgs (inClass (top 33) 7)) (defBody (inClass (top 33) 7)) (defScope (inClass (top 33) 7)) .none .none .none (.str "hushrow.runner" 915) none (.ref 614) .none), #[]⟩) ::
  (nat_lit 616, ⟨(.type "tuple"), none, .seq #[] 0, #[]⟩) ::
  (nat_lit 619, ⟨(.type "code"), none, .fields #[(.str "do_call" 1003), (.str "Run.do_call" 1004), (.str "/claim/cut.py" 1005), (.int (290) 0), (.int (2) 0), (.int (0) 0), (.int (0) 0), (.int (3) 0), (.ref 616), (.bool true), (.int (181) 0), (.ref 617), .none, .none, .none, (.ref 618), (.int (1006) 0), (.int (290) 0), (.str "/claim/cut.py" 1007)], #[]⟩) ::
  (nat_lit 620, ⟨(.type "function"), none, .func (PySem.W.fnOf "do_call" "Run.do_call" (defArgs (inClass (top 33) 8)) (defBody (inClass (top 33) 8)) (defScope (inClass (top 33) 8)) .none .none .none (.str "hushrow.runner" 915) none (.ref 619) .none), #[]⟩) ::
  (nat_lit 621, ⟨(.type "tuple"), none, .seq #[] 0, #[]⟩) ::
  (nat_lit 623, ⟨(.type "tuple"), none, .seq #[(.str "self" 1012), (.str "row" 1013), (.str "ending" 1014)] 0, #[]⟩) ::
  (nat_lit 624, ⟨(.type "tuple"), none, .seq #[] 0, #[]⟩) ::
  (nat_lit 626, ⟨(.type "code"), none, .fields #[(.str "do_if" 1009), (.str "Run.do_if" 1010), (.str "/claim/cut.py" 1011), (.int (297) 0), (.int (2) 0), (.int (0) 0), (.int (0) 0), (.int (3) 0), (.ref 621), (.bool true), (.int (181) 0), (.ref 622), .none, (.ref 623), (.ref 624), (.ref 625), (.int (1015) 0), (.int (297) 0), (.str "/claim/cut.py" 1016)], #[]⟩) ::
  (nat_lit 627, ⟨(.type "function"), none, .func (PySem.W.fnOf "do_if" "Run.do_if" (defArgs (inClass (top 33) 9)) (defBody (inClass (top 33) 9)) (defScope (inClass (top 33) 9)) .none .none .none (.str "hushrow.runner" 915) none (.ref 626) .none), #[]⟩) ::
  (nat_lit 628, ⟨(.type "tuple"), none, .seq #[] 0, #[]⟩) ::
  (nat_lit 630, ⟨(.type "tuple"), none, .seq #[(.str "self" 1021), (.str "row" 1022), (.str "wanted" 1023), (.str "done" 1024), (.str "ending" 1025)] 0, #[]⟩) ::
  (nat_lit 631, ⟨(.type "tuple"), none, .seq #[] 0, #[]⟩) ::
  (nat_lit 633, ⟨(.type "code"), none, .fields #[(.str "do_loop" 1018), (.str "Run.do_loop" 1019), (.str "/claim/cut.py" 1020), (.int (306) 0), (.int (2) 0), (.int (0) 0), (.int (0) 0), (.int (3) 0), (.ref 628), (.bool true), (.int (181) 0), (.ref 629), .none, (.ref 630), (.ref 631), (.ref 632), (.int (1026) 0), (.int (306) 0), (.str "/claim/cut.py" 1027)], #[]⟩) ::
  (nat_lit 634, ⟨(.type "function"), none, .func (PySem.W.fnOf "do_loop" "Run.do_loop" (defArgs (inClass (top 33) 10)) (defBody (inClass (top 33) 10)) (defScope (inClass (top 33) 10)) .none .none .none (.str "hushrow.runner" 915) none (.ref 633) .none), #[]⟩) ::
  (nat_lit 635, ⟨(.type "tuple"), none, .seq #[(.str "book" 1029), (.str "cells" 1030), (.str "deeds" 1031)] 0, #[]⟩) ::
  (nat_lit 636, ⟨(.type "dict"), none, .dict #[E P "__module__" 924 (.str "hushrow.runner" 915), E P "__firstlineno__" 928 (.int (227) 927), E P "__init__" 938 (.ref 566), E P "number_at" 946 (.ref 573), E P "number_for" 956 (.ref 580), E P "number_told" 964 (.ref 587), E P "pass_steps" 973 (.ref 594), E P "do_rows" 983 (.ref 601), E P "do_row" 993 (.ref 608), E P "do_put" 1002 (.ref 615), E P "do_call" 1008 (.ref 620), E P "do_if" 1017 (.ref 627), E P "do_loop" 1028 (.ref 634), E P "__static_attributes__" 1032 (.ref 635), E P "__dict__" 1034 (.ref 638), E P "__weakref__" 1036 (.ref 639), E P "__doc__" 1037 .none] 4, #[]⟩) ::
  (nat_lit 637, ⟨(.type "type"), none, .cls { name := "Run", bases := [(.type "object")], mro := [(.ref 637), (.type "object")], ns := 636, qualname := "Run", hasDict := true, slotNames := [], subclasses := [], abstract := false, collection := none, hasDel := false }, #[none, none, (some (.str "Run" 917)), (some (.str "Run" 925)), (some (.builtin "object.__new__")), (some (.bool true))]⟩) ::
  (nat_lit 638, ⟨(.type "getset_descriptor"), none, .fields #[(.str "__dict__" 1033), (.ref 637), (.builtin "function.__dict__"), (.builtin "function.__dict__#set")], #[]⟩) ::
  (nat_lit 639, ⟨(.type "getset_descriptor"), none, .fields #[(.str "__weakref__" 1035), (.ref 637), (.builtin "ExceptionGroup.__weakref__"), .none], #[]⟩) ::
  (nat_lit 642, ⟨(.type "tuple"), none, .seq #[] 0, #[]⟩) ::
  (nat_lit 645, ⟨(.type "code"), none, .fields #[(.str "ends_of" 1040), (.str "ends_of" 1041), (.str "/claim/cut.py" 1042), (.int (316) 0), (.int (2) 0), (.int (0) 0), (.int (0) 0), (.int (3) 0), (.ref 642), (.bool true), (.int (181) 0), (.ref 643), .none, .none, .none, (.ref 644), (.int (1043) 0), (.int (316) 0), (.str "/claim/cut.py" 1044)], #[]⟩) ::
  (nat_lit 646, ⟨(.type "function"), none, .func (PySem.W.fnOf "ends_of" "ends_of" (defArgs (top 34)) (defBody (top 34)) (defScope (top 34)) .none .none .none (.str "hushrow.runner" 915) none (.ref 645) .none), #[]⟩) ::
  (nat_lit 647, ⟨(.type "tuple"), none, .seq #[] 0, #[]⟩) ::
  (nat_lit 649, ⟨(.type "tuple"), none, .seq #[(.str "program" 1049), (.str "gifts" 1050), (.str "state" 1051), (.str "book" 1052)] 0, #[]⟩) ::
  (nat_lit 650, ⟨(.type "tuple"), none, .seq #[] 0, #[]⟩) ::
  (nat_lit 652, ⟨(.type "code"), none, .fields #[(.str "run" 1046), (.str "run" 1047), (.str "/claim/cut.py" 1048), (.int (318) 0), (.int (2) 0), (.int (0) 0), (.int (0) 0), (.int (3) 0), (.ref 647), (.bool true), (.int (181) 0), (.ref 648), .none, (.ref 649), (.ref 650), (.ref 651), (.int (1053) 0), (.int (318) 0), (.str "/claim/cut.py" 1054)], #[]⟩) ::
  (nat_lit 653, ⟨(.type "function"), none, .func (PySem.W.fnOf "run" "run" (defArgs (top 35)) (defBody (top 35)) (defScope (top 35)) .none .none .none (.str "hushrow.runner" 915) none (.ref 652) .none), #[]⟩) ::
  (nat_lit 654, ⟨(.type "tuple"), none, .seq #[] 0, #[]⟩) ::
  (nat_lit 656, ⟨(.type "tuple"), none, .seq #[(.str "_law_script" 1061), (.str "_law_k" 1062)] 0, #[]⟩) ::
  (nat_lit 657, ⟨(.type "tuple"), none, .seq #[] 0, #[]⟩) ::
  (nat_lit 659, ⟨(.type "code"), none, .fields #[(.str "_law_cell_at" 1058), (.str "_law_cell_at" 1059), (.str "/claim/cut.py" 1060), (.int (325) 0), (.int (2) 0), (.int (0) 0), (.int (0) 0), (.int (3) 0), (.ref 654), (.bool true), (.int (181) 0), (.ref 655), .none, (.ref 656), (.ref 657), (.ref 658), (.int (1063) 0), (.int (325) 0), (.str "/claim/cut.py" 1064)], #[]⟩) ::
  (nat_lit 660, ⟨(.type "function"), none, .func (PySem.W.fnOf "_law_cell_at" "_law_cell_at" (defArgs (top 37)) (defBody (top 37)) (defScope (top 37)) .none .none .none (.str "law_hushrow_k26_calls" 1056) none (.ref 659) .none), #[]⟩) ::
  (nat_lit 661, ⟨(.type "tuple"), none, .seq #[] 0, #[]⟩) ::
  (nat_lit 663, ⟨(.type "tuple"), none, .seq #[(.str "_law_cell" 1069), (.str "_law_k" 1070), (.str "_law_rest" 1071), (.str "_law_j" 1072), (.str "_law_prime" 1073)] 0, #[]⟩) ::
  (nat_lit 664, ⟨(.type "tuple"), none, .seq #[] 0, #[]⟩) ::
  (nat_lit 666, ⟨(.type "code"), none, .fields #[(.str "_law_mix" 1066), (.str "_law_mix" 1067), (.str "/claim/cut.py" 1068), (.int (329) 0), (.int (2) 0), (.int (0) 0), (.int (0) 0), (.int (3) 0), (.ref 661), (.bool true), (.int (181) 0), (.ref 662), .none, (.ref 663), (.ref 664), (.ref 665), (.int (1074) 0), (.int (329) 0), (.str "/claim/cut.py" 1075)], #[]⟩) ::
  (nat_lit 667, ⟨(.type "function"), none, .func (PySem.W.fnOf "_law_mix" "_law_mix" (defArgs (top 38)) (defBody (top 38)) (defScope (top 38)) .none .none .none (.str "law_hushrow_k26_calls" 1056) none (.ref 666) .none), #[]⟩) ::
  (nat_lit 668, ⟨(.type "tuple"), none, .seq #[] 0, #[]⟩) ::
  (nat_lit 670, ⟨(.type "tuple"), none, .seq #[(.str "_law_cell" 1080), (.str "_law_k" 1081), (.str "_law_letters" 1082), (.str "_law_way" 1083), (.str "_law_size" 1084), (.str "_law_at" 1085), (.str "_law_stem" 1086), (.str "_law_here" 1087), (.str "_law_more" 1088)] 0, #[]⟩) ::
  (nat_lit 671, ⟨(.type "tuple"), none, .seq #[] 0, #[]⟩) ::
  (nat_lit 673, ⟨(.type "code"), none, .fields #[(.str "_law_name" 1077), (.str "_law_name" 1078), (.str "/claim/cut.py" 1079), (.int (339) 0), (.int (2) 0), (.int (0) 0), (.int (0) 0), (.int (3) 0), (.ref 668), (.bool true), (.int (181) 0), (.ref 669), .none, (.ref 670), (.ref 671), (.ref 672), (.int (1089) 0), (.int (339) 0), (.str "/claim/cut.py" 1090)], #[]⟩) ::
  (nat_lit 674, ⟨(.type "function"), none, .func (PySem.W.fnOf "_law_name" "_law_name" (defArgs (top 39)) (defBody (top 39)) (defScope (top 39)) .none .none .none (.str "law_hushrow_k26_calls" 1056) none (.ref 673) .none), #[]⟩) ::
  (nat_lit 675, ⟨(.type "tuple"), none, .seq #[] 0, #[]⟩) ::
  (nat_lit 677, ⟨(.type "tuple"), none, .seq #[(.str "_law_number" 1095), (.str "_law_things" 1096)] 0, #[]⟩) ::
  (nat_lit 678, ⟨(.type "tuple"), none, .seq #[] 0, #[]⟩) ::
  (nat_lit 680, ⟨(.type "code"), none, .fields #[(.str "_law_thing" 1092), (.str "_law_thing" 1093), (.str "/claim/cut.py" 1094), (.int (352) 0), (.int (2) 0), (.int (0) 0), (.int (0) 0), (.int (3) 0), (.ref 675), (.bool true), (.int (181) 0), (.ref 676), .none, (.ref 677), (.ref 678), (.ref 679), (.int (1097) 0), (.int (352) 0), (.str "/claim/cut.py" 1098)], #[]⟩) ::
  (nat_lit 681, ⟨(.type "function"), none, .func (PySem.W.fnOf "_law_thing" "_law_thing" (defArgs (top 40)) (defBody (top 40)) (defScope (top 40)) .none .none .none (.str "law_hushrow_k26_calls" 1056) none (.ref 680) .none), #[]⟩) ::
  (nat_lit 682, ⟨(.type "tuple"), none, .seq #[] 0, #[]⟩) ::
  (nat_lit 685, ⟨(.type "code"), none, .fields #[(.str "_law_deed" 1100), (.str "_law_deed" 1101), (.str "/claim/cut.py" 1102), (.int (356) 0), (.int (4) 0), (.int (0) 0), (.int (0) 0), (.int (3) 0), (.ref 682), (.bool true), (.int (181) 0), (.ref 683), .none, .none, .none, (.ref 684), (.int (1103) 0), (.int (356) 0), (.str "/claim/cut.py" 1104)], #[]⟩) ::
  (nat_lit 686, ⟨(.type "function"), none, .func (PySem.W.fnOf "_law_deed" "_law_deed" (defArgs (top 41)) (defBody (top 41)) (defScope (top 41)) .none .none .none (.str "law_hushrow_k26_calls" 1056) none (.ref 685) .none), #[]⟩) ::
  (nat_lit 687, ⟨(.type "tuple"), none, .seq #[] 0, #[]⟩) ::
  (nat_lit 689, ⟨(.type "tuple"), none, .seq #[(.str "_law_script" 1109), (.str "_law_names" 1110), (.str "_law_deeds_here" 1111), (.str "_law_at" 1112), (.str "_law_k" 1113), (.str "_law_deed_here" 1114), (.str "_law_j" 1115), (.str "_law_number" 1116)] 0, #[]⟩) ::
  (nat_lit 690, ⟨(.type "tuple"), none, .seq #[] 0, #[]⟩) ::
  (nat_lit 692, ⟨(.type "code"), none, .fields #[(.str "_law_deeds" 1106), (.str "_law_deeds" 1107), (.str "/claim/cut.py" 1108), (.int (367) 0), (.int (2) 0), (.int (0) 0), (.int (0) 0), (.int (3) 0), (.ref 687), (.bool true), (.int (181) 0), (.ref 688), .none, (.ref 689), (.ref 690), (.ref 691), (.int (1117) 0), (.int (367) 0), (.str "/claim/cut.py" 1118)], #[]⟩) ::
  (nat_lit 693, ⟨(.type "function"), none, .func (PySem.W.fnOf "_law_deeds" "_law_deeds" (defArgs (top 42)) (defBody (top 42)) (defScope (top 42)) .none .none .none (.str "law_hushrow_k26_calls" 1056) none (.ref 692) .none), #[]⟩) ::
  (nat_lit 694, ⟨(.type "tuple"), none, .seq #[] 0, #[]⟩) ::
  (nat_lit 696, ⟨(.type "tuple"), none, .seq #[(.str "_law_deed_here" 1123), (.str "_law_deeds_here" 1124), (.str "_law_rows" 1125), (.str "_law_at" 1126), (.str "_law_part" 1127)] 0, #[]⟩) ::
  (nat_lit 697, ⟨(.type "tuple"), none, .seq #[] 0, #[]⟩) ::
  (nat_lit 699, ⟨(.type "code"), none, .fields #[(.str "_law_made" 1120), (.str "_law_made" 1121), (.str "/claim/cut.py" 1122), (.int (383) 0), (.int (2) 0), (.int (0) 0), (.int (0) 0), (.int (3) 0), (.ref 694), (.bool true), (.int (181) 0), (.ref 695), .none, (.ref 696), (.ref 697), (.ref 698), (.int (1128) 0), (.int (383) 0), (.str "/claim/cut.py" 1129)], #[]⟩) ::
  (nat_lit 700, ⟨(.type "function"), none, .func (PySem.W.fnOf "_law_made" "_law_made" (defArgs (top 43)) (defBody (top 43)) (defScope (top 43)) .none .none .none (.str "law_hushrow_k26_calls" 1056) none (.ref 699) .none), #[]⟩) ::
  (nat_lit 701, ⟨(.type "tuple"), none, .seq #[] 0, #[]⟩) ::
  (nat_lit 703, ⟨(.type "tuple"), none, .seq #[(.str "_law_script" 1134), (.str "_law_names" 1135), (.str "_law_deeds_here" 1136), (.str "_law_calls_here" 1137), (.str "_law_cell" 1138), (.str "_law_called" 1139), (.str "_law_things" 1140), (.str "_law_j" 1141)] 0, #[]⟩) ::
  (nat_lit 704, ⟨(.type "tuple"), none, .seq #[] 0, #[]⟩) ::
  (nat_lit 706, ⟨(.type "code"), none, .fields #[(.str "_law_calls" 1131), (.str "_law_calls" 1132), (.str "/claim/cut.py" 1133), (.int (396) 0), (.int (3) 0), (.int (0) 0), (.int (0) 0), (.int (3) 0), (.ref 701), (.bool true), (.int (181) 0), (.ref 702), .none, (.ref 703), (.ref 704), (.ref 705), (.int (1142) 0), (.int (396) 0), (.str "/claim/cut.py" 1143)], #[]⟩) ::
  (nat_lit 707, ⟨(.type "function"), none, .func (PySem.W.fnOf "_law_calls" "_law_calls" (defArgs (top 44)) (defBody (top 44)) (defScope (top 44)) .none .none .none (.str "law_hushrow_k26_calls" 1056) none (.ref 706) .none), #[]⟩) ::
  (nat_lit 708, ⟨(.type "tuple"), none, .seq #[] 0, #[]⟩) ::
  (nat_lit 710, ⟨(.type "tuple"), none, .seq #[(.str "_law_book" 1148), (.str "_law_at" 1149), (.str "_law_told" 1150)] 0, #[]⟩) ::
  (nat_lit 711, ⟨(.type "tuple"), none, .seq #[] 0, #[]⟩) ::
  (nat_lit 713, ⟨(.type "code"), none, .fields #[(.str "_law_tell" 1145), (.str "_law_tell" 1146), (.str "/claim/cut.py" 1147), (.int (405) 0), (.int (3) 0), (.int (0) 0), (.int (0) 0), (.int (3) 0), (.ref 708), (.bool true), (.int (181) 0), (.ref 709), .none, (.ref 710), (.ref 711), (.ref 712), (.int (1151) 0), (.int (405) 0), (.str "/claim/cut.py" 1152)], #[]⟩) ::
  (nat_lit 714, ⟨(.type "function"), none, .func (PySem.W.fnOf "_law_tell" "_law_tell" (defArgs (top 45)) (defBody (top 45)) (defScope (top 45)) .none .none .none (.str "law_hushrow_k26_calls" 1056) none (.ref 713) .none), #[]⟩) ::
  (nat_lit 715, ⟨(.type "tuple"), none, .seq #[] 0, #[]⟩) ::
  (nat_lit 717, ⟨(.type "tuple"), none, .seq #[(.str "_law_book" 1157), (.str "_law_deeds_here" 1158), (.str "_law_called" 1159), (.str "_law_things" 1160), (.str "_law_at" 1161), (.str "_law_deed_here" 1162), (.str "_law_some" 1163), (.str "_law_thing_here" 1164), (.str "_law_part" 1165), (.str "_law_told" 1166)] 0, #[]⟩) ::
  (nat_lit 718, ⟨(.type "tuple"), none, .seq #[] 0, #[]⟩) ::
  (nat_lit 720, ⟨(.type "code"), none, .fields #[(.str "_law_call" 1154), (.str "_law_call" 1155), (.str "/claim/cut.py" 1156), (.int (410) 0), (.int (5) 0), (.int (0) 0), (.int (0) 0), (.int (3) 0), (.ref 715), (.bool true), (.int (181) 0), (.ref 716), .none, (.ref 717), (.ref 718), (.ref 719), (.int (1167) 0), (.int (410) 0), (.str "/claim/cut.py" 1168)], #[]⟩) ::
  (nat_lit 721, ⟨(.type "function"), none, .func (PySem.W.fnOf "_law_call" "_law_call" (defArgs (top 46)) (defBody (top 46)) (defScope (top 46)) .none .none .none (.str "law_hushrow_k26_calls" 1056) none (.ref 720) .none), #[]⟩) ::
  (nat_lit 722, ⟨(.type "tuple"), none, .seq #[] 0, #[]⟩) ::
  (nat_lit 724, ⟨(.type "tuple"), none, .seq #[(.str "_law_found" 1173), (.str "_law_due" 1174), (.str "_law_k" 1175)] 0, #[]⟩) ::
  (nat_lit 725, ⟨(.type "tuple"), none, .seq #[] 0, #[]⟩) ::
  (nat_lit 727, ⟨(.type "code"), none, .fields #[(.str "_law_same" 1170), (.str "_law_same" 1171), (.str "/claim/cut.py" 1172), (.int (429) 0), (.int (2) 0), (.int (0) 0), (.int (0) 0), (.int (3) 0), (.ref 722), (.bool true), (.int (181) 0), (.ref 723), .none, (.ref 724), (.ref 725), (.ref 726), (.int (1176) 0), (.int (429) 0), (.str "/claim/cut.py" 1177)], #[]⟩) ::
  (nat_lit 728, ⟨(.type "function"), none, .func (PySem.W.fnOf "_law_same" "_law_same" (defArgs (top 47)) (defBody (top 47)) (defScope (top 47)) .none .none .none (.str "law_hushrow_k26_calls" 1056) none (.ref 727) .none), #[]⟩) ::
  (nat_lit 729, ⟨(.type "tuple"), none, .seq #[] 0, #[]⟩) ::
  (nat_lit 732, ⟨(.type "code"), none, .fields #[(.str "law" 1179), (.str "law" 1180), (.str "/claim/cut.py" 1181), (.int (444) 0), (.int (1) 0), (.int (0) 0), (.int (0) 0), (.int (3) 0), (.ref 729), (.bool true), (.int (181) 0), (.ref 730), .none, .none, .none, (.ref 731), (.int (1182) 0), (.int (444) 0), (.str "/claim/cut.py" 1183)], #[]⟩) ::
  (nat_lit 733, ⟨(.type "function"), none, .func (PySem.W.fnOf "law" "law" (defArgs (top 48)) (defBody (top 48)) (defScope (top 48)) .none .none .none (.str "law_hushrow_k26_calls" 1056) none (.ref 732) .none), #[]⟩) :: []
noncomputable def keysK : List Addr := [2, 3, 15, 17, 18, 20, 21, 29, 31, 32, 34, 35, 36, 37, 38, 39, 40, 43, 50, 51, 52, 53, 56, 63, 65, 66, 68, 69, 70, 71, 72, 82, 84, 85, 87, 88, 89, 91, 92, 94, 95, 96, 98, 99, 101, 102, 103, 104, 105, 106, 107, 110, 117, 119, 120, 122, 123, 124, 126, 127, 129, 130, 131, 132, 133, 136, 143, 145, 146, 148, 149, 150, 152, 153, 155, 156, 157, 158, 159, 162, 169, 171, 172, 174, 175, 176, 178, 179, 181, 182, 183, 184, 185, 188, 195, 197, 198, 200, 201, 202, 204, 205, 207, 208, 209, 211, 212, 214, 215, 216, 218, 219, 221, 222, 223, 224, 225, 228, 235, 237, 238, 240, 241, 242, 244, 245, 247, 248, 249, 251, 252, 254, 255, 256, 258, 259, 261, 262, 263, 264, 265, 268, 275, 277, 278, 280, 281, 282, 284, 285, 287, 288, 289, 291, 292, 294, 295, 296, 297, 298, 301, 308, 310, 311, 313, 314, 315, 317, 318, 320, 321, 322, 324, 325, 327, 328, 329, 331, 332, 334, 335, 336, 337, 338, 341, 348, 350, 351, 353, 354, 355, 357, 358, 360, 361, 362, 364, 365, 367, 368, 369, 370, 371, 374, 381, 383, 384, 386, 387, 388, 389, 390, 393, 400, 402, 403, 405, 406, 407, 409, 410, 412, 413, 414, 416, 417, 419, 420, 421, 422, 423, 426, 433, 435, 436, 438, 439, 440, 442, 443, 445, 446, 447, 449, 450, 452, 453, 454, 455, 456, 459, 466, 468, 469, 471, 472, 473, 475, 476, 478, 479, 480, 481, 482, 492, 494, 495, 497, 498, 499, 500, 501, 502, 503, 506, 508, 509, 511, 512, 513, 516, 517, 518, 520, 521, 523, 524, 525, 527, 528, 530, 531, 532, 534, 535, 537, 538, 539, 541, 542, 544, 545, 546, 548, 549, 551, 552, 560, 562, 563, 565, 566, 567, 569, 570, 572, 573, 574, 576, 577, 579, 580, 581, 583, 584, 586, 587, 588, 590, 591, 593, 594, 595, 597, 598, 600, 601, 602, 604, 605, 607, 608, 609, 611, 612, 614, 615, 616, 619, 620, 621, 623, 624, 626, 627, 628, 630, 631, 633, 634, 635, 636, 637, 638, 639, 642, 645, 646, 647, 649, 650, 652, 653, 654, 656, 657, 659, 660, 661, 663, 664, 666, 667, 668, 670, 671, 673, 674, 675, 677, 678, 680, 681, 682, 685, 686, 687, 689, 690, 692, 693, 694, 696, 697, 699, 700, 701, 703, 704, 706, 707, 708, 710, 711, 713, 714, 715, 717, 718, 720, 721, 722, 724, 725, 727, 728, 729, 732, 733]
theorem keysK_eq (P : Params) : keysK = (heapK P).map (·.1) := by kernel_rfl
noncomputable abbrev prog : Program := PySem.Challenge.pw_hushrow_k26_calls
noncomputable abbrev law : PySem.W.OpenLaw := PySem.Challenge.rw_hushrow_k26_calls
noncomputable def seenAt : Program := { prog with main := { prog.main with body := [top 0, top 2, top 4, top 5, top 7, top 8, top 9, top 10, top 11, top 12, top 13, top 14, top 15, top 16, top 17, top 18, top 19, top 20, top 22, top 23, top 24, top 25, top 26, top 27, top 29, top 30, top 31, top 33, top 34, top 35, top 37, top 38, top 39, top 40, top 41, top 42, top 43, top 44, top 45, top 46, top 47, top 48] } }
noncomputable abbrev hook : PySem.W.Hook := PySem.W.kHook heapK keysK keysK_eq
noncomputable abbrev test : Shared → Bool := fun s => xlAt seenAt [] s && recOk (RowW.records law.row.toRowW) s
noncomputable abbrev seenK : Shared → List (Option Obj) := fun s => keysK.map s.heap.get?
noncomputable abbrev dueK : World → List (Option Obj) := fun w => (heapK w.params).map fun p => some p.2
noncomputable def T₀ (P : Params) : BT := Hd.treeOf (boot_heap P).objs.toList 0 .nil
noncomputable def lookL (w : World) (os : OsState) := (Hd.runT treeTable prog w 11 (some (.ref 6)) 12380 ⟨T₀ w.params, 11, {}, Array.mk [], boot_drawn, boot_toks, os⟩ (topStub prog)).map fun s => Hd.looks prog seenAt [] test seenK true (boot_heap w.params) s.abs
noncomputable def lookR (w : World) (os : OsState) := some (true, openGood seenAt [], dueK w)
theorem lookL_self : lookL = lookL := rfl
theorem lookR_self : lookR = lookR := rfl
end K26
lay_quick K26.lookL K26.lookR
name_quick K26lookL for K26.lookL by K26.lookL_self
name_quick K26lookR for K26.lookR by K26.lookR_self
namespace K26
open PySem L2 PySem.W
theorem looks_quick : PySem.W.Fast.K26lookL = PySem.W.Fast.K26lookR := by kernel_rfl
theorem looks_same : lookL = lookR := PySem.W.Fast.K26lookL_eq.trans (looks_quick.trans PySem.W.Fast.K26lookR_eq.symm)
theorem tree_is (P : Params) : absHeap (T₀ P) 11 {} = boot_heap P := by kernel_rfl
theorem size_is (w : World) : ((boot_heap w.params).isNs mainGlobals && (Array.mk [] : Array GenState).size == 0, (boot_heap w.params).objs.size, (boot_heap w.params).nsMap mainGlobals "__annotations__") = (true, 11, some (.ref 6)) := by kernel_rfl
theorem left : LeftO prog seenAt [] test hook.obs hook.val 12380 := Hd.left_of (boot_open (p := prog) (N := 12380) (by kernel_rfl) rfl (fun _ => rfl)) size_is tree_is fun w os => congrFun (congrFun looks_same w) os
end K26

set_option Elab.async false
set_option linter.all false
set_option maxRecDepth 100000
namespace L2
open PySem PySem.Spec PyProof.Rows
abbrev Key := Sum Int Str
def keyIs : Key → Value → Bool
  | .inl k, v => Value.isInt k v
  | .inr x, v => Value.isStrOf x v
def keyH (w : World) : Key → Int
  | .inl k => hashInt k
  | .inr x => hashStr w x
theorem keyIs_shape : ∀ {k : Key} {v : Value}, keyIs k v = true → (∃ i t, k = Sum.inl i ∧ v = Value.int i t) ∨ (∃ x t, k = Sum.inr x ∧ v = Value.str x t)
  | .inl i, v, h => by
    obtain ⟨t, e⟩ := Value.isInt_shape (k := i) (v := v) h
    exact .inl ⟨i, t, rfl, e⟩
  | .inr x, v, h => by
    obtain ⟨t, e⟩ := Value.isStrOf_shape (x := x) (v := v) h
    exact .inr ⟨x, t, rfl, e⟩
theorem keyIs_int (i : Int) (t : Tok) : keyIs (.inl i) (.int i t) = true := by simp [keyIs, Value.isInt]
theorem keyIs_str (x : Str) (t : Tok) : keyIs (.inr x) (.str x t) = true := by simp [keyIs, Value.isStrOf]
theorem key_ll (a b : Int) : decide ((Sum.inl a : Key) = Sum.inl b) = (a == b) := by
  by_cases e : a = b
  · subst e; simp
  · have h : ¬ (Sum.inl a : Key) = Sum.inl b := fun q => e (Sum.inl.inj q)
    rw [decide_eq_false h]
    exact (beq_eq_false_iff_ne.mpr e).symm
theorem key_rr (a b : Str) : decide ((Sum.inr a : Key) = Sum.inr b) = decide (a = b) := by
  by_cases e : a = b
  · subst e; simp
  · have h : ¬ (Sum.inr a : Key) = Sum.inr b := fun q => e (Sum.inr.inj q)
    rw [decide_eq_false h, decide_eq_false e]
theorem key_lr (a : Int) (b : Str) : decide ((Sum.inl a : Key) = Sum.inr b) = false := decide_eq_false (fun q => nomatch q)
theorem key_rl (a : Str) (b : Int) : decide ((Sum.inr a : Key) = Sum.inl b) = false := decide_eq_false (fun q => nomatch q)
def mixKind (prog : Program) (w : World) : PySem.KeyKind prog w Key where
  is := keyIs
  hash := keyH w
  inj := fun v a b ha hb => by
    rcases keyIs_shape ha with ⟨i, t, rfl, rfl⟩ | ⟨x, t, rfl, rfl⟩
    · rcases keyIs_shape hb with ⟨j, u, rfl, e⟩ | ⟨y, u, rfl, e⟩
      · injection e with e1 _; rw [e1]
      · exact nomatch e
    · rcases keyIs_shape hb with ⟨j, u, rfl, e⟩ | ⟨y, u, rfl, e⟩
      · exact nomatch e
      · injection e with e1 _; rw [e1]
  byValue := fun k v h => by
    rcases keyIs_shape h with ⟨i, t, rfl, rfl⟩ | ⟨x, t, rfl, rfl⟩ <;> rfl
  pyHash := fun hv h => by
    rcases keyIs_shape hv with ⟨i, t, rfl, rfl⟩ | ⟨x, t, rfl, rfl⟩
    · exact wpAny_pyHash_int h
    · exact wpAny_pyHash_str h
  eqBool := fun hu hv h => by
    rcases keyIs_shape hu with ⟨i, t, rfl, rfl⟩ | ⟨x, t, rfl, rfl⟩
    · rcases keyIs_shape hv with ⟨j, u, rfl, rfl⟩ | ⟨y, u, rfl, rfl⟩
      · rw [key_ll] at h; exact wpAny_eqBool_int h
      · rw [key_lr] at h; exact SeqAt.EqAt.int_str i t y u _ _ _ _ h
    · rcases keyIs_shape hv with ⟨j, u, rfl, rfl⟩ | ⟨y, u, rfl, rfl⟩
      · rw [key_rl] at h; exact SeqAt.EqAt.str_int x t j u _ _ _ _ h
      · rw [key_rr] at h; exact wpAny_eqBool_str h
  «strs» := fun k x t v h => by
    rcases keyIs_shape h with ⟨i, u, rfl, e⟩ | ⟨y, u, rfl, e⟩
    · exact nomatch e
    · injection e with e1 _
      subst e1
      cases v <;> rfl
theorem mixKind_int (prog : Program) (w : World) (i : Int) (t : Tok) : (mixKind prog w).is (.inl i) (.int i t) = true := keyIs_int i t
theorem mixKind_str (prog : Program) (w : World) (x : Str) (t : Tok) : (mixKind prog w).is (.inr x) (.str x t) = true := keyIs_str x t
end L2
namespace L2
open PySem PySem.Spec PyProof.Rows
inductive V where
  | non | bl (b : Bool) | int (i : Int) | str (x : Str) | byt (b : Array UInt8) | flt (b : UInt64) | ref (a : Addr) | ty (n : String)
  deriving DecidableEq
def RelV : V → Value → Prop
  | .non, u => u = Value.none
  | .bl b, u => u = Value.bool b
  | .int i, u => ∃ t, u = Value.int i t
  | .str x, u => ∃ t, u = Value.str x t
  | .byt b, u => ∃ t, u = Value.bytes b t
  | .flt b, u => ∃ t, u = Value.float b t
  | .ref a, u => u = Value.ref a
  | .ty n, u => u = Value.type n
abbrev Vals : List V → List Value → Prop := Paired RelV
theorem Vals.length {xs : List V} {us : List Value} (r : Vals xs us) : xs.length = us.length := Paired.length r
theorem Vals.get : ∀ {xs : List V} {us : List Value} {i : Nat} {x : V}, Vals xs us → xs[i]? = some x → ∃ u, us[i]? = some u ∧ RelV x u
  | _, _, _, _, .nil, e => by simp at e
  | _, _, 0, _, .cons r _, e => by simp at e; subst e; exact ⟨_, rfl, r⟩
  | _, _, i + 1, x, .cons _ t, e => by
    obtain ⟨u, h1, h2⟩ := Vals.get (i := i) (x := x) t (by simpa using e)
    exact ⟨u, by simpa using h1, h2⟩
theorem Vals.set {x : V} {u : Value} (r : RelV x u) : ∀ {xs : List V} {us : List Value} (i : Nat), Vals xs us → Vals (xs.set i x) (us.set i u)
  | _, _, _, .nil => .nil
  | _, _, 0, .cons _ t => .cons r t
  | _, _, i + 1, .cons q t => .cons q (Vals.set r i t)
theorem Vals.append : ∀ {xs ys : List V} {us ws : List Value}, Vals xs us → Vals ys ws → Vals (xs ++ ys) (us ++ ws)
  | _, _, _, _, .nil, s => s
  | _, _, _, _, .cons r t, s => .cons r (Vals.append t s)
theorem Vals.take : ∀ {xs : List V} {us : List Value} (n : Nat), Vals xs us → Vals (xs.take n) (us.take n)
  | _, _, 0, _ => .nil
  | _, _, _ + 1, .nil => .nil
  | _, _, n + 1, .cons r t => .cons r (Vals.take n t)
theorem Vals.drop : ∀ {xs : List V} {us : List Value} (n : Nat), Vals xs us → Vals (xs.drop n) (us.drop n)
  | _, _, 0, r => r
  | _, _, _ + 1, .nil => .nil
  | _, _, n + 1, .cons _ t => Vals.drop n t
def RelO : Option V → Option Value → Prop
  | some v, some u => RelV v u
  | none, none => True
  | _, _ => False
def KV {κ : Type} : List (κ × V) → List (κ × Value) → Prop := Paired fun (p : κ × V) (q : κ × Value) => p.1 = q.1 ∧ RelV p.2 q.2
def kV : Key → V
  | .inl i => .int i
  | .inr x => .str x
inductive HO where
  | lst (xs : List V)
  | tup (xs : List V)
  | dK (kvs : List (Key × V)) | dT (kvs : List (List Key × V))
  | set (S : Int → Bool) (n : Nat)
  | ins (C dx : Addr) (fs : List (Str × V))
  | own (x : Addr)
  | xd (fs : List (Str × V))
  | met (f x : Addr)
  | rng (lo hi : Int)
  | frz (o : Obj) (u : HO)
  | tbl (ps : Array Value)
  | ext (φ : Heap → Prop)
abbrev Hp := Addr → Option HO
def upd (H : Hp) (a : Addr) (o : HO) : Hp := fun b => if b = a then some o else H b
theorem upd_same {H : Hp} {a : Addr} {o : HO} : upd H a o a = some o := by unfold upd; rw [if_pos rfl]
theorem upd_ne {H : Hp} {a b : Addr} {o : HO} (h : b ≠ a) : upd H a o b = H b := by unfold upd; rw [if_neg h]
theorem upd_upd {H : Hp} {a : Addr} {o u : HO} : upd (upd H a o) a u = upd H a u := by
  funext b; unfold upd; split <;> rfl
theorem ne_of {H : Hp} {a b : Addr} {o u : HO} (h : H a = some o) (h' : H b = some u) (d : o ≠ u) : a ≠ b := by
  intro e; subst e; rw [h] at h'; exact d (Option.some.inj h')
theorem ne_of_none {H : Hp} {a b : Addr} {o : HO} (h : H a = some o) (h' : H b = none) : a ≠ b := by
  intro e; subst e; rw [h] at h'; cases h'
section
variable (P : Program) (w : World)
def ObjOk (H : Hp) (h : Heap) (a : Addr) : HO → Prop
  | .lst xs => xs.length ≤ sizeLine ∧ ∃ (its : List Value) (n : Nat), Vals xs its ∧ h.get? a = some { cls := .type "list", data := .seq its.toArray n }
  | .tup xs => xs.length ≤ sizeLine ∧ ∃ its : List Value, Vals xs its ∧ IsTup h a its.toArray
  | .dK kvs => kvs.length ≤ sizeLine ∧ (a == sysModules) = false ∧ ∃ vs, KV kvs vs ∧ h.DictOf (mixKind P w) a vs
  | .dT kvs => kvs.length ≤ sizeLine ∧ (a == sysModules) = false ∧ ∃ xs : List (List Key × Addr × Value),
      Paired (fun (p : List Key × V) (q : List Key × Addr × Value) => p.1 = q.1 ∧ H q.2.1 = some (.tup (p.1.map kV)) ∧ RelV p.2 q.2.2) kvs xs ∧
      ∃ o es ep, h.get? a = some o ∧ o.ExactDict ∧ o.data = .dict es ep ∧ es.toList = xs.map (entryOfKey (tupleKind (mixKind P w))) ∧ (xs.map (·.1)).Nodup
  | .set S n => h.SetOf (intKind P w) a S n
  | .ins C dx fs => H dx = some (.own a) ∧ fs.length ≤ 1000 ∧ dx ≠ a ∧ h.get? a = some (PySem.W.instObj C dx) ∧
      ∃ mA, h.Ns1 dx mA ∧ (∀ f, RelO (fs.lookup f) (mA f)) ∧ PySem.Within mA (fs.map (·.1))
  | .own _ => ∃ o, h.get? a = some o
  | .xd fs => ∃ mA, h.Ns1 a mA ∧ ∀ f, RelO (fs.lookup f) (mA f)
  | .rng lo hi => ∃ t u v, h.get? a = some { cls := .type "range", data := .fields #[.int lo t, .int hi u, .int 1 v] }
  | .frz o u => h.get? a = some o ∧ ObjOk H h a u
  | .tbl ps => h.get? a = some { cls := .none, data := .fields ps }
  | .met f x => h.get? a = some (PySem.W.methodObj (.ref f) (.ref x))
  | .ext φ => φ h ∧ (∃ o, h.get? a = some o) ∧ ∀ h1 h2 : Heap, φ h1 → (∀ o, h1.get? a = some o → h2.get? a = some o) → φ h2
def HOk (H : Hp) (h : Heap) : Prop := ∀ a o, H a = some o → ObjOk P w H h a o
end
section
variable {P : Program} {w : World} {H H' : Hp} {h h' : Heap} {a : Addr} {o : HO}
theorem ObjOk.lt (x : ObjOk P w H h a o) : a < h.objs.size := by
  cases o with
  | lst xs => obtain ⟨_, _, _, _, e⟩ := x; exact Heap.lt_size e
  | tup xs => obtain ⟨_, _, _, p⟩ := x; exact p.lt
  | dK kvs => obtain ⟨_, _, _, _, o, _, _, e, _⟩ := x; exact Heap.lt_size e
  | dT kvs => obtain ⟨_, _, _, _, o, _, _, e, _⟩ := x; exact Heap.lt_size e
  | set S n => obtain ⟨o, _, _, _, e, _⟩ := x; exact Heap.lt_size e
  | ins C dx fs => obtain ⟨_, _, _, e, _⟩ := x; exact Heap.lt_size e
  | own y => obtain ⟨_, e⟩ := x; exact Heap.lt_size e
  | xd fs => obtain ⟨_, ⟨_, _, _, e, _⟩, _⟩ := x; exact Heap.lt_size e
  | rng lo hi => obtain ⟨_, _, _, e⟩ := x; exact Heap.lt_size e
  | frz ob u => obtain ⟨e, _⟩ := x; exact Heap.lt_size e
  | tbl ps => exact Heap.lt_size (show h.get? a = some _ from x)
  | met f y => exact Heap.lt_size (show h.get? a = some _ from x)
  | ext φ => obtain ⟨_, ⟨_, e⟩, _⟩ := x; exact Heap.lt_size e
theorem Paired.mapP {α β : Type} {F G : α → β → Prop} : ∀ {l₁ : List α} {l₂ : List β}, Paired F l₁ l₂ → (∀ a b, F a b → G a b) → Paired G l₁ l₂
  | _, _, .nil, _ => .nil
  | _, _, .cons r t, f => .cons (f _ _ r) (Paired.mapP t f)
theorem ObjOk.stay (x : ObjOk P w H h a o) (k : ∀ b u, (b = a ∨ H b = some (.own a)) → h.get? b = some u → h'.get? b = some u)
    (ho : ∀ b, H b = some (.own a) → H' b = some (.own a)) (ht : ∀ b xs, H b = some (.tup xs) → H' b = some (.tup xs)) : ObjOk P w H' h' a o := by
  induction o with
  | lst xs => obtain ⟨z, its, n, r, e⟩ := x; exact ⟨z, its, n, r, k _ _ (.inl rfl) e⟩
  | tup xs => obtain ⟨z, its, r, ob, e, c⟩ := x; exact ⟨z, its, r, ob, k _ _ (.inl rfl) e, c⟩
  | dK kvs => obtain ⟨z, y, vs, r, ob, es, ep, e, c⟩ := x; exact ⟨z, y, vs, r, ob, es, ep, k _ _ (.inl rfl) e, c⟩
  | dT kvs =>
    obtain ⟨z, y, xs, r, ob, es, ep, e, c⟩ := x
    exact ⟨z, y, xs, Paired.mapP r fun p q z => ⟨z.1, ht _ _ z.2.1, z.2.2⟩, ob, es, ep, k _ _ (.inl rfl) e, c⟩
  | set S n => obtain ⟨ob, es, ep, t, e, c⟩ := x; exact ⟨ob, es, ep, t, k _ _ (.inl rfl) e, c⟩
  | ins C dx fs =>
    obtain ⟨d, z, ne, e, mA, ⟨od, es, ep, e2, c⟩, r⟩ := x
    exact ⟨ho _ d, z, ne, k _ _ (.inl rfl) e, mA, ⟨od, es, ep, k _ _ (.inr d) e2, c⟩, r⟩
  | own y => obtain ⟨ob, e⟩ := x; exact ⟨ob, k _ _ (.inl rfl) e⟩
  | xd fs => obtain ⟨mA, ⟨od, es, ep, e, c⟩, r⟩ := x; exact ⟨mA, ⟨od, es, ep, k _ _ (.inl rfl) e, c⟩, r⟩
  | rng lo hi => obtain ⟨t, u, v, e⟩ := x; exact ⟨t, u, v, k _ _ (.inl rfl) e⟩
  | frz ob u ih => obtain ⟨e, q⟩ := x; exact ⟨k _ _ (.inl rfl) e, ih q⟩
  | tbl ps =>
    have e : h.get? a = some { cls := .none, data := .fields ps } := x
    show h'.get? a = some { cls := .none, data := .fields ps }
    exact k a _ (.inl rfl) e
  | met f y =>
    have e : h.get? a = some (PySem.W.methodObj (.ref f) (.ref y)) := x
    show h'.get? a = some (PySem.W.methodObj (.ref f) (.ref y))
    exact k a _ (.inl rfl) e
  | ext φ => obtain ⟨p, ⟨o, e⟩, st⟩ := x; exact ⟨st _ _ p fun o q => k _ _ (.inl rfl) q, ⟨o, k _ _ (.inl rfl) e⟩, st⟩
theorem HOk.lt (x : HOk P w H h) (e : H a = some o) : a < h.objs.size := (x a o e).lt
theorem HOk.fresh (x : HOk P w H h) (e : h.objs.size ≤ a) : H a = none := by
  cases q : H a with
  | none => rfl
  | some u => exact absurd (Nat.lt_of_lt_of_le (x.lt q) e) (Nat.lt_irrefl _)
theorem HOk.kept (x : HOk P w H h) (k : ∀ b u, h.get? b = some u → h'.get? b = some u) : HOk P w H h' := fun a o e =>
  (x a o e).stay (fun b u _ q => k b u q) (fun _ q => q) fun _ _ q => q
theorem HOk.laid (x : HOk P w H h) (k : ∀ b u, h.get? b = some u → h'.get? b = some u) (hp : h.objs.size ≤ a) (new : ObjOk P w (upd H a o) h' a o) : HOk P w (upd H a o) h' := fun b u e => by
  have hn := x.fresh hp
  by_cases hb : b = a
  · subst hb; rw [upd_same] at e; cases e; exact new
  · rw [upd_ne hb] at e
    exact (x b u e).stay (fun c v _ q => k c v q) (fun c q => by rw [upd_ne (ne_of_none q hn)]; exact q) fun c xs q => by rw [upd_ne (ne_of_none q hn)]; exact q
end
def Rd (H : Hp) (a : Addr) (u : HO) : Prop := H a = some u ∨ ∃ o, H a = some (.frz o u)
theorem Rd.ok {P : Program} {w : World} {H : Hp} {h : Heap} {a : Addr} {u : HO} (r : Rd H a u) (x : HOk P w H h) : ObjOk P w H h a u := by
  rcases r with r | ⟨o, r⟩
  · exact x a u r
  · obtain ⟨_, q⟩ := x a _ r
    exact q
def Mut : Option HO → Prop
  | some (.lst _) => True
  | some (.dK _) => True
  | some (.dT _) => True
  | some (.set _ _) => True
  | some (.ins _ _ _) => True
  | some (.ext _) => True
  | _ => False
section
variable {P : Program} {w : World} {H : Hp} {h h' : Heap} {x e : Addr} {o' : HO}
theorem HOk.write (ok : HOk P w H h) (mu : Mut (H x)) (he : e = x ∨ H e = some (.own x)) (k : ∀ b u, b ≠ e → h.get? b = some u → h'.get? b = some u) (heo : ∃ u, h'.get? e = some u)
    (new : ObjOk P w (upd H x o') h' x o') : HOk P w (upd H x o') h' := fun b u q => by
  have nown : ∀ c y, H c = some (.own y) → c ≠ x := fun c y r z => by subst z; rw [r] at mu; exact mu
  have ntup : ∀ c xs, H c = some (.tup xs) → c ≠ x := fun c xs r z => by subst z; rw [r] at mu; exact mu
  by_cases hb : b = x
  · subst hb; rw [upd_same] at q; cases q; exact new
  · rw [upd_ne hb] at q
    by_cases hbe : b = e
    · have q' : H b = some (.own x) := by
        rcases he with z | z
        · exact absurd (hbe.trans z) hb
        · rw [hbe]; exact z
      rw [q] at q'; cases q'
      obtain ⟨v, hv⟩ := heo
      exact ⟨v, by rw [hbe]; exact hv⟩
    · refine (ok b u q).stay (fun c v hc r => k c v ?_ r) (fun c r => by rw [upd_ne (nown c b r)]; exact r) fun c xs r => by rw [upd_ne (ntup c xs r)]; exact r
      rcases hc with rfl | hc
      · exact hbe
      · rintro rfl
        rcases he with z | z
        · exact nown c b hc z
        · rw [hc] at z; cases z; exact hb rfl
end
structure Un (fs ex : List Addr) (H H' : Hp) (h h' : Heap) : Prop where
  keep : ∀ b o, h.get? b = some o → H b = none → b ∉ fs → b ∉ ex → h'.get? b = some o
  slot : ∀ b o, h.get? b = some o → H b = none → b ∈ fs → b ∉ ex → ∃ sl, h'.get? b = some { o with slots := sl }
  free : ∀ b o, h.get? b = some o → H b = none → b ∉ ex → H' b = none
  there : ∀ b o, h.get? b = some o → b ∉ ex → ∃ o', h'.get? b = some o'
  tups : ∀ b xs, H b = some (.tup xs) → H' b = some (.tup xs)
  frzs : ∀ b o u, H b = some (.frz o u) → H' b = some (.frz o u)
  tbls : ∀ b ps, H b = some (.tbl ps) → ∃ more, H' b = some (.tbl (ps ++ more))
section
variable {fs fs' ex ex' : List Addr} {H H1 H2 : Hp} {h h1 h2 h' : Heap} {a x e : Addr} {o : HO}
theorem Un.any (u : Un fs ex H H1 h h1) {b : Addr} {ob : Obj} (q : h.get? b = some ob) (n : H b = none) (hx : b ∉ ex) : ∃ sl, h1.get? b = some { ob with slots := sl } := by
  by_cases hb : b ∈ fs
  · exact u.slot b ob q n hb hx
  · exact ⟨ob.slots, u.keep b ob q n hb hx⟩
theorem Un.kept (k : ∀ b u, h.get? b = some u → h'.get? b = some u) : Un fs ex H H h h' :=
  ⟨fun b ob q _ _ _ => k b ob q, fun b ob q _ _ _ => ⟨ob.slots, k b ob q⟩, fun _ _ _ n _ => n, fun b ob q _ => ⟨ob, k b ob q⟩, fun _ _ q => q, fun _ _ _ q => q, fun _ ps q => ⟨#[], by rw [q]; simp⟩⟩
theorem Un.refl : Un fs ex H H h h := Un.kept fun _ _ q => q
theorem Un.laid (k : ∀ b u, h.get? b = some u → h'.get? b = some u) (hp : h.objs.size ≤ a) (hn : H a = none) : Un fs ex H (upd H a o) h h' where
  keep := fun b u q _ _ _ => k b u q
  slot := fun b u q _ _ _ => ⟨u.slots, k b u q⟩
  free := fun b u q n _ => by rw [upd_ne (Nat.ne_of_lt (Nat.lt_of_lt_of_le (Heap.lt_size q) hp))]; exact n
  there := fun b u q _ => ⟨u, k b u q⟩
  tups := fun b xs q => by rw [upd_ne (ne_of_none q hn)]; exact q
  frzs := fun b u xs q => by rw [upd_ne (ne_of_none q hn)]; exact q
  tbls := fun b ps q => ⟨#[], by rw [upd_ne (ne_of_none q hn), q]; simp⟩
theorem Un.write (mu : Mut (H x)) (he : e = x ∨ H e = some (.own x)) (k : ∀ b u, b ≠ e → h.get? b = some u → h'.get? b = some u) (heo : ∃ u, h'.get? e = some u) : Un fs ex H (upd H x o) h h' := by
  have hx : ∀ b, H b = none → b ≠ x := fun b n z => by subst z; rw [n] at mu; exact mu
  have hb : ∀ b, H b = none → b ≠ e := fun b n z => by
    subst z
    rcases he with r | r
    · exact hx b n r
    · rw [n] at r; cases r
  have hm : ∀ b u, H b = some u → ¬ Mut (some u) → b ≠ x := fun b u q nm z => by subst z; rw [q] at mu; exact nm mu
  refine ⟨fun b u q n _ _ => k b u (hb b n) q, fun b u q n _ _ => ⟨u.slots, k b u (hb b n) q⟩, fun b u q n _ => by rw [upd_ne (hx b n)]; exact n, fun b u q _ => ?_,
    fun b xs q => by rw [upd_ne (hm b _ q fun z => z)]; exact q, fun b u xs q => by rw [upd_ne (hm b _ q fun z => z)]; exact q, fun b ps q => ⟨#[], by rw [upd_ne (hm b _ q fun z => z), q]; simp⟩⟩
  by_cases hbe : b = e
  · subst hbe; exact heo
  · exact ⟨u, k b u hbe q⟩
end
def trk (h : Heap) (H : Hp) : List Addr := (List.range h.objs.size).filter fun a => (H a).isSome
def hidT (h : Heap) (H : Hp) : Heap := PySem.W.hideAll h (trk h H)
theorem hidT_size (h : Heap) (H : Hp) : (hidT h H).objs.size = h.objs.size := PySem.W.hideAll_size _ _
theorem hidT_get {h : Heap} {H : Hp} {b : Addr} {o : Obj} (e : h.get? b = some o) (n : H b = none) : (hidT h H).get? b = some o :=
  PySem.W.hideAll_get _ e fun hm => by
    have q : (H b).isSome = true := (List.mem_filter.mp hm).2
    rw [n] at q; simp at q
theorem of_hidT {h : Heap} {H : Hp} {b : Addr} {o : Obj} (e : (hidT h H).get? b = some o) : h.get? b = some o ∧ H b = none := by
  have e' : h.get? b = some o := PySem.W.of_hideAll (trk h H) e
  refine ⟨e', ?_⟩
  cases q : H b with
  | none => rfl
  | some x =>
    have hm : b ∈ trk h H := List.mem_filter.mpr ⟨List.mem_range.mpr (Heap.lt_size e'), by simp [q]⟩
    have z : (hidT h H).get? b = none := PySem.W.hideAll_none (trk h H) hm
    rw [z] at e; cases e
def allNews (g h : Heap) (L : Addr) : List (Addr × Obj) := (List.range h.objs.size).filterMap fun a => if a = L ∨ (g.get? a).isSome = true then none else (h.get? a).map fun o => (a, o)
def rest (g h : Heap) (L d : Addr) : List (Addr × Obj) := (allNews g h L).filter fun p => decide (p.1 ≠ d)
end L2
namespace L2
open PySem PySem.Spec PyProof.Rows
structure Mod (K : PySem.W.Frag) (mg : Str → Option Value) (base : Heap) : Prop where
  kin : K.In base
  glob : base.Ns mainGlobals mg
  blt : ∃ mb, base.Ns builtinsNs mb ∧ ∀ x : Str, x ≠ "__name__" → mb x = bootBuiltins x
  nolimit : base.NoLimit
structure Cx where
  prog : Program
  w : World
  K : PySem.W.Frag
  mg : Str → Option Value
  base : Heap
  A : Around
  N : List Str
  s₀ : Shared
  H₀ : Hp
  env : Env
  outer : List Env
  stack : List Env
  ex : List Addr
  fn : Str → Bool
  calm : Bool
  pn : List (Addr × Obj)
  xe : Value → Shared → Prop
def frs (l : List Env) : List Addr := l.filterMap (·.frame)
abbrev Cx.fs (X : Cx) : List Addr := frs X.outer
def Vis (sc : Scope) (x : Str) : Prop := sc.names.lookup x = some .local ∨ sc.names.lookup x = some .cell ∨ sc.names.lookup x = some .free
def Loc (sc : Scope) (x : Str) : Prop := sc.names.lookup x = some .local ∨ sc.names.lookup x = some .cell
def Look (env : Env) (h : Heap) (m : Str → Option Value) (x : Str) (u : Value) : Prop :=
  (env.kindOf x = some .local ∧ m x = some u) ∨ ((env.kindOf x = some .cell ∨ env.kindOf x = some .free) ∧ ∃ c, env.cells.lookup x = some c ∧ h.IsCell c (some u))
structure Cx.Ok (X : Cx) : Prop where
  mod : Mod X.K X.mg X.base
  kind : X.env.scope.kind = .function
  glob : X.env.globals = mainGlobals
  blt : X.env.builtins = builtinsNs
  above : X.s₀.heap.objs.size ≤ X.env.locals
  inj : ∀ x y c, X.env.cells.lookup x = some c → X.env.cells.lookup y = some c → x = y
  has : ∀ x, (X.env.kindOf x = some .cell ∨ X.env.kindOf x = some .free) → ∃ c, X.env.cells.lookup x = some c
  cab : ∀ x c, X.fn x = true → X.env.cells.lookup x = some c → X.s₀.heap.objs.size ≤ c
  hd : X.calm = true → X.A.handled = none
  frames : X.A.frames = some X.stack
  stk : X.stack = X.outer ∨ (X.stack = X.env :: X.outer ∧ X.env.frame = some X.env.locals)
  exf : ∀ b ∈ X.ex, b ≠ X.env.locals ∧ ∀ x c, X.env.cells.lookup x = some c → c ≠ b
  bs : ∀ b o, X.base.get? b = some o → X.s₀.heap.get? b = some o ∧ X.H₀ b = none
  bsz : X.base.objs.size ≤ X.s₀.heap.objs.size
  noex : ∀ b o, X.base.get? b = some o → b ∉ X.ex
  exfs : ∀ b ∈ X.ex, b ∉ X.fs
  funs : X.s₀.heap.FunFrames X.base X.outer
  frf : ∀ b ∈ X.fs, X.H₀ b = none
structure Inv (X : Cx) (pins : List (Addr × Obj)) (σ : List (Option V)) (H : Hp) (s : Shared) : Prop where
  ok : X.Ok
  os : s.os = X.s₀.os
  bare : AllBare s.gens
  base : Un X.fs X.ex X.H₀ H X.s₀.heap s.heap
  loc : ∃ m, s.heap.Ns X.env.locals m ∧ ∀ (i : Nat) (x : Str) (v : V), X.N[i]? = some x → σ[i]? = some (some v) → Vis X.env.scope x → ∃ u, RelV v u ∧ Look X.env s.heap m x u
  cell : ∀ x c, X.env.cells.lookup x = some c → ∃ v, s.heap.IsCell c v
  free : H X.env.locals = none
  freeC : ∀ x c, X.env.cells.lookup x = some c → H c = none
  pin : ∀ p ∈ X.pn ++ pins, s.heap.get? p.1 = some p.2 ∧ H p.1 = none ∧ p.1 ≠ X.env.locals ∧ p.1 ∉ X.fs ∧ ∀ v, p.2.data ≠ .cell v
  hok : HOk X.prog X.w H s.heap
  len : σ.length = X.N.length
section
variable {X : Cx} {pins : List (Addr × Obj)} {σ : List (Option V)} {H H' : Hp} {s : Shared} {h' : Heap}
theorem Cx.Ok.nofr (ok : X.Ok) {b : Addr} {o : Obj} (e : X.base.get? b = some o) : b ∉ X.fs := fun hb => by
  have := (ok.funs.mem hb).1
  rw [e] at this; cases this
theorem Inv.bs (I : Inv X pins σ H s) : ∀ b o, X.base.get? b = some o → s.heap.get? b = some o ∧ H b = none := fun b o e =>
  ⟨I.base.keep b o (I.ok.bs b o e).1 (I.ok.bs b o e).2 (I.ok.nofr e) (I.ok.noex b o e), I.base.free b o (I.ok.bs b o e).1 (I.ok.bs b o e).2 (I.ok.noex b o e)⟩
theorem Inv.bk (I : Inv X pins σ H s) : ∀ b o, X.base.get? b = some o → s.heap.get? b = some o := fun b o e => (I.bs b o e).1
theorem Inv.mod (I : Inv X pins σ H s) : Mod X.K X.mg X.base := I.ok.mod
theorem Inv.kIn (I : Inv X pins σ H s) : X.K.In s.heap := I.ok.mod.kin.keeps I.bk
theorem Inv.lt (I : Inv X pins σ H s) : X.env.locals < s.heap.objs.size := let ⟨_, hn, _⟩ := I.loc; hn.lt
theorem Inv.sz (I : Inv X pins σ H s) : X.s₀.heap.objs.size ≤ s.heap.objs.size := Nat.le_trans I.ok.above (Nat.le_of_lt I.lt)
theorem Inv.nofs (I : Inv X pins σ H s) {a : Addr} (h : s.heap.objs.size ≤ a) : a ∉ X.fs := fun hb => by
  obtain ⟨_, o, ho, _⟩ := I.ok.funs.mem hb
  exact absurd (Nat.lt_of_lt_of_le (Heap.lt_size ho) (Nat.le_trans I.sz h)) (Nat.lt_irrefl _)
theorem Inv.cne (I : Inv X pins σ H s) : ∀ x c, X.env.cells.lookup x = some c → c ≠ X.env.locals := fun x c e z => by
  obtain ⟨v, o, ho, hd⟩ := I.cell x c e
  obtain ⟨m, ⟨o', es, ep, ho', hd', _⟩, _⟩ := I.loc
  rw [z, ho'] at ho; cases ho; rw [hd'] at hd; cases hd
theorem Inv.funs (I : Inv X pins σ H s) : s.heap.FunFrames X.base X.outer := by
  have all : ∀ (l : List Env), (∀ b ∈ frs l, b ∈ X.fs) → X.s₀.heap.FunFrames X.base l → s.heap.FunFrames X.base l := by
    intro l
    induction l with
    | nil => intro _ _; trivial
    | cons env r ih =>
      intro hs hl
      obtain ⟨hk, ⟨L, o, hf, hn, ho, hd⟩, hr⟩ := hl
      have hL : L ∈ X.fs := hs L (by unfold frs; rw [List.filterMap_cons, hf]; exact List.mem_cons_self)
      obtain ⟨sl, e⟩ := I.base.slot L o ho (I.ok.frf L hL) hL fun z => I.ok.exfs L z hL
      exact ⟨hk, ⟨L, _, hf, hn, e, hd⟩, ih (fun b hb => hs b (by unfold frs; rw [List.filterMap_cons, hf]; exact List.mem_cons_of_mem _ hb)) hr⟩
  exact all X.outer (fun _ hb => hb) I.ok.funs
theorem Inv.stack (I : Inv X pins σ H s) : s.heap.FunFrames X.base X.stack := by
  rcases I.ok.stk with e | ⟨e, hf⟩
  · rw [e]; exact I.funs
  · rw [e]
    obtain ⟨m, hn, _⟩ := I.loc
    refine .cons (by rw [I.ok.kind]; decide) hf hn ?_ I.funs
    exact Heap.get?_none_of_le (Nat.le_trans I.ok.bsz I.ok.above)
theorem Inv.stkSub (I : Inv X pins σ H s) : ∀ b ∈ frs X.stack, b ∈ X.env.locals :: X.fs := fun b hb => by
  rcases I.ok.stk with e | ⟨e, hf⟩
  · rw [e] at hb; exact List.mem_cons_of_mem _ hb
  · rw [e] at hb
    unfold frs at hb
    rw [List.filterMap_cons, hf] at hb
    exact hb
theorem Inv.stkFree (I : Inv X pins σ H s) : ∀ b ∈ frs X.stack, H b = none := fun b hb => by
  rcases List.mem_cons.mp (I.stkSub b hb) with e | hb
  · rw [e]; exact I.free
  · obtain ⟨_, o, ho, _⟩ := I.ok.funs.mem hb
    exact I.base.free b o ho (I.ok.frf b hb) fun z => I.ok.exfs b z hb
theorem Inv.step {g' : Array GenState} {t' : Nat} {d' : Drawn} {ch : List Addr} (I : Inv X pins σ H s)
    (hch : ∀ b ∈ ch, (b ∈ X.ex ∨ X.s₀.heap.objs.size ≤ b) ∧ b ≠ X.env.locals ∧ (∀ x c, X.env.cells.lookup x = some c → c ≠ b) ∧ ∀ p ∈ X.pn ++ pins, p.1 ≠ b)
    (keep : ∀ b o, b ≠ X.env.locals → b ∉ X.fs → b ∉ ch → s.heap.get? b = some o → H b = none → h'.get? b = some o)
    (slot : ∀ b o, b ≠ X.env.locals → b ∈ X.fs → b ∉ ch → s.heap.get? b = some o → H b = none → ∃ sl, h'.get? b = some { o with slots := sl }) (free : ∀ b o, b ∉ ch → s.heap.get? b = some o → H b = none → H' b = none)
    (there : ∀ b o, b ∉ ch → s.heap.get? b = some o → ∃ o', h'.get? b = some o')
    (tups : ∀ b xs, H b = some (.tup xs) → H' b = some (.tup xs)) (frzs : ∀ b o u, H b = some (.frz o u) → H' b = some (.frz o u)) (tbls : ∀ b ps, H b = some (.tbl ps) → ∃ more, H' b = some (.tbl (ps ++ more)))
    (ns : ∀ m, s.heap.Ns X.env.locals m → h'.Ns X.env.locals m) (hok : HOk X.prog X.w H' h') (hg : AllBare g') :
    Inv X pins σ H' { s with heap := h', gens := g', drawn := d', toks := t' } := by
  have neL : ∀ b o, X.s₀.heap.get? b = some o → b ≠ X.env.locals := fun b o e => Nat.ne_of_lt (Nat.lt_of_lt_of_le (Heap.lt_size e) I.ok.above)
  have neC : ∀ b o, X.s₀.heap.get? b = some o → b ∉ X.ex → b ∉ ch := fun b o e hx hb => by
    rcases (hch b hb).1 with z | z
    · exact hx z
    · exact absurd (Nat.lt_of_lt_of_le (Heap.lt_size e) z) (Nat.lt_irrefl _)
  have cellK : ∀ x c, X.env.cells.lookup x = some c → ∀ v, s.heap.IsCell c v → h'.IsCell c v := fun x c e v ⟨o, ho, hd⟩ => by
    have nch : c ∉ ch := fun z => (hch c z).2.2.1 x c e rfl
    by_cases hc : c ∈ X.fs
    · obtain ⟨sl, q⟩ := slot c o (I.cne x c e) hc nch ho (I.freeC x c e)
      exact ⟨_, q, hd⟩
    · exact ⟨o, keep c o (I.cne x c e) hc nch ho (I.freeC x c e), hd⟩
  refine ⟨I.ok, I.os, hg, ⟨fun b o e n hb hx => ?_, fun b o e n hb hx => ?_, fun b o e n hx => ?_, fun b o e hx => ?_, fun b xs e => tups b xs (I.base.tups b xs e), fun b o xs e => frzs b o xs (I.base.frzs b o xs e), fun b ps e => ?_⟩, ?_, fun x c e => ?_, ?_, fun x c e => ?_, fun p hp => ?_, hok, I.len⟩
  · exact keep b o (neL b o e) hb (neC b o e hx) (I.base.keep b o e n hb hx) (I.base.free b o e n hx)
  · obtain ⟨sl, e1⟩ := I.base.slot b o e n hb hx
    obtain ⟨sl', e2⟩ := slot b _ (neL b o e) hb (neC b o e hx) e1 (I.base.free b o e n hx)
    exact ⟨sl', e2⟩
  · obtain ⟨o', e1⟩ := I.base.there b o e hx
    exact free b o' (neC b o e hx) e1 (I.base.free b o e n hx)
  · obtain ⟨o', e1⟩ := I.base.there b o e hx
    exact there b o' (neC b o e hx) e1
  · obtain ⟨m1, e1⟩ := I.base.tbls b ps e
    obtain ⟨m2, e2⟩ := tbls b _ e1
    exact ⟨m1 ++ m2, by rw [e2, Array.append_assoc]⟩
  · obtain ⟨m, hn, hl⟩ := I.loc
    refine ⟨m, ns m hn, fun i x v e1 e2 e3 => ?_⟩
    obtain ⟨u, r, l⟩ := hl i x v e1 e2 e3
    refine ⟨u, r, ?_⟩
    rcases l with l | ⟨k, c, e, z⟩
    · exact .inl l
    · exact .inr ⟨k, c, e, cellK x c e _ z⟩
  · obtain ⟨v, z⟩ := I.cell x c e
    exact ⟨v, cellK x c e v z⟩
  · obtain ⟨m, ⟨o, _, _, ho, _⟩, _⟩ := I.loc
    exact free _ o (fun z => (hch _ z).2.1 rfl) ho I.free
  · obtain ⟨v, o, ho, hd⟩ := I.cell x c e
    exact free c o (fun z => (hch c z).2.2.1 x c e rfl) ho (I.freeC x c e)
  · obtain ⟨e, n, ne, nf, d⟩ := I.pin p hp
    have nch : p.1 ∉ ch := fun z => (hch p.1 z).2.2.2 p hp rfl
    exact ⟨keep p.1 p.2 ne nf nch e n, free p.1 p.2 nch e n, ne, nf, d⟩
theorem Inv.un {t' : Nat} (I : Inv X pins σ H s) (u : Un X.fs [] H H' s.heap h') (hok : HOk X.prog X.w H' h') : Inv X pins σ H' { s with heap := h', toks := t' } := by
  obtain ⟨m, ⟨o, es, ep, ho, r⟩, _⟩ := id I.loc
  obtain ⟨sl, hL⟩ := u.any ho I.free (by simp)
  exact I.step (g' := s.gens) (d' := s.drawn) (ch := []) (fun _ z => nomatch z) (fun b o _ hb _ e n => u.keep b o e n hb (by simp)) (fun b o _ hb _ e n => u.slot b o e n hb (by simp)) (fun b o _ e n => u.free b o e n (by simp)) (fun b o _ e => u.there b o e (by simp)) u.tups u.frzs u.tbls (fun m' hm => by
    obtain ⟨o', es', ep', ho', r'⟩ := hm
    rw [ho] at ho'; cases ho'
    exact ⟨_, es', ep', hL, r'⟩) hok I.bare
theorem Inv.call {g' : Array GenState} {t' : Nat} {d' : Drawn} {ch : List Addr} (I : Inv X pins σ H s) (u : Un (frs X.stack) ch H H' s.heap h') (hok : HOk X.prog X.w H' h') (hg : AllBare g')
    (hch : ∀ b ∈ ch, (b ∈ X.ex ∨ X.s₀.heap.objs.size ≤ b) ∧ b ≠ X.env.locals ∧ (∀ x c, X.env.cells.lookup x = some c → c ≠ b) ∧ ∀ p ∈ X.pn ++ pins, p.1 ≠ b) :
    Inv X pins σ H' { s with heap := h', gens := g', drawn := d', toks := t' } := by
  obtain ⟨m, ⟨o, es, ep, ho, r⟩, _⟩ := id I.loc
  obtain ⟨sl, hL⟩ := u.any ho I.free fun z => (hch _ z).2.1 rfl
  exact I.step (ch := ch) hch (fun b o hL hb hc e n => u.keep b o e n (fun z => (List.mem_cons.mp (I.stkSub b z)).elim hL hb) hc) (fun b o _ _ hc e n => u.any e n hc) (fun b o hc e n => u.free b o e n hc) (fun b o hc e => u.there b o e hc) u.tups u.frzs u.tbls (fun m' hm => by
    obtain ⟨o', es', ep', ho', r'⟩ := hm
    rw [ho] at ho'; cases ho'
    exact ⟨_, es', ep', hL, r'⟩) hok hg
theorem Inv.turned {t' : Nat} {it : Addr} (I : Inv X pins σ H s) (k : ∀ b o, b ≠ it → s.heap.get? b = some o → h'.get? b = some o) (hn : H it = none) (hL : it ≠ X.env.locals)
    (h1 : it ∈ X.ex ∨ X.s₀.heap.objs.size ≤ it) (h2 : ∀ x c, X.env.cells.lookup x = some c → c ≠ it) (h3 : ∀ p ∈ X.pn ++ pins, p.1 ≠ it) : Inv X pins σ H { s with heap := h', toks := t' } := by
  have nit : ∀ b u, H b = some u → b ≠ it := fun b u e z => by rw [z, hn] at e; cases e
  refine I.step (g' := s.gens) (d' := s.drawn) (ch := [it]) (fun b hb => ?_) (fun b o _ _ hc e _ => k b o (fun z => hc (by simp [z])) e) (fun b o _ _ hc e _ => ⟨o.slots, k b o (fun z => hc (by simp [z])) e⟩) (fun _ _ _ _ n => n)
    (fun b o hc e => ⟨o, k b o (fun z => hc (by simp [z])) e⟩) (fun _ _ e => e) (fun _ _ _ e => e) (fun b ps e => ⟨#[], by rw [e]; simp⟩) (fun m hm => ?_) (fun b u e => ?_) I.bare
  · have e : b = it := by simpa using hb
    subst e
    exact ⟨h1, hL, h2, h3⟩
  · obtain ⟨o, es, ep, ho, r⟩ := hm
    exact ⟨o, es, ep, k _ o (Ne.symm hL) ho, r⟩
  · refine (I.hok b u e).stay (fun c v hc q => k c v ?_ q) (fun _ q => q) fun _ _ q => q
    rcases hc with z | z
    · rw [z]; exact nit b u e
    · exact nit c _ z
theorem Inv.tok (I : Inv X pins σ H s) (t : Nat) : Inv X pins σ H { s with toks := t } := I.un (h' := s.heap) (t' := t) Un.refl I.hok
theorem Inv.kept {t' : Nat} (I : Inv X pins σ H s) (k : ∀ b u, s.heap.get? b = some u → h'.get? b = some u) : Inv X pins σ H { s with heap := h', toks := t' } := I.un (Un.kept k) (I.hok.kept k)
theorem Inv.laid {a : Addr} {o : HO} {t' : Nat} (I : Inv X pins σ H s) (k : ∀ b u, s.heap.get? b = some u → h'.get? b = some u) (hp : s.heap.objs.size ≤ a) (new : ObjOk X.prog X.w (upd H a o) h' a o) :
    Inv X pins σ (upd H a o) { s with heap := h', toks := t' } := I.un (Un.laid k hp (I.hok.fresh hp)) (I.hok.laid k hp new)
theorem Inv.write {x e : Addr} {o : HO} {t' : Nat} (I : Inv X pins σ H s) (mu : Mut (H x)) (he : e = x ∨ H e = some (.own x)) (k : ∀ b u, b ≠ e → s.heap.get? b = some u → h'.get? b = some u) (heo : ∃ u, h'.get? e = some u)
    (new : ObjOk X.prog X.w (upd H x o) h' x o) : Inv X pins σ (upd H x o) { s with heap := h', toks := t' } := I.un (Un.write mu he k heo) (I.hok.write mu he k heo new)
theorem Inv.pins_of {pins' : List (Addr × Obj)} (I : Inv X pins σ H s) (h : ∀ p ∈ pins', s.heap.get? p.1 = some p.2 ∧ H p.1 = none ∧ p.1 ≠ X.env.locals ∧ p.1 ∉ X.fs ∧ ∀ v, p.2.data ≠ .cell v) : Inv X pins' σ H s :=
  ⟨I.ok, I.os, I.bare, I.base, I.loc, I.cell, I.free, I.freeC, fun p hp => (List.mem_append.mp hp).elim (fun z => I.pin p (List.mem_append_left _ z)) (h p), I.hok, I.len⟩
theorem nodup_ix {N : List Str} (hN : N.Nodup) {i j : Nat} {x : Str} (a : N[i]? = some x) (b : N[j]? = some x) : i = j := by
  obtain ⟨h1, e1⟩ := List.getElem?_eq_some_iff.mp a
  obtain ⟨h2, e2⟩ := List.getElem?_eq_some_iff.mp b
  exact (List.getElem_inj hN).mp (e1.trans e2.symm)
theorem store_ok2 {M : Model} {A : Around} {E : Value → Shared → Prop} {i : Nat} {x : Str} {v : V} {u : Value} {Q : Unit → Shared → Prop} (I : Inv X pins σ H s) (hN : X.N.Nodup) (hi : X.N[i]? = some x) (hx : Loc X.env.scope x) (r : RelV v u)
    (h : ∀ s', Inv X pins (σ.set i (some v)) H s' → (∃ a, Heap.SameBut a s.heap s'.heap ∧ (a = X.env.locals ∨ X.env.cells.lookup x = some a)) → Q () s') (hf : X.fn x = true ∨ X.env.scope.names.lookup x = some .local := by first | exact .inl rfl | exact .inr rfl | assumption) : wpAny M A (storeName X.env x u) Q E s := by
  obtain ⟨m, hn, hl⟩ := id I.loc
  have hcls : (X.env.scope.kind == .class || (X.env.scope.kind == .module && X.env.locals != X.env.globals)) = false := by rw [I.ok.kind]; rfl
  have hiσ : i < σ.length := by rw [I.len]; exact (List.getElem?_eq_some_iff.mp hi).1
  have cne := I.cne
  have tracked : ∀ {a : Addr} {h' : Heap}, (∃ o, s.heap.get? a = some o ∧ H a = none) → Heap.SameBut a s.heap h' → HOk X.prog X.w H h' := fun {a h'} ha hs b ob e => by
    obtain ⟨_, _, hfree⟩ := ha
    refine (I.hok b ob e).stay (fun c w' hc q => (hs.2 c ?_).trans q) (fun _ q => q) fun _ _ q => q
    rintro rfl
    rcases hc with rfl | hc
    · rw [hfree] at e; cases e
    · rw [hfree] at hc; cases hc
  rcases hx with hk | hk
  · refine wpAny_storeName_local hk hn (fun h' hn' hs => ?_) hcls
    obtain ⟨oL, _, _, hoL, _⟩ := id hn
    refine h _ ⟨I.ok, I.os, I.bare, ⟨fun b o e n hb hx => ?_, fun b o e n hb hx => ?_, I.base.free, fun b o e hx => ?_, I.base.tups, I.base.frzs, I.base.tbls⟩, ⟨_, hn', fun j y v' e1 e2 e3 => ?_⟩, fun y c e => ?_, I.free, I.freeC, fun p hp => ?_, tracked ⟨oL, hoL, I.free⟩ hs, by simpa using I.len⟩ ⟨_, hs, .inl rfl⟩
    · exact (hs.2 b (Nat.ne_of_lt (Nat.lt_of_lt_of_le (Heap.lt_size e) I.ok.above))).trans (I.base.keep b o e n hb hx)
    · obtain ⟨sl, e1⟩ := I.base.slot b o e n hb hx
      exact ⟨sl, (hs.2 b (Nat.ne_of_lt (Nat.lt_of_lt_of_le (Heap.lt_size e) I.ok.above))).trans e1⟩
    · obtain ⟨o', e1⟩ := I.base.there b o e hx
      exact ⟨o', (hs.2 b (Nat.ne_of_lt (Nat.lt_of_lt_of_le (Heap.lt_size e) I.ok.above))).trans e1⟩
    · by_cases hj : j = i
      · subst hj
        rw [hi] at e1; cases e1
        rw [List.getElem?_set_self hiσ] at e2
        cases e2
        exact ⟨u, r, .inl ⟨hk, by simp⟩⟩
      · rw [List.getElem?_set_ne (Ne.symm hj)] at e2
        obtain ⟨u', r', q⟩ := hl j y v' e1 e2 e3
        refine ⟨u', r', ?_⟩
        rcases q with ⟨k, e⟩ | ⟨k, c, e, z⟩
        · refine .inl ⟨k, ?_⟩
          have : y ≠ x := fun e => hj (nodup_ix hN e1 (e ▸ hi))
          simp [this, e]
        · exact .inr ⟨k, c, e, z.sameBut hs (cne y c e)⟩
    · obtain ⟨w', z⟩ := I.cell y c e
      exact ⟨w', z.sameBut hs (cne y c e)⟩
    · obtain ⟨e, n, ne, nf, d⟩ := I.pin p hp
      exact ⟨(hs.2 p.1 ne).trans e, n, ne, nf, d⟩
  · have hfn : X.fn x = true := by
      rcases hf with z | z
      · exact z
      · rw [z] at hk; cases hk
    obtain ⟨c, hc⟩ := I.ok.has x (.inl hk)
    obtain ⟨w', z⟩ := I.cell x c hc
    refine wpAny_storeName_cell I.ok.kind hk hc z (fun h' hc' hs => ?_)
    obtain ⟨oc, hoc, hocd⟩ := id z
    refine h { s with heap := h' } ⟨I.ok, I.os, I.bare, ⟨fun b o e n hb hx => ?_, fun b o e n hb hx => ?_, I.base.free, fun b o e hx => ?_, I.base.tups, I.base.frzs, I.base.tbls⟩, ⟨m, hn.sameBut hs (Ne.symm (cne x c hc)), fun j y v' e1 e2 e3 => ?_⟩, fun y c' e => ?_, I.free, I.freeC, fun p hp => ?_, tracked ⟨oc, hoc, I.freeC x c hc⟩ hs, by simpa using I.len⟩ ⟨c, hs, .inr hc⟩
    · exact (hs.2 b (Nat.ne_of_lt (Nat.lt_of_lt_of_le (Heap.lt_size e) (I.ok.cab x c hfn hc)))).trans (I.base.keep b o e n hb hx)
    · obtain ⟨sl, e1⟩ := I.base.slot b o e n hb hx
      exact ⟨sl, (hs.2 b (Nat.ne_of_lt (Nat.lt_of_lt_of_le (Heap.lt_size e) (I.ok.cab x c hfn hc)))).trans e1⟩
    · obtain ⟨o', e1⟩ := I.base.there b o e hx
      exact ⟨o', (hs.2 b (Nat.ne_of_lt (Nat.lt_of_lt_of_le (Heap.lt_size e) (I.ok.cab x c hfn hc)))).trans e1⟩
    · by_cases hj : j = i
      · subst hj
        rw [hi] at e1; cases e1
        rw [List.getElem?_set_self hiσ] at e2
        cases e2
        exact ⟨u, r, .inr ⟨.inl hk, c, hc, hc'⟩⟩
      · rw [List.getElem?_set_ne (Ne.symm hj)] at e2
        obtain ⟨u', r', q⟩ := hl j y v' e1 e2 e3
        refine ⟨u', r', ?_⟩
        rcases q with q | ⟨k, c', e, z'⟩
        · exact .inl q
        · refine .inr ⟨k, c', e, z'.sameBut hs ?_⟩
          rintro rfl
          exact hj (nodup_ix hN e1 (I.ok.inj _ _ _ e hc ▸ hi))
    · by_cases hcc : c' = c
      · subst hcc; exact ⟨_, hc'⟩
      · obtain ⟨w2, z2⟩ := I.cell y c' e
        exact ⟨w2, z2.sameBut hs hcc⟩
    · obtain ⟨e, n, ne, nf, d⟩ := I.pin p hp
      refine ⟨(hs.2 p.1 ?_).trans e, n, ne, nf, d⟩
      intro q
      rw [q, hoc] at e
      have q' : oc = p.2 := Option.some.inj e
      exact d w' (by rw [← q']; exact hocd)
theorem store_ok {M : Model} {A : Around} {E : Value → Shared → Prop} {i : Nat} {x : Str} {v : V} {u : Value} {Q : Unit → Shared → Prop} (I : Inv X pins σ H s) (hN : X.N.Nodup) (hi : X.N[i]? = some x) (hx : Loc X.env.scope x) (r : RelV v u)
    (h : ∀ s', Inv X pins (σ.set i (some v)) H s' → Q () s') (hf : X.fn x = true ∨ X.env.scope.names.lookup x = some .local := by first | exact .inl rfl | exact .inr rfl | assumption) : wpAny M A (storeName X.env x u) Q E s :=
  store_ok2 I hN hi hx r (fun s' I' _ => h s' I') hf
theorem Inv.call' {s' : Shared} {ch : List Addr} (I : Inv X pins σ H s) (ho : s'.os = s.os) (u : Un (frs X.stack) ch H H' s.heap s'.heap) (hok : HOk X.prog X.w H' s'.heap) (hg : AllBare s'.gens)
    (hch : ∀ b ∈ ch, (b ∈ X.ex ∨ X.s₀.heap.objs.size ≤ b) ∧ b ≠ X.env.locals ∧ (∀ x c, X.env.cells.lookup x = some c → c ≠ b) ∧ ∀ p ∈ X.pn ++ pins, p.1 ≠ b) : Inv X pins σ H' s' := by
  obtain ⟨h', g', d', t', o'⟩ := s'
  have e : o' = s.os := ho
  subst e
  exact I.call (g' := g') (t' := t') (d' := d') u hok hg hch
end
abbrev XK := Value → Option Addr → Hp → Prop
abbrev St := List (Option V)
abbrev VK := V → Hp → Prop
abbrev TE := St → Hp → VK → Prop
abbrev TT := St → Hp → (Bool → Hp → Prop) → Prop
abbrev TA := St → Hp → (List V → Hp → Prop) → Prop
structure Ends where
  nx : St → Hp → Prop
  rt : VK
  bk : St → Hp → Prop := fun _ _ => False
  ct : St → Hp → Prop := fun _ _ => False
abbrev TS := Ends → St → Hp → Prop
def EP (X : Cx) (pins : List (Addr × Obj)) (σ : St) (Q : VK) (u : Value) (s' : Shared) : Prop := ∃ v H', Inv X pins σ H' s' ∧ RelV v u ∧ Q v H'
def TP (X : Cx) (pins : List (Addr × Obj)) (σ : St) (Q : Bool → Hp → Prop) (b : Bool) (s' : Shared) : Prop := ∃ H', Inv X pins σ H' s' ∧ Q b H'
def AP (X : Cx) (pins : List (Addr × Obj)) (σ : St) (Q : List V → Hp → Prop) (us : List Value) (s' : Shared) : Prop := ∃ vs H', Inv X pins σ H' s' ∧ Vals vs us ∧ Q vs H'
def SP (X : Cx) (pins : List (Addr × Obj)) (D : Ends) (f : Flow) (s' : Shared) : Prop :=
  match f with
  | .next => ∃ σ' H', Inv X pins σ' H' s' ∧ D.nx σ' H'
  | .brk => ∃ σ' H', Inv X pins σ' H' s' ∧ D.bk σ' H'
  | .cont => ∃ σ' H', Inv X pins σ' H' s' ∧ D.ct σ' H'
  | .ret u => ∃ v σ' H', Inv X pins σ' H' s' ∧ RelV v u ∧ D.rt v H'
def PE (X : Cx) (e : Expr) (t : TE) : Prop :=
  ∀ (pins : List (Addr × Obj)) (s : Shared) (σ : St) (H : Hp) (Q : VK), Inv X pins σ H s → t σ H Q → wpAny (model X.prog X.w) X.A (eval e X.env) (EP X pins σ Q) X.xe s
def PT (X : Cx) (e : Expr) (t : TT) : Prop :=
  ∀ (pins : List (Addr × Obj)) (s : Shared) (σ : St) (H : Hp) (Q : Bool → Hp → Prop), Inv X pins σ H s → t σ H Q → wpAny (model X.prog X.w) X.A (isTrue e X.env (eval e X.env)) (TP X pins σ Q) X.xe s
def PW (X : Cx) (e : Expr) (t : TT) : Prop :=
  ∀ (whole : Sem Value) (pins : List (Addr × Obj)) (s : Shared) (σ : St) (H : Hp) (Q : Bool → Hp → Prop), Inv X pins σ H s → t σ H Q → wpAny (model X.prog X.w) X.A (isTrue e X.env whole) (TP X pins σ Q) X.xe s
theorem PW.pt {X : Cx} {e : Expr} {t : TT} (h : PW X e t) : PT X e t := h _
def PA (X : Cx) (es : List Expr) (t : TA) : Prop :=
  ∀ (pos : Pos) (pins : List (Addr × Obj)) (s : Shared) (σ : St) (H : Hp) (Q : List V → Hp → Prop), Inv X pins σ H s → t σ H Q → wpAny (model X.prog X.w) X.A (spliced (backTo pos (starEach es X.env))) (AP X pins σ Q) X.xe s
def PS (X : Cx) (st : Stmt) (t : TS) : Prop :=
  ∀ (pins : List (Addr × Obj)) (s : Shared) (σ : St) (H : Hp) (D : Ends), Inv X pins σ H s → t D σ H → wpAny (model X.prog X.w) X.A (exec st X.env) (SP X pins D) X.xe s
def PSs (X : Cx) (st : List Stmt) (t : TS) : Prop :=
  ∀ (pins : List (Addr × Obj)) (s : Shared) (σ : St) (H : Hp) (D : Ends), Inv X pins σ H s → t D σ H → wpAny (model X.prog X.w) X.A (execs st X.env) (SP X pins D) X.xe s
theorem thn {α : Type} {t : Sem α} {Q Q' : α → Shared → Prop} {M : Model} {A : Around} {E : Value → Shared → Prop} {s : Shared} (h : wpAny M A t Q E s) (hQ : ∀ a s, Q a s → Q' a s) : wpAny M A t Q' E s := wpAny_mono h hQ fun _ _ x => x
end L2
namespace L2
open PySem PySem.Spec PyProof.Rows
section
variable {X : Cx}
def tVar (i : Nat) : TE := fun σ H Q => ∃ v, σ[i]? = some (some v) ∧ Q v H
def tC (v : V) : TE := fun _ H Q => Q v H
theorem pe_var {i : Nat} {x : Str} {pos : Pos} (hN : X.N[i]? = some x) (hv : Vis X.env.scope x) (hd : (x == ("__debug__" : Str)) = false := by decide) (hcd : (x == ("__classdict__" : Str)) = false := by decide) : PE X (.Name x pos) (tVar i) := by
  intro pins s σ H Q I h
  obtain ⟨v, e, h⟩ := h
  obtain ⟨m, hn, hl⟩ := I.loc
  obtain ⟨u, r, l⟩ := hl i x v hN e hv
  have fin : EP X pins σ Q u s := ⟨v, H, I, r, h⟩
  rcases l with ⟨hk, hm⟩ | ⟨hk, c, hc, hcell⟩
  · exact wpAny_Name (wpAny_loadName_local I.ok.kind hk hn hm fin) hd
  · rcases hk with hk | hk
    · exact wpAny_Name (wpAny_loadName_cell I.ok.kind hk hc hcell fin) hd
    · exact wpAny_Name (wpAny_loadName_free I.ok.kind hk hc hcell fin hcd) hd
theorem pe_int {i j pos} : PE X (.Constant (.int i) j pos) (tC (.int i)) := fun _ _ _ H _ I h => wpAny_Constant_int ⟨.int i, H, I.tok _, ⟨_, rfl⟩, h⟩
theorem pe_bl {b j pos} : PE X (.Constant (.bool b) j pos) (tC (.bl b)) := fun _ _ _ H _ I h => Constant_bool ⟨.bl b, H, I, rfl, h⟩
theorem pe_non {j pos} : PE X (.Constant .none j pos) (tC .non) := fun _ _ _ H _ I h => Constant_none ⟨.non, H, I, rfl, h⟩
theorem pe_str {x j pos} : PE X (.Constant (.str x) j pos) (tC (.str x)) := fun _ _ _ H _ I h => Calls.Constant_str ⟨.str x, H, I.tok _, ⟨_, rfl⟩, h⟩
def Gl (X : Cx) (x : Str) : Prop := X.env.kindOf x = some .globalImplicit
theorem ld_glob {E : Value → Shared → Prop} {pins : List (Addr × Obj)} {s : Shared} {σ : St} {H : Hp} {x : Str} {u : Value} {pos : Pos} {Q : Value → Shared → Prop} (I : Inv X pins σ H s) (hg : Gl X x) (hm : X.mg x = some u) (h : Q u s)
    (hd : (x == ("__debug__" : Str)) = false := by decide) : wpAny (model X.prog X.w) X.A (eval (.Name x pos) X.env) Q E s :=
  Calls.Name_function_global I.ok.kind hg (Calls.loadGlobal_global (by rw [I.ok.glob]; exact I.mod.glob.keeps I.bk) hm h) hd
theorem ld_blt {E : Value → Shared → Prop} {pins : List (Addr × Obj)} {s : Shared} {σ : St} {H : Hp} {x : Str} {u : Value} {pos : Pos} {Q : Value → Shared → Prop} (I : Inv X pins σ H s) (hg : Gl X x) (hm : X.mg x = none) (hv : bootBuiltins x = some u) (h : Q u s)
    (hn : x ≠ "__name__" := by decide) (hd : (x == ("__debug__" : Str)) = false := by decide) : wpAny (model X.prog X.w) X.A (eval (.Name x pos) X.env) Q E s := by
  obtain ⟨mb, h1, h2⟩ := I.mod.blt
  exact Calls.Name_function_global I.ok.kind hg (Calls.loadGlobal_builtin (by rw [I.ok.glob]; exact I.mod.glob.keeps I.bk) hm (by rw [I.ok.blt]; exact h1.keeps I.bk) ((h2 x hn).trans hv) h) hd
theorem pe_glob {x : Str} {v : V} {u : Value} {pos : Pos} (hg : Gl X x) (hm : X.mg x = some u) (r : RelV v u) (hd : (x == ("__debug__" : Str)) = false := by decide) : PE X (.Name x pos) (tC v) :=
  fun _ _ _ H _ I h => ld_glob I hg hm ⟨v, H, I, r, h⟩ hd
theorem pe_bltn {x : Str} {v : V} {u : Value} {pos : Pos} (hg : Gl X x) (hm : X.mg x = none) (hv : bootBuiltins x = some u) (r : RelV v u) (hn : x ≠ "__name__" := by decide) (hd : (x == ("__debug__" : Str)) = false := by decide) : PE X (.Name x pos) (tC v) :=
  fun _ _ _ H _ I h => ld_blt I hg hm hv ⟨v, H, I, r, h⟩ hn hd
def t2I (ta tb : TE) (k : Int → Int → Hp → Prop) : St → Hp → Prop := fun σ H => ta σ H fun x H1 => tb σ H1 fun y H2 => ∃ i j, x = .int i ∧ y = .int j ∧ k i j H2
def tAdd (ta tb : TE) : TE := fun σ H Q => t2I ta tb (fun i j H2 => Q (.int (i + j)) H2) σ H
def tSub (ta tb : TE) : TE := fun σ H Q => t2I ta tb (fun i j H2 => Q (.int (i - j)) H2) σ H
def tMul (ta tb : TE) : TE := fun σ H Q => t2I ta tb (fun i j H2 => (-(2 ^ 64) < i ∧ i < 2 ^ 64) ∧ Q (.int (i * j)) H2) σ H
variable {a b : Expr} {ta tb : TE} {pos : Pos}
def PC (X : Cx) (op : CmpOp) (a b : Expr) (t : TE) : Prop :=
  ∀ (pins : List (Addr × Obj)) (s : Shared) (σ : St) (H : Hp) (Q : VK), Inv X pins σ H s → t σ H Q →
    wpAny (model X.prog X.w) X.A (eval a X.env) (fun v s₁ => wpAny (model X.prog X.w) X.A (eval b X.env) (fun u s₂ => wpAny (model X.prog X.w) X.A (compareOp op v u) (EP X pins σ Q) X.xe s₂) X.xe s₁) X.xe s
def tCmp (p : Int → Int → Bool) (ta tb : TE) : TE := fun σ H Q => t2I ta tb (fun i j H2 => Q (.bl (p i j)) H2) σ H
abbrev tLt : TE → TE → TE := tCmp fun i j => decide (i < j)
abbrev tLe : TE → TE → TE := tCmp fun i j => decide (i ≤ j)
abbrev tGt : TE → TE → TE := tCmp fun i j => decide (j < i)
abbrev tGe : TE → TE → TE := tCmp fun i j => decide (j ≤ i)
abbrev tEqI : TE → TE → TE := tCmp fun i j => decide (i = j)
abbrev tNeI : TE → TE → TE := tCmp fun i j => !decide (i = j)
def tIsN (ta : TE) : TE := fun σ H Q => ta σ H fun x H1 => Q (.bl (decide (x = .non))) H1
def tNotN (ta : TE) : TE := fun σ H Q => ta σ H fun x H1 => Q (.bl (!decide (x = .non))) H1
def tB (t : TE) : TT := fun σ H Q => t σ H fun x H1 => ∃ c, x = .bl c ∧ Q c H1
variable {tA tB' : TT} {rest : List Expr}
def tAnd (t u : TT) : TT := fun σ H Q => t σ H fun c H1 => if c = true then u σ H1 Q else Q false H1
def tOr (t u : TT) : TT := fun σ H Q => t σ H fun c H1 => if c = true then Q true H1 else u σ H1 Q
def tNot (t : TT) : TT := fun σ H Q => t σ H fun c H1 => Q (!c) H1
theorem pw_and1 (ha : PT X a tA) : PW X (.BoolOp .And [a] pos) tA := by
  intro wh pins s σ H Q I h
  refine isTrue_and (thn (ha pins s σ H Q I h) fun c s1 e => ?_)
  cases c with
  | true => exact isTrue_and_nil e
  | false => exact e
theorem pw_or1 (ha : PT X a tA) : PW X (.BoolOp .Or [a] pos) tA := by
  intro wh pins s σ H Q I h
  refine isTrue_or (thn (ha pins s σ H Q I h) fun c s1 e => ?_)
  cases c with
  | false => exact isTrue_or_nil e
  | true => exact e
theorem pw_and (ha : PT X a tA) (hb : PW X (.BoolOp .And (b :: rest) pos) tB') : PW X (.BoolOp .And (a :: b :: rest) pos) (tAnd tA tB') := by
  intro wh pins s σ H Q I h
  refine isTrue_and (thn (ha pins s σ H _ I h) fun c s1 ⟨H1, I1, q1⟩ => ?_)
  cases c with
  | true => exact hb wh pins s1 σ H1 Q I1 q1
  | false => exact ⟨H1, I1, q1⟩
theorem pw_or (ha : PT X a tA) (hb : PW X (.BoolOp .Or (b :: rest) pos) tB') : PW X (.BoolOp .Or (a :: b :: rest) pos) (tOr tA tB') := by
  intro wh pins s σ H Q I h
  refine isTrue_or (thn (ha pins s σ H _ I h) fun c s1 ⟨H1, I1, q1⟩ => ?_)
  cases c with
  | true => exact ⟨H1, I1, q1⟩
  | false => exact hb wh pins s1 σ H1 Q I1 q1
theorem pt_not (ha : PT X a tA) : PT X (.UnaryOp .Not a pos) (tNot tA) := by
  intro pins s σ H Q I h
  exact isTrue_not (ha pins s σ H (fun c H1 => Q (!c) H1) I h)
def tAndV (ta tb : TE) : TE := fun σ H Q => ta σ H fun x H1 => ∃ c, x = .bl c ∧ if c = true then tb σ H1 Q else Q (.bl false) H1
def tOrV (ta tb : TE) : TE := fun σ H Q => ta σ H fun x H1 => ∃ c, x = .bl c ∧ if c = true then Q (.bl true) H1 else tb σ H1 Q
def tNotV (ta : TE) : TE := fun σ H Q => ta σ H fun x H1 => ∃ c, x = .bl c ∧ Q (.bl (!c)) H1
theorem pe_one {op} {t : TE} (h : PE X a t) : PE X (.BoolOp op [a] pos) t := fun pins s σ H Q I hw => BoolOp_one (h pins s σ H Q I hw)
theorem pe_and (ha : PE X a ta) (hb : PE X (.BoolOp .And (b :: rest) pos) tb) : PE X (.BoolOp .And (a :: b :: rest) pos) (tAndV ta tb) := by
  intro pins s σ H Q I h
  refine BoolOp_and (thn (ha pins s σ H _ I h) fun v s1 ⟨x, H1, I1, r1, q1⟩ => ?_)
  obtain ⟨c, rfl, q1⟩ := q1
  cases r1
  refine wpAny_truthy_bool ?_
  cases c with
  | true => exact hb pins s1 σ H1 Q I1 q1
  | false => exact ⟨.bl false, H1, I1, rfl, q1⟩
def tIf (t : TT) (ta tb : TE) : TE := fun σ H Q => t σ H fun c H1 => if c = true then ta σ H1 Q else tb σ H1 Q
theorem pe_ifExp {c : Expr} (hc : PT X c tA) (ha : PE X a ta) (hb : PE X b tb) : PE X (.IfExp c a b pos) (tIf tA ta tb) := by
  intro pins s σ H Q I h
  refine wpAny_IfExp (thn (hc pins s σ H _ I h) fun d s1 ⟨H1, I1, q1⟩ => ?_)
  cases d with
  | true => exact ha pins s1 σ H1 Q I1 q1
  | false => exact hb pins s1 σ H1 Q I1 q1
end
end L2
namespace L2
open PySem PySem.Spec PyProof.Rows
def SqL (K : PySem.W.Frag) (H : Hp) (a : Addr) (xs : List V) : Prop :=
  Rd H a (.lst xs) ∨
    ∃ (o : Obj) (its : Array Value) (n : Nat), K.lookup a = some o ∧ o.cls = .type "list" ∧ o.dict = none ∧ o.data = .seq its n ∧ its.size ≤ sizeLine ∧ Vals xs its.toList
def SqT (K : PySem.W.Frag) (H : Hp) (a : Addr) (xs : List V) : Prop :=
  Rd H a (.tup xs) ∨
    ∃ (o : Obj) (its : Array Value) (n : Nat), K.lookup a = some o ∧ o.cls = .type "tuple" ∧ o.data = .seq its n ∧ its.size ≤ sizeLine ∧ Vals xs its.toList
def absV : Value → Option V
  | .none => some .non
  | .bool b => some (.bl b)
  | .int i _ => some (.int i)
  | .str x _ => some (.str x)
  | .bytes b _ => some (.byt b)
  | .float b _ => some (.flt b)
  | .ref a => some (.ref a)
  | .type n => some (.ty n)
  | _ => none
theorem RelV.abs {x : V} {u : Value} (r : RelV x u) : absV u = some x := by
  cases x with
  | non => cases r; rfl
  | bl _ => cases r; rfl
  | int _ => obtain ⟨t, rfl⟩ := r; rfl
  | str _ => obtain ⟨t, rfl⟩ := r; rfl
  | byt _ => obtain ⟨t, rfl⟩ := r; rfl
  | flt _ => obtain ⟨t, rfl⟩ := r; rfl
  | ref _ => cases r; rfl
  | ty _ => cases r; rfl
theorem RelV.inj {x y : V} {u : Value} (r : RelV x u) (q : RelV y u) : x = y := Option.some.inj (r.abs.symm.trans q.abs)
theorem Vals.inj : ∀ {xs ys : List V} {us : List Value}, Vals xs us → Vals ys us → xs = ys
  | _, _, _, .nil, .nil => rfl
  | _, _, _, .cons r t, .cons r' t' => by rw [r.inj r', Vals.inj t t']
section
variable {X : Cx} {pins : List (Addr × Obj)} {σ : St} {H : Hp} {s : Shared} {a : Addr} {xs ys : List V}
theorem SqL.of {K : PySem.W.Frag} (h : H a = some (.lst xs)) : SqL K H a xs := .inl (.inl h)
theorem SqT.of {K : PySem.W.Frag} (h : H a = some (.tup xs)) : SqT K H a xs := .inl (.inl h)
theorem Inv.list (I : Inv X pins σ H s) (h : SqL X.K H a xs) : ∃ its : List Value, Vals xs its ∧ PlainL s.heap a its.toArray ∧ xs.length ≤ sizeLine := by
  rcases h with h | ⟨o, its, n, hk, hc, hd, hs, hz, r⟩
  · obtain ⟨z, its, n, r, e⟩ := h.ok I.hok
    exact ⟨its, r, ⟨_, n, e, rfl, rfl, rfl⟩, z⟩
  · refine ⟨its.toList, r, ⟨o, n, I.kIn a o hk, hc, hd, by simpa using hs⟩, ?_⟩
    have e := r.length
    simp only [Array.length_toList] at e
    omega
theorem Inv.tuple (I : Inv X pins σ H s) (h : SqT X.K H a xs) : ∃ its : List Value, Vals xs its ∧ IsTup s.heap a its.toArray ∧ xs.length ≤ sizeLine := by
  rcases h with h | ⟨o, its, n, hk, hc, hs, hz, r⟩
  · obtain ⟨z, its, r, p⟩ := h.ok I.hok
    exact ⟨its, r, p, z⟩
  · refine ⟨its.toList, r, ⟨o, I.kIn a o hk, hc, n, by simpa using hs⟩, ?_⟩
    have e := r.length
    simp only [Array.length_toList] at e
    omega
theorem Inv.list_inj (I : Inv X pins σ H s) (h : SqL X.K H a xs) (h' : SqL X.K H a ys) : xs = ys := by
  obtain ⟨its, r, ⟨o, n, e, _, _, d⟩, _⟩ := I.list h
  obtain ⟨its', r', ⟨o', n', e', _, _, d'⟩, _⟩ := I.list h'
  rw [e] at e'; cases e'
  rw [d] at d'
  injection d' with d1 _
  have : its = its' := by simpa using congrArg Array.toList d1
  subst this
  exact r.inj r'
theorem Inv.tuple_inj (I : Inv X pins σ H s) (h : SqT X.K H a xs) (h' : SqT X.K H a ys) : xs = ys := by
  obtain ⟨its, r, ⟨o, e, _, n, d⟩, _⟩ := I.tuple h
  obtain ⟨its', r', ⟨o', e', _, n', d'⟩, _⟩ := I.tuple h'
  rw [e] at e'; cases e'
  rw [d] at d'
  injection d' with d1 _
  have : its = its' := by simpa using congrArg Array.toList d1
  subst this
  exact r.inj r'
end
abbrev Cx.wish (X : Cx) (E : Value → Shared → Prop) : Cx := { X with xe := E }
abbrev Cx.nox (X : Cx) : Cx := X.wish fun _ _ => False
theorem Cx.Ok.wish {X : Cx} (ok : X.Ok) (E : Value → Shared → Prop) : (X.wish E).Ok :=
  ⟨ok.mod, ok.kind, ok.glob, ok.blt, ok.above, ok.inj, ok.has, ok.cab, ok.hd, ok.frames, ok.stk, ok.exf, ok.bs, ok.bsz, ok.noex, ok.exfs, ok.funs, ok.frf⟩
theorem Cx.Ok.unwish {X : Cx} {E : Value → Shared → Prop} (ok : (X.wish E).Ok) : X.Ok :=
  ⟨ok.mod, ok.kind, ok.glob, ok.blt, ok.above, ok.inj, ok.has, ok.cab, ok.hd, ok.frames, ok.stk, ok.exf, ok.bs, ok.bsz, ok.noex, ok.exfs, ok.funs, ok.frf⟩
section
variable {X : Cx} {pins : List (Addr × Obj)} {σ : St} {H : Hp} {s : Shared} {E : Value → Shared → Prop}
theorem Inv.wish (I : Inv X pins σ H s) (E : Value → Shared → Prop) : Inv (X.wish E) pins σ H s := ⟨I.ok.wish E, I.os, I.bare, I.base, I.loc, I.cell, I.free, I.freeC, I.pin, I.hok, I.len⟩
theorem Inv.unwish (I : Inv (X.wish E) pins σ H s) : Inv X pins σ H s := ⟨I.ok.unwish, I.os, I.bare, I.base, I.loc, I.cell, I.free, I.freeC, I.pin, I.hok, I.len⟩
theorem SP.unwish {D : Ends} {f : Flow} {s' : Shared} (h : SP (X.wish E) pins D f s') : SP X pins D f s' := by
  cases f with
  | next => obtain ⟨σ', H', I, q⟩ := h; exact ⟨σ', H', I.unwish, q⟩
  | brk => obtain ⟨σ', H', I, q⟩ := h; exact ⟨σ', H', I.unwish, q⟩
  | cont => obtain ⟨σ', H', I, q⟩ := h; exact ⟨σ', H', I.unwish, q⟩
  | ret u => obtain ⟨v, σ', H', I, r, q⟩ := h; exact ⟨v, σ', H', I.unwish, r, q⟩
theorem PSs.nox {st : List Stmt} {t : TS} (h : PSs X.nox st t) : PSs X st t := fun pins s σ H D I hw =>
  wpAny_mono (h pins s σ H D (I.wish _) hw) (fun _ _ q => q.unwish) fun _ _ z => False.elim z
end
section
variable {X : Cx} {st : Stmt} {rest : List Stmt} {t u : TS} {e : Expr} {te : TE} {pos : Pos}
def tNext : TS := fun D σ H => D.nx σ H
def tSeq (t u : TS) : TS := fun D σ H => t { D with nx := u D } σ H
theorem pss_nil : PSs X [] tNext := fun _ _ σ H _ I h => wpAny_execs_nil ⟨σ, H, I, h⟩
theorem pss_cons (h1 : PS X st t) (h2 : PSs X rest u) : PSs X (st :: rest) (tSeq t u) := by
  intro pins s σ H D I h
  refine wpAny_execs_cons (thn (h1 pins s σ H { D with nx := u D } I h) fun f s1 q => ?_)
  cases f with
  | next =>
    obtain ⟨σ', H', I', q⟩ := q
    exact h2 pins s1 σ' H' D I' q
  | ret v => exact q
  | brk => exact q
  | cont => exact q
theorem pss_one (h1 : PS X st t) : PSs X [st] t := by
  intro pins s σ H D I h
  refine wpAny_execs_cons (thn (h1 pins s σ H D I h) fun f s1 q => ?_)
  cases f with
  | next => exact wpAny_execs_nil q
  | ret v => exact q
  | brk => exact q
  | cont => exact q
def tBreak : TS := fun D σ H => D.bk σ H
def tCont : TS := fun D σ H => D.ct σ H
theorem Inv.quiet {pins : List (Addr × Obj)} {σ : St} {H : Hp} {s : Shared} (I : Inv X pins σ H s) : interactive X.env = false := by simp [interactive, I.ok.kind]
def tDrop (te : TE) : TS := fun D σ H => te σ H fun _ H1 => D.nx σ H1
theorem ps_expr (he : PE X e te) (hs : swapsWith e none pos.line X.env = pure false := by rfl) : PS X (.Expr e pos) (tDrop te) := by
  intro pins s σ H D I h
  exact wpAny_Expr_any (thn (he pins s σ H _ I h) fun v s1 ⟨x, H1, I1, r1, q1⟩ => ⟨σ, H1, I1, q1⟩) I.quiet hs
def tRet (te : TE) : TS := fun D σ H => te σ H D.rt
theorem ps_ret (he : PE X e te) : PS X (.Return (some e) pos) (tRet te) := by
  intro pins s σ H D I h
  exact wpAny_Return_some (thn (he pins s σ H _ I h) fun v s1 ⟨x, H1, I1, r1, q1⟩ => ⟨x, σ, H1, I1, r1, q1⟩)
def tRetN : TS := fun D _ H => D.rt .non H
def tIfS (c : TT) (t u : TS) : TS := fun D σ H => c σ H fun b H1 => if b = true then t D σ H1 else u D σ H1
theorem ps_if {c : Expr} {a b : List Stmt} {tc : TT} (hc : PT X c tc) (ha : PSs X a t) (hb : PSs X b u) : PS X (.If c a b pos) (tIfS tc t u) := by
  intro pins s σ H D I h
  refine wpAny_If (thn (hc pins s σ H _ I h) fun d s1 ⟨H1, I1, q1⟩ => ?_)
  cases d with
  | true => exact ha pins s1 σ H1 D I1 q1
  | false => exact hb pins s1 σ H1 D I1 q1
def tNever : TS := fun _ _ _ => False
theorem pss_never {sts : List Stmt} : PSs X sts tNever := fun _ _ _ _ _ _ h => h.elim
end
abbrev TG := V → St → Hp → (St → Hp → Prop) → Prop
abbrev TGs := List V → St → Hp → (St → Hp → Prop) → Prop
def PG (X : Cx) (target : Expr) (t : TG) : Prop :=
  ∀ (pins : List (Addr × Obj)) (s : Shared) (σ : St) (H : Hp) (v : V) (u : Value) (Q : St → Hp → Prop), Inv X pins σ H s → RelV v u → t v σ H Q →
    wpAny (model X.prog X.w) X.A (assign target X.env u) (fun _ s' => ∃ σ' H', Inv X pins σ' H' s' ∧ Q σ' H') X.xe s
def PGs (X : Cx) (ts : List Expr) (t : TGs) : Prop :=
  ∀ (pins : List (Addr × Obj)) (s : Shared) (σ : St) (H : Hp) (vs : List V) (us : List Value) (Q : St → Hp → Prop), Inv X pins σ H s → Vals vs us → t vs σ H Q →
    wpAny (model X.prog X.w) X.A (assignInOrder ((assignEach ts X.env).map (·.2)) us) (fun _ s' => ∃ σ' H', Inv X pins σ' H' s' ∧ Q σ' H') X.xe s
abbrev TSet := V → V → V → Hp → (Hp → Prop) → Prop
def PSet (X : Cx) (t : TSet) : Prop :=
  ∀ (pins : List (Addr × Obj)) (s : Shared) (σ : St) (H : Hp) (o i v : V) (ov iv u : Value) (Q : Hp → Prop), Inv X pins σ H s → RelV o ov → RelV i iv → RelV v u → t o i v H Q →
    wpAny (model X.prog X.w) X.A (setItem ov iv u) (fun _ s' => ∃ H', Inv X pins σ H' s' ∧ Q H') X.xe s
abbrev TIp := V → V → Hp → VK → Prop
def PIp (X : Cx) (op : Operator) (t : TIp) : Prop :=
  ∀ (pins : List (Addr × Obj)) (s : Shared) (σ : St) (H : Hp) (x y : V) (v u : Value) (Q : VK), Inv X pins σ H s → RelV x v → RelV y u → t x y H Q →
    wpAny (model X.prog X.w) X.A (inplaceOp op v u) (EP X pins σ Q) X.xe s
section
variable {X : Cx} {pos : Pos}
def gName (i : Nat) : TG := fun v σ H Q => Q (σ.set i (some v)) H
theorem pg_name {i : Nat} {x : Str} (hN : X.N.Nodup) (hi : X.N[i]? = some x) (hx : Loc X.env.scope x) (hf : X.fn x = true ∨ X.env.scope.names.lookup x = some .local := by first | exact .inl rfl | exact .inr rfl | assumption) : PG X (.Name x pos) (gName i) := by
  intro pins s σ H v u Q I r h
  exact wpAny_assign_Name (store_ok I hN hi hx r (fun s' I' => ⟨_, H, I', h⟩) hf)
def gNil : TGs := fun vs σ H Q => vs = [] ∧ Q σ H
def gCons (t : TG) (u : TGs) : TGs := fun vs σ H Q => ∃ v r, vs = v :: r ∧ t v σ H fun σ' H' => u r σ' H' Q
theorem pgs_nil : PGs X [] gNil := by
  intro pins s σ H vs us Q I r h
  obtain ⟨e, h⟩ := h
  subst e
  cases r
  exact assignInOrder_nil ⟨σ, H, I, h⟩
theorem pgs_cons {e : Expr} {es : List Expr} {t : TG} {u : TGs} (h1 : PG X e t) (h2 : PGs X es u)
    (hs : (assignEach (e :: es) X.env).map (·.2) = assign e X.env :: (assignEach es X.env).map (·.2) := by rfl) : PGs X (e :: es) (gCons t u) := by
  intro pins s σ H vs us Q I r h
  obtain ⟨v, vr, e1, h⟩ := h
  subst e1
  cases r with
  | cons r rr =>
    rw [hs]
    refine assignInOrder_cons (thn (h1 pins s σ H _ _ _ I r h) fun _ s1 ⟨σ1, H1, I1, q1⟩ => ?_)
    exact h2 pins s1 σ1 H1 _ _ Q I1 rr q1
def gTup (K : PySem.W.Frag) (n : Nat) (t : TGs) : TG := fun v σ H Q => ∃ a xs, v = .ref a ∧ SqT K H a xs ∧ xs.length = n ∧ t xs σ H Q
theorem pg_tup {es : List Expr} {k : Nat} {t : TGs} {n : Nat} (hc : X.calm = true) (h : PGs X es t)
    (hn : (assignEach es X.env).length = n := by rfl) (hst : (assignEach es X.env).findIdx? (·.1) = none := by rfl) : PG X (.Tuple es k pos) (gTup X.K n t) := by
  intro pins s σ H v u Q I r hw
  obtain ⟨a, xs, e1, hq, hl, hw⟩ := hw
  subst e1
  cases r
  obtain ⟨its, rv, ht, hz⟩ := I.tuple hq
  refine assign_Tuple_tuple (I.ok.hd hc) ht (by simp [hn, ← hl, rv.length]) hst fun h' hx => ?_
  have I1 : Inv X pins σ H { s with heap := h' } := I.kept (t' := s.toks) fun b o e => hx b o (Nat.ne_of_lt (Heap.lt_size e)) e
  exact h pins _ σ H xs _ Q I1 (by simpa using rv) hw
def gSub (to ti : TE) (t : TSet) : TG := fun v σ H Q => to σ H fun o H1 => ti σ H1 fun i H2 => t o i v H2 fun H3 => Q σ H3
theorem pg_sub {o i : Expr} {to ti : TE} {t : TSet} (ho : PE X o to) (hi : PE X i ti) (hs : PSet X t)
    (ha : ∀ v, assign (.Subscript o i pos) X.env v = (do
      let ov ← holding [v] (eval o X.env)
      let iv ← holding [v, ov] (eval i X.env)
      standAt pos
      holding [v, ov, iv] (setItem ov iv v)
      release [v, ov, iv] []) := by intro _; rfl) : PG X (.Subscript o i pos) (gSub to ti t) := by
  intro pins s σ H v u Q I r h
  rw [ha]
  refine wpAny_bind (wpAny_holding (thn (ho pins s σ H _ I h) fun ov s1 ⟨x, H1, I1, r1, q1⟩ => ?_))
  refine wpAny_bind (wpAny_holding (thn (hi pins s1 σ H1 _ I1 q1) fun iv s2 ⟨y, H2, I2, r2, q2⟩ => ?_))
  refine wpAny_bind (wpAny_standAt (wpAny_bind (wpAny_holding (thn (hs pins s2 σ H2 x y v ov iv u _ I2 r1 r2 r q2) fun _ s3 ⟨H3, I3, q3⟩ => ?_))))
  exact wpAny_release ⟨σ, H3, I3, q3⟩
def tAsg (te : TE) (g : TG) : TS := fun D σ H => te σ H fun x H1 => g x σ H1 D.nx
theorem ps_asg {tg e : Expr} {te : TE} {g : TG} (he : PE X e te) (hg : PG X tg g) (hs : swapsWithSole [tg] e pos.line X.env = pure false := by rfl) (hw : swappedStores [tg] e X.env = pure none := by rfl)
    (h1 : (assignEach [tg] X.env).map (·.2) = [assign tg X.env] := by rfl) : PS X (.Assign [tg] e pos) (tAsg te g) := by
  intro pins s σ H D I h
  refine wpAny_Assign_stores (thn (he pins s σ H _ I h) fun v s1 ⟨x, H1, I1, r1, q1⟩ => ?_) hs hw
  rw [h1]
  exact thn (hg pins s1 σ H1 x v _ I1 r1 q1) fun _ s2 q => q
theorem ps_set {i : Nat} {x : Str} {e : Expr} {te : TE} {pos' : Pos} (hN : X.N.Nodup) (hi : X.N[i]? = some x) (hx : Loc X.env.scope x) (he : PE X e te) (hs : swapsWith e (some (.Name x pos')) pos.line X.env = pure false := by rfl) (hf : X.fn x = true ∨ X.env.scope.names.lookup x = some .local := by first | exact .inl rfl | exact .inr rfl | assumption) :
    PS X (.Assign [.Name x pos'] e pos) (tAsg te (gName i)) := by
  intro pins s σ H D I h
  refine wpAny_Assign_Name (thn (he pins s σ H _ I h) fun v s1 ⟨y, H1, I1, r1, q1⟩ => ?_) hs
  exact store_ok I1 hN hi hx r1 (fun s2 I2 => ⟨_, H1, I2, q1⟩) hf
def tPar (i j : Nat) (ta : TA) : TS := fun D σ H => ta σ H fun vs H1 => ∃ v w, vs = [v, w] ∧ D.nx ((σ.set i (some v)).set j (some w)) H1
def tAug (i : Nat) (te : TE) (ti : TIp) : TS := fun D σ H => ∃ x, σ[i]? = some (some x) ∧ te σ H fun y H1 => ti x y H1 fun z H2 => D.nx (σ.set i (some z)) H2
def tAugS (to ti te : TE) (tget : V → V → Hp → VK → Prop) (tip : TIp) (tset : TSet) : TS := fun D σ H => to σ H fun o H1 => ti σ H1 fun i H2 => tget o i H2 fun x H3 => te σ H3 fun y H4 => tip x y H4 fun z H5 => tset o i z H5 fun H6 => D.nx σ H6
def PGet (X : Cx) (t : V → V → Hp → VK → Prop) : Prop :=
  ∀ (pins : List (Addr × Obj)) (s : Shared) (σ : St) (H : Hp) (o i : V) (ov iv : Value) (Q : VK), Inv X pins σ H s → RelV o ov → RelV i iv → t o i H Q →
    wpAny (model X.prog X.w) X.A (getItem ov iv) (EP X pins σ Q) X.xe s
def ipI (f : Int → Int → Int) : TIp := fun x y H Q => ∃ i j, x = .int i ∧ y = .int j ∧ Q (.int (f i j)) H
end
section
variable {X : Cx} {pos : Pos}
def tWhile (c : TT) (tb : TS) : TS := fun D σ H => ∃ W : Nat → St → Hp → Prop, (∃ m, W m σ H) ∧ ∀ m σ H, W m σ H →
  c σ H fun b H1 => if b = true then ∃ N : St → Hp → Prop, (∀ σ' H', N σ' H' → ∃ m', m' < m ∧ W m' σ' H') ∧ tb { D with nx := N, ct := N, bk := D.nx } σ H1 else D.nx σ H1
end
structure It where
  go : Nat → Hp → Prop
  yld : Nat → Hp → V → Hp → Prop
  stop : Nat → Hp → Prop
def FpOk (X : Cx) (pins : List (Addr × Obj)) (H : Hp) (b : Addr) : Prop :=
  H b = none ∧ b ≠ X.env.locals ∧ b ∉ X.fs ∧ (b ∈ X.ex ∨ X.s₀.heap.objs.size ≤ b) ∧ (∀ x c, X.env.cells.lookup x = some c → c ≠ b) ∧ ∀ p ∈ X.pn ++ pins, p.1 ≠ b
theorem Inv.fpOk {X : Cx} {pins : List (Addr × Obj)} {σ : St} {H H' : Hp} {s : Shared} {b : Addr} (I : Inv X pins σ H s) (hb : s.heap.objs.size ≤ b) (hn : H' b = none) : FpOk X pins H' b := by
  refine ⟨hn, Nat.ne_of_gt (Nat.lt_of_lt_of_le I.lt hb), I.nofs hb, .inr (Nat.le_trans I.sz hb), fun x c e z => ?_, fun p hp z => ?_⟩
  · obtain ⟨v, q⟩ := I.cell x c e
    exact absurd (Nat.lt_of_lt_of_le q.lt (by rw [z]; exact hb)) (Nat.lt_irrefl _)
  · exact absurd (Nat.lt_of_lt_of_le (Heap.lt_size (I.pin p hp).1) (by rw [z]; exact hb)) (Nat.lt_irrefl _)
structure Turn (P : Program) (w : World) (K : PySem.W.Frag) (tg : Expr) (J : It) (fp : List Addr) (it : Addr) (tn : Nat → Heap → Prop) : Prop where
  mem : it ∈ fp
  obj : ∀ i h, tn i h → ∀ b ∈ fp, ∃ o, h.get? b = some o ∧ ∀ v, o.data ≠ .cell v
  keep : ∀ i h h', tn i h → (∀ b ∈ fp, ∀ o, h.get? b = some o → h'.get? b = some o) → tn i h'
  item : ∀ (X : Cx), X.prog = P → X.w = w → X.K = K → X.calm = true → ∀ (i : Nat) (pins : List (Addr × Obj)) (s : Shared) (σ : St) (H : Hp) (E : Value → Shared → Prop), Inv X pins σ H s → (∀ b ∈ fp, FpOk X pins H b) → tn i s.heap → J.go i H →
    wpAny (model P w) X.A (pyNext (.ref it)) (fun r s1 => ∃ u, r = some u ∧
      wpAny (model P w) X.A (letOwnedTupleGo tg (.ref it) u) (fun _ s2 => ∃ x H', Inv X pins σ H' s2 ∧ RelV x u ∧ J.yld i H x H' ∧ tn (i + 1) s2.heap ∧ ∀ b ∈ fp, H' b = none) E s1) E s
  done : ∀ (X : Cx), X.prog = P → X.w = w → X.K = K → X.calm = true → ∀ (i : Nat) (pins : List (Addr × Obj)) (s : Shared) (σ : St) (H : Hp) (E : Value → Shared → Prop), Inv X pins σ H s → (∀ b ∈ fp, FpOk X pins H b) → tn i s.heap → J.stop i H →
    wpAny (model P w) X.A (pyNext (.ref it)) (fun r s1 => r = none ∧ Inv X pins σ H s1) E s
  self : ∀ (A : Around) (i : Nat) (s : Shared) (Q : Value → Shared → Prop) (E : Value → Shared → Prop), tn i s.heap → Q (.ref it) s → wpAny (model P w) A (pyIter (.ref it)) Q E s
abbrev TI := St → Hp → (It → Hp → Prop) → Prop
def PIE (X : Cx) (pins : List (Addr × Obj)) (σ : St) (tg : Expr) (R : It → Hp → Prop) (itv : Value) (s2 : Shared) : Prop :=
  ∃ (it : Addr) (fp : List Addr) (tn : Nat → Heap → Prop) (J : It) (H' : Hp), itv = .ref it ∧ Inv X pins σ H' s2 ∧ Turn X.prog X.w X.K tg J fp it tn ∧ tn 0 s2.heap ∧ (∀ b ∈ fp, FpOk X pins H' b) ∧ R J H'
def PI (X : Cx) (tg iter : Expr) (wi : TI) : Prop :=
  ∀ (pins : List (Addr × Obj)) (s : Shared) (σ : St) (H : Hp) (R : It → Hp → Prop), Inv X pins σ H s → wi σ H R →
    wpAny (model X.prog X.w) X.A (eval iter X.env) (fun v s1 => wpAny (model X.prog X.w) X.A (pyIter v) (PIE X pins σ tg R) X.xe s1) X.xe s
theorem go_of {M : Model} {A : Around} {E : Value → Shared → Prop} {s : Shared} {tg : Expr} {it : Addr} {u : Value} {o : Obj} {n : String} {vs : Array Value} {Q : Unit → Shared → Prop} (ho : s.heap.get? it = some o) (hc : o.cls = .type n) (hd : o.data = .fields vs)
    (hn : ["enumerate", "zip", "dict_itemiterator", "dict_reverseitemiterator", "odict_iterator", "itertools.zip_longest", "itertools.pairwise"].contains n = false) (hQ : Q () s) : wpAny M A (letOwnedTupleGo tg (.ref it) u) Q E s := by
  unfold letOwnedTupleGo
  cases tg <;> first
    | exact wpAny_pure hQ
    | (cases u <;> first
        | exact wpAny_pure hQ
        | (refine wpAny_bind (wpAny_load ho ?_)
           rw [hc, hd]
           show wpAny M A (if (["enumerate", "zip", "dict_itemiterator", "dict_reverseitemiterator", "odict_iterator", "itertools.zip_longest", "itertools.pairwise"].contains n && vs[0]? == some (rawInt _)) = true then _ else _) Q E s
           rw [if_neg (by intro h; rw [hn, Bool.false_and] at h; cases h)]
           exact wpAny_pure hQ))
def Itl (K : PySem.W.Frag) (a : Addr) : It :=
  ⟨fun i H => ∃ xs x, SqL K H a xs ∧ xs[i]? = some x, fun i H x H' => H' = H ∧ ∀ xs, SqL K H a xs → xs[i]? = some x, fun i H => ∃ xs, SqL K H a xs ∧ xs.length ≤ i⟩
def Itt (K : PySem.W.Frag) (a : Addr) : It :=
  ⟨fun i H => ∃ xs x, SqT K H a xs ∧ xs[i]? = some x, fun i H x H' => H' = H ∧ ∀ xs, SqT K H a xs → xs[i]? = some x, fun i H => ∃ xs, SqT K H a xs ∧ xs.length ≤ i⟩
def Itr (lo : Int) (n : Nat) : It := ⟨fun i _ => i < n, fun i H x H' => H' = H ∧ x = .int (lo + i), fun i _ => n ≤ i⟩
theorem turn_list {P : Program} {w : World} {K : PySem.W.Frag} {tg : Expr} (a it : Addr) : Turn P w K tg (Itl K a) [it] it (fun i h => h.IsListIter it a i) where
  mem := by simp
  obj := fun i h st b hb => by
    have e : b = it := by simpa using hb
    subst e
    obtain ⟨o, e, c, d⟩ := st
    exact ⟨o, e, fun v z => by rw [d] at z; cases z⟩
  keep := fun i h h' st k => st.at fun o e => k it (by simp) o e
  item := by
    intro X hP hw hK hc i pins s σ H E I hf st hg
    subst hP hw hK
    obtain ⟨xs, x, hq, hx⟩ := hg
    obtain ⟨its, rv, p, hz⟩ := I.list hq
    obtain ⟨u, hu, ru⟩ := rv.get hx
    obtain ⟨f0, f1, f2, f3, f4, f5⟩ := hf it (by simp)
    refine wpAny_pyNext_list_item st p.isList (x := u) (by simpa using hu) fun h' st' sb => ?_
    have I1 : Inv X pins σ H { s with heap := h' } := I.turned (t' := s.toks) (fun b o hb e => (sb.2 b hb).trans e) f0 f1 f3 f4 f5
    obtain ⟨o, e, c, d⟩ := id st'
    exact ⟨u, rfl, go_of (s := { s with heap := h' }) e c d (by decide) ⟨x, H, I1, ru, ⟨rfl, fun ys hy => by rw [I.list_inj hy hq]; exact hx⟩, st', fun b hb => (hf b hb).1⟩⟩
  done := by
    intro X hP hw hK hc i pins s σ H E I hf st hg
    subst hP hw hK
    obtain ⟨xs, hq, hx⟩ := hg
    obtain ⟨its, rv, p, hz⟩ := I.list hq
    obtain ⟨f0, f1, f2, f3, f4, f5⟩ := hf it (by simp)
    have hl := rv.length
    exact wpAny_pyNext_list_end (I.ok.hd hc) st p.isList (by simp; omega) fun h' eb => ⟨rfl, I.turned (t' := s.toks) (fun b o hb e => eb b o hb e) f0 f1 f3 f4 f5⟩
  self := fun _ _ _ _ _ st h => wpAny_pyIter_listiter st h
theorem turn_tuple {P : Program} {w : World} {K : PySem.W.Frag} {tg : Expr} (a it : Addr) : Turn P w K tg (Itt K a) [it] it (fun i h => h.IsTupleIter it a i) where
  mem := by simp
  obj := fun i h st b hb => by
    have e : b = it := by simpa using hb
    subst e
    obtain ⟨o, e, c, d⟩ := st
    exact ⟨o, e, fun v z => by rw [d] at z; cases z⟩
  keep := fun i h h' st k => st.at fun o e => k it (by simp) o e
  item := by
    intro X hP hw hK hc i pins s σ H E I hf st hg
    subst hP hw hK
    obtain ⟨xs, x, hq, hx⟩ := hg
    obtain ⟨its, rv, p, hz⟩ := I.tuple hq
    obtain ⟨u, hu, ru⟩ := rv.get hx
    obtain ⟨f0, f1, f2, f3, f4, f5⟩ := hf it (by simp)
    refine wpAny_pyNext_tuple_item st (show s.heap.IsTuple a its.toArray from p) (x := u) (by simpa using hu) fun h' st' sb => ?_
    have I1 : Inv X pins σ H { s with heap := h' } := I.turned (t' := s.toks) (fun b o hb e => (sb.2 b hb).trans e) f0 f1 f3 f4 f5
    obtain ⟨o, e, c, d⟩ := id st'
    exact ⟨u, rfl, go_of (s := { s with heap := h' }) e c d (by decide) ⟨x, H, I1, ru, ⟨rfl, fun ys hy => by rw [I.tuple_inj hy hq]; exact hx⟩, st', fun b hb => (hf b hb).1⟩⟩
  done := by
    intro X hP hw hK hc i pins s σ H E I hf st hg
    subst hP hw hK
    obtain ⟨xs, hq, hx⟩ := hg
    obtain ⟨its, rv, p, hz⟩ := I.tuple hq
    obtain ⟨f0, f1, f2, f3, f4, f5⟩ := hf it (by simp)
    have hl := rv.length
    exact wpAny_pyNext_tuple_end (I.ok.hd hc) st (show s.heap.IsTuple a its.toArray from p) (by simp; omega) fun h' eb => ⟨rfl, I.turned (t' := s.toks) (fun b o hb e => eb b o hb e) f0 f1 f3 f4 f5⟩
  self := fun _ _ _ _ _ st h => wpAny_pyIter_tupleiter st h
theorem turn_range {P : Program} {w : World} {K : PySem.W.Frag} {tg : Expr} (it : Addr) (lo : Int) (n : Nat) : Turn P w K tg (Itr lo n) [it] it (fun i h => IsRangeIter h it (lo + (i : Nat) * 1) ((n : Int) - (i : Nat)) 1) where
  mem := by simp
  obj := fun i h st b hb => by
    have e : b = it := by simpa using hb
    subst e
    exact ⟨_, st, fun v z => by
      have z' : Data.fields _ = Data.cell v := z
      cases z'⟩
  keep := fun i h h' st k => k it (by simp) _ st
  item := by
    intro X hP hw hK hc i pins s σ H E I hf st hg
    subst hP hw hK
    obtain ⟨f0, f1, f2, f3, f4, f5⟩ := hf it (by simp)
    have W := Walks.range (prog := X.prog) (w := X.w) (I.ok.hd hc) it lo 1 n
    refine W.item i s _ _ hg st fun v h' tk hv st' kk => ?_
    obtain ⟨t, rfl⟩ := hv
    have I1 : Inv X pins σ H { s with heap := h', toks := tk } := I.turned (fun b o hb e => kk b o (by simpa using hb) e) f0 f1 f3 f4 f5
    refine ⟨_, rfl, go_of (s := { s with heap := h', toks := tk }) (n := "range_iterator") st' rfl rfl (by decide) ⟨.int (lo + i), H, I1, ⟨t, ?_⟩, ⟨rfl, rfl⟩, st', fun b hb => (hf b hb).1⟩⟩
    rw [Int.mul_one]
  done := by
    intro X hP hw hK hc i pins s σ H E I hf st hg
    subst hP hw hK
    obtain ⟨f0, f1, f2, f3, f4, f5⟩ := hf it (by simp)
    exact wpAny_pyNext_range_end (I.ok.hd hc) st (by have : n ≤ i := hg; omega) fun h' eb => ⟨rfl, I.turned (t' := s.toks) (fun b o hb e => eb b o hb e) f0 f1 f3 f4 f5⟩
  self := fun _ _ _ _ _ st h => wpAny_pyIter_rangeiter st h
end L2
namespace L2
open PySem PySem.Spec PyProof.Rows
section
variable {X : Cx} {tg : Expr}
def iList (K : PySem.W.Frag) (tl : TE) : TI := fun σ H R => tl σ H fun x H1 => ∃ a, x = .ref a ∧ (∃ xs, SqL K H1 a xs) ∧ R (Itl K a) H1
def iTup (K : PySem.W.Frag) (tl : TE) : TI := fun σ H R => tl σ H fun x H1 => ∃ a, x = .ref a ∧ (∃ xs, SqT K H1 a xs) ∧ R (Itt K a) H1
theorem range_it {pins : List (Addr × Obj)} {σ : St} {H : Hp} {s : Shared} {R : It → Hp → Prop} {E : Value → Shared → Prop} {lo hi : Int} {t u v : Tok} {tk : Nat} (I : Inv X pins σ H s) (h1 : -(2 ^ 62) ≤ lo) (h2 : lo < 2 ^ 62) (h3 : -(2 ^ 62) ≤ hi) (h4 : hi < 2 ^ 62)
    (q : R (Itr lo (hi - lo).toNat) H) : wpAny (model X.prog X.w) X.A (pyIter (.ref s.heap.objs.size)) (PIE X pins σ tg R) E { s with heap := s.heap.push { cls := .type "range", data := .fields #[.int lo t, .int hi u, .int 1 v] }, toks := tk } := by
  refine wpAny_pyIter_range (IsRange.new ..) (small_one h1 h2 h3 h4) ?_
  have I1 : Inv X pins σ H { s with heap := s.heap.push { cls := .type "range", data := .fields #[.int lo t, .int hi u, .int 1 v] }, toks := tk } := I.kept fun b o e => Heap.get?_push_of_some _ e
  refine ⟨(s.heap.push { cls := .type "range", data := .fields #[.int lo t, .int hi u, .int 1 v] }).objs.size, [(s.heap.push { cls := .type "range", data := .fields #[.int lo t, .int hi u, .int 1 v] }).objs.size], _, _, H, rfl,
    I1.kept (t' := tk) fun b o e => Heap.get?_push_of_some _ e, turn_range _ lo (hi - lo).toNat, ?_, fun b hb => ?_, q⟩
  · have e1 : lo + ((0 : Nat) : Int) * 1 = lo := by simp
    have e2 : (((hi - lo).toNat : Nat) : Int) - ((0 : Nat) : Int) = Builtin.Range.rangeSize lo hi 1 := by rw [rangeSize_one]; split <;> omega
    show IsRangeIter _ _ (lo + ((0 : Nat) : Int) * 1) ((((hi - lo).toNat : Nat) : Int) - ((0 : Nat) : Int)) 1
    rw [e1, e2]
    exact Heap.get?_push_size _ rfl
  · have e : b = (s.heap.push { cls := .type "range", data := .fields #[.int lo t, .int hi u, .int 1 v] }).objs.size := by simpa using hb
    subst e
    exact I1.fpOk (Nat.le_refl _) (I1.hok.fresh (Nat.le_refl _))
def iRng1 (ta : TA) : TI := fun σ H R => ta σ H fun vs H1 => ∃ j : Int, vs = [.int j] ∧ -(2 ^ 62) ≤ j ∧ j < 2 ^ 62 ∧ R (Itr 0 j.toNat) H1
def iRng2 (ta : TA) : TI := fun σ H R => ta σ H fun vs H1 => ∃ i j : Int, vs = [.int i, .int j] ∧ (-(2 ^ 62) ≤ i ∧ i < 2 ^ 62 ∧ -(2 ^ 62) ≤ j ∧ j < 2 ^ 62) ∧ R (Itr i (j - i).toNat) H1
theorem pi_range1 {a : Expr} {ta : TA} {p pos : Pos} (hg : Gl X "range") (hm : X.mg "range" = none) (ha : PA X [a] ta) (hs : starEach [a] X.env = [(false, eval a X.env)] := by rfl) : PI X tg (.Call (.Name "range" p) [a] [] pos) (iRng1 ta) := by
  intro pins s σ H R I h
  refine Call_ (ld_blt I hg hm boot_range (PyProof.Rows.callWith_type1 (thn (ha pos pins s σ H _ I h) fun us s1 ⟨vs, H1, I1, r1, q1⟩ => ?_) hs rfl))
  obtain ⟨j, e, q1, q2, q⟩ := q1
  subst e
  cases r1 with
  | cons r rr =>
    cases rr
    obtain ⟨t, rfl⟩ := r
    exact call_range_1 (range_it I1 (by omega) (by omega) q1 q2 (by simpa using q))
def tFor (wi : TI) (g : TG) (tb : TS) : TS := fun D σ H => wi σ H fun J H1 => ∃ W : Nat → Nat → St → Hp → Prop, (∃ m, W 0 m σ H1) ∧ ∀ i m σ H, W i m σ H →
  (J.stop i H ∧ D.nx σ H) ∨ (J.go i H ∧ ∃ N : St → Hp → Prop, (∀ σ' H', N σ' H' → ∃ m', m' < m ∧ W (i + 1) m' σ' H') ∧ ∀ x H', J.yld i H x H' → g x σ H' fun σ2 H2 => tb { D with nx := N, ct := N, bk := D.nx } σ2 H2)
def pinsAt (fp : List Addr) (h : Heap) : List (Addr × Obj) := fp.filterMap fun b => (h.get? b).map fun o => (b, o)
theorem mem_pinsAt {fp : List Addr} {h : Heap} {b : Addr} {o : Obj} (hb : b ∈ fp) (e : h.get? b = some o) : (b, o) ∈ pinsAt fp h := List.mem_filterMap.mpr ⟨b, hb, by rw [e]; rfl⟩
theorem of_pinsAt {fp : List Addr} {h : Heap} {p : Addr × Obj} (hp : p ∈ pinsAt fp h) : p.1 ∈ fp ∧ h.get? p.1 = some p.2 := by
  obtain ⟨b, hb, e⟩ := List.mem_filterMap.mp hp
  cases q : h.get? b with
  | none => rw [q] at e; cases e
  | some o =>
    rw [q] at e
    have e' : (b, o) = p := Option.some.inj e
    subst e'
    exact ⟨hb, q⟩
theorem Inv.pinned {pins : List (Addr × Obj)} {σ : St} {H : Hp} {s : Shared} {fp : List Addr} (I : Inv X pins σ H s) (hf : ∀ b ∈ fp, FpOk X pins H b) (ho : ∀ b ∈ fp, ∃ o, s.heap.get? b = some o ∧ ∀ v, o.data ≠ .cell v) : Inv X (pins ++ pinsAt fp s.heap) σ H s :=
  I.pins_of fun p hp => (List.mem_append.mp hp).elim (fun z => I.pin p (List.mem_append_right _ z)) fun z => by
    obtain ⟨hb, e⟩ := of_pinsAt z
    obtain ⟨f0, f1, f2, _⟩ := hf p.1 hb
    obtain ⟨o, e', d⟩ := ho p.1 hb
    rw [e] at e'; cases e'
    exact ⟨e, f0, f1, f2, d⟩
theorem Inv.unpinned {pins pl : List (Addr × Obj)} {σ : St} {H : Hp} {s : Shared} (I : Inv X (pins ++ pl) σ H s) : Inv X pins σ H s := I.pins_of fun p hp => I.pin p (List.mem_append_right _ (List.mem_append_left _ hp))
theorem ps_for {iter : Expr} {body : List Stmt} {wi : TI} {g : TG} {tb : TS} {pos : Pos} (hp : PassesOwn (model X.prog X.w) X.A X.env X.xe) (hc : X.calm = true) (hi : PI X tg iter wi) (hg : PG X tg g) (hb : PSs X body tb)
    (hs : ∀ x, foldedSetIterable iter X.env x = pure x := by intro _; rfl) : PS X (.For tg iter body [] pos) (tFor wi g tb) := by
  intro pins s σ H D I h
  refine wpAny_For (thn (hi pins s σ H _ I h) fun v s1 h1 => thn h1 fun itv s2 h2 => ?_) hs
  obtain ⟨it, fp, tn, J, H2, e, I2, T, st2, f2, W, ⟨m0, w0⟩, turn⟩ := h2
  subst e
  have stat : ∀ {H' : Hp}, (∀ b ∈ fp, H' b = none) → ∀ b ∈ fp, FpOk X pins H' b := fun hn b hb => ⟨hn b hb, (f2 b hb).2⟩
  refine codeAny_forLoop_any (fun n s' => ∃ i σ' H', Inv X pins σ' H' s' ∧ tn i s'.heap ∧ (∀ b ∈ fp, H' b = none) ∧ W i n σ' H') ?_ m0 ⟨0, σ, H2, I2, st2, fun b hb => (f2 b hb).1, w0⟩
  rintro n s3 ⟨i, σ3, H3, I3, st3, fr3, w3⟩
  rcases turn i n σ3 H3 w3 with ⟨stop, qn⟩ | ⟨go, N, hN, step⟩
  · refine wpAny_passesOwn hp (thn (T.done X rfl rfl rfl hc i pins s3 σ3 H3 X.xe I3 (stat fr3) st3 stop) fun r s4 ⟨hr, I4⟩ => ?_)
    subst hr
    exact wpAny_execs_nil ⟨σ3, H3, I4, qn⟩
  · refine wpAny_passesOwn hp (thn (T.item X rfl rfl rfl hc i pins s3 σ3 H3 X.xe I3 (stat fr3) st3 go) fun r s4 ⟨u, hr, h4⟩ => ?_)
    subst hr
    refine wpAny_passesOwn hp (thn h4 fun _ s5 ⟨x, H5, I5, r5, y5, st5, fr5⟩ => ?_)
    have I5' := I5.pinned (stat fr5) (T.obj _ _ st5)
    refine wpAny_passesOwn hp (thn (hg _ s5 σ3 H5 x u _ I5' r5 (step x H5 y5)) fun _ s6 ⟨σ6, H6, I6, q6⟩ => ?_)
    refine wpAny_passesOwn hp (thn (hb _ s6 σ6 H6 _ I6 q6) fun f s7 q7 => ?_)
    have again : ∀ {σ7 : St} {H7 : Hp}, Inv X (pins ++ pinsAt fp s5.heap) σ7 H7 s7 → N σ7 H7 → ∃ m, m < n ∧ ∃ i σ' H', Inv X pins σ' H' s7 ∧ tn i s7.heap ∧ (∀ b ∈ fp, H' b = none) ∧ W i m σ' H' := fun {σ7 H7} I7 n7 => by
      obtain ⟨m', hm, w7⟩ := hN σ7 H7 n7
      refine ⟨m', hm, i + 1, σ7, H7, I7.unpinned, T.keep _ _ _ st5 fun b hb o e => (I7.pin (b, o) (List.mem_append_right _ (List.mem_append_right _ (mem_pinsAt hb e)))).1, fun b hb => ?_, w7⟩
      obtain ⟨o, e, d⟩ := T.obj _ _ st5 b hb
      exact (I7.pin (b, o) (List.mem_append_right _ (List.mem_append_right _ (mem_pinsAt hb e)))).2.1
    cases f with
    | next => obtain ⟨σ7, H7, I7, n7⟩ := q7; exact again I7 n7
    | cont => obtain ⟨σ7, H7, I7, n7⟩ := q7; exact again I7 n7
    | brk => obtain ⟨σ7, H7, I7, q7⟩ := q7; exact ⟨σ7, H7, I7.unpinned, q7⟩
    | ret v => obtain ⟨x7, σ7, H7, I7, r7, q7⟩ := q7; exact ⟨x7, σ7, H7, I7.unpinned, r7, q7⟩
end
theorem for_list {K : PySem.W.Frag} {a : Addr} {xs : List V} {g : TG} {tb : TS} {D : Ends} {σ : St} {H : Hp} (Pv : Nat → St → Hp → Prop) (h0 : Pv 0 σ H) (hl : ∀ i σ H, i ≤ xs.length → Pv i σ H → SqL K H a xs)
    (hs : ∀ i x σ H, xs[i]? = some x → Pv i σ H → g x σ H fun σ2 H2 => tb { D with nx := Pv (i + 1), ct := Pv (i + 1), bk := D.nx } σ2 H2) (hd : ∀ σ H, Pv xs.length σ H → D.nx σ H) :
    ∃ W : Nat → Nat → St → Hp → Prop, (∃ m, W 0 m σ H) ∧ ∀ i m σ H, W i m σ H →
      ((Itl K a).stop i H ∧ D.nx σ H) ∨ ((Itl K a).go i H ∧ ∃ N : St → Hp → Prop, (∀ σ' H', N σ' H' → ∃ m', m' < m ∧ W (i + 1) m' σ' H') ∧ ∀ x H', (Itl K a).yld i H x H' → g x σ H' fun σ2 H2 => tb { D with nx := N, ct := N, bk := D.nx } σ2 H2) := by
  refine ⟨fun i m σ H => m = xs.length - i ∧ i ≤ xs.length ∧ Pv i σ H, ⟨xs.length, by simp, Nat.zero_le _, h0⟩, ?_⟩
  rintro i m σ H ⟨rfl, hi, p⟩
  have q := hl i σ H hi p
  by_cases hlt : i < xs.length
  · refine .inr ⟨⟨xs, xs[i], q, by simp [hlt]⟩, Pv (i + 1), fun σ' H' p' => ⟨xs.length - (i + 1), by omega, rfl, hlt, p'⟩, fun x H' y => ?_⟩
    obtain ⟨e, y⟩ := y
    subst e
    exact hs i x σ _ (y xs q) p
  · have e : i = xs.length := by omega
    subst e
    exact .inl ⟨⟨xs, q, Nat.le_refl _⟩, hd σ H p⟩
theorem for_range {lo : Int} {n : Nat} {g : TG} {tb : TS} {D : Ends} {σ : St} {H : Hp} (Pv : Nat → St → Hp → Prop) (h0 : Pv 0 σ H)
    (hs : ∀ i σ H, i < n → Pv i σ H → g (.int (lo + i)) σ H fun σ2 H2 => tb { D with nx := Pv (i + 1), ct := Pv (i + 1), bk := D.nx } σ2 H2) (hd : ∀ σ H, Pv n σ H → D.nx σ H) :
    ∃ W : Nat → Nat → St → Hp → Prop, (∃ m, W 0 m σ H) ∧ ∀ i m σ H, W i m σ H →
      ((Itr lo n).stop i H ∧ D.nx σ H) ∨ ((Itr lo n).go i H ∧ ∃ N : St → Hp → Prop, (∀ σ' H', N σ' H' → ∃ m', m' < m ∧ W (i + 1) m' σ' H') ∧ ∀ x H', (Itr lo n).yld i H x H' → g x σ H' fun σ2 H2 => tb { D with nx := N, ct := N, bk := D.nx } σ2 H2) := by
  refine ⟨fun i m σ H => m = n - i ∧ i ≤ n ∧ Pv i σ H, ⟨n, by simp, Nat.zero_le _, h0⟩, ?_⟩
  rintro i m σ H ⟨rfl, hi, p⟩
  by_cases hlt : i < n
  · refine .inr ⟨hlt, Pv (i + 1), fun σ' H' p' => ⟨n - (i + 1), by omega, rfl, hlt, p'⟩, fun x H' y => ?_⟩
    obtain ⟨e, y⟩ := y
    subst e y
    exact hs i σ _ hlt p
  · have e : i = n := by omega
    subst e
    exact .inl ⟨Nat.le_refl _, hd σ H p⟩
end L2
namespace L2
open PySem PySem.Spec PyProof.Rows
abbrev R2 := V → V → Hp → VK → Prop
def OpR (X : Cx) (f : Value → Value → Sem Value) (r : R2) : Prop :=
  ∀ (pins : List (Addr × Obj)) (s : Shared) (σ : St) (H : Hp) (x y : V) (v u : Value) (Q : VK), Inv X pins σ H s → RelV x v → RelV y u → r x y H Q →
    wpAny (model X.prog X.w) X.A (f v u) (EP X pins σ Q) X.xe s
def UnR (X : Cx) (f : Value → Sem Value) (r : V → Hp → VK → Prop) : Prop :=
  ∀ (pins : List (Addr × Obj)) (s : Shared) (σ : St) (H : Hp) (x : V) (v : Value) (Q : VK), Inv X pins σ H s → RelV x v → r x H Q →
    wpAny (model X.prog X.w) X.A (f v) (EP X pins σ Q) X.xe s
def CallR (X : Cx) (f : Value) (r : List V → Hp → VK → Prop) : Prop :=
  ∀ (pins : List (Addr × Obj)) (s : Shared) (σ : St) (H : Hp) (xs : List V) (us : List Value) (Q : VK), Inv X pins σ H s → Vals xs us → r xs H Q →
    wpAny (model X.prog X.w) X.A (call f us) (EP X pins σ Q) X.xe s
def TruR (X : Cx) (r : V → Hp → (Bool → Hp → Prop) → Prop) : Prop :=
  ∀ (pins : List (Addr × Obj)) (s : Shared) (σ : St) (H : Hp) (x : V) (v : Value) (Q : Bool → Hp → Prop), Inv X pins σ H s → RelV x v → r x H Q →
    wpAny (model X.prog X.w) X.A (truthy v) (TP X pins σ Q) X.xe s
def tOp (r : R2) (ta tb : TE) : TE := fun σ H Q => ta σ H fun x H1 => tb σ H1 fun y H2 => r x y H2 Q
def tUn (r : V → Hp → VK → Prop) (ta : TE) : TE := fun σ H Q => ta σ H fun x H1 => r x H1 Q
def rI (C : Int → Int → Prop) (g : Int → Int → V) : R2 := fun x y H Q => ∃ i j, x = .int i ∧ y = .int j ∧ C i j ∧ Q (g i j) H
def rI0 (g : Int → Int → V) : R2 := fun x y H Q => ∃ i j, x = .int i ∧ y = .int j ∧ Q (g i j) H
def rU (g : Int → V) : V → Hp → VK → Prop := fun x H Q => ∃ i, x = .int i ∧ Q (g i) H
section
variable {X : Cx} {a b c : Expr} {ta tb tc : TE} {pos : Pos}
theorem binT (ha : PE X a ta) (hb : PE X b tb) {pins : List (Addr × Obj)} {s : Shared} {σ : St} {H : Hp} {R : V → V → Hp → Prop} (I : Inv X pins σ H s)
    (h : ta σ H fun x H1 => tb σ H1 fun y H2 => R x y H2) {Q : Value → Shared → Prop} {f : Value → Value → Sem Value}
    (hf : ∀ v u s2 x y H2, Inv X pins σ H2 s2 → RelV x v → RelV y u → R x y H2 → wpAny (model X.prog X.w) X.A (f v u) Q X.xe s2) :
    wpAny (model X.prog X.w) X.A (eval a X.env) (fun v s₁ => wpAny (model X.prog X.w) X.A (eval b X.env) (fun u s₂ => wpAny (model X.prog X.w) X.A (f v u) Q X.xe s₂) X.xe s₁) X.xe s := by
  refine thn (ha pins s σ H _ I h) fun v s1 ⟨x, H1, I1, r1, q1⟩ => ?_
  refine thn (hb pins s1 σ H1 _ I1 q1) fun u s2 ⟨y, H2, I2, r2, q2⟩ => ?_
  exact hf v u s2 x y H2 I2 r1 r2 q2
theorem pe_op {op : Operator} {r : R2} (ho : OpR X (binaryOp op) r) (ha : PE X a ta) (hb : PE X b tb) : PE X (.BinOp a op b pos) (tOp r ta tb) := by
  intro pins s σ H Q I h
  exact wpAny_BinOp (binT ha hb I h fun v u s2 x y H2 I2 rx ry q => ho pins s2 σ H2 x y v u Q I2 rx ry q)
theorem opI {f : Value → Value → Sem Value} {C : Int → Int → Prop} {g : Int → Int → Int}
    (rule : ∀ (i j : Int) (t u : Tok) (s : Shared) (Q : Value → Shared → Prop) (E : Value → Shared → Prop), C i j → Q (.int (g i j) s.toks) { s with toks := s.toks + 1 } → wpAny (model X.prog X.w) X.A (f (.int i t) (.int j u)) Q E s) :
    OpR X f (rI C fun i j => .int (g i j)) := by
  intro pins s σ H x y v u Q I rx ry h
  obtain ⟨i, j, rfl, rfl, hc, q⟩ := h
  obtain ⟨t, rfl⟩ := rx
  obtain ⟨t', rfl⟩ := ry
  exact rule i j t t' s _ _ hc ⟨.int (g i j), H, I.tok _, ⟨_, rfl⟩, q⟩
theorem opI0 {f : Value → Value → Sem Value} {g : Int → Int → Int}
    (rule : ∀ (i j : Int) (t u : Tok) (s : Shared) (Q : Value → Shared → Prop) (E : Value → Shared → Prop), Q (.int (g i j) s.toks) { s with toks := s.toks + 1 } → wpAny (model X.prog X.w) X.A (f (.int i t) (.int j u)) Q E s) :
    OpR X f (rI0 fun i j => .int (g i j)) := by
  intro pins s σ H x y v u Q I rx ry h
  obtain ⟨i, j, rfl, rfl, q⟩ := h
  obtain ⟨t, rfl⟩ := rx
  obtain ⟨t', rfl⟩ := ry
  exact rule i j t t' s _ _ ⟨.int (g i j), H, I.tok _, ⟨_, rfl⟩, q⟩
theorem opB0 {f : Value → Value → Sem Value} {g : Int → Int → Bool}
    (rule : ∀ (i j : Int) (t u : Tok) (s : Shared) (Q : Value → Shared → Prop) (E : Value → Shared → Prop), Q (.bool (g i j)) s → wpAny (model X.prog X.w) X.A (f (.int i t) (.int j u)) Q E s) :
    OpR X f (rI0 fun i j => .bl (g i j)) := by
  intro pins s σ H x y v u Q I rx ry h
  obtain ⟨i, j, rfl, rfl, q⟩ := h
  obtain ⟨t, rfl⟩ := rx
  obtain ⟨t', rfl⟩ := ry
  exact rule i j t t' s _ _ ⟨.bl (g i j), H, I, rfl, q⟩
def CDiv (i j : Int) : Prop := 0 < j ∧ j < 1073741824
def CDivN (i j : Int) : Prop := j ≠ 0 ∧ j.natAbs < 1073741824
def CPow (i j : Int) : Prop := 0 ≤ j ∧ j ≤ 1000000 ∧ i.natAbs < 2 ^ 64
def CMul (i j : Int) : Prop := (-(2 ^ 64) < i ∧ i < 2 ^ 64) ∨ (-(2 ^ 64) < j ∧ j < 2 ^ 64)
theorem CMul.ok {i j : Int} (h : CMul i j) : IntMulOk i j := by
  rcases h with ⟨h1, h2⟩ | ⟨h1, h2⟩
  · exact .of_left (intBits_le_64 h1 h2)
  · exact .of_right (intBits_le_64 h1 h2)
theorem op_add : OpR X (binaryOp .Add) (rI0 fun i j => .int (i + j)) := opI0 fun _ _ _ _ _ _ _ q => add_int q
theorem op_sub : OpR X (binaryOp .Sub) (rI0 fun i j => .int (i - j)) := opI0 fun _ _ _ _ _ _ _ q => sub_int q
theorem op_mul : OpR X (binaryOp .Mult) (rI CMul fun i j => .int (i * j)) := opI fun _ _ _ _ _ _ _ hc q => mul_int q hc.ok
theorem op_mod : OpR X (binaryOp .Mod) (rI (fun _ j => 0 < j) fun i j => .int (i % j)) := opI fun i j _ _ _ _ _ hc q => by
  have h1 : (0 : Int) < j := hc
  exact mod_int' (by omega) (by rw [Int.fmod_eq_emod_of_nonneg i (by omega)]; exact q)
theorem op_pow : OpR X (binaryOp .Pow) (rI CPow fun i j => .int (i ^ j.toNat)) := opI fun _ _ _ _ _ _ _ hc q => pow_int_small hc.1 hc.2.1 hc.2.2 q
end
def scal : V → V → Bool
  | .non, .non => true | .non, .int _ => true | .int _, .non => true | .non, .bl _ => true | .bl _, .non => true | .non, .str _ => true | .str _, .non => true
  | .int _, .int _ => true | .bl _, .bl _ => true | .str _, .str _ => true | .byt _, .byt _ => true
  | .int _, .str _ => true | .str _, .int _ => true | .bl _, .str _ => true | .str _, .bl _ => true
  | _, _ => false
def rEq : R2 := fun x y H Q => scal x y = true ∧ Q (.bl (decide (x = y))) H
def rNe : R2 := fun x y H Q => scal x y = true ∧ Q (.bl (!decide (x = y))) H
theorem dec_int {i j : Int} : decide (V.int i = V.int j) = (i == j) := by
  rw [Bool.eq_iff_iff]
  simp
theorem dec_bl {i j : Bool} : decide (V.bl i = V.bl j) = (i == j) := by
  rw [Bool.eq_iff_iff]
  simp
theorem dec_str {i j : Str} : decide (V.str i = V.str j) = (i == j) := by
  rw [Bool.eq_iff_iff]
  simp
theorem dec_byt {i j : Array UInt8} : decide (V.byt i = V.byt j) = (i.toList == j.toList) := by
  rw [Bool.eq_iff_iff]
  cases i
  cases j
  simp
section
variable {X : Cx} {a b c : Expr} {ta tb tc : TE} {pos : Pos}
theorem fin_bl {pins : List (Addr × Obj)} {σ : St} {H : Hp} {s : Shared} {Q : VK} {k k' : Bool} (I : Inv X pins σ H s) (q : Q (.bl k) H) (e : k = k') : EP X pins σ Q (.bool k') s := by
  subst e
  exact ⟨.bl k, H, I, rfl, q⟩
theorem op_eq : OpR X (compareOp .Eq) rEq := by
  intro pins s σ H x y v u Q I rx ry h
  obtain ⟨hs, q⟩ := h
  cases x with
  | non =>
    cases rx
    cases y with
    | non => cases ry; exact PySem.EqNone.eq_none_none (fin_bl I q (by simp))
    | bl j => cases ry; exact PySem.EqNone.eq_none_bool (fin_bl I q (by simp))
    | int j => obtain ⟨t', rfl⟩ := ry; exact PySem.EqNone.eq_none_int (fin_bl I q (by simp))
    | str j => obtain ⟨t', rfl⟩ := ry; exact PySem.EqNone.eq_none_str (fin_bl I q (by simp))
    | _ => exact absurd (show false = true from hs) Bool.false_ne_true
  | bl i =>
    cases rx
    cases y with
    | non => cases ry; exact PySem.EqNone.eq_bool_none (fin_bl I q (by simp))
    | bl j => cases ry; exact eq_bool (fin_bl I q dec_bl)
    | str j => obtain ⟨t', rfl⟩ := ry; exact PySem.EqMixed.eq_bool_str (fin_bl I q (by simp))
    | _ => exact absurd (show false = true from hs) Bool.false_ne_true
  | int i =>
    obtain ⟨t, rfl⟩ := rx
    cases y with
    | non => cases ry; exact PySem.EqNone.eq_int_none (fin_bl I q (by simp))
    | int j => obtain ⟨t', rfl⟩ := ry; exact eq_int (fin_bl I q dec_int)
    | str j => obtain ⟨t', rfl⟩ := ry; exact PySem.EqMixed.eq_int_str (fin_bl I q (by simp))
    | _ => exact absurd (show false = true from hs) Bool.false_ne_true
  | str i =>
    obtain ⟨t, rfl⟩ := rx
    cases y with
    | non => cases ry; exact PySem.EqNone.eq_str_none (fin_bl I q (by simp))
    | bl j => cases ry; exact PySem.EqMixed.eq_str_bool (fin_bl I q (by simp))
    | int j => obtain ⟨t', rfl⟩ := ry; exact PySem.EqMixed.eq_str_int (fin_bl I q (by simp))
    | str j => obtain ⟨t', rfl⟩ := ry; exact eq_str (fin_bl I q dec_str)
    | _ => exact absurd (show false = true from hs) Bool.false_ne_true
  | byt i =>
    obtain ⟨t, rfl⟩ := rx
    cases y with
    | byt j => obtain ⟨t', rfl⟩ := ry; exact PySem.W.eq_bytes (fin_bl I q dec_byt)
    | _ => exact absurd (show false = true from hs) Bool.false_ne_true
  | _ => cases y <;> exact absurd (show false = true from hs) Bool.false_ne_true
theorem op_ne : OpR X (compareOp .NotEq) rNe := by
  intro pins s σ H x y v u Q I rx ry h
  obtain ⟨hs, q⟩ := h
  cases x with
  | non =>
    cases rx
    cases y with
    | non => cases ry; exact PySem.EqNone.ne_none_none (fin_bl I q (by simp))
    | bl j => cases ry; exact PySem.EqNone.ne_none_bool (fin_bl I q (by simp))
    | int j => obtain ⟨t', rfl⟩ := ry; exact PySem.EqNone.ne_none_int (fin_bl I q (by simp))
    | str j => obtain ⟨t', rfl⟩ := ry; exact PySem.EqNone.ne_none_str (fin_bl I q (by simp))
    | _ => exact absurd (show false = true from hs) Bool.false_ne_true
  | bl i =>
    cases rx
    cases y with
    | non => cases ry; exact PySem.EqNone.ne_bool_none (fin_bl I q (by simp))
    | bl j => cases ry; exact ne_bool (fin_bl I q (congrArg not dec_bl))
    | str j => obtain ⟨t', rfl⟩ := ry; exact PySem.EqMixed.ne_bool_str (fin_bl I q (by simp))
    | _ => exact absurd (show false = true from hs) Bool.false_ne_true
  | int i =>
    obtain ⟨t, rfl⟩ := rx
    cases y with
    | non => cases ry; exact PySem.EqNone.ne_int_none (fin_bl I q (by simp))
    | int j => obtain ⟨t', rfl⟩ := ry; exact ne_int (fin_bl I q (congrArg not dec_int))
    | str j => obtain ⟨t', rfl⟩ := ry; exact PySem.EqMixed.ne_int_str (fin_bl I q (by simp))
    | _ => exact absurd (show false = true from hs) Bool.false_ne_true
  | str i =>
    obtain ⟨t, rfl⟩ := rx
    cases y with
    | non => cases ry; exact PySem.EqNone.ne_str_none (fin_bl I q (by simp))
    | bl j => cases ry; exact PySem.EqMixed.ne_str_bool (fin_bl I q (by simp))
    | int j => obtain ⟨t', rfl⟩ := ry; exact PySem.EqMixed.ne_str_int (fin_bl I q (by simp))
    | str j => obtain ⟨t', rfl⟩ := ry; exact ne_str (fin_bl I q (congrArg not dec_str))
    | _ => exact absurd (show false = true from hs) Bool.false_ne_true
  | byt i =>
    obtain ⟨t, rfl⟩ := rx
    cases y with
    | byt j => obtain ⟨t', rfl⟩ := ry; exact PySem.W.ne_bytes (fin_bl I q (congrArg not dec_byt))
    | _ => exact absurd (show false = true from hs) Bool.false_ne_true
  | _ => cases y <;> exact absurd (show false = true from hs) Bool.false_ne_true
theorem op_lt : OpR X (compareOp .Lt) (rI0 fun i j => .bl (decide (i < j))) := opB0 fun _ _ _ _ _ _ _ q => lt_int q
theorem op_le : OpR X (compareOp .LtE) (rI0 fun i j => .bl (decide (i ≤ j))) := opB0 fun _ _ _ _ _ _ _ q => le_int q
theorem op_gt : OpR X (compareOp .Gt) (rI0 fun i j => .bl (decide (j < i))) := opB0 fun _ _ _ _ _ _ _ q => gt_int q
theorem op_isN : OpR X (compareOp .Is) (fun x y H Q => y = .non ∧ Q (.bl (decide (x = .non))) H) := by
  intro pins s σ H x y v u Q I rx ry h
  obtain ⟨rfl, q⟩ := h
  cases ry
  refine is_none_gen (fin_bl I q ?_)
  cases x <;> first
    | (cases rx; rfl)
    | (obtain ⟨t, rfl⟩ := rx; rfl)
theorem op_notN : OpR X (compareOp .IsNot) (fun x y H Q => y = .non ∧ Q (.bl (!decide (x = .non))) H) := by
  intro pins s σ H x y v u Q I rx ry h
  obtain ⟨rfl, q⟩ := h
  cases ry
  refine isnot_none_gen (fin_bl I q ?_)
  cases x <;> first
    | (cases rx; rfl)
    | (obtain ⟨t, rfl⟩ := rx; rfl)
def isObj : HO → Bool
  | .lst _ => true
  | .ins _ _ _ => true
  | _ => false
theorem OpR.or {f : Value → Value → Sem Value} {r r' : R2} (h : OpR X f r) (h' : OpR X f r') : OpR X f (fun x y H Q => r x y H Q ∨ r' x y H Q) := by
  intro pins s σ H x y v u Q I rx ry q
  rcases q with q | q
  · exact h pins s σ H x y v u Q I rx ry q
  · exact h' pins s σ H x y v u Q I rx ry q
theorem nomark (b : Expr) {op : CmpOp} (h : op ≠ .In := by decide) (h2 : op ≠ .NotIn := by decide) : behindInMarks op b = false := by
  have e1 : (op == CmpOp.In) = false := by cases op <;> first | rfl | exact absurd rfl h
  have e2 : (op == CmpOp.NotIn) = false := by cases op <;> first | rfl | exact absurd rfl h2
  cases b <;> simp [behindInMarks, e1, e2]
theorem pe_cmpR {op : CmpOp} {r : R2} (ho : OpR X (compareOp op) r) (ha : PE X a ta) (hb : PE X b tb) (hm : behindInMarks op b = false) : PE X (.Compare a [op] [b] pos) (tOp r ta tb) := by
  intro pins s σ H Q I h
  exact wpAny_Compare1 (binT ha hb I h fun v u s2 x y H2 I2 rx ry q => ho pins s2 σ H2 x y v u Q I2 rx ry q) hm
def tTest (t : TE) : TT := fun σ H Q => t σ H fun x H' => ∃ k, x = .bl k ∧ Q k H'
theorem pt_cmpR {op : CmpOp} {r : R2} (ho : OpR X (compareOp op) r) (ha : PE X a ta) (hb : PE X b tb) (hm : behindInMarks op b = false) : PT X (.Compare a [op] [b] pos) (tTest (tOp r ta tb)) := by
  intro pins s σ H Q I h
  refine wpAny_isTrue_Compare1 (thn (ha pins s σ H _ I h) fun v s1 ⟨x, H1, I1, r1, q1⟩ => thn (hb pins s1 σ H1 _ I1 q1) fun u s2 ⟨y, H2, I2, r2, q2⟩ =>
    thn (ho pins s2 σ H2 x y v u _ I2 r1 r2 q2) fun c s3 ⟨z, H3, I3, r3, k, e, q3⟩ => ?_) hm
  subst e
  cases r3
  exact wpAny_truthy_bool ⟨H3, I3, q3⟩
def tChain (r r' : R2) (ta tb tc : TE) : TE := fun σ H Q => ta σ H fun x H1 => tb σ H1 fun y H2 => r x y H2 fun z H3 => ∃ k, z = .bl k ∧
  (if k = true then tc σ H3 fun w' H4 => r' y w' H4 Q else Q (.bl false) H3)
theorem pe_chain {op op' : CmpOp} {r r' : R2} (ho : OpR X (compareOp op) r) (ho' : OpR X (compareOp op') r') (ha : PE X a ta) (hb : PE X b tb) (hc : PE X c tc)
    (hm : lastMarks [op, op'] [b, c] = false := by with_unfolding_all rfl) : PE X (.Compare a [op, op'] [b, c] pos) (tChain r r' ta tb tc) := by
  intro pins s σ H Q I h
  refine Compare_chain (thn (ha pins s σ H _ I h) fun v s1 ⟨x, H1, I1, r1, q1⟩ => chain_link (thn (hb pins s1 σ H1 _ I1 q1) fun u s2 ⟨y, H2, I2, r2, q2⟩ =>
    thn (ho pins s2 σ H2 x y v u _ I2 r1 r2 q2) fun d s3 ⟨z, H3, I3, r3, k, e, q3⟩ => ?_)) hm
  subst e
  cases r3
  refine wpAny_truthy_bool ?_
  cases k with
  | false => exact ite_ff ⟨.bl false, H3, I3, rfl, q3⟩
  | true => exact ite_tt (chain_last (thn (hc pins s3 σ H3 _ I3 q3) fun w' s4 ⟨z', H4, I4, r4, q4⟩ => ho' pins s4 σ H4 y z' u w' Q I4 r2 r4 q4))
def TruV (K : PySem.W.Frag) (x : V) (H : Hp) (k : Bool) : Prop :=
  match x with
  | .non => k = false
  | .bl b => k = b
  | .int i => k = (i != 0)
  | .str y => y.length ≤ sizeLine ∧ k = ((y.length : Int) != 0)
  | .byt y => y.size ≤ sizeLine ∧ k = ((y.size : Int) != 0)
  | .ref p => (∃ xs, SqL K H p xs ∧ k = !xs.isEmpty) ∨ (∃ xs, SqT K H p xs ∧ k = !xs.isEmpty) ∨ ∃ kvs, H p = some (.dK kvs) ∧ k = !kvs.isEmpty
  | _ => False
theorem isEmpty_kv {κ : Type} {kvs : List (κ × V)} {vs : List (κ × Value)} (r : KV kvs vs) : (!vs.isEmpty) = !kvs.isEmpty := by
  cases r <;> rfl
theorem isEmpty_of {xs : List V} {its : List Value} (r : Vals xs its) : (!its.toArray.isEmpty) = !xs.isEmpty := by
  cases r <;> simp
theorem line63 : (sizeLine : Nat) < 2 ^ 63 := by rw [sizeLine_eq]; decide
theorem tru_ok : TruR X (fun x H Q => ∃ k, TruV X.K x H k ∧ Q k H) := by
  intro pins s σ H x v Q I rx h
  obtain ⟨k, e, q⟩ := h
  have hl := line63
  have hs : sizeLine = 16777216 := sizeLine_eq
  cases x with
  | non =>
    cases rx
    have e' : k = false := e
    subst e'
    exact truthy_none ⟨H, I, q⟩
  | bl b =>
    cases rx
    have e' : k = b := e
    subst e'
    exact wpAny_truthy_bool ⟨H, I, q⟩
  | int i =>
    obtain ⟨t, rfl⟩ := rx
    have e' : k = (i != 0) := e
    subst e'
    exact PySem.P.truthy_int ⟨H, I, q⟩
  | str y =>
    obtain ⟨t, rfl⟩ := rx
    obtain ⟨hy, e'⟩ : y.length ≤ sizeLine ∧ k = ((y.length : Int) != 0) := e
    subst e'
    exact PySem.P.truthy_str (by omega) ⟨H, I.tok _, q⟩
  | byt y =>
    obtain ⟨t, rfl⟩ := rx
    obtain ⟨hy, e'⟩ : y.size ≤ sizeLine ∧ k = ((y.size : Int) != 0) := e
    subst e'
    exact PySem.W.truthy_bytes (by omega) ⟨H, I.tok _, q⟩
  | ref p =>
    cases rx
    have e' : (∃ xs, SqL X.K H p xs ∧ k = !xs.isEmpty) ∨ (∃ xs, SqT X.K H p xs ∧ k = !xs.isEmpty) ∨ ∃ kvs, H p = some (.dK kvs) ∧ k = !kvs.isEmpty := e
    rcases e' with ⟨xs, hx, e'⟩ | ⟨xs, hx, e'⟩ | ⟨kvs, hx, e'⟩
    · subst e'
      obtain ⟨its, r, pl, hz⟩ := I.list hx
      have hlen := r.length
      exact wpAny_truthy_list pl.isList (by simp only [List.size_toArray]; omega) ⟨H, I.tok _, by rw [isEmpty_of r]; exact q⟩
    · subst e'
      obtain ⟨its, r, pl, hz⟩ := I.tuple hx
      have hlen := r.length
      exact truthy_tuple pl (by simp only [List.size_toArray]; omega) ⟨H, I.tok _, by rw [isEmpty_of r]; exact q⟩
    · subst e'
      obtain ⟨hz, hS, vs, r, m⟩ : kvs.length ≤ sizeLine ∧ (p == sysModules) = false ∧ ∃ vs, KV kvs vs ∧ s.heap.DictOf (mixKind X.prog X.w) p vs := I.hok p _ hx
      have hlen : kvs.length = vs.length := Paired.length r
      exact wpAny_truthy_dict hS m (by omega) ⟨H, I.tok _, by rw [isEmpty_kv r]; exact q⟩
  | _ => exact (show False from e).elim
theorem pt_truth (ha : PE X a ta) (he : ∀ whole, isTrue a X.env whole = (do let v ← whole; standAt a.pos; holding [v] (truthy v))) :
    PT X a (fun σ H Q => ta σ H fun x H' => ∃ k, TruV X.K x H' k ∧ Q k H') := by
  intro pins s σ H Q I h
  exact isTrue_plain (thn (ha pins s σ H _ I h) fun v s1 ⟨x, H1, I1, r1, q1⟩ => tru_ok pins s1 σ H1 x v Q I1 r1 q1) (he _)
theorem op_add_str : OpR X (binaryOp .Add) (fun x y H Q => ∃ i j, x = .str i ∧ y = .str j ∧ i.length + j.length ≤ sizeLine ∧ Q (.str (i ++ j)) H) := by
  intro pins s σ H x y v u Q I rx ry h
  obtain ⟨i, j, rfl, rfl, hz, q⟩ := h
  obtain ⟨t, rfl⟩ := rx
  obtain ⟨t', rfl⟩ := ry
  exact add_str (fun t' tk => ⟨.str (i ++ j), H, I.tok _, ⟨_, rfl⟩, q⟩) hz
def PlainIxT (b : Expr) : Prop := ∀ o i, subscripted b false o i = operate [o, i] (getItem o i)
theorem vals1 {x : V} {us : List Value} (r : Vals [x] us) : ∃ u, us = [u] ∧ RelV x u := by
  cases r with
  | cons r1 r2 => cases r2; exact ⟨_, rfl, r1⟩
theorem vals2 {x y : V} {us : List Value} (r : Vals [x, y] us) : ∃ u w', us = [u, w'] ∧ RelV x u ∧ RelV y w' := by
  cases r with
  | cons r1 r2 =>
    cases r2 with
    | cons r3 r4 => cases r4; exact ⟨_, _, rfl, r1, r3⟩
def LenV (K : PySem.W.Frag) (x : V) (H : Hp) (n : Nat) : Prop :=
  match x with
  | .str y => y.length ≤ sizeLine ∧ n = y.length
  | .byt y => y.size ≤ sizeLine ∧ n = y.size
  | .ref p => (∃ xs, SqL K H p xs ∧ n = xs.length) ∨ ∃ xs, SqT K H p xs ∧ n = xs.length
  | _ => False
theorem call_len : CallR X (.builtin "len") (fun xs H Q => ∃ x n, xs = [x] ∧ LenV X.K x H n ∧ Q (.int n) H) := by
  intro pins s σ H xs us Q I r h
  obtain ⟨x, n, rfl, e, q⟩ := h
  obtain ⟨u, rfl, rx⟩ := vals1 r
  have hl := line63
  have hs : sizeLine = 16777216 := sizeLine_eq
  cases x with
  | str y =>
    obtain ⟨t, rfl⟩ := rx
    obtain ⟨hy, e'⟩ : y.length ≤ sizeLine ∧ n = y.length := e
    subst e'
    exact len_str (by omega) ⟨.int _, H, I.tok _, ⟨_, rfl⟩, q⟩
  | byt y =>
    obtain ⟨t, rfl⟩ := rx
    obtain ⟨hy, e'⟩ : y.size ≤ sizeLine ∧ n = y.size := e
    subst e'
    exact PySem.W.len_bytes (by omega) ⟨.int _, H, I.tok _, ⟨_, rfl⟩, q⟩
  | ref p =>
    cases rx
    have e' : (∃ xs, SqL X.K H p xs ∧ n = xs.length) ∨ ∃ xs, SqT X.K H p xs ∧ n = xs.length := e
    rcases e' with ⟨xs, hx, e'⟩ | ⟨xs, hx, e'⟩
    · subst e'
      obtain ⟨its, r', pl, hz⟩ := I.list hx
      have hlen := r'.length
      exact Calls.call_len_list pl.isList (by simp only [List.size_toArray]; omega) ⟨.int xs.length, H, I.tok _, ⟨_, by simp only [List.size_toArray]; rw [hlen]⟩, q⟩
    · subst e'
      obtain ⟨its, r', pl, hz⟩ := I.tuple hx
      have hlen := r'.length
      exact len_tuple pl (by simp only [List.size_toArray]; omega) ⟨.int xs.length, H, I.tok _, ⟨_, by simp only [List.size_toArray]; rw [hlen]⟩, q⟩
  | _ => exact (show False from e).elim
end
end L2
namespace L2
open PySem PySem.Spec PyProof.Rows
structure ObjM (h : Heap) (x dx C : Addr) (mA : Str → Option Value) : Prop where
  obj : h.get? x = some (PySem.W.instObj C dx)
  ns : h.Ns1 dx mA
  ne : dx ≠ x
theorem lookIn_ns {h : Heap} {dx : Addr} {mA : Str → Option Value} (n : h.Ns1 dx mA) : ∃ od, h.get? dx = some od ∧ ∀ name, PySem.W.lookIn name od = some (mA name) := by
  obtain ⟨o, es, ep, ho, hd, hk, _, hm⟩ := n
  refine ⟨o, ho, fun name => ?_⟩
  have e := hm name
  unfold nsFind findBy at e
  rw [← Array.find?_toList] at e
  unfold PySem.W.lookIn
  rw [hd]
  dsimp only
  split
  · rename_i y q
    rw [q] at e
    exact congrArg some e
  · rename_i q
    rw [q] at e
    have a : es.toList.any (·.refKey) = false := by
      rw [List.any_eq_false]
      intro y hy
      obtain ⟨z, t, hkey⟩ := hk y (Array.mem_toList_iff.mp hy)
      simp [DictEntry.refKey, hkey]
    have a' : ¬ es.toList.any (·.refKey) = true := by rw [a]; exact Bool.false_ne_true
    rw [if_neg a']
    exact congrArg some e
theorem ObjM.look {h : Heap} {x dx C : Addr} {mA : Str → Option Value} (I : ObjM h x dx C mA) : ∃ od, PySem.W.InstAt h x (PySem.W.instObj C dx) C (some od) ∧ ∀ name, PySem.W.lookIn name od = some (mA name) :=
  let ⟨od, ho, hl⟩ := lookIn_ns I.ns
  ⟨od, ⟨I.obj, rfl, rfl, ho⟩, hl⟩
section
variable {prog : Program} {w : World} {A : Around} {E : Value → Shared → Prop} {s : Shared} {K : PySem.W.Frag} {x dx C f : Addr} {mA : Str → Option Value} {name : Str} {v : Value}
theorem get_map {expr : Bool} {Q : Value → Shared → Prop} (X : K.In s.heap) (I : ObjM s.heap x dx C mA) (hg : PySem.W.plainGet K C name = true) (hh : PySem.W.hasDictIn K C = true)
    (ha : PySem.W.findIn K (.ref C) name = some none) (hv : mA name = some v) (hv' : PySem.W.handedIn v = true) (h : Q v { s with toks := s.toks + 1 }) :
    wpAny (model prog w) A (getAttr (.ref x) name expr) Q E s := by
  obtain ⟨od, J, hl⟩ := I.look
  exact PySem.W.get_value X J (PySem.W.plainGet_of hg).1 (PySem.W.findObj_own hh ha rfl (by rw [hl, hv])) hv' h
theorem get_meth {pl : Sem Bool} {Q : Value × List Value → Shared → Prop} (X : K.In s.heap) (I : ObjM s.heap x dx C mA) (hg : PySem.W.plainGet K C name = true)
    (hf : PySem.W.findIn K (.ref C) name = some (some (.ref f))) (ht : PySem.W.isFn K (.ref f) = true) (hv : mA name = none) (h : Q (.ref f, [.ref x]) s) :
    wpAny (model prog w) A (getMethod (.ref x) name pl) Q E s := by
  obtain ⟨od, J, hl⟩ := I.look
  exact PySem.W.method_fn X J (PySem.W.plainGet_of hg).1 (PySem.W.plainGet_of hg).2 hf (beq_iff_eq.mp ht) (by show (PySem.W.lookIn name od).map (·.isSome) = some false; rw [hl, hv]; rfl) h
theorem set_map {ns : List Str} {Q : Unit → Shared → Prop} (X : K.In s.heap) (I : ObjM s.heap x dx C mA)
    (hs : PySem.W.findIn K (.ref C) "__setattr__" = some (some (.builtin "object.__setattr__"))) (hp : PySem.W.plainOver K C = true) (ht : PySem.W.takerIn K C name = some none) (hh : PySem.W.hasDictIn K C = true)
    (hw : PySem.Within mA ns) (hsz : ns.length ≤ sizeLine)
    (h : ∀ h', ObjM h' x dx C (fun y => if y = name then some v else mA y) → Heap.SameBut dx s.heap h' → Q () { s with heap := h', toks := s.toks + 2 }) :
    wpAny (model prog w) A (setAttr (.ref x) name v) Q E s := by
  obtain ⟨od, J, hl⟩ := I.look
  refine PySem.W.set_plain X J hs (PySem.W.osa_open (s := { s with toks := s.toks + 1 }) (r := none) X J hp ht fun b => ?_)
  obtain ⟨cd, hc, hd'⟩ := PySem.W.any_some hh
  have hx : s.heap.get? x = some ⟨.ref C, some dx, .plain, #[]⟩ := I.obj
  refine wpAny_bind (wpAny_pure (wpAny_bind (wpAny_bind (wpAny_loadPart hx (wpAny_bind (PySem.W.Looks.here (s := { s with toks := s.toks + 1 }) (PySem.W.looks_clsIn X hc) ?_))))))
  rw [hd']
  refine wpAny_pure (a := some dx) (wpAny_bind (wpAny_pure (wpAny_bind ?_)))
  refine wpAny_nsSet1 (s := { s with toks := s.toks + 1 }) I.ns fun h' hn2 hs2 => ?_
  obtain ⟨oD, esD, epD, hoD, hdD, hcD⟩ := hn2.count (PySem.Within.cons name v hw)
  refine wpAny_bind (wpAny_lookBehind hoD (by rw [hdD]; exact pastItsLine_dict (Nat.le_trans hcD (by rw [List.length_cons]; omega))) ?_)
  exact wpAny_pure (h _ ⟨(hs2.2 _ (Ne.symm I.ne)).trans I.obj, hn2, I.ne⟩ hs2)
theorem make_map {R : Result → Shared → Prop} {vs : List Value} {kw : List (Str × Value)} (X : K.In s.heap) (hm : PySem.W.makesIn K C = true)
    (hi : PySem.W.findIn K (.ref C) "__init__" = some (some (.ref f))) (hf : PySem.W.typeIn K (.ref f) = some (.type "function"))
    (h : codeAny (model prog w) (A.under (.builtin "type.__call__" ⟨.ref C :: vs, kw⟩)) (.call (.ref f) ⟨.ref (s.heap.objs.size + 1) :: vs, kw⟩) (PySem.W.InitBack (s.heap.objs.size + 1) R)
      { s with heap := (s.heap.push PySem.W.emptyDict).push (PySem.W.instObj C s.heap.objs.size) }) :
    codeAny (model prog w) A (.call (.ref C) ⟨vs, kw⟩) R s := by
  obtain ⟨hh, g, d, t, os⟩ := s
  exact PySem.W.make_core (PySem.W.makes_of X hm) (PySem.W.looks_findIn X hi) (fun self => PySem.W.bind_fn X self hf) (.inl rfl) h
end
def putF (f : Str) (v : V) : List (Str × V) → List (Str × V)
  | [] => [(f, v)]
  | (g, x) :: r => if g = f then (g, v) :: r else (g, x) :: putF f v r
theorem lookup_putF (f g : Str) (v : V) : ∀ fs : List (Str × V), (putF f v fs).lookup g = if g = f then some v else fs.lookup g
  | [] => by
    show List.lookup g [(f, v)] = _
    by_cases h : g = f
    · have hb : (g == f) = true := beq_iff_eq.mpr h
      simp only [List.lookup, hb, if_pos h]
    · have hb : (g == f) = false := beq_eq_false_iff_ne.mpr h
      simp only [List.lookup, hb, if_neg h]
  | (k, x) :: r => by
    have ih := lookup_putF f g v r
    rw [show putF f v ((k, x) :: r) = (if k = f then (k, v) :: r else (k, x) :: putF f v r) from rfl]
    by_cases hk : k = f
    · rw [if_pos hk]
      by_cases h : g = k
      · have hb : (g == k) = true := beq_iff_eq.mpr h
        simp only [List.lookup, hb, if_pos (h.trans hk)]
      · have hb : (g == k) = false := beq_eq_false_iff_ne.mpr h
        simp only [List.lookup, hb, if_neg (fun e : g = f => h (e.trans hk.symm))]
    · rw [if_neg hk]
      by_cases h : g = k
      · have hb : (g == k) = true := beq_iff_eq.mpr h
        simp only [List.lookup, hb, if_neg (fun e : g = f => hk (h.symm.trans e))]
      · have hb : (g == k) = false := beq_eq_false_iff_ne.mpr h
        simp only [List.lookup, hb]
        exact ih
theorem keys_putF (f : Str) (v : V) : ∀ fs : List (Str × V), f ∈ (putF f v fs).map (·.1) ∧ ∀ g, g ∈ fs.map (·.1) → g ∈ (putF f v fs).map (·.1)
  | [] => ⟨by simp [putF], fun g h => by simp at h⟩
  | (k, x) :: r => by
    obtain ⟨i1, i2⟩ := keys_putF f v r
    rw [show putF f v ((k, x) :: r) = (if k = f then (k, v) :: r else (k, x) :: putF f v r) from rfl]
    by_cases hk : k = f
    · rw [if_pos hk]
      subst hk
      exact ⟨by simp, fun g h => by simpa using h⟩
    · rw [if_neg hk]
      refine ⟨?_, fun g h => ?_⟩
      · rw [List.map_cons]
        exact List.mem_cons_of_mem _ i1
      · rw [List.map_cons] at h ⊢
        rcases List.mem_cons.mp h with e | e
        · exact List.mem_cons.mpr (.inl e)
        · exact List.mem_cons_of_mem _ (i2 g e)
theorem length_putF (f : Str) (v : V) : ∀ fs : List (Str × V), (putF f v fs).length ≤ fs.length + 1
  | [] => by simp [putF]
  | (k, x) :: r => by
    have ih := length_putF f v r
    rw [show putF f v ((k, x) :: r) = (if k = f then (k, v) :: r else (k, x) :: putF f v r) from rfl]
    by_cases hk : k = f
    · rw [if_pos hk, List.length_cons, List.length_cons]; omega
    · rw [if_neg hk, List.length_cons, List.length_cons]; omega
theorem RelO.some_of {v : V} {o : Option Value} (r : RelO (some v) o) : ∃ u, o = some u ∧ RelV v u := by
  cases o with
  | none => exact (show False from r).elim
  | some u => exact ⟨u, rfl, r⟩
theorem RelO.none_of {o : Option Value} (r : RelO none o) : o = none := by
  cases o with
  | none => rfl
  | some u => exact (show False from r).elim
theorem handed_of {v : V} {u : Value} (r : RelV v u) : PySem.W.handedIn u = true := by
  cases v with
  | non => cases (show u = Value.none from r); rfl
  | bl b => cases (show u = Value.bool b from r); rfl
  | int i => obtain ⟨t, e⟩ := (show ∃ t, u = Value.int i t from r); cases e; rfl
  | str x => obtain ⟨t, e⟩ := (show ∃ t, u = Value.str x t from r); cases e; rfl
  | byt b => obtain ⟨t, e⟩ := (show ∃ t, u = Value.bytes b t from r); cases e; rfl
  | flt b => obtain ⟨t, e⟩ := (show ∃ t, u = Value.float b t from r); cases e; rfl
  | ref a => cases (show u = Value.ref a from r); rfl
  | ty n => cases (show u = Value.type n from r); rfl
section
variable {P : Program} {w : World} {H H' : Hp} {h h' : Heap} {a C dx : Addr} {fs fs' : List (Str × V)}
theorem ins_get (hok : HOk P w H h) (e : H a = some (.ins C dx fs)) : ∃ mA, ObjM h a dx C mA ∧ (∀ f, RelO (fs.lookup f) (mA f)) ∧ PySem.Within mA (fs.map (·.1)) ∧ fs.length ≤ 1000 ∧ H dx = some (.own a) := by
  obtain ⟨d, z, ne, ob, mA, n, r, q⟩ := (show ObjOk P w H h a (.ins C dx fs) from hok a _ e)
  exact ⟨mA, ⟨ob, n, ne⟩, r, q, z, d⟩
end
structure Cls (K : PySem.W.Frag) (C : Addr) : Prop where
  pg : PySem.W.plainGet K C Str.empty = true
  hd : PySem.W.hasDictIn K C = true
  po : PySem.W.plainOver K C = true
  sa : PySem.W.findIn K (.ref C) "__setattr__" = some (some (.builtin "object.__setattr__"))
theorem Cls.get {K : PySem.W.Frag} {C : Addr} (c : Cls K C) (f : Str) : PySem.W.plainGet K C f = true := c.pg
def NoAttr (K : PySem.W.Frag) (C : Addr) (f : Str) : Prop := PySem.W.findIn K (.ref C) f = some none
theorem NoAttr.taker {K : PySem.W.Frag} {C : Addr} {f : Str} (n : NoAttr K C f) : PySem.W.takerIn K C f = some none := by
  unfold PySem.W.takerIn
  rw [show PySem.W.findIn K (.ref C) f = some none from n]
  rfl
structure Con (K : PySem.W.Frag) (C : Addr) (f : Str) (v : V) (u : Value) : Prop where
  at_ : PySem.W.findIn K (.ref C) f = some (some u)
  rel : RelV v u
  get : PySem.W.specialIn K u "__get__" = some none
  cp : PySem.W.copiedNames.contains f = false
structure Meth (K : PySem.W.Frag) (C : Addr) (m : Str) (f : Addr) : Prop where
  at_ : PySem.W.findIn K (.ref C) m = some (some (.ref f))
  fn : PySem.W.isFn K (.ref f) = true
  kp : PySem.W.keepIn K (.ref f) = true
section
variable {X : Cx} {pins : List (Addr × Obj)} {σ : St} {H : Hp} {s : Shared} {a C dx : Addr} {fs : List (Str × V)} {f : Str} {v : V} {A : Around} {E : Value → Shared → Prop}
theorem getattr_ok {b : Bool} {Q : Value → Shared → Prop} (I : Inv X pins σ H s) (e : H a = some (.ins C dx fs)) (c : Cls X.K C) (n : NoAttr X.K C f) (l : fs.lookup f = some v)
    (h : ∀ u s', Inv X pins σ H s' → RelV v u → Q u s') : wpAny (model X.prog X.w) A (getAttr (.ref a) f b) Q E s := by
  obtain ⟨mA, O, r, _, _, _⟩ := ins_get I.hok e
  obtain ⟨u, hu, ru⟩ := RelO.some_of (v := v) (o := mA f) (by rw [← l]; exact r f)
  exact get_map I.kIn O (c.get f) c.hd n hu (handed_of ru) (h u _ (I.tok _) ru)
theorem getmeth_ok {m : Str} {g : Addr} {pl : Sem Bool} {Q : Value × List Value → Shared → Prop} (I : Inv X pins σ H s) (e : H a = some (.ins C dx fs)) (c : Cls X.K C) (k : Meth X.K C m g) (l : fs.lookup m = none)
    (h : Q (.ref g, [.ref a]) s) : wpAny (model X.prog X.w) A (getMethod (.ref a) m pl) Q E s := by
  obtain ⟨mA, O, r, _, _, _⟩ := ins_get I.hok e
  have hn : mA m = none := RelO.none_of (by rw [← l]; exact r m)
  exact get_meth I.kIn O (c.get m) k.at_ k.fn hn h
theorem setattr_ok {y : V} {u : Value} {Q : Unit → Shared → Prop} (I : Inv X pins σ H s) (e : H a = some (.ins C dx fs)) (c : Cls X.K C) (n : NoAttr X.K C f) (hl : fs.length < 1000) (ry : RelV y u)
    (h : ∀ s', Inv X pins σ (upd H a (.ins C dx (putF f y fs))) s' → Q () s') : wpAny (model X.prog X.w) A (setAttr (.ref a) f u) Q E s := by
  obtain ⟨mA, O, r, wi, _, ho⟩ := ins_get I.hok e
  have hz : (fs.map (·.1)).length ≤ sizeLine := by rw [List.length_map, sizeLine_eq]; omega
  refine set_map I.kIn O c.sa c.po n.taker c.hd wi hz fun h' O' sb => h _ ?_
  have hd : ∃ o, h'.get? dx = some o := let ⟨o, _, _, e', _⟩ := O'.ns; ⟨o, e'⟩
  refine I.write (x := a) (e := dx) (by rw [e]; exact True.intro) (.inr ho) (fun b q hb z => (sb.2 b hb).trans z) hd ?_
  refine ⟨by rw [upd_ne O.ne]; exact ho, ?_, O.ne, O'.obj, _, O'.ns, fun g => ?_, fun g hg => ?_⟩
  · have := length_putF f y fs; omega
  · show RelO ((putF f y fs).lookup g) (if g = f then some u else mA g)
    rw [lookup_putF]
    by_cases q : g = f
    · rw [if_pos q, if_pos q]; exact ry
    · rw [if_neg q, if_neg q]; exact r g
  · by_cases q : g = f
    · rw [q]; exact (keys_putF f y fs).1
    · refine (keys_putF f y fs).2 g (wi g fun z => hg ?_)
      show (if g = f then some u else mA g) = none
      rw [if_neg q]; exact z
theorem Inv.made (I : Inv X pins σ H s) : Inv X pins σ (upd (upd H s.heap.objs.size (.own (s.heap.objs.size + 1))) (s.heap.objs.size + 1) (.ins C s.heap.objs.size []))
    { s with heap := (s.heap.push PySem.W.emptyDict).push (PySem.W.instObj C s.heap.objs.size) } := by
  have e1 : (s.heap.push PySem.W.emptyDict).get? s.heap.objs.size = some PySem.W.emptyDict := Heap.get?_push_size s.heap rfl
  have e2 : ((s.heap.push PySem.W.emptyDict).push (PySem.W.instObj C s.heap.objs.size)).get? (s.heap.objs.size + 1) = some (PySem.W.instObj C s.heap.objs.size) := by
    have := Heap.get?_push_size (s.heap.push PySem.W.emptyDict) (o := PySem.W.instObj C s.heap.objs.size) rfl
    rwa [Heap.size_push] at this
  have e3 : (s.heap.push PySem.W.emptyDict).Ns s.heap.objs.size (fun _ => none) := ⟨PySem.W.emptyDict, #[], _, e1, rfl, (fun e he => absurd he (by simp)), fun _ => rfl⟩
  have I1 := I.laid (a := s.heap.objs.size) (o := .own (s.heap.objs.size + 1)) (h' := s.heap.push PySem.W.emptyDict) (t' := s.toks) (fun b u q => Heap.get?_push_of_some _ q) (Nat.le_refl _) ⟨_, e1⟩
  refine I1.laid (a := s.heap.objs.size + 1) (o := .ins C s.heap.objs.size []) (t' := s.toks) (fun b u q => Heap.get?_push_of_some _ q) (Nat.le_of_eq (Heap.size_push _ _)) ?_
  have ne : s.heap.objs.size ≠ s.heap.objs.size + 1 := Nat.ne_of_lt (Nat.lt_succ_self _)
  refine ⟨by rw [upd_ne ne, upd_same], Nat.zero_le _, ne, e2, fun _ => none, (Heap.Ns1.of_empty e3).at fun o q => Heap.get?_push_of_some _ q, fun _ => True.intro, fun y hy => absurd rfl hy⟩
theorem attr_of {prog : Program} {w : World} {env : Env} {e : Expr} {f : Str} {pos : Pos} {s : Shared} {Q : Value → Shared → Prop} (hb : attributeBase e f env (eval e env) = eval e env)
    (h : wpAny (model prog w) A (eval e env) (fun o s₁ => wpAny (model prog w) A (getAttr o f true) Q E s₁) E s) : wpAny (model prog w) A (eval (.Attribute e f pos) env) Q E s :=
  Attribute_any_ h (by rw [arm_eval_Attribute, hb])
end
def tFld (K : PySem.W.Frag) (ta : TE) (f : Str) : TE := fun σ H Q => ta σ H fun x H1 => ∃ a C dx fs v, x = .ref a ∧ H1 a = some (.ins C dx fs) ∧ Cls K C ∧ NoAttr K C f ∧ fs.lookup f = some v ∧ Q v H1
def tCon (K : PySem.W.Frag) (ta : TE) (f : Str) : TE := fun σ H Q => ta σ H fun x H1 => ∃ a C dx fs v u, x = .ref a ∧ H1 a = some (.ins C dx fs) ∧ Cls K C ∧ Con K C f v u ∧ fs.lookup f = none ∧ Q v H1
def sFld (K : PySem.W.Frag) (ta tv : TE) (f : Str) : TS := fun D σ H => tv σ H fun y H1 => ta σ H1 fun x H2 => ∃ a C dx fs, x = .ref a ∧ H2 a = some (.ins C dx fs) ∧ Cls K C ∧ NoAttr K C f ∧ fs.length < 1000 ∧
  D.nx σ (upd H2 a (.ins C dx (putF f y fs)))
def InOp (X : Cx) (op : Operator) (rd : V → V → Hp → VK → Prop) : Prop :=
  ∀ (pins : List (Addr × Obj)) (s : Shared) (σ : St) (H : Hp) (x y : V) (u v : Value) (Q : VK), Inv X pins σ H s → RelV x u → RelV y v → rd x y H Q → wpAny (model X.prog X.w) X.A (inplaceOp op u v) (EP X pins σ Q) X.xe s
def sFldAug (K : PySem.W.Frag) (ta tv : TE) (rd : V → V → Hp → VK → Prop) (f : Str) : TS := fun D σ H => ta σ H fun x H1 => ∃ a C dx fs v, x = .ref a ∧ H1 a = some (.ins C dx fs) ∧ Cls K C ∧ NoAttr K C f ∧ fs.lookup f = some v ∧
  tv σ H1 fun y H2 => rd v y H2 fun z H3 => ∃ dx' fs', H3 a = some (.ins C dx' fs') ∧ fs'.length < 1000 ∧ D.nx σ (upd H3 a (.ins C dx' (putF f z fs')))
section
variable {X : Cx} {o e value : Expr} {f : Str} {pos pos' tpos : Pos} {ta tv : TE}
theorem pe_fld (he : PE X e ta) (hb : attributeBase e f X.env (eval e X.env) = eval e X.env) : PE X (.Attribute e f pos) (tFld X.K ta f) := by
  intro pins s σ H Q I h
  refine attr_of hb (thn (he pins s σ H _ I h) fun u s1 ⟨x, H1, I1, rx, a, C, dx, fs, v, ex, ea, c, n, l, q⟩ => ?_)
  subst ex
  obtain rfl : u = Value.ref a := rx
  exact getattr_ok I1 ea c n l fun u' s2 I2 ru => ⟨v, H1, I2, ru, q⟩
theorem ps_fld (ha : PE X o ta) (hv : PE X value tv) (hs : swapsWith value (some (.Attribute o f pos')) pos.line X.env = pure false) : PS X (.Assign [.Attribute o f pos'] value pos) (sFld X.K ta tv f) := by
  intro pins s σ H D I h
  refine plainObj_wpAny_Assign_Attribute (thn (hv pins s σ H _ I h) fun u s1 ⟨y, H1, I1, ry, q⟩ => thn (ha pins s1 σ H1 _ I1 q) fun ov s2 ⟨x, H2, I2, rx, a, C, dx, fs, ex, ea, c, n, l, q2⟩ => ?_) hs
  subst ex
  obtain rfl : ov = Value.ref a := rx
  exact setattr_ok I2 ea c n l ry fun s3 I3 => ⟨σ, _, I3, q2⟩
theorem ps_fldaug {op : Operator} {rd : V → V → Hp → VK → Prop} (ha : PE X o ta) (hv : PE X value tv) (hop : InOp X op rd) : PS X (.AugAssign (.Attribute o f tpos) op value pos) (sFldAug X.K ta tv rd f) := by
  intro pins s σ H D I h
  refine wpAny_AugAssign_AttributeAny (thn (ha pins s σ H _ I h) fun ov s1 ⟨x, H1, I1, rx, a, C, dx, fs, v, ex, ea, c, n, l, q⟩ => ?_)
  subst ex
  obtain rfl : ov = Value.ref a := rx
  refine getattr_ok I1 ea c n l fun u s2 I2 ru => thn (hv pins s2 σ H1 _ I2 q) fun w3 s3 ⟨y, H2, I3, ry, q3⟩ => thn (hop pins s3 σ H2 v y u w3 _ I3 ru ry q3) fun w4 s4 ⟨z, H3, I4, rz, dx', fs', ea', l', q4⟩ => ?_
  exact setattr_ok I4 ea' c n l' rz fun s5 I5 => ⟨σ, _, I5, q4⟩
def rAdd : V → V → Hp → VK → Prop := fun x y H Q => ∃ i j, x = .int i ∧ y = .int j ∧ Q (.int (i + j)) H
def rSub : V → V → Hp → VK → Prop := fun x y H Q => ∃ i j, x = .int i ∧ y = .int j ∧ Q (.int (i - j)) H
theorem in_add : InOp X .Add rAdd := by
  rintro pins s σ H x y u v Q I rx ry ⟨i, j, rfl, rfl, q⟩
  obtain ⟨t, rfl⟩ := (show ∃ t, u = Value.int i t from rx)
  obtain ⟨t', rfl⟩ := (show ∃ t', v = Value.int j t' from ry)
  exact PyProof.Rows.iadd_int ⟨.int (i + j), H, I.tok _, ⟨_, rfl⟩, q⟩
end
section
variable {X : Cx} {pins : List (Addr × Obj)} {σ : St} {H : Hp} {s : Shared} {A : Around} {E : Value → Shared → Prop} {Q : Value → Shared → Prop} {c : Value} {b : Bool}
inductive TyOf (K : PySem.W.Frag) (H : Hp) : V → Value → Prop where
  | non : TyOf K H .non (.type "NoneType")
  | bl (x : Bool) : TyOf K H (.bl x) (.type "bool")
  | int (i : Int) : TyOf K H (.int i) (.type "int")
  | str (x : Str) : TyOf K H (.str x) (.type "str")
  | flt (x : UInt64) : TyOf K H (.flt x) (.type "float")
  | lst {a : Addr} {xs : List V} (e : H a = some (.lst xs)) : TyOf K H (.ref a) (.type "list")
  | frz {a : Addr} {o : Obj} {xs : List V} (e : H a = some (.frz o (.lst xs))) : TyOf K H (.ref a) (.type "list")
  | tup {a : Addr} {xs : List V} (e : H a = some (.tup xs)) : TyOf K H (.ref a) (.type "tuple")
  | dK {a : Addr} {kvs : List (Key × V)} (e : H a = some (.dK kvs)) : TyOf K H (.ref a) (.type "dict")
  | dT {a : Addr} {kvs : List (List Key × V)} (e : H a = some (.dT kvs)) : TyOf K H (.ref a) (.type "dict")
  | ins {a C dx : Addr} {fs : List (Str × V)} (e : H a = some (.ins C dx fs)) (cl : Cls K C) (ha : PySem.W.findIn K (.ref C) "__class__" = some (some (.builtin "object.__class__")))
      (hn : PySem.W.specialIn K (.builtin "object.__class__") "__get__" = some (some (.builtin "getset_descriptor.__get__"))) (htk : PySem.W.takesIn K (.builtin "object.__class__") = some true)
      (hm : PySem.W.mroIn K C (.type "object") = some true) : TyOf K H (.ref a) (.ref C)
theorem isinst_ok {x : V} {u t : Value} (I : Inv X pins σ H s) (rx : RelV x u) (ty : TyOf X.K H x t) (e : PySem.W.kitOne X.K t c = some b) (h : ∀ tk, Q (.bool b) { s with toks := tk }) :
    wpAny (model X.prog X.w) A (call (.builtin "isinstance") [u, c]) Q E s := by
  cases ty with
  | non => cases (show u = Value.none from rx); exact PySem.W.kia_one PySem.W.kitx_none I.kIn True.intro e (fun z => nomatch z) h
  | bl y => cases (show u = Value.bool y from rx); exact PySem.W.kia_one PySem.W.kitx_bool I.kIn True.intro e (fun z => nomatch z) h
  | int i => obtain ⟨t, q⟩ := (show ∃ t, u = Value.int i t from rx); cases q; exact PySem.W.kia_one PySem.W.kitx_int I.kIn True.intro e (fun z => nomatch z) h
  | str y => obtain ⟨t, q⟩ := (show ∃ t, u = Value.str y t from rx); cases q; exact PySem.W.kia_one PySem.W.kitx_str I.kIn True.intro e (fun z => nomatch z) h
  | flt y => obtain ⟨t, q⟩ := (show ∃ t, u = Value.float y t from rx); cases q; exact PySem.W.kia_one PySem.W.kitx_float I.kIn True.intro e (fun z => nomatch z) h
  | @lst a xs ea =>
    cases (show u = Value.ref a from rx)
    obtain ⟨_, _, n, _, h1⟩ := (show ObjOk X.prog X.w H s.heap a (.lst xs) from I.hok a _ ea)
    exact PySem.W.kia_one PySem.W.kitx_list I.kIn ⟨_, h1, rfl⟩ e (fun z => nomatch z) h
  | @frz a ob xs ea =>
    cases (show u = Value.ref a from rx)
    obtain ⟨_, _, _, n, _, h1⟩ := (show ObjOk X.prog X.w H s.heap a (.frz ob (.lst xs)) from I.hok a _ ea)
    exact PySem.W.kia_one PySem.W.kitx_list I.kIn ⟨_, h1, rfl⟩ e (fun z => nomatch z) h
  | @tup a xs ea =>
    cases (show u = Value.ref a from rx)
    obtain ⟨_, _, _, p⟩ := (show ObjOk X.prog X.w H s.heap a (.tup xs) from I.hok a _ ea)
    obtain ⟨o, h1, h2, _⟩ := p
    exact PySem.W.kia_one PySem.W.kitx_tuple I.kIn ⟨o, h1, h2⟩ e (fun z => nomatch z) h
  | @dK a kvs ea =>
    cases (show u = Value.ref a from rx)
    obtain ⟨_, _, vs, _, p⟩ := (show ObjOk X.prog X.w H s.heap a (.dK kvs) from I.hok a _ ea)
    obtain ⟨o, es, ep, h1, h2, _⟩ := p
    exact PySem.W.kia_one PySem.W.kitx_dict I.kIn ⟨o, h1, h2.1⟩ e (fun z => nomatch z) h
  | @dT a kvs ea =>
    cases (show u = Value.ref a from rx)
    obtain ⟨_, _, xs, _, o, es, ep, h1, h2, _⟩ := (show ObjOk X.prog X.w H s.heap a (.dT kvs) from I.hok a _ ea)
    exact PySem.W.kia_one PySem.W.kitx_dict I.kIn ⟨o, h1, h2.1⟩ e (fun z => nomatch z) h
  | @ins a C dx fs ea cl ha hn htk hm =>
    cases (show u = Value.ref a from rx)
    obtain ⟨mA, O, _⟩ := ins_get I.hok ea
    obtain ⟨od, J, _⟩ := O.look
    exact PySem.W.kia_one (PySem.W.kitx_own (cl.get _) cl.hd ha hn htk hm) I.kIn J e (fun z => nomatch z) h
end
end L2
namespace L2
open PySem PySem.Spec PyProof.Rows
structure Room (k : Nat) (A : Around) : Prop where
  hd : A.handled = none
  dp : A.depth + 3 * k + 5 < recursionLimit
  un : A.units + 16 * k + 200 < cLine
theorem Room.mono {j k : Nat} {A : Around} (r : Room k A) (h : j ≤ k) : Room j A := ⟨r.hd, by have := r.dp; omega, by have := r.un; omega⟩
theorem Room.deeper {k : Nat} {A : Around} (r : Room (k + 1) A) (env : Env) : Room k (A.deeper env) :=
  ⟨r.hd, by have := r.dp; show A.depth + 1 + 3 * k + 5 < _; omega, by have := r.un; show A.units + 3 + 16 * k + 200 < _; omega⟩
theorem make_depth {A : Around} {C : Addr} {us : List Value} {kw : List (Str × Value)} : (A.under (.builtin "type.__call__" ⟨.ref C :: us, kw⟩)).depth = A.depth + 1 := by
  first | rfl | simp [Around.under, Code.weight, Code.isCreation, Code.isGuard, Code.isCaller, Code.frames, Code.isFrame, guardIds]
theorem make_units {A : Around} {C : Addr} {us : List Value} {kw : List (Str × Value)} : (A.under (.builtin "type.__call__" ⟨.ref C :: us, kw⟩)).units = A.units + 1 := by
  first | rfl | simp [Around.under, Code.cUnits, Code.frames, Code.isFrame]
theorem Room.make {k : Nat} {A : Around} (r : Room (k + 1) A) (C : Addr) (us : List Value) (kw : List (Str × Value)) : Room k (A.under (.builtin "type.__call__" ⟨.ref C :: us, kw⟩)) :=
  ⟨r.hd, by have := r.dp; rw [make_depth]; omega, by have := r.un; rw [make_units]; omega⟩
theorem Room.depth {k : Nat} {A : Around} (r : Room k A) : A.depth < recursionLimit := by have := r.dp; omega
theorem Room.units {k : Nat} {A : Around} (r : Room k A) : A.units + 64 < cLine := by have := r.un; omega
def tNil : TA := fun _ H Q => Q [] H
def tCons (ta : TE) (tr : TA) : TA := fun σ H Q => ta σ H fun x H1 => tr σ H1 fun xs H2 => Q (x :: xs) H2
section
variable {X : Cx} {e : Expr} {es : List Expr} {te : TE} {t : TA} {pos : Pos}
theorem pa_nil : PA X [] tNil := fun _ _ _ _ H Q I h => Calls.spliced_nil ⟨[], H, I, .nil, h⟩
theorem pa_cons (ha : PE X e te) (hr : PA X es t) (hs : starEach (e :: es) X.env = (false, eval e X.env) :: starEach es X.env := by rfl) : PA X (e :: es) (tCons te t) := by
  intro pos pins s σ H Q I h
  rw [hs]
  show wpAny _ _ (spliced ((false, eval e X.env) :: backTo pos (starEach es X.env))) _ _ s
  refine Calls.spliced_cons (thn (ha pins s σ H _ I h) fun u s1 ⟨x, H1, I1, r1, q1⟩ => ?_)
  exact thn (hr pos pins s1 σ H1 _ I1 q1) fun us s2 ⟨xs, H2, I2, r2, q2⟩ => ⟨x :: xs, H2, I2, .cons r1 r2, q2⟩
def tTup (t : TA) : TE := fun σ H Q => t σ H fun xs H1 => xs.length ≤ sizeLine ∧ ∀ p, H1 p = none → Q (.ref p) (upd H1 p (.tup xs))
def tLst (t : TA) : TE := fun σ H Q => t σ H fun xs H1 => xs.length ≤ sizeLine ∧ ∀ p, H1 p = none → Q (.ref p) (upd H1 p (.lst xs))
theorem pe_tup {x1} (h : PA X es t) : PE X (.Tuple es x1 pos) (tTup t) := by
  intro pins s σ H Q I hq
  refine wpAny_Tuple_spliced (thn (h pos pins s σ H _ I hq) fun us s1 ⟨xs, H1, I1, r, z, q⟩ => ⟨by rw [← r.length]; exact z, ?_⟩)
  have hf : H1 s1.heap.objs.size = none := I1.hok.fresh (Nat.le_refl _)
  refine ⟨.ref s1.heap.objs.size, upd H1 s1.heap.objs.size (.tup xs), I1.laid (t' := s1.toks) (fun b u e => Heap.get?_push_of_some _ e) (Nat.le_refl _) ?_, rfl, q _ hf⟩
  exact ⟨z, us, r, ⟨_, Heap.get?_push_size _ rfl, rfl, _, rfl⟩⟩
theorem pe_lst (h : PA X es t) : PE X (.List es pos) (tLst t) := by
  intro pins s σ H Q I hq
  refine wpAny_List_spliced (thn (h pos pins s σ H _ I hq) fun us s1 ⟨xs, H1, I1, r, z, q⟩ => ⟨by rw [← r.length]; exact z, ?_⟩)
  have hf : H1 s1.heap.objs.size = none := I1.hok.fresh (Nat.le_refl _)
  refine ⟨.ref s1.heap.objs.size, upd H1 s1.heap.objs.size (.lst xs), I1.laid (t' := s1.toks) (fun b u e => Heap.get?_push_of_some _ e) (Nat.le_refl _) ?_, rfl, q _ hf⟩
  exact ⟨z, us, 0, r, Heap.get?_push_size _ rfl⟩
end
abbrev Sp := List V → Hp → VK → XK → Prop
abbrev CXT := List Env → Hp → Shared → XK → Value → Shared → Prop
structure Env0 (P : Program) (w : World) (K : PySem.W.Frag) (mg : Str → Option Value) (base : Heap) (A : Around) (outer : List Env) (s : Shared) (H : Hp) : Prop where
  frames : A.frames = some outer
  mod : Mod K mg base
  bs : ∀ b o, base.get? b = some o → s.heap.get? b = some o ∧ H b = none
  bsz : base.objs.size ≤ s.heap.objs.size
  funs : s.heap.FunFrames base outer
  frf : ∀ b ∈ frs outer, H b = none
  hok : HOk P w H s.heap
  bare : AllBare s.gens
def CE (outer : List Env) (P : Program) (w : World) (H : Hp) (s : Shared) (Q : VK) (u : Value) (s' : Shared) : Prop :=
  ∃ v H', s'.os = s.os ∧ AllBare s'.gens ∧ Un (frs outer) [] H H' s.heap s'.heap ∧ HOk P w H' s'.heap ∧ RelV v u ∧ Q v H'
def CR (CX : CXT) (outer : List Env) (P : Program) (w : World) (H : Hp) (s : Shared) (Q : VK) (E : XK) (r : Result) (s' : Shared) : Prop :=
  match r with
  | .ok (.ret u) => CE outer P w H s Q u s'
  | .ok _ => False
  | .error e => CX outer H s E e s'
structure FnOk (P : Program) (w : World) (K : PySem.W.Frag) (mg : Str → Option Value) (base : Heap) (CX : CXT) (k : Nat) (f : Addr) (fd : FuncData) (ps : List Str) (sp : Sp) : Prop where
  len : ∀ vs H Q E, sp vs H Q E → vs.length = ps.length
  run : ∀ (A : Around) (outer : List Env) (s : Shared) (H : Hp) (args : Args) (us : List Value) (vs : List V) (Q : VK) (E : XK), Room k A → Env0 P w K mg base A outer s H → BindsTo s fd args (ps.zip us) → Vals vs us → sp vs H Q E →
    codeAny (model P w) A (.call (.ref f) args) (CR CX outer P w H s Q E) s
theorem Env0.make {P : Program} {w : World} {K : PySem.W.Frag} {mg : Str → Option Value} {base : Heap} {A : Around} {outer : List Env} {s : Shared} {H : Hp} (e : Env0 P w K mg base A outer s H) (C : Addr) (us : List Value) (kw : List (Str × Value)) :
    Env0 P w K mg base (A.under (.builtin "type.__call__" ⟨.ref C :: us, kw⟩)) outer s H := ⟨by first | exact e.frames | (simpa [Around.under, Code.envs, Code.isFrame, pushEnvs] using e.frames), e.mod, e.bs, e.bsz, e.funs, e.frf, e.hok, e.bare⟩
section
variable {X : Cx} {pins : List (Addr × Obj)} {σ : St} {H : Hp} {s s' : Shared}
theorem Inv.env0 (I : Inv X pins σ H s) : Env0 X.prog X.w X.K X.mg X.base X.A X.stack s H :=
  ⟨I.ok.frames, I.ok.mod, I.bs, Nat.le_trans I.ok.bsz I.sz, I.stack, I.stkFree, I.hok, I.bare⟩
theorem Inv.after {Q : VK} {u : Value} (I : Inv X pins σ H s) (h : CE X.stack X.prog X.w H s Q u s') : EP X pins σ Q u s' := by
  obtain ⟨v, H', os, bare, un, hok, r, q⟩ := h
  obtain ⟨hh, g, d, t, os'⟩ := s'
  obtain rfl : os' = s.os := os
  exact ⟨v, H', I.call (h' := hh) (g' := g) (d' := d) (t' := t) (ch := []) un hok bare (fun b z => absurd z (by simp)), r, q⟩
end
def tCall (sp : Sp) (dvs : List V) (E : XK) (t : TA) : TE := fun σ H Q => t σ H fun vs H1 => sp (vs ++ dvs) H1 Q E
def tMeth (C : Addr) (m : Str) (sp : Sp) (dvs : List V) (E : XK) (ta : TE) (t : TA) : TE := fun σ H Q => ta σ H fun x H1 => ∃ a dx fs, x = .ref a ∧ H1 a = some (.ins C dx fs) ∧ fs.lookup m = none ∧
  t σ H1 fun vs H2 => sp (x :: (vs ++ dvs)) H2 Q E
def tMake (C : Addr) (sp : Sp) (dvs : List V) (E : XK) (t : TA) : TE := fun σ H Q => t σ H fun vs H1 => ∀ x dx, H1 x = none → H1 dx = none → dx ≠ x →
  sp (.ref x :: (vs ++ dvs)) (upd (upd H1 dx (.own x)) x (.ins C dx [])) (fun v H2 => v = .non ∧ Q (.ref x) H2) E
def Binds (K : PySem.W.Frag) (fd : FuncData) (ps : List Str) (ds : List Value) : Prop :=
  ∀ (s : Shared) (us : List Value), K.In s.heap → (us ++ ds).length = ps.length → BindsTo s fd ⟨us, []⟩ (ps.zip (us ++ ds))
theorem Binds.all {K : PySem.W.Frag} {fd : FuncData} {ps : List Str} (h : ∀ us : List Value, us.length = ps.length → bindArgs fd ⟨us, []⟩ = pure (ps.zip us)) : Binds K fd ps [] := fun s us _ hl => by
  rw [List.append_nil] at hl ⊢
  exact .of_eq (h us hl)
def Passes (CX : CXT) (X : Cx) (E : XK) : Prop := ∀ (pins : List (Addr × Obj)) (σ : St) (H : Hp) (s : Shared) (e : Value) (s' : Shared), Inv X pins σ H s → CX X.stack H s E e s' → X.xe e s'
section
variable {X : Cx} {CX : CXT} {k : Nat} {f C : Addr} {fd : FuncData} {ps : List Str} {sp : Sp} {dvs : List V} {ds : List Value} {E : XK} {x m : Str} {p pos apos : Pos} {e o : Expr} {es : List Expr} {ta : TE} {t : TA}
theorem run_fn {pins : List (Addr × Obj)} {σ : St} {H : Hp} {s : Shared} {Q : VK} {us : List Value} {vs : List V} (F : FnOk X.prog X.w X.K X.mg X.base CX k f fd ps sp) (hr : Room k X.A) (hb : Binds X.K fd ps ds) (hd : Vals dvs ds) (hx : Passes CX X E)
    (I : Inv X pins σ H s) (r : Vals vs us) (h : sp (vs ++ dvs) H Q E) : wpAny (model X.prog X.w) X.A (call (.ref f) us) (EP X pins σ Q) X.xe s := by
  have r2 : Vals (vs ++ dvs) (us ++ ds) := r.append hd
  have hl : (us ++ ds).length = ps.length := by rw [← r2.length]; exact F.len _ _ _ _ h
  refine wpAny_call (codeAny_mono (F.run X.A X.stack s H ⟨us, []⟩ (us ++ ds) (vs ++ dvs) Q E hr I.env0 (hb s us I.kIn hl) r2 h) fun r s' hq => ?_)
  cases r with
  | error e => exact hx pins σ H s e s' I hq
  | ok fl =>
    cases fl with
    | ret u => exact I.after hq
    | next => exact False.elim hq
    | brk => exact False.elim hq
    | cont => exact False.elim hq
theorem pe_call (F : FnOk X.prog X.w X.K X.mg X.base CX k f fd ps sp) (hr : Room k X.A) (hg : Gl X x) (hm : X.mg x = some (.ref f)) (hk : PySem.W.keepIn X.K (.ref f) = true) (hb : Binds X.K fd ps ds) (hd : Vals dvs ds) (hx : Passes CX X E)
    (ha : PA X (e :: es) t) (hdb : (x == ("__debug__" : Str)) = false := by decide) (he : starEach (e :: es) X.env = (false, eval e X.env) :: starEach es X.env := by rfl) (hpl : (backTo pos (starEach es X.env)).any (·.1) = false := by rfl) :
    PE X (.Call (.Name x p) (e :: es) [] pos) (tCall sp dvs E t) := by
  intro pins s σ H Q I h
  refine wpAny_Call_Name_kw (ld_glob I hg hm ?_ hdb)
  refine PySem.W.callWith_K (h₀ := X.base) I.ok.mod.kin hk (thn (ha pos pins s σ H _ I h) fun us s1 ⟨vs, H1, I1, r, q⟩ => ⟨I1.kIn, ?_⟩) he hpl
  exact run_fn F hr hb hd hx I1 r q
theorem pe_meth {pl : Sem Bool} (he : PE X o ta) (c : Cls X.K C) (hm : Meth X.K C m f) (F : FnOk X.prog X.w X.K X.mg X.base CX k f fd ps sp) (hr : Room k X.A) (hb : Binds X.K fd ps ds) (hd : Vals dvs ds) (hx : Passes CX X E) (ha : PA X (e :: es) t)
    (hst : starEach (e :: es) X.env = (false, eval e X.env) :: starEach es X.env := by rfl) (hpl : (backTo pos (starEach es X.env)).any (·.1) = false := by rfl)
    (ht : eval (.Call (.Attribute o m apos) (e :: es) [] pos) X.env = (do
      let ov ← eval o X.env
      standAt apos.atName
      let (f, first) ← holding [ov] (getMethod ov m pl)
      callWith pos f first (backTo pos (starEach (e :: es) X.env)) (backToKw pos (keywordEach [] X.env))) := by rfl) :
    PE X (.Call (.Attribute o m apos) (e :: es) [] pos) (tMeth C m sp dvs E ta t) := by
  intro pins s σ H Q I h
  refine PySem.W.methodCall_KW (pl := pl) (thn (he pins s σ H _ I h) fun u s1 ⟨x, H1, I1, rx, a, dx, fs, ex, ea, l, q⟩ => ?_) ht
  subst ex
  obtain rfl : u = Value.ref a := rx
  refine getmeth_ok I1 ea c hm l ?_
  refine PySem.W.callWith_K (first := [.ref a]) (h₀ := X.base) I.ok.mod.kin hm.kp (thn (ha pos pins s1 σ H1 _ I1 q) fun us s2 ⟨vs, H2, I2, r, q2⟩ => ⟨I2.kIn, ?_⟩) hst hpl
  exact run_fn (us := .ref a :: us) (vs := .ref a :: vs) F hr hb hd hx I2 (.cons rfl r) q2
structure Mk (K : PySem.W.Frag) (C f : Addr) : Prop where
  makes : PySem.W.makesIn K C = true
  init : PySem.W.findIn K (.ref C) "__init__" = some (some (.ref f))
  fn : PySem.W.isFn K (.ref f) = true
  kp : PySem.W.keepIn K (.ref C) = true
theorem run_make {pins : List (Addr × Obj)} {σ : St} {H : Hp} {s : Shared} {Q : VK} {us : List Value} {vs : List V} (M : Mk X.K C f) (F : FnOk X.prog X.w X.K X.mg X.base CX k f fd ps sp) (hr : Room (k + 1) X.A) (hb : Binds X.K fd ps ds) (hd : Vals dvs ds)
    (hx : Passes CX X E) (I : Inv X pins σ H s) (r : Vals vs us)
    (h : ∀ x dx, H x = none → H dx = none → dx ≠ x → sp (.ref x :: (vs ++ dvs)) (upd (upd H dx (.own x)) x (.ins C dx [])) (fun v H2 => v = .non ∧ Q (.ref x) H2) E) :
    wpAny (model X.prog X.w) X.A (call (.ref C) us) (EP X pins σ Q) X.xe s := by
  have hq := h (s.heap.objs.size + 1) s.heap.objs.size (I.hok.fresh (Nat.le_succ _)) (I.hok.fresh (Nat.le_refl _)) (Nat.ne_of_lt (Nat.lt_succ_self _))
  have I2 := Inv.made (C := C) I
  have r2 : Vals (V.ref (s.heap.objs.size + 1) :: (vs ++ dvs)) (Value.ref (s.heap.objs.size + 1) :: (us ++ ds)) := .cons rfl (r.append hd)
  have hl : (Value.ref (s.heap.objs.size + 1) :: us ++ ds).length = ps.length := by
    have e := r2.length
    rw [F.len _ _ _ _ hq] at e
    exact e.symm
  refine wpAny_call (make_map (f := f) I.kIn M.makes M.init (beq_iff_eq.mp M.fn) (codeAny_mono (F.run _ X.stack _ _ ⟨Value.ref (s.heap.objs.size + 1) :: us, []⟩ (Value.ref (s.heap.objs.size + 1) :: (us ++ ds)) _ _ E (hr.make C us [])
    (I2.env0.make C us []) (hb _ (Value.ref (s.heap.objs.size + 1) :: us) I2.kIn hl) r2 hq) fun r s' hq' => ?_))
  cases r with
  | error e => exact hx pins σ _ _ e s' I2 hq'
  | ok fl =>
    cases fl with
    | ret u =>
      obtain ⟨v, H', I3, rv, ev, q3⟩ := I2.after hq'
      subst ev
      exact ⟨rv, ⟨V.ref (s.heap.objs.size + 1), H', I3, rfl, q3⟩⟩
    | next => exact False.elim hq'
    | brk => exact False.elim hq'
    | cont => exact False.elim hq'
theorem pe_make (M : Mk X.K C f) (F : FnOk X.prog X.w X.K X.mg X.base CX k f fd ps sp) (hr : Room (k + 1) X.A) (hg : Gl X x) (hm : X.mg x = some (.ref C)) (hb : Binds X.K fd ps ds) (hd : Vals dvs ds) (hx : Passes CX X E)
    (ha : PA X (e :: es) t) (hdb : (x == ("__debug__" : Str)) = false := by decide) (he : starEach (e :: es) X.env = (false, eval e X.env) :: starEach es X.env := by rfl) (hpl : (backTo pos (starEach es X.env)).any (·.1) = false := by rfl) :
    PE X (.Call (.Name x p) (e :: es) [] pos) (tMake C sp dvs E t) := by
  intro pins s σ H Q I h
  refine wpAny_Call_Name_kw (ld_glob I hg hm ?_ hdb)
  refine PySem.W.callWith_K (h₀ := X.base) I.ok.mod.kin M.kp (thn (ha pos pins s σ H _ I h) fun us s1 ⟨vs, H1, I1, r, q⟩ => ⟨I1.kIn, ?_⟩) he hpl
  exact run_make M F hr hb hd hx I1 r q
theorem pe_make0 (M : Mk X.K C f) (F : FnOk X.prog X.w X.K X.mg X.base CX k f fd ps sp) (hr : Room (k + 1) X.A) (hg : Gl X x) (hm : X.mg x = some (.ref C)) (hb : Binds X.K fd ps ds) (hd : Vals dvs ds) (hx : Passes CX X E)
    (hdb : (x == ("__debug__" : Str)) = false := by decide) : PE X (.Call (.Name x p) [] [] pos) (tMake C sp dvs E tNil) := by
  intro pins s σ H Q I h
  refine wpAny_Call_Name_kw (ld_glob I hg hm ?_ hdb)
  exact PySem.W.callWith_K0 I.kIn M.kp (run_make (us := []) M F hr hb hd hx I .nil h)
end
def PK (X : Cx) (kws : List Keyword) (t : TA) : Prop :=
  ∀ (pos : Pos) (pins : List (Addr × Obj)) (s : Shared) (σ : St) (H : Hp) (Q : List V → Hp → Prop), Inv X pins σ H s → t σ H Q → wpAny (model X.prog X.w) X.A (evalAll ((backToKw pos (keywordEach kws X.env)).map (·.2))) (AP X pins σ Q) X.xe s
section
variable {X : Cx} {CX : CXT} {k : Nat} {f C : Addr} {fd : FuncData} {ps ks : List Str} {sp : Sp} {E : XK} {x m : Str} {p pos apos kpos : Pos} {e o : Expr} {es : List Expr} {kws : List Keyword} {te ta : TE} {t tk : TA} {nm : Option Str}
structure KBinds (K : PySem.W.Frag) (fd : FuncData) (ps ks : List Str) (g : List Value → List Value → List Value) (gV : List V → List V → List V) : Prop where
  to : ∀ (s : Shared) (us ws : List Value), K.In s.heap → (g us ws).length = ps.length → BindsTo s fd ⟨us, ks.zip ws⟩ (ps.zip (g us ws))
  rel : ∀ {vs : List V} {us : List Value} {zs : List V} {ws : List Value}, Vals vs us → Vals zs ws → Vals (gV vs zs) (g us ws)
def tCallK (sp : Sp) (gV : List V → List V → List V) (E : XK) (t tk : TA) : TE := fun σ H Q => t σ H fun vs H1 => tk σ H1 fun zs H2 => sp (gV vs zs) H2 Q E
variable {g : List Value → List Value → List Value} {gV : List V → List V → List V}
end
structure FnScope (N P : List Str) (sc : Scope) : Prop where
  kind : sc.kind = .function
  co : sc.isCoroutine = false
  gen : sc.isGenerator = false
  nd : N.Nodup
  pre : N.take P.length = P
  par : ∀ x ∈ P, sc.names.lookup x = some .local ∨ sc.names.lookup x = some .cell
  nofree : ∀ y ∈ sc.names, y.2 ≠ .free
theorem bindL_out {kindOf : Str → Option NameKind} {x : Str} : ∀ {binds : List (Str × Value)} {m : Str → Option Value}, (∀ v, (x, v) ∉ binds) → bindL kindOf binds m x = m x
  | [], _, _ => rfl
  | (n, v) :: r, m, h => by
    unfold bindL
    rw [bindL_out fun w hw => h w (List.mem_cons_of_mem _ hw)]
    split
    · have : x ≠ n := by rintro rfl; exact h v List.mem_cons_self
      simp [this]
    · rfl
theorem bindC_out {kindOf : Str → Option NameKind} {x : Str} : ∀ {binds : List (Str × Value)} {m : Str → Option Value}, (∀ v, (x, v) ∉ binds) → bindC kindOf binds m x = m x
  | [], _, _ => rfl
  | (n, v) :: r, m, h => by
    unfold bindC
    rw [bindC_out fun w hw => h w (List.mem_cons_of_mem _ hw)]
    split
    · rfl
    · have : x ≠ n := by rintro rfl; exact h v List.mem_cons_self
      simp [this]
theorem bindL_get {kindOf : Str → Option NameKind} {x : Str} {v : Value} : ∀ {P : List Str} {vs : List Value} {i : Nat} {m : Str → Option Value}, P.Nodup → P[i]? = some x → vs[i]? = some v → kindOf x = some .local →
    bindL kindOf (P.zip vs) m x = some v
  | [], _, _, _, _, h, _, _ => by simp at h
  | _ :: _, [], _, _, _, _, h, _ => by simp at h
  | p :: P, w :: vs, 0, m, nd, h1, h2, hk => by
    simp at h1 h2; subst h1; subst h2
    show bindL kindOf ((p, w) :: P.zip vs) m p = _
    unfold bindL
    rw [bindL_out fun v hv => (List.nodup_cons.mp nd).1 (List.of_mem_zip hv).1, if_pos hk]
    simp
  | p :: P, w :: vs, i + 1, m, nd, h1, h2, hk => by
    show bindL kindOf ((p, w) :: P.zip vs) m x = _
    unfold bindL
    exact bindL_get (i := i) (List.nodup_cons.mp nd).2 (by simpa using h1) (by simpa using h2) hk
theorem bindC_get {kindOf : Str → Option NameKind} {x : Str} {v : Value} : ∀ {P : List Str} {vs : List Value} {i : Nat} {m : Str → Option Value}, P.Nodup → P[i]? = some x → vs[i]? = some v → kindOf x ≠ some .local →
    bindC kindOf (P.zip vs) m x = some v
  | [], _, _, _, _, h, _, _ => by simp at h
  | _ :: _, [], _, _, _, _, h, _ => by simp at h
  | p :: P, w :: vs, 0, m, nd, h1, h2, hk => by
    simp at h1 h2; subst h1; subst h2
    show bindC kindOf ((p, w) :: P.zip vs) m p = _
    unfold bindC
    rw [bindC_out fun v hv => (List.nodup_cons.mp nd).1 (List.of_mem_zip hv).1, if_neg hk]
    simp
  | p :: P, w :: vs, i + 1, m, nd, h1, h2, hk => by
    show bindC kindOf ((p, w) :: P.zip vs) m x = _
    unfold bindC
    exact bindC_get (i := i) (List.nodup_cons.mp nd).2 (by simpa using h1) (by simpa using h2) hk
def start (N : List Str) (vs : List V) : St := vs.map some ++ List.replicate (N.length - vs.length) none
def cxOf (CX : CXT) (P : Program) (w : World) (K : PySem.W.Frag) (mg : Str → Option Value) (base : Heap) (N : List Str) (qual : Str) (scope : Scope) (f : Addr) (cd : Value) (A : Around) (outer : List Env) (s : Shared) (H : Hp) (E : XK) : Cx where
  prog := P
  w := w
  K := K
  mg := mg
  base := base
  A := A.deeper (envOfC qual scope s.heap.objs.size f cd)
  N := N
  s₀ := s
  H₀ := H
  env := envOfC qual scope s.heap.objs.size f cd
  outer := outer
  stack := envOfC qual scope s.heap.objs.size f cd :: outer
  ex := []
  calm := true
  fn := fun _ => true
  pn := []
  xe := fun e s' => wpAny (model P w) (A.deeper (envOfC qual scope s.heap.objs.size f cd)) (leaving (envOfC qual scope s.heap.objs.size f cd) e) (fun _ s'' => CX outer H s E e s'') (fun e' s'' => CX outer H s E e' s'') s'
theorem cell_has {sc : Scope} {n : Nat} {x : Str} (h : sc.names.lookup x = some .cell) : ∃ c, (cellsFrom n sc.names []).lookup x = some c := by
  have q := PySem.W.cellsFrom_some sc.names n [] (.inl h)
  exact Option.isSome_iff_exists.mp q
theorem inv_start {CX : CXT} {P : Program} {w : World} {K : PySem.W.Frag} {mg : Str → Option Value} {base : Heap} {N ps : List Str} {qual : Str} {scope : Scope} {f : Addr} {cd : Value} {A : Around} {outer : List Env} {s s1 : Shared} {H : Hp} {E : XK} {us : List Value} {vs : List V}
    (S : FnScope N ps scope) (hd : A.handled = none) (e0 : Env0 P w K mg base A outer s H) (hl : vs.length = ps.length) (r : Vals vs us)
    (x : InCallC s s.heap.objs.size (bindL (envOfC qual scope s.heap.objs.size f cd).kindOf (ps.zip us) fun _ => none) (cellsFrom (s.heap.objs.size + 1) scope.names []) (bindC (envOfC qual scope s.heap.objs.size f cd).kindOf (ps.zip us) fun _ => none) s1) :
    Inv (cxOf CX P w K mg base N qual scope f cd A outer s H E) [] (start N vs) H s1 := by
  have hpl : ps.length ≤ N.length := by have := congrArg List.length S.pre; rw [List.length_take] at this; omega
  obtain ⟨h1, tk, rfl, hk⟩ := x.done
  have noA : ∀ b : Addr, b ∉ (cxOf CX P w K mg base N qual scope f cd A outer s H E).ex := fun b z => absurd (show b ∈ ([] : List Addr) from z) (by simp)
  refine ⟨⟨e0.mod, S.kind, rfl, rfl, Nat.le_refl _, fun y z c h1 h2 => ?_, fun y hy => ?_, fun y c _ h => ?_, fun _ => hd, Around.frames_deeper e0.frames, .inr ⟨rfl, rfl⟩, fun b z => absurd z (noA b), e0.bs, e0.bsz, fun b _ _ => noA b, fun b z => absurd z (noA b), e0.funs, e0.frf⟩,
    rfl, e0.bare, Un.kept hk, ⟨_, x.toInCall.ns, fun i y v h1 h2 h3 => ?_⟩, fun y c h => ⟨_, x.cell y c h⟩, e0.hok.fresh (Nat.le_refl _), fun y c h => ?_, fun p hp => absurd (show p ∈ ([] : List (Addr × Obj)) from hp) (by simp), e0.hok.kept hk, ?_⟩
  · exact name_of_addr x.apart (PySem.mem_of_lookup h1) (PySem.mem_of_lookup h2)
  · have hy : scope.names.lookup y = some .cell ∨ scope.names.lookup y = some .free := hy
    rcases hy with hy | hy
    · exact cell_has hy
    · exact absurd rfl (S.nofree _ (PySem.mem_of_lookup hy))
  · exact Nat.le_of_lt (x.above y c (PySem.mem_of_lookup h))
  · have hi : i < vs.length := by
      unfold start at h2
      by_cases hi : i < vs.length
      · exact hi
      · rw [List.getElem?_append_right (by simpa using hi)] at h2
        rw [List.getElem?_replicate] at h2
        split at h2 <;> cases h2
    have ha : vs[i]? = some v := by
      unfold start at h2
      rw [List.getElem?_append_left (by simpa using hi), List.getElem?_map] at h2
      cases e : vs[i]? with
      | none => rw [e] at h2; cases h2
      | some a => rw [e] at h2; cases h2; rfl
    obtain ⟨u, hu, rv⟩ := r.get ha
    have hp : ps[i]? = some y := by
      rw [← S.pre, List.getElem?_take_of_lt (by omega)]; exact h1
    have ndP : ps.Nodup := by rw [← S.pre]; exact S.nd.sublist (List.take_sublist _ _)
    refine ⟨u, rv, ?_⟩
    rcases S.par y (List.mem_of_getElem? hp) with k | k
    · exact .inl ⟨k, bindL_get ndP hp hu k⟩
    · obtain ⟨c, e⟩ := cell_has (n := s.heap.objs.size + 1) k
      refine .inr ⟨.inl k, c, e, ?_⟩
      have q := x.cell y c e
      rw [bindC_get ndP hp hu (by show scope.names.lookup y ≠ _; rw [k]; decide)] at q
      exact q
  · exact e0.hok.fresh (Nat.le_of_lt (x.above y c (PySem.mem_of_lookup h)))
  · unfold start
    show _ = N.length
    rw [List.length_append, List.length_map, List.length_replicate]
    omega
theorem fn_of {CX : CXT} {P : Program} {w : World} {K : PySem.W.Frag} {mg : Str → Option Value} {base : Heap} {k : Nat} {f : Addr} {name qual : Str} {params : Arguments} {body : List Stmt} {scope : Scope} {dV kV doc pm cdv ct oc : Value} {an od : Option Addr}
    {osl : Array (Option Value)} {N ps : List Str} {sp : Sp} (lk : K.lookup f = some ⟨oc, od, .func (PySem.W.fnOf name qual params body scope dV kV doc pm an cdv ct), osl⟩) (hcd : PySem.W.codeIn K cdv qual = true) (S : FnScope N ps scope)
    (len : ∀ vs H Q E, sp vs H Q E → vs.length = ps.length)
    (hbody : ∀ (A : Around) (outer : List Env) (s : Shared) (H : Hp) (vs : List V) (Q : VK) (E : XK), Room k (A.deeper (envOfC qual scope s.heap.objs.size f cdv)) → sp vs H Q E →
      ∃ t, PSs (cxOf CX P w K mg base N qual scope f cdv A outer s H E) body t ∧ t { nx := fun _ H' => Q .non H', rt := Q } (start N vs) H) :
    FnOk P w K mg base CX (k + 1) f (PySem.W.fnOf name qual params body scope dV kV doc pm an cdv ct) ps sp := by
  refine ⟨len, fun A outer s H args us vs Q E hr e0 hb r hsp => ?_⟩
  have hl := len _ _ _ _ hsp
  have KX : K.In s.heap := e0.mod.kin.keeps fun b o e => (e0.bs b o e).1
  have lim : s.heap.NoLimit := e0.mod.nolimit.keeps fun b o e => (e0.bs b o e).1
  have hkind : ∀ y ∈ ps.zip us, scope.names.lookup y.1 = some .local ∨ (scope.names.lookup y.1 = some .cell ∧ ((cellsFrom (s.heap.objs.size + 1) scope.names []).lookup y.1).isSome = true) := fun ⟨n, v⟩ hy => by
    rcases S.par n (List.of_mem_zip hy).1 with q | q
    · exact .inl q
    · exact .inr ⟨q, PySem.W.cellsFrom_some _ _ _ (.inl q)⟩
  refine codeAny_call_function hr.depth (KX _ _ lk) rfl S.co S.gen rfl (PySem.W.codeRec_of KX hcd) (hb _ _ _ _ ?_)
  refine wpAny_newFunctionEnv_cells S.kind hkind fun env he s1 x => ?_
  subst he
  refine ⟨lim.keeps x.toInCall.keep, codeAny_func ?_⟩
  obtain ⟨t, ht, hq⟩ := hbody A outer s H vs Q E (hr.deeper _) hsp
  have I : Inv (cxOf CX P w K mg base N qual scope f cdv A outer s H E) [] (start N vs) H s1 := inv_start S hr.hd e0 hl r x
  refine wpAny_mono (ht [] s1 (start N vs) H _ I hq) (fun fl s' hs => ?_) fun e s' hs => hs
  have fin : ∀ {σ' : St} {H' : Hp} {v : V} {u : Value}, Inv (cxOf CX P w K mg base N qual scope f cdv A outer s H E) [] σ' H' s' → RelV v u → Q v H' → CE outer P w H s Q u s' :=
    fun {σ' H' v u} J rv q => ⟨v, H', J.os, J.bare, J.base, J.hok, rv, q⟩
  cases fl with
  | ret u =>
    obtain ⟨v, σ', H', J, rv, q⟩ := hs
    exact fin J rv q
  | next =>
    obtain ⟨σ', H', J, q⟩ := hs
    exact fin (v := V.non) (u := Value.none) J rfl q
  | brk =>
    obtain ⟨_, _, _, q⟩ := hs
    exact False.elim q
  | cont =>
    obtain ⟨_, _, _, q⟩ := hs
    exact False.elim q
end L2
namespace L2
open PySem PySem.Spec PyProof.Rows
section
variable {X : Cx} {x : Str} {p pos : Pos} {e : Expr} {es : List Expr} {t : TA} {id T : String} {r : List V → Hp → VK → Prop}
def tCB (r : List V → Hp → VK → Prop) (t : TA) : TE := fun σ H Q => t σ H fun vs H1 => r vs H1 Q
theorem pe_callB (hc : CallR X (.builtin id) r) (hg : Gl X x) (hm : X.mg x = none) (hv : bootBuiltins x = some (.builtin id)) (ha : PA X (e :: es) t) (hn : x ≠ "__name__" := by decide) (hdb : (x == ("__debug__" : Str)) = false := by decide)
    (he : starEach (e :: es) X.env = (false, eval e X.env) :: starEach es X.env := by rfl) (hpl : (backTo pos (starEach es X.env)).any (·.1) = false := by rfl) : PE X (.Call (.Name x p) (e :: es) [] pos) (tCB r t) := by
  intro pins s σ H Q I h
  refine wpAny_Call_Name_kw (ld_blt I hg hm hv ?_ hn hdb)
  exact PyProof.Rows.callWith_builtin1 (thn (ha pos pins s σ H _ I h) fun us s1 ⟨vs, H1, I1, r1, q1⟩ => hc pins s1 σ H1 vs us Q I1 r1 q1) he hpl
theorem pe_callTy (hc : CallR X (.type T) r) (hg : Gl X x) (hm : X.mg x = none) (hv : bootBuiltins x = some (.type T)) (ha : PA X (e :: es) t) (hn : x ≠ "__name__" := by decide) (hdb : (x == ("__debug__" : Str)) = false := by decide)
    (he : starEach (e :: es) X.env = (false, eval e X.env) :: starEach es X.env := by rfl) (hpl : (backTo pos (starEach es X.env)).any (·.1) = false := by rfl) : PE X (.Call (.Name x p) (e :: es) [] pos) (tCB r t) := by
  intro pins s σ H Q I h
  refine wpAny_Call_Name_kw (ld_blt I hg hm hv ?_ hn hdb)
  exact PyProof.Rows.callWith_type1 (thn (ha pos pins s σ H _ I h) fun us s1 ⟨vs, H1, I1, r1, q1⟩ => hc pins s1 σ H1 vs us Q I1 r1 q1) he hpl
end
end L2
namespace HT
open PySem PyProof.Rows
def lexLt : List Int → List Int → Bool
  | [], [] => false
  | [], _ :: _ => true
  | _ :: _, [] => false
  | x :: xs, y :: ys => if x = y then lexLt xs ys else decide (x < y)
section
open PySem.SeqAt
open PySem.AutoSeq1 (wpAny_loadPart')
open PySem.MeetsSeq PySem.MeetsSeq2 PySem.MeetsSeq3
end
section
variable {prog : Program} {w : World} {A : Around} {E : Value → Shared → Prop} {s : Shared}
def sIx (n d : Nat) : Option Int → Nat
  | none => d
  | some v => if v < 0 then (v + (n : Int)).toNat else min v.toNat n
theorem sIx_nat (n d k : Nat) : sIx n d (some (k : Int)) = min k n := by
  show (if (k : Int) < 0 then ((k : Int) + (n : Int)).toNat else min (k : Int).toNat n) = min k n
  rw [if_neg (by omega), Int.toNat_natCast]
theorem sIx_le (n d : Nat) (hd : d ≤ n) (o : Option Int) : sIx n d o ≤ n := by
  cases o with
  | none => exact hd
  | some v =>
    show (if v < 0 then (v + (n : Int)).toNat else min v.toNat n) ≤ n
    by_cases hv : v < 0
    · rw [if_pos hv]; omega
    · rw [if_neg hv]; exact Nat.min_le_right _ _
theorem clip_eq (v : Int) (n d : Nat) : (if v < 0 then max (v + (n : Int)) 0 else min v (n : Int)) = ((sIx n d (some v) : Nat) : Int) := by
  show (if v < 0 then max (v + (n : Int)) 0 else min v (n : Int)) = (((if v < 0 then (v + (n : Int)).toNat else min v.toNat n) : Nat) : Int)
  by_cases hv : v < 0
  · simp only [if_pos hv]; omega
  · simp only [if_neg hv]; omega
theorem adjust_gen (lo hi : Option Int) (n : Nat) : Builtin.Slice.sliceAdjust lo hi 1 (n : Int) = (((sIx n 0 lo : Nat) : Int), ((sIx n n hi : Nat) : Int)) := by
  have h1 : ¬ ((1 : Int) < 0) := by omega
  unfold Builtin.Slice.sliceAdjust
  simp only [h1, if_false]
  refine Prod.ext ?_ ?_
  · cases lo with
    | none => rfl
    | some v => exact clip_eq v n 0
  · cases hi with
    | none => rfl
    | some v => exact clip_eq v n n
theorem places_gen (i j : Nat) : Builtin.Slice.slicePlaces (i : Int) (j : Int) 1 = j - i := by
  unfold Builtin.Slice.slicePlaces
  have h1 : (1 : Int) > 0 := by omega
  simp only [h1, if_true, Int.ediv_one]
  split <;> omega
theorem slicePart_ {v : Value} {o : Option Int} {Q : Option Int → Shared → Prop} (p : IsPart v o) (h : Q o s) : wpAny (model prog w) A (Builtin.Slice.slicePartIndex v) Q E s := by
  cases p with
  | none => exact slicePart_none h
  | int i t => exact slicePart_int h
theorem sliceApplied_gen {sl : Addr} {vl vu : Value} {lo hi : Option Int} {n : Nat} {Q : Int × Int × Nat → Shared → Prop} (hs : s.heap.IsSliceOf sl vl vu .none) (pl : IsPart vl lo) (pu : IsPart vu hi)
    (h : Q (((sIx n 0 lo : Nat) : Int), 1, sIx n n hi - sIx n 0 lo) s) : wpAny (model prog w) A (Builtin.Slice.sliceApplied (.ref sl) (pure (n : Int))) Q E s := by
  obtain ⟨os, hos, hcs, hds⟩ := id hs
  unfold Builtin.Slice.sliceApplied Builtin.Slice.sliceFields
  refine wpAny_bind (wpAny_bind (wpAny_field hos hds (x := vl) rfl (wpAny_bind (wpAny_field hos hds (x := vu) rfl (wpAny_bind (wpAny_field hos hds (x := .none) rfl (wpAny_pure ?_)))))))
  refine wpAny_bind (slicePart_none ?_)
  show wpAny _ _ (if ((1 : Int) == 0) = true then _ else _) _ _ s
  rw [if_neg (by decide)]
  refine wpAny_bind (slicePart_ pl (wpAny_bind (slicePart_ pu (wpAny_bind (wpAny_pure ?_)))))
  show wpAny _ _ (match Builtin.Slice.sliceAdjust lo hi 1 (n : Int) with | (lo, hi) => pure (lo, (1 : Int), Builtin.Slice.slicePlaces lo hi 1)) _ _ s
  rw [adjust_gen lo hi n]
  show wpAny _ _ (pure (((sIx n 0 lo : Nat) : Int), (1 : Int), Builtin.Slice.slicePlaces ((sIx n 0 lo : Nat) : Int) ((sIx n n hi : Nat) : Int) 1)) _ _ s
  rw [places_gen]
  exact wpAny_pure h
theorem pick_gen (xs : Array Value) (i k : Nat) : ((List.range k).filterMap fun (m : Nat) => xs[((i : Int) + (m : Int) * 1).toNat]?).toArray = ((xs.toList.drop i).take k).toArray := by
  have e : (fun (m : Nat) => xs[((i : Int) + (m : Int) * 1).toNat]?) = fun m => xs[i + m]? := by
    funext m
    have : ((i : Int) + (m : Int) * 1).toNat = i + m := by omega
    rw [this]
  rw [e]
  have := pick_run xs i k
  rw [List.filterMap_map] at this
  have e2 : ((fun x => xs[x]?) ∘ fun x => i + x) = fun m => xs[i + m]? := rfl
  rw [e2] at this
  rw [this]
theorem getItem_tuple_cut {t sl : Addr} {items : Array Value} {vl vu : Value} {lo hi : Option Int} {Q : Value → Shared → Prop} (ht : IsTup s.heap t items) (hs : s.heap.IsSliceOf sl vl vu .none) (pl : IsPart vl lo) (pu : IsPart vu hi)
    (hw : ¬ (sIx items.size 0 lo = 0 ∧ sIx items.size items.size hi = items.size))
    (h : Q (.ref s.heap.objs.size) { s with heap := s.heap.push { cls := .type "tuple", data := .seq ((items.toList.drop (sIx items.size 0 lo)).take (sIx items.size items.size hi - sIx items.size 0 lo)).toArray } })
    (hsz : items.size ≤ sizeLine) : wpAny (model prog w) A (getItem (.ref t) (.ref sl)) Q E s := by
  have htake : sizeOk (.seq ((items.toList.drop (sIx items.size 0 lo)).take (sIx items.size items.size hi - sIx items.size 0 lo)).toArray) := by
    show ((items.toList.drop (sIx items.size 0 lo)).take (sIx items.size items.size hi - sIx items.size 0 lo)).toArray.size ≤ sizeLine
    rw [List.size_toArray, List.length_take, List.length_drop, Array.length_toList]
    omega
  have hj : sIx items.size items.size hi ≤ items.size := sIx_le _ _ (Nat.le_refl _) hi
  obtain ⟨os, hos, hcs, hds⟩ := id hs
  have hTs : s.TypeIs (.ref sl) "slice" := ⟨os, hos, hcs⟩
  unfold getItem
  try with_reducible refine wpAny_holding ?_
  first | refine wpAny_bind (wpAny_pure ?_) | skip
  refine wpAny_bind (wpAny_sequenceKey ht.typeIs (by decide) ?_)
  refine wpAny_bind (wpAny_callSpecial?_slot (name := Str.ofString "__getitem__") ht.typeIs PyProof.Rows.slot_tuple_getitem
    (wpAny_call_entry PyProof.Rows.slot_tuple_getitem ht.typeIs entry_tuple_getitem ?_ (args_tuple_getitem _ _)))
  show wpAny _ _ (Builtin.Tuple.tupleItemsOf (.ref t) >>= _) _ _ s
  refine wpAny_bind (tupleItemsOf_ ht ?_)
  refine wpAny_bind (wpAny_typeOf hTs ?_)
  rw [if_pos (by decide)]
  refine wpAny_bind (sliceApplied_gen hs pl pu ?_)
  have hno : ¬ ((((sIx items.size 0 lo : Nat) : Int) == 0 && (1 : Int) == 1 && (sIx items.size items.size hi - sIx items.size 0 lo) == items.size) = true) := by
    intro q
    rw [Bool.and_eq_true, Bool.and_eq_true] at q
    have q1 : ((sIx items.size 0 lo : Nat) : Int) = 0 := eq_of_beq q.1.1
    have q2 : sIx items.size items.size hi - sIx items.size 0 lo = items.size := eq_of_beq q.2
    exact hw ⟨by omega, by omega⟩
  show wpAny _ _ (if (((sIx items.size 0 lo : Nat) : Int) == 0 && (1 : Int) == 1 && (sIx items.size items.size hi - sIx items.size 0 lo) == items.size) = true then _ else _) _ _ s
  rw [if_neg hno, pick_gen]
  first
    | exact wpAny_bind (m := Builtin.Tuple.tupleExact _) (wpAny_newObj_type (wpAny_pure ⟨_, rfl, wpAny_pure h⟩) htake)
    | exact wpAny_bind (m := Builtin.Tuple.tupleExact _) (wpAny_newObj_type (wpAny_bind (wpAny_pure (wpAny_pure ⟨_, rfl, wpAny_pure h⟩))) htake)
    | exact wpAny_bind (wpAny_bind (m := Builtin.Tuple.tupleExact _) (wpAny_newObj_type (wpAny_pure (wpAny_pure ⟨_, rfl, wpAny_pure h⟩)) htake))
    | exact wpAny_bind (wpAny_bind (m := Builtin.Tuple.tupleExact _) (wpAny_newObj_type (wpAny_pure ⟨_, rfl, wpAny_pure h⟩) htake))
end
end HT
namespace L2
open PySem PySem.Spec PyProof.Rows
abbrev TO := St → Hp → (Option Int → Hp → Prop) → Prop
def PO (X : Cx) (e : Option Expr) (t : TO) : Prop :=
  ∀ (pins : List (Addr × Obj)) (s : Shared) (σ : St) (H : Hp) (Q : Option Int → Hp → Prop), Inv X pins σ H s → t σ H Q →
    wpAny (model X.prog X.w) X.A (evalPart e X.env) (fun u s' => ∃ o H', Inv X pins σ H' s' ∧ IsPart u o ∧ Q o H') X.xe s
def tNoPart : TO := fun _ H Q => Q none H
def tPart (t : TE) : TO := fun σ H Q => t σ H fun x H1 => ∃ i, x = .int i ∧ Q (some i) H1
section
variable {X : Cx} {e : Expr} {te : TE} {lo hi : Option Expr} {tl th : TO} {pos p2 : Pos}
theorem po_none : PO X none tNoPart := by
  intro pins s σ H Q I h
  rw [evalPart_none]
  exact wpAny_pure ⟨none, H, I, .none, h⟩
theorem po_some (h : PE X e te) : PO X (some e) (tPart te) := by
  intro pins s σ H Q I hw
  rw [evalPart_some]
  refine thn (h pins s σ H _ I hw) fun u s1 ⟨x, H1, I1, r1, q1⟩ => ?_
  obtain ⟨i, rfl, q⟩ := q1
  obtain ⟨t, rfl⟩ := r1
  exact ⟨some i, H1, I1, .int i t, q⟩
def SlR (X : Cx) (r : V → Option Int → Option Int → Hp → VK → Prop) : Prop :=
  ∀ (pins : List (Addr × Obj)) (s : Shared) (σ : St) (H : Hp) (x : V) (v vl vu : Value) (lo hi : Option Int) (sl : Addr) (Q : VK), Inv X pins σ H s → RelV x v → s.heap.IsSliceOf sl vl vu .none → IsPart vl lo → IsPart vu hi → r x lo hi H Q →
    ∃ T id, typeLookup (.type T) "__getitem__" = pure (some (.builtin id)) ∧ s.TypeIs v T ∧ wpAny (model X.prog X.w) X.A (getItem v (.ref sl)) (EP X pins σ Q) X.xe s
theorem SlR.or {r r' : V → Option Int → Option Int → Hp → VK → Prop} (h : SlR X r) (h' : SlR X r') : SlR X (fun x lo hi H Q => r x lo hi H Q ∨ r' x lo hi H Q) := by
  intro pins s σ H x v vl vu lo hi sl Q I rx hs pl pu q
  rcases q with q | q
  · exact h pins s σ H x v vl vu lo hi sl Q I rx hs pl pu q
  · exact h' pins s σ H x v vl vu lo hi sl Q I rx hs pl pu q
def tSl (r : V → Option Int → Option Int → Hp → VK → Prop) (te : TE) (tl th : TO) : TE := fun σ H Q => te σ H fun x H1 => tl σ H1 fun l H2 => th σ H2 fun u H3 => r x l u H3 Q
theorem pe_slice {r : V → Option Int → Option Int → Hp → VK → Prop} (hr : SlR X r) (he : PE X e te) (hl : PO X lo tl) (hu : PO X hi th) : PE X (.Subscript e (.Slice lo hi none p2) pos) (tSl r te tl th) := by
  intro pins s σ H Q I h
  refine Subscript_ (thn (he pins s σ H _ I h) fun v s1 ⟨x, H1, I1, r1, q1⟩ => ?_)
  refine wpAny_Slice (thn (hl pins s1 σ H1 _ I1 q1) fun vl s2 ⟨l, H2, I2, pl, q2⟩ => thn (hu pins s2 σ H2 _ I2 q2) fun vu s3 ⟨u, H3, I3, pu, q3⟩ => ?_)
  rw [evalPart_none]
  refine wpAny_pure ?_
  have I4 : Inv X pins σ H3 { s3 with heap := s3.heap.push { cls := .type "slice", data := .fields #[vl, vu, .none] } } := I3.kept (t' := s3.toks) fun b ob q => Heap.get?_push_of_some _ q
  obtain ⟨T, id, hT, ht, hg⟩ := hr pins { s3 with heap := s3.heap.push { cls := .type "slice", data := .fields #[vl, vu, .none] } } σ H3 x v vl vu l u s3.heap.objs.size Q I4 r1 (Heap.IsSliceOf.new ..) pl pu q3
  show wpAny (model X.prog X.w) X.A (subscriptTail e (.Slice lo hi none p2) v (.ref s3.heap.objs.size)) (EP X pins σ Q) X.xe { s3 with heap := s3.heap.push { cls := .type "slice", data := .fields #[vl, vu, .none] } }
  exact tail_any (ops := [.ref s3.heap.objs.size, v]) ht hT hg (by with_unfolding_all rfl)
def cutV (xs : List V) (lo hi : Option Int) : List V := (xs.drop (HT.sIx xs.length 0 lo)).take (HT.sIx xs.length xs.length hi - HT.sIx xs.length 0 lo)
theorem cutV_length (xs : List V) (lo hi : Option Int) : (cutV xs lo hi).length ≤ xs.length := by
  unfold cutV
  rw [List.length_take, List.length_drop]
  omega
def rSlT (K : PySem.W.Frag) : V → Option Int → Option Int → Hp → VK → Prop := fun x lo hi H Q => ∃ a xs, x = .ref a ∧ SqT K H a xs ∧
  ¬ (HT.sIx xs.length 0 lo = 0 ∧ HT.sIx xs.length xs.length hi = xs.length) ∧ ∀ p, H p = none → Q (.ref p) (upd H p (.tup (cutV xs lo hi)))
theorem sl_tup : SlR X (rSlT X.K) := by
  intro pins s σ H x v vl vu lo hi sl Q I rx hs pl pu h
  obtain ⟨a, xs, rfl, hx, hw, q⟩ := h
  cases rx
  obtain ⟨its, r, ht, hz⟩ := I.tuple hx
  have hlen : its.toArray.size = xs.length := by rw [List.size_toArray]; exact r.length.symm
  refine ⟨"tuple", _, PyProof.Rows.slot_tuple_getitem.lookup, ht.typeIs, ?_⟩
  refine HT.getItem_tuple_cut ht hs pl pu (by rw [hlen]; exact hw) ?_ (by rw [hlen]; exact hz)
  rw [hlen]
  refine ⟨.ref s.heap.objs.size, _, I.laid (t' := s.toks) (o := .tup (cutV xs lo hi)) (fun b ob q => Heap.get?_push_of_some _ q) (Nat.le_refl _) ?_, rfl, q _ (I.hok.fresh (Nat.le_refl _))⟩
  exact ⟨Nat.le_trans (cutV_length xs lo hi) hz, _, (r.drop (HT.sIx xs.length 0 lo)).take (HT.sIx xs.length xs.length hi - HT.sIx xs.length 0 lo), IsTup.new _ _⟩
def rLtT (K : PySem.W.Frag) : R2 := fun x y H Q => ∃ a b ns ms, x = .ref a ∧ y = .ref b ∧ SqT K H a (ns.map V.int) ∧ SqT K H b (ms.map V.int) ∧ Q (.bl (HT.lexLt ns ms)) H
def rCatT (K : PySem.W.Frag) : R2 := fun x y H Q => ∃ a b xs ys, x = .ref a ∧ y = .ref b ∧ SqT K H a xs ∧ SqT K H b ys ∧ xs ≠ [] ∧ xs.length + ys.length ≤ sizeLine ∧
  (ys = [] → Q (.ref a) H) ∧ (ys ≠ [] → ∀ p, H p = none → Q (.ref p) (upd H p (.tup (xs ++ ys))))
end
end L2
namespace L2
open PySem PySem.Spec PyProof.Rows
def ixN (n : Nat) (i : Int) : Option Nat := if 0 ≤ i then (if i < n then some i.toNat else none) else if -(n : Int) ≤ i then some (i + n).toNat else none
def atI {α : Type} (xs : List α) (i : Int) : Option α := (ixN xs.length i).bind fun j => xs[j]?
theorem ixN_seq {n : Nat} {i : Int} {j : Nat} (h : ixN n i = some j) : seqIndex? i n = some j ∧ j < n ∧ -(n : Int) ≤ i ∧ i < n := by
  unfold ixN at h
  by_cases h0 : 0 ≤ i
  · rw [if_pos h0] at h
    by_cases h1 : i < n
    · rw [if_pos h1] at h
      have e : i.toNat = j := Option.some.inj h
      exact ⟨by rw [seqIndex_of h0 h1, e], by omega, by omega, h1⟩
    · rw [if_neg h1] at h; cases h
  · rw [if_neg h0] at h
    by_cases h1 : -(n : Int) ≤ i
    · rw [if_pos h1] at h
      have e : (i + n).toNat = j := Option.some.inj h
      exact ⟨by rw [seqIndex_neg (by omega) h1, e], by omega, h1, by omega⟩
    · rw [if_neg h1] at h; cases h
theorem atI_get {α : Type} {xs : List α} {i : Int} {v : α} (h : atI xs i = some v) : ∃ j, seqIndex? i xs.length = some j ∧ xs[j]? = some v ∧ j < xs.length ∧ -(xs.length : Int) ≤ i ∧ i < xs.length := by
  unfold atI at h
  cases e : ixN xs.length i with
  | none => rw [e] at h; cases h
  | some j =>
    rw [e] at h
    obtain ⟨h1, h2, h3, h4⟩ := ixN_seq e
    exact ⟨j, h1, h, h2, h3, h4⟩
theorem atI_nat {α : Type} {xs : List α} {j : Nat} {v : α} (h : xs[j]? = some v) : atI xs (j : Int) = some v := by
  have hj : j < xs.length := (List.getElem?_eq_some_iff.mp h).1
  have e : ixN xs.length (j : Int) = some j := by
    unfold ixN
    rw [if_pos (by omega), if_pos (by omega)]; simp
  unfold atI; rw [e]; exact h
def PlainIx (b : Expr) : Prop := ∀ o i, subscripted b false o i = operate [o, i] (getItem o i)
def IxR (X : Cx) (r : R2) : Prop :=
  ∀ (value slice : Expr) (pins : List (Addr × Obj)) (s : Shared) (σ : St) (H : Hp) (x y : V) (v u : Value) (Q : VK), Inv X pins σ H s → RelV x v → RelV y u → r x y H Q →
    subscripted slice false v u = operate [v, u] (getItem v u) → wpAny (model X.prog X.w) X.A (subscriptTail value slice v u) (EP X pins σ Q) X.xe s
def MtR (X : Cx) (id : String) (r : V → List V → Hp → VK → Prop) : Prop :=
  ∀ (pins : List (Addr × Obj)) (s : Shared) (σ : St) (H : Hp) (x : V) (xs : List V) (v : Value) (us : List Value) (Q : VK), Inv X pins σ H s → RelV x v → Vals xs us → r x xs H Q →
    wpAny (model X.prog X.w) X.A (call (.builtin id) (v :: us)) (EP X pins σ Q) X.xe s
section
variable {X : Cx} {a b : Expr} {ta tb : TE} {pos : Pos}
theorem pe_ix {r : R2} (hr : IxR X r) (ha : PE X a ta) (hb : PE X b tb) (hs : PlainIx b) : PE X (.Subscript a b pos) (tOp r ta tb) := by
  intro pins s σ H Q I h
  exact Subscript_ (binT ha hb I h fun v u s2 x y H2 I2 rx ry q => hr a b pins s2 σ H2 x y v u Q I2 rx ry q (hs _ _))
def rIxL (K : PySem.W.Frag) : R2 := fun x y H Q => ∃ p xs i v, x = .ref p ∧ y = .int i ∧ SqL K H p xs ∧ atI xs i = some v ∧ Q v H
def rIxT (K : PySem.W.Frag) : R2 := fun x y H Q => ∃ p xs i v, x = .ref p ∧ y = .int i ∧ SqT K H p xs ∧ atI xs i = some v ∧ Q v H
def rIxS : R2 := fun x y H Q => ∃ z i c, x = .str z ∧ y = .int i ∧ z.length ≤ sizeLine ∧ atI z.cps.toList i = some c ∧ Q (.str ⟨#[c]⟩) H
theorem ix_list : IxR X (rIxL X.K) := by
  intro value slice pins s σ H x y v u Q I rx ry h hs
  obtain ⟨p, xs, i, z, rfl, rfl, hq, he, q⟩ := h
  cases rx
  obtain ⟨t, rfl⟩ := ry
  obtain ⟨its, r, pl, hz⟩ := I.list hq
  obtain ⟨j, h1, h2, h3, h4, h5⟩ := atI_get he
  obtain ⟨w, ew, rw'⟩ := r.get h2
  have hl := r.length
  have hn := line63
  have fin : EP X pins σ Q w s := ⟨z, H, I, rw', q⟩
  by_cases h0 : 0 ≤ i
  · have hj : i.toNat = j := by
      rw [seqIndex_of h0 h5] at h1
      exact Option.some.inj h1
    exact item_listR pl.isList h0 (by omega) (by rw [hj]; simpa using ew) fin hs
  · have hj : (i + (its.toArray.size : Int)).toNat = j := by
      rw [seqIndex_neg (by omega) h4] at h1
      rw [List.size_toArray, ← hl]
      exact Option.some.inj h1
    exact subscriptTail_builtinR (x := w) pl.isList.typeIs slot_list_getitem.lookup
      (wpAny_getItem_list_neg (Q := fun r s' => r = w ∧ EP X pins σ Q r s') pl.isList (by omega) (by rw [List.size_toArray] <;> omega) (by omega) (by rw [hj]; simpa using ew) ⟨rfl, fin⟩) hs
theorem ix_tup : IxR X (rIxT X.K) := by
  intro value slice pins s σ H x y v u Q I rx ry h hs
  obtain ⟨p, xs, i, z, rfl, rfl, hq, he, q⟩ := h
  cases rx
  obtain ⟨t, rfl⟩ := ry
  obtain ⟨its, r, pl, hz⟩ := I.tuple hq
  obtain ⟨j, h1, h2, h3, h4, h5⟩ := atI_get he
  obtain ⟨w, ew, rw'⟩ := r.get h2
  have hl := r.length
  have hn := line63
  have fin : EP X pins σ Q w s := ⟨z, H, I, rw', q⟩
  exact subscriptTail_builtinR (x := w) pl.typeIs slot_tuple_getitem.lookup
    (getItem_tuple (j := j) (Q := fun r s' => r = w ∧ EP X pins σ Q r s') pl (by omega) (by omega) (by rw [List.size_toArray, ← hl]; exact h1) (by simpa using ew) ⟨rfl, fin⟩) hs
theorem ix_str : IxR X rIxS := by
  intro value slice pins s σ H x y v u Q I rx ry h hs
  obtain ⟨z, i, c, rfl, rfl, hz, he, q⟩ := h
  obtain ⟨t, rfl⟩ := rx
  obtain ⟨t', rfl⟩ := ry
  obtain ⟨j, h1, h2, h3, h4, h5⟩ := atI_get he
  have hl : z.cps.toList.length = z.length := by simp [Str.length]
  rw [hl] at h1 h4 h5
  have hn := line63
  exact tail_any (typeIs_str s z t) slot_str_getitem.lookup (getItem_str (c := c) (by
    have e1 : decide (i < -(2 ^ 63 : Int)) = false := decide_eq_false (by omega)
    have e2 : decide (i ≥ 2 ^ 63) = false := decide_eq_false (by omega)
    rw [e1, e2, Bool.or_false]) (by rw [h1]; simpa using h2) ⟨.str ⟨#[c]⟩, H, I.tok _, ⟨_, rfl⟩, q⟩) hs
def rIx (K : PySem.W.Frag) : R2 := fun x y H Q => rIxL K x y H Q ∨ rIxT K x y H Q ∨ rIxS x y H Q
theorem mapSeq_set (its : List Value) (n j : Nat) (u : Value) : Obj.mapSeq (·.setIfInBounds j u) { cls := .type "list", data := .seq its.toArray n } = { cls := .type "list", data := .seq (its.set j u).toArray n } := by
  simp [Obj.mapSeq]
theorem Inv.lst {pins : List (Addr × Obj)} {σ : St} {H : Hp} {s : Shared} {p : Addr} {xs : List V} (I : Inv X pins σ H s) (h : H p = some (.lst xs)) :
    ∃ (its : List Value) (n : Nat), Vals xs its ∧ s.heap.get? p = some { cls := .type "list", data := .seq its.toArray n } ∧ xs.length ≤ sizeLine := by
  obtain ⟨z, its, n, r, e⟩ := I.hok p _ h
  exact ⟨its, n, r, e, z⟩
theorem Inv.lstUpd {pins : List (Addr × Obj)} {σ : St} {H : Hp} {s : Shared} {p : Addr} {xs ys : List V} {its its' : List Value} {n n' : Nat} {f : Obj → Obj} (I : Inv X pins σ H s) (h : H p = some (.lst xs))
    (ho : s.heap.get? p = some { cls := .type "list", data := .seq its.toArray n }) (hf : f { cls := .type "list", data := .seq its.toArray n } = { cls := .type "list", data := .seq its'.toArray n' }) (r : Vals ys its') (hz : ys.length ≤ sizeLine) (t : Nat) :
    Inv X pins σ (upd H p (.lst ys)) { s with heap := s.heap.update p f, toks := t } := by
  have e : (s.heap.update p f).get? p = some { cls := .type "list", data := .seq its'.toArray n' } := by
    rw [Heap.get?_update_self f ho (by rw [hf] <;> rfl), hf]
  refine I.write (x := p) (e := p) (by rw [h]; trivial) (.inl rfl) (fun b u hb q => (Heap.get?_update_other _ _ (Ne.symm hb)).trans q) ⟨_, e⟩ ?_
  exact ⟨hz, its', n', r, e⟩
def rSetL : V → V → V → Hp → (Hp → Prop) → Prop := fun o i v H Q => ∃ p xs k j, o = .ref p ∧ i = .int k ∧ H p = some (.lst xs) ∧ ixN xs.length k = some j ∧ Q (upd H p (.lst (xs.set j v)))
theorem set_list : PSet X rSetL := by
  intro pins s σ H o i v ov iv u Q I ro ri rv h
  obtain ⟨p, xs, k, j, rfl, rfl, hp, hj, q⟩ := h
  cases ro
  obtain ⟨t, rfl⟩ := ri
  obtain ⟨its, n, r, ho, hz⟩ := I.lst hp
  obtain ⟨h1, h2, h3, h4⟩ := ixN_seq hj
  have hl := r.length
  have hn := line63
  have I' : Inv X pins σ (upd H p (.lst (xs.set j v))) { s with heap := s.heap.update p (Obj.mapSeq (·.setIfInBounds j u)) } :=
    I.lstUpd hp ho (mapSeq_set its n j u) (r.set rv j) (by rw [List.length_set]; exact hz) s.toks
  by_cases h0 : 0 ≤ k
  · have hk : k.toNat = j := by
      rw [seqIndex_of h0 h4] at h1
      exact Option.some.inj h1
    exact PySem.W.ki_setAt ho h0 (by omega) (by rw [List.size_toArray, ← hl]; exact h4) (by rw [hk]; exact ⟨_, I', q⟩)
  · have hk : (k + (its.toArray.size : Int)).toNat = j := by
      rw [seqIndex_neg (by omega) h3] at h1
      rw [List.size_toArray, ← hl]
      exact Option.some.inj h1
    exact PySem.W.ki_setBack ho (by omega) (by rw [List.size_toArray, ← hl]; exact h3) (by omega) (by rw [hk]; exact ⟨_, I', q⟩)
theorem slice_bounds (lo hi : Option Int) (n : Nat) : (sliceBounds lo hi none n).1 = ((HT.sIx n 0 lo : Nat) : Int) ∧ (sliceBounds lo hi none n).2.1 = ((HT.sIx n n hi : Nat) : Int) ∧ (sliceBounds lo hi none n).2.2 = 1 := by
  refine ⟨?_, ?_, rfl⟩
  · cases lo with
    | none => simp [sliceBounds, HT.sIx]
    | some i =>
      simp only [sliceBounds, HT.sIx, Option.getD_none, show (1 : Int) > 0 by decide, if_true]
      by_cases h : i < 0
      · simp only [h, if_true] <;> omega
      · simp only [h, if_false] <;> omega
  · cases hi with
    | none => simp [sliceBounds, HT.sIx]
    | some i =>
      simp only [sliceBounds, HT.sIx, Option.getD_none, show (1 : Int) > 0 by decide, if_true]
      by_cases h : i < 0
      · simp only [h, if_true] <;> omega
      · simp only [h, if_false] <;> omega
theorem slicePick_cut (its : List Value) (lo hi : Option Int) : slicePick its.toArray lo hi none = ((its.drop (HT.sIx its.length 0 lo)).take (HT.sIx its.length its.length hi - HT.sIx its.length 0 lo)).toArray := by
  obtain ⟨h1, h2, h3⟩ := slice_bounds lo hi its.toArray.size
  unfold slicePick
  rw [h1, h2, h3]
  simp only [sliceRange_one, pick_run, List.size_toArray] <;> rfl
def rSlL (K : PySem.W.Frag) : V → Option Int → Option Int → Hp → VK → Prop := fun x lo hi H Q => ∃ a xs, x = .ref a ∧ SqL K H a xs ∧ ∀ p, H p = none → Q (.ref p) (upd H p (.lst (cutV xs lo hi)))
theorem sl_list : SlR X (rSlL X.K) := by
  intro pins s σ H x v vl vu lo hi sl Q I rx hs pl pu h
  obtain ⟨a, xs, rfl, hx, q⟩ := h
  cases rx
  obtain ⟨its, r, ht, hz⟩ := I.list hx
  have hlen := r.length
  refine ⟨"list", _, slot_list_getitem.lookup, ht.isList.typeIs, ?_⟩
  refine wpAny_getItem_list_slice ht.isList hs pl pu .none (by simp) ?_ (by rw [List.size_toArray] <;> omega)
  rw [slicePick_cut, ← hlen]
  refine ⟨.ref s.heap.objs.size, _, I.laid (t' := s.toks) (o := .lst (cutV xs lo hi)) (fun b ob q => Heap.get?_push_of_some _ q) (Nat.le_refl _) ?_, rfl, q _ (I.hok.fresh (Nat.le_refl _))⟩
  exact ⟨Nat.le_trans (cutV_length xs lo hi) hz, _, 0, (r.drop (HT.sIx xs.length 0 lo)).take (HT.sIx xs.length xs.length hi - HT.sIx xs.length 0 lo), Heap.get?_push_size _ rfl⟩
def flatV : V → Bool
  | .non => true
  | .bl _ => true
  | .int _ => true
  | .str _ => true
  | _ => false
def eqV : V → V → Bool
  | .non, .non => true
  | .bl a, .bl b => a == b
  | .bl a, .int b => (if a then 1 else 0) == b
  | .int a, .bl b => a == (if b then 1 else 0)
  | .int a, .int b => a == b
  | .str a, .str b => a == b
  | _, _ => false
theorem eqAt_V {A : Around} {s : Shared} {y x : V} {u v : Value} (ry : RelV y u) (rx : RelV x v) (fy : flatV y = true) (fx : flatV x = true) : SeqAt.EqAt A s u v (eqV y x) := by
  cases y with
  | non =>
    cases ry
    cases x with
    | non => cases rx; exact SeqAt.EqAt.same _
    | bl b => cases rx; exact SeqAt.EqAt.none_bool b
    | int b => obtain ⟨t, rfl⟩ := rx; exact SeqAt.EqAt.none_int b t
    | str b => obtain ⟨t, rfl⟩ := rx; exact SeqAt.EqAt.none_str b t
    | _ => exact absurd (show false = true from fx) Bool.false_ne_true
  | bl a =>
    cases ry
    cases x with
    | non => cases rx; exact SeqAt.EqAt.bool_none a
    | bl b => cases rx; exact SeqAt.EqAt.bool_bool a b
    | int b => obtain ⟨t, rfl⟩ := rx; exact SeqAt.EqAt.bool_int a b t
    | str b => obtain ⟨t, rfl⟩ := rx; exact SeqAt.EqAt.bool_str a b t
    | _ => exact absurd (show false = true from fx) Bool.false_ne_true
  | int a =>
    obtain ⟨t', rfl⟩ := ry
    cases x with
    | non => cases rx; exact SeqAt.EqAt.int_none a t'
    | bl b => cases rx; exact SeqAt.EqAt.int_bool a t' b
    | int b => obtain ⟨t, rfl⟩ := rx; exact SeqAt.EqAt.int_int a t' b t
    | str b => obtain ⟨t, rfl⟩ := rx; exact SeqAt.EqAt.int_str a t' b t
    | _ => exact absurd (show false = true from fx) Bool.false_ne_true
  | str a =>
    obtain ⟨t', rfl⟩ := ry
    cases x with
    | non => cases rx; exact SeqAt.EqAt.str_none a t'
    | bl b => cases rx; exact SeqAt.EqAt.str_bool a t' b
    | int b => obtain ⟨t, rfl⟩ := rx; exact SeqAt.EqAt.str_int a t' b t
    | str b => obtain ⟨t, rfl⟩ := rx; exact SeqAt.EqAt.str_str a t' b t
    | _ => exact absurd (show false = true from fx) Bool.false_ne_true
  | _ => exact absurd (show false = true from fy) Bool.false_ne_true
def eqU (x : V) (u : Value) : Bool := match u with
  | .none => eqV .non x
  | .bool b => eqV (.bl b) x
  | .int i _ => eqV (.int i) x
  | .str z _ => eqV (.str z) x
  | _ => false
theorem eqU_of {x y : V} {u : Value} (r : RelV y u) (f : flatV y = true) : eqU x u = eqV y x := by
  cases y with
  | non => cases r; rfl
  | bl b => cases r; rfl
  | int i => obtain ⟨t, rfl⟩ := r; rfl
  | str z => obtain ⟨t, rfl⟩ := r; rfl
  | _ => exact absurd (show false = true from f) Bool.false_ne_true
theorem any_eqU {x : V} : ∀ {xs : List V} {us : List Value}, Vals xs us → xs.all flatV = true → us.any (eqU x) = xs.any fun y => eqV y x
  | _, _, .nil, _ => rfl
  | y :: xs, u :: us, .cons r t, f => by
    rw [List.all_cons, Bool.and_eq_true] at f
    rw [List.any_cons, List.any_cons, eqU_of r f.1, any_eqU t f.2]
theorem mem_eqAt {A : Around} {s : Shared} {x : V} {v : Value} (rx : RelV x v) (fx : flatV x = true) : ∀ {xs : List V} {us : List Value}, Vals xs us → xs.all flatV = true → ∀ u ∈ us, SeqAt.EqAt A s u v (eqU x u)
  | _, _, .nil, _ => fun u hu => by cases hu
  | y :: xs, u :: us, .cons r t, f => fun u' hu => by
    rw [List.all_cons, Bool.and_eq_true] at f
    rcases List.mem_cons.mp hu with rfl | hu
    · rw [eqU_of r f.1]; exact eqAt_V r rx f.1 fx
    · exact mem_eqAt rx fx t f.2 u' hu
def inV (x : V) (xs : List V) : Bool := xs.any fun y => eqV y x
def rIn (K : PySem.W.Frag) (neg : Bool) : R2 := fun x y H Q => ∃ p xs, y = .ref p ∧ (SqL K H p xs ∨ SqT K H p xs) ∧ flatV x = true ∧ xs.all flatV = true ∧ Q (.bl (if neg then !inV x xs else inV x xs)) H
theorem op_notIn_seq : OpR X (compareOp .NotIn) (rIn X.K true) := by
  intro pins s σ H x y v u Q I rx ry h
  obtain ⟨p, xs, rfl, hq, fx, fs, q⟩ := h
  cases ry
  rcases hq with hq | hq
  · obtain ⟨its, r, pl, hz⟩ := I.list hq
    refine SeqAt.notIn_listAt (eqU x) pl.isList (fun w hw => mem_eqAt rx fx r fs w (by simpa using hw)) ⟨.bl _, H, I, rfl, ?_⟩
    rw [show its.toArray.any (eqU x) = its.any (eqU x) by simp, any_eqU r fs]
    exact q
  · obtain ⟨its, r, pl, hz⟩ := I.tuple hq
    refine SeqAt.notIn_tupleAt (eqU x) pl (fun w hw => mem_eqAt rx fx r fs w (by simpa using hw)) ⟨.bl _, H, I, rfl, ?_⟩
    rw [show its.toArray.any (eqU x) = its.any (eqU x) by simp, any_eqU r fs]
    exact q
theorem op_notIn_str : OpR X (compareOp .NotIn) (fun x y H Q => ∃ i j, x = .str i ∧ y = .str j ∧ Q (.bl (!(!(Builtin.Str.occurrences j i 0 j.length 1).isEmpty))) H) := by
  intro pins s σ H x y v u Q I rx ry h
  obtain ⟨i, j, rfl, rfl, q⟩ := h
  obtain ⟨t, rfl⟩ := rx
  obtain ⟨t', rfl⟩ := ry
  exact notIn_str ⟨.bl _, H, I, rfl, q⟩
theorem CallR.or {f : Value} {r r' : List V → Hp → VK → Prop} (h : CallR X f r) (h' : CallR X f r') : CallR X f (fun xs H Q => r xs H Q ∨ r' xs H Q) := by
  intro pins s σ H xs us Q I rs q
  rcases q with q | q
  · exact h pins s σ H xs us Q I rs q
  · exact h' pins s σ H xs us Q I rs q
theorem call_list_of : CallR X (.type "list") (fun xs H Q => ∃ p ys, xs = [.ref p] ∧ (SqL X.K H p ys ∨ SqT X.K H p ys) ∧ ∀ l, H l = none → Q (.ref l) (upd H l (.lst ys))) := by
  intro pins s σ H xs us Q I r h
  obtain ⟨p, ys, rfl, hq, q⟩ := h
  obtain ⟨u, rfl, rx⟩ := vals1 r
  cases rx
  have fin : ∀ (its : List Value), Vals ys its → ys.length ≤ sizeLine → ∀ (h' : Heap) (c' : Nat), (∀ b o', s.heap.get? b = some o' → h'.get? b = some o') →
      h'.get? s.heap.objs.size = some { cls := .type "list", dict := none, data := .seq its.toArray c', slots := #[] } → EP X pins σ Q (.ref s.heap.objs.size) { s with heap := h' } := fun its r' hz h' c' kp e =>
    ⟨.ref s.heap.objs.size, _, I.laid (t' := s.toks) kp (Nat.le_refl _) (show ObjOk X.prog X.w _ h' _ (.lst ys) from ⟨hz, its, c', r', e⟩), rfl, q _ (I.hok.fresh (Nat.le_refl _))⟩
  rcases hq with hq | hq
  · obtain ⟨its, r', pl, hz⟩ := I.list hq
    have hlen := r'.length
    obtain ⟨o, ho, hc, n, hd⟩ := pl.isList
    exact call_list_seq p (.inl rfl) ho hc hd (fun h' c' kp e => fin its r' hz h' c' kp e) (by simp only [List.size_toArray] <;> omega)
  · obtain ⟨its, r', pl, hz⟩ := I.tuple hq
    have hlen := r'.length
    obtain ⟨o, ho, hc, n, hd⟩ := pl
    exact call_list_seq p (.inr rfl) ho hc hd (fun h' c' kp e => fin its r' hz h' c' kp e) (by simp only [List.size_toArray] <;> omega)
def tyV (K : PySem.W.Frag) (T : String) (x : V) (H : Hp) : Prop := match x with
  | .str _ => T = "str"
  | .int _ => T = "int"
  | .ref p => (T = "list" ∧ ∃ xs, SqL K H p xs) ∨ (T = "tuple" ∧ ∃ o, K.lookup p = some o ∧ o.cls = .type "tuple" ∧ o.dict = none) ∨
      (T = "dict" ∧ ((∃ kvs, H p = some (.dK kvs)) ∨ ∃ kvs, H p = some (.dT kvs))) ∨ (T = "set" ∧ ∃ S n, H p = some (.set S n))
  | _ => False
theorem tyV_is {pins : List (Addr × Obj)} {σ : St} {H : Hp} {s : Shared} {T : String} {x : V} {v : Value} (I : Inv X pins σ H s) (r : RelV x v) (ty : tyV X.K T x H) :
    s.TypeIs v T ∧ ∀ a, v = .ref a → ∃ ob, s.heap.get? a = some ob ∧ ob.dict = none := by
  cases x with
  | str z =>
    obtain ⟨t, rfl⟩ := r
    cases (show T = "str" from ty)
    exact ⟨typeIs_str s z t, fun _ e => nomatch e⟩
  | int i =>
    obtain ⟨t, rfl⟩ := r
    cases (show T = "int" from ty)
    exact ⟨typeIs_int s i t, fun _ e => nomatch e⟩
  | ref p =>
    cases r
    rcases ty with ⟨rfl, xs, hq⟩ | ⟨rfl, o, hk, hc, hd⟩ | ⟨rfl, hk⟩ | ⟨rfl, S, n, hk⟩
    · obtain ⟨its, _, pl, _⟩ := I.list hq
      refine ⟨pl.isList.typeIs, fun a e => ?_⟩
      cases e
      obtain ⟨o, n, e, c, hd, _⟩ := pl
      exact ⟨o, e, hd⟩
    · refine ⟨⟨o, I.kIn p o hk, hc⟩, fun a e => ?_⟩
      cases e
      exact ⟨o, I.kIn _ o hk, hd⟩
    · have z : ∃ o, s.heap.get? p = some o ∧ o.ExactDict := by
        rcases hk with ⟨kvs, hk⟩ | ⟨kvs, hk⟩
        · obtain ⟨_, _, _, _, o, _, _, e, ex, _⟩ := I.hok p _ hk
          exact ⟨o, e, ex⟩
        · obtain ⟨_, _, _, _, o, _, _, e, ex, _⟩ := I.hok p _ hk
          exact ⟨o, e, ex⟩
      obtain ⟨o, e, ex⟩ := z
      refine ⟨⟨o, e, ex.1⟩, fun a e2 => ?_⟩
      cases e2
      exact ⟨o, e, ex.2.1⟩
    · obtain ⟨o, _, _, _, e, ex, _⟩ := I.hok p _ hk
      refine ⟨⟨o, e, ex.1⟩, fun a e2 => ?_⟩
      cases e2
      exact ⟨o, e, ex.2.1⟩
  | _ => exact False.elim ty
def tBM0 (K : PySem.W.Frag) (T : String) (r : V → List V → Hp → VK → Prop) (to : TE) : TE := fun σ H Q => to σ H fun x H1 => tyV K T x H1 ∧ r x [] H1 Q
def tBM (K : PySem.W.Frag) (T : String) (r : V → List V → Hp → VK → Prop) (to : TE) (t : TA) : TE := fun σ H Q => to σ H fun x H1 => tyV K T x H1 ∧ t σ H1 fun xs H2 => r x xs H2 Q
variable {o e : Expr} {es : List Expr} {to : TE} {t : TA} {name : Str} {apos cpos : Pos} {T id : String} {r : V → List V → Hp → VK → Prop}
theorem pe_bm (pa : PlainAttrs T) (slot : Slot T name id) (hty : typeOf (.builtin id) = pure (.type "method_descriptor")) (hm : MtR X id r) (ho : PE X o to) (ha : PA X (e :: es) t)
    (hbase : attributeBase o name X.env (eval o X.env) = eval o X.env := by rfl)
    (hfew : ((backTo cpos (starEach (e :: es) X.env)).all (fun x => !x.1) && (backToKw cpos (keywordEach [] X.env)).all (fun x => x.1.isSome)
      && decide ((e :: es).length + ([] : List Keyword).length + (if ([] : List Keyword).isEmpty then 0 else 1) < 30)) = true := by rfl)
    (hline : (apos.endLine == cpos.line) = true := by rfl) (hs : starEach (e :: es) X.env = (false, eval e X.env) :: starEach es X.env := by rfl) (hplain : (backTo cpos (starEach es X.env)).any (·.1) = false := by rfl) :
    PE X (.Call (.Attribute o name apos) (e :: es) [] cpos) (tBM X.K T r to t) := by
  intro pins s σ H Q I h
  refine wpAny_Call_method_late hbase hfew hline rfl (thn (ho pins s σ H _ I h) fun v s1 ⟨x, H1, I1, r1, ty, q1⟩ => ?_)
  obtain ⟨h1, h2⟩ := tyV_is I1 r1 ty
  refine ⟨T, id, pa, slot, hty, h1, h2, ?_⟩
  have hA := ha cpos pins s1 σ H1 _ I1 q1
  rw [hs] at hA ⊢
  refine Calls.callWith_builtin (by show (false || (backTo cpos (starEach es X.env)).any (·.1)) = false; rw [hplain] <;> rfl) (Calls.evalArgs_plain ?_)
  exact thn hA fun us s2 ⟨vs, H2, I2, r2, q2⟩ => hm pins s2 σ H2 x vs v us Q I2 r1 r2 q2
end
end L2
namespace L2
open PySem PySem.Spec PyProof.Rows
def MtM (X : Cx) (id : String) (r : V → List V → Hp → VK → Prop) : Prop :=
  ∀ (pins : List (Addr × Obj)) (s : Shared) (σ : St) (H : Hp) (x : V) (xs : List V) (v : Value) (us : List Value) (Q : VK), Inv X pins σ H s → RelV x v → Vals xs us → r x xs H Q →
    wpAny (model X.prog X.w) X.A (call (.builtin id) (v :: us)) (EP X pins σ Q) X.xe s
theorem Vals.one : ∀ {x : V} {us : List Value}, Vals [x] us → ∃ u, us = [u] ∧ RelV x u
  | _, _, .cons r .nil => ⟨_, rfl, r⟩
theorem Vals.rep {xs : List V} {us : List Value} (h : Vals xs us) : ∀ k : Nat, Vals (List.replicate k xs).flatten (List.replicate k us).flatten
  | 0 => .nil
  | k + 1 => by
    rw [List.replicate_succ, List.replicate_succ, List.flatten_cons, List.flatten_cons]
    exact Vals.append h (Vals.rep h k)
theorem foldl_rep (its : List Value) : ∀ (k : Nat) (acc : List Value),
    List.foldl (fun x1 x2 => x1 ++ x2) acc.toArray (List.replicate k its.toArray) = (acc ++ (List.replicate k its).flatten).toArray
  | 0, acc => by simp
  | k + 1, acc => by
    have e : acc.toArray ++ its.toArray = (acc ++ its).toArray := by simp
    have e2 : (acc ++ its) ++ (List.replicate k its).flatten = acc ++ (List.replicate (k + 1) its).flatten := by
      rw [List.replicate_succ, List.flatten_cons, List.append_assoc]
    rw [← e2, ← foldl_rep its k (acc ++ its), ← e, List.replicate_succ, List.foldl_cons]
section
variable {X : Cx} {pins : List (Addr × Obj)} {σ : St} {H : Hp} {s : Shared} {l b : Addr} {xs ys zs : List V}
theorem Inv.lset {its its' : List Value} {n : Nat} {f : Array Value → Array Value} {t' : Nat} (I : Inv X pins σ H s) (hH : H l = some (.lst xs))
    (e : s.heap.get? l = some { cls := .type "list", data := .seq its.toArray n }) (hf : f its.toArray = its'.toArray) (hv : Vals ys its') (hz : ys.length ≤ sizeLine) :
    Inv X pins σ (upd H l (.lst ys)) { s with heap := s.heap.update l (Obj.mapSeq f), toks := t' } := by
  have q := PySem.IsL.update e f
  rw [hf] at q
  refine I.write (x := l) (e := l) (by rw [hH]; exact trivial) (.inl rfl) (fun b' u hb hu => (Heap.get?_update_other s.heap (Obj.mapSeq f) (Ne.symm hb)).trans hu) ⟨_, q⟩ ?_
  exact ⟨hz, its', _, hv, q⟩
theorem Inv.lnew {its : List Value} {t' : Nat} (I : Inv X pins σ H s) (hv : Vals ys its) (hz : ys.length ≤ sizeLine) :
    Inv X pins σ (upd H s.heap.objs.size (.lst ys)) { s with heap := s.heap.push { cls := .type "list", data := .seq its.toArray }, toks := t' } :=
  I.laid (fun _ _ q => Heap.get?_push_of_some _ q) (Nat.le_refl _) ⟨hz, its, 0, hv, Heap.get?_push_size _ rfl⟩
theorem Inv.fresh (I : Inv X pins σ H s) : H s.heap.objs.size = none := I.hok.fresh (Nat.le_refl _)
theorem Inv.lstM (I : Inv X pins σ H s) (hH : H l = some (.lst xs)) : xs.length ≤ sizeLine ∧ ∃ (its : List Value) (n : Nat), Vals xs its ∧ xs.length = its.length ∧ s.heap.get? l = some { cls := .type "list", data := .seq its.toArray n } := by
  obtain ⟨z, its, n, r, e⟩ := I.hok l _ hH
  exact ⟨z, its, n, r, r.length, e⟩
theorem notLongL {n : Nat} (h : n ≤ sizeLine) : Builtin.List.listTooLong n = false := by
  unfold Builtin.List.listTooLong
  exact decide_eq_false (by omega)
end
section
variable {X : Cx}
def rAppend : V → List V → Hp → VK → Prop := fun x vs H Q => ∃ l xs y, x = .ref l ∧ vs = [y] ∧ H l = some (.lst xs) ∧ xs.length < sizeLine ∧ Q .non (upd H l (.lst (xs ++ [y])))
theorem mt_append : MtM X "list.append" rAppend := by
  intro pins s σ H x vs v us Q I rx rv h
  obtain ⟨l, xs, y, rfl, rfl, hH, hz, q⟩ := h
  cases rx
  obtain ⟨u, rfl, ru⟩ := rv.one
  obtain ⟨z, its, n, r, hl, e⟩ := I.lstM hH
  refine call_meets F.slot_list_append ⟨_, e, rfl⟩ F.entry_list_append (F.args_list_append_2 _ _) (PySem.list_append l its.toArray n u (by rw [List.size_toArray]; omega)) ⟨e, ?_⟩
  refine ⟨.non, _, I.lset (its' := its ++ [u]) hH e (by simp) (r.append (.cons ru .nil)) ?_, rfl, q⟩
  rw [List.length_append, List.length_singleton]
  omega
def rExtend : V → List V → Hp → VK → Prop := fun x vs H Q => ∃ l b xs zs, x = .ref l ∧ vs = [.ref b] ∧ H l = some (.lst xs) ∧ H b = some (.lst zs) ∧ xs.length + zs.length ≤ sizeLine ∧ Q .non (upd H l (.lst (xs ++ zs)))
def rPop : V → List V → Hp → VK → Prop := fun x vs H Q => ∃ l xs y, x = .ref l ∧ vs = [] ∧ H l = some (.lst xs) ∧ xs[xs.length - 1]? = some y ∧ Q y (upd H l (.lst xs.dropLast))
def rPopAt : V → List V → Hp → VK → Prop := fun x vs H Q => ∃ l xs i k y, x = .ref l ∧ vs = [.int i] ∧ H l = some (.lst xs) ∧ -(2 ^ 63) ≤ i ∧ i < 2 ^ 63 ∧ seqIndex? i xs.length = some k ∧ xs[k]? = some y ∧ Q y (upd H l (.lst (xs.eraseIdx k)))
def rReverse : V → List V → Hp → VK → Prop := fun x vs H Q => ∃ l xs, x = .ref l ∧ vs = [] ∧ H l = some (.lst xs) ∧ Q .non (upd H l (.lst xs.reverse))
def rClear : V → List V → Hp → VK → Prop := fun x vs H Q => ∃ l xs, x = .ref l ∧ vs = [] ∧ H l = some (.lst xs) ∧ Q .non (upd H l (.lst []))
def rCat : R2 := fun x y H Q => ∃ l b xs zs, x = .ref l ∧ y = .ref b ∧ H l = some (.lst xs) ∧ H b = some (.lst zs) ∧ xs.length + zs.length ≤ sizeLine ∧ ∀ p, H p = none → Q (.ref p) (upd H p (.lst (xs ++ zs)))
theorem op_cat : OpR X (binaryOp .Add) rCat := by
  intro pins s σ H x y v u Q I rx ry h
  obtain ⟨l, b, xs, zs, rfl, rfl, hH, hB, hz, q⟩ := h
  cases rx
  cases ry
  obtain ⟨z, its, n, r, hl, e⟩ := I.lstM hH
  obtain ⟨z2, its2, n2, r2, hl2, e2⟩ := I.lstM hB
  refine PySem.P.add_list e e2 ?_ (by rw [List.size_toArray, List.size_toArray]; omega)
  have ea : its.toArray ++ its2.toArray = (its ++ its2).toArray := by simp
  rw [ea]
  exact ⟨.ref _, _, I.lnew (t' := s.toks) (r.append r2) (by rw [List.length_append]; omega), rfl, q _ I.fresh⟩
def rRep : R2 := fun x y H Q => ∃ l k xs, x = .ref l ∧ y = .int k ∧ H l = some (.lst xs) ∧ -(2 ^ 63) ≤ k ∧ k < 2 ^ 63 ∧ xs.length * k.toNat ≤ sizeLine ∧
  ∀ p, H p = none → Q (.ref p) (upd H p (.lst (List.replicate k.toNat xs).flatten))
theorem len_rep {α : Type} (xs : List α) (k : Nat) : (List.replicate k xs).flatten.length = k * xs.length := by
  induction k with
  | zero => simp
  | succ k ih => rw [List.replicate_succ, List.flatten_cons, List.length_append, ih, Nat.succ_mul, Nat.add_comm]
theorem op_rep : OpR X (binaryOp .Mult) rRep := by
  intro pins s σ H x y v u Q I rx ry h
  obtain ⟨l, k, xs, rfl, rfl, hH, h1, h2, hz, q⟩ := h
  cases rx
  obtain ⟨t, rfl⟩ := ry
  obtain ⟨z, its, n, r, hl, e⟩ := I.lstM hH
  have hlen : its.toArray.size * k.toNat ≤ sizeLine := by rw [List.size_toArray, ← hl]; exact hz
  have hcap : ¬ its.toArray.size * k.toNat > (2 ^ 63 - 1) / 8 := by
    have : (sizeLine : Nat) ≤ (2 ^ 63 - 1) / 8 := by decide
    omega
  have hfit : ¬ (!Builtin.List.listFitsIndex k) = true := by
    rw [fitsIndex_both h1 h2]
    exact Bool.false_ne_true
  have hlong : ¬ Builtin.List.listTooLong (its.toArray.size * k.toNat) = true := by
    rw [notLongL hlen]
    exact Bool.false_ne_true
  have hnew : List.foldl (fun x1 x2 => x1 ++ x2) #[] (List.replicate (if its.toArray.isEmpty = true then 0 else k.toNat) its.toArray) = (List.replicate k.toNat its).flatten.toArray := by
    have f0 : ∀ m : Nat, List.foldl (fun x1 x2 => x1 ++ x2) #[] (List.replicate m its.toArray) = (List.replicate m its).flatten.toArray := fun m => by
      have := foldl_rep its m []
      rw [List.nil_append] at this
      exact this
    rw [f0]
    cases its with
    | nil => simp
    | cons a r' => rw [if_neg (by simp)]
  refine wpAny_binaryOp_repeat_ref (T := "list") (U := "int") (by decide) ⟨_, e, rfl⟩ (fun s' => typeIs_int s' k t) noFill_list_mul F.fills_int_mul F.slot_int_rmul repeat_list F.slot_int_index.lookup
    (call_meets F.slot_int_rmul (typeIs_int s k t) F.entry_int_rmul (F.args_int_rmul_2 _ _) (int___rmul___int_list k t l its.toArray n)
      ⟨e, rfl, ⟨_, e, rfl⟩, call_meets F.slot_list_mul ⟨_, e, rfl⟩ F.entry_list_mul (F.args_list_mul_2 _ _) (AutoListH.list___mul___list_int_3 l its.toArray n k t hfit hcap hlong) ⟨e, ?_⟩⟩)
  rw [hnew]
  exact ⟨.ref _, _, I.lnew (t' := s.toks) (r.rep k.toNat) (by rw [len_rep, Nat.mul_comm]; exact hz), rfl, q _ I.fresh⟩
end
section
variable {prog : Program} {w : World} {A : Around} {E : Value → Shared → Prop} {s : Shared}
end
section
variable {X : Cx}
end
end L2
namespace Att
open PySem PySem.W PySem.Calls PyProof.Rows
theorem ints_of_wellAll {P : Params} {h : Heap} : ∀ (ns : List Int) (vs : List Value), WellAll P h vs (ns.map WData.int) → IntsAre vs ns := by
  intro ns
  induction ns with
  | nil =>
    intro vs w
    rw [List.map_nil] at w
    cases w
    exact .nil
  | cons n ns ih =>
    intro vs w
    rw [List.map_cons] at w
    cases w with
    | cons a b =>
      cases a
      exact .cons _ _ (ih _ b)
theorem script_of {l : OpenLaw} {n : Nat} (hn : l.most = some n) {P : Params} {h : Heap} {args : List WData} {vals : List Value}
    (hpre : l.row.toRowW.claim.pre args = true) (hwl : WellAll P h vals args) :
    ∃ a vs ns, vals = [Value.ref a] ∧ args = [WData.list (ns.map WData.int)] ∧ h.get? a = some { cls := .type "list", data := .seq vs.toArray } ∧ IntsAre vs ns ∧ ns.length ≤ n := by
  have hsh : WShape.hasAll [] args [.list .int] = true := (pre_splitW hpre).1
  have hc : l.pre.holds [] { args := args } = true := (pre_splitW hpre).2
  obtain ⟨d, r, rfl, h1, h2⟩ := hasAllW_cons hsh
  obtain rfl := hasAllW_nil h2
  obtain ⟨xs, rfl, h3⟩ := hasW_list h1
  obtain ⟨ns, rfl⟩ := items_int h3
  have hlen : ns.length ≤ n := by
    unfold OpenLaw.pre at hc
    have h4 : (WTm.not (.lt (.lit (.int (n : Int))) (.len (.arg 0)))).holds [] { args := [.list (ns.map .int)] } = true := by
      have h4 := (holds_andW hc).1
      rw [hn] at h4
      exact h4
    have h5 := condW_of h4 (w_not (w_lt w_lit (w_len_list (w_arg rfl))))
    rw [List.length_map] at h5
    refine Nat.le_of_not_lt fun q => ?_
    have q' : (n : Int) < ((ns.length : Nat) : Int) := by omega
    first
      | (rw [decide_eq_true q'] at h5; exact absurd h5 (by decide))
      | (simp at h5; omega)
  cases hwl with
  | cons w1 w2 =>
    cases w2
    cases w1 with
    | list ho hall => exact ⟨_, _, ns, rfl, rfl, ho, ints_of_wellAll ns _ hall, hlen⟩
theorem post_true (l : OpenLaw) (args : List WData) : l.row.toRowW.claim.post args (.bool true) args = true :=
  postW_of (r := l.row.toRowW) (X := (true == true))
    (show WShape.has [] (.bool true) .bool = true by first | rfl | decide | simp [WShape.has, WShape.arms, WShape.armsAll])
    (show (WTm.eq .res (.lit (.bool true))).value [] { args := args, res := some (.bool true), after := args } = some (.bool (true == true)) from w_eq_bool (w_res rfl) w_lit) rfl
theorem attach_call {l : OpenLaw} {n : Nat} {q : Program} {loose : List Str} {XP : (Str → Option Value) → Heap → Prop} {YP : World → Heap → Prop} {d : DefRec}
    (hn : l.most = some n) (hdf : d.params.defaults = [])
    (call : ∀ (w : World) (s₀ s₁ : Shared) (mg mb : Str → Option Value) (fa : Addr) (o : Obj) (pm cd doc : Value) (a : Addr) (vs : List Value) (ns : List Int),
      Ground q loose [] XP w s₀ mg mb s₁.heap → YP w s₁.heap →
      s₁.heap.get? fa = some o → o.data = .func (docDef d.name d.params d.body d.scope pm cd doc) → s₁.heap.CodeRec cd d.name → mg d.name = some (.ref fa) →
      s₁.heap.get? a = some { cls := .type "list", data := .seq vs.toArray } → IntsAre vs ns → ns.length ≤ n → s₁.gens = #[] →
      codeAny (model l.prog w) callerA (.call (.ref fa) ⟨[.ref a], []⟩) (fun r s' => r = .ok (.ret (.bool true)) ∧ OldK s₁.heap s'.heap ∧ s'.os = s₁.os ∧ AllBare s'.gens) s₁) :
    WalkO q loose XP YP l.row.toRowW d [] (fun f vs => PySem.call f vs) := by
  intro w s₀ s₁ mg mb G Y fa o pm cd doc dV kV ho hd hcd hD hmg hg args vals as hpre hlay hrd hwl hlo
  obtain rfl : dV = .none := Dflts.none hD hdf
  obtain rfl : kV = .none := Dflts.noKw hD
  obtain ⟨a, vs, ns, rfl, rfl, hobj, hints, hlen⟩ := script_of hn hpre hwl
  refine enter_call (codeAny_mono (call w s₀ s₁ mg mb fa o pm cd doc a vs ns G Y ho (fd_plain hd) hcd hmg hobj hints hlen hg) fun r s' hq => ?_)
  obtain ⟨rfl, h2, h3, h4⟩ := hq
  exact ⟨.inl ⟨.bool true, .bool true, [], rfl, fun _ => rfl, .bool true, post_true l _, fun _ => ⟨List.Pairwise.nil, fun _ hm => (nomatch hm)⟩⟩, h2, h3, h4⟩
section
variable {prog : Program} {w : World} {A : Around} {E : Value → Shared → Prop} {s : Shared} {K : Frag}
def noObjs (h : Heap) : Heap := { h with objs := #[] }
def ledger (h : Heap) (L d : Addr) : List (Addr × Obj) := (List.range h.objs.size).filterMap fun a => if a = L ∨ a = d then none else (h.get? a).map fun o => (a, o)
end
end Att
namespace L2
open PySem PySem.Spec PyProof.Rows
theorem vals_ints : ∀ {vs : List Value} {ns : List Int}, IntsAre vs ns → Vals (ns.map V.int) vs
  | _, _, .nil => .nil
  | _, _, .cons n t h => .cons ⟨t, rfl⟩ (vals_ints h)
def Only (H : Hp) : Prop := ∀ b, H b = none ∨ ∃ o xs, H b = some (.frz o (.lst xs))
theorem law_call {P : Program} {w : World} {K : PySem.W.Frag} {mg mb : Str → Option Value} {CX : CXT} {k : Nat} {fa a : Addr} {fd : FuncData} {x : Str} {sp : Sp} {s₁ : Shared} {vs : List Value} {ns : List Int}
    (KX : K.In s₁.heap) (hns : s₁.heap.Ns mainGlobals mg) (hb : s₁.heap.Ns builtinsNs mb) (hbb : ∀ x : Str, x ≠ "__name__" → mb x = bootBuiltins x) (hlim : s₁.heap.NoLimit) (hg : s₁.gens = #[])
    (ha : s₁.heap.get? a = some { cls := .type "list", data := .seq vs.toArray }) (hi : IntsAre vs ns) (hl : ns.length ≤ sizeLine) (hr : Room k callerA)
    (F : ∀ base : Heap, K.In base → base.Ns mainGlobals mg → FnOk P w K mg base CX k fa fd [x] sp) (hbind : ∀ (s : Shared) (u : Value), BindsTo s fd ⟨[u], []⟩ [(x, u)])
    (hsp : ∀ H : Hp, Only H → SqL K H a (ns.map V.int) → sp [.ref a] H (fun v _ => v = .bl true) fun _ _ _ => False)
    (hCX : ∀ H e s', CX [] H s₁ (fun _ _ _ => False) e s' → False) :
    codeAny (model P w) callerA (.call (.ref fa) ⟨[.ref a], []⟩) (fun r s' => r = .ok (.ret (.bool true)) ∧ OldK s₁.heap s'.heap ∧ s'.os = s₁.os ∧ AllBare s'.gens) s₁ := by
  have rv := vals_ints hi
  have lenV := hi.length
  have core : ∀ H : Hp, Only H → SqL K H a (ns.map V.int) → HOk P w H s₁.heap → (∀ b, H b ≠ none → b = a) → (H a ≠ none → K.lookup a = none) →
      codeAny (model P w) callerA (.call (.ref fa) ⟨[.ref a], []⟩) (fun r s' => r = .ok (.ret (.bool true)) ∧ OldK s₁.heap s'.heap ∧ s'.os = s₁.os ∧ AllBare s'.gens) s₁ := by
    intro H hO hS hok hA hK
    have base_of : ∀ {b : Addr} {o : Obj}, s₁.heap.get? b = some o → H b = none → (hidT s₁.heap H).get? b = some o := fun e n => hidT_get e n
    have noA : ∀ {b : Addr} {o : Obj} {es : Array DictEntry} {ep : Nat}, s₁.heap.get? b = some o → o.data = .dict es ep → H b = none := fun {b o es ep} e d => by
      cases q : H b with
      | none => rfl
      | some u =>
        have e' : b = a := hA b (by rw [q]; simp)
        subst e'
        rw [ha] at e; cases e
        have d' : Data.seq vs.toArray _ = Data.dict es ep := d
        cases d'
    have nsK : ∀ {b : Addr} {m : Str → Option Value}, s₁.heap.Ns b m → (hidT s₁.heap H).Ns b m := fun {b m} ⟨o, es, ep, e, d, r⟩ => ⟨o, es, ep, base_of e (noA e d), d, r⟩
    have hKb : K.In (hidT s₁.heap H) := fun b o e => base_of (KX b o e) (by
      cases q : H b with
      | none => rfl
      | some u =>
        have e' : b = a := hA b (by rw [q]; simp)
        subst e'
        rw [hK (by rw [q]; simp)] at e; cases e)
    have hM : Mod K mg (hidT s₁.heap H) := ⟨hKb, nsK hns, ⟨mb, nsK hb, hbb⟩, let ⟨mc, h1, h2⟩ := hlim; ⟨mc, nsK h1, h2⟩⟩
    have e0 : Env0 P w K mg (hidT s₁.heap H) callerA [] s₁ H := ⟨rfl, hM, fun b o e => of_hidT e, Nat.le_of_eq (hidT_size _ _), trivial, fun b hb => absurd (show b ∈ ([] : List Addr) from hb) (by simp), hok, .of_eq hg⟩
    refine codeAny_mono ((F _ hKb (nsK hns)).run callerA [] s₁ H ⟨[.ref a], []⟩ [.ref a] [.ref a] _ _ hr e0 (hbind s₁ (.ref a)) (.cons rfl .nil) (hsp H hO hS)) fun r s' h => ?_
    cases r with
    | error e => exact (hCX H e s' h).elim
    | ok fl =>
      cases fl with
      | next => exact False.elim h
      | brk => exact False.elim h
      | cont => exact False.elim h
      | ret u =>
        obtain ⟨v, H', os, bare, un, hok', r', q⟩ := h
        have q' : v = .bl true := q
        subst q'
        obtain rfl : u = Value.bool true := r'
        refine ⟨rfl, OldK.of_keep fun b o e => ?_, os, bare⟩
        cases q : H b with
        | none => exact un.keep b o e q (by intro z; exact absurd (show b ∈ ([] : List Addr) from z) (by simp)) (by simp)
        | some u =>
          rcases hO b with z | ⟨ob, xs, z⟩
          · rw [q] at z; cases z
          · have z2 := un.frzs b ob _ z
            obtain ⟨e1, _⟩ := hok b _ z
            obtain ⟨e2, _⟩ := hok' b _ z2
            rw [e] at e1; cases e1
            exact e2
  cases hk : K.lookup a with
  | some o =>
    have e := KX a o hk
    rw [ha] at e
    cases e
    refine core (fun _ => none) (fun _ => .inl rfl) (.inr ⟨_, vs.toArray, _, hk, rfl, rfl, rfl, by rw [List.size_toArray, lenV]; exact hl, by simpa using rv⟩) (fun b u z => by have z' : (none : Option HO) = some u := z; cases z') (fun b z => absurd rfl z) fun z => absurd rfl z
  | none =>
    refine core (fun b => if b = a then some (.frz { cls := .type "list", data := .seq vs.toArray } (.lst (ns.map V.int))) else none) (fun b => ?_) (.inl (.inr ⟨{ cls := .type "list", data := .seq vs.toArray }, if_pos rfl⟩)) (fun b u z => ?_) (fun b z => ?_) fun _ => hk
    · by_cases hb : b = a
      · exact .inr ⟨_, _, if_pos hb⟩
      · exact .inl (if_neg hb)
    · by_cases hb : b = a
      · have z' := (if_pos hb).symm.trans z
        cases z'
        subst hb
        exact ⟨ha, by rw [List.length_map]; exact hl, vs, _, rv, ha⟩
      · have z' := (if_neg hb).symm.trans z
        cases z'
    · by_cases hb : b = a
      · exact hb
      · exact absurd (if_neg hb) z
end L2
namespace L2
open PySem PySem.Spec PyProof.Rows
abbrev KOf {K : PySem.W.Frag} {h : Heap} (_ : K.In h) : PySem.W.Frag := K
theorem walk_of {l : PySem.W.OpenLaw} {n k : Nat} {q : Program} {loose : List Str} {XP : (Str → Option Value) → Heap → Prop} {YP : World → Heap → Prop} {d : DefRec} {K : Params → PySem.W.Frag} {CX : World → CXT} {sp : World → Sp} {x : Str}
    (hn : l.most = some n) (hn2 : n ≤ sizeLine) (hdf : d.params.defaults = []) (hr : Room k callerA)
    (hY : ∀ (w : World) (h : Heap), YP w h → (K w.params).In h)
    (F : ∀ (w : World) (mg : Str → Option Value) (fa : Addr) (h : Heap), (K w.params).In h → h.Ns mainGlobals mg → mg d.name = some (.ref fa) →
      ∃ fd : FuncData, (∀ (s : Shared) (u : Value), BindsTo s fd ⟨[u], []⟩ [(x, u)]) ∧
        ∀ base : Heap, (K w.params).In base → base.Ns mainGlobals mg → FnOk l.prog w (K w.params) mg base (CX w) k fa fd [x] (sp w))
    (hsp : ∀ (w : World) (H : Hp) (a : Addr) (ns : List Int), ns.length ≤ n → Only H → SqL (K w.params) H a (ns.map V.int) → sp w [.ref a] H (fun v _ => v = .bl true) fun _ _ _ => False)
    (hCX : ∀ (w : World) (H : Hp) (s : Shared) (e : Value) (s' : Shared), CX w [] H s (fun _ _ _ => False) e s' → False) :
    PySem.W.WalkO q loose XP YP l.row.toRowW d [] (fun f vs => PySem.call f vs) := by
  refine Att.attach_call hn hdf fun w s₀ s₁ mg mb fa o pm cd doc a vs ns G Y ho hd hcd hmg hobj hints hlen hg => ?_
  have KX := hY w _ Y
  obtain ⟨fd, hb, hF⟩ := F w mg fa _ KX G.T.g hmg
  exact law_call KX G.T.g G.T.b G.T.builtins G.T.nolimit hg hobj hints (Nat.le_trans hlen hn2) hr hF hb (fun H hO hS => hsp w H a ns hlen hO hS) fun H e s' => hCX w H s₁ e s'
end L2
namespace L2
open PySem PySem.Spec PyProof.Rows
abbrev CX0 : CXT := fun _ _ _ _ _ _ => False
abbrev E0 : XK := fun _ _ _ => False
theorem pass0 {X : Cx} : Passes CX0 X E0 := fun _ _ _ _ _ _ _ h => h.elim
structure Fun (K : PySem.W.Frag) (x qual : Str) (st : Stmt) (f : Addr) (fd : FuncData) : Prop where
  ex : ∃ (oc : Value) (od : Option Addr) (kV doc pm : Value) (an : Option Addr) (cdv ct : Value) (osl : Array (Option Value)),
    fd = PySem.W.fnOf x qual (defArgs st) (defBody st) (defScope st) .none kV doc pm an cdv ct ∧ K.lookup f = some ⟨oc, od, .func fd, osl⟩ ∧ PySem.W.codeIn K cdv qual = true
  kp : PySem.W.keepIn K (.ref f) = true
section
variable {P : Program} {w : World} {K : PySem.W.Frag} {mg : Str → Option Value} {base : Heap}
theorem Fun.ok {x qual : Str} {st : Stmt} {f : Addr} {fd : FuncData} {N ps : List Str} {k : Nat} {sp : Sp} (F : Fun K x qual st f fd) (S : FnScope N ps (defScope st)) (len : ∀ vs H Q E, sp vs H Q E → vs.length = ps.length)
    (hbody : ∀ (cdv : Value) (A : Around) (outer : List Env) (s : Shared) (H : Hp) (vs : List V) (Q : VK) (E : XK), Room k (A.deeper (envOfC qual (defScope st) s.heap.objs.size f cdv)) → sp vs H Q E →
      ∃ t, PSs (cxOf CX0 P w K mg base N qual (defScope st) f cdv A outer s H E).nox (defBody st) t ∧ t { nx := fun _ H' => Q .non H', rt := Q } (start N vs) H) : FnOk P w K mg base CX0 (k + 1) f fd ps sp := by
  obtain ⟨oc, od, kV, doc, pm, an, cdv, ct, osl, rfl, lk, hcd⟩ := F.ex
  refine fn_of lk hcd S len fun A outer s H vs Q E hr hsp => ?_
  obtain ⟨t, h, q⟩ := hbody cdv A outer s H vs Q E hr hsp
  exact ⟨t, h.nox, q⟩
theorem Fun.binds {x qual : Str} {st : Stmt} {f : Addr} {fd : FuncData} {ps : List Str} (F : Fun K x qual st f fd)
    (h : ∀ (kV doc pm : Value) (an : Option Addr) (cdv ct : Value) (us : List Value), us.length = ps.length → bindArgs (PySem.W.fnOf x qual (defArgs st) (defBody st) (defScope st) .none kV doc pm an cdv ct) ⟨us, []⟩ = pure (ps.zip us)) : Binds K fd ps [] := by
  obtain ⟨oc, od, kV, doc, pm, an, cdv, ct, osl, rfl, lk, hcd⟩ := F.ex
  exact .all (h kV doc pm an cdv ct)
theorem fun_mk {x qual : Str} {st : Stmt} {f : Addr} {oc : Value} {od an : Option Addr} {osl : Array (Option Value)} {kV doc pm cdv ct : Value} (l : K.lookup f = some ⟨oc, od, .func (PySem.W.fnOf x qual (defArgs st) (defBody st) (defScope st) .none kV doc pm an cdv ct), osl⟩)
    (c : PySem.W.codeIn K cdv qual = true) (k : PySem.W.keepIn K (.ref f) = true) : Fun K x qual st f (PySem.W.fnOf x qual (defArgs st) (defBody st) (defScope st) .none kV doc pm an cdv ct) := ⟨⟨oc, od, kV, doc, pm, an, cdv, ct, osl, rfl, l, c⟩, k⟩
end
theorem small1000 {n : Nat} (h : n ≤ 1000) : n < sizeLine := Nat.lt_of_le_of_lt h (by decide)
section
variable {X : Cx}
end
theorem iteF {A B : Prop} (h : B) : if false = true then A else B := by
  rw [if_neg Bool.false_ne_true]
  exact h
theorem iteT {A B : Prop} (h : A) : if true = true then A else B := by
  rw [if_pos rfl]
  exact h
theorem ite2 {c A B : Prop} [Decidable c] (h1 : c → A) (h2 : ¬ c → B) : if c then A else B := by
  by_cases h : c
  · rw [if_pos h]
    exact h1 h
  · rw [if_neg h]
    exact h2 h
def Same (H H' : Hp) : Prop := ∀ b o, H b = some o → H' b = some o
theorem Same.refl (H : Hp) : Same H H := fun _ _ h => h
theorem Same.trans {H H1 H2 : Hp} (a : Same H H1) (b : Same H1 H2) : Same H H2 := fun c o h => b c o (a c o h)
theorem Same.free {H H' : Hp} (e : Same H H') {l : Addr} (h : H' l = Option.none) : H l = Option.none := by
  cases q : H l with
  | none => rfl
  | some o =>
    rw [e l o q] at h
    cases h
theorem Same.seq {K : PySem.W.Frag} {H H' : Hp} {a : Addr} {xs : List V} (e : Same H H') (h : SqL K H a xs) : SqL K H' a xs := by
  rcases h with (h | ⟨o, h⟩) | h
  · exact .inl (.inl (e _ _ h))
  · exact .inl (.inr ⟨o, e _ _ h⟩)
  · exact .inr h
end L2

set_option Elab.async false
set_option linter.all false
set_option maxRecDepth 100000
namespace L2
open PySem PySem.Spec PyProof.Rows
theorem forIn_yield_fold {α β : Type} {l : List α} {f : α → β → Sem (ForInStep β)} (g : β → α → β) (c : β) (h : ∀ x ∈ l, ∀ c, f x c = pure (.yield (g c x))) :
    forIn l c f = pure (l.foldl g c) := by
  induction l generalizing c with
  | nil => rfl
  | cons x l ih =>
    rw [List.forIn_cons, h x List.mem_cons_self, pure_bind]
    exact ih _ fun y hy => h y (List.mem_cons_of_mem _ hy)
def clStep (env : Env) (cs : List (Str × Addr)) (x : Str × NameKind) : List (Str × Addr) :=
  if x.2 == .free then (x.1, (env.cells.lookup x.1).getD 0) :: cs else cs
def clOf (env : Env) (names : List (Str × NameKind)) : List (Str × Addr) := names.foldl (clStep env) []
theorem closureFor_clOf {scope : Scope} {env : Env} (h : ∀ x ∈ scope.names, x.2 = .free → ∃ c, env.cells.lookup x.1 = some c) : closureFor scope env = pure (clOf env scope.names) := by
  simp only [closureFor]
  rw [forIn_yield_fold (clStep env) [] (fun x hx c => by
    obtain ⟨n, kind⟩ := x
    cases hk : kind == NameKind.free with
    | false => simp only [clStep, hk, Bool.false_eq_true, if_false]
    | true =>
      obtain ⟨a, ha⟩ := h (n, kind) hx (by simpa using hk)
      have ha' : env.cells.lookup n = some a := ha
      simp only [clStep, hk, if_true, cellOf, ha', Option.getD_some, pure_bind])]
  rfl
theorem clOf_mem {env : Env} : ∀ {names : List (Str × NameKind)} {cs : List (Str × Addr)} {n : Str} {c : Addr}, (n, c) ∈ names.foldl (clStep env) cs → (n, c) ∈ cs ∨ ((n, NameKind.free) ∈ names ∧ c = (env.cells.lookup n).getD 0)
  | [], _, _, _, h => .inl h
  | (m, k) :: r, cs, n, c, h => by
    rcases clOf_mem (names := r) (cs := clStep env cs (m, k)) h with h | ⟨h, e⟩
    · unfold clStep at h
      by_cases hk : (k == NameKind.free) = true
      · rw [if_pos hk] at h
        rcases List.mem_cons.mp h with e | h
        · cases e
          have hk' : k = .free := by simpa using hk
          subst hk'
          exact .inr ⟨List.mem_cons_self, rfl⟩
        · exact .inl h
      · rw [if_neg hk] at h
        exact .inl h
    · exact .inr ⟨List.mem_cons_of_mem _ h, e⟩
theorem clOf_keep {env : Env} {p : Str × Addr} : ∀ {names : List (Str × NameKind)} {cs : List (Str × Addr)}, p ∈ cs → p ∈ names.foldl (clStep env) cs
  | [], _, h => h
  | x :: r, cs, h => clOf_keep (names := r) (cs := clStep env cs x) (by
    unfold clStep
    split
    · exact List.mem_cons_of_mem _ h
    · exact h)
theorem clOf_in {env : Env} {n : Str} : ∀ {names : List (Str × NameKind)} {cs : List (Str × Addr)}, (n, NameKind.free) ∈ names → (n, (env.cells.lookup n).getD 0) ∈ names.foldl (clStep env) cs
  | x :: r, cs, h => by
    rcases List.mem_cons.mp h with e | h
    · subst e
      refine clOf_keep (names := r) (cs := clStep env cs (n, .free)) ?_
      unfold clStep
      rw [if_pos (by rfl)]
      exact List.mem_cons_self
    · exact clOf_in (names := r) h
theorem lookup_of_mem {α : Type} : ∀ {l : List (Str × α)} {n : Str} {c : α}, (n, c) ∈ l → ∃ c', l.lookup n = some c'
  | (k, v) :: r, n, c, h => by
    rw [List.lookup_cons]
    cases hb : n == k with
    | true => exact ⟨v, rfl⟩
    | false =>
      rcases List.mem_cons.mp h with e | h
      · cases e; simp at hb
      · exact lookup_of_mem h
theorem cellsFrom_mem : ∀ {names : List (Str × NameKind)} {k : Nat} {acc : List (Str × Addr)} {n : Str} {c : Addr}, (n, c) ∈ cellsFrom k names acc → (n, c) ∈ acc ∨ (k ≤ c ∧ (n, NameKind.cell) ∈ names)
  | [], _, _, _, _, h => .inl h
  | (m, kd) :: r, k, acc, n, c, h => by
    unfold cellsFrom at h
    by_cases hk : (kd == NameKind.cell) = true
    · rw [if_pos hk] at h
      have hk' : kd = .cell := by simpa using hk
      subst hk'
      rcases cellsFrom_mem (names := r) h with h | ⟨h1, h2⟩
      · rcases List.mem_cons.mp h with e | h
        · cases e
          exact .inr ⟨Nat.le_refl _, List.mem_cons_self⟩
        · exact .inl h
      · exact .inr ⟨by omega, List.mem_cons_of_mem _ h2⟩
    · rw [if_neg hk] at h
      rcases cellsFrom_mem (names := r) h with h | ⟨h1, h2⟩
      · exact .inl h
      · exact .inr ⟨h1, List.mem_cons_of_mem _ h2⟩
theorem cellsFrom_inj : ∀ {names : List (Str × NameKind)} {k : Nat} {acc : List (Str × Addr)}, (∀ n c, (n, c) ∈ acc → c < k) → (∀ n n' c, (n, c) ∈ acc → (n', c) ∈ acc → n = n') →
    ∀ {n n' : Str} {c : Addr}, (n, c) ∈ cellsFrom k names acc → (n', c) ∈ cellsFrom k names acc → n = n'
  | [], _, _, _, hi, _, _, _, h, h' => hi _ _ _ h h'
  | (m, kd) :: r, k, acc, hl, hi, n, n', c, h, h' => by
    unfold cellsFrom at h h'
    by_cases hk : (kd == NameKind.cell) = true
    · rw [if_pos hk] at h h'
      refine cellsFrom_inj (names := r) (acc := (m, k) :: acc) (fun a b hab => ?_) (fun a a' b ha ha' => ?_) h h'
      · rcases List.mem_cons.mp hab with e | e
        · cases e; exact Nat.lt_succ_self _
        · exact Nat.lt_succ_of_lt (hl _ _ e)
      · rcases List.mem_cons.mp ha with e | e <;> rcases List.mem_cons.mp ha' with e' | e'
        · cases e; cases e'; rfl
        · cases e; exact absurd (hl _ _ e') (Nat.lt_irrefl _)
        · cases e'; exact absurd (hl _ _ e) (Nat.lt_irrefl _)
        · exact hi _ _ _ e e'
    · rw [if_neg hk] at h h'
      exact cellsFrom_inj (names := r) hl hi h h'
theorem cellsFrom_cell : ∀ {names : List (Str × NameKind)} {h : Heap} {acc : List (Str × Addr)} {n : Str} {c : Addr}, (n, c) ∈ cellsFrom h.objs.size names acc → (n, c) ∈ acc ∨ (pushCells h names).IsCell c none
  | [], _, _, _, _, q => .inl q
  | (m, kd) :: r, h, acc, n, c, q => by
    unfold cellsFrom at q
    unfold pushCells
    by_cases hk : (kd == NameKind.cell) = true
    · rw [if_pos hk] at q
      rw [if_pos hk]
      have e : h.objs.size + 1 = (h.push { cls := .type "cell", data := .cell none }).objs.size := (Heap.size_push ..).symm
      rw [e] at q
      rcases cellsFrom_cell (names := r) q with q | q
      · rcases List.mem_cons.mp q with e' | q
        · cases e'
          exact .inr ⟨_, pushCells_keeps r _ _ _ (Heap.get?_push_size _ rfl), rfl⟩
        · exact .inl q
      · exact .inr q
    · rw [if_neg hk] at q
      rw [if_neg hk]
      exact cellsFrom_cell (names := r) q
theorem cellsFrom_acc {x : Str} : ∀ {names : List (Str × NameKind)} {k : Nat} {acc : List (Str × Addr)}, (x, NameKind.cell) ∉ names → (cellsFrom k names acc).lookup x = acc.lookup x
  | [], _, _, _ => rfl
  | (m, kd) :: r, k, acc, h => by
    unfold cellsFrom
    have hr : (x, NameKind.cell) ∉ r := fun z => h (List.mem_cons_of_mem _ z)
    by_cases hk : (kd == NameKind.cell) = true
    · have hk' : kd = .cell := by simpa using hk
      subst hk'
      rw [if_pos hk, cellsFrom_acc hr, List.lookup_cons]
      have ne : (x == m) = false := by
        cases hb : x == m with
        | false => rfl
        | true => exact absurd (by rw [beq_iff_eq.mp hb]; exact List.mem_cons_self) h
      rw [ne]
    · rw [if_neg hk]
      exact cellsFrom_acc hr
section
variable {M : Model} {A : Around} {E : Value → Shared → Prop} {s : Shared}
theorem newCompEnv_ {scope : Scope} {globals : Addr} {cl : List (Str × Addr)} {qual : Str} {env0 : Env} {Q : Env → Shared → Prop}
    (h : Q (newEnv scope s.heap.objs.size globals (cellsFrom (s.heap.objs.size + 1) scope.names cl) qual none .none (some env0) builtinsNs) { s with heap := pushCells (s.heap.push { cls := .type "dict", data := .dict #[] }) scope.names }) :
    wpAny M A (newFunctionEnv scope globals cl [] qual none .none (some env0)) Q E s := by
  simp only [newFunctionEnv, Option.isSome_some, if_true]
  refine wpAny_bind (wpAny_alloc ?_)
  refine wpAny_bind (wpAny_layCells _ (fun name kind cells => by cases hkc : kind == NameKind.cell <;> simp [hkc]) _ _ _ _ ?_)
  rw [show ({ s with heap := s.heap.push { cls := .type "dict", data := .dict #[] } } : Shared).heap.objs.size = s.heap.objs.size + 1 from Heap.size_push ..]
  refine wpAny_bind ?_
  rw [List.forIn_nil]
  exact wpAny_pure (wpAny_pure h)
end
structure CB where
  C : Addr
  ex : List Addr
  s : Shared
  H : Hp
def cxC (X : Cx) (N : List Str) (scope : Scope) (b : CB) : Cx := { X with
  N := N
  s₀ := b.s
  H₀ := b.H
  env := compEnvC scope (cellsFrom (b.C + 1) scope.names (clOf X.env scope.names)) b.C X.env
  outer := X.stack
  ex := b.ex
  fn := fun x => scope.names.lookup x == some .cell
  pn := []
  xe := fun _ _ => False }
theorem lookup_relabel {env : Env} {x : Str} : ∀ {names : List (Str × NameKind)},
    (names.map fun (n, k) => if (k == NameKind.free && env.scope.kind == .function && env.kindOf n == some .cell) then (n, NameKind.cell) else (n, k)).lookup x =
      (names.lookup x).map fun k => if (k == NameKind.free && env.scope.kind == .function && env.kindOf x == some .cell) then NameKind.cell else k
  | [] => rfl
  | (n, k) :: r => by
    have ih := @lookup_relabel env x r
    show List.lookup x ((if (k == NameKind.free && env.scope.kind == .function && env.kindOf n == some .cell) = true then (n, NameKind.cell) else (n, k)) :: _) = _
    cases hx : x == n with
    | true =>
      have e : x = n := beq_iff_eq.mp hx
      subst e
      by_cases hc : (k == NameKind.free && env.scope.kind == .function && env.kindOf x == some .cell) = true
      · rw [if_pos hc]; simp only [List.lookup_cons, hx, Option.map_some, hc, if_true]
      · rw [if_neg hc]; simp only [List.lookup_cons, hx, Option.map_some]; rw [if_neg hc]
    | false =>
      by_cases hc : (k == NameKind.free && env.scope.kind == .function && env.kindOf n == some .cell) = true
      · rw [if_pos hc]; simp only [List.lookup_cons, hx]; exact ih
      · rw [if_neg hc]; simp only [List.lookup_cons, hx]; exact ih
structure CompOk (psc : Scope) (PN N : List Str) (own : Nat) (fr : List Nat) (scope : Scope) : Prop where
  kind : scope.kind = .function
  nd : (scope.names.map (·.1)).Nodup
  free : ∀ x ∈ scope.names, x.2 = .free → psc.names.lookup x.1 = some .cell ∨ psc.names.lookup x.1 = some .free
  len : N.length = own + fr.length
  frn : ∀ i, i < fr.length → N[own + i]? = (fr[i]?).bind fun j => PN[j]?
  frk : ∀ i, i < fr.length → ∀ y, N[own + i]? = some y → scope.names.lookup y = some .free
def compOkB (psc : Scope) (PN N : List Str) (own : Nat) (fr : List Nat) (scope : Scope) : Bool :=
  scope.kind == .function && decide (scope.names.map (·.1)).Nodup && scope.names.all (fun x => x.2 != .free || (psc.names.lookup x.1 == some .cell || psc.names.lookup x.1 == some .free)) &&
    (N.length == own + fr.length) && ((fr.map fun j => PN[j]?) == (N.drop own).map some) && (N.drop own).all (fun y => scope.names.lookup y == some .free)
theorem CompOk.of {psc : Scope} {PN N : List Str} {own : Nat} {fr : List Nat} {scope : Scope} (h : compOkB psc PN N own fr scope = true) : CompOk psc PN N own fr scope := by
  unfold compOkB at h
  simp only [Bool.and_eq_true] at h
  obtain ⟨⟨⟨⟨⟨h1, h2⟩, h3⟩, h4⟩, h5⟩, h6⟩ := h
  have h4' : N.length = own + fr.length := eq_of_beq h4
  have h5' : (fr.map fun j => PN[j]?) = (N.drop own).map some := eq_of_beq h5
  have dr : ∀ i, N[own + i]? = (N.drop own)[i]? := fun i => by rw [List.getElem?_drop]
  refine ⟨eq_of_beq h1, of_decide_eq_true h2, fun x hx hk => ?_, h4', fun i hi => ?_, fun i hi y hy => ?_⟩
  · have q := List.all_eq_true.mp h3 x hx
    rw [hk] at q
    simpa using q
  · have q := congrArg (fun l => l[i]?) h5'
    simp only [List.getElem?_map] at q
    rw [dr]
    have ej : fr[i]? = some fr[i] := List.getElem?_eq_getElem hi
    rw [ej] at q ⊢
    cases e : (N.drop own)[i]? with
    | none => rw [e] at q; cases q
    | some y =>
      rw [e] at q
      exact (Option.some.inj q).symm
  · rw [dr] at hy
    have q := List.all_eq_true.mp h6 y (List.mem_of_getElem? hy)
    simpa using q
def cSt (own : Nat) (fr : List Nat) (σ : St) : St := List.replicate own none ++ fr.map fun j => (σ[j]?).getD none
theorem nodup_lookup {α : Type} : ∀ {l : List (Str × α)} {n : Str} {k : α}, (l.map (·.1)).Nodup → (n, k) ∈ l → l.lookup n = some k
  | (m, v) :: r, n, k, nd, h => by
    rw [List.map_cons, List.nodup_cons] at nd
    rw [List.lookup_cons]
    rcases List.mem_cons.mp h with e | h
    · cases e; simp
    · have ne : (n == m) = false := by
        cases hb : n == m with
        | false => rfl
        | true => exact absurd (List.mem_map.mpr ⟨(n, k), h, beq_iff_eq.mp hb⟩) nd.1
      rw [ne]
      exact nodup_lookup nd.2 h
section
variable {X : Cx} {pins : List (Addr × Obj)} {σ : St} {H : Hp} {s : Shared} {N : List Str} {own : Nat} {fr : List Nat} {scope : Scope}
theorem CompOk.cells (S : CompOk X.env.scope X.N N own fr scope) (ok : X.Ok) : ∀ x ∈ scope.names, x.2 = .free → ∃ c, X.env.cells.lookup x.1 = some c := fun x hx hk =>
  ok.has x.1 (S.free x hx hk)
theorem CompOk.cl (S : CompOk X.env.scope X.N N own fr scope) (ok : X.Ok) {n : Str} {c : Addr} (h : (n, c) ∈ clOf X.env scope.names) : X.env.cells.lookup n = some c := by
  rcases clOf_mem h with h | ⟨h, e⟩
  · cases h
  · obtain ⟨c', e'⟩ := S.cells ok (n, .free) h rfl
    have e2 : X.env.cells.lookup n = some c' := e'
    rw [e2] at e
    rw [e, e2]
    rfl
theorem inv_comp {D C : Addr} {h' : Heap} {fp : List Addr} (S : CompOk X.env.scope X.N N own fr scope) (I : Inv X pins σ H s) (hD : D = s.heap.objs.size) (hC : C = s.heap.objs.size + 1)
    (hh : h' = pushCells ((s.heap.push { cls := .type "list", data := .seq #[] }).push { cls := .type "dict", data := .dict #[] }) scope.names) (hfp : ∀ b ∈ fp, FpOk X pins H b) (hlt : ∀ b ∈ fp, b < s.heap.objs.size) :
    Inv (cxC X N scope ⟨C, fp, s, H⟩) [] (cSt own fr σ) (upd H D (.lst [])) { s with heap := h' } := by
  subst hD hC
  have eD : (s.heap.push { cls := .type "list", data := .seq #[] }).objs.size = s.heap.objs.size + 1 := Heap.size_push ..
  have eC : ((s.heap.push { cls := .type "list", data := .seq #[] }).push { cls := .type "dict", data := .dict #[] }).objs.size = s.heap.objs.size + 2 := by rw [Heap.size_push, eD]
  have keep : ∀ b o, s.heap.get? b = some o → h'.get? b = some o := fun b o e => by
    rw [hh]
    exact pushCells_keeps _ _ _ _ (Heap.get?_push_of_some _ (Heap.get?_push_of_some _ e))
  have lst : h'.get? s.heap.objs.size = some { cls := .type "list", data := .seq #[] } := by
    rw [hh]
    exact pushCells_keeps _ _ _ _ (Heap.get?_push_of_some _ (Heap.get?_push_size _ rfl))
  have dct : h'.get? (s.heap.objs.size + 1) = some { cls := .type "dict", data := .dict #[] } := by
    rw [hh]
    refine pushCells_keeps _ _ _ _ ?_
    have := Heap.get?_push_size (s.heap.push { cls := .type "list", data := .seq #[] }) (o := { cls := .type "dict", data := .dict #[] }) rfl
    rw [eD] at this
    exact this
  have hnD : H s.heap.objs.size = none := I.hok.fresh (Nat.le_refl _)
  have hnC : H (s.heap.objs.size + 1) = none := I.hok.fresh (Nat.le_succ _)
  have inCl : ∀ {n : Str} {c : Addr}, (n, c) ∈ clOf X.env scope.names → X.env.cells.lookup n = some c := fun h => S.cl I.ok h
  have clt : ∀ {n : Str} {c : Addr}, X.env.cells.lookup n = some c → c < s.heap.objs.size := fun h => by
    obtain ⟨v, z⟩ := I.cell _ _ h
    exact z.lt
  have cases_ : ∀ {n : Str} {c : Addr}, (cellsFrom (s.heap.objs.size + 1 + 1) scope.names (clOf X.env scope.names)).lookup n = some c → X.env.cells.lookup n = some c ∨ (s.heap.objs.size + 2 ≤ c ∧ (n, NameKind.cell) ∈ scope.names ∧ h'.IsCell c none) := fun {n c} h => by
    have hm := PySem.mem_of_lookup h
    have hcell := hm
    rw [show s.heap.objs.size + 1 + 1 = ((s.heap.push { cls := .type "list", data := .seq #[] }).push { cls := .type "dict", data := .dict #[] }).objs.size from eC.symm] at hcell
    rcases cellsFrom_mem hm with h1 | ⟨h1, h2⟩
    · exact .inl (inCl h1)
    · rcases cellsFrom_cell hcell with h3 | h3
      · exact .inl (inCl h3)
      · exact .inr ⟨h1, h2, by rw [hh]; exact h3⟩
  have kindOf : ∀ x, (cxC X N scope ⟨s.heap.objs.size + 1, fp, s, H⟩).env.kindOf x = (scope.names.lookup x).map fun k => if (k == NameKind.free && X.env.scope.kind == .function && X.env.kindOf x == some .cell) then NameKind.cell else k := fun x => lookup_relabel
  have hasName : ∀ x, ((cxC X N scope ⟨s.heap.objs.size + 1, fp, s, H⟩).env.kindOf x = some .cell ∨ (cxC X N scope ⟨s.heap.objs.size + 1, fp, s, H⟩).env.kindOf x = some .free) → ∃ c, (cellsFrom (s.heap.objs.size + 1 + 1) scope.names (clOf X.env scope.names)).lookup x = some c := fun x hx => by
    rw [kindOf] at hx
    have h2 : scope.names.lookup x = some .cell ∨ scope.names.lookup x = some .free := by
      cases e : scope.names.lookup x with
      | none => rw [e] at hx; rcases hx with z | z <;> cases z
      | some k =>
        rw [e] at hx
        by_cases hk : k = .free
        · exact .inr (by rw [hk])
        · have hk' : (k == NameKind.free) = false := by simpa using hk
          simp only [Option.map_some, hk', Bool.false_and, Bool.false_eq_true, if_false] at hx
          rcases hx with z | z
          · exact .inl z
          · exact .inr z
    rcases h2 with h2 | h2
    · exact Option.isSome_iff_exists.mp (PySem.W.cellsFrom_some scope.names _ _ (.inl h2))
    · obtain ⟨c, hc⟩ := lookup_of_mem (clOf_in (env := X.env) (cs := []) (PySem.mem_of_lookup h2))
      exact Option.isSome_iff_exists.mp (PySem.W.cellsFrom_some scope.names _ _ (.inr (by rw [show (clOf X.env scope.names).lookup x = some c from hc]; rfl)))
  have cellAt : ∀ x c, (cellsFrom (s.heap.objs.size + 1 + 1) scope.names (clOf X.env scope.names)).lookup x = some c → ∃ v, h'.IsCell c v := fun x c e => by
    rcases cases_ e with q | ⟨_, _, q⟩
    · obtain ⟨v, o, ho, hd⟩ := I.cell x c q
      exact ⟨v, o, keep c o ho, hd⟩
    · exact ⟨none, q⟩
  refine ⟨⟨I.ok.mod, S.kind, I.ok.glob, I.ok.blt, Nat.le_succ _, fun y z c h1 h2 => ?_, hasName, fun y c hy h => ?_, I.ok.hd, I.ok.frames, .inl rfl, fun b hb => ⟨?_, fun x c e z => ?_⟩, fun b o e => I.bs b o e, Nat.le_trans I.ok.bsz I.sz, fun b o e hb => ?_, fun b hb hf => ?_, I.stack, I.stkFree⟩,
    rfl, I.bare, ?_, ⟨fun _ => none, ⟨_, #[], _, dct, rfl, fun e he => absurd he (by simp), fun _ => rfl⟩, fun i x v h1 h2 h3 => ?_⟩, cellAt, ?_, fun x c e => ?_, fun p hp => absurd (show p ∈ ([] : List (Addr × Obj)) from hp) (by simp), ?_, ?_⟩
  ·
    refine cellsFrom_inj (fun n c hm => ?_) (fun n n' c hm hm' => I.ok.inj n n' c (inCl hm) (inCl hm')) (PySem.mem_of_lookup h1) (PySem.mem_of_lookup h2)
    exact Nat.lt_succ_of_lt (Nat.lt_succ_of_lt (clt (inCl hm)))
  ·
    have hy' : scope.names.lookup y = some .cell := by simpa using (show (scope.names.lookup y == some .cell) = true from hy)
    rcases cases_ h with q | ⟨q, _⟩
    · rcases cellsFrom_mem (PySem.mem_of_lookup h) with q2 | ⟨q2, _⟩
      · rcases clOf_mem q2 with z | ⟨z, _⟩
        · cases z
        · have := nodup_lookup S.nd z
          rw [hy'] at this
          cases this
      · exact Nat.le_trans (Nat.le_add_right _ 2) q2
    · exact Nat.le_trans (Nat.le_add_right _ 2) q
  · exact Nat.ne_of_lt (Nat.lt_succ_of_lt (hlt b hb))
  · rcases cases_ e with q | ⟨q, _⟩
    · exact (hfp b hb).2.2.2.2.1 x c q z
    · have hb' := hlt b hb
      rw [← z] at hb'
      exact absurd (Nat.lt_of_lt_of_le hb' (Nat.le_trans (Nat.le_add_right _ 2) q)) (Nat.lt_irrefl _)
  · rcases (hfp b hb).2.2.2.1 with z | z
    · exact I.ok.noex b o e z
    · exact Nat.lt_irrefl _ (Nat.lt_of_lt_of_le (Heap.lt_size e) (Nat.le_trans I.ok.bsz z))
  · rcases List.mem_cons.mp (I.stkSub b hf) with z | z
    · exact (hfp b hb).2.1 z
    · exact (hfp b hb).2.2.1 z
  · exact Un.laid keep (Nat.le_refl _) hnD
  ·
    have h1 : N[i]? = some x := h1
    have hlen : i < N.length := (List.getElem?_eq_some_iff.mp h1).1
    by_cases hi : i < own
    · exfalso
      have h2' : (cSt own fr σ)[i]? = some none := by
        unfold cSt
        rw [List.getElem?_append_left (by simpa using hi), List.getElem?_replicate, if_pos hi]
      rw [h2'] at h2
      cases h2
    · have hfi : i - own < fr.length := by have := S.len; omega
      have ei : own + (i - own) = i := by omega
      have hk := S.frk (i - own) hfi x (by rw [ei]; exact h1)
      have hn := S.frn (i - own) hfi
      rw [ei, h1] at hn
      have ej : fr[i - own]? = some fr[i - own] := List.getElem?_eq_getElem hfi
      rw [ej] at hn
      have hn' : X.N[fr[i - own]]? = some x := hn.symm
      have h2' : (cSt own fr σ)[i]? = some ((σ[fr[i - own]]?).getD none) := by
        unfold cSt
        rw [List.getElem?_append_right (by simpa using Nat.not_lt.mp hi), List.length_replicate, List.getElem?_map, ej]
        rfl
      rw [h2'] at h2
      have h2'' : (σ[fr[i - own]]?).getD none = some v := Option.some.inj h2
      have hσ : σ[fr[i - own]]? = some (some v) := by
        cases e : σ[fr[i - own]]? with
        | none => rw [e] at h2''; cases h2''
        | some w => rw [e] at h2''; exact congrArg some h2''
      obtain ⟨m, hm, hl⟩ := I.loc
      have hfree := S.free (x, .free) (PySem.mem_of_lookup hk) rfl
      obtain ⟨u, r, l⟩ := hl _ x v hn' hσ (hfree.elim (fun z => .inr (.inl z)) fun z => .inr (.inr z))
      refine ⟨u, r, .inr ?_⟩
      have hcell : ∃ c, X.env.cells.lookup x = some c ∧ s.heap.IsCell c (some u) := by
        rcases l with ⟨l, _⟩ | ⟨_, c, e, z⟩
        · exfalso
          rcases hfree with z | z
          · have l' : X.env.scope.names.lookup x = some .local := l
            have z' : X.env.scope.names.lookup x = some .cell := z
            rw [l'] at z'; cases z'
          · have l' : X.env.scope.names.lookup x = some .local := l
            have z' : X.env.scope.names.lookup x = some .free := z
            rw [l'] at z'; cases z'
        · exact ⟨c, e, z⟩
      obtain ⟨c, e, o, ho, hd⟩ := hcell
      refine ⟨?_, c, ?_, o, keep c o ho, hd⟩
      · rw [kindOf, hk]
        by_cases z : (X.env.scope.kind == .function && X.env.kindOf x == some .cell) = true
        · left
          simp only [Option.map_some, beq_self_eq_true, Bool.true_and, z, if_true]
        · right
          simp only [Option.map_some, beq_self_eq_true, Bool.true_and]
          rw [if_neg z]
      · show (cellsFrom (s.heap.objs.size + 1 + 1) scope.names (clOf X.env scope.names)).lookup x = some c
        rw [cellsFrom_acc fun z => by
          have := nodup_lookup S.nd z
          rw [hk] at this
          cases this]
        obtain ⟨c', hc'⟩ := lookup_of_mem (clOf_in (env := X.env) (cs := []) (PySem.mem_of_lookup hk))
        have hc2 : (clOf X.env scope.names).lookup x = some c' := hc'
        rw [hc2]
        have := inCl (PySem.mem_of_lookup hc2)
        rw [e] at this
        exact this.symm
  · show upd H s.heap.objs.size (.lst []) (s.heap.objs.size + 1) = none
    rw [upd_ne (Nat.ne_of_gt (Nat.lt_succ_self _))]
    exact hnC
  · rcases cases_ e with q | ⟨q, _⟩
    · have := clt q
      rw [upd_ne (Nat.ne_of_lt this)]
      exact I.freeC x c q
    · rw [upd_ne (Nat.ne_of_gt (Nat.lt_of_lt_of_le (Nat.lt_add_of_pos_right (by decide)) q))]
      exact I.hok.fresh (Nat.le_trans (Nat.le_add_right _ 2) q)
  · exact I.hok.laid keep (Nat.le_refl _) ⟨Nat.zero_le _, [], 0, .nil, lst⟩
  · show (cSt own fr σ).length = N.length
    unfold cSt
    rw [List.length_append, List.length_replicate, List.length_map, S.len]
end
def PF (X : Cx) (ifs : List Expr) (t : TT) : Prop :=
  ∀ (pins : List (Addr × Obj)) (s : Shared) (σ : St) (H : Hp) (Q : Bool → Hp → Prop), Inv X pins σ H s → t σ H Q →
    wpAny (model X.prog X.w) X.A (forIn ifs true fun c r => if r = true then do let ok ← isTrue c X.env (eval c X.env); pure (ForInStep.yield ok) else pure (ForInStep.yield r)) (TP X pins σ Q) X.xe s
def tYes : TT := fun _ H Q => Q true H
theorem pf_nil {X : Cx} : PF X [] tYes := fun _ _ _ H _ I h => wpAny_tests_nil ⟨H, I, h⟩
theorem pf_one {X : Cx} {c : Expr} {t : TT} (h : PT X c t) : PF X [c] t := fun pins s σ H Q I hw => wpAny_tests_one (h pins s σ H Q I hw)
theorem compLoop_any {prog : Program} {w : World} {A : Around} {R : Result → Shared → Prop} {s : Shared} {elt target iter : Expr} {ifs : List Expr} {scope : Scope} {pos : Pos} {it acc : Value} {env : Env} (I : Nat → Shared → Prop)
    (turn : ∀ n s, I n s → wpAny (model prog w) A (pyNext it) (fun r s₁ => match r with
      | none => R (.ok .next) s₁
      | some v => wpAny (model prog w) A (letOwnedTupleGo target it v) (fun _ s₁' => wpAny (model prog w) A (assign target env v) (fun _ s₂ =>
          wpAny (model prog w) A (forIn ifs true fun c r => if r = true then do let ok ← isTrue c env (eval c env); pure (ForInStep.yield ok) else pure (ForInStep.yield r)) (fun ok s₃ =>
            if ok = true then wpAny (model prog w) A (eval elt env) (fun x s₄ =>
              wpAny (model prog w) A (call (.builtin "list.append") [acc, x]) (fun _ s₅ => ∃ m, m < n ∧ I m s₅) (fun _ _ => False) s₄) (fun _ _ => False) s₃
            else ∃ m, m < n ∧ I m s₃) (fun _ _ => False) s₂) (fun _ _ => False) s₁') (fun _ _ => False) s₁) (fun _ _ => False) s)
    (n : Nat) (h : I n s) :
    codeAny (model prog w) A (.compLoop (.ListComp elt [⟨target, iter, ifs, 0⟩] scope pos) 0 it acc env) R s := by
  refine codeAny_loop rfl I (fun n s hI => ?_) n h
  show wpAny _ A ((compTurn (.ListComp elt [⟨target, iter, ifs, 0⟩] scope pos) 0 it acc env).onRaise (fun x => do noteFrame x env; theTreesLotGoes x)) _ _ s
  refine wpAny_noted ?_
  rw [compTurn_list]
  have no : ∀ {α : Type} {t : Sem α} {Q : α → Shared → Prop} {E' : Value → Shared → Prop} {s' : Shared}, wpAny (model prog w) A t Q (fun _ _ => False) s' → wpAny (model prog w) A t Q E' s' := fun h => wpAny_mono h (fun _ _ q => q) fun _ _ z => z.elim
  refine wpAny_bind (wpAny_standAt (wpAny_bind (no (wpAny_mono (turn n s hI) (fun r s₁ h₁ => ?_) fun _ _ h' => h'))))
  cases r with
  | none => exact wpAny_pure h₁
  | some v =>
    refine wpAny_bind (no (wpAny_mono h₁ (fun _ s₁' h₁' => ?_) fun _ _ h' => h'))
    refine wpAny_bind (no (wpAny_mono h₁' (fun _ s₂ h₂ => wpAny_bind (no (wpAny_mono h₂ (fun ok s₃ h₃ => ?_) fun _ _ h' => h'))) fun _ _ h' => h'))
    cases ok with
    | false => exact wpAny_pure ⟨rfl, h₃⟩
    | true =>
      exact wpAny_bind (wpAny_bind (no (wpAny_mono h₃ (fun x s₄ h₄ => wpAny_bind (no (wpAny_mono h₄ (fun _ s₅ h₅ => wpAny_pure (wpAny_pure ⟨rfl, h₅⟩)) fun _ _ h' => h'))) fun _ _ h' => h')))
structure tBlock (J : It) (own : Nat) (fr : List Nat) (g : CB → TG) (tf : CB → TT) (te : CB → TE) (Q : VK) (σ : St) (H1 : Hp) : Prop where
  go : ∀ (b : CB) (D : Addr), H1 D = none → ∃ W : Nat → Nat → St → Hp → Prop, (∃ m, W 0 m (cSt own fr σ) (upd H1 D (.lst []))) ∧ ∀ i m σ' H', W i m σ' H' →
    (J.stop i H' ∧ Q (.ref D) H') ∨ (J.go i H' ∧ ∃ M : St → Hp → Prop, (∀ σ2 H2, M σ2 H2 → ∃ m', m' < m ∧ W (i + 1) m' σ2 H2) ∧ ∀ x H2, J.yld i H' x H2 → g b x σ' H2 fun σ3 H3 => tf b σ3 H3 fun k H4 =>
      if k = true then te b σ3 H4 fun y H5 => ∃ ys, H5 D = some (.lst ys) ∧ ys.length < sizeLine ∧ M σ3 (upd H5 D (.lst (ys ++ [y]))) else M σ3 H4)
def tComp (wi : TI) (own : Nat) (fr : List Nat) (g : CB → TG) (tf : CB → TT) (te : CB → TE) : TE := fun σ H Q => wi σ H fun J H1 => tBlock J own fr g tf te Q σ H1
section
variable {X : Cx} {tg iter elt : Expr} {ifs : List Expr} {scope : Scope} {pos : Pos} {N : List Str} {own : Nat} {fr : List Nat} {wi : TI} {g : CB → TG} {tf : CB → TT} {te : CB → TE}
theorem comp_run {use : Option (Value → Sem Unit)} {R : Value → Shared → Prop} {pins : List (Addr × Obj)} {s : Shared} {σ : St} {H : Hp} {Q : VK} (S : CompOk X.env.scope X.N N own fr scope) (hc : X.calm = true) (hi : PI X tg iter wi)
    (hg : ∀ b, PG (cxC X N scope b) tg (g b)) (hf : ∀ b, PF (cxC X N scope b) ifs (tf b)) (he : ∀ b, PE (cxC X N scope b) elt (te b)) (hs : ∀ x, foldedSetIterable iter X.env x = pure x) (I : Inv X pins σ H s) (h : tComp wi own fr g tf te σ H Q)
    (fin : ∀ (D C : Addr) (oC : Obj) (m : Str → Option Value) (H' : Hp) (s' : Shared), Inv X (pins ++ [(C, oC)]) σ H' s' → X.s₀.heap.objs.size ≤ C → (∀ p ∈ X.pn ++ pins, p.1 ≠ C) → (∀ h' : Heap, h'.get? C = some oC → h'.Ns C m) → Q (.ref D) H' → compPost (model X.prog X.w) X.A X.xe use R (.ref D) C (.ok .next) s') :
    wpAny (model X.prog X.w) X.A (comprehension (.ListComp elt [⟨tg, iter, ifs, 0⟩] scope pos) scope X.env (firstIterPos [⟨tg, iter, ifs, 0⟩] pos) (newList []) false (eval iter X.env) use) R X.xe s := by
  refine wpAny_comprehension_free rfl hs (closureFor_clOf (S.cells I.ok)) S.kind (fun x hx hk => ?_) (thn (hi pins s σ H _ I h) fun v s1 h1 => thn h1 fun itv s2 h2 => ?_)
  · have := nodup_lookup S.nd (show (x.1, x.2) ∈ scope.names from hx)
    rw [this, hk]
  obtain ⟨it, fp, tn, J, H2, e, I2, T, st2, f2, q⟩ := h2
  subst e
  refine wpAny_newObj_type ?_
  refine newCompEnv_ ?_
  have eD : (s2.heap.push { cls := .type "list", data := .seq #[] }).objs.size = s2.heap.objs.size + 1 := Heap.size_push ..
  have hD : H2 s2.heap.objs.size = none := I2.hok.fresh (Nat.le_refl _)
  have hlt : ∀ b ∈ fp, b < s2.heap.objs.size := fun b hb => by
    obtain ⟨o, ho, _⟩ := T.obj 0 _ st2 b hb
    exact Heap.lt_size ho
  obtain ⟨W, ⟨m0, w0⟩, turn⟩ := q.go ⟨s2.heap.objs.size + 1, fp, s2, H2⟩ s2.heap.objs.size hD
  have IX := inv_comp (fp := fp) S I2 rfl rfl rfl f2 hlt
  have st4 : tn 0 (pushCells ((s2.heap.push { cls := .type "list", data := .seq #[] }).push { cls := .type "dict", data := .dict #[] }) scope.names) :=
    T.keep 0 _ _ st2 fun b _ o e => pushCells_keeps _ _ _ _ (Heap.get?_push_of_some _ (Heap.get?_push_of_some _ e))
  have fr0 : ∀ b ∈ fp, upd H2 s2.heap.objs.size (.lst []) b = none := fun b hb => by
    rw [upd_ne (Nat.ne_of_lt (hlt b hb))]
    exact (f2 b hb).1
  have cne : ∀ b ∈ fp, ∀ x c, (cxC X N scope ⟨s2.heap.objs.size + 1, fp, s2, H2⟩).env.cells.lookup x = some c → c ≠ b := fun b hb => ((IX.ok.exf b hb).2)
  have stat : ∀ {H' : Hp}, (∀ b ∈ fp, H' b = none) → ∀ b ∈ fp, FpOk (cxC X N scope ⟨s2.heap.objs.size + 1, fp, s2, H2⟩) [] H' b := fun hn b hb =>
    ⟨hn b hb, (IX.ok.exf b hb).1, IX.ok.exfs b hb, .inl hb, cne b hb, fun p hp => absurd (show p ∈ ([] : List (Addr × Obj)) from hp) (by simp)⟩
  have e4 : ∀ cenv : Env, cenv = newEnv scope (s2.heap.push { cls := .type "list", data := .seq #[] }).objs.size X.env.globals (cellsFrom ((s2.heap.push { cls := .type "list", data := .seq #[] }).objs.size + 1) scope.names (clOf X.env scope.names)) X.env.qual none .none (some X.env) builtinsNs →
      ({ cenv with scope := relabel scope X.env } : Env) = (cxC X N scope ⟨s2.heap.objs.size + 1, fp, s2, H2⟩).env ∧ cenv.locals = s2.heap.objs.size + 1 := fun cenv e => by
    subst e
    rw [eD]
    exact ⟨rfl, rfl⟩
  obtain ⟨e5, e6⟩ := e4 _ rfl
  have loop : codeAny (model X.prog X.w) X.A (.compLoop (.ListComp elt [⟨tg, iter, ifs, 0⟩] scope pos) 0 (.ref it) (.ref s2.heap.objs.size) (cxC X N scope ⟨s2.heap.objs.size + 1, fp, s2, H2⟩).env)
      (compPost (model X.prog X.w) X.A X.xe use R (.ref s2.heap.objs.size) (s2.heap.objs.size + 1)) { s2 with heap := pushCells ((s2.heap.push { cls := .type "list", data := .seq #[] }).push { cls := .type "dict", data := .dict #[] }) scope.names } := by
    refine compLoop_any (fun n s' => ∃ i σ' H', Inv (cxC X N scope ⟨s2.heap.objs.size + 1, fp, s2, H2⟩) [] σ' H' s' ∧ tn i s'.heap ∧ (∀ b ∈ fp, H' b = none) ∧ W i n σ' H') ?_ m0 ⟨0, _, _, IX, st4, fr0, w0⟩
    rintro n s5 ⟨i, σ5, H5, I5, st5, fr5, w5⟩
    rcases turn i n σ5 H5 w5 with ⟨stop, qn⟩ | ⟨go, M, hM, step⟩
    · refine thn (T.done (cxC X N scope ⟨s2.heap.objs.size + 1, fp, s2, H2⟩) rfl rfl rfl hc i [] s5 σ5 H5 (fun _ _ => False) I5 (stat fr5) st5 stop) fun r s6 ⟨hr, I6⟩ => ?_
      subst hr
      obtain ⟨m, hn, _⟩ := I6.loc
      obtain ⟨oC, es, ep, hoC, hd, hk, hm⟩ := id hn
      have IB : Inv X pins σ H5 s6 := I2.call' (ch := fp) I6.os I6.base I6.hok I6.bare fun b hb => ⟨(f2 b hb).2.2.2.1, (f2 b hb).2.1, (f2 b hb).2.2.2.2.1, (f2 b hb).2.2.2.2.2⟩
      have young : s2.heap.objs.size ≤ s2.heap.objs.size + 1 := Nat.le_succ _
      refine fin s2.heap.objs.size (s2.heap.objs.size + 1) oC m H5 s6 (IB.pins_of fun p hp => ?_) (Nat.le_trans I2.sz young) (fun p hp => Nat.ne_of_lt (Nat.lt_of_lt_of_le (Heap.lt_size (I2.pin p hp).1) young)) (fun h' e => ⟨oC, es, ep, e, hd, hk, hm⟩) qn
      rcases List.mem_append.mp hp with z | z
      · exact IB.pin p (List.mem_append_right _ z)
      · have ep' : p = (s2.heap.objs.size + 1, oC) := by simpa using z
        subst ep'
        exact ⟨hoC, I6.free, Nat.ne_of_gt (Nat.lt_of_lt_of_le I2.lt young), I2.nofs young, fun v z => by rw [hd] at z; cases z⟩
    · refine thn (T.item (cxC X N scope ⟨s2.heap.objs.size + 1, fp, s2, H2⟩) rfl rfl rfl hc i [] s5 σ5 H5 (fun _ _ => False) I5 (stat fr5) st5 go) fun r s6 ⟨u, hr, h6⟩ => ?_
      subst hr
      refine thn h6 fun _ s7 ⟨x, H7, I7, r7, y7, st7, fr7⟩ => ?_
      have I7' := I7.pinned (stat fr7) (T.obj _ _ st7)
      refine thn (hg _ _ s7 σ5 H7 x u _ I7' r7 (step x H7 y7)) fun _ s8 ⟨σ8, H8, I8, q8⟩ => ?_
      refine thn (hf _ _ s8 σ8 H8 _ I8 q8) fun k s9 ⟨H9, I9, q9⟩ => ?_
      have again : ∀ {H10 : Hp} {s10 : Shared}, Inv (cxC X N scope ⟨s2.heap.objs.size + 1, fp, s2, H2⟩) ([] ++ pinsAt fp s7.heap) σ8 H10 s10 → M σ8 H10 →
          ∃ m, m < n ∧ ∃ i σ' H', Inv (cxC X N scope ⟨s2.heap.objs.size + 1, fp, s2, H2⟩) [] σ' H' s10 ∧ tn i s10.heap ∧ (∀ b ∈ fp, H' b = none) ∧ W i m σ' H' := fun {H10 s10} I10 q10 => by
        obtain ⟨m', hm, w10⟩ := hM σ8 H10 q10
        refine ⟨m', hm, i + 1, σ8, H10, I10.unpinned, T.keep _ _ _ st7 fun b hb o e => (I10.pin (b, o) (List.mem_append_right _ (List.mem_append_right _ (mem_pinsAt hb e)))).1, fun b hb => ?_, w10⟩
        obtain ⟨o, e, d⟩ := T.obj _ _ st7 b hb
        exact (I10.pin (b, o) (List.mem_append_right _ (List.mem_append_right _ (mem_pinsAt hb e)))).2.1
      cases k with
      | false => exact again I9 q9
      | true =>
        refine thn (he _ _ s9 σ8 H9 _ I9 q9) fun w10 s10 ⟨y, H10, I10, r10, ys, hys, hz, q10⟩ => ?_
        refine thn (mt_append _ s10 σ8 H10 (.ref s2.heap.objs.size) [y] (.ref s2.heap.objs.size) [w10] (fun _ H' => M σ8 H') I10 rfl (.cons r10 .nil) ⟨_, ys, y, rfl, rfl, hys, hz, q10⟩) fun _ s11 ⟨_, H11, I11, _, q11⟩ => ?_
        exact again I11 q11
  have go : codeAny (model X.prog X.w) X.A (.compStart (.ListComp elt [⟨tg, iter, ifs, 0⟩] scope pos) 0 (.ref it) (.ref s2.heap.objs.size) (cxC X N scope ⟨s2.heap.objs.size + 1, fp, s2, H2⟩).env)
      (compPost (model X.prog X.w) X.A X.xe use R (.ref s2.heap.objs.size) (s2.heap.objs.size + 1)) { s2 with heap := pushCells ((s2.heap.push { cls := .type "list", data := .seq #[] }).push { cls := .type "dict", data := .dict #[] }) scope.names } :=
    codeAny_compStart_list loop (T.self _ 0 _ _ _ st4 loop)
  have fin2 : ∀ (env' : Env) (L : Addr), env' = (cxC X N scope ⟨s2.heap.objs.size + 1, fp, s2, H2⟩).env → L = s2.heap.objs.size + 1 →
      codeAny (model X.prog X.w) X.A (.compStart (.ListComp elt [⟨tg, iter, ifs, 0⟩] scope pos) 0 (.ref it) (.ref s2.heap.objs.size) env') (compPost (model X.prog X.w) X.A X.xe use R (.ref s2.heap.objs.size) L)
        { s2 with heap := pushCells ((s2.heap.push { cls := .type "list", data := .seq #[] }).push { cls := .type "dict", data := .dict #[] }) scope.names } := by
    intro env' L h1 h2
    subst h1 h2
    exact go
  exact fin2 _ _ e5 e6
theorem comp_gone {pins : List (Addr × Obj)} {C : Addr} {oC : Obj} {σ' : St} {H' : Hp} {s' : Shared} {h' : Heap} (I : Inv X (pins ++ [(C, oC)]) σ' H' s') (hy : X.s₀.heap.objs.size ≤ C) (hp : ∀ p ∈ X.pn ++ pins, p.1 ≠ C) (sb : Heap.SameBut C s'.heap h') :
    Inv X pins σ' H' { s' with heap := h' } := by
  have pC := I.pin (C, oC) (List.mem_append_right _ (List.mem_append_right _ (by simp)))
  have I2 : Inv X pins σ' H' s' := I.unpinned
  refine I2.turned (it := C) (t' := s'.toks) (fun b o hb e => (sb.2 b hb).trans e) pC.2.1 pC.2.2.1 (.inr hy) (fun x c e z => ?_) hp
  obtain ⟨v, o, ho, hd⟩ := I2.cell x c e
  rw [z, pC.1] at ho
  cases ho
  exact pC.2.2.2.2 v hd
theorem pe_comp (S : CompOk X.env.scope X.N N own fr scope) (hc : X.calm = true) (hi : PI X tg iter wi) (hg : ∀ b, PG (cxC X N scope b) tg (g b)) (hf : ∀ b, PF (cxC X N scope b) ifs (tf b)) (he : ∀ b, PE (cxC X N scope b) elt (te b))
    (hs : ∀ x, foldedSetIterable iter X.env x = pure x := by intro _; rfl) : PE X (.ListComp elt [⟨tg, iter, ifs, 0⟩] scope pos) (tComp wi own fr g tf te) := by
  intro pins s σ H Q I h
  rw [eval_ListComp]
  refine comp_run (use := none) S hc hi hg hf he hs I h fun D C oC m H' s' I' hy hp hm q => ?_
  have pC := I'.pin (C, oC) (List.mem_append_right _ (List.mem_append_right _ (by simp)))
  exact ⟨m, hm _ pC.1, fun h' sb => ⟨.ref D, H', comp_gone I' hy hp sb, rfl, q⟩⟩
theorem ps_setComp {j : Nat} {y : Str} {py spos : Pos} (S : CompOk X.env.scope X.N N own fr scope) (hc : X.calm = true) (hN : X.N.Nodup) (hj : X.N[j]? = some y) (hy : Loc X.env.scope y) (hi : PI X tg iter wi) (hg : ∀ b, PG (cxC X N scope b) tg (g b)) (hf : ∀ b, PF (cxC X N scope b) ifs (tf b))
    (he : ∀ b, PE (cxC X N scope b) elt (te b)) (hfn : X.fn y = true ∨ X.env.scope.names.lookup y = some .local := by first | exact .inl rfl | exact .inr rfl | assumption) (hs : ∀ x, foldedSetIterable iter X.env x = pure x := by intro _; rfl)
    (hsw : swapsWith (.ListComp elt [⟨tg, iter, ifs, 0⟩] scope pos) (some (.Name y py)) spos.line X.env = pure true := by rfl) :
    PS X (.Assign [.Name y py] (.ListComp elt [⟨tg, iter, ifs, 0⟩] scope pos) spos) (tAsg (tComp wi own fr g tf te) (gName j)) := by
  intro pins s σ H D I h
  rw [exec_Assign_Name_used _ _ _ _ hsw]
  refine wpAny_bind (wpAny_standAt (wpAny_bind ?_))
  show wpAny _ _ (do let _ ← comprehension (.ListComp elt [⟨tg, iter, ifs, 0⟩] scope pos) scope X.env _ (newList []) false (eval iter X.env) (some (assign (.Name y py) X.env))) _ _ s
  refine wpAny_bind (thn (comp_run (use := some (assign (.Name y py) X.env)) (R := fun _ s' => SP X pins D .next s') S hc hi hg hf he hs I h fun D' C oC m H' s' I' hy' hp hm q => ?_) fun _ s' q => wpAny_pure (wpAny_pure q))
  show wpAny _ _ (assign (.Name y py) X.env (.ref D')) _ _ s'
  refine thn (pg_name hN hj hy hfn _ s' σ H' (.ref D') (.ref D') _ I' rfl q) fun _ s'' ⟨σ2, H2, I2, q2⟩ => ?_
  have pC := I2.pin (C, oC) (List.mem_append_right _ (List.mem_append_right _ (by simp)))
  exact ⟨m, hm _ pC.1, fun h' sb => ⟨σ2, H2, comp_gone I2 hy' hp sb, q2⟩⟩
end
end L2

set_option Elab.async false
set_option linter.all false
set_option maxRecDepth 100000
namespace L2
open PySem PySem.Spec PyProof.Rows
theorem PE.imp {X : Cx} {e : Expr} {t t' : TE} (h : PE X e t) (k : ∀ σ H Q, t' σ H Q → t σ H Q) : PE X e t' := fun pins s σ H Q I q => h pins s σ H Q I (k σ H Q q)
theorem OpR.imp {X : Cx} {f : Value → Value → Sem Value} {r r' : R2} (h : OpR X f r) (k : ∀ x y H Q, r' x y H Q → r x y H Q) : OpR X f r' := fun pins s σ H x y v u Q I rx ry q => h pins s σ H x y v u Q I rx ry (k x y H Q q)
def fVar (i : Nat) : TE := fun σ H Q => match σ[i]? with
  | some (some v) => Q v H
  | _ => False
section
variable {X : Cx}
theorem fv (i : Nat) {x : Str} {pos : Pos} (hN : X.N[i]? = some x := by rfl) (hv : Vis X.env.scope x := by first | exact Or.inl rfl | exact Or.inr (Or.inl rfl) | exact Or.inr (Or.inr rfl)) (hd : (x == ("__debug__" : Str)) = false := by decide)
    (hcd : (x == ("__classdict__" : Str)) = false := by decide) : PE X (.Name x pos) (fVar i) := (pe_var hN hv hd hcd).imp fun σ H Q q => by
  unfold fVar at q
  cases e : σ[i]? with
  | none => rw [e] at q; exact q.elim
  | some o =>
    cases o with
    | none => rw [e] at q; exact q.elim
    | some v => rw [e] at q; exact ⟨v, e, q⟩
def fAdd : R2 := fun x y H Q => match x, y with
  | .int i, .int j => Q (.int (i + j)) H
  | .str a, .str b => a.length + b.length ≤ sizeLine ∧ Q (.str (a ++ b)) H
  | .ref p, .ref q => rCat (.ref p) (.ref q) H Q
  | _, _ => False
theorem o_add : OpR X (binaryOp .Add) fAdd := by
  intro pins s σ H x y v u Q I rx ry h
  cases x with
  | int i =>
    cases y with
    | int j => exact op_add pins s σ H _ _ v u Q I rx ry ⟨i, j, rfl, rfl, h⟩
    | _ => exact (show False from h).elim
  | str a =>
    cases y with
    | str b => exact op_add_str pins s σ H _ _ v u Q I rx ry ⟨a, b, rfl, rfl, h.1, h.2⟩
    | _ => exact (show False from h).elim
  | ref p =>
    cases y with
    | ref q => exact op_cat pins s σ H _ _ v u Q I rx ry h
    | _ => exact (show False from h).elim
  | _ => cases y <;> exact (show False from h).elim
def fInt (C : Int → Int → Prop) (g : Int → Int → V) : R2 := fun x y H Q => match x, y with
  | .int i, .int j => C i j ∧ Q (g i j) H
  | _, _ => False
def fInt0 (g : Int → Int → V) : R2 := fun x y H Q => match x, y with
  | .int i, .int j => Q (g i j) H
  | _, _ => False
theorem OpR.fInt {f : Value → Value → Sem Value} {C : Int → Int → Prop} {g : Int → Int → V} (h : OpR X f (rI C g)) : OpR X f (fInt C g) := h.imp fun x y H Q q => by
  cases x with
  | int i =>
    cases y with
    | int j => exact ⟨i, j, rfl, rfl, q.1, q.2⟩
    | _ => exact (show False from q).elim
  | _ => cases y <;> exact (show False from q).elim
theorem OpR.fInt0 {f : Value → Value → Sem Value} {g : Int → Int → V} (h : OpR X f (rI0 g)) : OpR X f (fInt0 g) := h.imp fun x y H Q q => by
  cases x with
  | int i =>
    cases y with
    | int j => exact ⟨i, j, rfl, rfl, q⟩
    | _ => exact (show False from q).elim
  | _ => cases y <;> exact (show False from q).elim
theorem o_sub : OpR X (binaryOp .Sub) (fInt0 fun i j => .int (i - j)) := op_sub.fInt0
theorem o_mul : OpR X (binaryOp .Mult) (fInt CMul fun i j => .int (i * j)) := op_mul.fInt
def CDivW (_ j : Int) : Prop := 0 < j ∧ j < 2 ^ 64
theorem log2_64 {j : Int} (h : CDivW 0 j) : j.natAbs.log2 < 9000 := by
  have h1 : j.natAbs < 2 ^ 64 := by
    have h2 : j < 2 ^ 64 := h.2
    have h3 : 0 < j := h.1
    omega
  have h0 : j.natAbs ≠ 0 := by have h3 : 0 < j := h.1; omega
  have := (Nat.log2_lt h0).mpr h1
  omega
theorem o_fdiv : OpR X (binaryOp .FloorDiv) (fInt CDivW fun i j => .int (i / j)) := (opI fun i j _ _ _ _ _ hc q => by
  have h1 : (0 : Int) < j := hc.1
  exact floordiv_int (by omega) (by rw [Int.fdiv_eq_ediv_of_nonneg i (by omega)]; exact q) (.inl (PyProof.noPylong_of_log2 (log2_64 hc)))).fInt
theorem o_mod : OpR X (binaryOp .Mod) (fInt (fun _ j => 0 < j) fun i j => .int (i % j)) := op_mod.fInt
theorem o_pow : OpR X (binaryOp .Pow) (fInt CPow fun i j => .int (i ^ j.toNat)) := op_pow.fInt
theorem o_lt : OpR X (compareOp .Lt) (fInt0 fun i j => .bl (decide (i < j))) := op_lt.fInt0
theorem o_le : OpR X (compareOp .LtE) (fInt0 fun i j => .bl (decide (i ≤ j))) := op_le.fInt0
theorem o_gt : OpR X (compareOp .Gt) (fInt0 fun i j => .bl (decide (j < i))) := op_gt.fInt0
mutual
inductive RepD (K : PySem.W.Frag) (H : Hp) : V → PyData → Prop where
  | non : RepD K H .non .none
  | bl (b : Bool) : RepD K H (.bl b) (.bool b)
  | int (i : Int) : RepD K H (.int i) (.int i)
  | str (x : Str) : RepD K H (.str x) (.str x)
  | lst {a : Addr} {xs : List V} {ds : List PyData} (h : SqL K H a xs) (r : RepAll K H xs ds) : RepD K H (.ref a) (.list ds)
  | tup {a : Addr} {xs : List V} {ds : List PyData} (h : SqT K H a xs) (r : RepAll K H xs ds) : RepD K H (.ref a) (.tuple ds)
inductive RepAll (K : PySem.W.Frag) (H : Hp) : List V → List PyData → Prop where
  | nil : RepAll K H [] []
  | cons {x : V} {xs : List V} {d : PyData} {ds : List PyData} (h : RepD K H x d) (r : RepAll K H xs ds) : RepAll K H (x :: xs) (d :: ds)
end
mutual
theorem Inv.reads {pins : List (Addr × Obj)} {σ : St} {H : Hp} {s : Shared} (I : Inv X pins σ H s) : ∀ {x : V} {d : PyData} {u : Value}, RepD X.K H x d → RelV x u → ∃ as, Reads s.heap u d as
  | _, _, _, .non, r => by cases r; exact ⟨_, .none⟩
  | _, _, _, .bl b, r => by cases r; exact ⟨_, .bool b⟩
  | _, _, _, .int i, r => by obtain ⟨t, rfl⟩ := r; exact ⟨_, .int i t⟩
  | _, _, _, .str x, r => by obtain ⟨t, rfl⟩ := r; exact ⟨_, .str x t⟩
  | _, _, _, .lst h q, r => by
    cases r
    obtain ⟨its, rv, ⟨o, n, e, hc, _, hd⟩, _⟩ := I.list h
    obtain ⟨as, z⟩ := I.readsAll q rv
    exact ⟨_, .list e hc hd (by simpa using z)⟩
  | _, _, _, .tup h q, r => by
    cases r
    obtain ⟨its, rv, ⟨o, e, hc, n, hd⟩, _⟩ := I.tuple h
    obtain ⟨as, z⟩ := I.readsAll q rv
    exact ⟨_, .tuple e hc hd (by simpa using z)⟩
theorem Inv.readsAll {pins : List (Addr × Obj)} {σ : St} {H : Hp} {s : Shared} (I : Inv X pins σ H s) : ∀ {xs : List V} {ds : List PyData} {us : List Value}, RepAll X.K H xs ds → Vals xs us → ∃ as, ReadsAll s.heap us ds as
  | _, _, _, .nil, r => by cases r; exact ⟨_, .nil⟩
  | _, _, _, .cons h q, r => by
    cases r with
    | cons r1 r2 =>
      obtain ⟨as, z⟩ := I.reads h r1
      obtain ⟨bs, z2⟩ := I.readsAll q r2
      exact ⟨_, .cons z z2⟩
end
def fEq (K : PySem.W.Frag) : R2 := fun x y H Q => match x, y with
  | .ref p, .ref q => ∃ d e, RepD K H (.ref p) d ∧ RepD K H (.ref q) e ∧ SeqAt.shaped d = true ∧ SeqAt.shaped e = true ∧ Q (.bl (PyData.eqv d e)) H
  | x, y => scal x y = true ∧ Q (.bl (decide (x = y))) H
def fNe (K : PySem.W.Frag) : R2 := fun x y H Q => match x, y with
  | .ref p, .ref q => ∃ d e, RepD K H (.ref p) d ∧ RepD K H (.ref q) e ∧ SeqAt.shaped d = true ∧ SeqAt.shaped e = true ∧ Q (.bl (!PyData.eqv d e)) H
  | x, y => scal x y = true ∧ Q (.bl (!decide (x = y))) H
theorem o_eq (hu : X.A.units + 64 < cLine) : OpR X (compareOp .Eq) (fEq X.K) := by
  intro pins s σ H x y v u Q I rx ry h
  by_cases hr : ∃ p q, x = V.ref p ∧ y = V.ref q
  · obtain ⟨p, q, rfl, rfl⟩ := hr
    obtain ⟨d, e, hd, he, sd, se, hq⟩ := h
    obtain ⟨as, z1⟩ := I.reads hd rx
    obtain ⟨bs, z2⟩ := I.reads he ry
    exact eq_dataH z1 z2 sd se hu ⟨.bl _, H, I, rfl, hq⟩
  · refine op_eq pins s σ H x y v u Q I rx ry ?_
    cases x <;> cases y <;> first | exact h | exact absurd ⟨_, _, rfl, rfl⟩ hr
theorem o_ne (hu : X.A.units + 64 < cLine) : OpR X (compareOp .NotEq) (fNe X.K) := by
  intro pins s σ H x y v u Q I rx ry h
  by_cases hr : ∃ p q, x = V.ref p ∧ y = V.ref q
  · obtain ⟨p, q, rfl, rfl⟩ := hr
    obtain ⟨d, e, hd, he, sd, se, hq⟩ := h
    obtain ⟨as, z1⟩ := I.reads hd rx
    obtain ⟨bs, z2⟩ := I.reads he ry
    exact ne_dataH z1 z2 sd se hu ⟨.bl _, H, I, rfl, hq⟩
  · refine op_ne pins s σ H x y v u Q I rx ry ?_
    cases x <;> cases y <;> first | exact h | exact absurd ⟨_, _, rfl, rfl⟩ hr
def fIn (K : PySem.W.Frag) (neg : Bool) : R2 := fun x y H Q => match y with
  | .str j => ∃ i, x = .str i ∧ Q (.bl (if neg then !(!(Builtin.Str.occurrences j i 0 j.length 1).isEmpty) else !(Builtin.Str.occurrences j i 0 j.length 1).isEmpty)) H
  | .ref p => ∃ xs, (SqL K H p xs ∨ SqT K H p xs) ∧ flatV x = true ∧ xs.all flatV = true ∧ Q (.bl (if neg then !inV x xs else inV x xs)) H
  | _ => False
theorem o_notin : OpR X (compareOp .NotIn) (fIn X.K true) := by
  intro pins s σ H x y v u Q I rx ry h
  cases y with
  | str j =>
    obtain ⟨i, rfl, q⟩ := h
    exact op_notIn_str pins s σ H _ _ v u Q I rx ry ⟨i, j, rfl, rfl, q⟩
  | ref p =>
    obtain ⟨xs, h1, h2, h3, q⟩ := h
    exact op_notIn_seq pins s σ H _ _ v u Q I rx ry ⟨p, xs, rfl, h1, h2, h3, q⟩
  | _ => exact (show False from h).elim
theorem o_is : OpR X (compareOp .Is) (fun x y H Q => y = .non ∧ Q (.bl (decide (x = .non))) H) := op_isN
theorem o_isnot : OpR X (compareOp .IsNot) (fun x y H Q => y = .non ∧ Q (.bl (!decide (x = .non))) H) := op_notN
def fIx (K : PySem.W.Frag) : R2 := fun x y H Q => match x, y with
  | .ref p, .int i => ∃ xs v, (SqL K H p xs ∨ SqT K H p xs) ∧ atI xs i = some v ∧ Q v H
  | .str z, .int i => ∃ c, z.length ≤ sizeLine ∧ atI z.cps.toList i = some c ∧ Q (.str ⟨#[c]⟩) H
  | _, _ => False
theorem ix_any : IxR X (fIx X.K) := by
  intro value slice pins s σ H x y v u Q I rx ry h hs
  cases x with
  | ref p =>
    cases y with
    | int i =>
      obtain ⟨xs, w, h1 | h1, h2, q⟩ := h
      · exact ix_list value slice pins s σ H _ _ v u Q I rx ry ⟨p, xs, i, w, rfl, rfl, h1, h2, q⟩ hs
      · exact ix_tup value slice pins s σ H _ _ v u Q I rx ry ⟨p, xs, i, w, rfl, rfl, h1, h2, q⟩ hs
    | _ => exact (show False from h).elim
  | str z =>
    cases y with
    | int i =>
      obtain ⟨c, h1, h2, q⟩ := h
      exact ix_str value slice pins s σ H _ _ v u Q I rx ry ⟨z, i, c, rfl, rfl, h1, h2, q⟩ hs
    | _ => exact (show False from h).elim
  | _ => cases y <;> exact (show False from h).elim
def rSlS : V → Option Int → Option Int → Hp → VK → Prop := fun x lo hi H Q => ∃ z, x = .str z ∧ z.length ≤ sizeLine ∧ Q (.str (Txt.slice z lo hi)) H
def Its (x : Str) : It := ⟨fun i _ => i < x.cps.size, fun i H v H' => H' = H ∧ ∃ c, x.cps[i]? = some c ∧ v = .str ⟨#[c]⟩, fun i _ => x.cps.size ≤ i⟩
theorem turn_str {P : Program} {w : World} {K : PySem.W.Frag} {tg : Expr} {T : String} (hT : T = "str_ascii_iterator" ∨ T = "str_iterator") (it : Addr) (x : Str) (t : Tok) : Turn P w K tg (Its x) [it] it (fun i h => i ≤ x.cps.size ∧ h.IsStrIter it T x t i) where
  mem := by simp
  obj := fun i h st b hb => by
    have e : b = it := by simpa using hb
    subst e
    obtain ⟨_, o, e, c, d⟩ := st
    exact ⟨o, e, fun v z => by rw [d] at z; cases z⟩
  keep := fun i h h' st k => by
    obtain ⟨hi, o, e, r⟩ := st
    exact ⟨hi, o, k it (by simp) o e, r⟩
  item := by
    intro X hP hw hK hc i pins s σ H E I hf st hg
    subst hP hw hK
    obtain ⟨f0, f1, f2, f3, f4, f5⟩ := hf it (by simp)
    have W : Walks X.prog X.w X.A it [it] [it] x.cps.size (SignAt x) (fun i h => h.IsStrIter it T x t i) := by
      rcases hT with rfl | rfl
      · exact Walks.strAscii (I.ok.hd hc) it x t
      · exact Walks.strWide (I.ok.hd hc) it x t
    refine W.item i s _ _ hg st.2 fun v h' tk hv st' kk => ?_
    obtain ⟨c, u, hcp, rfl⟩ := hv
    have I1 : Inv X pins σ H { s with heap := h', toks := tk } := I.turned (fun b o hb e => kk b o (by simpa using hb) e) f0 f1 f3 f4 f5
    obtain ⟨o, e, c', d⟩ := id st'
    refine ⟨_, rfl, go_of (s := { s with heap := h', toks := tk }) e c' d (by rcases hT with rfl | rfl <;> decide) ⟨.str ⟨#[c]⟩, H, I1, ⟨u, rfl⟩, ⟨rfl, c, hcp, rfl⟩, ⟨hg, st'⟩, fun b hb => (hf b hb).1⟩⟩
  done := by
    intro X hP hw hK hc i pins s σ H E I hf st hg
    subst hP hw hK
    obtain ⟨f0, f1, f2, f3, f4, f5⟩ := hf it (by simp)
    have W : Walks X.prog X.w X.A it [it] [it] x.cps.size (SignAt x) (fun i h => h.IsStrIter it T x t i) := by
      rcases hT with rfl | rfl
      · exact Walks.strAscii (I.ok.hd hc) it x t
      · exact Walks.strWide (I.ok.hd hc) it x t
    have e : i = x.cps.size := Nat.le_antisymm st.1 hg
    subst e
    exact W.done s _ _ st.2 fun h' tk kk => ⟨rfl, I.turned (fun b o hb e => kk b o (by simpa using hb) e) f0 f1 f3 f4 f5⟩
  self := fun A i s Q E st h => by
    rcases hT with rfl | rfl
    · exact wpAny_pyIter_striter_ascii st.2 h
    · exact wpAny_pyIter_striter_wide st.2 h
def iAny (K : PySem.W.Frag) (tl : TE) : TI := fun σ H R => tl σ H fun x H1 => match x with
  | .ref a => ((∃ xs, SqL K H1 a xs) ∧ R (Itl K a) H1) ∨ ((∃ xs, SqT K H1 a xs) ∧ R (Itt K a) H1)
  | .str z => R (Its z) H1
  | _ => False
theorem pi_any {tg l : Expr} {tl : TE} (hl : PE X l tl) : PI X tg l (iAny X.K tl) := by
  intro pins s σ H R I h
  refine thn (hl pins s σ H _ I h) fun v s1 ⟨x, H1, I1, r1, q1⟩ => ?_
  cases x with
  | ref a =>
    cases r1
    rcases q1 with ⟨⟨xs, hq⟩, q⟩ | ⟨⟨xs, hq⟩, q⟩
    · obtain ⟨its, rv, p, hz⟩ := I1.list hq
      refine wpAny_pyIter_list p.isList ?_
      refine ⟨s1.heap.objs.size, [s1.heap.objs.size], _, _, H1, rfl, I1.kept (t' := s1.toks) fun b o e => Heap.get?_push_of_some _ e, turn_list a _, ⟨_, Heap.get?_push_size _ rfl, rfl, rfl⟩, fun b hb => ?_, q⟩
      have e : b = s1.heap.objs.size := by simpa using hb
      subst e
      exact I1.fpOk (Nat.le_refl _) (I1.hok.fresh (Nat.le_refl _))
    · obtain ⟨its, rv, p, hz⟩ := I1.tuple hq
      refine wpAny_pyIter_tuple (show s1.heap.IsTuple a its.toArray from p) ?_
      refine ⟨s1.heap.objs.size, [s1.heap.objs.size], _, _, H1, rfl, I1.kept (t' := s1.toks) fun b o e => Heap.get?_push_of_some _ e, turn_tuple a _, ⟨_, Heap.get?_push_size _ rfl, rfl, rfl⟩, fun b hb => ?_, q⟩
      have e : b = s1.heap.objs.size := by simpa using hb
      subst e
      exact I1.fpOk (Nat.le_refl _) (I1.hok.fresh (Nat.le_refl _))
  | str z =>
    obtain ⟨t, rfl⟩ := r1
    refine wpAny_pyIter_strU ?_
    refine ⟨s1.heap.objs.size, [s1.heap.objs.size], _, _, H1, rfl, I1.kept (t' := s1.toks) fun b o e => Heap.get?_push_of_some _ e, turn_str (T := strIterType z) ?_ _ z t, ⟨Nat.zero_le _, _, Heap.get?_push_size _ rfl, rfl, rfl⟩, fun b hb => ?_, q1⟩
    · unfold strIterType
      split
      · exact .inl rfl
      · exact .inr rfl
    · have e : b = s1.heap.objs.size := by simpa using hb
      subst e
      exact I1.fpOk (Nat.le_refl _) (I1.hok.fresh (Nat.le_refl _))
  | _ => exact (show False from q1).elim
theorem pt_tru {a : Expr} {ta : TE} (ha : PE X a ta) (he : ∀ whole, isTrue a X.env whole = (do let v ← whole; standAt a.pos; holding [v] (truthy v))) :
    PT X a (fun σ H Q => ta σ H fun x H' => ∃ k, TruV X.K x H' k ∧ Q k H') := pt_truth ha he
theorem pe_notV {a : Expr} {ta : TE} {pos : Pos} (ha : PE X a ta) : PE X (.UnaryOp .Not a pos) (fun σ H Q => ta σ H fun x H1 => ∃ k, TruV X.K x H1 k ∧ Q (.bl (!k)) H1) := by
  intro pins s σ H Q I h
  refine UnaryOp_ (thn (ha pins s σ H _ I h) fun v s1 ⟨x, H1, I1, r1, q1⟩ => ?_)
  obtain ⟨k, ht, q⟩ := q1
  exact not_of (thn (tru_ok pins s1 σ H1 x v (fun b H2 => Q (.bl (!b)) H2) I1 r1 ⟨k, ht, q⟩) fun b s2 ⟨H2, I2, q2⟩ => ⟨.bl (!b), H2, I2, rfl, q2⟩)
theorem c_len : CallR X (.builtin "len") (fun xs H Q => ∃ x n, xs = [x] ∧ LenV X.K x H n ∧ Q (.int n) H) := call_len
theorem c_list : CallR X (.type "list") (fun xs H Q => ∃ p ys, xs = [.ref p] ∧ (SqL X.K H p ys ∨ SqT X.K H p ys) ∧ ∀ l, H l = none → Q (.ref l) (upd H l (.lst ys))) := call_list_of
theorem bools_get {bs : List Bool} {its : List Value} (r : Vals (bs.map V.bl) its) {i : Nat} {v : Value} (h : its[i]? = some v) : ∃ b, bs[i]? = some b ∧ v = .bool b := by
  have hi : i < its.length := (List.getElem?_eq_some_iff.mp h).1
  have hl := r.length
  rw [List.length_map] at hl
  have hb : bs[i]? = some bs[i] := List.getElem?_eq_getElem (by omega)
  obtain ⟨u, hu, ru⟩ := r.get (i := i) (x := V.bl bs[i]) (by rw [List.getElem?_map, hb]; rfl)
  rw [h] at hu
  cases hu
  exact ⟨_, hb, ru⟩
theorem c_all (hc : X.calm = true := by rfl) : CallR X (.builtin "all") (fun xs H Q => ∃ (p : Addr) (bs : List Bool), xs = [.ref p] ∧ SqL X.K H p (bs.map V.bl) ∧ Q (.bl (bs.all id)) H) := by
  intro pins s σ H xs us Q I r h
  obtain ⟨p, bs, rfl, hq, q⟩ := h
  obtain ⟨u, rfl, rx⟩ := vals1 r
  cases rx
  obtain ⟨its, rv, pl, hz⟩ := I.list hq
  have hl := pl.isList
  have hlt : p < s.heap.objs.size := by obtain ⟨_, e, _⟩ := hl; exact Heap.lt_size e
  have hlen : its.toArray.size = bs.length := by have := rv.length; rw [List.length_map] at this; rw [List.size_toArray]; omega
  refine call_all_walk (wpAny_pyIter_list hl ?_)
  refine ⟨s.heap.objs.size, [s.heap.objs.size, p], [s.heap.objs.size], its.toArray.size, _, _, fun i => (bs[i]?).getD true, rfl, Walks.list (A := X.A.in1) (I.ok.hd hc) _ p (Nat.ne_of_lt hlt) its.toArray,
    ⟨⟨_, Heap.get?_push_size _ rfl, rfl, rfl⟩, hl.push _⟩, fun i v s' Q' E' hP hQ => ?_, fun h' tk hk => ?_⟩
  · obtain ⟨b, e, rfl⟩ := bools_get rv (by simpa using hP)
    simp only [e, Option.getD_some] at hQ
    exact wpAny_truthy_bool hQ
  · rw [hlen, LSm.range_all bs]
    exact ⟨.bl _, H, I.kept (LSm.kept_iter hk), rfl, q⟩
def cvOf : V → Value
  | .ty n => .type n
  | .ref a => .ref a
  | _ => .none
theorem cvOf_rel {y : V} {u : Value} (r : RelV y u) (h : cvOf y ≠ .none) : u = cvOf y := by
  cases y with
  | ty n => exact r
  | ref a => exact r
  | _ => exact absurd rfl h
theorem c_isinst : CallR X (.builtin "isinstance") (fun xs H Q => ∃ x y t b, xs = [x, y] ∧ cvOf y ≠ .none ∧ TyOf X.K H x t ∧ PySem.W.kitOne X.K t (cvOf y) = some b ∧ Q (.bl b) H) := by
  intro pins s σ H xs us Q I r h
  obtain ⟨x, y, t, b, rfl, hy, ty, e, q⟩ := h
  obtain ⟨u, w', rfl, rx, ry⟩ := vals2 r
  rw [cvOf_rel ry hy]
  exact isinst_ok I rx ty e fun tk => ⟨.bl b, H, I.tok _, rfl, q⟩
theorem m_append {o e : Expr} {to : TE} {t : TA} {apos cpos : Pos} (ho : PE X o to) (ha : PA X [e] t) (hbase : attributeBase o "append" X.env (eval o X.env) = eval o X.env := by rfl)
    (hfew : ((backTo cpos (starEach [e] X.env)).all (fun x => !x.1) && (backToKw cpos (keywordEach [] X.env)).all (fun x => x.1.isSome)
      && decide ([e].length + ([] : List Keyword).length + (if ([] : List Keyword).isEmpty then 0 else 1) < 30)) = true := by rfl)
    (hline : (apos.endLine == cpos.line) = true := by rfl) (hs : starEach [e] X.env = (false, eval e X.env) :: starEach [] X.env := by rfl) (hplain : (backTo cpos (starEach [] X.env)).any (·.1) = false := by rfl) :
    PE X (.Call (.Attribute o "append" apos) [e] [] cpos) (tBM X.K "list" rAppend to t) := pe_bm PySem.F.plainAttrs_list PySem.F.slot_list_append PySem.F.type_list_append mt_append ho ha hbase hfew hline hs hplain
end
def Has (P : Program) (w : World) (K : PySem.W.Frag) (mg : Str → Option Value) (base : Heap) (k : Nat) (x : Str) (ps : List Str) (sp : Sp) : Prop :=
  ∃ f fd, FnOk P w K mg base CX0 k f fd ps sp ∧ Binds K fd ps [] ∧ PySem.W.keepIn K (.ref f) = true ∧ mg x = some (.ref f) ∧ ∃ oc od osl, K.lookup f = some ⟨oc, od, .func fd, osl⟩
structure TopFn (K : PySem.W.Frag) (mg : Str → Option Value) (x : Str) (st : Stmt) (ps : List Str) : Prop where
  ex : ∃ f fd, Fun K x x st f fd ∧ Binds K fd ps [] ∧ mg x = some (.ref f)
theorem pe_callD {X : Cx} {j k : Nat} {x : Str} {ps : List Str} {sp : Sp} {e : Expr} {es : List Expr} {t : TA} {p pos : Pos} (D : Has X.prog X.w X.K X.mg X.base j x ps sp) (hr : Room k X.A) (ha : PA X (e :: es) t) (hj : j ≤ k := by decide) (hg : Gl X x := by rfl)
    (hdb : (x == ("__debug__" : Str)) = false := by decide) (he : starEach (e :: es) X.env = (false, eval e X.env) :: starEach es X.env := by rfl) (hpl : (backTo pos (starEach es X.env)).any (·.1) = false := by rfl) :
    PE X (.Call (.Name x p) (e :: es) [] pos) (tCall sp [] E0 t) := by
  obtain ⟨f, fd, F, b, kp, m, _⟩ := D
  exact pe_call F (hr.mono hj) hg m kp b .nil pass0 ha hdb he hpl
theorem TopFn.has {P : Program} {w : World} {K : PySem.W.Frag} {mg : Str → Option Value} {base : Heap} {x : Str} {st : Stmt} {N ps : List Str} {k : Nat} {sp : Sp} (F : TopFn K mg x st ps) (S : FnScope N ps (defScope st)) (len : ∀ vs H Q E, sp vs H Q E → vs.length = ps.length)
    (hbody : ∀ (f : Addr) (cdv : Value) (A : Around) (outer : List Env) (s : Shared) (H : Hp) (vs : List V) (Q : VK) (E : XK), Room k (A.deeper (envOfC x (defScope st) s.heap.objs.size f cdv)) → (A.deeper (envOfC x (defScope st) s.heap.objs.size f cdv)).units + 64 < cLine → sp vs H Q E →
      ∃ t, PSs (cxOf CX0 P w K mg base N x (defScope st) f cdv A outer s H E).nox (defBody st) t ∧ t { nx := fun _ H' => Q .non H', rt := Q } (start N vs) H) : Has P w K mg base (k + 1) x ps sp := by
  obtain ⟨f, fd, F, b, m⟩ := F.ex
  obtain ⟨oc, od, kV, doc, pm, an, cdv, ct, osl, e, lk, hcd⟩ := F.ex
  exact ⟨f, fd, F.ok S len fun cdv A outer s H vs Q E hr h => hbody f cdv A outer s H vs Q E hr hr.units h, b, F.kp, m, oc, od, osl, lk⟩
end L2

set_option Elab.async false
set_option linter.all false
set_option maxRecDepth 100000
namespace L2
open PySem PySem.Spec PyProof.Rows
theorem Same.upd {H : Hp} {p : Addr} (h : H p = none) (o : HO) : Same H (upd H p o) := fun b u q => by rw [upd_ne (ne_of_none q h)]; exact q
theorem Same.tup {K : PySem.W.Frag} {H H' : Hp} {a : Addr} {xs : List V} (e : Same H H') (h : SqT K H a xs) : SqT K H' a xs := by
  rcases h with (h | ⟨o, h⟩) | h
  · exact .inl (.inl (e _ _ h))
  · exact .inl (.inr ⟨o, e _ _ h⟩)
  · exact .inr h
mutual
theorem Same.rep {K : PySem.W.Frag} {H H' : Hp} (e : Same H H') : ∀ {x : V} {d : PyData}, RepD K H x d → RepD K H' x d
  | _, _, .non => .non
  | _, _, .bl b => .bl b
  | _, _, .int i => .int i
  | _, _, .str x => .str x
  | _, _, .lst h r => .lst (e.seq h) (e.repAll r)
  | _, _, .tup h r => .tup (e.tup h) (e.repAll r)
theorem Same.repAll {K : PySem.W.Frag} {H H' : Hp} (e : Same H H') : ∀ {xs : List V} {ds : List PyData}, RepAll K H xs ds → RepAll K H' xs ds
  | _, _, .nil => .nil
  | _, _, .cons h r => .cons (e.rep h) (e.repAll r)
end
def cFr (fr : List Nat) (σ : St) : St := fr.map fun j => (σ[j]?).getD none
theorem comp_turns {J : It} {n : Nat} {x : Nat → V} {fr : List Nat} {tf : CB → TT} {te : CB → TE} {Q : VK} {σ : St} {H1 : Hp} (p : Nat → Bool) (f : Nat → V) (hn : n < sizeLine)
    (stop : ∀ H, Same H1 H → J.stop n H) (go : ∀ i H, i < n → Same H1 H → J.go i H) (yld : ∀ i H v H', i < n → Same H1 H → J.yld i H v H' → H' = H ∧ v = x i)
    (hf : ∀ b i H (R : Bool → Hp → Prop), i < n → Same H1 H → (∀ H', Same H H' → R (p i) H') → tf b (some (x i) :: cFr fr σ) H R)
    (he : ∀ b i H (R : VK), i < n → p i = true → Same H1 H → (∀ H', Same H H' → R (f i) H') → te b (some (x i) :: cFr fr σ) H R)
    (fin : ∀ D H, H1 D = none → Same H1 H → H D = some (.lst (((List.range n).filter p).map f)) → Q (.ref D) H) : tBlock J 1 fr (fun _ => gName 0) tf te Q σ H1 := by
  refine ⟨fun b D hD => ?_⟩
  have lenf : ∀ i, (((List.range i).filter p).map f).length ≤ i := fun i => by
    rw [List.length_map]
    exact Nat.le_trans (List.length_filter_le _ _) (Nat.le_of_eq List.length_range)
  refine ⟨fun i m σ' H' => m = n - i ∧ i ≤ n ∧ (∃ v0, σ' = v0 :: cFr fr σ) ∧ Same H1 H' ∧ H' D = some (.lst (((List.range i).filter p).map f)), ⟨n, rfl, Nat.zero_le _, ⟨none, rfl⟩, Same.upd hD _, upd_same⟩, ?_⟩
  rintro i m σ' H' ⟨rfl, hi, ⟨v0, rfl⟩, sm, hl⟩
  by_cases hlt : i < n
  · refine .inr ⟨go i H' hlt sm, fun σ2 H2 => (∃ v0, σ2 = v0 :: cFr fr σ) ∧ Same H1 H2 ∧ H2 D = some (.lst (((List.range (i + 1)).filter p).map f)), fun σ2 H2 q => ⟨n - (i + 1), by omega, rfl, hlt, q⟩, fun v H2 y => ?_⟩
    obtain ⟨rfl, rfl⟩ := yld i H' v H2 hlt sm y
    show tf b (some (x i) :: cFr fr σ) _ _
    refine hf b i _ _ hlt sm fun H3 s3 => ?_
    have e1 : (List.range (i + 1)).filter p = (List.range i).filter p ++ (if p i then [i] else []) := by
      rw [List.range_succ, List.filter_append]
      congr 1
      cases hp : p i <;> simp [hp]
    cases hp : p i with
    | false =>
      rw [if_neg Bool.false_ne_true]
      refine ⟨⟨_, rfl⟩, sm.trans s3, ?_⟩
      rw [s3 _ _ hl, e1, hp]
      simp
    | true =>
      rw [if_pos rfl]
      refine he b i _ _ hlt hp (sm.trans s3) fun H4 s4 => ⟨_, s4 _ _ (s3 _ _ hl), ?_, ⟨_, rfl⟩, ?_, ?_⟩
      · exact Nat.lt_of_le_of_lt (lenf i) (Nat.lt_trans hlt hn)
      · have sm4 : Same H1 H4 := sm.trans (s3.trans s4)
        intro c o q
        by_cases hc : c = D
        · rw [hc, hD] at q; cases q
        · rw [upd_ne hc]; exact sm4 c o q
      · rw [upd_same, e1, hp]
        simp
  · have e : i = n := by omega
    subst e
    exact .inl ⟨stop H' sm, fin D H' hD sm hl⟩
theorem comp_range {lo : Int} {n : Nat} {fr : List Nat} {tf : CB → TT} {te : CB → TE} {Q : VK} {σ : St} {H1 : Hp} (p : Nat → Bool) (f : Nat → V) (hn : n < sizeLine)
    (hf : ∀ b i H (R : Bool → Hp → Prop), i < n → Same H1 H → (∀ H', Same H H' → R (p i) H') → tf b (some (.int (lo + i)) :: cFr fr σ) H R)
    (he : ∀ b i H (R : VK), i < n → p i = true → Same H1 H → (∀ H', Same H H' → R (f i) H') → te b (some (.int (lo + i)) :: cFr fr σ) H R)
    (fin : ∀ D H, H1 D = none → Same H1 H → H D = some (.lst (((List.range n).filter p).map f)) → Q (.ref D) H) : tBlock (Itr lo n) 1 fr (fun _ => gName 0) tf te Q σ H1 :=
  comp_turns (x := fun i => .int (lo + i)) p f hn (fun _ _ => Nat.le_refl _) (fun _ _ h _ => h) (fun _ _ _ _ _ _ y => y) hf he fin
theorem RepAll.ints {K : PySem.W.Frag} {H : Hp} : ∀ ns : List Int, RepAll K H (ns.map V.int) (ns.map PyData.int)
  | [] => .nil
  | n :: r => .cons (.int n) (RepAll.ints r)
theorem shaped_ints (ns : List Int) : SeqAt.shaped (.list (ns.map PyData.int)) = true := by
  unfold SeqAt.shaped
  rw [Bool.and_eq_true]
  constructor
  · exact PySem.W.ke_canLayAll0 ns
  · have e : PyData.depth (.list (ns.map PyData.int)) = PyData.depthAll (ns.map PyData.int) + 1 := rfl
    rw [e, PySem.W.ke_depthAll]
    rfl
section
variable {X : Cx}
def rSlAny (K : PySem.W.Frag) : V → Option Int → Option Int → Hp → VK → Prop := fun x lo hi H Q => rSlL K x lo hi H Q ∨ rSlT K x lo hi H Q
theorem sl_any : SlR X (rSlAny X.K) := sl_list.or sl_tup
end
theorem cutV_map {α : Type} (f : α → V) (xs : List α) (lo hi : Option Int) : cutV (xs.map f) lo hi = ((xs.drop (HT.sIx xs.length 0 lo)).take (HT.sIx xs.length xs.length hi - HT.sIx xs.length 0 lo)).map f := by
  unfold cutV
  rw [List.length_map, List.map_take, List.map_drop]
theorem topFn_mk {K : PySem.W.Frag} {mg : Str → Option Value} {h : Heap} {x : Str} {st : Stmt} {ps : List Str} {f : Addr} {oc : Value} {od an : Option Addr} {osl : Array (Option Value)} {kV doc pm cdv ct : Value} (X : K.In h) (G : h.Ns mainGlobals mg)
    (a : PySem.W.nsIn K mainGlobals x = some (some (.ref f))) (l : K.lookup f = some ⟨oc, od, .func (PySem.W.fnOf x x (defArgs st) (defBody st) (defScope st) .none kV doc pm an cdv ct), osl⟩) (c : PySem.W.codeIn K cdv x = true) (k : PySem.W.keepIn K (.ref f) = true)
    (hb : ∀ (kV doc pm : Value) (an : Option Addr) (cdv ct : Value) (us : List Value), us.length = ps.length → bindArgs (PySem.W.fnOf x x (defArgs st) (defBody st) (defScope st) .none kV doc pm an cdv ct) ⟨us, []⟩ = pure (ps.zip us)) : TopFn K mg x st ps :=
  ⟨f, _, fun_mk l c k, (fun_mk l c k).binds hb, PySem.W.mg_of X G a⟩
theorem has_at {P : Program} {w : World} {K : PySem.W.Frag} {mg : Str → Option Value} {base : Heap} {k : Nat} {x : Str} {ps : List Str} {sp : Sp} {f : Addr} {oc : Value} {od : Option Addr} {osl : Array (Option Value)} {fd : FuncData} (D : Has P w K mg base k x ps sp) (m : mg x = some (.ref f))
    (l : K.lookup f = some ⟨oc, od, .func fd, osl⟩) : FnOk P w K mg base CX0 k f fd ps sp := by
  obtain ⟨g, gd, F, b, kp, mg', _, _, _, l'⟩ := id D
  rw [m] at mg'
  cases mg'
  rw [l] at l'
  cases l'
  exact F
end L2

set_option Elab.async false
set_option linter.all false
set_option maxRecDepth 100000
namespace L2
open PySem PySem.Spec PyProof.Rows
def maxL : List Int → Option Int
  | [] => none
  | x :: r => some (r.foldl (fun m y => if y > m then y else m) x)
def bestTo (ns : List Int) (j : Nat) : Int := (ns.take (j + 1)).tail.foldl (fun m y => if y > m then y else m) (ns.headD 0)
section
variable {prog : Program} {w : World} {A : Around} {R : Result → Shared → Prop} {I l : Addr} {its : Array Value} {ns : List Int} {St : Nat → Heap → Prop} {fp wr : List Addr} {d : Value}
end
def CallRK (X : Cx) (f : Value) (ks : List Str) (r : List V → List V → Hp → VK → Prop) : Prop :=
  ∀ (pins : List (Addr × Obj)) (s : Shared) (σ : St) (H : Hp) (xs zs : List V) (us ws : List Value) (Q : VK), Inv X pins σ H s → Vals xs us → Vals zs ws → r xs zs H Q → wpAny (model X.prog X.w) X.A (call f us (ks.zip ws)) (EP X pins σ Q) X.xe s
section
variable {X : Cx}
end
end L2

set_option Elab.async false
set_option linter.all false
set_option maxRecDepth 100000
namespace L2
open PySem PySem.Spec PyProof.Rows
section
variable {X : Cx}
theorem sl_str : SlR X rSlS := by
  intro pins s σ H x v vl vu lo hi sl Q I rx hs pl pu h
  obtain ⟨z, rfl, hz, q⟩ := h
  obtain ⟨t, rfl⟩ := rx
  have fin : ∀ t' k, EP X pins σ Q (.str (Txt.slice z lo hi) t') { s with toks := k } := fun t' k => ⟨.str _, H, I.tok _, ⟨_, rfl⟩, q⟩
  have len := Nat.le_trans (Txt.slice_le z lo hi) hz
  obtain ⟨o, ho, hc, hd⟩ := hs
  refine ⟨"str", _, PySem.F.slot_str_getitem.lookup, typeIs_str _ _ _, ?_⟩
  cases pl with
  | none =>
    cases pu with
    | none => exact wpAny_getItem_str_slice (l := Option.none) (u := Option.none) (st := Option.none) ⟨o, ho, hc, hd⟩ rfl (post_val_or_str ⟨len, fun t' k => fin t' k⟩)
    | int j uj => exact wpAny_getItem_str_slice (l := Option.none) (u := some (j, uj)) (st := Option.none) ⟨o, ho, hc, hd⟩ rfl (post_val_or_str ⟨len, fun t' k => fin t' k⟩)
  | int i ui =>
    cases pu with
    | none => exact wpAny_getItem_str_slice (l := some (i, ui)) (u := Option.none) (st := Option.none) ⟨o, ho, hc, hd⟩ rfl (post_val_or_str ⟨len, fun t' k => fin t' k⟩)
    | int j uj => exact wpAny_getItem_str_slice (l := some (i, ui)) (u := some (j, uj)) (st := Option.none) ⟨o, ho, hc, hd⟩ rfl (post_val_or_str ⟨len, fun t' k => fin t' k⟩)
def fSl (K : PySem.W.Frag) : V → Option Int → Option Int → Hp → VK → Prop := fun x lo hi H Q => match x with
  | .str z => z.length ≤ sizeLine ∧ Q (.str (Txt.slice z lo hi)) H
  | x => rSlL K x lo hi H Q ∨ rSlT K x lo hi H Q
theorem sl_all : SlR X (fSl X.K) := by
  intro pins s σ H x v vl vu lo hi sl Q I rx hs pl pu h
  by_cases hx : ∃ z, x = .str z
  · obtain ⟨z, rfl⟩ := hx
    exact sl_str pins s σ H _ v vl vu lo hi sl Q I rx hs pl pu ⟨z, rfl, h.1, h.2⟩
  · refine sl_any pins s σ H x v vl vu lo hi sl Q I rx hs pl pu ?_
    cases x <;> first | exact h | exact absurd ⟨_, rfl⟩ hx
theorem pe_gint {x : Str} {z : Int} {pos : Pos} (h : ∃ t, X.mg x = some (.int z t)) (hg : Gl X x := by rfl) (hd : (x == ("__debug__" : Str)) = false := by decide) : PE X (.Name x pos) (tC (.int z)) := by
  obtain ⟨t, e⟩ := h
  exact pe_glob hg e ⟨t, rfl⟩ hd
end
def inS (sg : Str) (c : Nat) : Bool := !(Builtin.Str.occurrences sg ⟨#[c]⟩ 0 sg.length 1).isEmpty
abbrev LET : Str := "abcdefghijklmnopqrstuvwxyz"
abbrev FIG : Str := "0123456789"
end L2

set_option Elab.async false
set_option linter.all false
set_option maxRecDepth 100000
namespace L2
open PySem PySem.Spec PyProof.Rows
def Itr3 (lo c : Int) (n : Nat) : It := ⟨fun i _ => i < n, fun i H x H' => H' = H ∧ x = .int (lo + i * c), fun i _ => n ≤ i⟩
def rangeN (lo hi c : Int) : Nat := (Builtin.Range.rangeSize lo hi c).toNat
def iRng3 (ta : TA) : TI := fun σ H R => ta σ H fun vs H1 => ∃ i j c : Int, vs = [.int i, .int j, .int c] ∧ Builtin.Range.small i j c = true ∧ 0 < c ∧ c < 1000 ∧ 0 ≤ Builtin.Range.rangeSize i j c ∧ R (Itr3 i c (rangeN i j c)) H1
section
variable {X : Cx} {tg : Expr}
def evens {α : Type} (xs : List α) : List α := (List.range ((xs.length + 1) / 2)).filterMap fun m => xs[m * 2]?
def tEvens (K : PySem.W.Frag) (te : TE) : TE := fun σ H Q => te σ H fun x H1 => ∃ a xs, x = .ref a ∧ SqT K H1 a xs ∧ ∀ p, H1 p = none → Q (.ref p) (upd H1 p (.tup (evens xs)))
theorem pe_gtup {x : Str} {pos : Pos} {a : Addr} (h : X.mg x = some (.ref a)) (hg : Gl X x := by rfl) (hd : (x == ("__debug__" : Str)) = false := by decide) : PE X (.Name x pos) (tC (.ref a)) := pe_glob hg h rfl hd
end
end L2

set_option Elab.async false
set_option linter.all false
set_option maxRecDepth 100000
namespace L2
open PySem PySem.Spec PyProof.Rows
theorem RepAll.strs {K : PySem.W.Frag} {H : Hp} : ∀ ys : List Str, RepAll K H (ys.map V.str) (ys.map PyData.str)
  | [] => .nil
  | y :: r => .cons (.str y) (RepAll.strs r)
theorem lay_strs : ∀ ys : List Str, (∀ y ∈ ys, PyData.strOk y = true) → PyData.canLayAll0 (ys.map PyData.str) = true
  | [], _ => rfl
  | y :: r, h => by simp [PyData.canLayAll0, PyData.canLay0, lay_strs r fun z hz => h z (List.mem_cons_of_mem _ hz), h y List.mem_cons_self]
theorem depth_strs : ∀ ys : List Str, PyData.depthAll (ys.map PyData.str) = 0
  | [] => rfl
  | _ :: r => by simp [PyData.depthAll, PyData.depth, depth_strs r]
theorem shaped_strs {ys : List Str} (h : ∀ y ∈ ys, PyData.strOk y = true) : SeqAt.shaped (.list (ys.map PyData.str)) = true := by
  simp [SeqAt.shaped, PyData.canLay0, PyData.depth, lay_strs ys h, depth_strs]
end L2

set_option Elab.async false
set_option linter.all false
set_option maxRecDepth 100000
namespace L2
open PySem PySem.Spec PyProof.Rows
end L2

set_option Elab.async false
set_option linter.all false
set_option maxRecDepth 100000
namespace L2
open PySem PySem.Spec PyProof.Rows
section
variable {P : Program} {w : World} {K : PySem.W.Frag} {mg : Str → Option Value} {base : Heap}
structure MFn (K : PySem.W.Frag) (C : Addr) (m qual : Str) (st : Stmt) (ps : List Str) : Prop where
  ex : ∃ f fd, Fun K m qual st f fd ∧ Binds K fd ps [] ∧ Meth K C m f
def HasM (P : Program) (w : World) (K : PySem.W.Frag) (mg : Str → Option Value) (base : Heap) (k : Nat) (C : Addr) (m : Str) (ps : List Str) (sp : Sp) : Prop :=
  ∃ f fd, FnOk P w K mg base CX0 k f fd ps sp ∧ Binds K fd ps [] ∧ Meth K C m f
theorem MFn.has {C : Addr} {m qual : Str} {st : Stmt} {N ps : List Str} {k : Nat} {sp : Sp} (F : MFn K C m qual st ps) (S : FnScope N ps (defScope st)) (len : ∀ vs H Q E, sp vs H Q E → vs.length = ps.length)
    (hbody : ∀ (f : Addr) (cdv : Value) (A : Around) (outer : List Env) (s : Shared) (H : Hp) (vs : List V) (Q : VK) (E : XK), Room k (A.deeper (envOfC qual (defScope st) s.heap.objs.size f cdv)) → (A.deeper (envOfC qual (defScope st) s.heap.objs.size f cdv)).units + 64 < cLine → sp vs H Q E →
      ∃ t, PSs (cxOf CX0 P w K mg base N qual (defScope st) f cdv A outer s H E).nox (defBody st) t ∧ t { nx := fun _ H' => Q .non H', rt := Q } (start N vs) H) : HasM P w K mg base (k + 1) C m ps sp := by
  obtain ⟨f, fd, F, b, m⟩ := F.ex
  exact ⟨f, fd, F.ok S len fun cdv A outer s H vs Q E hr h => hbody f cdv A outer s H vs Q E hr hr.units h, b, m⟩
structure OwnC (K : PySem.W.Frag) (mg : Str → Option Value) (C : Addr) (x : Str) (up : List Addr) : Prop where
  mg : mg x = some (.ref C)
  cl : Cls K C
  mro : ∃ cd, PySem.W.clsIn K C = some cd ∧ cd.mro = up.map Value.ref ++ [Value.type "object"]
  ty : PySem.W.typeIn K (.ref C) = some (.type "type")
  kc : PySem.W.findIn K (.ref C) "__class__" = some (some (.builtin "object.__class__"))
  cg : PySem.W.specialIn K (.builtin "object.__class__") "__get__" = some (some (.builtin "getset_descriptor.__get__"))
  ct : PySem.W.takesIn K (.builtin "object.__class__") = some true
  mks : PySem.W.makesIn K C = true
  kp : PySem.W.keepIn K (.ref C) = true
variable {C D : Addr} {x y : Str} {up vp : List Addr}
theorem OwnC.sub (O : OwnC K mg C x up) (b : Value) : PySem.W.mroIn K C b = some ((up.map Value.ref ++ [Value.type "object"]).contains b) := by
  obtain ⟨cd, h1, h2⟩ := O.mro
  unfold PySem.W.mroIn
  rw [h1]
  show (if cd.mro.isEmpty = true then none else some (cd.mro.contains b)) = _
  rw [h2, if_neg (by cases up <;> simp)]
theorem refs_contains (up : List Addr) (D : Addr) : (up.map Value.ref ++ [Value.type "object"]).contains (Value.ref D) = decide (D ∈ up) := by
  induction up with
  | nil => rfl
  | cons a r ih =>
    show ((Value.ref D == Value.ref a) || (r.map Value.ref ++ [Value.type "object"]).contains (Value.ref D)) = _
    rw [ih]
    by_cases h : D = a
    · subst h; simp
    · have : (Value.ref D == Value.ref a) = false := by
        rw [Bool.eq_false_iff]
        intro z
        exact h (Value.ref.inj (beq_iff_eq.mp z))
      rw [this, Bool.false_or]
      simp [h]
theorem OwnC.kit (O : OwnC K mg C x up) (U : OwnC K mg D y vp) (hs : C ∈ up) : PySem.W.kitOne K (.ref C) (.ref D) = some (decide (D ∈ up)) := by
  unfold PySem.W.kitOne
  split
  · rename_i q
    have : C = D := Value.ref.inj (beq_iff_eq.mp q)
    rw [← this, decide_eq_true hs]
  · obtain ⟨cd, h1, _⟩ := U.mro
    unfold PySem.W.kitCls
    dsimp only
    rw [h1, U.ty]
    rw [if_pos (by rfl)]
    show PySem.W.mroIn K C (.ref D) = _
    rw [O.sub, refs_contains]
theorem OwnC.tyOf (O : OwnC K mg C x up) {H : Hp} {a dx : Addr} {fs : List (Str × V)} (e : H a = some (.ins C dx fs)) : TyOf K H (.ref a) (.ref C) :=
  .ins e O.cl O.kc O.cg O.ct ((O.sub _).trans (by simp))
end
section
variable {X : Cx} {k j : Nat} {C : Addr} {x m : Str} {ps : List Str} {sp : Sp} {o e : Expr} {es : List Expr} {ta : TE} {t : TA} {p apos pos : Pos} {up : List Addr}
theorem pe_makeD (O : OwnC X.K X.mg C x up) (D : HasM X.prog X.w X.K X.mg X.base j C "__init__" ps sp) (hr : Room k X.A) (ha : PA X (e :: es) t) (hj : j + 1 ≤ k := by decide) (hg : Gl X x := by rfl) (hdb : (x == ("__debug__" : Str)) = false := by decide)
    (he : starEach (e :: es) X.env = (false, eval e X.env) :: starEach es X.env := by rfl) (hpl : (backTo pos (starEach es X.env)).any (·.1) = false := by rfl) : PE X (.Call (.Name x p) (e :: es) [] pos) (tMake C sp [] E0 t) := by
  obtain ⟨f, fd, F, b, m⟩ := D
  exact pe_make ⟨O.mks, m.at_, m.fn, O.kp⟩ F (hr.mono hj) hg O.mg b .nil pass0 ha hdb he hpl
theorem pe_makeD0 (O : OwnC X.K X.mg C x up) (D : HasM X.prog X.w X.K X.mg X.base j C "__init__" ps sp) (hr : Room k X.A) (hj : j + 1 ≤ k := by decide) (hg : Gl X x := by rfl) (hdb : (x == ("__debug__" : Str)) = false := by decide) : PE X (.Call (.Name x p) [] [] pos) (tMake C sp [] E0 tNil) := by
  obtain ⟨f, fd, F, b, m⟩ := D
  exact pe_make0 ⟨O.mks, m.at_, m.fn, O.kp⟩ F (hr.mono hj) hg O.mg b .nil pass0 hdb
theorem pe_methD {pl : Sem Bool} (he : PE X o ta) (c : Cls X.K C) (D : HasM X.prog X.w X.K X.mg X.base j C m ps sp) (hr : Room k X.A) (ha : PA X (e :: es) t) (hj : j ≤ k := by decide)
    (hst : starEach (e :: es) X.env = (false, eval e X.env) :: starEach es X.env := by rfl) (hpl : (backTo pos (starEach es X.env)).any (·.1) = false := by rfl)
    (ht : eval (.Call (.Attribute o m apos) (e :: es) [] pos) X.env = (do
      let ov ← eval o X.env
      standAt apos.atName
      let (f, first) ← holding [ov] (getMethod ov m pl)
      callWith pos f first (backTo pos (starEach (e :: es) X.env)) (backToKw pos (keywordEach [] X.env))) := by rfl) :
    PE X (.Call (.Attribute o m apos) (e :: es) [] pos) (tMeth C m sp [] E0 ta t) := by
  obtain ⟨f, fd, F, b, hm⟩ := D
  exact pe_meth (pl := pl) he c hm F (hr.mono hj) b .nil pass0 ha hst hpl ht
def tMethV (M : Addr → Sp → Prop) (m : Str) (ta : TE) (t : TA) : TE := fun σ H Q => ta σ H fun x H1 => ∃ a C dx fs sp, x = .ref a ∧ H1 a = some (.ins C dx fs) ∧ fs.lookup m = none ∧ M C sp ∧ t σ H1 fun vs H2 => sp (x :: vs) H2 Q E0
structure OfC (K : PySem.W.Frag) (C : Addr) (m : Str) : Prop where
  ga : PySem.W.specialIn K (.ref C) "__getattribute__" = some (some (.builtin "type.__getattribute__"))
  rd : PySem.W.readsIn K C (.type "type") = true
  fc : ∃ f, PySem.W.findIn K (.ref C) m = some (some (.ref f)) ∧ PySem.W.findCls K (.ref C) (.type "type") m = some (.val (.ref f))
theorem pe_callOf {pl : Sem Bool} (O : OwnC X.K X.mg C x up) (W : OfC X.K C m) (D : HasM X.prog X.w X.K X.mg X.base j C m ps sp) (hr : Room k X.A) (ha : PA X (e :: es) t) (hj : j ≤ k := by decide) (hg : Gl X x := by rfl) (hdb : (x == ("__debug__" : Str)) = false := by decide)
    (hst : starEach (e :: es) X.env = (false, eval e X.env) :: starEach es X.env := by rfl) (hpl : (backTo pos (starEach es X.env)).any (·.1) = false := by rfl)
    (ht : eval (.Call (.Attribute (.Name x p) m apos) (e :: es) [] pos) X.env = (do
      let ov ← eval (.Name x p) X.env
      standAt apos.atName
      let (f, first) ← holding [ov] (getMethod ov m pl)
      callWith pos f first (backTo pos (starEach (e :: es) X.env)) (backToKw pos (keywordEach [] X.env))) := by rfl) :
    PE X (.Call (.Attribute (.Name x p) m apos) (e :: es) [] pos) (tCall sp [] E0 t) := by
  obtain ⟨f, fd, F, b, hm⟩ := D
  intro pins s σ H Q I h
  refine PySem.W.methodCall_KW (pl := pl) (ld_glob I hg O.mg ?_ hdb) ht
  obtain ⟨f', h1, h2⟩ := W.fc
  have ef : f = f' := by
    have := hm.at_.symm.trans h1
    cases this
    rfl
  subst ef
  refine PySem.W.method_cls I.kIn W.ga (PySem.W.cls_value I.kIn W.rd h2 rfl ?_)
  refine PySem.W.callWith_K (h₀ := X.base) I.ok.mod.kin hm.kp (thn (ha pos pins _ σ H _ (I.tok _) h) fun us s2 ⟨vs, H2, I2, r, q2⟩ => ⟨I2.kIn, ?_⟩) hst hpl
  exact run_fn (us := us) (vs := vs) F (hr.mono hj) b .nil pass0 I2 r q2
end
theorem mFn_mk {K : PySem.W.Frag} {C : Addr} {m qual : Str} {st : Stmt} {ps : List Str} {f : Addr} {oc : Value} {od an : Option Addr} {osl : Array (Option Value)} {kV doc pm cdv ct : Value}
    (a : PySem.W.findIn K (.ref C) m = some (some (.ref f))) (fn : PySem.W.isFn K (.ref f) = true) (l : K.lookup f = some ⟨oc, od, .func (PySem.W.fnOf m qual (defArgs st) (defBody st) (defScope st) .none kV doc pm an cdv ct), osl⟩) (c : PySem.W.codeIn K cdv qual = true) (k : PySem.W.keepIn K (.ref f) = true)
    (hb : ∀ (kV doc pm : Value) (an : Option Addr) (cdv ct : Value) (us : List Value), us.length = ps.length → bindArgs (PySem.W.fnOf m qual (defArgs st) (defBody st) (defScope st) .none kV doc pm an cdv ct) ⟨us, []⟩ = pure (ps.zip us)) : MFn K C m qual st ps :=
  ⟨f, _, fun_mk l c k, (fun_mk l c k).binds hb, ⟨a, fn, k⟩⟩
end L2
namespace L2
open PySem PySem.Spec PyProof.Rows
def But (x : Addr) (H H' : Hp) : Prop := ∀ b, b ≠ x → ∀ o, H b = some o → H' b = some o
theorem But.refl (x : Addr) (H : Hp) : But x H H := fun _ _ _ h => h
theorem But.trans {x : Addr} {H H1 H2 : Hp} (a : But x H H1) (b : But x H1 H2) : But x H H2 := fun c hc o h => b c hc o (a c hc o h)
theorem But.at (x : Addr) (H : Hp) (o : HO) : But x H (upd H x o) := fun b hb u q => by rw [upd_ne hb]; exact q
theorem But.new {x p : Addr} {H : Hp} (h : H p = none) (o : HO) : But x H (upd H p o) := fun b _ u q => by rw [upd_ne (ne_of_none q h)]; exact q
theorem But.of {x : Addr} {H H' : Hp} (s : Same H H') : But x H H' := fun b _ o h => s b o h
theorem But.same {x dx : Addr} {H H' : Hp} {o o' : HO} (b : But x (upd (upd H dx o) x o') H') (hx : H x = none) (hd : H dx = none) : Same H H' := fun a u q => by
  have h1 : a ≠ x := fun z => by rw [z, hx] at q; cases q
  have h2 : a ≠ dx := fun z => by rw [z, hd] at q; cases q
  exact b a h1 u (by rw [upd_ne h1, upd_ne h2]; exact q)
theorem SqL.but {K : PySem.W.Frag} {H H' : Hp} {x t C dx : Addr} {fs : List (Str × V)} {xs : List V} (h : SqL K H t xs) (hx : H x = some (.ins C dx fs)) (b : But x H H') : SqL K H' t xs := by
  rcases h with (h | ⟨o, h⟩) | h
  · exact .inl (.inl (b t (fun z => by rw [z, hx] at h; cases h) _ h))
  · exact .inl (.inr ⟨o, b t (fun z => by rw [z, hx] at h; cases h) _ h⟩)
  · exact .inr h
theorem SqL.new {K : PySem.W.Frag} {H : Hp} {t x dx : Addr} {xs : List V} {o o' : HO} (h : SqL K H t xs) (hx : H x = none) (hd : H dx = none) : SqL K (upd (upd H dx o) x o') t xs :=
  Same.seq (fun a u q => by
    have h1 : a ≠ x := fun z => by rw [z, hx] at q; cases q
    have h2 : a ≠ dx := fun z => by rw [z, hd] at q; cases q
    rw [upd_ne h1, upd_ne h2]; exact q) h
end L2
namespace L2
open PySem
theorem new_none {H : Hp} {x dx p : Addr} {o o' : HO} (hx : H x = none) (hd : H dx = none) (h : upd (upd H dx o) x o' p = none) : H p = none := by
  unfold upd at h
  split at h
  · cases h
  · split at h
    · cases h
    · exact h
end L2
namespace L2
open PySem
theorem But.none {x p : Addr} {H H' : Hp} (b : But x H H') (e : p ≠ x) (h : H' p = Option.none) : H p = Option.none := by
  cases z : H p with
  | none => rfl
  | some o => exact absurd (h.symm.trans (b _ e _ z)) (by intro w; cases w)
end L2

set_option Elab.async false
set_option linter.all false
set_option maxRecDepth 100000
namespace L2
open PySem PySem.Spec PyProof.Rows
section
variable {X : Cx}
def flatR : V → Bool
  | .flt _ => false
  | .byt _ => false
  | _ => true
theorem eqAt_same {x : V} {u v : Value} (hx : flatR x = true) (ru : RelV x u) (rv : RelV x v) (A : Around) (s : Shared) : SeqAt.EqAt A s u v true := by
  cases x with
  | non => cases ru; cases rv; exact .same _
  | bl b => cases ru; cases rv; exact .same _
  | int i =>
    obtain ⟨t, rfl⟩ := ru
    obtain ⟨t', rfl⟩ := rv
    have := SeqAt.EqAt.int_int (A := A) (s := s) i t i t'
    rwa [beq_self_eq_true] at this
  | str y =>
    obtain ⟨t, rfl⟩ := ru
    obtain ⟨t', rfl⟩ := rv
    have := SeqAt.EqAt.str_str (A := A) (s := s) y t y t'
    rwa [beq_self_eq_true] at this
  | byt _ => cases hx
  | flt _ => cases hx
  | ref a => cases ru; cases rv; exact .same _
  | ty n => cases ru; cases rv; exact .same _
theorem o_eqS (hu : X.A.units + 64 < cLine) : OpR X (compareOp .Eq) (fun x y H Q => ∃ p q xs, x = .ref p ∧ y = .ref q ∧ SqL X.K H p xs ∧ SqL X.K H q xs ∧ xs.all flatR = true ∧ Q (.bl true) H) := by
  intro pins s σ H x y v u Q I rx ry h
  obtain ⟨p, q, xs, rfl, rfl, hp, hq, hf, k⟩ := h
  cases rx
  cases ry
  obtain ⟨its, r1, ⟨o, n, e1, c1, _, d1⟩, _⟩ := I.list hp
  obtain ⟨jts, r2, ⟨o2, n2, e2, c2, _, d2⟩, _⟩ := I.list hq
  have l1 := r1.length
  have l2 := r2.length
  refine SeqAt.eq_listAt (e := fun _ => true) ⟨o, e1, c1, n, d1⟩ ⟨o2, e2, c2, n2, d2⟩ (by simp; omega) (by omega) (fun j h1 h2 => ?_) ?_
  · simp at h1 h2
    obtain ⟨x, hx⟩ : ∃ x, xs[j]? = some x := ⟨xs[j]'(by omega), List.getElem?_eq_getElem (by omega)⟩
    obtain ⟨u1, g1, w1⟩ := r1.get hx
    obtain ⟨u2, g2, w2⟩ := r2.get hx
    have z1 : its.toArray[j]'(by simpa using h1) = u1 := by
      have := List.getElem?_eq_getElem h1
      rw [g1] at this
      simpa using (Option.some.inj this).symm
    have z2 : jts.toArray[j]'(by simpa using h2) = u2 := by
      have := List.getElem?_eq_getElem h2
      rw [g2] at this
      simpa using (Option.some.inj this).symm
    rw [z1, z2]
    exact eqAt_same (List.all_eq_true.mp hf x (List.mem_of_getElem? hx)) w1 w2 _ _
  · have : ((List.range its.toArray.size).all fun _ => true) = true := by simp
    rw [this]
    exact ⟨.bl true, H, I, rfl, k⟩
def fEqA (K : PySem.W.Frag) : R2 := fun x y H Q => match x, y with
  | .ref p, .ref q => (∃ d e, RepD K H (.ref p) d ∧ RepD K H (.ref q) e ∧ SeqAt.shaped d = true ∧ SeqAt.shaped e = true ∧ Q (.bl (PyData.eqv d e)) H) ∨ (∃ xs, SqL K H p xs ∧ SqL K H q xs ∧ xs.all flatR = true ∧ Q (.bl true) H)
  | x, y => scal x y = true ∧ Q (.bl (decide (x = y))) H
theorem o_eqA (hu : X.A.units + 64 < cLine) : OpR X (compareOp .Eq) (fEqA X.K) := ((o_eq hu).or (o_eqS hu)).imp fun x y H Q q => by
  by_cases hr : ∃ p q, x = V.ref p ∧ y = V.ref q
  · obtain ⟨p, q', rfl, rfl⟩ := hr
    rcases q with q | ⟨xs, h1, h2, h3, h4⟩
    · exact .inl q
    · exact .inr ⟨p, q', xs, rfl, rfl, h1, h2, h3, h4⟩
  · refine .inl ?_
    cases x <;> cases y <;> first | exact q | exact absurd ⟨_, _, rfl, rfl⟩ hr
end
end L2

set_option Elab.async false
set_option linter.all false
set_option maxRecDepth 100000
namespace L2
open PySem PySem.Spec PyProof.Rows
section
variable {κ : Type} [DecidableEq κ]
def valV (kvs : List (κ × V)) (k : κ) : Option V := (kvs.find? fun kv => decide (kv.1 = k)).map (·.2)
def putK (kvs : List (κ × V)) (k : κ) (v : V) : List (κ × V) :=
  if (kvs.any fun kv => decide (kv.1 = k)) = true then kvs.map (fun kv => if kv.1 = k then (kv.1, v) else kv) else kvs ++ [(k, v)]
def dropK (kvs : List (κ × V)) (k : κ) : List (κ × V) := kvs.filter fun kv => decide (kv.1 ≠ k)
theorem valV_pos {p : κ × V} {r : List (κ × V)} {k : κ} (e : p.1 = k) : valV (p :: r) k = some p.2 := by simp [valV, List.find?_cons, e]
theorem valV_neg {p : κ × V} {r : List (κ × V)} {k : κ} (e : ¬ p.1 = k) : valV (p :: r) k = valV r k := by simp [valV, List.find?_cons, e]
theorem valV_any (k : κ) : ∀ kvs : List (κ × V), (kvs.any fun kv => decide (kv.1 = k)) = (valV kvs k).isSome
  | [] => rfl
  | p :: r => by
    rw [List.any_cons]
    by_cases e : p.1 = k
    · simp only [valV_pos e, decide_eq_true e, Bool.true_or, Option.isSome_some]
    · rw [valV_neg e, decide_eq_false e, Bool.false_or]; exact valV_any k r
theorem length_putK (kvs : List (κ × V)) (k : κ) (v : V) : (putK kvs k v).length ≤ kvs.length + 1 := by
  unfold putK
  split
  · rw [List.length_map]; omega
  · rw [List.length_append, List.length_cons, List.length_nil]; omega
theorem RelO.isSome_eq {o : Option V} {u : Option Value} (r : RelO o u) : o.isSome = u.isSome := by
  cases o with
  | none => cases u with
    | none => rfl
    | some _ => exact (show False from r).elim
  | some _ => cases u with
    | none => exact (show False from r).elim
    | some _ => rfl
theorem RelO.getD {o : Option V} {u : Option Value} {d : V} {d' : Value} (r : RelO o u) (rd : RelV d d') : RelV (o.getD d) (u.getD d') := by
  cases o with
  | none => cases u with
    | none => exact rd
    | some _ => exact (show False from r).elim
  | some _ => cases u with
    | none => exact (show False from r).elim
    | some _ => exact r
theorem KV.val {kvs : List (κ × V)} {vs : List (κ × Value)} (r : KV kvs vs) (k : κ) : RelO (valV kvs k) (valueAt vs k) := by
  unfold KV at r
  induction r with
  | nil => exact True.intro
  | @cons p q ps qs h t ih =>
    obtain ⟨h1, h2⟩ := h
    by_cases e : p.1 = k
    · have e' : q.1 = k := h1.symm.trans e
      have b : valueAt (q :: qs) k = some q.2 := by simp [valueAt, List.find?_cons, e']
      rw [valV_pos e, b]; exact h2
    · have e' : ¬ q.1 = k := fun z => e (h1.trans z)
      have b : valueAt (q :: qs) k = valueAt qs k := by simp [valueAt, List.find?_cons, e']
      rw [valV_neg e, b]; exact ih
theorem KV.any {kvs : List (κ × V)} {vs : List (κ × Value)} (r : KV kvs vs) (k : κ) : (kvs.any fun kv => decide (kv.1 = k)) = vs.any fun kv => decide (kv.1 = k) := by
  unfold KV at r
  induction r with
  | nil => rfl
  | cons h t ih => rw [List.any_cons, List.any_cons, ih, h.1]
theorem KV.repl {kvs : List (κ × V)} {vs : List (κ × Value)} (r : KV kvs vs) (k : κ) {y : V} {u : Value} (ry : RelV y u) :
    KV (kvs.map fun kv => if kv.1 = k then (kv.1, y) else kv) (vs.map fun kv => if kv.1 = k then (kv.1, u) else kv) := by
  unfold KV at r ⊢
  induction r with
  | nil => exact .nil
  | @cons p q ps qs h t ih =>
    rw [List.map_cons, List.map_cons]
    refine .cons ?_ ih
    obtain ⟨h1, h2⟩ := h
    by_cases e : p.1 = k
    · rw [if_pos e, if_pos (h1.symm.trans e)]; exact ⟨h1, ry⟩
    · rw [if_neg e, if_neg (fun z => e (h1.trans z))]; exact ⟨h1, h2⟩
theorem KV.put {kvs : List (κ × V)} {vs : List (κ × Value)} (r : KV kvs vs) (k : κ) {y : V} {u : Value} (ry : RelV y u) : KV (putK kvs k y) (stored vs k u) := by
  unfold putK stored
  rw [r.any k]
  by_cases e : (vs.any fun kv => decide (kv.1 = k)) = true
  · rw [if_pos e, if_pos e]; exact r.repl k ry
  · rw [if_neg e, if_neg e]; exact Paired.snoc r ⟨rfl, ry⟩
theorem KV.keys {kvs : List (κ × V)} {vs : List (κ × Value)} (r : KV kvs vs) : kvs.map (·.1) = vs.map (·.1) := by
  unfold KV at r
  induction r with
  | nil => rfl
  | cons h t ih => rw [List.map_cons, List.map_cons, ih, h.1]
theorem KV.length {kvs : List (κ × V)} {vs : List (κ × Value)} (r : KV kvs vs) : kvs.length = vs.length := Paired.length r
end
theorem kV_is {P : Program} {w : World} {k : Key} {u : Value} (r : RelV (kV k) u) : (mixKind P w).is k u = true := by
  cases k with
  | inl i => obtain ⟨t, e⟩ := (show ∃ t, u = Value.int i t from r); subst e; exact mixKind_int P w i t
  | inr x => obtain ⟨t, e⟩ := (show ∃ t, u = Value.str x t from r); subst e; exact mixKind_str P w x t
theorem items_are {P : Program} {w : World} : ∀ {ks : List Key} {us : List Value}, Vals (ks.map kV) us → ItemsAre (mixKind P w) ks us
  | [], _, r => by rw [List.map_nil] at r; cases r; exact .nil
  | k :: ks, _, r => by
    rw [List.map_cons] at r
    cases r with
    | cons h t => exact .cons (kV_is h) (items_are t)
abbrev KT (H : Hp) : List (List Key × V) → List (List Key × Addr × Value) → Prop := Paired fun p q => p.1 = q.1 ∧ H q.2.1 = some (.tup (p.1.map kV)) ∧ RelV p.2 q.2.2
theorem KT.val {H : Hp} {kvs : List (List Key × V)} {xs : List (List Key × Addr × Value)} (r : KT H kvs xs) (k : List Key) : RelO (valV kvs k) ((atKey xs k).map (·.2)) := by
  induction r with
  | nil => exact True.intro
  | @cons p q ps qs h t ih =>
    obtain ⟨h1, _, h2⟩ := h
    by_cases e : p.1 = k
    · have e' : q.1 = k := h1.symm.trans e
      have b : atKey (q :: qs) k = some q.2 := by simp [atKey, List.find?_cons, e']
      rw [valV_pos e, b]; exact h2
    · have e' : ¬ q.1 = k := fun z => e (h1.trans z)
      have b : atKey (q :: qs) k = atKey qs k := by simp [atKey, List.find?_cons, e']
      rw [valV_neg e, b]; exact ih
theorem KT.repl {H : Hp} {kvs : List (List Key × V)} {xs : List (List Key × Addr × Value)} (r : KT H kvs xs) (k : List Key) {y : V} {u : Value} (ry : RelV y u) :
    KT H (kvs.map fun kv => if kv.1 = k then (kv.1, y) else kv) (xs.map (putAt k u)) := by
  induction r with
  | nil => exact .nil
  | @cons p q ps qs h t ih =>
    rw [List.map_cons, List.map_cons]
    refine .cons ?_ ih
    obtain ⟨h1, h2, h3⟩ := h
    unfold putAt
    by_cases e : p.1 = k
    · rw [if_pos e, if_pos (h1.symm.trans e)]; exact ⟨h1, h2, ry⟩
    · rw [if_neg e, if_neg (fun z => e (h1.trans z))]; exact ⟨h1, h2, h3⟩
theorem KT.put {H : Hp} {kvs : List (List Key × V)} {xs : List (List Key × Addr × Value)} (r : KT H kvs xs) (k : List Key) {b : Addr} {y : V} {u : Value} (hb : H b = some (.tup (k.map kV))) (ry : RelV y u) :
    KT H (putK kvs k y) (storedH xs k b u) := by
  have e : (kvs.any fun kv => decide (kv.1 = k)) = (atKey xs k).isSome := by
    rw [valV_any, (r.val k).isSome_eq, Option.isSome_map]
  unfold putK storedH
  rw [e]
  by_cases q : (atKey xs k).isSome = true
  · rw [if_pos q, if_pos q]; exact r.repl k ry
  · rw [if_neg q, if_neg q]; exact Paired.snoc r ⟨rfl, hb, ry⟩
theorem KT.keeps {H H' : Hp} {kvs : List (List Key × V)} {xs : List (List Key × Addr × Value)} (r : KT H kvs xs) (ht : ∀ b ys, H b = some (.tup ys) → H' b = some (.tup ys)) : KT H' kvs xs :=
  Paired.mapP r fun _ _ z => ⟨z.1, ht _ _ z.2.1, z.2.2⟩
section
variable {P : Program} {w : World} {H : Hp} {h : Heap} {a : Addr}
theorem rd_of {u : HO} (ok : HOk P w H h) (e : Rd H a u) : ObjOk P w H h a u := e.ok ok
theorem dk_rd {kvs : List (Key × V)} (ok : HOk P w H h) (e : Rd H a (.dK kvs)) : kvs.length ≤ sizeLine ∧ (a == sysModules) = false ∧ ∃ vs, KV kvs vs ∧ h.DictOf (mixKind P w) a vs :=
  show ObjOk P w H h a (.dK kvs) from rd_of ok e
theorem dk_of {kvs : List (Key × V)} (ok : HOk P w H h) (e : H a = some (.dK kvs)) : kvs.length ≤ sizeLine ∧ (a == sysModules) = false ∧ ∃ vs, KV kvs vs ∧ h.DictOf (mixKind P w) a vs := dk_rd ok (.inl e)
theorem key_of {ks : List Key} (ok : HOk P w H h) (e : H a = some (.tup (ks.map kV))) : (tupleKind (mixKind P w)).is h ks a := by
  obtain ⟨_, its, r, o, h1, h2, n, h3⟩ := (show ObjOk P w H h a (.tup (ks.map kV)) from ok a _ e)
  exact ⟨o, its.toArray, n, h1, h2, h3, by simpa using items_are r⟩
theorem dt_rd {kvs : List (List Key × V)} (ok : HOk P w H h) (e : Rd H a (.dT kvs)) : kvs.length ≤ sizeLine ∧ (a == sysModules) = false ∧
    ∃ xs, KT H kvs xs ∧ h.DictOfH (tupleKind (mixKind P w)) a xs := by
  obtain ⟨z, y, xs, r, o, es, ep, h1, h2, h3, h4, h5⟩ := (show ObjOk P w H h a (.dT kvs) from rd_of ok e)
  refine ⟨z, y, xs, r, o, es, ep, h1, h2, h3, h4, fun x hx => ?_, h5⟩
  have all : ∀ {l : List (List Key × V)} {m : List (List Key × Addr × Value)}, KT H l m → ∀ x ∈ m, (tupleKind (mixKind P w)).is h x.1 x.2.1 := by
    intro l m q
    induction q with
    | nil => intro x hx; exact nomatch hx
    | @cons p q ps qs hq t ih =>
      intro x hx
      rcases List.mem_cons.mp hx with e | hx
      · subst e
        exact key_of ok (by rw [← hq.1]; exact hq.2.1)
      · exact ih x hx
  exact all r x hx
theorem dt_of {kvs : List (List Key × V)} (ok : HOk P w H h) (e : H a = some (.dT kvs)) : kvs.length ≤ sizeLine ∧ (a == sysModules) = false ∧
    ∃ xs, KT H kvs xs ∧ h.DictOfH (tupleKind (mixKind P w)) a xs := dt_rd ok (.inl e)
end
def DGet (H : Hp) (a : Addr) (y : V) (r : Option V) : Prop :=
  (∃ kvs k, Rd H a (.dK kvs) ∧ y = kV k ∧ r = valV kvs k) ∨ ∃ kvs k b, Rd H a (.dT kvs) ∧ y = .ref b ∧ H b = some (.tup (k.map kV)) ∧ r = valV kvs k
def DPut (H : Hp) (a : Addr) (y v : V) (H' : Hp) : Prop :=
  (∃ kvs k, H a = some (.dK kvs) ∧ y = kV k ∧ kvs.length < sizeLine ∧ H' = upd H a (.dK (putK kvs k v))) ∨
  ∃ kvs k b, H a = some (.dT kvs) ∧ y = .ref b ∧ H b = some (.tup (k.map kV)) ∧ kvs.length < sizeLine ∧ H' = upd H a (.dT (putK kvs k v))
theorem DGet.k {H : Hp} {a : Addr} {kvs : List (Key × V)} {k : Key} (e : H a = some (.dK kvs)) : DGet H a (kV k) (valV kvs k) := .inl ⟨kvs, k, .inl e, rfl, rfl⟩
theorem DPut.k {H : Hp} {a : Addr} {kvs : List (Key × V)} {k : Key} {v : V} (e : H a = some (.dK kvs)) (hl : kvs.length < sizeLine) : DPut H a (kV k) v (upd H a (.dK (putK kvs k v))) := .inl ⟨kvs, k, e, rfl, hl, rfl⟩
section
variable {X : Cx} {pins : List (Addr × Obj)} {σ : St} {H : Hp} {s : Shared} {a : Addr} {y v : V} {u r : Value} {o : Option V} {A : Around} {E : Value → Shared → Prop}
theorem Inv.big (I : Inv X pins σ H s) : sysModules < s.heap.objs.size := by
  have h : mainGlobals < s.heap.objs.size := (I.mod.glob.keeps I.bk).lt
  exact Nat.lt_trans (by decide) h
theorem d_getItem {Q : Value → Shared → Prop} (hu : A.units + 1 < cLine) (I : Inv X pins σ H s) (g : DGet H a y (some v)) (ry : RelV y u) (h : ∀ w' s', Inv X pins σ H s' → RelV v w' → Q w' s') :
    wpAny (model X.prog X.w) A (getItem (.ref a) u) Q E s := by
  rcases g with ⟨kvs, k, e, ey, l⟩ | ⟨kvs, k, b, e, ey, eb, l⟩
  · subst ey
    obtain ⟨z, hd, vs, rel, dd⟩ := dk_rd I.hok e
    obtain ⟨w', hw, rw'⟩ := RelO.some_of (v := v) (o := valueAt vs k) (by rw [l]; exact rel.val k)
    exact wpAny_getItem_of (kV_is ry) dd.mapOf hw (h w' _ (I.tok _) rw')
  · subst ey
    cases (show u = Value.ref b from ry)
    obtain ⟨z, hd, xs, rel, dd⟩ := dt_rd I.hok e
    obtain ⟨w', hw, rw'⟩ := RelO.some_of (v := v) (o := (atKey xs k).map (·.2)) (by rw [l]; exact rel.val k)
    obtain ⟨p, hp, hp2⟩ := Option.map_eq_some_iff.mp hw
    refine wpAny_getItem_heap (tupleKind_room_in1 hu) (key_of I.hok eb) dd hp ?_
    rw [hp2]
    exact h w' _ (I.tok _) rw'
theorem d_notIn {Q : Value → Shared → Prop} (hu : A.units + 1 < cLine) (I : Inv X pins σ H s) (g : DGet H a y o) (ry : RelV y u) (h : ∀ s', Inv X pins σ H s' → Q (.bool (!o.isSome)) s') :
    wpAny (model X.prog X.w) A (compareOp .NotIn u (.ref a)) Q E s := by
  rcases g with ⟨kvs, k, e, ey, l⟩ | ⟨kvs, k, b, e, ey, eb, l⟩
  · subst ey
    obtain ⟨z, hd, vs, rel, dd⟩ := dk_rd I.hok e
    refine wpAny_notIn_of (kV_is ry) hd dd.mapOf ?_
    rw [← (rel.val k).isSome_eq, ← l]
    exact h _ (I.tok _)
  · subst ey
    cases (show u = Value.ref b from ry)
    obtain ⟨z, hd, xs, rel, dd⟩ := dt_rd I.hok e
    refine wpAny_notIn_heap (tupleKind_room_in1 hu) (key_of I.hok eb) hd dd ?_
    have q := (rel.val k).isSome_eq
    rw [Option.isSome_map] at q
    rw [← q, ← l]
    exact h _ (I.tok _)
theorem d_write {h' : Heap} {t' : Nat} {ob : HO} (I : Inv X pins σ H s) (mu : Mut (H a)) (hs : Heap.SameBut a s.heap h') (he : ∃ q, h'.get? a = some q) (new : ObjOk X.prog X.w (upd H a ob) h' a ob) :
    Inv X pins σ (upd H a ob) { s with heap := h', toks := t' } :=
  I.write (x := a) (e := a) mu (.inl rfl) (fun b q hb z => (hs.2 b hb).trans z) he new
theorem dk_new {P : Program} {w : World} {H' : Hp} {h' : Heap} {kvs : List (Key × V)} {vs : List (Key × Value)} (z : kvs.length ≤ sizeLine) (hd : (a == sysModules) = false) (rel : KV kvs vs) (dd : h'.DictOf (mixKind P w) a vs) :
    ObjOk P w H' h' a (.dK kvs) := ⟨z, hd, vs, rel, dd⟩
theorem d_setItem {H' : Hp} {Q : Unit → Shared → Prop} (hu : A.units + 1 < cLine) (I : Inv X pins σ H s) (g : DPut H a y v H') (ry : RelV y u) (rv : RelV v r) (h : ∀ s', Inv X pins σ H' s' → Q () s') :
    wpAny (model X.prog X.w) A (setItem (.ref a) u r) Q E s := by
  rcases g with ⟨kvs, k, e, ey, l, eH⟩ | ⟨kvs, k, b, e, ey, eb, l, eH⟩
  · subst ey eH
    obtain ⟨z, hd, vs, rel, dd⟩ := dk_of I.hok e
    have hz : vs.length ≤ sizeLine := by rw [← rel.length]; exact z
    have hl : (putK kvs k v).length ≤ sizeLine := by have := length_putK kvs k v; omega
    refine wpAny_setItem_pairs (hsz := hz) (kV_is ry) dd fun h' dd' hs => h _ ?_
    have he : ∃ q, h'.get? a = some q := let ⟨q, _, _, hq, _⟩ := dd'; ⟨q, hq⟩
    exact d_write I (by rw [e]; exact True.intro) hs he (dk_new hl hd (rel.put k rv) dd')
  · subst ey eH
    cases (show u = Value.ref b from ry)
    obtain ⟨z, hd, xs, rel, dd⟩ := dt_of I.hok e
    have hz : xs.length ≤ sizeLine := by rw [← Paired.length rel]; exact z
    have hl : (putK kvs k v).length ≤ sizeLine := by have := length_putK kvs k v; omega
    refine wpAny_setItem_heap (hsz := hz) (tupleKind_room_in1 hu) (key_of I.hok eb) dd fun h' dd' hs => h _ ?_
    obtain ⟨q, es, ep, hq, h2, h3, h4, _, h5⟩ := dd'
    refine d_write I (by rw [e]; exact True.intro) hs ⟨q, hq⟩ ⟨hl, hd, _, (rel.put k eb rv).keeps fun c ys ec => ?_, q, es, ep, hq, h2, h3, h4, h5⟩
    rw [upd_ne (ne_of ec e (fun z => nomatch z))]
    exact ec
end
section
variable {X : Cx} {pins : List (Addr × Obj)} {σ : St} {H : Hp} {s : Shared} {a : Addr} {kvs : List (Key × V)} {k : Key} {u : Value} {A : Around} {E : Value → Shared → Prop}
theorem d_len {Q : Value → Shared → Prop} (I : Inv X pins σ H s) (e : Rd H a (.dK kvs)) (h : ∀ t s', Inv X pins σ H s' → Q (.int kvs.length t) s') : wpAny (model X.prog X.w) A (call (.builtin "len") [.ref a]) Q E s := by
  obtain ⟨z, hd, vs, rel, dd⟩ := dk_rd I.hok e
  refine call_len_dict hd dd (by rw [← rel.length]; rw [sizeLine_eq] at z; omega) ?_
  rw [← rel.length]
  exact h _ _ (I.tok _)
end
def NoSl (i : Expr) : Prop := ∀ ov iv, subscripted i false ov iv = operate [ov, iv] (getItem ov iv)
theorem dict_typeIs {X : Cx} {pins : List (Addr × Obj)} {σ : St} {H : Hp} {s : Shared} {a : Addr} {y : V} {o : Option V} (I : Inv X pins σ H s) (g : DGet H a y o) : s.TypeIs (.ref a) "dict" := by
  rcases g with ⟨kvs, k, e, _, _⟩ | ⟨kvs, k, b, e, _, _, _⟩
  · obtain ⟨_, _, vs, _, dd⟩ := dk_rd I.hok e
    exact dd.typeIs
  · obtain ⟨_, _, xs, _, dd⟩ := dt_rd I.hok e
    exact dd.typeIs
def tDGet (td ty : TE) : TE := fun σ H Q => td σ H fun x H1 => ty σ H1 fun y H2 => ∃ a v, x = .ref a ∧ DGet H2 a y (some v) ∧ Q v H2
def tDIn (ty td : TE) : TE := fun σ H Q => ty σ H fun y H1 => td σ H1 fun x H2 => ∃ a o, x = .ref a ∧ DGet H2 a y o ∧ Q (.bl o.isSome) H2
def tDNotIn (ty td : TE) : TE := fun σ H Q => ty σ H fun y H1 => td σ H1 fun x H2 => ∃ a o, x = .ref a ∧ DGet H2 a y o ∧ Q (.bl (!o.isSome)) H2
def sDPut (td ty tv : TE) : TS := fun D σ H => tv σ H fun v H1 => td σ H1 fun x H2 => ty σ H2 fun y H3 => ∃ a H4, x = .ref a ∧ DPut H3 a y v H4 ∧ D.nx σ H4
def sDAug (td ty tv : TE) (rd : V → V → Hp → VK → Prop) : TS := fun D σ H => td σ H fun x H1 => ty σ H1 fun y H2 => ∃ a v, x = .ref a ∧ DGet H2 a y (some v) ∧
  tv σ H2 fun y2 H3 => rd v y2 H3 fun z H4 => ∃ H5, DPut H4 a y z H5 ∧ D.nx σ H5
def sDDel (td ty : TE) : TS := fun D σ H => td σ H fun x H1 => ty σ H1 fun y H2 => ∃ a kvs k, x = .ref a ∧ H2 a = some (.dK kvs) ∧ y = kV k ∧ (valV kvs k).isSome = true ∧ D.nx σ (upd H2 a (.dK (dropK kvs k)))
section
variable {X : Cx} {o i e value : Expr} {pos pos' tpos : Pos} {td ty tv : TE}
end
theorem dk_empty {P : Program} {w : World} {H : Hp} (h : Heap) (hb : sysModules < h.objs.size) : ObjOk P w H (h.push { cls := .type "dict", data := .dict #[] }) h.objs.size (.dK []) :=
  ⟨Nat.zero_le _, beq_eq_false_iff_ne.mpr (Ne.symm (Nat.ne_of_lt hb)), [], .nil, Heap.DictOf.new h⟩
def tDNewK : TE := fun _ H Q => ∀ p, H p = none → Q (.ref p) (upd H p (.dK []))
def tDNewT : TE := fun _ H Q => ∀ p, H p = none → Q (.ref p) (upd H p (.dT []))
section
variable {X : Cx} {pos : Pos}
theorem pe_dnewK : PE X (.Dict [] [] pos) tDNewK := fun pins s σ H Q I h =>
  wpAny_Dict_empty ⟨.ref s.heap.objs.size, _, I.laid (a := s.heap.objs.size) (o := .dK []) (t' := s.toks) (fun _ _ q => Heap.get?_push_of_some _ q) (Nat.le_refl _) (dk_empty s.heap I.big), rfl, h _ (I.hok.fresh (Nat.le_refl _))⟩
end
def tPairs : List (TE × TE) → St → Hp → (List (V × V) → Hp → Prop) → Prop
  | [], _, H, Q => Q [] H
  | (tk, tv) :: r, σ, H, Q => tk σ H fun x H1 => tv σ H1 fun y H2 => tPairs r σ H2 fun ps H3 => Q ((x, y) :: ps) H3
abbrev VV : List (V × V) → List (Value × Value) → Prop := Paired fun p q => RelV p.1 q.1 ∧ RelV p.2 q.2
def PPs (X : Cx) (pos : Pos) (keys : List (Option Expr)) (values : List Expr) (trs : List (TE × TE)) : Prop :=
  ∀ (pins : List (Addr × Obj)) (s : Shared) (σ : St) (H : Hp) (Q : List (V × V) → Hp → Prop), Inv X pins σ H s → tPairs trs σ H Q →
    wpAny (model X.prog X.w) X.A (evalPairs (pairTrees keys values X.env pos)) (fun vs s' => ∃ ps H', Inv X pins σ H' s' ∧ VV ps vs ∧ Q ps H') X.xe s
theorem pps_nil {X : Cx} {pos : Pos} : PPs X pos [] [] [] := fun pins s σ H Q I h => pairTrees_nil_walk ⟨[], H, I, .nil, h⟩
theorem pps_cons {X : Cx} {pos : Pos} {k v : Expr} {ks : List (Option Expr)} {vs : List Expr} {tk tv : TE} {trs : List (TE × TE)} (hk : PE X k tk) (hv : PE X v tv) (hr : PPs X pos ks vs trs) :
    PPs X pos (some k :: ks) (v :: vs) ((tk, tv) :: trs) := fun pins s σ H Q I h =>
  pairTrees_cons_walk (thn (hk pins s σ H _ I h) fun u s1 ⟨x, H1, I1, rx, q1⟩ => thn (hv pins s1 σ H1 _ I1 q1) fun w2 s2 ⟨y, H2, I2, ry, q2⟩ =>
    thn (hr pins s2 σ H2 _ I2 q2) fun ws s3 ⟨ps, H3, I3, rel, q3⟩ => ⟨(x, y) :: ps, H3, I3, .cons ⟨rx, ry⟩ rel, q3⟩)
def mergeK (kvs more : List (Key × V)) : List (Key × V) := more.foldl (fun acc kv => putK acc kv.1 kv.2) kvs
theorem KV.merge : ∀ {more : List (Key × V)} {rs : List (Key × Value)} {kvs : List (Key × V)} {vs : List (Key × Value)}, KV more rs → KV kvs vs → KV (mergeK kvs more) (merged vs rs) := by
  intro more rs kvs vs r
  unfold KV at r
  induction r generalizing kvs vs with
  | nil => intro q; exact q
  | @cons p q ps qs h t ih =>
    intro r0
    have e : KV (putK kvs p.1 p.2) (stored vs q.1 q.2) := by
      have := r0.put p.1 h.2
      rw [← h.1]; exact this
    exact ih e
theorem length_mergeK : ∀ (more kvs : List (Key × V)), (mergeK kvs more).length ≤ kvs.length + more.length
  | [], kvs => by show kvs.length ≤ kvs.length + 0; omega
  | p :: r, kvs => by
    have h1 := length_mergeK r (putK kvs p.1 p.2)
    have h2 := length_putK kvs p.1 p.2
    show (mergeK (putK kvs p.1 p.2) r).length ≤ _
    rw [List.length_cons]; omega
theorem carries_of {P : Program} {w : World} : ∀ {kvs : List (Key × V)} {ws : List (Value × Value)}, VV (kvs.map fun kv => (kV kv.1, kv.2)) ws → ∃ rs, Carries (mixKind P w) ws rs ∧ KV kvs rs
  | [], _, r => by rw [List.map_nil] at r; cases r; exact ⟨[], True.intro, .nil⟩
  | p :: kvs, _, r => by
    rw [List.map_cons] at r
    cases r with
    | @cons a b as bs h t =>
      obtain ⟨rs, c, q⟩ := carries_of (P := P) (w := w) t
      obtain ⟨b1, b2⟩ := b
      exact ⟨(p.1, b2) :: rs, ⟨kV_is h.1, rfl, c⟩, .cons ⟨rfl, h.2⟩ q⟩
def tDisp (trs : List (TE × TE)) : TE := fun σ H Q => ∀ p, H p = none → tPairs trs σ (upd H p (.dK [])) fun ps H2 => H2 p = some (.dK []) ∧ ∃ kvs : List (Key × V), ps = kvs.map (fun kv => (kV kv.1, kv.2)) ∧ kvs.length ≤ 15 ∧ Q (.ref p) (upd H2 p (.dK (mergeK [] kvs)))
theorem pe_disp {X : Cx} {pos : Pos} {keys : List (Option Expr)} {values : List Expr} {trs : List (TE × TE)} (h : PPs X pos keys values trs) (hall : keys.all (·.isSome) = true) (hl : keys.length = values.length) (h0 : keys ≠ [])
    (h15 : keys.length ≤ 15) : PE X (.Dict keys values pos) (tDisp trs) := by
  intro pins s σ H Q I q
  have hn := I.hok.fresh (Nat.le_refl s.heap.objs.size)
  have I1 := I.laid (a := s.heap.objs.size) (o := .dK []) (h' := s.heap.push { cls := .type "dict", data := .dict #[] }) (t' := s.toks) (fun _ _ q => Heap.get?_push_of_some _ q) (Nat.le_refl _) (dk_empty s.heap I.big)
  refine wpAny_Dict_walk (knd := mixKind X.prog X.w) hall hl h0 h15 (thn (h pins _ σ _ _ I1 (q _ hn)) fun ws s2 ⟨ps, H2, I2, rel, e, kvs, ep, lk, q2⟩ => ?_)
  subst ep
  obtain ⟨rs, c, rk⟩ := carries_of (P := X.prog) (w := X.w) rel
  obtain ⟨z, hd, vs0, r0, dd⟩ := dk_of I2.hok e
  cases r0
  refine ⟨rs, c, dd, fun h' dd' hs => ⟨.ref s.heap.objs.size, _, ?_, rfl, q2⟩⟩
  have hz : (mergeK [] kvs).length ≤ sizeLine := by
    have h1 := length_mergeK kvs []
    rw [List.length_nil] at h1
    rw [sizeLine_eq]; omega
  have he : ∃ q, h'.get? s.heap.objs.size = some q := let ⟨q, _, _, hq, _⟩ := dd'; ⟨q, hq⟩
  exact d_write I2 (by rw [e]; exact True.intro) hs he (dk_new hz hd (rk.merge .nil) dd')
structure M1 (X : Cx) (o : Expr) (m : Str) (apos : Pos) (e : Expr) (cpos : Pos) : Prop where
  base : attributeBase o m X.env (eval o X.env) = eval o X.env
  few : ((backTo cpos (starEach [e] X.env)).all (fun x => !x.1) && (backToKw cpos (keywordEach [] X.env)).all (fun x => x.1.isSome)
    && decide (([e] : List Expr).length + ([] : List Keyword).length + (if ([] : List Keyword).isEmpty then 0 else 1) < 30)) = true
  line : (apos.endLine == cpos.line) = true
  trees : backTo cpos (starEach [e] X.env) = [(false, eval e X.env)]
structure M2 (X : Cx) (o : Expr) (m : Str) (apos : Pos) (e f : Expr) (cpos : Pos) : Prop where
  base : attributeBase o m X.env (eval o X.env) = eval o X.env
  few : ((backTo cpos (starEach [e, f] X.env)).all (fun x => !x.1) && (backToKw cpos (keywordEach [] X.env)).all (fun x => x.1.isSome)
    && decide (([e, f] : List Expr).length + ([] : List Keyword).length + (if ([] : List Keyword).isEmpty then 0 else 1) < 30)) = true
  line : (apos.endLine == cpos.line) = true
  trees : backTo cpos (starEach [e, f] X.env) = [(false, eval e X.env), (false, eval f X.env)]
def IsD (H : Hp) (a : Addr) : Prop := (∃ kvs, Rd H a (.dK kvs)) ∨ ∃ kvs, Rd H a (.dT kvs)
theorem isD_at {X : Cx} {pins : List (Addr × Obj)} {σ : St} {H : Hp} {s : Shared} {a : Addr} (I : Inv X pins σ H s) (d : IsD H a) :
    s.TypeIs (.ref a) "dict" ∧ (∀ b, Value.ref a = .ref b → ∃ ob, s.heap.get? b = some ob ∧ ob.dict = none) ∧ (a == sysModules) = false := by
  rcases d with ⟨kvs, e⟩ | ⟨kvs, e⟩
  · obtain ⟨_, hd, vs, _, dd⟩ := dk_rd I.hok e
    refine ⟨dd.typeIs, fun b q => ?_, hd⟩
    cases q
    obtain ⟨ob, _, _, h1, h2, _⟩ := dd
    exact ⟨ob, h1, h2.2.1⟩
  · obtain ⟨_, hd, xs, _, dd⟩ := dt_rd I.hok e
    refine ⟨dd.typeIs, fun b q => ?_, hd⟩
    cases q
    obtain ⟨ob, _, _, h1, h2, _⟩ := dd
    exact ⟨ob, h1, h2.2.1⟩
section
variable {X : Cx} {pins : List (Addr × Obj)} {σ : St} {H : Hp} {s : Shared} {a : Addr} {y d : V} {u r : Value} {o : Option V} {A : Around} {E : Value → Shared → Prop}
theorem d_get1 {Q : Value → Shared → Prop} (hu : A.units + 1 < cLine) (I : Inv X pins σ H s) (g : DGet H a y o) (ry : RelV y u) (h : ∀ w' s', Inv X pins σ H s' → RelV (o.getD .non) w' → Q w' s') :
    wpAny (model X.prog X.w) A (call (.builtin "dict.get") [.ref a, u]) Q E s := by
  rcases g with ⟨kvs, k, e, ey, l⟩ | ⟨kvs, k, b, e, ey, eb, l⟩
  · subst ey
    obtain ⟨z, hd, vs, rel, dd⟩ := dk_rd I.hok e
    refine call_meetsIn PySem.F.slot_dict_get dd.typeIs PySem.F.entry_dict_get (PySem.F.args_dict_get_2 _ _) (meets_dict_get (mixKind X.prog X.w) a (kV_is ry) hd) ⟨_, dd.mapOf, h _ _ (I.tok _) ?_⟩
    rw [l]
    exact (rel.val k).getD rfl
  · subst ey
    cases (show u = Value.ref b from ry)
    obtain ⟨z, hd, xs, rel, dd⟩ := dt_rd I.hok e
    refine call_meetsIn PySem.F.slot_dict_get dd.typeIs PySem.F.entry_dict_get (PySem.F.args_dict_get_2 _ _) (meetsH_dict_get (tupleKind (mixKind X.prog X.w)) a b hd) ⟨tupleKind_room_in1 hu, k, xs, key_of I.hok eb, dd, h _ _ (I.tok _) ?_⟩
    rw [l]
    exact (rel.val k).getD rfl
end
def tDGet1 (td ty : TE) : TE := fun σ H Q => td σ H fun x H1 => ∃ a, x = .ref a ∧ IsD H1 a ∧ ty σ H1 fun y H2 => ∃ o, DGet H2 a y o ∧ Q (o.getD .non) H2
def tDGet2 (td ty tx : TE) : TE := fun σ H Q => td σ H fun x H1 => ∃ a, x = .ref a ∧ IsD H1 a ∧ ty σ H1 fun y H2 => tx σ H2 fun z H3 => ∃ o, DGet H3 a y o ∧ Q (o.getD z) H3
def tDPop1 (td ty : TE) : TE := fun σ H Q => td σ H fun x H1 => ∃ a, x = .ref a ∧ IsD H1 a ∧ ty σ H1 fun y H2 => ∃ kvs k v, H2 a = some (.dK kvs) ∧ y = kV k ∧ valV kvs k = some v ∧ Q v (upd H2 a (.dK (dropK kvs k)))
def tDPop2 (td ty tx : TE) : TE := fun σ H Q => td σ H fun x H1 => ∃ a, x = .ref a ∧ IsD H1 a ∧ ty σ H1 fun y H2 => tx σ H2 fun z H3 => ∃ kvs k, H3 a = some (.dK kvs) ∧ y = kV k ∧
  (∀ v, valV kvs k = some v → Q v (upd H3 a (.dK (dropK kvs k)))) ∧ (valV kvs k = none → Q z H3)
section
variable {X : Cx} {o e f : Expr} {apos cpos : Pos} {td ty tx : TE}
theorem pe_dget1 (hu : X.A.units + 1 < cLine) (ho : PE X o td) (he : PE X e ty) (m : M1 X o "get" apos e cpos) : PE X (.Call (.Attribute o "get" apos) [e] [] cpos) (tDGet1 td ty) := by
  intro pins s σ H Q I h
  refine wpAny_Call_method m.base m.few m.line PySem.F.plainAttrs_dict PySem.F.slot_dict_get PySem.F.type_dict_get (thn (ho pins s σ H _ I h) fun u s1 ⟨x, H1, I1, rx, a, ex, d, q1⟩ => ?_)
  subst ex
  obtain rfl : u = Value.ref a := rx
  obtain ⟨t1, t2, _⟩ := isD_at I1 d
  refine ⟨t1, t2, ?_⟩
  rw [m.trees]
  refine Calls.callWith_builtin rfl (Calls.evalArgs_plain (Calls.spliced_cons (thn (he pins s1 σ H1 _ I1 q1) fun iv s2 ⟨y, H2, I2, ry, ov, g, q2⟩ => Calls.spliced_nil ?_)))
  exact d_get1 hu I2 g ry fun w' s3 I3 rw' => ⟨_, H2, I3, rw', q2⟩
end
section
variable {X : Cx} {pins : List (Addr × Obj)} {σ : St} {H : Hp} {s : Shared} {a : Addr} {kvs : List (Key × V)} {A : Around} {E : Value → Shared → Prop}
end
section
variable {X : Cx} {pins : List (Addr × Obj)} {σ : St} {H : Hp} {s : Shared} {a : Addr} {y : V} {u : Value} {A : Around} {E : Value → Shared → Prop}
end
end L2

set_option Elab.async false
set_option linter.all false
set_option maxRecDepth 100000
namespace L2
open PySem PySem.Spec PyProof.Rows
section
variable {X : Cx}
theorem ix_dictK (hu : X.A.units + 64 < cLine) : IxR X (fun x y H Q => ∃ a v, x = .ref a ∧ DGet H a y (some v) ∧ Q v H) := by
  intro value slice pins s σ H x y v u Q I rx ry h hs
  obtain ⟨a, z, rfl, g, q⟩ := h
  cases rx
  have hT := dict_typeIs I g
  unfold subscriptTail
  refine wpAny_bind ?_
  rw [getitemInPython_of_ne hT.not_modules]
  refine wpAny_bind (wpAny_specialOf hT PySem.F.slot_dict_getitem.lookup ?_)
  have h₂ : wpAny (model X.prog X.w) X.A (getItem (.ref a) u) (EP X pins σ Q) X.xe s := d_getItem (by omega) I g ry fun w' s3 I3 rw' => ⟨z, H, I3, rw', q⟩
  have fin : wpAny (model X.prog X.w) X.A (subscripted slice false (.ref a) u) (fun r s₃ => wpAny (model X.prog X.w) X.A (letTemporaryGo value (.ref a) r >>= fun _ => pure r) (EP X pins σ Q) X.xe s₃) X.xe s := by
    rw [hs]
    exact wpAny_operating (wpAny_mono h₂ (fun r s₃ h₃ => wpAny_bind (wpAny_letTemporaryGo (wpAny_pure h₃))) fun _ _ x => x)
  first
    | exact wpAny_pure (wpAny_bind fin)
    | exact wpAny_bind (wpAny_pure (wpAny_bind fin))
    | exact wpAny_bind fin
def fIxA (K : PySem.W.Frag) : R2 := fun x y H Q => match x, y with
  | .ref p, .int i => (∃ xs v, (SqL K H p xs ∨ SqT K H p xs) ∧ atI xs i = some v ∧ Q v H) ∨ (∃ v, DGet H p (.int i) (some v) ∧ Q v H)
  | .ref p, .str k => ∃ v, DGet H p (.str k) (some v) ∧ Q v H
  | .str z, .int i => ∃ c, z.length ≤ sizeLine ∧ atI z.cps.toList i = some c ∧ Q (.str ⟨#[c]⟩) H
  | _, _ => False
theorem ix_all (hu : X.A.units + 64 < cLine) : IxR X (fIxA X.K) := by
  intro value slice pins s σ H x y v u Q I rx ry h hs
  cases x with
  | ref p =>
    cases y with
    | int i =>
      rcases h with h | ⟨w, g, q⟩
      · exact ix_any value slice pins s σ H _ _ v u Q I rx ry h hs
      · exact ix_dictK hu value slice pins s σ H _ _ v u Q I rx ry ⟨p, w, rfl, g, q⟩ hs
    | str k =>
      obtain ⟨w, g, q⟩ := h
      exact ix_dictK hu value slice pins s σ H _ _ v u Q I rx ry ⟨p, w, rfl, g, q⟩ hs
    | _ => exact (show False from h).elim
  | str z =>
    cases y with
    | int i => exact ix_any value slice pins s σ H _ _ v u Q I rx ry h hs
    | _ => exact (show False from h).elim
  | _ => cases y <;> exact (show False from h).elim
theorem st_dictK (hu : X.A.units + 64 < cLine) : PSet X (fun o i v H Q => ∃ a H', o = .ref a ∧ DPut H a i v H' ∧ Q H') := by
  intro pins s σ H o i v ov iv u Q I ro ri rv h
  obtain ⟨a, H', rfl, g, q⟩ := h
  cases ro
  exact d_setItem (by omega) I g ri rv fun s4 I4 => ⟨H', I4, q⟩
def fSetA : TSet := fun o i v H Q => match o, i with
  | .ref p, .int k => (∃ xs j, H p = some (.lst xs) ∧ ixN xs.length k = some j ∧ Q (upd H p (.lst (xs.set j v)))) ∨ (∃ H', DPut H p (.int k) v H' ∧ Q H')
  | .ref p, .str k => ∃ H', DPut H p (.str k) v H' ∧ Q H'
  | _, _ => False
theorem st_all (hu : X.A.units + 64 < cLine) (hl : PSet X rSetL) : PSet X fSetA := by
  intro pins s σ H o i v ov iv u Q I ro ri rv h
  cases o with
  | ref p =>
    cases i with
    | int k =>
      rcases h with ⟨xs, j, h1, h2, q⟩ | ⟨H', g, q⟩
      · exact hl pins s σ H _ _ v ov iv u Q I ro ri rv ⟨p, xs, k, j, rfl, rfl, h1, h2, q⟩
      · exact st_dictK hu pins s σ H _ _ v ov iv u Q I ro ri rv ⟨p, H', rfl, g, q⟩
    | str k =>
      obtain ⟨H', g, q⟩ := h
      exact st_dictK hu pins s σ H _ _ v ov iv u Q I ro ri rv ⟨p, H', rfl, g, q⟩
    | _ => exact (show False from h).elim
  | _ => cases i <;> exact (show False from h).elim
theorem o_notinD (hu : X.A.units + 64 < cLine) : OpR X (compareOp .NotIn) (fun x y H Q => ∃ a o, y = .ref a ∧ DGet H a x o ∧ Q (.bl (!o.isSome)) H) := by
  intro pins s σ H x y v u Q I rx ry h
  obtain ⟨a, o, rfl, g, q⟩ := h
  cases ry
  exact d_notIn (by omega) I g rx fun s3 I3 => ⟨.bl (!o.isSome), H, I3, rfl, q⟩
theorem o_notinA (hu : X.A.units + 64 < cLine) : OpR X (compareOp .NotIn) (fun x y H Q => fIn X.K true x y H Q ∨ ∃ a o, y = .ref a ∧ DGet H a x o ∧ Q (.bl (!o.isSome)) H) := o_notin.or (o_notinD hu)
theorem c_lenD : CallR X (.builtin "len") (fun xs H Q => ∃ a kvs, xs = [.ref a] ∧ Rd H a (.dK kvs) ∧ Q (.int (kvs.length : Nat)) H) := by
  intro pins s σ H xs us Q I r h
  obtain ⟨a, kvs, rfl, e, q⟩ := h
  obtain ⟨u, rfl, rfl⟩ := vals1 r
  exact d_len I e fun t s' I' => ⟨.int _, H, I', ⟨_, rfl⟩, q⟩
end
end L2

set_option Elab.async false
set_option linter.all false
set_option maxRecDepth 100000
namespace PySem
open Sem (wp)
section
variable {prog : Program} {w : World} {A : Around} {E : Value → Shared → Prop} {s : Shared}
theorem list_no_keys : typeLookup (.type "list") "keys" = pure none := am_miss_of_fast (by kernel_rfl)
theorem keys_of_list {a : Addr} {o : Obj} {xs : Array Value} {k : Nat} {Q : Option Value → Shared → Prop} (hx : s.heap.get? a = some o) (hc : o.cls = .type "list") (hdat : o.data = .seq xs k) (hd : o.dict = none) (hA : A.handled = none)
    (h : ∀ h' tk, (∀ b ob, s.heap.get? b = some ob → h'.get? b = some ob) → Q none { s with heap := h', toks := tk }) : wpAny (model prog w) A (getAttr? (.ref a) "keys") Q E s := by
  obtain ⟨c, dct, dat, sl⟩ := o
  simp only at hc hdat hd
  subst hc hdat hd
  obtain ⟨hp, g, d, tk, os⟩ := s
  have hT : ∀ tk', (⟨hp, g, d, tk', os⟩ : Shared).TypeIs (.ref a) "list" := fun _ => ⟨_, hx, rfl⟩
  have f1 := sub_AttributeError
  have f3 := F.slot_list_getattribute.lookup
  have f4 := F.slot_list_getattribute.bind (.ref a)
  have f5 := am_list_getattr_none
  have hmiss := list_no_keys
  have hname : (["__module__", "__name__", "__qualname__", "__doc__", "__annotations__"] : List Str).contains "keys" = false := by decide +kernel
  unfold getAttr? getAttrBy? getAttrBy
  repeat (any_goals (first | assumption | exact hT _ | ((with_reducible show wpAny _ _ (call (Value.builtin "list.__getattribute__") _ _) _ _ _); refine call_meets F.slot_list_getattribute (hT _) am_entry_list_getattribute (F.args_list_getattribute_2 _ _) (meets_getattribute_miss_list a xs k sl "keys" _ hmiss hname (by decide)) ⟨hx, hA, fun h' tk' e hx' => ?_⟩) | wp_step))
  obtain ⟨t', u', he⟩ := hx'.there
  have hTe : (⟨h', g, d, tk', os⟩ : Shared).TypeIs (.ref e) "AttributeError" := ⟨_, he, rfl⟩
  show wpAny _ _ (getattributeRaised _ _ _ _ _ _ _) _ _ _
  unfold getattributeRaised
  repeat (any_goals (first | assumption | wp_step))
  exact h _ _ hx'.keeps
end
end PySem
namespace L2
open PySem PySem.Spec PyProof.Rows
theorem entry_upd_loop : entryFor table "dict.update.loop" = some Builtin.«dict.update.loop» := entryFor_of_tree (by kernel_rfl)
theorem plain_upd_loop : plainId "dict.update.loop" = true := by decide +kernel
section
variable {X : Cx} {pins : List (Addr × Obj)} {σ : St} {H0 : Hp} {A : Around}
theorem pair_items {prog : Program} {w : World} {E : Value → Shared → Prop} {s : Shared} {t : Addr} {its : Array Value} {Q : List Value → Shared → Prop} (h : s.heap.IsTuple t its) (q : Q its.toList s) : wpAny (model prog w) A (Builtin.Dict.pairItems (.ref t)) Q E s := by
  obtain ⟨o, ho, hc, n, hd⟩ := h
  unfold Builtin.Dict.pairItems
  refine wpAny_bind (wpAny_typeOf ⟨o, ho, hc⟩ ?_)
  rw [if_pos (by decide)]
  refine wpAny_bind ?_
  obtain ⟨c, dct, dat, sl⟩ := o
  simp only at hc hd
  subst hc hd
  obtain ⟨hp, g, d, tk, os⟩ := s
  repeat (any_goals (first | assumption | wp_step))
theorem take_merge (kvs : List (Key × V)) (i : Nat) {k : Key} {v : V} (h : kvs[i]? = some (k, v)) : mergeK [] (kvs.take (i + 1)) = putK (mergeK [] (kvs.take i)) k v := by
  unfold mergeK
  rw [List.take_add_one, h, List.foldl_append]
  rfl
theorem upd_loop (hc : X.calm = true) {l p it : Addr} {ps : List Addr} {kvs : List (Key × V)} {R : Result → Shared → Prop} (hA : A.handled = none) (hl : SqL X.K H0 l (ps.map V.ref)) (hlen : ps.length = kvs.length) (hn : kvs.length ≤ 1000)
    (hps : ∀ (i : Nat) t k v, ps[i]? = some t → kvs[i]? = some (k, v) → SqT X.K H0 t [kV k, v]) (hp : H0 p = none)
    (fin : ∀ s', Inv X pins σ (upd H0 p (.dK (mergeK [] kvs))) s' → R (.ok (.ret .none)) s') :
    ∀ (n i : Nat) (s : Shared), n + i = ps.length → Inv X pins σ (upd H0 p (.dK (mergeK [] (kvs.take i)))) s → FpOk X pins (upd H0 p (.dK (mergeK [] (kvs.take i)))) it → s.heap.IsListIter it l i →
      codeAny (model X.prog X.w) A (.builtin "dict.update.loop" ⟨[.ref p, .ref it, rawInt i, .none], []⟩) R s := by
  intro n
  induction n with
  | zero =>
    intro i s hi I hf st
    refine codeAny_builtin entry_upd_loop ?_
    rw [Around.under_plainId plain_upd_loop _]
    have sm := Same.upd hp (.dK (mergeK [] (kvs.take i)))
    obtain ⟨its, rv, pl, hz⟩ := I.list (sm.seq hl)
    have hll := rv.length
    rw [List.length_map] at hll
    obtain ⟨f0, f1, f2, f3, f4, f5⟩ := hf
    unfold Builtin.«dict.update.loop»
    refine wpAny_bind (wpAny_pyNext_list_end hA st pl.isList (by simp; omega) fun h' eb => ?_)
    have I' : Inv X pins σ (upd H0 p (.dK (mergeK [] (kvs.take i)))) { s with heap := h' } := I.turned (t' := s.toks) (fun b o hb e => eb b o hb e) f0 f1 f3 f4 f5
    rw [List.take_of_length_le (by omega)] at I'
    exact wpAny_bind (wpAny_pure (wpAny_pure (fin _ I')))
  | succ n ih =>
    intro i s hi I hf st
    refine codeAny_builtin entry_upd_loop ?_
    rw [Around.under_plainId plain_upd_loop _]
    have sm := Same.upd hp (.dK (mergeK [] (kvs.take i)))
    obtain ⟨its, rv, pl, hz⟩ := I.list (sm.seq hl)
    have hll := rv.length
    rw [List.length_map] at hll
    obtain ⟨t, ht⟩ : ∃ t, ps[i]? = some t := ⟨ps[i]'(by omega), List.getElem?_eq_getElem (by omega)⟩
    obtain ⟨⟨k, v⟩, hk⟩ : ∃ kv, kvs[i]? = some kv := ⟨kvs[i]'(by omega), List.getElem?_eq_getElem (by omega)⟩
    obtain ⟨u, hu1, hu2⟩ := rv.get (x := .ref t) (i := i) (by rw [List.getElem?_map, ht]; rfl)
    cases hu2
    obtain ⟨f0, f1, f2, f3, f4, f5⟩ := hf
    unfold Builtin.«dict.update.loop»
    refine wpAny_bind (wpAny_pyNext_list_item st pl.isList (x := .ref t) (by simpa using hu1) fun h' st' sb => ?_)
    have I1 : Inv X pins σ (upd H0 p (.dK (mergeK [] (kvs.take i)))) { s with heap := h' } := I.turned (t' := s.toks) (fun b o hb e => (sb.2 b hb).trans e) f0 f1 f3 f4 f5
    obtain ⟨jts, rj, pt, _⟩ := I1.tuple (sm.tup (hps i t k v ht hk))
    obtain ⟨u1, u2, e12, r1, r2⟩ : ∃ u1 u2, jts = [u1, u2] ∧ RelV (kV k) u1 ∧ RelV v u2 := by
      cases rj with
      | cons r1 q => cases q with
        | cons r2 q => cases q; exact ⟨_, _, rfl, r1, r2⟩
    subst e12
    refine wpAny_bind (wpAny_holding (wpAny_bind (wpAny_tryCatch (pair_items pt ?_))))
    show wpAny _ _ (holding [u1, u2] (dictSet p u1 u2)) _ _ _
    refine wpAny_holding ?_
    obtain ⟨z, hd, vs, rel, dd⟩ := dk_of I1.hok (upd_same (H := H0) (a := p) (o := .dK (mergeK [] (kvs.take i))))
    have hz' : vs.length ≤ sizeLine := by rw [← rel.length]; exact z
    have hlk : (mergeK [] (kvs.take i)).length ≤ 1000 := by
      have := length_mergeK (kvs.take i) []
      rw [List.length_take, List.length_nil] at this
      omega
    have hlp : (putK (mergeK [] (kvs.take i)) k v).length ≤ sizeLine := by
      have h1 := length_putK (mergeK [] (kvs.take i)) k v
      have h2 := small1000 hlk
      omega
    refine wpAny_dictSet_pairs (hsz := hz') (kV_is r1) dd fun h2 dd' hs => ?_
    have he : ∃ q, h2.get? p = some q := let ⟨q, _, _, hq, _⟩ := dd'; ⟨q, hq⟩
    have I2 := d_write (t' := s.toks + 1) (ob := .dK (putK (mergeK [] (kvs.take i)) k v)) I1 (by rw [upd_same]; exact True.intro) hs he (dk_new hlp hd (rel.put k r2) dd')
    rw [upd_upd, ← take_merge kvs i hk] at I2
    have hne : it ≠ p := fun z => by rw [z, upd_same] at f0; cases f0
    have f0' : upd H0 p (.dK (mergeK [] (kvs.take (i + 1)))) it = none := by
      rw [upd_ne hne] at f0 ⊢
      exact f0
    refine wpAny_pure ⟨plainId_quiet plain_upd_loop _, ?_⟩
    have ec : ((i : Int) + 1) = ((i + 1 : Nat) : Int) := by push_cast; rfl
    rw [ec]
    exact ih (i + 1) _ (by omega) I2 ⟨f0', f1, f2, f3, f4, f5⟩ (st'.at fun o e => (hs.2 it hne).trans e)
theorem c_dictP (hc : X.calm = true := by rfl) : CallR X (.type "dict") (fun xs H Q => ∃ (l : Addr) (ps : List Addr) (kvs : List (Key × V)), xs = [.ref l] ∧ SqL X.K H l (ps.map V.ref) ∧ ps.length = kvs.length ∧ kvs.length ≤ 1000 ∧
    (∀ (i : Nat) t k v, ps[i]? = some t → kvs[i]? = some (k, v) → SqT X.K H t [kV k, v]) ∧ ∀ p, H p = none → Q (.ref p) (upd H p (.dK (mergeK [] kvs)))) := by
  intro pins s σ H xs us Q I r h
  obtain ⟨l, ps, kvs, rfl, hl, hlen, hn, hps, q⟩ := h
  obtain ⟨u, rfl, rfl⟩ := vals1 r
  have hA := I.ok.hd hc
  have hp := I.hok.fresh (Nat.le_refl s.heap.objs.size)
  have I1 := I.laid (a := s.heap.objs.size) (o := .dK []) (t' := s.toks) (h' := s.heap.push { cls := .type "dict", data := .dict #[] }) (fun _ _ q => Heap.get?_push_of_some _ q) (Nat.le_refl _) (dk_empty s.heap I.big)
  refine callType_codes (Q₁ := fun obj s₁ => obj = .ref s.heap.objs.size ∧ s₁ = { s with heap := s.heap.push { cls := .type "dict", data := .dict #[] } }) F.kt_called_dict (F.kt_typeCall_dict_1 _) F.entry_dict_init (kt_code_dict_new _ ⟨rfl, rfl⟩) ?_
  rintro obj s₁ ⟨rfl, rfl⟩
  have hnew : (s.heap.push { cls := .type "dict", data := .dict #[] }).DictOf (mixKind X.prog X.w) s.heap.objs.size [] := Heap.DictOf.new s.heap
  have sm := Same.upd hp (.dK [])
  obtain ⟨its, rv, pl, hz⟩ := I1.list (sm.seq hl)
  obtain ⟨o, n, ho, hoc, hod, hos⟩ := id pl
  refine ⟨hnew.typeIs, F.args_dict_init_2 _ _, ?_⟩
  unfold Builtin.«dict.__init__»
  refine wpAny_bind ?_
  unfold Builtin.Dict.selfAndRest
  refine wpAny_bind (wpAny_notOrdered_dict hnew.typeIs ?_)
  show wpAny _ _ (pure (s.heap.objs.size, [Value.ref l])) _ _ _
  refine wpAny_pure ?_
  show wpAny _ _ (Builtin.Dict.updateFrom "dict.__init__" s.heap.objs.size (.ref l) [] .none) _ _ _
  unfold Builtin.Dict.updateFrom
  refine wpAny_bind (wpAny_typeOf ⟨o, ho, hoc⟩ ?_)
  rw [if_pos (by decide)]
  refine wpAny_bind (keys_of_list ho hoc hos hod hA fun h2 tk2 k2 => ?_)
  have I2 : Inv X pins σ (upd H s.heap.objs.size (.dK [])) { s with heap := h2, toks := tk2 } := I1.kept (t' := tk2) k2
  rw [if_pos (show (none : Option Value).isNone = true from rfl)]
  obtain ⟨its2, rv2, pl2, _⟩ := I2.list (sm.seq hl)
  refine wpAny_bind (wpAny_rule (wpAny_bind (wpAny_pyIter_list pl2.isList ?_)))
  refine wpAny_pure ⟨plainId_quiet plain_upd_loop _, ?_⟩
  have I3 := I2.kept (h' := h2.push { cls := .type "list_iterator", data := .fields #[.ref l, .int 0 0] }) (t' := tk2) fun b o e => Heap.get?_push_of_some _ e
  have fp := I2.fpOk (H' := upd H s.heap.objs.size (.dK [])) (Nat.le_refl _) (I2.hok.fresh (Nat.le_refl _))
  refine upd_loop (X := X) (H0 := H) (A := X.A.in1) (p := s.heap.objs.size) (kvs := kvs) hc hA hl hlen hn hps hp (fun s' I' => ?_) ps.length 0 _ rfl I3 fp ⟨_, Heap.get?_push_size _ rfl, rfl, rfl⟩
  exact ⟨rfl, .ref s.heap.objs.size, _, I', rfl, q _ hp⟩
end
end L2

set_option Elab.async false
set_option linter.all false
set_option maxRecDepth 100000
namespace L2
open PySem PySem.Spec PyProof.Rows
section
variable {X : Cx} {pins : List (Addr × Obj)} {σ : St} {H : Hp} {s : Shared}
theorem Inv.turnedL {h' : Heap} {t' : Nat} {ch : List Addr} (I : Inv X pins σ H s) (hf : ∀ b ∈ ch, FpOk X pins H b) (k : ∀ b o, b ∉ ch → s.heap.get? b = some o → h'.get? b = some o) : Inv X pins σ H { s with heap := h', toks := t' } := by
  have nit : ∀ b u, H b = some u → b ∉ ch := fun b u e z => by rw [(hf b z).1] at e; cases e
  refine I.step (g' := s.gens) (d' := s.drawn) (ch := ch) (fun b hb => ⟨(hf b hb).2.2.2.1, (hf b hb).2.1, (hf b hb).2.2.2.2.1, (hf b hb).2.2.2.2.2⟩) (fun b o _ _ hc e _ => k b o hc e) (fun b o _ _ hc e _ => ⟨o.slots, k b o hc e⟩) (fun _ _ _ _ n => n)
    (fun b o hc e => ⟨o, k b o hc e⟩) (fun _ _ e => e) (fun _ _ _ e => e) (fun b ps e => ⟨#[], by rw [e]; simp⟩) (fun m hm => ?_) (fun b u e => ?_) I.bare
  · obtain ⟨o, es, ep, ho, r⟩ := hm
    exact ⟨o, es, ep, k _ o (fun z => (hf _ z).2.1 rfl) ho, r⟩
  · refine (I.hok b u e).stay (fun c v hc q => k c v ?_ q) (fun _ q => q) fun _ _ q => q
    rcases hc with rfl | hc
    · exact nit _ _ e
    · exact nit _ _ hc
theorem Inv.track {T : Addr} {u : HO} (I : Inv X pins σ H s) (hf : FpOk X pins H T) (hz : X.s₀.heap.objs.size ≤ T) (new : ObjOk X.prog X.w (upd H T u) s.heap T u) : Inv X pins σ (upd H T u) s := by
  obtain ⟨f0, f1, f2, f3, f4, f5⟩ := hf
  have ne0 : ∀ b o, X.s₀.heap.get? b = some o → b ≠ T := fun b o e => Nat.ne_of_lt (Nat.lt_of_lt_of_le (Heap.lt_size e) hz)
  have neS : ∀ b v, H b = some v → b ≠ T := fun b v e z => by rw [z, f0] at e; cases e
  refine ⟨I.ok, I.os, I.bare, ⟨I.base.keep, I.base.slot, fun b o e n hx => by rw [upd_ne (ne0 b o e)]; exact I.base.free b o e n hx, I.base.there, fun b xs e => by
      have := I.base.tups b xs e
      rw [upd_ne (neS b _ this)]; exact this, fun b o v e => by
      have := I.base.frzs b o v e
      rw [upd_ne (neS b _ this)]; exact this, fun b ps e => by
      obtain ⟨more, q⟩ := I.base.tbls b ps e
      exact ⟨more, by rw [upd_ne (neS b _ q)]; exact q⟩⟩, I.loc, I.cell, by rw [upd_ne (Ne.symm f1)]; exact I.free, fun x c e => by rw [upd_ne (f4 x c e)]; exact I.freeC x c e,
    fun p hp => by rw [upd_ne (f5 p hp)]; exact I.pin p hp, fun b v e => ?_, I.len⟩
  by_cases hb : b = T
  · subst hb; rw [upd_same] at e; cases e; exact new
  · rw [upd_ne hb] at e
    exact (I.hok b v e).stay (fun _ _ _ q => q) (fun c q => by rw [upd_ne (neS c _ q)]; exact q) fun c xs q => by rw [upd_ne (neS c _ q)]; exact q
def Ite (K : PySem.W.Frag) (a : Addr) : It :=
  ⟨fun i H => ∃ xs x, SqL K H a xs ∧ xs[i]? = some x, fun i H x H' => ∃ T v, x = .ref T ∧ H T = none ∧ H' = upd H T (.tup [.int (i : Nat), v]) ∧ ∀ xs, SqL K H a xs → xs[i]? = some v, fun i H => ∃ xs, SqL K H a xs ∧ xs.length ≤ i⟩
def iEnum (K : PySem.W.Frag) (ta : TA) : TI := fun σ H R => ta σ H fun vs H1 => ∃ a, vs = [.ref a] ∧ (∃ xs, SqL K H1 a xs) ∧ R (Ite K a) H1
end
def Itd (d : Addr) (o : Obj) (kvs : List (Key × V)) : It :=
  ⟨fun i H => H d = some (.frz o (.dK kvs)) ∧ i < kvs.length, fun i H x H' => H' = H ∧ ∃ k v, kvs[i]? = some (k, v) ∧ x = kV k, fun i H => H d = some (.frz o (.dK kvs)) ∧ kvs.length ≤ i⟩
theorem is_kV {P : Program} {w : World} {k : Key} {u : Value} (h : (mixKind P w).is k u = true) : RelV (kV k) u := by
  cases k with
  | inl i => obtain ⟨t, e⟩ := Value.isInt_shape (show Value.isInt i u = true from h); exact ⟨t, e⟩
  | inr x => obtain ⟨t, e⟩ := Value.isStrOf_shape (show Value.isStrOf x u = true from h); exact ⟨t, e⟩
section
variable {X : Cx}
end
end L2

set_option Elab.async false
set_option linter.all false
set_option maxRecDepth 100000
namespace L2
open PySem PySem.Spec PyProof.Rows
theorem paired_of_get {α β : Type} {F : α → β → Prop} : ∀ {l₁ : List α} {l₂ : List β}, l₁.length = l₂.length → (∀ (i : Nat) a b, l₁[i]? = some a → l₂[i]? = some b → F a b) → Paired F l₁ l₂
  | [], [], _, _ => .nil
  | [], _ :: _, h, _ => by simp at h
  | _ :: _, [], h, _ => by simp at h
  | x :: xs, y :: ys, h, f => .cons (f 0 x y rfl rfl) (paired_of_get (by simpa using h) fun i a b ha hb => f (i + 1) a b (by simpa using ha) (by simpa using hb))
theorem paired_at {α β : Type} {F : α → β → Prop} {l₁ : List α} {l₂ : List β} (h : Paired F l₁ l₂) : ∀ {i : Nat} {a : α} {b : β}, l₁[i]? = some a → l₂[i]? = some b → F a b := by
  induction h with
  | nil => intro i a b h; simp at h
  | cons r t ih =>
    intro i a b ha hb
    cases i with
    | zero => simp only [List.getElem?_cons_zero, Option.some.injEq] at ha hb; subst ha hb; exact r
    | succ j => exact ih (by simpa using ha) (by simpa using hb)
section
variable {X : Cx} {tg : Expr}
def NoFrz (X : Cx) (d : Addr) : Prop := ∀ o u, X.H₀ d ≠ some (.frz o u)
def iDict (X : Cx) (tl : TE) : TI := fun σ H R => tl σ H fun x H1 => ∃ d kvs, x = .ref d ∧ H1 d = some (.dK kvs) ∧ ∀ o, NoFrz X d → (kvs.map (·.1)).Nodup → R (Itd d o kvs) (upd H1 d (.frz o (.dK kvs)))
def thawN (X : Cx) (D : Ends) : St → Hp → Prop := fun σ H => ∃ d o kvs, NoFrz X d ∧ H d = some (.frz o (.dK kvs)) ∧ D.nx σ (upd H d (.dK kvs))
def tForD (X : Cx) (tl : TE) (g : TG) (tb : TS) : TS := fun D σ H => tl σ H fun x H1 => ∃ d kvs, x = .ref d ∧ H1 d = some (.dK kvs) ∧ ∀ o, NoFrz X d → (kvs.map (·.1)).Nodup → ∃ Pv : Nat → St → Hp → Prop, Pv 0 σ (upd H1 d (.frz o (.dK kvs))) ∧
  (∀ i σ H, i ≤ kvs.length → Pv i σ H → H d = some (.frz o (.dK kvs))) ∧
  (∀ i k v σ H, kvs[i]? = some (k, v) → Pv i σ H → g (kV k) σ H fun σ2 H2 => tb { D with nx := Pv (i + 1), ct := Pv (i + 1), bk := thawN X D } σ2 H2) ∧ ∀ σ H, Pv kvs.length σ H → D.nx σ (upd H d (.dK kvs))
theorem c_listD (hc : X.calm = true := by rfl) : CallR X (.type "list") (fun xs H Q => ∃ d kvs, xs = [.ref d] ∧ Rd H d (.dK kvs) ∧ ∀ l, H l = none → Q (.ref l) (upd H l (.lst (kvs.map fun kv => kV kv.1)))) := by
  intro pins s σ H xs us Q I r h
  obtain ⟨d, kvs, rfl, e, q⟩ := h
  obtain ⟨u, rfl, rfl⟩ := vals1 r
  obtain ⟨z, hs, vs, rel, dd⟩ := dk_rd I.hok e
  obtain ⟨ep, dat⟩ := dd.dictAt
  have hl := rel.length
  refine PySem.W.kdl_call (PySem.W.kdl_dict (knd := mixKind X.prog X.w) (kvs := vs) (ep := ep) hs) (I.ok.hd hc) dat (by omega) fun h' tk acc c hk hS hacc => ?_
  have hp := I.hok.fresh (Nat.le_refl s.heap.objs.size)
  refine ⟨.ref s.heap.objs.size, _, I.laid (a := s.heap.objs.size) (o := .lst (kvs.map fun kv => kV kv.1)) (t' := tk) hk (Nat.le_refl _) ⟨by rw [List.length_map]; exact z, acc.toList, c, ?_, by simpa using hS⟩, rfl, q _ hp⟩
  have hsz : acc.size = vs.length := hacc.1
  refine paired_of_get (by simp [hsz, hl]) fun i x y hx hy => ?_
  rw [List.getElem?_map] at hx
  obtain ⟨k, v, hv, hk⟩ := hacc.2 i y (by rw [← Array.getElem?_toList]; exact hy)
  cases hkv : kvs[i]? with
  | none => rw [hkv] at hx; cases hx
  | some kv =>
    rw [hkv] at hx
    have hx' : kV kv.1 = x := Option.some.inj hx
    have := congrArg (fun l => l[i]?) rel.keys
    simp only [List.getElem?_map, hkv, hv] at this
    have hkk : kv.1 = k := by simpa using this
    rw [← hx', hkk]
    exact is_kV hk
end
section
variable {prog : Program} {w : World} {K : Type} [DecidableEq K] {knd : KeyKind prog w K} {A : Around} {E : Value → Shared → Prop} {s : Shared}
theorem shows_all {d : Addr} {Q : Unit → Shared → Prop} (hd : (d == sysModules) = false) (q : Q () s) : wpAny (model prog w) A (Builtin.Dict.showsAll d) Q E s := by
  unfold Builtin.Dict.showsAll
  rw [if_neg (by rw [hd]; exact Bool.false_ne_true)]
  exact wpAny_pure q
theorem find_pairs {k : K} {v : Value} {es : List DictEntry} {lvs : List (K × Value)} (h : Pairs knd es lvs) : valueAt lvs k = some v → ∃ j e, (es.findIdx? fun e => knd.is k e.key) = some j ∧ es[j]? = some e ∧ e.val = v := by
  induction h with
  | nil => intro z; cases z
  | @cons e kv es lvs h1 h2 t ih =>
    intro z
    by_cases hk : kv.1 = k
    · subst hk
      have : valueAt (kv :: lvs) kv.1 = some kv.2 := by simp [valueAt, List.find?_cons]
      rw [this] at z
      exact ⟨0, e, by rw [List.findIdx?_cons, if_pos h1], rfl, by rw [h2]; exact Option.some.inj z⟩
    · have : valueAt (kv :: lvs) k = valueAt lvs k := by simp [valueAt, List.find?_cons, hk]
      rw [this] at z
      obtain ⟨j, f, hj, hf, hv⟩ := ih z
      have hn : ¬ knd.is k e.key = true := fun q => hk (knd.inj _ _ _ h1 q)
      exact ⟨j + 1, f, by rw [List.findIdx?_cons, if_neg hn, hj]; rfl, hf, hv⟩
theorem same_pairs {id : String} {a b : Addr} {kvs lvs : List (K × Value)} {Q : Bool → Shared → Prop} (hda : (a == sysModules) = false) (hdb : (b == sysModules) = false) (ha : s.heap.DictOf knd a kvs) (hb : s.heap.DictOf knd b lvs) (hl : kvs.length = lvs.length)
    (hv : ∀ (i : Nat) k v, kvs[i]? = some (k, v) → ∃ v', valueAt lvs k = some v' ∧ SeqAt.EqAt A s v v' true) (q : Q true s) : wpAny (model prog w) A (Builtin.Dict.samePairs id a b) Q E s := by
  obtain ⟨o, es, ep, ho, hx, hd, hk, hp, hn⟩ := ha
  obtain ⟨o2, es2, ep2, ho2, hx2, hd2, hk2, hp2, hn2⟩ := hb
  have hz : es.size = kvs.length := by rw [← hp.length]; simp
  have hz2 : es2.size = lvs.length := by rw [← hp2.length]; simp
  unfold Builtin.Dict.samePairs
  refine wpAny_bind (shows_all hda ?_)
  refine wpAny_bind (shows_all hdb ?_)
  refine wpAny_bind (wpAny_dictEntries ho hd ?_)
  refine wpAny_bind (wpAny_dictEntries ho2 hd2 ?_)
  rw [if_neg (by simp; omega)]
  refine wpAny_bind (wpAny_dictEpoch ho hd ?_)
  refine wpAny_bind ?_
  rw [Std.Legacy.Range.forIn_eq_forIn_range']
  simp only [Std.Legacy.Range.size, Nat.sub_zero, Nat.add_sub_cancel, Nat.div_one]
  refine wpAny_forIn_list _ (fun rest b s' => b = (none, ()) ∧ s' = s ∧ ∀ i ∈ rest, i < es.size) _ ?_ ?_ _ _ ⟨rfl, rfl, fun i hi => ?_⟩
  · rintro i rest c s' ⟨rfl, rfl, hr⟩
    have hi : i < es.size := hr i (by simp)
    refine wpAny_bind (wpAny_dictEntries ho hd ?_)
    rw [Array.getElem?_eq_getElem hi]
    obtain ⟨⟨k, v⟩, hkv⟩ : ∃ kv, kvs[i]? = some kv := ⟨kvs[i]'(by omega), List.getElem?_eq_getElem (by omega)⟩
    obtain ⟨hkey, hval⟩ := hp.get? (e := es[i]) (by simp [hi]) hkv
    obtain ⟨k', hk', hh⟩ := hk es[i] (Array.getElem_mem hi)
    obtain ⟨v', hv', he⟩ := hv i k v hkv
    have hkk : k' = k := knd.inj _ _ _ hk' hkey
    subst hkk
    show wpAny _ _ (holding [es[i].key, es[i].val] _ >>= _) _ _ _
    refine wpAny_bind (wpAny_holding ?_)
    rw [hh, hval]
    refine wpAny_bind (wpAny_dictFind_of hkey ho2 hd2 hk2 ?_)
    obtain ⟨j, f, hj, hf, hfv⟩ := find_pairs hp2 hv'
    rw [← List.findIdx?_toArray, Array.toArray_toList] at hj
    rw [Array.getElem?_toList] at hf
    rw [hj]
    refine wpAny_bind (wpAny_dictEntries ho2 hd2 ?_)
    rw [hf]
    show wpAny _ _ (holding [f.val] (eqBool v f.val)) _ _ _
    rw [hfv]
    refine wpAny_holding (he _ _ _ _ ?_)
    rw [if_neg (by decide)]
    refine wpAny_bind (wpAny_dictEpoch ho hd ?_)
    rw [if_neg (by simp)]
    exact wpAny_pure ⟨rfl, rfl, fun z hz => hr z (List.mem_cons_of_mem _ hz)⟩
  · rintro c s' ⟨rfl, rfl, _⟩
    exact wpAny_pure q
  · have := (List.mem_range'_1.mp hi).2
    omega
end
theorem valV_at {κ : Type} [DecidableEq κ] : ∀ {kvs : List (κ × V)} {i : Nat} {k : κ} {v : V}, (kvs.map (·.1)).Nodup → kvs[i]? = some (k, v) → valV kvs k = some v
  | [], i, k, v, _, h => by simp at h
  | p :: r, 0, k, v, _, h => by
    simp only [List.getElem?_cons_zero, Option.some.injEq] at h
    subst h
    exact valV_pos (p := (k, v)) rfl
  | p :: r, i + 1, k, v, hn, h => by
    rw [List.map_cons] at hn
    have hr := List.nodup_cons.mp hn
    have hi : r[i]? = some (k, v) := by simpa using h
    have hne : ¬ p.1 = k := fun z => hr.1 (by rw [z]; exact List.mem_map_of_mem (f := (·.1)) (List.mem_of_getElem? hi))
    rw [valV_neg hne]
    exact valV_at hr.2 hi
section
variable {X : Cx}
def ValEq (K : PySem.W.Frag) (H : Hp) (v v' : V) : Prop := (v = v' ∧ flatR v = true) ∨ ∃ p q xs, v = .ref p ∧ v' = .ref q ∧ SqL K H p xs ∧ SqL K H q xs ∧ xs.all flatR = true
theorem eqAt_of {pins : List (Addr × Obj)} {σ : St} {H : Hp} {s : Shared} {A : Around} {v v' : V} {u u' : Value} (I : Inv X pins σ H s) (hu : A.units < cLine) (h : ValEq X.K H v v') (r : RelV v u) (r' : RelV v' u') : SeqAt.EqAt A s u u' true := by
  rcases h with ⟨rfl, hf⟩ | ⟨p, q, xs, rfl, rfl, hp, hq, hf⟩
  · exact eqAt_same hf r r' A s
  · cases r
    cases r'
    by_cases hpq : p = q
    · subst hpq; exact .same _
    · obtain ⟨its, r1, ⟨o, n, e1, c1, _, d1⟩, _⟩ := I.list hp
      obtain ⟨jts, r2, ⟨o2, n2, e2, c2, _, d2⟩, _⟩ := I.list hq
      have l1 := r1.length
      have l2 := r2.length
      have hR := SeqAt.RcAt.lists (A := A) (s := s) (e := fun _ => true) (l := p) (b := q) (items := its.toArray) (items2 := jts.toArray) ⟨o, e1, c1, n, d1⟩ ⟨o2, e2, c2, n2, d2⟩ (by simp; omega) hu (fun j h1 h2 => by
        simp at h1 h2
        obtain ⟨x, hx⟩ : ∃ x, xs[j]? = some x := ⟨xs[j]'(by omega), List.getElem?_eq_getElem (by omega)⟩
        obtain ⟨u1, g1, w1⟩ := r1.get hx
        obtain ⟨u2, g2, w2⟩ := r2.get hx
        have z1 : its.toArray[j]'(by simpa using h1) = u1 := by
          have := List.getElem?_eq_getElem h1
          rw [g1] at this
          simpa using (Option.some.inj this).symm
        have z2 : jts.toArray[j]'(by simpa using h2) = u2 := by
          have := List.getElem?_eq_getElem h2
          rw [g2] at this
          simpa using (Option.some.inj this).symm
        rw [z1, z2]
        exact eqAt_same (List.all_eq_true.mp hf x (List.mem_of_getElem? hx)) w1 w2 _ _)
      have : ((List.range its.toArray.size).all fun _ => true) = true := by simp
      rw [this] at hR
      exact .of_refs hpq hR
theorem o_eqD (hu : X.A.units + 64 < cLine) : OpR X (compareOp .Eq) (fun x y H Q => ∃ a b kvs lvs, x = .ref a ∧ y = .ref b ∧ Rd H a (.dK kvs) ∧ Rd H b (.dK lvs) ∧ kvs.length = lvs.length ∧
    (∀ k v, valV kvs k = some v → ∃ v', valV lvs k = some v' ∧ ValEq X.K H v v') ∧ Q (.bl true) H) := by
  intro pins s σ H x y v u Q I rx ry h
  obtain ⟨a, b, kvs, lvs, rfl, rfl, ha, hb, hl, hv, q⟩ := h
  cases rx
  cases ry
  obtain ⟨z, hs, vs, rel, dd⟩ := dk_rd I.hok ha
  obtain ⟨z2, hs2, vs2, rel2, dd2⟩ := dk_rd I.hok hb
  have e1 := rel.length
  have e2 := rel2.length
  refine wpAny_richCompare_same_room (op := .Eq) dd.typeIs dd2.typeIs PySem.F.slot_dict_eq (wpAny_call_entry PySem.F.slot_dict_eq dd.typeIs PySem.F.entry_dict_eq ?_ (PySem.F.args_dict_eq_2 _ _)) (by omega)
  show wpAny _ _ (Builtin.Dict.dictSlotArgs "__eq__" ⟨[.ref a, .ref b], []⟩ >>= _) _ _ _
  refine wpAny_bind ?_
  unfold Builtin.Dict.dictSlotArgs
  refine wpAny_bind (wpAny_notOrdered_dict dd.typeIs ?_)
  show wpAny _ _ (pure (Value.ref a, Value.ref b)) _ _ _
  refine wpAny_pure ?_
  refine wpAny_bind (wpAny_isInstance (T := "dict") (b := true) dd2.typeIs (by rw [isSubtype_type]; kernel_rfl) ?_)
  show wpAny _ _ (Builtin.Dict.samePairs "dict.__eq__" a b >>= _) _ _ _
  refine wpAny_bind (same_pairs hs hs2 dd dd2 (by omega) (fun i k v hi => ?_) ?_)
  · obtain ⟨⟨k', v'⟩, hkv⟩ : ∃ kv, kvs[i]? = some kv := ⟨kvs[i]'(by have := (List.getElem?_eq_some_iff.mp hi).1; omega), List.getElem?_eq_getElem _⟩
    have hr : k' = k ∧ RelV v' v := paired_at rel hkv hi
    obtain ⟨rfl, hrv⟩ := hr
    obtain ⟨w', hw, hq⟩ := hv k' v' (valV_at (by rw [rel.keys]; exact (dd.dictAt.choose_spec).nodup) hkv)
    have hval := rel2.val k'
    rw [hw] at hval
    cases hvv : valueAt vs2 k' with
    | none => rw [hvv] at hval; exact (show False from hval).elim
    | some u' =>
      rw [hvv] at hval
      exact ⟨u', rfl, eqAt_of I (show X.A.units + 1 < cLine by omega) hq hrv hval⟩
  · show wpAny _ _ (ret (.bool true)) _ _ _
    exact wpAny_pure ⟨.bool true, rfl, (fun z => nomatch z), .bl true, H, I, rfl, q⟩
end
end L2

set_option Elab.async false
set_option linter.all false
set_option maxRecDepth 100000
namespace L2
open PySem PySem.Spec PyProof.Rows
section
variable {X : Cx}
structure SplitOk (z y : Str) (ws : List Str) : Prop where
  h1 : (decide (z.length < y.length) || decide (Builtin.Str.strKind z < Builtin.Str.strKind y)) = false
  hy : (y.length == 0) = false
  hf : (Builtin.Str.occurrences z y 0 z.length (z.length + 1)).isEmpty = false
  hx : z.length ≤ sizeLine
  hn : ws.length ≤ sizeLine
  e : Builtin.Str.partsBetween z (Builtin.Str.occurrences z y 0 z.length (z.length + 1)) y.length = ws
def repS (z : Str) (n : Int) : Str := if n < 1 then Str.empty else if (n == 1 || z.length == 0) = true then z else ⟨(List.replicate n.toNat z.cps).foldl (· ++ ·) #[]⟩
def fMulA : R2 := fun x y H Q => match x, y with
  | .int i, .int j => CMul i j ∧ Q (.int (i * j)) H
  | .str z, .int n => n < 1000 ∧ -1000 < n ∧ z.length ≤ 1000 ∧ Q (.str (repS z n)) H
  | .ref p, .int k => ∃ xs, H p = some (.lst xs) ∧ -(2 ^ 63) ≤ k ∧ k < 2 ^ 63 ∧ xs.length * k.toNat ≤ sizeLine ∧ ∀ l, H l = none → Q (.ref l) (upd H l (.lst (List.replicate k.toNat xs).flatten))
  | _, _ => False
theorem fold_size (xs : List (Array Nat)) : ∀ acc : Array Nat, (xs.foldl (· ++ ·) acc).size = acc.size + (xs.map (·.size)).sum := by
  induction xs with
  | nil => intro acc; simp
  | cons x r ih => intro acc; rw [List.foldl_cons, ih, Array.size_append, List.map_cons, List.sum_cons]; omega
theorem rep_size (z : Str) (n : Nat) : (⟨(List.replicate n z.cps).foldl (· ++ ·) #[]⟩ : Str).length = n * z.length := by
  show ((List.replicate n z.cps).foldl (· ++ ·) #[]).size = _
  rw [fold_size, List.map_replicate]
  have : ∀ m k : Nat, (List.replicate m k).sum = m * k := fun m k => by
    induction m with
    | zero => simp
    | succ m ih => rw [List.replicate_succ, List.sum_cons, ih, Nat.succ_mul]; omega
  rw [this]
  simp [Str.length]
theorem o_mulA : OpR X (binaryOp .Mult) fMulA := by
  intro pins s σ H x y v u Q I rx ry h
  cases x with
  | int i =>
    cases y with
    | int j => exact o_mul pins s σ H _ _ v u Q I rx ry h
    | _ => exact (show False from h).elim
  | str z =>
    cases y with
    | int n =>
      obtain ⟨h1, h2, h3, q⟩ := h
      obtain ⟨t, rfl⟩ := rx
      obtain ⟨t2, rfl⟩ := ry
      have hb : ¬ n < 1 → n.toNat * z.length ≤ 1000000 := fun hn => by
        have e1 : n.toNat ≤ 1000 := by omega
        exact Nat.le_trans (Nat.mul_le_mul e1 h3) (by decide)
      refine P.mul_str (by rw [decide_eq_false (by omega), decide_eq_false (by omega)]; rfl) (fun hn _ => ?_) (fun hn _ => ?_) ?_
      · intro z1
        have h0 : (0 : Int) < n := by omega
        have := Int.lt_mul_of_ediv_lt h0 z1
        have e2 : ((z.length : Int)) * n ≤ 1000 * 1000 := Int.mul_le_mul (by omega) (by omega) (by omega) (by decide)
        omega
      · unfold Builtin.Str.tooLong
        have := hb hn
        rw [Nat.mul_comm] at this
        refine decide_eq_false ?_
        rw [sizeLine_eq]
        omega
      · unfold repS at q
        by_cases c1 : n < 1
        · rw [if_pos c1] at q ⊢
          exact ⟨by decide, .str _, H, I.tok _, ⟨_, rfl⟩, q⟩
        · rw [if_neg c1] at q ⊢
          by_cases c2 : (n == 1 || z.length == 0) = true
          · rw [if_pos c2] at q ⊢
            exact ⟨.str _, H, I, ⟨_, rfl⟩, q⟩
          · rw [if_neg c2] at q ⊢
            refine ⟨?_, .str _, H, I.tok _, ⟨_, rfl⟩, q⟩
            rw [rep_size]
            have := hb c1
            rw [sizeLine_eq]
            omega
    | _ => exact (show False from h).elim
  | ref p =>
    cases y with
    | int k =>
      obtain ⟨xs, h1, h2, h3, h4, q⟩ := h
      exact op_rep pins s σ H _ _ v u Q I rx ry ⟨p, k, xs, rfl, rfl, h1, h2, h3, h4, q⟩
    | _ => exact (show False from h).elim
  | _ => cases y <;> exact (show False from h).elim
end
end L2

set_option Elab.async false
set_option linter.all false
set_option maxRecDepth 100000
namespace L2
open PySem PySem.Spec PyProof.Rows
section
variable {X : Cx}
def DictEq (K : PySem.W.Frag) (H : Hp) (a b : Addr) : Prop := ∃ kvs lvs, Rd H a (.dK kvs) ∧ Rd H b (.dK lvs) ∧ kvs.length = lvs.length ∧ ∀ k v, valV kvs k = some v → ∃ v', valV lvs k = some v' ∧ ValEq K H v v'
def fEqU (K : PySem.W.Frag) : R2 := fun x y H Q => match x, y with
  | .ref p, .ref q => ((∃ d e, RepD K H (.ref p) d ∧ RepD K H (.ref q) e ∧ SeqAt.shaped d = true ∧ SeqAt.shaped e = true ∧ Q (.bl (PyData.eqv d e)) H) ∨ (∃ xs, SqL K H p xs ∧ SqL K H q xs ∧ xs.all flatR = true ∧ Q (.bl true) H)) ∨ (DictEq K H p q ∧ Q (.bl true) H)
  | x, y => scal x y = true ∧ Q (.bl (decide (x = y))) H
theorem o_eqU (hu : X.A.units + 64 < cLine) : OpR X (compareOp .Eq) (fEqU X.K) := ((o_eqA hu).or (o_eqD hu)).imp fun x y H Q q => by
  by_cases hr : ∃ p q, x = V.ref p ∧ y = V.ref q
  · obtain ⟨p, q', rfl, rfl⟩ := hr
    rcases q with q | ⟨⟨kvs, lvs, h1, h2, h3, h4⟩, h5⟩
    · exact .inl q
    · exact .inr ⟨p, q', kvs, lvs, rfl, rfl, h1, h2, h3, h4, h5⟩
  · refine .inl ?_
    cases x <;> cases y <;> first | exact q | exact absurd ⟨_, _, rfl, rfl⟩ hr
theorem c_lenA : CallR X (.builtin "len") (fun xs H Q => (∃ x n, xs = [x] ∧ LenV X.K x H n ∧ Q (.int n) H) ∨ ∃ a kvs, xs = [.ref a] ∧ Rd H a (.dK kvs) ∧ Q (.int (kvs.length : Nat)) H) := c_len.or c_lenD
theorem c_listA (hc : X.calm = true := by rfl) : CallR X (.type "list") (fun xs H Q => (∃ p ys, xs = [.ref p] ∧ (SqL X.K H p ys ∨ SqT X.K H p ys) ∧ ∀ l, H l = none → Q (.ref l) (upd H l (.lst ys))) ∨ ∃ d kvs, xs = [.ref d] ∧ Rd H d (.dK kvs) ∧ ∀ l, H l = none → Q (.ref l) (upd H l (.lst (kvs.map fun kv => kV kv.1)))) := c_list.or (c_listD hc)
end
end L2

set_option Elab.async false
set_option linter.all false
set_option maxRecDepth 100000
namespace L2
open PySem PySem.Spec PyProof.Rows
section
variable {X : Cx} {pins : List (Addr × Obj)} {σ : St} {H : Hp} {s : Shared}
def Itz (K : PySem.W.Frag) (a b : Addr) : It :=
  ⟨fun i H => ∃ xs ys x y, SqL K H a xs ∧ SqL K H b ys ∧ xs[i]? = some x ∧ ys[i]? = some y,
   fun i H v H' => ∃ T x y, v = .ref T ∧ H T = none ∧ H' = upd H T (.tup [x, y]) ∧ ∀ xs ys, SqL K H a xs → SqL K H b ys → xs[i]? = some x ∧ ys[i]? = some y,
   fun i H => ∃ xs ys, SqL K H a xs ∧ SqL K H b ys ∧ (xs.length ≤ i ∨ ys.length ≤ i)⟩
def ZipAt (z TI TO i1 i2 a b : Addr) (i : Nat) (h : Heap) : Prop := IsZip h z TI TO .none ∧ IsPair h TI (.ref i1) (.ref i2) ∧ (∃ u v, IsPair h TO u v) ∧ h.IsListIter i1 a i ∧ h.IsListIter i2 b i
theorem turn_zip {P : Program} {w : World} {K : PySem.W.Frag} {elts : List Expr} {x1} {pos : Pos} {a b z TI TO i1 i2 : Addr} (D : ZipApart z TI TO i1 i2 a b) :
    Turn P w K (.Tuple elts x1 pos) (Itz K a b) [z, TI, TO, i1, i2] z (ZipAt z TI TO i1 i2 a b) where
  mem := by simp
  obj := fun i h st c hc => by
    obtain ⟨hz, hI, ⟨u, v, hO⟩, ⟨o1, e1, _, d1⟩, ⟨o2, e2, _, d2⟩⟩ := st
    simp only [List.mem_cons, List.not_mem_nil, or_false] at hc
    rcases hc with rfl | rfl | rfl | rfl | rfl
    · exact ⟨_, hz, fun v q => by cases (show Data.fields _ = Data.cell v from q)⟩
    · exact ⟨_, hI, fun v q => by cases (show Data.seq _ _ = Data.cell v from q)⟩
    · exact ⟨_, hO, fun v q => by cases (show Data.seq _ _ = Data.cell v from q)⟩
    · exact ⟨o1, e1, fun v q => by rw [d1] at q; cases q⟩
    · exact ⟨o2, e2, fun v q => by rw [d2] at q; cases q⟩
  keep := fun i h h' st k => by
    obtain ⟨hz, hI, ⟨u, v, hO⟩, h1, h2⟩ := st
    exact ⟨k z (by simp) _ hz, k TI (by simp) _ hI, ⟨u, v, k TO (by simp) _ hO⟩, h1.at fun o e => k i1 (by simp) o e, h2.at fun o e => k i2 (by simp) o e⟩
  item := by
    intro X hP hw hK hc i pins s σ H E I hf st hg
    subst hP hw hK
    obtain ⟨xs, ys, x, y, hq, hq', hx, hy⟩ := hg
    obtain ⟨its, rv, p, hz'⟩ := I.list hq
    obtain ⟨its', rv', p', hz''⟩ := I.list hq'
    obtain ⟨u, hu, ru⟩ := rv.get hx
    obtain ⟨v, hv, rv2⟩ := rv'.get hy
    obtain ⟨hz, hI, ⟨u0, v0, hO⟩, h1, h2⟩ := st
    have hT := I.fpOk (H' := H) (Nat.le_refl s.heap.objs.size) (I.hok.fresh (Nat.le_refl _))
    have lt : ∀ {c : Addr} {o : Obj}, s.heap.get? c = some o → s.heap.objs.size ≠ c := fun e => Nat.ne_of_gt (Heap.lt_size e)
    refine wpAny_pyNext_zip_item D hz hI hO h1 h2 p.isList p'.isList (x := u) (y := v) (by simpa using hu) (by simpa using hv) fun h' a1 a2 a3 a4 a5 a6 a7 => ?_
    have I1 : Inv X pins σ H { s with heap := h', toks := s.toks } := I.turnedL (ch := [z, TI, TO, i1, i2]) hf fun c o hc q => a7 c o (fun e => hc (by simp [e])) (fun e => hc (by simp [e])) (fun e => hc (by simp [e])) (fun e => hc (by simp [e])) q
    have I2 := I1.track (u := .tup [x, y]) hT I.sz ⟨by show 2 ≤ sizeLine; decide, [u, v], .cons ru (.cons rv2 .nil), ⟨_, a5, rfl, _, rfl⟩⟩
    refine ⟨_, rfl, wpAny_letOwnedTupleGo_zip (s := { s with heap := h' }) a1 fun h2' hz2 hs2 => ?_⟩
    have f0 := hf z (by simp)
    have hI' : h'.get? TI = _ := a7 TI _ D.TIz D.TITO D.TIi1 D.TIi2 hI
    have zT : z ≠ s.heap.objs.size := Ne.symm (lt hz)
    refine ⟨.ref s.heap.objs.size, _, I2.turned (t' := s.toks) (it := z) (fun c o hc q => (hs2.2 c hc).trans q) (by rw [upd_ne zT]; exact f0.1) f0.2.1 f0.2.2.2.1 f0.2.2.2.2.1 f0.2.2.2.2.2, rfl,
      ⟨_, x, y, rfl, hT.1, rfl, fun xs' ys' q q' => by rw [I.list_inj q hq, I.list_inj q' hq']; exact ⟨hx, hy⟩⟩, ⟨hz2, (hs2.2 TI D.TIz).trans hI', ⟨u, v, (hs2.2 TO D.TOz).trans a2⟩, a3.at fun o q => (hs2.2 i1 D.i1z).trans q, a4.at fun o q => (hs2.2 i2 D.i2z).trans q⟩, fun c hc => ?_⟩
    have cT : c ≠ s.heap.objs.size := by
      simp only [List.mem_cons, List.not_mem_nil, or_false] at hc
      rcases hc with rfl | rfl | rfl | rfl | rfl
      · exact zT
      · exact Ne.symm (lt hI)
      · exact Ne.symm (lt hO)
      · obtain ⟨o, e, _⟩ := h1; exact Ne.symm (lt e)
      · obtain ⟨o, e, _⟩ := h2; exact Ne.symm (lt e)
    rw [upd_ne cT]
    exact (hf c hc).1
  done := by
    intro X hP hw hK hc i pins s σ H E I hf st hg
    subst hP hw hK
    obtain ⟨xs, ys, hq, hq', hx⟩ := hg
    obtain ⟨its, rv, p, hz'⟩ := I.list hq
    obtain ⟨its', rv', p', hz''⟩ := I.list hq'
    obtain ⟨hz, hI, ⟨u0, v0, hO⟩, h1, h2⟩ := st
    have hl := rv.length
    have hl' := rv'.length
    refine wpAny_pyNext_zip_end (I.ok.hd hc) D hz hI hO h1 h2 p.isList p'.isList (by simp; omega) fun h' eb => ⟨rfl, ?_⟩
    exact I.turnedL (ch := [z, TI, TO, i1, i2]) hf fun c o hc q => eb c o (fun e => hc (by simp [e])) (fun e => hc (by simp [e])) (fun e => hc (by simp [e])) (fun e => hc (by simp [e])) q
  self := fun _ _ _ _ _ st h => wpAny_pyIter_zip st.1 h
def iZip (K : PySem.W.Frag) (ta : TA) : TI := fun σ H R => ta σ H fun vs H1 => ∃ a b, vs = [.ref a, .ref b] ∧ (∃ xs, SqL K H1 a xs) ∧ (∃ ys, SqL K H1 b ys) ∧ R (Itz K a b) H1
theorem boot_zip' : bootBuiltins "zip" = some (.type "zip") := by decide +kernel
theorem pi_zip {a b : Expr} {ta : TA} {p pos : Pos} {elts : List Expr} {x1} {pos2 : Pos} (hg : Gl X "zip") (hm : X.mg "zip" = none) (ha : PA X [a, b] ta) (he : starEach [a, b] X.env = (false, eval a X.env) :: starEach [b] X.env := by rfl)
    (hpl : (backTo pos (starEach [b] X.env)).any (·.1) = false := by rfl) : PI X (.Tuple elts x1 pos2) (.Call (.Name "zip" p) [a, b] [] pos) (iZip X.K ta) := by
  intro pins s σ H R I h
  refine Call_ (ld_blt I hg hm boot_zip' (PyProof.Rows.callWith_type1 (thn (ha pos pins s σ H _ I h) fun us s1 ⟨vs, H1, I1, r1, q1⟩ => ?_) he hpl))
  obtain ⟨a, b, e, ⟨xs, hq⟩, ⟨ys, hq'⟩, q⟩ := q1
  subst e
  obtain ⟨u, v, rfl, ru, rv⟩ := vals2 r1
  cases ru
  cases rv
  obtain ⟨its, rv1, p1, hz1⟩ := I1.list hq
  obtain ⟨its', rv2, p2, hz2⟩ := I1.list hq'
  have lt : ∀ {c : Addr} {zs : Array Value}, s1.heap.IsList c zs → c < s1.heap.objs.size := fun h => by obtain ⟨o, e, _⟩ := h; exact Heap.lt_size e
  refine call_zip_2 p1.isList p2.isList fun h' hz hI hO h1 h2 hsz hk => ?_
  refine wpAny_pyIter_zip hz ?_
  refine ⟨s1.heap.objs.size + 4, [s1.heap.objs.size + 4, s1.heap.objs.size + 2, s1.heap.objs.size + 3, s1.heap.objs.size, s1.heap.objs.size + 1], _, _, H1, rfl, I1.kept (t' := s1.toks) hk, turn_zip (zipApart_new (lt p1.isList) (lt p2.isList)), ⟨hz, hI, ⟨_, _, hO⟩, h1, h2⟩, fun c hc => ?_, q⟩
  have le : s1.heap.objs.size ≤ c := by
    simp only [List.mem_cons, List.not_mem_nil, or_false] at hc
    rcases hc with h | h | h | h | h
    · rw [h]; exact Nat.le_add_right _ _
    · rw [h]; exact Nat.le_add_right _ _
    · rw [h]; exact Nat.le_add_right _ _
    · rw [h]; exact Nat.le_refl _
    · rw [h]; exact Nat.le_add_right _ _
  exact I1.fpOk le (I1.hok.fresh le)
end
theorem for_zip {K : PySem.W.Frag} {a b : Addr} {xs ys : List V} {g : TG} {tb : TS} {D : Ends} {σ : St} {H : Hp} (Pv : Nat → St → Hp → Prop) (h0 : Pv 0 σ H) (hl : ∀ i σ H, i ≤ xs.length → Pv i σ H → SqL K H a xs ∧ SqL K H b ys) (hle : xs.length = ys.length)
    (hs : ∀ i x y σ H T, xs[i]? = some x → ys[i]? = some y → Pv i σ H → H T = none → g (.ref T) σ (upd H T (.tup [x, y])) fun σ2 H2 => tb { D with nx := Pv (i + 1), ct := Pv (i + 1), bk := D.nx } σ2 H2) (hd : ∀ σ H, Pv xs.length σ H → D.nx σ H) :
    ∃ W : Nat → Nat → St → Hp → Prop, (∃ m, W 0 m σ H) ∧ ∀ i m σ H, W i m σ H →
      ((Itz K a b).stop i H ∧ D.nx σ H) ∨ ((Itz K a b).go i H ∧ ∃ N : St → Hp → Prop, (∀ σ' H', N σ' H' → ∃ m', m' < m ∧ W (i + 1) m' σ' H') ∧ ∀ x H', (Itz K a b).yld i H x H' → g x σ H' fun σ2 H2 => tb { D with nx := N, ct := N, bk := D.nx } σ2 H2) := by
  refine ⟨fun i m σ H => m = xs.length - i ∧ i ≤ xs.length ∧ Pv i σ H, ⟨xs.length, by simp, Nat.zero_le _, h0⟩, ?_⟩
  rintro i m σ H ⟨rfl, hi, p⟩
  obtain ⟨q, q'⟩ := hl i σ H hi p
  by_cases hlt : i < xs.length
  · have hlt' : i < ys.length := by omega
    refine .inr ⟨⟨xs, ys, xs[i], ys[i], q, q', by simp [hlt], by simp [hlt']⟩, Pv (i + 1), fun σ' H' p' => ⟨xs.length - (i + 1), by omega, rfl, hlt, p'⟩, fun v H' y => ?_⟩
    obtain ⟨T, x, y, rfl, hT, rfl, h⟩ := y
    obtain ⟨e1, e2⟩ := h xs ys q q'
    exact hs i x y σ _ T e1 e2 p hT
  · have e : i = xs.length := by omega
    subst e
    exact .inl ⟨⟨xs, ys, q, q', Or.inl (Nat.le_refl _)⟩, hd σ H p⟩
end L2

set_option Elab.async false
set_option linter.all false
set_option maxRecDepth 100000
set_option maxHeartbeats 4000000
namespace L2
open PySem PySem.Spec PyProof.Rows
theorem comp_pairF {K : PySem.W.Frag} {a : Addr} {xs : List V} {fr : List Nat} {tf : CB → TT} {te : CB → TE} {Q : VK} {σ : St} {H1 : Hp} (p : V → Bool) (R : V → V → Hp → Prop) (hx : SqL K H1 a xs) (hn : xs.length < sizeLine)
    (hf : ∀ b x H (G : Bool → Hp → Prop), x ∈ xs → Same H1 H → (∀ H', Same H H' → G (p x) H') → tf b (some x :: cFr fr σ) H G)
    (he : ∀ b x H (G : VK), x ∈ xs → p x = true → Same H1 H → (∀ y H', Same H H' → R x y H' → G y H') → te b (some x :: cFr fr σ) H G)
    (mono : ∀ x y H H', Same H H' → R x y H → R x y H') (st : ∀ x y H D ys zs, H D = some (.lst ys) → R x y H → R x y (upd H D (.lst zs)))
    (fin : ∀ D H ys, H1 D = none → Same H1 H → H D = some (.lst ys) → PySem.Paired (fun x y => R x y H) (xs.filter p) ys → Q (.ref D) H) : tBlock (Itl K a) 1 fr (fun _ => gName 0) tf te Q σ H1 := by
  have len : ∀ {i : Nat} {ys : List V} {H : Hp}, PySem.Paired (fun x y => R x y H) ((xs.take i).filter p) ys → ys.length ≤ i := fun {i} _ _ h => by
    have h1 := Paired.length h
    have h2 := List.length_filter_le p (xs.take i)
    rw [List.length_take] at h2
    omega
  refine ⟨fun b D hD => ?_⟩
  refine ⟨fun i m σ' H' => m = xs.length - i ∧ i ≤ xs.length ∧ (∃ v0, σ' = v0 :: cFr fr σ) ∧ Same H1 H' ∧ ∃ ys, H' D = some (.lst ys) ∧ PySem.Paired (fun x y => R x y H') ((xs.take i).filter p) ys, ⟨xs.length, rfl, Nat.zero_le _, ⟨none, rfl⟩, Same.upd hD _, [], upd_same, .nil⟩, ?_⟩
  rintro i m σ' H' ⟨rfl, hi, ⟨v0, rfl⟩, sm, ys, hl, hR⟩
  have hy := len hR
  by_cases hlt : i < xs.length
  · refine .inr ⟨⟨xs, xs[i], sm.seq hx, List.getElem?_eq_getElem hlt⟩, fun σ2 H2 => (∃ v0, σ2 = v0 :: cFr fr σ) ∧ Same H1 H2 ∧ ∃ ys, H2 D = some (.lst ys) ∧ PySem.Paired (fun x y => R x y H2) ((xs.take (i + 1)).filter p) ys, fun σ2 H2 q => ⟨xs.length - (i + 1), by omega, rfl, hlt, q⟩, fun v H2 y => ?_⟩
    obtain ⟨rfl, yv⟩ := y
    have ev := yv xs (sm.seq hx)
    have mem : v ∈ xs := List.mem_of_getElem? ev
    rw [List.take_add_one, ev, List.filter_append]
    show tf b (some v :: cFr fr σ) _ _
    refine hf b v _ _ mem sm fun H3 s3 => ?_
    cases hp : p v with
    | false =>
      rw [if_neg Bool.false_ne_true]
      refine ⟨⟨_, rfl⟩, sm.trans s3, ys, s3 _ _ hl, ?_⟩
      have e0 : ((some v).toList.filter p) = [] := by simp [hp]
      rw [e0, List.append_nil]
      exact Paired.mapP hR fun _ _ h => mono _ _ _ _ s3 h
    | true =>
      rw [if_pos rfl]
      have e0 : ((some v).toList.filter p) = [v] := by simp [hp]
      rw [e0]
      refine he b v _ _ mem hp (sm.trans s3) fun z H4 s4 rz => ⟨ys, s4 _ _ (s3 _ _ hl), by omega, ⟨_, rfl⟩, ?_, ys ++ [z], upd_same, ?_⟩
      · intro c o q
        by_cases hc : c = D
        · rw [hc, hD] at q; cases q
        · rw [upd_ne hc]; exact (sm.trans (s3.trans s4)) c o q
      · have hD4 := s4 _ _ (s3 _ _ hl)
        exact PySem.Paired.snoc (Paired.mapP hR fun _ _ h => st _ _ _ _ _ _ hD4 (mono _ _ _ _ (s3.trans s4) h)) (st _ _ _ _ _ _ hD4 rz)
  · have e : i = xs.length := by omega
    subst e
    rw [List.take_length] at hR
    exact .inl ⟨⟨xs, sm.seq hx, Nat.le_refl _⟩, fin D H' ys hD sm hl hR⟩
end L2
namespace L2
open PySem PySem.Spec PyProof.Rows
section
variable {X : Cx}
end
end L2

set_option Elab.async false
set_option linter.all false
set_option maxRecDepth 100000
set_option maxHeartbeats 4000000
namespace L2
open PySem PySem.Spec PyProof.Rows
section
variable {X : Cx}
end
end L2
namespace L2
open PySem PySem.Spec PyProof.Rows
section
variable {X : Cx}
end
end L2

set_option Elab.async false
set_option linter.all false
set_option maxRecDepth 100000
set_option maxHeartbeats 4000000
namespace L2
open PySem PySem.Spec PyProof.Rows
section
variable {X : Cx}
end
end L2

set_option Elab.async false
set_option linter.all false
set_option maxRecDepth 100000
set_option maxHeartbeats 4000000
namespace K26
open PySem L2
abbrev s_wall : Stmt := top 0
abbrev s_is_number : Stmt := top 23
theorem sc_is_number : FnScope ["thing"] ["thing"] (defScope s_is_number) := ⟨rfl, rfl, rfl, by decide +kernel, rfl, by decide +kernel, by decide +kernel⟩
abbrev s_is_good : Stmt := top 24
theorem sc_is_good : FnScope ["gift", "size"] ["gift", "size"] (defScope s_is_good) := ⟨rfl, rfl, rfl, by decide +kernel, rfl, by decide +kernel, by decide +kernel⟩
abbrev s_given_cell : Stmt := top 25
theorem sc_given_cell : FnScope ["given", "gifts", "gift"] ["given", "gifts"] (defScope s_given_cell) := ⟨rfl, rfl, rfl, by decide +kernel, rfl, by decide +kernel, by decide +kernel⟩
abbrev s_own_cell : Stmt := top 26
theorem sc_own_cell : FnScope ["own"] ["own"] (defScope s_own_cell) := ⟨rfl, rfl, rfl, by decide +kernel, rfl, by decide +kernel, by decide +kernel⟩
abbrev s_cells_of : Stmt := top 27
theorem sc_cells_of : FnScope ["program", "gifts", "cells", "head", "deed", "part"] ["program", "gifts"] (defScope s_cells_of) := ⟨rfl, rfl, rfl, by decide +kernel, rfl, by decide +kernel, by decide +kernel⟩
abbrev s_reckon : Stmt := top 30
theorem sc_reckon : FnScope ["one", "word", "other"] ["one", "word", "other"] (defScope s_reckon) := ⟨rfl, rfl, rfl, by decide +kernel, rfl, by decide +kernel, by decide +kernel⟩
abbrev s_round_place : Stmt := top 31
abbrev s_ends_of : Stmt := top 34
theorem sc_ends_of : FnScope ["program", "cells"] ["program", "cells"] (defScope s_ends_of) := ⟨rfl, rfl, rfl, by decide +kernel, rfl, by decide +kernel, by decide +kernel⟩
abbrev s_run : Stmt := top 35
theorem sc_run : FnScope ["program", "gifts", "state", "book"] ["program", "gifts"] (defScope s_run) := ⟨rfl, rfl, rfl, by decide +kernel, rfl, by decide +kernel, by decide +kernel⟩
abbrev s_law_cell_at : Stmt := top 37
theorem sc_law_cell_at : FnScope ["_law_script", "_law_k"] ["_law_script", "_law_k"] (defScope s_law_cell_at) := ⟨rfl, rfl, rfl, by decide +kernel, rfl, by decide +kernel, by decide +kernel⟩
abbrev s_law_mix : Stmt := top 38
theorem sc_law_mix : FnScope ["_law_cell", "_law_k", "_law_rest", "_law_j", "_law_prime"] ["_law_cell", "_law_k"] (defScope s_law_mix) := ⟨rfl, rfl, rfl, by decide +kernel, rfl, by decide +kernel, by decide +kernel⟩
abbrev s_law_name : Stmt := top 39
theorem sc_law_name : FnScope ["_law_cell", "_law_k", "_law_letters", "_law_way", "_law_size", "_law_at", "_law_stem", "_law_here", "_law_more"] ["_law_cell", "_law_k"] (defScope s_law_name) := ⟨rfl, rfl, rfl, by decide +kernel, rfl, by decide +kernel, by decide +kernel⟩
abbrev s_law_thing : Stmt := top 40
theorem sc_law_thing : FnScope ["_law_number", "_law_things"] ["_law_number", "_law_things"] (defScope s_law_thing) := ⟨rfl, rfl, rfl, by decide +kernel, rfl, by decide +kernel, by decide +kernel⟩
abbrev s_law_deed : Stmt := top 41
theorem sc_law_deed : FnScope ["_law_script", "_law_names", "_law_k", "_law_at", "_law_cell", "_law_many", "_law_parts", "_law_deed_here"] ["_law_script", "_law_names", "_law_k", "_law_at"] (defScope s_law_deed) := ⟨rfl, rfl, rfl, by decide +kernel, rfl, by decide +kernel, by decide +kernel⟩
abbrev s_law_deeds : Stmt := top 42
theorem sc_law_deeds : FnScope ["_law_script", "_law_names", "_law_deeds_here", "_law_at", "_law_k", "_law_deed_here", "_law_j", "_law_number"] ["_law_script", "_law_names"] (defScope s_law_deeds) := ⟨rfl, rfl, rfl, by decide +kernel, rfl, by decide +kernel, by decide +kernel⟩
abbrev s_law_made : Stmt := top 43
theorem sc_law_made : FnScope ["_law_deed_here", "_law_deeds_here", "_law_rows", "_law_at", "_law_part"] ["_law_deed_here", "_law_deeds_here"] (defScope s_law_made) := ⟨rfl, rfl, rfl, by decide +kernel, rfl, by decide +kernel, by decide +kernel⟩
abbrev s_law_calls : Stmt := top 44
theorem sc_law_calls : FnScope ["_law_script", "_law_names", "_law_deeds_here", "_law_calls_here", "_law_cell", "_law_called", "_law_things", "_law_j"] ["_law_script", "_law_names", "_law_deeds_here"] (defScope s_law_calls) := ⟨rfl, rfl, rfl, by decide +kernel, rfl, by decide +kernel, by decide +kernel⟩
abbrev s_law_tell : Stmt := top 45
theorem sc_law_tell : FnScope ["_law_book", "_law_at", "_law_told"] ["_law_book", "_law_at", "_law_told"] (defScope s_law_tell) := ⟨rfl, rfl, rfl, by decide +kernel, rfl, by decide +kernel, by decide +kernel⟩
abbrev s_law_call : Stmt := top 46
theorem sc_law_call : FnScope ["_law_book", "_law_deeds_here", "_law_called", "_law_things", "_law_at", "_law_deed_here", "_law_some", "_law_thing_here", "_law_part", "_law_told"] ["_law_book", "_law_deeds_here", "_law_called", "_law_things", "_law_at"] (defScope s_law_call) := ⟨rfl, rfl, rfl, by decide +kernel, rfl, by decide +kernel, by decide +kernel⟩
abbrev s_law_same : Stmt := top 47
theorem sc_law_same : FnScope ["_law_found", "_law_due", "_law_k"] ["_law_found", "_law_due"] (defScope s_law_same) := ⟨rfl, rfl, rfl, by decide +kernel, rfl, by decide +kernel, by decide +kernel⟩
abbrev s_law : Stmt := top 48
theorem sc_law : FnScope ["_law_script", "_law_names", "_law_deeds_here", "_law_at", "_law_own", "_law_given", "_law_rows", "_law_book", "_law_called", "_law_things", "_law_heads", "_law_program", "_law_found"] ["_law_script"] (defScope s_law) := ⟨rfl, rfl, rfl, by decide +kernel, rfl, by decide +kernel, by decide +kernel⟩
abbrev s_Book_init : Stmt := inClass (top 2) 0
theorem sc_Book_init : FnScope ["self"] ["self"] (defScope s_Book_init) := ⟨rfl, rfl, rfl, by decide +kernel, rfl, by decide +kernel, by decide +kernel⟩
abbrev s_Row_init : Stmt := inClass (top 7) 0
theorem sc_Row_init : FnScope ["self", "number"] ["self", "number"] (defScope s_Row_init) := ⟨rfl, rfl, rfl, by decide +kernel, rfl, by decide +kernel, by decide +kernel⟩
abbrev s_Row_reads : Stmt := inClass (top 7) 1
abbrev s_Row_target : Stmt := inClass (top 7) 2
abbrev s_HandRow_init : Stmt := inClass (top 8) 0
theorem sc_HandRow_init : FnScope ["self", "number", "name", "rank"] ["self", "number", "name", "rank"] (defScope s_HandRow_init) := ⟨rfl, rfl, rfl, by decide +kernel, rfl, by decide +kernel, by decide +kernel⟩
abbrev s_HandRow_shown : Stmt := inClass (top 8) 1
abbrev s_GivenRow_init : Stmt := inClass (top 9) 0
theorem sc_GivenRow_init : FnScope ["self", "number", "name", "rank", "size"] ["self", "number", "name", "rank", "size"] (defScope s_GivenRow_init) := ⟨rfl, rfl, rfl, by decide +kernel, rfl, by decide +kernel, by decide +kernel⟩
abbrev s_GivenRow_shown : Stmt := inClass (top 9) 1
abbrev s_OwnRow_init : Stmt := inClass (top 10) 0
theorem sc_OwnRow_init : FnScope ["self", "number", "name", "size"] ["self", "number", "name", "size"] (defScope s_OwnRow_init) := ⟨rfl, rfl, rfl, by decide +kernel, rfl, by decide +kernel, by decide +kernel⟩
abbrev s_OwnRow_shown : Stmt := inClass (top 10) 1
abbrev s_SetRow_init : Stmt := inClass (top 11) 0
theorem sc_SetRow_init : FnScope ["self", "number", "name", "value"] ["self", "number", "name", "value"] (defScope s_SetRow_init) := ⟨rfl, rfl, rfl, by decide +kernel, rfl, by decide +kernel, by decide +kernel⟩
abbrev s_SetRow_shown : Stmt := inClass (top 11) 1
abbrev s_SetRow_reads : Stmt := inClass (top 11) 2
abbrev s_SetRow_target : Stmt := inClass (top 11) 3
abbrev s_PutRow_init : Stmt := inClass (top 12) 0
abbrev s_PutRow_shown : Stmt := inClass (top 12) 1
abbrev s_PutRow_reads : Stmt := inClass (top 12) 2
abbrev s_PutRow_target : Stmt := inClass (top 12) 3
abbrev s_SendRow_init : Stmt := inClass (top 13) 0
theorem sc_SendRow_init : FnScope ["self", "number", "name", "value"] ["self", "number", "name", "value"] (defScope s_SendRow_init) := ⟨rfl, rfl, rfl, by decide +kernel, rfl, by decide +kernel, by decide +kernel⟩
abbrev s_SendRow_shown : Stmt := inClass (top 13) 1
abbrev s_SendRow_reads : Stmt := inClass (top 13) 2
abbrev s_SayRow_init : Stmt := inClass (top 14) 0
abbrev s_SayRow_shown : Stmt := inClass (top 14) 1
abbrev s_SayRow_reads : Stmt := inClass (top 14) 2
abbrev s_SayRow_target : Stmt := inClass (top 14) 3
abbrev s_CallRow_init : Stmt := inClass (top 15) 0
theorem sc_CallRow_init : FnScope ["self", "number", "name", "things"] ["self", "number", "name", "things"] (defScope s_CallRow_init) := ⟨rfl, rfl, rfl, by decide +kernel, rfl, by decide +kernel, by decide +kernel⟩
abbrev s_CallRow_shown : Stmt := inClass (top 15) 1
abbrev s_CallRow_reads : Stmt := inClass (top 15) 2
abbrev s_LastRow_shown : Stmt := inClass (top 16) 0
abbrev s_IfRow_init : Stmt := inClass (top 17) 0
abbrev s_IfRow_shown : Stmt := inClass (top 17) 1
abbrev s_IfRow_reads : Stmt := inClass (top 17) 2
abbrev s_LoopRow_init : Stmt := inClass (top 18) 0
abbrev s_LoopRow_shown : Stmt := inClass (top 18) 1
abbrev s_LoopRow_reads : Stmt := inClass (top 18) 2
abbrev s_DeedRow_init : Stmt := inClass (top 19) 0
theorem sc_DeedRow_init : FnScope ["self", "number", "name", "parts", "body"] ["self", "number", "name", "parts", "body"] (defScope s_DeedRow_init) := ⟨rfl, rfl, rfl, by decide +kernel, rfl, by decide +kernel, by decide +kernel⟩
abbrev s_DeedRow_shown : Stmt := inClass (top 19) 1
abbrev s_Program_init : Stmt := inClass (top 20) 0
theorem sc_Program_init : FnScope ["self", "heads", "deeds", "main"] ["self", "heads", "deeds", "main"] (defScope s_Program_init) := ⟨rfl, rfl, rfl, by decide +kernel, rfl, by decide +kernel, by decide +kernel⟩
abbrev s_Run_init : Stmt := inClass (top 33) 0
theorem sc_Run_init : FnScope ["self", "program", "cells", "deed"] ["self", "program", "cells"] (defScope s_Run_init) := ⟨rfl, rfl, rfl, by decide +kernel, rfl, by decide +kernel, by decide +kernel⟩
abbrev s_Run_number_at : Stmt := inClass (top 33) 1
theorem sc_Run_number_at : FnScope ["self", "thing"] ["self", "thing"] (defScope s_Run_number_at) := ⟨rfl, rfl, rfl, by decide +kernel, rfl, by decide +kernel, by decide +kernel⟩
abbrev s_Run_number_for : Stmt := inClass (top 33) 2
theorem sc_Run_number_for : FnScope ["self", "value", "behind", "numbers"] ["self", "value"] (defScope s_Run_number_for) := ⟨rfl, rfl, rfl, by decide +kernel, rfl, by decide +kernel, by decide +kernel⟩
abbrev s_Run_number_told : Stmt := inClass (top 33) 3
theorem sc_Run_number_told : FnScope ["self", "row"] ["self", "row"] (defScope s_Run_number_told) := ⟨rfl, rfl, rfl, by decide +kernel, rfl, by decide +kernel, by decide +kernel⟩
abbrev s_Run_pass_steps : Stmt := inClass (top 33) 4
theorem sc_Run_pass_steps : FnScope ["self", "count", "book"] ["self", "count"] (defScope s_Run_pass_steps) := ⟨rfl, rfl, rfl, by decide +kernel, rfl, by decide +kernel, by decide +kernel⟩
abbrev s_Run_do_rows : Stmt := inClass (top 33) 5
theorem sc_Run_do_rows : FnScope ["self", "rows", "ending", "row"] ["self", "rows"] (defScope s_Run_do_rows) := ⟨rfl, rfl, rfl, by decide +kernel, rfl, by decide +kernel, by decide +kernel⟩
abbrev s_Run_do_row : Stmt := inClass (top 33) 6
theorem sc_Run_do_row : FnScope ["self", "row", "book", "told"] ["self", "row"] (defScope s_Run_do_row) := ⟨rfl, rfl, rfl, by decide +kernel, rfl, by decide +kernel, by decide +kernel⟩
abbrev s_Run_do_put : Stmt := inClass (top 33) 7
abbrev s_Run_do_call : Stmt := inClass (top 33) 8
theorem sc_Run_do_call : FnScope ["self", "row", "deed", "numbers", "part", "number"] ["self", "row"] (defScope s_Run_do_call) := ⟨rfl, rfl, rfl, by decide +kernel, rfl, by decide +kernel, by decide +kernel⟩
abbrev s_Run_do_if : Stmt := inClass (top 33) 9
abbrev s_Run_do_loop : Stmt := inClass (top 33) 10
structure Adr where
  Book : Addr
  Row : Addr
  HandRow : Addr
  GivenRow : Addr
  OwnRow : Addr
  SetRow : Addr
  PutRow : Addr
  SendRow : Addr
  SayRow : Addr
  CallRow : Addr
  LastRow : Addr
  IfRow : Addr
  LoopRow : Addr
  DeedRow : Addr
  Program : Addr
  Run : Addr
structure Txt (K : PySem.W.Frag) (mg : Str → Option Value) (A : Adr) : Prop where
  is_number : TopFn K mg "is_number" s_is_number ["thing"]
  is_good : TopFn K mg "is_good" s_is_good ["gift", "size"]
  given_cell : TopFn K mg "given_cell" s_given_cell ["given", "gifts"]
  own_cell : TopFn K mg "own_cell" s_own_cell ["own"]
  cells_of : TopFn K mg "cells_of" s_cells_of ["program", "gifts"]
  reckon : TopFn K mg "reckon" s_reckon ["one", "word", "other"]
  ends_of : TopFn K mg "ends_of" s_ends_of ["program", "cells"]
  run : TopFn K mg "run" s_run ["program", "gifts"]
  law_cell_at : TopFn K mg "_law_cell_at" s_law_cell_at ["_law_script", "_law_k"]
  law_mix : TopFn K mg "_law_mix" s_law_mix ["_law_cell", "_law_k"]
  law_name : TopFn K mg "_law_name" s_law_name ["_law_cell", "_law_k"]
  law_thing : TopFn K mg "_law_thing" s_law_thing ["_law_number", "_law_things"]
  law_deed : TopFn K mg "_law_deed" s_law_deed ["_law_script", "_law_names", "_law_k", "_law_at"]
  law_deeds : TopFn K mg "_law_deeds" s_law_deeds ["_law_script", "_law_names"]
  law_made : TopFn K mg "_law_made" s_law_made ["_law_deed_here", "_law_deeds_here"]
  law_calls : TopFn K mg "_law_calls" s_law_calls ["_law_script", "_law_names", "_law_deeds_here"]
  law_tell : TopFn K mg "_law_tell" s_law_tell ["_law_book", "_law_at", "_law_told"]
  law_call : TopFn K mg "_law_call" s_law_call ["_law_book", "_law_deeds_here", "_law_called", "_law_things", "_law_at"]
  law_same : TopFn K mg "_law_same" s_law_same ["_law_found", "_law_due"]
  z_all : mg "all" = none
  z_bool : mg "bool" = none
  z_dict : mg "dict" = none
  z_int : mg "int" = none
  z_isinstance : mg "isinstance" = none
  z_len : mg "len" = none
  z_list : mg "list" = none
  z_range : mg "range" = none
  z_str : mg "str" = none
  z_tuple : mg "tuple" = none
  z_zip : mg "zip" = none
  c_MOST_NUMBER : ∃ t, mg "MOST_NUMBER" = some (.int 999999999999 t)
  c_ROUND : ∃ t, mg "ROUND" = some (.int 1000000000000 t)
  o_Book : OwnC K mg A.Book "Book" [A.Book]
  m_Book_init : MFn K A.Book "__init__" "Book.__init__" s_Book_init ["self"]
  n_Book_letters : NoAttr K A.Book "letters"
  n_Book_said : NoAttr K A.Book "said"
  n_Book_trace : NoAttr K A.Book "trace"
  n_Book_steps : NoAttr K A.Book "steps"
  n_Book_ends : NoAttr K A.Book "ends"
  o_Row : OwnC K mg A.Row "Row" [A.Row]
  m_Row_init : MFn K A.Row "__init__" "Row.__init__" s_Row_init ["self", "number"]
  o_HandRow : OwnC K mg A.HandRow "HandRow" [A.HandRow, A.Row]
  m_HandRow_init : MFn K A.HandRow "__init__" "HandRow.__init__" s_HandRow_init ["self", "number", "name", "rank"]
  n_HandRow_name : NoAttr K A.HandRow "name"
  n_HandRow_rank : NoAttr K A.HandRow "rank"
  n_HandRow_number : NoAttr K A.HandRow "number"
  o_GivenRow : OwnC K mg A.GivenRow "GivenRow" [A.GivenRow, A.Row]
  m_GivenRow_init : MFn K A.GivenRow "__init__" "GivenRow.__init__" s_GivenRow_init ["self", "number", "name", "rank", "size"]
  n_GivenRow_name : NoAttr K A.GivenRow "name"
  n_GivenRow_rank : NoAttr K A.GivenRow "rank"
  n_GivenRow_size : NoAttr K A.GivenRow "size"
  n_GivenRow_number : NoAttr K A.GivenRow "number"
  o_OwnRow : OwnC K mg A.OwnRow "OwnRow" [A.OwnRow, A.Row]
  m_OwnRow_init : MFn K A.OwnRow "__init__" "OwnRow.__init__" s_OwnRow_init ["self", "number", "name", "size"]
  n_OwnRow_name : NoAttr K A.OwnRow "name"
  n_OwnRow_size : NoAttr K A.OwnRow "size"
  n_OwnRow_number : NoAttr K A.OwnRow "number"
  o_SetRow : OwnC K mg A.SetRow "SetRow" [A.SetRow, A.Row]
  m_SetRow_init : MFn K A.SetRow "__init__" "SetRow.__init__" s_SetRow_init ["self", "number", "name", "value"]
  n_SetRow_name : NoAttr K A.SetRow "name"
  n_SetRow_value : NoAttr K A.SetRow "value"
  n_SetRow_number : NoAttr K A.SetRow "number"
  o_PutRow : OwnC K mg A.PutRow "PutRow" [A.PutRow, A.Row]
  o_SendRow : OwnC K mg A.SendRow "SendRow" [A.SendRow, A.Row]
  m_SendRow_init : MFn K A.SendRow "__init__" "SendRow.__init__" s_SendRow_init ["self", "number", "name", "value"]
  n_SendRow_name : NoAttr K A.SendRow "name"
  n_SendRow_value : NoAttr K A.SendRow "value"
  n_SendRow_number : NoAttr K A.SendRow "number"
  o_SayRow : OwnC K mg A.SayRow "SayRow" [A.SayRow, A.Row]
  o_CallRow : OwnC K mg A.CallRow "CallRow" [A.CallRow, A.Row]
  m_CallRow_init : MFn K A.CallRow "__init__" "CallRow.__init__" s_CallRow_init ["self", "number", "name", "things"]
  n_CallRow_name : NoAttr K A.CallRow "name"
  n_CallRow_things : NoAttr K A.CallRow "things"
  n_CallRow_number : NoAttr K A.CallRow "number"
  o_LastRow : OwnC K mg A.LastRow "LastRow" [A.LastRow, A.Row]
  o_IfRow : OwnC K mg A.IfRow "IfRow" [A.IfRow, A.Row]
  o_LoopRow : OwnC K mg A.LoopRow "LoopRow" [A.LoopRow, A.Row]
  o_DeedRow : OwnC K mg A.DeedRow "DeedRow" [A.DeedRow, A.Row]
  m_DeedRow_init : MFn K A.DeedRow "__init__" "DeedRow.__init__" s_DeedRow_init ["self", "number", "name", "parts", "body"]
  n_DeedRow_name : NoAttr K A.DeedRow "name"
  n_DeedRow_parts : NoAttr K A.DeedRow "parts"
  n_DeedRow_body : NoAttr K A.DeedRow "body"
  n_DeedRow_number : NoAttr K A.DeedRow "number"
  o_Program : OwnC K mg A.Program "Program" [A.Program]
  m_Program_init : MFn K A.Program "__init__" "Program.__init__" s_Program_init ["self", "heads", "deeds", "main"]
  n_Program_heads : NoAttr K A.Program "heads"
  n_Program_deeds : NoAttr K A.Program "deeds"
  n_Program_main : NoAttr K A.Program "main"
  o_Run : OwnC K mg A.Run "Run" [A.Run]
  m_Run_init : MFn K A.Run "__init__" "Run.__init__" s_Run_init ["self", "program", "cells"]
  m_Run_number_at : MFn K A.Run "number_at" "Run.number_at" s_Run_number_at ["self", "thing"]
  m_Run_number_for : MFn K A.Run "number_for" "Run.number_for" s_Run_number_for ["self", "value"]
  m_Run_number_told : MFn K A.Run "number_told" "Run.number_told" s_Run_number_told ["self", "row"]
  m_Run_pass_steps : MFn K A.Run "pass_steps" "Run.pass_steps" s_Run_pass_steps ["self", "count"]
  m_Run_do_rows : MFn K A.Run "do_rows" "Run.do_rows" s_Run_do_rows ["self", "rows"]
  m_Run_do_row : MFn K A.Run "do_row" "Run.do_row" s_Run_do_row ["self", "row"]
  m_Run_do_call : MFn K A.Run "do_call" "Run.do_call" s_Run_do_call ["self", "row"]
  n_Run_deeds : NoAttr K A.Run "deeds"
  n_Run_cells : NoAttr K A.Run "cells"
  n_Run_book : NoAttr K A.Run "book"
  of_Row_init : OfC K A.Row "__init__"
  nd : [A.Book, A.Row, A.HandRow, A.GivenRow, A.OwnRow, A.SetRow, A.PutRow, A.SendRow, A.SayRow, A.CallRow, A.LastRow, A.IfRow, A.LoopRow, A.DeedRow, A.Program, A.Run].Nodup
end K26

set_option Elab.async false
set_option linter.all false
set_option maxRecDepth 100000
set_option maxHeartbeats 4000000
namespace K26
open PySem L2
section
variable {P : Program} {w : World} {K : PySem.W.Frag} {mg : Str → Option Value} {base : Heap} {A : Adr}
theorem kit_ii : PySem.W.kitOne K (.type "int") (.type "int") = some true := by kernel_rfl!
theorem kit_ib : PySem.W.kitOne K (.type "int") (.type "bool") = some false := by kernel_rfl!
theorem kit_tt : PySem.W.kitOne K (.type "tuple") (.type "tuple") = some true := by kernel_rfl!
theorem kit_ll : PySem.W.kitOne K (.type "list") (.type "list") = some true := by kernel_rfl!
theorem kit_dd : PySem.W.kitOne K (.type "dict") (.type "dict") = some true := by kernel_rfl!
theorem sz {n : Nat} (h : n ≤ 1000) : n ≤ sizeLine := Nat.le_of_lt (small1000 h)
theorem mod_in (x : Int) {m : Int} (hm : 0 < m) : 0 ≤ x % m ∧ x % m < m := ⟨Int.emod_nonneg x (show m ≠ 0 by omega), Int.emod_lt_of_pos x hm⟩
theorem at_list {α : Type} {xs : List α} {k : Int} (h0 : 0 ≤ k) (h1 : k < (xs.length : Int)) : ∃ x, xs[k.toNat]? = some x ∧ atI xs k = some x := by
  have hk : k.toNat < xs.length := by omega
  have e := atI_nat (xs := xs) (j := k.toNat) (List.getElem?_eq_getElem hk)
  rw [show ((k.toNat : Nat) : Int) = k by omega] at e
  exact ⟨_, List.getElem?_eq_getElem hk, e⟩
theorem at_map {α : Type} (f : α → V) {xs : List α} {k : Int} (h0 : 0 ≤ k) (h1 : k < (xs.length : Int)) : ∃ x, x ∈ xs ∧ xs[k.toNat]? = some x ∧ atI (xs.map f) k = some (f x) := by
  obtain ⟨x, e1, e2⟩ := at_list (xs := xs.map f) h0 (by rw [List.length_map]; exact h1)
  rw [List.getElem?_map] at e1
  cases h : xs[k.toNat]? with
  | none => rw [h] at e1; cases e1
  | some y =>
    rw [h] at e1
    have : f y = x := Option.some.inj e1
    exact ⟨y, List.mem_of_getElem? h, rfl, by rw [this]; exact e2⟩
theorem vint (i j : Int) : decide (V.int i = V.int j) = decide (i = j) := decide_eq_decide.mpr ⟨fun h => V.int.inj h, fun h => by rw [h]⟩
theorem filter_true {α : Type} (xs : List α) : xs.filter (fun _ => true) = xs := List.filter_eq_self.mpr fun _ _ => rfl
def sp_cell_at (K : PySem.W.Frag) : Sp := fun vs H Q _ => ∃ (a : Addr) (ns : List Int) (k : Int), vs = [.ref a, .int k] ∧ SqL K H a (ns.map V.int) ∧ 0 ≤ k ∧ ∀ n : Int, Q (.int n) H
end
end K26

set_option Elab.async false
set_option linter.all false
set_option maxRecDepth 100000
set_option maxHeartbeats 4000000
namespace K26
open PySem L2
section
variable {P : Program} {w : World} {K : PySem.W.Frag} {mg : Str → Option Value} {base : Heap} {A : Adr}
def sp_Row_init (K : PySem.W.Frag) (A : Adr) : Sp := fun vs H Q _ => ∃ (x C dx : Addr) (fs : List (Str × V)) (n : V), vs = [.ref x, n] ∧ H x = some (.ins C dx fs) ∧ Cls K C ∧ NoAttr K C "number" ∧ fs.length < 1000 ∧ Q .non (upd H x (.ins C dx (putF "number" n fs)))
theorem h_Row_init_of {C : Addr} (F : MFn K C "__init__" "Row.__init__" s_Row_init ["self", "number"]) : HasM P w K mg base 2 C "__init__" ["self", "number"] (sp_Row_init K A) := by
  refine F.has (k := 1) sc_Row_init (fun vs H Q E h => ?_) (fun f cdv A' outer s H vs Q E hr hu h => ?_)
  · obtain ⟨x, C, dx, fs, n, rfl, _⟩ := h
    rfl
  · obtain ⟨x, C, dx, fs, n, rfl, hx, c, na, hl, q⟩ := h
    refine ⟨_, (pss_one (ps_fld (fv 0) (fv 1) rfl)), ?_⟩
    exact ⟨x, C, dx, fs, rfl, hx, c, na, hl, q⟩
theorem h_Row_init (T : Txt K mg A) : HasM P w K mg base 2 A.Row "__init__" ["self", "number"] (sp_Row_init K A) := h_Row_init_of T.m_Row_init
def sp_HandRow_init (K : PySem.W.Frag) (A : Adr) : Sp := fun vs H Q _ => ∃ (x dx : Addr) (v_number v_name v_rank : V), vs = [.ref x, v_number, v_name, v_rank] ∧ H x = some (.ins A.HandRow dx []) ∧ ∀ (H' : Hp), But x H H' → H' x = some (.ins A.HandRow dx [("number", v_number), ("name", v_name), ("rank", v_rank)]) → Q .non H'
theorem h_HandRow_init (T : Txt K mg A) : HasM P w K mg base 3 A.HandRow "__init__" ["self", "number", "name", "rank"] (sp_HandRow_init K A) := by
  have D_Row_init := h_Row_init (P := P) (w := w) (base := base) T
  refine T.m_HandRow_init.has (k := 2) sc_HandRow_init (fun vs H Q E h => ?_) (fun f cdv A' outer s H vs Q E hr hu h => ?_)
  · obtain ⟨x, dx, v_number, v_name, v_rank, rfl, _⟩ := h
    rfl
  · obtain ⟨x, dx, v_number, v_name, v_rank, rfl, hx, q⟩ := h
    refine ⟨_, (pss_cons (ps_expr (pe_callOf T.o_Row T.of_Row_init D_Row_init hr (pa_cons (fv 0) (pa_cons (fv 1) pa_nil))))
    (pss_cons (ps_fld (fv 0) (fv 2) rfl)
    (pss_one (ps_fld (fv 0) (fv 3) rfl)))), ?_⟩
    have b0 : But x H H := But.refl x H
    refine ⟨x, A.HandRow, dx, [], v_number, rfl, hx, T.o_HandRow.cl, T.n_HandRow_number, by decide, ?_⟩
    generalize hg1 : upd H x _ = H1
    have b1 : But x H H1 := hg1 ▸ b0.trans (But.at x _ _)
    have i1 : H1 x = some (.ins A.HandRow dx [("number", v_number)]) := hg1 ▸ upd_same
    refine ⟨x, A.HandRow, dx, [("number", v_number)], rfl, i1, T.o_HandRow.cl, T.n_HandRow_name, by simp, ?_⟩
    generalize hg2 : upd H1 x _ = H2
    have b2 : But x H H2 := hg2 ▸ b1.trans (But.at x _ _)
    have i2 : H2 x = some (.ins A.HandRow dx [("number", v_number), ("name", v_name)]) := hg2 ▸ upd_same
    refine ⟨x, A.HandRow, dx, [("number", v_number), ("name", v_name)], rfl, i2, T.o_HandRow.cl, T.n_HandRow_rank, by simp, ?_⟩
    generalize hg3 : upd H2 x _ = H3
    have b3 : But x H H3 := hg3 ▸ b2.trans (But.at x _ _)
    have i3 : H3 x = some (.ins A.HandRow dx [("number", v_number), ("name", v_name), ("rank", v_rank)]) := hg3 ▸ upd_same
    exact q H3 b3 i3
theorem mk_HandRow {H : Hp} {x dx : Addr} {R : VK} {v_number v_name v_rank : V} (hx : H x = none) (hd : H dx = none) (q : ∀ (H' : Hp), Same H H' → H' x = some (.ins A.HandRow dx [("number", v_number), ("name", v_name), ("rank", v_rank)]) → R .non H') : sp_HandRow_init K A (.ref x :: ([v_number, v_name, v_rank] ++ [])) (upd (upd H dx (.own x)) x (.ins A.HandRow dx [])) R E0 :=
  ⟨x, dx, _, _, _, rfl, upd_same, fun H' b i => q H' (b.same hx hd) i⟩
def sp_GivenRow_init (K : PySem.W.Frag) (A : Adr) : Sp := fun vs H Q _ => ∃ (x dx : Addr) (v_number v_name v_rank v_size : V), vs = [.ref x, v_number, v_name, v_rank, v_size] ∧ H x = some (.ins A.GivenRow dx []) ∧ ∀ (H' : Hp), But x H H' → H' x = some (.ins A.GivenRow dx [("number", v_number), ("name", v_name), ("rank", v_rank), ("size", v_size)]) → Q .non H'
theorem h_GivenRow_init (T : Txt K mg A) : HasM P w K mg base 3 A.GivenRow "__init__" ["self", "number", "name", "rank", "size"] (sp_GivenRow_init K A) := by
  have D_Row_init := h_Row_init (P := P) (w := w) (base := base) T
  refine T.m_GivenRow_init.has (k := 2) sc_GivenRow_init (fun vs H Q E h => ?_) (fun f cdv A' outer s H vs Q E hr hu h => ?_)
  · obtain ⟨x, dx, v_number, v_name, v_rank, v_size, rfl, _⟩ := h
    rfl
  · obtain ⟨x, dx, v_number, v_name, v_rank, v_size, rfl, hx, q⟩ := h
    refine ⟨_, (pss_cons (ps_expr (pe_callOf T.o_Row T.of_Row_init D_Row_init hr (pa_cons (fv 0) (pa_cons (fv 1) pa_nil))))
    (pss_cons (ps_fld (fv 0) (fv 2) rfl)
    (pss_cons (ps_fld (fv 0) (fv 3) rfl)
    (pss_one (ps_fld (fv 0) (fv 4) rfl))))), ?_⟩
    have b0 : But x H H := But.refl x H
    refine ⟨x, A.GivenRow, dx, [], v_number, rfl, hx, T.o_GivenRow.cl, T.n_GivenRow_number, by decide, ?_⟩
    generalize hg1 : upd H x _ = H1
    have b1 : But x H H1 := hg1 ▸ b0.trans (But.at x _ _)
    have i1 : H1 x = some (.ins A.GivenRow dx [("number", v_number)]) := hg1 ▸ upd_same
    refine ⟨x, A.GivenRow, dx, [("number", v_number)], rfl, i1, T.o_GivenRow.cl, T.n_GivenRow_name, by simp, ?_⟩
    generalize hg2 : upd H1 x _ = H2
    have b2 : But x H H2 := hg2 ▸ b1.trans (But.at x _ _)
    have i2 : H2 x = some (.ins A.GivenRow dx [("number", v_number), ("name", v_name)]) := hg2 ▸ upd_same
    refine ⟨x, A.GivenRow, dx, [("number", v_number), ("name", v_name)], rfl, i2, T.o_GivenRow.cl, T.n_GivenRow_rank, by simp, ?_⟩
    generalize hg3 : upd H2 x _ = H3
    have b3 : But x H H3 := hg3 ▸ b2.trans (But.at x _ _)
    have i3 : H3 x = some (.ins A.GivenRow dx [("number", v_number), ("name", v_name), ("rank", v_rank)]) := hg3 ▸ upd_same
    refine ⟨x, A.GivenRow, dx, [("number", v_number), ("name", v_name), ("rank", v_rank)], rfl, i3, T.o_GivenRow.cl, T.n_GivenRow_size, by simp, ?_⟩
    generalize hg4 : upd H3 x _ = H4
    have b4 : But x H H4 := hg4 ▸ b3.trans (But.at x _ _)
    have i4 : H4 x = some (.ins A.GivenRow dx [("number", v_number), ("name", v_name), ("rank", v_rank), ("size", v_size)]) := hg4 ▸ upd_same
    exact q H4 b4 i4
theorem mk_GivenRow {H : Hp} {x dx : Addr} {R : VK} {v_number v_name v_rank v_size : V} (hx : H x = none) (hd : H dx = none) (q : ∀ (H' : Hp), Same H H' → H' x = some (.ins A.GivenRow dx [("number", v_number), ("name", v_name), ("rank", v_rank), ("size", v_size)]) → R .non H') : sp_GivenRow_init K A (.ref x :: ([v_number, v_name, v_rank, v_size] ++ [])) (upd (upd H dx (.own x)) x (.ins A.GivenRow dx [])) R E0 :=
  ⟨x, dx, _, _, _, _, rfl, upd_same, fun H' b i => q H' (b.same hx hd) i⟩
def sp_OwnRow_init (K : PySem.W.Frag) (A : Adr) : Sp := fun vs H Q _ => ∃ (x dx : Addr) (v_number v_name v_size : V), vs = [.ref x, v_number, v_name, v_size] ∧ H x = some (.ins A.OwnRow dx []) ∧ ∀ (H' : Hp), But x H H' → H' x = some (.ins A.OwnRow dx [("number", v_number), ("name", v_name), ("size", v_size)]) → Q .non H'
theorem h_OwnRow_init (T : Txt K mg A) : HasM P w K mg base 3 A.OwnRow "__init__" ["self", "number", "name", "size"] (sp_OwnRow_init K A) := by
  have D_Row_init := h_Row_init (P := P) (w := w) (base := base) T
  refine T.m_OwnRow_init.has (k := 2) sc_OwnRow_init (fun vs H Q E h => ?_) (fun f cdv A' outer s H vs Q E hr hu h => ?_)
  · obtain ⟨x, dx, v_number, v_name, v_size, rfl, _⟩ := h
    rfl
  · obtain ⟨x, dx, v_number, v_name, v_size, rfl, hx, q⟩ := h
    refine ⟨_, (pss_cons (ps_expr (pe_callOf T.o_Row T.of_Row_init D_Row_init hr (pa_cons (fv 0) (pa_cons (fv 1) pa_nil))))
    (pss_cons (ps_fld (fv 0) (fv 2) rfl)
    (pss_one (ps_fld (fv 0) (fv 3) rfl)))), ?_⟩
    have b0 : But x H H := But.refl x H
    refine ⟨x, A.OwnRow, dx, [], v_number, rfl, hx, T.o_OwnRow.cl, T.n_OwnRow_number, by decide, ?_⟩
    generalize hg1 : upd H x _ = H1
    have b1 : But x H H1 := hg1 ▸ b0.trans (But.at x _ _)
    have i1 : H1 x = some (.ins A.OwnRow dx [("number", v_number)]) := hg1 ▸ upd_same
    refine ⟨x, A.OwnRow, dx, [("number", v_number)], rfl, i1, T.o_OwnRow.cl, T.n_OwnRow_name, by simp, ?_⟩
    generalize hg2 : upd H1 x _ = H2
    have b2 : But x H H2 := hg2 ▸ b1.trans (But.at x _ _)
    have i2 : H2 x = some (.ins A.OwnRow dx [("number", v_number), ("name", v_name)]) := hg2 ▸ upd_same
    refine ⟨x, A.OwnRow, dx, [("number", v_number), ("name", v_name)], rfl, i2, T.o_OwnRow.cl, T.n_OwnRow_size, by simp, ?_⟩
    generalize hg3 : upd H2 x _ = H3
    have b3 : But x H H3 := hg3 ▸ b2.trans (But.at x _ _)
    have i3 : H3 x = some (.ins A.OwnRow dx [("number", v_number), ("name", v_name), ("size", v_size)]) := hg3 ▸ upd_same
    exact q H3 b3 i3
theorem mk_OwnRow {H : Hp} {x dx : Addr} {R : VK} {v_number v_name v_size : V} (hx : H x = none) (hd : H dx = none) (q : ∀ (H' : Hp), Same H H' → H' x = some (.ins A.OwnRow dx [("number", v_number), ("name", v_name), ("size", v_size)]) → R .non H') : sp_OwnRow_init K A (.ref x :: ([v_number, v_name, v_size] ++ [])) (upd (upd H dx (.own x)) x (.ins A.OwnRow dx [])) R E0 :=
  ⟨x, dx, _, _, _, rfl, upd_same, fun H' b i => q H' (b.same hx hd) i⟩
def sp_SetRow_init (K : PySem.W.Frag) (A : Adr) : Sp := fun vs H Q _ => ∃ (x dx : Addr) (v_number v_name v_value : V), vs = [.ref x, v_number, v_name, v_value] ∧ H x = some (.ins A.SetRow dx []) ∧ ∀ (H' : Hp), But x H H' → H' x = some (.ins A.SetRow dx [("number", v_number), ("name", v_name), ("value", v_value)]) → Q .non H'
theorem h_SetRow_init (T : Txt K mg A) : HasM P w K mg base 3 A.SetRow "__init__" ["self", "number", "name", "value"] (sp_SetRow_init K A) := by
  have D_Row_init := h_Row_init (P := P) (w := w) (base := base) T
  refine T.m_SetRow_init.has (k := 2) sc_SetRow_init (fun vs H Q E h => ?_) (fun f cdv A' outer s H vs Q E hr hu h => ?_)
  · obtain ⟨x, dx, v_number, v_name, v_value, rfl, _⟩ := h
    rfl
  · obtain ⟨x, dx, v_number, v_name, v_value, rfl, hx, q⟩ := h
    refine ⟨_, (pss_cons (ps_expr (pe_callOf T.o_Row T.of_Row_init D_Row_init hr (pa_cons (fv 0) (pa_cons (fv 1) pa_nil))))
    (pss_cons (ps_fld (fv 0) (fv 2) rfl)
    (pss_one (ps_fld (fv 0) (fv 3) rfl)))), ?_⟩
    have b0 : But x H H := But.refl x H
    refine ⟨x, A.SetRow, dx, [], v_number, rfl, hx, T.o_SetRow.cl, T.n_SetRow_number, by decide, ?_⟩
    generalize hg1 : upd H x _ = H1
    have b1 : But x H H1 := hg1 ▸ b0.trans (But.at x _ _)
    have i1 : H1 x = some (.ins A.SetRow dx [("number", v_number)]) := hg1 ▸ upd_same
    refine ⟨x, A.SetRow, dx, [("number", v_number)], rfl, i1, T.o_SetRow.cl, T.n_SetRow_name, by simp, ?_⟩
    generalize hg2 : upd H1 x _ = H2
    have b2 : But x H H2 := hg2 ▸ b1.trans (But.at x _ _)
    have i2 : H2 x = some (.ins A.SetRow dx [("number", v_number), ("name", v_name)]) := hg2 ▸ upd_same
    refine ⟨x, A.SetRow, dx, [("number", v_number), ("name", v_name)], rfl, i2, T.o_SetRow.cl, T.n_SetRow_value, by simp, ?_⟩
    generalize hg3 : upd H2 x _ = H3
    have b3 : But x H H3 := hg3 ▸ b2.trans (But.at x _ _)
    have i3 : H3 x = some (.ins A.SetRow dx [("number", v_number), ("name", v_name), ("value", v_value)]) := hg3 ▸ upd_same
    exact q H3 b3 i3
theorem mk_SetRow {H : Hp} {x dx : Addr} {R : VK} {v_number v_name v_value : V} (hx : H x = none) (hd : H dx = none) (q : ∀ (H' : Hp), Same H H' → H' x = some (.ins A.SetRow dx [("number", v_number), ("name", v_name), ("value", v_value)]) → R .non H') : sp_SetRow_init K A (.ref x :: ([v_number, v_name, v_value] ++ [])) (upd (upd H dx (.own x)) x (.ins A.SetRow dx [])) R E0 :=
  ⟨x, dx, _, _, _, rfl, upd_same, fun H' b i => q H' (b.same hx hd) i⟩
def sp_SendRow_init (K : PySem.W.Frag) (A : Adr) : Sp := fun vs H Q _ => ∃ (x dx : Addr) (v_number v_name v_value : V), vs = [.ref x, v_number, v_name, v_value] ∧ H x = some (.ins A.SendRow dx []) ∧ ∀ (H' : Hp), But x H H' → H' x = some (.ins A.SendRow dx [("number", v_number), ("name", v_name), ("value", v_value)]) → Q .non H'
theorem h_SendRow_init (T : Txt K mg A) : HasM P w K mg base 3 A.SendRow "__init__" ["self", "number", "name", "value"] (sp_SendRow_init K A) := by
  have D_Row_init := h_Row_init (P := P) (w := w) (base := base) T
  refine T.m_SendRow_init.has (k := 2) sc_SendRow_init (fun vs H Q E h => ?_) (fun f cdv A' outer s H vs Q E hr hu h => ?_)
  · obtain ⟨x, dx, v_number, v_name, v_value, rfl, _⟩ := h
    rfl
  · obtain ⟨x, dx, v_number, v_name, v_value, rfl, hx, q⟩ := h
    refine ⟨_, (pss_cons (ps_expr (pe_callOf T.o_Row T.of_Row_init D_Row_init hr (pa_cons (fv 0) (pa_cons (fv 1) pa_nil))))
    (pss_cons (ps_fld (fv 0) (fv 2) rfl)
    (pss_one (ps_fld (fv 0) (fv 3) rfl)))), ?_⟩
    have b0 : But x H H := But.refl x H
    refine ⟨x, A.SendRow, dx, [], v_number, rfl, hx, T.o_SendRow.cl, T.n_SendRow_number, by decide, ?_⟩
    generalize hg1 : upd H x _ = H1
    have b1 : But x H H1 := hg1 ▸ b0.trans (But.at x _ _)
    have i1 : H1 x = some (.ins A.SendRow dx [("number", v_number)]) := hg1 ▸ upd_same
    refine ⟨x, A.SendRow, dx, [("number", v_number)], rfl, i1, T.o_SendRow.cl, T.n_SendRow_name, by simp, ?_⟩
    generalize hg2 : upd H1 x _ = H2
    have b2 : But x H H2 := hg2 ▸ b1.trans (But.at x _ _)
    have i2 : H2 x = some (.ins A.SendRow dx [("number", v_number), ("name", v_name)]) := hg2 ▸ upd_same
    refine ⟨x, A.SendRow, dx, [("number", v_number), ("name", v_name)], rfl, i2, T.o_SendRow.cl, T.n_SendRow_value, by simp, ?_⟩
    generalize hg3 : upd H2 x _ = H3
    have b3 : But x H H3 := hg3 ▸ b2.trans (But.at x _ _)
    have i3 : H3 x = some (.ins A.SendRow dx [("number", v_number), ("name", v_name), ("value", v_value)]) := hg3 ▸ upd_same
    exact q H3 b3 i3
theorem mk_SendRow {H : Hp} {x dx : Addr} {R : VK} {v_number v_name v_value : V} (hx : H x = none) (hd : H dx = none) (q : ∀ (H' : Hp), Same H H' → H' x = some (.ins A.SendRow dx [("number", v_number), ("name", v_name), ("value", v_value)]) → R .non H') : sp_SendRow_init K A (.ref x :: ([v_number, v_name, v_value] ++ [])) (upd (upd H dx (.own x)) x (.ins A.SendRow dx [])) R E0 :=
  ⟨x, dx, _, _, _, rfl, upd_same, fun H' b i => q H' (b.same hx hd) i⟩
def sp_CallRow_init (K : PySem.W.Frag) (A : Adr) : Sp := fun vs H Q _ => ∃ (x dx : Addr) (v_number v_name : V) (t_things : Addr) (l_things : List V), vs = [.ref x, v_number, v_name, .ref t_things] ∧ H x = some (.ins A.CallRow dx []) ∧ SqL K H t_things l_things ∧ ∀ (n_things : Addr) (H' : Hp), H n_things = none → But x H H' → H' n_things = some (.lst l_things) → H' x = some (.ins A.CallRow dx [("number", v_number), ("name", v_name), ("things", .ref n_things)]) → Q .non H'
theorem h_CallRow_init (T : Txt K mg A) : HasM P w K mg base 3 A.CallRow "__init__" ["self", "number", "name", "things"] (sp_CallRow_init K A) := by
  have D_Row_init := h_Row_init (P := P) (w := w) (base := base) T
  refine T.m_CallRow_init.has (k := 2) sc_CallRow_init (fun vs H Q E h => ?_) (fun f cdv A' outer s H vs Q E hr hu h => ?_)
  · obtain ⟨x, dx, v_number, v_name, t_things, l_things, rfl, _⟩ := h
    rfl
  · obtain ⟨x, dx, v_number, v_name, t_things, l_things, rfl, hx, s_things, q⟩ := h
    refine ⟨_, (pss_cons (ps_expr (pe_callOf T.o_Row T.of_Row_init D_Row_init hr (pa_cons (fv 0) (pa_cons (fv 1) pa_nil))))
    (pss_cons (ps_fld (fv 0) (fv 2) rfl)
    (pss_one (ps_fld (fv 0) (pe_callTy c_list rfl T.z_list (by boot_by_name) (pa_cons (fv 3) pa_nil)) rfl)))), ?_⟩
    have b0 : But x H H := But.refl x H
    refine ⟨x, A.CallRow, dx, [], v_number, rfl, hx, T.o_CallRow.cl, T.n_CallRow_number, by decide, ?_⟩
    generalize hg1 : upd H x _ = H1
    have b1 : But x H H1 := hg1 ▸ b0.trans (But.at x _ _)
    have i1 : H1 x = some (.ins A.CallRow dx [("number", v_number)]) := hg1 ▸ upd_same
    refine ⟨x, A.CallRow, dx, [("number", v_number)], rfl, i1, T.o_CallRow.cl, T.n_CallRow_name, by simp, ?_⟩
    generalize hg2 : upd H1 x _ = H2
    have b2 : But x H H2 := hg2 ▸ b1.trans (But.at x _ _)
    have i2 : H2 x = some (.ins A.CallRow dx [("number", v_number), ("name", v_name)]) := hg2 ▸ upd_same
    refine ⟨_, l_things, rfl, .inl (SqL.but s_things hx b2), fun n_things f_things => ?_⟩
    have e_things : n_things ≠ x := fun z => by rw [z] at f_things; exact absurd (f_things.symm.trans i2) (by intro z; cases z)
    have a_things : H n_things = none := b2.none e_things f_things
    generalize hg3 : upd H2 n_things (HO.lst l_things) = H3
    have b3 : But x H H3 := hg3 ▸ b2.trans (But.new f_things _)
    have i3 : H3 x = some (.ins A.CallRow dx [("number", v_number), ("name", v_name)]) := hg3 ▸ (upd_ne (Ne.symm e_things)).trans i2
    have k3_things : H3 n_things = some (.lst l_things) := hg3 ▸ upd_same
    refine ⟨x, A.CallRow, dx, [("number", v_number), ("name", v_name)], rfl, i3, T.o_CallRow.cl, T.n_CallRow_things, by simp, ?_⟩
    generalize hg4 : upd H3 x _ = H4
    have b4 : But x H H4 := hg4 ▸ b3.trans (But.at x _ _)
    have i4 : H4 x = some (.ins A.CallRow dx [("number", v_number), ("name", v_name), ("things", .ref n_things)]) := hg4 ▸ upd_same
    have k4_things : H4 n_things = some (.lst l_things) := hg4 ▸ (upd_ne e_things).trans k3_things
    exact q n_things H4 a_things b4 k4_things i4
theorem mk_CallRow {H : Hp} {x dx : Addr} {R : VK} {v_number v_name : V} {t_things : Addr} {l_things : List V} (s_things : SqL K H t_things l_things) (hx : H x = none) (hd : H dx = none) (q : ∀ (n_things : Addr) (H' : Hp), H n_things = none → Same H H' → H' n_things = some (.lst l_things) → H' x = some (.ins A.CallRow dx [("number", v_number), ("name", v_name), ("things", .ref n_things)]) → R .non H') : sp_CallRow_init K A (.ref x :: ([v_number, v_name, .ref t_things] ++ [])) (upd (upd H dx (.own x)) x (.ins A.CallRow dx [])) R E0 :=
  ⟨x, dx, _, _, _, _, rfl, upd_same, s_things.new hx hd, fun n_things H' f_things b g_things i => q n_things H' (new_none hx hd f_things) (b.same hx hd) g_things i⟩
def sp_DeedRow_init (K : PySem.W.Frag) (A : Adr) : Sp := fun vs H Q _ => ∃ (x dx : Addr) (v_number v_name : V) (t_parts : Addr) (l_parts : List V) (t_body : Addr) (l_body : List V), vs = [.ref x, v_number, v_name, .ref t_parts, .ref t_body] ∧ H x = some (.ins A.DeedRow dx []) ∧ SqL K H t_parts l_parts ∧ SqL K H t_body l_body ∧ ∀ (n_parts n_body : Addr) (H' : Hp), H n_parts = none → H n_body = none → n_parts ≠ n_body → But x H H' → H' n_parts = some (.lst l_parts) → H' n_body = some (.lst l_body) → H' x = some (.ins A.DeedRow dx [("number", v_number), ("name", v_name), ("parts", .ref n_parts), ("body", .ref n_body)]) → Q .non H'
theorem h_DeedRow_init (T : Txt K mg A) : HasM P w K mg base 3 A.DeedRow "__init__" ["self", "number", "name", "parts", "body"] (sp_DeedRow_init K A) := by
  have D_Row_init := h_Row_init (P := P) (w := w) (base := base) T
  refine T.m_DeedRow_init.has (k := 2) sc_DeedRow_init (fun vs H Q E h => ?_) (fun f cdv A' outer s H vs Q E hr hu h => ?_)
  · obtain ⟨x, dx, v_number, v_name, t_parts, l_parts, t_body, l_body, rfl, _⟩ := h
    rfl
  · obtain ⟨x, dx, v_number, v_name, t_parts, l_parts, t_body, l_body, rfl, hx, s_parts, s_body, q⟩ := h
    refine ⟨_, (pss_cons (ps_expr (pe_callOf T.o_Row T.of_Row_init D_Row_init hr (pa_cons (fv 0) (pa_cons (fv 1) pa_nil))))
    (pss_cons (ps_fld (fv 0) (fv 2) rfl)
    (pss_cons (ps_fld (fv 0) (pe_callTy c_list rfl T.z_list (by boot_by_name) (pa_cons (fv 3) pa_nil)) rfl)
    (pss_one (ps_fld (fv 0) (pe_callTy c_list rfl T.z_list (by boot_by_name) (pa_cons (fv 4) pa_nil)) rfl))))), ?_⟩
    have b0 : But x H H := But.refl x H
    refine ⟨x, A.DeedRow, dx, [], v_number, rfl, hx, T.o_DeedRow.cl, T.n_DeedRow_number, by decide, ?_⟩
    generalize hg1 : upd H x _ = H1
    have b1 : But x H H1 := hg1 ▸ b0.trans (But.at x _ _)
    have i1 : H1 x = some (.ins A.DeedRow dx [("number", v_number)]) := hg1 ▸ upd_same
    refine ⟨x, A.DeedRow, dx, [("number", v_number)], rfl, i1, T.o_DeedRow.cl, T.n_DeedRow_name, by simp, ?_⟩
    generalize hg2 : upd H1 x _ = H2
    have b2 : But x H H2 := hg2 ▸ b1.trans (But.at x _ _)
    have i2 : H2 x = some (.ins A.DeedRow dx [("number", v_number), ("name", v_name)]) := hg2 ▸ upd_same
    refine ⟨_, l_parts, rfl, .inl (SqL.but s_parts hx b2), fun n_parts f_parts => ?_⟩
    have e_parts : n_parts ≠ x := fun z => by rw [z] at f_parts; exact absurd (f_parts.symm.trans i2) (by intro z; cases z)
    have a_parts : H n_parts = none := b2.none e_parts f_parts
    generalize hg3 : upd H2 n_parts (HO.lst l_parts) = H3
    have b3 : But x H H3 := hg3 ▸ b2.trans (But.new f_parts _)
    have i3 : H3 x = some (.ins A.DeedRow dx [("number", v_number), ("name", v_name)]) := hg3 ▸ (upd_ne (Ne.symm e_parts)).trans i2
    have k3_parts : H3 n_parts = some (.lst l_parts) := hg3 ▸ upd_same
    refine ⟨x, A.DeedRow, dx, [("number", v_number), ("name", v_name)], rfl, i3, T.o_DeedRow.cl, T.n_DeedRow_parts, by simp, ?_⟩
    generalize hg4 : upd H3 x _ = H4
    have b4 : But x H H4 := hg4 ▸ b3.trans (But.at x _ _)
    have i4 : H4 x = some (.ins A.DeedRow dx [("number", v_number), ("name", v_name), ("parts", .ref n_parts)]) := hg4 ▸ upd_same
    have k4_parts : H4 n_parts = some (.lst l_parts) := hg4 ▸ (upd_ne e_parts).trans k3_parts
    refine ⟨_, l_body, rfl, .inl (SqL.but s_body hx b4), fun n_body f_body => ?_⟩
    have e_body : n_body ≠ x := fun z => by rw [z] at f_body; exact absurd (f_body.symm.trans i4) (by intro z; cases z)
    have a_body : H n_body = none := b4.none e_body f_body
    have d_parts_body : n_parts ≠ n_body := fun z => by have w := k4_parts; rw [z] at w; exact absurd (f_body.symm.trans w) (by intro w; cases w)
    generalize hg5 : upd H4 n_body (HO.lst l_body) = H5
    have b5 : But x H H5 := hg5 ▸ b4.trans (But.new f_body _)
    have i5 : H5 x = some (.ins A.DeedRow dx [("number", v_number), ("name", v_name), ("parts", .ref n_parts)]) := hg5 ▸ (upd_ne (Ne.symm e_body)).trans i4
    have k5_parts : H5 n_parts = some (.lst l_parts) := hg5 ▸ (upd_ne d_parts_body).trans k4_parts
    have k5_body : H5 n_body = some (.lst l_body) := hg5 ▸ upd_same
    refine ⟨x, A.DeedRow, dx, [("number", v_number), ("name", v_name), ("parts", .ref n_parts)], rfl, i5, T.o_DeedRow.cl, T.n_DeedRow_body, by simp, ?_⟩
    generalize hg6 : upd H5 x _ = H6
    have b6 : But x H H6 := hg6 ▸ b5.trans (But.at x _ _)
    have i6 : H6 x = some (.ins A.DeedRow dx [("number", v_number), ("name", v_name), ("parts", .ref n_parts), ("body", .ref n_body)]) := hg6 ▸ upd_same
    have k6_parts : H6 n_parts = some (.lst l_parts) := hg6 ▸ (upd_ne e_parts).trans k5_parts
    have k6_body : H6 n_body = some (.lst l_body) := hg6 ▸ (upd_ne e_body).trans k5_body
    exact q n_parts n_body H6 a_parts a_body d_parts_body b6 k6_parts k6_body i6
theorem mk_DeedRow {H : Hp} {x dx : Addr} {R : VK} {v_number v_name : V} {t_parts : Addr} {l_parts : List V} (s_parts : SqL K H t_parts l_parts) {t_body : Addr} {l_body : List V} (s_body : SqL K H t_body l_body) (hx : H x = none) (hd : H dx = none) (q : ∀ (n_parts n_body : Addr) (H' : Hp), H n_parts = none → H n_body = none → Same H H' → H' n_parts = some (.lst l_parts) → H' n_body = some (.lst l_body) → H' x = some (.ins A.DeedRow dx [("number", v_number), ("name", v_name), ("parts", .ref n_parts), ("body", .ref n_body)]) → R .non H') : sp_DeedRow_init K A (.ref x :: ([v_number, v_name, .ref t_parts, .ref t_body] ++ [])) (upd (upd H dx (.own x)) x (.ins A.DeedRow dx [])) R E0 :=
  ⟨x, dx, _, _, _, _, _, _, rfl, upd_same, s_parts.new hx hd, s_body.new hx hd, fun n_parts n_body H' f_parts f_body _ b g_parts g_body i => q n_parts n_body H' (new_none hx hd f_parts) (new_none hx hd f_body) (b.same hx hd) g_parts g_body i⟩
def sp_Program_init (K : PySem.W.Frag) (A : Adr) : Sp := fun vs H Q _ => ∃ (x dx : Addr) (t_heads : Addr) (l_heads : List V) (t_deeds : Addr) (l_deeds : List V) (t_main : Addr) (l_main : List V), vs = [.ref x, .ref t_heads, .ref t_deeds, .ref t_main] ∧ H x = some (.ins A.Program dx []) ∧ SqL K H t_heads l_heads ∧ SqL K H t_deeds l_deeds ∧ SqL K H t_main l_main ∧ ∀ (n_heads n_deeds n_main : Addr) (H' : Hp), H n_heads = none → H n_deeds = none → H n_main = none → n_heads ≠ n_deeds → n_heads ≠ n_main → n_deeds ≠ n_main → But x H H' → H' n_heads = some (.lst l_heads) → H' n_deeds = some (.lst l_deeds) → H' n_main = some (.lst l_main) → H' x = some (.ins A.Program dx [("heads", .ref n_heads), ("deeds", .ref n_deeds), ("main", .ref n_main)]) → Q .non H'
theorem h_Program_init (T : Txt K mg A) : HasM P w K mg base 3 A.Program "__init__" ["self", "heads", "deeds", "main"] (sp_Program_init K A) := by
  refine T.m_Program_init.has (k := 2) sc_Program_init (fun vs H Q E h => ?_) (fun f cdv A' outer s H vs Q E hr hu h => ?_)
  · obtain ⟨x, dx, t_heads, l_heads, t_deeds, l_deeds, t_main, l_main, rfl, _⟩ := h
    rfl
  · obtain ⟨x, dx, t_heads, l_heads, t_deeds, l_deeds, t_main, l_main, rfl, hx, s_heads, s_deeds, s_main, q⟩ := h
    refine ⟨_, (pss_cons (ps_fld (fv 0) (pe_callTy c_list rfl T.z_list (by boot_by_name) (pa_cons (fv 1) pa_nil)) rfl)
    (pss_cons (ps_fld (fv 0) (pe_callTy c_list rfl T.z_list (by boot_by_name) (pa_cons (fv 2) pa_nil)) rfl)
    (pss_one (ps_fld (fv 0) (pe_callTy c_list rfl T.z_list (by boot_by_name) (pa_cons (fv 3) pa_nil)) rfl)))), ?_⟩
    have b0 : But x H H := But.refl x H
    refine ⟨_, l_heads, rfl, .inl (SqL.but s_heads hx b0), fun n_heads f_heads => ?_⟩
    have e_heads : n_heads ≠ x := fun z => by rw [z] at f_heads; exact absurd (f_heads.symm.trans hx) (by intro z; cases z)
    have a_heads : H n_heads = none := b0.none e_heads f_heads
    generalize hg1 : upd H n_heads (HO.lst l_heads) = H1
    have b1 : But x H H1 := hg1 ▸ b0.trans (But.new f_heads _)
    have i1 : H1 x = some (.ins A.Program dx []) := hg1 ▸ (upd_ne (Ne.symm e_heads)).trans hx
    have k1_heads : H1 n_heads = some (.lst l_heads) := hg1 ▸ upd_same
    refine ⟨x, A.Program, dx, [], rfl, i1, T.o_Program.cl, T.n_Program_heads, by simp, ?_⟩
    generalize hg2 : upd H1 x _ = H2
    have b2 : But x H H2 := hg2 ▸ b1.trans (But.at x _ _)
    have i2 : H2 x = some (.ins A.Program dx [("heads", .ref n_heads)]) := hg2 ▸ upd_same
    have k2_heads : H2 n_heads = some (.lst l_heads) := hg2 ▸ (upd_ne e_heads).trans k1_heads
    refine ⟨_, l_deeds, rfl, .inl (SqL.but s_deeds hx b2), fun n_deeds f_deeds => ?_⟩
    have e_deeds : n_deeds ≠ x := fun z => by rw [z] at f_deeds; exact absurd (f_deeds.symm.trans i2) (by intro z; cases z)
    have a_deeds : H n_deeds = none := b2.none e_deeds f_deeds
    have d_heads_deeds : n_heads ≠ n_deeds := fun z => by have w := k2_heads; rw [z] at w; exact absurd (f_deeds.symm.trans w) (by intro w; cases w)
    generalize hg3 : upd H2 n_deeds (HO.lst l_deeds) = H3
    have b3 : But x H H3 := hg3 ▸ b2.trans (But.new f_deeds _)
    have i3 : H3 x = some (.ins A.Program dx [("heads", .ref n_heads)]) := hg3 ▸ (upd_ne (Ne.symm e_deeds)).trans i2
    have k3_heads : H3 n_heads = some (.lst l_heads) := hg3 ▸ (upd_ne d_heads_deeds).trans k2_heads
    have k3_deeds : H3 n_deeds = some (.lst l_deeds) := hg3 ▸ upd_same
    refine ⟨x, A.Program, dx, [("heads", .ref n_heads)], rfl, i3, T.o_Program.cl, T.n_Program_deeds, by simp, ?_⟩
    generalize hg4 : upd H3 x _ = H4
    have b4 : But x H H4 := hg4 ▸ b3.trans (But.at x _ _)
    have i4 : H4 x = some (.ins A.Program dx [("heads", .ref n_heads), ("deeds", .ref n_deeds)]) := hg4 ▸ upd_same
    have k4_heads : H4 n_heads = some (.lst l_heads) := hg4 ▸ (upd_ne e_heads).trans k3_heads
    have k4_deeds : H4 n_deeds = some (.lst l_deeds) := hg4 ▸ (upd_ne e_deeds).trans k3_deeds
    refine ⟨_, l_main, rfl, .inl (SqL.but s_main hx b4), fun n_main f_main => ?_⟩
    have e_main : n_main ≠ x := fun z => by rw [z] at f_main; exact absurd (f_main.symm.trans i4) (by intro z; cases z)
    have a_main : H n_main = none := b4.none e_main f_main
    have d_heads_main : n_heads ≠ n_main := fun z => by have w := k4_heads; rw [z] at w; exact absurd (f_main.symm.trans w) (by intro w; cases w)
    have d_deeds_main : n_deeds ≠ n_main := fun z => by have w := k4_deeds; rw [z] at w; exact absurd (f_main.symm.trans w) (by intro w; cases w)
    generalize hg5 : upd H4 n_main (HO.lst l_main) = H5
    have b5 : But x H H5 := hg5 ▸ b4.trans (But.new f_main _)
    have i5 : H5 x = some (.ins A.Program dx [("heads", .ref n_heads), ("deeds", .ref n_deeds)]) := hg5 ▸ (upd_ne (Ne.symm e_main)).trans i4
    have k5_heads : H5 n_heads = some (.lst l_heads) := hg5 ▸ (upd_ne d_heads_main).trans k4_heads
    have k5_deeds : H5 n_deeds = some (.lst l_deeds) := hg5 ▸ (upd_ne d_deeds_main).trans k4_deeds
    have k5_main : H5 n_main = some (.lst l_main) := hg5 ▸ upd_same
    refine ⟨x, A.Program, dx, [("heads", .ref n_heads), ("deeds", .ref n_deeds)], rfl, i5, T.o_Program.cl, T.n_Program_main, by simp, ?_⟩
    generalize hg6 : upd H5 x _ = H6
    have b6 : But x H H6 := hg6 ▸ b5.trans (But.at x _ _)
    have i6 : H6 x = some (.ins A.Program dx [("heads", .ref n_heads), ("deeds", .ref n_deeds), ("main", .ref n_main)]) := hg6 ▸ upd_same
    have k6_heads : H6 n_heads = some (.lst l_heads) := hg6 ▸ (upd_ne e_heads).trans k5_heads
    have k6_deeds : H6 n_deeds = some (.lst l_deeds) := hg6 ▸ (upd_ne e_deeds).trans k5_deeds
    have k6_main : H6 n_main = some (.lst l_main) := hg6 ▸ (upd_ne e_main).trans k5_main
    exact q n_heads n_deeds n_main H6 a_heads a_deeds a_main d_heads_deeds d_heads_main d_deeds_main b6 k6_heads k6_deeds k6_main i6
theorem mk_Program {H : Hp} {x dx : Addr} {R : VK} {t_heads : Addr} {l_heads : List V} (s_heads : SqL K H t_heads l_heads) {t_deeds : Addr} {l_deeds : List V} (s_deeds : SqL K H t_deeds l_deeds) {t_main : Addr} {l_main : List V} (s_main : SqL K H t_main l_main) (hx : H x = none) (hd : H dx = none) (q : ∀ (n_heads n_deeds n_main : Addr) (H' : Hp), H n_heads = none → H n_deeds = none → H n_main = none → Same H H' → H' n_heads = some (.lst l_heads) → H' n_deeds = some (.lst l_deeds) → H' n_main = some (.lst l_main) → H' x = some (.ins A.Program dx [("heads", .ref n_heads), ("deeds", .ref n_deeds), ("main", .ref n_main)]) → R .non H') : sp_Program_init K A (.ref x :: ([.ref t_heads, .ref t_deeds, .ref t_main] ++ [])) (upd (upd H dx (.own x)) x (.ins A.Program dx [])) R E0 :=
  ⟨x, dx, _, _, _, _, _, _, rfl, upd_same, s_heads.new hx hd, s_deeds.new hx hd, s_main.new hx hd, fun n_heads n_deeds n_main H' f_heads f_deeds f_main _ _ _ b g_heads g_deeds g_main i => q n_heads n_deeds n_main H' (new_none hx hd f_heads) (new_none hx hd f_deeds) (new_none hx hd f_main) (b.same hx hd) g_heads g_deeds g_main i⟩
end
end K26

set_option Elab.async false
set_option linter.all false
set_option maxRecDepth 100000
set_option maxHeartbeats 4000000
namespace K26
open PySem L2
section
variable {P : Program} {w : World} {K : PySem.W.Frag} {mg : Str → Option Value} {base : Heap} {A : Adr}
def rkn (a b : Int) (x : Str) : Int :=
  if decide (V.str x = V.str "+") = true then (a + b) % 1000000000000
  else if decide (V.str x = V.str "-") = true then (a - b) % 1000000000000
  else if decide (V.str x = V.str "*") = true then (a * b) % 1000000000000
  else if decide (V.str x = V.str "over") = true then (if decide (V.int b = V.int 0) = true then 0 else a / b)
  else if decide (V.str x = V.str "rest") = true then (if decide (V.int b = V.int 0) = true then a else a % b)
  else if decide (V.str x = V.str "<") = true then (if decide (a < b) = true then 1 else 0)
  else (if decide (V.int a = V.int b) = true then 1 else 0)
def In (n : Int) : Prop := 0 ≤ n ∧ n < 1000000000000
theorem rkn_in {a b : Int} (ha : In a) (hb : In b) (x : Str) : In (rkn a b x) := by
  have md : ∀ z : Int, In (z % 1000000000000) := fun z => mod_in z (by decide)
  have t1 : In 1 := ⟨by decide, by decide⟩
  have t0 : In 0 := ⟨by decide, by decide⟩
  unfold rkn
  split
  · exact md _
  split
  · exact md _
  split
  · exact md _
  split
  · split
    · exact t0
    · rename_i h
      rw [vint, decide_eq_true_iff] at h
      have hp : 0 < b := by have := hb.1; omega
      refine ⟨Int.ediv_nonneg ha.1 hb.1, Int.lt_of_le_of_lt (Int.ediv_le_self b ha.1) ha.2⟩
  split
  · split
    · exact ha
    · rename_i h
      rw [vint, decide_eq_true_iff] at h
      have hp : 0 < b := by have := hb.1; omega
      have := mod_in a hp
      exact ⟨this.1, Int.lt_trans this.2 hb.2⟩
  split
  · split
    · exact t1
    · exact t0
  · split
    · exact t1
    · exact t0
theorem rkn_add (a b : Int) : rkn a b "+" = (a + b) % 1000000000000 := if_pos rfl
theorem rkn_mul (a b : Int) : rkn a b "*" = (a * b) % 1000000000000 := by
  unfold rkn
  rw [if_neg (by decide), if_neg (by decide), if_pos (by decide)]
theorem seq_cut {t u : TS} {D : Ends} {σ : St} {H : Hp} (h : ∀ N : St → Hp → Prop, (∀ σ H, u D σ H → N σ H) → t { D with nx := N } σ H) : tSeq t u D σ H := h (u D) fun _ _ z => z
def Dist (N : Nat → Str) : Prop := ∀ i j, i < 64 → j < 64 → N i = N j → i = j
def dk (N : Nat → Str) (idx : List Nat) (f : Nat → V) : List (Key × V) := idx.map fun i => (Sum.inr (N i), f i)
variable {N : Nat → Str}
theorem key_ne (D : Dist N) {i j : Nat} (hi : i < 64) (hj : j < 64) (h : i ≠ j) : (Sum.inr (N i) : Key) ≠ Sum.inr (N j) := fun e => h (D i j hi hj (Sum.inr.inj e))
theorem dk_get (D : Dist N) {f : Nat → V} {i : Nat} : ∀ {idx : List Nat}, (∀ j ∈ idx, j < 64) → i ∈ idx → L2.valV (dk N idx f) (.inr (N i)) = some (f i)
  | j :: r, hb, m => by
    by_cases e : j = i
    · subst e
      unfold L2.valV dk
      rw [List.map_cons, List.find?_cons]
      simp
    · have hj := hb j List.mem_cons_self
      have m' : i ∈ r := by
        rcases List.mem_cons.mp m with z | z
        · exact absurd z.symm e
        · exact z
      have hi := hb i m
      have ih := dk_get D (f := f) (i := i) (idx := r) (fun k hk => hb k (List.mem_cons_of_mem _ hk)) m'
      unfold L2.valV dk at ih ⊢
      rw [List.map_cons, List.find?_cons, decide_eq_false (key_ne D hj hi e)]
      exact ih
theorem dk_any (D : Dist N) {f : Nat → V} {i : Nat} (hi : i < 64) {idx : List Nat} (hb : ∀ j ∈ idx, j < 64) : ((dk N idx f).any fun kv => decide (kv.1 = (Sum.inr (N i) : Key))) = decide (i ∈ idx) := by
  unfold dk
  rw [List.any_map]
  by_cases m : i ∈ idx
  · rw [decide_eq_true m, List.any_eq_true]
    exact ⟨i, m, decide_eq_true rfl⟩
  · rw [decide_eq_false m, List.any_eq_false]
    intro j hj
    show ¬ decide ((Sum.inr (N j) : Key) = Sum.inr (N i)) = true
    rw [decide_eq_false (key_ne D (hb j hj) hi (fun z => m (z ▸ hj)))]
    exact Bool.false_ne_true
theorem dk_congr {f g : Nat → V} {idx : List Nat} (h : ∀ i ∈ idx, f i = g i) : dk N idx f = dk N idx g := List.map_congr_left fun i hi => by rw [h i hi]
def updF (f : Nat → V) (i : Nat) (v : V) : Nat → V := fun j => if j = i then v else f j
theorem updF_same (f : Nat → V) (i : Nat) (v : V) : updF f i v i = v := if_pos rfl
theorem updF_ne (f : Nat → V) {i j : Nat} (v : V) (h : j ≠ i) : updF f i v j = f j := if_neg h
theorem dk_put (D : Dist N) {f : Nat → V} {i : Nat} {v : V} {idx : List Nat} (hb : ∀ j ∈ idx, j < 64) (m : i ∈ idx) : putK (dk N idx f) (.inr (N i)) v = dk N idx (updF f i v) := by
  unfold putK
  rw [dk_any D (hb i m) hb, decide_eq_true m, if_pos rfl]
  unfold dk
  rw [List.map_map]
  refine List.map_congr_left fun j hj => ?_
  show (if (Sum.inr (N j) : Key) = Sum.inr (N i) then ((Sum.inr (N j) : Key), v) else (Sum.inr (N j), f j)) = (Sum.inr (N j), updF f i v j)
  by_cases e : j = i
  · rw [e, if_pos rfl, updF_same]
  · rw [if_neg (key_ne D (hb j hj) (hb i m) e), updF_ne _ _ e]
theorem dk_new (D : Dist N) {f : Nat → V} {i : Nat} {v : V} {idx : List Nat} (hi : i < 64) (hb : ∀ j ∈ idx, j < 64) (m : i ∉ idx) : putK (dk N idx f) (.inr (N i)) v = dk N (idx ++ [i]) (updF f i v) := by
  unfold putK
  rw [dk_any D hi hb, decide_eq_false m, if_neg Bool.false_ne_true]
  unfold dk
  rw [List.map_append, List.map_cons, List.map_nil, updF_same]
  congr 1
  refine List.map_congr_left fun j hj => ?_
  rw [updF_ne _ _ (fun z => m (by rw [← z]; exact hj))]
theorem dk_merge (D : Dist N) {f : Nat → V} : ∀ (idx pre : List Nat), (∀ j ∈ pre ++ idx, j < 64) → (pre ++ idx).Nodup → mergeK (dk N pre f) (dk N idx f) = dk N (pre ++ idx) f
  | [], pre, _, _ => by rw [List.append_nil]; rfl
  | i :: r, pre, hb, nd => by
    have e : pre ++ i :: r = (pre ++ [i]) ++ r := by simp
    have m : i ∉ pre := fun z => by
      have := (List.nodup_append.mp nd).2.2 i z i List.mem_cons_self
      exact this rfl
    have hi : i < 64 := hb i (by simp)
    show mergeK (putK (dk N pre f) (.inr (N i)) (f i)) (dk N r f) = _
    rw [dk_new D hi (fun j hj => hb j (List.mem_append_left _ hj)) m]
    have c : dk N (pre ++ [i]) (updF f i (f i)) = dk N (pre ++ [i]) f := dk_congr fun j _ => by
      by_cases z : j = i
      · rw [z, updF_same]
      · rw [updF_ne _ _ z]
    rw [c, e]
    exact dk_merge D r (pre ++ [i]) (by rw [← e]; exact hb) (by rw [← e]; exact nd)
structure S where
  num : Nat → Int
  steps : Int
  trace : List (List V)
  letters : List (List V)
def S.ok (s : S) : Prop := ∀ a, In (s.num a)
inductive Th where
  | i (n : Int) | x (a : Nat)
def Th.v (N : Nat → Str) : Th → V
  | .i n => .int n
  | .x a => .str (N a)
def Th.num (s : S) : Th → Int
  | .i n => n
  | .x a => s.num a
def Th.ok (idx : List Nat) : Th → Prop
  | .i n => In n
  | .x a => a ∈ idx
inductive Val where
  | one (a : Th) | op (a : Th) (w : Str) (b : Th)
def vV (N : Nat → Str) : Val → List V
  | .one a => [a.v N]
  | .op a w b => [a.v N, .str w, b.v N]
def Val.ok (idx : List Nat) : Val → Prop
  | .one a => a.ok idx
  | .op a w b => a.ok idx ∧ b.ok idx ∧ (w = "+" ∨ w = "*")
def Val.num (s : S) : Val → Int
  | .one a => a.num s
  | .op a w b => rkn (a.num s) (b.num s) w
theorem Th.num_in {idx : List Nat} {s : S} (hs : s.ok) {t : Th} (h : t.ok idx) : In (t.num s) := by
  cases t with
  | i n => exact h
  | x a => exact hs a
theorem Val.num_in {idx : List Nat} {s : S} (hs : s.ok) {v : Val} (h : v.ok idx) : In (v.num s) := by
  cases v with
  | one a => exact Th.num_in hs h
  | op a w b => exact rkn_in (Th.num_in hs h.1) (Th.num_in hs h.2.1) w
inductive Rw where
  | set (n : Int) (x : Nat) (v : Val)
  | snd (n : Int) (h : Str) (v : Val)
  | call (n : Int) (d : Nat) (ts : List Th)
structure Dd where
  parts : List Nat
  body : List Rw
def S.tell (s : S) (n : Int) (v : V) : S := { s with steps := s.steps + 1, trace := s.trace ++ [[.int n, .int (s.steps + 1), v]] }
def S.send (s : S) (n : Int) (h : Str) (v : Int) : S := { s.tell n (.int v) with letters := s.letters ++ [[.int (s.steps + 1), .int n, .str h, .int v]] }
def S.put (s : S) (x : Nat) (v : Int) : S := { s with num := fun a => if a = x then v else s.num a }
def S.puts (s : S) (xs : List (Nat × Int)) : S := xs.foldl (fun s p => s.put p.1 p.2) s
def leaf (ds : List Dd) : Nat → S → Rw → S
  | _, s, .set n x v => (s.tell n .non).put x (v.num s)
  | _, s, .snd n h v => s.send n h (v.num s)
  | 0, s, .call n _ _ => s.tell n .non
  | f + 1, s, .call n d ts => match ds[d]? with
    | some D => D.body.foldl (leaf ds f) ((s.tell n .non).puts (D.parts.zip (ts.map (Th.num s))))
    | none => s.tell n .non
def rowsBy (ds : List Dd) (f : Nat) (s : S) (xs : List Rw) : S := xs.foldl (leaf ds f) s
def cost (ds : List Dd) : Nat → Rw → Nat
  | f + 1, .call _ d _ => match ds[d]? with
    | some D => 1 + (D.body.map (cost ds f)).sum
    | none => 1
  | _, _ => 1
def S.room (s : S) (n : Nat) : Prop := s.trace.length + n ≤ 1000 ∧ s.letters.length + n ≤ 1000
theorem S.room.le {s : S} {j k : Nat} (h : s.room k) (hj : j ≤ k) : s.room j := ⟨by have := h.1; omega, by have := h.2; omega⟩
theorem room_tell {s : S} {n : Nat} (h : s.room (1 + n)) (m : Int) (v : V) : (s.tell m v).room n := ⟨by have := h.1; simp [S.tell]; omega, by have := h.2; simp [S.tell]; omega⟩
theorem puts_room {s : S} {n : Nat} (h : s.room n) : ∀ xs : List (Nat × Int), (s.puts xs).room n := fun xs => by
  induction xs generalizing s with
  | nil => exact h
  | cons p r ih => exact ih (s := s.put p.1 p.2) ⟨h.1, h.2⟩
theorem room_fold {ds : List Dd} {f : Nat} (one : ∀ (s : S) (r : Rw) (n : Nat), s.room (cost ds f r + n) → (leaf ds f s r).room n) : ∀ (xs : List Rw) (s : S) (n : Nat), s.room ((xs.map (cost ds f)).sum + n) → (xs.foldl (leaf ds f) s).room n
  | [], s, n, h => by simpa using h
  | r :: xs, s, n, h => by
    rw [List.foldl_cons]
    refine room_fold one xs _ n (one s r _ ?_)
    rw [List.map_cons, List.sum_cons, Nat.add_assoc] at h
    exact h
theorem room_leaf (ds : List Dd) : ∀ (f : Nat) (s : S) (r : Rw) (n : Nat), s.room (cost ds f r + n) → (leaf ds f s r).room n := by
  have base : ∀ (f : Nat) (s : S) (n : Nat) (m : Int) (x : Nat) (v : Val), s.room (1 + n) → (leaf ds f s (.set m x v)).room n := fun f s n m x v h => by
    cases f <;> exact room_tell h m .non
  have base2 : ∀ (f : Nat) (s : S) (n : Nat) (m : Int) (x : Str) (v : Val), s.room (1 + n) → (leaf ds f s (.snd m x v)).room n := fun f s n m x v h => by
    cases f <;> exact ⟨by have := h.1; simp [leaf, S.send, S.tell]; omega, by have := h.2; simp [leaf, S.send, S.tell]; omega⟩
  intro f
  induction f with
  | zero =>
    intro s r n h
    cases r with
    | set m x v => exact base _ _ _ _ _ _ h
    | snd m x v => exact base2 _ _ _ _ _ _ h
    | call m d ts => exact room_tell h m .non
  | succ f ih =>
    intro s r n h
    cases r with
    | set m x v => exact base _ _ _ _ _ _ h
    | snd m x v => exact base2 _ _ _ _ _ _ h
    | call m d ts =>
      unfold leaf
      unfold cost at h
      cases e : ds[d]? with
      | none => rw [e] at h; exact room_tell h m .non
      | some D =>
        rw [e] at h
        refine room_fold ih D.body _ n (puts_room (room_tell ?_ m .non) _)
        rw [← Nat.add_assoc]
        exact h
theorem S.ok.tell {s : S} (h : s.ok) (n : Int) (v : V) : (s.tell n v).ok := h
theorem S.ok.send {s : S} (h : s.ok) (n : Int) (x : Str) (v : Int) : (s.send n x v).ok := h
theorem S.ok.put {s : S} (h : s.ok) (x : Nat) {v : Int} (hv : In v) : (s.put x v).ok := fun a => by
  show In (if a = x then v else s.num a)
  split
  · exact hv
  · exact h a
abbrev cls (A : Adr) : List Addr := [A.Book, A.Row, A.HandRow, A.GivenRow, A.OwnRow, A.SetRow, A.PutRow, A.SendRow, A.SayRow, A.CallRow, A.LastRow, A.IfRow, A.LoopRow, A.DeedRow, A.Program, A.Run]
theorem cls_ne (T : Txt K mg A) (i j : Nat) (hi : i < 16 := by decide) (hj : j < 16 := by decide) (h : i ≠ j := by decide) : (cls A)[i]'hi ≠ (cls A)[j]'hj := fun e => h ((List.getElem_inj T.nd).mp e)
theorem kitT {C : Addr} {x : Str} {up : List Addr} (O : OwnC K mg C x up) (hs : C ∈ up := by exact List.mem_cons_self) : PySem.W.kitOne K (.ref C) (.ref C) = some true := by
  rw [O.kit O hs, decide_eq_true hs]
theorem kitF {C D R : Addr} {x y : Str} {vp : List Addr} (O : OwnC K mg C x [C, R]) (U : OwnC K mg D y vp) (h1 : D ≠ C) (h2 : D ≠ R) : PySem.W.kitOne K (.ref C) (.ref D) = some false := by
  rw [O.kit U List.mem_cons_self, decide_eq_false]
  intro m
  rcases List.mem_cons.mp m with e | m
  · exact h1 e
  · rcases List.mem_cons.mp m with e | m
    · exact h2 e
    · cases m
def RowAt (A : Adr) (N : Nat → Str) (idx : List Nat) (H : Hp) (v : V) : Rw → Prop
  | .set n x val => val.ok idx ∧ x ∈ idx ∧ ∃ a dx p, v = .ref a ∧ H a = some (.ins A.SetRow dx [("number", .int n), ("name", .str (N x)), ("value", .ref p)]) ∧ H p = some (.tup (vV N val))
  | .snd n h val => val.ok idx ∧ ∃ a dx p, v = .ref a ∧ H a = some (.ins A.SendRow dx [("number", .int n), ("name", .str h), ("value", .ref p)]) ∧ H p = some (.tup (vV N val))
  | .call n d ts => (∀ t ∈ ts, t.ok idx) ∧ ts.length ≤ 4 ∧ ∃ a dx p, v = .ref a ∧ H a = some (.ins A.CallRow dx [("number", .int n), ("name", .str (N (3 + d))), ("things", .ref p)]) ∧ H p = some (.lst (ts.map (Th.v N)))
theorem RowAt.same {idx : List Nat} {H H' : Hp} (s : Same H H') {v : V} : ∀ {r : Rw}, RowAt A N idx H v r → RowAt A N idx H' v r
  | .set _ _ _, ⟨o, x, a, dx, p, e, h1, h2⟩ => ⟨o, x, a, dx, p, e, s _ _ h1, s _ _ h2⟩
  | .snd _ _ _, ⟨o, a, dx, p, e, h1, h2⟩ => ⟨o, a, dx, p, e, s _ _ h1, s _ _ h2⟩
  | .call _ _ _, ⟨o, l, a, dx, p, e, h1, h2⟩ => ⟨o, l, a, dx, p, e, s _ _ h1, s _ _ h2⟩
def DeedAt (A : Adr) (N : Nat → Str) (idx : List Nat) (H : Hp) (v : V) (d : Nat) (D : Dd) : Prop :=
  ∃ a dx pp pb n xs, v = .ref a ∧ H a = some (.ins A.DeedRow dx [("number", .int n), ("name", .str (N (3 + d))), ("parts", .ref pp), ("body", .ref pb)]) ∧ H pp = some (.lst (D.parts.map fun i => V.str (N i))) ∧ H pb = some (.lst xs) ∧ PySem.Paired (RowAt A N idx H) xs D.body
theorem DeedAt.same {idx : List Nat} {H H' : Hp} (s : Same H H') {v : V} {d : Nat} {D : Dd} : DeedAt A N idx H v d D → DeedAt A N idx H' v d D
  | ⟨a, dx, pp, pb, n, xs, e, h1, h2, h3, h4⟩ => ⟨a, dx, pp, pb, n, xs, e, s _ _ h1, s _ _ h2, s _ _ h3, Paired.mapP h4 fun _ _ => RowAt.same s⟩
end
end K26

set_option Elab.async false
set_option linter.all false
set_option maxRecDepth 100000
set_option maxHeartbeats 4000000
namespace K26
open PySem L2
section
variable {P : Program} {w : World} {K : PySem.W.Frag} {mg : Str → Option Value} {base : Heap} {A : Adr} {N : Nat → Str}
theorem Same.out {H0 H : Hp} (s : Same H0 H) {x : Addr} (h : H0 x = none) (u : HO) : Same H0 (upd H x u) := fun a o q => by
  rw [upd_ne (ne_of_none q h)]
  exact s a o q
def Tups (H : Hp) (xs : List V) (ws : List (List V)) : Prop := PySem.Paired (fun v w => ∃ p, v = V.ref p ∧ H p = some (.tup w)) xs ws
def Stay (H H' : Hp) : Prop := ∀ p w, H p = some (.tup w) → H' p = some (.tup w)
theorem Tups.stay {H H' : Hp} (s : Stay H H') {xs : List V} {ws : List (List V)} (h : Tups H xs ws) : Tups H' xs ws := Paired.mapP h fun _ _ ⟨p, e, q⟩ => ⟨p, e, s p _ q⟩
theorem Same.stay {H H' : Hp} (s : Same H H') : Stay H H' := fun p w h => s p _ h
theorem Stay.trans {H H1 H2 : Hp} (a : Stay H H1) (b : Stay H1 H2) : Stay H H2 := fun p w h => b p w (a p w h)
theorem Stay.at {H : Hp} {a : Addr} {o u : HO} (h : H a = some o) (n : ∀ w, o ≠ .tup w) : Stay H (upd H a u) := fun p w q => by
  rw [upd_ne (fun z => by rw [z, h] at q; exact n w (Option.some.inj q))]
  exact q
theorem Tups.len {H : Hp} {xs : List V} {ws : List (List V)} (h : Tups H xs ws) : xs.length = ws.length := Paired.length h
theorem paired_get {α β : Type} {F : α → β → Prop} : ∀ {l₁ : List α} {l₂ : List β} {i : Nat} {a : α}, PySem.Paired F l₁ l₂ → l₁[i]? = some a → ∃ b, l₂[i]? = some b ∧ F a b
  | _, _, _, _, .nil, e => by simp at e
  | _, _, 0, _, .cons r _, e => by simp at e; subst e; exact ⟨_, rfl, r⟩
  | _, _, i + 1, _, .cons _ t, e => by
    obtain ⟨b, h1, h2⟩ := paired_get (i := i) t (by simpa using e)
    exact ⟨b, by simpa using h1, h2⟩
theorem drop_at {α : Type} {xs : List α} {i : Nat} {x : α} (h : xs[i]? = some x) : xs.drop i = x :: xs.drop (i + 1) := by
  obtain ⟨hi, e⟩ := List.getElem?_eq_some_iff.mp h
  rw [List.drop_eq_getElem_cons hi, e]
theorem Same.but {H0 H H' : Hp} {b : Addr} (s : Same H0 H) (h : H0 b = none) (t : But b H H') : Same H0 H' := fun a o q => t a (fun z => by rw [z, h] at q; cases q) o (s a o q)
def sp_reckon : Sp := fun vs H Q _ => ∃ (a b : Int) (x : Str), vs = [.int a, .str x, .int b] ∧ 0 ≤ a ∧ a < 1000000000000 ∧ 0 ≤ b ∧ b < 1000000000000 ∧ Q (.int (rkn a b x)) H
theorem h_reckon (T : Txt K mg A) : Has P w K mg base 1 "reckon" ["one", "word", "other"] sp_reckon := by
  refine T.reckon.has sc_reckon (fun vs H Q E h => ?_) (fun f cdv A outer s H vs Q E hr hu h => ?_)
  · obtain ⟨a, b, x, rfl, _⟩ := h
    rfl
  · obtain ⟨a, b, x, rfl, a0, a1, b0, b1, q⟩ := h
    refine ⟨_, (pss_cons (ps_if (pt_cmpR (o_eqU hu) (fv 1) (pe_str) (nomark _))
      (pss_one (ps_ret (pe_op o_mod (pe_op o_add (fv 0) (fv 2)) (pe_gint T.c_ROUND))))
      pss_nil)
    (pss_cons (ps_if (pt_cmpR (o_eqU hu) (fv 1) (pe_str) (nomark _))
      (pss_one (ps_ret (pe_op o_mod (pe_op o_sub (fv 0) (fv 2)) (pe_gint T.c_ROUND))))
      pss_nil)
    (pss_cons (ps_if (pt_cmpR (o_eqU hu) (fv 1) (pe_str) (nomark _))
      (pss_one (ps_ret (pe_op o_mod (pe_op o_mulA (fv 0) (fv 2)) (pe_gint T.c_ROUND))))
      pss_nil)
    (pss_cons (ps_if (pt_cmpR (o_eqU hu) (fv 1) (pe_str) (nomark _))
      (pss_one (ps_ret (pe_ifExp (pt_cmpR (o_eqU hu) (fv 2) (pe_int) (nomark _)) (pe_int) (pe_op o_fdiv (fv 0) (fv 2)))))
      pss_nil)
    (pss_cons (ps_if (pt_cmpR (o_eqU hu) (fv 1) (pe_str) (nomark _))
      (pss_one (ps_ret (pe_ifExp (pt_cmpR (o_eqU hu) (fv 2) (pe_int) (nomark _)) (fv 0) (pe_op o_mod (fv 0) (fv 2)))))
      pss_nil)
    (pss_cons (ps_if (pt_cmpR (o_eqU hu) (fv 1) (pe_str) (nomark _))
      (pss_one (ps_ret (pe_ifExp (pt_cmpR (o_lt) (fv 0) (fv 2) (nomark _)) (pe_int) (pe_int))))
      pss_nil)
    (pss_one (ps_ret (pe_ifExp (pt_cmpR (o_eqU hu) (fv 0) (fv 2) (nomark _)) (pe_int) (pe_int)))))))))), ?_⟩
    unfold rkn at q
    refine ⟨rfl, _, rfl, ite2 (fun c => ?_) (fun c => ?_)⟩
    · rw [if_pos c] at q
      exact ⟨(by show (0 : Int) < 1000000000000; decide), q⟩
    rw [if_neg c] at q
    refine ⟨rfl, _, rfl, ite2 (fun c => ?_) (fun c => ?_)⟩
    · rw [if_pos c] at q
      exact ⟨(by show (0 : Int) < 1000000000000; decide), q⟩
    rw [if_neg c] at q
    refine ⟨rfl, _, rfl, ite2 (fun c => ?_) (fun c => ?_)⟩
    · rw [if_pos c] at q
      exact ⟨.inl ⟨by omega, by omega⟩, (by show (0 : Int) < 1000000000000; decide), q⟩
    rw [if_neg c] at q
    refine ⟨rfl, _, rfl, ite2 (fun c => ?_) (fun c => ?_)⟩
    · rw [if_pos c] at q
      refine ⟨rfl, _, rfl, ite2 (fun d => ?_) (fun d => ?_)⟩
      · rw [if_pos d] at q
        exact q
      · rw [if_neg d] at q
        have hb : b ≠ 0 := fun z => d (by rw [z]; rfl)
        exact ⟨⟨by omega, by omega⟩, q⟩
    rw [if_neg c] at q
    refine ⟨rfl, _, rfl, ite2 (fun c => ?_) (fun c => ?_)⟩
    · rw [if_pos c] at q
      refine ⟨rfl, _, rfl, ite2 (fun d => ?_) (fun d => ?_)⟩
      · rw [if_pos d] at q
        exact q
      · rw [if_neg d] at q
        have hb : b ≠ 0 := fun z => d (by rw [z]; rfl)
        exact ⟨by omega, q⟩
    rw [if_neg c] at q
    refine ⟨rfl, _, rfl, ite2 (fun c => ?_) (fun c => ?_)⟩
    · rw [if_pos c] at q
      refine ⟨_, rfl, ite2 (fun d => ?_) (fun d => ?_)⟩
      · rw [if_pos d] at q
        exact q
      · rw [if_neg d] at q
        exact q
    rw [if_neg c] at q
    refine ⟨rfl, _, rfl, ite2 (fun d => ?_) (fun d => ?_)⟩
    · rw [if_pos d] at q
      exact q
    · rw [if_neg d] at q
      exact q
def sp_isnum : Sp := fun vs H Q _ => ∃ a : Int, vs = [.int a] ∧ In a ∧ Q (.bl true) H
theorem h_isnum (T : Txt K mg A) : Has P w K mg base 1 "is_number" ["thing"] sp_isnum := by
  refine T.is_number.has sc_is_number (fun vs H Q E h => ?_) (fun f cdv A outer s H vs Q E hr hu h => ?_)
  · obtain ⟨a, rfl, _⟩ := h
    rfl
  · obtain ⟨a, rfl, ha, q⟩ := h
    refine ⟨_, (pss_cons (ps_if (PW.pt (pw_or (pt_tru (pe_callB c_isinst rfl T.z_isinstance (by boot_by_name) (pa_cons (fv 0) (pa_cons (pe_bltn (v := .ty "bool") rfl T.z_bool (by boot_by_name) rfl) pa_nil))) (fun _ => rfl)) (pw_or1 (pt_not (pt_tru (pe_callB c_isinst rfl T.z_isinstance (by boot_by_name) (pa_cons (fv 0) (pa_cons (pe_bltn (v := .ty "int") rfl T.z_int (by boot_by_name) rfl) pa_nil))) (fun _ => rfl))))))
      (pss_one (ps_ret (pe_bl)))
      pss_nil)
    (pss_one (ps_ret (pe_chain (o_le) (o_le) (pe_int) (fv 0) (pe_gint T.c_MOST_NUMBER))))), ?_⟩
    refine ⟨_, _, _, false, rfl, (fun z => by cases z), .int a, kit_ib, false, rfl, iteF ?_⟩
    refine ⟨_, _, _, true, rfl, (fun z => by cases z), .int a, kit_ii, true, rfl, iteF ?_⟩
    refine ⟨_, rfl, ite2 (fun c => ?_) (fun c => absurd (decide_eq_true ha.1) c)⟩
    have e : decide (a ≤ 999999999999) = true := decide_eq_true (by have := ha.2; omega)
    show Q (.bl (decide (a ≤ 999999999999))) H
    rw [e]
    exact q
theorem lt64 {idx : List Nat} (h : idx.all (· < 64) = true) : ∀ j ∈ idx, j < 64 := fun j hj => by simpa using List.all_eq_true.mp h j hj
def iv (num : Nat → Int) (i : Nat) : V := .int (num i)
def sp_isgood : Sp := fun vs H Q _ => ∃ a : Int, vs = [.int a, .int 0] ∧ In a ∧ Q (.bl true) H
theorem h_isgood (T : Txt K mg A) : Has P w K mg base 2 "is_good" ["gift", "size"] sp_isgood := by
  have D_is_number := h_isnum (P := P) (w := w) (base := base) T
  refine T.is_good.has sc_is_good (fun vs H Q E h => ?_) (fun f cdv A outer s H vs Q E hr hu h => ?_)
  · obtain ⟨a, rfl, _⟩ := h
    rfl
  · obtain ⟨a, rfl, ha, q⟩ := h
    refine ⟨_, (pss_cons (ps_if (pt_cmpR (o_eqU hu) (fv 1) (pe_int) (nomark _))
      (pss_one (ps_ret (pe_callD D_is_number hr (pa_cons (fv 0) pa_nil))))
      pss_nil)
    (pss_one (ps_ret (pe_and (pe_callB c_isinst rfl T.z_isinstance (by boot_by_name) (pa_cons (fv 0) (pa_cons (pe_bltn (v := .ty "list") rfl T.z_list (by boot_by_name) rfl) pa_nil))) (pe_and (pe_cmpR (o_eqU hu) (pe_callB c_lenA rfl T.z_len (by boot_by_name) (pa_cons (fv 0) pa_nil)) (fv 1) (nomark _)) (pe_one (pe_callB c_all rfl T.z_all (by boot_by_name) (pa_cons (pe_comp (N := ["thing"]) (own := 1) (fr := []) (CompOk.of (by kernel_rfl!)) rfl (pi_any (fv 0)) (fun b => pg_name (i := 0) (show List.Nodup (["thing"] : List PySem.Str) by decide +kernel) rfl (by first | exact Or.inl rfl | exact Or.inr rfl)) (fun b => pf_nil) (fun b => pe_callD D_is_number hr (pa_cons (fv 0) pa_nil))) pa_nil)))))))), ?_⟩
    refine ⟨rfl, _, rfl, ite2 (fun c => ?_) (fun c => absurd rfl c)⟩
    exact ⟨a, rfl, ha, q⟩
def sp_given (A : Adr) : Sp := fun vs H Q _ => ∃ (x : Str) (a g dx : Addr) (k rk v : Int), vs = [.ref a, .ref g] ∧ H a = some (.ins A.GivenRow dx [("number", .int k), ("name", .str x), ("rank", .int rk), ("size", .int 0)]) ∧ H g = some (.dK [(.inr x, .int v)]) ∧ In v ∧ Q (.int v) H
theorem h_given (T : Txt K mg A) : Has P w K mg base 3 "given_cell" ["given", "gifts"] (sp_given A) := by
  have D_is_good := h_isgood (P := P) (w := w) (base := base) T
  refine T.given_cell.has sc_given_cell (fun vs H Q E h => ?_) (fun f cdv A' outer s H vs Q E hr hu h => ?_)
  · obtain ⟨x, a, g, dx, k, rk, v, rfl, _⟩ := h
    rfl
  · obtain ⟨x, a, g, dx, k, rk, v, rfl, ha, hg, iv, q⟩ := h
    have d1 : DGet H g (.str x) (some (.int v)) := by
      have := DGet.k (k := .inr x) hg
      unfold L2.valV at this
      rw [List.find?_cons, decide_eq_true rfl] at this
      exact this
    refine ⟨_, (pss_cons (ps_set (i := 2) sc_given_cell.nd rfl (Or.inl rfl) (pe_dget1 (Nat.lt_of_le_of_lt (Nat.add_le_add_left (show 1 ≤ 64 by decide) _) hu) (fv 1) (pe_fld (fv 0) rfl) ⟨rfl, rfl, rfl, rfl⟩))
    (pss_cons (ps_if (pt_not (pt_tru (pe_callD D_is_good hr (pa_cons (fv 2) (pa_cons (pe_fld (fv 0) rfl) pa_nil))) (fun _ => rfl)))
      pss_never
      pss_nil)
    (pss_one (ps_ret (pe_ifExp (pt_cmpR (o_eqU hu) (pe_fld (fv 0) rfl) (pe_int) (nomark _)) (fv 2) (pe_callTy c_listA rfl T.z_list (by boot_by_name) (pa_cons (fv 2) pa_nil))))))), ?_⟩
    refine ⟨g, rfl, Or.inl ⟨_, Or.inl hg⟩, a, _, dx, _, _, rfl, ha, T.o_GivenRow.cl, T.n_GivenRow_name, rfl, _, d1, ?_⟩
    refine ⟨a, _, dx, _, _, rfl, ha, T.o_GivenRow.cl, T.n_GivenRow_size, rfl, v, rfl, iv, true, rfl, iteF ?_⟩
    exact ⟨a, _, dx, _, _, rfl, ha, T.o_GivenRow.cl, T.n_GivenRow_size, rfl, rfl, _, rfl, iteT q⟩
def sp_own (A : Adr) : Sp := fun vs H Q _ => ∃ (a dx : Addr) (k : Int) (x : Str), vs = [.ref a] ∧ H a = some (.ins A.OwnRow dx [("number", .int k), ("name", .str x), ("size", .int 0)]) ∧ Q (.int 0) H
theorem h_own (T : Txt K mg A) : Has P w K mg base 1 "own_cell" ["own"] (sp_own A) := by
  refine T.own_cell.has sc_own_cell (fun vs H Q E h => ?_) (fun f cdv A' outer s H vs Q E hr hu h => ?_)
  · obtain ⟨a, dx, k, x, rfl, _⟩ := h
    rfl
  · obtain ⟨a, dx, k, x, rfl, ha, q⟩ := h
    refine ⟨_, (pss_one (ps_ret (pe_ifExp (pt_cmpR (o_eqU hu) (pe_fld (fv 0) rfl) (pe_int) (nomark _)) (pe_int) (pe_op o_mulA (pe_lst (pa_cons (pe_int) pa_nil)) (pe_fld (fv 0) rfl))))), ?_⟩
    exact ⟨a, _, dx, _, _, rfl, ha, T.o_OwnRow.cl, T.n_OwnRow_size, rfl, rfl, _, rfl, ite2 (fun c => q) (fun c => absurd rfl c)⟩
end
end K26

set_option Elab.async false
set_option linter.all false
set_option maxRecDepth 100000
set_option maxHeartbeats 4000000
namespace K26
open PySem L2
section
variable {P : Program} {w : World} {K : PySem.W.Frag} {mg : Str → Option Value} {base : Heap} {A : Adr} {N : Nat → Str}
structure Pa where
  pa : Addr
  dp : Addr
  hd : Addr
  dd : Addr
  mn : Addr
def idxOf (ds : List Dd) : List Nat := [1, 2] ++ ds.flatMap Dd.parts
structure Names (N : Nat → Str) (ds : List Dd) : Prop where
  D : Dist N
  b : ∀ j ∈ idxOf ds, j < 64
  nd : (idxOf ds).Nodup
  l : (idxOf ds).length ≤ 1000
  n : ds.length ≤ 8
def DsAt (A : Adr) (N : Nat → Str) (idx : List Nat) (H : Hp) (dv : List V) (ds : List Dd) : Prop := dv.length = ds.length ∧ ∀ (d : Nat) (v : V), dv[d]? = some v → ∃ D, ds[d]? = some D ∧ DeedAt A N idx H v d D
structure PrAt (A : Adr) (N : Nat → Str) (H : Hp) (p : Pa) (a0 a1 a2 : Addr) (dv xs : List V) (ds : List Dd) (rows : List Rw) : Prop where
  pr : H p.pa = some (.ins A.Program p.dp [("heads", .ref p.hd), ("deeds", .ref p.dd), ("main", .ref p.mn)])
  hd : H p.hd = some (.lst [.ref a0, .ref a1, .ref a2])
  dd : H p.dd = some (.lst dv)
  mn : H p.mn = some (.lst xs)
  h0 : ∃ (dx : Addr) (n : Int) (x : Str) (rk : Int), H a0 = some (.ins A.HandRow dx [("number", .int n), ("name", .str x), ("rank", .int rk)])
  h1 : ∃ (dx : Addr) (n : Int), H a1 = some (.ins A.OwnRow dx [("number", .int n), ("name", .str (N 1)), ("size", .int 0)])
  h2 : ∃ (dx : Addr) (n rk : Int), H a2 = some (.ins A.GivenRow dx [("number", .int n), ("name", .str (N 2)), ("rank", .int rk), ("size", .int 0)])
  dA : DsAt A N (idxOf ds) H dv ds
  rs : PySem.Paired (RowAt A N (idxOf ds) H) xs rows
theorem DsAt.same {idx : List Nat} {H H' : Hp} (s : Same H H') {dv : List V} {ds : List Dd} (h : DsAt A N idx H dv ds) : DsAt A N idx H' dv ds := ⟨h.1, fun d v hv => by
  obtain ⟨D, h1, h2⟩ := h.2 d v hv
  exact ⟨D, h1, DeedAt.same s h2⟩⟩
theorem PrAt.same {H H' : Hp} {p : Pa} {a0 a1 a2 : Addr} {dv xs : List V} {ds : List Dd} {rows : List Rw} (R : PrAt A N H p a0 a1 a2 dv xs ds rows) (s : Same H H') : PrAt A N H' p a0 a1 a2 dv xs ds rows := by
  obtain ⟨h1, h2, h3, h4, ⟨d0, n0, x0, k0, e0⟩, ⟨d1, n1, e1⟩, ⟨d2, n2, k2, e2⟩, h5, h6⟩ := R
  exact ⟨s _ _ h1, s _ _ h2, s _ _ h3, s _ _ h4, ⟨d0, n0, x0, k0, s _ _ e0⟩, ⟨d1, n1, s _ _ e1⟩, ⟨d2, n2, k2, s _ _ e2⟩, h5.same s, Paired.mapP h6 fun _ _ => RowAt.same s⟩
theorem dk_step (D : Dist N) {num : Nat → Int} {idx : List Nat} {i : Nat} {v : V} (hi : i < 64) (hb : ∀ j ∈ idx, j < 64) (m : i ∉ idx) (hv : v = .int (num i)) : putK (dk N idx (iv num)) (.inr (N i)) v = dk N (idx ++ [i]) (iv num) := by
  rw [dk_new D hi hb m]
  refine dk_congr fun j _ => ?_
  by_cases e : j = i
  · rw [e, updF_same, hv]
    rfl
  · rw [updF_ne _ _ e]
theorem take_snoc {α : Type} {ks : List α} {i : Nat} {j : α} (h : ks[i]? = some j) : ks.take (i + 1) = ks.take i ++ [j] := by
  rw [List.take_add_one, h]
  rfl
def num1 (v : Int) (i : Nat) : Int := if i = 2 then v else 0
theorem idx_pre {ds : List Dd} {i : Nat} {D : Dd} (h : ds[i]? = some D) : ([1, 2] ++ (ds.take i).flatMap Dd.parts ++ D.parts) <+: idxOf ds := by
  have e : (ds.take (i + 1)).flatMap Dd.parts = (ds.take i).flatMap Dd.parts ++ D.parts := by
    rw [take_snoc h, List.flatMap_append]
    simp
  rw [List.append_assoc, ← e]
  unfold idxOf
  refine (List.prefix_append_right_inj _).mpr ?_
  refine ⟨(ds.drop (i + 1)).flatMap Dd.parts, ?_⟩
  rw [← List.flatMap_append, List.take_append_drop]
theorem pre_put {ds : List Dd} {i j : Nat} {D : Dd} {x : Nat} (Z : Names N ds) (h : ds[i]? = some D) (hx : D.parts[j]? = some x) (v : Int) :
    (∀ q ∈ [1, 2] ++ (ds.take i).flatMap Dd.parts ++ D.parts.take j, q < 64) ∧ x < 64 ∧ x ∉ [1, 2] ++ (ds.take i).flatMap Dd.parts ++ D.parts.take j ∧ num1 v x = 0 ∧ ([1, 2] ++ (ds.take i).flatMap Dd.parts ++ D.parts.take j).length < 1000 := by
  have p1 : ([1, 2] ++ (ds.take i).flatMap Dd.parts ++ D.parts.take j ++ [x]) <+: idxOf ds := by
    refine List.IsPrefix.trans ?_ (idx_pre h)
    rw [List.append_assoc ([1, 2] ++ (ds.take i).flatMap Dd.parts), ← take_snoc hx]
    exact (List.prefix_append_right_inj _).mpr (List.take_prefix _ _)
  have nd := Z.nd.sublist p1.sublist
  have hb : ∀ q ∈ [1, 2] ++ (ds.take i).flatMap Dd.parts ++ D.parts.take j ++ [x], q < 64 := fun q hq => Z.b q (p1.subset hq)
  have no : x ∉ [1, 2] ++ (ds.take i).flatMap Dd.parts ++ D.parts.take j := fun z => (List.nodup_append.mp nd).2.2 x z x (List.mem_singleton.mpr rfl) rfl
  refine ⟨fun q hq => hb q (List.mem_append_left _ hq), hb x (by simp), no, ?_, ?_⟩
  · unfold num1
    rw [if_neg (fun z => no (by rw [z]; simp))]
  · have l := p1.length_le
    have l' := Z.l
    rw [List.length_append] at l
    have : ([x] : List Nat).length = 1 := rfl
    omega
def sp_cells (A : Adr) : Sp := fun vs H Q _ => ∃ (N : Nat → Str) (p : Pa) (g a0 a1 a2 : Addr) (v : Int) (dv xs : List V) (ds : List Dd) (rows : List Rw), Names N ds ∧ vs = [.ref p.pa, .ref g] ∧ PrAt A N H p a0 a1 a2 dv xs ds rows ∧ H g = some (.dK [(.inr (N 2), .int v)]) ∧ In v ∧
  ∀ (c : Addr) (H' : Hp), Same H H' → H c = none → H' c = some (.dK (dk N (idxOf ds) (iv (num1 v)))) → Q (.ref c) H'
theorem h_cells (T : Txt K mg A) : Has P w K mg base 4 "cells_of" ["program", "gifts"] (sp_cells A) := by
  have D_given_cell := h_given (P := P) (w := w) (base := base) T
  have D_own_cell := h_own (P := P) (w := w) (base := base) T
  refine T.cells_of.has sc_cells_of (fun vs H Q E h => ?_) (fun f cdv A' outer s H vs Q E hr hu h => ?_)
  · obtain ⟨N, p, g, a0, a1, a2, v, dv, xs, ds, rows, _, rfl, _⟩ := h
    rfl
  · obtain ⟨N, p, g, a0, a1, a2, v, dv, xs, ds, rows, Z, rfl, R, hg, iv', q⟩ := h
    refine ⟨_, (pss_cons (ps_set (i := 2) sc_cells_of.nd rfl (Or.inl rfl) (pe_dnewK))
    (pss_cons (ps_for PassesOwn.never rfl (pi_any (pe_fld (fv 0) rfl)) (pg_name (i := 3) sc_cells_of.nd rfl (by first | exact Or.inl rfl | exact Or.inr rfl))
      (pss_one (ps_if (pt_tru (pe_callB c_isinst rfl T.z_isinstance (by boot_by_name) (pa_cons (fv 3) (pa_cons (pe_gtup T.o_GivenRow.mg) pa_nil))) (fun _ => rfl))
        (pss_one (ps_asg (pe_callD D_given_cell hr (pa_cons (fv 3) (pa_cons (fv 1) pa_nil))) (pg_sub (fv 2) (pe_fld (fv 3) rfl) (st_all hu set_list))))
        (pss_one (ps_if (pt_tru (pe_callB c_isinst rfl T.z_isinstance (by boot_by_name) (pa_cons (fv 3) (pa_cons (pe_gtup T.o_OwnRow.mg) pa_nil))) (fun _ => rfl))
          (pss_one (ps_asg (pe_callD D_own_cell hr (pa_cons (fv 3) pa_nil)) (pg_sub (fv 2) (pe_fld (fv 3) rfl) (st_all hu set_list))))
          pss_nil)))))
    (pss_cons (ps_for PassesOwn.never rfl (pi_any (pe_fld (fv 0) rfl)) (pg_name (i := 4) sc_cells_of.nd rfl (by first | exact Or.inl rfl | exact Or.inr rfl))
      (pss_one (ps_for PassesOwn.never rfl (pi_any (pe_fld (fv 4) rfl)) (pg_name (i := 5) sc_cells_of.nd rfl (by first | exact Or.inl rfl | exact Or.inr rfl))
        (pss_one (ps_asg (pe_int) (pg_sub (fv 2) (fv 5) (st_all hu set_list)))))))
    (pss_one (ps_ret (fv 2)))))), ?_⟩
    refine seq_cut fun M1 K1 => ?_
    refine fun c hc => ?_
    have s1 := Same.upd hc (HO.dK [])
    have e1 : (upd H c (HO.dK [])) c = some (.dK []) := upd_same
    generalize upd H c (HO.dK []) = H1 at s1 e1 ⊢
    refine K1 _ _ ?_
    refine seq_cut fun M2 K2 => ?_
    refine ⟨p.pa, _, p.dp, _, _, rfl, s1 _ _ R.pr, T.o_Program.cl, T.n_Program_heads, rfl, Or.inl ⟨⟨_, SqL.of (s1 _ _ R.hd)⟩, ?_⟩⟩
    refine for_list (K := K) (xs := [.ref a0, .ref a1, .ref a2]) (fun i σ H2 => Same H H2 ∧ H2 c = some (.dK (dk N ([1, 2].take (i - 1)) (iv (num1 v)))) ∧ ∃ z, σ = [some (.ref p.pa), some (.ref g), some (.ref c), z, none, none]) ⟨s1, e1, none, rfl⟩ (fun i σ H2 _ h => SqL.of (h.1 _ _ R.hd)) ?_ ?_
    · rintro i u σ H2 hx ⟨s2, c2, z, rfl⟩
      match i, hx, c2 with
      | 0, hx, c2 =>
        cases hx
        obtain ⟨dx, n, y, rk, ha⟩ := R.h0
        refine ⟨_, _, _, false, rfl, (fun z => by cases z), T.o_HandRow.tyOf (s2 _ _ ha), kitF T.o_HandRow T.o_GivenRow (cls_ne T 3 2) (cls_ne T 3 1), false, rfl, iteF ?_⟩
        refine ⟨_, _, _, false, rfl, (fun z => by cases z), T.o_HandRow.tyOf (s2 _ _ ha), kitF T.o_HandRow T.o_OwnRow (cls_ne T 4 2) (cls_ne T 4 1), false, rfl, iteF ?_⟩
        exact ⟨s2, c2, _, rfl⟩
      | 1, hx, c2 =>
        cases hx
        obtain ⟨dx, n, ha⟩ := R.h1
        refine ⟨_, _, _, false, rfl, (fun z => by cases z), T.o_OwnRow.tyOf (s2 _ _ ha), kitF T.o_OwnRow T.o_GivenRow (cls_ne T 3 4) (cls_ne T 3 1), false, rfl, iteF ?_⟩
        refine ⟨_, _, _, true, rfl, (fun z => by cases z), T.o_OwnRow.tyOf (s2 _ _ ha), kitT T.o_OwnRow, true, rfl, iteT ?_⟩
        refine ⟨a1, dx, _, _, rfl, s2 _ _ ha, ?_⟩
        refine ⟨a1, _, dx, _, _, rfl, s2 _ _ ha, T.o_OwnRow.cl, T.n_OwnRow_name, rfl, _, DPut.k (k := .inr (N 1)) c2 (show 0 < sizeLine by decide), ?_⟩
        exact ⟨Same.out s2 hc _, by rw [upd_same]; exact congrArg some (congrArg HO.dK (dk_step Z.D (num := num1 v) (idx := []) (by decide) (fun _ h => by cases h) (fun h => by cases h) rfl)), _, rfl⟩
      | 2, hx, c2 =>
        cases hx
        obtain ⟨dx, n, rk, ha⟩ := R.h2
        refine ⟨_, _, _, true, rfl, (fun z => by cases z), T.o_GivenRow.tyOf (s2 _ _ ha), kitT T.o_GivenRow, true, rfl, iteT ?_⟩
        refine ⟨_, a2, g, dx, _, _, v, rfl, s2 _ _ ha, s2 _ _ hg, iv', ?_⟩
        refine ⟨a2, _, dx, _, _, rfl, s2 _ _ ha, T.o_GivenRow.cl, T.n_GivenRow_name, rfl, _, DPut.k (k := .inr (N 2)) c2 (show 1 < sizeLine by decide), ?_⟩
        exact ⟨Same.out s2 hc _, by rw [upd_same]; exact congrArg some (congrArg HO.dK (dk_step Z.D (num := num1 v) (idx := [1]) (by decide) (lt64 (by decide)) (by decide) rfl)), _, rfl⟩
      | i + 3, hx, _ => cases hx
    rintro σ H2 ⟨s2, c2, z, rfl⟩
    refine K2 _ _ ?_
    refine seq_cut fun M3 K3 => ?_
    refine ⟨p.pa, _, p.dp, _, _, rfl, s2 _ _ R.pr, T.o_Program.cl, T.n_Program_deeds, rfl, Or.inl ⟨⟨_, SqL.of (s2 _ _ R.dd)⟩, ?_⟩⟩
    refine for_list (K := K) (xs := dv) (fun i σ H3 => Same H H3 ∧ H3 c = some (.dK (dk N ([1, 2] ++ (ds.take i).flatMap Dd.parts) (iv (num1 v)))) ∧ ∃ z4 z5, σ = [some (.ref p.pa), some (.ref g), some (.ref c), z, z4, z5]) ⟨s2, c2, none, none, rfl⟩ (fun i σ H3 _ h => SqL.of (h.1 _ _ R.dd)) ?_ ?_
    · rintro i u σ H3 hx ⟨s3, c3, z4, z5, rfl⟩
      obtain ⟨D, hD, a, dx, pp, pb, n, bs, rfl, ha, hp, hb, W⟩ := R.dA.2 i u hx
      refine ⟨a, _, dx, _, _, rfl, s3 _ _ ha, T.o_DeedRow.cl, T.n_DeedRow_parts, rfl, Or.inl ⟨⟨_, SqL.of (s3 _ _ hp)⟩, ?_⟩⟩
      refine for_list (K := K) (xs := D.parts.map fun i => V.str (N i)) (fun j σ H4 => Same H H4 ∧ H4 c = some (.dK (dk N ([1, 2] ++ (ds.take i).flatMap Dd.parts ++ D.parts.take j) (iv (num1 v)))) ∧ ∃ z5, σ = [some (.ref p.pa), some (.ref g), some (.ref c), z, some (.ref a), z5]) ⟨s3, by rw [List.take_zero, List.append_nil]; exact c3, _, rfl⟩ (fun i σ H4 _ h => SqL.of (h.1 _ _ hp)) ?_ ?_
      · rintro j u σ H4 hu ⟨s4, c4, z6, rfl⟩
        rw [List.getElem?_map] at hu
        cases hj : D.parts[j]? with
        | none => rw [hj] at hu; cases hu
        | some x =>
          rw [hj] at hu
          cases hu
          obtain ⟨b1, b2, b3, b4, b5⟩ := pre_put Z hD hj v
          refine ⟨_, DPut.k (k := .inr (N x)) c4 (small1000 (by unfold dk; rw [List.length_map]; omega)), ?_⟩
          refine ⟨Same.out s4 hc _, ?_, _, rfl⟩
          rw [upd_same, dk_step Z.D b2 b1 b3 (by rw [b4]), take_snoc hj, List.append_assoc _ (D.parts.take j)]
      · rintro σ H4 ⟨s4, c4, z6, rfl⟩
        refine ⟨s4, ?_, _, _, rfl⟩
        rw [List.length_map, List.take_length] at c4
        rw [take_snoc hD, List.flatMap_append, ← List.append_assoc, c4]
        simp
    · rintro σ H3 ⟨s3, c3, z4, z5, rfl⟩
      refine K3 _ _ ?_
      rw [R.dA.1, List.take_length] at c3
      exact q c H3 s3 hc c3
end
end K26

set_option Elab.async false
set_option linter.all false
set_option maxRecDepth 100000
set_option maxHeartbeats 4000000
namespace K26
open PySem L2
section
variable {P : Program} {w : World} {K : PySem.W.Frag} {mg : Str → Option Value} {base : Heap} {A : Adr} {N : Nat → Str}
structure NewBook (A : Adr) (H : Hp) (x dx l sd t e : Addr) : Prop where
  b : H x = some (.ins A.Book dx [("letters", .ref l), ("said", .ref sd), ("trace", .ref t), ("steps", .int 0), ("ends", .ref e)])
  hl : H l = some (.lst [])
  hs : H sd = some (.lst [])
  ht : H t = some (.lst [])
  tl : t ≠ l
  dt : sd ≠ t
  dl : sd ≠ l
  he : H e = some (.dK [])
def sp_Book_init (A : Adr) : Sp := fun vs H Q _ => ∃ x dx, vs = [.ref x] ∧ H x = some (.ins A.Book dx []) ∧ ∀ (l sd t e : Addr) (H' : Hp), H l = none → H sd = none → H t = none → H e = none → But x H H' → NewBook A H' x dx l sd t e → Q .non H'
theorem h_Book_init (T : Txt K mg A) : HasM P w K mg base 1 A.Book "__init__" ["self"] (sp_Book_init A) := by
  refine T.m_Book_init.has (k := 0) sc_Book_init (fun vs H Q E h => ?_) (fun f cdv A' outer s H vs Q E hr hu h => ?_)
  · obtain ⟨x, dx, rfl, _⟩ := h
    rfl
  · obtain ⟨x, dx, rfl, hx, q⟩ := h
    refine ⟨_, (pss_cons (ps_fld (fv 0) (pe_lst (pa_nil)) rfl)
    (pss_cons (ps_fld (fv 0) (pe_lst (pa_nil)) rfl)
    (pss_cons (ps_fld (fv 0) (pe_lst (pa_nil)) rfl)
    (pss_cons (ps_fld (fv 0) (pe_int) rfl)
    (pss_one (ps_fld (fv 0) (pe_dnewK) rfl)))))), ?_⟩
    refine ⟨Nat.zero_le _, fun l hl => ?_⟩
    have lx : l ≠ x := fun z => by rw [z, hx] at hl; cases hl
    have b1 : But x H (upd H l (HO.lst [])) := But.new hl _
    have x1 : (upd H l (HO.lst [])) x = some (.ins A.Book dx []) := by rw [upd_ne (Ne.symm lx)]; exact hx
    have l1 : (upd H l (HO.lst [])) l = some (.lst []) := upd_same
    generalize upd H l (HO.lst []) = H1 at b1 x1 l1 ⊢
    refine ⟨x, _, dx, _, rfl, x1, T.o_Book.cl, T.n_Book_letters, by decide, ?_⟩
    have b2 : But x H (upd H1 x (.ins A.Book dx (putF "letters" (.ref l) []))) := b1.trans (But.at x _ _)
    have x2 : (upd H1 x (.ins A.Book dx (putF "letters" (.ref l) []))) x = some (.ins A.Book dx [("letters", .ref l)]) := upd_same
    have l2 : (upd H1 x (.ins A.Book dx (putF "letters" (.ref l) []))) l = some (.lst []) := by rw [upd_ne lx]; exact l1
    generalize upd H1 x (.ins A.Book dx (putF "letters" (.ref l) [])) = H2 at b2 x2 l2 ⊢
    refine ⟨Nat.zero_le _, fun sd hsd => ?_⟩
    have sx : sd ≠ x := fun z => by rw [z, x2] at hsd; cases hsd
    have dl : sd ≠ l := fun z => by rw [z, l2] at hsd; cases hsd
    have sd0 : H sd = none := b2.none sx hsd
    have b3 : But x H (upd H2 sd (HO.lst [])) := b2.trans (But.new hsd _)
    have x3 : (upd H2 sd (HO.lst [])) x = some (.ins A.Book dx [("letters", .ref l)]) := by rw [upd_ne (Ne.symm sx)]; exact x2
    have l3 : (upd H2 sd (HO.lst [])) l = some (.lst []) := by rw [upd_ne (Ne.symm dl)]; exact l2
    have s3 : (upd H2 sd (HO.lst [])) sd = some (.lst []) := upd_same
    generalize upd H2 sd (HO.lst []) = H3 at b3 x3 l3 s3 ⊢
    refine ⟨x, _, dx, _, rfl, x3, T.o_Book.cl, T.n_Book_said, by simp, ?_⟩
    have b4 : But x H (upd H3 x (.ins A.Book dx (putF "said" (.ref sd) [("letters", .ref l)]))) := b3.trans (But.at x _ _)
    have x4 : (upd H3 x (.ins A.Book dx (putF "said" (.ref sd) [("letters", .ref l)]))) x = some (.ins A.Book dx [("letters", .ref l), ("said", .ref sd)]) := upd_same
    have l4 : (upd H3 x (.ins A.Book dx (putF "said" (.ref sd) [("letters", .ref l)]))) l = some (.lst []) := by rw [upd_ne lx]; exact l3
    have s4 : (upd H3 x (.ins A.Book dx (putF "said" (.ref sd) [("letters", .ref l)]))) sd = some (.lst []) := by rw [upd_ne sx]; exact s3
    generalize upd H3 x (.ins A.Book dx (putF "said" (.ref sd) [("letters", .ref l)])) = H4 at b4 x4 l4 s4 ⊢
    refine ⟨Nat.zero_le _, fun t ht => ?_⟩
    have tx : t ≠ x := fun z => by rw [z, x4] at ht; cases ht
    have tl : t ≠ l := fun z => by rw [z, l4] at ht; cases ht
    have ts : t ≠ sd := fun z => by rw [z, s4] at ht; cases ht
    have t0 : H t = none := b4.none tx ht
    have b5 : But x H (upd H4 t (HO.lst [])) := b4.trans (But.new ht _)
    have x5 : (upd H4 t (HO.lst [])) x = some (.ins A.Book dx [("letters", .ref l), ("said", .ref sd)]) := by rw [upd_ne (Ne.symm tx)]; exact x4
    have l5 : (upd H4 t (HO.lst [])) l = some (.lst []) := by rw [upd_ne (Ne.symm tl)]; exact l4
    have s5 : (upd H4 t (HO.lst [])) sd = some (.lst []) := by rw [upd_ne (Ne.symm ts)]; exact s4
    have t5 : (upd H4 t (HO.lst [])) t = some (.lst []) := upd_same
    generalize upd H4 t (HO.lst []) = H5 at b5 x5 l5 s5 t5 ⊢
    refine ⟨x, _, dx, _, rfl, x5, T.o_Book.cl, T.n_Book_trace, by simp, ?_⟩
    have b6 : But x H (upd H5 x (.ins A.Book dx (putF "trace" (.ref t) [("letters", .ref l), ("said", .ref sd)]))) := b5.trans (But.at x _ _)
    have x6 : (upd H5 x (.ins A.Book dx (putF "trace" (.ref t) [("letters", .ref l), ("said", .ref sd)]))) x = some (.ins A.Book dx [("letters", .ref l), ("said", .ref sd), ("trace", .ref t)]) := upd_same
    have l6 : (upd H5 x (.ins A.Book dx (putF "trace" (.ref t) [("letters", .ref l), ("said", .ref sd)]))) l = some (.lst []) := by rw [upd_ne lx]; exact l5
    have s6 : (upd H5 x (.ins A.Book dx (putF "trace" (.ref t) [("letters", .ref l), ("said", .ref sd)]))) sd = some (.lst []) := by rw [upd_ne sx]; exact s5
    have t6 : (upd H5 x (.ins A.Book dx (putF "trace" (.ref t) [("letters", .ref l), ("said", .ref sd)]))) t = some (.lst []) := by rw [upd_ne tx]; exact t5
    generalize upd H5 x (.ins A.Book dx (putF "trace" (.ref t) [("letters", .ref l), ("said", .ref sd)])) = H6 at b6 x6 l6 s6 t6 ⊢
    refine ⟨x, _, dx, _, rfl, x6, T.o_Book.cl, T.n_Book_steps, by simp, ?_⟩
    have b7 : But x H (upd H6 x (.ins A.Book dx (putF "steps" (.int 0) [("letters", .ref l), ("said", .ref sd), ("trace", .ref t)]))) := b6.trans (But.at x _ _)
    have x7 : (upd H6 x (.ins A.Book dx (putF "steps" (.int 0) [("letters", .ref l), ("said", .ref sd), ("trace", .ref t)]))) x = some (.ins A.Book dx [("letters", .ref l), ("said", .ref sd), ("trace", .ref t), ("steps", .int 0)]) := upd_same
    have l7 : (upd H6 x (.ins A.Book dx (putF "steps" (.int 0) [("letters", .ref l), ("said", .ref sd), ("trace", .ref t)]))) l = some (.lst []) := by rw [upd_ne lx]; exact l6
    have s7 : (upd H6 x (.ins A.Book dx (putF "steps" (.int 0) [("letters", .ref l), ("said", .ref sd), ("trace", .ref t)]))) sd = some (.lst []) := by rw [upd_ne sx]; exact s6
    have t7 : (upd H6 x (.ins A.Book dx (putF "steps" (.int 0) [("letters", .ref l), ("said", .ref sd), ("trace", .ref t)]))) t = some (.lst []) := by rw [upd_ne tx]; exact t6
    generalize upd H6 x (.ins A.Book dx (putF "steps" (.int 0) [("letters", .ref l), ("said", .ref sd), ("trace", .ref t)])) = H7 at b7 x7 l7 s7 t7 ⊢
    refine fun e he => ?_
    have ex : e ≠ x := fun z => by rw [z, x7] at he; cases he
    have n8 := Same.upd he (HO.dK [])
    refine ⟨x, _, dx, _, rfl, n8 _ _ x7, T.o_Book.cl, T.n_Book_ends, by simp, ?_⟩
    refine q l sd t e _ hl sd0 t0 (b7.none ex he) ((b7.trans (But.of n8)).trans (But.at x _ _)) ⟨upd_same, ?_, ?_, ?_, tl, Ne.symm ts, dl, ?_⟩
    · rw [upd_ne lx]; exact n8 _ _ l7
    · rw [upd_ne sx]; exact n8 _ _ s7
    · rw [upd_ne tx]; exact n8 _ _ t7
    · rw [upd_ne ex]; exact upd_same
theorem kit_is : PySem.W.kitOne K (.type "int") (.type "str") = some false := by kernel_rfl!
theorem kit_ss : PySem.W.kitOne K (.type "str") (.type "str") = some true := by kernel_rfl!
structure Ra where
  s : Addr
  ds : Addr
  d : Addr
  c : Addr
  b : Addr
  db : Addr
  sd : Addr
  e : Addr
  t : Addr
  l : Addr
def dIx (n : Nat) : List Nat := (List.range n).map fun i => 3 + i
def dV (dv : List V) (i : Nat) : V := dv.getD (i - 3) .non
theorem dIx_lt {n : Nat} (h : n ≤ 8) : ∀ j ∈ dIx n, j < 64 := fun j hj => by
  obtain ⟨i, hi, rfl⟩ := List.mem_map.mp hj
  have := List.mem_range.mp hi
  omega
theorem dIx_new {n : Nat} : 3 + n ∉ dIx n := fun hj => by
  obtain ⟨i, hi, e⟩ := List.mem_map.mp hj
  have := List.mem_range.mp hi
  omega
theorem dIx_snoc (n : Nat) : dIx (n + 1) = dIx n ++ [3 + n] := by
  unfold dIx
  rw [List.range_succ, List.map_append]
  rfl
theorem dIx_mem {n i : Nat} (h : i < n) : 3 + i ∈ dIx n := List.mem_map.mpr ⟨i, List.mem_range.mpr h, rfl⟩
structure RunAt (A : Adr) (N : Nat → Str) (idx : List Nat) (dv : List V) (H : Hp) (r : Ra) (k : S) : Prop where
  hs : H r.s = some (.ins A.Run r.ds [("deeds", .ref r.d), ("cells", .ref r.c), ("book", .ref r.b)])
  hb : H r.b = some (.ins A.Book r.db [("letters", .ref r.l), ("said", .ref r.sd), ("trace", .ref r.t), ("steps", .int k.steps), ("ends", .ref r.e)])
  hk : H r.d = some (.dK (dk N (dIx dv.length) (dV dv)))
  hc : H r.c = some (.dK (dk N idx (iv k.num)))
  ht : ∃ xs, H r.t = some (.lst xs) ∧ Tups H xs k.trace
  hl : ∃ xs, H r.l = some (.lst xs) ∧ Tups H xs k.letters
  sb : r.s ≠ r.b
  tl : r.t ≠ r.l
  cd : r.d ≠ r.c
variable {idx : List Nat} {dv : List V}
theorem RunAt.same {H H' : Hp} {r : Ra} {k : S} (R : RunAt A N idx dv H r k) (s : Same H H') : RunAt A N idx dv H' r k := by
  obtain ⟨h1, h2, h3, h4, ⟨xs, h5, h6⟩, ⟨ys, h7, h8⟩, a, b, c⟩ := R
  exact ⟨s _ _ h1, s _ _ h2, s _ _ h3, s _ _ h4, ⟨xs, s _ _ h5, h6.stay (Same.stay s)⟩, ⟨ys, s _ _ h7, h8.stay (Same.stay s)⟩, a, b, c⟩
theorem RunAt.steps {H : Hp} {r : Ra} {k : S} (R : RunAt A N idx dv H r k) (n : Int) : RunAt A N idx dv (upd H r.b (.ins A.Book r.db (putF "steps" (.int n) [("letters", .ref r.l), ("said", .ref r.sd), ("trace", .ref r.t), ("steps", .int k.steps), ("ends", .ref r.e)]))) r { k with steps := n } := by
  obtain ⟨h1, h2, h3, h4, ⟨xs, h5, h6⟩, ⟨ys, h7, h8⟩, sb, tl, cd⟩ := R
  have st := Stay.at (u := .ins A.Book r.db (putF "steps" (.int n) [("letters", .ref r.l), ("said", .ref r.sd), ("trace", .ref r.t), ("steps", .int k.steps), ("ends", .ref r.e)])) h2 (fun w e => by cases e)
  have ne : ∀ {a : Addr} {o : HO}, H a = some o → (∀ C dx fs, o ≠ .ins C dx fs) → a ≠ r.b := fun ha hn z => by rw [z, h2] at ha; exact hn _ _ _ (Option.some.inj ha).symm
  refine ⟨by rw [upd_ne sb]; exact h1, upd_same, ?_, ?_, ⟨xs, ?_, h6.stay st⟩, ⟨ys, ?_, h8.stay st⟩, sb, tl, cd⟩
  · rw [upd_ne (ne h3 (fun _ _ _ z => by cases z))]; exact h3
  · rw [upd_ne (ne h4 (fun _ _ _ z => by cases z))]; exact h4
  · rw [upd_ne (ne h5 (fun _ _ _ z => by cases z))]; exact h5
  · rw [upd_ne (ne h7 (fun _ _ _ z => by cases z))]; exact h7
theorem RunAt.trace {H : Hp} {r : Ra} {p : Addr} {k : S} {us w : List V} (R : RunAt A N idx dv H r k) (hp : H p = none) (ht : H r.t = some (.lst us)) : RunAt A N idx dv (upd (upd H p (.tup w)) r.t (.lst (us ++ [.ref p]))) r { k with trace := k.trace ++ [w] } := by
  obtain ⟨h1, h2, h3, h4, ⟨xs, h5, h6⟩, ⟨ys, h7, h8⟩, sb, tl, cd⟩ := R
  rw [ht] at h5
  cases h5
  have sm := Same.upd hp (HO.tup w)
  have st : Stay H (upd (upd H p (.tup w)) r.t (.lst (us ++ [.ref p]))) := (Same.stay sm).trans (Stay.at (sm _ _ ht) fun w e => by cases e)
  have pt : p ≠ r.t := fun z => by rw [z, ht] at hp; cases hp
  have ne : ∀ {a : Addr} {o : HO}, H a = some o → (∀ xs, o ≠ .lst xs) → a ≠ r.t := fun ha hn z => by rw [z, ht] at ha; exact hn _ (Option.some.inj ha).symm
  refine ⟨?_, ?_, ?_, ?_, ⟨_, upd_same, PySem.Paired.snoc (h6.stay st) ⟨p, rfl, by rw [upd_ne pt]; exact upd_same⟩⟩, ⟨ys, ?_, h8.stay st⟩, sb, tl, cd⟩
  · rw [upd_ne (ne h1 (fun _ z => by cases z))]; exact sm _ _ h1
  · rw [upd_ne (ne h2 (fun _ z => by cases z))]; exact sm _ _ h2
  · rw [upd_ne (ne h3 (fun _ z => by cases z))]; exact sm _ _ h3
  · rw [upd_ne (ne h4 (fun _ z => by cases z))]; exact sm _ _ h4
  · rw [upd_ne (Ne.symm tl)]; exact sm _ _ h7
theorem RunAt.letter {H : Hp} {r : Ra} {p : Addr} {k : S} {us w : List V} (R : RunAt A N idx dv H r k) (hp : H p = none) (ht : H r.l = some (.lst us)) : RunAt A N idx dv (upd (upd H p (.tup w)) r.l (.lst (us ++ [.ref p]))) r { k with letters := k.letters ++ [w] } := by
  obtain ⟨h1, h2, h3, h4, ⟨xs, h5, h6⟩, ⟨ys, h7, h8⟩, sb, tl, cd⟩ := R
  rw [ht] at h7
  cases h7
  have sm := Same.upd hp (HO.tup w)
  have st : Stay H (upd (upd H p (.tup w)) r.l (.lst (us ++ [.ref p]))) := (Same.stay sm).trans (Stay.at (sm _ _ ht) fun w e => by cases e)
  have pt : p ≠ r.l := fun z => by rw [z, ht] at hp; cases hp
  have ne : ∀ {a : Addr} {o : HO}, H a = some o → (∀ xs, o ≠ .lst xs) → a ≠ r.l := fun ha hn z => by rw [z, ht] at ha; exact hn _ (Option.some.inj ha).symm
  refine ⟨?_, ?_, ?_, ?_, ⟨xs, ?_, h6.stay st⟩, ⟨_, upd_same, PySem.Paired.snoc (h8.stay st) ⟨p, rfl, by rw [upd_ne pt]; exact upd_same⟩⟩, sb, tl, cd⟩
  · rw [upd_ne (ne h1 (fun _ z => by cases z))]; exact sm _ _ h1
  · rw [upd_ne (ne h2 (fun _ z => by cases z))]; exact sm _ _ h2
  · rw [upd_ne (ne h3 (fun _ z => by cases z))]; exact sm _ _ h3
  · rw [upd_ne (ne h4 (fun _ z => by cases z))]; exact sm _ _ h4
  · rw [upd_ne tl]; exact sm _ _ h5
theorem iv_put (k : S) (x : Nat) (v : Int) (j : Nat) : updF (iv k.num) x (.int v) j = iv (k.put x v).num j := by
  unfold updF iv
  show _ = V.int (if j = x then v else k.num j)
  split <;> rfl
theorem RunAt.put {H : Hp} {r : Ra} {k : S} (R : RunAt A N idx dv H r k) (D : Dist N) (hb : ∀ j ∈ idx, j < 64) {x : Nat} (hx : x ∈ idx) (v : Int) : RunAt A N idx dv (upd H r.c (.dK (putK (dk N idx (iv k.num)) (.inr (N x)) (.int v)))) r (k.put x v) := by
  obtain ⟨h1, h2, h3, h4, ⟨xs, h5, h6⟩, ⟨ys, h7, h8⟩, sb, tl, cd⟩ := R
  have e : putK (dk N idx (iv k.num)) (.inr (N x)) (.int v) = dk N idx (iv (k.put x v).num) := by
    rw [dk_put D hb hx]
    exact dk_congr fun j _ => iv_put _ _ _ j
  have st := Stay.at (u := .dK (putK (dk N idx (iv k.num)) (.inr (N x)) (.int v))) h4 (fun w e => by cases e)
  have ne : ∀ {a : Addr} {o : HO}, H a = some o → (∀ kv, o ≠ .dK kv) → a ≠ r.c := fun ha hn z => by rw [z, h4] at ha; exact hn _ (Option.some.inj ha).symm
  refine ⟨?_, ?_, ?_, ?_, ⟨xs, ?_, h6.stay st⟩, ⟨ys, ?_, h8.stay st⟩, sb, tl, cd⟩
  · rw [upd_ne (ne h1 (fun _ z => by cases z))]; exact h1
  · rw [upd_ne (ne h2 (fun _ z => by cases z))]; exact h2
  · rw [upd_ne cd]; exact h3
  · rw [upd_same, e]
  · rw [upd_ne (ne h5 (fun _ z => by cases z))]; exact h5
  · rw [upd_ne (ne h7 (fun _ z => by cases z))]; exact h7
theorem RunAt.get {H : Hp} {r : Ra} {k : S} (R : RunAt A N idx dv H r k) (D : Dist N) (hb : ∀ j ∈ idx, j < 64) {i : Nat} (hi : i ∈ idx) : DGet H r.c (.str (N i)) (some (.int (k.num i))) := by
  have := DGet.k (k := .inr (N i)) R.hc
  rw [dk_get D hb hi] at this
  exact this
theorem RunAt.deed {H : Hp} {r : Ra} {k : S} (R : RunAt A N idx dv H r k) (D : Dist N) (h8 : dv.length ≤ 8) {i : Nat} {v : V} (hi : dv[i]? = some v) : DGet H r.d (.str (N (3 + i))) (some v) := by
  have := DGet.k (k := .inr (N (3 + i))) R.hk
  rw [dk_get D (dIx_lt h8) (dIx_mem (List.getElem?_eq_some_iff.mp hi).1)] at this
  unfold dV at this
  rw [show 3 + i - 3 = i by omega, List.getD_eq_getElem?_getD, hi] at this
  exact this
def S.new (v : Int) : S := ⟨num1 v, 0, [], []⟩
def sp_Run_init (A : Adr) : Sp := fun vs H Q _ => ∃ (s ds c a0 a1 a2 : Addr) (N : Nat → Str) (p : Pa) (v : Int) (dv xs : List V) (dd : List Dd) (rows : List Rw), Names N dd ∧ vs = [.ref s, .ref p.pa, .ref c] ∧ H s = some (.ins A.Run ds []) ∧ PrAt A N H p a0 a1 a2 dv xs dd rows ∧ H c = some (.dK (dk N (idxOf dd) (iv (num1 v)))) ∧
  ∀ (d b db sd e t l : Addr) (H' : Hp), But s H H' → H b = none → H t = none → H l = none → H d = none → RunAt A N (idxOf dd) dv H' ⟨s, ds, d, c, b, db, sd, e, t, l⟩ (S.new v) → Q .non H'
theorem h_Run_init (T : Txt K mg A) : HasM P w K mg base 3 A.Run "__init__" ["self", "program", "cells"] (sp_Run_init A) := by
  have D_Book_init := h_Book_init (P := P) (w := w) (base := base) T
  refine T.m_Run_init.has (k := 2) sc_Run_init (fun vs H Q E h => ?_) (fun f cdv A' outer s' H vs Q E hr hu h => ?_)
  · obtain ⟨s, ds, c, a0, a1, a2, N, p, v, dv, xs, dd, rows, _, rfl, _⟩ := h
    rfl
  · obtain ⟨s, ds, c, a0, a1, a2, N, p, v, dv, xs, dd, rows, Z, rfl, hs, R, G, q⟩ := h
    have h8 : dv.length ≤ 8 := by rw [R.dA.1]; exact Z.n
    refine ⟨_, (pss_cons (ps_fld (fv 0) (pe_dnewK) rfl)
    (pss_cons (ps_for PassesOwn.never rfl (pi_any (pe_fld (fv 1) rfl)) (pg_name (i := 3) sc_Run_init.nd rfl (by first | exact Or.inl rfl | exact Or.inr rfl))
      (pss_one (ps_asg (fv 3) (pg_sub (pe_fld (fv 0) rfl) (pe_fld (fv 3) rfl) (st_all hu set_list)))))
    (pss_cons (ps_fld (fv 0) (fv 2) rfl)
    (pss_one (ps_fld (fv 0) (pe_makeD0 T.o_Book D_Book_init hr) rfl))))), ?_⟩
    refine fun d hd => ?_
    have sm1 := Same.upd hd (HO.dK [])
    have ds0 : d ≠ s := fun z => by rw [z, hs] at hd; cases hd
    refine ⟨s, _, ds, _, rfl, sm1 _ _ hs, T.o_Run.cl, T.n_Run_deeds, by simp, ?_⟩
    have b2 : But s H (upd (upd H d (HO.dK [])) s (.ins A.Run ds (putF "deeds" (.ref d) []))) := (But.of sm1).trans (But.at s _ _)
    have x2 : (upd (upd H d (HO.dK [])) s (.ins A.Run ds (putF "deeds" (.ref d) []))) s = some (.ins A.Run ds [("deeds", .ref d)]) := upd_same
    have d2 : (upd (upd H d (HO.dK [])) s (.ins A.Run ds (putF "deeds" (.ref d) []))) d = some (.dK []) := by rw [upd_ne ds0]; exact upd_same
    generalize upd (upd H d (HO.dK [])) s (.ins A.Run ds (putF "deeds" (.ref d) [])) = H2 at b2 x2 d2 ⊢
    have ps : p.pa ≠ s := fun z => by have := R.pr; rw [z, hs] at this; exact absurd (HO.ins.inj (Option.some.inj this)).1 (cls_ne T 15 14)
    have dds : p.dd ≠ s := fun z => by have := R.dd; rw [z, hs] at this; cases this
    refine ⟨p.pa, _, p.dp, _, _, rfl, b2 _ ps _ R.pr, T.o_Program.cl, T.n_Program_deeds, rfl, Or.inl ⟨⟨_, SqL.of (b2 _ dds _ R.dd)⟩, ?_⟩⟩
    refine for_list (K := K) (xs := dv) (fun i σ H3 => But s H H3 ∧ H3 s = some (.ins A.Run ds [("deeds", .ref d)]) ∧ H3 d = some (.dK (dk N (dIx i) (dV dv))) ∧ ∃ v, σ = [some (.ref s), some (.ref p.pa), some (.ref c), v]) ⟨b2, x2, d2, _, rfl⟩ (fun i σ H3 _ h => SqL.of (h.1 _ dds _ R.dd)) ?_ ?_
    · rintro i u σ H3 hx ⟨b3, x3, d3, z, rfl⟩
      obtain ⟨D, hD, a, dx, pp, pb, n, bs, rfl, ha, _⟩ := R.dA.2 i u hx
      have as : a ≠ s := fun z => by rw [z, hs] at ha; exact absurd (HO.ins.inj (Option.some.inj ha)).1 (cls_ne T 15 13)
      have hi := (List.getElem?_eq_some_iff.mp hx).1
      refine ⟨s, _, ds, _, _, rfl, x3, T.o_Run.cl, T.n_Run_deeds, rfl, a, _, dx, _, _, rfl, b3 _ as _ ha, T.o_DeedRow.cl, T.n_DeedRow_name, rfl, _, DPut.k (k := .inr (N (3 + i))) d3 (small1000 (by unfold dk dIx; rw [List.length_map, List.length_map, List.length_range]; omega)), ?_⟩
      refine ⟨fun b hb o hq => by rw [upd_ne (ne_of_none hq hd)]; exact b3 b hb o hq, by rw [upd_ne (Ne.symm ds0)]; exact x3, ?_, _, rfl⟩
      rw [upd_same, dk_new Z.D (by omega) (dIx_lt (by omega)) dIx_new, dIx_snoc]
      refine congrArg some (congrArg HO.dK (dk_congr fun j _ => ?_))
      by_cases e : j = 3 + i
      · rw [e, updF_same]
        unfold dV
        rw [show 3 + i - 3 = i by omega, List.getD_eq_getElem?_getD, hx]
        rfl
      · rw [updF_ne _ _ e]
    · rintro σ H3 ⟨b3, x3, d3, z, rfl⟩
      refine ⟨s, _, ds, _, rfl, x3, T.o_Run.cl, T.n_Run_cells, by simp, ?_⟩
      have b4 : But s H (upd H3 s (.ins A.Run ds (putF "cells" (.ref c) [("deeds", .ref d)]))) := b3.trans (But.at s _ _)
      have x4 : (upd H3 s (.ins A.Run ds (putF "cells" (.ref c) [("deeds", .ref d)]))) s = some (.ins A.Run ds [("deeds", .ref d), ("cells", .ref c)]) := upd_same
      have d4 : (upd H3 s (.ins A.Run ds (putF "cells" (.ref c) [("deeds", .ref d)]))) d = some (.dK (dk N (dIx dv.length) (dV dv))) := by rw [upd_ne ds0]; exact d3
      generalize upd H3 s (.ins A.Run ds (putF "cells" (.ref c) [("deeds", .ref d)])) = H4 at b4 x4 d4 ⊢
      refine fun b db hb hdb hne => ⟨b, db, rfl, upd_same, fun l sd t e H5 nl ns nt _ bt nb => ⟨rfl, ?_⟩⟩
      have sm5 : Same H4 H5 := But.same bt hb hdb
      have l4 := new_none hb hdb nl
      have t4 := new_none hb hdb nt
      have bs : b ≠ s := fun z => by rw [z, x4] at hb; cases hb
      have ls : l ≠ s := fun z => by rw [z, x4] at l4; cases l4
      have ts : t ≠ s := fun z => by rw [z, x4] at t4; cases t4
      have cs : c ≠ s := fun z => by rw [z, hs] at G; cases G
      have l0 := b4.none ls l4
      have t0 := b4.none ts t4
      have c5 := sm5 _ _ (b4 _ cs _ G)
      have cd : d ≠ c := fun z => by rw [z, G] at hd; cases hd
      refine ⟨s, _, ds, _, rfl, sm5 _ _ x4, T.o_Run.cl, T.n_Run_book, by simp, ?_⟩
      refine q d b db sd e t l _ ((b4.trans (But.of sm5)).trans (But.at s _ _)) (b4.none bs hb) t0 l0 hd ⟨upd_same, ?_, ?_, ?_, ⟨[], ?_, .nil⟩, ⟨[], ?_, .nil⟩, Ne.symm bs, nb.tl, cd⟩
      · rw [upd_ne bs]; exact nb.b
      · rw [upd_ne ds0]; exact sm5 _ _ d4
      · rw [upd_ne cs]; exact c5
      · rw [upd_ne ts]; exact nb.ht
      · rw [upd_ne ls]; exact nb.hl
end
end K26

set_option Elab.async false
set_option linter.all false
set_option maxRecDepth 100000
set_option maxHeartbeats 4000000
namespace K26
open PySem L2
section
variable {P : Program} {w : World} {K : PySem.W.Frag} {mg : Str → Option Value} {base : Heap} {A : Adr} {N : Nat → Str} {ds : List Dd} {dv : List V}
def AtV (N : Nat → Str) (idx : List Nat) (k : S) (v : V) (i : Int) : Prop := v = .int i ∨ ∃ a : Nat, v = .str (N a) ∧ a ∈ idx ∧ i = k.num a
theorem at_th {idx : List Nat} (k : S) {th : Th} (h : th.ok idx) : AtV N idx k (th.v N) (th.num k) := by
  cases th with
  | i n => exact Or.inl rfl
  | x a => exact Or.inr ⟨a, rfl, h, rfl⟩
def sp_at (A : Adr) (N : Nat → Str) (ds : List Dd) (dv : List V) : Sp := fun vs H Q _ => ∃ (r : Ra) (k : S) (v : V) (i : Int), Names N ds ∧ vs = [.ref r.s, v] ∧ RunAt A N (idxOf ds) dv H r k ∧ AtV N (idxOf ds) k v i ∧ Q (.int i) H
theorem h_at (T : Txt K mg A) : HasM P w K mg base 1 A.Run "number_at" ["self", "thing"] (sp_at A N ds dv) := by
  refine T.m_Run_number_at.has (k := 0) sc_Run_number_at (fun vs H Q E h => ?_) (fun f cdv A' outer s' H vs Q E hr hu h => ?_)
  · obtain ⟨r, k, v, i, _, rfl, _⟩ := h
    rfl
  · obtain ⟨r, k, v, i, Z, rfl, R, h, q⟩ := h
    refine ⟨_, (pss_one (ps_ret (pe_ifExp (pt_tru (pe_callB c_isinst rfl T.z_isinstance (by boot_by_name) (pa_cons (fv 1) (pa_cons (pe_bltn (v := .ty "str") rfl T.z_str (by boot_by_name) rfl) pa_nil))) (fun _ => rfl)) (pe_ix (ix_all hu) (pe_fld (fv 0) rfl) (fv 1) (fun _ _ => rfl)) (fv 1)))), ?_⟩
    rcases h with rfl | ⟨a, rfl, ha, rfl⟩
    · exact ⟨_, _, _, false, rfl, (fun z => by cases z), .int i, kit_is, false, rfl, iteF q⟩
    · exact ⟨_, _, _, true, rfl, (fun z => by cases z), .str _, kit_ss, true, rfl, iteT ⟨r.s, _, r.ds, _, _, rfl, R.hs, T.o_Run.cl, T.n_Run_cells, rfl, _, R.get Z.D Z.b ha, q⟩⟩
def sp_for (A : Adr) (N : Nat → Str) (ds : List Dd) (dv : List V) : Sp := fun vs H Q _ => ∃ (r : Ra) (k : S) (p : Addr) (val : Val), Names N ds ∧ vs = [.ref r.s, .ref p] ∧ RunAt A N (idxOf ds) dv H r k ∧ k.ok ∧ H p = some (.tup (vV N val)) ∧ val.ok (idxOf ds) ∧ Q (.int (val.num k)) H
theorem h_for (T : Txt K mg A) : HasM P w K mg base 3 A.Run "number_for" ["self", "value"] (sp_for A N ds dv) := by
  have D_number_at := h_at (P := P) (w := w) (base := base) (N := N) (ds := ds) (dv := dv) T
  have D_reckon := h_reckon (P := P) (w := w) (base := base) T
  refine T.m_Run_number_for.has (k := 2) sc_Run_number_for (fun vs H Q E h => ?_) (fun f cdv A' outer s' H vs Q E hr hu h => ?_)
  · obtain ⟨r, k, p, val, _, rfl, _⟩ := h
    rfl
  · obtain ⟨r, k, p, val, Z, rfl, R, ok, hp, vo, q⟩ := h
    have hT : SqT K H p (vV N val) := SqT.of hp
    refine ⟨_, (pss_cons (ps_if (pt_cmpR (o_eqU hu) (pe_callB c_lenA rfl T.z_len (by boot_by_name) (pa_cons (fv 1) pa_nil)) (pe_int) (nomark _))
      (pss_one (ps_ret (pe_methD (fv 0) T.o_Run.cl D_number_at hr (pa_cons (pe_ix (ix_all hu) (fv 1) (pe_int) (fun _ _ => rfl)) pa_nil))))
      pss_nil)
    (pss_cons (ps_set (i := 2) sc_Run_number_for.nd rfl (Or.inl rfl) (pe_methD (fv 0) T.o_Run.cl D_number_at hr (pa_cons (pe_ix (ix_all hu) (fv 1) (pe_int) (fun _ _ => rfl)) pa_nil)))
    (pss_cons (ps_if (pt_cmpR (o_eqU hu) (pe_ix (ix_all hu) (fv 1) (pe_int) (fun _ _ => rfl)) (pe_str) (nomark _))
      pss_never
      pss_nil)
    (pss_one (ps_ret (pe_callD D_reckon hr (pa_cons (pe_methD (fv 0) T.o_Run.cl D_number_at hr (pa_cons (pe_ix (ix_all hu) (fv 1) (pe_int) (fun _ _ => rfl)) pa_nil)) (pa_cons (pe_ix (ix_all hu) (fv 1) (pe_int) (fun _ _ => rfl)) (pa_cons (fv 2) pa_nil))))))))), ?_⟩
    refine Or.inl ⟨_, _, rfl, Or.inr ⟨_, hT, rfl⟩, rfl, _, rfl, ?_⟩
    cases val with
    | one a =>
      refine ite2 (fun b => ?_) (fun b => absurd rfl b)
      exact ⟨r.s, r.ds, _, rfl, R.hs, rfl, Or.inl ⟨_, _, Or.inr hT, rfl, r, k, _, _, Z, rfl, R, at_th k vo, q⟩⟩
    | op a x i =>
      have xa : x ≠ "at" := by
        rcases vo.2.2 with rfl | rfl <;> decide
      refine ite2 (fun b => absurd b (by show ¬ decide (V.int 3 = V.int 1) = true; decide)) (fun b => ?_)
      refine ⟨r.s, r.ds, _, rfl, R.hs, rfl, Or.inl ⟨_, _, Or.inr hT, rfl, r, k, _, _, Z, rfl, R, at_th k vo.2.1, ?_⟩⟩
      refine Or.inl ⟨_, _, Or.inr hT, rfl, rfl, _, rfl, ?_⟩
      refine ite2 (fun b => absurd (of_decide_eq_true b) (fun z => xa (V.str.inj z))) (fun b => ?_)
      refine ⟨r.s, r.ds, _, rfl, R.hs, rfl, Or.inl ⟨_, _, Or.inr hT, rfl, r, k, _, _, Z, rfl, R, at_th k vo.1, ?_⟩⟩
      exact Or.inl ⟨_, _, Or.inr hT, rfl, _, _, _, rfl, (Th.num_in ok vo.1).1, (Th.num_in ok vo.1).2, (Th.num_in ok vo.2.1).1, (Th.num_in ok vo.2.1).2, q⟩
def sp_told (K : PySem.W.Frag) (A : Adr) (N : Nat → Str) (ds : List Dd) (dv : List V) : Sp := fun vs H Q _ => ∃ (r : Ra) (k : S) (a : Addr), Names N ds ∧ vs = [.ref r.s, .ref a] ∧ RunAt A N (idxOf ds) dv H r k ∧ k.ok ∧
  ((∃ (dx p : Addr) (n : Int) (h : Str) (val : Val), val.ok (idxOf ds) ∧ H a = some (.ins A.SendRow dx [("number", .int n), ("name", .str h), ("value", .ref p)]) ∧ H p = some (.tup (vV N val)) ∧ Q (.int (val.num k)) H) ∨ (∃ C : Addr, TyOf K H (.ref a) (.ref C) ∧ PySem.W.kitOne K (.ref C) (.ref A.SendRow) = some false ∧ PySem.W.kitOne K (.ref C) (.ref A.SayRow) = some false ∧ Q .non H))
theorem h_told (T : Txt K mg A) : HasM P w K mg base 4 A.Run "number_told" ["self", "row"] (sp_told K A N ds dv) := by
  have D_number_for := h_for (P := P) (w := w) (base := base) (N := N) (ds := ds) (dv := dv) T
  refine T.m_Run_number_told.has (k := 3) sc_Run_number_told (fun vs H Q E h => ?_) (fun f cdv A' outer s' H vs Q E hr hu h => ?_)
  · obtain ⟨r, k, a, _, rfl, _⟩ := h
    rfl
  · obtain ⟨r, k, a, Z, rfl, R, ok, h⟩ := h
    refine ⟨_, (pss_cons (ps_if (PW.pt (pw_or (pt_tru (pe_callB c_isinst rfl T.z_isinstance (by boot_by_name) (pa_cons (fv 1) (pa_cons (pe_gtup T.o_SendRow.mg) pa_nil))) (fun _ => rfl)) (pw_or1 (pt_tru (pe_callB c_isinst rfl T.z_isinstance (by boot_by_name) (pa_cons (fv 1) (pa_cons (pe_gtup T.o_SayRow.mg) pa_nil))) (fun _ => rfl)))))
      (pss_one (ps_ret (pe_methD (fv 0) T.o_Run.cl D_number_for hr (pa_cons (pe_fld (fv 1) rfl) pa_nil))))
      pss_nil)
    (pss_one (ps_ret (pe_non)))), ?_⟩
    rcases h with ⟨dx, p, n, hh, val, vo, ha, hp, q⟩ | ⟨C, ty, k1, k2, q⟩
    · refine ⟨_, _, _, true, rfl, (fun z => by cases z), T.o_SendRow.tyOf ha, kitT T.o_SendRow, true, rfl, iteT ?_⟩
      exact ⟨r.s, r.ds, _, rfl, R.hs, rfl, a, _, dx, _, _, rfl, ha, T.o_SendRow.cl, T.n_SendRow_value, rfl, r, k, p, val, Z, rfl, R, ok, hp, vo, q⟩
    · refine ⟨_, _, _, false, rfl, (fun z => by cases z), ty, k1, false, rfl, iteF ?_⟩
      exact ⟨_, _, _, false, rfl, (fun z => by cases z), ty, k2, false, rfl, iteF q⟩
def S.idle (s : S) (n : Int) : S := { s with steps := s.steps + n }
theorem S.ok.idle {s : S} (h : s.ok) (n : Int) : (s.idle n).ok := h
def sp_pass (A : Adr) (N : Nat → Str) (ds : List Dd) (dv : List V) : Sp := fun vs H Q _ => ∃ (r : Ra) (n : Int) (k : S), vs = [.ref r.s, .int n] ∧ RunAt A N (idxOf ds) dv H r k ∧ ∀ H', But r.b H H' → RunAt A N (idxOf ds) dv H' r (k.idle n) → Q .non H'
theorem h_pass (T : Txt K mg A) : HasM P w K mg base 1 A.Run "pass_steps" ["self", "count"] (sp_pass A N ds dv) := by
  refine T.m_Run_pass_steps.has (k := 0) sc_Run_pass_steps (fun vs H Q E h => ?_) (fun f cdv A' outer s' H vs Q E hr hu h => ?_)
  · obtain ⟨r, n, k, rfl, _⟩ := h
    rfl
  · obtain ⟨r, n, k, rfl, R, q⟩ := h
    refine ⟨_, (pss_cons (ps_set (i := 2) sc_Run_pass_steps.nd rfl (Or.inl rfl) (pe_fld (fv 0) rfl))
    (pss_one (ps_fldaug (fv 2) (fv 1) in_add))), ?_⟩
    refine ⟨r.s, _, r.ds, _, _, rfl, R.hs, T.o_Run.cl, T.n_Run_book, rfl, ?_⟩
    refine ⟨r.b, _, r.db, _, _, rfl, R.hb, T.o_Book.cl, T.n_Book_steps, rfl, _, _, rfl, rfl, r.db, _, R.hb, by simp, ?_⟩
    exact q _ (But.at r.b _ _) (R.steps (k.steps + n))
end
end K26

set_option Elab.async false
set_option linter.all false
set_option maxRecDepth 100000
set_option maxHeartbeats 4000000
namespace K26
open PySem L2
section
variable {P : Program} {w : World} {K : PySem.W.Frag} {mg : Str → Option Value} {base : Heap} {A : Adr} {N : Nat → Str} {ds : List Dd} {dv : List V}
def Wf (ds : List Dd) : Nat → Rw → Prop
  | f + 1, .call _ d ts => ∃ D, ds[d]? = some D ∧ D.parts.length = ts.length ∧ ∀ r ∈ D.body, Wf ds f r
  | 0, .call _ _ _ => False
  | _, _ => True
structure Fresh (H0 : Hp) (r : Ra) : Prop where
  b : H0 r.b = none
  t : H0 r.t = none
  l : H0 r.l = none
  c : H0 r.c = none
def After (A : Adr) (N : Nat → Str) (ds : List Dd) (dv : List V) (H0 : Hp) (r : Ra) (q : S) (v : V) (Q : VK) : Prop := ∀ H', Same H0 H' → RunAt A N (idxOf ds) dv H' r q → q.ok → Q v H'
def sp_doRow (A : Adr) (N : Nat → Str) (ds : List Dd) (dv : List V) (f : Nat) : Sp := fun vs H Q _ => ∃ (r : Ra) (k : S) (v : V) (rw : Rw) (H0 : Hp), Names N ds ∧ vs = [.ref r.s, v] ∧ Same H0 H ∧ Fresh H0 r ∧ RunAt A N (idxOf ds) dv H r k ∧ k.ok ∧ DsAt A N (idxOf ds) H0 dv ds ∧ RowAt A N (idxOf ds) H0 v rw ∧ Wf ds f rw ∧ k.room (cost ds f rw) ∧ After A N ds dv H0 r (leaf ds f k rw) (.bl false) Q
def sp_doRows (A : Adr) (N : Nat → Str) (ds : List Dd) (dv : List V) (f : Nat) : Sp := fun vs H Q _ => ∃ (r : Ra) (k : S) (q : Addr) (xs : List V) (rows : List Rw) (H0 : Hp), Names N ds ∧ vs = [.ref r.s, .ref q] ∧ Same H0 H ∧ Fresh H0 r ∧ RunAt A N (idxOf ds) dv H r k ∧ k.ok ∧ DsAt A N (idxOf ds) H0 dv ds ∧ H0 q = some (.lst xs) ∧
  PySem.Paired (RowAt A N (idxOf ds) H0) xs rows ∧ (∀ rw ∈ rows, Wf ds f rw) ∧ k.room ((rows.map (cost ds f)).sum) ∧ After A N ds dv H0 r (rowsBy ds f k rows) (.bl false) Q
def sp_doCall (A : Adr) (N : Nat → Str) (ds : List Dd) (dv : List V) : Nat → Sp
  | 0 => fun _ _ _ _ => False
  | f + 1 => fun vs H Q _ => ∃ (r : Ra) (k : S) (a : Addr) (n : Int) (d : Nat) (ts : List Th) (D : Dd) (H0 : Hp), Names N ds ∧ vs = [.ref r.s, .ref a] ∧ Same H0 H ∧ Fresh H0 r ∧ RunAt A N (idxOf ds) dv H r k ∧ k.ok ∧ DsAt A N (idxOf ds) H0 dv ds ∧ RowAt A N (idxOf ds) H0 (.ref a) (.call n d ts) ∧
    ds[d]? = some D ∧ D.parts.length = ts.length ∧ (∀ rw ∈ D.body, Wf ds f rw) ∧ k.room ((D.body.map (cost ds f)).sum) ∧ After A N ds dv H0 r (D.body.foldl (leaf ds f) (k.puts (D.parts.zip (ts.map (Th.num k))))) .non Q
theorem fold_step {α β : Type} (f : β → α → β) (b : β) {xs : List α} {i : Nat} {x : α} (h : xs[i]? = some x) : (xs.take (i + 1)).foldl f b = f ((xs.take i).foldl f b) x := by
  rw [List.take_add_one, h]
  simp
theorem h_doRows_of {j f : Nat} (T : Txt K mg A) (D : HasM P w K mg base j A.Run "do_row" ["self", "row"] (sp_doRow A N ds dv f)) : HasM P w K mg base (j + 1) A.Run "do_rows" ["self", "rows"] (sp_doRows A N ds dv f) := by
  have D_do_row := D
  refine T.m_Run_do_rows.has (k := j) sc_Run_do_rows (fun vs H Q E h => ?_) (fun f' cdv A' outer s' H vs Q E hr hu h => ?_)
  · obtain ⟨r, k, q, xs, rows, H0, _, rfl, _⟩ := h
    rfl
  · obtain ⟨r, k, q, xs, rows, H0, Z, rfl, s0, Fr, R, ok, dA, hq, pr, wf, rm, g⟩ := h
    refine ⟨_, (pss_cons (ps_set (i := 2) sc_Run_do_rows.nd rfl (Or.inl rfl) (pe_bl))
    (pss_cons (ps_for PassesOwn.never rfl (pi_any (fv 1)) (pg_name (i := 3) sc_Run_do_rows.nd rfl (by first | exact Or.inl rfl | exact Or.inr rfl))
      (pss_one (ps_if (pt_tru (pe_methD (hj := by omega) (fv 0) T.o_Run.cl D_do_row hr (pa_cons (fv 3) pa_nil)) (fun _ => rfl))
        (pss_one (ps_set (i := 2) sc_Run_do_rows.nd rfl (Or.inl rfl) (pe_bl)))
        pss_nil)))
    (pss_one (ps_ret (fv 2))))), ?_⟩
    refine Or.inl ⟨⟨_, SqL.of (s0 _ _ hq)⟩, for_list (K := K) (xs := xs) (fun i σ H2 => Same H0 H2 ∧ RunAt A N (idxOf ds) dv H2 r ((rows.take i).foldl (leaf ds f) k) ∧ ((rows.take i).foldl (leaf ds f) k).ok ∧ ((rows.take i).foldl (leaf ds f) k).room (((rows.drop i).map (cost ds f)).sum) ∧
      ∃ v, σ = [some (.ref r.s), some (.ref q), some (.bl false), v]) ⟨s0, R, ok, rm, none, rfl⟩ (fun i σ H2 _ h => SqL.of (h.1 _ _ hq)) ?_ ?_⟩
    · rintro i v σ H2 hx ⟨s2, R2, ok2, rm2, z, rfl⟩
      obtain ⟨rw, hrw, W⟩ := paired_get pr hx
      rw [fold_step _ _ hrw]
      rw [drop_at hrw, List.map_cons, List.sum_cons] at rm2
      generalize (rows.take i).foldl (leaf ds f) k = k2 at R2 rm2 ok2 ⊢
      refine ⟨r.s, r.ds, _, rfl, R2.hs, rfl, r, k2, v, rw, H0, Z, rfl, s2, Fr, R2, ok2, dA, W, wf rw (List.mem_of_getElem? hrw), rm2.le (by omega), fun H3 s3 R3 ok3 => ⟨_, rfl, iteF ?_⟩⟩
      exact ⟨s3, R3, ok3, room_leaf ds f k2 rw _ rm2, _, rfl⟩
    · rintro σ H2 ⟨s2, R2, ok2, rm2, z, rfl⟩
      have hl : xs.length = rows.length := Paired.length pr
      rw [hl, List.take_length] at R2 ok2
      exact g H2 s2 R2 ok2
theorem num_tell (k : S) (n : Int) (v : V) (val : Val) : val.num (k.tell n v) = val.num k := by
  cases val with
  | one a => cases a <;> rfl
  | op a w b => cases a <;> cases b <;> rfl
theorem num_idle (k : S) (n : Int) (val : Val) : val.num (k.idle n) = val.num k := by
  cases val with
  | one a => cases a <;> rfl
  | op a w b => cases a <;> cases b <;> rfl
theorem tlen_of {H : Hp} {k : S} (hr : k.room 1) {xs : List V} (h : Tups H xs k.trace) : xs.length < sizeLine := by
  have := h.len
  have h1 := hr.1
  have : sizeLine ≥ 1001 := by decide
  omega
theorem llen_of {H : Hp} {k : S} (hr : k.room 1) {xs : List V} (h : Tups H xs k.letters) : xs.length < sizeLine := by
  have := h.len
  have h1 := hr.2
  have : sizeLine ≥ 1001 := by decide
  omega
theorem cost_pos (ds : List Dd) (f : Nat) (rw : Rw) : 1 ≤ cost ds f rw := by
  cases f with
  | zero => cases rw <;> exact Nat.le_refl _
  | succ f =>
    cases rw with
    | set n x v => exact Nat.le_refl _
    | snd n x v => exact Nat.le_refl _
    | call n d ts =>
      unfold cost
      split <;> omega
theorem idx_short (Z : Names N ds) {g : Nat → V} : (dk N (idxOf ds) g).length < sizeLine := small1000 (by
  unfold dk
  rw [List.length_map]
  exact Z.l)
end
end K26

set_option Elab.async false
set_option linter.all false
set_option maxRecDepth 100000
set_option maxHeartbeats 4000000
namespace K26
open PySem L2
section
variable {P : Program} {w : World} {K : PySem.W.Frag} {mg : Str → Option Value} {base : Heap} {A : Adr} {N : Nat → Str} {ds : List Dd} {dv : List V}
theorem th_tell (k : S) (n : Int) (v : V) : Th.num (k.tell n v) = Th.num k := by
  funext a
  cases a <;> rfl
theorem h_doRow_of {j f : Nat} (hj : 5 ≤ j) (T : Txt K mg A) (D : HasM P w K mg base j A.Run "do_call" ["self", "row"] (sp_doCall A N ds dv f)) : HasM P w K mg base (j + 1) A.Run "do_row" ["self", "row"] (sp_doRow A N ds dv f) := by
  have D_do_call := D
  have D_number_told := h_told (P := P) (w := w) (base := base) (N := N) (ds := ds) (dv := dv) T
  have D_number_for := h_for (P := P) (w := w) (base := base) (N := N) (ds := ds) (dv := dv) T
  have D_pass_steps := h_pass (P := P) (w := w) (base := base) (N := N) (ds := ds) (dv := dv) T
  refine T.m_Run_do_row.has (k := j) sc_Run_do_row (fun vs H Q E h => ?_) (fun f' cdv A' outer s' H vs Q E hr hu h => ?_)
  · obtain ⟨r, k, v, rw, H0, _, rfl, _⟩ := h
    rfl
  · obtain ⟨r, k, v, rw, H0, Z, rfl, s0, Fr, R, ok, dA, W, wf, rm, q⟩ := h
    refine ⟨_, (pss_cons (ps_expr (pe_methD (hj := by omega) (fv 0) T.o_Run.cl D_pass_steps hr (pa_cons (pe_int) pa_nil)))
    (pss_cons (ps_set (i := 2) sc_Run_do_row.nd rfl (Or.inl rfl) (pe_fld (fv 0) rfl))
    (pss_cons (ps_set (i := 3) sc_Run_do_row.nd rfl (Or.inl rfl) (pe_methD (hj := by omega) (fv 0) T.o_Run.cl D_number_told hr (pa_cons (fv 1) pa_nil)))
    (pss_cons (ps_expr (m_append (pe_fld (fv 2) rfl) (pa_cons (pe_tup (pa_cons (pe_fld (fv 1) rfl) (pa_cons (pe_fld (fv 2) rfl) (pa_cons (fv 3) pa_nil)))) pa_nil)))
    (pss_cons (ps_if (pt_tru (pe_callB c_isinst rfl T.z_isinstance (by boot_by_name) (pa_cons (fv 1) (pa_cons (pe_gtup T.o_SetRow.mg) pa_nil))) (fun _ => rfl))
      (pss_one (ps_asg (pe_methD (hj := by omega) (fv 0) T.o_Run.cl D_number_for hr (pa_cons (pe_fld (fv 1) rfl) pa_nil)) (pg_sub (pe_fld (fv 0) rfl) (pe_fld (fv 1) rfl) (st_all hu set_list))))
      (pss_one (ps_if (pt_tru (pe_callB c_isinst rfl T.z_isinstance (by boot_by_name) (pa_cons (fv 1) (pa_cons (pe_gtup T.o_PutRow.mg) pa_nil))) (fun _ => rfl))
        pss_never
        (pss_one (ps_if (pt_tru (pe_callB c_isinst rfl T.z_isinstance (by boot_by_name) (pa_cons (fv 1) (pa_cons (pe_gtup T.o_SendRow.mg) pa_nil))) (fun _ => rfl))
          (pss_one (ps_expr (m_append (pe_fld (fv 2) rfl) (pa_cons (pe_tup (pa_cons (pe_fld (fv 2) rfl) (pa_cons (pe_fld (fv 1) rfl) (pa_cons (pe_fld (fv 1) rfl) (pa_cons (fv 3) pa_nil))))) pa_nil))))
          (pss_one (ps_if (pt_tru (pe_callB c_isinst rfl T.z_isinstance (by boot_by_name) (pa_cons (fv 1) (pa_cons (pe_gtup T.o_SayRow.mg) pa_nil))) (fun _ => rfl))
            pss_never
            (pss_one (ps_if (pt_tru (pe_callB c_isinst rfl T.z_isinstance (by boot_by_name) (pa_cons (fv 1) (pa_cons (pe_gtup T.o_CallRow.mg) pa_nil))) (fun _ => rfl))
              (pss_one (ps_expr (pe_methD (hj := by omega) (fv 0) T.o_Run.cl D_do_call hr (pa_cons (fv 1) pa_nil))))
              (pss_one (ps_if (pt_tru (pe_callB c_isinst rfl T.z_isinstance (by boot_by_name) (pa_cons (fv 1) (pa_cons (pe_gtup T.o_IfRow.mg) pa_nil))) (fun _ => rfl))
                pss_never
                (pss_one (ps_if (pt_tru (pe_callB c_isinst rfl T.z_isinstance (by boot_by_name) (pa_cons (fv 1) (pa_cons (pe_gtup T.o_LoopRow.mg) pa_nil))) (fun _ => rfl))
                  pss_never
                  pss_nil)))))))))))))
    (pss_one (ps_ret (pe_callB c_isinst rfl T.z_isinstance (by boot_by_name) (pa_cons (fv 1) (pa_cons (pe_gtup T.o_LastRow.mg) pa_nil)))))))))), ?_⟩
    refine seq_cut fun B1 C1 => ?_
    refine ⟨r.s, r.ds, _, rfl, R.hs, rfl, r, 1, k, rfl, R, fun H2 b2 R2 => ?_⟩
    refine C1 _ _ ?_
    refine seq_cut fun B2 C2 => ?_
    have s2 : Same H0 H2 := Same.but s0 Fr.b b2
    refine ⟨r.s, _, r.ds, _, _, rfl, R2.hs, T.o_Run.cl, T.n_Run_book, rfl, ?_⟩
    refine C2 _ _ ?_
    refine seq_cut fun B3 C3 => ?_
    obtain ⟨ts, ht, tt⟩ := R2.ht
    have rm1 : k.room 1 := rm.le (cost_pos ds f rw)
    have tlen := tlen_of (k := k.idle 1) rm1 tt
    cases rw with
    | set n x val =>
      have W' : val.ok (idxOf ds) ∧ x ∈ idxOf ds ∧ ∃ a dx p, v = .ref a ∧ H0 a = some (.ins A.SetRow dx [("number", .int n), ("name", .str (N x)), ("value", .ref p)]) ∧ H0 p = some (.tup (vV N val)) := W
      obtain ⟨vo, xm, a, dx, p, rfl, ha, hp⟩ := W'
      refine ⟨r.s, r.ds, _, rfl, R2.hs, rfl, r, _, a, Z, rfl, R2, ok.idle 1, Or.inr ⟨_, T.o_SetRow.tyOf (s2 _ _ ha), kitF T.o_SetRow T.o_SendRow (cls_ne T 7 5) (cls_ne T 7 1), kitF T.o_SetRow T.o_SayRow (cls_ne T 8 5) (cls_ne T 8 1), ?_⟩⟩
      refine C3 _ _ ?_
      refine seq_cut fun B4 C4 => ?_
      refine ⟨r.b, _, r.db, _, _, rfl, R2.hb, T.o_Book.cl, T.n_Book_trace, rfl, Or.inl ⟨rfl, _, SqL.of ht⟩, a, _, dx, _, _, rfl, s2 _ _ ha, T.o_SetRow.cl, T.n_SetRow_number, rfl, r.b, _, r.db, _, _, rfl, R2.hb, T.o_Book.cl, T.n_Book_steps, rfl, ?_⟩
      refine ⟨(show 3 ≤ sizeLine by decide), fun p3 hp3 => ⟨_, _, _, rfl, rfl, Same.upd hp3 _ _ _ ht, tlen, ?_⟩⟩
      have R4 : RunAt A N (idxOf ds) dv _ r (k.tell n .non) := R2.trace (w := [.int n, .int (k.idle 1).steps, .non]) hp3 ht
      have s4 : Same H0 _ := Same.out (s2.trans (Same.upd hp3 (HO.tup [.int n, .int (k.idle 1).steps, .non]))) Fr.t (HO.lst (ts ++ [.ref p3]))
      generalize upd (upd H2 p3 (HO.tup [.int n, .int (k.idle 1).steps, .non])) r.t (HO.lst (ts ++ [.ref p3])) = H4 at R4 s4 ⊢
      refine C4 _ _ ?_
      refine seq_cut fun B5 C5 => ?_
      have ha4 := s4 _ _ ha
      have ok4 := ok.tell n .non
      refine ⟨_, _, _, true, rfl, (fun z => by cases z), T.o_SetRow.tyOf ha4, kitT T.o_SetRow, true, rfl, iteT ?_⟩
      refine ⟨r.s, r.ds, _, rfl, R4.hs, rfl, a, _, dx, _, _, rfl, ha4, T.o_SetRow.cl, T.n_SetRow_value, rfl, r, k.tell n .non, p, val, Z, rfl, R4, ok4, s4 _ _ hp, vo, ?_⟩
      rw [num_tell]
      refine ⟨r.s, _, r.ds, _, _, rfl, R4.hs, T.o_Run.cl, T.n_Run_cells, rfl, a, _, dx, _, _, rfl, ha4, T.o_SetRow.cl, T.n_SetRow_name, rfl, _, DPut.k (k := .inr (N x)) R4.hc (idx_short Z), ?_⟩
      have R5 := R4.put Z.D Z.b xm (val.num k)
      have s5 : Same H0 _ := Same.out s4 Fr.c (HO.dK (putK (dk N (idxOf ds) (iv (k.tell n .non).num)) (.inr (N x)) (.int (val.num k))))
      have ha5 := s5 _ _ ha
      refine C5 _ _ ?_
      refine ⟨_, _, _, false, rfl, (fun z => by cases z), T.o_SetRow.tyOf ha5, kitF T.o_SetRow T.o_LastRow (cls_ne T 10 5) (cls_ne T 10 1), ?_⟩
      have e : leaf ds f k (.set n x val) = (k.tell n .non).put x (val.num k) := by cases f <;> rfl
      rw [e] at q
      exact q _ s5 R5 (ok4.put x (Val.num_in ok vo))
    | snd n hh val =>
      have W' : val.ok (idxOf ds) ∧ ∃ a dx p, v = .ref a ∧ H0 a = some (.ins A.SendRow dx [("number", .int n), ("name", .str hh), ("value", .ref p)]) ∧ H0 p = some (.tup (vV N val)) := W
      obtain ⟨vo, a, dx, p, rfl, ha, hp⟩ := W'
      refine ⟨r.s, r.ds, _, rfl, R2.hs, rfl, r, k.idle 1, a, Z, rfl, R2, ok.idle 1, Or.inl ⟨dx, p, n, hh, val, vo, s2 _ _ ha, s2 _ _ hp, ?_⟩⟩
      rw [num_idle]
      refine C3 _ _ ?_
      refine seq_cut fun B4 C4 => ?_
      refine ⟨r.b, _, r.db, _, _, rfl, R2.hb, T.o_Book.cl, T.n_Book_trace, rfl, Or.inl ⟨rfl, _, SqL.of ht⟩, a, _, dx, _, _, rfl, s2 _ _ ha, T.o_SendRow.cl, T.n_SendRow_number, rfl, r.b, _, r.db, _, _, rfl, R2.hb, T.o_Book.cl, T.n_Book_steps, rfl, ?_⟩
      refine ⟨(show 3 ≤ sizeLine by decide), fun p3 hp3 => ⟨_, _, _, rfl, rfl, Same.upd hp3 _ _ _ ht, tlen, ?_⟩⟩
      have R4 : RunAt A N (idxOf ds) dv _ r (k.tell n (.int (val.num k))) := R2.trace (w := [.int n, .int (k.idle 1).steps, .int (val.num k)]) hp3 ht
      have s4 : Same H0 _ := Same.out (s2.trans (Same.upd hp3 (HO.tup [.int n, .int (k.idle 1).steps, .int (val.num k)]))) Fr.t (HO.lst (ts ++ [.ref p3]))
      generalize upd (upd H2 p3 (HO.tup [.int n, .int (k.idle 1).steps, .int (val.num k)])) r.t (HO.lst (ts ++ [.ref p3])) = H4 at R4 s4 ⊢
      refine C4 _ _ ?_
      refine seq_cut fun B5 C5 => ?_
      have ha4 := s4 _ _ ha
      refine ⟨_, _, _, false, rfl, (fun z => by cases z), T.o_SendRow.tyOf ha4, kitF T.o_SendRow T.o_SetRow (cls_ne T 5 7) (cls_ne T 5 1), false, rfl, iteF ?_⟩
      refine ⟨_, _, _, false, rfl, (fun z => by cases z), T.o_SendRow.tyOf ha4, kitF T.o_SendRow T.o_PutRow (cls_ne T 6 7) (cls_ne T 6 1), false, rfl, iteF ?_⟩
      refine ⟨_, _, _, true, rfl, (fun z => by cases z), T.o_SendRow.tyOf ha4, kitT T.o_SendRow, true, rfl, iteT ?_⟩
      obtain ⟨ls, hl, tl⟩ := R4.hl
      refine ⟨r.b, _, r.db, _, _, rfl, R4.hb, T.o_Book.cl, T.n_Book_letters, rfl, Or.inl ⟨rfl, _, SqL.of hl⟩, r.b, _, r.db, _, _, rfl, R4.hb, T.o_Book.cl, T.n_Book_steps, rfl, a, _, dx, _, _, rfl, ha4, T.o_SendRow.cl, T.n_SendRow_number, rfl, a, _, dx, _, _, rfl, ha4, T.o_SendRow.cl, T.n_SendRow_name, rfl, ?_⟩
      refine ⟨(show 4 ≤ sizeLine by decide), fun p5 hp5 => ⟨_, _, _, rfl, rfl, Same.upd hp5 _ _ _ hl, llen_of (k := k) rm1 tl, ?_⟩⟩
      have R6 := R4.letter (w := [.int (k.steps + 1), .int n, .str hh, .int (val.num k)]) hp5 hl
      have s6 : Same H0 _ := Same.out (s4.trans (Same.upd hp5 (HO.tup [.int (k.steps + 1), .int n, .str hh, .int (val.num k)]))) Fr.l (HO.lst (ls ++ [.ref p5]))
      have ha6 := s6 _ _ ha
      refine C5 _ _ ?_
      refine ⟨_, _, _, false, rfl, (fun z => by cases z), T.o_SendRow.tyOf ha6, kitF T.o_SendRow T.o_LastRow (cls_ne T 10 7) (cls_ne T 10 1), ?_⟩
      have e : leaf ds f k (.snd n hh val) = k.send n hh (val.num k) := by cases f <;> rfl
      rw [e] at q
      exact q _ s6 R6 (ok.send n hh (val.num k))
    | call n d th =>
      cases f with
      | zero => exact absurd wf id
      | succ f =>
      have W' : (∀ t ∈ th, t.ok (idxOf ds)) ∧ th.length ≤ 4 ∧ ∃ a dx p, v = .ref a ∧ H0 a = some (.ins A.CallRow dx [("number", .int n), ("name", .str (N (3 + d))), ("things", .ref p)]) ∧ H0 p = some (.lst (th.map (Th.v N))) := W
      obtain ⟨vo, tl4, a, dx, p, rfl, ha, hp⟩ := W'
      have wf' : ∃ D, ds[d]? = some D ∧ D.parts.length = th.length ∧ ∀ r ∈ D.body, Wf ds f r := wf
      obtain ⟨D, hD, pl, wb⟩ := wf'
      refine ⟨r.s, r.ds, _, rfl, R2.hs, rfl, r, _, a, Z, rfl, R2, ok.idle 1, Or.inr ⟨_, T.o_CallRow.tyOf (s2 _ _ ha), kitF T.o_CallRow T.o_SendRow (cls_ne T 7 9) (cls_ne T 7 1), kitF T.o_CallRow T.o_SayRow (cls_ne T 8 9) (cls_ne T 8 1), ?_⟩⟩
      refine C3 _ _ ?_
      refine seq_cut fun B4 C4 => ?_
      refine ⟨r.b, _, r.db, _, _, rfl, R2.hb, T.o_Book.cl, T.n_Book_trace, rfl, Or.inl ⟨rfl, _, SqL.of ht⟩, a, _, dx, _, _, rfl, s2 _ _ ha, T.o_CallRow.cl, T.n_CallRow_number, rfl, r.b, _, r.db, _, _, rfl, R2.hb, T.o_Book.cl, T.n_Book_steps, rfl, ?_⟩
      refine ⟨(show 3 ≤ sizeLine by decide), fun p3 hp3 => ⟨_, _, _, rfl, rfl, Same.upd hp3 _ _ _ ht, tlen, ?_⟩⟩
      have R4 : RunAt A N (idxOf ds) dv _ r (k.tell n .non) := R2.trace (w := [.int n, .int (k.idle 1).steps, .non]) hp3 ht
      have s4 : Same H0 _ := Same.out (s2.trans (Same.upd hp3 (HO.tup [.int n, .int (k.idle 1).steps, .non]))) Fr.t (HO.lst (ts ++ [.ref p3]))
      generalize upd (upd H2 p3 (HO.tup [.int n, .int (k.idle 1).steps, .non])) r.t (HO.lst (ts ++ [.ref p3])) = H4 at R4 s4 ⊢
      refine C4 _ _ ?_
      refine seq_cut fun B5 C5 => ?_
      have ha4 := s4 _ _ ha
      have ok4 := ok.tell n .non
      refine ⟨_, _, _, false, rfl, (fun z => by cases z), T.o_CallRow.tyOf ha4, kitF T.o_CallRow T.o_SetRow (cls_ne T 5 9) (cls_ne T 5 1), false, rfl, iteF ?_⟩
      refine ⟨_, _, _, false, rfl, (fun z => by cases z), T.o_CallRow.tyOf ha4, kitF T.o_CallRow T.o_PutRow (cls_ne T 6 9) (cls_ne T 6 1), false, rfl, iteF ?_⟩
      refine ⟨_, _, _, false, rfl, (fun z => by cases z), T.o_CallRow.tyOf ha4, kitF T.o_CallRow T.o_SendRow (cls_ne T 7 9) (cls_ne T 7 1), false, rfl, iteF ?_⟩
      refine ⟨_, _, _, false, rfl, (fun z => by cases z), T.o_CallRow.tyOf ha4, kitF T.o_CallRow T.o_SayRow (cls_ne T 8 9) (cls_ne T 8 1), false, rfl, iteF ?_⟩
      refine ⟨_, _, _, true, rfl, (fun z => by cases z), T.o_CallRow.tyOf ha4, kitT T.o_CallRow, true, rfl, iteT ?_⟩
      have rb : (k.tell n .non).room ((D.body.map (cost ds f)).sum) := by
        have rm' : k.room (match ds[d]? with | some D => 1 + (D.body.map (cost ds f)).sum | none => 1) := rm
        rw [hD] at rm'
        exact room_tell rm' n .non
      have e : leaf ds (f + 1) k (.call n d th) = D.body.foldl (leaf ds f) ((k.tell n .non).puts (D.parts.zip (th.map (Th.num (k.tell n .non))))) := by
        rw [th_tell]
        show (match ds[d]? with | some D => D.body.foldl (leaf ds f) ((k.tell n .non).puts (D.parts.zip (th.map (Th.num k)))) | none => k.tell n .non) = _
        rw [hD]
      rw [e] at q
      refine ⟨r.s, r.ds, _, rfl, R4.hs, rfl, r, k.tell n .non, a, n, d, th, D, H0, Z, rfl, s4, Fr, R4, ok4, dA, ⟨vo, tl4, a, dx, p, rfl, ha, hp⟩, hD, pl, wb, rb, fun H5 s5 R5 ok5 => C5 _ _ ?_⟩
      refine ⟨_, _, _, false, rfl, (fun z => by cases z), T.o_CallRow.tyOf (s5 _ _ ha), kitF T.o_CallRow T.o_LastRow (cls_ne T 10 9) (cls_ne T 10 1), ?_⟩
      exact q _ s5 R5 ok5
end
end K26

set_option Elab.async false
set_option linter.all false
set_option maxRecDepth 100000
set_option maxHeartbeats 4000000
namespace K26
open PySem L2
section
variable {P : Program} {w : World} {K : PySem.W.Frag} {mg : Str → Option Value} {base : Heap} {A : Adr} {N : Nat → Str} {ds : List Dd} {dv : List V}
theorem th_inj (Z : Names N ds) (k : S) {a b : Th} (ha : a.ok (idxOf ds)) (hb : b.ok (idxOf ds)) (h : a.v N = b.v N) : a.num k = b.num k := by
  cases a with
  | i n =>
    cases b with
    | i m => exact V.int.inj h
    | x c => cases h
  | x a =>
    cases b with
    | i m => cases h
    | x c => rw [Z.D a c (Z.b a ha) (Z.b c hb) (V.str.inj h)]
theorem nums_of {k : S} {R : V → V → Prop} : ∀ {ts : List Th} {ys : List V}, PySem.Paired R (ts.map (Th.v N)) ys → (∀ t ∈ ts, ∀ y, R (t.v N) y → y = .int (t.num k)) → ys = (ts.map (Th.num k)).map V.int
  | [], _, .nil, _ => rfl
  | t :: ts, _, .cons r p, h => by
    rw [List.map_cons, List.map_cons, h t List.mem_cons_self _ r, nums_of p fun u hu => h u (List.mem_cons_of_mem _ hu)]
theorem part_mem {d : Nat} {D : Dd} (h : ds[d]? = some D) {x : Nat} (hx : x ∈ D.parts) : x ∈ idxOf ds := (idx_pre h).subset (List.mem_append_right _ hx)
theorem h_doCall_of {j f : Nat} (hj : 2 ≤ j) (T : Txt K mg A) (hd : HasM P w K mg base j A.Run "do_rows" ["self", "rows"] (sp_doRows A N ds dv f)) : HasM P w K mg base (j + 1) A.Run "do_call" ["self", "row"] (sp_doCall A N ds dv (f + 1)) := by
  have D_do_rows := hd
  have D_number_at := h_at (P := P) (w := w) (base := base) (N := N) (ds := ds) (dv := dv) T
  refine T.m_Run_do_call.has (k := j) sc_Run_do_call (fun vs H Q E h => ?_) (fun f' cdv A' outer s' H vs Q E hr hu h => ?_)
  · obtain ⟨r, k, a, n, d, ts, D, H0, _, rfl, _⟩ := h
    rfl
  · obtain ⟨r, k, a, n, d, ts, D, H0, Z, rfl, s0, Fr, R, ok, dA, ⟨vo, tl4, a', dx, p, ea, ha, hp⟩, hD, pl, wb, rm, g⟩ := h
    cases ea
    have h8 : dv.length ≤ 8 := by rw [dA.1]; exact Z.n
    have hdl : d < dv.length := by rw [dA.1]; exact (List.getElem?_eq_some_iff.mp hD).1
    obtain ⟨D', hD', b, bx, pp, pb, bn, bs, eb, hb, hpp, hpb, W⟩ := dA.2 d _ (List.getElem?_eq_getElem hdl)
    rw [hD] at hD'
    cases hD'
    have hdv : dv[d]? = some (.ref b) := by rw [List.getElem?_eq_getElem hdl, eb]
    refine ⟨_, (pss_cons (ps_set (i := 2) sc_Run_do_call.nd rfl (Or.inl rfl) (pe_ix (ix_all hu) (pe_fld (fv 0) rfl) (pe_fld (fv 1) rfl) (fun _ _ => rfl)))
    (pss_cons (ps_setComp (j := 3) (N := ["thing", "self"]) (own := 1) (fr := [0]) (CompOk.of (by kernel_rfl!)) rfl sc_Run_do_call.nd rfl (Or.inl rfl) (pi_any (pe_fld (fv 1) rfl)) (fun b => pg_name (i := 0) (show List.Nodup (["thing", "self"] : List PySem.Str) by decide +kernel) rfl (by first | exact Or.inl rfl | exact Or.inr rfl)) (fun b => pf_nil) (fun b => pe_methD (hj := by omega) (fv 1) T.o_Run.cl D_number_at hr (pa_cons (fv 0) pa_nil)))
    (pss_cons (ps_for PassesOwn.never rfl (pi_zip rfl T.z_zip (pa_cons (pe_fld (fv 2) rfl) (pa_cons (fv 3) pa_nil))) (pg_tup rfl (pgs_cons (pg_name (i := 4) sc_Run_do_call.nd rfl (by first | exact Or.inl rfl | exact Or.inr rfl)) (pgs_cons (pg_name (i := 5) sc_Run_do_call.nd rfl (by first | exact Or.inl rfl | exact Or.inr rfl)) (pgs_nil))))
      (pss_one (ps_asg (fv 5) (pg_sub (pe_fld (fv 0) rfl) (fv 4) (st_all hu set_list)))))
    (pss_one (ps_expr (pe_methD (hj := by omega) (fv 0) T.o_Run.cl D_do_rows hr (pa_cons (pe_fld (fv 2) rfl) pa_nil))))))), ?_⟩
    refine seq_cut fun M1 K1 => ?_
    refine ⟨r.s, _, r.ds, _, _, rfl, R.hs, T.o_Run.cl, T.n_Run_deeds, rfl, a, _, dx, _, _, rfl, s0 _ _ ha, T.o_CallRow.cl, T.n_CallRow_name, rfl, _, R.deed Z.D h8 hdv, K1 _ _ ?_⟩
    refine seq_cut fun M2 K2 => ?_
    refine ⟨a, _, dx, _, _, rfl, s0 _ _ ha, T.o_CallRow.cl, T.n_CallRow_things, rfl, Or.inl ⟨⟨_, SqL.of (s0 _ _ hp)⟩, ?_⟩⟩
    refine comp_pairF (K := K) (xs := ts.map (Th.v N)) (fun _ => true) (fun x y _ => ∀ th : Th, th.ok (idxOf ds) → x = th.v N → y = .int (th.num k)) (SqL.of (s0 _ _ hp)) (small1000 (by rw [List.length_map]; omega)) (fun b x H2 S _ _ k => k _ (Same.refl _)) (fun b' x H2 S hx _ s2 kk => ?_) (fun _ _ _ _ _ h => h) (fun _ _ _ _ _ _ _ h => h) (fun nl H2 ys hnl s2 e2 pr => ?_)
    · obtain ⟨t, ht, rfl⟩ := List.mem_map.mp hx
      have R2 := R.same s2
      refine ⟨r.s, r.ds, _, rfl, R2.hs, rfl, r, k, _, _, Z, rfl, R2, at_th k (vo t ht), kk _ _ (Same.refl _) fun th ho e => ?_⟩
      rw [th_inj Z k (vo t ht) ho e]
    have ey : ys = (ts.map (Th.num k)).map V.int := by
      rw [filter_true] at pr
      exact nums_of pr fun t ht y h => h t (vo t ht) rfl
    subst ey
    refine K2 _ _ ?_
    refine seq_cut fun M3 K3 => ?_
    have s02 := s0.trans s2
    have nl0 := Same.free s0 hnl
    refine ⟨b, _, bx, _, _, rfl, s02 _ _ hb, T.o_DeedRow.cl, T.n_DeedRow_parts, rfl, _, _, rfl, ⟨_, SqL.of (s02 _ _ hpp)⟩, ⟨_, SqL.of e2⟩, ?_⟩
    refine for_zip (K := K) (xs := D.parts.map fun i => V.str (N i)) (ys := (ts.map (Th.num k)).map V.int) (fun i σ H3 => Same H0 H3 ∧ RunAt A N (idxOf ds) dv H3 r (k.puts ((D.parts.zip (ts.map (Th.num k))).take i)) ∧ (k.puts ((D.parts.zip (ts.map (Th.num k))).take i)).ok ∧ H3 nl = some (.lst ((ts.map (Th.num k)).map V.int)) ∧ ∃ z4 z5, σ = [some (.ref r.s), some (.ref a), some (.ref b), some (.ref nl), z4, z5]) ⟨s02, R.same s2, ok, e2, none, none, rfl⟩ (fun i σ H3 _ h => ⟨SqL.of (h.1 _ _ hpp), SqL.of h.2.2.2.1⟩) (by rw [List.length_map, List.length_map, List.length_map]; exact pl) ?_ ?_
    · rintro i x y σ H3 tp hx hy ⟨s3, R3, ok3, e3, z4, z5, rfl⟩ htp
      rw [List.getElem?_map] at hx hy
      cases hpi : D.parts[i]? with
      | none => rw [hpi] at hx; cases hx
      | some q =>
      cases hvi : (ts.map (Th.num k))[i]? with
      | none => rw [hvi] at hy; cases hy
      | some u =>
      rw [hpi] at hx
      rw [hvi] at hy
      cases hx
      cases hy
      have zi : (D.parts.zip (ts.map (Th.num k)))[i]? = some (q, u) := by
        rw [List.getElem?_zip_eq_some]
        exact ⟨hpi, hvi⟩
      have ui : In u := by
        have := List.mem_of_getElem? hvi
        obtain ⟨t, ht, rfl⟩ := List.mem_map.mp this
        exact Th.num_in ok (vo t ht)
      have e : k.puts ((D.parts.zip (ts.map (Th.num k))).take (i + 1)) = (k.puts ((D.parts.zip (ts.map (Th.num k))).take i)).put q u := fold_step _ _ zi
      rw [e]
      generalize k.puts ((D.parts.zip (ts.map (Th.num k))).take i) = k3 at R3 ok3 ⊢
      have s4 := Same.upd htp (HO.tup [V.str (N q), .int u])
      have e4 : (upd H3 tp (HO.tup [V.str (N q), .int u])) tp = some (.tup [V.str (N q), .int u]) := upd_same
      generalize upd H3 tp (HO.tup [V.str (N q), .int u]) = H4 at s4 e4 ⊢
      have R4 := R3.same s4
      refine ⟨tp, _, rfl, SqT.of e4, rfl, _, _, rfl, _, _, rfl, rfl, ?_⟩
      have xm := part_mem hD (List.mem_of_getElem? hpi)
      refine ⟨r.s, _, r.ds, _, _, rfl, R4.hs, T.o_Run.cl, T.n_Run_cells, rfl, _, DPut.k (k := .inr (N q)) R4.hc (idx_short Z), ?_⟩
      have ne : nl ≠ r.c := fun z => by have := R3.hc; rw [← z, e3] at this; cases this
      exact ⟨Same.out (s3.trans s4) Fr.c _, R4.put Z.D Z.b xm u, ok3.put q ui, by rw [upd_ne ne]; exact s4 _ _ e3, _, _, rfl⟩
    · rintro σ H3 ⟨s3, R3, ok3, e3, z4, z5, rfl⟩
      have full : (D.parts.zip (ts.map (Th.num k))).take (D.parts.map fun i => V.str (N i)).length = D.parts.zip (ts.map (Th.num k)) := List.take_of_length_le (by simp only [List.length_zip, List.length_map]; exact Nat.min_le_left _ _)
      rw [full] at R3 ok3
      refine K3 _ _ ?_
      exact ⟨r.s, r.ds, _, rfl, R3.hs, rfl, b, _, bx, _, _, rfl, s3 _ _ hb, T.o_DeedRow.cl, T.n_DeedRow_body, rfl, r, _, pb, bs, D.body, H0, Z, rfl, s3, Fr, R3, ok3, dA, hpb, W, wb, puts_room rm _, fun H4 s4 R4 ok4 => g H4 s4 R4 ok4⟩
end
end K26

set_option Elab.async false
set_option linter.all false
set_option maxRecDepth 100000
set_option maxHeartbeats 4000000
namespace K26
open PySem L2
section
variable {P : Program} {w : World} {K : PySem.W.Frag} {mg : Str → Option Value} {base : Heap} {A : Adr} {N : Nat → Str} {ds : List Dd} {dv : List V}
theorem h_doCall (T : Txt K mg A) : ∀ f, HasM P w K mg base (5 + 3 * f) A.Run "do_call" ["self", "row"] (sp_doCall A N ds dv f)
  | 0 => by
    refine T.m_Run_do_call.has (k := 4) sc_Run_do_call (fun vs H Q E h => ?_) (fun f' cdv A' outer s' H vs Q E hr hu h => ?_)
    · exact h.elim
    · exact h.elim
  | f + 1 => h_doCall_of (j := 5 + 3 * f + 2) (by omega) T (h_doRows_of T (h_doRow_of (by omega) T (h_doCall T f)))
theorem h_doRows (T : Txt K mg A) (f : Nat) : HasM P w K mg base (7 + 3 * f) A.Run "do_rows" ["self", "rows"] (sp_doRows A N ds dv f) := by
  have := h_doRows_of T (h_doRow_of (by omega) T (h_doCall (P := P) (w := w) (base := base) (N := N) (ds := ds) (dv := dv) T f))
  rw [show 7 + 3 * f = 5 + 3 * f + 1 + 1 by omega]
  exact this
theorem pair_keys {H : Hp} {f : Nat → V} : ∀ {idx : List Nat} {ys : List V}, PySem.Paired (fun j y => ∃ t, y = V.ref t ∧ H t = some (.tup [.str (N j), f j])) idx ys → ∃ ps : List Addr, ys = ps.map V.ref ∧ ps.length = idx.length ∧ ∀ (i : Nat) t k v, ps[i]? = some t → (dk N idx f)[i]? = some (k, v) → SqT K H t [kV k, v]
  | _, _, .nil => ⟨[], rfl, rfl, fun i t k v h => by cases h⟩
  | j :: idx, y :: ys, .cons ⟨t, e, ht⟩ r => by
    obtain ⟨ps, h1, h2, h3⟩ := pair_keys r
    refine ⟨t :: ps, by rw [e, h1]; rfl, by simp [h2], fun i t' k v a b => ?_⟩
    cases i with
    | zero =>
      have a' : t = t' := Option.some.inj a
      have b' : ((Sum.inr (N j) : Key), f j) = (k, v) := Option.some.inj b
      cases b'
      rw [← a']
      exact SqT.of ht
    | succ i => exact h3 i t' k v a b
def isOwn (A : Adr) (H : Hp) : V → Bool
  | .ref a => match H a with
    | some (.ins C _ _) => decide (C = A.OwnRow)
    | _ => false
  | _ => false
theorem isOwn_ins {H : Hp} {a C dx : Addr} {fs : List (Str × V)} (h : H a = some (.ins C dx fs)) : isOwn A H (.ref a) = decide (C = A.OwnRow) := by
  unfold isOwn
  simp only [h]
def sp_ends (A : Adr) : Sp := fun vs H Q _ => ∃ (N : Nat → Str) (p : Pa) (c a0 a1 a2 : Addr) (num : Nat → Int) (dv xs : List V) (ds : List Dd) (rows : List Rw), Names N ds ∧ vs = [.ref p.pa, .ref c] ∧ PrAt A N H p a0 a1 a2 dv xs ds rows ∧ H c = some (.dK (dk N (idxOf ds) (iv num))) ∧ ∀ e H', Same H H' → H e = none → H' e = some (.dK (dk N [1] (iv num))) → Q (.ref e) H'
theorem h_ends (T : Txt K mg A) : Has P w K mg base 1 "ends_of" ["program", "cells"] (sp_ends A) := by
  refine T.ends_of.has sc_ends_of (fun vs H Q E h => ?_) (fun f cdv A' outer s' H vs Q E hr hu h => ?_)
  · obtain ⟨N, p, c, a0, a1, a2, num, dv, xs, ds, rows, _, rfl, _⟩ := h
    rfl
  · obtain ⟨N, p, c, a0, a1, a2, num, dv, xs, ds, rows, Z, rfl, R, hc, q⟩ := h
    obtain ⟨d0, n0, x0, k0, e0⟩ := R.h0
    obtain ⟨d1, n1, e1⟩ := R.h1
    obtain ⟨d2, n2, k2, e2⟩ := R.h2
    have o0 : isOwn A H (.ref a0) = false := (isOwn_ins e0).trans (decide_eq_false (cls_ne T 2 4))
    have o1 : isOwn A H (.ref a1) = true := (isOwn_ins e1).trans (decide_eq_true rfl)
    have o2 : isOwn A H (.ref a2) = false := (isOwn_ins e2).trans (decide_eq_false (cls_ne T 3 4))
    refine ⟨_, (pss_one (ps_ret (pe_callTy c_dictP rfl T.z_dict (by boot_by_name) (pa_cons (pe_comp (N := ["head", "cells"]) (own := 1) (fr := [1]) (CompOk.of (by kernel_rfl!)) rfl (pi_any (pe_fld (fv 0) rfl)) (fun b => pg_name (i := 0) (show List.Nodup (["head", "cells"] : List PySem.Str) by decide +kernel) rfl (by first | exact Or.inl rfl | exact Or.inr rfl)) (fun b => pf_one (pt_tru (pe_callB c_isinst rfl T.z_isinstance (by boot_by_name) (pa_cons (fv 0) (pa_cons (pe_gtup T.o_OwnRow.mg) pa_nil))) (fun _ => rfl))) (fun b => pe_tup (pa_cons (pe_fld (fv 0) rfl) (pa_cons (pe_ix (ix_all hu) (fv 1) (pe_fld (fv 0) rfl) (fun _ _ => rfl)) pa_nil)))) pa_nil)))), ?_⟩
    refine ⟨p.pa, _, p.dp, _, _, rfl, R.pr, T.o_Program.cl, T.n_Program_heads, rfl, Or.inl ⟨⟨_, SqL.of R.hd⟩, comp_pairF (K := K) (isOwn A H) (fun x y' H2 => ∃ t, y' = V.ref t ∧ H2 t = some (.tup [.str (N 1), iv num 1])) (SqL.of R.hd) (show 3 < sizeLine by decide) (fun b v H2 G hv' s2 k => ?_) (fun b v H2 G hv' hp s2 k => ?_) ?_ ?_ (fun D H2 ys hD s2 e pr => ?_)⟩⟩
    · simp only [List.mem_cons, List.not_mem_nil, or_false] at hv'
      rcases hv' with rfl | rfl | rfl
      · rw [o0] at k
        exact ⟨_, _, _, false, rfl, (fun z => by cases z), T.o_HandRow.tyOf (s2 _ _ e0), kitF T.o_HandRow T.o_OwnRow (cls_ne T 4 2) (cls_ne T 4 1), false, rfl, k _ (Same.refl _)⟩
      · rw [o1] at k
        exact ⟨_, _, _, true, rfl, (fun z => by cases z), T.o_OwnRow.tyOf (s2 _ _ e1), kitT T.o_OwnRow, true, rfl, k _ (Same.refl _)⟩
      · rw [o2] at k
        exact ⟨_, _, _, false, rfl, (fun z => by cases z), T.o_GivenRow.tyOf (s2 _ _ e2), kitF T.o_GivenRow T.o_OwnRow (cls_ne T 4 3) (cls_ne T 4 1), false, rfl, k _ (Same.refl _)⟩
    · simp only [List.mem_cons, List.not_mem_nil, or_false] at hv'
      rcases hv' with rfl | rfl | rfl
      · rw [o0] at hp; cases hp
      · have gd : DGet H2 c (.str (N 1)) (some (iv num 1)) := by
          have := DGet.k (k := .inr (N 1)) (s2 _ _ hc)
          rw [dk_get Z.D Z.b (show 1 ∈ idxOf ds by simp [idxOf])] at this
          exact this
        exact ⟨a1, _, d1, _, _, rfl, s2 _ _ e1, T.o_OwnRow.cl, T.n_OwnRow_name, rfl, a1, _, d1, _, _, rfl, s2 _ _ e1, T.o_OwnRow.cl, T.n_OwnRow_name, rfl, _, gd, (show 2 ≤ sizeLine by decide), fun t ht => k _ _ (Same.upd ht _) ⟨t, rfl, upd_same⟩⟩
      · rw [o2] at hp; cases hp
    · rintro x y' H2 H3 s ⟨t, e4, e5⟩
      exact ⟨t, e4, s _ _ e5⟩
    · rintro x y' H2 D ys zs hD ⟨t, e4, e5⟩
      exact ⟨t, e4, by rw [upd_ne (fun z => by rw [z, hD] at e5; cases e5)]; exact e5⟩
    · have fl : [V.ref a0, .ref a1, .ref a2].filter (isOwn A H) = [.ref a1] := by simp [List.filter, o0, o1, o2]
      rw [fl] at pr
      obtain ⟨y, rfl, hy⟩ : ∃ y, ys = [y] ∧ ∃ t, y = V.ref t ∧ H2 t = some (.tup [.str (N 1), iv num 1]) := by
        cases pr with
        | cons h r => cases r; exact ⟨_, rfl, h⟩
      have pk' : PySem.Paired (fun j y' => ∃ t, y' = V.ref t ∧ H2 t = some (.tup [.str (N j), iv num j])) [1] [y] := .cons hy .nil
      obtain ⟨ps, e1, e2, e3⟩ := pair_keys (K := K) pk'
      have em : mergeK [] (dk N [1] (iv num)) = dk N [1] (iv num) := dk_merge Z.D [1] [] (lt64 (by decide)) (by decide)
      refine ⟨D, ps, dk N [1] (iv num), rfl, by rw [← e1]; exact SqL.of e, by rw [e2]; rfl, (show 1 ≤ 1000 by decide), e3, fun p4 hp4 => q p4 _ (s2.trans (Same.upd hp4 _)) (Same.free s2 hp4) (by rw [upd_same, em])⟩
structure DoneBk (A : Adr) (N : Nat → Str) (H : Hp) (b db l sd t e : Addr) (k : S) : Prop where
  hb : H b = some (.ins A.Book db [("letters", .ref l), ("said", .ref sd), ("trace", .ref t), ("steps", .int k.steps), ("ends", .ref e)])
  he : H e = some (.dK (dk N [1] (iv k.num)))
  ht : ∃ xs, H t = some (.lst xs) ∧ Tups H xs k.trace
  hl : ∃ xs, H l = some (.lst xs) ∧ Tups H xs k.letters
def sp_run (A : Adr) (f : Nat) : Sp := fun vs H Q _ => ∃ (N : Nat → Str) (p : Pa) (g a0 a1 a2 : Addr) (v : Int) (dv xs : List V) (ds : List Dd) (rows : List Rw), Names N ds ∧ vs = [.ref p.pa, .ref g] ∧ PrAt A N H p a0 a1 a2 dv xs ds rows ∧ H g = some (.dK [(.inr (N 2), .int v)]) ∧ In v ∧ (∀ rw ∈ rows, Wf ds f rw) ∧ (rows.map (cost ds f)).sum ≤ 1000 ∧
  ∀ (b db lt sd t e : Addr) (H' : Hp), Same H H' → DoneBk A N H' b db lt sd t e (rowsBy ds f (S.new v) rows) → Q (.ref b) H'
theorem h_run (T : Txt K mg A) (f : Nat) : Has P w K mg base (8 + 3 * f) "run" ["program", "gifts"] (sp_run A f) := by
  rw [show 8 + 3 * f = 7 + 3 * f + 1 by omega]
  refine T.run.has (k := 7 + 3 * f) sc_run (fun vs H Q E h => ?_) (fun f' cdv A' outer s' H vs Q E hr hu h => ?_)
  · obtain ⟨N, p, g, a0, a1, a2, v, dv, xs, ds, rows, _, rfl, _⟩ := h
    rfl
  · obtain ⟨N, p, g, a0, a1, a2, v, dv, xs, ds, rows, Z, rfl, R, hg, vi, wf, rm, q⟩ := h
    have D_cells_of := h_cells (P := P) (w := w) (base := base) T
    have D_Run_init := h_Run_init (P := P) (w := w) (base := base) T
    have D_do_rows := h_doRows (P := P) (w := w) (base := base) (N := N) (ds := ds) (dv := dv) T f
    have D_ends_of := h_ends (P := P) (w := w) (base := base) T
    refine ⟨_, (pss_cons (ps_set (i := 2) sc_run.nd rfl (Or.inl rfl) (pe_makeD (hj := by omega) T.o_Run D_Run_init hr (pa_cons (fv 0) (pa_cons (pe_callD (hj := by omega) D_cells_of hr (pa_cons (fv 0) (pa_cons (fv 1) pa_nil))) pa_nil))))
    (pss_cons (ps_expr (pe_methD (hj := by omega) (fv 2) T.o_Run.cl D_do_rows hr (pa_cons (pe_fld (fv 0) rfl) pa_nil)))
    (pss_cons (ps_set (i := 3) sc_run.nd rfl (Or.inl rfl) (pe_fld (fv 2) rfl))
    (pss_cons (ps_fld (fv 3) (pe_callD (hj := by omega) D_ends_of hr (pa_cons (fv 0) (pa_cons (pe_fld (fv 2) rfl) pa_nil))) rfl)
    (pss_one (ps_ret (fv 3))))))), ?_⟩
    refine ⟨N, p, g, a0, a1, a2, v, dv, xs, ds, rows, Z, rfl, R, hg, vi, fun c H1 s1 c0 hc => ?_⟩
    refine fun s ds' hs hds hne => ?_
    have sm : Same H1 (upd (upd H1 ds' (.own s)) s (.ins A.Run ds' [])) := But.same (But.refl _ _) hs hds
    refine ⟨s, ds', c, a0, a1, a2, N, p, v, dv, xs, ds, rows, Z, rfl, upd_same, (R.same s1).same sm, sm _ _ hc, fun d b db sd e t lt H2 b2 nb nt nl nd R2 => ⟨rfl, ?_⟩⟩
    have s12 : Same H1 H2 := But.same b2 hs hds
    have s2 : Same H H2 := s1.trans s12
    have Fr : Fresh H ⟨s, ds', d, c, b, db, sd, e, t, lt⟩ := ⟨Same.free s1 (new_none hs hds nb), Same.free s1 (new_none hs hds nt), Same.free s1 (new_none hs hds nl), c0⟩
    have ok0 : (S.new v).ok := fun a => by
      show In (num1 v a)
      unfold num1
      split
      · exact vi
      · exact ⟨by decide, by decide⟩
    refine ⟨s, ds', _, rfl, R2.hs, rfl, p.pa, _, p.dp, _, _, rfl, s2 _ _ R.pr, T.o_Program.cl, T.n_Program_main, rfl, ⟨s, ds', d, c, b, db, sd, e, t, lt⟩, S.new v, p.mn, xs, rows, H, Z, rfl, s2, Fr, R2, ok0, R.dA, R.mn, R.rs, wf, ⟨by simpa [S.new] using rm, by simpa [S.new] using rm⟩, fun H3 s3 R3 ok3 => ?_⟩
    refine ⟨s, _, ds', _, _, rfl, R3.hs, T.o_Run.cl, T.n_Run_book, rfl, ?_⟩
    refine ⟨s, _, ds', _, _, rfl, R3.hs, T.o_Run.cl, T.n_Run_cells, rfl, N, p, c, a0, a1, a2, _, dv, xs, ds, rows, Z, rfl, R.same s3, R3.hc, fun e' H4 s4 e0 he4 => ?_⟩
    have R4 := R3.same s4
    have hb4 := R4.hb
    obtain ⟨ts, ht, tt⟩ := R4.ht
    obtain ⟨ls, hl, tl⟩ := R4.hl
    refine ⟨b, _, db, _, rfl, hb4, T.o_Book.cl, T.n_Book_ends, by simp, ?_⟩
    have st := Stay.at (u := .ins A.Book db (putF "ends" (.ref e') [("letters", .ref lt), ("said", .ref sd), ("trace", .ref t), ("steps", .int (rowsBy ds f (S.new v) rows).steps), ("ends", .ref e)])) hb4 (fun w e => by cases e)
    have ne : ∀ {a : Addr} {o : HO}, H4 a = some o → (∀ C dx fs, o ≠ .ins C dx fs) → a ≠ b := fun ha hn z => by rw [z, hb4] at ha; exact hn _ _ _ (Option.some.inj ha).symm
    refine q b db lt sd t e' _ (Same.out (s3.trans s4) Fr.b _) ⟨upd_same, ?_, ⟨ts, ?_, tt.stay st⟩, ⟨ls, ?_, tl.stay st⟩⟩
    · rw [upd_ne (ne he4 (fun _ _ _ z => by cases z))]; exact he4
    · rw [upd_ne (ne ht (fun _ _ _ z => by cases z))]; exact ht
    · rw [upd_ne (ne hl (fun _ _ _ z => by cases z))]; exact hl
end
end K26

set_option Elab.async false
set_option linter.all false
set_option maxRecDepth 100000
set_option maxHeartbeats 4000000
namespace K26
open PySem L2
section
variable {P : Program} {w : World} {K : PySem.W.Frag} {mg : Str → Option Value} {base : Heap} {A : Adr} {N : Nat → Str}
def cellAt (ns : List Int) (k : Int) : Int := if k < (ns.length : Int) then ns.getD k.toNat 0 else 0
theorem at_int {ns : List Int} {k : Int} (h0 : 0 ≤ k) (h1 : k < (ns.length : Int)) : atI (ns.map V.int) k = some (.int (ns.getD k.toNat 0)) := by
  have hk : k.toNat < ns.length := by omega
  have e := atI_nat (xs := ns.map V.int) (j := k.toNat) (v := .int (ns.getD k.toNat 0)) (by rw [List.getElem?_map, List.getElem?_eq_getElem hk, List.getD_eq_getElem?_getD, List.getElem?_eq_getElem hk]; rfl)
  rw [show ((k.toNat : Nat) : Int) = k by omega] at e
  exact e
def sp_cell (K : PySem.W.Frag) : Sp := fun vs H Q _ => ∃ (a : Addr) (ns : List Int) (k : Int), vs = [.ref a, .int k] ∧ SqL K H a (ns.map V.int) ∧ 0 ≤ k ∧ Q (.int (cellAt ns k)) H
theorem h_cell (T : Txt K mg A) : Has P w K mg base 1 "_law_cell_at" ["_law_script", "_law_k"] (sp_cell K) := by
  refine T.law_cell_at.has sc_law_cell_at (fun vs H Q E h => ?_) (fun f cdv A' outer s H vs Q E hr hu h => ?_)
  · obtain ⟨a, ns, k, rfl, _⟩ := h
    rfl
  · obtain ⟨a, ns, k, rfl, hS, h0, q⟩ := h
    unfold cellAt at q
    have el : (((ns.map V.int).length : Nat) : Int) = (ns.length : Int) := by rw [List.length_map]
    refine ⟨_, (pss_cons (ps_if (pt_cmpR (o_lt) (fv 1) (pe_callB c_lenA rfl T.z_len (by boot_by_name) (pa_cons (fv 0) pa_nil)) (nomark _))
      (pss_one (ps_ret (pe_ix (ix_all hu) (fv 0) (fv 1) (fun _ _ => rfl))))
      pss_nil)
    (pss_one (ps_ret (pe_int)))), ?_⟩
    refine Or.inl ⟨_, _, rfl, Or.inl ⟨_, hS, rfl⟩, _, rfl, ?_⟩
    refine ite2 (fun c => ?_) (fun c => ?_)
    · have c' : k < (((ns.map V.int).length : Nat) : Int) := of_decide_eq_true c
      rw [el] at c'
      rw [if_pos c'] at q
      exact Or.inl ⟨_, _, Or.inl hS, at_int h0 c', q⟩
    · have c' : ¬ k < (((ns.map V.int).length : Nat) : Int) := of_decide_eq_false (Bool.eq_false_iff.mpr c)
      rw [el] at c'
      rw [if_neg c'] at q
      exact q
theorem pow12 : ((10 : Int) ^ (12 : Int).toNat) = 1000000000000 := by decide
def sp_mix : Sp := fun vs H Q _ => ∃ (c : Int) (k : Nat), vs = [.int c, .int k] ∧ k ≤ 100 ∧ ∀ (m : Int) (H' : Hp), Same H H' → Q (.int m) H'
theorem h_mix (T : Txt K mg A) : Has P w K mg base 1 "_law_mix" ["_law_cell", "_law_k"] sp_mix := by
  refine T.law_mix.has sc_law_mix (fun vs H Q E h => ?_) (fun f cdv A' outer s H vs Q E hr hu h => ?_)
  · obtain ⟨c, k, rfl, _⟩ := h
    rfl
  · obtain ⟨c, k, rfl, hk, q⟩ := h
    refine ⟨_, (pss_cons (ps_set (i := 2) sc_law_mix.nd rfl (Or.inl rfl) (pe_op o_fdiv (fv 0) (pe_int)))
    (pss_cons (ps_if (PW.pt (pw_and (pt_cmpR (o_gt) (fv 2) (pe_op o_pow (pe_int) (pe_int)) (nomark _)) (pw_and1 (pt_cmpR (o_eqU hu) (pe_op o_mod (fv 2) (pe_int)) (pe_int) (nomark _)))))
      (pss_cons (ps_set (i := 2) sc_law_mix.nd rfl (Or.inl rfl) (pe_op o_fdiv (fv 2) (pe_int)))
      (pss_cons (ps_for PassesOwn.never rfl (pi_range1 rfl T.z_range (pa_cons (fv 1) pa_nil)) (pg_name (i := 3) sc_law_mix.nd rfl (by first | exact Or.inl rfl | exact Or.inr rfl))
        (pss_one (ps_set (i := 2) sc_law_mix.nd rfl (Or.inl rfl) (pe_op o_fdiv (fv 2) (pe_op o_pow (pe_int) (pe_int))))))
      (pss_one (ps_if (pt_cmpR (o_gt) (fv 2) (pe_int) (nomark _))
        (pss_one (ps_ret (pe_op o_mod (fv 2) (pe_op o_pow (pe_int) (pe_int)))))
        pss_nil))))
      pss_nil)
    (pss_cons (ps_set (i := 4) sc_law_mix.nd rfl (Or.inl rfl) (pe_ix (ix_all hu) (pe_lst (pa_cons (pe_int) (pa_cons (pe_int) (pa_cons (pe_int) (pa_cons (pe_int) pa_nil))))) (pe_op o_mod (fv 1) (pe_int)) (fun _ _ => rfl)))
    (pss_one (ps_ret (pe_op o_mod (pe_op o_mulA (pe_op o_add (pe_op o_add (pe_op o_mod (fv 0) (fv 4)) (pe_int)) (pe_op o_mulA (fv 1) (fv 1))) (pe_int)) (fv 4))))))), ?_⟩
    refine seq_cut fun M1 K1 => ?_
    refine ⟨⟨by decide, by decide⟩, K1 _ _ ?_⟩
    refine seq_cut fun M2 K2 => ?_
    have rest : ∀ σ : St, (∃ z z3, σ = [some (.int c), some (.int k), some (.int z), z3, none]) → M2 σ H := by
      rintro σ ⟨z, z3, rfl⟩
      refine K2 _ _ ?_
      refine seq_cut fun M3 K3 => ?_
      refine ⟨(show 4 ≤ sizeLine by decide), fun l hl => ?_⟩
      have s1 := Same.upd hl (HO.lst [V.int 2147483647, .int 998244353, .int 1000000007, .int 999999937])
      have e1 : (upd H l (HO.lst [V.int 2147483647, .int 998244353, .int 1000000007, .int 999999937])) l = some (.lst [V.int 2147483647, .int 998244353, .int 1000000007, .int 999999937]) := upd_same
      generalize upd H l (HO.lst [V.int 2147483647, .int 998244353, .int 1000000007, .int 999999937]) = H1 at s1 e1 ⊢
      obtain ⟨p, hp, p0, p1⟩ : ∃ p : Int, atI [V.int 2147483647, .int 998244353, .int 1000000007, .int 999999937] ((k : Int) % 4) = some (.int p) ∧ 0 < p ∧ p < 2147483648 := by
        have m := mod_in (k : Int) (show (0 : Int) < 4 by decide)
        generalize (k : Int) % 4 = u at m ⊢
        have : u = 0 ∨ u = 1 ∨ u = 2 ∨ u = 3 := by omega
        rcases this with rfl | rfl | rfl | rfl
        · exact ⟨2147483647, rfl, by decide, by decide⟩
        · exact ⟨998244353, rfl, by decide, by decide⟩
        · exact ⟨1000000007, rfl, by decide, by decide⟩
        · exact ⟨999999937, rfl, by decide, by decide⟩
      refine ⟨(by show (0 : Int) < 4; decide), Or.inl ⟨_, _, Or.inl (SqL.of e1), hp, K3 _ _ ?_⟩⟩
      exact ⟨p0, .inl ⟨by omega, by omega⟩, .inr ⟨by decide, by decide⟩, p0, q _ _ s1⟩
    refine ⟨⟨by decide, by decide, by decide⟩, _, rfl, ite2 (fun b => ?_) (fun b => rest _ ⟨_, _, rfl⟩)⟩
    refine ⟨(by show (0 : Int) < 2; decide), rfl, _, rfl, ite2 (fun b => ?_) (fun b => rest _ ⟨_, _, rfl⟩)⟩
    refine seq_cut fun A1 B1 => ?_
    refine ⟨⟨by decide, by decide⟩, B1 _ _ ?_⟩
    refine seq_cut fun A2 B2 => ?_
    refine ⟨(k : Int), rfl, by omega, by omega, ?_⟩
    refine for_range (fun i σ H2 => H2 = H ∧ ∃ z z3, σ = [some (.int c), some (.int k), some (.int z), z3, none]) ⟨rfl, _, _, rfl⟩ ?_ ?_
    · rintro i σ H2 hi ⟨rfl, z, z3, rfl⟩
      exact ⟨⟨by decide, by decide, by decide⟩, ⟨by decide, by decide⟩, rfl, _, _, rfl⟩
    · rintro σ H2 ⟨rfl, z, z3, rfl⟩
      refine B2 _ _ ?_
      refine ⟨_, rfl, ite2 (fun b => ?_) (fun b => rest _ ⟨_, _, rfl⟩)⟩
      exact ⟨⟨by decide, by decide, by decide⟩, (by show (0 : Int) < 10 ^ (12 : Int).toNat; decide), q _ _ (Same.refl _)⟩
end
end K26

set_option Elab.async false
set_option linter.all false
set_option maxRecDepth 100000
set_option maxHeartbeats 4000000
namespace K26
open PySem L2
section
variable {P : Program} {w : World} {K : PySem.W.Frag} {mg : Str → Option Value} {base : Heap} {A : Adr} {N : Nat → Str}
abbrev LET : Str := "abcdefghijklmnopqrstuvwxyz"
def letC (k : Int) : Nat := (97 + k).toNat
theorem at_let {k : Int} (h0 : 0 ≤ k) (h1 : k < 26) : atI LET.cps.toList k = some (letC k) := by
  obtain ⟨n, rfl⟩ : ∃ n : Nat, k = (n : Int) := ⟨k.toNat, by omega⟩
  have h : ∀ m : Fin 26, atI LET.cps.toList ((m.val : Nat) : Int) = some (letC ((m.val : Nat) : Int)) := by decide +kernel
  exact h ⟨n, by omega⟩
theorem rep_len {z : Str} {n : Int} (hz : z.length ≤ 1) (h1 : n < 1000) : (repS z n).length ≤ 1000 := by
  unfold repS
  split
  · decide
  · split
    · omega
    · rw [rep_size]
      have : n.toNat * z.length ≤ n.toNat * 1 := Nat.mul_le_mul_left _ hz
      omega
theorem str_app_len (x y : Str) : (x ++ y).length = x.length + y.length := by
  show (x.cps ++ y.cps).size = x.cps.size + y.cps.size
  exact Array.size_append
abbrev stV (c : Int) : Str := repS ⟨#[letC (c / 196 % 26)]⟩ (c / 4 % 7)
abbrev prV (c : Int) : Str := Txt.slice (stV c) none (some (c / 28 % (c / 4 % 7 + 1)))
abbrev poV (c : Int) : Str := Txt.slice (stV c) (some (c / 28 % (c / 4 % 7 + 1))) none
def nmV (c : Int) (k : Nat) : Str :=
  if decide (c % 4 < 2) = true then repS ⟨#[letC ((c / 4 + (k : Int) / 8) % 26)]⟩ ((k : Int) % 8 + 1)
  else if decide (V.int (c % 4) = V.int 2) = true then prV c ++ ⟨#[letC (((k : Int) / 26 + c / 11) % 26)]⟩ ++ ⟨#[letC ((k + c / 5096) % 26)]⟩ ++ poV c
  else prV c ++ ⟨#[letC ((k + c / 5096) % 26)]⟩ ++ ⟨#[letC (((k : Int) / 26 + c / 11) % 26)]⟩ ++ poV c
theorem rep_list (c : Nat) {n : Int} (hn : 1 ≤ n) : (repS ⟨#[c]⟩ n).cps.toList = List.replicate n.toNat c := by
  unfold repS
  rw [if_neg (by omega)]
  by_cases e : n = 1
  · subst e
    rfl
  · have h1 : ¬ (n == 1 || (⟨#[c]⟩ : Str).length == 0) = true := by
      rw [Bool.or_eq_true]
      rintro (h | h)
      · exact e (eq_of_beq h)
      · exact absurd h (show ¬ ((1 : Nat) == 0) = true by decide)
    rw [if_neg h1]
    have f : ∀ (m : Nat) (acc : Array Nat), ((List.replicate m #[c]).foldl (· ++ ·) acc).toList = acc.toList ++ List.replicate m c := by
      intro m
      induction m with
      | zero => intro acc; simp
      | succ m ih =>
        intro acc
        rw [List.replicate_succ, List.foldl_cons, ih, List.replicate_succ]
        simp
    have := f n.toNat #[]
    simpa using this
theorem letC_inj {a b : Int} (ha : 0 ≤ a) (hb : 0 ≤ b) (h : letC a = letC b) : a = b := by
  unfold letC at h
  omega
theorem str_two {a b : Str} {x y x' y' : Nat} (h : a ++ ⟨#[x]⟩ ++ ⟨#[x']⟩ ++ b = a ++ ⟨#[y]⟩ ++ ⟨#[y']⟩ ++ b) : x = y ∧ x' = y' := by
  have h1 : (((a.cps ++ #[x]) ++ #[x']) ++ b.cps).toList = (((a.cps ++ #[y]) ++ #[y']) ++ b.cps).toList := congrArg (fun z : Str => z.cps.toList) h
  simp only [Array.toList_append] at h1
  have h2 := List.append_inj_left' h1 rfl
  have h3 := List.append_inj_right' h2 rfl
  have h4 := List.append_inj_left' h2 rfl
  have h5 := List.append_inj_right' h4 rfl
  exact ⟨by simpa using h5, by simpa using h3⟩
theorem nm_inj (c : Int) {i j : Nat} (hi : i < 64) (hj : j < 64) (e : nmV c i = nmV c j) : i = j := by
  have m3 := mod_in ((i : Int) + c / 5096) (show (0 : Int) < 26 by decide)
  have m4 := mod_in ((j : Int) + c / 5096) (show (0 : Int) < 26 by decide)
  have m5 := mod_in ((i : Int) / 26 + c / 11) (show (0 : Int) < 26 by decide)
  have m6 := mod_in ((j : Int) / 26 + c / 11) (show (0 : Int) < 26 by decide)
  unfold nmV at e
  split at e
  · have m1 := mod_in (c / 4 + (i : Int) / 8) (show (0 : Int) < 26 by decide)
    have m2 := mod_in (c / 4 + (j : Int) / 8) (show (0 : Int) < 26 by decide)
    have h1 := congrArg (fun z : Str => z.cps.toList) e
    rw [rep_list _ (by omega), rep_list _ (by omega)] at h1
    have h2 := congrArg List.length h1
    rw [List.length_replicate, List.length_replicate] at h2
    obtain ⟨n, hn⟩ : ∃ n, ((i : Int) % 8 + 1).toNat = n + 1 := ⟨((i : Int) % 8).toNat, by omega⟩
    rw [← h2, hn, List.replicate_succ, List.replicate_succ] at h1
    have h3 := letC_inj m1.1 m2.1 (List.cons.inj h1).1
    omega
  split at e
  · obtain ⟨e1, e2⟩ := str_two e
    have h3 := letC_inj m5.1 m6.1 e1
    have h4 := letC_inj m3.1 m4.1 e2
    omega
  · obtain ⟨e1, e2⟩ := str_two e
    have h3 := letC_inj m5.1 m6.1 e2
    have h4 := letC_inj m3.1 m4.1 e1
    omega
def NM (c : Int) (i : Nat) : Str := nmV c ((i + 63) % 64)
theorem NM_dist (c : Int) : Dist (NM c) := fun i j hi hj e => by
  have := nm_inj c (show (i + 63) % 64 < 64 by omega) (show (j + 63) % 64 < 64 by omega) e
  omega
theorem NM_succ (c : Int) {i : Nat} (h : i < 63) : NM c (i + 1) = nmV c i := by
  unfold NM
  rw [show (i + 1 + 63) % 64 = i by omega]
theorem slice_mem {x : Str} {lo hi : Option Int} {c : Nat} (h : c ∈ (Txt.slice x lo hi).cps.toList) : c ∈ x.cps.toList := by
  unfold Txt.slice at h
  split at h
  · exact h
  · obtain ⟨i, _, q⟩ := List.mem_filterMap.mp (by simpa using h)
    exact Array.mem_toList_iff.mpr (Array.mem_of_getElem? q)
theorem strOk_iff {x : Str} : PyData.strOk x = true ↔ ∀ c ∈ x.cps.toList, c < 0x110000 := by
  unfold PyData.strOk
  rw [← Array.all_toList, List.all_eq_true]
  exact ⟨fun h c hc => of_decide_eq_true (h c hc), fun h c hc => decide_eq_true (h c hc)⟩
theorem strOk_cut {x : Str} (h : PyData.strOk x = true) (lo hi : Option Int) : PyData.strOk (Txt.slice x lo hi) = true := strOk_iff.mpr fun c hc => strOk_iff.mp h c (slice_mem hc)
theorem strOk_app {x y : Str} (h : PyData.strOk x = true) (h2 : PyData.strOk y = true) : PyData.strOk (x ++ y) = true := strOk_iff.mpr fun c hc => by
  have e : (x ++ y).cps = x.cps ++ y.cps := rfl
  rw [e, Array.toList_append] at hc
  rcases List.mem_append.mp hc with q | q
  · exact strOk_iff.mp h c q
  · exact strOk_iff.mp h2 c q
theorem letC_ok {k : Int} (h : k < 26) : PyData.strOk ⟨#[letC k]⟩ = true := strOk_iff.mpr fun c hc => by
  have e : c = letC k := by simpa using hc
  rw [e]
  unfold letC
  omega
theorem rep_ok {k n : Int} (h : k < 26) : PyData.strOk (repS ⟨#[letC k]⟩ n) = true := by
  by_cases hn : 1 ≤ n
  · refine strOk_iff.mpr fun c hc => ?_
    rw [rep_list _ hn] at hc
    rw [List.eq_of_mem_replicate hc]
    unfold letC
    omega
  · unfold repS
    rw [if_pos (by omega)]
    decide +kernel
theorem nm_ok (c : Int) (k : Nat) : PyData.strOk (nmV c k) = true := by
  unfold nmV
  have h1 := mod_in (c / 196) (show (0 : Int) < 26 by decide)
  have h2 := mod_in ((k : Int) + c / 5096) (show (0 : Int) < 26 by decide)
  have h3 := mod_in (c / 4 + (k : Int) / 8) (show (0 : Int) < 26 by decide)
  have h4 := mod_in ((k : Int) / 26 + c / 11) (show (0 : Int) < 26 by decide)
  split
  · exact rep_ok h3.2
  split
  · exact strOk_app (strOk_app (strOk_app (strOk_cut (rep_ok h1.2) _ _) (letC_ok h4.2)) (letC_ok h2.2)) (strOk_cut (rep_ok h1.2) _ _)
  · exact strOk_app (strOk_app (strOk_app (strOk_cut (rep_ok h1.2) _ _) (letC_ok h2.2)) (letC_ok h4.2)) (strOk_cut (rep_ok h1.2) _ _)
def nmL (N : Nat → Str) : List V := V.str "quill" :: (List.range 42).map fun i => V.str (N (i + 1))
theorem nml_at {i : Int} (h0 : 1 ≤ i) (h1 : i < 43) : atI (nmL N) i = some (.str (N i.toNat)) := by
  obtain ⟨j, rfl⟩ : ∃ j : Nat, i = ((j + 1 : Nat) : Int) := ⟨(i - 1).toNat, by omega⟩
  have hj : j < 42 := by omega
  refine atI_nat (xs := nmL N) (j := j + 1) ?_
  unfold nmL
  rw [List.getElem?_cons_succ, List.getElem?_map, List.getElem?_range hj]
  rfl
def sp_name : Sp := fun vs H Q _ => ∃ (c : Int) (k : Nat), vs = [.int c, .int k] ∧ k ≤ 100 ∧ Q (.str (nmV c k)) H
theorem h_name (T : Txt K mg A) : Has P w K mg base 1 "_law_name" ["_law_cell", "_law_k"] sp_name := by
  refine T.law_name.has sc_law_name (fun vs H Q E h => ?_) (fun f cdv A' outer s H vs Q E hr hu h => ?_)
  · obtain ⟨c, k, rfl, _⟩ := h
    rfl
  · obtain ⟨c, k, rfl, h1, q⟩ := h
    unfold nmV at q
    refine ⟨_, (pss_cons (ps_set (i := 2) sc_law_name.nd rfl (Or.inl rfl) (pe_str))
    (pss_cons (ps_set (i := 3) sc_law_name.nd rfl (Or.inl rfl) (pe_op o_mod (fv 0) (pe_int)))
    (pss_cons (ps_if (pt_cmpR (o_lt) (fv 3) (pe_int) (nomark _))
      (pss_one (ps_ret (pe_op o_mulA (pe_ix (ix_all hu) (fv 2) (pe_op o_mod (pe_op o_add (pe_op o_fdiv (fv 0) (pe_int)) (pe_op o_fdiv (fv 1) (pe_int))) (pe_int)) (fun _ _ => rfl)) (pe_op o_add (pe_op o_mod (fv 1) (pe_int)) (pe_int)))))
      pss_nil)
    (pss_cons (ps_set (i := 4) sc_law_name.nd rfl (Or.inl rfl) (pe_op o_mod (pe_op o_fdiv (fv 0) (pe_int)) (pe_int)))
    (pss_cons (ps_set (i := 5) sc_law_name.nd rfl (Or.inl rfl) (pe_op o_mod (pe_op o_fdiv (fv 0) (pe_int)) (pe_op o_add (fv 4) (pe_int))))
    (pss_cons (ps_set (i := 6) sc_law_name.nd rfl (Or.inl rfl) (pe_op o_mulA (pe_ix (ix_all hu) (fv 2) (pe_op o_mod (pe_op o_fdiv (fv 0) (pe_int)) (pe_int)) (fun _ _ => rfl)) (fv 4)))
    (pss_cons (ps_set (i := 7) sc_law_name.nd rfl (Or.inl rfl) (pe_ix (ix_all hu) (fv 2) (pe_op o_mod (pe_op o_add (fv 1) (pe_op o_fdiv (fv 0) (pe_int))) (pe_int)) (fun _ _ => rfl)))
    (pss_cons (ps_set (i := 8) sc_law_name.nd rfl (Or.inl rfl) (pe_ix (ix_all hu) (fv 2) (pe_op o_mod (pe_op o_add (pe_op o_fdiv (fv 1) (pe_int)) (pe_op o_fdiv (fv 0) (pe_int))) (pe_int)) (fun _ _ => rfl)))
    (pss_cons (ps_if (pt_cmpR (o_eqU hu) (fv 3) (pe_int) (nomark _))
      (pss_one (ps_ret (pe_op o_add (pe_op o_add (pe_op o_add (pe_slice sl_all (fv 6) po_none (po_some (fv 5))) (fv 8)) (fv 7)) (pe_slice sl_all (fv 6) (po_some (fv 5)) po_none))))
      pss_nil)
    (pss_one (ps_ret (pe_op o_add (pe_op o_add (pe_op o_add (pe_slice sl_all (fv 6) po_none (po_some (fv 5))) (fv 7)) (fv 8)) (pe_slice sl_all (fv 6) (po_some (fv 5)) po_none))))))))))))), ?_⟩
    refine ⟨(by show (0 : Int) < 4; decide), _, rfl, ?_⟩
    refine ite2 (fun b2 => ?_) (fun b2 => ?_)
    · rw [if_pos b2] at q
      obtain ⟨j0, j1⟩ := mod_in (c / 4 + (k : Int) / 8) (show (0 : Int) < 26 by decide)
      obtain ⟨m0, m1⟩ := mod_in (k : Int) (show (0 : Int) < 8 by decide)
      exact ⟨⟨by decide, by decide⟩, ⟨by decide, by decide⟩, (by show (0 : Int) < 26; decide), _, by decide +kernel, at_let j0 j1, (by show (0 : Int) < 8; decide), by omega, by omega, by show 1 ≤ 1000; decide, q⟩
    · rw [if_neg b2] at q
      obtain ⟨m0, m1⟩ := mod_in (c / 4) (show (0 : Int) < 7 by decide)
      obtain ⟨j0, j1⟩ := mod_in (c / 196) (show (0 : Int) < 26 by decide)
      obtain ⟨i0, i1⟩ := mod_in (k + c / 5096) (show (0 : Int) < 26 by decide)
      obtain ⟨n0, n1⟩ := mod_in ((k : Int) / 26 + c / 11) (show (0 : Int) < 26 by decide)
      have rl : (stV c).length ≤ 1000 := rep_len (Nat.le_refl _) (by omega)
      have p1 : (prV c).length ≤ 1000 := Nat.le_trans (PySem.Txt.slice_le (stV c) none (some (c / 28 % (c / 4 % 7 + 1)))) rl
      have p2 : (poV c).length ≤ 1000 := Nat.le_trans (PySem.Txt.slice_le (stV c) (some (c / 28 % (c / 4 % 7 + 1))) none) rl
      refine ⟨⟨by decide, by decide⟩, (by show (0 : Int) < 7; decide), ⟨by decide, by decide⟩, (by show (0 : Int) < c / 4 % 7 + 1; omega), ⟨by decide, by decide⟩, (by show (0 : Int) < 26; decide), _, by decide +kernel, at_let j0 j1, by omega, by omega, by show 1 ≤ 1000; decide, ?_⟩
      refine ⟨⟨by decide, by decide⟩, (by show (0 : Int) < 26; decide), _, by decide +kernel, at_let i0 i1, ?_⟩
      refine ⟨⟨by decide, by decide⟩, ⟨by decide, by decide⟩, (by show (0 : Int) < 26; decide), _, by decide +kernel, at_let n0 n1, ?_⟩
      refine ⟨rfl, _, rfl, ite2 (fun b3 => ?_) (fun b3 => ?_)⟩
      · rw [if_pos b3] at q
        refine ⟨_, rfl, sz rl, ?_⟩
        refine ⟨Nat.le_trans (m := 1000 + 1) (Nat.add_le_add_right p1 1) (by decide), ?_⟩
        refine ⟨by rw [str_app_len]; exact Nat.le_trans (m := 1000 + 1 + 1) (Nat.add_le_add_right (Nat.add_le_add_right p1 1) 1) (by decide), _, rfl, sz rl, ?_⟩
        refine ⟨by rw [str_app_len, str_app_len]; exact Nat.le_trans (m := 1000 + 1 + 1 + 1000) (Nat.add_le_add (Nat.add_le_add_right (Nat.add_le_add_right p1 1) 1) p2) (by decide), q⟩
      · rw [if_neg b3] at q
        refine ⟨_, rfl, sz rl, ?_⟩
        refine ⟨Nat.le_trans (m := 1000 + 1) (Nat.add_le_add_right p1 1) (by decide), ?_⟩
        refine ⟨by rw [str_app_len]; exact Nat.le_trans (m := 1000 + 1 + 1) (Nat.add_le_add_right (Nat.add_le_add_right p1 1) 1) (by decide), _, rfl, sz rl, ?_⟩
        refine ⟨by rw [str_app_len, str_app_len]; exact Nat.le_trans (m := 1000 + 1 + 1 + 1000) (Nat.add_le_add (Nat.add_le_add_right (Nat.add_le_add_right p1 1) 1) p2) (by decide), q⟩
end
end K26

set_option Elab.async false
set_option linter.all false
set_option maxRecDepth 100000
set_option maxHeartbeats 4000000
namespace K26
open PySem L2
section
variable {P : Program} {w : World} {K : PySem.W.Frag} {mg : Str → Option Value} {base : Heap} {A : Adr} {N : Nat → Str}
def sp_thing (K : PySem.W.Frag) (N : Nat → Str) : Sp := fun vs H Q _ => ∃ (n : Int) (l : Addr) (is : List Nat), vs = [.int n, .ref l] ∧ SqL K H l (is.map fun i => V.str (N i)) ∧ 0 < is.length ∧ ∀ th : Th, th.ok is → Q (th.v N) H
theorem h_thing (T : Txt K mg A) : Has P w K mg base 1 "_law_thing" ["_law_number", "_law_things"] (sp_thing K N) := by
  refine T.law_thing.has sc_law_thing (fun vs H Q E h => ?_) (fun f cdv A' outer s H vs Q E hr hu h => ?_)
  · obtain ⟨n, l, is, rfl, _⟩ := h
    rfl
  · obtain ⟨n, l, is, rfl, hl, h0, q⟩ := h
    refine ⟨_, (pss_cons (ps_if (pt_cmpR (o_eqU hu) (pe_op o_mod (fv 0) (pe_int)) (pe_int) (nomark _))
      (pss_one (ps_ret (pe_op o_mod (pe_op o_mulA (pe_op o_fdiv (fv 0) (pe_int)) (pe_int)) (pe_op o_pow (pe_int) (pe_int)))))
      pss_nil)
    (pss_one (ps_ret (pe_ix (ix_all hu) (fv 1) (pe_op o_mod (pe_op o_fdiv (fv 0) (pe_int)) (pe_callB c_lenA rfl T.z_len (by boot_by_name) (pa_cons (fv 1) pa_nil))) (fun _ _ => rfl))))), ?_⟩
    refine ⟨(by show (0 : Int) < 4; decide), rfl, _, rfl, ite2 (fun b => ?_) (fun b => ?_)⟩
    · exact ⟨⟨by decide, by decide⟩, .inr ⟨by decide, by decide⟩, ⟨by decide, by decide, by decide⟩, (by show (0 : Int) < 10 ^ (12 : Int).toNat; decide), q (.i _) (mod_in _ (by decide))⟩
    · have e : (((is.map fun i => V.str (N i)).length : Nat) : Int) = (is.length : Int) := by rw [List.length_map]
      have m := mod_in (n / 4) (show (0 : Int) < (is.length : Int) by omega)
      obtain ⟨x, hx, _, ha⟩ := at_map (fun i => V.str (N i)) m.1 m.2
      refine ⟨⟨by decide, by decide⟩, Or.inl ⟨_, _, rfl, Or.inl ⟨_, hl, rfl⟩, (by rw [e]; omega), Or.inl ⟨_, _, Or.inl hl, by rw [e]; exact ha, q (.x x) hx⟩⟩⟩
end
end K26

set_option Elab.async false
set_option linter.all false
set_option maxRecDepth 100000
set_option maxHeartbeats 4000000
namespace K26
open PySem L2
section
variable {P : Program} {w : World} {K : PySem.W.Frag} {mg : Str → Option Value} {base : Heap} {A : Adr} {N : Nat → Str}
def del (X : List Addr) (H : Hp) : Hp := fun a => if a ∈ X then none else H a
theorem del_same {X : List Addr} {H : Hp} : Same (del X H) H := fun a o h => by
  unfold del at h
  split at h
  · cases h
  · exact h
theorem del_none {X : List Addr} {H : Hp} {x : Addr} (h : x ∈ X) : del X H x = none := if_pos h
theorem del_some {X : List Addr} {H : Hp} {a : Addr} {o : HO} (h : a ∉ X) (e : H a = some o) : del X H a = some o := by
  unfold del
  rw [if_neg h]
  exact e
theorem Same.del {X : List Addr} {H0 H : Hp} (s : Same H0 H) (h : ∀ x ∈ X, H0 x = none) : Same H0 (del X H) := fun a o q => del_some (fun m => by rw [h a m] at q; cases q) (s a o q)
def Keep (H H1 H2 : Hp) : Prop := ∀ a o, H a = none → H1 a = some o → H2 a = some o
theorem comp_foot {a : Addr} {xs : List V} {fr : List Nat} {te : CB → TE} {Q : VK} {σ : St} {H1 : Hp} (R : Nat → V → Hp → Prop) (hx : SqL K H1 a xs) (hn : xs.length < sizeLine)
    (he : ∀ b i x H (G : VK), xs[i]? = some x → Same H1 H → (∀ y H', Same H H' → (∀ H2, Keep H H' H2 → R i y H2) → G y H') → te b (some x :: cFr fr σ) H G)
    (fin : ∀ D H ys, H1 D = none → Same H1 H → H D = some (.lst ys) → ys.length = xs.length → (∀ (i : Nat) y, ys[i]? = some y → R i y H) → Q (.ref D) H) : tBlock (Itl K a) 1 fr (fun _ => gName 0) (fun _ => tYes) te Q σ H1 := by
  refine ⟨fun b D hD => ?_⟩
  refine ⟨fun i m σ' H' => m = xs.length - i ∧ i ≤ xs.length ∧ (∃ v0, σ' = v0 :: cFr fr σ) ∧ Same H1 H' ∧ ∃ ys, H' D = some (.lst ys) ∧ ys.length = i ∧ ∀ (j : Nat) y, ys[j]? = some y → ∀ H2, (∀ c o, c ≠ D → H1 c = none → H' c = some o → H2 c = some o) → R j y H2, ⟨xs.length, rfl, Nat.zero_le _, ⟨none, rfl⟩, Same.upd hD _, [], upd_same, rfl, fun j y h => by cases h⟩, ?_⟩
  rintro i m σ' H' ⟨rfl, hi, ⟨v0, rfl⟩, sm, ys, hl, hy, hR⟩
  by_cases hlt : i < xs.length
  · refine .inr ⟨⟨xs, xs[i], sm.seq hx, List.getElem?_eq_getElem hlt⟩, fun σ2 H2 => (∃ v0, σ2 = v0 :: cFr fr σ) ∧ Same H1 H2 ∧ ∃ ys, H2 D = some (.lst ys) ∧ ys.length = i + 1 ∧ ∀ (j : Nat) y, ys[j]? = some y → ∀ H3, (∀ c o, c ≠ D → H1 c = none → H2 c = some o → H3 c = some o) → R j y H3, fun σ2 H2 q => ⟨xs.length - (i + 1), by omega, rfl, hlt, q⟩, fun v H2 y => ?_⟩
    obtain ⟨rfl, yv⟩ := y
    have ev := yv xs (sm.seq hx)
    refine he b i v _ _ ev sm fun z H4 s4 rz => ⟨ys, s4 _ _ hl, by omega, ⟨_, rfl⟩, ?_, ys ++ [z], upd_same, by simp [hy], fun j y' hj H3 k3 => ?_⟩
    · intro c o q
      by_cases hc : c = D
      · rw [hc, hD] at q; cases q
      · rw [upd_ne hc]; exact (sm.trans s4) c o q
    · by_cases hji : j < ys.length
      · rw [List.getElem?_append_left hji] at hj
        exact hR j y' hj H3 fun c o h1 h2 h3 => k3 c o h1 h2 (by rw [upd_ne h1]; exact s4 _ _ h3)
      · by_cases e : j = ys.length
        · subst e
          rw [List.getElem?_append_right (Nat.le_refl _)] at hj
          simp at hj
          subst hj
          rw [hy]
          refine rz H3 fun c o h1 h2 => ?_
          have cD : c ≠ D := fun z => by rw [z, hl] at h1; cases h1
          exact k3 c o cD (Same.free sm h1) (by rw [upd_ne cD]; exact h2)
        · rw [List.getElem?_eq_none (by simp; omega)] at hj
          cases hj
  · have e : i = xs.length := by omega
    subst e
    exact .inl ⟨⟨xs, sm.seq hx, Nat.le_refl _⟩, fin D H' ys hD sm hl hy fun j y hj => hR j y hj H' fun _ _ _ _ h => h⟩
structure De where
  at_ : Int
  parts : List Nat
  st : Nat
  add : Int
  call : Option (Nat × List Th)
def De.things (e : De) : List Th := match e.call with
  | none => []
  | some (_, ts) => ts
def callV : Option (Nat × List Th) → V
  | none => .non
  | some (d, _) => .int d
def sends (n : Int) : List Nat → List Rw
  | [] => []
  | x :: r => .snd n "quill" (.one (.x x)) :: sends (n + 1) r
def De.n1 (e : De) : Int := e.at_ + 1 + e.parts.length
def De.mid (e : De) : List Rw := if e.parts = [] then [] else [.set e.n1 e.st (.op (.x e.st) "+" (.i e.add)), .snd (e.n1 + 1) "quill" (.op (.x e.st) "*" (.i 3))]
def De.n2 (e : De) : Int := if e.parts = [] then e.n1 else e.n1 + 2
def De.last (e : De) : List Rw := match e.call with
  | none => []
  | some (d, ts) => [.call e.n2 d ts]
def De.dd (e : De) : Dd := ⟨e.parts, sends (e.at_ + 1) e.parts ++ e.mid ++ e.last⟩
structure De.ok (e : De) (d : Nat) (es : List De) : Prop where
  p : ∃ z : Nat, z ≤ 4 ∧ e.parts = (List.range z).map (11 + 4 * d + ·)
  s : e.parts ≠ [] → e.st ∈ e.parts
  a : In e.add
  c : ∀ c ts, e.call = some (c, ts) → c < d ∧ (∃ e', es[c]? = some e' ∧ e'.parts.length = ts.length) ∧ ∀ t ∈ ts, t.ok (e.parts ++ [1, 2])
def EsOk (es : List De) : Prop := ∀ (d : Nat) e, es[d]? = some e → e.ok d es
theorem De.ok.more {e : De} {d : Nat} {es fs : List De} (h : e.ok d es) : e.ok d (es ++ fs) := ⟨h.p, h.s, h.a, fun c ts q => by
  obtain ⟨h1, ⟨e', h2, h3⟩, h4⟩ := h.c c ts q
  exact ⟨h1, ⟨e', by rw [List.getElem?_append_left (List.getElem?_eq_some_iff.mp h2).1]; exact h2, h3⟩, h4⟩⟩
theorem EsOk.snoc {es : List De} {e : De} (h : EsOk es) (he : e.ok es.length es) : EsOk (es ++ [e]) := fun d x hx => by
  by_cases hd : d < es.length
  · rw [List.getElem?_append_left hd] at hx
    exact (h d x hx).more
  · rw [List.getElem?_append_right (by omega)] at hx
    by_cases e0 : d - es.length = 0
    · rw [e0] at hx
      cases hx
      rw [show d = es.length by omega]
      exact he.more
    · rw [List.getElem?_eq_none (by simp; omega)] at hx
      cases hx
theorem De.ok.len {e : De} {d : Nat} {es : List De} (h : e.ok d es) : e.parts.length ≤ 4 := by
  obtain ⟨z, hz, hp⟩ := h.p
  rw [hp, List.length_map, List.length_range]
  exact hz
theorem De.ok.mem {e : De} {d : Nat} {es : List De} (h : e.ok d es) {x : Nat} (hx : x ∈ e.parts) : 11 + 4 * d ≤ x ∧ x < 15 + 4 * d := by
  obtain ⟨z, hz, hp⟩ := h.p
  rw [hp] at hx
  obtain ⟨j, hj, rfl⟩ := List.mem_map.mp hx
  have := List.mem_range.mp hj
  omega
theorem De.ok.nodup {e : De} {d : Nat} {es : List De} (h : e.ok d es) : e.parts.Nodup := by
  obtain ⟨z, hz, hp⟩ := h.p
  rw [hp, List.nodup_iff_pairwise_ne, List.pairwise_map]
  exact List.Pairwise.imp (fun {a b} (q : a ≠ b) => by omega) List.nodup_range
def dds (es : List De) : List Dd := es.map De.dd
theorem dds_get {es : List De} {d : Nat} {e : De} (h : es[d]? = some e) : (dds es)[d]? = some e.dd := by
  unfold dds
  rw [List.getElem?_map, h]
  rfl
theorem flat_len {es : List De} (h : ∀ e ∈ es, e.parts.length ≤ 4) : ((dds es).flatMap Dd.parts).length ≤ 4 * es.length := by
  induction es with
  | nil => exact Nat.zero_le _
  | cons e r ih =>
    have h1 := h e List.mem_cons_self
    have h2 := ih fun x hx => h x (List.mem_cons_of_mem _ hx)
    unfold dds at h2 ⊢
    rw [List.map_cons, List.flatMap_cons, List.length_append, List.length_cons]
    have : e.dd.parts.length = e.parts.length := rfl
    omega
theorem names_of {es : List De} (D : Dist N) (h : EsOk es) (h8 : es.length ≤ 8) : Names N (dds es) := by
  have get : ∀ e ∈ es, ∃ d : Nat, d < es.length ∧ es[d]? = some e := fun e he => by
    obtain ⟨d, hd, q⟩ := List.mem_iff_getElem.mp he
    exact ⟨d, hd, by rw [List.getElem?_eq_getElem hd, q]⟩
  have l4 : ∀ e ∈ es, e.parts.length ≤ 4 := fun e he => by
    obtain ⟨d, hd, q⟩ := get e he
    exact (h d e q).len
  have bd : ∀ j ∈ (dds es).flatMap Dd.parts, 11 ≤ j ∧ j < 64 := fun j hj => by
    obtain ⟨D', hD, hm⟩ := List.mem_flatMap.mp hj
    obtain ⟨e, he, rfl⟩ := List.mem_map.mp hD
    obtain ⟨d, hd, q⟩ := get e he
    have := (h d e q).mem hm
    omega
  have nd : ((dds es).flatMap Dd.parts).Nodup := by
    rw [List.nodup_iff_pairwise_ne, List.pairwise_flatMap]
    refine ⟨fun D' hD => ?_, ?_⟩
    · obtain ⟨e, he, rfl⟩ := List.mem_map.mp hD
      obtain ⟨d, hd, q⟩ := get e he
      exact (h d e q).nodup
    · unfold dds
      rw [List.pairwise_map, List.pairwise_iff_getElem]
      intro i j hi hj hij x hx y hy
      have h1 := (h i _ (List.getElem?_eq_getElem hi)).mem hx
      have h2 := (h j _ (List.getElem?_eq_getElem hj)).mem hy
      omega
  refine ⟨D, fun j hj => ?_, ?_, ?_, ?_⟩
  · unfold idxOf at hj
    rcases List.mem_append.mp hj with q | q
    · simp only [List.mem_cons, List.not_mem_nil, or_false] at q
      omega
    · exact (bd j q).2
  · unfold idxOf
    rw [List.nodup_append]
    refine ⟨by decide, nd, fun a ha b hb => ?_⟩
    have := bd b hb
    simp only [List.mem_cons, List.not_mem_nil, or_false] at ha
    omega
  · unfold idxOf
    rw [List.length_append]
    have := flat_len l4
    have : ([1, 2] : List Nat).length = 2 := rfl
    omega
  · unfold dds
    rw [List.length_map]
    exact h8
theorem wf_snd {ds : List Dd} {f : Nat} {n : Int} {x : Str} {v : Val} : Wf ds f (.snd n x v) := by cases f <;> exact trivial
theorem wf_set {ds : List Dd} {f : Nat} {n : Int} {x : Nat} {v : Val} : Wf ds f (.set n x v) := by cases f <;> exact trivial
theorem wf_sends {ds : List Dd} {f : Nat} : ∀ {n : Int} {xs : List Nat}, ∀ r ∈ sends n xs, Wf ds f r
  | _, [], r, h => by cases h
  | n, x :: xs, r, h => by
    rcases List.mem_cons.mp h with rfl | h
    · exact wf_snd
    · exact wf_sends r h
theorem wf_mid {ds : List Dd} {f : Nat} {e : De} : ∀ r ∈ e.mid, Wf ds f r := fun r h => by
  unfold De.mid at h
  split at h
  · cases h
  · simp only [List.mem_cons, List.not_mem_nil, or_false] at h
    rcases h with rfl | rfl
    · exact wf_set
    · exact wf_snd
theorem wf_call {es : List De} (h : EsOk es) : ∀ (f d : Nat) (e : De) (n : Int) (ts : List Th), d < f → es[d]? = some e → e.parts.length = ts.length → Wf (dds es) f (.call n d ts)
  | 0, d, e, n, ts, hd, _, _ => by omega
  | f + 1, d, e, n, ts, hd, he, hl => by
    refine ⟨e.dd, dds_get he, hl, fun r hr => ?_⟩
    rcases List.mem_append.mp hr with hr | hr
    · rcases List.mem_append.mp hr with hr | hr
      · exact wf_sends r hr
      · exact wf_mid r hr
    · unfold De.last at hr
      split at hr
      · cases hr
      · rename_i c us hc
        obtain ⟨h1, ⟨e', h2, h3⟩, h4⟩ := (h d e he).c c us hc
        rw [List.mem_singleton.mp hr]
        exact wf_call h f c e' _ us (by omega) h2 h3
theorem cost_snd {ds : List Dd} {f : Nat} {n : Int} {x : Str} {v : Val} : cost ds f (.snd n x v) = 1 := by cases f <;> rfl
theorem cost_set {ds : List Dd} {f : Nat} {n : Int} {x : Nat} {v : Val} : cost ds f (.set n x v) = 1 := by cases f <;> rfl
theorem cost_sends {ds : List Dd} {f : Nat} : ∀ {n : Int} {xs : List Nat}, ((sends n xs).map (cost ds f)).sum = xs.length
  | _, [] => rfl
  | n, x :: xs => by
    show ((Rw.snd n "quill" (.one (.x x)) :: sends (n + 1) xs).map (cost ds f)).sum = _
    rw [List.map_cons, List.sum_cons, cost_snd, cost_sends, List.length_cons]
    omega
theorem cost_mid {ds : List Dd} {f : Nat} {e : De} : (e.mid.map (cost ds f)).sum ≤ 2 := by
  unfold De.mid
  split
  · exact Nat.zero_le _
  · simp only [List.map_cons, List.map_nil, List.sum_cons, List.sum_nil, cost_snd, cost_set]
    omega
theorem cost_call {es : List De} (h : EsOk es) : ∀ (f d : Nat) (e : De) (n : Int) (ts : List Th), es[d]? = some e → cost (dds es) f (.call n d ts) ≤ 1 + 7 * f
  | 0, d, e, n, ts, _ => Nat.le_refl _
  | f + 1, d, e, n, ts, he => by
    unfold cost
    rw [dds_get he]
    show 1 + ((sends (e.at_ + 1) e.parts ++ e.mid ++ e.last).map (cost (dds es) f)).sum ≤ _
    rw [List.map_append, List.map_append, List.sum_append, List.sum_append, cost_sends]
    have h1 := (h d e he).len
    have h2 := cost_mid (ds := dds es) (f := f) (e := e)
    have h3 : (e.last.map (cost (dds es) f)).sum ≤ 1 + 7 * f := by
      unfold De.last
      split
      · exact Nat.zero_le _
      · rename_i c us hc
        obtain ⟨_, ⟨e', h2, _⟩, _⟩ := (h d e he).c c us hc
        rw [List.map_cons, List.map_nil, List.sum_cons, List.sum_nil]
        exact cost_call h f c e' _ us h2
    omega
end
theorem De.len_of {ps : List Nat} {d : Nat} (h : ∃ z : Nat, z ≤ 4 ∧ ps = (List.range z).map (11 + 4 * d + ·)) : ps.length ≤ 4 := by
  obtain ⟨z, hz, rfl⟩ := h
  rw [List.length_map, List.length_range]
  exact hz
end K26

set_option Elab.async false
set_option linter.all false
set_option maxRecDepth 100000
set_option maxHeartbeats 4000000
namespace K26
open PySem L2
section
variable {P : Program} {w : World} {K : PySem.W.Frag} {mg : Str → Option Value} {base : Heap} {A : Adr} {N : Nat → Str}
def base5 (nm a p c ad : V) : List (Key × V) := [(.inr "name", nm), (.inr "at", a), (.inr "parts", p), (.inr "call", c), (.inr "add", ad)]
def setT (N : Nat → Str) (e : De) : List (Key × V) := if e.parts = [] then [] else [(.inr "set", .str (N e.st))]
def kvs5 (N : Nat → Str) (k : Nat) (e : De) (pp : Addr) : List (Key × V) := base5 (.str (N (3 + k))) (.int e.at_) (.ref pp) (callV e.call) (.int e.add) ++ setT N e
def kvs (N : Nat → Str) (k : Nat) (e : De) (pp pt : Addr) : List (Key × V) := kvs5 N k e pp ++ [(.inr "things", .ref pt)]
theorem put_add {nm a p c v : V} : putK [((.inr "name" : Key), nm), (.inr "at", a), (.inr "parts", p), (.inr "call", c)] (.inr "add") v = base5 nm a p c v := rfl
theorem put_call {nm a p c ad v : V} {e : De} : putK (base5 nm a p c ad ++ setT N e) (.inr "call") v = base5 nm a p v ad ++ setT N e := by
  unfold setT
  split <;> rfl
theorem put_things {k : Nat} {e : De} {pp : Addr} {v : V} : putK (kvs5 N k e pp) (.inr "things") v = kvs5 N k e pp ++ [(.inr "things", v)] := by
  unfold kvs5 setT
  split <;> rfl
theorem kvs5_len {k : Nat} {e : De} {pp : Addr} : (kvs5 N k e pp).length ≤ 6 := by
  unfold kvs5 setT
  split <;> simp [base5]
theorem dget {H : Hp} {a : Addr} {l : List (Key × V)} {x : Str} {v : V} (h : H a = some (.dK l)) (e : L2.valV l (.inr x) = some v) : DGet H a (.str x) (some v) := by
  have := DGet.k (k := .inr x) h
  rw [e] at this
  exact this
structure DeA (N : Nat → Str) (H : Hp) (a pp pt : Addr) (k : Nat) (e : De) : Prop where
  d : H a = some (.dK (kvs N k e pp pt))
  p : H pp = some (.lst (e.parts.map fun i => V.str (N i)))
  t : H pt = some (.lst (e.things.map (Th.v N)))
theorem DeA.same {H H' : Hp} {a pp pt : Addr} {k : Nat} {e : De} (h : DeA N H a pp pt k e) (s : Same H H') : DeA N H' a pp pt k e := ⟨s _ _ h.d, s _ _ h.p, s _ _ h.t⟩
theorem kv_name {k : Nat} {e : De} {pp : Addr} {tl : List (Key × V)} : L2.valV (kvs5 N k e pp ++ tl) (.inr "name") = some (.str (N (3 + k))) := rfl
theorem kv_at {k : Nat} {e : De} {pp : Addr} {tl : List (Key × V)} : L2.valV (kvs5 N k e pp ++ tl) (.inr "at") = some (.int e.at_) := rfl
theorem kv_parts {k : Nat} {e : De} {pp : Addr} {tl : List (Key × V)} : L2.valV (kvs5 N k e pp ++ tl) (.inr "parts") = some (.ref pp) := rfl
theorem kv_call {k : Nat} {e : De} {pp : Addr} {tl : List (Key × V)} : L2.valV (kvs5 N k e pp ++ tl) (.inr "call") = some (callV e.call) := rfl
theorem kv_add {k : Nat} {e : De} {pp : Addr} {tl : List (Key × V)} : L2.valV (kvs5 N k e pp ++ tl) (.inr "add") = some (.int e.add) := rfl
theorem kv_set {k : Nat} {e : De} {pp : Addr} {tl : List (Key × V)} (h : e.parts ≠ []) : L2.valV (kvs5 N k e pp ++ tl) (.inr "set") = some (.str (N e.st)) := by
  unfold kvs5 setT
  rw [if_neg h]
  rfl
theorem kv_things {k : Nat} {e : De} {pp pt : Addr} : L2.valV (kvs5 N k e pp ++ [(.inr "things", .ref pt)]) (.inr "things") = some (.ref pt) := by
  unfold kvs5 setT
  split <;> rfl
theorem DeA.name {H : Hp} {a pp pt : Addr} {k : Nat} {e : De} (h : DeA N H a pp pt k e) : DGet H a (.str "name") (some (.str (N (3 + k)))) := dget h.d kv_name
theorem DeA.at_ {H : Hp} {a pp pt : Addr} {k : Nat} {e : De} (h : DeA N H a pp pt k e) : DGet H a (.str "at") (some (.int e.at_)) := dget h.d kv_at
theorem DeA.parts {H : Hp} {a pp pt : Addr} {k : Nat} {e : De} (h : DeA N H a pp pt k e) : DGet H a (.str "parts") (some (.ref pp)) := dget h.d kv_parts
theorem DeA.call {H : Hp} {a pp pt : Addr} {k : Nat} {e : De} (h : DeA N H a pp pt k e) : DGet H a (.str "call") (some (callV e.call)) := dget h.d kv_call
theorem DeA.add {H : Hp} {a pp pt : Addr} {k : Nat} {e : De} (h : DeA N H a pp pt k e) : DGet H a (.str "add") (some (.int e.add)) := dget h.d kv_add
theorem DeA.set {H : Hp} {a pp pt : Addr} {k : Nat} {e : De} (h : DeA N H a pp pt k e) (hp : e.parts ≠ []) : DGet H a (.str "set") (some (.str (N e.st))) := dget h.d (kv_set hp)
theorem DeA.things {H : Hp} {a pp pt : Addr} {k : Nat} {e : De} (h : DeA N H a pp pt k e) : DGet H a (.str "things") (some (.ref pt)) := dget h.d kv_things
def DesAt (N : Nat → Str) (H : Hp) (xs : List V) (es : List De) : Prop := xs.length = es.length ∧ ∀ (d : Nat) v, xs[d]? = some v → ∃ e a pp pt, es[d]? = some e ∧ v = .ref a ∧ DeA N H a pp pt d e
theorem DesAt.same {H H' : Hp} {xs : List V} {es : List De} (h : DesAt N H xs es) (s : Same H H') : DesAt N H' xs es := ⟨h.1, fun d v hv => by
  obtain ⟨e, a, pp, pt, h1, h2, h3⟩ := h.2 d v hv
  exact ⟨e, a, pp, pt, h1, h2, h3.same s⟩⟩
theorem DesAt.get {H : Hp} {xs : List V} {es : List De} (h : DesAt N H xs es) {d : Nat} {e : De} (he : es[d]? = some e) : ∃ a pp pt, xs[d]? = some (.ref a) ∧ DeA N H a pp pt d e := by
  have hd : d < xs.length := by rw [h.1]; exact (List.getElem?_eq_some_iff.mp he).1
  obtain ⟨e', a, pp, pt, h1, h2, h3⟩ := h.2 d _ (List.getElem?_eq_getElem hd)
  rw [he] at h1
  cases h1
  exact ⟨a, pp, pt, by rw [List.getElem?_eq_getElem hd, h2], h3⟩
theorem DesAt.snoc {H : Hp} {xs : List V} {es : List De} (h : DesAt N H xs es) {e : De} {a pp pt : Addr} (ha : DeA N H a pp pt es.length e) : DesAt N H (xs ++ [.ref a]) (es ++ [e]) := by
  refine ⟨by rw [List.length_append, List.length_append, h.1]; rfl, fun d v hv => ?_⟩
  by_cases hd : d < xs.length
  · rw [List.getElem?_append_left hd] at hv
    obtain ⟨e', a', pp', pt', h1, h2, h3⟩ := h.2 d v hv
    exact ⟨e', a', pp', pt', by rw [List.getElem?_append_left (by rw [← h.1]; exact hd)]; exact h1, h2, h3⟩
  · rw [List.getElem?_append_right (by omega)] at hv
    by_cases e0 : d - xs.length = 0
    · rw [e0] at hv
      cases hv
      have ed : d = es.length := by rw [← h.1]; omega
      exact ⟨e, a, pp, pt, by rw [ed, List.getElem?_append_right (Nat.le_refl _)]; simp, rfl, by rw [ed]; exact ha⟩
    · rw [List.getElem?_eq_none (by simp; omega)] at hv
      cases hv
structure Fd (H Hx : Hp) (g l : Addr) (ps : List V) (kv : List (Key × V)) : Prop where
  s : Same H Hx
  g : Hx g = some (.dK kv)
  l : Hx l = some (.lst ps)
theorem Fd.same {H Hx Hy : Hp} {g l : Addr} {ps : List V} {kv : List (Key × V)} (h : Fd H Hx g l ps kv) (s : Same Hx Hy) : Fd H Hy g l ps kv := ⟨h.s.trans s, s _ _ h.g, s _ _ h.l⟩
theorem Fd.put {H Hx : Hp} {g l : Addr} {ps : List V} {kv kv' : List (Key × V)} (h : Fd H Hx g l ps kv) (g0 : H g = none) : Fd H (upd Hx g (.dK kv')) g l ps kv' := ⟨Same.out h.s g0 _, upd_same, by rw [upd_ne (fun z => by have := h.l; rw [z, h.g] at this; cases this)]; exact h.l⟩
def sp_deed (K : PySem.W.Frag) (N : Nat → Str) : Sp := fun vs H Q _ => ∃ (a nl : Addr) (ns : List Int) (k : Nat) (n : Int), vs = [.ref a, .ref nl, .int (k : Int), .int n] ∧ SqL K H a (ns.map V.int) ∧ H nl = some (.lst (nmL N)) ∧ k < 8 ∧
  ∀ (g pp : Addr) (e : De) (H' : Hp), H g = none → H pp = none → Fd H H' g pp (e.parts.map fun i => V.str (N i)) (kvs5 N k e pp) → (∃ z : Nat, z ≤ 4 ∧ e.parts = (List.range z).map (11 + 4 * k + ·)) → (e.parts ≠ [] → e.st ∈ e.parts) → In e.add → (e.call = none ∨ ∃ c, c < k ∧ e.call = some (c, [])) → Q (.ref g) H'
theorem h_deed (T : Txt K mg A) : Has P w K mg base 2 "_law_deed" ["_law_script", "_law_names", "_law_k", "_law_at"] (sp_deed K N) := by
  have D_law_cell_at := h_cell (P := P) (w := w) (base := base) T
  have D_law_mix := h_mix (P := P) (w := w) (base := base) T
  refine T.law_deed.has (k := 1) sc_law_deed (fun vs H Q E h => ?_) (fun f cdv A' outer s H vs Q E hr hu h => ?_)
  · obtain ⟨a, nl, ns, k, n, rfl, _⟩ := h
    rfl
  · obtain ⟨a, nl, ns, k, n, rfl, hS, hN, hk, q⟩ := h
    refine ⟨_, (pss_cons (ps_set (i := 4) sc_law_deed.nd rfl (Or.inl rfl) (pe_callD D_law_cell_at hr (pa_cons (fv 0) (pa_cons (pe_op o_add (pe_int) (fv 2)) pa_nil))))
    (pss_cons (ps_set (i := 5) sc_law_deed.nd rfl (Or.inl rfl) (pe_op o_mod (pe_callD D_law_mix hr (pa_cons (fv 4) (pa_cons (pe_int) pa_nil))) (pe_int)))
    (pss_cons (ps_setComp (j := 6) (N := ["_law_j", "_law_names", "_law_k"]) (own := 1) (fr := [1, 2]) (CompOk.of (by kernel_rfl!)) rfl sc_law_deed.nd rfl (Or.inl rfl) (pi_range1 rfl T.z_range (pa_cons (fv 5) pa_nil)) (fun b => pg_name (i := 0) (show List.Nodup (["_law_j", "_law_names", "_law_k"] : List PySem.Str) by decide +kernel) rfl (by first | exact Or.inl rfl | exact Or.inr rfl)) (fun b => pf_nil) (fun b => pe_ix (ix_all hu) (fv 1) (pe_op o_add (pe_op o_add (pe_int) (pe_op o_mulA (pe_int) (fv 2))) (fv 0)) (fun _ _ => rfl)))
    (pss_cons (ps_set (i := 7) sc_law_deed.nd rfl (Or.inl rfl) (pe_disp (pps_cons (pe_str) (pe_ix (ix_all hu) (fv 1) (pe_op o_add (pe_int) (fv 2)) (fun _ _ => rfl)) (pps_cons (pe_str) (fv 3) (pps_cons (pe_str) (fv 6) (pps_cons (pe_str) (pe_non) (pps_nil))))) rfl rfl (by intro z; cases z) (by decide)))
    (pss_cons (ps_asg (pe_op o_mod (pe_callD D_law_mix hr (pa_cons (fv 4) (pa_cons (pe_int) pa_nil))) (pe_op o_pow (pe_int) (pe_int))) (pg_sub (fv 7) (pe_str) (st_all hu set_list)))
    (pss_cons (ps_if (pt_cmpR (o_gt) (fv 5) (pe_int) (nomark _))
      (pss_one (ps_asg (pe_ix (ix_all hu) (fv 6) (pe_op o_mod (pe_callD D_law_mix hr (pa_cons (fv 4) (pa_cons (pe_int) pa_nil))) (fv 5)) (fun _ _ => rfl)) (pg_sub (fv 7) (pe_str) (st_all hu set_list))))
      pss_nil)
    (pss_cons (ps_if (PW.pt (pw_and (pt_cmpR (o_gt) (fv 2) (pe_int) (nomark _)) (pw_and1 (pt_cmpR (o_gt) (pe_op o_mod (pe_callD D_law_mix hr (pa_cons (fv 4) (pa_cons (pe_int) pa_nil))) (pe_int)) (pe_int) (nomark _)))))
      (pss_one (ps_asg (pe_op o_mod (pe_op o_fdiv (pe_callD D_law_mix hr (pa_cons (fv 4) (pa_cons (pe_int) pa_nil))) (pe_int)) (fv 2)) (pg_sub (fv 7) (pe_str) (st_all hu set_list))))
      pss_nil)
    (pss_one (ps_ret (fv 7)))))))))), ?_⟩
    refine seq_cut fun M1 K1 => ?_
    refine ⟨a, ns, 3 + (k : Int), rfl, hS, by omega, K1 _ _ ?_⟩
    refine seq_cut fun M2 K2 => ?_
    refine ⟨cellAt ns (3 + (k : Int)), 0, rfl, by decide, fun m H1 s1 => ⟨(by show (0 : Int) < 5; decide), K2 _ _ ?_⟩⟩
    generalize cellAt ns (3 + (k : Int)) = cl
    obtain ⟨z, hz, z4⟩ : ∃ z : Nat, m % 5 = (z : Int) ∧ z ≤ 4 := by
      have := mod_in m (show (0 : Int) < 5 by decide)
      exact ⟨(m % 5).toNat, by omega, by omega⟩
    dsimp only
    rw [hz]
    refine seq_cut fun M3 K3 => ?_
    refine ⟨(z : Int), rfl, by omega, by omega, comp_range (lo := 0) (n := z) (fun _ => true) (fun j => .str (N (11 + 4 * k + j))) (small1000 (by omega)) (fun b i H2 R _ _ kk => kk _ (Same.refl _)) (fun b i H2 R hi _ s2 kk => ?_) (fun l H2 hl s2 e2 => ?_)⟩
    · have ea : atI (nmL N) (11 + 4 * (k : Int) + (0 + (i : Int))) = some (.str (N (11 + 4 * k + i))) := by
        have := nml_at (N := N) (i := 11 + 4 * (k : Int) + (0 + (i : Int))) (by omega) (by omega)
        rw [show (11 + 4 * (k : Int) + (0 + (i : Int))).toNat = 11 + 4 * k + i by omega] at this
        exact this
      exact ⟨.inl ⟨by decide, by decide⟩, Or.inl ⟨_, _, Or.inl (SqL.of (s2 _ _ (s1 _ _ hN))), ea, kk _ (Same.refl _)⟩⟩
    have ep : H2 l = some (.lst (((List.range z).map (11 + 4 * k + ·)).map fun i => V.str (N i))) := by
      rw [e2, filter_true, List.map_map]
      rfl
    have l0 := Same.free s1 hl
    have t2 := s1.trans s2
    generalize hps : (List.range z).map (11 + 4 * k + ·) = ps at ep
    have pl : ps.length = z := by rw [← hps, List.length_map, List.length_range]
    refine K3 _ _ ?_
    refine seq_cut fun M4 K4 => ?_
    refine fun g hg => ?_
    have s3 := Same.upd hg (HO.dK [])
    have e3 : (upd H2 g (HO.dK [])) g = some (.dK []) := upd_same
    have g0 := Same.free t2 hg
    generalize upd H2 g (HO.dK []) = H3 at s3 e3 ⊢
    have t3 := t2.trans s3
    have ea : atI (nmL N) (3 + (k : Int)) = some (.str (N (3 + k))) := by
      have := nml_at (N := N) (i := 3 + (k : Int)) (by omega) (by omega)
      rw [show (3 + (k : Int)).toNat = 3 + k by omega] at this
      exact this
    refine Or.inl ⟨_, _, Or.inl (SqL.of (t3 _ _ hN)), ea, ?_⟩
    refine ⟨e3, [((.inr "name" : Key), .str (N (3 + k))), (.inr "at", .int n), (.inr "parts", .ref l), (.inr "call", .non)], rfl, (show 4 ≤ 15 by decide), ?_⟩
    have F4 : Fd H _ g l (ps.map fun i => V.str (N i)) [((.inr "name" : Key), .str (N (3 + k))), (.inr "at", .int n), (.inr "parts", .ref l), (.inr "call", .non)] := Fd.put (Hx := H3) (kv := []) ⟨t3, e3, s3 _ _ ep⟩ g0
    rw [show mergeK [] [((.inr "name" : Key), V.str (N (3 + k))), (.inr "at", .int n), (.inr "parts", .ref l), (.inr "call", .non)] = [((.inr "name" : Key), V.str (N (3 + k))), (.inr "at", .int n), (.inr "parts", .ref l), (.inr "call", .non)] from rfl]
    generalize upd H3 g (HO.dK [((.inr "name" : Key), V.str (N (3 + k))), (.inr "at", .int n), (.inr "parts", .ref l), (.inr "call", .non)]) = H4 at F4 ⊢
    refine K4 _ _ ?_
    refine seq_cut fun M5 K5 => ?_
    refine ⟨cl, 1, rfl, by decide, fun m1 H5 s5 => ⟨⟨by decide, by decide, by decide⟩, (by show (0 : Int) < 10 ^ (9 : Int).toNat; decide), ?_⟩⟩
    have a9 : In (m1 % (10 ^ (9 : Int).toNat)) := by
      have := mod_in m1 (show (0 : Int) < 10 ^ (9 : Int).toNat by decide)
      exact ⟨this.1, Int.lt_trans this.2 (by decide)⟩
    dsimp only
    generalize m1 % (10 ^ (9 : Int).toNat) = ad at a9 ⊢
    have F5 := F4.same s5
    refine ⟨_, DPut.k (k := .inr "add") F5.g (show 4 < sizeLine by decide), K5 _ _ ?_⟩
    have F6 := F5.put (kv' := base5 (.str (N (3 + k))) (.int n) (.ref l) .non (.int ad)) g0
    rw [put_add]
    generalize upd H5 g (HO.dK (base5 (.str (N (3 + k))) (.int n) (.ref l) .non (.int ad))) = H6 at F6 ⊢
    refine seq_cut fun M6 K6 => ?_
    have rest : ∀ (x : Nat) (Hx : Hp), (ps ≠ [] → x ∈ ps) → Fd H Hx g l (ps.map fun i => V.str (N i)) (kvs5 N k ⟨n, ps, x, ad, none⟩ l) → M6 [some (.ref a), some (.ref nl), some (.int (k : Int)), some (.int n), some (.int cl), some (.int (z : Int)), some (.ref l), some (.ref g)] Hx := by
      intro x Hx hx Fx
      refine K6 _ _ ?_
      refine seq_cut fun M7 K7 => ?_
      have fin : ∀ (c : Option (Nat × List Th)) (Hy : Hp), (c = none ∨ ∃ d, d < k ∧ c = some (d, [])) → Fd H Hy g l (ps.map fun i => V.str (N i)) (kvs5 N k ⟨n, ps, x, ad, c⟩ l) → M7 [some (.ref a), some (.ref nl), some (.int (k : Int)), some (.int n), some (.int cl), some (.int (z : Int)), some (.ref l), some (.ref g)] Hy := by
        intro c Hy hc Fy
        refine K7 _ _ ?_
        exact q g l ⟨n, ps, x, ad, c⟩ Hy g0 l0 Fy ⟨z, z4, hps.symm⟩ hx a9 hc
      refine ⟨_, rfl, ite2 (fun b => ?_) (fun b => fin none Hx (Or.inl rfl) Fx)⟩
      have kp : 0 < (k : Int) := of_decide_eq_true b
      refine ⟨cl, 3, rfl, by decide, fun m3 H7 s7 => ⟨(by show (0 : Int) < 5; decide), _, rfl, ite2 (fun b => ?_) (fun b => fin none H7 (Or.inl rfl) (Fx.same s7))⟩⟩
      refine ⟨cl, 3, rfl, by decide, fun m4 H8 s8 => ⟨⟨by decide, by decide⟩, kp, ?_⟩⟩
      have F8 := (Fx.same s7).same s8
      obtain ⟨c, hc, ck⟩ : ∃ c : Nat, m4 / 5 % (k : Int) = (c : Int) ∧ c < k := by
        have := mod_in (m4 / 5) kp
        exact ⟨(m4 / 5 % (k : Int)).toNat, by omega, by omega⟩
      dsimp only
      rw [hc]
      refine ⟨_, DPut.k (k := .inr "call") F8.g (small1000 (Nat.le_trans kvs5_len (by decide))), ?_⟩
      refine fin (some (c, [])) _ (Or.inr ⟨c, ck, rfl⟩) ?_
      have := F8.put (kv' := kvs5 N k ⟨n, ps, x, ad, some (c, [])⟩ l) g0
      rw [show putK (kvs5 N k ⟨n, ps, x, ad, none⟩ l) (.inr "call") (.int (c : Int)) = kvs5 N k ⟨n, ps, x, ad, some (c, [])⟩ l from put_call]
      exact this
    refine ⟨_, rfl, ite2 (fun b => ?_) (fun b => ?_)⟩
    · have zp : 0 < (z : Int) := of_decide_eq_true b
      refine ⟨cl, 2, rfl, by decide, fun m2 H7 s7 => ⟨zp, ?_⟩⟩
      have F7 := F6.same s7
      have mz := mod_in m2 zp
      obtain ⟨x, hx, _, ha⟩ := at_map (xs := ps) (fun i => V.str (N i)) (k := m2 % (z : Int)) mz.1 (by rw [pl]; exact mz.2)
      refine Or.inl ⟨_, _, Or.inl (SqL.of F7.l), ha, _, DPut.k (k := .inr "set") F7.g (show 5 < sizeLine by decide), ?_⟩
      refine rest x _ (fun _ => hx) ?_
      have ne : ps ≠ [] := fun z => by rw [z] at hx; cases hx
      have e6 : kvs5 N k ⟨n, ps, x, ad, none⟩ l = base5 (.str (N (3 + k))) (.int n) (.ref l) .non (.int ad) ++ [(.inr "set", .str (N x))] := by
        unfold kvs5 setT
        rw [if_neg ne]
        rfl
      rw [e6]
      exact F7.put g0
    · have z0 : ps = [] := by
        have : ¬ 0 < (z : Int) := of_decide_eq_false (Bool.eq_false_iff.mpr b)
        exact List.eq_nil_of_length_eq_zero (by omega)
      refine rest 0 _ (fun h => absurd z0 h) ?_
      have e6 : kvs5 N k ⟨n, ps, 0, ad, none⟩ l = base5 (.str (N (3 + k))) (.int n) (.ref l) .non (.int ad) := by
        unfold kvs5 setT
        rw [if_pos z0]
        rfl
      rw [e6]
      exact F6
end
end K26

set_option Elab.async false
set_option linter.all false
set_option maxRecDepth 100000
set_option maxHeartbeats 4000000
namespace K26
open PySem L2
section
variable {P : Program} {w : World} {K : PySem.W.Frag} {mg : Str → Option Value} {base : Heap} {A : Adr} {N : Nat → Str}
theorem eqv_nilS {ys : List Str} : PyData.eqv (.list (ys.map PyData.str)) (.list []) = decide (ys = []) := by
  cases ys with
  | nil => rfl
  | cons y r => rfl
theorem eqv_nilI {ys : List Int} : PyData.eqv (.list (ys.map PyData.int)) (.list []) = decide (ys = []) := by
  cases ys with
  | nil => rfl
  | cons y r => rfl
theorem strs_of (ps : List Nat) : (ps.map fun i => V.str (N i)) = (ps.map N).map V.str := by
  rw [List.map_map]
  rfl
theorem cut12 : cutV (nmL N) (some 1) (some 3) = ([1, 2] : List Nat).map fun i => V.str (N i) := rfl
theorem shaped_parts (ok : ∀ i, PyData.strOk (N i) = true) (ps : List Nat) : SeqAt.shaped (.list ((ps.map N).map PyData.str)) = true := shaped_strs fun y hy => by
  obtain ⟨i, _, rfl⟩ := List.mem_map.mp hy
  exact ok i
theorem callV_none {c : Option (Nat × List Th)} : (!decide (callV c = .non)) = c.isSome := by
  cases c with
  | none => rfl
  | some p => rfl
def sp_deeds (K : PySem.W.Frag) (N : Nat → Str) : Sp := fun vs H Q _ => ∃ (a nl : Addr) (ns : List Int), vs = [.ref a, .ref nl] ∧ SqL K H a (ns.map V.int) ∧ H nl = some (.lst (nmL N)) ∧ (∀ i, PyData.strOk (N i) = true) ∧
  ∀ (tp DL : Addr) (xs : List V) (es : List De) (n : Int) (H' : Hp), Same H H' → H' tp = some (.tup [.ref DL, .int n]) → H' DL = some (.lst xs) → DesAt N H' xs es → EsOk es → 0 < es.length → es.length ≤ 8 → Q (.ref tp) H'
theorem h_deeds (T : Txt K mg A) : Has P w K mg base 3 "_law_deeds" ["_law_script", "_law_names"] (sp_deeds K N) := by
  have D_law_cell_at := h_cell (P := P) (w := w) (base := base) T
  have D_law_mix := h_mix (P := P) (w := w) (base := base) T
  have D_law_deed := h_deed (P := P) (w := w) (base := base) (N := N) T
  have D_law_thing := h_thing (P := P) (w := w) (base := base) (N := N) T
  refine T.law_deeds.has (k := 2) sc_law_deeds (fun vs H Q E h => ?_) (fun f cdv A' outer s H vs Q E hr hu h => ?_)
  · obtain ⟨a, nl, ns, rfl, _⟩ := h
    rfl
  · obtain ⟨a, nl, ns, rfl, hS, hN, sok, q⟩ := h
    refine ⟨_, (pss_cons (ps_set (i := 2) sc_law_deeds.nd rfl (Or.inl rfl) (pe_lst (pa_nil)))
    (pss_cons (ps_set (i := 3) sc_law_deeds.nd rfl (Or.inl rfl) (pe_int))
    (pss_cons (ps_for PassesOwn.never rfl (pi_range1 rfl T.z_range (pa_cons (pe_op o_add (pe_int) (pe_op o_mod (pe_callD D_law_cell_at hr (pa_cons (fv 0) (pa_cons (pe_int) pa_nil))) (pe_int))) pa_nil)) (pg_name (i := 4) sc_law_deeds.nd rfl (by first | exact Or.inl rfl | exact Or.inr rfl))
      (pss_cons (ps_set (i := 5) sc_law_deeds.nd rfl (Or.inl rfl) (pe_callD D_law_deed hr (pa_cons (fv 0) (pa_cons (fv 1) (pa_cons (fv 4) (pa_cons (fv 3) pa_nil))))))
      (pss_cons (ps_asg (pe_lst (pa_nil)) (pg_sub (fv 5) (pe_str) (st_all hu set_list)))
      (pss_cons (ps_set (i := 3) sc_law_deeds.nd rfl (Or.inl rfl) (pe_op o_add (pe_op o_add (fv 3) (pe_int)) (pe_callB c_lenA rfl T.z_len (by boot_by_name) (pa_cons (pe_ix (ix_all hu) (fv 5) (pe_str) (fun _ _ => rfl)) pa_nil))))
      (pss_cons (ps_if (pt_cmpR (o_ne hu) (pe_ix (ix_all hu) (fv 5) (pe_str) (fun _ _ => rfl)) (pe_lst (pa_nil)) (nomark _))
        (pss_one (ps_set (i := 3) sc_law_deeds.nd rfl (Or.inl rfl) (pe_op o_add (fv 3) (pe_int))))
        pss_nil)
      (pss_cons (ps_if (pt_cmpR (o_isnot) (pe_ix (ix_all hu) (fv 5) (pe_str) (fun _ _ => rfl)) (pe_non) (nomark _))
        (pss_cons (ps_for PassesOwn.never rfl (pi_range1 rfl T.z_range (pa_cons (pe_callB c_lenA rfl T.z_len (by boot_by_name) (pa_cons (pe_ix (ix_all hu) (pe_ix (ix_all hu) (fv 2) (pe_ix (ix_all hu) (fv 5) (pe_str) (fun _ _ => rfl)) (fun _ _ => rfl)) (pe_str) (fun _ _ => rfl)) pa_nil)) pa_nil)) (pg_name (i := 6) sc_law_deeds.nd rfl (by first | exact Or.inl rfl | exact Or.inr rfl))
          (pss_cons (ps_set (i := 7) sc_law_deeds.nd rfl (Or.inl rfl) (pe_callD D_law_mix hr (pa_cons (pe_callD D_law_cell_at hr (pa_cons (fv 0) (pa_cons (pe_op o_add (pe_int) (fv 4)) pa_nil))) (pa_cons (pe_op o_add (pe_int) (fv 6)) pa_nil))))
          (pss_one (ps_expr (m_append (pe_ix (ix_all hu) (fv 5) (pe_str) (fun _ _ => rfl)) (pa_cons (pe_callD D_law_thing hr (pa_cons (fv 7) (pa_cons (pe_op o_add (pe_op o_add (pe_ix (ix_all hu) (fv 5) (pe_str) (fun _ _ => rfl)) (pe_ix (ix_all hu) (fv 5) (pe_str) (fun _ _ => rfl))) (pe_slice sl_all (fv 1) (po_some (pe_int)) (po_some (pe_int)))) pa_nil))) pa_nil))))))
        (pss_one (ps_set (i := 3) sc_law_deeds.nd rfl (Or.inl rfl) (pe_op o_add (fv 3) (pe_int)))))
        pss_nil)
      (pss_one (ps_expr (m_append (fv 2) (pa_cons (fv 5) pa_nil))))))))))
    (pss_one (ps_ret (pe_tup (pa_cons (fv 2) (pa_cons (pe_op o_add (fv 3) (pe_int)) pa_nil)))))))), ?_⟩
    refine seq_cut fun M1 K1 => ?_
    refine ⟨Nat.zero_le _, fun DL hDL => ?_⟩
    have s1 := Same.upd hDL (HO.lst [])
    have e1 : (upd H DL (HO.lst [])) DL = some (.lst []) := upd_same
    generalize upd H DL (HO.lst []) = H1 at s1 e1 ⊢
    refine K1 _ _ ?_
    refine seq_cut fun M2 K2 => ?_
    refine K2 _ _ ?_
    refine seq_cut fun M3 K3 => ?_
    refine ⟨a, ns, 1, rfl, s1.seq hS, by decide, (by show (0 : Int) < 8; decide), ?_⟩
    obtain ⟨z, hz, z0, z8⟩ : ∃ z : Nat, 1 + cellAt ns 1 % 8 = (z : Int) ∧ 0 < z ∧ z ≤ 8 := by
      have := mod_in (cellAt ns 1) (show (0 : Int) < 8 by decide)
      exact ⟨(1 + cellAt ns 1 % 8).toNat, by omega, by omega, by omega⟩
    refine ⟨(z : Int), by show [V.int (1 + cellAt ns 1 % 8)] = _; rw [hz], by omega, by omega, ?_⟩
    refine for_range (fun i σ Hx => (∃ (H0 : Hp) (xs : List V) (es : List De), Same H H0 ∧ Same H0 Hx ∧ H0 DL = none ∧ Hx DL = some (.lst xs) ∧ DesAt N H0 xs es ∧ EsOk es ∧ es.length = i) ∧ ∃ (n : Int) (v4 v5 v6 v7 : Option V), σ = [some (.ref a), some (.ref nl), some (.ref DL), some (.int n), v4, v5, v6, v7]) ⟨⟨H, [], [], Same.refl _, s1, hDL, e1, ⟨rfl, fun d v hv => by cases hv⟩, fun d e he => (by cases he), rfl⟩, 4, _, _, _, _, rfl⟩ ?_ ?_
    · rintro i σ Hx hi ⟨⟨H0, xs, es, sH, s0, d0, hD, dA, ok, hl⟩, n, v4, v5, v6, v7, rfl⟩
      have hi8 : i < 8 := by omega
      have sx := sH.trans s0
      refine seq_cut fun B1 C1 => ?_
      refine ⟨a, nl, ns, i, n, by show [V.ref a, V.ref nl, V.int (0 + (i : Int)), V.int n] = _; rw [Int.zero_add], sx.seq hS, sx _ _ hN, hi8, fun g pp e H2 g0 p0 F2 hp hst had hc => C1 _ _ ?_⟩
      have gD : g ≠ DL := fun z => by rw [z, hD] at g0; cases g0
      refine seq_cut fun B2 C2 => ?_
      refine ⟨Nat.zero_le _, fun pt hpt => ?_⟩
      have pt0 := Same.free F2.s hpt
      have s3 := Same.upd hpt (HO.lst [])
      have e3 : (upd H2 pt (HO.lst [])) pt = some (.lst []) := upd_same
      generalize upd H2 pt (HO.lst []) = H3 at s3 e3 ⊢
      have F3 := F2.same s3
      refine ⟨_, DPut.k (k := .inr "things") F3.g (small1000 (Nat.le_trans kvs5_len (by decide))), C2 _ _ ?_⟩
      rw [put_things]
      have F4 : Fd Hx _ g pp _ (kvs N i e pp pt) := F3.put g0
      have gt : pt ≠ g := fun z => by rw [z] at hpt; rw [F2.g] at hpt; cases hpt
      have gp : pt ≠ pp := fun z => by rw [z] at hpt; rw [F2.l] at hpt; cases hpt
      have e4 : (upd H3 g (HO.dK (kvs5 N i e pp ++ [(.inr "things", .ref pt)]))) pt = some (.lst []) := by rw [upd_ne gt]; exact e3
      have F4' : Fd Hx (upd H3 g (HO.dK (kvs5 N i e pp ++ [(.inr "things", .ref pt)]))) g pp (e.parts.map fun i => V.str (N i)) (kvs N i e pp pt) := F4
      clear F4
      generalize upd H3 g (HO.dK (kvs5 N i e pp ++ [(.inr "things", .ref pt)])) = H4 at F4' e4 ⊢
      have gPa : ∀ {Hy : Hp}, Hy g = some (.dK (kvs N i e pp pt)) → DGet Hy g (.str "parts") (some (.ref pp)) := fun h => dget h kv_parts
      have gCa : ∀ {Hy : Hp}, Hy g = some (.dK (kvs N i e pp pt)) → DGet Hy g (.str "call") (some (callV e.call)) := fun h => dget h kv_call
      have gTh : ∀ {Hy : Hp}, Hy g = some (.dK (kvs N i e pp pt)) → DGet Hy g (.str "things") (some (.ref pt)) := fun h => dget h kv_things
      refine seq_cut fun B3 C3 => ?_
      refine ⟨_, gPa F4'.g, Or.inl ⟨_, _, rfl, Or.inl ⟨_, SqL.of F4'.l, rfl⟩, C3 _ _ ?_⟩⟩
      generalize n + 2 + (((e.parts.map fun i => V.str (N i)).length : Nat) : Int) = n1
      refine seq_cut fun B4 C4 => ?_
      have rest : ∀ (n2 : Int) (H5 : Hp), Fd Hx H5 g pp (e.parts.map fun i => V.str (N i)) (kvs N i e pp pt) → H5 pt = some (.lst []) → B4 [some (.ref a), some (.ref nl), some (.ref DL), some (.int n2), some (.int (0 + (i : Int))), some (.ref g), v6, v7] H5 := by
        intro n2 H5 F5 e5
        refine C4 _ _ ?_
        refine seq_cut fun B5 C5 => ?_
        have app : ∀ (n3 : Int) (v6 v7 : Option V) (H6 : Hp) (e' : De), kvs N i e' pp pt = kvs N i e pp pt → e'.parts = e.parts → e'.ok i es → Fd Hx H6 g pp (e.parts.map fun i => V.str (N i)) (kvs N i e pp pt) → H6 pt = some (.lst (e'.things.map (Th.v N))) → B5 [some (.ref a), some (.ref nl), some (.ref DL), some (.int n3), some (.int (0 + (i : Int))), some (.ref g), v6, v7] H6 := by
          intro n3 v6 v7 H6 e' ek eP ok' F6 e6
          refine C5 _ _ ?_
          have hD6 := F6.s _ _ hD
          refine ⟨Or.inl ⟨rfl, _, SqL.of hD6⟩, _, _, _, rfl, rfl, hD6, small1000 (by rw [dA.1, hl]; omega), ?_⟩
          have nDg : g ∉ [DL] := fun z => gD (List.mem_singleton.mp z)
          have nDp : pp ∉ [DL] := fun z => by rw [List.mem_singleton.mp z, hD] at p0; cases p0
          have nDt : pt ∉ [DL] := fun z => by rw [List.mem_singleton.mp z, hD] at pt0; cases pt0
          have sd : Same H0 (del [DL] H6) := Same.del (s0.trans F6.s) fun x hx => by rw [List.mem_singleton.mp hx]; exact d0
          refine ⟨⟨del [DL] H6, _, es ++ [e'], sH.trans sd, Same.out del_same (del_none (List.mem_singleton.mpr rfl)) _, del_none (List.mem_singleton.mpr rfl), upd_same, (dA.same sd).snoc ⟨del_some nDg (by rw [hl, ek]; exact F6.g), del_some nDp (by rw [eP]; exact F6.l), del_some nDt e6⟩, ok.snoc (by rw [hl]; exact ok'), by rw [List.length_append, hl]; rfl⟩, _, _, _, _, _, rfl⟩
        refine ⟨_, gCa F5.g, rfl, _, rfl, ite2 (fun b => ?_) (fun b => ?_)⟩
        · rw [callV_none] at b
          rcases hc with hc | ⟨c, ci, hc⟩
          · rw [hc] at b; cases b
          obtain ⟨ec, hec⟩ : ∃ ec, es[c]? = some ec := ⟨_, List.getElem?_eq_getElem (by omega)⟩
          obtain ⟨ga, gpp, gpt, hxc, Dc⟩ := (dA.same (s0.trans F5.s)).get hec
          have lc := (ok c ec hec).len
          refine seq_cut fun B6 C6 => ?_
          refine ⟨_, gCa F5.g, ?_⟩
          rw [hc]
          refine Or.inl ⟨_, _, Or.inl (SqL.of (F5.s _ _ hD)), atI_nat hxc, _, Dc.parts, Or.inl ⟨_, _, rfl, Or.inl ⟨_, SqL.of Dc.p, rfl⟩, ?_⟩⟩
          refine ⟨(ec.parts.length : Int), by rw [List.length_map], by omega, by omega, ?_⟩
          have sb : Same (del [pt] H5) H5 := del_same
          refine for_range (fun j σ Hy => (∃ ts : List Th, Same (del [pt] H5) Hy ∧ Hy pt = some (.lst (ts.map (Th.v N))) ∧ ts.length = j ∧ ∀ t ∈ ts, t.ok (e.parts ++ [1, 2])) ∧ ∃ (v6 v7 : Option V), σ = [some (.ref a), some (.ref nl), some (.ref DL), some (.int n2), some (.int (0 + (i : Int))), some (.ref g), v6, v7]) ⟨⟨[], sb, e5, rfl, fun t ht => by cases ht⟩, _, _, rfl⟩ ?_ ?_
          · rintro j σ Hy hj ⟨⟨ts, sy, ey, tl, to⟩, u6, u7, rfl⟩
            have keep : ∀ {x : Addr} {o : HO}, Hx x = some o → del [pt] H5 x = some o := fun {x o} h => del_some (fun z => by rw [List.mem_singleton.mp z, pt0] at h; cases h) (F5.s _ _ h)
            have sk : Same Hx (del [pt] H5) := fun x o h => keep h
            have gb : del [pt] H5 g = some (.dK (kvs N i e pp pt)) := del_some (fun z => gt (List.mem_singleton.mp z).symm) F5.g
            have pb : del [pt] H5 pp = some (.lst (e.parts.map fun i => V.str (N i))) := del_some (fun z => gp (List.mem_singleton.mp z).symm) F5.l
            have d0' : del [pt] H5 pt = none := del_none (List.mem_singleton.mpr rfl)
            generalize del [pt] H5 = Hb at sy gb pb sk d0' ⊢
            refine seq_cut fun B7 C7 => ?_
            have sxy := (sx.trans sk).trans sy
            refine ⟨a, ns, _, rfl, sxy.seq hS, by omega, ?_⟩
            refine ⟨_, 4 + j, by show [V.int (cellAt ns (3 + (0 + (i : Int)))), V.int (4 + (0 + (j : Int)))] = _; rw [Int.zero_add (j : Int), show (4 : Int) + (j : Int) = ((4 + j : Nat) : Int) by push_cast; rfl], by omega, fun m H7 s7 => C7 _ _ ?_⟩
            have t7 := sy.trans s7
            refine ⟨_, gTh (t7 _ _ gb), Or.inl ⟨rfl, _, SqL.of (s7 _ _ ey)⟩, _, gPa (t7 _ _ gb), _, gPa (t7 _ _ gb), ?_⟩
            refine ⟨pp, pp, _, _, rfl, rfl, t7 _ _ pb, t7 _ _ pb, sz (by rw [List.length_map]; have := (De.len_of hp); omega), fun l8 hl8 => ?_⟩
            have s8 := Same.upd hl8 (HO.lst ((e.parts.map fun i => V.str (N i)) ++ (e.parts.map fun i => V.str (N i))))
            have e8 : (upd H7 l8 (HO.lst ((e.parts.map fun i => V.str (N i)) ++ (e.parts.map fun i => V.str (N i))))) l8 = some (.lst ((e.parts.map fun i => V.str (N i)) ++ (e.parts.map fun i => V.str (N i)))) := upd_same
            generalize upd H7 l8 (HO.lst ((e.parts.map fun i => V.str (N i)) ++ (e.parts.map fun i => V.str (N i)))) = H8 at s8 e8 ⊢
            have t8 := t7.trans s8
            refine ⟨_, rfl, _, rfl, Or.inl ⟨nl, _, rfl, SqL.of (t8 _ _ (sk _ _ (sx _ _ hN))), fun l9 hl9 => ?_⟩⟩
            rw [cut12]
            have s9 := Same.upd hl9 (HO.lst (([1, 2] : List Nat).map fun i => V.str (N i)))
            have e9 : (upd H8 l9 (HO.lst (([1, 2] : List Nat).map fun i => V.str (N i)))) l9 = some (.lst (([1, 2] : List Nat).map fun i => V.str (N i))) := upd_same
            generalize upd H8 l9 (HO.lst (([1, 2] : List Nat).map fun i => V.str (N i))) = H9 at s9 e9 ⊢
            refine ⟨l8, l9, _, _, rfl, rfl, s9 _ _ e8, e9, sz (by rw [List.length_append, List.length_map, List.length_map]; have := (De.len_of hp); show _ + _ + 2 ≤ 1000; omega), fun l10 hl10 => ?_⟩
            rw [← List.map_append, ← List.map_append]
            have s10 := Same.upd hl10 (HO.lst ((e.parts ++ e.parts ++ [1, 2]).map fun i => V.str (N i)))
            have e10 : (upd H9 l10 (HO.lst ((e.parts ++ e.parts ++ [1, 2]).map fun i => V.str (N i)))) l10 = some (.lst ((e.parts ++ e.parts ++ [1, 2]).map fun i => V.str (N i))) := upd_same
            generalize upd H9 l10 (HO.lst ((e.parts ++ e.parts ++ [1, 2]).map fun i => V.str (N i))) = H10 at s10 e10 ⊢
            refine ⟨m, l10, e.parts ++ e.parts ++ [1, 2], rfl, SqL.of e10, by rw [List.length_append]; show 0 < _ + 2; omega, fun th ho => ?_⟩
            have t10 := (s8.trans s9).trans s10
            have ey10 := t10 _ _ (s7 _ _ ey)
            refine ⟨_, _, _, rfl, rfl, ey10, small1000 (by rw [List.length_map, tl]; omega), ?_⟩
            refine ⟨⟨ts ++ [th], Same.out (t7.trans t10) d0' _, by rw [upd_same, List.map_append]; rfl, by rw [List.length_append, tl]; rfl, fun t ht => ?_⟩, _, _, rfl⟩
            rcases List.mem_append.mp ht with h | h
            · exact to t h
            · rw [List.mem_singleton.mp h]
              cases th with
              | i m => exact ho
              | x x =>
                have ho' : x ∈ e.parts ++ e.parts ++ [1, 2] := ho
                show x ∈ e.parts ++ [1, 2]
                rw [List.append_assoc] at ho'
                rcases List.mem_append.mp ho' with h | h
                · exact List.mem_append_left _ h
                · exact h
          · rintro σ Hy ⟨⟨ts, sy, ey, tl, to⟩, u6, u7, rfl⟩
            refine C6 _ _ ?_
            have keep : ∀ {x : Addr} {o : HO}, Hx x = some o → del [pt] H5 x = some o := fun {x o} h => del_some (fun z => by rw [List.mem_singleton.mp z, pt0] at h; cases h) (F5.s _ _ h)
            have sk : Same Hx (del [pt] H5) := fun x o h => keep h
            refine app _ _ _ Hy { e with call := some (c, ts) } ?_ rfl ⟨hp, hst, had, fun c' ts' h => ?_⟩ ⟨sk.trans sy, sy _ _ (del_some (fun z => gt (List.mem_singleton.mp z).symm) F5.g), sy _ _ (del_some (fun z => gp (List.mem_singleton.mp z).symm) F5.l)⟩ ey
            · unfold kvs kvs5 setT
              rw [hc]
              rfl
            · cases h
              exact ⟨ci, ⟨ec, hec, tl.symm⟩, to⟩
        · rw [callV_none] at b
          rcases hc with hc | ⟨c, ci, hc⟩
          · refine app n2 v6 v7 H5 e rfl rfl ⟨hp, hst, had, fun c' ts' h => by rw [hc] at h; cases h⟩ F5 ?_
            unfold De.things
            rw [hc]
            exact e5
          · rw [hc] at b
            exact absurd rfl b
      refine ⟨_, gPa F4'.g, Nat.zero_le _, fun l0 hl0 => ?_⟩
      have s5 := Same.upd hl0 (HO.lst [])
      have e5 : (upd H4 l0 (HO.lst [])) l0 = some (.lst []) := upd_same
      generalize upd H4 l0 (HO.lst []) = H5 at s5 e5 ⊢
      have F5 := F4'.same s5
      have pl5 := F5.l
      rw [strs_of] at pl5
      refine ⟨_, _, .lst (SqL.of pl5) (RepAll.strs _), .lst (SqL.of e5) .nil, shaped_parts sok _, rfl, _, rfl, ite2 (fun b => rest _ H5 F5 (s5 _ _ e4)) (fun b => rest _ H5 F5 (s5 _ _ e4))⟩
    · rintro σ Hx ⟨⟨H0, xs, es, sH, s0, d0, hD, dA, ok, hl⟩, n, v4, v5, v6, v7, rfl⟩
      refine K3 _ _ ?_
      refine ⟨(show 2 ≤ sizeLine by decide), fun tp htp => ?_⟩
      have st := Same.upd htp (HO.tup [.ref DL, .int (n + 1)])
      exact q tp DL xs es (n + 1) _ ((sH.trans s0).trans st) upd_same (st _ _ hD) ((dA.same s0).same st) ok (by omega) (by omega)
end
end K26

set_option Elab.async false
set_option linter.all false
set_option maxRecDepth 100000
set_option maxHeartbeats 4000000
namespace K26
open PySem L2
section
variable {P : Program} {w : World} {K : PySem.W.Frag} {mg : Str → Option Value} {base : Heap} {A : Adr} {N : Nat → Str}
theorem kit_si : PySem.W.kitOne K (.type "str") (.type "int") = some false := by kernel_rfl!
theorem kit_ti : PySem.W.kitOne K (.type "tuple") (.type "int") = some false := by kernel_rfl!
theorem kit_li : PySem.W.kitOne K (.type "list") (.type "int") = some false := by kernel_rfl!
theorem kit_ts : PySem.W.kitOne K (.type "tuple") (.type "str") = some false := by kernel_rfl!
theorem kit_ls : PySem.W.kitOne K (.type "list") (.type "str") = some false := by kernel_rfl!
theorem kit_tl : PySem.W.kitOne K (.type "tuple") (.type "list") = some false := by kernel_rfl!
theorem kit_lt : PySem.W.kitOne K (.type "list") (.type "tuple") = some false := by kernel_rfl!
def flat : V → Prop
  | .non => True
  | .int _ => True
  | .str _ => True
  | _ => False
def SameV (H : Hp) : Nat → V → V → Prop
  | 0, v, u => v = u ∧ flat v
  | d + 1, v, u => (v = u ∧ flat v) ∨ ∃ p q xs ys, v = .ref p ∧ u = .ref q ∧ ((H p = some (.tup xs) ∧ H q = some (.tup ys)) ∨ (H p = some (.lst xs) ∧ H q = some (.lst ys))) ∧ xs.length ≤ 1000 ∧ PySem.Paired (SameV H d) xs ys
def sp_same (d : Nat) : Sp := fun vs H Q _ => ∃ v u, vs = [v, u] ∧ SameV H d v u ∧ Q (.bl true) H
def sp_sameN : Nat → Sp
  | 0 => fun _ _ _ _ => False
  | d + 1 => sp_same d
theorem h_same (T : Txt K mg A) : ∀ n, Has P w K mg base (n + 1) "_law_same" ["_law_found", "_law_due"] (sp_sameN n)
  | 0 => T.law_same.has (k := 0) sc_law_same (fun _ _ _ _ h => h.elim) (fun _ _ _ _ _ _ _ _ _ _ _ h => h.elim)
  | d + 1 => by
    have D_law_same := h_same T d
    refine T.law_same.has (k := d + 1) sc_law_same (fun vs H Q E h => ?_) (fun f cdv A' outer s' H vs Q E hr hu h => ?_)
    · obtain ⟨v, u, rfl, _⟩ := h
      rfl
    · obtain ⟨v, u, rfl, S, q⟩ := h
      have S' : (v = u ∧ flat v) ∨ ∃ e p r xs ys, d = e + 1 ∧ v = .ref p ∧ u = .ref r ∧ ((H p = some (.tup xs) ∧ H r = some (.tup ys)) ∨ (H p = some (.lst xs) ∧ H r = some (.lst ys))) ∧ xs.length ≤ 1000 ∧ PySem.Paired (SameV H e) xs ys := by
        cases d with
        | zero => exact Or.inl S
        | succ d =>
          rcases S with S | ⟨p, r, xs, ys, S⟩
          · exact Or.inl S
          · exact Or.inr ⟨d, p, r, xs, ys, rfl, S⟩
      refine ⟨_, (pss_cons (ps_if (pt_cmpR (o_is) (fv 1) (pe_non) (nomark _))
      (pss_one (ps_ret (pe_cmpR (o_is) (fv 0) (pe_non) (nomark _))))
      pss_nil)
    (pss_cons (ps_if (pt_tru (pe_callB c_isinst rfl T.z_isinstance (by boot_by_name) (pa_cons (fv 1) (pa_cons (pe_bltn (v := .ty "int") rfl T.z_int (by boot_by_name) rfl) pa_nil))) (fun _ => rfl))
      (pss_one (ps_ret (pe_and (pe_callB c_isinst rfl T.z_isinstance (by boot_by_name) (pa_cons (fv 0) (pa_cons (pe_bltn (v := .ty "int") rfl T.z_int (by boot_by_name) rfl) pa_nil))) (pe_and (pe_notV (pe_callB c_isinst rfl T.z_isinstance (by boot_by_name) (pa_cons (fv 0) (pa_cons (pe_bltn (v := .ty "bool") rfl T.z_bool (by boot_by_name) rfl) pa_nil)))) (pe_one (pe_cmpR (o_eqU hu) (fv 0) (fv 1) (nomark _)))))))
      pss_nil)
    (pss_cons (ps_if (pt_tru (pe_callB c_isinst rfl T.z_isinstance (by boot_by_name) (pa_cons (fv 1) (pa_cons (pe_bltn (v := .ty "str") rfl T.z_str (by boot_by_name) rfl) pa_nil))) (fun _ => rfl))
      (pss_one (ps_ret (pe_and (pe_callB c_isinst rfl T.z_isinstance (by boot_by_name) (pa_cons (fv 0) (pa_cons (pe_bltn (v := .ty "str") rfl T.z_str (by boot_by_name) rfl) pa_nil))) (pe_one (pe_cmpR (o_eqU hu) (fv 0) (fv 1) (nomark _))))))
      pss_nil)
    (pss_cons (ps_if (PW.pt (pw_or (pt_cmpR (o_ne hu) (pe_callB c_isinst rfl T.z_isinstance (by boot_by_name) (pa_cons (fv 1) (pa_cons (pe_bltn (v := .ty "list") rfl T.z_list (by boot_by_name) rfl) pa_nil))) (pe_callB c_isinst rfl T.z_isinstance (by boot_by_name) (pa_cons (fv 0) (pa_cons (pe_bltn (v := .ty "list") rfl T.z_list (by boot_by_name) rfl) pa_nil))) (nomark _)) (pw_or1 (pt_cmpR (o_ne hu) (pe_callB c_isinst rfl T.z_isinstance (by boot_by_name) (pa_cons (fv 1) (pa_cons (pe_bltn (v := .ty "tuple") rfl T.z_tuple (by boot_by_name) rfl) pa_nil))) (pe_callB c_isinst rfl T.z_isinstance (by boot_by_name) (pa_cons (fv 0) (pa_cons (pe_bltn (v := .ty "tuple") rfl T.z_tuple (by boot_by_name) rfl) pa_nil))) (nomark _)))))
      (pss_one (ps_ret (pe_bl)))
      pss_nil)
    (pss_cons (ps_if (pt_cmpR (o_ne hu) (pe_callB c_lenA rfl T.z_len (by boot_by_name) (pa_cons (fv 0) pa_nil)) (pe_callB c_lenA rfl T.z_len (by boot_by_name) (pa_cons (fv 1) pa_nil)) (nomark _))
      (pss_one (ps_ret (pe_bl)))
      pss_nil)
    (pss_cons (ps_for PassesOwn.never rfl (pi_range1 rfl T.z_range (pa_cons (pe_callB c_lenA rfl T.z_len (by boot_by_name) (pa_cons (fv 1) pa_nil)) pa_nil)) (pg_name (i := 2) sc_law_same.nd rfl (by first | exact Or.inl rfl | exact Or.inr rfl))
      (pss_one (ps_if (pt_not (pt_tru (pe_callD (hj := by omega) D_law_same hr (pa_cons (pe_ix (ix_all hu) (fv 0) (fv 2) (fun _ _ => rfl)) (pa_cons (pe_ix (ix_all hu) (fv 1) (fv 2) (fun _ _ => rfl)) pa_nil))) (fun _ => rfl)))
        (pss_one (ps_ret (pe_bl)))
        pss_nil)))
    (pss_one (ps_ret (pe_bl))))))))), ?_⟩
      rcases S' with ⟨rfl, fl⟩ | ⟨e, p, r, xs, ys, rfl, rfl, rfl, hpq, hl, pr⟩
      · cases v with
        | non => exact ⟨rfl, _, rfl, ite2 (fun _ => ⟨rfl, q⟩) (fun c => absurd rfl c)⟩
        | int i =>
          refine ⟨rfl, _, rfl, ite2 (fun c => absurd (of_decide_eq_true c) (by intro z; cases z)) (fun _ => ?_)⟩
          refine ⟨_, _, _, true, rfl, (fun z => by cases z), .int i, kit_ii, true, rfl, iteT ?_⟩
          refine ⟨_, _, _, true, rfl, (fun z => by cases z), .int i, kit_ii, _, rfl, iteT ?_⟩
          refine ⟨_, _, _, false, rfl, (fun z => by cases z), .int i, kit_ib, false, rfl, _, rfl, iteT ⟨rfl, ?_⟩⟩
          rw [decide_eq_true rfl]
          exact q
        | str y =>
          refine ⟨rfl, _, rfl, ite2 (fun c => absurd (of_decide_eq_true c) (by intro z; cases z)) (fun _ => ?_)⟩
          refine ⟨_, _, _, false, rfl, (fun z => by cases z), .str y, kit_si, false, rfl, iteF ?_⟩
          refine ⟨_, _, _, true, rfl, (fun z => by cases z), .str y, kit_ss, true, rfl, iteT ?_⟩
          refine ⟨_, _, _, true, rfl, (fun z => by cases z), .str y, kit_ss, _, rfl, iteT ⟨rfl, ?_⟩⟩
          rw [decide_eq_true rfl]
          exact q
        | _ => exact fl.elim
      · rcases hpq with ⟨hp, hr'⟩ | ⟨hp, hr'⟩
        ·
          have n1 : ¬ decide (V.ref r = V.non) = true := fun c => absurd (of_decide_eq_true c) (by intro z; cases z)
          have le : xs.length = ys.length := Paired.length pr
          refine ⟨rfl, _, rfl, ite2 (fun c => absurd c n1) (fun _ => ?_)⟩
          refine ⟨_, _, _, false, rfl, (fun z => by cases z), .tup hr', kit_ti, false, rfl, iteF ?_⟩
          refine ⟨_, _, _, false, rfl, (fun z => by cases z), .tup hr', kit_ts, false, rfl, iteF ?_⟩
          refine ⟨_, _, _, false, rfl, (fun z => by cases z), .tup hr', kit_tl, _, _, _, false, rfl, (fun z => by cases z), .tup hp, kit_tl, rfl, _, rfl, ite2 (fun c => absurd c (by decide)) (fun _ => ?_)⟩
          refine ⟨_, _, _, true, rfl, (fun z => by cases z), .tup hr', kit_tt, _, _, _, true, rfl, (fun z => by cases z), .tup hp, kit_tt, rfl, _, rfl, ite2 (fun c => absurd c (by decide)) (fun _ => ?_)⟩
          refine Or.inl ⟨_, _, rfl, Or.inr ⟨_, SqT.of hp, rfl⟩, Or.inl ⟨_, _, rfl, Or.inr ⟨_, SqT.of hr', rfl⟩, rfl, _, rfl, ite2 (fun c => absurd c ?_) (fun _ => ?_)⟩⟩
          · rw [vint, le]
            simp
          refine Or.inl ⟨_, _, rfl, Or.inr ⟨_, SqT.of hr', rfl⟩, (ys.length : Int), rfl, by omega, by omega, ?_⟩
          refine for_range (fun i σ H2 => H2 = H ∧ ∃ z, σ = [some (.ref p), some (.ref r), z]) ⟨rfl, none, rfl⟩ ?_ ?_
          · rintro i σ H2 hi ⟨rfl, z, rfl⟩
            have hi' : i < ys.length := by omega
            have e1 := List.getElem?_eq_getElem (l := xs) (i := i) (by omega)
            obtain ⟨u, e2, su⟩ := paired_get pr e1
            have a1 : atI xs (0 + (i : Int)) = some xs[i] := by rw [Int.zero_add]; exact atI_nat e1
            have a2 : atI ys (0 + (i : Int)) = some u := by rw [Int.zero_add]; exact atI_nat e2
            exact Or.inl ⟨_, _, Or.inr (SqT.of hp), a1, Or.inl ⟨_, _, Or.inr (SqT.of hr'), a2, _, _, rfl, su, true, rfl, iteF ⟨rfl, _, rfl⟩⟩⟩
          · rintro σ H2 ⟨rfl, z, rfl⟩
            exact q
        ·
          have n1 : ¬ decide (V.ref r = V.non) = true := fun c => absurd (of_decide_eq_true c) (by intro z; cases z)
          have le : xs.length = ys.length := Paired.length pr
          refine ⟨rfl, _, rfl, ite2 (fun c => absurd c n1) (fun _ => ?_)⟩
          refine ⟨_, _, _, false, rfl, (fun z => by cases z), .lst hr', kit_li, false, rfl, iteF ?_⟩
          refine ⟨_, _, _, false, rfl, (fun z => by cases z), .lst hr', kit_ls, false, rfl, iteF ?_⟩
          refine ⟨_, _, _, true, rfl, (fun z => by cases z), .lst hr', kit_ll, _, _, _, true, rfl, (fun z => by cases z), .lst hp, kit_ll, rfl, _, rfl, ite2 (fun c => absurd c (by decide)) (fun _ => ?_)⟩
          refine ⟨_, _, _, false, rfl, (fun z => by cases z), .lst hr', kit_lt, _, _, _, false, rfl, (fun z => by cases z), .lst hp, kit_lt, rfl, _, rfl, ite2 (fun c => absurd c (by decide)) (fun _ => ?_)⟩
          refine Or.inl ⟨_, _, rfl, Or.inl ⟨_, SqL.of hp, rfl⟩, Or.inl ⟨_, _, rfl, Or.inl ⟨_, SqL.of hr', rfl⟩, rfl, _, rfl, ite2 (fun c => absurd c ?_) (fun _ => ?_)⟩⟩
          · rw [vint, le]
            simp
          refine Or.inl ⟨_, _, rfl, Or.inl ⟨_, SqL.of hr', rfl⟩, (ys.length : Int), rfl, by omega, by omega, ?_⟩
          refine for_range (fun i σ H2 => H2 = H ∧ ∃ z, σ = [some (.ref p), some (.ref r), z]) ⟨rfl, none, rfl⟩ ?_ ?_
          · rintro i σ H2 hi ⟨rfl, z, rfl⟩
            have hi' : i < ys.length := by omega
            have e1 := List.getElem?_eq_getElem (l := xs) (i := i) (by omega)
            obtain ⟨u, e2, su⟩ := paired_get pr e1
            have a1 : atI xs (0 + (i : Int)) = some xs[i] := by rw [Int.zero_add]; exact atI_nat e1
            have a2 : atI ys (0 + (i : Int)) = some u := by rw [Int.zero_add]; exact atI_nat e2
            exact Or.inl ⟨_, _, Or.inl (SqL.of hp), a1, Or.inl ⟨_, _, Or.inl (SqL.of hr'), a2, _, _, rfl, su, true, rfl, iteF ⟨rfl, _, rfl⟩⟩⟩
          · rintro σ H2 ⟨rfl, z, rfl⟩
            exact q
end
end K26

set_option Elab.async false
set_option linter.all false
set_option maxRecDepth 100000
set_option maxHeartbeats 4000000
namespace K26
open PySem L2
section
variable {P : Program} {w : World} {K : PySem.W.Frag} {mg : Str → Option Value} {base : Heap} {A : Adr} {N : Nat → Str}
theorem same_flat {H : Hp} : ∀ {ws : List V}, (∀ v ∈ ws, flat v) → PySem.Paired (SameV H 0) ws ws
  | [], _ => .nil
  | v :: r, h => .cons ⟨rfl, h v List.mem_cons_self⟩ (same_flat fun u hu => h u (List.mem_cons_of_mem _ hu))
theorem same_tups {H : Hp} : ∀ {xs ys : List V} {ws : List (List V)}, Tups H xs ws → Tups H ys ws → (∀ w ∈ ws, w.length ≤ 1000 ∧ ∀ v ∈ w, flat v) → PySem.Paired (SameV H 1) xs ys
  | _, _, _, .nil, .nil, _ => .nil
  | _, _, _, .cons ⟨p, e, hp⟩ t, .cons ⟨q, e', hq⟩ t', h =>
    .cons (Or.inr ⟨p, q, _, _, e, e', Or.inl ⟨hp, hq⟩, (h _ List.mem_cons_self).1, same_flat (h _ List.mem_cons_self).2⟩) (same_tups t t' fun w hw => h w (List.mem_cons_of_mem _ hw))
theorem same_list {H : Hp} {p q : Addr} {xs ys : List V} {ws : List (List V)} (hp : H p = some (.lst xs)) (hq : H q = some (.lst ys)) (t : Tups H xs ws) (t' : Tups H ys ws) (h : ∀ w ∈ ws, w.length ≤ 1000 ∧ ∀ v ∈ w, flat v) (hl : ws.length ≤ 1000) : SameV H 2 (.ref p) (.ref q) :=
  Or.inr ⟨p, q, xs, ys, rfl, rfl, Or.inr ⟨hp, hq⟩, by rw [t.len]; exact hl, same_tups t t' h⟩
end
end K26

set_option Elab.async false
set_option linter.all false
set_option maxRecDepth 100000
set_option maxHeartbeats 4000000
namespace K26
open PySem L2
section
variable {P : Program} {w : World} {K : PySem.W.Frag} {mg : Str → Option Value} {base : Heap} {A : Adr} {N : Nat → Str} {idx : List Nat}
theorem sends_snoc : ∀ (xs : List Nat) (n : Int) (x : Nat), sends n (xs ++ [x]) = sends n xs ++ [.snd (n + xs.length) "quill" (.one (.x x))]
  | [], n, x => by
    show [Rw.snd n "quill" (.one (.x x))] = [.snd (n + ((0 : Nat) : Int)) "quill" (.one (.x x))]
    rw [show n + ((0 : Nat) : Int) = n by omega]
  | y :: xs, n, x => by
    show Rw.snd n "quill" (.one (.x y)) :: sends (n + 1) (xs ++ [x]) = Rw.snd n "quill" (.one (.x y)) :: (sends (n + 1) xs ++ [.snd (n + ((xs.length + 1 : Nat) : Int)) "quill" (.one (.x x))])
    rw [sends_snoc xs, show n + 1 + (xs.length : Int) = n + ((xs.length + 1 : Nat) : Int) by push_cast; omega]
structure Rws (A : Adr) (N : Nat → Str) (idx : List Nat) (Hb Hx : Hp) (RL : Addr) (ys : List V) (rws : List Rw) : Prop where
  b : But RL Hb Hx
  r : Hx RL = some (.lst ys)
  f : ∀ H2, Keep Hb Hx H2 → PySem.Paired (RowAt A N idx H2) ys rws
theorem Rws.same {Hb Hx Hy : Hp} {RL : Addr} {ys : List V} {rws : List Rw} (R : Rws A N idx Hb Hx RL ys rws) (s : Same Hx Hy) : Rws A N idx Hb Hy RL ys rws := ⟨R.b.trans (But.of s), s _ _ R.r, fun H2 k => R.f H2 fun a o n q => k a o n (s _ _ q)⟩
theorem Rws.add {Hb Hx H3 : Hp} {RL : Addr} {ys : List V} {rws : List Rw} (R : Rws A N idx Hb Hx RL ys rws) (h0 : Hb RL ≠ none) (s : Same Hx H3) {v : V} {rw : Rw} (new : ∀ H2, Keep Hx H3 H2 → RowAt A N idx H2 v rw) : Rws A N idx Hb (upd H3 RL (.lst (ys ++ [v]))) RL (ys ++ [v]) (rws ++ [rw]) := by
  refine ⟨(R.b.trans (But.of s)).trans (But.at _ _ _), upd_same, fun H2 k => ?_⟩
  refine PySem.Paired.snoc (R.f H2 fun a o n q => k a o n ?_) (new H2 fun a o n q => ?_)
  · rw [upd_ne (fun z => h0 (by rw [← z]; exact n))]
    exact s _ _ q
  · have ne : a ≠ RL := fun z => by rw [z, R.r] at n; cases n
    exact k a o (But.none R.b ne n) (by rw [upd_ne ne]; exact q)
def sp_made (A : Adr) (N : Nat → Str) : Sp := fun vs H Q _ => ∃ (idx : List Nat) (a DL : Addr) (xs : List V) (es : List De) (d : Nat) (e : De), vs = [.ref a, .ref DL] ∧ H DL = some (.lst xs) ∧ DesAt N H xs es ∧ EsOk es ∧ es[d]? = some e ∧ xs[d]? = some (.ref a) ∧ (∀ x ∈ e.parts ++ [1, 2], x ∈ idx) ∧ (∀ i, PyData.strOk (N i) = true) ∧
  ∀ (y : V) (H' : Hp), Same H H' → (∀ H2, Keep H H' H2 → DeedAt A N idx H2 y d e.dd) → Q y H'
theorem h_made (T : Txt K mg A) : Has P w K mg base 6 "_law_made" ["_law_deed_here", "_law_deeds_here"] (sp_made A N) := by
  have D_SendRow_init := h_SendRow_init (P := P) (w := w) (base := base) T
  have D_SetRow_init := h_SetRow_init (P := P) (w := w) (base := base) T
  have D_CallRow_init := h_CallRow_init (P := P) (w := w) (base := base) T
  have D_DeedRow_init := h_DeedRow_init (P := P) (w := w) (base := base) T
  refine T.law_made.has (k := 5) sc_law_made (fun vs H Q E h => ?_) (fun f cdv A' outer s H vs Q E hr hu h => ?_)
  · obtain ⟨idx, a, DL, xs, es, d, e, rfl, _⟩ := h
    rfl
  · obtain ⟨idx, a, DL, xs, es, d, e, rfl, hD, dA, ok, he, hxa, hix, sok, q⟩ := h
    obtain ⟨a', pp, pt, hx', D⟩ := dA.get he
    rw [hxa] at hx'
    cases hx'
    have eo := ok d e he
    have l4 := eo.len
    refine ⟨_, (pss_cons (ps_set (i := 2) sc_law_made.nd rfl (Or.inl rfl) (pe_lst (pa_nil)))
    (pss_cons (ps_set (i := 3) sc_law_made.nd rfl (Or.inl rfl) (pe_op o_add (pe_ix (ix_all hu) (fv 0) (pe_str) (fun _ _ => rfl)) (pe_int)))
    (pss_cons (ps_for PassesOwn.never rfl (pi_any (pe_ix (ix_all hu) (fv 0) (pe_str) (fun _ _ => rfl))) (pg_name (i := 4) sc_law_made.nd rfl (by first | exact Or.inl rfl | exact Or.inr rfl))
      (pss_cons (ps_expr (m_append (fv 2) (pa_cons (pe_makeD T.o_SendRow D_SendRow_init hr (pa_cons (fv 3) (pa_cons (pe_str) (pa_cons (pe_tup (pa_cons (fv 4) pa_nil)) pa_nil)))) pa_nil)))
      (pss_one (ps_set (i := 3) sc_law_made.nd rfl (Or.inl rfl) (pe_op o_add (fv 3) (pe_int))))))
    (pss_cons (ps_if (pt_cmpR (o_ne hu) (pe_ix (ix_all hu) (fv 0) (pe_str) (fun _ _ => rfl)) (pe_lst (pa_nil)) (nomark _))
      (pss_cons (ps_expr (m_append (fv 2) (pa_cons (pe_makeD T.o_SetRow D_SetRow_init hr (pa_cons (fv 3) (pa_cons (pe_ix (ix_all hu) (fv 0) (pe_str) (fun _ _ => rfl)) (pa_cons (pe_tup (pa_cons (pe_ix (ix_all hu) (fv 0) (pe_str) (fun _ _ => rfl)) (pa_cons (pe_str) (pa_cons (pe_ix (ix_all hu) (fv 0) (pe_str) (fun _ _ => rfl)) pa_nil)))) pa_nil)))) pa_nil)))
      (pss_cons (ps_expr (m_append (fv 2) (pa_cons (pe_makeD T.o_SendRow D_SendRow_init hr (pa_cons (pe_op o_add (fv 3) (pe_int)) (pa_cons (pe_str) (pa_cons (pe_tup (pa_cons (pe_ix (ix_all hu) (fv 0) (pe_str) (fun _ _ => rfl)) (pa_cons (pe_str) (pa_cons (pe_int) pa_nil)))) pa_nil)))) pa_nil)))
      (pss_one (ps_set (i := 3) sc_law_made.nd rfl (Or.inl rfl) (pe_op o_add (fv 3) (pe_int))))))
      pss_nil)
    (pss_cons (ps_if (pt_cmpR (o_isnot) (pe_ix (ix_all hu) (fv 0) (pe_str) (fun _ _ => rfl)) (pe_non) (nomark _))
      (pss_one (ps_expr (m_append (fv 2) (pa_cons (pe_makeD T.o_CallRow D_CallRow_init hr (pa_cons (fv 3) (pa_cons (pe_ix (ix_all hu) (pe_ix (ix_all hu) (fv 1) (pe_ix (ix_all hu) (fv 0) (pe_str) (fun _ _ => rfl)) (fun _ _ => rfl)) (pe_str) (fun _ _ => rfl)) (pa_cons (pe_callTy c_list rfl T.z_list (by boot_by_name) (pa_cons (pe_ix (ix_all hu) (fv 0) (pe_str) (fun _ _ => rfl)) pa_nil)) pa_nil)))) pa_nil))))
      pss_nil)
    (pss_one (ps_ret (pe_makeD T.o_DeedRow D_DeedRow_init hr (pa_cons (pe_ix (ix_all hu) (fv 0) (pe_str) (fun _ _ => rfl)) (pa_cons (pe_ix (ix_all hu) (fv 0) (pe_str) (fun _ _ => rfl)) (pa_cons (pe_callTy c_list rfl T.z_list (by boot_by_name) (pa_cons (pe_ix (ix_all hu) (fv 0) (pe_str) (fun _ _ => rfl)) pa_nil)) (pa_cons (fv 2) pa_nil)))))))))))), ?_⟩
    refine seq_cut fun M1 K1 => ?_
    refine ⟨Nat.zero_le _, fun RL hRL => ?_⟩
    have s1 := Same.upd hRL (HO.lst [])
    have e1 : (upd H RL (HO.lst [])) RL = some (.lst []) := upd_same
    generalize upd H RL (HO.lst []) = H1 at s1 e1 ⊢
    have h0 : H1 RL ≠ none := fun z => by rw [e1] at z; cases z
    have sB : ∀ {Hx : Hp}, But RL H1 Hx → Same H Hx := fun b x o h => b x (fun z => by rw [z, hRL] at h; cases h) o (s1 _ _ h)
    refine K1 _ _ ?_
    refine seq_cut fun M2 K2 => ?_
    refine ⟨_, (D.same s1).at_, K2 _ _ ?_⟩
    refine seq_cut fun M3 K3 => ?_
    refine ⟨_, (D.same s1).parts, Or.inl ⟨⟨_, SqL.of (s1 _ _ D.p)⟩, ?_⟩⟩
    refine for_list (K := K) (xs := e.parts.map fun i => V.str (N i)) (fun i σ Hx => (∃ ys, Rws A N idx H1 Hx RL ys (sends (e.at_ + 1) (e.parts.take i)) ∧ ys.length = i) ∧ ∃ v, σ = [some (.ref a), some (.ref DL), some (.ref RL), some (.int (e.at_ + 1 + (i : Int))), v]) ⟨⟨[], ⟨But.refl _ _, e1, fun _ _ => .nil⟩, rfl⟩, none, by rw [show e.at_ + 1 + ((0 : Nat) : Int) = e.at_ + 1 by omega]; rfl⟩ (fun i σ Hx _ h => by obtain ⟨⟨ys, R, _⟩, _⟩ := h; exact SqL.of (sB R.b _ _ D.p)) ?_ ?_
    · rintro i v σ Hx hv ⟨⟨ys, R, yl⟩, v4, rfl⟩
      rw [List.getElem?_map] at hv
      cases hp : e.parts[i]? with
      | none => rw [hp] at hv; cases hv
      | some x =>
        rw [hp] at hv
        cases hv
        have il : i < e.parts.length := (List.getElem?_eq_some_iff.mp hp).1
        have xm : x ∈ idx := hix x (List.mem_append_left _ (List.mem_of_getElem? hp))
        refine seq_cut fun B1 C1 => ?_
        refine ⟨Or.inl ⟨rfl, _, SqL.of R.r⟩, ?_⟩
        refine ⟨(show 1 ≤ sizeLine by decide), fun p hp2 => ?_⟩
        have s2 := Same.upd hp2 (HO.tup [V.str (N x)])
        have e2 : (upd Hx p (HO.tup [V.str (N x)])) p = some (.tup [V.str (N x)]) := upd_same
        generalize upd Hx p (HO.tup [V.str (N x)]) = H2 at s2 e2 ⊢
        refine fun r3 dx3 hr3 hd_ hne_ => mk_SendRow hr3 hd_ fun H3 s3 hx3 => ⟨rfl, ?_⟩
        refine ⟨_, _, _, rfl, rfl, s3 _ _ (s2 _ _ R.r), small1000 (by omega), C1 _ _ ?_⟩
        have s23 := s2.trans s3
        have R4 := R.add h0 s23 (v := .ref r3) (rw := .snd (e.at_ + 1 + ((e.parts.take i).length : Int)) "quill" (.one (.x x))) fun H4 k4 => ⟨xm, r3, dx3, p, rfl, k4 _ _ (Same.free s2 hr3) (by rw [List.length_take, Nat.min_eq_left (Nat.le_of_lt il)]; exact hx3), k4 _ _ hp2 (s3 _ _ e2)⟩
        rw [← sends_snoc, ← take_snoc hp] at R4
        exact ⟨⟨_, R4, by rw [List.length_append, yl]; rfl⟩, _, by rw [show e.at_ + 1 + ((i + 1 : Nat) : Int) = e.at_ + 1 + (i : Int) + 1 by push_cast; omega] <;> rfl⟩
    rintro σ Hx ⟨⟨ys, R, yl⟩, v4, rfl⟩
    rw [List.length_map] at yl R ⊢
    rw [List.take_length] at R
    have en : e.at_ + 1 + (e.parts.length : Int) = e.n1 := rfl
    rw [en]
    refine K3 _ _ ?_
    refine seq_cut fun M4 K4 => ?_
    have rest : ∀ (Hy : Hp) (zs : List V), Rws A N idx H1 Hy RL zs (sends (e.at_ + 1) e.parts ++ e.mid) → zs.length ≤ 6 → M4 [some (.ref a), some (.ref DL), some (.ref RL), some (.int e.n2), v4] Hy := by
      intro Hy zs R zl
      refine K4 _ _ ?_
      refine seq_cut fun M5 K5 => ?_
      have fin : ∀ (Hz : Hp) (us : List V), Rws A N idx H1 Hz RL us e.dd.body → M5 [some (.ref a), some (.ref DL), some (.ref RL), some (.int e.n2), v4] Hz := by
        intro Hz us R
        refine K5 _ _ ?_
        have D5 := D.same (sB R.b)
        refine ⟨_, D5.at_, _, D5.name, _, D5.parts, _, _, rfl, Or.inl (SqL.of D5.p), fun l hl => ?_⟩
        have s6 := Same.upd hl (HO.lst (e.parts.map fun i => V.str (N i)))
        have e6 : (upd Hz l (HO.lst (e.parts.map fun i => V.str (N i)))) l = some (.lst (e.parts.map fun i => V.str (N i))) := upd_same
        generalize upd Hz l (HO.lst (e.parts.map fun i => V.str (N i))) = H6 at s6 e6 ⊢
        refine fun r7 dx7 hr7 hd_ hne_ => mk_DeedRow (SqL.of e6) (SqL.of (s6 _ _ R.r)) hr7 hd_ fun np nb H7 hnp hnb s7 hlp hlb hx7 => ⟨rfl, ?_⟩
        have sz6 : Same H H6 := (sB R.b).trans s6
        have R7 := (R.same s6).same s7
        refine q (.ref r7) H7 (sz6.trans s7) fun H8 k8 => ?_
        refine ⟨r7, dx7, np, nb, e.at_, us, rfl, k8 _ _ (Same.free sz6 hr7) hx7, k8 _ _ (Same.free sz6 hnp) hlp, k8 _ _ (Same.free sz6 hnb) hlb, R7.f H8 fun x o n q => k8 x o (Same.free s1 n) q⟩
      have D5 := D.same (sB R.b)
      refine ⟨_, D5.call, rfl, _, rfl, ite2 (fun b => ?_) (fun b => ?_)⟩
      · rw [callV_none] at b
        cases hc : e.call with
        | none => rw [hc] at b; cases b
        | some ct =>
          obtain ⟨c, ts⟩ := ct
          obtain ⟨cd, ⟨ec, hec, hcl⟩, tok⟩ := eo.c c ts hc
          obtain ⟨ga, gpp, gpt, hxc, Dc⟩ := (dA.same (sB R.b)).get hec
          have ht := D5.t
          have et : e.things = ts := by unfold De.things; rw [hc]
          rw [et] at ht
          have tl4 : ts.length ≤ 4 := by rw [← hcl]; exact (ok c ec hec).len
          have hcv := D5.call
          rw [hc] at hcv
          refine ⟨Or.inl ⟨rfl, _, SqL.of R.r⟩, _, hcv, Or.inl ⟨_, _, Or.inl (SqL.of (sB R.b _ _ hD)), atI_nat hxc, _, Dc.name, ?_⟩⟩
          refine ⟨_, D5.things, _, _, rfl, Or.inl (SqL.of ht), fun l hl => ?_⟩
          have s6 := Same.upd hl (HO.lst (ts.map (Th.v N)))
          have e6 : (upd Hy l (HO.lst (ts.map (Th.v N)))) l = some (.lst (ts.map (Th.v N))) := upd_same
          generalize upd Hy l (HO.lst (ts.map (Th.v N))) = H6 at s6 e6 ⊢
          refine fun r7 dx7 hr7 hd_ hne_ => mk_CallRow (SqL.of e6) hr7 hd_ fun n7 H7 hn7 s7 hl7 hx7 => ⟨rfl, ?_⟩
          refine ⟨_, _, _, rfl, rfl, s7 _ _ (s6 _ _ R.r), small1000 (by omega), ?_⟩
          have R8 := R.add h0 (s6.trans s7) (v := .ref r7) (rw := .call e.n2 c ts) fun H8 k8 => ⟨fun t ht => ?_, tl4, r7, dx7, n7, rfl, k8 _ _ (Same.free s6 hr7) hx7, k8 _ _ (Same.free s6 hn7) hl7⟩
          · refine fin _ (zs ++ [.ref r7]) ?_
            have eb : e.dd.body = sends (e.at_ + 1) e.parts ++ e.mid ++ [.call e.n2 c ts] := by
              show sends (e.at_ + 1) e.parts ++ e.mid ++ e.last = _
              unfold De.last
              rw [hc]
            rw [eb]
            exact R8
          · have := tok t ht
            cases t with
            | i m => exact this
            | x x => exact hix x this
      · rw [callV_none] at b
        refine fin Hy zs ?_
        have eb : e.dd.body = sends (e.at_ + 1) e.parts ++ e.mid := by
          show sends (e.at_ + 1) e.parts ++ e.mid ++ e.last = _
          unfold De.last
          cases hc : e.call with
          | none => rw [List.append_nil]
          | some ct => rw [hc] at b; exact absurd rfl b
        rw [eb]
        exact R
    have D4 := D.same (sB R.b)
    refine ⟨_, D4.parts, Nat.zero_le _, fun l0 hl0 => ?_⟩
    have s5 := Same.upd hl0 (HO.lst [])
    have e5 : (upd Hx l0 (HO.lst [])) l0 = some (.lst []) := upd_same
    generalize upd Hx l0 (HO.lst []) = H5 at s5 e5 ⊢
    have R5 := R.same s5
    have D5 := D.same (sB R5.b)
    have pl5 := D5.p
    rw [strs_of] at pl5
    refine ⟨_, _, .lst (SqL.of pl5) (RepAll.strs _), .lst (SqL.of e5) .nil, shaped_parts sok _, rfl, _, rfl, ite2 (fun b => ?_) (fun b => ?_)⟩
    · rw [eqv_nilS] at b
      have hp : e.parts ≠ [] := fun z => by rw [z] at b; exact absurd b (by simp)
      have sm : e.st ∈ idx := hix _ (List.mem_append_left _ (eo.s hp))
      refine seq_cut fun B1 C1 => ?_
      refine ⟨Or.inl ⟨rfl, _, SqL.of R5.r⟩, _, D5.set hp, _, D5.set hp, _, D5.add, ?_⟩
      refine ⟨(show 3 ≤ sizeLine by decide), fun p hp6 => ?_⟩
      have s6 := Same.upd hp6 (HO.tup [V.str (N e.st), .str "+", .int e.add])
      have e6 : (upd H5 p (HO.tup [V.str (N e.st), .str "+", .int e.add])) p = some (.tup [V.str (N e.st), .str "+", .int e.add]) := upd_same
      generalize upd H5 p (HO.tup [V.str (N e.st), .str "+", .int e.add]) = H6 at s6 e6 ⊢
      refine fun r7 dx7 hr7 hd_ hne_ => mk_SetRow hr7 hd_ fun H7 s7 hx7 => ⟨rfl, ?_⟩
      refine ⟨_, _, _, rfl, rfl, s7 _ _ (s6 _ _ R5.r), small1000 (by omega), C1 _ _ ?_⟩
      have R8 := R5.add h0 (s6.trans s7) (v := .ref r7) (rw := .set e.n1 e.st (.op (.x e.st) "+" (.i e.add))) fun H8 k8 => ⟨⟨sm, eo.a, Or.inl rfl⟩, sm, r7, dx7, p, rfl, k8 _ _ (Same.free s6 hr7) hx7, k8 _ _ hp6 (s7 _ _ e6)⟩
      have y8 : (ys ++ [V.ref r7]).length ≤ 5 := by rw [List.length_append]; show _ + 1 ≤ 5; omega
      generalize upd H7 RL (HO.lst (ys ++ [.ref r7])) = H8 at R8 ⊢
      generalize ys ++ [V.ref r7] = zs at R8 y8
      have D8 := D.same (sB R8.b)
      refine seq_cut fun B2 C2 => ?_
      refine ⟨Or.inl ⟨rfl, _, SqL.of R8.r⟩, _, D8.set hp, ?_⟩
      refine ⟨(show 3 ≤ sizeLine by decide), fun p9 hp9 => ?_⟩
      have s9 := Same.upd hp9 (HO.tup [V.str (N e.st), .str "*", .int 3])
      have e9 : (upd H8 p9 (HO.tup [V.str (N e.st), .str "*", .int 3])) p9 = some (.tup [V.str (N e.st), .str "*", .int 3]) := upd_same
      generalize upd H8 p9 (HO.tup [V.str (N e.st), .str "*", .int 3]) = H9 at s9 e9 ⊢
      refine fun r10 dx10 hr10 hd_ hne_ => mk_SendRow hr10 hd_ fun H10 s10 hx10 => ⟨rfl, ?_⟩
      refine ⟨_, _, _, rfl, rfl, s10 _ _ (s9 _ _ R8.r), small1000 (by omega), C2 _ _ ?_⟩
      have R11 := R8.add h0 (s9.trans s10) (v := .ref r10) (rw := .snd (e.n1 + 1) "quill" (.op (.x e.st) "*" (.i 3))) fun H11 k11 => ⟨⟨sm, ⟨by decide, by decide⟩, Or.inr rfl⟩, r10, dx10, p9, rfl, k11 _ _ (Same.free s9 hr10) hx10, k11 _ _ hp9 (s10 _ _ e9)⟩
      have em : e.mid = [.set e.n1 e.st (.op (.x e.st) "+" (.i e.add)), .snd (e.n1 + 1) "quill" (.op (.x e.st) "*" (.i 3))] := by
        unfold De.mid
        rw [if_neg hp]
      have e2' : e.n1 + 2 = e.n2 := by
        unfold De.n2
        rw [if_neg hp]
      have R12 : Rws A N idx H1 (upd H10 RL (.lst (zs ++ [.ref r10]))) RL (zs ++ [.ref r10]) (sends (e.at_ + 1) e.parts ++ e.mid) := by
        rw [em]
        rw [List.append_assoc] at R11
        exact R11
      have := rest _ _ R12 (by rw [List.length_append]; show _ + 1 ≤ 6; omega)
      rw [← e2'] at this
      exact this
    · rw [eqv_nilS] at b
      have hp : e.parts = [] := by
        cases hq : e.parts with
        | nil => rfl
        | cons x r => rw [hq] at b; exact absurd rfl b
      have em : e.mid = [] := by
        unfold De.mid
        rw [if_pos hp]
      have e2' : e.n1 = e.n2 := by
        unfold De.n2
        rw [if_pos hp]
      have := rest H5 ys (by rw [em, List.append_nil]; exact R5) (by omega)
      rw [← e2'] at this
      exact this
end
end K26

set_option Elab.async false
set_option linter.all false
set_option maxRecDepth 100000
set_option maxHeartbeats 4000000
namespace K26
open PySem L2
section
variable {P : Program} {w : World} {K : PySem.W.Frag} {mg : Str → Option Value} {base : Heap} {A : Adr} {N : Nat → Str}
theorem cut_mem {α : Type} {f : α → V} {xs : List α} {lo hi : Option Int} {v : V} (h : v ∈ cutV (xs.map f) lo hi) : ∃ x, v = f x := by
  rw [cutV_map] at h
  obtain ⟨x, _, e⟩ := List.mem_map.mp h
  exact ⟨x, e.symm⟩
theorem cut_12 {xs : List V} : (cutV xs (some 11) (some 23)).length ≤ 12 := by
  unfold cutV
  rw [List.length_take]
  refine Nat.le_trans (Nat.min_le_left _ _) ?_
  show HT.sIx xs.length xs.length (some ((23 : Nat) : Int)) - HT.sIx xs.length 0 (some ((11 : Nat) : Int)) ≤ 12
  rw [HT.sIx_nat, HT.sIx_nat]
  omega
def CallAt (N : Nat → Str) (H H' : Hp) (v : V) (c : Nat × List Th) : Prop := ∃ tp tl, v = .ref tp ∧ H tp = none ∧ H tl = none ∧ H' tp = some (.tup [.int (c.1 : Int), .ref tl]) ∧ H' tl = some (.lst (c.2.map (Th.v N)))
theorem CallAt.same {H H1 H2 : Hp} (s : Same H1 H2) {v : V} {c : Nat × List Th} (h : CallAt N H H1 v c) : CallAt N H H2 v c := by
  obtain ⟨tp, tl, h1, h2, h3, h4, h5⟩ := h
  exact ⟨tp, tl, h1, h2, h3, s _ _ h4, s _ _ h5⟩
def CallOk (es : List De) (c : Nat × List Th) : Prop := (∃ e, es[c.1]? = some e ∧ c.2.length = e.parts.length) ∧ ∀ t ∈ c.2, t.ok [1, 2]
def sp_calls (K : PySem.W.Frag) (N : Nat → Str) : Sp := fun vs H Q _ => ∃ (a nl DL : Addr) (ns : List Int) (xs : List V) (es : List De), vs = [.ref a, .ref nl, .ref DL] ∧ SqL K H a (ns.map V.int) ∧ H nl = some (.lst (nmL N)) ∧ H DL = some (.lst xs) ∧ DesAt N H xs es ∧ EsOk es ∧ 0 < es.length ∧ es.length ≤ 8 ∧
  ∀ (CL : Addr) (ys : List V) (cs : List (Nat × List Th)) (H' : Hp), Same H H' → H CL = none → H' CL = some (.lst ys) → PySem.Paired (CallAt N H H') ys cs → ys.length ≤ 12 → (∀ c ∈ cs, CallOk es c) → Q (.ref CL) H'
theorem h_calls (T : Txt K mg A) : Has P w K mg base 2 "_law_calls" ["_law_script", "_law_names", "_law_deeds_here"] (sp_calls K N) := by
  have D_law_mix := h_mix (P := P) (w := w) (base := base) T
  have D_law_thing := h_thing (P := P) (w := w) (base := base) (N := N) T
  refine T.law_calls.has (k := 1) sc_law_calls (fun vs H Q E h => ?_) (fun f cdv A' outer s H vs Q E hr hu h => ?_)
  · obtain ⟨a, nl, DL, ns, xs, es, rfl, _⟩ := h
    rfl
  · obtain ⟨a, nl, DL, ns, xs, es, rfl, hS, hN, hD, dA, ok, e0, e8, q⟩ := h
    have xl : ((xs.length : Nat) : Int) = (es.length : Int) := by rw [dA.1]
    refine ⟨_, (pss_cons (ps_set (i := 3) sc_law_calls.nd rfl (Or.inl rfl) (pe_lst (pa_nil)))
    (pss_cons (ps_for PassesOwn.never rfl (pi_any (pe_slice sl_all (fv 0) (po_some (pe_int)) (po_some (pe_int)))) (pg_name (i := 4) sc_law_calls.nd rfl (by first | exact Or.inl rfl | exact Or.inr rfl))
      (pss_cons (ps_set (i := 5) sc_law_calls.nd rfl (Or.inl rfl) (pe_op o_mod (pe_callD D_law_mix hr (pa_cons (fv 4) (pa_cons (pe_int) pa_nil))) (pe_callB c_lenA rfl T.z_len (by boot_by_name) (pa_cons (fv 2) pa_nil))))
      (pss_cons (ps_set (i := 6) sc_law_calls.nd rfl (Or.inl rfl) (pe_lst (pa_nil)))
      (pss_cons (ps_for PassesOwn.never rfl (pi_range1 rfl T.z_range (pa_cons (pe_callB c_lenA rfl T.z_len (by boot_by_name) (pa_cons (pe_ix (ix_all hu) (pe_ix (ix_all hu) (fv 2) (fv 5) (fun _ _ => rfl)) (pe_str) (fun _ _ => rfl)) pa_nil)) pa_nil)) (pg_name (i := 7) sc_law_calls.nd rfl (by first | exact Or.inl rfl | exact Or.inr rfl))
        (pss_one (ps_expr (m_append (fv 6) (pa_cons (pe_callD D_law_thing hr (pa_cons (pe_callD D_law_mix hr (pa_cons (fv 4) (pa_cons (pe_op o_add (pe_int) (fv 7)) pa_nil))) (pa_cons (pe_slice sl_all (fv 1) (po_some (pe_int)) (po_some (pe_int))) pa_nil))) pa_nil)))))
      (pss_one (ps_expr (m_append (fv 3) (pa_cons (pe_tup (pa_cons (fv 5) (pa_cons (fv 6) pa_nil))) pa_nil))))))))
    (pss_one (ps_ret (fv 3))))), ?_⟩
    refine seq_cut fun M1 K1 => ?_
    refine ⟨Nat.zero_le _, fun CL hCL => ?_⟩
    have s1 := Same.upd hCL (HO.lst [])
    have e1 : (upd H CL (HO.lst [])) CL = some (.lst []) := upd_same
    generalize upd H CL (HO.lst []) = H1 at s1 e1 ⊢
    refine K1 _ _ ?_
    refine seq_cut fun M2 K2 => ?_
    refine ⟨_, rfl, _, rfl, Or.inl ⟨a, _, rfl, s1.seq hS, fun SL hSL => ?_⟩⟩
    have s2 := Same.upd hSL (HO.lst (cutV (ns.map V.int) (some 11) (some 23)))
    have e2 : (upd H1 SL (HO.lst (cutV (ns.map V.int) (some 11) (some 23)))) SL = some (.lst (cutV (ns.map V.int) (some 11) (some 23))) := upd_same
    have CS : SL ≠ CL := fun z => by rw [z, e1] at hSL; cases hSL
    have cl : (cutV (ns.map V.int) (some 11) (some 23)).length ≤ 12 := cut_12
    have cm : ∀ {v : V} {i : Nat}, (cutV (ns.map V.int) (some 11) (some 23))[i]? = some v → ∃ c : Int, v = .int c := fun h => cut_mem (List.mem_of_getElem? h)
    generalize cutV (ns.map V.int) (some 11) (some 23) = cells at e2 cl cm s2 ⊢
    generalize upd H1 SL (HO.lst cells) = H2 at s2 e2 ⊢
    have t2 := s1.trans s2
    have mc : CL ∈ [CL] := List.mem_singleton.mpr rfl
    refine Or.inl ⟨⟨_, SqL.of e2⟩, ?_⟩
    refine for_list (K := K) (xs := cells) (fun i σ Hx => (∃ (H0 : Hp) (ys : List V) (cs : List (Nat × List Th)), Same H H0 ∧ Same H0 Hx ∧ H0 CL = none ∧ H0 SL = some (.lst cells) ∧ Hx CL = some (.lst ys) ∧ PySem.Paired (CallAt N H H0) ys cs ∧ (∀ c ∈ cs, CallOk es c) ∧ ys.length = i) ∧ ∃ v4 v5 v6 v7, σ = [some (.ref a), some (.ref nl), some (.ref DL), some (.ref CL), v4, v5, v6, v7]) ⟨⟨del [CL] H2, [], [], Same.del t2 (fun x hx => by rw [List.mem_singleton.mp hx]; exact hCL), del_same, del_none mc, del_some (fun z => CS (List.mem_singleton.mp z)) e2, s2 _ _ e1, .nil, fun c hc => (by cases hc), rfl⟩, _, _, _, _, rfl⟩ (fun i σ Hx _ h => by obtain ⟨⟨H0, ys, cs, _, s0, _, hs, _⟩, _⟩ := h; exact SqL.of (s0 _ _ hs)) ?_ ?_
    · rintro i v σ Hx hv ⟨⟨H0, ys, cs, sH, s0, c0, hs, hC, pr, co, yl⟩, v4, v5, v6, v7, rfl⟩
      obtain ⟨c, rfl⟩ := cm hv
      have hi : i < 12 := by have := (List.getElem?_eq_some_iff.mp hv).1; omega
      have sx := sH.trans s0
      refine seq_cut fun B1 C1 => ?_
      refine ⟨c, 0, rfl, by decide, fun m H3 s3 => Or.inl ⟨_, _, rfl, Or.inl ⟨_, SqL.of (s3 _ _ (sx _ _ hD)), rfl⟩, (by rw [xl]; omega), C1 _ _ ?_⟩⟩
      dsimp only
      rw [xl]
      obtain ⟨d, hd, dl⟩ : ∃ d : Nat, m % (es.length : Int) = (d : Int) ∧ d < es.length := by
        have := mod_in m (show (0 : Int) < (es.length : Int) by omega)
        exact ⟨(m % (es.length : Int)).toNat, by omega, by omega⟩
      rw [hd]
      refine seq_cut fun B2 C2 => ?_
      refine ⟨Nat.zero_le _, fun TL hTL => ?_⟩
      have TL0 := Same.free (sx.trans s3) hTL
      have TLC : TL ≠ CL := fun z => by rw [z, s3 _ _ hC] at hTL; cases hTL
      have s4 := Same.upd hTL (HO.lst [])
      have e4 : (upd H3 TL (HO.lst [])) TL = some (.lst []) := upd_same
      have sb : Same H3 (del [TL] (upd H3 TL (HO.lst []))) := Same.del s4 fun x hx => by rw [List.mem_singleton.mp hx]; exact hTL
      have sb' : Same (del [TL] (upd H3 TL (HO.lst []))) (upd H3 TL (HO.lst [])) := del_same
      have tb : del [TL] (upd H3 TL (HO.lst [])) TL = none := del_none (List.mem_singleton.mpr rfl)
      generalize del [TL] (upd H3 TL (HO.lst [])) = Hb at sb sb' tb
      generalize upd H3 TL (HO.lst []) = H4 at s4 e4 sb' ⊢
      refine C2 _ _ ?_
      obtain ⟨e, he⟩ : ∃ e, es[d]? = some e := ⟨_, List.getElem?_eq_getElem dl⟩
      obtain ⟨ga, gpp, gpt, hxd, De'⟩ := (dA.same (sx.trans s3)).get he
      have D4 := De'.same s4
      have l4 := (ok d e he).len
      refine seq_cut fun B3 C3 => ?_
      refine Or.inl ⟨_, _, Or.inl (SqL.of (s4 _ _ (s3 _ _ (sx _ _ hD)))), atI_nat hxd, _, D4.parts, Or.inl ⟨_, _, rfl, Or.inl ⟨_, SqL.of D4.p, rfl⟩, ?_⟩⟩
      refine ⟨(e.parts.length : Int), by rw [List.length_map], by omega, by omega, ?_⟩
      refine for_range (fun j σ Hy => (∃ ts : List Th, Same Hb Hy ∧ Hy TL = some (.lst (ts.map (Th.v N))) ∧ ts.length = j ∧ ∀ t ∈ ts, t.ok [1, 2]) ∧ ∃ v7, σ = [some (.ref a), some (.ref nl), some (.ref DL), some (.ref CL), some (.int c), some (.int (d : Int)), some (.ref TL), v7]) ⟨⟨[], sb', e4, rfl, fun t ht => by cases ht⟩, _, rfl⟩ ?_ ?_
      · rintro j σ Hy hj ⟨⟨ts, sy, ey, tl, to⟩, u7, rfl⟩
        refine ⟨Or.inl ⟨rfl, _, SqL.of ey⟩, ?_⟩
        refine ⟨c, 1 + j, by show [V.int c, V.int (1 + (0 + (j : Int)))] = _; rw [Int.zero_add, show (1 : Int) + (j : Int) = ((1 + j : Nat) : Int) by push_cast; rfl], by omega, fun m H7 s7 => ?_⟩
        have t7 := sy.trans s7
        refine ⟨_, rfl, _, rfl, Or.inl ⟨nl, _, rfl, SqL.of (t7 _ _ (sb _ _ (s3 _ _ (sx _ _ hN)))), fun l9 hl9 => ?_⟩⟩
        rw [cut12]
        have s9 := Same.upd hl9 (HO.lst (([1, 2] : List Nat).map fun i => V.str (N i)))
        have e9 : (upd H7 l9 (HO.lst (([1, 2] : List Nat).map fun i => V.str (N i)))) l9 = some (.lst (([1, 2] : List Nat).map fun i => V.str (N i))) := upd_same
        generalize upd H7 l9 (HO.lst (([1, 2] : List Nat).map fun i => V.str (N i))) = H9 at s9 e9 ⊢
        refine ⟨m, l9, [1, 2], rfl, SqL.of e9, by decide, fun th ho => ?_⟩
        refine ⟨_, _, _, rfl, rfl, s9 _ _ (s7 _ _ ey), small1000 (by rw [List.length_map, tl]; omega), ?_⟩
        refine ⟨⟨ts ++ [th], Same.out (t7.trans s9) tb _, by rw [upd_same, List.map_append]; rfl, by rw [List.length_append, tl]; rfl, fun t ht => ?_⟩, _, rfl⟩
        rcases List.mem_append.mp ht with h | h
        · exact to t h
        · rw [List.mem_singleton.mp h]
          exact ho
      · rintro σ Hy ⟨⟨ts, sy, ey, tl, to⟩, u7, rfl⟩
        refine C3 _ _ ?_
        have sxy := (s0.trans s3).trans (sb.trans sy)
        have hCy := (sb.trans sy) _ _ (s3 _ _ hC)
        refine ⟨Or.inl ⟨rfl, _, SqL.of hCy⟩, (show 2 ≤ sizeLine by decide), fun tp htp => ?_⟩
        have sp := Same.upd htp (HO.tup [.int (d : Int), .ref TL])
        have epp : (upd Hy tp (HO.tup [.int (d : Int), .ref TL])) tp = some (.tup [.int (d : Int), .ref TL]) := upd_same
        have tp0 := Same.free (sH.trans sxy) htp
        have tpC : tp ≠ CL := fun z => by rw [z, hCy] at htp; cases htp
        generalize upd Hy tp (HO.tup [.int (d : Int), .ref TL]) = Hz at sp epp ⊢
        refine ⟨_, _, _, rfl, rfl, sp _ _ hCy, small1000 (by omega), ?_⟩
        have sd : Same H0 (del [CL] Hz) := Same.del (sxy.trans sp) fun x hx => by rw [List.mem_singleton.mp hx]; exact c0
        refine ⟨⟨del [CL] Hz, ys ++ [.ref tp], cs ++ [(d, ts)], sH.trans sd, Same.out del_same (del_none mc) _, del_none mc, sd _ _ hs, upd_same, PySem.Paired.snoc (Paired.mapP pr fun _ _ => CallAt.same sd) ⟨tp, TL, rfl, tp0, TL0, del_some (fun z => tpC (List.mem_singleton.mp z)) epp, del_some (fun z => TLC (List.mem_singleton.mp z)) (sp _ _ ey)⟩, fun c' hc' => ?_, by rw [List.length_append, yl]; rfl⟩, _, _, _, _, rfl⟩
        rcases List.mem_append.mp hc' with h | h
        · exact co c' h
        · rw [List.mem_singleton.mp h]
          exact ⟨⟨e, he, tl⟩, to⟩
    · rintro σ Hx ⟨⟨H0, ys, cs, sH, s0, c0, hs, hC, pr, co, yl⟩, v4, v5, v6, v7, rfl⟩
      refine K2 _ _ ?_
      exact q CL ys cs Hx (sH.trans s0) hCL hC (Paired.mapP pr fun _ _ => CallAt.same s0) (by omega) co
abbrev lbK (s : S) (t l c : Addr) : List (Key × V) := [(.inr "steps", .int s.steps), (.inr "trace", .ref t), (.inr "letters", .ref l), (.inr "cells", .ref c)]
structure LawB (N : Nat → Str) (H : Hp) (b t l c : Addr) (ix : List Nat) (s : S) : Prop where
  hd : H b = some (.dK (lbK s t l c))
  ht : ∃ xs, H t = some (.lst xs) ∧ Tups H xs s.trace
  hl : ∃ xs, H l = some (.lst xs) ∧ Tups H xs s.letters
  hc : H c = some (.dK (dk N ix (iv s.num)))
  ne : t ≠ l
  nc : b ≠ c
theorem LawB.stay {H H' : Hp} {b t l c : Addr} {ix : List Nat} {s : S} (B : LawB N H b t l c ix s) (st : Stay H H') (h : ∀ x ∈ [b, t, l, c], H' x = H x) : LawB N H' b t l c ix s := by
  obtain ⟨hd, ⟨xs, h1, h2⟩, ⟨ys, h3, h4⟩, hc, ne, nc⟩ := B
  exact ⟨by rw [h b (by simp)]; exact hd, ⟨xs, by rw [h t (by simp)]; exact h1, h2.stay st⟩, ⟨ys, by rw [h l (by simp)]; exact h3, h4.stay st⟩, by rw [h c (by simp)]; exact hc, ne, nc⟩
theorem LawB.same {H H' : Hp} {b t l c : Addr} {ix : List Nat} {s : S} (B : LawB N H b t l c ix s) (e : Same H H') : LawB N H' b t l c ix s := by
  obtain ⟨hd, ⟨xs, h1, h2⟩, ⟨ys, h3, h4⟩, hc, ne, nc⟩ := B
  exact ⟨e _ _ hd, ⟨xs, e _ _ h1, h2.stay (Same.stay e)⟩, ⟨ys, e _ _ h3, h4.stay (Same.stay e)⟩, e _ _ hc, ne, nc⟩
theorem LawB.some_ {H : Hp} {b t l c : Addr} {ix : List Nat} {s : S} (B : LawB N H b t l c ix s) : ∀ x ∈ [b, t, l, c], ∃ o, H x = some o := fun x hx => by
  obtain ⟨hd, ⟨xs, h1, h2⟩, ⟨ys, h3, h4⟩, hc, ne, nc⟩ := B
  simp only [List.mem_cons, List.not_mem_nil, or_false] at hx
  rcases hx with rfl | rfl | rfl | rfl
  · exact ⟨_, hd⟩
  · exact ⟨_, h1⟩
  · exact ⟨_, h3⟩
  · exact ⟨_, hc⟩
theorem LawB.gs {H : Hp} {b t l c : Addr} {ix : List Nat} {s : S} (B : LawB N H b t l c ix s) : DGet H b (.str "steps") (some (.int s.steps)) := DGet.k (k := .inr "steps") B.hd
theorem LawB.gt {H : Hp} {b t l c : Addr} {ix : List Nat} {s : S} (B : LawB N H b t l c ix s) : DGet H b (.str "trace") (some (.ref t)) := DGet.k (k := .inr "trace") B.hd
theorem LawB.gl {H : Hp} {b t l c : Addr} {ix : List Nat} {s : S} (B : LawB N H b t l c ix s) : DGet H b (.str "letters") (some (.ref l)) := DGet.k (k := .inr "letters") B.hd
theorem LawB.gc {H : Hp} {b t l c : Addr} {ix : List Nat} {s : S} (B : LawB N H b t l c ix s) : DGet H b (.str "cells") (some (.ref c)) := DGet.k (k := .inr "cells") B.hd
theorem put_st {s : S} {t l c : Addr} {n : Int} : putK (lbK s t l c) (.inr "steps") (.int n) = lbK { s with steps := n } t l c := rfl
theorem LawB.set {H : Hp} {b t l c : Addr} {ix : List Nat} {s : S} (B : LawB N H b t l c ix s) (n : Int) : LawB N (upd H b (.dK (lbK { s with steps := n } t l c))) b t l c ix { s with steps := n } := by
  obtain ⟨hd, ⟨xs, h1, h2⟩, ⟨ys, h3, h4⟩, hc, ne, nc⟩ := B
  have st : Stay H (upd H b (.dK (lbK { s with steps := n } t l c))) := Stay.at hd fun w e => by cases e
  exact ⟨upd_same, ⟨xs, by rw [upd_ne (fun z => by rw [z, hd] at h1; cases h1)]; exact h1, h2.stay st⟩, ⟨ys, by rw [upd_ne (fun z => by rw [z, hd] at h3; cases h3)]; exact h3, h4.stay st⟩, by rw [upd_ne (Ne.symm nc)]; exact hc, ne, nc⟩
theorem LawB.trace {H : Hp} {b t l c p : Addr} {ix : List Nat} {s : S} {xs w : List V} (B : LawB N H b t l c ix s) (hp : H p = none) (ht : H t = some (.lst xs)) : LawB N (upd (upd H p (.tup w)) t (.lst (xs ++ [.ref p]))) b t l c ix { s with trace := s.trace ++ [w] } := by
  obtain ⟨hd, ⟨xs', h1, h2⟩, ⟨ys, h3, h4⟩, hc, ne, nc⟩ := B
  rw [ht] at h1
  cases h1
  have e1 : (upd H p (.tup w)) t = some (.lst xs) := Same.upd hp _ _ _ ht
  have st : Stay H (upd (upd H p (.tup w)) t (.lst (xs ++ [.ref p]))) := (Same.stay (Same.upd hp _)).trans (Stay.at e1 fun w e => by cases e)
  have dt : b ≠ t := fun z => by rw [z, ht] at hd; cases hd
  have ct : c ≠ t := fun z => by rw [z, ht] at hc; cases hc
  have pt : p ≠ t := fun z => by rw [z, ht] at hp; cases hp
  exact ⟨by rw [upd_ne dt]; exact Same.upd hp _ _ _ hd, ⟨_, upd_same, PySem.Paired.snoc (h2.stay st) ⟨p, rfl, by rw [upd_ne pt]; exact upd_same⟩⟩, ⟨ys, by rw [upd_ne (Ne.symm ne)]; exact Same.upd hp _ _ _ h3, h4.stay st⟩, by rw [upd_ne ct]; exact Same.upd hp _ _ _ hc, ne, nc⟩
theorem LawB.letter {H : Hp} {b t l c p : Addr} {ix : List Nat} {s : S} {xs w : List V} (B : LawB N H b t l c ix s) (hp : H p = none) (ht : H l = some (.lst xs)) : LawB N (upd (upd H p (.tup w)) l (.lst (xs ++ [.ref p]))) b t l c ix { s with letters := s.letters ++ [w] } := by
  obtain ⟨hd, ⟨ys, h3, h4⟩, ⟨xs', h1, h2⟩, hc, ne, nc⟩ := B
  rw [ht] at h1
  cases h1
  have e1 : (upd H p (.tup w)) l = some (.lst xs) := Same.upd hp _ _ _ ht
  have st : Stay H (upd (upd H p (.tup w)) l (.lst (xs ++ [.ref p]))) := (Same.stay (Same.upd hp _)).trans (Stay.at e1 fun w e => by cases e)
  have dt : b ≠ l := fun z => by rw [z, ht] at hd; cases hd
  have ct : c ≠ l := fun z => by rw [z, ht] at hc; cases hc
  have pt : p ≠ l := fun z => by rw [z, ht] at hp; cases hp
  exact ⟨by rw [upd_ne dt]; exact Same.upd hp _ _ _ hd, ⟨ys, by rw [upd_ne ne]; exact Same.upd hp _ _ _ h3, h4.stay st⟩, ⟨_, upd_same, PySem.Paired.snoc (h2.stay st) ⟨p, rfl, by rw [upd_ne pt]; exact upd_same⟩⟩, by rw [upd_ne ct]; exact Same.upd hp _ _ _ hc, ne, nc⟩
structure FreshB (H0 : Hp) (b t l c : Addr) : Prop where
  b : H0 b = none
  t : H0 t = none
  l : H0 l = none
  c : H0 c = none
def S.told (s : S) (n : Int) : V → S
  | .int i => s.send n "quill" i
  | v => s.tell n v
def sp_tell (N : Nat → Str) : Sp := fun vs H Q _ => ∃ (b t l c : Addr) (ix : List Nat) (s : S) (n : Int) (v : V) (H0 : Hp), vs = [.ref b, .int n, v] ∧ Same H0 H ∧ LawB N H b t l c ix s ∧ FreshB H0 b t l c ∧ s.room 1 ∧ (v = .non ∨ ∃ i, v = .int i) ∧
  ∀ H', Same H0 H' → LawB N H' b t l c ix (s.told n v) → Q .non H'
theorem h_tell (T : Txt K mg A) : Has P w K mg base 1 "_law_tell" ["_law_book", "_law_at", "_law_told"] (sp_tell N) := by
  refine T.law_tell.has sc_law_tell (fun vs H Q E h => ?_) (fun f cdv A' outer s' H vs Q E hr hu h => ?_)
  · obtain ⟨b, t, l, c, ix, s, n, v, H0, rfl, _⟩ := h
    rfl
  · obtain ⟨b, t, l, c, ix, s, n, v, H0, rfl, s0, B, Fr, rm, hv, q⟩ := h
    refine ⟨_, (pss_cons (ps_asg (pe_op o_add (pe_ix (ix_all hu) (fv 0) (pe_str) (fun _ _ => rfl)) (pe_int)) (pg_sub (fv 0) (pe_str) (st_all hu set_list)))
    (pss_cons (ps_expr (m_append (pe_ix (ix_all hu) (fv 0) (pe_str) (fun _ _ => rfl)) (pa_cons (pe_tup (pa_cons (fv 1) (pa_cons (pe_ix (ix_all hu) (fv 0) (pe_str) (fun _ _ => rfl)) (pa_cons (fv 2) pa_nil)))) pa_nil)))
    (pss_one (ps_if (pt_cmpR (o_isnot) (fv 2) (pe_non) (nomark _))
      (pss_one (ps_expr (m_append (pe_ix (ix_all hu) (fv 0) (pe_str) (fun _ _ => rfl)) (pa_cons (pe_tup (pa_cons (pe_ix (ix_all hu) (fv 0) (pe_str) (fun _ _ => rfl)) (pa_cons (fv 1) (pa_cons (pe_str) (pa_cons (fv 2) pa_nil))))) pa_nil))))
      pss_nil)))), ?_⟩
    refine ⟨_, B.gs, _, DPut.k (k := .inr "steps") B.hd (show 4 < sizeLine by decide), ?_⟩
    rw [put_st]
    have B3 := B.set (s.steps + 1)
    have s3 : Same H0 _ := Same.out s0 Fr.b (HO.dK (lbK { s with steps := s.steps + 1 } t l c))
    generalize upd H b (HO.dK (lbK { s with steps := s.steps + 1 } t l c)) = H3 at B3 s3 ⊢
    obtain ⟨ts, ht, tt⟩ := B3.ht
    refine ⟨_, B3.gt, Or.inl ⟨rfl, _, SqL.of ht⟩, _, B3.gs, ?_⟩
    refine ⟨(show 3 ≤ sizeLine by decide), fun p4 hp4 => ⟨_, _, _, rfl, rfl, Same.upd hp4 _ _ _ ht, tlen_of (k := { s with steps := s.steps + 1 }) rm tt, ?_⟩⟩
    have B5 : LawB N _ b t l c ix (s.tell n v) := B3.trace (w := [.int n, .int (s.steps + 1), v]) hp4 ht
    have s5 : Same H0 _ := Same.out (s3.trans (Same.upd hp4 (HO.tup [.int n, .int (s.steps + 1), v]))) Fr.t (HO.lst (ts ++ [.ref p4]))
    generalize upd (upd H3 p4 (HO.tup [.int n, .int (s.steps + 1), v])) t (HO.lst (ts ++ [.ref p4])) = H5 at B5 s5 ⊢
    refine ⟨rfl, _, rfl, ?_⟩
    rcases hv with rfl | ⟨i, rfl⟩
    · exact ite2 (fun c => absurd c (by decide)) (fun _ => q H5 s5 B5)
    · refine ite2 (fun _ => ?_) (fun c => absurd rfl c)
      obtain ⟨ls, hl5, tl5⟩ := B5.hl
      refine ⟨_, B5.gl, Or.inl ⟨rfl, _, SqL.of hl5⟩, _, B5.gs, ?_⟩
      refine ⟨(show 4 ≤ sizeLine by decide), fun p6 hp6 => ⟨_, _, _, rfl, rfl, Same.upd hp6 _ _ _ hl5, llen_of (k := s) rm tl5, ?_⟩⟩
      have B7 := B5.letter (w := [.int (s.steps + 1), .int n, .str "quill", .int i]) hp6 hl5
      exact q _ (Same.out (s5.trans (Same.upd hp6 _)) Fr.l _) B7
end
end K26

set_option Elab.async false
set_option linter.all false
set_option maxRecDepth 100000
set_option maxHeartbeats 4000000
namespace K26
open PySem L2
section
variable {P : Program} {w : World} {K : PySem.W.Frag} {mg : Str → Option Value} {base : Heap} {A : Adr} {N : Nat → Str}
theorem leaf_snd {ds : List Dd} {f : Nat} {s : S} {n : Int} {x : Str} {v : Val} : leaf ds f s (.snd n x v) = s.send n x (v.num s) := by cases f <;> rfl
theorem leaf_set {ds : List Dd} {f : Nat} {s : S} {n : Int} {x : Nat} {v : Val} : leaf ds f s (.set n x v) = (s.tell n .non).put x (v.num s) := by cases f <;> rfl
def lawParts : Int → List (Nat × Int) → S → S
  | _, [], s => s
  | n, p :: r, s => lawParts (n + 1) r ((s.put p.1 p.2).send n "quill" p.2)
theorem lawParts_snoc : ∀ (xs : List (Nat × Int)) (n : Int) (s : S) (p : Nat × Int), lawParts n (xs ++ [p]) s = ((lawParts n xs s).put p.1 p.2).send (n + xs.length) "quill" p.2
  | [], n, s, p => by
    show (s.put p.1 p.2).send n "quill" p.2 = (s.put p.1 p.2).send (n + ((0 : Nat) : Int)) "quill" p.2
    rw [show n + ((0 : Nat) : Int) = n by omega]
  | q :: xs, n, s, p => by
    show lawParts (n + 1) (xs ++ [p]) _ = ((lawParts (n + 1) xs _).put p.1 p.2).send (n + ((xs.length + 1 : Nat) : Int)) "quill" p.2
    rw [lawParts_snoc xs, show n + 1 + (xs.length : Int) = n + ((xs.length + 1 : Nat) : Int) by push_cast; omega]
theorem send_puts : ∀ (ps : List (Nat × Int)) (s : S) (n : Int) (h : Str) (v : Int), (s.send n h v).puts ps = (s.puts ps).send n h v
  | [], _, _, _, _ => rfl
  | p :: r, s, n, h, v => send_puts r (s.put p.1 p.2) n h v
theorem puts_num : ∀ (ps : List (Nat × Int)) (s : S) {x : Nat}, x ∉ ps.map Prod.fst → (s.puts ps).num x = s.num x
  | [], _, _, _ => rfl
  | p :: r, s, x, h => by
    show ((s.put p.1 p.2).puts r).num x = s.num x
    rw [puts_num r _ fun z => h (List.mem_cons_of_mem _ z)]
    exact if_neg fun z => h (by rw [z]; exact List.mem_cons_self)
theorem put_num (s : S) (x : Nat) (v : Int) : (s.put x v).num x = v := if_pos rfl
theorem lawParts_eq (ds : List Dd) (f : Nat) : ∀ (ps : List (Nat × Int)) (n : Int) (s : S), (ps.map Prod.fst).Nodup → lawParts n ps s = (sends n (ps.map Prod.fst)).foldl (leaf ds f) (s.puts ps)
  | [], _, _, _ => rfl
  | p :: r, n, s, nd => by
    rw [List.map_cons, List.nodup_cons] at nd
    show lawParts (n + 1) r ((s.put p.1 p.2).send n "quill" p.2) = (sends (n + 1) (r.map Prod.fst)).foldl (leaf ds f) (leaf ds f ((s.put p.1 p.2).puts r) (.snd n "quill" (.one (.x p.1))))
    rw [lawParts_eq ds f r _ _ nd.2, send_puts, leaf_snd]
    have : (Val.one (.x p.1)).num ((s.put p.1 p.2).puts r) = p.2 := by
      show ((s.put p.1 p.2).puts r).num p.1 = p.2
      rw [puts_num r _ nd.1, put_num]
    rw [this]
def S.toldAt (e : De) (s : S) : Int := (s.num e.st + e.add) % (10 ^ (12 : Int).toNat)
def midS (e : De) (s : S) : S := if e.parts = [] then s else (((s.put e.st (s.toldAt e)).tell e.n1 .non).send (e.n1 + 1) "quill" (s.toldAt e * 3 % (10 ^ (12 : Int).toNat)))
theorem mid_eq {ds : List Dd} {f : Nat} {e : De} {s : S} : e.mid.foldl (leaf ds f) s = midS e s := by
  unfold De.mid midS
  split
  · rfl
  · rw [List.foldl_cons, List.foldl_cons, List.foldl_nil, leaf_set, leaf_snd]
    have e1 : (Val.op (.x e.st) "+" (.i e.add)).num s = s.toldAt e := by
      show rkn (s.num e.st) e.add "+" = _
      rw [rkn_add]
      unfold S.toldAt
      rw [pow12]
    rw [e1]
    have e2 : (Val.op (.x e.st) "*" (.i 3)).num ((s.tell e.n1 .non).put e.st (s.toldAt e)) = s.toldAt e * 3 % (10 ^ (12 : Int).toNat) := by
      show rkn (((s.tell e.n1 .non).put e.st (s.toldAt e)).num e.st) 3 "*" = _
      rw [put_num, rkn_mul, pow12]
    rw [e2]
    rfl
theorem leaf_eq {es : List De} (ok : EsOk es) {d : Nat} {e : De} (he : es[d]? = some e) {ts : List Th} (hl : e.parts.length = ts.length) (f : Nat) (s : S) (n : Int) :
    leaf (dds es) (f + 1) s (.call n d ts) = e.last.foldl (leaf (dds es) f) (midS e (lawParts (e.at_ + 1) (e.parts.zip (ts.map (Th.num s))) (s.tell n .non))) := by
  have e1 : (e.parts.zip (ts.map (Th.num s))).map Prod.fst = e.parts := List.map_fst_zip (by rw [List.length_map, hl]; exact Nat.le_refl _)
  rw [lawParts_eq (dds es) f _ _ _ (by rw [e1]; exact (ok d e he).nodup), e1, ← mid_eq (ds := dds es) (f := f), ← List.foldl_append, ← List.foldl_append]
  unfold leaf
  rw [dds_get he]
  show (sends (e.at_ + 1) e.parts ++ e.mid ++ e.last).foldl _ _ = _
  rw [List.append_assoc]
  rfl
theorem room_send {s : S} {n : Nat} (h : s.room (1 + n)) (m : Int) (x : Str) (v : Int) : (s.send m x v).room n := ⟨by have := h.1; simp [S.send, S.tell]; omega, by have := h.2; simp [S.send, S.tell]; omega⟩
theorem room_put {s : S} {n : Nat} (h : s.room n) (x : Nat) (v : Int) : (s.put x v).room n := ⟨h.1, h.2⟩
theorem room_parts : ∀ (ps : List (Nat × Int)) (n : Int) {s : S} {k : Nat}, s.room (ps.length + k) → (lawParts n ps s).room k
  | [], _, _, _, h => h.le (by rw [List.length_nil]; omega)
  | p :: r, n, s, k, h => room_parts r (n + 1) (room_send (room_put (h.le (by rw [List.length_cons]; omega)) _ _) _ _ _)
theorem room_mid {e : De} {s : S} {k : Nat} (h : s.room (2 + k)) : (midS e s).room k := by
  unfold midS
  split
  · exact h.le (by omega)
  · exact room_send (room_tell (room_put (h.le (by omega)) _ _) _ _) _ _ _
theorem LawB.put {H : Hp} {b t l c : Addr} {ix : List Nat} {s : S} (B : LawB N H b t l c ix s) (D : Dist N) (hb : ∀ j ∈ ix, j < 64) {x : Nat} (hx : x < 64) (v : Int) :
    ∃ ix', (∀ j ∈ ix, j ∈ ix') ∧ x ∈ ix' ∧ (∀ j ∈ ix', j < 64) ∧ ix'.length ≤ ix.length + 1 ∧ LawB N (upd H c (.dK (putK (dk N ix (iv s.num)) (.inr (N x)) (.int v)))) b t l c ix' (s.put x v) := by
  obtain ⟨hd, ⟨xs, h1, h2⟩, ⟨ys, h3, h4⟩, hc, ne, nc⟩ := B
  have st : Stay H (upd H c (.dK (putK (dk N ix (iv s.num)) (.inr (N x)) (.int v)))) := Stay.at hc fun w e => by cases e
  have g : ∀ ix' : List Nat, putK (dk N ix (iv s.num)) (.inr (N x)) (.int v) = dk N ix' (iv (s.put x v).num) → LawB N (upd H c (.dK (putK (dk N ix (iv s.num)) (.inr (N x)) (.int v)))) b t l c ix' (s.put x v) := fun ix' e =>
    ⟨by rw [upd_ne nc]; exact hd, ⟨xs, by rw [upd_ne (fun z => by rw [z, hc] at h1; cases h1)]; exact h1, h2.stay st⟩, ⟨ys, by rw [upd_ne (fun z => by rw [z, hc] at h3; cases h3)]; exact h3, h4.stay st⟩, by rw [upd_same, e], ne, nc⟩
  have cg : ∀ ix' : List Nat, dk N ix' (updF (iv s.num) x (.int v)) = dk N ix' (iv (s.put x v).num) := fun ix' => dk_congr fun j _ => by
    show (if j = x then V.int v else V.int (s.num j)) = V.int (if j = x then v else s.num j)
    split <;> rfl
  by_cases m : x ∈ ix
  · exact ⟨ix, fun _ h => h, m, hb, by omega, g ix (by rw [dk_put D hb m, cg])⟩
  · refine ⟨ix ++ [x], fun _ h => List.mem_append_left _ h, List.mem_append_right _ (List.mem_singleton.mpr rfl), fun j hj => ?_, by rw [List.length_append]; exact Nat.le_refl _, g _ (by rw [dk_new D hx hb m, cg])⟩
    rcases List.mem_append.mp hj with h | h
    · exact hb j h
    · rw [List.mem_singleton.mp h]
      exact hx
theorem LawB.cell {H : Hp} {b t l c : Addr} {ix : List Nat} {s : S} (B : LawB N H b t l c ix s) (D : Dist N) (hb : ∀ j ∈ ix, j < 64) {x : Nat} (hx : x ∈ ix) : DGet H c (.str (N x)) (some (.int (s.num x))) := by
  have := DGet.k (k := .inr (N x)) B.hc
  rw [dk_get D hb hx] at this
  exact this
theorem LawB.clen {H : Hp} {b t l c : Addr} {ix : List Nat} {s : S} (B : LawB N H b t l c ix s) (hl : ix.length ≤ s.trace.length + 2) (rm : s.room 1) : (dk N ix (iv s.num)).length < sizeLine := by
  unfold dk
  rw [List.length_map]
  have h1 := rm.1
  have : sizeLine ≥ 2000 := by decide
  omega
theorem FreshB.del {H : Hp} {b t l c : Addr} : FreshB (del [b, t, l, c] H) b t l c := ⟨del_none (by simp), del_none (by simp), del_none (by simp), del_none (by simp)⟩
theorem FreshB.sd {H0 H : Hp} {b t l c : Addr} (F : FreshB H0 b t l c) (s : Same H0 H) : Same H0 (K26.del [b, t, l, c] H) := Same.del s fun x hx => by
  simp only [List.mem_cons, List.not_mem_nil, or_false] at hx
  rcases hx with rfl | rfl | rfl | rfl
  · exact F.b
  · exact F.t
  · exact F.l
  · exact F.c
def sp_lcall (N : Nat → Str) : Nat → Sp
  | 0 => fun _ _ _ _ => False
  | f + 1 => fun vs H Q _ => ∃ (b t l c DL tl : Addr) (xs : List V) (es : List De) (d : Nat) (ts : List Th) (e : De) (n : Int) (s : S) (ix : List Nat) (H0 : Hp), vs = [.ref b, .ref DL, .int (d : Int), .ref tl, .int n] ∧ EsOk es ∧ es.length ≤ 8 ∧ Same H0 H ∧ LawB N H b t l c ix s ∧ (∀ j ∈ ix, j < 64) ∧ ix.length ≤ s.trace.length + 2 ∧ FreshB H0 b t l c ∧ H0 DL = some (.lst xs) ∧ DesAt N H0 xs es ∧ es[d]? = some e ∧
    H0 tl = some (.lst (ts.map (Th.v N))) ∧ e.parts.length = ts.length ∧ (∀ t ∈ ts, t.ok ix) ∧ (1 ∈ ix ∧ 2 ∈ ix) ∧ d < f + 1 ∧ s.room (1 + 7 * (f + 1)) ∧
    ∀ (H' : Hp) (ix' : List Nat), Same H0 H' → (∀ j ∈ ix, j ∈ ix') → (∀ j ∈ ix', j < 64) → ix'.length ≤ (leaf (dds es) (f + 1) s (.call n d ts)).trace.length + 2 → LawB N H' b t l c ix' (leaf (dds es) (f + 1) s (.call n d ts)) → Q .non H'
theorem h_lcall (T : Txt K mg A) (D : Dist N) : ∀ f, Has P w K mg base (f + 2) "_law_call" ["_law_book", "_law_deeds_here", "_law_called", "_law_things", "_law_at"] (sp_lcall N f)
  | 0 => T.law_call.has (k := 1) sc_law_call (fun _ _ _ _ h => h.elim) (fun _ _ _ _ _ _ _ _ _ _ _ h => h.elim)
  | f + 1 => by
    have D_law_call := h_lcall T D f
    have D_law_tell := h_tell (P := P) (w := w) (base := base) (N := N) T
    refine T.law_call.has (k := f + 2) sc_law_call (fun vs H Q E h => ?_) (fun f' cdv A' outer s' H vs Q E hr hu h => ?_)
    · obtain ⟨b, t, l, c, DL, tl, xs, es, d, ts, e, n, s, ix, H0, rfl, _⟩ := h
      rfl
    · obtain ⟨b, t, l, c, DL, tl, xs, es, d, ts, e, n, s, ix, H0, rfl, ok, h8, s0, B, ixb, ixl, Fr, hD, dA, he, htl, hl, tok, i12, hdf, rm, q⟩ := h
      have eo := ok d e he
      have l4 := eo.len
      have d8 : d < 8 := by have := (List.getElem?_eq_some_iff.mp he).1; omega
      obtain ⟨a, pp, pt, hxd, Da⟩ := dA.get he
      rw [leaf_eq ok he hl] at q
      refine ⟨_, (pss_cons (ps_expr (pe_callD (hj := by omega) D_law_tell hr (pa_cons (fv 0) (pa_cons (fv 4) (pa_cons (pe_non) pa_nil)))))
    (pss_cons (ps_set (i := 5) sc_law_call.nd rfl (Or.inl rfl) (pe_ix (ix_all hu) (fv 1) (fv 2) (fun _ _ => rfl)))
    (pss_cons (ps_set (i := 6) sc_law_call.nd rfl (Or.inl rfl) (pe_lst (pa_nil)))
    (pss_cons (ps_for PassesOwn.never rfl (pi_any (fv 3)) (pg_name (i := 7) sc_law_call.nd rfl (by first | exact Or.inl rfl | exact Or.inr rfl))
      (pss_one (ps_expr (m_append (fv 6) (pa_cons (pe_ifExp (pt_tru (pe_callB c_isinst rfl T.z_isinstance (by boot_by_name) (pa_cons (fv 7) (pa_cons (pe_bltn (v := .ty "str") rfl T.z_str (by boot_by_name) rfl) pa_nil))) (fun _ => rfl)) (pe_ix (ix_all hu) (pe_ix (ix_all hu) (fv 0) (pe_str) (fun _ _ => rfl)) (fv 7) (fun _ _ => rfl)) (fv 7)) pa_nil)))))
    (pss_cons (ps_set (i := 4) sc_law_call.nd rfl (Or.inl rfl) (pe_op o_add (pe_ix (ix_all hu) (fv 5) (pe_str) (fun _ _ => rfl)) (pe_int)))
    (pss_cons (ps_for PassesOwn.never rfl (pi_zip rfl T.z_zip (pa_cons (pe_ix (ix_all hu) (fv 5) (pe_str) (fun _ _ => rfl)) (pa_cons (fv 6) pa_nil))) (pg_tup rfl (pgs_cons (pg_name (i := 8) sc_law_call.nd rfl (by first | exact Or.inl rfl | exact Or.inr rfl)) (pgs_cons (pg_name (i := 9) sc_law_call.nd rfl (by first | exact Or.inl rfl | exact Or.inr rfl)) (pgs_nil))))
      (pss_cons (ps_asg (fv 9) (pg_sub (pe_ix (ix_all hu) (fv 0) (pe_str) (fun _ _ => rfl)) (fv 8) (st_all hu set_list)))
      (pss_cons (ps_expr (pe_callD (hj := by omega) D_law_tell hr (pa_cons (fv 0) (pa_cons (fv 4) (pa_cons (fv 9) pa_nil)))))
      (pss_one (ps_set (i := 4) sc_law_call.nd rfl (Or.inl rfl) (pe_op o_add (fv 4) (pe_int)))))))
    (pss_cons (ps_if (pt_cmpR (o_ne hu) (fv 6) (pe_lst (pa_nil)) (nomark _))
      (pss_cons (ps_set (i := 9) sc_law_call.nd rfl (Or.inl rfl) (pe_op o_mod (pe_op o_add (pe_ix (ix_all hu) (pe_ix (ix_all hu) (fv 0) (pe_str) (fun _ _ => rfl)) (pe_ix (ix_all hu) (fv 5) (pe_str) (fun _ _ => rfl)) (fun _ _ => rfl)) (pe_ix (ix_all hu) (fv 5) (pe_str) (fun _ _ => rfl))) (pe_op o_pow (pe_int) (pe_int))))
      (pss_cons (ps_asg (fv 9) (pg_sub (pe_ix (ix_all hu) (fv 0) (pe_str) (fun _ _ => rfl)) (pe_ix (ix_all hu) (fv 5) (pe_str) (fun _ _ => rfl)) (st_all hu set_list)))
      (pss_cons (ps_expr (pe_callD (hj := by omega) D_law_tell hr (pa_cons (fv 0) (pa_cons (fv 4) (pa_cons (pe_non) pa_nil)))))
      (pss_cons (ps_expr (pe_callD (hj := by omega) D_law_tell hr (pa_cons (fv 0) (pa_cons (pe_op o_add (fv 4) (pe_int)) (pa_cons (pe_op o_mod (pe_op o_mulA (fv 9) (pe_int)) (pe_op o_pow (pe_int) (pe_int))) pa_nil)))))
      (pss_one (ps_set (i := 4) sc_law_call.nd rfl (Or.inl rfl) (pe_op o_add (fv 4) (pe_int))))))))
      pss_nil)
    (pss_one (ps_if (pt_cmpR (o_isnot) (pe_ix (ix_all hu) (fv 5) (pe_str) (fun _ _ => rfl)) (pe_non) (nomark _))
      (pss_one (ps_expr (pe_callD (hj := by omega) D_law_call hr (pa_cons (fv 0) (pa_cons (fv 1) (pa_cons (pe_ix (ix_all hu) (fv 5) (pe_str) (fun _ _ => rfl)) (pa_cons (pe_ix (ix_all hu) (fv 5) (pe_str) (fun _ _ => rfl)) (pa_cons (fv 4) pa_nil))))))))
      pss_nil))))))))), ?_⟩
      refine seq_cut fun M1 K1 => ?_
      refine ⟨b, t, l, c, ix, s, n, .non, H0, rfl, s0, B, Fr, rm.le (by omega), Or.inl rfl, fun H1 s1 B1 => K1 _ _ ?_⟩
      have B1 : LawB N H1 b t l c ix (s.tell n .non) := B1
      have rm1 : (s.tell n .non).room (7 * (f + 1)) := room_tell rm _ _
      have ixl1 : ix.length ≤ (s.tell n .non).trace.length + 2 := Nat.le_trans ixl (by simp [S.tell] <;> omega)
      have nums : ts.map (Th.num s) = ts.map (Th.num (s.tell n .non)) := by rw [th_tell]
      rw [nums] at q
      generalize s.tell n .non = s1' at B1 rm1 ixl1 q
      refine seq_cut fun M2 K2 => ?_
      refine Or.inl ⟨_, _, Or.inl (SqL.of (s1 _ _ hD)), atI_nat hxd, K2 _ _ ?_⟩
      refine seq_cut fun M3 K3 => ?_
      refine ⟨Nat.zero_le _, fun SM hSM => ?_⟩
      have SM0 := Same.free s1 hSM
      have SMx : SM ∉ [b, t, l, c] := fun z => by
        obtain ⟨o, ho⟩ := B1.some_ SM z
        rw [ho] at hSM
        cases hSM
      have sm2 := Same.upd hSM (HO.lst [])
      have e2 : (upd H1 SM (HO.lst [])) SM = some (.lst []) := upd_same
      generalize upd H1 SM (HO.lst []) = H2 at sm2 e2 ⊢
      have B2 := B1.same sm2
      have s2 := s1.trans sm2
      refine K3 _ _ ?_
      refine seq_cut fun M4 K4 => ?_
      refine Or.inl ⟨⟨_, SqL.of (s2 _ _ htl)⟩, ?_⟩
      refine for_list (K := K) (xs := ts.map (Th.v N)) (fun i σ Hx => Same H0 Hx ∧ LawB N Hx b t l c ix s1' ∧ Hx SM = some (.lst (((ts.take i).map (Th.num s1')).map V.int)) ∧ ∃ v7, σ = [some (.ref b), some (.ref DL), some (.int (d : Int)), some (.ref tl), some (.int n), some (.ref a), some (.ref SM), v7, none, none]) ⟨s2, B2, e2, none, rfl⟩ (fun i σ Hx _ h => SqL.of (h.1 _ _ htl)) ?_ ?_
      · rintro i v σ Hx hv ⟨sx, Bx, ex, v7, rfl⟩
        rw [List.getElem?_map] at hv
        cases hti : ts[i]? with
        | none => rw [hti] at hv; cases hv
        | some th =>
          rw [hti] at hv
          cases hv
          have hto := tok th (List.mem_of_getElem? hti)
          have til : i < ts.length := (List.getElem?_eq_some_iff.mp hti).1
          have fin : ∀ v : V, v = .int (th.num s1') → Same H0 (upd Hx SM (.lst (((ts.take i).map (Th.num s1')).map V.int ++ [v]))) ∧ LawB N (upd Hx SM (.lst (((ts.take i).map (Th.num s1')).map V.int ++ [v]))) b t l c ix s1' ∧ (upd Hx SM (.lst (((ts.take i).map (Th.num s1')).map V.int ++ [v]))) SM = some (.lst (((ts.take (i + 1)).map (Th.num s1')).map V.int)) := fun v hv => by
            refine ⟨Same.out sx SM0 _, Bx.stay (Stay.at ex fun w e => by cases e) (fun x hx => upd_ne fun z => SMx (z ▸ hx)), ?_⟩
            rw [upd_same, hv, take_snoc hti, List.map_append, List.map_append]
            rfl
          have ln : (((ts.take i).map (Th.num s1')).map V.int).length < sizeLine := small1000 (by rw [List.length_map, List.length_map, List.length_take]; omega)
          refine ⟨Or.inl ⟨rfl, _, SqL.of ex⟩, ?_⟩
          cases th with
          | i m =>
            refine ⟨_, _, _, false, rfl, (fun z => by cases z), .int m, kit_is, false, rfl, iteF ?_⟩
            refine ⟨_, _, _, rfl, rfl, ex, ln, ?_⟩
            obtain ⟨g1, g2, g3⟩ := fin _ rfl
            exact ⟨g1, g2, g3, _, rfl⟩
          | x y =>
            refine ⟨_, _, _, true, rfl, (fun z => by cases z), .str _, kit_ss, true, rfl, iteT ⟨_, Bx.gc, _, Bx.cell D ixb hto, ?_⟩⟩
            refine ⟨_, _, _, rfl, rfl, ex, ln, ?_⟩
            obtain ⟨g1, g2, g3⟩ := fin _ rfl
            exact ⟨g1, g2, g3, _, rfl⟩
      rintro σ Hx ⟨sx, Bx, ex, v7, rfl⟩
      rw [List.length_map, List.take_length] at ex
      refine K4 _ _ ?_
      refine seq_cut fun M5 K5 => ?_
      refine ⟨_, (Da.same sx).at_, K5 _ _ ?_⟩
      refine seq_cut fun M6 K6 => ?_
      generalize hnm : ts.map (Th.num s1') = nm at ex q
      have nml : nm.length = e.parts.length := by rw [← hnm, List.length_map, hl]
      generalize hzp : e.parts.zip nm = zp at q
      have zl : zp.length = e.parts.length := by rw [← hzp, List.length_zip, nml, Nat.min_self]
      refine ⟨_, (Da.same sx).parts, _, _, rfl, ⟨_, SqL.of (sx _ _ Da.p)⟩, ⟨_, SqL.of ex⟩, ?_⟩
      refine for_zip (K := K) (xs := e.parts.map fun i => V.str (N i)) (ys := nm.map V.int) (fun i σ Hy => Same H0 Hy ∧ Hy SM = some (.lst (nm.map V.int)) ∧ (∃ ix', (∀ j ∈ ix, j ∈ ix') ∧ (∀ x ∈ e.parts.take i, x ∈ ix') ∧ (∀ j ∈ ix', j < 64) ∧ ix'.length ≤ (lawParts (e.at_ + 1) (zp.take i) s1').trace.length + 2 ∧ LawB N Hy b t l c ix' (lawParts (e.at_ + 1) (zp.take i) s1')) ∧ ∃ v8 v9, σ = [some (.ref b), some (.ref DL), some (.int (d : Int)), some (.ref tl), some (.int (e.at_ + 1 + (i : Int))), some (.ref a), some (.ref SM), v7, v8, v9]) ⟨sx, ex, ⟨ix, fun _ h => h, fun x hx => (by cases hx), ixb, ixl1, Bx⟩, none, none, by rw [show e.at_ + 1 + ((0 : Nat) : Int) = e.at_ + 1 by omega] <;> rfl⟩ (fun i σ Hy _ h => ⟨SqL.of (h.1 _ _ Da.p), SqL.of h.2.1⟩) (by rw [List.length_map, List.length_map, nml]) ?_ ?_
      · rintro i x y σ Hy tp hx hy ⟨sy, ey, ⟨ix', i1, i2, i3, i4, By⟩, v8, v9, rfl⟩ htp
        rw [List.getElem?_map] at hx hy
        cases hpi : e.parts[i]? with
        | none => rw [hpi] at hx; cases hx
        | some p =>
        cases hvi : nm[i]? with
        | none => rw [hvi] at hy; cases hy
        | some u =>
        rw [hpi] at hx
        rw [hvi] at hy
        cases hx
        cases hy
        have il : i < e.parts.length := (List.getElem?_eq_some_iff.mp hpi).1
        have zi : zp[i]? = some (p, u) := by
          rw [← hzp, List.getElem?_zip_eq_some]
          exact ⟨hpi, hvi⟩
        have p64 : p < 64 := by
          have := eo.mem (List.mem_of_getElem? hpi)
          omega
        have es' : lawParts (e.at_ + 1) (zp.take (i + 1)) s1' = ((lawParts (e.at_ + 1) (zp.take i) s1').put p u).send (e.at_ + 1 + (i : Int)) "quill" u := by
          rw [take_snoc zi, lawParts_snoc, List.length_take, Nat.min_eq_left (by omega)]
        have rmi : (lawParts (e.at_ + 1) (zp.take i) s1').room 1 := room_parts _ _ (rm1.le (by rw [List.length_take]; omega))
        rw [es']
        generalize lawParts (e.at_ + 1) (zp.take i) s1' = s3 at By i4 rmi ⊢
        have st := Same.upd htp (HO.tup [V.str (N p), .int u])
        have et : (upd Hy tp (HO.tup [V.str (N p), .int u])) tp = some (.tup [V.str (N p), .int u]) := upd_same
        generalize upd Hy tp (HO.tup [V.str (N p), .int u]) = Hz at st et ⊢
        have Bz := By.same st
        refine ⟨tp, _, rfl, SqT.of et, rfl, _, _, rfl, _, _, rfl, rfl, ?_⟩
        refine seq_cut fun A1 C1 => ?_
        refine ⟨_, Bz.gc, _, DPut.k (k := .inr (N p)) Bz.hc (Bz.clen i4 rmi), C1 _ _ ?_⟩
        obtain ⟨ix2, j1, j2, j3, j4, B4⟩ := Bz.put D i3 p64 u
        have e4 : (upd Hz c (HO.dK (putK (dk N ix' (iv s3.num)) (.inr (N p)) (.int u)))) SM = some (.lst (nm.map V.int)) := by
          rw [upd_ne (fun z => SMx (by rw [z]; simp))]
          exact st _ _ ey
        have s4 : Same H0 _ := Same.out (sy.trans st) Fr.c (HO.dK (putK (dk N ix' (iv s3.num)) (.inr (N p)) (.int u)))
        generalize upd Hz c (HO.dK (putK (dk N ix' (iv s3.num)) (.inr (N p)) (.int u))) = H4 at B4 e4 s4 ⊢
        refine seq_cut fun A2 C2 => ?_
        refine ⟨b, t, l, c, ix2, _, _, .int u, del [b, t, l, c] H4, rfl, del_same, B4, FreshB.del, room_put rmi _ _, Or.inr ⟨u, rfl⟩, fun H5 s5 B5 => C2 _ _ ?_⟩
        refine ⟨(Fr.sd s4).trans s5, s5 _ _ (del_some SMx e4), ⟨ix2, fun j hj => j1 j (i1 j hj), fun x hx => ?_, j3, ?_, B5⟩, some (.str (N p)), some (.int u), ?_⟩
        · rw [take_snoc hpi] at hx
          rcases List.mem_append.mp hx with h | h
          · exact j1 x (i2 x h)
          · rw [List.mem_singleton.mp h]
            exact j2
        · show ix2.length ≤ (s3.trace ++ [_]).length + 2
          rw [List.length_append]
          show ix2.length ≤ s3.trace.length + 1 + 2
          omega
        · rw [show e.at_ + 1 + ((i + 1 : Nat) : Int) = e.at_ + 1 + (i : Int) + 1 by push_cast; omega] <;> rfl
      rintro σ Hy ⟨sy, ey, ⟨ix', i1, i2, i3, i4, By⟩, v8, v9, rfl⟩
      rw [List.length_map] at i2 i4 By ⊢
      rw [List.take_length] at i2
      rw [List.take_of_length_le (by omega)] at i4 By
      have rm2 : (lawParts (e.at_ + 1) zp s1').room (2 + (1 + 7 * f)) := room_parts _ _ (rm1.le (by omega))
      have en : e.at_ + 1 + (e.parts.length : Int) = e.n1 := rfl
      rw [en]
      generalize lawParts (e.at_ + 1) zp s1' = s2' at By i4 rm2 q
      refine K6 _ _ ?_
      refine seq_cut fun M7 K7 => ?_
      have rest : ∀ (v9 : Option V) (Hx : Hp) (ix' : List Nat), Same H0 Hx → (∀ j ∈ ix, j ∈ ix') → (∀ x ∈ e.parts, x ∈ ix') → (∀ j ∈ ix', j < 64) → ix'.length ≤ (midS e s2').trace.length + 2 → LawB N Hx b t l c ix' (midS e s2') → M7 [some (.ref b), some (.ref DL), some (.int (d : Int)), some (.ref tl), some (.int e.n2), some (.ref a), some (.ref SM), v7, v8, v9] Hx := by
        intro v9 Hx ix' sx i1 i2 i3 i4 Bx
        refine K7 _ _ ?_
        have rm3 : (midS e s2').room (1 + 7 * f) := room_mid rm2
        have Dx := Da.same sx
        have hcv := Dx.call
        refine ⟨_, Dx.call, rfl, _, rfl, ite2 (fun bb => ?_) (fun bb => ?_)⟩
        · rw [callV_none] at bb
          cases hc : e.call with
          | none => rw [hc] at bb; cases bb
          | some ct =>
            obtain ⟨d', us⟩ := ct
            obtain ⟨cd, ⟨ec, hec, hcl⟩, uok⟩ := eo.c d' us hc
            obtain ⟨f1, rfl⟩ : ∃ f1, f = f1 + 1 := ⟨f - 1, by omega⟩
            have et : e.things = us := by unfold De.things; rw [hc]
            have ht := Da.t
            rw [et] at ht
            rw [hc] at hcv
            have elast : e.last = [.call e.n2 d' us] := by unfold De.last; rw [hc]
            rw [elast] at q
            refine ⟨_, hcv, _, Dx.things, ?_⟩
            refine ⟨b, t, l, c, DL, pt, xs, es, d', us, ec, e.n2, midS e s2', ix', H0, rfl, ok, h8, sx, Bx, i3, i4, Fr, hD, dA, hec, ht, hcl, fun u hu => ?_, ⟨i1 _ i12.1, i1 _ i12.2⟩, by omega, rm3, fun H' ix2 s' j1 j2 j3 B' => q H' ix2 s' (fun j hj => j1 j (i1 j hj)) j2 j3 B'⟩
            have := uok u hu
            cases u with
            | i m => exact this
            | x x =>
              rcases List.mem_append.mp this with h | h
              · exact i2 x h
              · simp only [List.mem_cons, List.not_mem_nil, or_false] at h
                rcases h with rfl | rfl
                · exact i1 _ i12.1
                · exact i1 _ i12.2
        · rw [callV_none] at bb
          have elast : e.last = [] := by
            unfold De.last
            cases hc : e.call with
            | none => rfl
            | some ct => rw [hc] at bb; exact absurd rfl bb
          rw [elast] at q
          exact q Hx ix' sx i1 i3 i4 Bx
      refine ⟨Nat.zero_le _, fun l0 hl0 => ?_⟩
      have s5 := Same.upd hl0 (HO.lst [])
      have e5 : (upd Hy l0 (HO.lst [])) l0 = some (.lst []) := upd_same
      generalize upd Hy l0 (HO.lst []) = H5 at s5 e5 ⊢
      have B5 := By.same s5
      have t5 := sy.trans s5
      have D5 := Da.same t5
      refine ⟨_, _, .lst (SqL.of (s5 _ _ ey)) (RepAll.ints _), .lst (SqL.of e5) .nil, shaped_ints _, rfl, _, rfl, ite2 (fun bb => ?_) (fun bb => ?_)⟩
      · rw [eqv_nilI] at bb
        have nn : nm ≠ [] := fun z => by rw [z] at bb; exact absurd bb (by decide)
        have hp : e.parts ≠ [] := fun z => nn (List.eq_nil_of_length_eq_zero (by rw [nml, z]; rfl))
        have sm := i2 _ (eo.s hp)
        have em : midS e s2' = (((s2'.put e.st (s2'.toldAt e)).tell e.n1 .non).send (e.n1 + 1) "quill" (s2'.toldAt e * 3 % (10 ^ (12 : Int).toNat))) := by
          unfold midS
          rw [if_neg hp]
        have e2' : e.n1 + 2 = e.n2 := by
          unfold De.n2
          rw [if_neg hp]
        rw [em, ← e2'] at rest
        refine seq_cut fun A1 C1 => ?_
        refine ⟨_, B5.gc, _, D5.set hp, _, B5.cell D i3 sm, _, D5.add, ⟨by decide, by decide, by decide⟩, (by show (0 : Int) < 10 ^ (12 : Int).toNat; decide), C1 _ _ ?_⟩
        refine seq_cut fun A2 C2 => ?_
        refine ⟨_, B5.gc, _, D5.set hp, _, DPut.k (k := .inr (N e.st)) B5.hc (B5.clen i4 (rm2.le (by omega))), C2 _ _ ?_⟩
        obtain ⟨ix2, j1, j2, j3, j4, B6⟩ := B5.put D i3 (i3 _ sm) ((s2'.num e.st + e.add) % (10 ^ (12 : Int).toNat))
        have s6 : Same H0 _ := Same.out t5 Fr.c (HO.dK (putK (dk N ix' (iv s2'.num)) (.inr (N e.st)) (.int ((s2'.num e.st + e.add) % (10 ^ (12 : Int).toNat)))))
        generalize upd H5 c (HO.dK (putK (dk N ix' (iv s2'.num)) (.inr (N e.st)) (.int ((s2'.num e.st + e.add) % (10 ^ (12 : Int).toNat))))) = H6 at B6 s6 ⊢
        refine seq_cut fun A3 C3 => ?_
        refine ⟨b, t, l, c, ix2, _, _, .non, H0, rfl, s6, B6, Fr, room_put (rm2.le (by omega)) _ _, Or.inl rfl, fun H7 s7 B7 => C3 _ _ ?_⟩
        refine seq_cut fun A4 C4 => ?_
        refine ⟨.inr ⟨by decide, by decide⟩, ⟨by decide, by decide, by decide⟩, (by show (0 : Int) < 10 ^ (12 : Int).toNat; decide), b, t, l, c, ix2, _, _, .int _, H0, rfl, s7, B7, Fr, room_tell (room_put (rm2.le (by omega)) _ _) _ _, Or.inr ⟨_, rfl⟩, fun H8 s8 B8 => C4 _ _ ?_⟩
        refine rest _ H8 ix2 s8 (fun j hj => j1 j (i1 j hj)) (fun x hx => j1 x (i2 x hx)) j3 ?_ B8
        show ix2.length ≤ ((s2'.trace ++ [_]) ++ [_]).length + 2
        rw [List.length_append, List.length_append]
        show ix2.length ≤ s2'.trace.length + 1 + 1 + 2
        omega
      · rw [eqv_nilI] at bb
        have nn : nm = [] := by
          cases hq : nm with
          | nil => rfl
          | cons x r => rw [hq] at bb; exact absurd rfl bb
        have hp : e.parts = [] := List.eq_nil_of_length_eq_zero (by rw [← nml, nn]; rfl)
        have em : midS e s2' = s2' := by
          unfold midS
          rw [if_pos hp]
        have e2' : e.n1 = e.n2 := by
          unfold De.n2
          rw [if_pos hp]
        rw [em, ← e2'] at rest
        exact rest _ H5 ix' t5 i1 i2 i3 i4 B5
end
end K26

set_option Elab.async false
set_option linter.all false
set_option maxRecDepth 100000
set_option maxHeartbeats 4000000
namespace K26
open PySem L2
section
variable {P : Program} {w : World} {K : PySem.W.Frag} {mg : Str → Option Value} {base : Heap} {A : Adr} {N : Nat → Str}
def callRows : Int → List (Nat × List Th) → List Rw
  | _, [] => []
  | n, c :: r => .call n c.1 c.2 :: callRows (n + 1) r
theorem callRows_snoc : ∀ (xs : List (Nat × List Th)) (n : Int) (c : Nat × List Th), callRows n (xs ++ [c]) = callRows n xs ++ [.call (n + xs.length) c.1 c.2]
  | [], n, c => by
    show [Rw.call n c.1 c.2] = [.call (n + ((0 : Nat) : Int)) c.1 c.2]
    rw [show n + ((0 : Nat) : Int) = n by omega]
  | y :: xs, n, c => by
    show Rw.call n y.1 y.2 :: callRows (n + 1) (xs ++ [c]) = Rw.call n y.1 y.2 :: (callRows (n + 1) xs ++ [.call (n + ((xs.length + 1 : Nat) : Int)) c.1 c.2])
    rw [callRows_snoc xs, show n + 1 + (xs.length : Int) = n + ((xs.length + 1 : Nat) : Int) by push_cast; omega]
theorem callRows_wf {es : List De} (ok : EsOk es) (h8 : es.length ≤ 8) : ∀ (cs : List (Nat × List Th)) (n : Int), (∀ c ∈ cs, CallOk es c) → ∀ r ∈ callRows n cs, Wf (dds es) 8 r
  | [], _, _, r, h => by cases h
  | c :: cs, n, hc, r, h => by
    rcases List.mem_cons.mp h with rfl | h
    · obtain ⟨⟨e, he, hl⟩, _⟩ := hc c List.mem_cons_self
      have := (List.getElem?_eq_some_iff.mp he).1
      exact wf_call ok 8 c.1 e n c.2 (by omega) he hl.symm
    · exact callRows_wf ok h8 cs (n + 1) (fun c' h' => hc c' (List.mem_cons_of_mem _ h')) r h
theorem callRows_cost {es : List De} (ok : EsOk es) : ∀ (cs : List (Nat × List Th)) (n : Int), (∀ c ∈ cs, CallOk es c) → ((callRows n cs).map (cost (dds es) 8)).sum ≤ 57 * cs.length
  | [], _, _ => Nat.zero_le _
  | c :: cs, n, hc => by
    obtain ⟨⟨e, he, hl⟩, _⟩ := hc c List.mem_cons_self
    have h1 := cost_call ok 8 c.1 e n c.2 he
    have h2 := callRows_cost ok cs (n + 1) fun c' h' => hc c' (List.mem_cons_of_mem _ h')
    show ((Rw.call n c.1 c.2 :: callRows (n + 1) cs).map (cost (dds es) 8)).sum ≤ _
    rw [List.map_cons, List.sum_cons, List.length_cons]
    omega
def flatW (w : List V) : Prop := w.length ≤ 1000 ∧ ∀ v ∈ w, flat v
structure Fl (s : S) : Prop where
  t : ∀ w ∈ s.trace, flatW w
  l : ∀ w ∈ s.letters, flatW w
theorem Fl.tell {s : S} (h : Fl s) (n : Int) {v : V} (hv : flat v) : Fl (s.tell n v) := ⟨fun w hw => by
  rcases List.mem_append.mp hw with q | q
  · exact h.t w q
  · rw [List.mem_singleton.mp q]
    refine ⟨by simp, fun u hu => ?_⟩
    simp only [List.mem_cons, List.not_mem_nil, or_false] at hu
    rcases hu with rfl | rfl | rfl
    · trivial
    · trivial
    · exact hv, h.l⟩
theorem Fl.send {s : S} (h : Fl s) (n : Int) (x : Str) (v : Int) : Fl (s.send n x v) := ⟨(h.tell n (v := .int v) trivial).t, fun w hw => by
  rcases List.mem_append.mp hw with q | q
  · exact h.l w q
  · rw [List.mem_singleton.mp q]
    refine ⟨by simp, fun u hu => ?_⟩
    simp only [List.mem_cons, List.not_mem_nil, or_false] at hu
    rcases hu with rfl | rfl | rfl | rfl <;> trivial⟩
theorem Fl.put {s : S} (h : Fl s) (x : Nat) (v : Int) : Fl (s.put x v) := ⟨h.t, h.l⟩
theorem Fl.puts : ∀ (ps : List (Nat × Int)) {s : S}, Fl s → Fl (s.puts ps)
  | [], _, h => h
  | p :: r, s, h => Fl.puts r (s := s.put p.1 p.2) (h.put _ _)
theorem fl_fold {ds : List Dd} {f : Nat} (one : ∀ (s : S) (r : Rw), Fl s → Fl (leaf ds f s r)) : ∀ (xs : List Rw) (s : S), Fl s → Fl (xs.foldl (leaf ds f) s)
  | [], _, h => h
  | r :: xs, s, h => fl_fold one xs _ (one s r h)
theorem fl_leaf (ds : List Dd) : ∀ (f : Nat) (s : S) (r : Rw), Fl s → Fl (leaf ds f s r)
  | f, s, .set n x v, h => by rw [leaf_set]; exact (h.tell n (v := .non) trivial).put _ _
  | f, s, .snd n x v, h => by rw [leaf_snd]; exact h.send _ _ _
  | 0, s, .call n d ts, h => h.tell n (v := .non) trivial
  | f + 1, s, .call n d ts, h => by
    unfold leaf
    cases e : ds[d]? with
    | none => exact h.tell n (v := .non) trivial
    | some D => exact fl_fold (fl_leaf ds f) D.body _ (Fl.puts _ (h.tell n (v := .non) trivial))
theorem parts_num1 : ∀ (ps : List (Nat × Int)) (n : Int) (s : S), (∀ p ∈ ps, p.1 ≠ 1) → (lawParts n ps s).num 1 = s.num 1
  | [], _, _, _ => rfl
  | p :: r, n, s, h => by
    show (lawParts (n + 1) r ((s.put p.1 p.2).send n "quill" p.2)).num 1 = s.num 1
    rw [parts_num1 r _ _ fun q hq => h q (List.mem_cons_of_mem _ hq)]
    exact if_neg (fun z => h p List.mem_cons_self z.symm)
theorem call_num1 {es : List De} (ok : EsOk es) : ∀ (f d : Nat) (e : De) (n : Int) (ts : List Th) (s : S), es[d]? = some e → e.parts.length = ts.length → (leaf (dds es) f s (.call n d ts)).num 1 = s.num 1
  | 0, _, _, _, _, _, _, _ => rfl
  | f + 1, d, e, n, ts, s, he, hl => by
    have eo := ok d e he
    rw [leaf_eq ok he hl]
    have h1 : (lawParts (e.at_ + 1) (e.parts.zip (ts.map (Th.num s))) (s.tell n .non)).num 1 = s.num 1 := by
      rw [parts_num1 _ _ _ fun p hp => ?_]
      · rfl
      · have := eo.mem (List.of_mem_zip hp).1
        omega
    have h2 : (midS e (lawParts (e.at_ + 1) (e.parts.zip (ts.map (Th.num s))) (s.tell n .non))).num 1 = s.num 1 := by
      rw [← h1]
      unfold midS
      split
      · rfl
      · rename_i hp
        have := eo.mem (eo.s hp)
        exact if_neg (by omega)
    unfold De.last
    split
    · exact h2
    · rename_i c us hc
      obtain ⟨_, ⟨e', h3, h4⟩, _⟩ := eo.c c us hc
      rw [List.foldl_cons, List.foldl_nil, call_num1 ok f c e' _ us _ h3 h4]
      exact h2
theorem rows_num1 {es : List De} (ok : EsOk es) : ∀ (cs : List (Nat × List Th)) (n : Int) (s : S), (∀ c ∈ cs, CallOk es c) → ((callRows n cs).foldl (leaf (dds es) 8) s).num 1 = s.num 1
  | [], _, _, _ => rfl
  | c :: cs, n, s, hc => by
    obtain ⟨⟨e, he, hl⟩, _⟩ := hc c List.mem_cons_self
    show ((callRows (n + 1) cs).foldl (leaf (dds es) 8) (leaf (dds es) 8 s (.call n c.1 c.2))).num 1 = s.num 1
    rw [rows_num1 ok cs _ _ fun c' h' => hc c' (List.mem_cons_of_mem _ h'), call_num1 ok 8 c.1 e n c.2 s he hl.symm]
theorem mem5 {b t l c r x : Addr} : x ∈ [b, t, l, c, r] ↔ x ∈ [b, t, l, c] ∨ x = r := by simp [or_assoc]
def sp_law (K : PySem.W.Frag) : Sp := fun vs H Q _ => ∃ (a : Addr) (ns : List Int), vs = [.ref a] ∧ SqL K H a (ns.map V.int) ∧ ns.length ≤ 63 ∧ ∀ H', Q (.bl true) H'
theorem part_in {es : List De} {d : Nat} {e : De} (he : es[d]? = some e) : ∀ x ∈ e.parts ++ [1, 2], x ∈ idxOf (dds es) := fun x hx => by
  rcases List.mem_append.mp hx with h | h
  · exact part_mem (dds_get he) h
  · exact List.mem_append_left _ h
end
end K26

set_option Elab.async false
set_option linter.all false
set_option maxRecDepth 100000
set_option maxHeartbeats 4000000
namespace K26
open PySem L2
section
variable {P : Program} {w : World} {K : PySem.W.Frag} {mg : Str → Option Value} {base : Heap} {A : Adr}
structure PEs (X : Cx) (e : Expr) (t : TE) : Prop where
  h : PE X e t
theorem pe_disp1s {X : Cx} {pos : Pos} {k1 v1 : Expr} {a1 b1 : TE} (h1 : PEs X k1 a1) (g1 : PEs X v1 b1) : PEs X (.Dict [some k1] [v1] pos) (tDisp [(a1, b1)]) := ⟨pe_disp (pps_cons h1.h g1.h pps_nil) rfl rfl (by intro z; cases z) (by simp)⟩
theorem pe_disp2s {X : Cx} {pos : Pos} {k1 v1 k2 v2 : Expr} {a1 b1 a2 b2 : TE} (h1 : PEs X k1 a1) (g1 : PEs X v1 b1) (h2 : PEs X k2 a2) (g2 : PEs X v2 b2) : PEs X (.Dict [some k1, some k2] [v1, v2] pos) (tDisp [(a1, b1), (a2, b2)]) := ⟨pe_disp (pps_cons h1.h g1.h (pps_cons h2.h g2.h pps_nil)) rfl rfl (by intro z; cases z) (by simp)⟩
theorem pe_disp4s {X : Cx} {pos : Pos} {k1 v1 k2 v2 k3 v3 k4 v4 : Expr} {a1 b1 a2 b2 a3 b3 a4 b4 : TE} (h1 : PEs X k1 a1) (g1 : PEs X v1 b1) (h2 : PEs X k2 a2) (g2 : PEs X v2 b2) (h3 : PEs X k3 a3) (g3 : PEs X v3 b3) (h4 : PEs X k4 a4) (g4 : PEs X v4 b4) : PEs X (.Dict [some k1, some k2, some k3, some k4] [v1, v2, v3, v4] pos) (tDisp [(a1, b1), (a2, b2), (a3, b3), (a4, b4)]) := ⟨pe_disp (pps_cons h1.h g1.h (pps_cons h2.h g2.h (pps_cons h3.h g3.h (pps_cons h4.h g4.h pps_nil)))) rfl rfl (by intro z; cases z) (by simp)⟩
structure PSt (X : Cx) (s : Stmt) (t : TS) : Prop where
  h : PS X s t
theorem ps_setT {X : Cx} {i : Nat} {x : Str} {e : Expr} {te : TE} {pos pos' : Pos} (hN : X.N.Nodup) (hi : X.N[i]? = some x) (hx : Loc X.env.scope x) (he : PEs X e te) (hs : swapsWith e (some (.Name x pos')) pos.line X.env = pure false := by rfl) (hf : X.fn x = true ∨ X.env.scope.names.lookup x = some .local := by first | exact .inl rfl | exact .inr rfl | assumption) :
    PSt X (.Assign [.Name x pos'] e pos) (tAsg te (gName i)) := ⟨ps_set hN hi hx he.h hs hf⟩
theorem pss_consT {X : Cx} {s1 s2 : Stmt} {r : List Stmt} {t1 t2 u : TS} (h1 : PS X s1 t1) (h2 : PSt X s2 t2) (hr : PSs X r u) : PSs X (s1 :: s2 :: r) (tSeq t1 (tSeq t2 u)) := pss_cons h1 (pss_cons h2.h hr)
theorem h_law (T : Txt K mg A) (F : TopFn K mg "law" s_law ["_law_script"]) : Has P w K mg base 40 "law" ["_law_script"] (sp_law K) := by
  have D_law_cell_at := h_cell (P := P) (w := w) (base := base) T
  have D_law_name := h_name (P := P) (w := w) (base := base) T
  have D_run := h_run (P := P) (w := w) (base := base) T 8
  have D_law_same := h_same (P := P) (w := w) (base := base) T 3
  have D_Program_init := h_Program_init (P := P) (w := w) (base := base) T
  have D_SetRow_init := h_SetRow_init (P := P) (w := w) (base := base) T
  have D_CallRow_init := h_CallRow_init (P := P) (w := w) (base := base) T
  have D_HandRow_init := h_HandRow_init (P := P) (w := w) (base := base) T
  have D_OwnRow_init := h_OwnRow_init (P := P) (w := w) (base := base) T
  have D_GivenRow_init := h_GivenRow_init (P := P) (w := w) (base := base) T
  refine F.has (k := 39) sc_law (fun vs H Q E h => ?_) (fun f cdv A' outer s' H vs Q E hr hu h => ?_)
  · obtain ⟨a, ns, rfl, _⟩ := h
    rfl
  · obtain ⟨a, ns, rfl, hS, hlen, q⟩ := h
    obtain ⟨N, hNd⟩ : ∃ N, N = NM (cellAt ns 0) := ⟨_, rfl⟩
    have Di : Dist N := hNd ▸ NM_dist _
    have Nok : ∀ i, PyData.strOk (N i) = true := fun i => hNd ▸ nm_ok _ _
    have D_law_deeds := h_deeds (P := P) (w := w) (base := base) (N := N) T
    have D_law_calls := h_calls (P := P) (w := w) (base := base) (N := N) T
    have D_law_made := h_made (P := P) (w := w) (base := base) (N := N) T
    have D_law_tell := h_tell (P := P) (w := w) (base := base) (N := N) T
    have D_law_call := h_lcall (P := P) (w := w) (base := base) T Di 8
    refine ⟨_, (pss_cons (ps_set (i := 1) sc_law.nd rfl (Or.inl rfl) (pe_op o_add (pe_lst (pa_cons (pe_str) pa_nil)) (pe_comp (N := ["_law_k", "_law_script"]) (own := 1) (fr := [0]) (CompOk.of (by kernel_rfl!)) rfl (pi_range1 rfl T.z_range (pa_cons (pe_int) pa_nil)) (fun b => pg_name (i := 0) (show List.Nodup (["_law_k", "_law_script"] : List PySem.Str) by decide +kernel) rfl (by first | exact Or.inl rfl | exact Or.inr rfl)) (fun b => pf_nil) (fun b => pe_callD D_law_name hr (pa_cons (pe_callD D_law_cell_at hr (pa_cons (fv 1) (pa_cons (pe_int) pa_nil))) (pa_cons (fv 0) pa_nil))))))
    (pss_cons (ps_asg (pe_callD D_law_deeds hr (pa_cons (fv 0) (pa_cons (fv 1) pa_nil))) (pg_tup rfl (pgs_cons (pg_name (i := 2) sc_law.nd rfl (by first | exact Or.inl rfl | exact Or.inr rfl)) (pgs_cons (pg_name (i := 3) sc_law.nd rfl (by first | exact Or.inl rfl | exact Or.inr rfl)) (pgs_nil)))))
    (pss_cons (ps_set (i := 4) sc_law.nd rfl (Or.inl rfl) (pe_op o_mod (pe_callD D_law_cell_at hr (pa_cons (fv 0) (pa_cons (pe_int) pa_nil))) (pe_op o_pow (pe_int) (pe_int))))
    (pss_cons (ps_set (i := 5) sc_law.nd rfl (Or.inl rfl) (pe_op o_mod (pe_op o_mulA (pe_op o_fdiv (pe_callD D_law_cell_at hr (pa_cons (fv 0) (pa_cons (pe_int) pa_nil))) (pe_int)) (pe_int)) (pe_op o_pow (pe_int) (pe_int))))
    (pss_consT (ps_set (i := 6) sc_law.nd rfl (Or.inl rfl) (pe_lst (pa_cons (pe_makeD T.o_SetRow D_SetRow_init hr (pa_cons (fv 3) (pa_cons (pe_ix (ix_all hu) (fv 1) (pe_int) (fun _ _ => rfl)) (pa_cons (pe_tup (pa_cons (fv 4) pa_nil)) pa_nil)))) pa_nil)))
    (ps_setT (i := 7) sc_law.nd rfl (Or.inl rfl) (pe_disp4s ⟨pe_str⟩ ⟨pe_int⟩ ⟨pe_str⟩ ⟨pe_lst pa_nil⟩ ⟨pe_str⟩ ⟨pe_lst pa_nil⟩ ⟨pe_str⟩ (pe_disp2s ⟨pe_ix (ix_all hu) (fv 1) (pe_int) (fun _ _ => rfl)⟩ ⟨fv 4⟩ ⟨pe_ix (ix_all hu) (fv 1) (pe_int) (fun _ _ => rfl)⟩ ⟨fv 5⟩)))
    (pss_cons (ps_expr (pe_callD D_law_tell hr (pa_cons (fv 7) (pa_cons (fv 3) (pa_cons (pe_non) pa_nil)))))
    (pss_cons (ps_for PassesOwn.never rfl (pi_any (pe_callD D_law_calls hr (pa_cons (fv 0) (pa_cons (fv 1) (pa_cons (fv 2) pa_nil))))) (pg_tup rfl (pgs_cons (pg_name (i := 8) sc_law.nd rfl (by first | exact Or.inl rfl | exact Or.inr rfl)) (pgs_cons (pg_name (i := 9) sc_law.nd rfl (by first | exact Or.inl rfl | exact Or.inr rfl)) (pgs_nil))))
      (pss_cons (ps_set (i := 3) sc_law.nd rfl (Or.inl rfl) (pe_op o_add (fv 3) (pe_int)))
      (pss_cons (ps_expr (m_append (fv 6) (pa_cons (pe_makeD T.o_CallRow D_CallRow_init hr (pa_cons (fv 3) (pa_cons (pe_ix (ix_all hu) (pe_ix (ix_all hu) (fv 2) (fv 8) (fun _ _ => rfl)) (pe_str) (fun _ _ => rfl)) (pa_cons (fv 9) pa_nil)))) pa_nil)))
      (pss_one (ps_expr (pe_callD D_law_call hr (pa_cons (fv 7) (pa_cons (fv 2) (pa_cons (fv 8) (pa_cons (fv 9) (pa_cons (fv 3) pa_nil)))))))))))
    (pss_cons (ps_set (i := 10) sc_law.nd rfl (Or.inl rfl) (pe_lst (pa_cons (pe_makeD T.o_HandRow D_HandRow_init hr (pa_cons (pe_int) (pa_cons (pe_str) (pa_cons (pe_int) pa_nil)))) (pa_cons (pe_makeD T.o_OwnRow D_OwnRow_init hr (pa_cons (pe_int) (pa_cons (pe_ix (ix_all hu) (fv 1) (pe_int) (fun _ _ => rfl)) (pa_cons (pe_int) pa_nil)))) (pa_cons (pe_makeD T.o_GivenRow D_GivenRow_init hr (pa_cons (pe_int) (pa_cons (pe_ix (ix_all hu) (fv 1) (pe_int) (fun _ _ => rfl)) (pa_cons (pe_int) (pa_cons (pe_int) pa_nil))))) pa_nil)))))
    (pss_cons (ps_set (i := 11) sc_law.nd rfl (Or.inl rfl) (pe_makeD T.o_Program D_Program_init hr (pa_cons (fv 10) (pa_cons (pe_comp (N := ["_law_deed_here", "_law_deeds_here"]) (own := 1) (fr := [2]) (CompOk.of (by kernel_rfl!)) rfl (pi_any (fv 2)) (fun b => pg_name (i := 0) (show List.Nodup (["_law_deed_here", "_law_deeds_here"] : List PySem.Str) by decide +kernel) rfl (by first | exact Or.inl rfl | exact Or.inr rfl)) (fun b => pf_nil) (fun b => pe_callD D_law_made hr (pa_cons (fv 0) (pa_cons (fv 1) pa_nil)))) (pa_cons (fv 6) pa_nil)))))
    (pss_cons (ps_set (i := 12) sc_law.nd rfl (Or.inl rfl) (pe_callD D_run hr (pa_cons (fv 11) (pa_cons (PEs.h (pe_disp1s ⟨pe_ix (ix_all hu) (fv 1) (pe_int) (fun _ _ => rfl)⟩ ⟨fv 5⟩)) pa_nil))))
    (pss_cons (ps_if (PW.pt (pw_or (pt_not (pt_tru (pe_callD D_law_same hr (pa_cons (pe_fld (fv 12) rfl) (pa_cons (pe_ix (ix_all hu) (fv 7) (pe_str) (fun _ _ => rfl)) pa_nil))) (fun _ => rfl))) (pw_or1 (pt_not (pt_tru (pe_callD D_law_same hr (pa_cons (pe_fld (fv 12) rfl) (pa_cons (pe_ix (ix_all hu) (fv 7) (pe_str) (fun _ _ => rfl)) pa_nil))) (fun _ => rfl))))))
      (pss_one (ps_ret (pe_bl)))
      pss_nil)
    (pss_cons (ps_if (PW.pt (pw_or (pt_not (pt_tru (pe_callB c_isinst rfl T.z_isinstance (by boot_by_name) (pa_cons (pe_fld (fv 12) rfl) (pa_cons (pe_bltn (v := .ty "dict") rfl T.z_dict (by boot_by_name) rfl) pa_nil))) (fun _ => rfl))) (pw_or (pt_cmpR (o_ne hu) (pe_callB c_lenA rfl T.z_len (by boot_by_name) (pa_cons (pe_fld (fv 12) rfl) pa_nil)) (pe_int) (nomark _)) (pw_or1 (pt_cmpR (o_notinA hu) (pe_ix (ix_all hu) (fv 1) (pe_int) (fun _ _ => rfl)) (pe_fld (fv 12) rfl) ((by with_unfolding_all rfl)))))))
      (pss_one (ps_ret (pe_bl)))
      pss_nil)
    (pss_one (ps_ret (pe_and (pe_callD D_law_same hr (pa_cons (pe_fld (fv 12) rfl) (pa_cons (pe_ix (ix_all hu) (fv 7) (pe_str) (fun _ _ => rfl)) pa_nil))) (pe_one (pe_callD D_law_same hr (pa_cons (pe_ix (ix_all hu) (pe_fld (fv 12) rfl) (pe_ix (ix_all hu) (fv 1) (pe_int) (fun _ _ => rfl)) (fun _ _ => rfl)) (pa_cons (fv 4) pa_nil))))))))))))))))))), ?_⟩
    refine seq_cut fun M1 K1 => ?_
    refine ⟨(show 1 ≤ sizeLine by decide), fun l1 hl1 => ?_⟩
    have s1 := Same.upd hl1 (HO.lst [V.str "quill"])
    have e1 : (upd H l1 (HO.lst [V.str "quill"])) l1 = some (.lst [V.str "quill"]) := upd_same
    generalize upd H l1 (HO.lst [V.str "quill"]) = H1 at s1 e1 ⊢
    refine ⟨42, rfl, by decide, by decide, comp_range (lo := 0) (n := 42) (fun _ => true) (fun i => .str (N (i + 1))) (by decide) (fun b i H2 R _ _ k => k _ (Same.refl _)) (fun b i H2 R hi _ s2 k => ?_) (fun l2 H2 hl2 s2 e2 => ?_)⟩
    · refine ⟨a, ns, 0, rfl, (s1.trans s2).seq hS, by decide, ?_⟩
      refine ⟨cellAt ns 0, i, by show [V.int (cellAt ns 0), V.int (0 + (i : Int))] = _; rw [Int.zero_add], by omega, ?_⟩
      have := k _ (Same.refl _)
      rw [hNd, NM_succ _ (by omega)] at this
      exact this
    rw [filter_true] at e2
    refine ⟨l1, l2, _, _, rfl, rfl, s2 _ _ e1, e2, sz (by rw [List.length_map, List.length_range]; decide), fun nl hnl => ?_⟩
    have s3 := (s1.trans s2).trans (Same.upd hnl (HO.lst (nmL N)))
    have hN3 : (upd H2 nl (HO.lst (nmL N))) nl = some (.lst (nmL N)) := upd_same
    refine K1 _ _ ?_
    show tSeq _ _ _ _ (upd H2 nl (HO.lst (nmL N)))
    generalize upd H2 nl (HO.lst (nmL N)) = H3 at s3 hN3 ⊢
    refine seq_cut fun M2 K2 => ?_
    refine ⟨a, nl, ns, rfl, s3.seq hS, hN3, Nok, fun tp DL xs es n H4 s4 htp hD dA ok e0 e8 => ?_⟩
    refine ⟨tp, _, rfl, SqT.of htp, rfl, _, _, rfl, _, _, rfl, rfl, K2 _ _ ?_⟩
    have t4 := s3.trans s4
    have hN4 := s4 _ _ hN3
    refine seq_cut fun M3 K3 => ?_
    refine ⟨a, ns, 2, rfl, t4.seq hS, by decide, ⟨by decide, by decide, by decide⟩, (by show (0 : Int) < 10 ^ (12 : Int).toNat; decide), K3 _ _ ?_⟩
    have io : In (cellAt ns 2 % 10 ^ (12 : Int).toNat) := mod_in _ (by decide)
    dsimp only
    generalize cellAt ns 2 % 10 ^ (12 : Int).toNat = ow at io ⊢
    refine seq_cut fun M4 K4 => ?_
    refine ⟨a, ns, 2, rfl, t4.seq hS, by decide, ⟨by decide, by decide⟩, .inr ⟨by decide, by decide⟩, ⟨by decide, by decide, by decide⟩, (by show (0 : Int) < 10 ^ (12 : Int).toNat; decide), K4 _ _ ?_⟩
    have ig : In (cellAt ns 2 / 3 * 48271 % 10 ^ (12 : Int).toNat) := mod_in _ (by decide)
    dsimp only
    generalize cellAt ns 2 / 3 * 48271 % 10 ^ (12 : Int).toNat = gv at ig ⊢
    refine seq_cut fun M5 K5 => ?_
    refine Or.inl ⟨_, _, Or.inl (SqL.of hN4), nml_at (i := 1) (by decide) (by decide), ?_⟩
    refine ⟨(show 1 ≤ sizeLine by decide), fun p5 hp5 => ?_⟩
    have s5 := Same.upd hp5 (HO.tup [V.int ow])
    have e5 : (upd H4 p5 (HO.tup [V.int ow])) p5 = some (.tup [V.int ow]) := upd_same
    generalize upd H4 p5 (HO.tup [V.int ow]) = H5 at s5 e5 ⊢
    refine fun r6 dx6 hr6 hd_ hne_ => mk_SetRow hr6 hd_ fun H6 s6 hx6 => ⟨rfl, ?_⟩
    refine ⟨(show 1 ≤ sizeLine by decide), fun RL hRL => ?_⟩
    have e6 := s6 _ _ e5
    have s7 := Same.upd hRL (HO.lst [V.ref r6])
    have hR7 : (upd H6 RL (HO.lst [V.ref r6])) RL = some (.lst [V.ref r6]) := upd_same
    generalize upd H6 RL (HO.lst [V.ref r6]) = H7 at s7 hR7 ⊢
    have s46 := s5.trans s6
    refine K5 _ _ ?_
    refine seq_cut fun M6 K6 => ?_
    refine fun b hb => ?_
    have s8 := Same.upd hb (HO.dK [])
    have eb8 : (upd H7 b (HO.dK [])) b = some (.dK []) := upd_same
    generalize upd H7 b (HO.dK []) = H8 at s8 eb8 ⊢
    refine ⟨Nat.zero_le _, fun t ht => ?_⟩
    have s9 := Same.upd ht (HO.lst [])
    have et9 : (upd H8 t (HO.lst [])) t = some (.lst []) := upd_same
    generalize upd H8 t (HO.lst []) = H9 at s9 et9 ⊢
    refine ⟨Nat.zero_le _, fun l hl => ?_⟩
    have tl : t ≠ l := fun z => by rw [← z, et9] at hl; cases hl
    have s10 := Same.upd hl (HO.lst [])
    have el10 : (upd H9 l (HO.lst [])) l = some (.lst []) := upd_same
    generalize upd H9 l (HO.lst []) = H10 at s10 el10 ⊢
    refine fun c hc => ?_
    have bc : b ≠ c := fun z => by rw [← z, s10 _ _ (s9 _ _ eb8)] at hc; cases hc
    have s11 := Same.upd hc (HO.dK [])
    have ec11 : (upd H10 c (HO.dK [])) c = some (.dK []) := upd_same
    generalize upd H10 c (HO.dK []) = H11 at s11 ec11 ⊢
    have s711 := ((s8.trans s9).trans s10).trans s11
    have s411 := (s46.trans s7).trans s711
    refine Or.inl ⟨_, _, Or.inl (SqL.of (s411 _ _ hN4)), nml_at (i := 1) (by decide) (by decide), ?_⟩
    refine Or.inl ⟨_, _, Or.inl (SqL.of (s411 _ _ hN4)), nml_at (i := 2) (by decide) (by decide), ?_⟩
    refine ⟨ec11, dk N [1, 2] (iv ((S.new gv).put 1 ow).num), rfl, (show 2 ≤ 15 by decide), ?_⟩
    rw [show mergeK [] (dk N [1, 2] (iv ((S.new gv).put 1 ow).num)) = dk N [1, 2] (iv ((S.new gv).put 1 ow).num) from dk_merge Di [1, 2] [] (lt64 (by decide)) (by decide)]
    have c10 : H10 c = none := hc
    have bb : (upd H11 c (HO.dK (dk N [1, 2] (iv ((S.new gv).put 1 ow).num)))) b = some (.dK []) := by rw [upd_ne bc]; exact s11 _ _ (s10 _ _ (s9 _ _ eb8))
    refine ⟨bb, lbK ((S.new gv).put 1 ow) t l c, rfl, (show 4 ≤ 15 by decide), ?_⟩
    rw [show mergeK [] (lbK ((S.new gv).put 1 ow) t l c) = lbK ((S.new gv).put 1 ow) t l c from rfl]
    have ct : c ≠ t := fun z => by rw [z, s10 _ _ et9] at hc; cases hc
    have cl : c ≠ l := fun z => by rw [z, el10] at hc; cases hc
    have bt : b ≠ t := fun z => by rw [← z, eb8] at ht; cases ht
    have bl : b ≠ l := fun z => by rw [← z, s9 _ _ eb8] at hl; cases hl
    have B12 : LawB N (upd (upd H11 c (HO.dK (dk N [1, 2] (iv ((S.new gv).put 1 ow).num)))) b (HO.dK (lbK ((S.new gv).put 1 ow) t l c))) b t l c [1, 2] ((S.new gv).put 1 ow) := by
      refine ⟨upd_same, ⟨[], ?_, .nil⟩, ⟨[], ?_, .nil⟩, ?_, tl, bc⟩
      · rw [upd_ne (Ne.symm bt), upd_ne (Ne.symm ct)]; exact s11 _ _ (s10 _ _ et9)
      · rw [upd_ne (Ne.symm bl), upd_ne (Ne.symm cl)]; exact s11 _ _ el10
      · rw [upd_ne (Ne.symm bc)]; exact upd_same
    have b7 : H7 b = none := hb
    have t7 : H7 t = none := Same.free s8 ht
    have l7 : H7 l = none := Same.free (s8.trans s9) hl
    have c7 : H7 c = none := Same.free ((s8.trans s9).trans s10) hc
    have s12 : Same H7 (upd (upd H11 c (HO.dK (dk N [1, 2] (iv ((S.new gv).put 1 ow).num)))) b (HO.dK (lbK ((S.new gv).put 1 ow) t l c))) := Same.out (Same.out s711 c7 _) b7 _
    generalize upd (upd H11 c (HO.dK (dk N [1, 2] (iv ((S.new gv).put 1 ow).num)))) b (HO.dK (lbK ((S.new gv).put 1 ow) t l c)) = H12 at B12 s12 ⊢
    refine K6 _ _ ?_
    refine seq_cut fun M7 K7 => ?_
    have rm0 : ((S.new gv).put 1 ow).room 1000 := ⟨by show 0 + 1000 ≤ 1000; decide, by show 0 + 1000 ≤ 1000; decide⟩
    refine ⟨b, t, l, c, [1, 2], (S.new gv).put 1 ow, n, .non, H7, rfl, s12, B12, ⟨b7, t7, l7, c7⟩, rm0.le (by decide), Or.inl rfl, fun H13 s13 B13 => K7 _ _ ?_⟩
    have B13 : LawB N H13 b t l c [1, 2] (((S.new gv).put 1 ow).tell n .non) := B13
    have s47 := s46.trans s7
    have s413 := s47.trans s13
    have RL6 : H6 RL = none := hRL
    have hR13 := s13 _ _ hR7
    have X6 : ∀ x ∈ [b, t, l, c, RL], H6 x = none := fun x hx => by
      simp only [List.mem_cons, List.not_mem_nil, or_false] at hx
      rcases hx with rfl | rfl | rfl | rfl | rfl
      · exact Same.free s7 b7
      · exact Same.free s7 t7
      · exact Same.free s7 l7
      · exact Same.free s7 c7
      · exact RL6
    have X13 : ∀ {x : Addr}, H13 x = none → x ∉ [b, t, l, c, RL] := fun {x} h hx => by
      have hx' := mem5.mp hx
      rcases hx' with hx | rfl
      · obtain ⟨o, ho⟩ := B13.some_ x hx
        rw [ho] at h
        cases h
      · rw [hR13] at h
        cases h
    have RX4 : RL ∉ [b, t, l, c] := fun z => by
      have := s12 _ _ hR7
      simp only [List.mem_cons, List.not_mem_nil, or_false] at z
      rcases z with z | z | z | z
      · rw [← z, hR7] at b7; cases b7
      · rw [← z, hR7] at t7; cases t7
      · rw [← z, hR7] at l7; cases l7
      · rw [← z, hR7] at c7; cases c7
    refine seq_cut fun M8 K8 => ?_
    refine ⟨a, nl, DL, ns, xs, es, rfl, (t4.trans s413).seq hS, s413 _ _ hN4, s413 _ _ hD, dA.same s413, ok, e0, e8, fun CL ys cs H14 s14 hCL eCL pr yl co => ?_⟩
    refine Or.inl ⟨⟨_, SqL.of eCL⟩, ?_⟩
    have sG6 : Same H6 (del [b, t, l, c, RL] H14) := Same.del ((s7.trans s13).trans s14) X6
    have GX : ∀ x ∈ [b, t, l, c, RL], del [b, t, l, c, RL] H14 x = none := fun x hx => del_none hx
    have GCL : del [b, t, l, c, RL] H14 CL = some (.lst ys) := del_some (X13 hCL) eCL
    have Gpr : PySem.Paired (CallAt N H13 (del [b, t, l, c, RL] H14)) ys cs := Paired.mapP pr fun v c' ⟨tp, tl, h1, h2, h3, h4, h5⟩ => ⟨tp, tl, h1, h2, h3, del_some (X13 h2) h4, del_some (X13 h3) h5⟩
    have sG : Same (del [b, t, l, c, RL] H14) H14 := del_same
    generalize del [b, t, l, c, RL] H14 = G at sG6 GX GCL Gpr sG
    have sG4 := s46.trans sG6
    have hNG := sG4 _ _ hN4
    have hDG := sG4 _ _ hD
    have dAG := dA.same sG4
    have SG := (t4.trans sG4).seq hS
    have i1 : 1 ∈ idxOf (dds es) := List.mem_append_left _ (by decide)
    have R0 : RowAt A N (idxOf (dds es)) G (.ref r6) (.set n 1 (.one (.i ow))) := ⟨io, i1, r6, dx6, p5, rfl, sG6 _ _ hx6, sG6 _ _ e6⟩
    have csl : cs.length ≤ 12 := by rw [← Paired.length pr]; exact yl
    have st0 : rowsBy (dds es) 8 (S.new gv) (.set n 1 (.one (.i ow)) :: callRows (n + 1) (cs.take 0)) = ((S.new gv).put 1 ow).tell n .non := by
      show leaf (dds es) 8 (S.new gv) (.set n 1 (.one (.i ow))) = _
      rw [leaf_set]
      rfl
    have fl0 : Fl (((S.new gv).put 1 ow).tell n .non) := Fl.tell ⟨fun w hw => (by cases hw), fun w hw => by cases hw⟩ n (v := .non) trivial
    refine for_list (K := K) (xs := ys) (fun i σ Hx => (∃ (H0 : Hp) (rs : List V) (ix : List Nat), Same G H0 ∧ Same H0 Hx ∧ (∀ x ∈ [b, t, l, c, RL], H0 x = none) ∧ Hx RL = some (.lst rs) ∧ PySem.Paired (RowAt A N (idxOf (dds es)) H0) rs (.set n 1 (.one (.i ow)) :: callRows (n + 1) (cs.take i)) ∧
      LawB N Hx b t l c ix (rowsBy (dds es) 8 (S.new gv) (.set n 1 (.one (.i ow)) :: callRows (n + 1) (cs.take i))) ∧ (∀ j ∈ ix, j < 64) ∧ ix.length ≤ (rowsBy (dds es) 8 (S.new gv) (.set n 1 (.one (.i ow)) :: callRows (n + 1) (cs.take i))).trace.length + 2 ∧ (1 ∈ ix ∧ 2 ∈ ix) ∧ (rowsBy (dds es) 8 (S.new gv) (.set n 1 (.one (.i ow)) :: callRows (n + 1) (cs.take i))).room (57 * (12 - i)) ∧ Fl (rowsBy (dds es) 8 (S.new gv) (.set n 1 (.one (.i ow)) :: callRows (n + 1) (cs.take i))) ∧ rs.length = 1 + i) ∧
      ∃ v8 v9, σ = [some (.ref a), some (.ref nl), some (.ref DL), some (.int (n + (i : Int))), some (.int ow), some (.int gv), some (.ref RL), some (.ref b), v8, v9, none, none, none])
      ⟨⟨G, [.ref r6], [1, 2], Same.refl _, sG, GX, s14 _ _ hR13, .cons R0 .nil, by rw [st0]; exact B13.same s14, lt64 (by decide), by rw [st0]; show 2 ≤ _; omega, ⟨by decide, by decide⟩, by rw [st0]; exact room_tell (rm0.le (by decide)) _ _, by rw [st0]; exact fl0, rfl⟩, none, none, by rw [show n + ((0 : Nat) : Int) = n by omega] <;> rfl⟩ (fun i σ Hx _ h => by obtain ⟨⟨H0, rs, ix, g0, s0, _⟩, _⟩ := h; exact SqL.of (s0 _ _ (g0 _ _ GCL))) ?_ ?_
    · rintro i v σ Hx hv ⟨⟨H0, rs, ix, g0, s0, x0, hR, rp, B, ixb, ixl, i12, rm, fl, rsl⟩, v8, v9, rfl⟩
      obtain ⟨⟨d, ts⟩, hci, tp, tl, rfl, tp0, tl0, htp, htl⟩ := paired_get Gpr hv
      have il : i < cs.length := (List.getElem?_eq_some_iff.mp hci).1
      obtain ⟨⟨e, he, hl⟩, tok⟩ := co _ (List.mem_of_getElem? hci)
      have he : es[d]? = some e := he
      have hl : ts.length = e.parts.length := hl
      have d8 : d < 8 := by have := (List.getElem?_eq_some_iff.mp he).1; omega
      have l4 := (ok d e he).len
      have erow : (.set n 1 (.one (.i ow)) :: callRows (n + 1) (cs.take (i + 1)) : List Rw) = (.set n 1 (.one (.i ow)) :: callRows (n + 1) (cs.take i)) ++ [.call (n + 1 + (i : Int)) d ts] := by
        rw [take_snoc hci, callRows_snoc, List.length_take, Nat.min_eq_left (Nat.le_of_lt il)]
        rfl
      have est : ∀ rws : List Rw, rowsBy (dds es) 8 (S.new gv) (rws ++ [.call (n + 1 + (i : Int)) d ts]) = leaf (dds es) 8 (rowsBy (dds es) 8 (S.new gv) rws) (.call (n + 1 + (i : Int)) d ts) := fun rws => by
        unfold rowsBy
        rw [List.foldl_append]
        rfl
      rw [erow, est]
      generalize (.set n 1 (.one (.i ow)) :: callRows (n + 1) (cs.take i) : List Rw) = rws at rp B ixl rm fl ⊢
      generalize rowsBy (dds es) 8 (S.new gv) rws = k at B ixl rm fl ⊢
      have sx := g0.trans s0
      refine ⟨tp, _, rfl, SqT.of (sx _ _ htp), rfl, _, _, rfl, _, _, rfl, rfl, ?_⟩
      refine seq_cut fun A1 C1 => ?_
      refine C1 _ _ ?_
      refine seq_cut fun A2 C2 => ?_
      obtain ⟨ga, gpp, gpt, hxd, Dd'⟩ := (dAG.same sx).get he
      refine ⟨Or.inl ⟨rfl, _, SqL.of hR⟩, Or.inl ⟨_, _, Or.inl (SqL.of (sx _ _ hDG)), atI_nat hxd, _, Dd'.name, ?_⟩⟩
      refine fun r15 dx15 hr15 hd_ hne_ => mk_CallRow (SqL.of (sx _ _ htl)) hr15 hd_ fun n15 H15 hn15 s15 hl15 hx15 => ⟨rfl, ?_⟩
      have nX : ∀ {x : Addr}, Hx x = none → x ∉ [b, t, l, c, RL] := fun {x} h hx => by
        have hx' := mem5.mp hx
        rcases hx' with hx | rfl
        · obtain ⟨o, ho⟩ := B.some_ x hx
          rw [ho] at h
          cases h
        · rw [hR] at h
          cases h
      refine ⟨_, _, _, rfl, rfl, s15 _ _ hR, small1000 (by omega), C2 _ _ ?_⟩
      have B16 : LawB N (upd H15 RL (HO.lst (rs ++ [.ref r15]))) b t l c ix k := (B.same s15).stay (Stay.at (s15 _ _ hR) fun w e => by cases e) fun x hx => upd_ne fun z => RX4 (z ▸ hx)
      have hR16 : (upd H15 RL (HO.lst (rs ++ [.ref r15]))) RL = some (.lst (rs ++ [.ref r15])) := upd_same
      have s16 : Same H0 (upd H15 RL (HO.lst (rs ++ [.ref r15]))) := Same.out (s0.trans s15) (x0 _ (by simp)) _
      have r16 : (upd H15 RL (HO.lst (rs ++ [.ref r15]))) r15 = some (.ins A.CallRow dx15 [("number", .int (n + (i : Int) + 1)), ("name", .str (N (3 + d))), ("things", .ref n15)]) := by
        rw [upd_ne (fun z => nX hr15 (by rw [z]; simp))]
        exact hx15
      have n16 : (upd H15 RL (HO.lst (rs ++ [.ref r15]))) n15 = some (.lst (ts.map (Th.v N))) := by
        rw [upd_ne (fun z => nX hn15 (by rw [z]; simp))]
        exact hl15
      generalize upd H15 RL (HO.lst (rs ++ [.ref r15])) = H16 at B16 hR16 s16 r16 n16 ⊢
      have sd4 : Same G (del [b, t, l, c] H16) := Same.del (g0.trans s16) fun x hx => GX x (mem5.mpr (Or.inl hx))
      have sd5 : Same H0 (del [b, t, l, c, RL] H16) := Same.del s16 x0
      have cc : cost (dds es) 8 (.call (n + 1 + (i : Int)) d ts) ≤ 57 := cost_call ok 8 d e _ ts he
      have rml : k.room (cost (dds es) 8 (.call (n + 1 + (i : Int)) d ts) + 57 * (12 - (i + 1))) := rm.le (by omega)
      have en : n + (i : Int) + 1 = n + 1 + (i : Int) := by omega
      refine ⟨b, t, l, c, DL, tl, xs, es, d, ts, e, n + (i : Int) + 1, k, ix, del [b, t, l, c] H16, rfl, ok, e8, del_same, B16, ixb, ixl, FreshB.del, sd4 _ _ hDG, dAG.same sd4, he, sd4 _ _ htl, hl.symm, fun u hu => ?_, i12, d8, rm.le (show 1 + 7 * (7 + 1) ≤ 57 * (12 - i) by omega), fun H17 ix' s17 j1 j2 j3 B17 => ?_⟩
      · have := tok u hu
        cases u with
        | i m => exact this
        | x x =>
          have this : x ∈ ([1, 2] : List Nat) := this
          simp only [List.mem_cons, List.not_mem_nil, or_false] at this
          rcases this with rfl | rfl
          · exact i12.1
          · exact i12.2
      · rw [en] at B17 j3
        have s57 : Same (del [b, t, l, c, RL] H16) H17 := fun x o h => s17 x o (by
          have nx : x ∉ [b, t, l, c, RL] := fun z => by rw [del_none z] at h; cases h
          exact del_some (fun z => nx (mem5.mpr (Or.inl z))) (del_same _ _ h))
        refine ⟨⟨del [b, t, l, c, RL] H16, rs ++ [.ref r15], ix', g0.trans sd5, s57, fun x hx => del_none hx, s17 _ _ (del_some RX4 hR16), PySem.Paired.snoc (Paired.mapP rp fun _ _ => RowAt.same sd5) ⟨fun u hu => ?_, by omega, r15, dx15, n15, rfl, del_some (nX hr15) (by rw [← en]; exact r16), del_some (nX hn15) n16⟩, B17, j2, j3, ⟨j1 _ i12.1, j1 _ i12.2⟩, room_leaf _ _ _ _ _ rml, fl_leaf _ _ _ _ fl, by rw [List.length_append, rsl]; show 1 + i + 1 = _; omega⟩, some (.int (d : Int)), some (.ref tl), ?_⟩
        · have := tok u hu
          cases u with
          | i m => exact this
          | x x => exact List.mem_append_left _ this
        · rw [show n + ((i + 1 : Nat) : Int) = n + (i : Int) + 1 by push_cast; omega] <;> rfl
    rintro σ Hx ⟨⟨H0, rs, ix, g0, s0, x0, hR, rp, B, ixb, ixl, i12, rm, fl, rsl⟩, v8, v9, rfl⟩
    have ycl : ys.length = cs.length := Paired.length Gpr
    rw [ycl, List.take_length] at rp B ixl rm fl
    refine K8 _ _ ?_
    have kn1 : (rowsBy (dds es) 8 (S.new gv) (.set n 1 (.one (.i ow)) :: callRows (n + 1) cs)).num 1 = ow := by
      show ((callRows (n + 1) cs).foldl (leaf (dds es) 8) (leaf (dds es) 8 (S.new gv) (.set n 1 (.one (.i ow))))).num 1 = ow
      rw [rows_num1 ok cs _ _ co, leaf_set]
      exact put_num _ _ _
    have wf : ∀ r ∈ (.set n 1 (.one (.i ow)) :: callRows (n + 1) cs : List Rw), Wf (dds es) 8 r := fun r hr => by
      rcases List.mem_cons.mp hr with rfl | hr
      · exact wf_set
      · exact callRows_wf ok e8 cs _ co r hr
    have cst : (((.set n 1 (.one (.i ow)) :: callRows (n + 1) cs : List Rw)).map (cost (dds es) 8)).sum ≤ 1000 := by
      rw [List.map_cons, List.sum_cons, cost_set]
      have := callRows_cost ok cs (n + 1) co
      omega
    generalize (.set n 1 (.one (.i ow)) :: callRows (n + 1) cs : List Rw) = rws at rp B ixl rm fl kn1 wf cst
    have sx := g0.trans s0
    have rp : PySem.Paired (RowAt A N (idxOf (dds es)) Hx) rs rws := Paired.mapP rp fun _ _ => RowAt.same s0
    have hNx := sx _ _ hNG
    have hDx := sx _ _ hDG
    have dAx := dAG.same sx
    refine seq_cut fun M9 K9 => ?_
    refine fun r20 dx20 hr20 hd_ hne_ => mk_HandRow hr20 hd_ fun H20 s20 hx20 => ⟨rfl, ?_⟩
    refine Or.inl ⟨_, _, Or.inl (SqL.of (s20 _ _ hNx)), nml_at (i := 1) (by decide) (by decide), ?_⟩
    refine fun r21 dx21 hr21 hd_ hne_ => mk_OwnRow hr21 hd_ fun H21 s21 hx21 => ⟨rfl, ?_⟩
    have t21 := s20.trans s21
    refine Or.inl ⟨_, _, Or.inl (SqL.of (t21 _ _ hNx)), nml_at (i := 2) (by decide) (by decide), ?_⟩
    refine fun r22 dx22 hr22 hd_ hne_ => mk_GivenRow hr22 hd_ fun H22 s22 hx22 => ⟨rfl, ?_⟩
    have t22 := t21.trans s22
    refine ⟨(show 3 ≤ sizeLine by decide), fun HL hHL => ?_⟩
    have s23 := Same.upd hHL (HO.lst [V.ref r20, .ref r21, .ref r22])
    have e23 : (upd H22 HL (HO.lst [V.ref r20, .ref r21, .ref r22])) HL = some (.lst [V.ref r20, .ref r21, .ref r22]) := upd_same
    generalize upd H22 HL (HO.lst [V.ref r20, .ref r21, .ref r22]) = H23 at s23 e23 ⊢
    have t23 := t22.trans s23
    refine K9 _ _ ?_
    refine seq_cut fun M10 K10 => ?_
    refine Or.inl ⟨⟨_, SqL.of (t23 _ _ hDx)⟩, comp_foot (K := K) (xs := xs) (fun d y H2 => ∀ e, es[d]? = some e → DeedAt A N (idxOf (dds es)) H2 y d e.dd) (SqL.of (t23 _ _ hDx)) (small1000 (by rw [dA.1]; omega)) (fun b' d x H24 G' hxd s24 kk => ?_) (fun dl H24 dv hdl s24 e24 dvl dA24 => ?_)⟩
    · obtain ⟨e, ga, gpp, gpt, he, rfl, _⟩ := dAx.2 d x hxd
      have t24 := t23.trans s24
      exact ⟨idxOf (dds es), ga, DL, xs, es, d, e, rfl, t24 _ _ hDx, dAx.same t24, ok, he, hxd, part_in he, Nok, fun y H25 s25 f25 => kk y H25 s25 fun H2 k2 e' he' => by rw [he] at he'; cases he'; exact f25 H2 k2⟩
    have t24 := t23.trans s24
    refine fun r25 dx25 hr25 hd_ hne_ => mk_Program (SqL.of (s24 _ _ e23)) (SqL.of e24) (SqL.of (t24 _ _ hR)) hr25 hd_ fun nh nd nm H25 hnh hnd hnm s25 hlh hld hlm hx25 => ⟨rfl, ?_⟩
    have t25 := t24.trans s25
    refine K10 _ _ ?_
    refine seq_cut fun M11 K11 => ?_
    refine fun g hg => ?_
    have s26 := Same.upd hg (HO.dK [])
    have e26 : (upd H25 g (HO.dK [])) g = some (.dK []) := upd_same
    generalize upd H25 g (HO.dK []) = H26 at s26 e26 ⊢
    refine Or.inl ⟨_, _, Or.inl (SqL.of (s26 _ _ (t25 _ _ hNx))), nml_at (i := 2) (by decide) (by decide), ?_⟩
    refine ⟨e26, [((.inr (N 2) : Key), .int gv)], rfl, (show 1 ≤ 15 by decide), ?_⟩
    rw [show mergeK [] [((.inr (N 2) : Key), V.int gv)] = [((.inr (N 2) : Key), V.int gv)] from rfl]
    have s27 : Same H25 (upd H26 g (HO.dK [((.inr (N 2) : Key), V.int gv)])) := Same.out s26 hg _
    have e27 : (upd H26 g (HO.dK [((.inr (N 2) : Key), V.int gv)])) g = some (.dK [((.inr (N 2) : Key), V.int gv)]) := upd_same
    generalize upd H26 g (HO.dK [((.inr (N 2) : Key), V.int gv)]) = H27 at s27 e27 ⊢
    have t2227 := (s23.trans s24).trans (s25.trans s27)
    have t2427 := s25.trans s27
    have dsl : (dds es).length = es.length := by unfold dds; rw [List.length_map]
    have PA : PrAt A N H27 ⟨r25, dx25, nh, nd, nm⟩ r20 r21 r22 dv rs (dds es) rws := by
      refine ⟨s27 _ _ hx25, s27 _ _ hlh, s27 _ _ hld, s27 _ _ hlm, ⟨dx20, _, _, _, t2227 _ _ (s22 _ _ (s21 _ _ hx20))⟩, ⟨dx21, _, t2227 _ _ (s22 _ _ hx21)⟩, ⟨dx22, _, _, t2227 _ _ hx22⟩, ⟨by rw [dvl, dsl, dA.1], fun d v hv => ?_⟩, Paired.mapP rp fun _ _ => RowAt.same (t25.trans s27)⟩
      have dl' : d < es.length := by
        have := (List.getElem?_eq_some_iff.mp hv).1
        rw [dvl, dA.1] at this
        exact this
      have he := List.getElem?_eq_getElem dl'
      exact ⟨_, dds_get he, DeedAt.same t2427 (dA24 d v hv _ he)⟩
    refine ⟨N, ⟨r25, dx25, nh, nd, nm⟩, g, r20, r21, r22, gv, dv, rs, dds es, rws, names_of Di ok e8, rfl, PA, e27, ig, wf, cst, fun b2 db lt sd t2 e2 H28 s28 Bk => K11 _ _ ?_⟩
    have t28 := (t25.trans s27).trans s28
    have B28 := B.same t28
    generalize rowsBy (dds es) 8 (S.new gv) rws = k at Bk B28 ixl rm fl kn1
    obtain ⟨ts1, hts, tts⟩ := Bk.ht
    obtain ⟨ls1, hls, tls⟩ := Bk.hl
    obtain ⟨ts2, hts', tts'⟩ := B28.ht
    obtain ⟨ls2, hls', tls'⟩ := B28.hl
    have hb := Bk.hb
    refine seq_cut fun M12 K12 => ?_
    refine ⟨b2, _, db, _, _, rfl, hb, T.o_Book.cl, T.n_Book_trace, rfl, _, B28.gt, _, _, rfl, same_list hts hts' tts tts' fl.t (by have := rm.1; omega), true, rfl, iteF ?_⟩
    refine ⟨b2, _, db, _, _, rfl, hb, T.o_Book.cl, T.n_Book_steps, rfl, _, B28.gs, _, _, rfl, Or.inl ⟨rfl, trivial⟩, true, rfl, iteF ?_⟩
    refine K12 _ _ ?_
    refine seq_cut fun M13 K13 => ?_
    have hN28 := t28 _ _ hNx
    have ge : DGet H28 e2 (.str (N 1)) (some (.int ow)) := by
      have := DGet.k (k := .inr (N 1)) Bk.he
      rw [dk_get Di (lt64 (by decide)) (show 1 ∈ [1] by decide)] at this
      rw [← kn1]
      exact this
    refine ⟨b2, _, db, _, _, rfl, hb, T.o_Book.cl, T.n_Book_ends, rfl, _, _, _, true, rfl, (fun z => by cases z), .dK Bk.he, kit_dd, true, rfl, iteF ?_⟩
    refine ⟨b2, _, db, _, _, rfl, hb, T.o_Book.cl, T.n_Book_ends, rfl, Or.inr ⟨e2, _, rfl, Or.inl Bk.he, rfl, _, rfl, ite2 (fun c => absurd c (by show ¬ (!decide (V.int 1 = V.int 1)) = true; decide)) (fun _ => ?_)⟩⟩
    refine Or.inl ⟨_, _, Or.inl (SqL.of hN28), nml_at (i := 1) (by decide) (by decide), ?_⟩
    refine ⟨b2, _, db, _, _, rfl, hb, T.o_Book.cl, T.n_Book_ends, rfl, Or.inr ⟨e2, _, rfl, ge, _, rfl, iteF ?_⟩⟩
    refine K13 _ _ ?_
    refine ⟨b2, _, db, _, _, rfl, hb, T.o_Book.cl, T.n_Book_letters, rfl, _, B28.gl, _, _, rfl, same_list hls hls' tls tls' fl.l (by have := rm.2; omega), _, rfl, iteT ?_⟩
    exact ⟨b2, _, db, _, _, rfl, hb, T.o_Book.cl, T.n_Book_ends, rfl, Or.inl ⟨_, _, Or.inl (SqL.of hN28), nml_at (i := 1) (by decide) (by decide), _, ge, _, _, rfl, Or.inl ⟨rfl, trivial⟩, q _⟩⟩
end
end K26

set_option Elab.async false
set_option linter.all false
set_option maxRecDepth 100000
set_option maxHeartbeats 4000000
namespace K26
open PySem L2
theorem exC {us : List Value} {n : Nat} (h : us.length = n + 1) : ∃ b t, us = b :: t ∧ t.length = n := by
  cases us with
  | nil => cases h
  | cons b t => exact ⟨b, t, rfl, Nat.succ.inj h⟩
theorem exN0 {us : List Value} (h : us.length = 0) : us = [] := by
  cases us with
  | nil => rfl
  | cons b t => cases h
theorem exN1 {us : List Value} (h : us.length = 1) : ∃ b0, us = [b0] := by
  obtain ⟨b0, t, rfl, e⟩ := exC h
  obtain ⟨rfl⟩ := exN0 e
  exact ⟨b0, rfl⟩
theorem exN2 {us : List Value} (h : us.length = 2) : ∃ b0 b1, us = [b0, b1] := by
  obtain ⟨b0, t, rfl, e⟩ := exC h
  obtain ⟨b1, rfl⟩ := exN1 e
  exact ⟨b0, b1, rfl⟩
theorem exN3 {us : List Value} (h : us.length = 3) : ∃ b0 b1 b2, us = [b0, b1, b2] := by
  obtain ⟨b0, t, rfl, e⟩ := exC h
  obtain ⟨b1, b2, rfl⟩ := exN2 e
  exact ⟨b0, b1, b2, rfl⟩
theorem exN4 {us : List Value} (h : us.length = 4) : ∃ b0 b1 b2 b3, us = [b0, b1, b2, b3] := by
  obtain ⟨b0, t, rfl, e⟩ := exC h
  obtain ⟨b1, b2, b3, rfl⟩ := exN3 e
  exact ⟨b0, b1, b2, b3, rfl⟩
theorem exN5 {us : List Value} (h : us.length = 5) : ∃ b0 b1 b2 b3 b4, us = [b0, b1, b2, b3, b4] := by
  obtain ⟨b0, t, rfl, e⟩ := exC h
  obtain ⟨b1, b2, b3, b4, rfl⟩ := exN4 e
  exact ⟨b0, b1, b2, b3, b4, rfl⟩
theorem all_mk {l : PySem.W.OpenLaw} {w : World} {K : PySem.W.Frag} {h : Heap} {mg : Str → Option Value} {fa f1 f2 f3 f4 f5 f6 f8 f9 f10 f11 f12 f13 f14 f15 f16 f17 f18 f19 f20 f21 A_Book A_Row A_HandRow A_GivenRow A_OwnRow A_SetRow A_PutRow A_SendRow A_SayRow A_CallRow A_LastRow A_IfRow A_LoopRow A_DeedRow A_Program A_Run : Addr} (X : K.In h) (G : h.Ns mainGlobals mg) (hfa : mg "law" = some (.ref fa))
    {od1 an1 : Option Addr} {sl1 : Array (Option Value)} {oc1 kV1 dc1 pm1 cd1 ct1 : Value}
    (a1 : PySem.W.nsIn K mainGlobals "is_number" = some (some (.ref f1))) (l1 : K.lookup f1 = some ⟨oc1, od1, .func (PySem.W.fnOf "is_number" "is_number" (defArgs s_is_number) (defBody s_is_number) (defScope s_is_number) .none kV1 dc1 pm1 an1 cd1 ct1), sl1⟩) (c1 : PySem.W.codeIn K cd1 "is_number" = true) (k1 : PySem.W.keepIn K (.ref f1) = true)
    {od2 an2 : Option Addr} {sl2 : Array (Option Value)} {oc2 kV2 dc2 pm2 cd2 ct2 : Value}
    (a2 : PySem.W.nsIn K mainGlobals "is_good" = some (some (.ref f2))) (l2 : K.lookup f2 = some ⟨oc2, od2, .func (PySem.W.fnOf "is_good" "is_good" (defArgs s_is_good) (defBody s_is_good) (defScope s_is_good) .none kV2 dc2 pm2 an2 cd2 ct2), sl2⟩) (c2 : PySem.W.codeIn K cd2 "is_good" = true) (k2 : PySem.W.keepIn K (.ref f2) = true)
    {od3 an3 : Option Addr} {sl3 : Array (Option Value)} {oc3 kV3 dc3 pm3 cd3 ct3 : Value}
    (a3 : PySem.W.nsIn K mainGlobals "given_cell" = some (some (.ref f3))) (l3 : K.lookup f3 = some ⟨oc3, od3, .func (PySem.W.fnOf "given_cell" "given_cell" (defArgs s_given_cell) (defBody s_given_cell) (defScope s_given_cell) .none kV3 dc3 pm3 an3 cd3 ct3), sl3⟩) (c3 : PySem.W.codeIn K cd3 "given_cell" = true) (k3 : PySem.W.keepIn K (.ref f3) = true)
    {od4 an4 : Option Addr} {sl4 : Array (Option Value)} {oc4 kV4 dc4 pm4 cd4 ct4 : Value}
    (a4 : PySem.W.nsIn K mainGlobals "own_cell" = some (some (.ref f4))) (l4 : K.lookup f4 = some ⟨oc4, od4, .func (PySem.W.fnOf "own_cell" "own_cell" (defArgs s_own_cell) (defBody s_own_cell) (defScope s_own_cell) .none kV4 dc4 pm4 an4 cd4 ct4), sl4⟩) (c4 : PySem.W.codeIn K cd4 "own_cell" = true) (k4 : PySem.W.keepIn K (.ref f4) = true)
    {od5 an5 : Option Addr} {sl5 : Array (Option Value)} {oc5 kV5 dc5 pm5 cd5 ct5 : Value}
    (a5 : PySem.W.nsIn K mainGlobals "cells_of" = some (some (.ref f5))) (l5 : K.lookup f5 = some ⟨oc5, od5, .func (PySem.W.fnOf "cells_of" "cells_of" (defArgs s_cells_of) (defBody s_cells_of) (defScope s_cells_of) .none kV5 dc5 pm5 an5 cd5 ct5), sl5⟩) (c5 : PySem.W.codeIn K cd5 "cells_of" = true) (k5 : PySem.W.keepIn K (.ref f5) = true)
    {od6 an6 : Option Addr} {sl6 : Array (Option Value)} {oc6 kV6 dc6 pm6 cd6 ct6 : Value}
    (a6 : PySem.W.nsIn K mainGlobals "reckon" = some (some (.ref f6))) (l6 : K.lookup f6 = some ⟨oc6, od6, .func (PySem.W.fnOf "reckon" "reckon" (defArgs s_reckon) (defBody s_reckon) (defScope s_reckon) .none kV6 dc6 pm6 an6 cd6 ct6), sl6⟩) (c6 : PySem.W.codeIn K cd6 "reckon" = true) (k6 : PySem.W.keepIn K (.ref f6) = true)
    {od8 an8 : Option Addr} {sl8 : Array (Option Value)} {oc8 kV8 dc8 pm8 cd8 ct8 : Value}
    (a8 : PySem.W.nsIn K mainGlobals "ends_of" = some (some (.ref f8))) (l8 : K.lookup f8 = some ⟨oc8, od8, .func (PySem.W.fnOf "ends_of" "ends_of" (defArgs s_ends_of) (defBody s_ends_of) (defScope s_ends_of) .none kV8 dc8 pm8 an8 cd8 ct8), sl8⟩) (c8 : PySem.W.codeIn K cd8 "ends_of" = true) (k8 : PySem.W.keepIn K (.ref f8) = true)
    {od9 an9 : Option Addr} {sl9 : Array (Option Value)} {oc9 kV9 dc9 pm9 cd9 ct9 : Value}
    (a9 : PySem.W.nsIn K mainGlobals "run" = some (some (.ref f9))) (l9 : K.lookup f9 = some ⟨oc9, od9, .func (PySem.W.fnOf "run" "run" (defArgs s_run) (defBody s_run) (defScope s_run) .none kV9 dc9 pm9 an9 cd9 ct9), sl9⟩) (c9 : PySem.W.codeIn K cd9 "run" = true) (k9 : PySem.W.keepIn K (.ref f9) = true)
    {od10 an10 : Option Addr} {sl10 : Array (Option Value)} {oc10 kV10 dc10 pm10 cd10 ct10 : Value}
    (a10 : PySem.W.nsIn K mainGlobals "_law_cell_at" = some (some (.ref f10))) (l10 : K.lookup f10 = some ⟨oc10, od10, .func (PySem.W.fnOf "_law_cell_at" "_law_cell_at" (defArgs s_law_cell_at) (defBody s_law_cell_at) (defScope s_law_cell_at) .none kV10 dc10 pm10 an10 cd10 ct10), sl10⟩) (c10 : PySem.W.codeIn K cd10 "_law_cell_at" = true) (k10 : PySem.W.keepIn K (.ref f10) = true)
    {od11 an11 : Option Addr} {sl11 : Array (Option Value)} {oc11 kV11 dc11 pm11 cd11 ct11 : Value}
    (a11 : PySem.W.nsIn K mainGlobals "_law_mix" = some (some (.ref f11))) (l11 : K.lookup f11 = some ⟨oc11, od11, .func (PySem.W.fnOf "_law_mix" "_law_mix" (defArgs s_law_mix) (defBody s_law_mix) (defScope s_law_mix) .none kV11 dc11 pm11 an11 cd11 ct11), sl11⟩) (c11 : PySem.W.codeIn K cd11 "_law_mix" = true) (k11 : PySem.W.keepIn K (.ref f11) = true)
    {od12 an12 : Option Addr} {sl12 : Array (Option Value)} {oc12 kV12 dc12 pm12 cd12 ct12 : Value}
    (a12 : PySem.W.nsIn K mainGlobals "_law_name" = some (some (.ref f12))) (l12 : K.lookup f12 = some ⟨oc12, od12, .func (PySem.W.fnOf "_law_name" "_law_name" (defArgs s_law_name) (defBody s_law_name) (defScope s_law_name) .none kV12 dc12 pm12 an12 cd12 ct12), sl12⟩) (c12 : PySem.W.codeIn K cd12 "_law_name" = true) (k12 : PySem.W.keepIn K (.ref f12) = true)
    {od13 an13 : Option Addr} {sl13 : Array (Option Value)} {oc13 kV13 dc13 pm13 cd13 ct13 : Value}
    (a13 : PySem.W.nsIn K mainGlobals "_law_thing" = some (some (.ref f13))) (l13 : K.lookup f13 = some ⟨oc13, od13, .func (PySem.W.fnOf "_law_thing" "_law_thing" (defArgs s_law_thing) (defBody s_law_thing) (defScope s_law_thing) .none kV13 dc13 pm13 an13 cd13 ct13), sl13⟩) (c13 : PySem.W.codeIn K cd13 "_law_thing" = true) (k13 : PySem.W.keepIn K (.ref f13) = true)
    {od14 an14 : Option Addr} {sl14 : Array (Option Value)} {oc14 kV14 dc14 pm14 cd14 ct14 : Value}
    (a14 : PySem.W.nsIn K mainGlobals "_law_deed" = some (some (.ref f14))) (l14 : K.lookup f14 = some ⟨oc14, od14, .func (PySem.W.fnOf "_law_deed" "_law_deed" (defArgs s_law_deed) (defBody s_law_deed) (defScope s_law_deed) .none kV14 dc14 pm14 an14 cd14 ct14), sl14⟩) (c14 : PySem.W.codeIn K cd14 "_law_deed" = true) (k14 : PySem.W.keepIn K (.ref f14) = true)
    {od15 an15 : Option Addr} {sl15 : Array (Option Value)} {oc15 kV15 dc15 pm15 cd15 ct15 : Value}
    (a15 : PySem.W.nsIn K mainGlobals "_law_deeds" = some (some (.ref f15))) (l15 : K.lookup f15 = some ⟨oc15, od15, .func (PySem.W.fnOf "_law_deeds" "_law_deeds" (defArgs s_law_deeds) (defBody s_law_deeds) (defScope s_law_deeds) .none kV15 dc15 pm15 an15 cd15 ct15), sl15⟩) (c15 : PySem.W.codeIn K cd15 "_law_deeds" = true) (k15 : PySem.W.keepIn K (.ref f15) = true)
    {od16 an16 : Option Addr} {sl16 : Array (Option Value)} {oc16 kV16 dc16 pm16 cd16 ct16 : Value}
    (a16 : PySem.W.nsIn K mainGlobals "_law_made" = some (some (.ref f16))) (l16 : K.lookup f16 = some ⟨oc16, od16, .func (PySem.W.fnOf "_law_made" "_law_made" (defArgs s_law_made) (defBody s_law_made) (defScope s_law_made) .none kV16 dc16 pm16 an16 cd16 ct16), sl16⟩) (c16 : PySem.W.codeIn K cd16 "_law_made" = true) (k16 : PySem.W.keepIn K (.ref f16) = true)
    {od17 an17 : Option Addr} {sl17 : Array (Option Value)} {oc17 kV17 dc17 pm17 cd17 ct17 : Value}
    (a17 : PySem.W.nsIn K mainGlobals "_law_calls" = some (some (.ref f17))) (l17 : K.lookup f17 = some ⟨oc17, od17, .func (PySem.W.fnOf "_law_calls" "_law_calls" (defArgs s_law_calls) (defBody s_law_calls) (defScope s_law_calls) .none kV17 dc17 pm17 an17 cd17 ct17), sl17⟩) (c17 : PySem.W.codeIn K cd17 "_law_calls" = true) (k17 : PySem.W.keepIn K (.ref f17) = true)
    {od18 an18 : Option Addr} {sl18 : Array (Option Value)} {oc18 kV18 dc18 pm18 cd18 ct18 : Value}
    (a18 : PySem.W.nsIn K mainGlobals "_law_tell" = some (some (.ref f18))) (l18 : K.lookup f18 = some ⟨oc18, od18, .func (PySem.W.fnOf "_law_tell" "_law_tell" (defArgs s_law_tell) (defBody s_law_tell) (defScope s_law_tell) .none kV18 dc18 pm18 an18 cd18 ct18), sl18⟩) (c18 : PySem.W.codeIn K cd18 "_law_tell" = true) (k18 : PySem.W.keepIn K (.ref f18) = true)
    {od19 an19 : Option Addr} {sl19 : Array (Option Value)} {oc19 kV19 dc19 pm19 cd19 ct19 : Value}
    (a19 : PySem.W.nsIn K mainGlobals "_law_call" = some (some (.ref f19))) (l19 : K.lookup f19 = some ⟨oc19, od19, .func (PySem.W.fnOf "_law_call" "_law_call" (defArgs s_law_call) (defBody s_law_call) (defScope s_law_call) .none kV19 dc19 pm19 an19 cd19 ct19), sl19⟩) (c19 : PySem.W.codeIn K cd19 "_law_call" = true) (k19 : PySem.W.keepIn K (.ref f19) = true)
    {od20 an20 : Option Addr} {sl20 : Array (Option Value)} {oc20 kV20 dc20 pm20 cd20 ct20 : Value}
    (a20 : PySem.W.nsIn K mainGlobals "_law_same" = some (some (.ref f20))) (l20 : K.lookup f20 = some ⟨oc20, od20, .func (PySem.W.fnOf "_law_same" "_law_same" (defArgs s_law_same) (defBody s_law_same) (defScope s_law_same) .none kV20 dc20 pm20 an20 cd20 ct20), sl20⟩) (c20 : PySem.W.codeIn K cd20 "_law_same" = true) (k20 : PySem.W.keepIn K (.ref f20) = true)
    {od21 an21 : Option Addr} {sl21 : Array (Option Value)} {oc21 kV21 dc21 pm21 cd21 ct21 : Value}
    (a21 : PySem.W.nsIn K mainGlobals "law" = some (some (.ref f21))) (l21 : K.lookup f21 = some ⟨oc21, od21, .func (PySem.W.fnOf "law" "law" (defArgs s_law) (defBody s_law) (defScope s_law) .none kV21 dc21 pm21 an21 cd21 ct21), sl21⟩) (c21 : PySem.W.codeIn K cd21 "law" = true) (k21 : PySem.W.keepIn K (.ref f21) = true)
    (z_all : PySem.W.nsIn K mainGlobals "all" = some none)
    (z_bool : PySem.W.nsIn K mainGlobals "bool" = some none)
    (z_dict : PySem.W.nsIn K mainGlobals "dict" = some none)
    (z_int : PySem.W.nsIn K mainGlobals "int" = some none)
    (z_isinstance : PySem.W.nsIn K mainGlobals "isinstance" = some none)
    (z_len : PySem.W.nsIn K mainGlobals "len" = some none)
    (z_list : PySem.W.nsIn K mainGlobals "list" = some none)
    (z_range : PySem.W.nsIn K mainGlobals "range" = some none)
    (z_str : PySem.W.nsIn K mainGlobals "str" = some none)
    (z_tuple : PySem.W.nsIn K mainGlobals "tuple" = some none)
    (z_zip : PySem.W.nsIn K mainGlobals "zip" = some none)
    {tk_MOST_NUMBER : Tok} (g_MOST_NUMBER : PySem.W.nsIn K mainGlobals "MOST_NUMBER" = some (some (.int 999999999999 tk_MOST_NUMBER)))
    {tk_ROUND : Tok} (g_ROUND : PySem.W.nsIn K mainGlobals "ROUND" = some (some (.int 1000000000000 tk_ROUND)))
    (cg : PySem.W.specialIn K (.builtin "object.__class__") "__get__" = some (some (.builtin "getset_descriptor.__get__"))) (ct : PySem.W.takesIn K (.builtin "object.__class__") = some true)
    {xd_Book : ClassData} (x_Book : PySem.W.nsIn K mainGlobals "Book" = some (some (.ref A_Book))) (xl_Book : PySem.W.clsIn K A_Book = some xd_Book) (xm_Book : xd_Book.mro = [A_Book].map Value.ref ++ [Value.type "object"])
    (xpg_Book : PySem.W.plainGet K A_Book Str.empty = true)
    (xhd_Book : PySem.W.hasDictIn K A_Book = true)
    (xpo_Book : PySem.W.plainOver K A_Book = true)
    (xsa_Book : PySem.W.findIn K (.ref A_Book) "__setattr__" = some (some (.builtin "object.__setattr__")))
    (xty_Book : PySem.W.typeIn K (.ref A_Book) = some (.type "type"))
    (xkc_Book : PySem.W.findIn K (.ref A_Book) "__class__" = some (some (.builtin "object.__class__")))
    (xmk_Book : PySem.W.makesIn K A_Book = true)
    (xkp_Book : PySem.W.keepIn K (.ref A_Book) = true)
    {xd_Row : ClassData} (x_Row : PySem.W.nsIn K mainGlobals "Row" = some (some (.ref A_Row))) (xl_Row : PySem.W.clsIn K A_Row = some xd_Row) (xm_Row : xd_Row.mro = [A_Row].map Value.ref ++ [Value.type "object"])
    (xpg_Row : PySem.W.plainGet K A_Row Str.empty = true)
    (xhd_Row : PySem.W.hasDictIn K A_Row = true)
    (xpo_Row : PySem.W.plainOver K A_Row = true)
    (xsa_Row : PySem.W.findIn K (.ref A_Row) "__setattr__" = some (some (.builtin "object.__setattr__")))
    (xty_Row : PySem.W.typeIn K (.ref A_Row) = some (.type "type"))
    (xkc_Row : PySem.W.findIn K (.ref A_Row) "__class__" = some (some (.builtin "object.__class__")))
    (xmk_Row : PySem.W.makesIn K A_Row = true)
    (xkp_Row : PySem.W.keepIn K (.ref A_Row) = true)
    {xd_HandRow : ClassData} (x_HandRow : PySem.W.nsIn K mainGlobals "HandRow" = some (some (.ref A_HandRow))) (xl_HandRow : PySem.W.clsIn K A_HandRow = some xd_HandRow) (xm_HandRow : xd_HandRow.mro = [A_HandRow, A_Row].map Value.ref ++ [Value.type "object"])
    (xpg_HandRow : PySem.W.plainGet K A_HandRow Str.empty = true)
    (xhd_HandRow : PySem.W.hasDictIn K A_HandRow = true)
    (xpo_HandRow : PySem.W.plainOver K A_HandRow = true)
    (xsa_HandRow : PySem.W.findIn K (.ref A_HandRow) "__setattr__" = some (some (.builtin "object.__setattr__")))
    (xty_HandRow : PySem.W.typeIn K (.ref A_HandRow) = some (.type "type"))
    (xkc_HandRow : PySem.W.findIn K (.ref A_HandRow) "__class__" = some (some (.builtin "object.__class__")))
    (xmk_HandRow : PySem.W.makesIn K A_HandRow = true)
    (xkp_HandRow : PySem.W.keepIn K (.ref A_HandRow) = true)
    {xd_GivenRow : ClassData} (x_GivenRow : PySem.W.nsIn K mainGlobals "GivenRow" = some (some (.ref A_GivenRow))) (xl_GivenRow : PySem.W.clsIn K A_GivenRow = some xd_GivenRow) (xm_GivenRow : xd_GivenRow.mro = [A_GivenRow, A_Row].map Value.ref ++ [Value.type "object"])
    (xpg_GivenRow : PySem.W.plainGet K A_GivenRow Str.empty = true)
    (xhd_GivenRow : PySem.W.hasDictIn K A_GivenRow = true)
    (xpo_GivenRow : PySem.W.plainOver K A_GivenRow = true)
    (xsa_GivenRow : PySem.W.findIn K (.ref A_GivenRow) "__setattr__" = some (some (.builtin "object.__setattr__")))
    (xty_GivenRow : PySem.W.typeIn K (.ref A_GivenRow) = some (.type "type"))
    (xkc_GivenRow : PySem.W.findIn K (.ref A_GivenRow) "__class__" = some (some (.builtin "object.__class__")))
    (xmk_GivenRow : PySem.W.makesIn K A_GivenRow = true)
    (xkp_GivenRow : PySem.W.keepIn K (.ref A_GivenRow) = true)
    {xd_OwnRow : ClassData} (x_OwnRow : PySem.W.nsIn K mainGlobals "OwnRow" = some (some (.ref A_OwnRow))) (xl_OwnRow : PySem.W.clsIn K A_OwnRow = some xd_OwnRow) (xm_OwnRow : xd_OwnRow.mro = [A_OwnRow, A_Row].map Value.ref ++ [Value.type "object"])
    (xpg_OwnRow : PySem.W.plainGet K A_OwnRow Str.empty = true)
    (xhd_OwnRow : PySem.W.hasDictIn K A_OwnRow = true)
    (xpo_OwnRow : PySem.W.plainOver K A_OwnRow = true)
    (xsa_OwnRow : PySem.W.findIn K (.ref A_OwnRow) "__setattr__" = some (some (.builtin "object.__setattr__")))
    (xty_OwnRow : PySem.W.typeIn K (.ref A_OwnRow) = some (.type "type"))
    (xkc_OwnRow : PySem.W.findIn K (.ref A_OwnRow) "__class__" = some (some (.builtin "object.__class__")))
    (xmk_OwnRow : PySem.W.makesIn K A_OwnRow = true)
    (xkp_OwnRow : PySem.W.keepIn K (.ref A_OwnRow) = true)
    {xd_SetRow : ClassData} (x_SetRow : PySem.W.nsIn K mainGlobals "SetRow" = some (some (.ref A_SetRow))) (xl_SetRow : PySem.W.clsIn K A_SetRow = some xd_SetRow) (xm_SetRow : xd_SetRow.mro = [A_SetRow, A_Row].map Value.ref ++ [Value.type "object"])
    (xpg_SetRow : PySem.W.plainGet K A_SetRow Str.empty = true)
    (xhd_SetRow : PySem.W.hasDictIn K A_SetRow = true)
    (xpo_SetRow : PySem.W.plainOver K A_SetRow = true)
    (xsa_SetRow : PySem.W.findIn K (.ref A_SetRow) "__setattr__" = some (some (.builtin "object.__setattr__")))
    (xty_SetRow : PySem.W.typeIn K (.ref A_SetRow) = some (.type "type"))
    (xkc_SetRow : PySem.W.findIn K (.ref A_SetRow) "__class__" = some (some (.builtin "object.__class__")))
    (xmk_SetRow : PySem.W.makesIn K A_SetRow = true)
    (xkp_SetRow : PySem.W.keepIn K (.ref A_SetRow) = true)
    {xd_PutRow : ClassData} (x_PutRow : PySem.W.nsIn K mainGlobals "PutRow" = some (some (.ref A_PutRow))) (xl_PutRow : PySem.W.clsIn K A_PutRow = some xd_PutRow) (xm_PutRow : xd_PutRow.mro = [A_PutRow, A_Row].map Value.ref ++ [Value.type "object"])
    (xpg_PutRow : PySem.W.plainGet K A_PutRow Str.empty = true)
    (xhd_PutRow : PySem.W.hasDictIn K A_PutRow = true)
    (xpo_PutRow : PySem.W.plainOver K A_PutRow = true)
    (xsa_PutRow : PySem.W.findIn K (.ref A_PutRow) "__setattr__" = some (some (.builtin "object.__setattr__")))
    (xty_PutRow : PySem.W.typeIn K (.ref A_PutRow) = some (.type "type"))
    (xkc_PutRow : PySem.W.findIn K (.ref A_PutRow) "__class__" = some (some (.builtin "object.__class__")))
    (xmk_PutRow : PySem.W.makesIn K A_PutRow = true)
    (xkp_PutRow : PySem.W.keepIn K (.ref A_PutRow) = true)
    {xd_SendRow : ClassData} (x_SendRow : PySem.W.nsIn K mainGlobals "SendRow" = some (some (.ref A_SendRow))) (xl_SendRow : PySem.W.clsIn K A_SendRow = some xd_SendRow) (xm_SendRow : xd_SendRow.mro = [A_SendRow, A_Row].map Value.ref ++ [Value.type "object"])
    (xpg_SendRow : PySem.W.plainGet K A_SendRow Str.empty = true)
    (xhd_SendRow : PySem.W.hasDictIn K A_SendRow = true)
    (xpo_SendRow : PySem.W.plainOver K A_SendRow = true)
    (xsa_SendRow : PySem.W.findIn K (.ref A_SendRow) "__setattr__" = some (some (.builtin "object.__setattr__")))
    (xty_SendRow : PySem.W.typeIn K (.ref A_SendRow) = some (.type "type"))
    (xkc_SendRow : PySem.W.findIn K (.ref A_SendRow) "__class__" = some (some (.builtin "object.__class__")))
    (xmk_SendRow : PySem.W.makesIn K A_SendRow = true)
    (xkp_SendRow : PySem.W.keepIn K (.ref A_SendRow) = true)
    {xd_SayRow : ClassData} (x_SayRow : PySem.W.nsIn K mainGlobals "SayRow" = some (some (.ref A_SayRow))) (xl_SayRow : PySem.W.clsIn K A_SayRow = some xd_SayRow) (xm_SayRow : xd_SayRow.mro = [A_SayRow, A_Row].map Value.ref ++ [Value.type "object"])
    (xpg_SayRow : PySem.W.plainGet K A_SayRow Str.empty = true)
    (xhd_SayRow : PySem.W.hasDictIn K A_SayRow = true)
    (xpo_SayRow : PySem.W.plainOver K A_SayRow = true)
    (xsa_SayRow : PySem.W.findIn K (.ref A_SayRow) "__setattr__" = some (some (.builtin "object.__setattr__")))
    (xty_SayRow : PySem.W.typeIn K (.ref A_SayRow) = some (.type "type"))
    (xkc_SayRow : PySem.W.findIn K (.ref A_SayRow) "__class__" = some (some (.builtin "object.__class__")))
    (xmk_SayRow : PySem.W.makesIn K A_SayRow = true)
    (xkp_SayRow : PySem.W.keepIn K (.ref A_SayRow) = true)
    {xd_CallRow : ClassData} (x_CallRow : PySem.W.nsIn K mainGlobals "CallRow" = some (some (.ref A_CallRow))) (xl_CallRow : PySem.W.clsIn K A_CallRow = some xd_CallRow) (xm_CallRow : xd_CallRow.mro = [A_CallRow, A_Row].map Value.ref ++ [Value.type "object"])
    (xpg_CallRow : PySem.W.plainGet K A_CallRow Str.empty = true)
    (xhd_CallRow : PySem.W.hasDictIn K A_CallRow = true)
    (xpo_CallRow : PySem.W.plainOver K A_CallRow = true)
    (xsa_CallRow : PySem.W.findIn K (.ref A_CallRow) "__setattr__" = some (some (.builtin "object.__setattr__")))
    (xty_CallRow : PySem.W.typeIn K (.ref A_CallRow) = some (.type "type"))
    (xkc_CallRow : PySem.W.findIn K (.ref A_CallRow) "__class__" = some (some (.builtin "object.__class__")))
    (xmk_CallRow : PySem.W.makesIn K A_CallRow = true)
    (xkp_CallRow : PySem.W.keepIn K (.ref A_CallRow) = true)
    {xd_LastRow : ClassData} (x_LastRow : PySem.W.nsIn K mainGlobals "LastRow" = some (some (.ref A_LastRow))) (xl_LastRow : PySem.W.clsIn K A_LastRow = some xd_LastRow) (xm_LastRow : xd_LastRow.mro = [A_LastRow, A_Row].map Value.ref ++ [Value.type "object"])
    (xpg_LastRow : PySem.W.plainGet K A_LastRow Str.empty = true)
    (xhd_LastRow : PySem.W.hasDictIn K A_LastRow = true)
    (xpo_LastRow : PySem.W.plainOver K A_LastRow = true)
    (xsa_LastRow : PySem.W.findIn K (.ref A_LastRow) "__setattr__" = some (some (.builtin "object.__setattr__")))
    (xty_LastRow : PySem.W.typeIn K (.ref A_LastRow) = some (.type "type"))
    (xkc_LastRow : PySem.W.findIn K (.ref A_LastRow) "__class__" = some (some (.builtin "object.__class__")))
    (xmk_LastRow : PySem.W.makesIn K A_LastRow = true)
    (xkp_LastRow : PySem.W.keepIn K (.ref A_LastRow) = true)
    {xd_IfRow : ClassData} (x_IfRow : PySem.W.nsIn K mainGlobals "IfRow" = some (some (.ref A_IfRow))) (xl_IfRow : PySem.W.clsIn K A_IfRow = some xd_IfRow) (xm_IfRow : xd_IfRow.mro = [A_IfRow, A_Row].map Value.ref ++ [Value.type "object"])
    (xpg_IfRow : PySem.W.plainGet K A_IfRow Str.empty = true)
    (xhd_IfRow : PySem.W.hasDictIn K A_IfRow = true)
    (xpo_IfRow : PySem.W.plainOver K A_IfRow = true)
    (xsa_IfRow : PySem.W.findIn K (.ref A_IfRow) "__setattr__" = some (some (.builtin "object.__setattr__")))
    (xty_IfRow : PySem.W.typeIn K (.ref A_IfRow) = some (.type "type"))
    (xkc_IfRow : PySem.W.findIn K (.ref A_IfRow) "__class__" = some (some (.builtin "object.__class__")))
    (xmk_IfRow : PySem.W.makesIn K A_IfRow = true)
    (xkp_IfRow : PySem.W.keepIn K (.ref A_IfRow) = true)
    {xd_LoopRow : ClassData} (x_LoopRow : PySem.W.nsIn K mainGlobals "LoopRow" = some (some (.ref A_LoopRow))) (xl_LoopRow : PySem.W.clsIn K A_LoopRow = some xd_LoopRow) (xm_LoopRow : xd_LoopRow.mro = [A_LoopRow, A_Row].map Value.ref ++ [Value.type "object"])
    (xpg_LoopRow : PySem.W.plainGet K A_LoopRow Str.empty = true)
    (xhd_LoopRow : PySem.W.hasDictIn K A_LoopRow = true)
    (xpo_LoopRow : PySem.W.plainOver K A_LoopRow = true)
    (xsa_LoopRow : PySem.W.findIn K (.ref A_LoopRow) "__setattr__" = some (some (.builtin "object.__setattr__")))
    (xty_LoopRow : PySem.W.typeIn K (.ref A_LoopRow) = some (.type "type"))
    (xkc_LoopRow : PySem.W.findIn K (.ref A_LoopRow) "__class__" = some (some (.builtin "object.__class__")))
    (xmk_LoopRow : PySem.W.makesIn K A_LoopRow = true)
    (xkp_LoopRow : PySem.W.keepIn K (.ref A_LoopRow) = true)
    {xd_DeedRow : ClassData} (x_DeedRow : PySem.W.nsIn K mainGlobals "DeedRow" = some (some (.ref A_DeedRow))) (xl_DeedRow : PySem.W.clsIn K A_DeedRow = some xd_DeedRow) (xm_DeedRow : xd_DeedRow.mro = [A_DeedRow, A_Row].map Value.ref ++ [Value.type "object"])
    (xpg_DeedRow : PySem.W.plainGet K A_DeedRow Str.empty = true)
    (xhd_DeedRow : PySem.W.hasDictIn K A_DeedRow = true)
    (xpo_DeedRow : PySem.W.plainOver K A_DeedRow = true)
    (xsa_DeedRow : PySem.W.findIn K (.ref A_DeedRow) "__setattr__" = some (some (.builtin "object.__setattr__")))
    (xty_DeedRow : PySem.W.typeIn K (.ref A_DeedRow) = some (.type "type"))
    (xkc_DeedRow : PySem.W.findIn K (.ref A_DeedRow) "__class__" = some (some (.builtin "object.__class__")))
    (xmk_DeedRow : PySem.W.makesIn K A_DeedRow = true)
    (xkp_DeedRow : PySem.W.keepIn K (.ref A_DeedRow) = true)
    {xd_Program : ClassData} (x_Program : PySem.W.nsIn K mainGlobals "Program" = some (some (.ref A_Program))) (xl_Program : PySem.W.clsIn K A_Program = some xd_Program) (xm_Program : xd_Program.mro = [A_Program].map Value.ref ++ [Value.type "object"])
    (xpg_Program : PySem.W.plainGet K A_Program Str.empty = true)
    (xhd_Program : PySem.W.hasDictIn K A_Program = true)
    (xpo_Program : PySem.W.plainOver K A_Program = true)
    (xsa_Program : PySem.W.findIn K (.ref A_Program) "__setattr__" = some (some (.builtin "object.__setattr__")))
    (xty_Program : PySem.W.typeIn K (.ref A_Program) = some (.type "type"))
    (xkc_Program : PySem.W.findIn K (.ref A_Program) "__class__" = some (some (.builtin "object.__class__")))
    (xmk_Program : PySem.W.makesIn K A_Program = true)
    (xkp_Program : PySem.W.keepIn K (.ref A_Program) = true)
    {xd_Run : ClassData} (x_Run : PySem.W.nsIn K mainGlobals "Run" = some (some (.ref A_Run))) (xl_Run : PySem.W.clsIn K A_Run = some xd_Run) (xm_Run : xd_Run.mro = [A_Run].map Value.ref ++ [Value.type "object"])
    (xpg_Run : PySem.W.plainGet K A_Run Str.empty = true)
    (xhd_Run : PySem.W.hasDictIn K A_Run = true)
    (xpo_Run : PySem.W.plainOver K A_Run = true)
    (xsa_Run : PySem.W.findIn K (.ref A_Run) "__setattr__" = some (some (.builtin "object.__setattr__")))
    (xty_Run : PySem.W.typeIn K (.ref A_Run) = some (.type "type"))
    (xkc_Run : PySem.W.findIn K (.ref A_Run) "__class__" = some (some (.builtin "object.__class__")))
    (xmk_Run : PySem.W.makesIn K A_Run = true)
    (xkp_Run : PySem.W.keepIn K (.ref A_Run) = true)
    {fi_Book_init : Addr} {ioc_Book_init ikV_Book_init idc_Book_init ipm_Book_init icd_Book_init ict_Book_init : Value} {iod_Book_init ian_Book_init : Option Addr} {isl_Book_init : Array (Option Value)}
    (xi_Book_init : PySem.W.findIn K (.ref A_Book) "__init__" = some (some (.ref fi_Book_init)))
    (xf_Book_init : PySem.W.isFn K (.ref fi_Book_init) = true) (xo_Book_init : K.lookup fi_Book_init = some ⟨ioc_Book_init, iod_Book_init, .func (PySem.W.fnOf "__init__" "Book.__init__" (defArgs s_Book_init) (defBody s_Book_init) (defScope s_Book_init) .none ikV_Book_init idc_Book_init ipm_Book_init ian_Book_init icd_Book_init ict_Book_init), isl_Book_init⟩) (xc_Book_init : PySem.W.codeIn K icd_Book_init "Book.__init__" = true) (xq_Book_init : PySem.W.keepIn K (.ref fi_Book_init) = true)
    (xw_Book_letters : PySem.W.findIn K (.ref A_Book) "letters" = some none)
    (xw_Book_said : PySem.W.findIn K (.ref A_Book) "said" = some none)
    (xw_Book_trace : PySem.W.findIn K (.ref A_Book) "trace" = some none)
    (xw_Book_steps : PySem.W.findIn K (.ref A_Book) "steps" = some none)
    (xw_Book_ends : PySem.W.findIn K (.ref A_Book) "ends" = some none)
    {fi_Row_init : Addr} {ioc_Row_init ikV_Row_init idc_Row_init ipm_Row_init icd_Row_init ict_Row_init : Value} {iod_Row_init ian_Row_init : Option Addr} {isl_Row_init : Array (Option Value)}
    (xi_Row_init : PySem.W.findIn K (.ref A_Row) "__init__" = some (some (.ref fi_Row_init)))
    (xf_Row_init : PySem.W.isFn K (.ref fi_Row_init) = true) (xo_Row_init : K.lookup fi_Row_init = some ⟨ioc_Row_init, iod_Row_init, .func (PySem.W.fnOf "__init__" "Row.__init__" (defArgs s_Row_init) (defBody s_Row_init) (defScope s_Row_init) .none ikV_Row_init idc_Row_init ipm_Row_init ian_Row_init icd_Row_init ict_Row_init), isl_Row_init⟩) (xc_Row_init : PySem.W.codeIn K icd_Row_init "Row.__init__" = true) (xq_Row_init : PySem.W.keepIn K (.ref fi_Row_init) = true)
    {fi_HandRow_init : Addr} {ioc_HandRow_init ikV_HandRow_init idc_HandRow_init ipm_HandRow_init icd_HandRow_init ict_HandRow_init : Value} {iod_HandRow_init ian_HandRow_init : Option Addr} {isl_HandRow_init : Array (Option Value)}
    (xi_HandRow_init : PySem.W.findIn K (.ref A_HandRow) "__init__" = some (some (.ref fi_HandRow_init)))
    (xf_HandRow_init : PySem.W.isFn K (.ref fi_HandRow_init) = true) (xo_HandRow_init : K.lookup fi_HandRow_init = some ⟨ioc_HandRow_init, iod_HandRow_init, .func (PySem.W.fnOf "__init__" "HandRow.__init__" (defArgs s_HandRow_init) (defBody s_HandRow_init) (defScope s_HandRow_init) .none ikV_HandRow_init idc_HandRow_init ipm_HandRow_init ian_HandRow_init icd_HandRow_init ict_HandRow_init), isl_HandRow_init⟩) (xc_HandRow_init : PySem.W.codeIn K icd_HandRow_init "HandRow.__init__" = true) (xq_HandRow_init : PySem.W.keepIn K (.ref fi_HandRow_init) = true)
    (xw_HandRow_name : PySem.W.findIn K (.ref A_HandRow) "name" = some none)
    (xw_HandRow_rank : PySem.W.findIn K (.ref A_HandRow) "rank" = some none)
    (xw_HandRow_number : PySem.W.findIn K (.ref A_HandRow) "number" = some none)
    {fi_GivenRow_init : Addr} {ioc_GivenRow_init ikV_GivenRow_init idc_GivenRow_init ipm_GivenRow_init icd_GivenRow_init ict_GivenRow_init : Value} {iod_GivenRow_init ian_GivenRow_init : Option Addr} {isl_GivenRow_init : Array (Option Value)}
    (xi_GivenRow_init : PySem.W.findIn K (.ref A_GivenRow) "__init__" = some (some (.ref fi_GivenRow_init)))
    (xf_GivenRow_init : PySem.W.isFn K (.ref fi_GivenRow_init) = true) (xo_GivenRow_init : K.lookup fi_GivenRow_init = some ⟨ioc_GivenRow_init, iod_GivenRow_init, .func (PySem.W.fnOf "__init__" "GivenRow.__init__" (defArgs s_GivenRow_init) (defBody s_GivenRow_init) (defScope s_GivenRow_init) .none ikV_GivenRow_init idc_GivenRow_init ipm_GivenRow_init ian_GivenRow_init icd_GivenRow_init ict_GivenRow_init), isl_GivenRow_init⟩) (xc_GivenRow_init : PySem.W.codeIn K icd_GivenRow_init "GivenRow.__init__" = true) (xq_GivenRow_init : PySem.W.keepIn K (.ref fi_GivenRow_init) = true)
    (xw_GivenRow_name : PySem.W.findIn K (.ref A_GivenRow) "name" = some none)
    (xw_GivenRow_rank : PySem.W.findIn K (.ref A_GivenRow) "rank" = some none)
    (xw_GivenRow_size : PySem.W.findIn K (.ref A_GivenRow) "size" = some none)
    (xw_GivenRow_number : PySem.W.findIn K (.ref A_GivenRow) "number" = some none)
    {fi_OwnRow_init : Addr} {ioc_OwnRow_init ikV_OwnRow_init idc_OwnRow_init ipm_OwnRow_init icd_OwnRow_init ict_OwnRow_init : Value} {iod_OwnRow_init ian_OwnRow_init : Option Addr} {isl_OwnRow_init : Array (Option Value)}
    (xi_OwnRow_init : PySem.W.findIn K (.ref A_OwnRow) "__init__" = some (some (.ref fi_OwnRow_init)))
    (xf_OwnRow_init : PySem.W.isFn K (.ref fi_OwnRow_init) = true) (xo_OwnRow_init : K.lookup fi_OwnRow_init = some ⟨ioc_OwnRow_init, iod_OwnRow_init, .func (PySem.W.fnOf "__init__" "OwnRow.__init__" (defArgs s_OwnRow_init) (defBody s_OwnRow_init) (defScope s_OwnRow_init) .none ikV_OwnRow_init idc_OwnRow_init ipm_OwnRow_init ian_OwnRow_init icd_OwnRow_init ict_OwnRow_init), isl_OwnRow_init⟩) (xc_OwnRow_init : PySem.W.codeIn K icd_OwnRow_init "OwnRow.__init__" = true) (xq_OwnRow_init : PySem.W.keepIn K (.ref fi_OwnRow_init) = true)
    (xw_OwnRow_name : PySem.W.findIn K (.ref A_OwnRow) "name" = some none)
    (xw_OwnRow_size : PySem.W.findIn K (.ref A_OwnRow) "size" = some none)
    (xw_OwnRow_number : PySem.W.findIn K (.ref A_OwnRow) "number" = some none)
    {fi_SetRow_init : Addr} {ioc_SetRow_init ikV_SetRow_init idc_SetRow_init ipm_SetRow_init icd_SetRow_init ict_SetRow_init : Value} {iod_SetRow_init ian_SetRow_init : Option Addr} {isl_SetRow_init : Array (Option Value)}
    (xi_SetRow_init : PySem.W.findIn K (.ref A_SetRow) "__init__" = some (some (.ref fi_SetRow_init)))
    (xf_SetRow_init : PySem.W.isFn K (.ref fi_SetRow_init) = true) (xo_SetRow_init : K.lookup fi_SetRow_init = some ⟨ioc_SetRow_init, iod_SetRow_init, .func (PySem.W.fnOf "__init__" "SetRow.__init__" (defArgs s_SetRow_init) (defBody s_SetRow_init) (defScope s_SetRow_init) .none ikV_SetRow_init idc_SetRow_init ipm_SetRow_init ian_SetRow_init icd_SetRow_init ict_SetRow_init), isl_SetRow_init⟩) (xc_SetRow_init : PySem.W.codeIn K icd_SetRow_init "SetRow.__init__" = true) (xq_SetRow_init : PySem.W.keepIn K (.ref fi_SetRow_init) = true)
    (xw_SetRow_name : PySem.W.findIn K (.ref A_SetRow) "name" = some none)
    (xw_SetRow_value : PySem.W.findIn K (.ref A_SetRow) "value" = some none)
    (xw_SetRow_number : PySem.W.findIn K (.ref A_SetRow) "number" = some none)
    {fi_SendRow_init : Addr} {ioc_SendRow_init ikV_SendRow_init idc_SendRow_init ipm_SendRow_init icd_SendRow_init ict_SendRow_init : Value} {iod_SendRow_init ian_SendRow_init : Option Addr} {isl_SendRow_init : Array (Option Value)}
    (xi_SendRow_init : PySem.W.findIn K (.ref A_SendRow) "__init__" = some (some (.ref fi_SendRow_init)))
    (xf_SendRow_init : PySem.W.isFn K (.ref fi_SendRow_init) = true) (xo_SendRow_init : K.lookup fi_SendRow_init = some ⟨ioc_SendRow_init, iod_SendRow_init, .func (PySem.W.fnOf "__init__" "SendRow.__init__" (defArgs s_SendRow_init) (defBody s_SendRow_init) (defScope s_SendRow_init) .none ikV_SendRow_init idc_SendRow_init ipm_SendRow_init ian_SendRow_init icd_SendRow_init ict_SendRow_init), isl_SendRow_init⟩) (xc_SendRow_init : PySem.W.codeIn K icd_SendRow_init "SendRow.__init__" = true) (xq_SendRow_init : PySem.W.keepIn K (.ref fi_SendRow_init) = true)
    (xw_SendRow_name : PySem.W.findIn K (.ref A_SendRow) "name" = some none)
    (xw_SendRow_value : PySem.W.findIn K (.ref A_SendRow) "value" = some none)
    (xw_SendRow_number : PySem.W.findIn K (.ref A_SendRow) "number" = some none)
    {fi_CallRow_init : Addr} {ioc_CallRow_init ikV_CallRow_init idc_CallRow_init ipm_CallRow_init icd_CallRow_init ict_CallRow_init : Value} {iod_CallRow_init ian_CallRow_init : Option Addr} {isl_CallRow_init : Array (Option Value)}
    (xi_CallRow_init : PySem.W.findIn K (.ref A_CallRow) "__init__" = some (some (.ref fi_CallRow_init)))
    (xf_CallRow_init : PySem.W.isFn K (.ref fi_CallRow_init) = true) (xo_CallRow_init : K.lookup fi_CallRow_init = some ⟨ioc_CallRow_init, iod_CallRow_init, .func (PySem.W.fnOf "__init__" "CallRow.__init__" (defArgs s_CallRow_init) (defBody s_CallRow_init) (defScope s_CallRow_init) .none ikV_CallRow_init idc_CallRow_init ipm_CallRow_init ian_CallRow_init icd_CallRow_init ict_CallRow_init), isl_CallRow_init⟩) (xc_CallRow_init : PySem.W.codeIn K icd_CallRow_init "CallRow.__init__" = true) (xq_CallRow_init : PySem.W.keepIn K (.ref fi_CallRow_init) = true)
    (xw_CallRow_name : PySem.W.findIn K (.ref A_CallRow) "name" = some none)
    (xw_CallRow_things : PySem.W.findIn K (.ref A_CallRow) "things" = some none)
    (xw_CallRow_number : PySem.W.findIn K (.ref A_CallRow) "number" = some none)
    {fi_DeedRow_init : Addr} {ioc_DeedRow_init ikV_DeedRow_init idc_DeedRow_init ipm_DeedRow_init icd_DeedRow_init ict_DeedRow_init : Value} {iod_DeedRow_init ian_DeedRow_init : Option Addr} {isl_DeedRow_init : Array (Option Value)}
    (xi_DeedRow_init : PySem.W.findIn K (.ref A_DeedRow) "__init__" = some (some (.ref fi_DeedRow_init)))
    (xf_DeedRow_init : PySem.W.isFn K (.ref fi_DeedRow_init) = true) (xo_DeedRow_init : K.lookup fi_DeedRow_init = some ⟨ioc_DeedRow_init, iod_DeedRow_init, .func (PySem.W.fnOf "__init__" "DeedRow.__init__" (defArgs s_DeedRow_init) (defBody s_DeedRow_init) (defScope s_DeedRow_init) .none ikV_DeedRow_init idc_DeedRow_init ipm_DeedRow_init ian_DeedRow_init icd_DeedRow_init ict_DeedRow_init), isl_DeedRow_init⟩) (xc_DeedRow_init : PySem.W.codeIn K icd_DeedRow_init "DeedRow.__init__" = true) (xq_DeedRow_init : PySem.W.keepIn K (.ref fi_DeedRow_init) = true)
    (xw_DeedRow_name : PySem.W.findIn K (.ref A_DeedRow) "name" = some none)
    (xw_DeedRow_parts : PySem.W.findIn K (.ref A_DeedRow) "parts" = some none)
    (xw_DeedRow_body : PySem.W.findIn K (.ref A_DeedRow) "body" = some none)
    (xw_DeedRow_number : PySem.W.findIn K (.ref A_DeedRow) "number" = some none)
    {fi_Program_init : Addr} {ioc_Program_init ikV_Program_init idc_Program_init ipm_Program_init icd_Program_init ict_Program_init : Value} {iod_Program_init ian_Program_init : Option Addr} {isl_Program_init : Array (Option Value)}
    (xi_Program_init : PySem.W.findIn K (.ref A_Program) "__init__" = some (some (.ref fi_Program_init)))
    (xf_Program_init : PySem.W.isFn K (.ref fi_Program_init) = true) (xo_Program_init : K.lookup fi_Program_init = some ⟨ioc_Program_init, iod_Program_init, .func (PySem.W.fnOf "__init__" "Program.__init__" (defArgs s_Program_init) (defBody s_Program_init) (defScope s_Program_init) .none ikV_Program_init idc_Program_init ipm_Program_init ian_Program_init icd_Program_init ict_Program_init), isl_Program_init⟩) (xc_Program_init : PySem.W.codeIn K icd_Program_init "Program.__init__" = true) (xq_Program_init : PySem.W.keepIn K (.ref fi_Program_init) = true)
    (xw_Program_heads : PySem.W.findIn K (.ref A_Program) "heads" = some none)
    (xw_Program_deeds : PySem.W.findIn K (.ref A_Program) "deeds" = some none)
    (xw_Program_main : PySem.W.findIn K (.ref A_Program) "main" = some none)
    {fi_Run_init : Addr} {ioc_Run_init ikV_Run_init idc_Run_init ipm_Run_init icd_Run_init ict_Run_init : Value} {iod_Run_init ian_Run_init : Option Addr} {isl_Run_init : Array (Option Value)}
    (xi_Run_init : PySem.W.findIn K (.ref A_Run) "__init__" = some (some (.ref fi_Run_init)))
    (xf_Run_init : PySem.W.isFn K (.ref fi_Run_init) = true) (xo_Run_init : K.lookup fi_Run_init = some ⟨ioc_Run_init, iod_Run_init, .func (PySem.W.fnOf "__init__" "Run.__init__" (defArgs s_Run_init) (defBody s_Run_init) (defScope s_Run_init) .none ikV_Run_init idc_Run_init ipm_Run_init ian_Run_init icd_Run_init ict_Run_init), isl_Run_init⟩) (xc_Run_init : PySem.W.codeIn K icd_Run_init "Run.__init__" = true) (xq_Run_init : PySem.W.keepIn K (.ref fi_Run_init) = true)
    {fi_Run_number_at : Addr} {ioc_Run_number_at ikV_Run_number_at idc_Run_number_at ipm_Run_number_at icd_Run_number_at ict_Run_number_at : Value} {iod_Run_number_at ian_Run_number_at : Option Addr} {isl_Run_number_at : Array (Option Value)}
    (xi_Run_number_at : PySem.W.findIn K (.ref A_Run) "number_at" = some (some (.ref fi_Run_number_at)))
    (xf_Run_number_at : PySem.W.isFn K (.ref fi_Run_number_at) = true) (xo_Run_number_at : K.lookup fi_Run_number_at = some ⟨ioc_Run_number_at, iod_Run_number_at, .func (PySem.W.fnOf "number_at" "Run.number_at" (defArgs s_Run_number_at) (defBody s_Run_number_at) (defScope s_Run_number_at) .none ikV_Run_number_at idc_Run_number_at ipm_Run_number_at ian_Run_number_at icd_Run_number_at ict_Run_number_at), isl_Run_number_at⟩) (xc_Run_number_at : PySem.W.codeIn K icd_Run_number_at "Run.number_at" = true) (xq_Run_number_at : PySem.W.keepIn K (.ref fi_Run_number_at) = true)
    {fi_Run_number_for : Addr} {ioc_Run_number_for ikV_Run_number_for idc_Run_number_for ipm_Run_number_for icd_Run_number_for ict_Run_number_for : Value} {iod_Run_number_for ian_Run_number_for : Option Addr} {isl_Run_number_for : Array (Option Value)}
    (xi_Run_number_for : PySem.W.findIn K (.ref A_Run) "number_for" = some (some (.ref fi_Run_number_for)))
    (xf_Run_number_for : PySem.W.isFn K (.ref fi_Run_number_for) = true) (xo_Run_number_for : K.lookup fi_Run_number_for = some ⟨ioc_Run_number_for, iod_Run_number_for, .func (PySem.W.fnOf "number_for" "Run.number_for" (defArgs s_Run_number_for) (defBody s_Run_number_for) (defScope s_Run_number_for) .none ikV_Run_number_for idc_Run_number_for ipm_Run_number_for ian_Run_number_for icd_Run_number_for ict_Run_number_for), isl_Run_number_for⟩) (xc_Run_number_for : PySem.W.codeIn K icd_Run_number_for "Run.number_for" = true) (xq_Run_number_for : PySem.W.keepIn K (.ref fi_Run_number_for) = true)
    {fi_Run_number_told : Addr} {ioc_Run_number_told ikV_Run_number_told idc_Run_number_told ipm_Run_number_told icd_Run_number_told ict_Run_number_told : Value} {iod_Run_number_told ian_Run_number_told : Option Addr} {isl_Run_number_told : Array (Option Value)}
    (xi_Run_number_told : PySem.W.findIn K (.ref A_Run) "number_told" = some (some (.ref fi_Run_number_told)))
    (xf_Run_number_told : PySem.W.isFn K (.ref fi_Run_number_told) = true) (xo_Run_number_told : K.lookup fi_Run_number_told = some ⟨ioc_Run_number_told, iod_Run_number_told, .func (PySem.W.fnOf "number_told" "Run.number_told" (defArgs s_Run_number_told) (defBody s_Run_number_told) (defScope s_Run_number_told) .none ikV_Run_number_told idc_Run_number_told ipm_Run_number_told ian_Run_number_told icd_Run_number_told ict_Run_number_told), isl_Run_number_told⟩) (xc_Run_number_told : PySem.W.codeIn K icd_Run_number_told "Run.number_told" = true) (xq_Run_number_told : PySem.W.keepIn K (.ref fi_Run_number_told) = true)
    {fi_Run_pass_steps : Addr} {ioc_Run_pass_steps ikV_Run_pass_steps idc_Run_pass_steps ipm_Run_pass_steps icd_Run_pass_steps ict_Run_pass_steps : Value} {iod_Run_pass_steps ian_Run_pass_steps : Option Addr} {isl_Run_pass_steps : Array (Option Value)}
    (xi_Run_pass_steps : PySem.W.findIn K (.ref A_Run) "pass_steps" = some (some (.ref fi_Run_pass_steps)))
    (xf_Run_pass_steps : PySem.W.isFn K (.ref fi_Run_pass_steps) = true) (xo_Run_pass_steps : K.lookup fi_Run_pass_steps = some ⟨ioc_Run_pass_steps, iod_Run_pass_steps, .func (PySem.W.fnOf "pass_steps" "Run.pass_steps" (defArgs s_Run_pass_steps) (defBody s_Run_pass_steps) (defScope s_Run_pass_steps) .none ikV_Run_pass_steps idc_Run_pass_steps ipm_Run_pass_steps ian_Run_pass_steps icd_Run_pass_steps ict_Run_pass_steps), isl_Run_pass_steps⟩) (xc_Run_pass_steps : PySem.W.codeIn K icd_Run_pass_steps "Run.pass_steps" = true) (xq_Run_pass_steps : PySem.W.keepIn K (.ref fi_Run_pass_steps) = true)
    {fi_Run_do_rows : Addr} {ioc_Run_do_rows ikV_Run_do_rows idc_Run_do_rows ipm_Run_do_rows icd_Run_do_rows ict_Run_do_rows : Value} {iod_Run_do_rows ian_Run_do_rows : Option Addr} {isl_Run_do_rows : Array (Option Value)}
    (xi_Run_do_rows : PySem.W.findIn K (.ref A_Run) "do_rows" = some (some (.ref fi_Run_do_rows)))
    (xf_Run_do_rows : PySem.W.isFn K (.ref fi_Run_do_rows) = true) (xo_Run_do_rows : K.lookup fi_Run_do_rows = some ⟨ioc_Run_do_rows, iod_Run_do_rows, .func (PySem.W.fnOf "do_rows" "Run.do_rows" (defArgs s_Run_do_rows) (defBody s_Run_do_rows) (defScope s_Run_do_rows) .none ikV_Run_do_rows idc_Run_do_rows ipm_Run_do_rows ian_Run_do_rows icd_Run_do_rows ict_Run_do_rows), isl_Run_do_rows⟩) (xc_Run_do_rows : PySem.W.codeIn K icd_Run_do_rows "Run.do_rows" = true) (xq_Run_do_rows : PySem.W.keepIn K (.ref fi_Run_do_rows) = true)
    {fi_Run_do_row : Addr} {ioc_Run_do_row ikV_Run_do_row idc_Run_do_row ipm_Run_do_row icd_Run_do_row ict_Run_do_row : Value} {iod_Run_do_row ian_Run_do_row : Option Addr} {isl_Run_do_row : Array (Option Value)}
    (xi_Run_do_row : PySem.W.findIn K (.ref A_Run) "do_row" = some (some (.ref fi_Run_do_row)))
    (xf_Run_do_row : PySem.W.isFn K (.ref fi_Run_do_row) = true) (xo_Run_do_row : K.lookup fi_Run_do_row = some ⟨ioc_Run_do_row, iod_Run_do_row, .func (PySem.W.fnOf "do_row" "Run.do_row" (defArgs s_Run_do_row) (defBody s_Run_do_row) (defScope s_Run_do_row) .none ikV_Run_do_row idc_Run_do_row ipm_Run_do_row ian_Run_do_row icd_Run_do_row ict_Run_do_row), isl_Run_do_row⟩) (xc_Run_do_row : PySem.W.codeIn K icd_Run_do_row "Run.do_row" = true) (xq_Run_do_row : PySem.W.keepIn K (.ref fi_Run_do_row) = true)
    {fi_Run_do_call : Addr} {ioc_Run_do_call ikV_Run_do_call idc_Run_do_call ipm_Run_do_call icd_Run_do_call ict_Run_do_call : Value} {iod_Run_do_call ian_Run_do_call : Option Addr} {isl_Run_do_call : Array (Option Value)}
    (xi_Run_do_call : PySem.W.findIn K (.ref A_Run) "do_call" = some (some (.ref fi_Run_do_call)))
    (xf_Run_do_call : PySem.W.isFn K (.ref fi_Run_do_call) = true) (xo_Run_do_call : K.lookup fi_Run_do_call = some ⟨ioc_Run_do_call, iod_Run_do_call, .func (PySem.W.fnOf "do_call" "Run.do_call" (defArgs s_Run_do_call) (defBody s_Run_do_call) (defScope s_Run_do_call) .none ikV_Run_do_call idc_Run_do_call ipm_Run_do_call ian_Run_do_call icd_Run_do_call ict_Run_do_call), isl_Run_do_call⟩) (xc_Run_do_call : PySem.W.codeIn K icd_Run_do_call "Run.do_call" = true) (xq_Run_do_call : PySem.W.keepIn K (.ref fi_Run_do_call) = true)
    (xw_Run_deeds : PySem.W.findIn K (.ref A_Run) "deeds" = some none)
    (xw_Run_cells : PySem.W.findIn K (.ref A_Run) "cells" = some none)
    (xw_Run_book : PySem.W.findIn K (.ref A_Run) "book" = some none)
    (yg_Row_init : PySem.W.specialIn K (.ref A_Row) "__getattribute__" = some (some (.builtin "type.__getattribute__"))) (yr_Row_init : PySem.W.readsIn K A_Row (.type "type") = true) (yf_Row_init : PySem.W.findCls K (.ref A_Row) (.type "type") "__init__" = some (.val (.ref fi_Row_init)))
    (nod : [A_Book, A_Row, A_HandRow, A_GivenRow, A_OwnRow, A_SetRow, A_PutRow, A_SendRow, A_SayRow, A_CallRow, A_LastRow, A_IfRow, A_LoopRow, A_DeedRow, A_Program, A_Run].Nodup)
    : ∃ fd : FuncData, (∀ (s : Shared) (v : Value), BindsTo s fd ⟨[v], []⟩ [("_law_script", v)]) ∧ ∀ base : Heap, K.In base → base.Ns mainGlobals mg → FnOk l.prog w K mg base CX0 40 fa fd ["_law_script"] (sp_law K) := by
  have t1 : TopFn K mg "is_number" s_is_number ["thing"] := topFn_mk X G a1 l1 c1 k1 fun _ _ _ _ _ _ us hl => (by obtain ⟨_, rfl⟩ := exN1 hl; rfl)
  have t2 : TopFn K mg "is_good" s_is_good ["gift", "size"] := topFn_mk X G a2 l2 c2 k2 fun _ _ _ _ _ _ us hl => (by obtain ⟨_, _, rfl⟩ := exN2 hl; rfl)
  have t3 : TopFn K mg "given_cell" s_given_cell ["given", "gifts"] := topFn_mk X G a3 l3 c3 k3 fun _ _ _ _ _ _ us hl => (by obtain ⟨_, _, rfl⟩ := exN2 hl; rfl)
  have t4 : TopFn K mg "own_cell" s_own_cell ["own"] := topFn_mk X G a4 l4 c4 k4 fun _ _ _ _ _ _ us hl => (by obtain ⟨_, rfl⟩ := exN1 hl; rfl)
  have t5 : TopFn K mg "cells_of" s_cells_of ["program", "gifts"] := topFn_mk X G a5 l5 c5 k5 fun _ _ _ _ _ _ us hl => (by obtain ⟨_, _, rfl⟩ := exN2 hl; rfl)
  have t6 : TopFn K mg "reckon" s_reckon ["one", "word", "other"] := topFn_mk X G a6 l6 c6 k6 fun _ _ _ _ _ _ us hl => (by obtain ⟨_, _, _, rfl⟩ := exN3 hl; rfl)
  have t8 : TopFn K mg "ends_of" s_ends_of ["program", "cells"] := topFn_mk X G a8 l8 c8 k8 fun _ _ _ _ _ _ us hl => (by obtain ⟨_, _, rfl⟩ := exN2 hl; rfl)
  have t9 : TopFn K mg "run" s_run ["program", "gifts"] := topFn_mk X G a9 l9 c9 k9 fun _ _ _ _ _ _ us hl => (by obtain ⟨_, _, rfl⟩ := exN2 hl; rfl)
  have t10 : TopFn K mg "_law_cell_at" s_law_cell_at ["_law_script", "_law_k"] := topFn_mk X G a10 l10 c10 k10 fun _ _ _ _ _ _ us hl => (by obtain ⟨_, _, rfl⟩ := exN2 hl; rfl)
  have t11 : TopFn K mg "_law_mix" s_law_mix ["_law_cell", "_law_k"] := topFn_mk X G a11 l11 c11 k11 fun _ _ _ _ _ _ us hl => (by obtain ⟨_, _, rfl⟩ := exN2 hl; rfl)
  have t12 : TopFn K mg "_law_name" s_law_name ["_law_cell", "_law_k"] := topFn_mk X G a12 l12 c12 k12 fun _ _ _ _ _ _ us hl => (by obtain ⟨_, _, rfl⟩ := exN2 hl; rfl)
  have t13 : TopFn K mg "_law_thing" s_law_thing ["_law_number", "_law_things"] := topFn_mk X G a13 l13 c13 k13 fun _ _ _ _ _ _ us hl => (by obtain ⟨_, _, rfl⟩ := exN2 hl; rfl)
  have t14 : TopFn K mg "_law_deed" s_law_deed ["_law_script", "_law_names", "_law_k", "_law_at"] := topFn_mk X G a14 l14 c14 k14 fun _ _ _ _ _ _ us hl => (by obtain ⟨_, _, _, _, rfl⟩ := exN4 hl; rfl)
  have t15 : TopFn K mg "_law_deeds" s_law_deeds ["_law_script", "_law_names"] := topFn_mk X G a15 l15 c15 k15 fun _ _ _ _ _ _ us hl => (by obtain ⟨_, _, rfl⟩ := exN2 hl; rfl)
  have t16 : TopFn K mg "_law_made" s_law_made ["_law_deed_here", "_law_deeds_here"] := topFn_mk X G a16 l16 c16 k16 fun _ _ _ _ _ _ us hl => (by obtain ⟨_, _, rfl⟩ := exN2 hl; rfl)
  have t17 : TopFn K mg "_law_calls" s_law_calls ["_law_script", "_law_names", "_law_deeds_here"] := topFn_mk X G a17 l17 c17 k17 fun _ _ _ _ _ _ us hl => (by obtain ⟨_, _, _, rfl⟩ := exN3 hl; rfl)
  have t18 : TopFn K mg "_law_tell" s_law_tell ["_law_book", "_law_at", "_law_told"] := topFn_mk X G a18 l18 c18 k18 fun _ _ _ _ _ _ us hl => (by obtain ⟨_, _, _, rfl⟩ := exN3 hl; rfl)
  have t19 : TopFn K mg "_law_call" s_law_call ["_law_book", "_law_deeds_here", "_law_called", "_law_things", "_law_at"] := topFn_mk X G a19 l19 c19 k19 fun _ _ _ _ _ _ us hl => (by obtain ⟨_, _, _, _, _, rfl⟩ := exN5 hl; rfl)
  have t20 : TopFn K mg "_law_same" s_law_same ["_law_found", "_law_due"] := topFn_mk X G a20 l20 c20 k20 fun _ _ _ _ _ _ us hl => (by obtain ⟨_, _, rfl⟩ := exN2 hl; rfl)
  have t21 : TopFn K mg "law" s_law ["_law_script"] := topFn_mk X G a21 l21 c21 k21 fun _ _ _ _ _ _ us hl => (by obtain ⟨_, rfl⟩ := exN1 hl; rfl)
  have T : Txt K mg ⟨A_Book, A_Row, A_HandRow, A_GivenRow, A_OwnRow, A_SetRow, A_PutRow, A_SendRow, A_SayRow, A_CallRow, A_LastRow, A_IfRow, A_LoopRow, A_DeedRow, A_Program, A_Run⟩ := { is_number := t1, is_good := t2, given_cell := t3, own_cell := t4, cells_of := t5, reckon := t6, ends_of := t8, run := t9, law_cell_at := t10, law_mix := t11, law_name := t12, law_thing := t13, law_deed := t14, law_deeds := t15, law_made := t16, law_calls := t17, law_tell := t18, law_call := t19, law_same := t20, z_all := PySem.W.mg_none_of X G z_all, z_bool := PySem.W.mg_none_of X G z_bool, z_dict := PySem.W.mg_none_of X G z_dict, z_int := PySem.W.mg_none_of X G z_int, z_isinstance := PySem.W.mg_none_of X G z_isinstance, z_len := PySem.W.mg_none_of X G z_len, z_list := PySem.W.mg_none_of X G z_list, z_range := PySem.W.mg_none_of X G z_range, z_str := PySem.W.mg_none_of X G z_str, z_tuple := PySem.W.mg_none_of X G z_tuple, z_zip := PySem.W.mg_none_of X G z_zip, c_MOST_NUMBER := ⟨_, PySem.W.mg_of X G g_MOST_NUMBER⟩, c_ROUND := ⟨_, PySem.W.mg_of X G g_ROUND⟩, o_Book := ⟨PySem.W.mg_of X G x_Book, ⟨xpg_Book, xhd_Book, xpo_Book, xsa_Book⟩, ⟨_, xl_Book, xm_Book⟩, xty_Book, xkc_Book, cg, ct, xmk_Book, xkp_Book⟩, m_Book_init := mFn_mk xi_Book_init xf_Book_init xo_Book_init xc_Book_init xq_Book_init fun _ _ _ _ _ _ us hl => (by obtain ⟨_, rfl⟩ := exN1 hl; rfl), n_Book_letters := xw_Book_letters, n_Book_said := xw_Book_said, n_Book_trace := xw_Book_trace, n_Book_steps := xw_Book_steps, n_Book_ends := xw_Book_ends, o_Row := ⟨PySem.W.mg_of X G x_Row, ⟨xpg_Row, xhd_Row, xpo_Row, xsa_Row⟩, ⟨_, xl_Row, xm_Row⟩, xty_Row, xkc_Row, cg, ct, xmk_Row, xkp_Row⟩, m_Row_init := mFn_mk xi_Row_init xf_Row_init xo_Row_init xc_Row_init xq_Row_init fun _ _ _ _ _ _ us hl => (by obtain ⟨_, _, rfl⟩ := exN2 hl; rfl), o_HandRow := ⟨PySem.W.mg_of X G x_HandRow, ⟨xpg_HandRow, xhd_HandRow, xpo_HandRow, xsa_HandRow⟩, ⟨_, xl_HandRow, xm_HandRow⟩, xty_HandRow, xkc_HandRow, cg, ct, xmk_HandRow, xkp_HandRow⟩, m_HandRow_init := mFn_mk xi_HandRow_init xf_HandRow_init xo_HandRow_init xc_HandRow_init xq_HandRow_init fun _ _ _ _ _ _ us hl => (by obtain ⟨_, _, _, _, rfl⟩ := exN4 hl; rfl), n_HandRow_name := xw_HandRow_name, n_HandRow_rank := xw_HandRow_rank, n_HandRow_number := xw_HandRow_number, o_GivenRow := ⟨PySem.W.mg_of X G x_GivenRow, ⟨xpg_GivenRow, xhd_GivenRow, xpo_GivenRow, xsa_GivenRow⟩, ⟨_, xl_GivenRow, xm_GivenRow⟩, xty_GivenRow, xkc_GivenRow, cg, ct, xmk_GivenRow, xkp_GivenRow⟩, m_GivenRow_init := mFn_mk xi_GivenRow_init xf_GivenRow_init xo_GivenRow_init xc_GivenRow_init xq_GivenRow_init fun _ _ _ _ _ _ us hl => (by obtain ⟨_, _, _, _, _, rfl⟩ := exN5 hl; rfl), n_GivenRow_name := xw_GivenRow_name, n_GivenRow_rank := xw_GivenRow_rank, n_GivenRow_size := xw_GivenRow_size, n_GivenRow_number := xw_GivenRow_number, o_OwnRow := ⟨PySem.W.mg_of X G x_OwnRow, ⟨xpg_OwnRow, xhd_OwnRow, xpo_OwnRow, xsa_OwnRow⟩, ⟨_, xl_OwnRow, xm_OwnRow⟩, xty_OwnRow, xkc_OwnRow, cg, ct, xmk_OwnRow, xkp_OwnRow⟩, m_OwnRow_init := mFn_mk xi_OwnRow_init xf_OwnRow_init xo_OwnRow_init xc_OwnRow_init xq_OwnRow_init fun _ _ _ _ _ _ us hl => (by obtain ⟨_, _, _, _, rfl⟩ := exN4 hl; rfl), n_OwnRow_name := xw_OwnRow_name, n_OwnRow_size := xw_OwnRow_size, n_OwnRow_number := xw_OwnRow_number, o_SetRow := ⟨PySem.W.mg_of X G x_SetRow, ⟨xpg_SetRow, xhd_SetRow, xpo_SetRow, xsa_SetRow⟩, ⟨_, xl_SetRow, xm_SetRow⟩, xty_SetRow, xkc_SetRow, cg, ct, xmk_SetRow, xkp_SetRow⟩, m_SetRow_init := mFn_mk xi_SetRow_init xf_SetRow_init xo_SetRow_init xc_SetRow_init xq_SetRow_init fun _ _ _ _ _ _ us hl => (by obtain ⟨_, _, _, _, rfl⟩ := exN4 hl; rfl), n_SetRow_name := xw_SetRow_name, n_SetRow_value := xw_SetRow_value, n_SetRow_number := xw_SetRow_number, o_PutRow := ⟨PySem.W.mg_of X G x_PutRow, ⟨xpg_PutRow, xhd_PutRow, xpo_PutRow, xsa_PutRow⟩, ⟨_, xl_PutRow, xm_PutRow⟩, xty_PutRow, xkc_PutRow, cg, ct, xmk_PutRow, xkp_PutRow⟩, o_SendRow := ⟨PySem.W.mg_of X G x_SendRow, ⟨xpg_SendRow, xhd_SendRow, xpo_SendRow, xsa_SendRow⟩, ⟨_, xl_SendRow, xm_SendRow⟩, xty_SendRow, xkc_SendRow, cg, ct, xmk_SendRow, xkp_SendRow⟩, m_SendRow_init := mFn_mk xi_SendRow_init xf_SendRow_init xo_SendRow_init xc_SendRow_init xq_SendRow_init fun _ _ _ _ _ _ us hl => (by obtain ⟨_, _, _, _, rfl⟩ := exN4 hl; rfl), n_SendRow_name := xw_SendRow_name, n_SendRow_value := xw_SendRow_value, n_SendRow_number := xw_SendRow_number, o_SayRow := ⟨PySem.W.mg_of X G x_SayRow, ⟨xpg_SayRow, xhd_SayRow, xpo_SayRow, xsa_SayRow⟩, ⟨_, xl_SayRow, xm_SayRow⟩, xty_SayRow, xkc_SayRow, cg, ct, xmk_SayRow, xkp_SayRow⟩, o_CallRow := ⟨PySem.W.mg_of X G x_CallRow, ⟨xpg_CallRow, xhd_CallRow, xpo_CallRow, xsa_CallRow⟩, ⟨_, xl_CallRow, xm_CallRow⟩, xty_CallRow, xkc_CallRow, cg, ct, xmk_CallRow, xkp_CallRow⟩, m_CallRow_init := mFn_mk xi_CallRow_init xf_CallRow_init xo_CallRow_init xc_CallRow_init xq_CallRow_init fun _ _ _ _ _ _ us hl => (by obtain ⟨_, _, _, _, rfl⟩ := exN4 hl; rfl), n_CallRow_name := xw_CallRow_name, n_CallRow_things := xw_CallRow_things, n_CallRow_number := xw_CallRow_number, o_LastRow := ⟨PySem.W.mg_of X G x_LastRow, ⟨xpg_LastRow, xhd_LastRow, xpo_LastRow, xsa_LastRow⟩, ⟨_, xl_LastRow, xm_LastRow⟩, xty_LastRow, xkc_LastRow, cg, ct, xmk_LastRow, xkp_LastRow⟩, o_IfRow := ⟨PySem.W.mg_of X G x_IfRow, ⟨xpg_IfRow, xhd_IfRow, xpo_IfRow, xsa_IfRow⟩, ⟨_, xl_IfRow, xm_IfRow⟩, xty_IfRow, xkc_IfRow, cg, ct, xmk_IfRow, xkp_IfRow⟩, o_LoopRow := ⟨PySem.W.mg_of X G x_LoopRow, ⟨xpg_LoopRow, xhd_LoopRow, xpo_LoopRow, xsa_LoopRow⟩, ⟨_, xl_LoopRow, xm_LoopRow⟩, xty_LoopRow, xkc_LoopRow, cg, ct, xmk_LoopRow, xkp_LoopRow⟩, o_DeedRow := ⟨PySem.W.mg_of X G x_DeedRow, ⟨xpg_DeedRow, xhd_DeedRow, xpo_DeedRow, xsa_DeedRow⟩, ⟨_, xl_DeedRow, xm_DeedRow⟩, xty_DeedRow, xkc_DeedRow, cg, ct, xmk_DeedRow, xkp_DeedRow⟩, m_DeedRow_init := mFn_mk xi_DeedRow_init xf_DeedRow_init xo_DeedRow_init xc_DeedRow_init xq_DeedRow_init fun _ _ _ _ _ _ us hl => (by obtain ⟨_, _, _, _, _, rfl⟩ := exN5 hl; rfl), n_DeedRow_name := xw_DeedRow_name, n_DeedRow_parts := xw_DeedRow_parts, n_DeedRow_body := xw_DeedRow_body, n_DeedRow_number := xw_DeedRow_number, o_Program := ⟨PySem.W.mg_of X G x_Program, ⟨xpg_Program, xhd_Program, xpo_Program, xsa_Program⟩, ⟨_, xl_Program, xm_Program⟩, xty_Program, xkc_Program, cg, ct, xmk_Program, xkp_Program⟩, m_Program_init := mFn_mk xi_Program_init xf_Program_init xo_Program_init xc_Program_init xq_Program_init fun _ _ _ _ _ _ us hl => (by obtain ⟨_, _, _, _, rfl⟩ := exN4 hl; rfl), n_Program_heads := xw_Program_heads, n_Program_deeds := xw_Program_deeds, n_Program_main := xw_Program_main, o_Run := ⟨PySem.W.mg_of X G x_Run, ⟨xpg_Run, xhd_Run, xpo_Run, xsa_Run⟩, ⟨_, xl_Run, xm_Run⟩, xty_Run, xkc_Run, cg, ct, xmk_Run, xkp_Run⟩, m_Run_init := mFn_mk xi_Run_init xf_Run_init xo_Run_init xc_Run_init xq_Run_init fun _ _ _ _ _ _ us hl => (by obtain ⟨_, _, _, rfl⟩ := exN3 hl; rfl), m_Run_number_at := mFn_mk xi_Run_number_at xf_Run_number_at xo_Run_number_at xc_Run_number_at xq_Run_number_at fun _ _ _ _ _ _ us hl => (by obtain ⟨_, _, rfl⟩ := exN2 hl; rfl), m_Run_number_for := mFn_mk xi_Run_number_for xf_Run_number_for xo_Run_number_for xc_Run_number_for xq_Run_number_for fun _ _ _ _ _ _ us hl => (by obtain ⟨_, _, rfl⟩ := exN2 hl; rfl), m_Run_number_told := mFn_mk xi_Run_number_told xf_Run_number_told xo_Run_number_told xc_Run_number_told xq_Run_number_told fun _ _ _ _ _ _ us hl => (by obtain ⟨_, _, rfl⟩ := exN2 hl; rfl), m_Run_pass_steps := mFn_mk xi_Run_pass_steps xf_Run_pass_steps xo_Run_pass_steps xc_Run_pass_steps xq_Run_pass_steps fun _ _ _ _ _ _ us hl => (by obtain ⟨_, _, rfl⟩ := exN2 hl; rfl), m_Run_do_rows := mFn_mk xi_Run_do_rows xf_Run_do_rows xo_Run_do_rows xc_Run_do_rows xq_Run_do_rows fun _ _ _ _ _ _ us hl => (by obtain ⟨_, _, rfl⟩ := exN2 hl; rfl), m_Run_do_row := mFn_mk xi_Run_do_row xf_Run_do_row xo_Run_do_row xc_Run_do_row xq_Run_do_row fun _ _ _ _ _ _ us hl => (by obtain ⟨_, _, rfl⟩ := exN2 hl; rfl), m_Run_do_call := mFn_mk xi_Run_do_call xf_Run_do_call xo_Run_do_call xc_Run_do_call xq_Run_do_call fun _ _ _ _ _ _ us hl => (by obtain ⟨_, _, rfl⟩ := exN2 hl; rfl), n_Run_deeds := xw_Run_deeds, n_Run_cells := xw_Run_cells, n_Run_book := xw_Run_book, of_Row_init := ⟨yg_Row_init, yr_Row_init, _, xi_Row_init, yf_Row_init⟩, nd := nod }
  refine ⟨PySem.W.fnOf "law" "law" (defArgs s_law) (defBody s_law) (defScope s_law) .none kV21 dc21 pm21 an21 cd21 ct21, fun s v => .of_eq rfl, fun base _ _ => ?_⟩
  have e := hfa.symm.trans (PySem.W.mg_of X G a21)
  cases e
  exact has_at (h_law (P := l.prog) (w := w) (base := base) T t21) (PySem.W.mg_of X G a21) l21
theorem walk {l : PySem.W.OpenLaw} {q : Program} {loose : List Str} {XP : (Str → Option Value) → Heap → Prop} {YP : World → Heap → Prop} {d : DefRec} {K : Params → PySem.W.Frag} (hn : l.most = some 63) (hdf : d.params.defaults = []) (hY : ∀ (w : World) (h : Heap), YP w h → (K w.params).In h)
    (F : ∀ (w : World) (mg : Str → Option Value) (fa : Addr) (h : Heap), (K w.params).In h → h.Ns mainGlobals mg → mg d.name = some (.ref fa) → ∃ fd : FuncData, (∀ (s : Shared) (u : Value), BindsTo s fd ⟨[u], []⟩ [("_law_script", u)]) ∧ ∀ base : Heap, (K w.params).In base → base.Ns mainGlobals mg → FnOk l.prog w (K w.params) mg base CX0 40 fa fd ["_law_script"] (sp_law (K w.params))) :
    PySem.W.WalkO q loose XP YP l.row.toRowW d [] (fun f vs => PySem.call f vs) :=
  L2.walk_of (n := 63) (k := 40) (x := "_law_script") (CX := fun _ => CX0) (sp := fun w => sp_law (K w.params)) hn (by decide) hdf ⟨rfl, by decide, by decide⟩ hY F (fun _ _ a ns hl _ hS => ⟨a, ns, rfl, hS, hl, fun _ => rfl⟩) fun _ _ _ _ _ z => z
end K26
open PySem PySem.W PyProof.Rows
set_option maxRecDepth 100000 in
set_option maxHeartbeats 0 in
theorem PySem.Challenge.cw_hushrow_k26_calls_holds : PySem.Challenge.rw_hushrow_k26_calls.Holds := by
  w_on; o_law
  refine PySem.W.holds_open (q := K26.seenAt) (loose := []) (Xt := K26.test) (XP := PySem.W.XL K26.seenAt []) (Yf := (PySem.W.kHook K26.heapK K26.keysK K26.keysK_eq).obs) (Ya := (PySem.W.kHook K26.heapK K26.keysK K26.keysK_eq).val) (YP := (PySem.W.kHook K26.heapK K26.keysK K26.keysK_eq).says) (N := 12380) K26.left (PySem.W.kHook K26.heapK K26.keysK K26.keysK_eq).of (PySem.W.kHook K26.heapK K26.keysK K26.keysK_eq).keeps
    (fun s e => PySem.W.xl_of s (Bool.and_eq_true_iff.mp e).1) PySem.W.XL.keeps (by rfl) (by rfl) (by rfl) (fun s e => PySem.W.recFacts_of (Bool.and_eq_true_iff.mp e).2) ?h4 ?h5 ?h6 ⟨rfl, rfl, rfl, rfl, rfl, by decide +kernel⟩ ?hw ?hc
  (case h4 => rfl); (case h5 => first | assumption | decide +kernel); (case h6 => decide +kernel); (case hw => w_witness2)
  k_fill
  refine K26.walk (l := PySem.Challenge.rw_hushrow_k26_calls) rfl rfl (fun w h Y => PySem.W.kIn_of Y) ?F
  case F =>
    intro w mg fa h KX G hmg
    refine' K26.all_mk KX G hmg ?a1 ?l1 ?c1 ?k1 ?a2 ?l2 ?c2 ?k2 ?a3 ?l3 ?c3 ?k3 ?a4 ?l4 ?c4 ?k4 ?a5 ?l5 ?c5 ?k5 ?a6 ?l6 ?c6 ?k6 ?a8 ?l8 ?c8 ?k8 ?a9 ?l9 ?c9 ?k9 ?a10 ?l10 ?c10 ?k10 ?a11 ?l11 ?c11 ?k11 ?a12 ?l12 ?c12 ?k12 ?a13 ?l13 ?c13 ?k13 ?a14 ?l14 ?c14 ?k14 ?a15 ?l15 ?c15 ?k15 ?a16 ?l16 ?c16 ?k16 ?a17 ?l17 ?c17 ?k17 ?a18 ?l18 ?c18 ?k18 ?a19 ?l19 ?c19 ?k19 ?a20 ?l20 ?c20 ?k20 ?a21 ?l21 ?c21 ?k21 ?z_all ?z_bool ?z_dict ?z_int ?z_isinstance ?z_len ?z_list ?z_range ?z_str ?z_tuple ?z_zip ?g_MOST_NUMBER ?g_ROUND ?cg ?ct ?x_Book ?xl_Book ?xm_Book ?xpg_Book ?xhd_Book ?xpo_Book ?xsa_Book ?xty_Book ?xkc_Book ?xmk_Book ?xkp_Book ?x_Row ?xl_Row ?xm_Row ?xpg_Row ?xhd_Row ?xpo_Row ?xsa_Row ?xty_Row ?xkc_Row ?xmk_Row ?xkp_Row ?x_HandRow ?xl_HandRow ?xm_HandRow ?xpg_HandRow ?xhd_HandRow ?xpo_HandRow ?xsa_HandRow ?xty_HandRow ?xkc_HandRow ?xmk_HandRow ?xkp_HandRow ?x_GivenRow ?xl_GivenRow ?xm_GivenRow ?xpg_GivenRow ?xhd_GivenRow ?xpo_GivenRow ?xsa_GivenRow ?xty_GivenRow ?xkc_GivenRow ?xmk_GivenRow ?xkp_GivenRow ?x_OwnRow ?xl_OwnRow ?xm_OwnRow ?xpg_OwnRow ?xhd_OwnRow ?xpo_OwnRow ?xsa_OwnRow ?xty_OwnRow ?xkc_OwnRow ?xmk_OwnRow ?xkp_OwnRow ?x_SetRow ?xl_SetRow ?xm_SetRow ?xpg_SetRow ?xhd_SetRow ?xpo_SetRow ?xsa_SetRow ?xty_SetRow ?xkc_SetRow ?xmk_SetRow ?xkp_SetRow ?x_PutRow ?xl_PutRow ?xm_PutRow ?xpg_PutRow ?xhd_PutRow ?xpo_PutRow ?xsa_PutRow ?xty_PutRow ?xkc_PutRow ?xmk_PutRow ?xkp_PutRow ?x_SendRow ?xl_SendRow ?xm_SendRow ?xpg_SendRow ?xhd_SendRow ?xpo_SendRow ?xsa_SendRow ?xty_SendRow ?xkc_SendRow ?xmk_SendRow ?xkp_SendRow ?x_SayRow ?xl_SayRow ?xm_SayRow ?xpg_SayRow ?xhd_SayRow ?xpo_SayRow ?xsa_SayRow ?xty_SayRow ?xkc_SayRow ?xmk_SayRow ?xkp_SayRow ?x_CallRow ?xl_CallRow ?xm_CallRow ?xpg_CallRow ?xhd_CallRow ?xpo_CallRow ?xsa_CallRow ?xty_CallRow ?xkc_CallRow ?xmk_CallRow ?xkp_CallRow ?x_LastRow ?xl_LastRow ?xm_LastRow ?xpg_LastRow ?xhd_LastRow ?xpo_LastRow ?xsa_LastRow ?xty_LastRow ?xkc_LastRow ?xmk_LastRow ?xkp_LastRow ?x_IfRow ?xl_IfRow ?xm_IfRow ?xpg_IfRow ?xhd_IfRow ?xpo_IfRow ?xsa_IfRow ?xty_IfRow ?xkc_IfRow ?xmk_IfRow ?xkp_IfRow ?x_LoopRow ?xl_LoopRow ?xm_LoopRow ?xpg_LoopRow ?xhd_LoopRow ?xpo_LoopRow ?xsa_LoopRow ?xty_LoopRow ?xkc_LoopRow ?xmk_LoopRow ?xkp_LoopRow ?x_DeedRow ?xl_DeedRow ?xm_DeedRow ?xpg_DeedRow ?xhd_DeedRow ?xpo_DeedRow ?xsa_DeedRow ?xty_DeedRow ?xkc_DeedRow ?xmk_DeedRow ?xkp_DeedRow ?x_Program ?xl_Program ?xm_Program ?xpg_Program ?xhd_Program ?xpo_Program ?xsa_Program ?xty_Program ?xkc_Program ?xmk_Program ?xkp_Program ?x_Run ?xl_Run ?xm_Run ?xpg_Run ?xhd_Run ?xpo_Run ?xsa_Run ?xty_Run ?xkc_Run ?xmk_Run ?xkp_Run ?xi_Book_init ?xf_Book_init ?xo_Book_init ?xc_Book_init ?xq_Book_init ?xw_Book_letters ?xw_Book_said ?xw_Book_trace ?xw_Book_steps ?xw_Book_ends ?xi_Row_init ?xf_Row_init ?xo_Row_init ?xc_Row_init ?xq_Row_init ?xi_HandRow_init ?xf_HandRow_init ?xo_HandRow_init ?xc_HandRow_init ?xq_HandRow_init ?xw_HandRow_name ?xw_HandRow_rank ?xw_HandRow_number ?xi_GivenRow_init ?xf_GivenRow_init ?xo_GivenRow_init ?xc_GivenRow_init ?xq_GivenRow_init ?xw_GivenRow_name ?xw_GivenRow_rank ?xw_GivenRow_size ?xw_GivenRow_number ?xi_OwnRow_init ?xf_OwnRow_init ?xo_OwnRow_init ?xc_OwnRow_init ?xq_OwnRow_init ?xw_OwnRow_name ?xw_OwnRow_size ?xw_OwnRow_number ?xi_SetRow_init ?xf_SetRow_init ?xo_SetRow_init ?xc_SetRow_init ?xq_SetRow_init ?xw_SetRow_name ?xw_SetRow_value ?xw_SetRow_number ?xi_SendRow_init ?xf_SendRow_init ?xo_SendRow_init ?xc_SendRow_init ?xq_SendRow_init ?xw_SendRow_name ?xw_SendRow_value ?xw_SendRow_number ?xi_CallRow_init ?xf_CallRow_init ?xo_CallRow_init ?xc_CallRow_init ?xq_CallRow_init ?xw_CallRow_name ?xw_CallRow_things ?xw_CallRow_number ?xi_DeedRow_init ?xf_DeedRow_init ?xo_DeedRow_init ?xc_DeedRow_init ?xq_DeedRow_init ?xw_DeedRow_name ?xw_DeedRow_parts ?xw_DeedRow_body ?xw_DeedRow_number ?xi_Program_init ?xf_Program_init ?xo_Program_init ?xc_Program_init ?xq_Program_init ?xw_Program_heads ?xw_Program_deeds ?xw_Program_main ?xi_Run_init ?xf_Run_init ?xo_Run_init ?xc_Run_init ?xq_Run_init ?xi_Run_number_at ?xf_Run_number_at ?xo_Run_number_at ?xc_Run_number_at ?xq_Run_number_at ?xi_Run_number_for ?xf_Run_number_for ?xo_Run_number_for ?xc_Run_number_for ?xq_Run_number_for ?xi_Run_number_told ?xf_Run_number_told ?xo_Run_number_told ?xc_Run_number_told ?xq_Run_number_told ?xi_Run_pass_steps ?xf_Run_pass_steps ?xo_Run_pass_steps ?xc_Run_pass_steps ?xq_Run_pass_steps ?xi_Run_do_rows ?xf_Run_do_rows ?xo_Run_do_rows ?xc_Run_do_rows ?xq_Run_do_rows ?xi_Run_do_row ?xf_Run_do_row ?xo_Run_do_row ?xc_Run_do_row ?xq_Run_do_row ?xi_Run_do_call ?xf_Run_do_call ?xo_Run_do_call ?xc_Run_do_call ?xq_Run_do_call ?xw_Run_deeds ?xw_Run_cells ?xw_Run_book ?yg_Row_init ?yr_Row_init ?yf_Row_init ?nod
    (case a1 => k_is); (case l1 => k_is); (case c1 => k_is); (case k1 => k_is); (case a2 => k_is); (case l2 => k_is)
    (case c2 => k_is); (case k2 => k_is); (case a3 => k_is); (case l3 => k_is); (case c3 => k_is); (case k3 => k_is)
    (case a4 => k_is); (case l4 => k_is); (case c4 => k_is); (case k4 => k_is); (case a5 => k_is); (case l5 => k_is)
    (case c5 => k_is); (case k5 => k_is); (case a6 => k_is); (case l6 => k_is); (case c6 => k_is); (case k6 => k_is)
    (case a8 => k_is); (case l8 => k_is); (case c8 => k_is); (case k8 => k_is); (case a9 => k_is); (case l9 => k_is)
    (case c9 => k_is); (case k9 => k_is); (case a10 => k_is); (case l10 => k_is); (case c10 => k_is); (case k10 => k_is)
    (case a11 => k_is); (case l11 => k_is); (case c11 => k_is); (case k11 => k_is); (case a12 => k_is); (case l12 => k_is)
    (case c12 => k_is); (case k12 => k_is); (case a13 => k_is); (case l13 => k_is); (case c13 => k_is); (case k13 => k_is)
    (case a14 => k_is); (case l14 => k_is); (case c14 => k_is); (case k14 => k_is); (case a15 => k_is); (case l15 => k_is)
    (case c15 => k_is); (case k15 => k_is); (case a16 => k_is); (case l16 => k_is); (case c16 => k_is); (case k16 => k_is)
    (case a17 => k_is); (case l17 => k_is); (case c17 => k_is); (case k17 => k_is); (case a18 => k_is); (case l18 => k_is)
    (case c18 => k_is); (case k18 => k_is); (case a19 => k_is); (case l19 => k_is); (case c19 => k_is); (case k19 => k_is)
    (case a20 => k_is); (case l20 => k_is); (case c20 => k_is); (case k20 => k_is); (case a21 => k_is); (case l21 => k_is)
    (case c21 => k_is); (case k21 => k_is); (case z_all => k_is); (case z_bool => k_is); (case z_dict => k_is); (case z_int => k_is)
    (case z_isinstance => k_is); (case z_len => k_is); (case z_list => k_is); (case z_range => k_is); (case z_str => k_is); (case z_tuple => k_is)
    (case z_zip => k_is); (case g_MOST_NUMBER => k_is); (case g_ROUND => k_is); (case cg => k_is); (case ct => k_is); (case x_Book => k_is)
    (case xl_Book => k_is); (case xm_Book => rfl); (case xpg_Book => k_is); (case xhd_Book => k_is); (case xpo_Book => k_is); (case xsa_Book => k_is)
    (case xty_Book => k_is); (case xkc_Book => k_is); (case xmk_Book => k_is); (case xkp_Book => k_is); (case x_Row => k_is); (case xl_Row => k_is)
    (case xm_Row => rfl); (case xpg_Row => k_is); (case xhd_Row => k_is); (case xpo_Row => k_is); (case xsa_Row => k_is); (case xty_Row => k_is)
    (case xkc_Row => k_is); (case xmk_Row => k_is); (case xkp_Row => k_is); (case x_HandRow => k_is); (case xl_HandRow => k_is); (case xm_HandRow => rfl)
    (case xpg_HandRow => k_is); (case xhd_HandRow => k_is); (case xpo_HandRow => k_is); (case xsa_HandRow => k_is); (case xty_HandRow => k_is); (case xkc_HandRow => k_is)
    (case xmk_HandRow => k_is); (case xkp_HandRow => k_is); (case x_GivenRow => k_is); (case xl_GivenRow => k_is); (case xm_GivenRow => rfl); (case xpg_GivenRow => k_is)
    (case xhd_GivenRow => k_is); (case xpo_GivenRow => k_is); (case xsa_GivenRow => k_is); (case xty_GivenRow => k_is); (case xkc_GivenRow => k_is); (case xmk_GivenRow => k_is)
    (case xkp_GivenRow => k_is); (case x_OwnRow => k_is); (case xl_OwnRow => k_is); (case xm_OwnRow => rfl); (case xpg_OwnRow => k_is); (case xhd_OwnRow => k_is)
    (case xpo_OwnRow => k_is); (case xsa_OwnRow => k_is); (case xty_OwnRow => k_is); (case xkc_OwnRow => k_is); (case xmk_OwnRow => k_is); (case xkp_OwnRow => k_is)
    (case x_SetRow => k_is); (case xl_SetRow => k_is); (case xm_SetRow => rfl); (case xpg_SetRow => k_is); (case xhd_SetRow => k_is); (case xpo_SetRow => k_is)
    (case xsa_SetRow => k_is); (case xty_SetRow => k_is); (case xkc_SetRow => k_is); (case xmk_SetRow => k_is); (case xkp_SetRow => k_is); (case x_PutRow => k_is)
    (case xl_PutRow => k_is); (case xm_PutRow => rfl); (case xpg_PutRow => k_is); (case xhd_PutRow => k_is); (case xpo_PutRow => k_is); (case xsa_PutRow => k_is)
    (case xty_PutRow => k_is); (case xkc_PutRow => k_is); (case xmk_PutRow => k_is); (case xkp_PutRow => k_is); (case x_SendRow => k_is); (case xl_SendRow => k_is)
    (case xm_SendRow => rfl); (case xpg_SendRow => k_is); (case xhd_SendRow => k_is); (case xpo_SendRow => k_is); (case xsa_SendRow => k_is); (case xty_SendRow => k_is)
    (case xkc_SendRow => k_is); (case xmk_SendRow => k_is); (case xkp_SendRow => k_is); (case x_SayRow => k_is); (case xl_SayRow => k_is); (case xm_SayRow => rfl)
    (case xpg_SayRow => k_is); (case xhd_SayRow => k_is); (case xpo_SayRow => k_is); (case xsa_SayRow => k_is); (case xty_SayRow => k_is); (case xkc_SayRow => k_is)
    (case xmk_SayRow => k_is); (case xkp_SayRow => k_is); (case x_CallRow => k_is); (case xl_CallRow => k_is); (case xm_CallRow => rfl); (case xpg_CallRow => k_is)
    (case xhd_CallRow => k_is); (case xpo_CallRow => k_is); (case xsa_CallRow => k_is); (case xty_CallRow => k_is); (case xkc_CallRow => k_is); (case xmk_CallRow => k_is)
    (case xkp_CallRow => k_is); (case x_LastRow => k_is); (case xl_LastRow => k_is); (case xm_LastRow => rfl); (case xpg_LastRow => k_is); (case xhd_LastRow => k_is)
    (case xpo_LastRow => k_is); (case xsa_LastRow => k_is); (case xty_LastRow => k_is); (case xkc_LastRow => k_is); (case xmk_LastRow => k_is); (case xkp_LastRow => k_is)
    (case x_IfRow => k_is); (case xl_IfRow => k_is); (case xm_IfRow => rfl); (case xpg_IfRow => k_is); (case xhd_IfRow => k_is); (case xpo_IfRow => k_is)
    (case xsa_IfRow => k_is); (case xty_IfRow => k_is); (case xkc_IfRow => k_is); (case xmk_IfRow => k_is); (case xkp_IfRow => k_is); (case x_LoopRow => k_is)
    (case xl_LoopRow => k_is); (case xm_LoopRow => rfl); (case xpg_LoopRow => k_is); (case xhd_LoopRow => k_is); (case xpo_LoopRow => k_is); (case xsa_LoopRow => k_is)
    (case xty_LoopRow => k_is); (case xkc_LoopRow => k_is); (case xmk_LoopRow => k_is); (case xkp_LoopRow => k_is); (case x_DeedRow => k_is); (case xl_DeedRow => k_is)
    (case xm_DeedRow => rfl); (case xpg_DeedRow => k_is); (case xhd_DeedRow => k_is); (case xpo_DeedRow => k_is); (case xsa_DeedRow => k_is); (case xty_DeedRow => k_is)
    (case xkc_DeedRow => k_is); (case xmk_DeedRow => k_is); (case xkp_DeedRow => k_is); (case x_Program => k_is); (case xl_Program => k_is); (case xm_Program => rfl)
    (case xpg_Program => k_is); (case xhd_Program => k_is); (case xpo_Program => k_is); (case xsa_Program => k_is); (case xty_Program => k_is); (case xkc_Program => k_is)
    (case xmk_Program => k_is); (case xkp_Program => k_is); (case x_Run => k_is); (case xl_Run => k_is); (case xm_Run => rfl); (case xpg_Run => k_is)
    (case xhd_Run => k_is); (case xpo_Run => k_is); (case xsa_Run => k_is); (case xty_Run => k_is); (case xkc_Run => k_is); (case xmk_Run => k_is)
    (case xkp_Run => k_is); (case xi_Book_init => k_is); (case xf_Book_init => k_is); (case xo_Book_init => k_is); (case xc_Book_init => k_is); (case xq_Book_init => k_is)
    (case xw_Book_letters => k_is); (case xw_Book_said => k_is); (case xw_Book_trace => k_is); (case xw_Book_steps => k_is); (case xw_Book_ends => k_is); (case xi_Row_init => k_is)
    (case xf_Row_init => k_is); (case xo_Row_init => k_is); (case xc_Row_init => k_is); (case xq_Row_init => k_is); (case xi_HandRow_init => k_is); (case xf_HandRow_init => k_is)
    (case xo_HandRow_init => k_is); (case xc_HandRow_init => k_is); (case xq_HandRow_init => k_is); (case xw_HandRow_name => k_is); (case xw_HandRow_rank => k_is); (case xw_HandRow_number => k_is)
    (case xi_GivenRow_init => k_is); (case xf_GivenRow_init => k_is); (case xo_GivenRow_init => k_is); (case xc_GivenRow_init => k_is); (case xq_GivenRow_init => k_is); (case xw_GivenRow_name => k_is)
    (case xw_GivenRow_rank => k_is); (case xw_GivenRow_size => k_is); (case xw_GivenRow_number => k_is); (case xi_OwnRow_init => k_is); (case xf_OwnRow_init => k_is); (case xo_OwnRow_init => k_is)
    (case xc_OwnRow_init => k_is); (case xq_OwnRow_init => k_is); (case xw_OwnRow_name => k_is); (case xw_OwnRow_size => k_is); (case xw_OwnRow_number => k_is); (case xi_SetRow_init => k_is)
    (case xf_SetRow_init => k_is); (case xo_SetRow_init => k_is); (case xc_SetRow_init => k_is); (case xq_SetRow_init => k_is); (case xw_SetRow_name => k_is); (case xw_SetRow_value => k_is)
    (case xw_SetRow_number => k_is); (case xi_SendRow_init => k_is); (case xf_SendRow_init => k_is); (case xo_SendRow_init => k_is); (case xc_SendRow_init => k_is); (case xq_SendRow_init => k_is)
    (case xw_SendRow_name => k_is); (case xw_SendRow_value => k_is); (case xw_SendRow_number => k_is); (case xi_CallRow_init => k_is); (case xf_CallRow_init => k_is); (case xo_CallRow_init => k_is)
    (case xc_CallRow_init => k_is); (case xq_CallRow_init => k_is); (case xw_CallRow_name => k_is); (case xw_CallRow_things => k_is); (case xw_CallRow_number => k_is); (case xi_DeedRow_init => k_is)
    (case xf_DeedRow_init => k_is); (case xo_DeedRow_init => k_is); (case xc_DeedRow_init => k_is); (case xq_DeedRow_init => k_is); (case xw_DeedRow_name => k_is); (case xw_DeedRow_parts => k_is)
    (case xw_DeedRow_body => k_is); (case xw_DeedRow_number => k_is); (case xi_Program_init => k_is); (case xf_Program_init => k_is); (case xo_Program_init => k_is); (case xc_Program_init => k_is)
    (case xq_Program_init => k_is); (case xw_Program_heads => k_is); (case xw_Program_deeds => k_is); (case xw_Program_main => k_is); (case xi_Run_init => k_is); (case xf_Run_init => k_is)
    (case xo_Run_init => k_is); (case xc_Run_init => k_is); (case xq_Run_init => k_is); (case xi_Run_number_at => k_is); (case xf_Run_number_at => k_is); (case xo_Run_number_at => k_is)
    (case xc_Run_number_at => k_is); (case xq_Run_number_at => k_is); (case xi_Run_number_for => k_is); (case xf_Run_number_for => k_is); (case xo_Run_number_for => k_is); (case xc_Run_number_for => k_is)
    (case xq_Run_number_for => k_is); (case xi_Run_number_told => k_is); (case xf_Run_number_told => k_is); (case xo_Run_number_told => k_is); (case xc_Run_number_told => k_is); (case xq_Run_number_told => k_is)
    (case xi_Run_pass_steps => k_is); (case xf_Run_pass_steps => k_is); (case xo_Run_pass_steps => k_is); (case xc_Run_pass_steps => k_is); (case xq_Run_pass_steps => k_is); (case xi_Run_do_rows => k_is)
    (case xf_Run_do_rows => k_is); (case xo_Run_do_rows => k_is); (case xc_Run_do_rows => k_is); (case xq_Run_do_rows => k_is); (case xi_Run_do_row => k_is); (case xf_Run_do_row => k_is)
    (case xo_Run_do_row => k_is); (case xc_Run_do_row => k_is); (case xq_Run_do_row => k_is); (case xi_Run_do_call => k_is); (case xf_Run_do_call => k_is); (case xo_Run_do_call => k_is)
    (case xc_Run_do_call => k_is); (case xq_Run_do_call => k_is); (case xw_Run_deeds => k_is); (case xw_Run_cells => k_is); (case xw_Run_book => k_is); (case yg_Row_init => k_is)
    (case yr_Row_init => k_is); (case yf_Row_init => k_is); (case nod => decide)

